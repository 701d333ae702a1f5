import PyProof.Rows.All
import Wide.All
import OpenK.AllK
import Wide.FinOn
import Lean
import PyProof.EqAt
import PyProof.EqKinds
import PyProof.TupleCall
import PyProof.NeKinds
import PyProof.SumWalkG
import PyProof.EnumMake
import KE.KIntText
import PyProof.StrLawsIn
import PyProof.StrCalls2
import PyProof.Rows.SortRuns
import KE.KSortTup
import KE.KSortKey
import PyProof.StrCalls
import PyProof.ListRange
import KE.IntTextLaws
import KE.IntTextText
import PyProof.SetKind
import PyProof.Rows.SetFrom
import PyProof.Walks
import KE.KItemsList
import KE.KDictOf
import PyProof.AttrMissHeap
import PyProof.AutoListH
import PyProof.Rows.FStr
import PyProof.Rows.ZipGen
import PyProof.Rows.EnumRows
import PyProof.EnumFor
import PyProof.WalksMore
import PyProof.TupleIter
import KE.KRevIter
import PyProof.CollectIter
import PyProof.JoinWalk
import PyProof.Rows.FactsT2
import PyProof.SeqI3
import PyProof.DictWalks
import PyProof.CollectWalk
import PyProof.Rows.SortWalk
import KE.KDictSum
import PySem.Challenge.RW_coinroll_k09_makings_refused
set_option Elab.async false
set_option linter.all false
set_option genSizeOf false
set_option compiler.extract_closed false
set_option maxRecDepth 100000
namespace L2
open PySem PySem.W PySem.Calls PyProof.Rows
noncomputable def runT (tb:String→Option Builtin) (p:Program) (w:World) (n₀:Nat) (ann:Option Value):Nat→SharedT→Thread→Option SharedT
  | 0,_,_=>none
  | n+1,s,t=>match through t with
    | true=>some s
    | false=>match stepOk n₀ ann t with
      | false=>none
      | true=>match stepT (denote tb) p w s t with
        | some (s',t')=>runT tb p w n₀ ann n s' t'
        | none=>none
theorem run_of {tb:String→Option Builtin} {p:Program} {w:World} {n₀:Nat} {ann:Option Value} (n:Nat):∀ {s s':SharedT} {t:Thread},runT tb p w n₀ ann n s t=some s'→topRun tb p w n₀ ann n s.abs t=some s'.abs:=by
  induction n with
  | zero=>intro s s' t h;cases h
  | succ n ih =>
    intro s s' t h
    unfold runT at h
    unfold topRun
    cases ht:through t with
    | true=>rw[ht] at h;cases h;rfl
    | false =>
      rw[ht] at h
      cases hk:stepOk n₀ ann t with
      | false=>rw[hk] at h;cases h
      | true =>
        rw[hk] at h
        cases hs:stepT (denote tb) p w s t with
        | none=>rw[hs] at h;cases h
        | some r =>
          obtain⟨s₂,t₂⟩:=r
          rw[hs] at h
          rw[stepT_spec hs]
          exact ih h
noncomputable def grow:List Obj→BT→Nat→Option BT
  | [],t,_=>some t
  | o::l,t,n=>match ((t.ins n o).get n).isSome with
    | true=>grow l (t.ins n o) (n+1)
    | false=>none
theorem grow_of {life:Life} (l:List Obj):∀ {t t':BT} {n:Nat},grow l t n=some t'→(absHeap t' (n+l.length) life).objs.toList=(absHeap t n life).objs.toList++l:=by
  induction l with
  | nil=>intro t t' n h;cases h;rw[List.append_nil];rfl
  | cons o l ih =>
    intro t t' n h
    unfold grow at h
    cases e:((t.ins n o).get n).isSome with
    | false=>rw[e] at h;cases h
    | true =>
      rw[e] at h
      have:=ih h
      rw[List.length_cons,show n+(l.length+1)=n+1+l.length by omega,this,absHeap_ins e]
      show ((absHeap t n life).objs.push o).toList++l=_
      rw[Array.toList_push,List.append_assoc]
      rfl
noncomputable def onceT {β:Type} (p:Program) (m:Nat) (ann:Option Value) (M:Nat) (see:Shared→β) (w:World) (os:OsState):Option β :=
  (grow (boot_heap w.params).objs.toList .nil 0).bind fun t=>(runT treeTable p w m ann M ⟨t,m,(boot_heap w.params).life,Array.mk [],boot_drawn,boot_toks,os⟩ (topStub p)).map fun s=>see s.abs
theorem left_once {p q:Program} {loose:List Str} {Xt:Shared→Bool} {α:Type} {Yf:Shared→α} {Ya:World→α} {N M m:Nat} {g0:Bool} {ann:Option Value}
    (e:opening p=plainProg p.main.scope.names) (hN:Nat.ble 600 N=true) (f:∀ s,fenceModules? p s=some s) (le:Nat.ble M N=true)
    (size:∀ w:World,((boot_heap w.params).isNs mainGlobals,(boot_heap w.params).objs.toList.length,(boot_heap w.params).nsMap mainGlobals "__annotations__")=(true,m,ann))
    (h:∀ (w:World) (os:OsState),onceT p m ann M (fun s=>((staticsOk (importedModules p.main.body) (boot_heap w.params) s.heap&&namesBound p s.heap&&gensDone s&&laidKept (boot_heap w.params) s.heap),openSeen q loose (importedModules p.main.body) Xt g0 s,Yf s)) w os=some (true,openGood q loose,Ya w)) :
    LeftO p q loose Xt Yf Ya N g0:=fun w=>by
  obtain⟨⟨hp,gs,d,k,os⟩,e1,e2⟩:=Option.map_eq_some_iff.mp (boot_open e hN f w)
  obtain⟨rfl,rfl,rfl,rfl⟩:hp=boot_heap w.params∧gs=Array.mk []∧d=boot_drawn∧k=boot_toks:=by
    have a:=congrArg Prod.fst e2
    have b:=congrArg (fun x=>x.2.1) e2
    have c:=congrArg (fun x=>x.2.2.1) e2
    have d:=congrArg (fun x=>x.2.2.2) e2
    exact⟨a,b,c,d⟩
  have sz:=size w
  have z1:(boot_heap w.params).isNs mainGlobals=true:=congrArg Prod.fst sz
  have z2:(boot_heap w.params).objs.toList.length=m:=congrArg (fun x=>x.2.1) sz
  have z3:(boot_heap w.params).nsMap mainGlobals "__annotations__" = ann:=congrArg (fun x=>x.2.2) sz
  have h:=h w os
  unfold onceT at h
  obtain⟨t,ht,h⟩:=Option.bind_eq_some_iff.mp h
  obtain⟨s,hs,h⟩:=Option.map_eq_some_iff.mp h
  have ab:SharedT.abs ⟨t,m,(boot_heap w.params).life,Array.mk [],boot_drawn,boot_toks,os⟩=⟨boot_heap w.params,Array.mk [],boot_drawn,boot_toks,os⟩:=by
    have g:=grow_of (life:=(boot_heap w.params).life) _ ht
    rw[Nat.zero_add,z2] at g
    have g':(absHeap t m (boot_heap w.params).life).objs.toList=(boot_heap w.params).objs.toList:=g
    have g2:absHeap t m (boot_heap w.params).life=boot_heap w.params:=by
      show Heap.mk (absHeap t m (boot_heap w.params).life).objs (boot_heap w.params).life=Heap.mk (boot_heap w.params).objs (boot_heap w.params).life
      exact congrArg (Heap.mk · _) (Array.toList_inj.mp g')
    show Shared.mk (absHeap t m (boot_heap w.params).life) _ _ _ _=_
    rw[g2]
  have r:=run_of M hs
  rw[ab] at r
  have r:=topRun_mono (N - M) _ _ _ _ r
  rw[show M+(N - M)=N by have:=Nat.le_of_ble_eq_true le;omega] at r
  have l1:=congrArg Prod.fst h
  have l2:=congrArg Prod.snd h
  dsimp only at l1 l2
  have t:topFrom treeTable p w N ⟨boot_heap w.params,Array.mk [],boot_drawn,boot_toks,os⟩=some s.abs:=by
    unfold topFrom
    have c:((boot_heap w.params).isNs mainGlobals&&(Array.mk ([]:List GenState)).size==0)=true:=by rw[z1];rfl
    show (match (boot_heap w.params).isNs mainGlobals&&(Array.mk ([]:List GenState)).size==0 with | true=>_ | false=>none)=_
    rw[c]
    show (topRun treeTable p w (boot_heap w.params).objs.size ((boot_heap w.params).nsMap mainGlobals "__annotations__") N _ _).bind _=_
    rw[show (boot_heap w.params).objs.size=m from z2,z3,r]
    show (match _ with | true=>_ | false=>none)=_
    rw[l1]
  unfold openEnds
  rw[e1]
  show (topFrom treeTable p w N _).map _=_
  rw[t]
  exact congrArg some l2
end L2
namespace L2
open PySem PySem.Spec PyProof.Rows
noncomputable def inClass (s:Stmt) (j:Nat):Stmt:=match s with
  | .ClassDef _ _ _ body _ _ _ _ _ _ _=>body.getD j (.Pass ⟨0,0,0,0⟩)
  | _=>.Pass ⟨0,0,0,0⟩
noncomputable def defArgs (s:Stmt):Arguments:=match s with
  | .FunctionDef _ a _ _ _ _ _ _ _ _=>a
  | _=>{ posonlyargs:=[],args:=[],vararg:=none,kwonlyargs:=[],kw_defaults:=[],kwarg:=none,defaults:=[] }
noncomputable def defBody (s:Stmt):List Stmt:=match s with
  | .FunctionDef _ _ b _ _ _ _ _ _ _=>b
  | _=>[]
noncomputable def defScope (s:Stmt):Scope:=match s with
  | .FunctionDef _ _ _ _ _ _ sc _ _ _=>sc
  | _=>{ kind:=.function,names:=[],isGenerator:=false,isCoroutine:=false }
end L2
namespace L2
open PySem PySem.W PySem.Calls PyProof.Rows
noncomputable def fragAt (as:List Addr) (h:Heap):Frag:=as.filterMap fun a=>(h.get? a).map fun o=>(a,o)
structure FnSeen where
  name:Str
  qual:Str
  params:Arguments
  body:FuncBody
  scope:Scope
  globals:Addr
  closure:List (Str × Addr)
  defaults:Value
  builtins:Addr
  ok:Bool
noncomputable def fnSeen (K:Frag) (v:Option (Option Value)):Option FnSeen:=match v with
  | some (some (.ref f))=>match K.lookup f with
    | some ⟨_,_,.func fd,_⟩=>some ⟨fd.name,fd.qualname,fd.params,fd.body,fd.scope,fd.globals,fd.closure,fd.defaults,fd.builtins,codeIn K fd.code fd.qualname&&keepIn K (.ref f)&&isFn K (.ref f)⟩
    | _=>none
  | _=>none
noncomputable def fnWant (x qual:Str) (st:Stmt):Option FnSeen:=some ⟨x,qual,defArgs st,.stmts (defBody st),defScope st,mainGlobals,[],.none,builtinsNs,true⟩
noncomputable abbrev veMro:List Value:=[.type "ValueError",.type "Exception",.type "BaseException",.type "object"]
noncomputable def isNo (v:Option (Option Value)):Bool:=match v with
  | some none=>true
  | _=>false
noncomputable def isInt (z:Int) (v:Option (Option Value)):Bool:=match v with
  | some (some (.int y _))=>decide (y=z)
  | _=>false
noncomputable def isStr (z:Str) (v:Option (Option Value)):Bool:=match v with
  | some (some (.str y _))=>decide (y=z)
  | _=>false
noncomputable def isRef (z:Addr) (v:Option (Option Value)):Bool:=match v with
  | some (some (.ref y))=>Nat.beq y z
  | _=>false
noncomputable def isBlt (z:String) (v:Option (Option Value)):Bool:=match v with
  | some (some (.builtin y))=>decide (y=z)
  | _=>false
noncomputable def isB (b:Bool) (v:Option Bool):Bool:=match v with
  | some c=>c==b
  | none=>false
noncomputable def excSeen (K:Frag) (D:Addr):Bool:=(clsIn K D).isSome&&isBlt "BaseException.__getattribute__" (findIn K (.ref D) "__getattribute__")&&isNo (findIn K (.ref D) "__getattr__")&&isBlt "object.__class__" (findIn K (.ref D) "__class__")&&isBlt "getset_descriptor.__get__" (specialIn K (.builtin "object.__class__") "__get__")&&isB true (takesIn K (.builtin "object.__class__"))&&isB true (mroIn K D (.type "object"))&&isB true (mroIn K D (.type "BaseException"))
noncomputable def isStrsC:List Value→List Str→Bool
  | [],[]=>true
  | v::r,z::q=>isStr z (some (some v))&&isStrsC r q
  | _,_=>false
noncomputable def tupSeen (K:Frag) (x:Str) (zs:List Str):Bool:=match nsIn K mainGlobals x with
  | some (some (.ref a))=>match K.lookup a with
    | some ⟨.type n,_,.seq its _,_⟩=>decide (n = "tuple")&&Nat.ble its.size 1000&&isStrsC its.toList zs
    | _=>false
  | _=>false
noncomputable def clsFnSeen (K:PySem.W.Frag) (C:Addr) (m:Str):Bool :=
  (match PySem.W.specialIn K (.ref C) "__getattribute__" with | some (some (.builtin b))=>b == "type.__getattribute__" | _=>false)&&PySem.W.readsIn K C (.type "type") &&
  (match PySem.W.findIn K (.ref C) m,PySem.W.findCls K (.ref C) (.type "type") m with | some (some (.ref f)),some (.val (.ref g))=>Nat.beq f g | _,_=>false)
end L2
set_option maxHeartbeats 4000000
namespace K09
open PySem
noncomputable def top (i:Nat):Stmt:=PySem.Challenge.pw_coinroll_k09_makings_refused.main.body.getD i (.Pass ⟨0,0,0,0⟩)
end K09
set_option maxHeartbeats 0
namespace K09
open PySem PySem.W PySem.Calls PyProof.Rows L2
noncomputable def hQ:Program:=PySem.W.view PySem.Challenge.pw_coinroll_k09_makings_refused [0,2,3,4,5,6,7,8,9,10,11,12,13,14,15,16,17,19,20,21,22,23,24,26,27,28,29,30,32,33,34,35,36,37,38,39,40,41,42,44,45,47,48,49,50,52,53,54,55,56,57,58,59,60,61,62,63,64,65,66,67,68,69,70]
noncomputable def hAs:List Addr:=[2,3,15,17,18,20,21,22,29,30,31,32,35,42,43,44,47,54,55,56,59,66,67,68,71,78,79,80,83,90,91,92,95,102,103,104,107,114,115,116,119,126,127,128,131,138,139,140,143,150,151,152,155,162,163,164,167,174,175,176,179,186,187,188,191,198,199,200,203,210,211,212,215,216,218,219,221,222,223,225,226,228,229,230,232,233,235,236,237,239,240,242,243,244,247,248,249,251,252,254,255,256,259,260,261,262,264,265,267,268,269,271,272,274,275,276,278,279,281,282,283,285,286,288,289,297,299,300,302,303,304,306,307,309,310,311,313,314,316,317,318,320,321,323,324,325,327,328,330,331,332,334,335,337,338,339,340,341,342,343,346,353,355,356,358,359,360,362,363,365,366,367,369,370,372,373,374,376,377,379,380,381,382,383,386,393,395,396,398,399,400,402,403,405,406,407,409,410,412,413,414,416,417,419,420,421,422,423,426,433,435,436,438,439,440,442,443,445,446,447,449,450,452,453,454,456,457,459,460,461,462,463,466,473,475,476,478,479,480,482,483,485,486,487,489,490,492,493,494,496,497,499,500,501,502,503,506,513,515,516,518,519,520,522,523,525,526,527,529,530,532,533,534,536,537,539,540,541,543,544,546,547,548,549,550,553,555,556,558,559,560,563,564,565,572,575,576,577,579,580,582,583,584,587,588,589,591,592,594,595,596,597,598,601,603,604,606,607,608,610,611,613,614,615,617,618,620,621,622,625,626,627,629,630,632,633,634,636,637,639,640,641,643,644,646,647,648,650,651,653,654,662,664,665,667,668,669,671,672,674,675,676,678,679,681,682,683,685,686,688,689,690,692,693,695,696,697,700,701,702,704,705,707,708,709,711,712,714,715,716,718,719,721,722,723,725,726,728,729]
noncomputable def hFs:List (Str × Nat):=[(("is_number":Str),21),(("is_number_within":Str),22),(("is_parts":Str),23),(("is_way":Str),24),(("is_word_of":Str),28),(("is_name":Str),29),(("rise":Str),30),(("is_rule_name":Str),34),(("is_rule_amount":Str),35),(("need_rule_amount":Str),36),(("need_share":Str),37),(("is_band":Str),48),(("are_bands":Str),49),(("_law_cell_at":Str),52),(("_law_mixed":Str),53),(("_law_amount":Str),54),(("_law_names":Str),55),(("_law_parts":Str),56),(("_law_way":Str),57),(("_law_pairs":Str),58),(("_law_plain":Str),59),(("_law_made":Str),61),(("_law_word":Str),62),(("_law_odd_name":Str),63),(("_law_odd_number":Str),64),(("_law_odd_way":Str),65),(("_law_odd_bands":Str),66),(("_law_spoilt":Str),67),(("_law_told":Str),68),(("_law_is_refused":Str),69),(("law":Str),70)]
noncomputable def hMs:List (Addr × Str × Str × Nat × Nat):=[(341,("__init__":Str),("Rule.__init__":Str),38,0),(383,("__init__":Str),("Flat.__init__":Str),39,0),(383,("twin":Str),("Flat.twin":Str),39,3),(383,("depth":Str),("Rule.depth":Str),38,4),(423,("__init__":Str),("Share.__init__":Str),40,0),(423,("twin":Str),("Share.twin":Str),40,3),(423,("depth":Str),("Rule.depth":Str),38,4),(463,("__init__":Str),("Capped.__init__":Str),41,0),(463,("twin":Str),("Capped.twin":Str),41,3),(463,("depth":Str),("Rule.depth":Str),38,4),(503,("__init__":Str),("Least.__init__":Str),42,0),(503,("twin":Str),("Least.twin":Str),42,3),(503,("depth":Str),("Rule.depth":Str),38,4),(598,("__init__":Str),("Bands.__init__":Str),50,0),(598,("twin":Str),("Bands.twin":Str),50,3),(598,("depth":Str),("Rule.depth":Str),38,4),(550,("__init__":Str),("OnTop.__init__":Str),45,0),(550,("twin":Str),("OnTop.twin":Str),45,3),(550,("depth":Str),("OnTop.depth":Str),45,4)]
noncomputable def hYes (K:Frag):List Bool:=[isRef 44 (nsIn K mainGlobals "BadAmount"),isRef 56 (nsIn K mainGlobals "BadShare"),isRef 68 (nsIn K mainGlobals "BadText"),isRef 80 (nsIn K mainGlobals "BadMonth"),isRef 92 (nsIn K mainGlobals "BadYear"),isRef 104 (nsIn K mainGlobals "BadRule"),isRef 116 (nsIn K mainGlobals "BadBook"),isRef 128 (nsIn K mainGlobals "NoYear"),isRef 140 (nsIn K mainGlobals "BadDay"),isRef 152 (nsIn K mainGlobals "BadEntry"),isRef 164 (nsIn K mainGlobals "NoMark"),isRef 176 (nsIn K mainGlobals "NoPerson"),isRef 188 (nsIn K mainGlobals "TooMany"),isRef 200 (nsIn K mainGlobals "BadClose"),isRef 212 (nsIn K mainGlobals "BadLine"),isRef 31 (nsIn K mainGlobals "RollError"),isInt 8 (nsIn K mainGlobals "MOST_SIGNS"),isInt 20000 (nsIn K mainGlobals "MOST_PARTS"),isInt 1000000000000 (nsIn K mainGlobals "MOST_AMOUNT"),isInt 12 (nsIn K mainGlobals "MOST_BANDS"),isInt 3 (nsIn K mainGlobals "MOST_DEPTH"),isStr "abcdefghijklmnopqrstuvwxyz" (nsIn K mainGlobals "LETTERS"),tupSeen K "WAYS" ["down","up","near","even"],tupSeen K "NO_RULE_NAMES" ["base","net","month","sums"],isNo (nsIn K mainGlobals "isinstance"),isNo (nsIn K mainGlobals "int"),isNo (nsIn K mainGlobals "bool"),isNo (nsIn K mainGlobals "str"),isNo (nsIn K mainGlobals "len"),isNo (nsIn K mainGlobals "range"),isNo (nsIn K mainGlobals "ValueError"),isNo (nsIn K mainGlobals "list"),isNo (nsIn K mainGlobals "tuple"),isNo (nsIn K mainGlobals "dict"),isNo (nsIn K mainGlobals "set"),isNo (nsIn K mainGlobals "all"),isNo (nsIn K mainGlobals "any"),isNo (nsIn K mainGlobals "sum"),isNo (nsIn K mainGlobals "sorted"),isNo (nsIn K mainGlobals "abs"),isNo (nsIn K mainGlobals "max"),isNo (nsIn K mainGlobals "min"),isNo (nsIn K mainGlobals "zip"),isNo (nsIn K mainGlobals "enumerate"),isNo (nsIn K mainGlobals "reversed"),excIn K 104 veMro "ValueError.__new__",isB true (exmOne K (.ref 104) (.ref 31)),excSeen K 104,isB true (kitOne K (.ref 104) (.type "ValueError")),isB false (kitOne K (.ref 104) (.ref 44)),isB false (kitOne K (.ref 104) (.ref 56)),isB false (kitOne K (.ref 104) (.ref 68)),isB false (kitOne K (.ref 104) (.ref 80)),isB false (kitOne K (.ref 104) (.ref 92)),isB true (kitOne K (.ref 104) (.ref 104)),isB false (kitOne K (.ref 104) (.ref 116)),isB false (kitOne K (.ref 104) (.ref 128)),isB false (kitOne K (.ref 104) (.ref 140)),isB false (kitOne K (.ref 104) (.ref 152)),isB false (kitOne K (.ref 104) (.ref 164)),isB false (kitOne K (.ref 104) (.ref 176)),isB false (kitOne K (.ref 104) (.ref 188)),isB false (kitOne K (.ref 104) (.ref 200)),isB false (kitOne K (.ref 104) (.ref 212)),isRef 341 (nsIn K mainGlobals "Rule"),plainGet K 341 Str.empty,hasDictIn K 341,plainOver K 341,isBlt "object.__setattr__" (findIn K (.ref 341) "__setattr__"),clsFnSeen K 341 "__init__",isRef 383 (nsIn K mainGlobals "Flat"),plainGet K 383 Str.empty,hasDictIn K 383,plainOver K 383,isBlt "object.__setattr__" (findIn K (.ref 383) "__setattr__"),isNo (findIn K (.ref 383) "name"),isNo (findIn K (.ref 383) "amount"),isNo (findIn K (.ref 383) "parts"),isNo (findIn K (.ref 383) "way"),isNo (findIn K (.ref 383) "most"),isNo (findIn K (.ref 383) "least"),makesIn K 383&&keepIn K (.ref 383),isRef 423 (nsIn K mainGlobals "Share"),plainGet K 423 Str.empty,hasDictIn K 423,plainOver K 423,isBlt "object.__setattr__" (findIn K (.ref 423) "__setattr__"),isNo (findIn K (.ref 423) "name"),isNo (findIn K (.ref 423) "amount"),isNo (findIn K (.ref 423) "parts"),isNo (findIn K (.ref 423) "way"),isNo (findIn K (.ref 423) "most"),isNo (findIn K (.ref 423) "least"),makesIn K 423&&keepIn K (.ref 423),isRef 463 (nsIn K mainGlobals "Capped"),plainGet K 463 Str.empty,hasDictIn K 463,plainOver K 463,isBlt "object.__setattr__" (findIn K (.ref 463) "__setattr__"),isNo (findIn K (.ref 463) "name"),isNo (findIn K (.ref 463) "amount"),isNo (findIn K (.ref 463) "parts"),isNo (findIn K (.ref 463) "way"),isNo (findIn K (.ref 463) "most"),isNo (findIn K (.ref 463) "least"),makesIn K 463&&keepIn K (.ref 463),isRef 503 (nsIn K mainGlobals "Least"),plainGet K 503 Str.empty,hasDictIn K 503,plainOver K 503,isBlt "object.__setattr__" (findIn K (.ref 503) "__setattr__"),isNo (findIn K (.ref 503) "name"),isNo (findIn K (.ref 503) "amount"),isNo (findIn K (.ref 503) "parts"),isNo (findIn K (.ref 503) "way"),isNo (findIn K (.ref 503) "most"),isNo (findIn K (.ref 503) "least"),makesIn K 503&&keepIn K (.ref 503),isRef 598 (nsIn K mainGlobals "Bands"),plainGet K 598 Str.empty,hasDictIn K 598,plainOver K 598,isBlt "object.__setattr__" (findIn K (.ref 598) "__setattr__"),isNo (findIn K (.ref 598) "name"),isNo (findIn K (.ref 598) "bands"),isNo (findIn K (.ref 598) "way"),isNo (findIn K (.ref 598) "parts"),isNo (findIn K (.ref 598) "within"),makesIn K 598&&keepIn K (.ref 598),isRef 550 (nsIn K mainGlobals "OnTop"),plainGet K 550 Str.empty,hasDictIn K 550,plainOver K 550,isBlt "object.__setattr__" (findIn K (.ref 550) "__setattr__"),isNo (findIn K (.ref 550) "name"),isNo (findIn K (.ref 550) "bands"),isNo (findIn K (.ref 550) "way"),isNo (findIn K (.ref 550) "parts"),isNo (findIn K (.ref 550) "within"),makesIn K 550&&keepIn K (.ref 550),isBlt "getset_descriptor.__get__" (specialIn K (.builtin "object.__class__") "__get__"),isB true (takesIn K (.builtin "object.__class__")),(!(Nat.beq 423 550)),isBlt "object.__class__" (findIn K (.ref 383) "__class__"),isB true (mroIn K 383 (.type "object")),isB true (kitOne K (.ref 383) (.ref 341)),isBlt "object.__class__" (findIn K (.ref 423) "__class__"),isB true (mroIn K 423 (.type "object")),isB true (kitOne K (.ref 423) (.ref 341)),isBlt "object.__class__" (findIn K (.ref 463) "__class__"),isB true (mroIn K 463 (.type "object")),isB true (kitOne K (.ref 463) (.ref 341)),isBlt "object.__class__" (findIn K (.ref 503) "__class__"),isB true (mroIn K 503 (.type "object")),isB true (kitOne K (.ref 503) (.ref 341)),isBlt "object.__class__" (findIn K (.ref 598) "__class__"),isB true (mroIn K 598 (.type "object")),isB true (kitOne K (.ref 598) (.ref 341)),isBlt "object.__class__" (findIn K (.ref 550) "__class__"),isB true (mroIn K 550 (.type "object")),isB true (kitOne K (.ref 550) (.ref 341)),isB false (kitOne K (.type "str") (.ref 341)),isB false (kitOne K (.type "NoneType") (.ref 341)),isB false (kitOne K (.type "int") (.ref 341)),isB false (kitOne K (.type "list") (.ref 341)),isB false (kitOne K (.type "tuple") (.ref 341)),isB false (kitOne K (.type "bool") (.ref 341))]
noncomputable def hSee (K:Frag):=(hFs.map (fun x=>fnSeen K (nsIn K mainGlobals x.1)),hMs.map (fun x=>fnSeen K (findIn K (.ref x.1) x.2.1)),(hYes K).all id)
noncomputable def hWant:=(hFs.map (fun x=>fnWant x.1 x.1 (top x.2)),hMs.map (fun x=>fnWant x.2.1 x.2.2.1 (inClass (top x.2.2.2.1) x.2.2.2.2)),true)
noncomputable def hXt (s:Shared):Bool:=xlAt hQ [] s&&recOk [] s
noncomputable def hLook (w:World) (s:Shared):=((staticsOk (importedModules PySem.Challenge.pw_coinroll_k09_makings_refused.main.body) (boot_heap w.params) s.heap&&namesBound PySem.Challenge.pw_coinroll_k09_makings_refused s.heap&&gensDone s&&laidKept (boot_heap w.params) s.heap),openSeen hQ [] (importedModules PySem.Challenge.pw_coinroll_k09_makings_refused.main.body) hXt true s,hSee (fragAt hAs s.heap))
noncomputable def hY0 (K:Frag):List Bool:=[isRef 44 (nsIn K mainGlobals "BadAmount"),isRef 56 (nsIn K mainGlobals "BadShare"),isRef 68 (nsIn K mainGlobals "BadText"),isRef 80 (nsIn K mainGlobals "BadMonth"),isRef 92 (nsIn K mainGlobals "BadYear"),isRef 104 (nsIn K mainGlobals "BadRule"),isRef 116 (nsIn K mainGlobals "BadBook"),isRef 128 (nsIn K mainGlobals "NoYear"),isRef 140 (nsIn K mainGlobals "BadDay"),isRef 152 (nsIn K mainGlobals "BadEntry"),isRef 164 (nsIn K mainGlobals "NoMark"),isRef 176 (nsIn K mainGlobals "NoPerson"),isRef 188 (nsIn K mainGlobals "TooMany"),isRef 200 (nsIn K mainGlobals "BadClose"),isRef 212 (nsIn K mainGlobals "BadLine"),isRef 31 (nsIn K mainGlobals "RollError"),isInt 8 (nsIn K mainGlobals "MOST_SIGNS"),isInt 20000 (nsIn K mainGlobals "MOST_PARTS"),isInt 1000000000000 (nsIn K mainGlobals "MOST_AMOUNT"),isInt 12 (nsIn K mainGlobals "MOST_BANDS"),isInt 3 (nsIn K mainGlobals "MOST_DEPTH"),isStr "abcdefghijklmnopqrstuvwxyz" (nsIn K mainGlobals "LETTERS"),tupSeen K "WAYS" ["down","up","near","even"],tupSeen K "NO_RULE_NAMES" ["base","net","month","sums"],isNo (nsIn K mainGlobals "isinstance"),isNo (nsIn K mainGlobals "int"),isNo (nsIn K mainGlobals "bool"),isNo (nsIn K mainGlobals "str"),isNo (nsIn K mainGlobals "len"),isNo (nsIn K mainGlobals "range"),isNo (nsIn K mainGlobals "ValueError"),isNo (nsIn K mainGlobals "list"),isNo (nsIn K mainGlobals "tuple"),isNo (nsIn K mainGlobals "dict"),isNo (nsIn K mainGlobals "set"),isNo (nsIn K mainGlobals "all"),isNo (nsIn K mainGlobals "any"),isNo (nsIn K mainGlobals "sum"),isNo (nsIn K mainGlobals "sorted"),isNo (nsIn K mainGlobals "abs"),isNo (nsIn K mainGlobals "max"),isNo (nsIn K mainGlobals "min"),isNo (nsIn K mainGlobals "zip"),isNo (nsIn K mainGlobals "enumerate"),isNo (nsIn K mainGlobals "reversed"),excIn K 104 veMro "ValueError.__new__",isB true (exmOne K (.ref 104) (.ref 31)),excSeen K 104,isB true (kitOne K (.ref 104) (.type "ValueError")),isB false (kitOne K (.ref 104) (.ref 44)),isB false (kitOne K (.ref 104) (.ref 56)),isB false (kitOne K (.ref 104) (.ref 68)),isB false (kitOne K (.ref 104) (.ref 80)),isB false (kitOne K (.ref 104) (.ref 92)),isB true (kitOne K (.ref 104) (.ref 104)),isB false (kitOne K (.ref 104) (.ref 116)),isB false (kitOne K (.ref 104) (.ref 128)),isB false (kitOne K (.ref 104) (.ref 140)),isB false (kitOne K (.ref 104) (.ref 152)),isB false (kitOne K (.ref 104) (.ref 164)),isB false (kitOne K (.ref 104) (.ref 176)),isB false (kitOne K (.ref 104) (.ref 188)),isB false (kitOne K (.ref 104) (.ref 200)),isB false (kitOne K (.ref 104) (.ref 212)),isRef 341 (nsIn K mainGlobals "Rule"),plainGet K 341 Str.empty,hasDictIn K 341,plainOver K 341,isBlt "object.__setattr__" (findIn K (.ref 341) "__setattr__"),clsFnSeen K 341 "__init__",isRef 383 (nsIn K mainGlobals "Flat"),plainGet K 383 Str.empty,hasDictIn K 383,plainOver K 383,isBlt "object.__setattr__" (findIn K (.ref 383) "__setattr__"),isNo (findIn K (.ref 383) "name"),isNo (findIn K (.ref 383) "amount"),isNo (findIn K (.ref 383) "parts"),isNo (findIn K (.ref 383) "way"),isNo (findIn K (.ref 383) "most")]
noncomputable def hY1 (K:Frag):List Bool:=[isNo (findIn K (.ref 383) "least"),makesIn K 383&&keepIn K (.ref 383),isRef 423 (nsIn K mainGlobals "Share"),plainGet K 423 Str.empty,hasDictIn K 423,plainOver K 423,isBlt "object.__setattr__" (findIn K (.ref 423) "__setattr__"),isNo (findIn K (.ref 423) "name"),isNo (findIn K (.ref 423) "amount"),isNo (findIn K (.ref 423) "parts"),isNo (findIn K (.ref 423) "way"),isNo (findIn K (.ref 423) "most"),isNo (findIn K (.ref 423) "least"),makesIn K 423&&keepIn K (.ref 423),isRef 463 (nsIn K mainGlobals "Capped"),plainGet K 463 Str.empty,hasDictIn K 463,plainOver K 463,isBlt "object.__setattr__" (findIn K (.ref 463) "__setattr__"),isNo (findIn K (.ref 463) "name"),isNo (findIn K (.ref 463) "amount"),isNo (findIn K (.ref 463) "parts"),isNo (findIn K (.ref 463) "way"),isNo (findIn K (.ref 463) "most"),isNo (findIn K (.ref 463) "least"),makesIn K 463&&keepIn K (.ref 463),isRef 503 (nsIn K mainGlobals "Least"),plainGet K 503 Str.empty,hasDictIn K 503,plainOver K 503,isBlt "object.__setattr__" (findIn K (.ref 503) "__setattr__"),isNo (findIn K (.ref 503) "name"),isNo (findIn K (.ref 503) "amount"),isNo (findIn K (.ref 503) "parts"),isNo (findIn K (.ref 503) "way"),isNo (findIn K (.ref 503) "most"),isNo (findIn K (.ref 503) "least"),makesIn K 503&&keepIn K (.ref 503),isRef 598 (nsIn K mainGlobals "Bands"),plainGet K 598 Str.empty,hasDictIn K 598,plainOver K 598,isBlt "object.__setattr__" (findIn K (.ref 598) "__setattr__"),isNo (findIn K (.ref 598) "name"),isNo (findIn K (.ref 598) "bands"),isNo (findIn K (.ref 598) "way"),isNo (findIn K (.ref 598) "parts"),isNo (findIn K (.ref 598) "within"),makesIn K 598&&keepIn K (.ref 598),isRef 550 (nsIn K mainGlobals "OnTop"),plainGet K 550 Str.empty,hasDictIn K 550,plainOver K 550,isBlt "object.__setattr__" (findIn K (.ref 550) "__setattr__"),isNo (findIn K (.ref 550) "name"),isNo (findIn K (.ref 550) "bands"),isNo (findIn K (.ref 550) "way"),isNo (findIn K (.ref 550) "parts"),isNo (findIn K (.ref 550) "within"),makesIn K 550&&keepIn K (.ref 550),isBlt "getset_descriptor.__get__" (specialIn K (.builtin "object.__class__") "__get__"),isB true (takesIn K (.builtin "object.__class__")),(!(Nat.beq 423 550)),isBlt "object.__class__" (findIn K (.ref 383) "__class__"),isB true (mroIn K 383 (.type "object")),isB true (kitOne K (.ref 383) (.ref 341)),isBlt "object.__class__" (findIn K (.ref 423) "__class__"),isB true (mroIn K 423 (.type "object")),isB true (kitOne K (.ref 423) (.ref 341)),isBlt "object.__class__" (findIn K (.ref 463) "__class__"),isB true (mroIn K 463 (.type "object")),isB true (kitOne K (.ref 463) (.ref 341)),isBlt "object.__class__" (findIn K (.ref 503) "__class__"),isB true (mroIn K 503 (.type "object")),isB true (kitOne K (.ref 503) (.ref 341)),isBlt "object.__class__" (findIn K (.ref 598) "__class__"),isB true (mroIn K 598 (.type "object")),isB true (kitOne K (.ref 598) (.ref 341)),isBlt "object.__class__" (findIn K (.ref 550) "__class__"),isB true (mroIn K 550 (.type "object"))]
noncomputable def hY2 (K:Frag):List Bool:=[isB true (kitOne K (.ref 550) (.ref 341)),isB false (kitOne K (.type "str") (.ref 341)),isB false (kitOne K (.type "NoneType") (.ref 341)),isB false (kitOne K (.type "int") (.ref 341)),isB false (kitOne K (.type "list") (.ref 341)),isB false (kitOne K (.type "tuple") (.ref 341)),isB false (kitOne K (.type "bool") (.ref 341))]
noncomputable def hX (w:World) (os:OsState):Option SharedT:=(grow (boot_heap w.params).objs.toList .nil 0).bind fun t=>(runT treeTable PySem.Challenge.pw_coinroll_k09_makings_refused w 11 (some (.ref 6)) 6987 ⟨t,11,(boot_heap w.params).life,Array.mk [],boot_drawn,boot_toks,os⟩ (topStub PySem.Challenge.pw_coinroll_k09_makings_refused))
noncomputable def hRun0 (w:World) (os:OsState):=(hX w os).map fun s=>staticsOk (importedModules PySem.Challenge.pw_coinroll_k09_makings_refused.main.body) (boot_heap w.params) s.abs.heap
noncomputable def hEnd0 (_:World) (_:OsState):=some (true)
theorem hRun0_self:hRun0=hRun0:=rfl
noncomputable def hRun1 (w:World) (os:OsState):=(hX w os).map fun s=>namesBound PySem.Challenge.pw_coinroll_k09_makings_refused s.abs.heap&&gensDone s.abs&&laidKept (boot_heap w.params) s.abs.heap
noncomputable def hEnd1 (_:World) (_:OsState):=some (true)
theorem hRun1_self:hRun1=hRun1:=rfl
noncomputable def hRun2 (w:World) (os:OsState):=(hX w os).map fun s=>seen ((recsOf hQ).map (·.name)) (ownsOf hQ) [] { s.abs with gens:=#[] }
noncomputable def hEnd2 (_:World) (_:OsState):=some (expectedOf hQ)
theorem hRun2_self:hRun2=hRun2:=rfl
theorem hEnd2_self:hEnd2=hEnd2:=rfl
noncomputable def hRun3 (w:World) (os:OsState):=(hX w os).map fun s=>s.abs.heap.bltView
noncomputable def hEnd3 (_:World) (_:OsState):=some (bltViewBooted)
theorem hRun3_self:hRun3=hRun3:=rfl
noncomputable def hRun4 (w:World) (os:OsState):=(hX w os).map fun s=>s.abs.heap.keysOk (looseW hQ []) ((recsOf hQ).map (·.name)) ((litsOf hQ).map (·.1)) ((clssOf hQ (looseW hQ [])).map (·.name))
noncomputable def hEnd4 (_:World) (_:OsState):=some (true)
theorem hRun4_self:hRun4=hRun4:=rfl
noncomputable def hRun5 (w:World) (os:OsState):=(hX w os).map fun s=>s.abs.heap.accountedOkI (importedModules PySem.Challenge.pw_coinroll_k09_makings_refused.main.body)
noncomputable def hEnd5 (_:World) (_:OsState):=some (true)
theorem hRun5_self:hRun5=hRun5:=rfl
noncomputable def hRun6 (w:World) (os:OsState):=(hX w os).map fun s=>s.abs.heap.isNs mainGlobals&&s.abs.heap.isNs builtinsNs&&tablesOk hQ s.abs.heap&&hXt s.abs&&(if true=true then s.abs.gens.size==0 else !leftWithCleanup s.abs.gens)
noncomputable def hEnd6 (_:World) (_:OsState):=some (true)
theorem hRun6_self:hRun6=hRun6:=rfl
noncomputable def hRun7 (w:World) (os:OsState):=(hX w os).map fun s=>(tabsOk hQ s.abs,pinSeenD hQ (drecsOf hQ) s.abs,plainSeenD hQ [] s.abs,clsSeenW hQ [] s.abs)
noncomputable def hEnd7 (_:World) (_:OsState):=some ((true,pinGoodD (drecsOf hQ),plainGoodD hQ [],clsGoodW hQ []))
theorem hRun7_self:hRun7=hRun7:=rfl
theorem hEnd7_self:hEnd7=hEnd7:=rfl
noncomputable def hRun8 (w:World) (os:OsState):=(hX w os).map fun s=>((plainsOf hQ (looseW hQ [])).take 10).map fun c=>s.abs.heap.plainShapeAt c.withCmp
noncomputable def hEnd8 (_:World) (_:OsState):=some (((plainsOf hQ (looseW hQ [])).take 10).map fun c=>some c.withCmp.plainShape)
theorem hRun8_self:hRun8=hRun8:=rfl
theorem hEnd8_self:hEnd8=hEnd8:=rfl
noncomputable def hRun9 (w:World) (os:OsState):=(hX w os).map fun s=>((plainsOf hQ (looseW hQ [])).drop 10).map fun c=>s.abs.heap.plainShapeAt c.withCmp
noncomputable def hEnd9 (_:World) (_:OsState):=some (((plainsOf hQ (looseW hQ [])).drop 10).map fun c=>some c.withCmp.plainShape)
theorem hRun9_self:hRun9=hRun9:=rfl
theorem hEnd9_self:hEnd9=hEnd9:=rfl
noncomputable def hRun10 (w:World) (os:OsState):=(hX w os).map fun s=>(wdefsOf hQ).map fun d=>shapeAtK s.abs.heap d.1.name
noncomputable def hEnd10 (_:World) (_:OsState):=some ((wdefsOf hQ).map fun d=>some d.1.shape)
theorem hRun10_self:hRun10=hRun10:=rfl
theorem hEnd10_self:hEnd10=hEnd10:=rfl
noncomputable def hRun11 (w:World) (os:OsState):=(hX w os).map fun s=>((wdefsOf hQ).all fun d=>s.abs.heap.restOk (hQ.nameAt false d.1.name) d.1.name&&dfltAt s.abs.heap d)&&(wlitsOf hQ).all (constAt s.abs.heap)
noncomputable def hEnd11 (_:World) (_:OsState):=some (true)
theorem hRun11_self:hRun11=hRun11:=rfl
noncomputable def hRun12 (w:World) (os:OsState):=(hX w os).map fun s=>((hFs.drop 0).take 14).map (fun x=>fnSeen (fragAt hAs s.abs.heap) (nsIn (fragAt hAs s.abs.heap) mainGlobals x.1))
noncomputable def hEnd12 (_:World) (_:OsState):=some (((hFs.drop 0).take 14).map (fun x=>fnWant x.1 x.1 (top x.2)))
theorem hRun12_self:hRun12=hRun12:=rfl
theorem hEnd12_self:hEnd12=hEnd12:=rfl
noncomputable def hRun13 (w:World) (os:OsState):=(hX w os).map fun s=>((hFs.drop 14).take 14).map (fun x=>fnSeen (fragAt hAs s.abs.heap) (nsIn (fragAt hAs s.abs.heap) mainGlobals x.1))
noncomputable def hEnd13 (_:World) (_:OsState):=some (((hFs.drop 14).take 14).map (fun x=>fnWant x.1 x.1 (top x.2)))
theorem hRun13_self:hRun13=hRun13:=rfl
theorem hEnd13_self:hEnd13=hEnd13:=rfl
noncomputable def hRun14 (w:World) (os:OsState):=(hX w os).map fun s=>((hFs.drop 28).take 14).map (fun x=>fnSeen (fragAt hAs s.abs.heap) (nsIn (fragAt hAs s.abs.heap) mainGlobals x.1))
noncomputable def hEnd14 (_:World) (_:OsState):=some (((hFs.drop 28).take 14).map (fun x=>fnWant x.1 x.1 (top x.2)))
theorem hRun14_self:hRun14=hRun14:=rfl
theorem hEnd14_self:hEnd14=hEnd14:=rfl
noncomputable def hRun15 (w:World) (os:OsState):=(hX w os).map fun s=>((hFs.drop 42).take 14).map (fun x=>fnSeen (fragAt hAs s.abs.heap) (nsIn (fragAt hAs s.abs.heap) mainGlobals x.1))
noncomputable def hEnd15 (_:World) (_:OsState):=some (((hFs.drop 42).take 14).map (fun x=>fnWant x.1 x.1 (top x.2)))
theorem hRun15_self:hRun15=hRun15:=rfl
theorem hEnd15_self:hEnd15=hEnd15:=rfl
noncomputable def hRun16 (w:World) (os:OsState):=(hX w os).map fun s=>(hFs.drop 56).map (fun x=>fnSeen (fragAt hAs s.abs.heap) (nsIn (fragAt hAs s.abs.heap) mainGlobals x.1))
noncomputable def hEnd16 (_:World) (_:OsState):=some ((hFs.drop 56).map (fun x=>fnWant x.1 x.1 (top x.2)))
theorem hRun16_self:hRun16=hRun16:=rfl
theorem hEnd16_self:hEnd16=hEnd16:=rfl
noncomputable def hRun17 (w:World) (os:OsState):=(hX w os).map fun s=>hMs.map (fun x=>fnSeen (fragAt hAs s.abs.heap) (findIn (fragAt hAs s.abs.heap) (.ref x.1) x.2.1))
noncomputable def hEnd17 (_:World) (_:OsState):=some (hMs.map (fun x=>fnWant x.2.1 x.2.2.1 (inClass (top x.2.2.2.1) x.2.2.2.2)))
theorem hRun17_self:hRun17=hRun17:=rfl
theorem hEnd17_self:hEnd17=hEnd17:=rfl
noncomputable def hRun18 (w:World) (os:OsState):=(hX w os).map fun s=>(hY0 (fragAt hAs s.abs.heap)).all id
noncomputable def hEnd18 (_:World) (_:OsState):=some (true)
theorem hRun18_self:hRun18=hRun18:=rfl
noncomputable def hRun19 (w:World) (os:OsState):=(hX w os).map fun s=>(hY1 (fragAt hAs s.abs.heap)).all id
noncomputable def hEnd19 (_:World) (_:OsState):=some (true)
theorem hRun19_self:hRun19=hRun19:=rfl
noncomputable def hRun20 (w:World) (os:OsState):=(hX w os).map fun s=>(hY2 (fragAt hAs s.abs.heap)).all id
noncomputable def hEnd20 (_:World) (_:OsState):=some (true)
theorem hRun20_self:hRun20=hRun20:=rfl
end K09
lay_quick L2.runT K09.top
name_quick hRunQ0 for K09.hRun0 by K09.hRun0_self
name_quick hRunQ1 for K09.hRun1 by K09.hRun1_self
name_quick hRunQ2 for K09.hRun2 by K09.hRun2_self
name_quick hEndQ2 for K09.hEnd2 by K09.hEnd2_self
name_quick hRunQ3 for K09.hRun3 by K09.hRun3_self
name_quick hRunQ4 for K09.hRun4 by K09.hRun4_self
name_quick hRunQ5 for K09.hRun5 by K09.hRun5_self
name_quick hRunQ6 for K09.hRun6 by K09.hRun6_self
name_quick hRunQ7 for K09.hRun7 by K09.hRun7_self
name_quick hEndQ7 for K09.hEnd7 by K09.hEnd7_self
name_quick hRunQ8 for K09.hRun8 by K09.hRun8_self
name_quick hEndQ8 for K09.hEnd8 by K09.hEnd8_self
name_quick hRunQ9 for K09.hRun9 by K09.hRun9_self
name_quick hEndQ9 for K09.hEnd9 by K09.hEnd9_self
name_quick hRunQ10 for K09.hRun10 by K09.hRun10_self
name_quick hEndQ10 for K09.hEnd10 by K09.hEnd10_self
name_quick hRunQ11 for K09.hRun11 by K09.hRun11_self
name_quick hRunQ12 for K09.hRun12 by K09.hRun12_self
name_quick hEndQ12 for K09.hEnd12 by K09.hEnd12_self
name_quick hRunQ13 for K09.hRun13 by K09.hRun13_self
name_quick hEndQ13 for K09.hEnd13 by K09.hEnd13_self
name_quick hRunQ14 for K09.hRun14 by K09.hRun14_self
name_quick hEndQ14 for K09.hEnd14 by K09.hEnd14_self
name_quick hRunQ15 for K09.hRun15 by K09.hRun15_self
name_quick hEndQ15 for K09.hEnd15 by K09.hEnd15_self
name_quick hRunQ16 for K09.hRun16 by K09.hRun16_self
name_quick hEndQ16 for K09.hEnd16 by K09.hEnd16_self
name_quick hRunQ17 for K09.hRun17 by K09.hRun17_self
name_quick hEndQ17 for K09.hEnd17 by K09.hEnd17_self
name_quick hRunQ18 for K09.hRun18 by K09.hRun18_self
name_quick hRunQ19 for K09.hRun19 by K09.hRun19_self
name_quick hRunQ20 for K09.hRun20 by K09.hRun20_self
namespace K09
open PySem PySem.W PySem.Calls PyProof.Rows L2
theorem hOnce0:Fast.hRunQ0=hEnd0:=by kernel_rfl
theorem hOnce1:Fast.hRunQ1=hEnd1:=by kernel_rfl
theorem hOnce2:Fast.hRunQ2=Fast.hEndQ2:=by kernel_rfl
theorem hOnce3:Fast.hRunQ3=hEnd3:=by kernel_rfl
theorem hOnce4:Fast.hRunQ4=hEnd4:=by kernel_rfl
theorem hOnce5:Fast.hRunQ5=hEnd5:=by kernel_rfl
theorem hOnce6:Fast.hRunQ6=hEnd6:=by kernel_rfl
theorem hOnce7:Fast.hRunQ7=Fast.hEndQ7:=by kernel_rfl
theorem hOnce8:Fast.hRunQ8=Fast.hEndQ8:=by kernel_rfl
theorem hOnce9:Fast.hRunQ9=Fast.hEndQ9:=by kernel_rfl
theorem hOnce10:Fast.hRunQ10=Fast.hEndQ10:=by kernel_rfl
theorem hOnce11:Fast.hRunQ11=hEnd11:=by kernel_rfl
theorem hOnce12:Fast.hRunQ12=Fast.hEndQ12:=by kernel_rfl
theorem hOnce13:Fast.hRunQ13=Fast.hEndQ13:=by kernel_rfl
theorem hOnce14:Fast.hRunQ14=Fast.hEndQ14:=by kernel_rfl
theorem hOnce15:Fast.hRunQ15=Fast.hEndQ15:=by kernel_rfl
theorem hOnce16:Fast.hRunQ16=Fast.hEndQ16:=by kernel_rfl
theorem hOnce17:Fast.hRunQ17=Fast.hEndQ17:=by kernel_rfl
theorem hOnce18:Fast.hRunQ18=hEnd18:=by kernel_rfl
theorem hOnce19:Fast.hRunQ19=hEnd19:=by kernel_rfl
theorem hOnce20:Fast.hRunQ20=hEnd20:=by kernel_rfl
theorem hLeft:LeftO PySem.Challenge.pw_coinroll_k09_makings_refused hQ [] hXt (fun s=>hSee (fragAt hAs s.heap)) (fun _=>hWant) 6987:=by
  refine left_once (M:=6987) (m:=11) (ann:=some (.ref 6)) (by kernel_rfl) (by kernel_rfl) (fun s=>by kernel_rfl) (by kernel_rfl) (fun w=>by kernel_rfl) fun w os=>?_
  obtain⟨s,es,e0⟩:=Option.map_eq_some_iff.mp (show (hX w os).map _=some _ from congrFun (congrFun (Fast.hRunQ0_eq.trans hOnce0) w) os)
  obtain⟨s1,es1,e1⟩:=Option.map_eq_some_iff.mp (show (hX w os).map _=some _ from congrFun (congrFun (Fast.hRunQ1_eq.trans hOnce1) w) os)
  obtain rfl:s=s1:=Option.some.inj (es.symm.trans es1)
  obtain⟨s2,es2,e2⟩:=Option.map_eq_some_iff.mp (show (hX w os).map _=some _ from congrFun (congrFun (Fast.hRunQ2_eq.trans (hOnce2.trans Fast.hEndQ2_eq.symm)) w) os)
  obtain rfl:s=s2:=Option.some.inj (es.symm.trans es2)
  obtain⟨s3,es3,e3⟩:=Option.map_eq_some_iff.mp (show (hX w os).map _=some _ from congrFun (congrFun (Fast.hRunQ3_eq.trans hOnce3) w) os)
  obtain rfl:s=s3:=Option.some.inj (es.symm.trans es3)
  obtain⟨s4,es4,e4⟩:=Option.map_eq_some_iff.mp (show (hX w os).map _=some _ from congrFun (congrFun (Fast.hRunQ4_eq.trans hOnce4) w) os)
  obtain rfl:s=s4:=Option.some.inj (es.symm.trans es4)
  obtain⟨s5,es5,e5⟩:=Option.map_eq_some_iff.mp (show (hX w os).map _=some _ from congrFun (congrFun (Fast.hRunQ5_eq.trans hOnce5) w) os)
  obtain rfl:s=s5:=Option.some.inj (es.symm.trans es5)
  obtain⟨s6,es6,e6⟩:=Option.map_eq_some_iff.mp (show (hX w os).map _=some _ from congrFun (congrFun (Fast.hRunQ6_eq.trans hOnce6) w) os)
  obtain rfl:s=s6:=Option.some.inj (es.symm.trans es6)
  obtain⟨s7,es7,e7⟩:=Option.map_eq_some_iff.mp (show (hX w os).map _=some _ from congrFun (congrFun (Fast.hRunQ7_eq.trans (hOnce7.trans Fast.hEndQ7_eq.symm)) w) os)
  obtain rfl:s=s7:=Option.some.inj (es.symm.trans es7)
  obtain⟨s8,es8,e8⟩:=Option.map_eq_some_iff.mp (show (hX w os).map _=some _ from congrFun (congrFun (Fast.hRunQ8_eq.trans (hOnce8.trans Fast.hEndQ8_eq.symm)) w) os)
  obtain rfl:s=s8:=Option.some.inj (es.symm.trans es8)
  obtain⟨s9,es9,e9⟩:=Option.map_eq_some_iff.mp (show (hX w os).map _=some _ from congrFun (congrFun (Fast.hRunQ9_eq.trans (hOnce9.trans Fast.hEndQ9_eq.symm)) w) os)
  obtain rfl:s=s9:=Option.some.inj (es.symm.trans es9)
  obtain⟨s10,es10,e10⟩:=Option.map_eq_some_iff.mp (show (hX w os).map _=some _ from congrFun (congrFun (Fast.hRunQ10_eq.trans (hOnce10.trans Fast.hEndQ10_eq.symm)) w) os)
  obtain rfl:s=s10:=Option.some.inj (es.symm.trans es10)
  obtain⟨s11,es11,e11⟩:=Option.map_eq_some_iff.mp (show (hX w os).map _=some _ from congrFun (congrFun (Fast.hRunQ11_eq.trans hOnce11) w) os)
  obtain rfl:s=s11:=Option.some.inj (es.symm.trans es11)
  obtain⟨s12,es12,e12⟩:=Option.map_eq_some_iff.mp (show (hX w os).map _=some _ from congrFun (congrFun (Fast.hRunQ12_eq.trans (hOnce12.trans Fast.hEndQ12_eq.symm)) w) os)
  obtain rfl:s=s12:=Option.some.inj (es.symm.trans es12)
  obtain⟨s13,es13,e13⟩:=Option.map_eq_some_iff.mp (show (hX w os).map _=some _ from congrFun (congrFun (Fast.hRunQ13_eq.trans (hOnce13.trans Fast.hEndQ13_eq.symm)) w) os)
  obtain rfl:s=s13:=Option.some.inj (es.symm.trans es13)
  obtain⟨s14,es14,e14⟩:=Option.map_eq_some_iff.mp (show (hX w os).map _=some _ from congrFun (congrFun (Fast.hRunQ14_eq.trans (hOnce14.trans Fast.hEndQ14_eq.symm)) w) os)
  obtain rfl:s=s14:=Option.some.inj (es.symm.trans es14)
  obtain⟨s15,es15,e15⟩:=Option.map_eq_some_iff.mp (show (hX w os).map _=some _ from congrFun (congrFun (Fast.hRunQ15_eq.trans (hOnce15.trans Fast.hEndQ15_eq.symm)) w) os)
  obtain rfl:s=s15:=Option.some.inj (es.symm.trans es15)
  obtain⟨s16,es16,e16⟩:=Option.map_eq_some_iff.mp (show (hX w os).map _=some _ from congrFun (congrFun (Fast.hRunQ16_eq.trans (hOnce16.trans Fast.hEndQ16_eq.symm)) w) os)
  obtain rfl:s=s16:=Option.some.inj (es.symm.trans es16)
  obtain⟨s17,es17,e17⟩:=Option.map_eq_some_iff.mp (show (hX w os).map _=some _ from congrFun (congrFun (Fast.hRunQ17_eq.trans (hOnce17.trans Fast.hEndQ17_eq.symm)) w) os)
  obtain rfl:s=s17:=Option.some.inj (es.symm.trans es17)
  obtain⟨s18,es18,e18⟩:=Option.map_eq_some_iff.mp (show (hX w os).map _=some _ from congrFun (congrFun (Fast.hRunQ18_eq.trans hOnce18) w) os)
  obtain rfl:s=s18:=Option.some.inj (es.symm.trans es18)
  obtain⟨s19,es19,e19⟩:=Option.map_eq_some_iff.mp (show (hX w os).map _=some _ from congrFun (congrFun (Fast.hRunQ19_eq.trans hOnce19) w) os)
  obtain rfl:s=s19:=Option.some.inj (es.symm.trans es19)
  obtain⟨s20,es20,e20⟩:=Option.map_eq_some_iff.mp (show (hX w os).map _=some _ from congrFun (congrFun (Fast.hRunQ20_eq.trans hOnce20) w) os)
  obtain rfl:s=s20:=Option.some.inj (es.symm.trans es20)
  have ey:(hYes (fragAt hAs s.abs.heap)).all id=true:=by
    show (hY0 (fragAt hAs s.abs.heap)++hY1 (fragAt hAs s.abs.heap)++hY2 (fragAt hAs s.abs.heap)).all id=true
    try simp only[List.all_append,Bool.and_eq_true]
    exact⟨⟨e18,e19⟩,e20⟩
  have el:hLook w s.abs=(true,openGood hQ [],hWant):=by
    have a1:(staticsOk (importedModules PySem.Challenge.pw_coinroll_k09_makings_refused.main.body) (boot_heap w.params) s.abs.heap&&namesBound PySem.Challenge.pw_coinroll_k09_makings_refused s.abs.heap&&gensDone s.abs&&laidKept (boot_heap w.params) s.abs.heap)=true:=by
      have e1:=e1
      simp only[Bool.and_eq_true] at e1 ⊢
      exact⟨⟨⟨e0,e1.1.1⟩,e1.1.2⟩,e1.2⟩
    have ab:(s.abs.heap.keysOk (looseW hQ []) ((recsOf hQ).map (·.name)) ((litsOf hQ).map (·.1)) ((clssOf hQ (looseW hQ [])).map (·.name))&&s.abs.heap.accountedOkI (importedModules PySem.Challenge.pw_coinroll_k09_makings_refused.main.body)&&s.abs.heap.isNs mainGlobals&&s.abs.heap.isNs builtinsNs&&tablesOk hQ s.abs.heap&&hXt s.abs&&(if true=true then s.abs.gens.size==0 else !leftWithCleanup s.abs.gens))=true:=by
      have e6:=e6
      simp only[Bool.and_eq_true] at e6 ⊢
      obtain⟨⟨⟨⟨g1,g2⟩,g3⟩,g4⟩,g5⟩:=e6
      exact⟨⟨⟨⟨⟨⟨e4,e5⟩,g1⟩,g2⟩,g3⟩,g4⟩,g5⟩
    have e8:=congr (congrArg HAppend.hAppend e8) e9
    rw[← List.map_append,← List.map_append,List.take_append_drop] at e8
    have a2:openSeen hQ [] (importedModules PySem.Challenge.pw_coinroll_k09_makings_refused.main.body) hXt true s.abs=openGood hQ []:=congr (congrArg Prod.mk e2) (congr (congrArg Prod.mk e3) (congr (congrArg Prod.mk ab) (congr (congrArg Prod.mk (congrArg Prod.fst e7)) (congr (congrArg Prod.mk (congrArg (fun z=>z.2.1) e7)) (congr (congrArg Prod.mk e8) (congr (congrArg Prod.mk (congrArg (fun z=>z.2.2.1) e7)) (congr (congrArg Prod.mk (congr (congrArg Prod.mk e10) e11)) (congrArg (fun z=>z.2.2.2) e7))))))))
    have ef:=congr (congrArg HAppend.hAppend e12) (congr (congrArg HAppend.hAppend e13) (congr (congrArg HAppend.hAppend e14) (congr (congrArg HAppend.hAppend e15) e16)))
    simp only[← List.map_append] at ef
    rw[show (hFs.drop 0).take 14++((hFs.drop 14).take 14++((hFs.drop 28).take 14++((hFs.drop 42).take 14++hFs.drop 56)))=hFs by kernel_rfl] at ef
    exact congr (congrArg Prod.mk a1) (congr (congrArg Prod.mk a2) (congr (congrArg Prod.mk ef) (congr (congrArg Prod.mk e17) ey)))
  unfold onceT
  obtain⟨t,ht,hs⟩:=Option.bind_eq_some_iff.mp es
  rw[ht]
  show (runT _ _ w _ _ _ _ _).map _=_
  rw[hs]
  exact congrArg some el
end K09
namespace L2
open PySem PySem.Spec PyProof.Rows
noncomputable def isStar:Expr→Bool
  | .Starred _ _=>true
  | _=>false
theorem starEach_cons {e:Expr} {es:List Expr} {env:Env} (h:isStar e=false):starEach (e::es) env=(false,eval e env)::starEach es env:=by
  cases e <;> first | rfl | cases h
theorem noStars {env:Env} {pos:Pos}:∀ {es:List Expr},es.all (fun e=>!isStar e)=true→(backTo pos (starEach es env)).any (·.1)=false
  | [],_=>rfl
  | e::es,h=>by
    rw[List.all_cons,Bool.and_eq_true,Bool.not_eq_true'] at h
    rw[starEach_cons h.1]
    show (false || (backTo pos (starEach es env)).any (·.1))=false
    rw[Bool.false_or]
    exact noStars h.2
noncomputable abbrev Key:=Sum Int Str
noncomputable def keyIs:Key→Value→Bool
  | .inl k,v=>Value.isInt k v
  | .inr x,v=>Value.isStrOf x v
noncomputable def keyH (w:World):Key→Int
  | .inl k=>hashInt k
  | .inr x=>hashStr w x
theorem keyIs_shape:∀ {k:Key} {v:Value},keyIs k v=true→(∃ i t,k=Sum.inl i∧v=Value.int i t)∨(∃ x t,k=Sum.inr x∧v=Value.str x t)
  | .inl i,v,h=>by
    obtain⟨t,e⟩:=Value.isInt_shape (k:=i) (v:=v) h
    exact .inl ⟨i,t,rfl,e⟩
  | .inr x,v,h=>by
    obtain⟨t,e⟩:=Value.isStrOf_shape (x:=x) (v:=v) h
    exact .inr ⟨x,t,rfl,e⟩
theorem key_ll (a b:Int):decide ((Sum.inl a:Key)=Sum.inl b)=(a==b):=by
  by_cases e:a=b
  · subst e;simp
  · have h:¬ (Sum.inl a:Key)=Sum.inl b:=fun q=>e (Sum.inl.inj q)
    rw[decide_eq_false h]
    exact (beq_eq_false_iff_ne.mpr e).symm
theorem key_rr (a b:Str):decide ((Sum.inr a:Key)=Sum.inr b)=decide (a=b):=by
  by_cases e:a=b
  · subst e;simp
  · have h:¬ (Sum.inr a:Key)=Sum.inr b:=fun q=>e (Sum.inr.inj q)
    rw[decide_eq_false h,decide_eq_false e]
theorem key_lr (a:Int) (b:Str):decide ((Sum.inl a:Key)=Sum.inr b)=false:=decide_eq_false (fun q=>nomatch q)
theorem key_rl (a:Str) (b:Int):decide ((Sum.inr a:Key)=Sum.inl b)=false:=decide_eq_false (fun q=>nomatch q)
noncomputable def mixKind (prog:Program) (w:World):PySem.KeyKind prog w Key where
  is:=keyIs
  hash:=keyH w
  inj:=fun v a b ha hb=>by
    rcases keyIs_shape ha with ⟨i,t,rfl,rfl⟩ | ⟨x,t,rfl,rfl⟩
    · rcases keyIs_shape hb with ⟨j,u,rfl,e⟩ | ⟨y,u,rfl,e⟩
      · injection e with e1 _;rw[e1]
      · exact nomatch e
    · rcases keyIs_shape hb with ⟨j,u,rfl,e⟩ | ⟨y,u,rfl,e⟩
      · exact nomatch e
      · injection e with e1 _;rw[e1]
  byValue:=fun k v h=>by
    rcases keyIs_shape h with ⟨i,t,rfl,rfl⟩ | ⟨x,t,rfl,rfl⟩ <;> rfl
  pyHash:=fun hv h=>by
    rcases keyIs_shape hv with ⟨i,t,rfl,rfl⟩ | ⟨x,t,rfl,rfl⟩
    · exact wpAny_pyHash_int h
    · exact wpAny_pyHash_str h
  eqBool:=fun hu hv h=>by
    rcases keyIs_shape hu with ⟨i,t,rfl,rfl⟩ | ⟨x,t,rfl,rfl⟩
    · rcases keyIs_shape hv with ⟨j,u,rfl,rfl⟩ | ⟨y,u,rfl,rfl⟩
      · rw[key_ll] at h;exact wpAny_eqBool_int h
      · rw[key_lr] at h;exact SeqAt.EqAt.int_str i t y u _ _ _ _ h
    · rcases keyIs_shape hv with ⟨j,u,rfl,rfl⟩ | ⟨y,u,rfl,rfl⟩
      · rw[key_rl] at h;exact SeqAt.EqAt.str_int x t j u _ _ _ _ h
      · rw[key_rr] at h;exact wpAny_eqBool_str h
  «strs»:=fun k x t v h=>by
    rcases keyIs_shape h with ⟨i,u,rfl,e⟩ | ⟨y,u,rfl,e⟩
    · exact nomatch e
    · injection e with e1 _
      subst e1
      cases v <;> rfl
inductive V where
  | non | bl (b:Bool) | int (i:Int) | str (x:Str) | byt (b:Array UInt8) | flt (b:UInt64) | ref (a:Addr) | ty (n:String)
  deriving DecidableEq
noncomputable def RelV:V→Value→Prop
  | .non,u=>u=Value.none
  | .bl b,u=>u=Value.bool b
  | .int i,u=>∃ t,u=Value.int i t
  | .str x,u=>∃ t,u=Value.str x t
  | .byt b,u=>∃ t,u=Value.bytes b t
  | .flt b,u=>∃ t,u=Value.float b t
  | .ref a,u=>u=Value.ref a
  | .ty n,u=>u=Value.type n
noncomputable abbrev Vals:List V→List Value→Prop:=Paired RelV
theorem Vals.length {xs:List V} {us:List Value} (r:Vals xs us):xs.length=us.length:=Paired.length r
theorem Vals.get:∀ {xs:List V} {us:List Value} {i:Nat} {x:V},Vals xs us→xs[i]? = some x→∃ u,us[i]? = some u∧RelV x u
  | _,_,_,_,.nil,e=>by simp at e
  | _,_,0,_,.cons r _,e=>by simp at e;subst e;exact⟨_,rfl,r⟩
  | _,_,i+1,x,.cons _ t,e=>by
    obtain⟨u,h1,h2⟩:=Vals.get (i:=i) (x:=x) t (by simpa using e)
    exact⟨u,by simpa using h1,h2⟩
theorem Vals.append:∀ {xs ys:List V} {us ws:List Value},Vals xs us→Vals ys ws→Vals (xs++ys) (us++ws)
  | _,_,_,_,.nil,s=>s
  | _,_,_,_,.cons r t,s=>.cons r (Vals.append t s)
theorem Vals.take:∀ {xs:List V} {us:List Value} (n:Nat),Vals xs us→Vals (xs.take n) (us.take n)
  | _,_,0,_=>.nil
  | _,_,_+1,.nil=>.nil
  | _,_,n+1,.cons r t=>.cons r (Vals.take n t)
theorem Vals.drop:∀ {xs:List V} {us:List Value} (n:Nat),Vals xs us→Vals (xs.drop n) (us.drop n)
  | _,_,0,r=>r
  | _,_,_+1,.nil=>.nil
  | _,_,n+1,.cons _ t=>Vals.drop n t
noncomputable def RelO:Option V→Option Value→Prop
  | some v,some u=>RelV v u
  | none,none=>True
  | _,_=>False
noncomputable def KV {κ:Type}:List (κ × V)→List (κ × Value)→Prop:=Paired fun (p:κ × V) (q:κ × Value)=>p.1=q.1∧RelV p.2 q.2
noncomputable def kV:Key→V
  | .inl i=>.int i
  | .inr x=>.str x
inductive HO where
  | lst (xs:List V)
  | tup (xs:List V)
  | dK (kvs:List (Key × V)) | dT (kvs:List (List Key × V))
  | set (S:Int→Bool) (n:Nat)
  | ins (C dx:Addr) (fs:List (Str × V))
  | own (x:Addr)
  | xd (fs:List (Str × V))
  | met (f x:Addr)
  | rng (lo hi:Int)
  | frz (o:Obj) (u:HO)
  | tbl (ps:Array Value)
  | ext (φ:Heap→Prop)
noncomputable abbrev Hp:=Addr→Option HO
noncomputable def upd (H:Hp) (a:Addr) (o:HO):Hp:=fun b=>if b=a then some o else H b
theorem upd_same {H:Hp} {a:Addr} {o:HO}:upd H a o a=some o:=by unfold upd;rw[if_pos rfl]
theorem upd_ne {H:Hp} {a b:Addr} {o:HO} (h:b≠a):upd H a o b=H b:=by unfold upd;rw[if_neg h]
theorem upd_upd {H:Hp} {a:Addr} {o u:HO}:upd (upd H a o) a u=upd H a u:=by
  funext b;unfold upd;split <;> rfl
theorem ne_of {H:Hp} {a b:Addr} {o u:HO} (h:H a=some o) (h':H b=some u) (d:o≠u):a≠b:=by
  intro e;subst e;rw[h] at h';exact d (Option.some.inj h')
theorem ne_of_none {H:Hp} {a b:Addr} {o:HO} (h:H a=some o) (h':H b=none):a≠b:=by
  intro e;subst e;rw[h] at h';cases h'
section
variable (P:Program) (w:World)
noncomputable def ObjOk (H:Hp) (h:Heap) (a:Addr):HO→Prop
  | .lst xs=>xs.length≤sizeLine∧∃ (its:List Value) (n:Nat),Vals xs its∧h.get? a=some { cls:=.type "list",data:=.seq its.toArray n }
  | .tup xs=>xs.length≤sizeLine∧∃ its:List Value,Vals xs its∧IsTup h a its.toArray
  | .dK kvs=>kvs.length≤sizeLine∧(a==sysModules)=false∧∃ vs,KV kvs vs∧h.DictOf (mixKind P w) a vs
  | .dT kvs=>kvs.length≤sizeLine∧(a==sysModules)=false∧∃ xs:List (List Key × Addr × Value),
      Paired (fun (p:List Key × V) (q:List Key × Addr × Value)=>p.1=q.1∧H q.2.1=some (.tup (p.1.map kV))∧RelV p.2 q.2.2) kvs xs ∧
      ∃ o es ep,h.get? a=some o∧o.ExactDict∧o.data = .dict es ep∧es.toList=xs.map (entryOfKey (tupleKind (mixKind P w)))∧(xs.map (·.1)).Nodup
  | .set S n=>h.SetOf (intKind P w) a S n
  | .ins C dx fs=>H dx=some (.own a)∧fs.length≤1000∧dx≠a∧h.get? a=some (PySem.W.instObj C dx) ∧
      ∃ mA,h.Ns1 dx mA∧(∀ f,RelO (fs.lookup f) (mA f))∧PySem.Within mA (fs.map (·.1))
  | .own _=>∃ o,h.get? a=some o
  | .xd fs=>∃ mA,h.Ns1 a mA∧∀ f,RelO (fs.lookup f) (mA f)
  | .rng lo hi=>∃ t u v,h.get? a=some { cls:=.type "range",data:=.fields #[.int lo t,.int hi u,.int 1 v] }
  | .frz o u=>h.get? a=some o∧ObjOk H h a u
  | .tbl ps=>h.get? a=some { cls:=.none,data:=.fields ps }
  | .met f x=>h.get? a=some (PySem.W.methodObj (.ref f) (.ref x))
  | .ext φ=>φ h∧(∃ o,h.get? a=some o)∧∀ h1 h2:Heap,φ h1→(∀ o,h1.get? a=some o→h2.get? a=some o)→φ h2
noncomputable def HOk (H:Hp) (h:Heap):Prop:=∀ a o,H a=some o→ObjOk P w H h a o
end
section
variable {P:Program} {w:World} {H H':Hp} {h h':Heap} {a:Addr} {o:HO}
theorem ObjOk.lt (x:ObjOk P w H h a o):a<h.objs.size:=by
  cases o with
  | lst xs=>obtain⟨_,_,_,_,e⟩:=x;exact Heap.lt_size e
  | tup xs=>obtain⟨_,_,_,p⟩:=x;exact p.lt
  | dK kvs=>obtain⟨_,_,_,_,o,_,_,e,_⟩:=x;exact Heap.lt_size e
  | dT kvs=>obtain⟨_,_,_,_,o,_,_,e,_⟩:=x;exact Heap.lt_size e
  | set S n=>obtain⟨o,_,_,_,e,_⟩:=x;exact Heap.lt_size e
  | ins C dx fs=>obtain⟨_,_,_,e,_⟩:=x;exact Heap.lt_size e
  | own y=>obtain⟨_,e⟩:=x;exact Heap.lt_size e
  | xd fs=>obtain⟨_,⟨_,_,_,e,_⟩,_⟩:=x;exact Heap.lt_size e
  | rng lo hi=>obtain⟨_,_,_,e⟩:=x;exact Heap.lt_size e
  | frz ob u=>obtain⟨e,_⟩:=x;exact Heap.lt_size e
  | tbl ps=>exact Heap.lt_size (show h.get? a=some _ from x)
  | met f y=>exact Heap.lt_size (show h.get? a=some _ from x)
  | ext φ=>obtain⟨_,⟨_,e⟩,_⟩:=x;exact Heap.lt_size e
theorem Paired.mapP {α β:Type} {F G:α→β→Prop}:∀ {l₁:List α} {l₂:List β},Paired F l₁ l₂→(∀ a b,F a b→G a b)→Paired G l₁ l₂
  | _,_,.nil,_=>.nil
  | _,_,.cons r t,f=>.cons (f _ _ r) (Paired.mapP t f)
theorem ObjOk.stay (x:ObjOk P w H h a o) (k:∀ b u,(b=a∨H b=some (.own a))→h.get? b=some u→h'.get? b=some u)
    (ho:∀ b,H b=some (.own a)→H' b=some (.own a)) (ht:∀ b xs,H b=some (.tup xs)→H' b=some (.tup xs)):ObjOk P w H' h' a o:=by
  induction o with
  | lst xs=>obtain⟨z,its,n,r,e⟩:=x;exact⟨z,its,n,r,k _ _ (.inl rfl) e⟩
  | tup xs=>obtain⟨z,its,r,ob,e,c⟩:=x;exact⟨z,its,r,ob,k _ _ (.inl rfl) e,c⟩
  | dK kvs=>obtain⟨z,y,vs,r,ob,es,ep,e,c⟩:=x;exact⟨z,y,vs,r,ob,es,ep,k _ _ (.inl rfl) e,c⟩
  | dT kvs =>
    obtain⟨z,y,xs,r,ob,es,ep,e,c⟩:=x
    exact⟨z,y,xs,Paired.mapP r fun p q z=>⟨z.1,ht _ _ z.2.1,z.2.2⟩,ob,es,ep,k _ _ (.inl rfl) e,c⟩
  | set S n=>obtain⟨ob,es,ep,t,e,c⟩:=x;exact⟨ob,es,ep,t,k _ _ (.inl rfl) e,c⟩
  | ins C dx fs =>
    obtain⟨d,z,ne,e,mA,⟨od,es,ep,e2,c⟩,r⟩:=x
    exact⟨ho _ d,z,ne,k _ _ (.inl rfl) e,mA,⟨od,es,ep,k _ _ (.inr d) e2,c⟩,r⟩
  | own y=>obtain⟨ob,e⟩:=x;exact⟨ob,k _ _ (.inl rfl) e⟩
  | xd fs=>obtain⟨mA,⟨od,es,ep,e,c⟩,r⟩:=x;exact⟨mA,⟨od,es,ep,k _ _ (.inl rfl) e,c⟩,r⟩
  | rng lo hi=>obtain⟨t,u,v,e⟩:=x;exact⟨t,u,v,k _ _ (.inl rfl) e⟩
  | frz ob u ih=>obtain⟨e,q⟩:=x;exact⟨k _ _ (.inl rfl) e,ih q⟩
  | tbl ps =>
    have e:h.get? a=some { cls:=.none,data:=.fields ps }:=x
    show h'.get? a=some { cls:=.none,data:=.fields ps }
    exact k a _ (.inl rfl) e
  | met f y =>
    have e:h.get? a=some (PySem.W.methodObj (.ref f) (.ref y)):=x
    show h'.get? a=some (PySem.W.methodObj (.ref f) (.ref y))
    exact k a _ (.inl rfl) e
  | ext φ=>obtain⟨p,⟨o,e⟩,st⟩:=x;exact⟨st _ _ p fun o q=>k _ _ (.inl rfl) q,⟨o,k _ _ (.inl rfl) e⟩,st⟩
theorem HOk.lt (x:HOk P w H h) (e:H a=some o):a<h.objs.size:=(x a o e).lt
theorem HOk.fresh (x:HOk P w H h) (e:h.objs.size≤a):H a=none:=by
  cases q:H a with
  | none=>rfl
  | some u=>exact absurd (Nat.lt_of_lt_of_le (x.lt q) e) (Nat.lt_irrefl _)
theorem HOk.kept (x:HOk P w H h) (k:∀ b u,h.get? b=some u→h'.get? b=some u):HOk P w H h':=fun a o e =>
  (x a o e).stay (fun b u _ q=>k b u q) (fun _ q=>q) fun _ _ q=>q
theorem HOk.laid (x:HOk P w H h) (k:∀ b u,h.get? b=some u→h'.get? b=some u) (hp:h.objs.size≤a) (new:ObjOk P w (upd H a o) h' a o):HOk P w (upd H a o) h':=fun b u e=>by
  have hn:=x.fresh hp
  by_cases hb:b=a
  · subst hb;rw[upd_same] at e;cases e;exact new
  · rw[upd_ne hb] at e
    exact (x b u e).stay (fun c v _ q=>k c v q) (fun c q=>by rw[upd_ne (ne_of_none q hn)];exact q) fun c xs q=>by rw[upd_ne (ne_of_none q hn)];exact q
end
noncomputable def Rd (H:Hp) (a:Addr) (u:HO):Prop:=H a=some u∨∃ o,H a=some (.frz o u)
theorem Rd.ok {P:Program} {w:World} {H:Hp} {h:Heap} {a:Addr} {u:HO} (r:Rd H a u) (x:HOk P w H h):ObjOk P w H h a u:=by
  rcases r with r | ⟨o,r⟩
  · exact x a u r
  · obtain⟨_,q⟩:=x a _ r
    exact q
noncomputable def Mut:Option HO→Prop
  | some (.lst _)=>True
  | some (.dK _)=>True
  | some (.dT _)=>True
  | some (.set _ _)=>True
  | some (.ins _ _ _)=>True
  | some (.ext _)=>True
  | _=>False
section
variable {P:Program} {w:World} {H:Hp} {h h':Heap} {x e:Addr} {o':HO}
theorem HOk.write (ok:HOk P w H h) (mu:Mut (H x)) (he:e=x∨H e=some (.own x)) (k:∀ b u,b≠e→h.get? b=some u→h'.get? b=some u) (heo:∃ u,h'.get? e=some u)
    (new:ObjOk P w (upd H x o') h' x o'):HOk P w (upd H x o') h':=fun b u q=>by
  have nown:∀ c y,H c=some (.own y)→c≠x:=fun c y r z=>by subst z;rw[r] at mu;exact mu
  have ntup:∀ c xs,H c=some (.tup xs)→c≠x:=fun c xs r z=>by subst z;rw[r] at mu;exact mu
  by_cases hb:b=x
  · subst hb;rw[upd_same] at q;cases q;exact new
  · rw[upd_ne hb] at q
    by_cases hbe:b=e
    · have q':H b=some (.own x):=by
        rcases he with z | z
        · exact absurd (hbe.trans z) hb
        · rw[hbe];exact z
      rw[q] at q';cases q'
      obtain⟨v,hv⟩:=heo
      exact⟨v,by rw[hbe];exact hv⟩
    · refine (ok b u q).stay (fun c v hc r=>k c v ?_ r) (fun c r=>by rw[upd_ne (nown c b r)];exact r) fun c xs r=>by rw[upd_ne (ntup c xs r)];exact r
      rcases hc with rfl | hc
      · exact hbe
      · rintro rfl
        rcases he with z | z
        · exact nown c b hc z
        · rw[hc] at z;cases z;exact hb rfl
end
structure Un (fs ex:List Addr) (H H':Hp) (h h':Heap):Prop where
  keep:∀ b o,h.get? b=some o→H b=none→b∉fs→b∉ex→h'.get? b=some o
  slot:∀ b o,h.get? b=some o→H b=none→b∈fs→b∉ex→∃ sl,h'.get? b=some { o with slots:=sl }
  free:∀ b o,h.get? b=some o→H b=none→b∉ex→H' b=none
  there:∀ b o,h.get? b=some o→b∉ex→∃ o',h'.get? b=some o'
  tups:∀ b xs,H b=some (.tup xs)→H' b=some (.tup xs)
  frzs:∀ b o u,H b=some (.frz o u)→H' b=some (.frz o u)
  tbls:∀ b ps,H b=some (.tbl ps)→∃ more,H' b=some (.tbl (ps++more))
section
variable {fs fs' ex ex':List Addr} {H H1 H2:Hp} {h h1 h2 h':Heap} {a x e:Addr} {o:HO}
theorem Un.any (u:Un fs ex H H1 h h1) {b:Addr} {ob:Obj} (q:h.get? b=some ob) (n:H b=none) (hx:b∉ex):∃ sl,h1.get? b=some { ob with slots:=sl }:=by
  by_cases hb:b∈fs
  · exact u.slot b ob q n hb hx
  · exact⟨ob.slots,u.keep b ob q n hb hx⟩
theorem Un.kept (k:∀ b u,h.get? b=some u→h'.get? b=some u):Un fs ex H H h h' :=
  ⟨fun b ob q _ _ _=>k b ob q,fun b ob q _ _ _=>⟨ob.slots,k b ob q⟩,fun _ _ _ n _=>n,fun b ob q _=>⟨ob,k b ob q⟩,fun _ _ q=>q,fun _ _ _ q=>q,fun _ ps q=>⟨#[],by rw[q];simp⟩⟩
theorem Un.refl:Un fs ex H H h h:=Un.kept fun _ _ q=>q
theorem Un.laid (k:∀ b u,h.get? b=some u→h'.get? b=some u) (hp:h.objs.size≤a) (hn:H a=none):Un fs ex H (upd H a o) h h' where
  keep:=fun b u q _ _ _=>k b u q
  slot:=fun b u q _ _ _=>⟨u.slots,k b u q⟩
  free:=fun b u q n _=>by rw[upd_ne (Nat.ne_of_lt (Nat.lt_of_lt_of_le (Heap.lt_size q) hp))];exact n
  there:=fun b u q _=>⟨u,k b u q⟩
  tups:=fun b xs q=>by rw[upd_ne (ne_of_none q hn)];exact q
  frzs:=fun b u xs q=>by rw[upd_ne (ne_of_none q hn)];exact q
  tbls:=fun b ps q=>⟨#[],by rw[upd_ne (ne_of_none q hn),q];simp⟩
theorem Un.write (mu:Mut (H x)) (he:e=x∨H e=some (.own x)) (k:∀ b u,b≠e→h.get? b=some u→h'.get? b=some u) (heo:∃ u,h'.get? e=some u):Un fs ex H (upd H x o) h h':=by
  have hx:∀ b,H b=none→b≠x:=fun b n z=>by subst z;rw[n] at mu;exact mu
  have hb:∀ b,H b=none→b≠e:=fun b n z=>by
    subst z
    rcases he with r | r
    · exact hx b n r
    · rw[n] at r;cases r
  have hm:∀ b u,H b=some u→¬ Mut (some u)→b≠x:=fun b u q nm z=>by subst z;rw[q] at mu;exact nm mu
  refine⟨fun b u q n _ _=>k b u (hb b n) q,fun b u q n _ _=>⟨u.slots,k b u (hb b n) q⟩,fun b u q n _=>by rw[upd_ne (hx b n)];exact n,fun b u q _=>?_,
    fun b xs q=>by rw[upd_ne (hm b _ q fun z=>z)];exact q,fun b u xs q=>by rw[upd_ne (hm b _ q fun z=>z)];exact q,fun b ps q=>⟨#[],by rw[upd_ne (hm b _ q fun z=>z),q];simp⟩⟩
  by_cases hbe:b=e
  · subst hbe;exact heo
  · exact⟨u,k b u hbe q⟩
end
noncomputable def trk (h:Heap) (H:Hp):List Addr:=(List.range h.objs.size).filter fun a=>(H a).isSome
noncomputable def hidT (h:Heap) (H:Hp):Heap:=PySem.W.hideAll h (trk h H)
theorem hidT_size (h:Heap) (H:Hp):(hidT h H).objs.size=h.objs.size:=PySem.W.hideAll_size _ _
theorem hidT_get {h:Heap} {H:Hp} {b:Addr} {o:Obj} (e:h.get? b=some o) (n:H b=none):(hidT h H).get? b=some o :=
  PySem.W.hideAll_get _ e fun hm=>by
    have q:(H b).isSome=true:=(List.mem_filter.mp hm).2
    rw[n] at q;simp at q
theorem of_hidT {h:Heap} {H:Hp} {b:Addr} {o:Obj} (e:(hidT h H).get? b=some o):h.get? b=some o∧H b=none:=by
  have e':h.get? b=some o:=PySem.W.of_hideAll (trk h H) e
  refine⟨e',?_⟩
  cases q:H b with
  | none=>rfl
  | some x =>
    have hm:b∈trk h H:=List.mem_filter.mpr ⟨List.mem_range.mpr (Heap.lt_size e'),by simp[q]⟩
    have z:(hidT h H).get? b=none:=PySem.W.hideAll_none (trk h H) hm
    rw[z] at e;cases e
noncomputable def allNews (g h:Heap) (L:Addr):List (Addr × Obj):=(List.range h.objs.size).filterMap fun a=>if a=L∨(g.get? a).isSome=true then none else (h.get? a).map fun o=>(a,o)
noncomputable def rest (g h:Heap) (L d:Addr):List (Addr × Obj):=(allNews g h L).filter fun p=>decide (p.1≠d)
structure Mod (K:PySem.W.Frag) (mg:Str→Option Value) (base:Heap):Prop where
  kin:K.In base
  glob:base.Ns mainGlobals mg
  blt:∃ mb,base.Ns builtinsNs mb∧∀ x:Str,x≠"__name__"→mb x=bootBuiltins x
  nolimit:base.NoLimit
structure Cx where
  prog:Program
  w:World
  K:PySem.W.Frag
  mg:Str→Option Value
  base:Heap
  A:Around
  N:List Str
  s₀:Shared
  H₀:Hp
  env:Env
  outer:List Env
  stack:List Env
  ex:List Addr
  fn:Str→Bool
  calm:Bool
  pn:List (Addr × Obj)
  xe:Value→Shared→Prop
noncomputable def frs (l:List Env):List Addr:=l.filterMap (·.frame)
noncomputable abbrev Cx.fs (X:Cx):List Addr:=frs X.outer
noncomputable def Vis (sc:Scope) (x:Str):Prop:=sc.names.lookup x=some .local∨sc.names.lookup x=some .cell∨sc.names.lookup x=some .free
noncomputable def Loc (sc:Scope) (x:Str):Prop:=sc.names.lookup x=some .local∨sc.names.lookup x=some .cell
noncomputable def Look (env:Env) (h:Heap) (m:Str→Option Value) (x:Str) (u:Value):Prop :=
  (env.kindOf x=some .local∧m x=some u)∨((env.kindOf x=some .cell∨env.kindOf x=some .free)∧∃ c,env.cells.lookup x=some c∧h.IsCell c (some u))
structure Cx.Ok (X:Cx):Prop where
  mod:Mod X.K X.mg X.base
  kind:X.env.scope.kind = .function
  glob:X.env.globals=mainGlobals
  blt:X.env.builtins=builtinsNs
  above:X.s₀.heap.objs.size≤X.env.locals
  inj:∀ x y c,X.env.cells.lookup x=some c→X.env.cells.lookup y=some c→x=y
  has:∀ x,(X.env.kindOf x=some .cell∨X.env.kindOf x=some .free)→∃ c,X.env.cells.lookup x=some c
  cab:∀ x c,X.fn x=true→X.env.cells.lookup x=some c→X.s₀.heap.objs.size≤c
  hd:X.calm=true→X.A.handled=none
  frames:X.A.frames=some X.stack
  stk:X.stack=X.outer∨(X.stack=X.env::X.outer∧X.env.frame=some X.env.locals)
  exf:∀ b∈X.ex,b≠X.env.locals∧∀ x c,X.env.cells.lookup x=some c→c≠b
  bs:∀ b o,X.base.get? b=some o→X.s₀.heap.get? b=some o∧X.H₀ b=none
  bsz:X.base.objs.size≤X.s₀.heap.objs.size
  noex:∀ b o,X.base.get? b=some o→b∉X.ex
  exfs:∀ b∈X.ex,b∉X.fs
  funs:X.s₀.heap.FunFrames X.base X.outer
  frf:∀ b∈X.fs,X.H₀ b=none
structure Inv (X:Cx) (pins:List (Addr × Obj)) (σ:List (Option V)) (H:Hp) (s:Shared):Prop where
  ok:X.Ok
  os:s.os=X.s₀.os
  bare:AllBare s.gens
  base:Un X.fs X.ex X.H₀ H X.s₀.heap s.heap
  loc:∃ m,s.heap.Ns X.env.locals m∧∀ (i:Nat) (x:Str) (v:V),X.N[i]? = some x→σ[i]? = some (some v)→Vis X.env.scope x→∃ u,RelV v u∧Look X.env s.heap m x u
  cell:∀ x c,X.env.cells.lookup x=some c→∃ v,s.heap.IsCell c v
  free:H X.env.locals=none
  freeC:∀ x c,X.env.cells.lookup x=some c→H c=none
  pin:∀ p∈X.pn++pins,s.heap.get? p.1=some p.2∧H p.1=none∧p.1≠X.env.locals∧p.1∉X.fs∧∀ v,p.2.data≠.cell v
  hok:HOk X.prog X.w H s.heap
  len:σ.length=X.N.length
section
variable {X:Cx} {pins:List (Addr × Obj)} {σ:List (Option V)} {H H':Hp} {s:Shared} {h':Heap}
theorem Cx.Ok.nofr (ok:X.Ok) {b:Addr} {o:Obj} (e:X.base.get? b=some o):b∉X.fs:=fun hb=>by
  have:=(ok.funs.mem hb).1
  rw[e] at this;cases this
theorem Inv.bs (I:Inv X pins σ H s):∀ b o,X.base.get? b=some o→s.heap.get? b=some o∧H b=none:=fun b o e =>
  ⟨I.base.keep b o (I.ok.bs b o e).1 (I.ok.bs b o e).2 (I.ok.nofr e) (I.ok.noex b o e),I.base.free b o (I.ok.bs b o e).1 (I.ok.bs b o e).2 (I.ok.noex b o e)⟩
theorem Inv.bk (I:Inv X pins σ H s):∀ b o,X.base.get? b=some o→s.heap.get? b=some o:=fun b o e=>(I.bs b o e).1
theorem Inv.mod (I:Inv X pins σ H s):Mod X.K X.mg X.base:=I.ok.mod
theorem Inv.kIn (I:Inv X pins σ H s):X.K.In s.heap:=I.ok.mod.kin.keeps I.bk
theorem Inv.lt (I:Inv X pins σ H s):X.env.locals<s.heap.objs.size:=let ⟨_,hn,_⟩:=I.loc;hn.lt
theorem Inv.sz (I:Inv X pins σ H s):X.s₀.heap.objs.size≤s.heap.objs.size:=Nat.le_trans I.ok.above (Nat.le_of_lt I.lt)
theorem Inv.nofs (I:Inv X pins σ H s) {a:Addr} (h:s.heap.objs.size≤a):a∉X.fs:=fun hb=>by
  obtain⟨_,o,ho,_⟩:=I.ok.funs.mem hb
  exact absurd (Nat.lt_of_lt_of_le (Heap.lt_size ho) (Nat.le_trans I.sz h)) (Nat.lt_irrefl _)
theorem Inv.cne (I:Inv X pins σ H s):∀ x c,X.env.cells.lookup x=some c→c≠X.env.locals:=fun x c e z=>by
  obtain⟨v,o,ho,hd⟩:=I.cell x c e
  obtain⟨m,⟨o',es,ep,ho',hd',_⟩,_⟩:=I.loc
  rw[z,ho'] at ho;cases ho;rw[hd'] at hd;cases hd
theorem Inv.funs (I:Inv X pins σ H s):s.heap.FunFrames X.base X.outer:=by
  have all:∀ (l:List Env),(∀ b∈frs l,b∈X.fs)→X.s₀.heap.FunFrames X.base l→s.heap.FunFrames X.base l:=by
    intro l
    induction l with
    | nil=>intro _ _;trivial
    | cons env r ih =>
      intro hs hl
      obtain⟨hk,⟨L,o,hf,hn,ho,hd⟩,hr⟩:=hl
      have hL:L∈X.fs:=hs L (by unfold frs;rw[List.filterMap_cons,hf];exact List.mem_cons_self)
      obtain⟨sl,e⟩:=I.base.slot L o ho (I.ok.frf L hL) hL fun z=>I.ok.exfs L z hL
      exact⟨hk,⟨L,_,hf,hn,e,hd⟩,ih (fun b hb=>hs b (by unfold frs;rw[List.filterMap_cons,hf];exact List.mem_cons_of_mem _ hb)) hr⟩
  exact all X.outer (fun _ hb=>hb) I.ok.funs
theorem Inv.stack (I:Inv X pins σ H s):s.heap.FunFrames X.base X.stack:=by
  rcases I.ok.stk with e | ⟨e,hf⟩
  · rw[e];exact I.funs
  · rw[e]
    obtain⟨m,hn,_⟩:=I.loc
    refine .cons (by rw[I.ok.kind];decide) hf hn ?_ I.funs
    exact Heap.get?_none_of_le (Nat.le_trans I.ok.bsz I.ok.above)
theorem Inv.stkSub (I:Inv X pins σ H s):∀ b∈frs X.stack,b∈X.env.locals::X.fs:=fun b hb=>by
  rcases I.ok.stk with e | ⟨e,hf⟩
  · rw[e] at hb;exact List.mem_cons_of_mem _ hb
  · rw[e] at hb
    unfold frs at hb
    rw[List.filterMap_cons,hf] at hb
    exact hb
theorem Inv.stkFree (I:Inv X pins σ H s):∀ b∈frs X.stack,H b=none:=fun b hb=>by
  rcases List.mem_cons.mp (I.stkSub b hb) with e | hb
  · rw[e];exact I.free
  · obtain⟨_,o,ho,_⟩:=I.ok.funs.mem hb
    exact I.base.free b o ho (I.ok.frf b hb) fun z=>I.ok.exfs b z hb
theorem Inv.step {g':Array GenState} {t':Nat} {d':Drawn} {ch:List Addr} (I:Inv X pins σ H s)
    (hch:∀ b∈ch,(b∈X.ex∨X.s₀.heap.get? b=none)∧b≠X.env.locals∧(∀ x c,X.env.cells.lookup x=some c→c≠b)∧∀ p∈X.pn++pins,p.1≠b)
    (keep:∀ b o,b≠X.env.locals→b∉X.fs→b∉ch→s.heap.get? b=some o→H b=none→h'.get? b=some o)
    (slot:∀ b o,b≠X.env.locals→b∈X.fs→b∉ch→s.heap.get? b=some o→H b=none→∃ sl,h'.get? b=some { o with slots:=sl }) (free:∀ b o,b∉ch→s.heap.get? b=some o→H b=none→H' b=none)
    (there:∀ b o,b∉ch→s.heap.get? b=some o→∃ o',h'.get? b=some o')
    (tups:∀ b xs,H b=some (.tup xs)→H' b=some (.tup xs)) (frzs:∀ b o u,H b=some (.frz o u)→H' b=some (.frz o u)) (tbls:∀ b ps,H b=some (.tbl ps)→∃ more,H' b=some (.tbl (ps++more)))
    (ns:∀ m,s.heap.Ns X.env.locals m→h'.Ns X.env.locals m) (hok:HOk X.prog X.w H' h') (hg:AllBare g') :
    Inv X pins σ H' { s with heap:=h',gens:=g',drawn:=d',toks:=t' }:=by
  have neL:∀ b o,X.s₀.heap.get? b=some o→b≠X.env.locals:=fun b o e=>Nat.ne_of_lt (Nat.lt_of_lt_of_le (Heap.lt_size e) I.ok.above)
  have neC:∀ b o,X.s₀.heap.get? b=some o→b∉X.ex→b∉ch:=fun b o e hx hb=>by
    rcases (hch b hb).1 with z | z
    · exact hx z
    · rw[z] at e;cases e
  have cellK:∀ x c,X.env.cells.lookup x=some c→∀ v,s.heap.IsCell c v→h'.IsCell c v:=fun x c e v ⟨o,ho,hd⟩=>by
    have nch:c∉ch:=fun z=>(hch c z).2.2.1 x c e rfl
    by_cases hc:c∈X.fs
    · obtain⟨sl,q⟩:=slot c o (I.cne x c e) hc nch ho (I.freeC x c e)
      exact⟨_,q,hd⟩
    · exact⟨o,keep c o (I.cne x c e) hc nch ho (I.freeC x c e),hd⟩
  refine⟨I.ok,I.os,hg,⟨fun b o e n hb hx=>?_,fun b o e n hb hx=>?_,fun b o e n hx=>?_,fun b o e hx=>?_,fun b xs e=>tups b xs (I.base.tups b xs e),fun b o xs e=>frzs b o xs (I.base.frzs b o xs e),fun b ps e=>?_⟩,?_,fun x c e=>?_,?_,fun x c e=>?_,fun p hp=>?_,hok,I.len⟩
  · exact keep b o (neL b o e) hb (neC b o e hx) (I.base.keep b o e n hb hx) (I.base.free b o e n hx)
  · obtain⟨sl,e1⟩:=I.base.slot b o e n hb hx
    obtain⟨sl',e2⟩:=slot b _ (neL b o e) hb (neC b o e hx) e1 (I.base.free b o e n hx)
    exact⟨sl',e2⟩
  · obtain⟨o',e1⟩:=I.base.there b o e hx
    exact free b o' (neC b o e hx) e1 (I.base.free b o e n hx)
  · obtain⟨o',e1⟩:=I.base.there b o e hx
    exact there b o' (neC b o e hx) e1
  · obtain⟨m1,e1⟩:=I.base.tbls b ps e
    obtain⟨m2,e2⟩:=tbls b _ e1
    exact⟨m1++m2,by rw[e2,Array.append_assoc]⟩
  · obtain⟨m,hn,hl⟩:=I.loc
    refine⟨m,ns m hn,fun i x v e1 e2 e3=>?_⟩
    obtain⟨u,r,l⟩:=hl i x v e1 e2 e3
    refine⟨u,r,?_⟩
    rcases l with l | ⟨k,c,e,z⟩
    · exact .inl l
    · exact .inr ⟨k,c,e,cellK x c e _ z⟩
  · obtain⟨v,z⟩:=I.cell x c e
    exact⟨v,cellK x c e v z⟩
  · obtain⟨m,⟨o,_,_,ho,_⟩,_⟩:=I.loc
    exact free _ o (fun z=>(hch _ z).2.1 rfl) ho I.free
  · obtain⟨v,o,ho,hd⟩:=I.cell x c e
    exact free c o (fun z=>(hch c z).2.2.1 x c e rfl) ho (I.freeC x c e)
  · obtain⟨e,n,ne,nf,d⟩:=I.pin p hp
    have nch:p.1∉ch:=fun z=>(hch p.1 z).2.2.2 p hp rfl
    exact⟨keep p.1 p.2 ne nf nch e n,free p.1 p.2 nch e n,ne,nf,d⟩
theorem Inv.un {t':Nat} (I:Inv X pins σ H s) (u:Un X.fs [] H H' s.heap h') (hok:HOk X.prog X.w H' h'):Inv X pins σ H' { s with heap:=h',toks:=t' }:=by
  obtain⟨m,⟨o,es,ep,ho,r⟩,_⟩:=id I.loc
  obtain⟨sl,hL⟩:=u.any ho I.free (by simp)
  exact I.step (g':=s.gens) (d':=s.drawn) (ch:=[]) (fun _ z=>nomatch z) (fun b o _ hb _ e n=>u.keep b o e n hb (by simp)) (fun b o _ hb _ e n=>u.slot b o e n hb (by simp)) (fun b o _ e n=>u.free b o e n (by simp)) (fun b o _ e=>u.there b o e (by simp)) u.tups u.frzs u.tbls (fun m' hm=>by
    obtain⟨o',es',ep',ho',r'⟩:=hm
    rw[ho] at ho';cases ho'
    exact⟨_,es',ep',hL,r'⟩) hok I.bare
theorem Inv.call {g':Array GenState} {t':Nat} {d':Drawn} {ch:List Addr} (I:Inv X pins σ H s) (u:Un (frs X.stack) ch H H' s.heap h') (hok:HOk X.prog X.w H' h') (hg:AllBare g')
    (hch:∀ b∈ch,(b∈X.ex∨X.s₀.heap.get? b=none)∧b≠X.env.locals∧(∀ x c,X.env.cells.lookup x=some c→c≠b)∧∀ p∈X.pn++pins,p.1≠b) :
    Inv X pins σ H' { s with heap:=h',gens:=g',drawn:=d',toks:=t' }:=by
  obtain⟨m,⟨o,es,ep,ho,r⟩,_⟩:=id I.loc
  obtain⟨sl,hL⟩:=u.any ho I.free fun z=>(hch _ z).2.1 rfl
  exact I.step (ch:=ch) hch (fun b o hL hb hc e n=>u.keep b o e n (fun z=>(List.mem_cons.mp (I.stkSub b z)).elim hL hb) hc) (fun b o _ _ hc e n=>u.any e n hc) (fun b o hc e n=>u.free b o e n hc) (fun b o hc e=>u.there b o e hc) u.tups u.frzs u.tbls (fun m' hm=>by
    obtain⟨o',es',ep',ho',r'⟩:=hm
    rw[ho] at ho';cases ho'
    exact⟨_,es',ep',hL,r'⟩) hok hg
theorem Inv.turned {t':Nat} {it:Addr} (I:Inv X pins σ H s) (k:∀ b o,b≠it→s.heap.get? b=some o→h'.get? b=some o) (hn:H it=none) (hL:it≠X.env.locals)
    (h1:it∈X.ex∨X.s₀.heap.get? it=none) (h2:∀ x c,X.env.cells.lookup x=some c→c≠it) (h3:∀ p∈X.pn++pins,p.1≠it):Inv X pins σ H { s with heap:=h',toks:=t' }:=by
  have nit:∀ b u,H b=some u→b≠it:=fun b u e z=>by rw[z,hn] at e;cases e
  refine I.step (g':=s.gens) (d':=s.drawn) (ch:=[it]) (fun b hb=>?_) (fun b o _ _ hc e _=>k b o (fun z=>hc (by simp[z])) e) (fun b o _ _ hc e _=>⟨o.slots,k b o (fun z=>hc (by simp[z])) e⟩) (fun _ _ _ _ n=>n)
    (fun b o hc e=>⟨o,k b o (fun z=>hc (by simp[z])) e⟩) (fun _ _ e=>e) (fun _ _ _ e=>e) (fun b ps e=>⟨#[],by rw[e];simp⟩) (fun m hm=>?_) (fun b u e=>?_) I.bare
  · have e:b=it:=by simpa using hb
    subst e
    exact⟨h1,hL,h2,h3⟩
  · obtain⟨o,es,ep,ho,r⟩:=hm
    exact⟨o,es,ep,k _ o (Ne.symm hL) ho,r⟩
  · refine (I.hok b u e).stay (fun c v hc q=>k c v ?_ q) (fun _ q=>q) fun _ _ q=>q
    rcases hc with z | z
    · rw[z];exact nit b u e
    · exact nit c _ z
theorem Inv.tok (I:Inv X pins σ H s) (t:Nat):Inv X pins σ H { s with toks:=t }:=I.un (h':=s.heap) (t':=t) Un.refl I.hok
theorem Inv.kept {t':Nat} (I:Inv X pins σ H s) (k:∀ b u,s.heap.get? b=some u→h'.get? b=some u):Inv X pins σ H { s with heap:=h',toks:=t' }:=I.un (Un.kept k) (I.hok.kept k)
theorem Inv.laid {a:Addr} {o:HO} {t':Nat} (I:Inv X pins σ H s) (k:∀ b u,s.heap.get? b=some u→h'.get? b=some u) (hp:s.heap.objs.size≤a) (new:ObjOk X.prog X.w (upd H a o) h' a o) :
    Inv X pins σ (upd H a o) { s with heap:=h',toks:=t' }:=I.un (Un.laid k hp (I.hok.fresh hp)) (I.hok.laid k hp new)
theorem Inv.write {x e:Addr} {o:HO} {t':Nat} (I:Inv X pins σ H s) (mu:Mut (H x)) (he:e=x∨H e=some (.own x)) (k:∀ b u,b≠e→s.heap.get? b=some u→h'.get? b=some u) (heo:∃ u,h'.get? e=some u)
    (new:ObjOk X.prog X.w (upd H x o) h' x o):Inv X pins σ (upd H x o) { s with heap:=h',toks:=t' }:=I.un (Un.write mu he k heo) (I.hok.write mu he k heo new)
theorem Inv.pins_of {pins':List (Addr × Obj)} (I:Inv X pins σ H s) (h:∀ p∈pins',s.heap.get? p.1=some p.2∧H p.1=none∧p.1≠X.env.locals∧p.1∉X.fs∧∀ v,p.2.data≠.cell v):Inv X pins' σ H s :=
  ⟨I.ok,I.os,I.bare,I.base,I.loc,I.cell,I.free,I.freeC,fun p hp=>(List.mem_append.mp hp).elim (fun z=>I.pin p (List.mem_append_left _ z)) (h p),I.hok,I.len⟩
theorem nodup_ix {N:List Str} (hN:N.Nodup) {i j:Nat} {x:Str} (a:N[i]? = some x) (b:N[j]? = some x):i=j:=by
  obtain⟨h1,e1⟩:=List.getElem?_eq_some_iff.mp a
  obtain⟨h2,e2⟩:=List.getElem?_eq_some_iff.mp b
  exact (List.getElem_inj hN).mp (e1.trans e2.symm)
theorem store_ok2 {M:Model} {A:Around} {E:Value→Shared→Prop} {i:Nat} {x:Str} {v:V} {u:Value} {Q:Unit→Shared→Prop} (I:Inv X pins σ H s) (hN:X.N.Nodup) (hi:X.N[i]? = some x) (hx:Loc X.env.scope x) (r:RelV v u)
    (h:∀ s',Inv X pins (σ.set i (some v)) H s'→(∃ a,Heap.SameBut a s.heap s'.heap∧(a=X.env.locals∨X.env.cells.lookup x=some a))→Q () s') (hf:X.fn x=true∨X.env.scope.names.lookup x=some .local:=by first | exact .inl rfl | exact .inr rfl | assumption):wpAny M A (storeName X.env x u) Q E s:=by
  obtain⟨m,hn,hl⟩:=id I.loc
  have hcls:(X.env.scope.kind == .class || (X.env.scope.kind == .module&&X.env.locals != X.env.globals))=false:=by rw[I.ok.kind];rfl
  have hiσ:i < σ.length:=by rw[I.len];exact (List.getElem?_eq_some_iff.mp hi).1
  have cne:=I.cne
  have tracked:∀ {a:Addr} {h':Heap},(∃ o,s.heap.get? a=some o∧H a=none)→Heap.SameBut a s.heap h'→HOk X.prog X.w H h':=fun {a h'} ha hs b ob e=>by
    obtain⟨_,_,hfree⟩:=ha
    refine (I.hok b ob e).stay (fun c w' hc q=>(hs.2 c ?_).trans q) (fun _ q=>q) fun _ _ q=>q
    rintro rfl
    rcases hc with rfl | hc
    · rw[hfree] at e;cases e
    · rw[hfree] at hc;cases hc
  rcases hx with hk | hk
  · refine wpAny_storeName_local hk hn (fun h' hn' hs=>?_) hcls
    obtain⟨oL,_,_,hoL,_⟩:=id hn
    refine h _ ⟨I.ok,I.os,I.bare,⟨fun b o e n hb hx=>?_,fun b o e n hb hx=>?_,I.base.free,fun b o e hx=>?_,I.base.tups,I.base.frzs,I.base.tbls⟩,⟨_,hn',fun j y v' e1 e2 e3=>?_⟩,fun y c e=>?_,I.free,I.freeC,fun p hp=>?_,tracked ⟨oL,hoL,I.free⟩ hs,by simpa using I.len⟩ ⟨_,hs,.inl rfl⟩
    · exact (hs.2 b (Nat.ne_of_lt (Nat.lt_of_lt_of_le (Heap.lt_size e) I.ok.above))).trans (I.base.keep b o e n hb hx)
    · obtain⟨sl,e1⟩:=I.base.slot b o e n hb hx
      exact⟨sl,(hs.2 b (Nat.ne_of_lt (Nat.lt_of_lt_of_le (Heap.lt_size e) I.ok.above))).trans e1⟩
    · obtain⟨o',e1⟩:=I.base.there b o e hx
      exact⟨o',(hs.2 b (Nat.ne_of_lt (Nat.lt_of_lt_of_le (Heap.lt_size e) I.ok.above))).trans e1⟩
    · by_cases hj:j=i
      · subst hj
        rw[hi] at e1;cases e1
        rw[List.getElem?_set_self hiσ] at e2
        cases e2
        exact⟨u,r,.inl ⟨hk,by simp⟩⟩
      · rw[List.getElem?_set_ne (Ne.symm hj)] at e2
        obtain⟨u',r',q⟩:=hl j y v' e1 e2 e3
        refine⟨u',r',?_⟩
        rcases q with ⟨k,e⟩ | ⟨k,c,e,z⟩
        · refine .inl ⟨k,?_⟩
          have:y≠x:=fun e=>hj (nodup_ix hN e1 (e ▸ hi))
          simp[this,e]
        · exact .inr ⟨k,c,e,z.sameBut hs (cne y c e)⟩
    · obtain⟨w',z⟩:=I.cell y c e
      exact⟨w',z.sameBut hs (cne y c e)⟩
    · obtain⟨e,n,ne,nf,d⟩:=I.pin p hp
      exact⟨(hs.2 p.1 ne).trans e,n,ne,nf,d⟩
  · have hfn:X.fn x=true:=by
      rcases hf with z | z
      · exact z
      · rw[z] at hk;cases hk
    obtain⟨c,hc⟩:=I.ok.has x (.inl hk)
    obtain⟨w',z⟩:=I.cell x c hc
    refine wpAny_storeName_cell I.ok.kind hk hc z (fun h' hc' hs=>?_)
    obtain⟨oc,hoc,hocd⟩:=id z
    refine h { s with heap:=h' } ⟨I.ok,I.os,I.bare,⟨fun b o e n hb hx=>?_,fun b o e n hb hx=>?_,I.base.free,fun b o e hx=>?_,I.base.tups,I.base.frzs,I.base.tbls⟩,⟨m,hn.sameBut hs (Ne.symm (cne x c hc)),fun j y v' e1 e2 e3=>?_⟩,fun y c' e=>?_,I.free,I.freeC,fun p hp=>?_,tracked ⟨oc,hoc,I.freeC x c hc⟩ hs,by simpa using I.len⟩ ⟨c,hs,.inr hc⟩
    · exact (hs.2 b (Nat.ne_of_lt (Nat.lt_of_lt_of_le (Heap.lt_size e) (I.ok.cab x c hfn hc)))).trans (I.base.keep b o e n hb hx)
    · obtain⟨sl,e1⟩:=I.base.slot b o e n hb hx
      exact⟨sl,(hs.2 b (Nat.ne_of_lt (Nat.lt_of_lt_of_le (Heap.lt_size e) (I.ok.cab x c hfn hc)))).trans e1⟩
    · obtain⟨o',e1⟩:=I.base.there b o e hx
      exact⟨o',(hs.2 b (Nat.ne_of_lt (Nat.lt_of_lt_of_le (Heap.lt_size e) (I.ok.cab x c hfn hc)))).trans e1⟩
    · by_cases hj:j=i
      · subst hj
        rw[hi] at e1;cases e1
        rw[List.getElem?_set_self hiσ] at e2
        cases e2
        exact⟨u,r,.inr ⟨.inl hk,c,hc,hc'⟩⟩
      · rw[List.getElem?_set_ne (Ne.symm hj)] at e2
        obtain⟨u',r',q⟩:=hl j y v' e1 e2 e3
        refine⟨u',r',?_⟩
        rcases q with q | ⟨k,c',e,z'⟩
        · exact .inl q
        · refine .inr ⟨k,c',e,z'.sameBut hs ?_⟩
          rintro rfl
          exact hj (nodup_ix hN e1 (I.ok.inj _ _ _ e hc ▸ hi))
    · by_cases hcc:c'=c
      · subst hcc;exact⟨_,hc'⟩
      · obtain⟨w2,z2⟩:=I.cell y c' e
        exact⟨w2,z2.sameBut hs hcc⟩
    · obtain⟨e,n,ne,nf,d⟩:=I.pin p hp
      refine⟨(hs.2 p.1 ?_).trans e,n,ne,nf,d⟩
      intro q
      rw[q,hoc] at e
      have q':oc=p.2:=Option.some.inj e
      exact d w' (by rw[← q'];exact hocd)
theorem store_ok {M:Model} {A:Around} {E:Value→Shared→Prop} {i:Nat} {x:Str} {v:V} {u:Value} {Q:Unit→Shared→Prop} (I:Inv X pins σ H s) (hN:X.N.Nodup) (hi:X.N[i]? = some x) (hx:Loc X.env.scope x) (r:RelV v u)
    (h:∀ s',Inv X pins (σ.set i (some v)) H s'→Q () s') (hf:X.fn x=true∨X.env.scope.names.lookup x=some .local:=by first | exact .inl rfl | exact .inr rfl | assumption):wpAny M A (storeName X.env x u) Q E s :=
  store_ok2 I hN hi hx r (fun s' I' _=>h s' I') hf
theorem Inv.call' {s':Shared} {ch:List Addr} (I:Inv X pins σ H s) (ho:s'.os=s.os) (u:Un (frs X.stack) ch H H' s.heap s'.heap) (hok:HOk X.prog X.w H' s'.heap) (hg:AllBare s'.gens)
    (hch:∀ b∈ch,(b∈X.ex∨X.s₀.heap.get? b=none)∧b≠X.env.locals∧(∀ x c,X.env.cells.lookup x=some c→c≠b)∧∀ p∈X.pn++pins,p.1≠b):Inv X pins σ H' s':=by
  obtain⟨h',g',d',t',o'⟩:=s'
  have e:o'=s.os:=ho
  subst e
  exact I.call (g':=g') (t':=t') (d':=d') u hok hg hch
end
noncomputable abbrev XK:=Value→Option Addr→Hp→Prop
noncomputable abbrev St:=List (Option V)
noncomputable abbrev VK:=V→Hp→Prop
noncomputable abbrev TE:=St→Hp→VK→Prop
noncomputable abbrev TT:=St→Hp→(Bool→Hp→Prop)→Prop
noncomputable abbrev TA:=St→Hp→(List V→Hp→Prop)→Prop
structure Ends where
  nx:St→Hp→Prop
  rt:VK
  bk:St→Hp→Prop:=fun _ _=>False
  ct:St→Hp→Prop:=fun _ _=>False
noncomputable abbrev TS:=Ends→St→Hp→Prop
noncomputable def EP (X:Cx) (pins:List (Addr × Obj)) (σ:St) (Q:VK) (u:Value) (s':Shared):Prop:=∃ v H',Inv X pins σ H' s'∧RelV v u∧Q v H'
noncomputable def TP (X:Cx) (pins:List (Addr × Obj)) (σ:St) (Q:Bool→Hp→Prop) (b:Bool) (s':Shared):Prop:=∃ H',Inv X pins σ H' s'∧Q b H'
noncomputable def AP (X:Cx) (pins:List (Addr × Obj)) (σ:St) (Q:List V→Hp→Prop) (us:List Value) (s':Shared):Prop:=∃ vs H',Inv X pins σ H' s'∧Vals vs us∧Q vs H'
noncomputable def SP (X:Cx) (pins:List (Addr × Obj)) (D:Ends) (f:Flow) (s':Shared):Prop :=
  match f with
  | .next=>∃ σ' H',Inv X pins σ' H' s'∧D.nx σ' H'
  | .brk=>∃ σ' H',Inv X pins σ' H' s'∧D.bk σ' H'
  | .cont=>∃ σ' H',Inv X pins σ' H' s'∧D.ct σ' H'
  | .ret u=>∃ v σ' H',Inv X pins σ' H' s'∧RelV v u∧D.rt v H'
noncomputable def PE (X:Cx) (e:Expr) (t:TE):Prop :=
  ∀ (pins:List (Addr × Obj)) (s:Shared) (σ:St) (H:Hp) (Q:VK),Inv X pins σ H s→t σ H Q→wpAny (model X.prog X.w) X.A (eval e X.env) (EP X pins σ Q) X.xe s
noncomputable def PT (X:Cx) (e:Expr) (t:TT):Prop :=
  ∀ (pins:List (Addr × Obj)) (s:Shared) (σ:St) (H:Hp) (Q:Bool→Hp→Prop),Inv X pins σ H s→t σ H Q→wpAny (model X.prog X.w) X.A (isTrue e X.env (eval e X.env)) (TP X pins σ Q) X.xe s
noncomputable def PW (X:Cx) (e:Expr) (t:TT):Prop :=
  ∀ (whole:Sem Value) (pins:List (Addr × Obj)) (s:Shared) (σ:St) (H:Hp) (Q:Bool→Hp→Prop),Inv X pins σ H s→t σ H Q→wpAny (model X.prog X.w) X.A (isTrue e X.env whole) (TP X pins σ Q) X.xe s
theorem PW.pt {X:Cx} {e:Expr} {t:TT} (h:PW X e t):PT X e t:=h _
noncomputable def PA (X:Cx) (es:List Expr) (t:TA):Prop :=
  ∀ (pos:Pos) (pins:List (Addr × Obj)) (s:Shared) (σ:St) (H:Hp) (Q:List V→Hp→Prop),Inv X pins σ H s→t σ H Q→wpAny (model X.prog X.w) X.A (spliced (backTo pos (starEach es X.env))) (AP X pins σ Q) X.xe s
noncomputable def PS (X:Cx) (st:Stmt) (t:TS):Prop :=
  ∀ (pins:List (Addr × Obj)) (s:Shared) (σ:St) (H:Hp) (D:Ends),Inv X pins σ H s→t D σ H→wpAny (model X.prog X.w) X.A (exec st X.env) (SP X pins D) X.xe s
noncomputable def PSs (X:Cx) (st:List Stmt) (t:TS):Prop :=
  ∀ (pins:List (Addr × Obj)) (s:Shared) (σ:St) (H:Hp) (D:Ends),Inv X pins σ H s→t D σ H→wpAny (model X.prog X.w) X.A (execs st X.env) (SP X pins D) X.xe s
theorem thn {α:Type} {t:Sem α} {Q Q':α→Shared→Prop} {M:Model} {A:Around} {E:Value→Shared→Prop} {s:Shared} (h:wpAny M A t Q E s) (hQ:∀ a s,Q a s→Q' a s):wpAny M A t Q' E s:=wpAny_mono h hQ fun _ _ x=>x
section
variable {X:Cx}
theorem bin {a b:Expr} {ta tb:TE} (ha:PE X a ta) (hb:PE X b tb) {pins:List (Addr × Obj)} {s:Shared} {σ:St} {H:Hp} {R:V→V→Hp→Prop} (I:Inv X pins σ H s) (h:ta σ H fun x H1=>tb σ H1 fun y H2=>R x y H2)
    {α:Type} {Q:α→Shared→Prop} {f:Value→Value→Sem α}
    (hf:∀ v u s2 x y H2,Inv X pins σ H2 s2→RelV x v→RelV y u→R x y H2→wpAny (model X.prog X.w) X.A (f v u) Q X.xe s2) :
    wpAny (model X.prog X.w) X.A (eval a X.env) (fun v s₁=>wpAny (model X.prog X.w) X.A (eval b X.env) (fun u s₂=>wpAny (model X.prog X.w) X.A (f v u) Q X.xe s₂) X.xe s₁) X.xe s:=by
  refine thn (ha pins s σ H _ I h) fun v s1 ⟨x,H1,I1,r1,q1⟩=>?_
  refine thn (hb pins s1 σ H1 _ I1 q1) fun u s2 ⟨y,H2,I2,r2,q2⟩=>?_
  exact hf v u s2 x y H2 I2 r1 r2 q2
noncomputable def tVar (i:Nat):TE:=fun σ H Q=>∃ v,σ[i]? = some (some v)∧Q v H
noncomputable def tC (v:V):TE:=fun _ H Q=>Q v H
theorem pe_var {i:Nat} {x:Str} {pos:Pos} (hN:X.N[i]? = some x) (hv:Vis X.env.scope x) (hd:(x==("__debug__":Str))=false:=by decide) (hcd:(x==("__classdict__":Str))=false:=by decide):PE X (.Name x pos) (tVar i):=by
  intro pins s σ H Q I h
  obtain⟨v,e,h⟩:=h
  obtain⟨m,hn,hl⟩:=I.loc
  obtain⟨u,r,l⟩:=hl i x v hN e hv
  have fin:EP X pins σ Q u s:=⟨v,H,I,r,h⟩
  rcases l with ⟨hk,hm⟩ | ⟨hk,c,hc,hcell⟩
  · exact wpAny_Name (wpAny_loadName_local I.ok.kind hk hn hm fin) hd
  · rcases hk with hk | hk
    · exact wpAny_Name (wpAny_loadName_cell I.ok.kind hk hc hcell fin) hd
    · exact wpAny_Name (wpAny_loadName_free I.ok.kind hk hc hcell fin hcd) hd
theorem pe_int {i j pos}:PE X (.Constant (.int i) j pos) (tC (.int i)):=fun _ _ _ H _ I h=>wpAny_Constant_int ⟨.int i,H,I.tok _,⟨_,rfl⟩,h⟩
theorem pe_bl {b j pos}:PE X (.Constant (.bool b) j pos) (tC (.bl b)):=fun _ _ _ H _ I h=>Constant_bool ⟨.bl b,H,I,rfl,h⟩
theorem pe_non {j pos}:PE X (.Constant .none j pos) (tC .non):=fun _ _ _ H _ I h=>Constant_none ⟨.non,H,I,rfl,h⟩
theorem pe_str {x j pos}:PE X (.Constant (.str x) j pos) (tC (.str x)):=fun _ _ _ H _ I h=>Calls.Constant_str ⟨.str x,H,I.tok _,⟨_,rfl⟩,h⟩
noncomputable def Gl (X:Cx) (x:Str):Prop:=X.env.kindOf x=some .globalImplicit
theorem ld_glob {E:Value→Shared→Prop} {pins:List (Addr × Obj)} {s:Shared} {σ:St} {H:Hp} {x:Str} {u:Value} {pos:Pos} {Q:Value→Shared→Prop} (I:Inv X pins σ H s) (hg:Gl X x) (hm:X.mg x=some u) (h:Q u s)
    (hd:(x==("__debug__":Str))=false:=by decide):wpAny (model X.prog X.w) X.A (eval (.Name x pos) X.env) Q E s :=
  Calls.Name_function_global I.ok.kind hg (Calls.loadGlobal_global (by rw[I.ok.glob];exact I.mod.glob.keeps I.bk) hm h) hd
theorem ld_blt {E:Value→Shared→Prop} {pins:List (Addr × Obj)} {s:Shared} {σ:St} {H:Hp} {x:Str} {u:Value} {pos:Pos} {Q:Value→Shared→Prop} (I:Inv X pins σ H s) (hg:Gl X x) (hm:X.mg x=none) (hv:bootBuiltins x=some u) (h:Q u s)
    (hn:x≠"__name__":=by decide) (hd:(x==("__debug__":Str))=false:=by decide):wpAny (model X.prog X.w) X.A (eval (.Name x pos) X.env) Q E s:=by
  obtain⟨mb,h1,h2⟩:=I.mod.blt
  exact Calls.Name_function_global I.ok.kind hg (Calls.loadGlobal_builtin (by rw[I.ok.glob];exact I.mod.glob.keeps I.bk) hm (by rw[I.ok.blt];exact h1.keeps I.bk) ((h2 x hn).trans hv) h) hd
theorem pe_glob {x:Str} {v:V} {u:Value} {pos:Pos} (hg:Gl X x) (hm:X.mg x=some u) (r:RelV v u) (hd:(x==("__debug__":Str))=false:=by decide):PE X (.Name x pos) (tC v) :=
  fun _ _ _ H _ I h=>ld_glob I hg hm ⟨v,H,I,r,h⟩ hd
theorem pe_bltn {x:Str} {v:V} {u:Value} {pos:Pos} (hg:Gl X x) (hm:X.mg x=none) (hv:bootBuiltins x=some u) (r:RelV v u) (hn:x≠"__name__":=by decide) (hd:(x==("__debug__":Str))=false:=by decide):PE X (.Name x pos) (tC v) :=
  fun _ _ _ H _ I h=>ld_blt I hg hm hv ⟨v,H,I,r,h⟩ hn hd
noncomputable def t2I (ta tb:TE) (k:Int→Int→Hp→Prop):St→Hp→Prop:=fun σ H=>ta σ H fun x H1=>tb σ H1 fun y H2=>∃ i j,x = .int i∧y = .int j∧k i j H2
noncomputable def tAdd (ta tb:TE):TE:=fun σ H Q=>t2I ta tb (fun i j H2=>Q (.int (i+j)) H2) σ H
noncomputable def tSub (ta tb:TE):TE:=fun σ H Q=>t2I ta tb (fun i j H2=>Q (.int (i - j)) H2) σ H
noncomputable def tMul (ta tb:TE):TE:=fun σ H Q=>t2I ta tb (fun i j H2=>(-(2 ^ 64)<i∧i<2 ^ 64)∧Q (.int (i*j)) H2) σ H
variable {a b:Expr} {ta tb:TE} {pos:Pos}
noncomputable def PC (X:Cx) (op:CmpOp) (a b:Expr) (t:TE):Prop :=
  ∀ (pins:List (Addr × Obj)) (s:Shared) (σ:St) (H:Hp) (Q:VK),Inv X pins σ H s→t σ H Q →
    wpAny (model X.prog X.w) X.A (eval a X.env) (fun v s₁=>wpAny (model X.prog X.w) X.A (eval b X.env) (fun u s₂=>wpAny (model X.prog X.w) X.A (compareOp op v u) (EP X pins σ Q) X.xe s₂) X.xe s₁) X.xe s
noncomputable def tCmp (p:Int→Int→Bool) (ta tb:TE):TE:=fun σ H Q=>t2I ta tb (fun i j H2=>Q (.bl (p i j)) H2) σ H
noncomputable abbrev tLt:TE→TE→TE:=tCmp fun i j=>decide (i<j)
noncomputable abbrev tLe:TE→TE→TE:=tCmp fun i j=>decide (i≤j)
noncomputable abbrev tGt:TE→TE→TE:=tCmp fun i j=>decide (j<i)
noncomputable abbrev tGe:TE→TE→TE:=tCmp fun i j=>decide (j≤i)
noncomputable abbrev tEqI:TE→TE→TE:=tCmp fun i j=>decide (i=j)
noncomputable abbrev tNeI:TE→TE→TE:=tCmp fun i j=>!decide (i=j)
noncomputable def tIsN (ta:TE):TE:=fun σ H Q=>ta σ H fun x H1=>Q (.bl (decide (x = .non))) H1
noncomputable def tNotN (ta:TE):TE:=fun σ H Q=>ta σ H fun x H1=>Q (.bl (!decide (x = .non))) H1
noncomputable def tB (t:TE):TT:=fun σ H Q=>t σ H fun x H1=>∃ c,x = .bl c∧Q c H1
theorem pt_cmp {op:CmpOp} {t:TE} (h:PC X op a b t) (h1:behindInMarks op b=false:=by first | exact nobehind _ (by decide) (by decide) | rfl):PT X (.Compare a [op] [b] pos) (tB t):=by
  intro pins s σ H Q I hw
  refine wpAny_isTrue_Compare1 (thn (h pins s σ H _ I hw) fun v s1 h1=>thn h1 fun u s2 h2=>thn h2 fun c s3 ⟨x,H1,I1,r1,q1⟩=>?_) h1
  obtain⟨d,rfl,q⟩:=q1
  cases r1
  exact wpAny_truthy_bool ⟨H1,I1,q⟩
theorem pt_val {e:Expr} {t:TE} (h:PE X e t) (he:∀ whole,isTrue e X.env whole=(do let v ← whole;standAt e.pos;holding [v] (truthy v)):=by intro _;rfl):PT X e (tB t):=by
  intro pins s σ H Q I hw
  refine isTrue_plain (thn (h pins s σ H _ I hw) fun v s1 ⟨x,H1,I1,r1,q1⟩=>?_) (he _)
  obtain⟨d,rfl,q⟩:=q1
  cases r1
  exact wpAny_truthy_bool ⟨H1,I1,q⟩
variable {tA tB':TT} {rest:List Expr}
noncomputable def tAnd (t u:TT):TT:=fun σ H Q=>t σ H fun c H1=>if c=true then u σ H1 Q else Q false H1
noncomputable def tOr (t u:TT):TT:=fun σ H Q=>t σ H fun c H1=>if c=true then Q true H1 else u σ H1 Q
noncomputable def tNot (t:TT):TT:=fun σ H Q=>t σ H fun c H1=>Q (!c) H1
theorem pw_and1 (ha:PT X a tA):PW X (.BoolOp .And [a] pos) tA:=by
  intro wh pins s σ H Q I h
  refine isTrue_and (thn (ha pins s σ H Q I h) fun c s1 e=>?_)
  cases c with
  | true=>exact isTrue_and_nil e
  | false=>exact e
theorem pw_or1 (ha:PT X a tA):PW X (.BoolOp .Or [a] pos) tA:=by
  intro wh pins s σ H Q I h
  refine isTrue_or (thn (ha pins s σ H Q I h) fun c s1 e=>?_)
  cases c with
  | false=>exact isTrue_or_nil e
  | true=>exact e
theorem pw_and (ha:PT X a tA) (hb:PW X (.BoolOp .And (b::rest) pos) tB'):PW X (.BoolOp .And (a::b::rest) pos) (tAnd tA tB'):=by
  intro wh pins s σ H Q I h
  refine isTrue_and (thn (ha pins s σ H _ I h) fun c s1 ⟨H1,I1,q1⟩=>?_)
  cases c with
  | true=>exact hb wh pins s1 σ H1 Q I1 q1
  | false=>exact⟨H1,I1,q1⟩
theorem pw_or (ha:PT X a tA) (hb:PW X (.BoolOp .Or (b::rest) pos) tB'):PW X (.BoolOp .Or (a::b::rest) pos) (tOr tA tB'):=by
  intro wh pins s σ H Q I h
  refine isTrue_or (thn (ha pins s σ H _ I h) fun c s1 ⟨H1,I1,q1⟩=>?_)
  cases c with
  | true=>exact⟨H1,I1,q1⟩
  | false=>exact hb wh pins s1 σ H1 Q I1 q1
theorem pt_not (ha:PT X a tA):PT X (.UnaryOp .Not a pos) (tNot tA):=by
  intro pins s σ H Q I h
  exact isTrue_not (ha pins s σ H (fun c H1=>Q (!c) H1) I h)
noncomputable def tAndV (ta tb:TE):TE:=fun σ H Q=>ta σ H fun x H1=>∃ c,x = .bl c∧if c=true then tb σ H1 Q else Q (.bl false) H1
noncomputable def tOrV (ta tb:TE):TE:=fun σ H Q=>ta σ H fun x H1=>∃ c,x = .bl c∧if c=true then Q (.bl true) H1 else tb σ H1 Q
noncomputable def tNotV (ta:TE):TE:=fun σ H Q=>ta σ H fun x H1=>∃ c,x = .bl c∧Q (.bl (!c)) H1
theorem pe_one {op} {t:TE} (h:PE X a t):PE X (.BoolOp op [a] pos) t:=fun pins s σ H Q I hw=>BoolOp_one (h pins s σ H Q I hw)
theorem pe_and (ha:PE X a ta) (hb:PE X (.BoolOp .And (b::rest) pos) tb):PE X (.BoolOp .And (a::b::rest) pos) (tAndV ta tb):=by
  intro pins s σ H Q I h
  refine BoolOp_and (thn (ha pins s σ H _ I h) fun v s1 ⟨x,H1,I1,r1,q1⟩=>?_)
  obtain⟨c,rfl,q1⟩:=q1
  cases r1
  refine wpAny_truthy_bool ?_
  cases c with
  | true=>exact hb pins s1 σ H1 Q I1 q1
  | false=>exact⟨.bl false,H1,I1,rfl,q1⟩
theorem pe_not (ha:PE X a ta):PE X (.UnaryOp .Not a pos) (tNotV ta):=by
  intro pins s σ H Q I h
  refine UnaryOp_ (thn (ha pins s σ H _ I h) fun v s1 ⟨x,H1,I1,r1,q1⟩=>?_)
  obtain⟨c,rfl,q1⟩:=q1
  cases r1
  exact not_of (wpAny_truthy_bool ⟨.bl (!c),H1,I1,rfl,q1⟩)
noncomputable def tIf (t:TT) (ta tb:TE):TE:=fun σ H Q=>t σ H fun c H1=>if c=true then ta σ H1 Q else tb σ H1 Q
end
noncomputable def SqL (K:PySem.W.Frag) (H:Hp) (a:Addr) (xs:List V):Prop :=
  Rd H a (.lst xs) ∨
    ∃ (o:Obj) (its:Array Value) (n:Nat),K.lookup a=some o∧o.cls = .type "list"∧o.dict=none∧o.data = .seq its n∧its.size≤sizeLine∧Vals xs its.toList
noncomputable def SqT (K:PySem.W.Frag) (H:Hp) (a:Addr) (xs:List V):Prop :=
  Rd H a (.tup xs) ∨
    ∃ (o:Obj) (its:Array Value) (n:Nat),K.lookup a=some o∧o.cls = .type "tuple"∧o.data = .seq its n∧its.size≤sizeLine∧Vals xs its.toList
noncomputable def absV:Value→Option V
  | .none=>some .non
  | .bool b=>some (.bl b)
  | .int i _=>some (.int i)
  | .str x _=>some (.str x)
  | .bytes b _=>some (.byt b)
  | .float b _=>some (.flt b)
  | .ref a=>some (.ref a)
  | .type n=>some (.ty n)
  | _=>none
theorem RelV.abs {x:V} {u:Value} (r:RelV x u):absV u=some x:=by
  cases x with
  | non=>cases r;rfl
  | bl _=>cases r;rfl
  | int _=>obtain⟨t,rfl⟩:=r;rfl
  | str _=>obtain⟨t,rfl⟩:=r;rfl
  | byt _=>obtain⟨t,rfl⟩:=r;rfl
  | flt _=>obtain⟨t,rfl⟩:=r;rfl
  | ref _=>cases r;rfl
  | ty _=>cases r;rfl
theorem RelV.inj {x y:V} {u:Value} (r:RelV x u) (q:RelV y u):x=y:=Option.some.inj (r.abs.symm.trans q.abs)
theorem Vals.inj:∀ {xs ys:List V} {us:List Value},Vals xs us→Vals ys us→xs=ys
  | _,_,_,.nil,.nil=>rfl
  | _,_,_,.cons r t,.cons r' t'=>by rw[r.inj r',Vals.inj t t']
section
variable {X:Cx} {pins:List (Addr × Obj)} {σ:St} {H:Hp} {s:Shared} {a:Addr} {xs ys:List V}
theorem SqL.of {K:PySem.W.Frag} (h:H a=some (.lst xs)):SqL K H a xs:=.inl (.inl h)
theorem SqT.of {K:PySem.W.Frag} (h:H a=some (.tup xs)):SqT K H a xs:=.inl (.inl h)
theorem Inv.list (I:Inv X pins σ H s) (h:SqL X.K H a xs):∃ its:List Value,Vals xs its∧PlainL s.heap a its.toArray∧xs.length≤sizeLine:=by
  rcases h with h | ⟨o,its,n,hk,hc,hd,hs,hz,r⟩
  · obtain⟨z,its,n,r,e⟩:=h.ok I.hok
    exact⟨its,r,⟨_,n,e,rfl,rfl,rfl⟩,z⟩
  · refine⟨its.toList,r,⟨o,n,I.kIn a o hk,hc,hd,by simpa using hs⟩,?_⟩
    have e:=r.length
    simp only[Array.length_toList] at e
    omega
theorem Inv.tuple (I:Inv X pins σ H s) (h:SqT X.K H a xs):∃ its:List Value,Vals xs its∧IsTup s.heap a its.toArray∧xs.length≤sizeLine:=by
  rcases h with h | ⟨o,its,n,hk,hc,hs,hz,r⟩
  · obtain⟨z,its,r,p⟩:=h.ok I.hok
    exact⟨its,r,p,z⟩
  · refine⟨its.toList,r,⟨o,I.kIn a o hk,hc,n,by simpa using hs⟩,?_⟩
    have e:=r.length
    simp only[Array.length_toList] at e
    omega
theorem Inv.list_inj (I:Inv X pins σ H s) (h:SqL X.K H a xs) (h':SqL X.K H a ys):xs=ys:=by
  obtain⟨its,r,⟨o,n,e,_,_,d⟩,_⟩:=I.list h
  obtain⟨its',r',⟨o',n',e',_,_,d'⟩,_⟩:=I.list h'
  rw[e] at e';cases e'
  rw[d] at d'
  injection d' with d1 _
  have:its=its':=by simpa using congrArg Array.toList d1
  subst this
  exact r.inj r'
theorem Inv.tuple_inj (I:Inv X pins σ H s) (h:SqT X.K H a xs) (h':SqT X.K H a ys):xs=ys:=by
  obtain⟨its,r,⟨o,e,_,n,d⟩,_⟩:=I.tuple h
  obtain⟨its',r',⟨o',e',_,n',d'⟩,_⟩:=I.tuple h'
  rw[e] at e';cases e'
  rw[d] at d'
  injection d' with d1 _
  have:its=its':=by simpa using congrArg Array.toList d1
  subst this
  exact r.inj r'
end
noncomputable abbrev Cx.wish (X:Cx) (E:Value→Shared→Prop):Cx:={ X with xe:=E }
noncomputable abbrev Cx.nox (X:Cx):Cx:=X.wish fun _ _=>False
theorem Cx.Ok.wish {X:Cx} (ok:X.Ok) (E:Value→Shared→Prop):(X.wish E).Ok :=
  ⟨ok.mod,ok.kind,ok.glob,ok.blt,ok.above,ok.inj,ok.has,ok.cab,ok.hd,ok.frames,ok.stk,ok.exf,ok.bs,ok.bsz,ok.noex,ok.exfs,ok.funs,ok.frf⟩
theorem Cx.Ok.unwish {X:Cx} {E:Value→Shared→Prop} (ok:(X.wish E).Ok):X.Ok :=
  ⟨ok.mod,ok.kind,ok.glob,ok.blt,ok.above,ok.inj,ok.has,ok.cab,ok.hd,ok.frames,ok.stk,ok.exf,ok.bs,ok.bsz,ok.noex,ok.exfs,ok.funs,ok.frf⟩
section
variable {X:Cx} {pins:List (Addr × Obj)} {σ:St} {H:Hp} {s:Shared} {E:Value→Shared→Prop}
theorem Inv.wish (I:Inv X pins σ H s) (E:Value→Shared→Prop):Inv (X.wish E) pins σ H s:=⟨I.ok.wish E,I.os,I.bare,I.base,I.loc,I.cell,I.free,I.freeC,I.pin,I.hok,I.len⟩
theorem Inv.unwish (I:Inv (X.wish E) pins σ H s):Inv X pins σ H s:=⟨I.ok.unwish,I.os,I.bare,I.base,I.loc,I.cell,I.free,I.freeC,I.pin,I.hok,I.len⟩
theorem SP.unwish {D:Ends} {f:Flow} {s':Shared} (h:SP (X.wish E) pins D f s'):SP X pins D f s':=by
  cases f with
  | next=>obtain⟨σ',H',I,q⟩:=h;exact⟨σ',H',I.unwish,q⟩
  | brk=>obtain⟨σ',H',I,q⟩:=h;exact⟨σ',H',I.unwish,q⟩
  | cont=>obtain⟨σ',H',I,q⟩:=h;exact⟨σ',H',I.unwish,q⟩
  | ret u=>obtain⟨v,σ',H',I,r,q⟩:=h;exact⟨v,σ',H',I.unwish,r,q⟩
theorem PSs.nox {st:List Stmt} {t:TS} (h:PSs X.nox st t):PSs X st t:=fun pins s σ H D I hw =>
  wpAny_mono (h pins s σ H D (I.wish _) hw) (fun _ _ q=>q.unwish) fun _ _ z=>False.elim z
end
section
variable {X:Cx} {st:Stmt} {rest:List Stmt} {t u:TS} {e:Expr} {te:TE} {pos:Pos}
noncomputable def tNext:TS:=fun D σ H=>D.nx σ H
noncomputable def tSeq (t u:TS):TS:=fun D σ H=>t { D with nx:=u D } σ H
theorem pss_nil:PSs X [] tNext:=fun _ _ σ H _ I h=>wpAny_execs_nil ⟨σ,H,I,h⟩
theorem pss_cons (h1:PS X st t) (h2:PSs X rest u):PSs X (st::rest) (tSeq t u):=by
  intro pins s σ H D I h
  refine wpAny_execs_cons (thn (h1 pins s σ H { D with nx:=u D } I h) fun f s1 q=>?_)
  cases f with
  | next =>
    obtain⟨σ',H',I',q⟩:=q
    exact h2 pins s1 σ' H' D I' q
  | ret v=>exact q
  | brk=>exact q
  | cont=>exact q
theorem pss_one (h1:PS X st t):PSs X [st] t:=by
  intro pins s σ H D I h
  refine wpAny_execs_cons (thn (h1 pins s σ H D I h) fun f s1 q=>?_)
  cases f with
  | next=>exact wpAny_execs_nil q
  | ret v=>exact q
  | brk=>exact q
  | cont=>exact q
noncomputable def tBreak:TS:=fun D σ H=>D.bk σ H
noncomputable def tCont:TS:=fun D σ H=>D.ct σ H
theorem Inv.quiet {pins:List (Addr × Obj)} {σ:St} {H:Hp} {s:Shared} (I:Inv X pins σ H s):interactive X.env=false:=by simp[interactive,I.ok.kind]
noncomputable def tDrop (te:TE):TS:=fun D σ H=>te σ H fun _ H1=>D.nx σ H1
theorem ps_expr (he:PE X e te) (hs:swapsWith e none pos.line X.env=pure false:=by rfl):PS X (.Expr e pos) (tDrop te):=by
  intro pins s σ H D I h
  exact wpAny_Expr_any (thn (he pins s σ H _ I h) fun v s1 ⟨x,H1,I1,r1,q1⟩=>⟨σ,H1,I1,q1⟩) I.quiet hs
noncomputable def tRet (te:TE):TS:=fun D σ H=>te σ H D.rt
theorem ps_ret (he:PE X e te):PS X (.Return (some e) pos) (tRet te):=by
  intro pins s σ H D I h
  exact wpAny_Return_some (thn (he pins s σ H _ I h) fun v s1 ⟨x,H1,I1,r1,q1⟩=>⟨x,σ,H1,I1,r1,q1⟩)
noncomputable def tRetN:TS:=fun D _ H=>D.rt .non H
noncomputable def tIfS (c:TT) (t u:TS):TS:=fun D σ H=>c σ H fun b H1=>if b=true then t D σ H1 else u D σ H1
theorem ps_if {c:Expr} {a b:List Stmt} {tc:TT} (hc:PT X c tc) (ha:PSs X a t) (hb:PSs X b u):PS X (.If c a b pos) (tIfS tc t u):=by
  intro pins s σ H D I h
  refine wpAny_If (thn (hc pins s σ H _ I h) fun d s1 ⟨H1,I1,q1⟩=>?_)
  cases d with
  | true=>exact ha pins s1 σ H1 D I1 q1
  | false=>exact hb pins s1 σ H1 D I1 q1
noncomputable def tNever:TS:=fun _ _ _=>False
theorem pss_never {sts:List Stmt}:PSs X sts tNever:=fun _ _ _ _ _ _ h=>h.elim
end
noncomputable abbrev TG:=V→St→Hp→(St→Hp→Prop)→Prop
noncomputable abbrev TGs:=List V→St→Hp→(St→Hp→Prop)→Prop
noncomputable def PG (X:Cx) (target:Expr) (t:TG):Prop :=
  ∀ (pins:List (Addr × Obj)) (s:Shared) (σ:St) (H:Hp) (v:V) (u:Value) (Q:St→Hp→Prop),Inv X pins σ H s→RelV v u→t v σ H Q →
    wpAny (model X.prog X.w) X.A (assign target X.env u) (fun _ s'=>∃ σ' H',Inv X pins σ' H' s'∧Q σ' H') X.xe s
noncomputable def PGs (X:Cx) (ts:List Expr) (t:TGs):Prop :=
  ∀ (pins:List (Addr × Obj)) (s:Shared) (σ:St) (H:Hp) (vs:List V) (us:List Value) (Q:St→Hp→Prop),Inv X pins σ H s→Vals vs us→t vs σ H Q →
    wpAny (model X.prog X.w) X.A (assignInOrder ((assignEach ts X.env).map (·.2)) us) (fun _ s'=>∃ σ' H',Inv X pins σ' H' s'∧Q σ' H') X.xe s
noncomputable abbrev TSet:=V→V→V→Hp→(Hp→Prop)→Prop
noncomputable def PSet (X:Cx) (t:TSet):Prop :=
  ∀ (pins:List (Addr × Obj)) (s:Shared) (σ:St) (H:Hp) (o i v:V) (ov iv u:Value) (Q:Hp→Prop),Inv X pins σ H s→RelV o ov→RelV i iv→RelV v u→t o i v H Q →
    wpAny (model X.prog X.w) X.A (setItem ov iv u) (fun _ s'=>∃ H',Inv X pins σ H' s'∧Q H') X.xe s
noncomputable abbrev TIp:=V→V→Hp→VK→Prop
noncomputable def PIp (X:Cx) (op:Operator) (t:TIp):Prop :=
  ∀ (pins:List (Addr × Obj)) (s:Shared) (σ:St) (H:Hp) (x y:V) (v u:Value) (Q:VK),Inv X pins σ H s→RelV x v→RelV y u→t x y H Q →
    wpAny (model X.prog X.w) X.A (inplaceOp op v u) (EP X pins σ Q) X.xe s
section
variable {X:Cx} {pos:Pos}
noncomputable def gName (i:Nat):TG:=fun v σ H Q=>Q (σ.set i (some v)) H
theorem pg_name {i:Nat} {x:Str} (hN:X.N.Nodup) (hi:X.N[i]? = some x) (hx:Loc X.env.scope x) (hf:X.fn x=true∨X.env.scope.names.lookup x=some .local:=by first | exact .inl rfl | exact .inr rfl | assumption):PG X (.Name x pos) (gName i):=by
  intro pins s σ H v u Q I r h
  exact wpAny_assign_Name (store_ok I hN hi hx r (fun s' I'=>⟨_,H,I',h⟩) hf)
noncomputable def gNil:TGs:=fun vs σ H Q=>vs=[]∧Q σ H
noncomputable def gCons (t:TG) (u:TGs):TGs:=fun vs σ H Q=>∃ v r,vs=v::r∧t v σ H fun σ' H'=>u r σ' H' Q
theorem pgs_nil:PGs X [] gNil:=by
  intro pins s σ H vs us Q I r h
  obtain⟨e,h⟩:=h
  subst e
  cases r
  exact assignInOrder_nil ⟨σ,H,I,h⟩
theorem pgs_cons {e:Expr} {es:List Expr} {t:TG} {u:TGs} (h1:PG X e t) (h2:PGs X es u)
    (hs:(assignEach (e::es) X.env).map (·.2)=assign e X.env::(assignEach es X.env).map (·.2):=by rfl):PGs X (e::es) (gCons t u):=by
  intro pins s σ H vs us Q I r h
  obtain⟨v,vr,e1,h⟩:=h
  subst e1
  cases r with
  | cons r rr =>
    rw[hs]
    refine assignInOrder_cons (thn (h1 pins s σ H _ _ _ I r h) fun _ s1 ⟨σ1,H1,I1,q1⟩=>?_)
    exact h2 pins s1 σ1 H1 _ _ Q I1 rr q1
noncomputable def gTup (K:PySem.W.Frag) (n:Nat) (t:TGs):TG:=fun v σ H Q=>∃ a xs,v = .ref a∧SqT K H a xs∧xs.length=n∧t xs σ H Q
theorem pg_tup {es:List Expr} {k:Nat} {t:TGs} {n:Nat} (hc:X.calm=true) (h:PGs X es t)
    (hn:(assignEach es X.env).length=n:=by rfl) (hst:(assignEach es X.env).findIdx? (·.1)=none:=by rfl):PG X (.Tuple es k pos) (gTup X.K n t):=by
  intro pins s σ H v u Q I r hw
  obtain⟨a,xs,e1,hq,hl,hw⟩:=hw
  subst e1
  cases r
  obtain⟨its,rv,ht,hz⟩:=I.tuple hq
  refine assign_Tuple_tuple (I.ok.hd hc) ht (by simp[hn,← hl,rv.length]) hst fun h' hx=>?_
  have I1:Inv X pins σ H { s with heap:=h' }:=I.kept (t':=s.toks) fun b o e=>hx b o (Nat.ne_of_lt (Heap.lt_size e)) e
  exact h pins _ σ H xs _ Q I1 (by simpa using rv) hw
noncomputable def gSub (to ti:TE) (t:TSet):TG:=fun v σ H Q=>to σ H fun o H1=>ti σ H1 fun i H2=>t o i v H2 fun H3=>Q σ H3
noncomputable def tAsg (te:TE) (g:TG):TS:=fun D σ H=>te σ H fun x H1=>g x σ H1 D.nx
theorem ps_set {i:Nat} {x:Str} {e:Expr} {te:TE} {pos':Pos} (hN:X.N.Nodup) (hi:X.N[i]? = some x) (hx:Loc X.env.scope x) (he:PE X e te) (hs:swapsWith e (some (.Name x pos')) pos.line X.env=pure false:=by rfl) (hf:X.fn x=true∨X.env.scope.names.lookup x=some .local:=by first | exact .inl rfl | exact .inr rfl | assumption) :
    PS X (.Assign [.Name x pos'] e pos) (tAsg te (gName i)):=by
  intro pins s σ H D I h
  refine wpAny_Assign_Name (thn (he pins s σ H _ I h) fun v s1 ⟨y,H1,I1,r1,q1⟩=>?_) hs
  exact store_ok I1 hN hi hx r1 (fun s2 I2=>⟨_,H1,I2,q1⟩) hf
noncomputable def tPar (i j:Nat) (ta:TA):TS:=fun D σ H=>ta σ H fun vs H1=>∃ v w,vs=[v,w]∧D.nx ((σ.set i (some v)).set j (some w)) H1
noncomputable def tAug (i:Nat) (te:TE) (ti:TIp):TS:=fun D σ H=>∃ x,σ[i]? = some (some x)∧te σ H fun y H1=>ti x y H1 fun z H2=>D.nx (σ.set i (some z)) H2
noncomputable def tAugS (to ti te:TE) (tget:V→V→Hp→VK→Prop) (tip:TIp) (tset:TSet):TS:=fun D σ H=>to σ H fun o H1=>ti σ H1 fun i H2=>tget o i H2 fun x H3=>te σ H3 fun y H4=>tip x y H4 fun z H5=>tset o i z H5 fun H6=>D.nx σ H6
noncomputable def PGet (X:Cx) (t:V→V→Hp→VK→Prop):Prop :=
  ∀ (pins:List (Addr × Obj)) (s:Shared) (σ:St) (H:Hp) (o i:V) (ov iv:Value) (Q:VK),Inv X pins σ H s→RelV o ov→RelV i iv→t o i H Q →
    wpAny (model X.prog X.w) X.A (getItem ov iv) (EP X pins σ Q) X.xe s
noncomputable def ipI (f:Int→Int→Int):TIp:=fun x y H Q=>∃ i j,x = .int i∧y = .int j∧Q (.int (f i j)) H
end
section
variable {X:Cx} {pos:Pos}
noncomputable def tWhile (c:TT) (tb:TS):TS:=fun D σ H=>∃ W:Nat→St→Hp→Prop,(∃ m,W m σ H)∧∀ m σ H,W m σ H →
  c σ H fun b H1=>if b=true then ∃ N:St→Hp→Prop,(∀ σ' H',N σ' H'→∃ m',m'<m∧W m' σ' H')∧tb { D with nx:=N,ct:=N,bk:=D.nx } σ H1 else D.nx σ H1
end
structure It where
  go:Nat→Hp→Prop
  yld:Nat→Hp→V→Hp→Prop
  stop:Nat→Hp→Prop
noncomputable def FpOk (X:Cx) (pins:List (Addr × Obj)) (H:Hp) (b:Addr):Prop :=
  H b=none∧b≠X.env.locals∧b∉X.fs∧(b∈X.ex∨X.s₀.heap.get? b=none)∧(∀ x c,X.env.cells.lookup x=some c→c≠b)∧∀ p∈X.pn++pins,p.1≠b
theorem Inv.fpOk {X:Cx} {pins:List (Addr × Obj)} {σ:St} {H H':Hp} {s:Shared} {b:Addr} (I:Inv X pins σ H s) (hb:s.heap.objs.size≤b) (hn:H' b=none):FpOk X pins H' b:=by
  refine⟨hn,Nat.ne_of_gt (Nat.lt_of_lt_of_le I.lt hb),I.nofs hb,.inr (Heap.get?_none_of_le (Nat.le_trans I.sz hb)),fun x c e z=>?_,fun p hp z=>?_⟩
  · obtain⟨v,q⟩:=I.cell x c e
    exact absurd (Nat.lt_of_lt_of_le q.lt (by rw[z];exact hb)) (Nat.lt_irrefl _)
  · exact absurd (Nat.lt_of_lt_of_le (Heap.lt_size (I.pin p hp).1) (by rw[z];exact hb)) (Nat.lt_irrefl _)
structure Turn (P:Program) (w:World) (K:PySem.W.Frag) (tg:Expr) (J:It) (fp:List Addr) (it:Addr) (tn:Nat→Heap→Prop):Prop where
  mem:it∈fp
  obj:∀ i h,tn i h→∀ b∈fp,∃ o,h.get? b=some o∧∀ v,o.data≠.cell v
  keep:∀ i h h',tn i h→(∀ b∈fp,∀ o,h.get? b=some o→h'.get? b=some o)→tn i h'
  item:∀ (X:Cx),X.prog=P→X.w=w→X.K=K→X.calm=true→∀ (i:Nat) (pins:List (Addr × Obj)) (s:Shared) (σ:St) (H:Hp) (E:Value→Shared→Prop),Inv X pins σ H s→(∀ b∈fp,FpOk X pins H b)→tn i s.heap→J.go i H →
    wpAny (model P w) X.A (pyNext (.ref it)) (fun r s1=>∃ u,r=some u ∧
      wpAny (model P w) X.A (letOwnedTupleGo tg (.ref it) u) (fun _ s2=>∃ x H',Inv X pins σ H' s2∧RelV x u∧J.yld i H x H'∧tn (i+1) s2.heap∧∀ b∈fp,H' b=none) E s1) E s
  done:∀ (X:Cx),X.prog=P→X.w=w→X.K=K→X.calm=true→∀ (i:Nat) (pins:List (Addr × Obj)) (s:Shared) (σ:St) (H:Hp) (E:Value→Shared→Prop),Inv X pins σ H s→(∀ b∈fp,FpOk X pins H b)→tn i s.heap→J.stop i H →
    wpAny (model P w) X.A (pyNext (.ref it)) (fun r s1=>r=none∧Inv X pins σ H s1) E s
  self:∀ (A:Around) (i:Nat) (s:Shared) (Q:Value→Shared→Prop) (E:Value→Shared→Prop),tn i s.heap→Q (.ref it) s→wpAny (model P w) A (pyIter (.ref it)) Q E s
noncomputable abbrev TI:=St→Hp→(It→Hp→Prop)→Prop
noncomputable def PIE (X:Cx) (pins:List (Addr × Obj)) (σ:St) (tg:Expr) (R:It→Hp→Prop) (itv:Value) (s2:Shared):Prop :=
  ∃ (it:Addr) (fp:List Addr) (tn:Nat→Heap→Prop) (J:It) (H':Hp),itv = .ref it∧Inv X pins σ H' s2∧Turn X.prog X.w X.K tg J fp it tn∧tn 0 s2.heap∧(∀ b∈fp,FpOk X pins H' b)∧R J H'
noncomputable def PI (X:Cx) (tg iter:Expr) (wi:TI):Prop :=
  ∀ (pins:List (Addr × Obj)) (s:Shared) (σ:St) (H:Hp) (R:It→Hp→Prop),Inv X pins σ H s→wi σ H R →
    wpAny (model X.prog X.w) X.A (eval iter X.env) (fun v s1=>wpAny (model X.prog X.w) X.A (pyIter v) (PIE X pins σ tg R) X.xe s1) X.xe s
theorem go_of {M:Model} {A:Around} {E:Value→Shared→Prop} {s:Shared} {tg:Expr} {it:Addr} {u:Value} {o:Obj} {n:String} {vs:Array Value} {Q:Unit→Shared→Prop} (ho:s.heap.get? it=some o) (hc:o.cls = .type n) (hd:o.data = .fields vs)
    (hn:["enumerate","zip","dict_itemiterator","dict_reverseitemiterator","odict_iterator","itertools.zip_longest","itertools.pairwise"].contains n=false) (hQ:Q () s):wpAny M A (letOwnedTupleGo tg (.ref it) u) Q E s:=by
  unfold letOwnedTupleGo
  cases tg <;> first
    | exact wpAny_pure hQ
    | (cases u <;> first
        | exact wpAny_pure hQ
        | (refine wpAny_bind (wpAny_load ho ?_)
           rw[hc,hd]
           show wpAny M A (if (["enumerate","zip","dict_itemiterator","dict_reverseitemiterator","odict_iterator","itertools.zip_longest","itertools.pairwise"].contains n&&vs[0]? == some (rawInt _))=true then _ else _) Q E s
           rw[if_neg (by intro h;rw[hn,Bool.false_and] at h;cases h)]
           exact wpAny_pure hQ))
noncomputable def Itl (K:PySem.W.Frag) (a:Addr):It :=
  ⟨fun i H=>∃ xs x,SqL K H a xs∧xs[i]? = some x,fun i H x H'=>H'=H∧∀ xs,SqL K H a xs→xs[i]? = some x,fun i H=>∃ xs,SqL K H a xs∧xs.length≤i⟩
noncomputable def Itt (K:PySem.W.Frag) (a:Addr):It :=
  ⟨fun i H=>∃ xs x,SqT K H a xs∧xs[i]? = some x,fun i H x H'=>H'=H∧∀ xs,SqT K H a xs→xs[i]? = some x,fun i H=>∃ xs,SqT K H a xs∧xs.length≤i⟩
noncomputable def Itr (lo:Int) (n:Nat):It:=⟨fun i _=>i<n,fun i H x H'=>H'=H∧x = .int (lo+i),fun i _=>n≤i⟩
theorem turn_list {P:Program} {w:World} {K:PySem.W.Frag} {tg:Expr} (a it:Addr):Turn P w K tg (Itl K a) [it] it (fun i h=>h.IsListIter it a i) where
  mem:=by simp
  obj:=fun i h st b hb=>by
    have e:b=it:=by simpa using hb
    subst e
    obtain⟨o,e,c,d⟩:=st
    exact⟨o,e,fun v z=>by rw[d] at z;cases z⟩
  keep:=fun i h h' st k=>st.at fun o e=>k it (by simp) o e
  item:=by
    intro X hP hw hK hc i pins s σ H E I hf st hg
    subst hP hw hK
    obtain⟨xs,x,hq,hx⟩:=hg
    obtain⟨its,rv,p,hz⟩:=I.list hq
    obtain⟨u,hu,ru⟩:=rv.get hx
    obtain⟨f0,f1,f2,f3,f4,f5⟩:=hf it (by simp)
    refine wpAny_pyNext_list_item st p.isList (x:=u) (by simpa using hu) fun h' st' sb=>?_
    have I1:Inv X pins σ H { s with heap:=h' }:=I.turned (t':=s.toks) (fun b o hb e=>(sb.2 b hb).trans e) f0 f1 f3 f4 f5
    obtain⟨o,e,c,d⟩:=id st'
    exact⟨u,rfl,go_of (s:={ s with heap:=h' }) e c d (by decide) ⟨x,H,I1,ru,⟨rfl,fun ys hy=>by rw[I.list_inj hy hq];exact hx⟩,st',fun b hb=>(hf b hb).1⟩⟩
  done:=by
    intro X hP hw hK hc i pins s σ H E I hf st hg
    subst hP hw hK
    obtain⟨xs,hq,hx⟩:=hg
    obtain⟨its,rv,p,hz⟩:=I.list hq
    obtain⟨f0,f1,f2,f3,f4,f5⟩:=hf it (by simp)
    have hl:=rv.length
    exact wpAny_pyNext_list_end (I.ok.hd hc) st p.isList (by simp;omega) fun h' eb=>⟨rfl,I.turned (t':=s.toks) (fun b o hb e=>eb b o hb e) f0 f1 f3 f4 f5⟩
  self:=fun _ _ _ _ _ st h=>wpAny_pyIter_listiter st h
theorem turn_tuple {P:Program} {w:World} {K:PySem.W.Frag} {tg:Expr} (a it:Addr):Turn P w K tg (Itt K a) [it] it (fun i h=>h.IsTupleIter it a i) where
  mem:=by simp
  obj:=fun i h st b hb=>by
    have e:b=it:=by simpa using hb
    subst e
    obtain⟨o,e,c,d⟩:=st
    exact⟨o,e,fun v z=>by rw[d] at z;cases z⟩
  keep:=fun i h h' st k=>st.at fun o e=>k it (by simp) o e
  item:=by
    intro X hP hw hK hc i pins s σ H E I hf st hg
    subst hP hw hK
    obtain⟨xs,x,hq,hx⟩:=hg
    obtain⟨its,rv,p,hz⟩:=I.tuple hq
    obtain⟨u,hu,ru⟩:=rv.get hx
    obtain⟨f0,f1,f2,f3,f4,f5⟩:=hf it (by simp)
    refine wpAny_pyNext_tuple_item st (show s.heap.IsTuple a its.toArray from p) (x:=u) (by simpa using hu) fun h' st' sb=>?_
    have I1:Inv X pins σ H { s with heap:=h' }:=I.turned (t':=s.toks) (fun b o hb e=>(sb.2 b hb).trans e) f0 f1 f3 f4 f5
    obtain⟨o,e,c,d⟩:=id st'
    exact⟨u,rfl,go_of (s:={ s with heap:=h' }) e c d (by decide) ⟨x,H,I1,ru,⟨rfl,fun ys hy=>by rw[I.tuple_inj hy hq];exact hx⟩,st',fun b hb=>(hf b hb).1⟩⟩
  done:=by
    intro X hP hw hK hc i pins s σ H E I hf st hg
    subst hP hw hK
    obtain⟨xs,hq,hx⟩:=hg
    obtain⟨its,rv,p,hz⟩:=I.tuple hq
    obtain⟨f0,f1,f2,f3,f4,f5⟩:=hf it (by simp)
    have hl:=rv.length
    exact wpAny_pyNext_tuple_end (I.ok.hd hc) st (show s.heap.IsTuple a its.toArray from p) (by simp;omega) fun h' eb=>⟨rfl,I.turned (t':=s.toks) (fun b o hb e=>eb b o hb e) f0 f1 f3 f4 f5⟩
  self:=fun _ _ _ _ _ st h=>wpAny_pyIter_tupleiter st h
theorem turn_range {P:Program} {w:World} {K:PySem.W.Frag} {tg:Expr} (it:Addr) (lo:Int) (n:Nat):Turn P w K tg (Itr lo n) [it] it (fun i h=>IsRangeIter h it (lo+(i:Nat)*1) ((n:Int) - (i:Nat)) 1) where
  mem:=by simp
  obj:=fun i h st b hb=>by
    have e:b=it:=by simpa using hb
    subst e
    exact⟨_,st,fun v z=>by
      have z':Data.fields _=Data.cell v:=z
      cases z'⟩
  keep:=fun i h h' st k=>k it (by simp) _ st
  item:=by
    intro X hP hw hK hc i pins s σ H E I hf st hg
    subst hP hw hK
    obtain⟨f0,f1,f2,f3,f4,f5⟩:=hf it (by simp)
    have W:=Walks.range (prog:=X.prog) (w:=X.w) (I.ok.hd hc) it lo 1 n
    refine W.item i s _ _ hg st fun v h' tk hv st' kk=>?_
    obtain⟨t,rfl⟩:=hv
    have I1:Inv X pins σ H { s with heap:=h',toks:=tk }:=I.turned (fun b o hb e=>kk b o (by simpa using hb) e) f0 f1 f3 f4 f5
    refine⟨_,rfl,go_of (s:={ s with heap:=h',toks:=tk }) (n:="range_iterator") st' rfl rfl (by decide) ⟨.int (lo+i),H,I1,⟨t,?_⟩,⟨rfl,rfl⟩,st',fun b hb=>(hf b hb).1⟩⟩
    rw[Int.mul_one]
  done:=by
    intro X hP hw hK hc i pins s σ H E I hf st hg
    subst hP hw hK
    obtain⟨f0,f1,f2,f3,f4,f5⟩:=hf it (by simp)
    exact wpAny_pyNext_range_end (I.ok.hd hc) st (by have:n≤i:=hg;omega) fun h' eb=>⟨rfl,I.turned (t':=s.toks) (fun b o hb e=>eb b o hb e) f0 f1 f3 f4 f5⟩
  self:=fun _ _ _ _ _ st h=>wpAny_pyIter_rangeiter st h
section
variable {X:Cx} {tg:Expr}
noncomputable def iList (K:PySem.W.Frag) (tl:TE):TI:=fun σ H R=>tl σ H fun x H1=>∃ a,x = .ref a∧(∃ xs,SqL K H1 a xs)∧R (Itl K a) H1
noncomputable def iTup (K:PySem.W.Frag) (tl:TE):TI:=fun σ H R=>tl σ H fun x H1=>∃ a,x = .ref a∧(∃ xs,SqT K H1 a xs)∧R (Itt K a) H1
theorem pi_list {l:Expr} {tl:TE} (hl:PE X l tl):PI X tg l (iList X.K tl):=by
  intro pins s σ H R I h
  refine thn (hl pins s σ H _ I h) fun v s1 ⟨x,H1,I1,r1,q1⟩=>?_
  obtain⟨a,e,⟨xs,hq⟩,q⟩:=q1
  subst e
  cases r1
  obtain⟨its,rv,p,hz⟩:=I1.list hq
  refine wpAny_pyIter_list p.isList ?_
  refine⟨s1.heap.objs.size,[s1.heap.objs.size],_,_,H1,rfl,I1.kept (t':=s1.toks) fun b o e=>Heap.get?_push_of_some _ e,turn_list a _,⟨_,Heap.get?_push_size _ rfl,rfl,rfl⟩,fun b hb=>?_,q⟩
  have e:b=s1.heap.objs.size:=by simpa using hb
  subst e
  exact I1.fpOk (Nat.le_refl _) (I1.hok.fresh (Nat.le_refl _))
theorem pi_tup {l:Expr} {tl:TE} (hl:PE X l tl):PI X tg l (iTup X.K tl):=by
  intro pins s σ H R I h
  refine thn (hl pins s σ H _ I h) fun v s1 ⟨x,H1,I1,r1,q1⟩=>?_
  obtain⟨a,e,⟨xs,hq⟩,q⟩:=q1
  subst e
  cases r1
  obtain⟨its,rv,p,hz⟩:=I1.tuple hq
  refine wpAny_pyIter_tuple (show s1.heap.IsTuple a its.toArray from p) ?_
  refine⟨s1.heap.objs.size,[s1.heap.objs.size],_,_,H1,rfl,I1.kept (t':=s1.toks) fun b o e=>Heap.get?_push_of_some _ e,turn_tuple a _,⟨_,Heap.get?_push_size _ rfl,rfl,rfl⟩,fun b hb=>?_,q⟩
  have e:b=s1.heap.objs.size:=by simpa using hb
  subst e
  exact I1.fpOk (Nat.le_refl _) (I1.hok.fresh (Nat.le_refl _))
theorem range_it {pins:List (Addr × Obj)} {σ:St} {H:Hp} {s:Shared} {R:It→Hp→Prop} {E:Value→Shared→Prop} {lo hi:Int} {t u v:Tok} {tk:Nat} (I:Inv X pins σ H s) (h1:-(2 ^ 62)≤lo) (h2:lo<2 ^ 62) (h3:-(2 ^ 62)≤hi) (h4:hi<2 ^ 62)
    (q:R (Itr lo (hi - lo).toNat) H):wpAny (model X.prog X.w) X.A (pyIter (.ref s.heap.objs.size)) (PIE X pins σ tg R) E { s with heap:=s.heap.push { cls:=.type "range",data:=.fields #[.int lo t,.int hi u,.int 1 v] },toks:=tk }:=by
  refine wpAny_pyIter_range (IsRange.new ..) (small_one h1 h2 h3 h4) ?_
  have I1:Inv X pins σ H { s with heap:=s.heap.push { cls:=.type "range",data:=.fields #[.int lo t,.int hi u,.int 1 v] },toks:=tk }:=I.kept fun b o e=>Heap.get?_push_of_some _ e
  refine⟨(s.heap.push { cls:=.type "range",data:=.fields #[.int lo t,.int hi u,.int 1 v] }).objs.size,[(s.heap.push { cls:=.type "range",data:=.fields #[.int lo t,.int hi u,.int 1 v] }).objs.size],_,_,H,rfl,
    I1.kept (t':=tk) fun b o e=>Heap.get?_push_of_some _ e,turn_range _ lo (hi - lo).toNat,?_,fun b hb=>?_,q⟩
  · have e1:lo+((0:Nat):Int)*1=lo:=by simp
    have e2:(((hi - lo).toNat:Nat):Int) - ((0:Nat):Int)=Builtin.Range.rangeSize lo hi 1:=by rw[rangeSize_one];split <;> omega
    show IsRangeIter _ _ (lo+((0:Nat):Int)*1) ((((hi - lo).toNat:Nat):Int) - ((0:Nat):Int)) 1
    rw[e1,e2]
    exact Heap.get?_push_size _ rfl
  · have e:b=(s.heap.push { cls:=.type "range",data:=.fields #[.int lo t,.int hi u,.int 1 v] }).objs.size:=by simpa using hb
    subst e
    exact I1.fpOk (Nat.le_refl _) (I1.hok.fresh (Nat.le_refl _))
noncomputable def iRng1 (ta:TA):TI:=fun σ H R=>ta σ H fun vs H1=>∃ j:Int,vs=[.int j]∧-(2 ^ 62)≤j∧j<2 ^ 62∧R (Itr 0 j.toNat) H1
noncomputable def iRng2 (ta:TA):TI:=fun σ H R=>ta σ H fun vs H1=>∃ i j:Int,vs=[.int i,.int j]∧(-(2 ^ 62)≤i∧i<2 ^ 62∧-(2 ^ 62)≤j∧j<2 ^ 62)∧R (Itr i (j - i).toNat) H1
theorem pi_range1 {a:Expr} {ta:TA} {p pos:Pos} (hg:Gl X "range") (hm:X.mg "range" = none) (ha:PA X [a] ta) (hs:starEach [a] X.env=[(false,eval a X.env)]:=by rfl):PI X tg (.Call (.Name "range" p) [a] [] pos) (iRng1 ta):=by
  intro pins s σ H R I h
  refine Call_ (ld_blt I hg hm boot_range (PyProof.Rows.callWith_type1 (thn (ha pos pins s σ H _ I h) fun us s1 ⟨vs,H1,I1,r1,q1⟩=>?_) hs rfl))
  obtain⟨j,e,q1,q2,q⟩:=q1
  subst e
  cases r1 with
  | cons r rr =>
    cases rr
    obtain⟨t,rfl⟩:=r
    exact call_range_1 (range_it I1 (by omega) (by omega) q1 q2 (by simpa using q))
noncomputable def tFor (wi:TI) (g:TG) (tb:TS):TS:=fun D σ H=>wi σ H fun J H1=>∃ W:Nat→Nat→St→Hp→Prop,(∃ m,W 0 m σ H1)∧∀ i m σ H,W i m σ H →
  (J.stop i H∧D.nx σ H)∨(J.go i H∧∃ N:St→Hp→Prop,(∀ σ' H',N σ' H'→∃ m',m'<m∧W (i+1) m' σ' H')∧∀ x H',J.yld i H x H'→g x σ H' fun σ2 H2=>tb { D with nx:=N,ct:=N,bk:=D.nx } σ2 H2)
noncomputable def pinsAt (fp:List Addr) (h:Heap):List (Addr × Obj):=fp.filterMap fun b=>(h.get? b).map fun o=>(b,o)
theorem mem_pinsAt {fp:List Addr} {h:Heap} {b:Addr} {o:Obj} (hb:b∈fp) (e:h.get? b=some o):(b,o)∈pinsAt fp h:=List.mem_filterMap.mpr ⟨b,hb,by rw[e];rfl⟩
theorem of_pinsAt {fp:List Addr} {h:Heap} {p:Addr × Obj} (hp:p∈pinsAt fp h):p.1∈fp∧h.get? p.1=some p.2:=by
  obtain⟨b,hb,e⟩:=List.mem_filterMap.mp hp
  cases q:h.get? b with
  | none=>rw[q] at e;cases e
  | some o =>
    rw[q] at e
    have e':(b,o)=p:=Option.some.inj e
    subst e'
    exact⟨hb,q⟩
theorem Inv.pinned {pins:List (Addr × Obj)} {σ:St} {H:Hp} {s:Shared} {fp:List Addr} (I:Inv X pins σ H s) (hf:∀ b∈fp,FpOk X pins H b) (ho:∀ b∈fp,∃ o,s.heap.get? b=some o∧∀ v,o.data≠.cell v):Inv X (pins++pinsAt fp s.heap) σ H s :=
  I.pins_of fun p hp=>(List.mem_append.mp hp).elim (fun z=>I.pin p (List.mem_append_right _ z)) fun z=>by
    obtain⟨hb,e⟩:=of_pinsAt z
    obtain⟨f0,f1,f2,_⟩:=hf p.1 hb
    obtain⟨o,e',d⟩:=ho p.1 hb
    rw[e] at e';cases e'
    exact⟨e,f0,f1,f2,d⟩
theorem Inv.unpinned {pins pl:List (Addr × Obj)} {σ:St} {H:Hp} {s:Shared} (I:Inv X (pins++pl) σ H s):Inv X pins σ H s:=I.pins_of fun p hp=>I.pin p (List.mem_append_right _ (List.mem_append_left _ hp))
theorem ps_for {iter:Expr} {body:List Stmt} {wi:TI} {g:TG} {tb:TS} {pos:Pos} (hp:PassesOwn (model X.prog X.w) X.A X.env X.xe) (hc:X.calm=true) (hi:PI X tg iter wi) (hg:PG X tg g) (hb:PSs X body tb)
    (hs:∀ x,foldedSetIterable iter X.env x=pure x:=by intro _;rfl):PS X (.For tg iter body [] pos) (tFor wi g tb):=by
  intro pins s σ H D I h
  refine wpAny_For (thn (hi pins s σ H _ I h) fun v s1 h1=>thn h1 fun itv s2 h2=>?_) hs
  obtain⟨it,fp,tn,J,H2,e,I2,T,st2,f2,W,⟨m0,w0⟩,turn⟩:=h2
  subst e
  have stat:∀ {H':Hp},(∀ b∈fp,H' b=none)→∀ b∈fp,FpOk X pins H' b:=fun hn b hb=>⟨hn b hb,(f2 b hb).2⟩
  refine codeAny_forLoop_any (fun n s'=>∃ i σ' H',Inv X pins σ' H' s'∧tn i s'.heap∧(∀ b∈fp,H' b=none)∧W i n σ' H') ?_ m0 ⟨0,σ,H2,I2,st2,fun b hb=>(f2 b hb).1,w0⟩
  rintro n s3 ⟨i,σ3,H3,I3,st3,fr3,w3⟩
  rcases turn i n σ3 H3 w3 with ⟨stop,qn⟩ | ⟨go,N,hN,step⟩
  · refine wpAny_passesOwn hp (thn (T.done X rfl rfl rfl hc i pins s3 σ3 H3 X.xe I3 (stat fr3) st3 stop) fun r s4 ⟨hr,I4⟩=>?_)
    subst hr
    exact wpAny_execs_nil ⟨σ3,H3,I4,qn⟩
  · refine wpAny_passesOwn hp (thn (T.item X rfl rfl rfl hc i pins s3 σ3 H3 X.xe I3 (stat fr3) st3 go) fun r s4 ⟨u,hr,h4⟩=>?_)
    subst hr
    refine wpAny_passesOwn hp (thn h4 fun _ s5 ⟨x,H5,I5,r5,y5,st5,fr5⟩=>?_)
    have I5':=I5.pinned (stat fr5) (T.obj _ _ st5)
    refine wpAny_passesOwn hp (thn (hg _ s5 σ3 H5 x u _ I5' r5 (step x H5 y5)) fun _ s6 ⟨σ6,H6,I6,q6⟩=>?_)
    refine wpAny_passesOwn hp (thn (hb _ s6 σ6 H6 _ I6 q6) fun f s7 q7=>?_)
    have again:∀ {σ7:St} {H7:Hp},Inv X (pins++pinsAt fp s5.heap) σ7 H7 s7→N σ7 H7→∃ m,m<n∧∃ i σ' H',Inv X pins σ' H' s7∧tn i s7.heap∧(∀ b∈fp,H' b=none)∧W i m σ' H':=fun {σ7 H7} I7 n7=>by
      obtain⟨m',hm,w7⟩:=hN σ7 H7 n7
      refine⟨m',hm,i+1,σ7,H7,I7.unpinned,T.keep _ _ _ st5 fun b hb o e=>(I7.pin (b,o) (List.mem_append_right _ (List.mem_append_right _ (mem_pinsAt hb e)))).1,fun b hb=>?_,w7⟩
      obtain⟨o,e,d⟩:=T.obj _ _ st5 b hb
      exact (I7.pin (b,o) (List.mem_append_right _ (List.mem_append_right _ (mem_pinsAt hb e)))).2.1
    cases f with
    | next=>obtain⟨σ7,H7,I7,n7⟩:=q7;exact again I7 n7
    | cont=>obtain⟨σ7,H7,I7,n7⟩:=q7;exact again I7 n7
    | brk=>obtain⟨σ7,H7,I7,q7⟩:=q7;exact⟨σ7,H7,I7.unpinned,q7⟩
    | ret v=>obtain⟨x7,σ7,H7,I7,r7,q7⟩:=q7;exact⟨x7,σ7,H7,I7.unpinned,r7,q7⟩
end
theorem for_range {lo:Int} {n:Nat} {g:TG} {tb:TS} {D:Ends} {σ:St} {H:Hp} (Pv:Nat→St→Hp→Prop) (h0:Pv 0 σ H)
    (hs:∀ i σ H,i<n→Pv i σ H→g (.int (lo+i)) σ H fun σ2 H2=>tb { D with nx:=Pv (i+1),ct:=Pv (i+1),bk:=D.nx } σ2 H2) (hd:∀ σ H,Pv n σ H→D.nx σ H) :
    ∃ W:Nat→Nat→St→Hp→Prop,(∃ m,W 0 m σ H)∧∀ i m σ H,W i m σ H →
      ((Itr lo n).stop i H∧D.nx σ H)∨((Itr lo n).go i H∧∃ N:St→Hp→Prop,(∀ σ' H',N σ' H'→∃ m',m'<m∧W (i+1) m' σ' H')∧∀ x H',(Itr lo n).yld i H x H'→g x σ H' fun σ2 H2=>tb { D with nx:=N,ct:=N,bk:=D.nx } σ2 H2):=by
  refine⟨fun i m σ H=>m=n - i∧i≤n∧Pv i σ H,⟨n,by simp,Nat.zero_le _,h0⟩,?_⟩
  rintro i m σ H ⟨rfl,hi,p⟩
  by_cases hlt:i<n
  · refine .inr ⟨hlt,Pv (i+1),fun σ' H' p'=>⟨n - (i+1),by omega,rfl,hlt,p'⟩,fun x H' y=>?_⟩
    obtain⟨e,y⟩:=y
    subst e y
    exact hs i σ _ hlt p
  · have e:i=n:=by omega
    subst e
    exact .inl ⟨Nat.le_refl _,hd σ H p⟩
noncomputable abbrev R2:=V→V→Hp→VK→Prop
noncomputable def OpR (X:Cx) (f:Value→Value→Sem Value) (r:R2):Prop :=
  ∀ (pins:List (Addr × Obj)) (s:Shared) (σ:St) (H:Hp) (x y:V) (v u:Value) (Q:VK),Inv X pins σ H s→RelV x v→RelV y u→r x y H Q →
    wpAny (model X.prog X.w) X.A (f v u) (EP X pins σ Q) X.xe s
noncomputable def UnR (X:Cx) (f:Value→Sem Value) (r:V→Hp→VK→Prop):Prop :=
  ∀ (pins:List (Addr × Obj)) (s:Shared) (σ:St) (H:Hp) (x:V) (v:Value) (Q:VK),Inv X pins σ H s→RelV x v→r x H Q →
    wpAny (model X.prog X.w) X.A (f v) (EP X pins σ Q) X.xe s
noncomputable def CallR (X:Cx) (f:Value) (r:List V→Hp→VK→Prop):Prop :=
  ∀ (pins:List (Addr × Obj)) (s:Shared) (σ:St) (H:Hp) (xs:List V) (us:List Value) (Q:VK),Inv X pins σ H s→Vals xs us→r xs H Q →
    wpAny (model X.prog X.w) X.A (call f us) (EP X pins σ Q) X.xe s
noncomputable def TruR (X:Cx) (r:V→Hp→(Bool→Hp→Prop)→Prop):Prop :=
  ∀ (pins:List (Addr × Obj)) (s:Shared) (σ:St) (H:Hp) (x:V) (v:Value) (Q:Bool→Hp→Prop),Inv X pins σ H s→RelV x v→r x H Q →
    wpAny (model X.prog X.w) X.A (truthy v) (TP X pins σ Q) X.xe s
noncomputable def tOp (r:R2) (ta tb:TE):TE:=fun σ H Q=>ta σ H fun x H1=>tb σ H1 fun y H2=>r x y H2 Q
noncomputable def tUn (r:V→Hp→VK→Prop) (ta:TE):TE:=fun σ H Q=>ta σ H fun x H1=>r x H1 Q
noncomputable def rI (C:Int→Int→Prop) (g:Int→Int→V):R2:=fun x y H Q=>∃ i j,x = .int i∧y = .int j∧C i j∧Q (g i j) H
noncomputable def rI0 (g:Int→Int→V):R2:=fun x y H Q=>∃ i j,x = .int i∧y = .int j∧Q (g i j) H
noncomputable def rU (g:Int→V):V→Hp→VK→Prop:=fun x H Q=>∃ i,x = .int i∧Q (g i) H
section
variable {X:Cx} {a b c:Expr} {ta tb tc:TE} {pos:Pos}
theorem binT (ha:PE X a ta) (hb:PE X b tb) {pins:List (Addr × Obj)} {s:Shared} {σ:St} {H:Hp} {R:V→V→Hp→Prop} (I:Inv X pins σ H s)
    (h:ta σ H fun x H1=>tb σ H1 fun y H2=>R x y H2) {Q:Value→Shared→Prop} {f:Value→Value→Sem Value}
    (hf:∀ v u s2 x y H2,Inv X pins σ H2 s2→RelV x v→RelV y u→R x y H2→wpAny (model X.prog X.w) X.A (f v u) Q X.xe s2) :
    wpAny (model X.prog X.w) X.A (eval a X.env) (fun v s₁=>wpAny (model X.prog X.w) X.A (eval b X.env) (fun u s₂=>wpAny (model X.prog X.w) X.A (f v u) Q X.xe s₂) X.xe s₁) X.xe s:=by
  refine thn (ha pins s σ H _ I h) fun v s1 ⟨x,H1,I1,r1,q1⟩=>?_
  refine thn (hb pins s1 σ H1 _ I1 q1) fun u s2 ⟨y,H2,I2,r2,q2⟩=>?_
  exact hf v u s2 x y H2 I2 r1 r2 q2
theorem pe_op {op:Operator} {r:R2} (ho:OpR X (binaryOp op) r) (ha:PE X a ta) (hb:PE X b tb):PE X (.BinOp a op b pos) (tOp r ta tb):=by
  intro pins s σ H Q I h
  exact wpAny_BinOp (binT ha hb I h fun v u s2 x y H2 I2 rx ry q=>ho pins s2 σ H2 x y v u Q I2 rx ry q)
theorem pe_un {op:UnaryOp} {r:V→Hp→VK→Prop} (ho:UnR X (unaryOp op) r) (ha:PE X a ta):PE X (.UnaryOp op a pos) (tUn r ta):=by
  intro pins s σ H Q I h
  exact UnaryOp_ (thn (ha pins s σ H _ I h) fun v s1 ⟨x,H1,I1,r1,q1⟩=>ho pins s1 σ H1 x v Q I1 r1 q1)
theorem opI {f:Value→Value→Sem Value} {C:Int→Int→Prop} {g:Int→Int→Int}
    (rule:∀ (i j:Int) (t u:Tok) (s:Shared) (Q:Value→Shared→Prop) (E:Value→Shared→Prop),C i j→Q (.int (g i j) s.toks) { s with toks:=s.toks+1 }→wpAny (model X.prog X.w) X.A (f (.int i t) (.int j u)) Q E s) :
    OpR X f (rI C fun i j=>.int (g i j)):=by
  intro pins s σ H x y v u Q I rx ry h
  obtain⟨i,j,rfl,rfl,hc,q⟩:=h
  obtain⟨t,rfl⟩:=rx
  obtain⟨t',rfl⟩:=ry
  exact rule i j t t' s _ _ hc ⟨.int (g i j),H,I.tok _,⟨_,rfl⟩,q⟩
theorem opI0 {f:Value→Value→Sem Value} {g:Int→Int→Int}
    (rule:∀ (i j:Int) (t u:Tok) (s:Shared) (Q:Value→Shared→Prop) (E:Value→Shared→Prop),Q (.int (g i j) s.toks) { s with toks:=s.toks+1 }→wpAny (model X.prog X.w) X.A (f (.int i t) (.int j u)) Q E s) :
    OpR X f (rI0 fun i j=>.int (g i j)):=by
  intro pins s σ H x y v u Q I rx ry h
  obtain⟨i,j,rfl,rfl,q⟩:=h
  obtain⟨t,rfl⟩:=rx
  obtain⟨t',rfl⟩:=ry
  exact rule i j t t' s _ _ ⟨.int (g i j),H,I.tok _,⟨_,rfl⟩,q⟩
theorem opB0 {f:Value→Value→Sem Value} {g:Int→Int→Bool}
    (rule:∀ (i j:Int) (t u:Tok) (s:Shared) (Q:Value→Shared→Prop) (E:Value→Shared→Prop),Q (.bool (g i j)) s→wpAny (model X.prog X.w) X.A (f (.int i t) (.int j u)) Q E s) :
    OpR X f (rI0 fun i j=>.bl (g i j)):=by
  intro pins s σ H x y v u Q I rx ry h
  obtain⟨i,j,rfl,rfl,q⟩:=h
  obtain⟨t,rfl⟩:=rx
  obtain⟨t',rfl⟩:=ry
  exact rule i j t t' s _ _ ⟨.bl (g i j),H,I,rfl,q⟩
noncomputable def CDiv (i j:Int):Prop:=0<j∧j<1073741824
noncomputable def CDivN (i j:Int):Prop:=j≠0∧j.natAbs<1073741824
noncomputable def CPow (i j:Int):Prop:=0≤j∧j≤1000000∧i.natAbs<2 ^ 64
noncomputable def CMul (i j:Int):Prop:=(-(2 ^ 64)<i∧i<2 ^ 64)∨(-(2 ^ 64)<j∧j<2 ^ 64)
theorem CMul.ok {i j:Int} (h:CMul i j):IntMulOk i j:=by
  rcases h with ⟨h1,h2⟩ | ⟨h1,h2⟩
  · exact .of_left (intBits_le_64 h1 h2)
  · exact .of_right (intBits_le_64 h1 h2)
theorem op_add:OpR X (binaryOp .Add) (rI0 fun i j=>.int (i+j)):=opI0 fun _ _ _ _ _ _ _ q=>add_int q
theorem op_sub:OpR X (binaryOp .Sub) (rI0 fun i j=>.int (i - j)):=opI0 fun _ _ _ _ _ _ _ q=>sub_int q
theorem op_mul:OpR X (binaryOp .Mult) (rI CMul fun i j=>.int (i*j)):=opI fun _ _ _ _ _ _ _ hc q=>mul_int q hc.ok
theorem op_fdiv:OpR X (binaryOp .FloorDiv) (rI CDiv fun i j=>.int (i/j)):=opI fun i j _ _ _ _ _ hc q=>by
  have h1:(0:Int)<j:=hc.1
  have h2:j<1073741824:=hc.2
  exact floordiv_int (by omega) (by rw[Int.fdiv_eq_ediv_of_nonneg i (by omega)];exact q) (.inl (PyProof.noPylong_small (by omega)))
theorem op_mod:OpR X (binaryOp .Mod) (rI (fun _ j=>0<j) fun i j=>.int (i%j)):=opI fun i j _ _ _ _ _ hc q=>by
  have h1:(0:Int)<j:=hc
  exact mod_int' (by omega) (by rw[Int.fmod_eq_emod_of_nonneg i (by omega)];exact q)
theorem op_pow:OpR X (binaryOp .Pow) (rI CPow fun i j=>.int (i ^ j.toNat)):=opI fun _ _ _ _ _ _ _ hc q=>pow_int_small hc.1 hc.2.1 hc.2.2 q
theorem unI {f:Value→Sem Value} {g:Int→Int}
    (rule:∀ (i:Int) (t:Tok) (s:Shared) (Q:Value→Shared→Prop) (E:Value→Shared→Prop),Q (.int (g i) s.toks) { s with toks:=s.toks+1 }→wpAny (model X.prog X.w) X.A (f (.int i t)) Q E s) :
    UnR X f (rU fun i=>.int (g i)):=by
  intro pins s σ H x v Q I rx h
  obtain⟨i,rfl,q⟩:=h
  obtain⟨t,rfl⟩:=rx
  exact rule i t s _ _ ⟨.int (g i),H,I.tok _,⟨_,rfl⟩,q⟩
theorem un_neg:UnR X (unaryOp .USub) (rU fun i=>.int (-i)):=unI fun _ _ _ _ _ q=>neg_int q
end
noncomputable def scal:V→V→Bool
  | .non,.non=>true | .non,.int _=>true | .int _,.non=>true | .non,.bl _=>true | .bl _,.non=>true | .non,.str _=>true | .str _,.non=>true
  | .int _,.int _=>true | .bl _,.bl _=>true | .str _,.str _=>true | .byt _,.byt _=>true
  | .int _,.str _=>true | .str _,.int _=>true | .bl _,.str _=>true | .str _,.bl _=>true
  | _,_=>false
noncomputable def rEq:R2:=fun x y H Q=>scal x y=true∧Q (.bl (decide (x=y))) H
noncomputable def rNe:R2:=fun x y H Q=>scal x y=true∧Q (.bl (!decide (x=y))) H
theorem dec_int {i j:Int}:decide (V.int i=V.int j)=(i==j):=by
  rw[Bool.eq_iff_iff]
  simp
theorem dec_bl {i j:Bool}:decide (V.bl i=V.bl j)=(i==j):=by
  rw[Bool.eq_iff_iff]
  simp
theorem dec_str {i j:Str}:decide (V.str i=V.str j)=(i==j):=by
  rw[Bool.eq_iff_iff]
  simp
theorem dec_byt {i j:Array UInt8}:decide (V.byt i=V.byt j)=(i.toList==j.toList):=by
  rw[Bool.eq_iff_iff]
  cases i
  cases j
  simp
section
variable {X:Cx} {a b c:Expr} {ta tb tc:TE} {pos:Pos}
theorem fin_bl {pins:List (Addr × Obj)} {σ:St} {H:Hp} {s:Shared} {Q:VK} {k k':Bool} (I:Inv X pins σ H s) (q:Q (.bl k) H) (e:k=k'):EP X pins σ Q (.bool k') s:=by
  subst e
  exact⟨.bl k,H,I,rfl,q⟩
theorem op_eq:OpR X (compareOp .Eq) rEq:=by
  intro pins s σ H x y v u Q I rx ry h
  obtain⟨hs,q⟩:=h
  cases x with
  | non =>
    cases rx
    cases y with
    | non=>cases ry;exact PySem.EqNone.eq_none_none (fin_bl I q (by simp))
    | bl j=>cases ry;exact PySem.EqNone.eq_none_bool (fin_bl I q (by simp))
    | int j=>obtain⟨t',rfl⟩:=ry;exact PySem.EqNone.eq_none_int (fin_bl I q (by simp))
    | str j=>obtain⟨t',rfl⟩:=ry;exact PySem.EqNone.eq_none_str (fin_bl I q (by simp))
    | _=>exact absurd (show false=true from hs) Bool.false_ne_true
  | bl i =>
    cases rx
    cases y with
    | non=>cases ry;exact PySem.EqNone.eq_bool_none (fin_bl I q (by simp))
    | bl j=>cases ry;exact eq_bool (fin_bl I q dec_bl)
    | str j=>obtain⟨t',rfl⟩:=ry;exact PySem.EqMixed.eq_bool_str (fin_bl I q (by simp))
    | _=>exact absurd (show false=true from hs) Bool.false_ne_true
  | int i =>
    obtain⟨t,rfl⟩:=rx
    cases y with
    | non=>cases ry;exact PySem.EqNone.eq_int_none (fin_bl I q (by simp))
    | int j=>obtain⟨t',rfl⟩:=ry;exact eq_int (fin_bl I q dec_int)
    | str j=>obtain⟨t',rfl⟩:=ry;exact PySem.EqMixed.eq_int_str (fin_bl I q (by simp))
    | _=>exact absurd (show false=true from hs) Bool.false_ne_true
  | str i =>
    obtain⟨t,rfl⟩:=rx
    cases y with
    | non=>cases ry;exact PySem.EqNone.eq_str_none (fin_bl I q (by simp))
    | bl j=>cases ry;exact PySem.EqMixed.eq_str_bool (fin_bl I q (by simp))
    | int j=>obtain⟨t',rfl⟩:=ry;exact PySem.EqMixed.eq_str_int (fin_bl I q (by simp))
    | str j=>obtain⟨t',rfl⟩:=ry;exact eq_str (fin_bl I q dec_str)
    | _=>exact absurd (show false=true from hs) Bool.false_ne_true
  | byt i =>
    obtain⟨t,rfl⟩:=rx
    cases y with
    | byt j=>obtain⟨t',rfl⟩:=ry;exact PySem.W.eq_bytes (fin_bl I q dec_byt)
    | _=>exact absurd (show false=true from hs) Bool.false_ne_true
  | _=>cases y <;> exact absurd (show false=true from hs) Bool.false_ne_true
theorem op_ne:OpR X (compareOp .NotEq) rNe:=by
  intro pins s σ H x y v u Q I rx ry h
  obtain⟨hs,q⟩:=h
  cases x with
  | non =>
    cases rx
    cases y with
    | non=>cases ry;exact PySem.EqNone.ne_none_none (fin_bl I q (by simp))
    | bl j=>cases ry;exact PySem.EqNone.ne_none_bool (fin_bl I q (by simp))
    | int j=>obtain⟨t',rfl⟩:=ry;exact PySem.EqNone.ne_none_int (fin_bl I q (by simp))
    | str j=>obtain⟨t',rfl⟩:=ry;exact PySem.EqNone.ne_none_str (fin_bl I q (by simp))
    | _=>exact absurd (show false=true from hs) Bool.false_ne_true
  | bl i =>
    cases rx
    cases y with
    | non=>cases ry;exact PySem.EqNone.ne_bool_none (fin_bl I q (by simp))
    | bl j=>cases ry;exact ne_bool (fin_bl I q (congrArg not dec_bl))
    | str j=>obtain⟨t',rfl⟩:=ry;exact PySem.EqMixed.ne_bool_str (fin_bl I q (by simp))
    | _=>exact absurd (show false=true from hs) Bool.false_ne_true
  | int i =>
    obtain⟨t,rfl⟩:=rx
    cases y with
    | non=>cases ry;exact PySem.EqNone.ne_int_none (fin_bl I q (by simp))
    | int j=>obtain⟨t',rfl⟩:=ry;exact ne_int (fin_bl I q (congrArg not dec_int))
    | str j=>obtain⟨t',rfl⟩:=ry;exact PySem.EqMixed.ne_int_str (fin_bl I q (by simp))
    | _=>exact absurd (show false=true from hs) Bool.false_ne_true
  | str i =>
    obtain⟨t,rfl⟩:=rx
    cases y with
    | non=>cases ry;exact PySem.EqNone.ne_str_none (fin_bl I q (by simp))
    | bl j=>cases ry;exact PySem.EqMixed.ne_str_bool (fin_bl I q (by simp))
    | int j=>obtain⟨t',rfl⟩:=ry;exact PySem.EqMixed.ne_str_int (fin_bl I q (by simp))
    | str j=>obtain⟨t',rfl⟩:=ry;exact ne_str (fin_bl I q (congrArg not dec_str))
    | _=>exact absurd (show false=true from hs) Bool.false_ne_true
  | byt i =>
    obtain⟨t,rfl⟩:=rx
    cases y with
    | byt j=>obtain⟨t',rfl⟩:=ry;exact PySem.W.ne_bytes (fin_bl I q (congrArg not dec_byt))
    | _=>exact absurd (show false=true from hs) Bool.false_ne_true
  | _=>cases y <;> exact absurd (show false=true from hs) Bool.false_ne_true
theorem op_lt:OpR X (compareOp .Lt) (rI0 fun i j=>.bl (decide (i<j))):=opB0 fun _ _ _ _ _ _ _ q=>lt_int q
theorem op_le:OpR X (compareOp .LtE) (rI0 fun i j=>.bl (decide (i≤j))):=opB0 fun _ _ _ _ _ _ _ q=>le_int q
theorem op_gt:OpR X (compareOp .Gt) (rI0 fun i j=>.bl (decide (j<i))):=opB0 fun _ _ _ _ _ _ _ q=>gt_int q
theorem op_in_str:OpR X (compareOp .In) (fun x y H Q=>∃ i j,x = .str i∧y = .str j∧Q (.bl (!(Builtin.Str.occurrences j i 0 j.length 1).isEmpty)) H):=by
  intro pins s σ H x y v u Q I rx ry h
  obtain⟨i,j,rfl,rfl,q⟩:=h
  obtain⟨t,rfl⟩:=rx
  obtain⟨t',rfl⟩:=ry
  exact in_str (fin_bl I q rfl)
noncomputable def isObj:HO→Bool
  | .lst _=>true
  | .ins _ _ _=>true
  | _=>false
theorem nomark (b:Expr) {op:CmpOp} (h:op≠.In:=by decide) (h2:op≠.NotIn:=by decide):behindInMarks op b=false:=by
  have e1:(op==CmpOp.In)=false:=by cases op <;> first | rfl | exact absurd rfl h
  have e2:(op==CmpOp.NotIn)=false:=by cases op <;> first | rfl | exact absurd rfl h2
  cases b <;> simp[behindInMarks,e1,e2]
theorem pe_cmpR {op:CmpOp} {r:R2} (ho:OpR X (compareOp op) r) (ha:PE X a ta) (hb:PE X b tb) (hm:behindInMarks op b=false):PE X (.Compare a [op] [b] pos) (tOp r ta tb):=by
  intro pins s σ H Q I h
  exact wpAny_Compare1 (binT ha hb I h fun v u s2 x y H2 I2 rx ry q=>ho pins s2 σ H2 x y v u Q I2 rx ry q) hm
noncomputable def tTest (t:TE):TT:=fun σ H Q=>t σ H fun x H'=>∃ k,x = .bl k∧Q k H'
theorem pt_cmpR {op:CmpOp} {r:R2} (ho:OpR X (compareOp op) r) (ha:PE X a ta) (hb:PE X b tb) (hm:behindInMarks op b=false):PT X (.Compare a [op] [b] pos) (tTest (tOp r ta tb)):=by
  intro pins s σ H Q I h
  refine wpAny_isTrue_Compare1 (thn (ha pins s σ H _ I h) fun v s1 ⟨x,H1,I1,r1,q1⟩=>thn (hb pins s1 σ H1 _ I1 q1) fun u s2 ⟨y,H2,I2,r2,q2⟩ =>
    thn (ho pins s2 σ H2 x y v u _ I2 r1 r2 q2) fun c s3 ⟨z,H3,I3,r3,k,e,q3⟩=>?_) hm
  subst e
  cases r3
  exact wpAny_truthy_bool ⟨H3,I3,q3⟩
noncomputable def tChain (r r':R2) (ta tb tc:TE):TE:=fun σ H Q=>ta σ H fun x H1=>tb σ H1 fun y H2=>r x y H2 fun z H3=>∃ k,z = .bl k ∧
  (if k=true then tc σ H3 fun w' H4=>r' y w' H4 Q else Q (.bl false) H3)
noncomputable def TruV (K:PySem.W.Frag) (x:V) (H:Hp) (k:Bool):Prop :=
  match x with
  | .non=>k=false
  | .bl b=>k=b
  | .int i=>k=(i != 0)
  | .str y=>y.length≤sizeLine∧k=((y.length:Int) != 0)
  | .byt y=>y.size≤sizeLine∧k=((y.size:Int) != 0)
  | .ref p=>(∃ xs,SqL K H p xs∧k = !xs.isEmpty)∨(∃ xs,SqT K H p xs∧k = !xs.isEmpty)∨∃ kvs,H p=some (.dK kvs)∧k = !kvs.isEmpty
  | _=>False
theorem line63:(sizeLine:Nat)<2 ^ 63:=by rw[sizeLine_eq];decide
theorem op_add_str:OpR X (binaryOp .Add) (fun x y H Q=>∃ i j,x = .str i∧y = .str j∧i.length+j.length≤sizeLine∧Q (.str (i++j)) H):=by
  intro pins s σ H x y v u Q I rx ry h
  obtain⟨i,j,rfl,rfl,hz,q⟩:=h
  obtain⟨t,rfl⟩:=rx
  obtain⟨t',rfl⟩:=ry
  exact add_str (fun t' tk=>⟨.str (i++j),H,I.tok _,⟨_,rfl⟩,q⟩) hz
noncomputable def PlainIxT (b:Expr):Prop:=∀ o i,subscripted b false o i=operate [o,i] (getItem o i)
theorem vals1 {x:V} {us:List Value} (r:Vals [x] us):∃ u,us=[u]∧RelV x u:=by
  cases r with
  | cons r1 r2=>cases r2;exact⟨_,rfl,r1⟩
theorem vals2 {x y:V} {us:List Value} (r:Vals [x,y] us):∃ u w',us=[u,w']∧RelV x u∧RelV y w':=by
  cases r with
  | cons r1 r2 =>
    cases r2 with
    | cons r3 r4=>cases r4;exact⟨_,_,rfl,r1,r3⟩
noncomputable def LenV (K:PySem.W.Frag) (x:V) (H:Hp) (n:Nat):Prop :=
  match x with
  | .str y=>y.length≤sizeLine∧n=y.length
  | .byt y=>y.size≤sizeLine∧n=y.size
  | .ref p=>(∃ xs,SqL K H p xs∧n=xs.length)∨∃ xs,SqT K H p xs∧n=xs.length
  | _=>False
end
structure ObjM (h:Heap) (x dx C:Addr) (mA:Str→Option Value):Prop where
  obj:h.get? x=some (PySem.W.instObj C dx)
  ns:h.Ns1 dx mA
  ne:dx≠x
theorem lookIn_ns {h:Heap} {dx:Addr} {mA:Str→Option Value} (n:h.Ns1 dx mA):∃ od,h.get? dx=some od∧∀ name,PySem.W.lookIn name od=some (mA name):=by
  obtain⟨o,es,ep,ho,hd,hk,_,hm⟩:=n
  refine⟨o,ho,fun name=>?_⟩
  have e:=hm name
  unfold nsFind findBy at e
  rw[← Array.find?_toList] at e
  unfold PySem.W.lookIn
  rw[hd]
  dsimp only
  split
  · rename_i y q
    rw[q] at e
    exact congrArg some e
  · rename_i q
    rw[q] at e
    have a:es.toList.any (·.refKey)=false:=by
      rw[List.any_eq_false]
      intro y hy
      obtain⟨z,t,hkey⟩:=hk y (Array.mem_toList_iff.mp hy)
      simp[DictEntry.refKey,hkey]
    have a':¬ es.toList.any (·.refKey)=true:=by rw[a];exact Bool.false_ne_true
    rw[if_neg a']
    exact congrArg some e
theorem ObjM.look {h:Heap} {x dx C:Addr} {mA:Str→Option Value} (I:ObjM h x dx C mA):∃ od,PySem.W.InstAt h x (PySem.W.instObj C dx) C (some od)∧∀ name,PySem.W.lookIn name od=some (mA name) :=
  let ⟨od,ho,hl⟩:=lookIn_ns I.ns
  ⟨od,⟨I.obj,rfl,rfl,ho⟩,hl⟩
section
variable {prog:Program} {w:World} {A:Around} {E:Value→Shared→Prop} {s:Shared} {K:PySem.W.Frag} {x dx C f:Addr} {mA:Str→Option Value} {name:Str} {v:Value}
theorem get_map {expr:Bool} {Q:Value→Shared→Prop} (X:K.In s.heap) (I:ObjM s.heap x dx C mA) (hg:PySem.W.plainGet K C name=true) (hh:PySem.W.hasDictIn K C=true)
    (ha:PySem.W.findIn K (.ref C) name=some none) (hv:mA name=some v) (hv':PySem.W.handedIn v=true) (h:Q v { s with toks:=s.toks+1 }) :
    wpAny (model prog w) A (getAttr (.ref x) name expr) Q E s:=by
  obtain⟨od,J,hl⟩:=I.look
  exact PySem.W.get_value X J (PySem.W.plainGet_of hg).1 (PySem.W.findObj_own hh ha rfl (by rw[hl,hv])) hv' h
theorem get_meth {pl:Sem Bool} {Q:Value × List Value→Shared→Prop} (X:K.In s.heap) (I:ObjM s.heap x dx C mA) (hg:PySem.W.plainGet K C name=true)
    (hf:PySem.W.findIn K (.ref C) name=some (some (.ref f))) (ht:PySem.W.isFn K (.ref f)=true) (hv:mA name=none) (h:Q (.ref f,[.ref x]) s) :
    wpAny (model prog w) A (getMethod (.ref x) name pl) Q E s:=by
  obtain⟨od,J,hl⟩:=I.look
  exact PySem.W.method_fn X J (PySem.W.plainGet_of hg).1 (PySem.W.plainGet_of hg).2 hf (beq_iff_eq.mp ht) (by show (PySem.W.lookIn name od).map (·.isSome)=some false;rw[hl,hv];rfl) h
theorem set_map {ns:List Str} {Q:Unit→Shared→Prop} (X:K.In s.heap) (I:ObjM s.heap x dx C mA)
    (hs:PySem.W.findIn K (.ref C) "__setattr__" = some (some (.builtin "object.__setattr__"))) (hp:PySem.W.plainOver K C=true) (ht:PySem.W.takerIn K C name=some none) (hh:PySem.W.hasDictIn K C=true)
    (hw:PySem.Within mA ns) (hsz:ns.length≤sizeLine)
    (h:∀ h',ObjM h' x dx C (fun y=>if y=name then some v else mA y)→Heap.SameBut dx s.heap h'→Q () { s with heap:=h',toks:=s.toks+2 }) :
    wpAny (model prog w) A (setAttr (.ref x) name v) Q E s:=by
  obtain⟨od,J,hl⟩:=I.look
  refine PySem.W.set_plain X J hs (PySem.W.osa_open (s:={ s with toks:=s.toks+1 }) (r:=none) X J hp ht fun b=>?_)
  obtain⟨cd,hc,hd'⟩:=PySem.W.any_some hh
  have hx:s.heap.get? x=some ⟨.ref C,some dx,.plain,#[]⟩:=I.obj
  refine wpAny_bind (wpAny_pure (wpAny_bind (wpAny_bind (wpAny_loadPart hx (wpAny_bind (PySem.W.Looks.here (s:={ s with toks:=s.toks+1 }) (PySem.W.looks_clsIn X hc) ?_))))))
  rw[hd']
  refine wpAny_pure (a:=some dx) (wpAny_bind (wpAny_pure (wpAny_bind ?_)))
  refine wpAny_nsSet1 (s:={ s with toks:=s.toks+1 }) I.ns fun h' hn2 hs2=>?_
  obtain⟨oD,esD,epD,hoD,hdD,hcD⟩:=hn2.count (PySem.Within.cons name v hw)
  refine wpAny_bind (wpAny_lookBehind hoD (by rw[hdD];exact pastItsLine_dict (Nat.le_trans hcD (by rw[List.length_cons];omega))) ?_)
  exact wpAny_pure (h _ ⟨(hs2.2 _ (Ne.symm I.ne)).trans I.obj,hn2,I.ne⟩ hs2)
theorem make_map {R:Result→Shared→Prop} {vs:List Value} {kw:List (Str × Value)} (X:K.In s.heap) (hm:PySem.W.makesIn K C=true)
    (hi:PySem.W.findIn K (.ref C) "__init__" = some (some (.ref f))) (hf:PySem.W.typeIn K (.ref f)=some (.type "function"))
    (h:codeAny (model prog w) (A.under (.builtin "type.__call__" ⟨.ref C::vs,kw⟩)) (.call (.ref f) ⟨.ref (s.heap.objs.size+1)::vs,kw⟩) (PySem.W.InitBack (s.heap.objs.size+1) R)
      { s with heap:=(s.heap.push PySem.W.emptyDict).push (PySem.W.instObj C s.heap.objs.size) }) :
    codeAny (model prog w) A (.call (.ref C) ⟨vs,kw⟩) R s:=by
  obtain⟨hh,g,d,t,os⟩:=s
  exact PySem.W.make_core (PySem.W.makes_of X hm) (PySem.W.looks_findIn X hi) (fun self=>PySem.W.bind_fn X self hf) (.inl rfl) h
end
noncomputable def putF (f:Str) (v:V):List (Str × V)→List (Str × V)
  | []=>[(f,v)]
  | (g,x)::r=>if g=f then (g,v)::r else (g,x)::putF f v r
theorem lookup_putF (f g:Str) (v:V):∀ fs:List (Str × V),(putF f v fs).lookup g=if g=f then some v else fs.lookup g
  | []=>by
    show List.lookup g [(f,v)]=_
    by_cases h:g=f
    · have hb:(g==f)=true:=beq_iff_eq.mpr h
      simp only[List.lookup,hb,if_pos h]
    · have hb:(g==f)=false:=beq_eq_false_iff_ne.mpr h
      simp only[List.lookup,hb,if_neg h]
  | (k,x)::r=>by
    have ih:=lookup_putF f g v r
    rw[show putF f v ((k,x)::r)=(if k=f then (k,v)::r else (k,x)::putF f v r) from rfl]
    by_cases hk:k=f
    · rw[if_pos hk]
      by_cases h:g=k
      · have hb:(g==k)=true:=beq_iff_eq.mpr h
        simp only[List.lookup,hb,if_pos (h.trans hk)]
      · have hb:(g==k)=false:=beq_eq_false_iff_ne.mpr h
        simp only[List.lookup,hb,if_neg (fun e:g=f=>h (e.trans hk.symm))]
    · rw[if_neg hk]
      by_cases h:g=k
      · have hb:(g==k)=true:=beq_iff_eq.mpr h
        simp only[List.lookup,hb,if_neg (fun e:g=f=>hk (h.symm.trans e))]
      · have hb:(g==k)=false:=beq_eq_false_iff_ne.mpr h
        simp only[List.lookup,hb]
        exact ih
theorem keys_putF (f:Str) (v:V):∀ fs:List (Str × V),f∈(putF f v fs).map (·.1)∧∀ g,g∈fs.map (·.1)→g∈(putF f v fs).map (·.1)
  | []=>⟨by simp[putF],fun g h=>by simp at h⟩
  | (k,x)::r=>by
    obtain⟨i1,i2⟩:=keys_putF f v r
    rw[show putF f v ((k,x)::r)=(if k=f then (k,v)::r else (k,x)::putF f v r) from rfl]
    by_cases hk:k=f
    · rw[if_pos hk]
      subst hk
      exact⟨by simp,fun g h=>by simpa using h⟩
    · rw[if_neg hk]
      refine⟨?_,fun g h=>?_⟩
      · rw[List.map_cons]
        exact List.mem_cons_of_mem _ i1
      · rw[List.map_cons] at h ⊢
        rcases List.mem_cons.mp h with e | e
        · exact List.mem_cons.mpr (.inl e)
        · exact List.mem_cons_of_mem _ (i2 g e)
theorem length_putF (f:Str) (v:V):∀ fs:List (Str × V),(putF f v fs).length≤fs.length+1
  | []=>by simp[putF]
  | (k,x)::r=>by
    have ih:=length_putF f v r
    rw[show putF f v ((k,x)::r)=(if k=f then (k,v)::r else (k,x)::putF f v r) from rfl]
    by_cases hk:k=f
    · rw[if_pos hk,List.length_cons,List.length_cons];omega
    · rw[if_neg hk,List.length_cons,List.length_cons];omega
theorem RelO.some_of {v:V} {o:Option Value} (r:RelO (some v) o):∃ u,o=some u∧RelV v u:=by
  cases o with
  | none=>exact (show False from r).elim
  | some u=>exact⟨u,rfl,r⟩
theorem RelO.none_of {o:Option Value} (r:RelO none o):o=none:=by
  cases o with
  | none=>rfl
  | some u=>exact (show False from r).elim
theorem handed_of {v:V} {u:Value} (r:RelV v u):PySem.W.handedIn u=true:=by
  cases v with
  | non=>cases (show u=Value.none from r);rfl
  | bl b=>cases (show u=Value.bool b from r);rfl
  | int i=>obtain⟨t,e⟩:=(show ∃ t,u=Value.int i t from r);cases e;rfl
  | str x=>obtain⟨t,e⟩:=(show ∃ t,u=Value.str x t from r);cases e;rfl
  | byt b=>obtain⟨t,e⟩:=(show ∃ t,u=Value.bytes b t from r);cases e;rfl
  | flt b=>obtain⟨t,e⟩:=(show ∃ t,u=Value.float b t from r);cases e;rfl
  | ref a=>cases (show u=Value.ref a from r);rfl
  | ty n=>cases (show u=Value.type n from r);rfl
section
variable {P:Program} {w:World} {H H':Hp} {h h':Heap} {a C dx:Addr} {fs fs':List (Str × V)}
theorem ins_get (hok:HOk P w H h) (e:H a=some (.ins C dx fs)):∃ mA,ObjM h a dx C mA∧(∀ f,RelO (fs.lookup f) (mA f))∧PySem.Within mA (fs.map (·.1))∧fs.length≤1000∧H dx=some (.own a):=by
  obtain⟨d,z,ne,ob,mA,n,r,q⟩:=(show ObjOk P w H h a (.ins C dx fs) from hok a _ e)
  exact⟨mA,⟨ob,n,ne⟩,r,q,z,d⟩
end
structure Cls (K:PySem.W.Frag) (C:Addr):Prop where
  pg:PySem.W.plainGet K C Str.empty=true
  hd:PySem.W.hasDictIn K C=true
  po:PySem.W.plainOver K C=true
  sa:PySem.W.findIn K (.ref C) "__setattr__" = some (some (.builtin "object.__setattr__"))
theorem Cls.get {K:PySem.W.Frag} {C:Addr} (c:Cls K C) (f:Str):PySem.W.plainGet K C f=true:=c.pg
noncomputable def NoAttr (K:PySem.W.Frag) (C:Addr) (f:Str):Prop:=PySem.W.findIn K (.ref C) f=some none
theorem NoAttr.taker {K:PySem.W.Frag} {C:Addr} {f:Str} (n:NoAttr K C f):PySem.W.takerIn K C f=some none:=by
  unfold PySem.W.takerIn
  rw[show PySem.W.findIn K (.ref C) f=some none from n]
  rfl
structure Con (K:PySem.W.Frag) (C:Addr) (f:Str) (v:V) (u:Value):Prop where
  at_:PySem.W.findIn K (.ref C) f=some (some u)
  rel:RelV v u
  get:PySem.W.specialIn K u "__get__" = some none
  cp:PySem.W.copiedNames.contains f=false
structure Meth (K:PySem.W.Frag) (C:Addr) (m:Str) (f:Addr):Prop where
  at_:PySem.W.findIn K (.ref C) m=some (some (.ref f))
  fn:PySem.W.isFn K (.ref f)=true
  kp:PySem.W.keepIn K (.ref f)=true
section
variable {X:Cx} {pins:List (Addr × Obj)} {σ:St} {H:Hp} {s:Shared} {a C dx:Addr} {fs:List (Str × V)} {f:Str} {v:V} {A:Around} {E:Value→Shared→Prop}
theorem getattr_ok {b:Bool} {Q:Value→Shared→Prop} (I:Inv X pins σ H s) (e:H a=some (.ins C dx fs)) (c:Cls X.K C) (n:NoAttr X.K C f) (l:fs.lookup f=some v)
    (h:∀ u s',Inv X pins σ H s'→RelV v u→Q u s'):wpAny (model X.prog X.w) A (getAttr (.ref a) f b) Q E s:=by
  obtain⟨mA,O,r,_,_,_⟩:=ins_get I.hok e
  obtain⟨u,hu,ru⟩:=RelO.some_of (v:=v) (o:=mA f) (by rw[← l];exact r f)
  exact get_map I.kIn O (c.get f) c.hd n hu (handed_of ru) (h u _ (I.tok _) ru)
theorem getmeth_ok {m:Str} {g:Addr} {pl:Sem Bool} {Q:Value × List Value→Shared→Prop} (I:Inv X pins σ H s) (e:H a=some (.ins C dx fs)) (c:Cls X.K C) (k:Meth X.K C m g) (l:fs.lookup m=none)
    (h:Q (.ref g,[.ref a]) s):wpAny (model X.prog X.w) A (getMethod (.ref a) m pl) Q E s:=by
  obtain⟨mA,O,r,_,_,_⟩:=ins_get I.hok e
  have hn:mA m=none:=RelO.none_of (by rw[← l];exact r m)
  exact get_meth I.kIn O (c.get m) k.at_ k.fn hn h
theorem setattr_ok {y:V} {u:Value} {Q:Unit→Shared→Prop} (I:Inv X pins σ H s) (e:H a=some (.ins C dx fs)) (c:Cls X.K C) (n:NoAttr X.K C f) (hl:fs.length<1000) (ry:RelV y u)
    (h:∀ s',Inv X pins σ (upd H a (.ins C dx (putF f y fs))) s'→Q () s'):wpAny (model X.prog X.w) A (setAttr (.ref a) f u) Q E s:=by
  obtain⟨mA,O,r,wi,_,ho⟩:=ins_get I.hok e
  have hz:(fs.map (·.1)).length≤sizeLine:=by rw[List.length_map,sizeLine_eq];omega
  refine set_map I.kIn O c.sa c.po n.taker c.hd wi hz fun h' O' sb=>h _ ?_
  have hd:∃ o,h'.get? dx=some o:=let ⟨o,_,_,e',_⟩:=O'.ns;⟨o,e'⟩
  refine I.write (x:=a) (e:=dx) (by rw[e];exact True.intro) (.inr ho) (fun b q hb z=>(sb.2 b hb).trans z) hd ?_
  refine⟨by rw[upd_ne O.ne];exact ho,?_,O.ne,O'.obj,_,O'.ns,fun g=>?_,fun g hg=>?_⟩
  · have:=length_putF f y fs;omega
  · show RelO ((putF f y fs).lookup g) (if g=f then some u else mA g)
    rw[lookup_putF]
    by_cases q:g=f
    · rw[if_pos q,if_pos q];exact ry
    · rw[if_neg q,if_neg q];exact r g
  · by_cases q:g=f
    · rw[q];exact (keys_putF f y fs).1
    · refine (keys_putF f y fs).2 g (wi g fun z=>hg ?_)
      show (if g=f then some u else mA g)=none
      rw[if_neg q];exact z
theorem Inv.made (I:Inv X pins σ H s):Inv X pins σ (upd (upd H s.heap.objs.size (.own (s.heap.objs.size+1))) (s.heap.objs.size+1) (.ins C s.heap.objs.size []))
    { s with heap:=(s.heap.push PySem.W.emptyDict).push (PySem.W.instObj C s.heap.objs.size) }:=by
  have e1:(s.heap.push PySem.W.emptyDict).get? s.heap.objs.size=some PySem.W.emptyDict:=Heap.get?_push_size s.heap rfl
  have e2:((s.heap.push PySem.W.emptyDict).push (PySem.W.instObj C s.heap.objs.size)).get? (s.heap.objs.size+1)=some (PySem.W.instObj C s.heap.objs.size):=by
    have:=Heap.get?_push_size (s.heap.push PySem.W.emptyDict) (o:=PySem.W.instObj C s.heap.objs.size) rfl
    rwa [Heap.size_push] at this
  have e3:(s.heap.push PySem.W.emptyDict).Ns s.heap.objs.size (fun _=>none):=⟨PySem.W.emptyDict,#[],_,e1,rfl,(fun e he=>absurd he (by simp)),fun _=>rfl⟩
  have I1:=I.laid (a:=s.heap.objs.size) (o:=.own (s.heap.objs.size+1)) (h':=s.heap.push PySem.W.emptyDict) (t':=s.toks) (fun b u q=>Heap.get?_push_of_some _ q) (Nat.le_refl _) ⟨_,e1⟩
  refine I1.laid (a:=s.heap.objs.size+1) (o:=.ins C s.heap.objs.size []) (t':=s.toks) (fun b u q=>Heap.get?_push_of_some _ q) (Nat.le_of_eq (Heap.size_push _ _)) ?_
  have ne:s.heap.objs.size≠s.heap.objs.size+1:=Nat.ne_of_lt (Nat.lt_succ_self _)
  refine⟨by rw[upd_ne ne,upd_same],Nat.zero_le _,ne,e2,fun _=>none,(Heap.Ns1.of_empty e3).at fun o q=>Heap.get?_push_of_some _ q,fun _=>True.intro,fun y hy=>absurd rfl hy⟩
theorem attr_of {prog:Program} {w:World} {env:Env} {e:Expr} {f:Str} {pos:Pos} {s:Shared} {Q:Value→Shared→Prop} (hb:attributeBase e f env (eval e env)=eval e env)
    (h:wpAny (model prog w) A (eval e env) (fun o s₁=>wpAny (model prog w) A (getAttr o f true) Q E s₁) E s):wpAny (model prog w) A (eval (.Attribute e f pos) env) Q E s :=
  Attribute_any_ h (by rw[arm_eval_Attribute,hb])
end
noncomputable def tFld (K:PySem.W.Frag) (ta:TE) (f:Str):TE:=fun σ H Q=>ta σ H fun x H1=>∃ a C dx fs v,x = .ref a∧H1 a=some (.ins C dx fs)∧Cls K C∧NoAttr K C f∧fs.lookup f=some v∧Q v H1
noncomputable def tCon (K:PySem.W.Frag) (ta:TE) (f:Str):TE:=fun σ H Q=>ta σ H fun x H1=>∃ a C dx fs v u,x = .ref a∧H1 a=some (.ins C dx fs)∧Cls K C∧Con K C f v u∧fs.lookup f=none∧Q v H1
noncomputable def sFld (K:PySem.W.Frag) (ta tv:TE) (f:Str):TS:=fun D σ H=>tv σ H fun y H1=>ta σ H1 fun x H2=>∃ a C dx fs,x = .ref a∧H2 a=some (.ins C dx fs)∧Cls K C∧NoAttr K C f∧fs.length<1000 ∧
  D.nx σ (upd H2 a (.ins C dx (putF f y fs)))
noncomputable def InOp (X:Cx) (op:Operator) (rd:V→V→Hp→VK→Prop):Prop :=
  ∀ (pins:List (Addr × Obj)) (s:Shared) (σ:St) (H:Hp) (x y:V) (u v:Value) (Q:VK),Inv X pins σ H s→RelV x u→RelV y v→rd x y H Q→wpAny (model X.prog X.w) X.A (inplaceOp op u v) (EP X pins σ Q) X.xe s
noncomputable def sFldAug (K:PySem.W.Frag) (ta tv:TE) (rd:V→V→Hp→VK→Prop) (f:Str):TS:=fun D σ H=>ta σ H fun x H1=>∃ a C dx fs v,x = .ref a∧H1 a=some (.ins C dx fs)∧Cls K C∧NoAttr K C f∧fs.lookup f=some v ∧
  tv σ H1 fun y H2=>rd v y H2 fun z H3=>∃ dx' fs',H3 a=some (.ins C dx' fs')∧fs'.length<1000∧D.nx σ (upd H3 a (.ins C dx' (putF f z fs')))
section
variable {X:Cx} {o e value:Expr} {f:Str} {pos pos' tpos:Pos} {ta tv:TE}
theorem pe_fld (he:PE X e ta) (hb:attributeBase e f X.env (eval e X.env)=eval e X.env):PE X (.Attribute e f pos) (tFld X.K ta f):=by
  intro pins s σ H Q I h
  refine attr_of hb (thn (he pins s σ H _ I h) fun u s1 ⟨x,H1,I1,rx,a,C,dx,fs,v,ex,ea,c,n,l,q⟩=>?_)
  subst ex
  obtain rfl:u=Value.ref a:=rx
  exact getattr_ok I1 ea c n l fun u' s2 I2 ru=>⟨v,H1,I2,ru,q⟩
theorem ps_fld (ha:PE X o ta) (hv:PE X value tv) (hs:swapsWith value (some (.Attribute o f pos')) pos.line X.env=pure false):PS X (.Assign [.Attribute o f pos'] value pos) (sFld X.K ta tv f):=by
  intro pins s σ H D I h
  refine plainObj_wpAny_Assign_Attribute (thn (hv pins s σ H _ I h) fun u s1 ⟨y,H1,I1,ry,q⟩=>thn (ha pins s1 σ H1 _ I1 q) fun ov s2 ⟨x,H2,I2,rx,a,C,dx,fs,ex,ea,c,n,l,q2⟩=>?_) hs
  subst ex
  obtain rfl:ov=Value.ref a:=rx
  exact setattr_ok I2 ea c n l ry fun s3 I3=>⟨σ,_,I3,q2⟩
noncomputable def rAdd:V→V→Hp→VK→Prop:=fun x y H Q=>∃ i j,x = .int i∧y = .int j∧Q (.int (i+j)) H
noncomputable def rSub:V→V→Hp→VK→Prop:=fun x y H Q=>∃ i j,x = .int i∧y = .int j∧Q (.int (i - j)) H
theorem methcall_of {pl:Sem Bool} {m:Str} {apos:Pos} {args:List Expr} {pins:List (Addr × Obj)} {s:Shared} {σ:St} {H:Hp} {Q:Value→Shared→Prop} {te:TE} (he:PE X e te) (I:Inv X pins σ H s)
    (h:te σ H fun x H1=>∃ a C dx fs g,x = .ref a∧H1 a=some (.ins C dx fs)∧Cls X.K C∧Meth X.K C m g∧fs.lookup m=none ∧
      ∀ s1,Inv X pins σ H1 s1→wpAny (model X.prog X.w) X.A (callWith pos (.ref g) [.ref a] (backTo pos (starEach args X.env)) (backToKw pos (keywordEach [] X.env))) Q X.xe s1)
    (ht:eval (.Call (.Attribute e m apos) args [] pos) X.env=(do
      let ov ← eval e X.env
      standAt apos.atName
      let (f,first) ← holding [ov] (getMethod ov m pl)
      callWith pos f first (backTo pos (starEach args X.env)) (backToKw pos (keywordEach [] X.env)))) :
    wpAny (model X.prog X.w) X.A (eval (.Call (.Attribute e m apos) args [] pos) X.env) Q X.xe s:=by
  refine PySem.W.methodCall_KW (pl:=pl) (thn (he pins s σ H _ I h) fun u s1 ⟨x,H1,I1,rx,a,C,dx,fs,g,ex,ea,c,k,l,q⟩=>?_) ht
  subst ex
  obtain rfl:u=Value.ref a:=rx
  exact getmeth_ok I1 ea c k l (q s1 I1)
end
section
variable {X:Cx} {pins:List (Addr × Obj)} {σ:St} {H:Hp} {s:Shared} {A:Around} {E:Value→Shared→Prop} {Q:Value→Shared→Prop} {c:Value} {b:Bool}
inductive TyOf (K:PySem.W.Frag) (H:Hp):V→Value→Prop where
  | non:TyOf K H .non (.type "NoneType")
  | bl (x:Bool):TyOf K H (.bl x) (.type "bool")
  | int (i:Int):TyOf K H (.int i) (.type "int")
  | str (x:Str):TyOf K H (.str x) (.type "str")
  | flt (x:UInt64):TyOf K H (.flt x) (.type "float")
  | lst {a:Addr} {xs:List V} (e:H a=some (.lst xs)):TyOf K H (.ref a) (.type "list")
  | frz {a:Addr} {o:Obj} {xs:List V} (e:H a=some (.frz o (.lst xs))):TyOf K H (.ref a) (.type "list")
  | tup {a:Addr} {xs:List V} (e:H a=some (.tup xs)):TyOf K H (.ref a) (.type "tuple")
  | dK {a:Addr} {kvs:List (Key × V)} (e:H a=some (.dK kvs)):TyOf K H (.ref a) (.type "dict")
  | dT {a:Addr} {kvs:List (List Key × V)} (e:H a=some (.dT kvs)):TyOf K H (.ref a) (.type "dict")
  | ins {a C dx:Addr} {fs:List (Str × V)} (e:H a=some (.ins C dx fs)) (cl:Cls K C) (ha:PySem.W.findIn K (.ref C) "__class__" = some (some (.builtin "object.__class__")))
      (hn:PySem.W.specialIn K (.builtin "object.__class__") "__get__" = some (some (.builtin "getset_descriptor.__get__"))) (htk:PySem.W.takesIn K (.builtin "object.__class__")=some true)
      (hm:PySem.W.mroIn K C (.type "object")=some true):TyOf K H (.ref a) (.ref C)
theorem isinst_ok {x:V} {u t:Value} (I:Inv X pins σ H s) (rx:RelV x u) (ty:TyOf X.K H x t) (e:PySem.W.kitOne X.K t c=some b) (h:∀ tk,Q (.bool b) { s with toks:=tk }) :
    wpAny (model X.prog X.w) A (call (.builtin "isinstance") [u,c]) Q E s:=by
  cases ty with
  | non=>cases (show u=Value.none from rx);exact PySem.W.kia_one PySem.W.kitx_none I.kIn True.intro e (fun z=>nomatch z) h
  | bl y=>cases (show u=Value.bool y from rx);exact PySem.W.kia_one PySem.W.kitx_bool I.kIn True.intro e (fun z=>nomatch z) h
  | int i=>obtain⟨t,q⟩:=(show ∃ t,u=Value.int i t from rx);cases q;exact PySem.W.kia_one PySem.W.kitx_int I.kIn True.intro e (fun z=>nomatch z) h
  | str y=>obtain⟨t,q⟩:=(show ∃ t,u=Value.str y t from rx);cases q;exact PySem.W.kia_one PySem.W.kitx_str I.kIn True.intro e (fun z=>nomatch z) h
  | flt y=>obtain⟨t,q⟩:=(show ∃ t,u=Value.float y t from rx);cases q;exact PySem.W.kia_one PySem.W.kitx_float I.kIn True.intro e (fun z=>nomatch z) h
  | @lst a xs ea =>
    cases (show u=Value.ref a from rx)
    obtain⟨_,_,n,_,h1⟩:=(show ObjOk X.prog X.w H s.heap a (.lst xs) from I.hok a _ ea)
    exact PySem.W.kia_one PySem.W.kitx_list I.kIn ⟨_,h1,rfl⟩ e (fun z=>nomatch z) h
  | @frz a ob xs ea =>
    cases (show u=Value.ref a from rx)
    obtain⟨_,_,_,n,_,h1⟩:=(show ObjOk X.prog X.w H s.heap a (.frz ob (.lst xs)) from I.hok a _ ea)
    exact PySem.W.kia_one PySem.W.kitx_list I.kIn ⟨_,h1,rfl⟩ e (fun z=>nomatch z) h
  | @tup a xs ea =>
    cases (show u=Value.ref a from rx)
    obtain⟨_,_,_,p⟩:=(show ObjOk X.prog X.w H s.heap a (.tup xs) from I.hok a _ ea)
    obtain⟨o,h1,h2,_⟩:=p
    exact PySem.W.kia_one PySem.W.kitx_tuple I.kIn ⟨o,h1,h2⟩ e (fun z=>nomatch z) h
  | @dK a kvs ea =>
    cases (show u=Value.ref a from rx)
    obtain⟨_,_,vs,_,p⟩:=(show ObjOk X.prog X.w H s.heap a (.dK kvs) from I.hok a _ ea)
    obtain⟨o,es,ep,h1,h2,_⟩:=p
    exact PySem.W.kia_one PySem.W.kitx_dict I.kIn ⟨o,h1,h2.1⟩ e (fun z=>nomatch z) h
  | @dT a kvs ea =>
    cases (show u=Value.ref a from rx)
    obtain⟨_,_,xs,_,o,es,ep,h1,h2,_⟩:=(show ObjOk X.prog X.w H s.heap a (.dT kvs) from I.hok a _ ea)
    exact PySem.W.kia_one PySem.W.kitx_dict I.kIn ⟨o,h1,h2.1⟩ e (fun z=>nomatch z) h
  | @ins a C dx fs ea cl ha hn htk hm =>
    cases (show u=Value.ref a from rx)
    obtain⟨mA,O,_⟩:=ins_get I.hok ea
    obtain⟨od,J,_⟩:=O.look
    exact PySem.W.kia_one (PySem.W.kitx_own (cl.get _) cl.hd ha hn htk hm) I.kIn J e (fun z=>nomatch z) h
end
structure Room (k:Nat) (A:Around):Prop where
  hd:A.handled=none
  dp:A.depth+3*k+5<recursionLimit
  un:A.units+16*k+200<cLine
theorem Room.mono {j k:Nat} {A:Around} (r:Room k A) (h:j≤k):Room j A:=⟨r.hd,by have:=r.dp;omega,by have:=r.un;omega⟩
theorem Room.deeper {k:Nat} {A:Around} (r:Room (k+1) A) (env:Env):Room k (A.deeper env) :=
  ⟨r.hd,by have:=r.dp;show A.depth+1+3*k+5<_;omega,by have:=r.un;show A.units+3+16*k+200<_;omega⟩
theorem make_depth {A:Around} {C:Addr} {us:List Value} {kw:List (Str × Value)}:(A.under (.builtin "type.__call__" ⟨.ref C::us,kw⟩)).depth=A.depth+1:=by
  first | rfl | simp[Around.under,Code.weight,Code.isCreation,Code.isGuard,Code.isCaller,Code.frames,Code.isFrame,guardIds]
theorem make_units {A:Around} {C:Addr} {us:List Value} {kw:List (Str × Value)}:(A.under (.builtin "type.__call__" ⟨.ref C::us,kw⟩)).units=A.units+1:=by
  first | rfl | simp[Around.under,Code.cUnits,Code.frames,Code.isFrame]
theorem Room.make {k:Nat} {A:Around} (r:Room (k+1) A) (C:Addr) (us:List Value) (kw:List (Str × Value)):Room k (A.under (.builtin "type.__call__" ⟨.ref C::us,kw⟩)) :=
  ⟨r.hd,by have:=r.dp;rw[make_depth];omega,by have:=r.un;rw[make_units];omega⟩
theorem Room.depth {k:Nat} {A:Around} (r:Room k A):A.depth<recursionLimit:=by have:=r.dp;omega
theorem Room.units {k:Nat} {A:Around} (r:Room k A):A.units+64<cLine:=by have:=r.un;omega
noncomputable def tNil:TA:=fun _ H Q=>Q [] H
noncomputable def tCons (ta:TE) (tr:TA):TA:=fun σ H Q=>ta σ H fun x H1=>tr σ H1 fun xs H2=>Q (x::xs) H2
section
variable {X:Cx} {e:Expr} {es:List Expr} {te:TE} {t:TA} {pos:Pos}
theorem pa_nil:PA X [] tNil:=fun _ _ _ _ H Q I h=>Calls.spliced_nil ⟨[],H,I,.nil,h⟩
theorem pa_cons (ha:PE X e te) (hr:PA X es t) (hs:starEach (e::es) X.env=(false,eval e X.env)::starEach es X.env:=by exact starEach_cons rfl):PA X (e::es) (tCons te t):=by
  intro pos pins s σ H Q I h
  rw[hs]
  show wpAny _ _ (spliced ((false,eval e X.env)::backTo pos (starEach es X.env))) _ _ s
  refine Calls.spliced_cons (thn (ha pins s σ H _ I h) fun u s1 ⟨x,H1,I1,r1,q1⟩=>?_)
  exact thn (hr pos pins s1 σ H1 _ I1 q1) fun us s2 ⟨xs,H2,I2,r2,q2⟩=>⟨x::xs,H2,I2,.cons r1 r2,q2⟩
noncomputable def tTup (t:TA):TE:=fun σ H Q=>t σ H fun xs H1=>xs.length≤sizeLine∧∀ p,H1 p=none→Q (.ref p) (upd H1 p (.tup xs))
noncomputable def tLst (t:TA):TE:=fun σ H Q=>t σ H fun xs H1=>xs.length≤sizeLine∧∀ p,H1 p=none→Q (.ref p) (upd H1 p (.lst xs))
end
noncomputable abbrev Sp:=List V→Hp→VK→XK→Prop
noncomputable abbrev CXT:=List Env→Hp→Shared→XK→Value→Shared→Prop
structure Env0 (P:Program) (w:World) (K:PySem.W.Frag) (mg:Str→Option Value) (base:Heap) (A:Around) (outer:List Env) (s:Shared) (H:Hp):Prop where
  frames:A.frames=some outer
  mod:Mod K mg base
  bs:∀ b o,base.get? b=some o→s.heap.get? b=some o∧H b=none
  bsz:base.objs.size≤s.heap.objs.size
  funs:s.heap.FunFrames base outer
  frf:∀ b∈frs outer,H b=none
  hok:HOk P w H s.heap
  bare:AllBare s.gens
noncomputable def CE (outer:List Env) (P:Program) (w:World) (H:Hp) (s:Shared) (Q:VK) (u:Value) (s':Shared):Prop :=
  ∃ v H',s'.os=s.os∧AllBare s'.gens∧Un (frs outer) [] H H' s.heap s'.heap∧HOk P w H' s'.heap∧RelV v u∧Q v H'
noncomputable def CR (CX:CXT) (outer:List Env) (P:Program) (w:World) (H:Hp) (s:Shared) (Q:VK) (E:XK) (r:Result) (s':Shared):Prop :=
  match r with
  | .ok (.ret u)=>CE outer P w H s Q u s'
  | .ok _=>False
  | .error e=>CX outer H s E e s'
structure FnOk (P:Program) (w:World) (K:PySem.W.Frag) (mg:Str→Option Value) (base:Heap) (CX:CXT) (k:Nat) (f:Addr) (fd:FuncData) (ps:List Str) (sp:Sp):Prop where
  len:∀ vs H Q E,sp vs H Q E→vs.length=ps.length
  run:∀ (A:Around) (outer:List Env) (s:Shared) (H:Hp) (args:Args) (us:List Value) (vs:List V) (Q:VK) (E:XK),Room k A→Env0 P w K mg base A outer s H→BindsTo s fd args (ps.zip us)→Vals vs us→sp vs H Q E →
    codeAny (model P w) A (.call (.ref f) args) (CR CX outer P w H s Q E) s
theorem FnOk.mono {P:Program} {w:World} {K:PySem.W.Frag} {mg:Str→Option Value} {base:Heap} {CX:CXT} {j k:Nat} {f:Addr} {fd:FuncData} {ps:List Str} {sp:Sp} (F:FnOk P w K mg base CX j f fd ps sp) (h:j≤k) :
    FnOk P w K mg base CX k f fd ps sp:=⟨F.len,fun A outer s H args us vs Q E hr=>F.run A outer s H args us vs Q E (hr.mono h)⟩
theorem FnOk.imp {P:Program} {w:World} {K:PySem.W.Frag} {mg:Str→Option Value} {base:Heap} {CX:CXT} {k:Nat} {f:Addr} {fd:FuncData} {ps:List Str} {sp sp':Sp} (F:FnOk P w K mg base CX k f fd ps sp)
    (h:∀ vs H Q E,sp' vs H Q E→sp vs H Q E):FnOk P w K mg base CX k f fd ps sp' :=
  ⟨fun vs H Q E q=>F.len vs H Q E (h _ _ _ _ q),fun A outer s H args us vs Q E hr he hb hv hs=>F.run A outer s H args us vs Q E hr he hb hv (h _ _ _ _ hs)⟩
theorem Env0.make {P:Program} {w:World} {K:PySem.W.Frag} {mg:Str→Option Value} {base:Heap} {A:Around} {outer:List Env} {s:Shared} {H:Hp} (e:Env0 P w K mg base A outer s H) (C:Addr) (us:List Value) (kw:List (Str × Value)) :
    Env0 P w K mg base (A.under (.builtin "type.__call__" ⟨.ref C::us,kw⟩)) outer s H:=⟨by first | exact e.frames | (simpa [Around.under,Code.envs,Code.isFrame,pushEnvs] using e.frames),e.mod,e.bs,e.bsz,e.funs,e.frf,e.hok,e.bare⟩
section
variable {X:Cx} {pins:List (Addr × Obj)} {σ:St} {H:Hp} {s s':Shared}
theorem Inv.env0 (I:Inv X pins σ H s):Env0 X.prog X.w X.K X.mg X.base X.A X.stack s H :=
  ⟨I.ok.frames,I.ok.mod,I.bs,Nat.le_trans I.ok.bsz I.sz,I.stack,I.stkFree,I.hok,I.bare⟩
theorem Inv.after {Q:VK} {u:Value} (I:Inv X pins σ H s) (h:CE X.stack X.prog X.w H s Q u s'):EP X pins σ Q u s':=by
  obtain⟨v,H',os,bare,un,hok,r,q⟩:=h
  obtain⟨hh,g,d,t,os'⟩:=s'
  obtain rfl:os'=s.os:=os
  exact⟨v,H',I.call (h':=hh) (g':=g) (d':=d) (t':=t) (ch:=[]) un hok bare (fun b z=>absurd z (by simp)),r,q⟩
end
noncomputable def tCall (sp:Sp) (dvs:List V) (E:XK) (t:TA):TE:=fun σ H Q=>t σ H fun vs H1=>sp (vs++dvs) H1 Q E
noncomputable def tMeth (C:Addr) (m:Str) (sp:Sp) (dvs:List V) (E:XK) (ta:TE) (t:TA):TE:=fun σ H Q=>ta σ H fun x H1=>∃ a dx fs,x = .ref a∧H1 a=some (.ins C dx fs)∧fs.lookup m=none ∧
  t σ H1 fun vs H2=>sp (x::(vs++dvs)) H2 Q E
noncomputable def tMake (C:Addr) (sp:Sp) (dvs:List V) (E:XK) (t:TA):TE:=fun σ H Q=>t σ H fun vs H1=>∀ x dx,H1 x=none→H1 dx=none→dx≠x →
  sp (.ref x::(vs++dvs)) (upd (upd H1 dx (.own x)) x (.ins C dx [])) (fun v H2=>v = .non∧Q (.ref x) H2) E
noncomputable def Binds (K:PySem.W.Frag) (fd:FuncData) (ps:List Str) (ds:List Value):Prop :=
  ∀ (s:Shared) (us:List Value),K.In s.heap→(us++ds).length=ps.length→BindsTo s fd ⟨us,[]⟩ (ps.zip (us++ds))
theorem Binds.all {K:PySem.W.Frag} {fd:FuncData} {ps:List Str} (h:∀ us:List Value,us.length=ps.length→bindArgs fd ⟨us,[]⟩=pure (ps.zip us)):Binds K fd ps []:=fun s us _ hl=>by
  rw[List.append_nil] at hl ⊢
  exact .of_eq (h us hl)
noncomputable def Passes (CX:CXT) (X:Cx) (E:XK):Prop:=∀ (pins:List (Addr × Obj)) (σ:St) (H:Hp) (s:Shared) (e:Value) (s':Shared),Inv X pins σ H s→CX X.stack H s E e s'→X.xe e s'
section
variable {X:Cx} {CX:CXT} {k:Nat} {f C:Addr} {fd:FuncData} {ps:List Str} {sp:Sp} {dvs:List V} {ds:List Value} {E:XK} {x m:Str} {p pos apos:Pos} {e o:Expr} {es:List Expr} {ta:TE} {t:TA}
theorem run_fn {pins:List (Addr × Obj)} {σ:St} {H:Hp} {s:Shared} {Q:VK} {us:List Value} {vs:List V} (F:FnOk X.prog X.w X.K X.mg X.base CX k f fd ps sp) (hr:Room k X.A) (hb:Binds X.K fd ps ds) (hd:Vals dvs ds) (hx:Passes CX X E)
    (I:Inv X pins σ H s) (r:Vals vs us) (h:sp (vs++dvs) H Q E):wpAny (model X.prog X.w) X.A (call (.ref f) us) (EP X pins σ Q) X.xe s:=by
  have r2:Vals (vs++dvs) (us++ds):=r.append hd
  have hl:(us++ds).length=ps.length:=by rw[← r2.length];exact F.len _ _ _ _ h
  refine wpAny_call (codeAny_mono (F.run X.A X.stack s H ⟨us,[]⟩ (us++ds) (vs++dvs) Q E hr I.env0 (hb s us I.kIn hl) r2 h) fun r s' hq=>?_)
  cases r with
  | error e=>exact hx pins σ H s e s' I hq
  | ok fl =>
    cases fl with
    | ret u=>exact I.after hq
    | next=>exact False.elim hq
    | brk=>exact False.elim hq
    | cont=>exact False.elim hq
theorem pe_call (F:FnOk X.prog X.w X.K X.mg X.base CX k f fd ps sp) (hr:Room k X.A) (hg:Gl X x) (hm:X.mg x=some (.ref f)) (hk:PySem.W.keepIn X.K (.ref f)=true) (hb:Binds X.K fd ps ds) (hd:Vals dvs ds) (hx:Passes CX X E)
    (ha:PA X (e::es) t) (hdb:(x==("__debug__":Str))=false:=by decide) (he:starEach (e::es) X.env=(false,eval e X.env)::starEach es X.env:=by exact starEach_cons rfl) (hpl:(backTo pos (starEach es X.env)).any (·.1)=false:=by exact noStars rfl) :
    PE X (.Call (.Name x p) (e::es) [] pos) (tCall sp dvs E t):=by
  intro pins s σ H Q I h
  refine wpAny_Call_Name_kw (ld_glob I hg hm ?_ hdb)
  refine PySem.W.callWith_K (h₀:=X.base) I.ok.mod.kin hk (thn (ha pos pins s σ H _ I h) fun us s1 ⟨vs,H1,I1,r,q⟩=>⟨I1.kIn,?_⟩) he hpl
  exact run_fn F hr hb hd hx I1 r q
theorem pe_meth {pl:Sem Bool} (he:PE X o ta) (c:Cls X.K C) (hm:Meth X.K C m f) (F:FnOk X.prog X.w X.K X.mg X.base CX k f fd ps sp) (hr:Room k X.A) (hb:Binds X.K fd ps ds) (hd:Vals dvs ds) (hx:Passes CX X E) (ha:PA X (e::es) t)
    (hst:starEach (e::es) X.env=(false,eval e X.env)::starEach es X.env:=by exact starEach_cons rfl) (hpl:(backTo pos (starEach es X.env)).any (·.1)=false:=by exact noStars rfl)
    (ht:eval (.Call (.Attribute o m apos) (e::es) [] pos) X.env=(do
      let ov ← eval o X.env
      standAt apos.atName
      let (f,first) ← holding [ov] (getMethod ov m pl)
      callWith pos f first (backTo pos (starEach (e::es) X.env)) (backToKw pos (keywordEach [] X.env))):=by rfl) :
    PE X (.Call (.Attribute o m apos) (e::es) [] pos) (tMeth C m sp dvs E ta t):=by
  intro pins s σ H Q I h
  refine PySem.W.methodCall_KW (pl:=pl) (thn (he pins s σ H _ I h) fun u s1 ⟨x,H1,I1,rx,a,dx,fs,ex,ea,l,q⟩=>?_) ht
  subst ex
  obtain rfl:u=Value.ref a:=rx
  refine getmeth_ok I1 ea c hm l ?_
  refine PySem.W.callWith_K (first:=[.ref a]) (h₀:=X.base) I.ok.mod.kin hm.kp (thn (ha pos pins s1 σ H1 _ I1 q) fun us s2 ⟨vs,H2,I2,r,q2⟩=>⟨I2.kIn,?_⟩) hst hpl
  exact run_fn (us:=.ref a::us) (vs:=.ref a::vs) F hr hb hd hx I2 (.cons rfl r) q2
theorem pe_meth0 {pl:Sem Bool} (he:PE X o ta) (c:Cls X.K C) (hm:Meth X.K C m f) (F:FnOk X.prog X.w X.K X.mg X.base CX k f fd ps sp) (hr:Room k X.A) (hb:Binds X.K fd ps ds) (hd:Vals dvs ds) (hx:Passes CX X E)
    (ht:eval (.Call (.Attribute o m apos) [] [] pos) X.env=(do
      let ov ← eval o X.env
      standAt apos.atName
      let (f,first) ← holding [ov] (getMethod ov m pl)
      callWith pos f first (backTo pos (starEach [] X.env)) (backToKw pos (keywordEach [] X.env))):=by rfl) :
    PE X (.Call (.Attribute o m apos) [] [] pos) (tMeth C m sp dvs E ta tNil):=by
  intro pins s σ H Q I h
  refine PySem.W.methodCall_KW (pl:=pl) (thn (he pins s σ H _ I h) fun u s1 ⟨x,H1,I1,rx,a,dx,fs,ex,ea,l,q⟩=>?_) ht
  subst ex
  obtain rfl:u=Value.ref a:=rx
  refine getmeth_ok I1 ea c hm l ?_
  exact PySem.W.callWith_K0 (first:=[.ref a]) I1.kIn hm.kp (run_fn (us:=[.ref a]) (vs:=[.ref a]) F hr hb hd hx I1 (.cons rfl .nil) q)
structure Mk (K:PySem.W.Frag) (C f:Addr):Prop where
  makes:PySem.W.makesIn K C=true
  init:PySem.W.findIn K (.ref C) "__init__" = some (some (.ref f))
  fn:PySem.W.isFn K (.ref f)=true
  kp:PySem.W.keepIn K (.ref C)=true
theorem run_make {pins:List (Addr × Obj)} {σ:St} {H:Hp} {s:Shared} {Q:VK} {us:List Value} {vs:List V} (M:Mk X.K C f) (F:FnOk X.prog X.w X.K X.mg X.base CX k f fd ps sp) (hr:Room (k+1) X.A) (hb:Binds X.K fd ps ds) (hd:Vals dvs ds)
    (hx:Passes CX X E) (I:Inv X pins σ H s) (r:Vals vs us)
    (h:∀ x dx,H x=none→H dx=none→dx≠x→sp (.ref x::(vs++dvs)) (upd (upd H dx (.own x)) x (.ins C dx [])) (fun v H2=>v = .non∧Q (.ref x) H2) E) :
    wpAny (model X.prog X.w) X.A (call (.ref C) us) (EP X pins σ Q) X.xe s:=by
  have hq:=h (s.heap.objs.size+1) s.heap.objs.size (I.hok.fresh (Nat.le_succ _)) (I.hok.fresh (Nat.le_refl _)) (Nat.ne_of_lt (Nat.lt_succ_self _))
  have I2:=Inv.made (C:=C) I
  have r2:Vals (V.ref (s.heap.objs.size+1)::(vs++dvs)) (Value.ref (s.heap.objs.size+1)::(us++ds)):=.cons rfl (r.append hd)
  have hl:(Value.ref (s.heap.objs.size+1)::us++ds).length=ps.length:=by
    have e:=r2.length
    rw[F.len _ _ _ _ hq] at e
    exact e.symm
  refine wpAny_call (make_map (f:=f) I.kIn M.makes M.init (beq_iff_eq.mp M.fn) (codeAny_mono (F.run _ X.stack _ _ ⟨Value.ref (s.heap.objs.size+1)::us,[]⟩ (Value.ref (s.heap.objs.size+1)::(us++ds)) _ _ E (hr.make C us [])
    (I2.env0.make C us []) (hb _ (Value.ref (s.heap.objs.size+1)::us) I2.kIn hl) r2 hq) fun r s' hq'=>?_))
  cases r with
  | error e=>exact hx pins σ _ _ e s' I2 hq'
  | ok fl =>
    cases fl with
    | ret u =>
      obtain⟨v,H',I3,rv,ev,q3⟩:=I2.after hq'
      subst ev
      exact⟨rv,⟨V.ref (s.heap.objs.size+1),H',I3,rfl,q3⟩⟩
    | next=>exact False.elim hq'
    | brk=>exact False.elim hq'
    | cont=>exact False.elim hq'
theorem pe_make (M:Mk X.K C f) (F:FnOk X.prog X.w X.K X.mg X.base CX k f fd ps sp) (hr:Room (k+1) X.A) (hg:Gl X x) (hm:X.mg x=some (.ref C)) (hb:Binds X.K fd ps ds) (hd:Vals dvs ds) (hx:Passes CX X E)
    (ha:PA X (e::es) t) (hdb:(x==("__debug__":Str))=false:=by decide) (he:starEach (e::es) X.env=(false,eval e X.env)::starEach es X.env:=by exact starEach_cons rfl) (hpl:(backTo pos (starEach es X.env)).any (·.1)=false:=by exact noStars rfl) :
    PE X (.Call (.Name x p) (e::es) [] pos) (tMake C sp dvs E t):=by
  intro pins s σ H Q I h
  refine wpAny_Call_Name_kw (ld_glob I hg hm ?_ hdb)
  refine PySem.W.callWith_K (h₀:=X.base) I.ok.mod.kin M.kp (thn (ha pos pins s σ H _ I h) fun us s1 ⟨vs,H1,I1,r,q⟩=>⟨I1.kIn,?_⟩) he hpl
  exact run_make M F hr hb hd hx I1 r q
end
noncomputable def PK (X:Cx) (kws:List Keyword) (t:TA):Prop :=
  ∀ (pos:Pos) (pins:List (Addr × Obj)) (s:Shared) (σ:St) (H:Hp) (Q:List V→Hp→Prop),Inv X pins σ H s→t σ H Q→wpAny (model X.prog X.w) X.A (evalAll ((backToKw pos (keywordEach kws X.env)).map (·.2))) (AP X pins σ Q) X.xe s
section
variable {X:Cx} {CX:CXT} {k:Nat} {f C:Addr} {fd:FuncData} {ps ks:List Str} {sp:Sp} {E:XK} {x m:Str} {p pos apos kpos:Pos} {e o:Expr} {es:List Expr} {kws:List Keyword} {te ta:TE} {t tk:TA} {nm:Option Str}
structure KBinds (K:PySem.W.Frag) (fd:FuncData) (ps ks:List Str) (g:List Value→List Value→List Value) (gV:List V→List V→List V):Prop where
  to:∀ (s:Shared) (us ws:List Value),K.In s.heap→(g us ws).length=ps.length→BindsTo s fd ⟨us,ks.zip ws⟩ (ps.zip (g us ws))
  rel:∀ {vs:List V} {us:List Value} {zs:List V} {ws:List Value},Vals vs us→Vals zs ws→Vals (gV vs zs) (g us ws)
noncomputable def tCallK (sp:Sp) (gV:List V→List V→List V) (E:XK) (t tk:TA):TE:=fun σ H Q=>t σ H fun vs H1=>tk σ H1 fun zs H2=>sp (gV vs zs) H2 Q E
variable {g:List Value→List Value→List Value} {gV:List V→List V→List V}
end
structure FnScope (N P:List Str) (sc:Scope):Prop where
  kind:sc.kind = .function
  co:sc.isCoroutine=false
  gen:sc.isGenerator=false
  nd:N.Nodup
  pre:N.take P.length=P
  par:∀ x∈P,sc.names.lookup x=some .local∨sc.names.lookup x=some .cell
  nofree:∀ y∈sc.names,y.2≠.free
theorem bindL_out {kindOf:Str→Option NameKind} {x:Str}:∀ {binds:List (Str × Value)} {m:Str→Option Value},(∀ v,(x,v)∉binds)→bindL kindOf binds m x=m x
  | [],_,_=>rfl
  | (n,v)::r,m,h=>by
    unfold bindL
    rw[bindL_out fun w hw=>h w (List.mem_cons_of_mem _ hw)]
    split
    · have:x≠n:=by rintro rfl;exact h v List.mem_cons_self
      simp[this]
    · rfl
theorem bindC_out {kindOf:Str→Option NameKind} {x:Str}:∀ {binds:List (Str × Value)} {m:Str→Option Value},(∀ v,(x,v)∉binds)→bindC kindOf binds m x=m x
  | [],_,_=>rfl
  | (n,v)::r,m,h=>by
    unfold bindC
    rw[bindC_out fun w hw=>h w (List.mem_cons_of_mem _ hw)]
    split
    · rfl
    · have:x≠n:=by rintro rfl;exact h v List.mem_cons_self
      simp[this]
theorem bindL_get {kindOf:Str→Option NameKind} {x:Str} {v:Value}:∀ {P:List Str} {vs:List Value} {i:Nat} {m:Str→Option Value},P.Nodup→P[i]? = some x→vs[i]? = some v→kindOf x=some .local →
    bindL kindOf (P.zip vs) m x=some v
  | [],_,_,_,_,h,_,_=>by simp at h
  | _::_,[],_,_,_,_,h,_=>by simp at h
  | p::P,w::vs,0,m,nd,h1,h2,hk=>by
    simp at h1 h2;subst h1;subst h2
    show bindL kindOf ((p,w)::P.zip vs) m p=_
    unfold bindL
    rw[bindL_out fun v hv=>(List.nodup_cons.mp nd).1 (List.of_mem_zip hv).1,if_pos hk]
    simp
  | p::P,w::vs,i+1,m,nd,h1,h2,hk=>by
    show bindL kindOf ((p,w)::P.zip vs) m x=_
    unfold bindL
    exact bindL_get (i:=i) (List.nodup_cons.mp nd).2 (by simpa using h1) (by simpa using h2) hk
theorem bindC_get {kindOf:Str→Option NameKind} {x:Str} {v:Value}:∀ {P:List Str} {vs:List Value} {i:Nat} {m:Str→Option Value},P.Nodup→P[i]? = some x→vs[i]? = some v→kindOf x≠some .local →
    bindC kindOf (P.zip vs) m x=some v
  | [],_,_,_,_,h,_,_=>by simp at h
  | _::_,[],_,_,_,_,h,_=>by simp at h
  | p::P,w::vs,0,m,nd,h1,h2,hk=>by
    simp at h1 h2;subst h1;subst h2
    show bindC kindOf ((p,w)::P.zip vs) m p=_
    unfold bindC
    rw[bindC_out fun v hv=>(List.nodup_cons.mp nd).1 (List.of_mem_zip hv).1,if_neg hk]
    simp
  | p::P,w::vs,i+1,m,nd,h1,h2,hk=>by
    show bindC kindOf ((p,w)::P.zip vs) m x=_
    unfold bindC
    exact bindC_get (i:=i) (List.nodup_cons.mp nd).2 (by simpa using h1) (by simpa using h2) hk
noncomputable def start (N:List Str) (vs:List V):St:=vs.map some++List.replicate (N.length - vs.length) none
noncomputable def cxOf (CX:CXT) (P:Program) (w:World) (K:PySem.W.Frag) (mg:Str→Option Value) (base:Heap) (N:List Str) (qual:Str) (scope:Scope) (f:Addr) (cd:Value) (A:Around) (outer:List Env) (s:Shared) (H:Hp) (E:XK):Cx where
  prog:=P
  w:=w
  K:=K
  mg:=mg
  base:=base
  A:=A.deeper (envOfC qual scope s.heap.objs.size f cd)
  N:=N
  s₀:=s
  H₀:=H
  env:=envOfC qual scope s.heap.objs.size f cd
  outer:=outer
  stack:=envOfC qual scope s.heap.objs.size f cd::outer
  ex:=[]
  calm:=true
  fn:=fun _=>true
  pn:=[]
  xe:=fun e s'=>wpAny (model P w) (A.deeper (envOfC qual scope s.heap.objs.size f cd)) (leaving (envOfC qual scope s.heap.objs.size f cd) e) (fun _ s''=>CX outer H s E e s'') (fun e' s''=>CX outer H s E e' s'') s'
theorem cell_has {sc:Scope} {n:Nat} {x:Str} (h:sc.names.lookup x=some .cell):∃ c,(cellsFrom n sc.names []).lookup x=some c:=by
  have q:=PySem.W.cellsFrom_some sc.names n [] (.inl h)
  exact Option.isSome_iff_exists.mp q
theorem inv_start {CX:CXT} {P:Program} {w:World} {K:PySem.W.Frag} {mg:Str→Option Value} {base:Heap} {N ps:List Str} {qual:Str} {scope:Scope} {f:Addr} {cd:Value} {A:Around} {outer:List Env} {s s1:Shared} {H:Hp} {E:XK} {us:List Value} {vs:List V}
    (S:FnScope N ps scope) (hd:A.handled=none) (e0:Env0 P w K mg base A outer s H) (hl:vs.length=ps.length) (r:Vals vs us)
    (x:InCallC s s.heap.objs.size (bindL (envOfC qual scope s.heap.objs.size f cd).kindOf (ps.zip us) fun _=>none) (cellsFrom (s.heap.objs.size+1) scope.names []) (bindC (envOfC qual scope s.heap.objs.size f cd).kindOf (ps.zip us) fun _=>none) s1) :
    Inv (cxOf CX P w K mg base N qual scope f cd A outer s H E) [] (start N vs) H s1:=by
  have hpl:ps.length≤N.length:=by have:=congrArg List.length S.pre;rw[List.length_take] at this;omega
  obtain⟨h1,tk,rfl,hk⟩:=x.done
  have noA:∀ b:Addr,b∉(cxOf CX P w K mg base N qual scope f cd A outer s H E).ex:=fun b z=>absurd (show b∈([]:List Addr) from z) (by simp)
  refine⟨⟨e0.mod,S.kind,rfl,rfl,Nat.le_refl _,fun y z c h1 h2=>?_,fun y hy=>?_,fun y c _ h=>?_,fun _=>hd,Around.frames_deeper e0.frames,.inr ⟨rfl,rfl⟩,fun b z=>absurd z (noA b),e0.bs,e0.bsz,fun b _ _=>noA b,fun b z=>absurd z (noA b),e0.funs,e0.frf⟩,
    rfl,e0.bare,Un.kept hk,⟨_,x.toInCall.ns,fun i y v h1 h2 h3=>?_⟩,fun y c h=>⟨_,x.cell y c h⟩,e0.hok.fresh (Nat.le_refl _),fun y c h=>?_,fun p hp=>absurd (show p∈([]:List (Addr × Obj)) from hp) (by simp),e0.hok.kept hk,?_⟩
  · exact name_of_addr x.apart (PySem.mem_of_lookup h1) (PySem.mem_of_lookup h2)
  · have hy:scope.names.lookup y=some .cell∨scope.names.lookup y=some .free:=hy
    rcases hy with hy | hy
    · exact cell_has hy
    · exact absurd rfl (S.nofree _ (PySem.mem_of_lookup hy))
  · exact Nat.le_of_lt (x.above y c (PySem.mem_of_lookup h))
  · have hi:i<vs.length:=by
      unfold start at h2
      by_cases hi:i<vs.length
      · exact hi
      · rw[List.getElem?_append_right (by simpa using hi)] at h2
        rw[List.getElem?_replicate] at h2
        split at h2 <;> cases h2
    have ha:vs[i]? = some v:=by
      unfold start at h2
      rw[List.getElem?_append_left (by simpa using hi),List.getElem?_map] at h2
      cases e:vs[i]? with
      | none=>rw[e] at h2;cases h2
      | some a=>rw[e] at h2;cases h2;rfl
    obtain⟨u,hu,rv⟩:=r.get ha
    have hp:ps[i]? = some y:=by
      rw[← S.pre,List.getElem?_take_of_lt (by omega)];exact h1
    have ndP:ps.Nodup:=by rw[← S.pre];exact S.nd.sublist (List.take_sublist _ _)
    refine⟨u,rv,?_⟩
    rcases S.par y (List.mem_of_getElem? hp) with k | k
    · exact .inl ⟨k,bindL_get ndP hp hu k⟩
    · obtain⟨c,e⟩:=cell_has (n:=s.heap.objs.size+1) k
      refine .inr ⟨.inl k,c,e,?_⟩
      have q:=x.cell y c e
      rw[bindC_get ndP hp hu (by show scope.names.lookup y≠_;rw[k];decide)] at q
      exact q
  · exact e0.hok.fresh (Nat.le_of_lt (x.above y c (PySem.mem_of_lookup h)))
  · unfold start
    show _=N.length
    rw[List.length_append,List.length_map,List.length_replicate]
    omega
theorem fn_of {CX:CXT} {P:Program} {w:World} {K:PySem.W.Frag} {mg:Str→Option Value} {base:Heap} {k:Nat} {f:Addr} {name qual:Str} {params:Arguments} {body:List Stmt} {scope:Scope} {dV kV doc pm cdv ct oc:Value} {an od:Option Addr}
    {osl:Array (Option Value)} {N ps:List Str} {sp:Sp} (lk:K.lookup f=some ⟨oc,od,.func (PySem.W.fnOf name qual params body scope dV kV doc pm an cdv ct),osl⟩) (hcd:PySem.W.codeIn K cdv qual=true) (S:FnScope N ps scope)
    (len:∀ vs H Q E,sp vs H Q E→vs.length=ps.length)
    (hbody:∀ (A:Around) (outer:List Env) (s:Shared) (H:Hp) (vs:List V) (Q:VK) (E:XK),Room k (A.deeper (envOfC qual scope s.heap.objs.size f cdv))→sp vs H Q E →
      ∃ t,PSs (cxOf CX P w K mg base N qual scope f cdv A outer s H E) body t∧t { nx:=fun _ H'=>Q .non H',rt:=Q } (start N vs) H) :
    FnOk P w K mg base CX (k+1) f (PySem.W.fnOf name qual params body scope dV kV doc pm an cdv ct) ps sp:=by
  refine⟨len,fun A outer s H args us vs Q E hr e0 hb r hsp=>?_⟩
  have hl:=len _ _ _ _ hsp
  have KX:K.In s.heap:=e0.mod.kin.keeps fun b o e=>(e0.bs b o e).1
  have lim:s.heap.NoLimit:=e0.mod.nolimit.keeps fun b o e=>(e0.bs b o e).1
  have hkind:∀ y∈ps.zip us,scope.names.lookup y.1=some .local∨(scope.names.lookup y.1=some .cell∧((cellsFrom (s.heap.objs.size+1) scope.names []).lookup y.1).isSome=true):=fun⟨n,v⟩ hy=>by
    rcases S.par n (List.of_mem_zip hy).1 with q | q
    · exact .inl q
    · exact .inr ⟨q,PySem.W.cellsFrom_some _ _ _ (.inl q)⟩
  refine codeAny_call_function hr.depth (KX _ _ lk) rfl S.co S.gen rfl (PySem.W.codeRec_of KX hcd) (hb _ _ _ _ ?_)
  refine wpAny_newFunctionEnv_cells S.kind hkind fun env he s1 x=>?_
  subst he
  refine⟨lim.keeps x.toInCall.keep,codeAny_func ?_⟩
  obtain⟨t,ht,hq⟩:=hbody A outer s H vs Q E (hr.deeper _) hsp
  have I:Inv (cxOf CX P w K mg base N qual scope f cdv A outer s H E) [] (start N vs) H s1:=inv_start S hr.hd e0 hl r x
  refine wpAny_mono (ht [] s1 (start N vs) H _ I hq) (fun fl s' hs=>?_) fun e s' hs=>hs
  have fin:∀ {σ':St} {H':Hp} {v:V} {u:Value},Inv (cxOf CX P w K mg base N qual scope f cdv A outer s H E) [] σ' H' s'→RelV v u→Q v H'→CE outer P w H s Q u s' :=
    fun {σ' H' v u} J rv q=>⟨v,H',J.os,J.bare,J.base,J.hok,rv,q⟩
  cases fl with
  | ret u =>
    obtain⟨v,σ',H',J,rv,q⟩:=hs
    exact fin J rv q
  | next =>
    obtain⟨σ',H',J,q⟩:=hs
    exact fin (v:=V.non) (u:=Value.none) J rfl q
  | brk =>
    obtain⟨_,_,_,q⟩:=hs
    exact False.elim q
  | cont =>
    obtain⟨_,_,_,q⟩:=hs
    exact False.elim q
section
variable {X:Cx} {x:Str} {p pos:Pos} {e:Expr} {es:List Expr} {t:TA} {id T:String} {r:List V→Hp→VK→Prop}
noncomputable def tCB (r:List V→Hp→VK→Prop) (t:TA):TE:=fun σ H Q=>t σ H fun vs H1=>r vs H1 Q
theorem pe_callB (hc:CallR X (.builtin id) r) (hg:Gl X x) (hm:X.mg x=none) (hv:bootBuiltins x=some (.builtin id)) (ha:PA X (e::es) t) (hn:x≠"__name__":=by decide) (hdb:(x==("__debug__":Str))=false:=by decide)
    (he:starEach (e::es) X.env=(false,eval e X.env)::starEach es X.env:=by exact starEach_cons rfl) (hpl:(backTo pos (starEach es X.env)).any (·.1)=false:=by exact noStars rfl):PE X (.Call (.Name x p) (e::es) [] pos) (tCB r t):=by
  intro pins s σ H Q I h
  refine wpAny_Call_Name_kw (ld_blt I hg hm hv ?_ hn hdb)
  exact PyProof.Rows.callWith_builtin1 (thn (ha pos pins s σ H _ I h) fun us s1 ⟨vs,H1,I1,r1,q1⟩=>hc pins s1 σ H1 vs us Q I1 r1 q1) he hpl
theorem pe_callTy (hc:CallR X (.type T) r) (hg:Gl X x) (hm:X.mg x=none) (hv:bootBuiltins x=some (.type T)) (ha:PA X (e::es) t) (hn:x≠"__name__":=by decide) (hdb:(x==("__debug__":Str))=false:=by decide)
    (he:starEach (e::es) X.env=(false,eval e X.env)::starEach es X.env:=by exact starEach_cons rfl) (hpl:(backTo pos (starEach es X.env)).any (·.1)=false:=by exact noStars rfl):PE X (.Call (.Name x p) (e::es) [] pos) (tCB r t):=by
  intro pins s σ H Q I h
  refine wpAny_Call_Name_kw (ld_blt I hg hm hv ?_ hn hdb)
  exact PyProof.Rows.callWith_type1 (thn (ha pos pins s σ H _ I h) fun us s1 ⟨vs,H1,I1,r1,q1⟩=>hc pins s1 σ H1 vs us Q I1 r1 q1) he hpl
end
end L2
namespace HT
open PySem PyProof.Rows
noncomputable def lexLt:List Int→List Int→Bool
  | [],[]=>false
  | [],_::_=>true
  | _::_,[]=>false
  | x::xs,y::ys=>if x=y then lexLt xs ys else decide (x<y)
section
open PySem.SeqAt
open PySem.AutoSeq1 (wpAny_loadPart')
open PySem.MeetsSeq PySem.MeetsSeq2 PySem.MeetsSeq3
end
section
variable {prog:Program} {w:World} {A:Around} {E:Value→Shared→Prop} {s:Shared}
theorem cat_tup {t b:Addr} {vs ws:List Value} {Q:Value→Shared→Prop} (ht:IsTup s.heap t vs.toArray) (hb:IsTup s.heap b ws.toArray) (hv:vs≠[])
    (h1:ws=[]→Q (.ref t) s) (h2:ws≠[]→Q (.ref s.heap.objs.size) { s with heap:=s.heap.push { cls:=.type "tuple",data:=.seq (vs++ws).toArray } })
    (hsz:vs.length+ws.length≤sizeLine):wpAny (model prog w) A (binaryOp .Add (.ref t) (.ref b)) Q E s:=by
  obtain⟨⟨cls,dd,data,sl⟩,ho,hc,n,hd⟩:=id ht
  obtain⟨⟨cls2,dd2,data2,sl2⟩,ho2,hc2,n2,hd2⟩:=id hb
  simp only at hc hd hc2 hd2
  subst hc hd hc2 hd2
  have e:vs.toArray++ws.toArray=(vs++ws).toArray:=by simp
  by_cases hw:ws=[]
  · exact concat_meets ⟨_,ho,rfl⟩ ⟨_,ho2,rfl⟩ noFill_tuple_add seq_tuple_add PySem.F.slot_tuple_add PySem.F.entry_tuple_add (PySem.F.args_tuple_add_2 _ _)
      (tuple_addW1 t b vs.toArray ws.toArray n n2 dd dd2 sl sl2 (by simpa using hv) (by simp[hw])) ⟨ho,ho2,h1 hw⟩
  · refine concat_meets ⟨_,ho,rfl⟩ ⟨_,ho2,rfl⟩ noFill_tuple_add seq_tuple_add PySem.F.slot_tuple_add PySem.F.entry_tuple_add (PySem.F.args_tuple_add_2 _ _)
      (tuple_addW2 t b vs.toArray ws.toArray n n2 dd dd2 sl sl2 (by simpa using hv) (by simpa using hw) (by rw[List.size_toArray,List.size_toArray];exact hsz)) ⟨ho,ho2,?_⟩
    rw[e]
    exact h2 hw
noncomputable def sIx (n d:Nat):Option Int→Nat
  | none=>d
  | some v=>if v<0 then (v+(n:Int)).toNat else min v.toNat n
theorem sIx_none (n d:Nat):sIx n d none=d:=rfl
theorem sIx_nat (n d k:Nat):sIx n d (some (k:Int))=min k n:=by
  show (if (k:Int)<0 then ((k:Int)+(n:Int)).toNat else min (k:Int).toNat n)=min k n
  rw[if_neg (by omega),Int.toNat_natCast]
theorem sIx_le (n d:Nat) (hd:d≤n) (o:Option Int):sIx n d o≤n:=by
  cases o with
  | none=>exact hd
  | some v =>
    show (if v<0 then (v+(n:Int)).toNat else min v.toNat n)≤n
    by_cases hv:v<0
    · rw[if_pos hv];omega
    · rw[if_neg hv];exact Nat.min_le_right _ _
theorem clip_eq (v:Int) (n d:Nat):(if v<0 then max (v+(n:Int)) 0 else min v (n:Int))=((sIx n d (some v):Nat):Int):=by
  show (if v<0 then max (v+(n:Int)) 0 else min v (n:Int))=(((if v<0 then (v+(n:Int)).toNat else min v.toNat n):Nat):Int)
  by_cases hv:v<0
  · simp only[if_pos hv];omega
  · simp only[if_neg hv];omega
theorem adjust_gen (lo hi:Option Int) (n:Nat):Builtin.Slice.sliceAdjust lo hi 1 (n:Int)=(((sIx n 0 lo:Nat):Int),((sIx n n hi:Nat):Int)):=by
  have h1:¬ ((1:Int)<0):=by omega
  unfold Builtin.Slice.sliceAdjust
  simp only[h1,if_false]
  refine Prod.ext ?_ ?_
  · cases lo with
    | none=>rfl
    | some v=>exact clip_eq v n 0
  · cases hi with
    | none=>rfl
    | some v=>exact clip_eq v n n
theorem places_gen (i j:Nat):Builtin.Slice.slicePlaces (i:Int) (j:Int) 1=j - i:=by
  unfold Builtin.Slice.slicePlaces
  have h1:(1:Int) > 0:=by omega
  simp only[h1,if_true,Int.ediv_one]
  split <;> omega
theorem slicePart_ {v:Value} {o:Option Int} {Q:Option Int→Shared→Prop} (p:IsPart v o) (h:Q o s):wpAny (model prog w) A (Builtin.Slice.slicePartIndex v) Q E s:=by
  cases p with
  | none=>exact slicePart_none h
  | int i t=>exact slicePart_int h
theorem sliceApplied_gen {sl:Addr} {vl vu:Value} {lo hi:Option Int} {n:Nat} {Q:Int × Int × Nat→Shared→Prop} (hs:s.heap.IsSliceOf sl vl vu .none) (pl:IsPart vl lo) (pu:IsPart vu hi)
    (h:Q (((sIx n 0 lo:Nat):Int),1,sIx n n hi - sIx n 0 lo) s):wpAny (model prog w) A (Builtin.Slice.sliceApplied (.ref sl) (pure (n:Int))) Q E s:=by
  obtain⟨os,hos,hcs,hds⟩:=id hs
  unfold Builtin.Slice.sliceApplied Builtin.Slice.sliceFields
  refine wpAny_bind (wpAny_bind (wpAny_field hos hds (x:=vl) rfl (wpAny_bind (wpAny_field hos hds (x:=vu) rfl (wpAny_bind (wpAny_field hos hds (x:=.none) rfl (wpAny_pure ?_)))))))
  refine wpAny_bind (slicePart_none ?_)
  show wpAny _ _ (if ((1:Int)==0)=true then _ else _) _ _ s
  rw[if_neg (by decide)]
  refine wpAny_bind (slicePart_ pl (wpAny_bind (slicePart_ pu (wpAny_bind (wpAny_pure ?_)))))
  show wpAny _ _ (match Builtin.Slice.sliceAdjust lo hi 1 (n:Int) with | (lo,hi)=>pure (lo,(1:Int),Builtin.Slice.slicePlaces lo hi 1)) _ _ s
  rw[adjust_gen lo hi n]
  show wpAny _ _ (pure (((sIx n 0 lo:Nat):Int),(1:Int),Builtin.Slice.slicePlaces ((sIx n 0 lo:Nat):Int) ((sIx n n hi:Nat):Int) 1)) _ _ s
  rw[places_gen]
  exact wpAny_pure h
theorem pick_gen (xs:Array Value) (i k:Nat):((List.range k).filterMap fun (m:Nat)=>xs[((i:Int)+(m:Int)*1).toNat]?).toArray=((xs.toList.drop i).take k).toArray:=by
  have e:(fun (m:Nat)=>xs[((i:Int)+(m:Int)*1).toNat]?)=fun m=>xs[i+m]?:=by
    funext m
    have:((i:Int)+(m:Int)*1).toNat=i+m:=by omega
    rw[this]
  rw[e]
  have:=pick_run xs i k
  rw[List.filterMap_map] at this
  have e2:((fun x=>xs[x]?) ∘ fun x=>i+x)=fun m=>xs[i+m]?:=rfl
  rw[e2] at this
  rw[this]
theorem getItem_tuple_cut {t sl:Addr} {items:Array Value} {vl vu:Value} {lo hi:Option Int} {Q:Value→Shared→Prop} (ht:IsTup s.heap t items) (hs:s.heap.IsSliceOf sl vl vu .none) (pl:IsPart vl lo) (pu:IsPart vu hi)
    (hw:¬ (sIx items.size 0 lo=0∧sIx items.size items.size hi=items.size))
    (h:Q (.ref s.heap.objs.size) { s with heap:=s.heap.push { cls:=.type "tuple",data:=.seq ((items.toList.drop (sIx items.size 0 lo)).take (sIx items.size items.size hi - sIx items.size 0 lo)).toArray } })
    (hsz:items.size≤sizeLine):wpAny (model prog w) A (getItem (.ref t) (.ref sl)) Q E s:=by
  have htake:sizeOk (.seq ((items.toList.drop (sIx items.size 0 lo)).take (sIx items.size items.size hi - sIx items.size 0 lo)).toArray):=by
    show ((items.toList.drop (sIx items.size 0 lo)).take (sIx items.size items.size hi - sIx items.size 0 lo)).toArray.size≤sizeLine
    rw[List.size_toArray,List.length_take,List.length_drop,Array.length_toList]
    omega
  have hj:sIx items.size items.size hi≤items.size:=sIx_le _ _ (Nat.le_refl _) hi
  obtain⟨os,hos,hcs,hds⟩:=id hs
  have hTs:s.TypeIs (.ref sl) "slice":=⟨os,hos,hcs⟩
  unfold getItem
  try with_reducible refine wpAny_holding ?_
  first | refine wpAny_bind (wpAny_pure ?_) | skip
  refine wpAny_bind (wpAny_sequenceKey ht.typeIs (by decide) ?_)
  refine wpAny_bind (wpAny_callSpecial?_slot (name:=Str.ofString "__getitem__") ht.typeIs PyProof.Rows.slot_tuple_getitem
    (wpAny_call_entry PyProof.Rows.slot_tuple_getitem ht.typeIs entry_tuple_getitem ?_ (args_tuple_getitem _ _)))
  show wpAny _ _ (Builtin.Tuple.tupleItemsOf (.ref t) >>= _) _ _ s
  refine wpAny_bind (tupleItemsOf_ ht ?_)
  refine wpAny_bind (wpAny_typeOf hTs ?_)
  rw[if_pos (by decide)]
  refine wpAny_bind (sliceApplied_gen hs pl pu ?_)
  have hno:¬ ((((sIx items.size 0 lo:Nat):Int)==0&&(1:Int)==1&&(sIx items.size items.size hi - sIx items.size 0 lo)==items.size)=true):=by
    intro q
    rw[Bool.and_eq_true,Bool.and_eq_true] at q
    have q1:((sIx items.size 0 lo:Nat):Int)=0:=eq_of_beq q.1.1
    have q2:sIx items.size items.size hi - sIx items.size 0 lo=items.size:=eq_of_beq q.2
    exact hw ⟨by omega,by omega⟩
  show wpAny _ _ (if (((sIx items.size 0 lo:Nat):Int)==0&&(1:Int)==1&&(sIx items.size items.size hi - sIx items.size 0 lo)==items.size)=true then _ else _) _ _ s
  rw[if_neg hno,pick_gen]
  first
    | exact wpAny_bind (m:=Builtin.Tuple.tupleExact _) (wpAny_newObj_type (wpAny_pure ⟨_,rfl,wpAny_pure h⟩) htake)
    | exact wpAny_bind (m:=Builtin.Tuple.tupleExact _) (wpAny_newObj_type (wpAny_bind (wpAny_pure (wpAny_pure ⟨_,rfl,wpAny_pure h⟩))) htake)
    | exact wpAny_bind (wpAny_bind (m:=Builtin.Tuple.tupleExact _) (wpAny_newObj_type (wpAny_pure (wpAny_pure ⟨_,rfl,wpAny_pure h⟩)) htake))
    | exact wpAny_bind (wpAny_bind (m:=Builtin.Tuple.tupleExact _) (wpAny_newObj_type (wpAny_pure ⟨_,rfl,wpAny_pure h⟩) htake))
end
end HT
namespace L2
open PySem PySem.Spec PyProof.Rows
noncomputable abbrev TO:=St→Hp→(Option Int→Hp→Prop)→Prop
noncomputable def PO (X:Cx) (e:Option Expr) (t:TO):Prop :=
  ∀ (pins:List (Addr × Obj)) (s:Shared) (σ:St) (H:Hp) (Q:Option Int→Hp→Prop),Inv X pins σ H s→t σ H Q →
    wpAny (model X.prog X.w) X.A (evalPart e X.env) (fun u s'=>∃ o H',Inv X pins σ H' s'∧IsPart u o∧Q o H') X.xe s
noncomputable def tNoPart:TO:=fun _ H Q=>Q none H
noncomputable def tPart (t:TE):TO:=fun σ H Q=>t σ H fun x H1=>∃ i,x = .int i∧Q (some i) H1
section
variable {X:Cx} {e:Expr} {te:TE} {lo hi:Option Expr} {tl th:TO} {pos p2:Pos}
theorem po_none:PO X none tNoPart:=by
  intro pins s σ H Q I h
  rw[evalPart_none]
  exact wpAny_pure ⟨none,H,I,.none,h⟩
theorem po_some (h:PE X e te):PO X (some e) (tPart te):=by
  intro pins s σ H Q I hw
  rw[evalPart_some]
  refine thn (h pins s σ H _ I hw) fun u s1 ⟨x,H1,I1,r1,q1⟩=>?_
  obtain⟨i,rfl,q⟩:=q1
  obtain⟨t,rfl⟩:=r1
  exact⟨some i,H1,I1,.int i t,q⟩
noncomputable def SlR (X:Cx) (r:V→Option Int→Option Int→Hp→VK→Prop):Prop :=
  ∀ (pins:List (Addr × Obj)) (s:Shared) (σ:St) (H:Hp) (x:V) (v vl vu:Value) (lo hi:Option Int) (sl:Addr) (Q:VK),Inv X pins σ H s→RelV x v→s.heap.IsSliceOf sl vl vu .none→IsPart vl lo→IsPart vu hi→r x lo hi H Q →
    ∃ T id,typeLookup (.type T) "__getitem__" = pure (some (.builtin id))∧s.TypeIs v T∧wpAny (model X.prog X.w) X.A (getItem v (.ref sl)) (EP X pins σ Q) X.xe s
noncomputable def tSl (r:V→Option Int→Option Int→Hp→VK→Prop) (te:TE) (tl th:TO):TE:=fun σ H Q=>te σ H fun x H1=>tl σ H1 fun l H2=>th σ H2 fun u H3=>r x l u H3 Q
theorem pe_slice {r:V→Option Int→Option Int→Hp→VK→Prop} (hr:SlR X r) (he:PE X e te) (hl:PO X lo tl) (hu:PO X hi th):PE X (.Subscript e (.Slice lo hi none p2) pos) (tSl r te tl th):=by
  intro pins s σ H Q I h
  refine Subscript_ (thn (he pins s σ H _ I h) fun v s1 ⟨x,H1,I1,r1,q1⟩=>?_)
  refine wpAny_Slice (thn (hl pins s1 σ H1 _ I1 q1) fun vl s2 ⟨l,H2,I2,pl,q2⟩=>thn (hu pins s2 σ H2 _ I2 q2) fun vu s3 ⟨u,H3,I3,pu,q3⟩=>?_)
  rw[evalPart_none]
  refine wpAny_pure ?_
  have I4:Inv X pins σ H3 { s3 with heap:=s3.heap.push { cls:=.type "slice",data:=.fields #[vl,vu,.none] } }:=I3.kept (t':=s3.toks) fun b ob q=>Heap.get?_push_of_some _ q
  obtain⟨T,id,hT,ht,hg⟩:=hr pins { s3 with heap:=s3.heap.push { cls:=.type "slice",data:=.fields #[vl,vu,.none] } } σ H3 x v vl vu l u s3.heap.objs.size Q I4 r1 (Heap.IsSliceOf.new ..) pl pu q3
  show wpAny (model X.prog X.w) X.A (subscriptTail e (.Slice lo hi none p2) v (.ref s3.heap.objs.size)) (EP X pins σ Q) X.xe { s3 with heap:=s3.heap.push { cls:=.type "slice",data:=.fields #[vl,vu,.none] } }
  exact tail_any (ops:=[.ref s3.heap.objs.size,v]) ht hT hg (by with_unfolding_all rfl)
noncomputable def cutV (xs:List V) (lo hi:Option Int):List V:=(xs.drop (HT.sIx xs.length 0 lo)).take (HT.sIx xs.length xs.length hi - HT.sIx xs.length 0 lo)
theorem cutV_length (xs:List V) (lo hi:Option Int):(cutV xs lo hi).length≤xs.length:=by
  unfold cutV
  rw[List.length_take,List.length_drop]
  omega
noncomputable def rSlT (K:PySem.W.Frag):V→Option Int→Option Int→Hp→VK→Prop:=fun x lo hi H Q=>∃ a xs,x = .ref a∧SqT K H a xs ∧
  ¬ (HT.sIx xs.length 0 lo=0∧HT.sIx xs.length xs.length hi=xs.length)∧∀ p,H p=none→Q (.ref p) (upd H p (.tup (cutV xs lo hi)))
theorem sl_tup:SlR X (rSlT X.K):=by
  intro pins s σ H x v vl vu lo hi sl Q I rx hs pl pu h
  obtain⟨a,xs,rfl,hx,hw,q⟩:=h
  cases rx
  obtain⟨its,r,ht,hz⟩:=I.tuple hx
  have hlen:its.toArray.size=xs.length:=by rw[List.size_toArray];exact r.length.symm
  refine⟨"tuple",_,PyProof.Rows.slot_tuple_getitem.lookup,ht.typeIs,?_⟩
  refine HT.getItem_tuple_cut ht hs pl pu (by rw[hlen];exact hw) ?_ (by rw[hlen];exact hz)
  rw[hlen]
  refine⟨.ref s.heap.objs.size,_,I.laid (t':=s.toks) (o:=.tup (cutV xs lo hi)) (fun b ob q=>Heap.get?_push_of_some _ q) (Nat.le_refl _) ?_,rfl,q _ (I.hok.fresh (Nat.le_refl _))⟩
  exact⟨Nat.le_trans (cutV_length xs lo hi) hz,_,(r.drop (HT.sIx xs.length 0 lo)).take (HT.sIx xs.length xs.length hi - HT.sIx xs.length 0 lo),IsTup.new _ _⟩
noncomputable def rLtT (K:PySem.W.Frag):R2:=fun x y H Q=>∃ a b ns ms,x = .ref a∧y = .ref b∧SqT K H a (ns.map V.int)∧SqT K H b (ms.map V.int)∧Q (.bl (HT.lexLt ns ms)) H
noncomputable def rCatT (K:PySem.W.Frag):R2:=fun x y H Q=>∃ a b xs ys,x = .ref a∧y = .ref b∧SqT K H a xs∧SqT K H b ys∧xs≠[]∧xs.length+ys.length≤sizeLine ∧
  (ys=[]→Q (.ref a) H)∧(ys≠[]→∀ p,H p=none→Q (.ref p) (upd H p (.tup (xs++ys))))
theorem Vals.nil_iff {xs:List V} {us:List Value} (r:Vals xs us):us=[]↔xs=[]:=by
  cases r with
  | nil=>simp
  | cons _ _=>simp
theorem op_catT:OpR X (binaryOp .Add) (rCatT X.K):=by
  intro pins s σ H x y v u Q I rx ry h
  obtain⟨a,b,xs,ys,rfl,rfl,ha,hb,hx,hz,q1,q2⟩:=h
  cases rx
  cases ry
  obtain⟨its,r1,p1,_⟩:=I.tuple ha
  obtain⟨its2,r2,p2,_⟩:=I.tuple hb
  refine HT.cat_tup p1 p2 (fun z=>hx (r1.nil_iff.mp z)) (fun z=>⟨.ref a,H,I,rfl,q1 (r2.nil_iff.mp z)⟩) (fun z=>?_) (by rw[← r1.length,← r2.length];exact hz)
  refine⟨.ref s.heap.objs.size,_,I.laid (t':=s.toks) (o:=.tup (xs++ys)) (fun b ob q=>Heap.get?_push_of_some _ q) (Nat.le_refl _) ?_,rfl,q2 (fun w=>z (r2.nil_iff.mpr w)) _ (I.hok.fresh (Nat.le_refl _))⟩
  exact⟨by rw[List.length_append];exact hz,_,r1.append r2,IsTup.new _ _⟩
end
noncomputable def ixN (n:Nat) (i:Int):Option Nat:=if 0≤i then (if i<n then some i.toNat else none) else if -(n:Int)≤i then some (i+n).toNat else none
noncomputable def atI {α:Type} (xs:List α) (i:Int):Option α:=(ixN xs.length i).bind fun j=>xs[j]?
theorem ixN_seq {n:Nat} {i:Int} {j:Nat} (h:ixN n i=some j):seqIndex? i n=some j∧j<n∧-(n:Int)≤i∧i<n:=by
  unfold ixN at h
  by_cases h0:0≤i
  · rw[if_pos h0] at h
    by_cases h1:i<n
    · rw[if_pos h1] at h
      have e:i.toNat=j:=Option.some.inj h
      exact⟨by rw[seqIndex_of h0 h1,e],by omega,by omega,h1⟩
    · rw[if_neg h1] at h;cases h
  · rw[if_neg h0] at h
    by_cases h1:-(n:Int)≤i
    · rw[if_pos h1] at h
      have e:(i+n).toNat=j:=Option.some.inj h
      exact⟨by rw[seqIndex_neg (by omega) h1,e],by omega,h1,by omega⟩
    · rw[if_neg h1] at h;cases h
theorem atI_get {α:Type} {xs:List α} {i:Int} {v:α} (h:atI xs i=some v):∃ j,seqIndex? i xs.length=some j∧xs[j]? = some v∧j<xs.length∧-(xs.length:Int)≤i∧i<xs.length:=by
  unfold atI at h
  cases e:ixN xs.length i with
  | none=>rw[e] at h;cases h
  | some j =>
    rw[e] at h
    obtain⟨h1,h2,h3,h4⟩:=ixN_seq e
    exact⟨j,h1,h,h2,h3,h4⟩
theorem atI_nat {α:Type} {xs:List α} {j:Nat} {v:α} (h:xs[j]? = some v):atI xs (j:Int)=some v:=by
  have hj:j<xs.length:=(List.getElem?_eq_some_iff.mp h).1
  have e:ixN xs.length (j:Int)=some j:=by
    unfold ixN
    rw[if_pos (by omega),if_pos (by omega)];simp
  unfold atI;rw[e];exact h
theorem atI_last {α:Type} (xs:List α) (v:α):atI (xs++[v]) (-1)=some v:=by
  have hl:(xs++[v]).length=xs.length+1:=by simp
  have e:ixN (xs++[v]).length (-1)=some xs.length:=by
    unfold ixN
    rw[hl,if_neg (by decide),if_pos (by omega)]
    congr 1
    omega
  unfold atI
  rw[e]
  show (xs++[v])[xs.length]? = some v
  simp
noncomputable def PlainIx (b:Expr):Prop:=∀ o i,subscripted b false o i=operate [o,i] (getItem o i)
noncomputable def IxR (X:Cx) (r:R2):Prop :=
  ∀ (value slice:Expr) (pins:List (Addr × Obj)) (s:Shared) (σ:St) (H:Hp) (x y:V) (v u:Value) (Q:VK),Inv X pins σ H s→RelV x v→RelV y u→r x y H Q →
    subscripted slice false v u=operate [v,u] (getItem v u)→wpAny (model X.prog X.w) X.A (subscriptTail value slice v u) (EP X pins σ Q) X.xe s
noncomputable def MtR (X:Cx) (id:String) (r:V→List V→Hp→VK→Prop):Prop :=
  ∀ (pins:List (Addr × Obj)) (s:Shared) (σ:St) (H:Hp) (x:V) (xs:List V) (v:Value) (us:List Value) (Q:VK),Inv X pins σ H s→RelV x v→Vals xs us→r x xs H Q →
    wpAny (model X.prog X.w) X.A (call (.builtin id) (v::us)) (EP X pins σ Q) X.xe s
section
variable {X:Cx} {a b:Expr} {ta tb:TE} {pos:Pos}
theorem pe_ix {r:R2} (hr:IxR X r) (ha:PE X a ta) (hb:PE X b tb) (hs:PlainIx b):PE X (.Subscript a b pos) (tOp r ta tb):=by
  intro pins s σ H Q I h
  exact Subscript_ (binT ha hb I h fun v u s2 x y H2 I2 rx ry q=>hr a b pins s2 σ H2 x y v u Q I2 rx ry q (hs _ _))
noncomputable def rIxL (K:PySem.W.Frag):R2:=fun x y H Q=>∃ p xs i v,x = .ref p∧y = .int i∧SqL K H p xs∧atI xs i=some v∧Q v H
noncomputable def rIxT (K:PySem.W.Frag):R2:=fun x y H Q=>∃ p xs i v,x = .ref p∧y = .int i∧SqT K H p xs∧atI xs i=some v∧Q v H
noncomputable def rIxS:R2:=fun x y H Q=>∃ z i c,x = .str z∧y = .int i∧z.length≤sizeLine∧atI z.cps.toList i=some c∧Q (.str ⟨#[c]⟩) H
theorem ix_list:IxR X (rIxL X.K):=by
  intro value slice pins s σ H x y v u Q I rx ry h hs
  obtain⟨p,xs,i,z,rfl,rfl,hq,he,q⟩:=h
  cases rx
  obtain⟨t,rfl⟩:=ry
  obtain⟨its,r,pl,hz⟩:=I.list hq
  obtain⟨j,h1,h2,h3,h4,h5⟩:=atI_get he
  obtain⟨w,ew,rw'⟩:=r.get h2
  have hl:=r.length
  have hn:=line63
  have fin:EP X pins σ Q w s:=⟨z,H,I,rw',q⟩
  by_cases h0:0≤i
  · have hj:i.toNat=j:=by
      rw[seqIndex_of h0 h5] at h1
      exact Option.some.inj h1
    exact item_listR pl.isList h0 (by omega) (by rw[hj];simpa using ew) fin hs
  · have hj:(i+(its.toArray.size:Int)).toNat=j:=by
      rw[seqIndex_neg (by omega) h4] at h1
      rw[List.size_toArray,← hl]
      exact Option.some.inj h1
    exact subscriptTail_builtinR (x:=w) pl.isList.typeIs slot_list_getitem.lookup
      (wpAny_getItem_list_neg (Q:=fun r s'=>r=w∧EP X pins σ Q r s') pl.isList (by omega) (by rw[List.size_toArray] <;> omega) (by omega) (by rw[hj];simpa using ew) ⟨rfl,fin⟩) hs
theorem ix_tup:IxR X (rIxT X.K):=by
  intro value slice pins s σ H x y v u Q I rx ry h hs
  obtain⟨p,xs,i,z,rfl,rfl,hq,he,q⟩:=h
  cases rx
  obtain⟨t,rfl⟩:=ry
  obtain⟨its,r,pl,hz⟩:=I.tuple hq
  obtain⟨j,h1,h2,h3,h4,h5⟩:=atI_get he
  obtain⟨w,ew,rw'⟩:=r.get h2
  have hl:=r.length
  have hn:=line63
  have fin:EP X pins σ Q w s:=⟨z,H,I,rw',q⟩
  exact subscriptTail_builtinR (x:=w) pl.typeIs slot_tuple_getitem.lookup
    (getItem_tuple (j:=j) (Q:=fun r s'=>r=w∧EP X pins σ Q r s') pl (by omega) (by omega) (by rw[List.size_toArray,← hl];exact h1) (by simpa using ew) ⟨rfl,fin⟩) hs
theorem ix_str:IxR X rIxS:=by
  intro value slice pins s σ H x y v u Q I rx ry h hs
  obtain⟨z,i,c,rfl,rfl,hz,he,q⟩:=h
  obtain⟨t,rfl⟩:=rx
  obtain⟨t',rfl⟩:=ry
  obtain⟨j,h1,h2,h3,h4,h5⟩:=atI_get he
  have hl:z.cps.toList.length=z.length:=by simp[Str.length]
  rw[hl] at h1 h4 h5
  have hn:=line63
  exact tail_any (typeIs_str s z t) slot_str_getitem.lookup (getItem_str (c:=c) (by
    have e1:decide (i < -(2 ^ 63:Int))=false:=decide_eq_false (by omega)
    have e2:decide (i ≥ 2 ^ 63)=false:=decide_eq_false (by omega)
    rw[e1,e2,Bool.or_false]) (by rw[h1];simpa using h2) ⟨.str ⟨#[c]⟩,H,I.tok _,⟨_,rfl⟩,q⟩) hs
noncomputable def rIx (K:PySem.W.Frag):R2:=fun x y H Q=>rIxL K x y H Q∨rIxT K x y H Q∨rIxS x y H Q
noncomputable def rSetL:V→V→V→Hp→(Hp→Prop)→Prop:=fun o i v H Q=>∃ p xs k j,o = .ref p∧i = .int k∧H p=some (.lst xs)∧ixN xs.length k=some j∧Q (upd H p (.lst (xs.set j v)))
theorem slice_bounds (lo hi:Option Int) (n:Nat):(sliceBounds lo hi none n).1=((HT.sIx n 0 lo:Nat):Int)∧(sliceBounds lo hi none n).2.1=((HT.sIx n n hi:Nat):Int)∧(sliceBounds lo hi none n).2.2=1:=by
  refine⟨?_,?_,rfl⟩
  · cases lo with
    | none=>simp[sliceBounds,HT.sIx]
    | some i =>
      simp only[sliceBounds,HT.sIx,Option.getD_none,show (1:Int) > 0 by decide,if_true]
      by_cases h:i<0
      · simp only[h,if_true] <;> omega
      · simp only[h,if_false] <;> omega
  · cases hi with
    | none=>simp[sliceBounds,HT.sIx]
    | some i =>
      simp only[sliceBounds,HT.sIx,Option.getD_none,show (1:Int) > 0 by decide,if_true]
      by_cases h:i<0
      · simp only[h,if_true] <;> omega
      · simp only[h,if_false] <;> omega
theorem slicePick_cut (its:List Value) (lo hi:Option Int):slicePick its.toArray lo hi none=((its.drop (HT.sIx its.length 0 lo)).take (HT.sIx its.length its.length hi - HT.sIx its.length 0 lo)).toArray:=by
  obtain⟨h1,h2,h3⟩:=slice_bounds lo hi its.toArray.size
  unfold slicePick
  rw[h1,h2,h3]
  simp only[sliceRange_one,pick_run,List.size_toArray] <;> rfl
noncomputable def rSlL (K:PySem.W.Frag):V→Option Int→Option Int→Hp→VK→Prop:=fun x lo hi H Q=>∃ a xs,x = .ref a∧SqL K H a xs∧∀ p,H p=none→Q (.ref p) (upd H p (.lst (cutV xs lo hi)))
theorem sl_list:SlR X (rSlL X.K):=by
  intro pins s σ H x v vl vu lo hi sl Q I rx hs pl pu h
  obtain⟨a,xs,rfl,hx,q⟩:=h
  cases rx
  obtain⟨its,r,ht,hz⟩:=I.list hx
  have hlen:=r.length
  refine⟨"list",_,slot_list_getitem.lookup,ht.isList.typeIs,?_⟩
  refine wpAny_getItem_list_slice ht.isList hs pl pu .none (by simp) ?_ (by rw[List.size_toArray] <;> omega)
  rw[slicePick_cut,← hlen]
  refine⟨.ref s.heap.objs.size,_,I.laid (t':=s.toks) (o:=.lst (cutV xs lo hi)) (fun b ob q=>Heap.get?_push_of_some _ q) (Nat.le_refl _) ?_,rfl,q _ (I.hok.fresh (Nat.le_refl _))⟩
  exact⟨Nat.le_trans (cutV_length xs lo hi) hz,_,0,(r.drop (HT.sIx xs.length 0 lo)).take (HT.sIx xs.length xs.length hi - HT.sIx xs.length 0 lo),Heap.get?_push_size _ rfl⟩
noncomputable def flatV:V→Bool
  | .non=>true
  | .bl _=>true
  | .int _=>true
  | .str _=>true
  | _=>false
noncomputable def eqV:V→V→Bool
  | .non,.non=>true
  | .bl a,.bl b=>a==b
  | .bl a,.int b=>(if a then 1 else 0)==b
  | .int a,.bl b=>a==(if b then 1 else 0)
  | .int a,.int b=>a==b
  | .str a,.str b=>a==b
  | _,_=>false
theorem eqAt_V {A:Around} {s:Shared} {y x:V} {u v:Value} (ry:RelV y u) (rx:RelV x v) (fy:flatV y=true) (fx:flatV x=true):SeqAt.EqAt A s u v (eqV y x):=by
  cases y with
  | non =>
    cases ry
    cases x with
    | non=>cases rx;exact SeqAt.EqAt.same _
    | bl b=>cases rx;exact SeqAt.EqAt.none_bool b
    | int b=>obtain⟨t,rfl⟩:=rx;exact SeqAt.EqAt.none_int b t
    | str b=>obtain⟨t,rfl⟩:=rx;exact SeqAt.EqAt.none_str b t
    | _=>exact absurd (show false=true from fx) Bool.false_ne_true
  | bl a =>
    cases ry
    cases x with
    | non=>cases rx;exact SeqAt.EqAt.bool_none a
    | bl b=>cases rx;exact SeqAt.EqAt.bool_bool a b
    | int b=>obtain⟨t,rfl⟩:=rx;exact SeqAt.EqAt.bool_int a b t
    | str b=>obtain⟨t,rfl⟩:=rx;exact SeqAt.EqAt.bool_str a b t
    | _=>exact absurd (show false=true from fx) Bool.false_ne_true
  | int a =>
    obtain⟨t',rfl⟩:=ry
    cases x with
    | non=>cases rx;exact SeqAt.EqAt.int_none a t'
    | bl b=>cases rx;exact SeqAt.EqAt.int_bool a t' b
    | int b=>obtain⟨t,rfl⟩:=rx;exact SeqAt.EqAt.int_int a t' b t
    | str b=>obtain⟨t,rfl⟩:=rx;exact SeqAt.EqAt.int_str a t' b t
    | _=>exact absurd (show false=true from fx) Bool.false_ne_true
  | str a =>
    obtain⟨t',rfl⟩:=ry
    cases x with
    | non=>cases rx;exact SeqAt.EqAt.str_none a t'
    | bl b=>cases rx;exact SeqAt.EqAt.str_bool a t' b
    | int b=>obtain⟨t,rfl⟩:=rx;exact SeqAt.EqAt.str_int a t' b t
    | str b=>obtain⟨t,rfl⟩:=rx;exact SeqAt.EqAt.str_str a t' b t
    | _=>exact absurd (show false=true from fx) Bool.false_ne_true
  | _=>exact absurd (show false=true from fy) Bool.false_ne_true
noncomputable def eqU (x:V) (u:Value):Bool:=match u with
  | .none=>eqV .non x
  | .bool b=>eqV (.bl b) x
  | .int i _=>eqV (.int i) x
  | .str z _=>eqV (.str z) x
  | _=>false
theorem eqU_of {x y:V} {u:Value} (r:RelV y u) (f:flatV y=true):eqU x u=eqV y x:=by
  cases y with
  | non=>cases r;rfl
  | bl b=>cases r;rfl
  | int i=>obtain⟨t,rfl⟩:=r;rfl
  | str z=>obtain⟨t,rfl⟩:=r;rfl
  | _=>exact absurd (show false=true from f) Bool.false_ne_true
theorem any_eqU {x:V}:∀ {xs:List V} {us:List Value},Vals xs us→xs.all flatV=true→us.any (eqU x)=xs.any fun y=>eqV y x
  | _,_,.nil,_=>rfl
  | y::xs,u::us,.cons r t,f=>by
    rw[List.all_cons,Bool.and_eq_true] at f
    rw[List.any_cons,List.any_cons,eqU_of r f.1,any_eqU t f.2]
theorem mem_eqAt {A:Around} {s:Shared} {x:V} {v:Value} (rx:RelV x v) (fx:flatV x=true):∀ {xs:List V} {us:List Value},Vals xs us→xs.all flatV=true→∀ u∈us,SeqAt.EqAt A s u v (eqU x u)
  | _,_,.nil,_=>fun u hu=>by cases hu
  | y::xs,u::us,.cons r t,f=>fun u' hu=>by
    rw[List.all_cons,Bool.and_eq_true] at f
    rcases List.mem_cons.mp hu with rfl | hu
    · rw[eqU_of r f.1];exact eqAt_V r rx f.1 fx
    · exact mem_eqAt rx fx t f.2 u' hu
noncomputable def inV (x:V) (xs:List V):Bool:=xs.any fun y=>eqV y x
noncomputable def rIn (K:PySem.W.Frag) (neg:Bool):R2:=fun x y H Q=>∃ p xs,y = .ref p∧(SqL K H p xs∨SqT K H p xs)∧flatV x=true∧xs.all flatV=true∧Q (.bl (if neg then !inV x xs else inV x xs)) H
theorem op_in_seq:OpR X (compareOp .In) (rIn X.K false):=by
  intro pins s σ H x y v u Q I rx ry h
  obtain⟨p,xs,rfl,hq,fx,fs,q⟩:=h
  cases ry
  rcases hq with hq | hq
  · obtain⟨its,r,pl,hz⟩:=I.list hq
    refine SeqAt.in_listAt (eqU x) pl.isList (fun w hw=>mem_eqAt rx fx r fs w (by simpa using hw)) ⟨.bl _,H,I,rfl,?_⟩
    rw[show its.toArray.any (eqU x)=its.any (eqU x) by simp,any_eqU r fs]
    exact q
  · obtain⟨its,r,pl,hz⟩:=I.tuple hq
    refine SeqAt.in_tupleAt (eqU x) pl (fun w hw=>mem_eqAt rx fx r fs w (by simpa using hw)) ⟨.bl _,H,I,rfl,?_⟩
    rw[show its.toArray.any (eqU x)=its.any (eqU x) by simp,any_eqU r fs]
    exact q
theorem op_notIn_seq:OpR X (compareOp .NotIn) (rIn X.K true):=by
  intro pins s σ H x y v u Q I rx ry h
  obtain⟨p,xs,rfl,hq,fx,fs,q⟩:=h
  cases ry
  rcases hq with hq | hq
  · obtain⟨its,r,pl,hz⟩:=I.list hq
    refine SeqAt.notIn_listAt (eqU x) pl.isList (fun w hw=>mem_eqAt rx fx r fs w (by simpa using hw)) ⟨.bl _,H,I,rfl,?_⟩
    rw[show its.toArray.any (eqU x)=its.any (eqU x) by simp,any_eqU r fs]
    exact q
  · obtain⟨its,r,pl,hz⟩:=I.tuple hq
    refine SeqAt.notIn_tupleAt (eqU x) pl (fun w hw=>mem_eqAt rx fx r fs w (by simpa using hw)) ⟨.bl _,H,I,rfl,?_⟩
    rw[show its.toArray.any (eqU x)=its.any (eqU x) by simp,any_eqU r fs]
    exact q
theorem call_len_seq:CallR X (.builtin "len") (fun xs H Q=>∃ p ys,xs=[.ref p]∧(SqL X.K H p ys∨SqT X.K H p ys)∧Q (.int ys.length) H):=by
  intro pins s σ H xs us Q I r h
  obtain⟨p,ys,rfl,hq,q⟩:=h
  obtain⟨u,rfl,rx⟩:=vals1 r
  cases rx
  have hn:=line63
  rcases hq with hq | hq
  · obtain⟨its,r',pl,hz⟩:=I.list hq
    have hlen:=r'.length
    exact Calls.call_len_list pl.isList (by simp only[List.size_toArray] <;> omega) ⟨.int ys.length,H,I.tok _,⟨s.toks+1,by rw[List.size_toArray,hlen]⟩,q⟩
  · obtain⟨its,r',pl,hz⟩:=I.tuple hq
    have hlen:=r'.length
    exact len_tuple pl (by simp only[List.size_toArray] <;> omega) ⟨.int ys.length,H,I.tok _,⟨s.toks+1,by rw[List.size_toArray,hlen]⟩,q⟩
theorem call_len_str:CallR X (.builtin "len") (fun xs H Q=>∃ z,xs=[.str z]∧z.length≤sizeLine∧Q (.int z.length) H):=by
  intro pins s σ H xs us Q I r h
  obtain⟨z,rfl,hz,q⟩:=h
  obtain⟨u,rfl,t,rfl⟩:=vals1 r
  have hn:=line63
  exact len_str (by omega) ⟨.int z.length,H,I.tok _,⟨_,rfl⟩,q⟩
theorem call_list_of:CallR X (.type "list") (fun xs H Q=>∃ p ys,xs=[.ref p]∧(SqL X.K H p ys∨SqT X.K H p ys)∧∀ l,H l=none→Q (.ref l) (upd H l (.lst ys))):=by
  intro pins s σ H xs us Q I r h
  obtain⟨p,ys,rfl,hq,q⟩:=h
  obtain⟨u,rfl,rx⟩:=vals1 r
  cases rx
  have fin:∀ (its:List Value),Vals ys its→ys.length≤sizeLine→∀ (h':Heap) (c':Nat),(∀ b o',s.heap.get? b=some o'→h'.get? b=some o') →
      h'.get? s.heap.objs.size=some { cls:=.type "list",dict:=none,data:=.seq its.toArray c',slots:=#[] }→EP X pins σ Q (.ref s.heap.objs.size) { s with heap:=h' }:=fun its r' hz h' c' kp e =>
    ⟨.ref s.heap.objs.size,_,I.laid (t':=s.toks) kp (Nat.le_refl _) (show ObjOk X.prog X.w _ h' _ (.lst ys) from ⟨hz,its,c',r',e⟩),rfl,q _ (I.hok.fresh (Nat.le_refl _))⟩
  rcases hq with hq | hq
  · obtain⟨its,r',pl,hz⟩:=I.list hq
    have hlen:=r'.length
    obtain⟨o,ho,hc,n,hd⟩:=pl.isList
    exact call_list_seq p (.inl rfl) ho hc hd (fun h' c' kp e=>fin its r' hz h' c' kp e) (by simp only[List.size_toArray] <;> omega)
  · obtain⟨its,r',pl,hz⟩:=I.tuple hq
    have hlen:=r'.length
    obtain⟨o,ho,hc,n,hd⟩:=pl
    exact call_list_seq p (.inr rfl) ho hc hd (fun h' c' kp e=>fin its r' hz h' c' kp e) (by simp only[List.size_toArray] <;> omega)
theorem call_tuple_of:CallR X (.type "tuple") (fun xs H Q=>∃ p ys,xs=[.ref p]∧((SqL X.K H p ys∧∀ l,H l=none→Q (.ref l) (upd H l (.tup ys)))∨(SqT X.K H p ys∧Q (.ref p) H))):=by
  intro pins s σ H xs us Q I r h
  obtain⟨p,ys,rfl,h⟩:=h
  obtain⟨u,rfl,rx⟩:=vals1 r
  cases rx
  rcases h with ⟨hq,q⟩ | ⟨hq,q⟩
  · obtain⟨its,r',pl,hz⟩:=I.list hq
    have hlen:=r'.length
    refine call_tuple_list pl.isList (fun h' kp=>?_) (by simp only[List.size_toArray] <;> omega)
    have I1:Inv X pins σ H { s with heap:=h' }:=I.kept (t':=s.toks) kp
    have I2:Inv X pins σ (upd H h'.objs.size (.tup ys)) { s with heap:=h'.push { cls:=.type "tuple",data:=.seq its.toArray } } :=
      I1.laid (t':=s.toks) (fun b o e=>Heap.get?_push_of_some _ e) (Nat.le_refl _) (show ObjOk X.prog X.w _ _ _ (.tup ys) from ⟨hz,its,r',IsTup.new _ _⟩)
    exact⟨.ref h'.objs.size,_,I2,rfl,q _ (I1.hok.fresh (Nat.le_refl _))⟩
  · obtain⟨its,r',pl,hz⟩:=I.tuple hq
    exact call_tuple_same pl ⟨.ref p,H,I,rfl,q⟩
noncomputable def tyV (K:PySem.W.Frag) (T:String) (x:V) (H:Hp):Prop:=match x with
  | .str _=>T = "str"
  | .int _=>T = "int"
  | .ref p=>(T = "list"∧∃ xs,SqL K H p xs)∨(T = "tuple"∧∃ o,K.lookup p=some o∧o.cls = .type "tuple"∧o.dict=none) ∨
      (T = "dict"∧((∃ kvs,H p=some (.dK kvs))∨∃ kvs,H p=some (.dT kvs)))∨(T = "set"∧∃ S n,H p=some (.set S n))
  | _=>False
theorem tyV_is {pins:List (Addr × Obj)} {σ:St} {H:Hp} {s:Shared} {T:String} {x:V} {v:Value} (I:Inv X pins σ H s) (r:RelV x v) (ty:tyV X.K T x H) :
    s.TypeIs v T∧∀ a,v = .ref a→∃ ob,s.heap.get? a=some ob∧ob.dict=none:=by
  cases x with
  | str z =>
    obtain⟨t,rfl⟩:=r
    cases (show T = "str" from ty)
    exact⟨typeIs_str s z t,fun _ e=>nomatch e⟩
  | int i =>
    obtain⟨t,rfl⟩:=r
    cases (show T = "int" from ty)
    exact⟨typeIs_int s i t,fun _ e=>nomatch e⟩
  | ref p =>
    cases r
    rcases ty with ⟨rfl,xs,hq⟩ | ⟨rfl,o,hk,hc,hd⟩ | ⟨rfl,hk⟩ | ⟨rfl,S,n,hk⟩
    · obtain⟨its,_,pl,_⟩:=I.list hq
      refine⟨pl.isList.typeIs,fun a e=>?_⟩
      cases e
      obtain⟨o,n,e,c,hd,_⟩:=pl
      exact⟨o,e,hd⟩
    · refine⟨⟨o,I.kIn p o hk,hc⟩,fun a e=>?_⟩
      cases e
      exact⟨o,I.kIn _ o hk,hd⟩
    · have z:∃ o,s.heap.get? p=some o∧o.ExactDict:=by
        rcases hk with ⟨kvs,hk⟩ | ⟨kvs,hk⟩
        · obtain⟨_,_,_,_,o,_,_,e,ex,_⟩:=I.hok p _ hk
          exact⟨o,e,ex⟩
        · obtain⟨_,_,_,_,o,_,_,e,ex,_⟩:=I.hok p _ hk
          exact⟨o,e,ex⟩
      obtain⟨o,e,ex⟩:=z
      refine⟨⟨o,e,ex.1⟩,fun a e2=>?_⟩
      cases e2
      exact⟨o,e,ex.2.1⟩
    · obtain⟨o,_,_,_,e,ex,_⟩:=I.hok p _ hk
      refine⟨⟨o,e,ex.1⟩,fun a e2=>?_⟩
      cases e2
      exact⟨o,e,ex.2.1⟩
  | _=>exact False.elim ty
noncomputable def tBM0 (K:PySem.W.Frag) (T:String) (r:V→List V→Hp→VK→Prop) (to:TE):TE:=fun σ H Q=>to σ H fun x H1=>tyV K T x H1∧r x [] H1 Q
noncomputable def tBM (K:PySem.W.Frag) (T:String) (r:V→List V→Hp→VK→Prop) (to:TE) (t:TA):TE:=fun σ H Q=>to σ H fun x H1=>tyV K T x H1∧t σ H1 fun xs H2=>r x xs H2 Q
variable {o e:Expr} {es:List Expr} {to:TE} {t:TA} {name:Str} {apos cpos:Pos} {T id:String} {r:V→List V→Hp→VK→Prop}
theorem pe_bm (pa:PlainAttrs T) (slot:Slot T name id) (hty:typeOf (.builtin id)=pure (.type "method_descriptor")) (hm:MtR X id r) (ho:PE X o to) (ha:PA X (e::es) t)
    (hbase:attributeBase o name X.env (eval o X.env)=eval o X.env:=by rfl)
    (hfew:((backTo cpos (starEach (e::es) X.env)).all (fun x=>!x.1)&&(backToKw cpos (keywordEach [] X.env)).all (fun x=>x.1.isSome)
      && decide ((e::es).length+([]:List Keyword).length+(if ([]:List Keyword).isEmpty then 0 else 1)<30))=true:=by rfl)
    (hline:(apos.endLine==cpos.line)=true:=by rfl) (hs:starEach (e::es) X.env=(false,eval e X.env)::starEach es X.env:=by exact starEach_cons rfl) (hplain:(backTo cpos (starEach es X.env)).any (·.1)=false:=by rfl) :
    PE X (.Call (.Attribute o name apos) (e::es) [] cpos) (tBM X.K T r to t):=by
  intro pins s σ H Q I h
  refine wpAny_Call_method_late hbase hfew hline rfl (thn (ho pins s σ H _ I h) fun v s1 ⟨x,H1,I1,r1,ty,q1⟩=>?_)
  obtain⟨h1,h2⟩:=tyV_is I1 r1 ty
  refine⟨T,id,pa,slot,hty,h1,h2,?_⟩
  have hA:=ha cpos pins s1 σ H1 _ I1 q1
  rw[hs] at hA ⊢
  refine Calls.callWith_builtin (by show (false || (backTo cpos (starEach es X.env)).any (·.1))=false;rw[hplain] <;> rfl) (Calls.evalArgs_plain ?_)
  exact thn hA fun us s2 ⟨vs,H2,I2,r2,q2⟩=>hm pins s2 σ H2 x vs v us Q I2 r1 r2 q2
end
noncomputable def MtM (X:Cx) (id:String) (r:V→List V→Hp→VK→Prop):Prop :=
  ∀ (pins:List (Addr × Obj)) (s:Shared) (σ:St) (H:Hp) (x:V) (xs:List V) (v:Value) (us:List Value) (Q:VK),Inv X pins σ H s→RelV x v→Vals xs us→r x xs H Q →
    wpAny (model X.prog X.w) X.A (call (.builtin id) (v::us)) (EP X pins σ Q) X.xe s
theorem Vals.one:∀ {x:V} {us:List Value},Vals [x] us→∃ u,us=[u]∧RelV x u
  | _,_,.cons r .nil=>⟨_,rfl,r⟩
theorem Vals.dropLast {xs:List V} {us:List Value} (h:Vals xs us):Vals xs.dropLast us.dropLast:=by
  induction h with
  | nil=>exact .nil
  | cons r t ih =>
    cases t with
    | nil=>exact .nil
    | cons q t'=>exact .cons r ih
theorem erase_last {α:Type} (l:List α):l.eraseIdx (l.length - 1)=l.dropLast:=by
  induction l with
  | nil=>rfl
  | cons a r ih =>
    cases r with
    | nil=>rfl
    | cons b r =>
      have e:(a::b::r).length - 1=((b::r).length - 1)+1:=by
        have h1:(a::b::r).length=r.length+2:=rfl
        have h2:(b::r).length=r.length+1:=rfl
        omega
      rw[e,List.eraseIdx_cons_succ,ih]
      all_goals rfl
section
variable {X:Cx} {pins:List (Addr × Obj)} {σ:St} {H:Hp} {s:Shared} {l b:Addr} {xs ys zs:List V}
theorem Inv.lset {its its':List Value} {n:Nat} {f:Array Value→Array Value} {t':Nat} (I:Inv X pins σ H s) (hH:H l=some (.lst xs))
    (e:s.heap.get? l=some { cls:=.type "list",data:=.seq its.toArray n }) (hf:f its.toArray=its'.toArray) (hv:Vals ys its') (hz:ys.length≤sizeLine) :
    Inv X pins σ (upd H l (.lst ys)) { s with heap:=s.heap.update l (Obj.mapSeq f),toks:=t' }:=by
  have q:=PySem.IsL.update e f
  rw[hf] at q
  refine I.write (x:=l) (e:=l) (by rw[hH];exact trivial) (.inl rfl) (fun b' u hb hu=>(Heap.get?_update_other s.heap (Obj.mapSeq f) (Ne.symm hb)).trans hu) ⟨_,q⟩ ?_
  exact⟨hz,its',_,hv,q⟩
theorem Inv.lnew {its:List Value} {t':Nat} (I:Inv X pins σ H s) (hv:Vals ys its) (hz:ys.length≤sizeLine) :
    Inv X pins σ (upd H s.heap.objs.size (.lst ys)) { s with heap:=s.heap.push { cls:=.type "list",data:=.seq its.toArray },toks:=t' } :=
  I.laid (fun _ _ q=>Heap.get?_push_of_some _ q) (Nat.le_refl _) ⟨hz,its,0,hv,Heap.get?_push_size _ rfl⟩
theorem Inv.fresh (I:Inv X pins σ H s):H s.heap.objs.size=none:=I.hok.fresh (Nat.le_refl _)
theorem Inv.lstM (I:Inv X pins σ H s) (hH:H l=some (.lst xs)):xs.length≤sizeLine∧∃ (its:List Value) (n:Nat),Vals xs its∧xs.length=its.length∧s.heap.get? l=some { cls:=.type "list",data:=.seq its.toArray n }:=by
  obtain⟨z,its,n,r,e⟩:=I.hok l _ hH
  exact⟨z,its,n,r,r.length,e⟩
theorem notLongL {n:Nat} (h:n≤sizeLine):Builtin.List.listTooLong n=false:=by
  unfold Builtin.List.listTooLong
  exact decide_eq_false (by omega)
end
section
variable {X:Cx}
noncomputable def rAppend:V→List V→Hp→VK→Prop:=fun x vs H Q=>∃ l xs y,x = .ref l∧vs=[y]∧H l=some (.lst xs)∧xs.length<sizeLine∧Q .non (upd H l (.lst (xs++[y])))
theorem mt_append:MtM X "list.append" rAppend:=by
  intro pins s σ H x vs v us Q I rx rv h
  obtain⟨l,xs,y,rfl,rfl,hH,hz,q⟩:=h
  cases rx
  obtain⟨u,rfl,ru⟩:=rv.one
  obtain⟨z,its,n,r,hl,e⟩:=I.lstM hH
  refine call_meets F.slot_list_append ⟨_,e,rfl⟩ F.entry_list_append (F.args_list_append_2 _ _) (PySem.list_append l its.toArray n u (by rw[List.size_toArray];omega)) ⟨e,?_⟩
  refine⟨.non,_,I.lset (its':=its++[u]) hH e (by simp) (r.append (.cons ru .nil)) ?_,rfl,q⟩
  rw[List.length_append,List.length_singleton]
  omega
noncomputable def rExtend:V→List V→Hp→VK→Prop:=fun x vs H Q=>∃ l b xs zs,x = .ref l∧vs=[.ref b]∧H l=some (.lst xs)∧H b=some (.lst zs)∧xs.length+zs.length≤sizeLine∧Q .non (upd H l (.lst (xs++zs)))
noncomputable def rPop:V→List V→Hp→VK→Prop:=fun x vs H Q=>∃ l xs y,x = .ref l∧vs=[]∧H l=some (.lst xs)∧xs[xs.length - 1]? = some y∧Q y (upd H l (.lst xs.dropLast))
noncomputable def rPopAt:V→List V→Hp→VK→Prop:=fun x vs H Q=>∃ l xs i k y,x = .ref l∧vs=[.int i]∧H l=some (.lst xs)∧-(2 ^ 63)≤i∧i<2 ^ 63∧seqIndex? i xs.length=some k∧xs[k]? = some y∧Q y (upd H l (.lst (xs.eraseIdx k)))
noncomputable def rReverse:V→List V→Hp→VK→Prop:=fun x vs H Q=>∃ l xs,x = .ref l∧vs=[]∧H l=some (.lst xs)∧Q .non (upd H l (.lst xs.reverse))
noncomputable def rClear:V→List V→Hp→VK→Prop:=fun x vs H Q=>∃ l xs,x = .ref l∧vs=[]∧H l=some (.lst xs)∧Q .non (upd H l (.lst []))
noncomputable def rCat:R2:=fun x y H Q=>∃ l b xs zs,x = .ref l∧y = .ref b∧H l=some (.lst xs)∧H b=some (.lst zs)∧xs.length+zs.length≤sizeLine∧∀ p,H p=none→Q (.ref p) (upd H p (.lst (xs++zs)))
theorem op_cat:OpR X (binaryOp .Add) rCat:=by
  intro pins s σ H x y v u Q I rx ry h
  obtain⟨l,b,xs,zs,rfl,rfl,hH,hB,hz,q⟩:=h
  cases rx
  cases ry
  obtain⟨z,its,n,r,hl,e⟩:=I.lstM hH
  obtain⟨z2,its2,n2,r2,hl2,e2⟩:=I.lstM hB
  refine PySem.P.add_list e e2 ?_ (by rw[List.size_toArray,List.size_toArray];omega)
  have ea:its.toArray++its2.toArray=(its++its2).toArray:=by simp
  rw[ea]
  exact⟨.ref _,_,I.lnew (t':=s.toks) (r.append r2) (by rw[List.length_append];omega),rfl,q _ I.fresh⟩
noncomputable def rRep:R2:=fun x y H Q=>∃ l k xs,x = .ref l∧y = .int k∧H l=some (.lst xs)∧-(2 ^ 63)≤k∧k<2 ^ 63∧xs.length*k.toNat≤sizeLine ∧
  ∀ p,H p=none→Q (.ref p) (upd H p (.lst (List.replicate k.toNat xs).flatten))
end
section
variable {prog:Program} {w:World} {A:Around} {E:Value→Shared→Prop} {s:Shared}
end
section
variable {X:Cx}
end
end L2
namespace Att
open PySem PySem.W PySem.Calls PyProof.Rows
theorem ints_of_wellAll {P:Params} {h:Heap}:∀ (ns:List Int) (vs:List Value),WellAll P h vs (ns.map WData.int)→IntsAre vs ns:=by
  intro ns
  induction ns with
  | nil =>
    intro vs w
    rw[List.map_nil] at w
    cases w
    exact .nil
  | cons n ns ih =>
    intro vs w
    rw[List.map_cons] at w
    cases w with
    | cons a b =>
      cases a
      exact .cons _ _ (ih _ b)
theorem script_of {l:OpenLaw} {n:Nat} (hn:l.most=some n) {P:Params} {h:Heap} {args:List WData} {vals:List Value}
    (hpre:l.row.toRowW.claim.pre args=true) (hwl:WellAll P h vals args) :
    ∃ a vs ns,vals=[Value.ref a]∧args=[WData.list (ns.map WData.int)]∧h.get? a=some { cls:=.type "list",data:=.seq vs.toArray }∧IntsAre vs ns∧ns.length≤n:=by
  have hsh:WShape.hasAll [] args [.list .int]=true:=(pre_splitW hpre).1
  have hc:l.pre.holds [] { args:=args } = true:=(pre_splitW hpre).2
  obtain⟨d,r,rfl,h1,h2⟩:=hasAllW_cons hsh
  obtain rfl:=hasAllW_nil h2
  obtain⟨xs,rfl,h3⟩:=hasW_list h1
  obtain⟨ns,rfl⟩:=items_int h3
  have hlen:ns.length≤n:=by
    unfold OpenLaw.pre at hc
    have h4:(WTm.not (.lt (.lit (.int (n:Int))) (.len (.arg 0)))).holds [] { args:=[.list (ns.map .int)] } = true:=by
      have h4:=(holds_andW hc).1
      rw[hn] at h4
      exact h4
    have h5:=condW_of h4 (w_not (w_lt w_lit (w_len_list (w_arg rfl))))
    rw[List.length_map] at h5
    refine Nat.le_of_not_lt fun q=>?_
    have q':(n:Int)<((ns.length:Nat):Int):=by omega
    first
      | (rw[decide_eq_true q'] at h5;exact absurd h5 (by decide))
      | (simp at h5;omega)
  cases hwl with
  | cons w1 w2 =>
    cases w2
    cases w1 with
    | list ho hall=>exact⟨_,_,ns,rfl,rfl,ho,ints_of_wellAll ns _ hall,hlen⟩
theorem post_true (l:OpenLaw) (args:List WData):l.row.toRowW.claim.post args (.bool true) args=true :=
  postW_of (r:=l.row.toRowW) (X:=(true==true))
    (show WShape.has [] (.bool true) .bool=true by first | rfl | decide | simp[WShape.has,WShape.arms,WShape.armsAll])
    (show (WTm.eq .res (.lit (.bool true))).value [] { args:=args,res:=some (.bool true),after:=args } = some (.bool (true==true)) from w_eq_bool (w_res rfl) w_lit) rfl
theorem attach_call {l:OpenLaw} {n:Nat} {q:Program} {loose:List Str} {XP:(Str→Option Value)→Heap→Prop} {YP:World→Heap→Prop} {d:DefRec}
    (hn:l.most=some n) (hdf:d.params.defaults=[])
    (call:∀ (w:World) (s₀ s₁:Shared) (mg mb:Str→Option Value) (fa:Addr) (o:Obj) (pm cd doc:Value) (a:Addr) (vs:List Value) (ns:List Int),
      Ground q loose [] XP w s₀ mg mb s₁.heap→YP w s₁.heap →
      s₁.heap.get? fa=some o→o.data = .func (docDef d.name d.params d.body d.scope pm cd doc)→s₁.heap.CodeRec cd d.name→mg d.name=some (.ref fa) →
      s₁.heap.get? a=some { cls:=.type "list",data:=.seq vs.toArray }→IntsAre vs ns→ns.length≤n→s₁.gens = #[] →
      codeAny (model l.prog w) callerA (.call (.ref fa) ⟨[.ref a],[]⟩) (fun r s'=>r = .ok (.ret (.bool true))∧OldK s₁.heap s'.heap∧s'.os=s₁.os∧AllBare s'.gens) s₁) :
    WalkO q loose XP YP l.row.toRowW d [] (fun f vs=>PySem.call f vs):=by
  intro w s₀ s₁ mg mb G Y fa o pm cd doc dV kV ho hd hcd hD hmg hg args vals as hpre hlay hrd hwl hlo
  obtain rfl:dV = .none:=Dflts.none hD hdf
  obtain rfl:kV = .none:=Dflts.noKw hD
  obtain⟨a,vs,ns,rfl,rfl,hobj,hints,hlen⟩:=script_of hn hpre hwl
  refine enter_call (codeAny_mono (call w s₀ s₁ mg mb fa o pm cd doc a vs ns G Y ho (fd_plain hd) hcd hmg hobj hints hlen hg) fun r s' hq=>?_)
  obtain⟨rfl,h2,h3,h4⟩:=hq
  exact⟨.inl ⟨.bool true,.bool true,[],rfl,fun _=>rfl,.bool true,post_true l _,fun _=>⟨List.Pairwise.nil,fun _ hm=>(nomatch hm)⟩⟩,h2,h3,h4⟩
section
variable {prog:Program} {w:World} {A:Around} {E:Value→Shared→Prop} {s:Shared} {K:Frag}
noncomputable def noObjs (h:Heap):Heap:={ h with objs:=#[] }
noncomputable def ledger (h:Heap) (L d:Addr):List (Addr × Obj):=(List.range h.objs.size).filterMap fun a=>if a=L∨a=d then none else (h.get? a).map fun o=>(a,o)
end
end Att
namespace L2
open PySem PySem.Spec PyProof.Rows
theorem vals_ints:∀ {vs:List Value} {ns:List Int},IntsAre vs ns→Vals (ns.map V.int) vs
  | _,_,.nil=>.nil
  | _,_,.cons n t h=>.cons ⟨t,rfl⟩ (vals_ints h)
noncomputable def Only (H:Hp):Prop:=∀ b,H b=none∨∃ o xs,H b=some (.frz o (.lst xs))
theorem law_call {P:Program} {w:World} {K:PySem.W.Frag} {mg mb:Str→Option Value} {CX:CXT} {k:Nat} {fa a:Addr} {fd:FuncData} {x:Str} {sp:Sp} {s₁:Shared} {vs:List Value} {ns:List Int}
    (KX:K.In s₁.heap) (hns:s₁.heap.Ns mainGlobals mg) (hb:s₁.heap.Ns builtinsNs mb) (hbb:∀ x:Str,x≠"__name__"→mb x=bootBuiltins x) (hlim:s₁.heap.NoLimit) (hg:s₁.gens = #[])
    (ha:s₁.heap.get? a=some { cls:=.type "list",data:=.seq vs.toArray }) (hi:IntsAre vs ns) (hl:ns.length≤sizeLine) (hr:Room k callerA)
    (F:∀ base:Heap,K.In base→base.Ns mainGlobals mg→FnOk P w K mg base CX k fa fd [x] sp) (hbind:∀ (s:Shared) (u:Value),BindsTo s fd ⟨[u],[]⟩ [(x,u)])
    (hsp:∀ H:Hp,Only H→SqL K H a (ns.map V.int)→sp [.ref a] H (fun v _=>v = .bl true) fun _ _ _=>False)
    (hCX:∀ H e s',CX [] H s₁ (fun _ _ _=>False) e s'→False) :
    codeAny (model P w) callerA (.call (.ref fa) ⟨[.ref a],[]⟩) (fun r s'=>r = .ok (.ret (.bool true))∧OldK s₁.heap s'.heap∧s'.os=s₁.os∧AllBare s'.gens) s₁:=by
  have rv:=vals_ints hi
  have lenV:=hi.length
  have core:∀ H:Hp,Only H→SqL K H a (ns.map V.int)→HOk P w H s₁.heap→(∀ b,H b≠none→b=a)→(H a≠none→K.lookup a=none) →
      codeAny (model P w) callerA (.call (.ref fa) ⟨[.ref a],[]⟩) (fun r s'=>r = .ok (.ret (.bool true))∧OldK s₁.heap s'.heap∧s'.os=s₁.os∧AllBare s'.gens) s₁:=by
    intro H hO hS hok hA hK
    have base_of:∀ {b:Addr} {o:Obj},s₁.heap.get? b=some o→H b=none→(hidT s₁.heap H).get? b=some o:=fun e n=>hidT_get e n
    have noA:∀ {b:Addr} {o:Obj} {es:Array DictEntry} {ep:Nat},s₁.heap.get? b=some o→o.data = .dict es ep→H b=none:=fun {b o es ep} e d=>by
      cases q:H b with
      | none=>rfl
      | some u =>
        have e':b=a:=hA b (by rw[q];simp)
        subst e'
        rw[ha] at e;cases e
        have d':Data.seq vs.toArray _=Data.dict es ep:=d
        cases d'
    have nsK:∀ {b:Addr} {m:Str→Option Value},s₁.heap.Ns b m→(hidT s₁.heap H).Ns b m:=fun {b m} ⟨o,es,ep,e,d,r⟩=>⟨o,es,ep,base_of e (noA e d),d,r⟩
    have hKb:K.In (hidT s₁.heap H):=fun b o e=>base_of (KX b o e) (by
      cases q:H b with
      | none=>rfl
      | some u =>
        have e':b=a:=hA b (by rw[q];simp)
        subst e'
        rw[hK (by rw[q];simp)] at e;cases e)
    have hM:Mod K mg (hidT s₁.heap H):=⟨hKb,nsK hns,⟨mb,nsK hb,hbb⟩,let ⟨mc,h1,h2⟩:=hlim;⟨mc,nsK h1,h2⟩⟩
    have e0:Env0 P w K mg (hidT s₁.heap H) callerA [] s₁ H:=⟨rfl,hM,fun b o e=>of_hidT e,Nat.le_of_eq (hidT_size _ _),trivial,fun b hb=>absurd (show b∈([]:List Addr) from hb) (by simp),hok,.of_eq hg⟩
    refine codeAny_mono ((F _ hKb (nsK hns)).run callerA [] s₁ H ⟨[.ref a],[]⟩ [.ref a] [.ref a] _ _ hr e0 (hbind s₁ (.ref a)) (.cons rfl .nil) (hsp H hO hS)) fun r s' h=>?_
    cases r with
    | error e=>exact (hCX H e s' h).elim
    | ok fl =>
      cases fl with
      | next=>exact False.elim h
      | brk=>exact False.elim h
      | cont=>exact False.elim h
      | ret u =>
        obtain⟨v,H',os,bare,un,hok',r',q⟩:=h
        have q':v = .bl true:=q
        subst q'
        obtain rfl:u=Value.bool true:=r'
        refine⟨rfl,OldK.of_keep fun b o e=>?_,os,bare⟩
        cases q:H b with
        | none=>exact un.keep b o e q (by intro z;exact absurd (show b∈([]:List Addr) from z) (by simp)) (by simp)
        | some u =>
          rcases hO b with z | ⟨ob,xs,z⟩
          · rw[q] at z;cases z
          · have z2:=un.frzs b ob _ z
            obtain⟨e1,_⟩:=hok b _ z
            obtain⟨e2,_⟩:=hok' b _ z2
            rw[e] at e1;cases e1
            exact e2
  cases hk:K.lookup a with
  | some o =>
    have e:=KX a o hk
    rw[ha] at e
    cases e
    refine core (fun _=>none) (fun _=>.inl rfl) (.inr ⟨_,vs.toArray,_,hk,rfl,rfl,rfl,by rw[List.size_toArray,lenV];exact hl,by simpa using rv⟩) (fun b u z=>by have z':(none:Option HO)=some u:=z;cases z') (fun b z=>absurd rfl z) fun z=>absurd rfl z
  | none =>
    refine core (fun b=>if b=a then some (.frz { cls:=.type "list",data:=.seq vs.toArray } (.lst (ns.map V.int))) else none) (fun b=>?_) (.inl (.inr ⟨{ cls:=.type "list",data:=.seq vs.toArray },if_pos rfl⟩)) (fun b u z=>?_) (fun b z=>?_) fun _=>hk
    · by_cases hb:b=a
      · exact .inr ⟨_,_,if_pos hb⟩
      · exact .inl (if_neg hb)
    · by_cases hb:b=a
      · have z':=(if_pos hb).symm.trans z
        cases z'
        subst hb
        exact⟨ha,by rw[List.length_map];exact hl,vs,_,rv,ha⟩
      · have z':=(if_neg hb).symm.trans z
        cases z'
    · by_cases hb:b=a
      · exact hb
      · exact absurd (if_neg hb) z
noncomputable abbrev KOf {K:PySem.W.Frag} {h:Heap} (_:K.In h):PySem.W.Frag:=K
theorem walk_of {l:PySem.W.OpenLaw} {n k:Nat} {q:Program} {loose:List Str} {XP:(Str→Option Value)→Heap→Prop} {YP:World→Heap→Prop} {d:DefRec} {K:Params→PySem.W.Frag} {CX:World→CXT} {sp:World→Sp} {x:Str}
    (hn:l.most=some n) (hn2:n≤sizeLine) (hdf:d.params.defaults=[]) (hr:Room k callerA)
    (hY:∀ (w:World) (h:Heap),YP w h→(K w.params).In h)
    (F:∀ (w:World) (mg:Str→Option Value) (fa:Addr) (h:Heap),(K w.params).In h→h.Ns mainGlobals mg→mg d.name=some (.ref fa) →
      ∃ fd:FuncData,(∀ (s:Shared) (u:Value),BindsTo s fd ⟨[u],[]⟩ [(x,u)]) ∧
        ∀ base:Heap,(K w.params).In base→base.Ns mainGlobals mg→FnOk l.prog w (K w.params) mg base (CX w) k fa fd [x] (sp w))
    (hsp:∀ (w:World) (H:Hp) (a:Addr) (ns:List Int),ns.length≤n→Only H→SqL (K w.params) H a (ns.map V.int)→sp w [.ref a] H (fun v _=>v = .bl true) fun _ _ _=>False)
    (hCX:∀ (w:World) (H:Hp) (s:Shared) (e:Value) (s':Shared),CX w [] H s (fun _ _ _=>False) e s'→False) :
    PySem.W.WalkO q loose XP YP l.row.toRowW d [] (fun f vs=>PySem.call f vs):=by
  refine Att.attach_call hn hdf fun w s₀ s₁ mg mb fa o pm cd doc a vs ns G Y ho hd hcd hmg hobj hints hlen hg=>?_
  have KX:=hY w _ Y
  obtain⟨fd,hb,hF⟩:=F w mg fa _ KX G.T.g hmg
  exact law_call KX G.T.g G.T.b G.T.builtins G.T.nolimit hg hobj hints (Nat.le_trans hlen hn2) hr hF hb (fun H hO hS=>hsp w H a ns hlen hO hS) fun H e s'=>hCX w H s₁ e s'
noncomputable abbrev CX0:CXT:=fun _ _ _ _ _ _=>False
noncomputable abbrev E0:XK:=fun _ _ _=>False
theorem pass0 {X:Cx}:Passes CX0 X E0:=fun _ _ _ _ _ _ _ h=>h.elim
structure Fun (K:PySem.W.Frag) (x qual:Str) (st:Stmt) (f:Addr) (fd:FuncData):Prop where
  ex:∃ (oc:Value) (od:Option Addr) (kV doc pm:Value) (an:Option Addr) (cdv ct:Value) (osl:Array (Option Value)),
    fd=PySem.W.fnOf x qual (defArgs st) (defBody st) (defScope st) .none kV doc pm an cdv ct∧K.lookup f=some ⟨oc,od,.func fd,osl⟩∧PySem.W.codeIn K cdv qual=true
  kp:PySem.W.keepIn K (.ref f)=true
section
variable {P:Program} {w:World} {K:PySem.W.Frag} {mg:Str→Option Value} {base:Heap}
theorem Fun.ok {x qual:Str} {st:Stmt} {f:Addr} {fd:FuncData} {N ps:List Str} {k:Nat} {sp:Sp} (F:Fun K x qual st f fd) (S:FnScope N ps (defScope st)) (len:∀ vs H Q E,sp vs H Q E→vs.length=ps.length)
    (hbody:∀ (cdv:Value) (A:Around) (outer:List Env) (s:Shared) (H:Hp) (vs:List V) (Q:VK) (E:XK),Room k (A.deeper (envOfC qual (defScope st) s.heap.objs.size f cdv))→sp vs H Q E →
      ∃ t,PSs (cxOf CX0 P w K mg base N qual (defScope st) f cdv A outer s H E).nox (defBody st) t∧t { nx:=fun _ H'=>Q .non H',rt:=Q } (start N vs) H):FnOk P w K mg base CX0 (k+1) f fd ps sp:=by
  obtain⟨oc,od,kV,doc,pm,an,cdv,ct,osl,rfl,lk,hcd⟩:=F.ex
  refine fn_of lk hcd S len fun A outer s H vs Q E hr hsp=>?_
  obtain⟨t,h,q⟩:=hbody cdv A outer s H vs Q E hr hsp
  exact⟨t,h.nox,q⟩
theorem Fun.binds {x qual:Str} {st:Stmt} {f:Addr} {fd:FuncData} {ps:List Str} (F:Fun K x qual st f fd)
    (h:∀ (kV doc pm:Value) (an:Option Addr) (cdv ct:Value) (us:List Value),us.length=ps.length→bindArgs (PySem.W.fnOf x qual (defArgs st) (defBody st) (defScope st) .none kV doc pm an cdv ct) ⟨us,[]⟩=pure (ps.zip us)):Binds K fd ps []:=by
  obtain⟨oc,od,kV,doc,pm,an,cdv,ct,osl,rfl,lk,hcd⟩:=F.ex
  exact .all (h kV doc pm an cdv ct)
theorem fun_mk {x qual:Str} {st:Stmt} {f:Addr} {oc:Value} {od an:Option Addr} {osl:Array (Option Value)} {kV doc pm cdv ct:Value} (l:K.lookup f=some ⟨oc,od,.func (PySem.W.fnOf x qual (defArgs st) (defBody st) (defScope st) .none kV doc pm an cdv ct),osl⟩)
    (c:PySem.W.codeIn K cdv qual=true) (k:PySem.W.keepIn K (.ref f)=true):Fun K x qual st f (PySem.W.fnOf x qual (defArgs st) (defBody st) (defScope st) .none kV doc pm an cdv ct):=⟨⟨oc,od,kV,doc,pm,an,cdv,ct,osl,rfl,l,c⟩,k⟩
end
section
variable {X:Cx}
theorem pv (i:Nat) {x:Str} {pos:Pos} (hN:X.N[i]? = some x:=by rfl) (hv:Vis X.env.scope x:=by first | exact Or.inl rfl | exact Or.inr (Or.inl rfl) | exact Or.inr (Or.inr rfl)) (hd:(x==("__debug__":Str))=false:=by decide)
    (hcd:(x==("__classdict__":Str))=false:=by decide):PE X (.Name x pos) (tVar i):=pe_var hN hv hd hcd
end
theorem iteF {A B:Prop} (h:B):if false=true then A else B:=by
  rw[if_neg Bool.false_ne_true]
  exact h
theorem iteT {A B:Prop} (h:A):if true=true then A else B:=by
  rw[if_pos rfl]
  exact h
theorem ite2 {c A B:Prop} [Decidable c] (h1:c→A) (h2:¬ c→B):if c then A else B:=by
  by_cases h:c
  · rw[if_pos h]
    exact h1 h
  · rw[if_neg h]
    exact h2 h
noncomputable def Same (H H':Hp):Prop:=∀ b o,H b=some o→H' b=some o
theorem Same.refl (H:Hp):Same H H:=fun _ _ h=>h
theorem Same.trans {H H1 H2:Hp} (a:Same H H1) (b:Same H1 H2):Same H H2:=fun c o h=>b c o (a c o h)
theorem Same.free {H H':Hp} (e:Same H H') {l:Addr} (h:H' l=Option.none):H l=Option.none:=by
  cases q:H l with
  | none=>rfl
  | some o =>
    rw[e l o q] at h
    cases h
theorem Same.seq {K:PySem.W.Frag} {H H':Hp} {a:Addr} {xs:List V} (e:Same H H') (h:SqL K H a xs):SqL K H' a xs:=by
  rcases h with (h | ⟨o,h⟩) | h
  · exact .inl (.inl (e _ _ h))
  · exact .inl (.inr ⟨o,e _ _ h⟩)
  · exact .inr h
end L2
namespace XK
open PySem PySem.W PySem.Spec PySem.Calls PyProof.Rows
section
variable {prog:Program} {w:World} {A:Around} {E:Value→Shared→Prop} {s:Shared} {K:Frag} {x D:Addr} {ox:Obj}
structure ExcCls (K:Frag) (D:Addr):Prop where
  cls:(clsIn K D).isSome=true
  ga:findIn K (.ref D) "__getattribute__" = some (some (.builtin "BaseException.__getattribute__"))
  hook:findIn K (.ref D) "__getattr__" = some none
  ca:findIn K (.ref D) "__class__" = some (some (.builtin "object.__class__"))
  get:specialIn K (.builtin "object.__class__") "__get__" = some (some (.builtin "getset_descriptor.__get__"))
  tk:takesIn K (.builtin "object.__class__")=some true
  ob:mroIn K D (.type "object")=some true
  bx:mroIn K D (.type "BaseException")=some true
theorem found (c:ExcCls K D):findObj K D none "__class__" = some (.bind (.builtin "getset_descriptor.__get__") (.builtin "object.__class__")):=by
  obtain⟨cd,hc⟩:=Option.isSome_iff_exists.mp c.cls
  unfold findObj
  rw[hc,Option.bind_some,c.ca,Option.bind_some]
  simp[c.get,c.tk]
theorem ga_check {nameV:Value} {M:Model} {Q:Unit→Shared→Prop} (X:K.In s.heap) (c:ExcCls K D) (I:InstAt s.heap x ox D none) (h:Q () s) :
    wpAny M A (checkBuiltinCall "BaseException.__getattribute__" ⟨[.ref x,nameV],[]⟩) Q E s:=by
  have hk:builtinKind "BaseException.__getattribute__" = some .slot:=by decide +kernel
  have hsplit:splitId "BaseException.__getattribute__" = some ("BaseException","__getattribute__"):=by decide +kernel
  have ha:=F.args_bexc_ga (.ref x) nameV
  have L0:=I.type (M:=M)
  have L1:=looks_mroIn (M:=M) X c.bx
  obtain⟨hh,g,d,t,os⟩:=s
  simp only[checkBuiltinCall,hk,hsplit]
  unfold isInstance
  repeat (first | exact h | refine wpAny_bind (L0.at ?_) | refine wpAny_bind (L1.at ?_) | refine L0.at ?_ | refine L1.at ?_ | wp_step)
theorem ga_entry {tk:Tok} {Q:Fin→Shared→Prop} (X:K.In s.heap) (c:ExcCls K D) (I:InstAt s.heap x ox D none) (h:Q (.done (.ret (.ref D))) s) :
    wpAny (model prog w) A (Builtin.«object.__getattribute__» ⟨[.ref x,.str "__class__" tk],[]⟩) Q E s:=by
  have L0:=I.type (M:=model prog w)
  have L1:=looks_find (M:=model prog w) X I (found c)
  obtain⟨hh,g,d,t,os⟩:=s
  unfold Builtin.«object.__getattribute__»
  repeat (first | refine wpAny_bind (L0.at ?_) | refine wpAny_bind (L1.at ?_) | wp_step)
  exact class_get X I c.ob (wpAny_pure h)
theorem ga_attr {Q:Option Value→Shared→Prop} (X:K.In s.heap) (c:ExcCls K D) (I:InstAt s.heap x ox D none) (h:Q (some (.ref D)) { s with toks:=s.toks+1 }) :
    wpAny (model prog w) A (getAttr? (.ref x) "__class__") Q E s:=by
  have L0:=I.type (M:=model prog w)
  have L1:=looks_findIn (M:=model prog w) X c.ga
  have L2:=looks_findIn (M:=model prog w) X c.hook
  have f3:=PySem.F.attr_ValueError.ga.bind (.ref x)
  have hx2:(Value.builtin "BaseException.__getattribute__" == Value.builtin "object.__getattribute__")=false:=by decide +kernel
  have hx1:(onTheHeap (Value.ref D)&&Value.builtin "BaseException.__getattribute__" == Value.builtin "object.__getattribute__")=false:=by rw[hx2];rfl
  obtain⟨hh,g,d,t,os⟩:=s
  unfold getAttr? getAttrBy? getAttrBy
  refine wpAny_bind (wpAny_mkText (wpAny_bind (wpAny_attempt (wpAny_holding (wpAny_bind (L0.at (wpAny_bind (L1.at ?_))))))))
  dsimp only
  rw[hx1,if_neg Bool.false_ne_true]
  unfold getAttrByItsOwn hookBefore
  rw[show onTheHeap (Value.ref D)=true from rfl,if_pos rfl]
  refine wpAny_bind (L2.at ?_)
  refine wpAny_bind (wpAny_attempt (wpAny_holding ?_))
  unfold callGetattribute
  rw[Bool.false_and,if_neg Bool.false_ne_true]
  unfold boundAndCalled
  rw[f3]
  refine wpAny_bind (wpAny_pure ?_)
  refine wpAny_call (codeAny_call_builtin PySem.F.attr_ValueError.ga.plain F.entry_bexc_ga (ga_check (s:=⟨hh,g,d,t+1,os⟩) X c I (ga_entry (s:=⟨hh,g,d,t+1,os⟩) X c I ?_)))
  repeat (first | exact h | wp_step)
theorem kitx_exc (c:ExcCls K D):KitX K (.ref x) (.ref D) (fun h=>InstAt h x ox D none) where
  ty:=fun _ _ _ I=>I.type
  it:=fun M h X _=>by
    obtain⟨cd,hc⟩:=Option.isSome_iff_exists.mp c.cls
    unfold clsIn at hc
    split at hc
    · rename_i ho
      intro A' Q' E' s' k q
      unfold isType loadHead
      exact wpAny_bind (wpAny_loadPart (k _ _ (X _ _ ho)) (wpAny_pure q))
    · cases hc
  ne:=fun h tp dd its n sl X htp=>by
    obtain⟨cd,hc⟩:=Option.isSome_iff_exists.mp c.cls
    refine Bool.eq_false_iff.mpr fun q=>?_
    obtain rfl:D=tp:=Value.ref.inj (beq_iff_eq.mp q)
    unfold clsIn at hc
    split at hc
    · rename_i ho
      cases (X _ _ ho).symm.trans htp
    · cases hc
  ca:=fun X I k=>ga_attr X c I k
end
end XK
namespace L2
open PySem PySem.Spec PyProof.Rows
section
variable {M:Model} {A:Around} {E:Value→Shared→Prop} {s:Shared}
structure Entered (fl:List Addr) (e:Addr) (oe:Obj) (mark:Value) (h h':Heap) (T:Addr):Prop where
  keep:∀ b o,b≠e→b∉fl→h.get? b=some o→h'.get? b=some o
  slot:∀ b o,b≠e→h.get? b=some o→∃ sl,h'.get? b=some { o with slots:=sl }
  new:h.objs.size≤T
  recd:h'.get? e=some (oe.mapFields (·.setIfInBounds 1 (.ref T)))
  head:∃ oT ts,h'.get? T=some oT∧oT.data = .fields ts∧ts[3]? = some mark
theorem enter_ok {base:Heap} {env:Env} {outer:List Env} {L e:Addr} {oe:Obj} {vs:Array Value} {head:Value} {b:Bool} {Q:Unit→Shared→Prop}
    (hfr:A.frames=some (env::outer)) (hl:s.heap.FunFrames base (env::outer)) (hf:env.frame=some L) (he:s.heap.get? e=some oe) (hd:oe.data = .fields vs) (hz:1<vs.size)
    (k:∀ h' T,Entered ((env::outer).filterMap (·.frame)) e oe (rawInt L) s.heap h' T→Q () { s with heap:=h' }) :
    wpAny M A (do setField (.ref e) 1 (← EntryCells.newEntry head (← frameOf env) .none (rawInt L) .none (← entryPlaceOf L b))) Q E s:=by
  have off:e∉(env::outer).filterMap (·.frame):=fun hm=>by
    obtain⟨_,o,ho,nf⟩:=hl.mem hm
    rw[he] at ho
    cases ho
    exact nf vs hd
  refine wpAny_bind (wpAny_frameOf_fun hfr hl hf fun g so=>?_)
  refine wpAny_bind (wpAny_entryPlaceOf fun pl place=>?_)
  refine wpAny_bind ?_
  unfold EntryCells.newEntry newFields
  refine wpAny_newObj_type ?_ (place.sizeOk5 _ _ _ _ _)
  have g1:g.get? e=some oe:=(so.2.1 e off).trans he
  have g2:=Heap.get?_push_of_some (h:=g) { cls:=.type "traceback",dict:=none,data:=.fields ([head,.ref L,.none,rawInt L,.none]++(if pl.isEmpty then List.replicate 6 Value.none else pl)).toArray } g1
  have ne:g.objs.size≠e:=Nat.ne_of_gt (Heap.lt_size g1)
  refine wpAny_setField g2 hd hz (k _ g.objs.size ?_)
  have oth:∀ c o,c≠e→g.get? c=some o→((g.push { cls:=.type "traceback",dict:=none,data:=.fields ([head,.ref L,.none,rawInt L,.none]++(if pl.isEmpty then List.replicate 6 Value.none else pl)).toArray }).update e (Obj.mapFields (·.setIfInBounds 1 (Value.ref g.objs.size)))).get? c=some o:=fun c o hc q=>by
    rw[Heap.get?_update_other _ _ (Ne.symm hc)]
    exact Heap.get?_push_of_some _ q
  refine⟨fun c o hc hm q=>oth c o hc ((so.2.1 c hm).trans q),fun c o hc q=>?_,by rw[so.1];exact Nat.le_refl _,?_,?_⟩
  · obtain⟨sl,z⟩:=so.2.2 c o q
    exact⟨sl,oth c _ hc z⟩
  · exact Heap.get?_update_self _ g2 (Obj.isFreed_of_fields (Obj.data_mapFields hd _))
  · refine⟨_,_,(Heap.get?_update_other _ _ (Ne.symm ne)).trans (Heap.get?_push_size g rfl),rfl,?_⟩
    simp
end
noncomputable abbrev CT:=Hp→Array Value→Prop
noncomputable def C0:CT:=fun _ vs=>vs[2]? = some .none
noncomputable def CtxR:CT:=fun H vs=>vs[2]? = some .none∨∃ eb ob ws u,vs[2]? = some (.ref eb)∧H eb=some (.frz ob u)∧ob.data = .fields ws∧ws[2]? = some .none
class CtOk (C:CT):Prop where
  keep:∀ {H:Hp} {vs:Array Value} {v:Value},C H vs→C H (vs.setIfInBounds 1 v)
  zero:∀ {H:Hp} {vs:Array Value},vs[2]? = some .none→C H vs
  ctx:∀ {H:Hp} {vs:Array Value},C H vs→CtxR H vs
theorem keep2 {vs:Array Value} {v:Value} {n:Value} (h:vs[2]? = some n):(vs.setIfInBounds 1 v)[2]? = some n:=by
  rw[Array.getElem?_setIfInBounds_ne (by decide)]
  exact h
noncomputable instance:CtOk C0:=⟨keep2,id,.inl⟩
noncomputable instance:CtOk CtxR:=⟨fun h=>h.imp keep2 fun⟨eb,ob,ws,u,f1,f2⟩=>⟨eb,ob,ws,u,keep2 f1,f2⟩,.inl,id⟩
noncomputable def FlyG (C:CT) (X:Cx) (pins:List (Addr × Obj)) (H:Hp) (ea:Addr) (cls fl:Value) (h:Heap):Prop :=
  FpOk X pins H ea∧∃ oe vs,h.get? ea=some oe∧(oe.cls=cls∧oe.dict=none)∧oe.data = .fields vs∧C H vs ∧
    ((vs[1]? = some .none∧fl = .none)∨∃ T oT ts,vs[1]? = some (.ref T)∧T≠ea∧FpOk X pins H T∧h.get? T=some oT∧oT.data = .fields ts∧ts[3]? = some fl)
noncomputable abbrev FlyX:=FlyG C0
section
variable {X:Cx} {pins:List (Addr × Obj)} {σ:St} {H:Hp} {s:Shared} {ea:Addr} {cls fl:Value} {M:Model} {A:Around} {E:Value→Shared→Prop} {Q:Unit→Shared→Prop} {C:CT} [ct:CtOk C]
theorem Inv.flown (I:Inv X pins σ H s) {b:Addr} (f:FpOk X pins H b) {h':Heap} (k:∀ c o,c≠b→s.heap.get? c=some o→h'.get? c=some o):Inv X pins σ H { s with heap:=h' } :=
  I.turned (t':=s.toks) k f.1 f.2.1 f.2.2.2.1 f.2.2.2.2.1 f.2.2.2.2.2
theorem ObjOk.some {P:Program} {w:World} {h:Heap} {a:Addr} {o:HO} (x:ObjOk P w H h a o):∃ u,h.get? a=some u:=by
  cases o with
  | lst xs=>obtain⟨_,_,_,_,e⟩:=x;exact⟨_,e⟩
  | tup xs=>obtain⟨_,_,_,u,e,_⟩:=x;exact⟨_,e⟩
  | dK kvs=>obtain⟨_,_,_,_,u,_,_,e,_⟩:=x;exact⟨u,e⟩
  | dT kvs=>obtain⟨_,_,_,_,u,_,_,e,_⟩:=x;exact⟨u,e⟩
  | set S n=>obtain⟨u,_,_,_,e,_⟩:=x;exact⟨u,e⟩
  | ins C dx fs=>obtain⟨_,_,_,e,_⟩:=x;exact⟨_,e⟩
  | own y=>exact x
  | xd fs=>obtain⟨_,⟨u,_,_,e,_⟩,_⟩:=x;exact⟨u,e⟩
  | rng lo hi=>obtain⟨_,_,_,e⟩:=x;exact⟨_,e⟩
  | frz ob u=>obtain⟨e,_⟩:=x;exact⟨_,e⟩
  | tbl ps=>exact⟨_,x⟩
  | met f y=>exact⟨_,x⟩
  | ext φ=>exact x.2.1
theorem Inv.none_of (I:Inv X pins σ H s) {b:Addr} (hb:s.heap.get? b=none):H b=none:=by
  cases q:H b with
  | none=>rfl
  | some o =>
    obtain⟨u,e⟩:=(I.hok b o q).some
    rw[hb] at e
    cases e
theorem Inv.fpNone {H':Hp} (I:Inv X pins σ H s) {b:Addr} (hb:s.heap.get? b=none) (hn:H' b=none):FpOk X pins H' b:=by
  refine⟨hn,fun z=>?_,fun z=>?_,?_,fun x c e z=>?_,fun p hp z=>?_⟩
  · obtain⟨m,⟨o,_,_,e,_⟩,_⟩:=I.loc
    rw[← z,hb] at e
    cases e
  · obtain⟨_,o,e,_⟩:=I.funs.mem z
    rw[hb] at e
    cases e
  · by_cases hx:b∈X.ex
    · exact .inl hx
    · refine .inr ?_
      cases q:X.s₀.heap.get? b with
      | none=>rfl
      | some o =>
        obtain⟨o',e⟩:=I.base.there b o q hx
        rw[hb] at e
        cases e
  · obtain⟨v,o,e',_⟩:=I.cell x c e
    rw[z,hb] at e'
    cases e'
  · have e:=(I.pin p hp).1
    rw[z,hb] at e
    cases e
theorem flight_ok (I:Inv X pins σ H s) (F:FlyG C X pins H ea cls fl s.heap) (k:∀ s',Inv X pins σ H s'→FlyG C X pins H ea cls .none s'.heap→Q () s') :
    wpAny M A (setFlight (.ref ea) none) Q E s:=by
  obtain⟨f0,oe,vs,he,hc,hd,h2,hh⟩:=F
  unfold setFlight
  rcases hh with ⟨h1,rfl⟩ | ⟨T,oT,ts,h1,hne,fT,hT,hdT,h3⟩
  · refine wpAny_bind (wpAny_field he hd h1 ?_)
    rw[if_neg (by decide)]
    exact wpAny_pure (k s I ⟨f0,oe,vs,he,hc,hd,h2,.inl ⟨h1,rfl⟩⟩)
  · have hz:3<ts.size:=(Array.getElem?_eq_some_iff.mp h3).1
    refine wpAny_bind (wpAny_field he hd h1 ?_)
    rw[if_pos (show (Value.ref T != Value.none)=true by simp)]
    have oth:∀ c,c≠T→(s.heap.update T (Obj.mapFields (·.setIfInBounds 3 ((none:Option Addr).elim Value.none fun f=>rawInt f)))).get? c=s.heap.get? c:=fun c hc=>Heap.get?_update_other _ _ (Ne.symm hc)
    have hT':=Heap.get?_update_self (Obj.mapFields (·.setIfInBounds 3 ((none:Option Addr).elim Value.none fun f=>rawInt f))) hT (Obj.isFreed_of_fields (Obj.data_mapFields hdT _))
    refine wpAny_setField hT hdT hz (k _ (I.flown fT fun c o hc q=>(oth c hc).trans q) ⟨f0,oe,vs,(oth ea (Ne.symm hne)).trans he,hc,hd,h2,.inr ⟨T,_,_,h1,hne,fT,hT',Obj.data_mapFields hdT _,?_⟩⟩)
    simp[hz]
theorem dict_mapFields (f:Array Value→Array Value) (o:Obj):(Obj.mapFields f o).dict=o.dict:=by
  obtain⟨c,d,dt,sl⟩:=o
  cases dt <;> rfl
theorem enter_fly (I:Inv X pins σ H s) (hs:X.stack=X.env::X.outer) (hf:X.env.frame=some X.env.locals) (hfr:A.frames=some X.stack) {oe:Obj} {vs:Array Value} {head:Value} {b:Bool}
    (f0:FpOk X pins H ea) (he:s.heap.get? ea=some oe) (hc:oe.cls=cls∧oe.dict=none) (hd:oe.data = .fields vs) (h2:C H vs) (hz:1<vs.size)
    (k:∀ s',Inv X pins σ H s'→FlyG C X pins H ea cls (rawInt X.env.locals) s'.heap→Q () s') :
    wpAny M A (do setField (.ref ea) 1 (← EntryCells.newEntry head (← frameOf X.env) .none (rawInt X.env.locals) .none (← entryPlaceOf X.env.locals b))) Q E s:=by
  have stk:s.heap.FunFrames X.base (X.env::X.outer):=by
    have q:=I.stack
    rw[hs] at q
    exact q
  have fm:∀ b,b∈(X.env::X.outer).filterMap (·.frame)↔b=X.env.locals∨b∈X.fs:=fun b=>by
    rw[List.filterMap_cons,hf]
    exact List.mem_cons
  have fre:∀ b∈(X.env::X.outer).filterMap (·.frame),H b=none:=fun b hb=>I.stkFree b (by rw[hs];exact hb)
  refine enter_ok (hfr.trans (congrArg some hs)) stk hf he hd hz fun h' T W=>?_
  have nT:ea≠T:=Nat.ne_of_lt (Nat.lt_of_lt_of_le (Heap.lt_size he) W.new)
  have I':Inv X pins σ H { s with heap:=h' }:=by
    refine I.step (g':=s.gens) (d':=s.drawn) (t':=s.toks) (ch:=[ea]) (fun b hb=>?_) (fun b o hL hb hc q _=>?_) (fun b o _ _ hc q _=>W.slot b o (fun z=>hc (by simp[z])) q) (fun _ _ _ _ n=>n)
      (fun b o hc q=>?_) (fun _ _ q=>q) (fun _ _ _ q=>q) (fun _ ps q=>⟨#[],by rw[q];simp⟩) (fun m hm=>?_) (fun b u q=>?_) I.bare
    · obtain rfl:b=ea:=by simpa using hb
      exact⟨f0.2.2.2.1,f0.2.1,f0.2.2.2.2.1,f0.2.2.2.2.2⟩
    · exact W.keep b o (fun z=>hc (by simp[z])) (fun z=>((fm b).mp z).elim hL hb) q
    · obtain⟨sl,z⟩:=W.slot b o (fun z=>hc (by simp[z])) q
      exact⟨_,z⟩
    · obtain⟨o,es,ep,ho,r⟩:=hm
      obtain⟨sl,z⟩:=W.slot _ o (Ne.symm f0.2.1) ho
      exact⟨_,es,ep,z,r⟩
    · refine (I.hok b u q).stay (fun c v hc z=>?_) (fun _ z=>z) fun _ _ z=>z
      have nc:H c≠none:=by
        rcases hc with rfl | hc
        · rw[q];simp
        · rw[hc];simp
      exact W.keep c v (fun e=>nc (by rw[e];exact f0.1)) (fun e=>nc (fre c e)) z
  obtain⟨oT,ts,hT,hdT,h3⟩:=W.head
  refine k _ I' ⟨f0,_,_,W.recd,⟨(Obj.cls_mapFields _ _).trans hc.1,(dict_mapFields _ _).trans hc.2⟩,Obj.data_mapFields hd _,?_,.inr ⟨T,oT,ts,?_,Ne.symm nT,?_,hT,hdT,h3⟩⟩
  · exact ct.keep h2
  · simp[hz]
  · exact I.fpOk W.new (I.hok.fresh W.new)
theorem note_ok (I:Inv X pins σ H s) (F:FlyG C X pins H ea cls .none s.heap) (hs:X.stack=X.env::X.outer) (hf:X.env.frame=some X.env.locals) (hfr:A.frames=some X.stack)
    (k:∀ s',Inv X pins σ H s'→FlyG C X pins H ea cls (rawInt X.env.locals) s'.heap→Q () s'):wpAny M A (noteFrame (.ref ea) X.env) Q E s:=by
  obtain⟨f0,oe,vs,he,hc,hd,h2,hh⟩:=F
  unfold noteFrame
  simp only[hf]
  rcases hh with ⟨h1,_⟩ | ⟨T,oT,ts,h1,hne,fT,hT,hdT,h3⟩
  · refine wpAny_bind (wpAny_field he hd h1 ?_)
    rw[if_neg (by decide)]
    exact enter_fly I hs hf hfr f0 he hc hd h2 (Array.getElem?_eq_some_iff.mp h1).1 k
  · have hz:3<ts.size:=(Array.getElem?_eq_some_iff.mp h3).1
    refine wpAny_bind (wpAny_field he hd h1 ?_)
    rw[if_pos (show (Value.ref T != Value.none)=true by simp)]
    refine wpAny_bind (wpAny_field hT hdT h3 ?_)
    rw[if_neg (show ¬ ((Value.none==rawInt X.env.locals)=true) by simp[rawInt])]
    have oth:∀ c,c≠T→(s.heap.update T (Obj.mapFields (·.setIfInBounds 3 Value.none))).get? c=s.heap.get? c:=fun c hc=>Heap.get?_update_other _ _ (Ne.symm hc)
    refine wpAny_bind (wpAny_setField hT hdT hz ?_)
    exact enter_fly (I.flown fT fun c o hc q=>(oth c hc).trans q) hs hf hfr f0 ((oth ea (Ne.symm hne)).trans he) hc hd h2 (Array.getElem?_eq_some_iff.mp h1).1 k
end
noncomputable def CXG (C:CT) (P:Program) (w:World):CXT:=fun outer H s E e s'=>∃ (ea:Addr) (cls:Value) (H':Hp),e = .ref ea∧s'.os=s.os∧AllBare s'.gens∧Un (frs outer) [] H H' s.heap s'.heap∧HOk P w H' s'.heap ∧
  (s.heap.get? ea=none∧H' ea=none∧∃ oe vs,s'.heap.get? ea=some oe∧(oe.cls=cls∧oe.dict=none)∧oe.data = .fields vs∧C H' vs ∧
    ((vs[1]? = some .none)∨∃ T oT ts,vs[1]? = some (.ref T)∧T≠ea∧s.heap.get? T=none∧H' T=none∧s'.heap.get? T=some oT∧oT.data = .fields ts∧ts[3]? = some .none))∧E cls none H'
noncomputable abbrev CXE:=CXG C0
noncomputable abbrev CXY:=CXG CtxR
noncomputable def ThrowsG (C:CT) (X:Cx) (E:XK):Prop:=∀ (pins:List (Addr × Obj)) (σ:St) (H:Hp) (s:Shared) (ea:Addr) (cls:Value),Inv X pins σ H s→FlyG C X pins H ea cls .none s.heap→E cls none H→X.xe (.ref ea) s
noncomputable abbrev Throws:=ThrowsG C0
theorem throws_pass {C:CT} {P:Program} {w:World} {X:Cx} {E:XK} (hP:X.prog=P) (hw:X.w=w) (t:ThrowsG C X E):Passes (CXG C P w) X E:=by
  subst hP hw
  intro pins σ H s e s' I c
  obtain⟨ea,cls,H',rfl,os,bare,un,hok,⟨n0,f0,oe,vs,he,hc,hd,h2,hh⟩,q⟩:=c
  have I':Inv X pins σ H' s':=I.call' (ch:=[]) os un hok bare fun b z=>absurd z (by simp)
  refine t pins σ H' s' ea cls I' ⟨I.fpNone n0 f0,oe,vs,he,hc,hd,h2,?_⟩ q
  rcases hh with h1 | ⟨T,oT,ts,h1,ne,nT,fT,hT,hdT,h3⟩
  · exact .inl ⟨h1,rfl⟩
  · exact .inr ⟨T,oT,ts,h1,ne,I.fpNone nT fT,hT,hdT,h3⟩
theorem throws_fn {C:CT} [ct:CtOk C] {P:Program} {w:World} {K:PySem.W.Frag} {mg:Str→Option Value} {base:Heap} {N:List Str} {qual:Str} {scope:Scope} {f:Addr} {cd:Value} {A:Around} {outer:List Env} {s:Shared} {H:Hp} {E:XK} :
    ThrowsG C (cxOf (CXG C P w) P w K mg base N qual scope f cd A outer s H E) E:=by
  intro pins σ H' s' ea cls I F q
  show wpAny _ _ (leaving _ _) _ _ _
  unfold leaving
  refine wpAny_bind (note_ok I F rfl rfl I.ok.frames fun s1 I1 F1=>?_)
  refine flight_ok I1 F1 fun s2 I2 F2=>?_
  obtain⟨f0,oe,vs,he,hc,hd,h2,hh⟩:=F2
  have ge:∀ {b:Addr},FpOk (cxOf (CXG C P w) P w K mg base N qual scope f cd A outer s H E) pins H' b→s.heap.get? b=none:=fun {b} z=>by
    rcases z.2.2.2.1 with z | z
    · exact absurd (show b∈([]:List Addr) from z) (by simp)
    · exact z
  refine⟨ea,cls,H',rfl,I2.os,I2.bare,I2.base,I2.hok,⟨ge f0,f0.1,oe,vs,he,hc,hd,h2,?_⟩,q⟩
  rcases hh with ⟨h1,_⟩ | ⟨T,oT,ts,h1,ne,fT,hT,hdT,h3⟩
  · exact .inl h1
  · exact .inr ⟨T,oT,ts,h1,ne,ge fT,fT.1,hT,hdT,h3⟩
theorem exc_obj {K:PySem.W.Frag} {h:Heap} {C:Addr} {bmB:List Value} {newId:String} (X:K.In h) (q:PySem.W.excIn K C bmB newId=true) :
    ∃ bm N nm qn bs hd sn sub ab col dd k0 k1 k2 k3 k5 mN,h.get? C=some (excClassObj nm qn C N bs bm hd sn sub ab col dd k0 k1 k2 k3 k5 newId)∧h.Ns N mN∧mN "__init__" = none∧OwnTail h bmB bm:=by
  unfold PySem.W.excIn at q
  split at q
  case h_2=>cases q
  case h_1 dd cd sl lk =>
    split at q
    case h_2=>cases q
    case h_1 C' bm k0 k1 k2 k3 n k5 em es =>
      simp only[Bool.and_eq_true,beq_iff_eq,Bool.not_eq_true'] at q
      obtain⟨⟨⟨⟨⟨e1,e2⟩,e3⟩,e4⟩,e5⟩,e6⟩:=q
      subst e1 e2
      obtain⟨c1,c2,c3,c4,c5,c6,c7,c8,c9,c10,c11⟩:=cd
      dsimp only at em e3 e5 e6
      subst em e3
      obtain⟨ls⟩:=sl
      dsimp only at es
      subst es
      exact⟨bm,c4,c1,c5,c2,c6,c7,c8,c9,c10,dd,k0,k1,k2,k3,k5,_,X _ _ lk,.of_isNs (PySem.W.isNs_of_in X e5),PySem.W.nsMap_none_of_in X e5 e6,PySem.W.tail_of_in X e4⟩
section
variable {X:Cx} {E:XK} {x:Str} {C:Addr} {Ct:CT} [ct:CtOk Ct] {e₀:Expr} {rest:List Expr} {t:TA} {np cpos pos:Pos}
noncomputable def tRaise (E:XK) (C:Addr) (t:TA):TS:=fun _ σ H=>t σ H fun vs H1=>vs.length≤sizeLine∧E (.ref C) none H1
theorem ps_raise (hE:ThrowsG Ct X E) (hc:X.calm=true) (hg:Gl X x) (hm:X.mg x=some (.ref C)) (hx:PySem.W.excIn X.K C veMro "ValueError.__new__" = true) (ha:PA X (e₀ :: rest) t)
    (he:starEach (e₀ :: rest) X.env=(false,eval e₀ X.env)::starEach rest X.env:=by exact starEach_cons rfl) (hpl:(backTo cpos (starEach rest X.env)).any (·.1)=false:=by exact noStars rfl) (hdb:(x==("__debug__":Str))=false:=by decide) :
    PS X (.Raise (some (.Call (.Name x np) (e₀ :: rest) [] cpos)) none pos) (tRaise E C t):=by
  intro pins s σ H D I h
  obtain⟨bm,N,nm,qn,bs,hd,sn,sub,ab,col,dd,k0,k1,k2,k3,k5,mN,oC,oN,ni,T⟩:=exc_obj I.ok.mod.kin hx
  have FB:=PySem.F.excBase_ValueError
  refine wpAny_Raise_call_subT (C:=C) (nm:=nm) (q:=qn) (N:=N) (bs:=bs) (bm:=bm) (hdct:=hd) (sn:=sn) (sub:=sub) (ab:=ab) (col:=col) (dd:=dd) (k0:=k0) (k1:=k1) (k2:=k2) (k3:=k3) (k5:=k5) (mN:=mN)
    FB (T.hasType FB.hasBase) (I.ok.hd hc) (by rw[he];show (false || (backTo cpos (starEach rest X.env)).any (·.1))=false;rw[hpl];rfl) ni (ld_glob I hg hm ⟨rfl,?_⟩ hdb)
  have q:=ha cpos pins s σ H _ I h
  rw[he] at q ⊢
  refine Calls.evalArgs_plain (thn q fun us s2 ⟨vs,H1,I1,r,hl,w⟩=>⟨rfl,by show us.length≤sizeLine;rw[← r.length];exact hl,I1.bk _ _ oC,oN.keeps I1.bk,T.keeps I1.bk,fun h' e made=>?_⟩)
  obtain⟨t0,there,_,_⟩:=made.there
  exact hE pins σ H1 _ e (.ref C) (I1.kept (t':=s2.toks) made.keeps) ⟨I1.fpNone made.new (I1.none_of made.new),_,_,there,⟨rfl,rfl⟩,rfl,ct.zero rfl,.inl ⟨rfl,rfl⟩⟩ w
end
noncomputable abbrev Cx.tr (X:Cx) (pn:List (Addr × Obj)) (E:Value→Shared→Prop):Cx:={ X with pn:=pn,xe:=E }
noncomputable abbrev Cx.hdl (X:Cx) (pn:List (Addr × Obj)) (ea:Addr) (E:Value→Shared→Prop):Cx:={ X with pn:=pn,xe:=E,A:=X.A.mark (some (.ref ea)),calm:=false }
noncomputable def excO (ea:Addr) (oe:Obj):HO:=.frz oe (.ext fun h=>∃ o,h.get? ea=some o)
section
variable {X:Cx} {pn pins:List (Addr × Obj)} {σ:St} {H:Hp} {s:Shared} {E:Value→Shared→Prop} {ea:Addr}
theorem Cx.Ok.tr (ok:X.Ok):(X.tr pn E).Ok :=
  ⟨ok.mod,ok.kind,ok.glob,ok.blt,ok.above,ok.inj,ok.has,ok.cab,ok.hd,ok.frames,ok.stk,ok.exf,ok.bs,ok.bsz,ok.noex,ok.exfs,ok.funs,ok.frf⟩
theorem Cx.Ok.hdl (ok:X.Ok):(X.hdl pn ea E).Ok :=
  ⟨ok.mod,ok.kind,ok.glob,ok.blt,ok.above,ok.inj,ok.has,ok.cab,(fun z=>nomatch z),ok.frames,ok.stk,ok.exf,ok.bs,ok.bsz,ok.noex,ok.exfs,ok.funs,ok.frf⟩
theorem Inv.tr (I:Inv X pins σ H s):Inv (X.tr (X.pn++pins) E) [] σ H s :=
  ⟨I.ok.tr,I.os,I.bare,I.base,I.loc,I.cell,I.free,I.freeC,fun p hp=>I.pin p (by simpa using hp),I.hok,I.len⟩
theorem Inv.toHdl {E':Value→Shared→Prop} (I:Inv (X.tr pn E') [] σ H s) (ok:X.Ok):Inv (X.hdl pn ea E) [] σ H s :=
  ⟨ok.hdl,I.os,I.bare,I.base,I.loc,I.cell,I.free,I.freeC,I.pin,I.hok,I.len⟩
theorem Inv.ofHdl (I:Inv (X.hdl (X.pn++pins) ea E) [] σ H s) (ok:X.Ok):Inv X pins σ H s :=
  ⟨ok,I.os,I.bare,I.base,I.loc,I.cell,I.free,I.freeC,fun p hp=>I.pin p (by simpa using hp),I.hok,I.len⟩
theorem Inv.ofTr (I:Inv (X.tr (X.pn++pins) E) [] σ H s) (ok:X.Ok):Inv X pins σ H s :=
  ⟨ok,I.os,I.bare,I.base,I.loc,I.cell,I.free,I.freeC,fun p hp=>I.pin p (by simpa using hp),I.hok,I.len⟩
theorem FlyG.toHdl {C:CT} {E':Value→Shared→Prop} {cls fl:Value} {h:Heap} {eb:Addr} (F:FlyG C (X.tr pn E') [] H ea cls fl h):FlyG C (X.hdl pn eb E) [] H ea cls fl h:=F
theorem Inv.hold (I:Inv X pins σ H s) (f:FpOk X pins H ea) {oe:Obj} (he:s.heap.get? ea=some oe):Inv X pins σ (upd H ea (excO ea oe)) s:=by
  have off:∀ b u,H b=some u→b≠ea:=fun b u q z=>by rw[z,f.1] at q;cases q
  refine I.step (h':=s.heap) (g':=s.gens) (d':=s.drawn) (t':=s.toks) (ch:=[ea]) (fun b hb=>?_) (fun _ _ _ _ _ q _=>q) (fun b o _ _ _ q _=>⟨o.slots,q⟩) (fun b o hc _ n=>?_) (fun b o _ q=>⟨o,q⟩)
    (fun b xs q=>by rw[upd_ne (off b _ q)];exact q) (fun b o u q=>by rw[upd_ne (off b _ q)];exact q) (fun b ps q=>⟨#[],by rw[upd_ne (off b _ q),q];simp⟩) (fun _ z=>z) (fun b u q=>?_) I.bare
  · obtain rfl:b=ea:=by simpa using hb
    exact⟨f.2.2.2.1,f.2.1,f.2.2.2.2.1,f.2.2.2.2.2⟩
  · rw[upd_ne (fun z=>hc (by simp[z]))]
    exact n
  · by_cases hb:b=ea
    · subst hb
      rw[upd_same] at q
      cases q
      exact⟨he,⟨_,he⟩,⟨_,he⟩,fun h1 h2 ⟨o,e⟩ k=>⟨o,k o e⟩⟩
    · rw[upd_ne hb] at q
      exact (I.hok b u q).stay (fun _ _ _ z=>z) (fun c z=>by rw[upd_ne (off c _ z)];exact z) fun c xs z=>by rw[upd_ne (off c _ z)];exact z
theorem Inv.relocal {h':Heap} {m':Str→Option Value} {t':Nat} (I:Inv X pins σ H s) (hn:h'.Ns X.env.locals m') (hs:Heap.SameBut X.env.locals s.heap h') :
    Inv X pins (X.N.map fun _=>none) H { s with heap:=h',toks:=t' }:=by
  have nl:∀ b o,X.s₀.heap.get? b=some o→b≠X.env.locals:=fun b o e=>Nat.ne_of_lt (Nat.lt_of_lt_of_le (Heap.lt_size e) I.ok.above)
  refine⟨I.ok,I.os,I.bare,⟨fun b o e n hb hx=>?_,fun b o e n hb hx=>?_,I.base.free,fun b o e hx=>?_,I.base.tups,I.base.frzs,I.base.tbls⟩,⟨m',hn,fun i x v e1 e2 _=>?_⟩,fun x c e=>?_,I.free,I.freeC,fun p hp=>?_,fun b u q=>?_,by simp⟩
  · exact (hs.2 b (nl b o e)).trans (I.base.keep b o e n hb hx)
  · obtain⟨sl,q⟩:=I.base.slot b o e n hb hx
    exact⟨sl,(hs.2 b (nl b o e)).trans q⟩
  · obtain⟨o',q⟩:=I.base.there b o e hx
    exact⟨o',(hs.2 b (nl b o e)).trans q⟩
  · rw[List.getElem?_map,e1] at e2
    cases e2
  · obtain⟨v,z⟩:=I.cell x c e
    exact⟨v,z.sameBut hs (I.cne x c e)⟩
  · obtain⟨e,n,ne,nf,d⟩:=I.pin p hp
    exact⟨(hs.2 p.1 ne).trans e,n,ne,nf,d⟩
  · refine (I.hok b u q).stay (fun c v hc z=>(hs.2 c ?_).trans z) (fun _ z=>z) fun _ _ z=>z
    rintro rfl
    rcases hc with hc | hc
    · rw[← hc,I.free] at q;cases q
    · rw[I.free] at hc;cases hc
end
noncomputable def tryG (C:CT) (X:Cx) (pn:List (Addr × Obj)) (R:XK):Value→Shared→Prop:=fun e s=>∃ (ea:Addr) (cls:Value) (σ:St) (H:Hp),e = .ref ea∧Inv (X.tr pn fun _ _=>True) [] σ H s∧FlyG C (X.tr pn fun _ _=>True) [] H ea cls .none s.heap∧R cls none H
noncomputable abbrev tryE:=tryG C0
theorem throws_try {C:CT} {X:Cx} {pn:List (Addr × Obj)} {R:XK}:ThrowsG C (X.tr pn (tryG C X pn R)) R:=by
  intro pins σ H s ea cls I F q
  refine⟨ea,cls,σ,H,rfl,⟨⟨I.ok.mod,I.ok.kind,I.ok.glob,I.ok.blt,I.ok.above,I.ok.inj,I.ok.has,I.ok.cab,I.ok.hd,I.ok.frames,I.ok.stk,I.ok.exf,I.ok.bs,I.ok.bsz,I.ok.noex,I.ok.exfs,I.ok.funs,I.ok.frf⟩,I.os,I.bare,I.base,I.loc,I.cell,I.free,I.freeC,fun p hp=>I.pin p ?_,I.hok,I.len⟩,?_,q⟩
  · rw[List.append_nil] at hp
    exact List.mem_append_left _ hp
  · have cut:∀ {b:Addr},FpOk (X.tr pn (tryG C X pn R)) pins H b→FpOk (X.tr pn fun _ _=>True) [] H b:=fun {b} f=>⟨f.1,f.2.1,f.2.2.1,f.2.2.2.1,f.2.2.2.2.1,fun p hp=>f.2.2.2.2.2 p (by rw[List.append_nil] at hp;exact List.mem_append_left _ hp)⟩
    obtain⟨f0,oe,vs,he,hc,hd,h2,hh⟩:=F
    refine⟨cut f0,oe,vs,he,hc,hd,h2,?_⟩
    rcases hh with z | ⟨T,oT,ts,h1,ne,fT,hT,hdT,h3⟩
    · exact .inl z
    · exact .inr ⟨T,oT,ts,h1,ne,cut fT,hT,hdT,h3⟩
noncomputable def fall (N:List Str) (D:Ends):Ends:={ nx:=fun _ H=>D.nx (N.map fun _=>none) H,rt:=D.rt,bk:=fun _ H=>D.bk (N.map fun _=>none) H,ct:=fun _ H=>D.ct (N.map fun _=>none) H }
noncomputable def tTryG (C:CT) (R:XK) (N:List Str) (i:Nat) (tb:TS) (th:Addr→TS):TS:=fun D σ H=>tb D σ H∧∀ (ea:Addr) (oe:Obj) (vs:Array Value) (cls:Value) (σ':St) (H':Hp),R cls none H'→H' ea=none→oe.cls=cls→oe.dict=none →
  oe.data = .fields vs→C H' vs→σ'.length=N.length→th ea (fall N D) (σ'.set i (some (.ref ea))) (upd H' ea (excO ea oe))
noncomputable abbrev tTry:=tTryG C0
theorem ps_tryC {C:CT} [ct:CtOk C] {X:Cx} {x n:Str} {i:Nat} {c:Addr} {R:XK} {tb:TS} {th:Addr→TS} {body suite:List Stmt} {b₀:Stmt} {np hpos pos:Pos} (hs:X.stack=X.env::X.outer) (hf:X.env.frame=some X.env.locals) (hg:Gl X x) (hm:X.mg x=some (.ref c))
    (hR:∀ cls o H,R cls o H→PySem.W.exmOne X.K cls (.ref c)=some true) (hN:X.N.Nodup) (hi:X.N[i]? = some n) (hn:X.env.scope.names.lookup n=some .local)
    (hb:∀ pn,PSs (X.tr pn (tryG C X pn R)) body tb) (hh:∀ pn ea E,PSs (X.hdl pn ea E) (b₀ :: suite) (th ea)) (hdb:(x==("__debug__":Str))=false:=by decide) :
    PS X (.Try body [.ExceptHandler (some (.Name x np)) (some n) (b₀ :: suite) hpos] [] [] pos) (tTryG C R X.N i tb th):=by
  intro pins s σ H D I h
  obtain⟨h1,h2⟩:=h
  have ok:=I.ok
  have cls0:(X.env.scope.kind == .class || (X.env.scope.kind == .module&&X.env.locals != X.env.globals))=false:=by rw[ok.kind];rfl
  refine wpAny_Try_except (wpAny_mono (hb (X.pn++pins) [] s σ H D I.tr h1) (fun f s1 q=>?_) fun e s1 q=>?_)
  · cases f with
    | next =>
      obtain⟨σ',H',I',q⟩:=q
      exact wpAny_execs_nil ⟨σ',H',I'.ofTr ok,q⟩
    | brk=>obtain⟨σ',H',I',q⟩:=q;exact⟨σ',H',I'.ofTr ok,q⟩
    | cont=>obtain⟨σ',H',I',q⟩:=q;exact⟨σ',H',I'.ofTr ok,q⟩
    | ret u=>obtain⟨v,σ',H',I',r,q⟩:=q;exact⟨v,σ',H',I'.ofTr ok,r,q⟩
  · obtain⟨ea,cls,σ1,H1,rfl,I1,F1,r1⟩:=q
    refine note_ok (X:=X.tr (X.pn++pins) fun _ _=>True) I1 F1 hs hf I1.ok.frames fun s2 I2 F2=>?_
    refine flight_ok I2 F2 fun s3 I3 F3=>?_
    have J3:Inv (X.hdl (X.pn++pins) ea fun _ _=>True) [] σ1 H1 s3:=I3.toHdl ok
    obtain⟨_,oe3,_,he3,hc3,_⟩:=id F3
    refine wpAny_handleBy_cons (codeAny_handlers_test (ld_glob J3 hg hm ?_ hdb)) (by intro q;cases q)
    have LT:PySem.W.Looks (model X.prog X.w) s3.heap (typeOf (.ref ea)) cls:=by
      rw[← hc3.1]
      exact (PySem.W.Looks.ld he3).andThen .now
    refine (PySem.W.exm_one J3.kIn LT (hR cls none H1 r1)).here ?_
    refine codeAny_handlers_suite_as ?_
    refine flight_ok J3 F3.toHdl fun s4 J4 F4=>?_
    obtain⟨f4,oe,vs,he,hc,hd,h2',_⟩:=F4
    have J5:=J4.hold f4 he
    refine store_ok (X:=X.hdl (X.pn++pins) ea fun _ _=>True) J5 hN hi (.inl hn) (v:=.ref ea) rfl (fun s6 J6=>?_) (.inr hn)
    have len:σ1.length=X.N.length:=I1.len
    have J6':∀ E,Inv (X.hdl (X.pn++pins) ea E) [] (σ1.set i (some (.ref ea))) (upd H1 ea (excO ea oe)) s6:=fun E=>⟨ok.hdl,J6.os,J6.bare,J6.base,J6.loc,J6.cell,J6.free,J6.freeC,J6.pin,J6.hok,J6.len⟩
    refine wpAny_mono (hh (X.pn++pins) ea _ [] s6 _ _ (fall X.N D) (J6' _) (h2 ea oe vs cls σ1 H1 r1 f4.1 hc.1 hc.2 hd h2' len)) (fun f s7 q=>?_) fun _ _ z=>z
    have go:∀ {σ7:St} {H7:Hp} {E7:Value→Shared→Prop},Inv (X.hdl (X.pn++pins) ea E7) [] σ7 H7 s7→(∀ s8,Inv X pins (X.N.map fun _=>none) H7 s8→SP X pins D f s8) →
        wpAny (model X.prog X.w) X.A (do bindName X.env n .none;unbindBehindTheSuite X.env n hpos) (fun _ s8=>SP X pins D f s8) X.xe s7:=fun {σ7 H7 E7} J k=>by
      obtain⟨m,hns,_⟩:=J.loc
      exact wpAny_nameGoes hn hns cls0 fun h' m' hn' hs'=>k _ ((J.ofHdl ok).relocal hn' hs')
    cases f with
    | next=>obtain⟨σ',H',I',q⟩:=q;exact go I' fun s8 I8=>⟨_,_,I8,q⟩
    | brk=>obtain⟨σ',H',I',q⟩:=q;exact go I' fun s8 I8=>⟨_,_,I8,q⟩
    | cont=>obtain⟨σ',H',I',q⟩:=q;exact go I' fun s8 I8=>⟨_,_,I8,q⟩
    | ret u=>obtain⟨v,σ',H',I',r,q⟩:=q;exact go I' fun s8 I8=>⟨v,_,_,I8,r,q⟩
theorem ps_try {X:Cx} {x n:Str} {i:Nat} {c:Addr} {R:XK} {tb:TS} {th:Addr→TS} {body suite:List Stmt} {b₀:Stmt} {np hpos pos:Pos} (hs:X.stack=X.env::X.outer) (hf:X.env.frame=some X.env.locals) (hg:Gl X x) (hm:X.mg x=some (.ref c))
    (hR:∀ cls o H,R cls o H→PySem.W.exmOne X.K cls (.ref c)=some true) (hN:X.N.Nodup) (hi:X.N[i]? = some n) (hn:X.env.scope.names.lookup n=some .local)
    (hb:∀ pn,PSs (X.tr pn (tryE X pn R)) body tb) (hh:∀ pn ea E,PSs (X.hdl pn ea E) (b₀ :: suite) (th ea)) (hdb:(x==("__debug__":Str))=false:=by decide) :
    PS X (.Try body [.ExceptHandler (some (.Name x np)) (some n) (b₀ :: suite) hpos] [] [] pos) (tTry R X.N i tb th):=ps_tryC hs hf hg hm hR hN hi hn hb hh hdb
noncomputable def CtxH (h:Heap) (vs:Array Value):Prop:=vs[2]? = some .none∨∃ eb ob ws,vs[2]? = some (.ref eb)∧h.get? eb=some ob∧ob.data = .fields ws∧ws[2]? = some .none
noncomputable def Quiet (A:Around) (h:Heap):Prop:=A.handled=none∨∃ ea oe vs,A.handled=some (.ref ea)∧h.get? ea=some oe∧oe.data = .fields vs∧CtxH h vs
noncomputable def Hnd (A:Around) (h:Heap) (b:Addr):Prop:=A.handled=some (.ref b)∨∃ ea oe vs,A.handled=some (.ref ea)∧h.get? ea=some oe∧oe.data = .fields vs∧vs[2]? = some (.ref b)
section
variable {prog:Program} {w:World} {A:Around} {E:Value→Shared→Prop} {s:Shared}
end
noncomputable def HdR (A:Around) (H:Hp):Prop:=A.handled=none∨∃ ea oe vs u,A.handled=some (.ref ea)∧H ea=some (.frz oe u)∧oe.data = .fields vs∧CtxR H vs
section
variable {X:Cx} {pins:List (Addr × Obj)} {σ:St} {H:Hp} {s:Shared}
end
noncomputable def cxComp (X:Cx) (Nc:List Str) (scope:Scope) (cl:List (Str × Addr)) (C it:Addr) (s:Shared) (H:Hp):Cx :=
  { X with N:=Nc,s₀:=s,H₀:=H,env:=compEnvC scope cl C X.env,outer:=X.stack,ex:=[it],fn:=fun _=>false,pn:=[],xe:=fun _ _=>False }
noncomputable def PIf (X:Cx) (ifs:List Expr) (t:TT):Prop :=
  ∀ (pins:List (Addr × Obj)) (s:Shared) (σ:St) (H:Hp) (Q:Bool→Hp→Prop),Inv X pins σ H s→t σ H Q →
    wpAny (model X.prog X.w) X.A (forIn ifs true fun c r=>if r=true then do let ok ← isTrue c X.env (eval c X.env);pure (ForInStep.yield ok) else pure (ForInStep.yield r)) (TP X pins σ Q) X.xe s
noncomputable def tNoIf:TT:=fun _ H Q=>Q true H
theorem pif_nil {X:Cx}:PIf X [] tNoIf:=fun _ _ _ H _ I h=>wpAny_tests_nil ⟨H,I,h⟩
theorem comp_loop {prog:Program} {w:World} {A:Around} {R:Result→Shared→Prop} {s:Shared} {elt tgt iter:Expr} {ifs:List Expr} {scope:Scope} {pos:Pos} {it acc:Value} {env:Env} (J:Nat→Shared→Prop)
    (turn:∀ n s,J n s→wpAny (model prog w) A (pyNext it) (fun r s1=>match r with
      | none=>R (.ok .next) s1
      | some v=>wpAny (model prog w) A (letOwnedTupleGo tgt it v) (fun _ s2=>wpAny (model prog w) A (assign tgt env v) (fun _ s3 =>
          wpAny (model prog w) A (forIn ifs true fun c r=>if r=true then do let ok ← isTrue c env (eval c env);pure (ForInStep.yield ok) else pure (ForInStep.yield r)) (fun ok s4 =>
            if ok=true then wpAny (model prog w) A (eval elt env) (fun x s5=>wpAny (model prog w) A (call (.builtin "list.append") [acc,x]) (fun _ s6=>∃ m,m<n∧J m s6) (fun _ _=>False) s5) (fun _ _=>False) s4
            else ∃ m,m<n∧J m s4) (fun _ _=>False) s3) (fun _ _=>False) s2) (fun _ _=>False) s1) (fun _ _=>False) s)
    (n:Nat) (h:J n s):codeAny (model prog w) A (.compLoop (.ListComp elt [⟨tgt,iter,ifs,0⟩] scope pos) 0 it acc env) R s:=by
  refine codeAny_loop rfl J (fun n s hJ=>?_) n h
  show wpAny _ A ((compTurn (.ListComp elt [⟨tgt,iter,ifs,0⟩] scope pos) 0 it acc env).onRaise (fun x=>do noteFrame x env;theTreesLotGoes x)) _ _ s
  refine wpAny_noted (wpAny_mono (E:=fun _ _=>False) ?_ (fun _ _ z=>z) fun _ _ z=>z.elim)
  rw[compTurn_list]
  refine wpAny_bind (wpAny_standAt (wpAny_bind (thn (turn n s hJ) fun r s1 h1=>?_)))
  cases r with
  | none=>exact wpAny_pure h1
  | some v =>
    refine wpAny_bind (thn h1 fun _ s2 h2=>wpAny_bind (thn h2 fun _ s3 h3=>wpAny_bind (thn h3 fun ok s4 h4=>?_)))
    cases ok with
    | false=>exact wpAny_pure ⟨rfl,h4⟩
    | true=>exact wpAny_bind (wpAny_bind (thn h4 fun x s5 h5=>wpAny_bind (thn h5 fun _ s6 h6=>wpAny_pure (wpAny_pure ⟨rfl,h6⟩))))
noncomputable def capt (src:List (Option Nat)) (σ:St):St:=src.map fun o=>o.bind fun j=>(σ[j]?).join
noncomputable def tTurns (K:PySem.W.Frag) (a D:Addr) (xs:List V) (g:TG) (tt:TT) (te:TE) (fin:List V→Hp→Prop) (σ:St) (H:Hp):Prop :=
  ∃ W:Nat→List V→St→Hp→Prop,W 0 [] σ H∧(∀ i ys σ H,W i ys σ H→SqL K H a xs∧H D=some (.lst ys)) ∧
    (∀ i x ys σ H,xs[i]? = some x→W i ys σ H→g x σ H fun σ1 H1=>tt σ1 H1 fun b H2=>if b=true then te σ1 H2 fun y H3=>H3 D=some (.lst ys)∧ys.length<sizeLine∧W (i+1) (ys++[y]) σ1 (upd H3 D (.lst (ys++[y]))) else W (i+1) ys σ1 H2) ∧
    ∀ ys σ H,W xs.length ys σ H→fin ys H
noncomputable def tComp (K:PySem.W.Frag) (src:List (Option Nat)) (tl:TE) (g:TG) (tt:TT) (te:TE):TE:=fun σ H Q=>tl σ H fun x H1=>∃ a xs,x = .ref a∧SqL K H1 a xs ∧
  ∀ D,H1 D=none→tTurns K a D xs g tt te (fun ys H2=>Q (.ref D) H2) (capt src σ) (upd H1 D (.lst []))
section
variable {X:Cx} {elt iter tgt:Expr} {ifs:List Expr} {scope:Scope} {cl:List (Str × Addr)} {Nc:List Str} {src:List (Option Nat)} {g:TG} {tt:TT} {te:TE}
structure CompOk (X:Cx) (Nc:List Str) (scope:Scope) (cl:List (Str × Addr)) (src:List (Option Nat)):Prop where
  clos:closureFor scope X.env=pure cl
  kind:scope.kind = .function
  cell:∀ y∈scope.names,y.2≠.cell
  names:∀ y∈scope.names,y.2 = .local→scope.names.lookup y.1=some .local
  sub:∀ x c,cl.lookup x=some c→X.env.cells.lookup x=some c
  has:∀ x,((relabel scope X.env).names.lookup x=some .cell∨(relabel scope X.env).names.lookup x=some .free)→∃ c,cl.lookup x=some c
  frm:∀ (i j:Nat),src[i]? = some (some j)→∃ x,Nc[i]? = some x∧X.N[j]? = some x∧X.env.scope.names.lookup x=some .cell∧(relabel scope X.env).names.lookup x=some .cell
  len:src.length=Nc.length
end
structure RoomQ (k:Nat) (A:Around):Prop where
  dp:A.depth+3*k+5<recursionLimit
  un:A.units+16*k+200<cLine
theorem RoomQ.mono {j k:Nat} {A:Around} (r:RoomQ k A) (h:j≤k):RoomQ j A:=⟨by have:=r.dp;omega,by have:=r.un;omega⟩
structure FnOkQ (P:Program) (w:World) (K:PySem.W.Frag) (mg:Str→Option Value) (base:Heap) (k:Nat) (f:Addr) (fd:FuncData) (ps:List Str) (sp:Sp):Prop where
  len:∀ vs H Q E,sp vs H Q E→vs.length=ps.length
  run:∀ (A:Around) (outer:List Env) (s:Shared) (H:Hp) (args:Args) (us:List Value) (vs:List V) (Q:VK),RoomQ k A→HdR A H→Env0 P w K mg base A outer s H→BindsTo s fd args (ps.zip us)→Vals vs us→sp vs H Q E0 →
    codeAny (model P w) A (.call (.ref f) args) (CR CX0 outer P w H s Q E0) s
noncomputable def cxQ (P:Program) (w:World) (K:PySem.W.Frag) (mg:Str→Option Value) (base:Heap) (N:List Str) (qual:Str) (scope:Scope) (f:Addr) (cd:Value) (A:Around) (outer:List Env) (s:Shared) (H:Hp):Cx :=
  { cxOf CX0 P w K mg base N qual scope f cd A outer s H E0 with calm:=false,xe:=fun _ _=>False }
section
variable {P:Program} {w:World} {K:PySem.W.Frag} {mg:Str→Option Value} {base:Heap}
theorem Fun.okQ {x qual:Str} {st:Stmt} {f:Addr} {fd:FuncData} {N ps:List Str} {k:Nat} {sp:Sp} (F:Fun K x qual st f fd) (S:FnScope N ps (defScope st)) (len:∀ vs H Q E,sp vs H Q E→vs.length=ps.length)
    (hbody:∀ (cdv:Value) (A:Around) (outer:List Env) (s:Shared) (H:Hp) (vs:List V) (Q:VK),RoomQ k (A.deeper (envOfC qual (defScope st) s.heap.objs.size f cdv))→HdR (A.deeper (envOfC qual (defScope st) s.heap.objs.size f cdv)) H→sp vs H Q E0 →
      ∃ t,PSs (cxQ P w K mg base N qual (defScope st) f cdv A outer s H) (defBody st) t∧t { nx:=fun _ H'=>Q .non H',rt:=Q } (start N vs) H):FnOkQ P w K mg base (k+1) f fd ps sp:=by
  obtain⟨oc,od,kV,doc,pm,an,cdv,ct,osl,rfl,lk,hcd⟩:=F.ex
  refine⟨len,fun A outer s H args us vs Q hr hh e0 hb r hsp=>?_⟩
  have hl:=len _ _ _ _ hsp
  have KX:K.In s.heap:=e0.mod.kin.keeps fun b o e=>(e0.bs b o e).1
  have lim:s.heap.NoLimit:=e0.mod.nolimit.keeps fun b o e=>(e0.bs b o e).1
  have dpt:A.depth<recursionLimit:=by have:=hr.dp;omega
  have kinds:∀ y∈ps.zip us,(defScope st).names.lookup y.1=some .local∨((defScope st).names.lookup y.1=some .cell∧((cellsFrom (s.heap.objs.size+1) (defScope st).names []).lookup y.1).isSome=true):=fun⟨n,v⟩ hy=>by
    rcases S.par n (List.of_mem_zip hy).1 with q | q
    · exact .inl q
    · exact .inr ⟨q,PySem.W.cellsFrom_some _ _ _ (.inl q)⟩
  refine codeAny_call_function dpt (KX _ _ lk) rfl S.co S.gen rfl (PySem.W.codeRec_of KX hcd) (hb _ _ _ _ ?_)
  refine wpAny_newFunctionEnv_cells S.kind kinds fun env he s1 x=>?_
  subst he
  refine⟨lim.keeps x.toInCall.keep,codeAny_func ?_⟩
  have rq:RoomQ k (A.deeper (envOfC qual (defScope st) s.heap.objs.size f cdv)):=⟨by have:=hr.dp;show A.depth+1+3*k+5<_;omega,by have:=hr.un;show A.units+3+16*k+200<_;omega⟩
  obtain⟨t,ht,hq⟩:=hbody cdv A outer s H vs Q rq hh hsp
  have J:=inv_start (CX:=CX0) (E:=E0) (A:={ A with handled:=none }) S rfl ⟨e0.frames,e0.mod,e0.bs,e0.bsz,e0.funs,e0.frf,e0.hok,e0.bare⟩ hl r x
  have I:Inv (cxQ P w K mg base N qual (defScope st) f cdv A outer s H) [] (start N vs) H s1 :=
    ⟨⟨J.ok.mod,J.ok.kind,J.ok.glob,J.ok.blt,J.ok.above,J.ok.inj,J.ok.has,J.ok.cab,(fun z=>nomatch z),Around.frames_deeper e0.frames,J.ok.stk,J.ok.exf,J.ok.bs,J.ok.bsz,J.ok.noex,J.ok.exfs,J.ok.funs,J.ok.frf⟩,J.os,J.bare,J.base,J.loc,J.cell,J.free,J.freeC,J.pin,J.hok,J.len⟩
  refine wpAny_mono (ht [] s1 (start N vs) H _ I hq) (fun fl s' hs=>?_) fun e s' hs=>False.elim hs
  have fin:∀ {σ':St} {H':Hp} {v:V} {u:Value},Inv (cxQ P w K mg base N qual (defScope st) f cdv A outer s H) [] σ' H' s'→RelV v u→Q v H'→CE outer P w H s Q u s' :=
    fun {σ' H' v u} J rv q=>⟨v,H',J.os,J.bare,J.base,J.hok,rv,q⟩
  cases fl with
  | ret u =>
    obtain⟨v,σ',H',J,rv,q⟩:=hs
    exact fin J rv q
  | next =>
    obtain⟨σ',H',J,q⟩:=hs
    exact fin (v:=V.non) (u:=Value.none) J rfl q
  | brk=>obtain⟨_,_,_,z⟩:=hs;exact False.elim z
  | cont=>obtain⟨_,_,_,z⟩:=hs;exact False.elim z
theorem Fun.okE {x qual:Str} {st:Stmt} {f:Addr} {fd:FuncData} {N ps:List Str} {k:Nat} {sp:Sp} (F:Fun K x qual st f fd) (S:FnScope N ps (defScope st)) (len:∀ vs H Q E,sp vs H Q E→vs.length=ps.length)
    (hbody:∀ (cdv:Value) (A:Around) (outer:List Env) (s:Shared) (H:Hp) (vs:List V) (Q:VK) (E:XK),Room k (A.deeper (envOfC qual (defScope st) s.heap.objs.size f cdv))→sp vs H Q E →
      ∃ t,PSs (cxOf (CXE P w) P w K mg base N qual (defScope st) f cdv A outer s H E) (defBody st) t∧t { nx:=fun _ H'=>Q .non H',rt:=Q } (start N vs) H):FnOk P w K mg base (CXE P w) (k+1) f fd ps sp:=by
  obtain⟨oc,od,kV,doc,pm,an,cdv,ct,osl,rfl,lk,hcd⟩:=F.ex
  exact fn_of lk hcd S len fun A outer s H vs Q E hr hsp=>hbody cdv A outer s H vs Q E hr hsp
theorem passE {N:List Str} {qual:Str} {scope:Scope} {f:Addr} {cd:Value} {A:Around} {outer:List Env} {s:Shared} {H:Hp} {E:XK}:Passes (CXE P w) (cxOf (CXE P w) P w K mg base N qual scope f cd A outer s H E) E:=throws_pass rfl rfl throws_fn
end
theorem passT {X:Cx} {pn:List (Addr × Obj)} {R:XK}:Passes (CXE X.prog X.w) (X.tr pn (tryE X pn R)) R:=throws_pass rfl rfl throws_try
section
variable {X:Cx} {k:Nat} {f:Addr} {fd:FuncData} {ps:List Str} {sp:Sp} {x:Str} {p pos:Pos} {e:Expr} {es:List Expr} {t:TA}
noncomputable def tCallQ (A:Around) (sp:Sp) (t:TA):TE:=fun σ H Q=>t σ H fun vs H1=>HdR A H1∧sp vs H1 Q E0
theorem pe_callQ (F:FnOkQ X.prog X.w X.K X.mg X.base k f fd ps sp) (hr:RoomQ k X.A) (hg:Gl X x) (hm:X.mg x=some (.ref f)) (hk:PySem.W.keepIn X.K (.ref f)=true) (hb:Binds X.K fd ps []) (ha:PA X (e::es) t)
    (hdb:(x==("__debug__":Str))=false:=by decide) (he:starEach (e::es) X.env=(false,eval e X.env)::starEach es X.env:=by exact starEach_cons rfl) (hpl:(backTo pos (starEach es X.env)).any (·.1)=false:=by exact noStars rfl) :
    PE X (.Call (.Name x p) (e::es) [] pos) (tCallQ X.A sp t):=by
  intro pins s σ H Q I h
  refine wpAny_Call_Name_kw (ld_glob I hg hm ?_ hdb)
  refine PySem.W.callWith_K (h₀:=X.base) I.ok.mod.kin hk (thn (ha pos pins s σ H _ I h) fun us s1 ⟨vs,H1,I1,r,hd,q⟩=>⟨I1.kIn,?_⟩) he hpl
  have hl:us.length=ps.length:=by rw[← r.length];exact F.len _ _ _ _ q
  have B:BindsTo s1 fd ⟨us,[]⟩ (ps.zip us):=by
    have z:=hb s1 us I1.kIn (by rw[List.append_nil];exact hl)
    rw[List.append_nil] at z
    exact z
  refine wpAny_call (codeAny_mono (F.run X.A X.stack s1 H1 ⟨us,[]⟩ us vs Q hr hd I1.env0 B r q) fun r s' hq=>?_)
  cases r with
  | error e=>exact False.elim hq
  | ok fl =>
    cases fl with
    | ret u=>exact I1.after hq
    | next=>exact False.elim hq
    | brk=>exact False.elim hq
    | cont=>exact False.elim hq
end
noncomputable def clsV:V→Option Value
  | .ref a=>some (.ref a)
  | .ty n=>some (.type n)
  | _=>none
noncomputable def TyX (K:PySem.W.Frag) (H:Hp) (x:V) (t:Value):Prop :=
  TyOf K H x t∨∃ a oe C vs,x = .ref a∧t = .ref C∧H a=some (excO a oe)∧oe.cls = .ref C∧oe.dict=none∧oe.data = .fields vs∧XK.ExcCls K C
section
variable {X:Cx}
theorem call_isinst:CallR X (.builtin "isinstance") (fun xs H Q=>∃ x c cv t b,xs=[x,c]∧clsV c=some cv∧TyX X.K H x t∧PySem.W.kitOne X.K t cv=some b∧Q (.bl b) H):=by
  intro pins s σ H xs us Q I r h
  obtain⟨x,c,cv,t,b,rfl,hc,ty,hk,q⟩:=h
  obtain⟨u,v,rfl,ru,rv⟩:=vals2 r
  obtain rfl:v=cv:=by
    cases c with
    | ref a=>cases hc;exact rv
    | ty n=>cases hc;exact rv
    | _=>cases hc
  rcases ty with ty | ⟨a,oe,C,vs,rfl,rfl,ha,e1,e2,e3,ec⟩
  · exact isinst_ok I ru ty hk fun tk=>⟨.bl b,H,I.tok tk,rfl,q⟩
  · cases ru
    have g:=(I.hok a _ ha).1
    have inst:PySem.W.InstAt s.heap a oe C none:=⟨g,e1,by unfold PySem.W.notCls;rw[e3],by rw[e2];trivial⟩
    exact PySem.W.kia_one (XK.kitx_exc (ox:=oe) ec) I.kIn inst hk (fun z=>nomatch z) fun tk=>⟨.bl b,H,I.tok tk,rfl,q⟩
noncomputable def eqVs (xs ys:List V):Bool:=xs.length==ys.length&&(List.range xs.length).all fun j=>eqV (xs.getD j .non) (ys.getD j .non)
noncomputable def rEqL (K:PySem.W.Frag) (neg:Bool):R2:=fun x y H Q=>∃ a b xs ys,x = .ref a∧y = .ref b∧SqL K H a xs∧SqL K H b ys∧xs.all flatV=true∧ys.all flatV=true∧Q (.bl (if neg then !eqVs xs ys else eqVs xs ys)) H
end
noncomputable def Cal (P:Program) (w:World) (K:PySem.W.Frag) (mg:Str→Option Value) (base:Heap) (CX:CXT) (k:Nat) (x:Str) (ps:List Str) (sp:Sp):Prop :=
  ∃ f fd,mg x=some (.ref f)∧PySem.W.keepIn K (.ref f)=true∧Binds K fd ps []∧FnOk P w K mg base CX k f fd ps sp
noncomputable def CalQ (P:Program) (w:World) (K:PySem.W.Frag) (mg:Str→Option Value) (base:Heap) (k:Nat) (x:Str) (ps:List Str) (sp:Sp):Prop :=
  ∃ f fd,mg x=some (.ref f)∧PySem.W.keepIn K (.ref f)=true∧Binds K fd ps []∧FnOkQ P w K mg base k f fd ps sp
section
variable {X:Cx} {CX:CXT} {j k:Nat} {ps:List Str} {sp:Sp} {x:Str} {p pos:Pos} {e:Expr} {es:List Expr} {t:TA} {E:XK}
theorem pe_cal (C:Cal X.prog X.w X.K X.mg X.base CX k x ps sp) (hr:Room j X.A) (hj:k≤j) (hx:Passes CX X E) (ha:PA X (e::es) t) (hg:Gl X x:=by rfl)
    (hdb:(x==("__debug__":Str))=false:=by decide) (he:starEach (e::es) X.env=(false,eval e X.env)::starEach es X.env:=by exact starEach_cons rfl) (hpl:(backTo pos (starEach es X.env)).any (·.1)=false:=by exact noStars rfl) :
    PE X (.Call (.Name x p) (e::es) [] pos) (fun σ H Q=>t σ H fun vs H1=>sp vs H1 Q E):=by
  obtain⟨f,fd,hm,hk,hb,F⟩:=C
  intro pins s σ H Q I h
  refine pe_call (dvs:=[]) F (hr.mono hj) hg hm hk hb .nil hx ha hdb he hpl pins s σ H Q I ?_
  unfold tCall
  simp only[List.append_nil]
  exact h
theorem pe_calQ (C:CalQ X.prog X.w X.K X.mg X.base k x ps sp) (hr:RoomQ j X.A) (hj:k≤j) (ha:PA X (e::es) t) (hg:Gl X x:=by rfl)
    (hdb:(x==("__debug__":Str))=false:=by decide) (he:starEach (e::es) X.env=(false,eval e X.env)::starEach es X.env:=by exact starEach_cons rfl) (hpl:(backTo pos (starEach es X.env)).any (·.1)=false:=by exact noStars rfl) :
    PE X (.Call (.Name x p) (e::es) [] pos) (tCallQ X.A sp t):=by
  obtain⟨f,fd,hm,hk,hb,F⟩:=C
  exact pe_callQ F (hr.mono hj) hg hm hk hb ha hdb he hpl
end
theorem boot_isinstance:bootBuiltins "isinstance" = some (.builtin "isinstance"):=by kernel_rfl
theorem boot_int:bootBuiltins "int" = some (.type "int"):=by kernel_rfl
theorem boot_bool:bootBuiltins "bool" = some (.type "bool"):=by kernel_rfl
theorem boot_str:bootBuiltins "str" = some (.type "str"):=by kernel_rfl
theorem boot_list:bootBuiltins "list" = some (.type "list"):=by kernel_rfl
theorem boot_tuple:bootBuiltins "tuple" = some (.type "tuple"):=by kernel_rfl
theorem boot_VE:bootBuiltins "ValueError" = some (.type "ValueError"):=by kernel_rfl
noncomputable def OfT (K:PySem.W.Frag) (H:Hp) (v:V) (T:String):Prop:=TyOf K H v (.type T)
noncomputable def numT:List (String × Bool × Bool × Bool × Bool):=[("NoneType",false,false,false,false),("bool",true,true,false,false),("int",true,false,false,false),("str",false,false,true,false),("list",false,false,false,true),("tuple",false,false,false,false),("dict",false,false,false,false)]
theorem kit_tab {K:PySem.W.Frag}:∀ r∈numT,PySem.W.kitOne K (.type r.1) (.type "int")=some r.2.1∧PySem.W.kitOne K (.type r.1) (.type "bool")=some r.2.2.1∧PySem.W.kitOne K (.type r.1) (.type "str")=some r.2.2.2.1∧PySem.W.kitOne K (.type r.1) (.type "list")=some r.2.2.2.2:=by
  intro r hr
  simp only[numT,List.mem_cons,List.not_mem_nil,or_false] at hr
  rcases hr with rfl | rfl | rfl | rfl | rfl | rfl | rfl <;> exact⟨by rfl,by rfl,by rfl,by rfl⟩
noncomputable def NoNum (K:PySem.W.Frag) (H:Hp) (v:V):Prop:=∃ r∈numT,TyOf K H v (.type r.1)∧r.1≠"int"
noncomputable def NoStr (K:PySem.W.Frag) (H:Hp) (v:V):Prop:=∃ r∈numT,TyOf K H v (.type r.1)∧r.1≠"str"
section
variable {κ:Type} [DecidableEq κ]
noncomputable def valV (kvs:List (κ × V)) (k:κ):Option V:=(kvs.find? fun kv=>decide (kv.1=k)).map (·.2)
noncomputable def putK (kvs:List (κ × V)) (k:κ) (v:V):List (κ × V) :=
  if (kvs.any fun kv=>decide (kv.1=k))=true then kvs.map (fun kv=>if kv.1=k then (kv.1,v) else kv) else kvs++[(k,v)]
noncomputable def dropK (kvs:List (κ × V)) (k:κ):List (κ × V):=kvs.filter fun kv=>decide (kv.1≠k)
end
noncomputable abbrev KT (H:Hp):List (List Key × V)→List (List Key × Addr × Value)→Prop:=Paired fun p q=>p.1=q.1∧H q.2.1=some (.tup (p.1.map kV))∧RelV p.2 q.2.2
section
variable {P:Program} {w:World} {H:Hp} {h:Heap} {a:Addr}
end
noncomputable def DGet (H:Hp) (a:Addr) (y:V) (r:Option V):Prop :=
  (∃ kvs k,Rd H a (.dK kvs)∧y=kV k∧r=valV kvs k)∨∃ kvs k b,Rd H a (.dT kvs)∧y = .ref b∧H b=some (.tup (k.map kV))∧r=valV kvs k
noncomputable def DPut (H:Hp) (a:Addr) (y v:V) (H':Hp):Prop :=
  (∃ kvs k,H a=some (.dK kvs)∧y=kV k∧kvs.length<sizeLine∧H'=upd H a (.dK (putK kvs k v))) ∨
  ∃ kvs k b,H a=some (.dT kvs)∧y = .ref b∧H b=some (.tup (k.map kV))∧kvs.length<sizeLine∧H'=upd H a (.dT (putK kvs k v))
section
variable {X:Cx} {pins:List (Addr × Obj)} {σ:St} {H:Hp} {s:Shared} {a:Addr} {y v:V} {u r:Value} {o:Option V} {A:Around} {E:Value→Shared→Prop}
theorem Inv.big (I:Inv X pins σ H s):sysModules<s.heap.objs.size:=by
  have h:mainGlobals<s.heap.objs.size:=(I.mod.glob.keeps I.bk).lt
  exact Nat.lt_trans (by decide) h
end
section
variable {X:Cx} {pins:List (Addr × Obj)} {σ:St} {H:Hp} {s:Shared} {a:Addr} {kvs:List (Key × V)} {k:Key} {u:Value} {A:Around} {E:Value→Shared→Prop}
end
noncomputable def NoSl (i:Expr):Prop:=∀ ov iv,subscripted i false ov iv=operate [ov,iv] (getItem ov iv)
noncomputable def tDGet (td ty:TE):TE:=fun σ H Q=>td σ H fun x H1=>ty σ H1 fun y H2=>∃ a v,x = .ref a∧DGet H2 a y (some v)∧Q v H2
noncomputable def tDIn (ty td:TE):TE:=fun σ H Q=>ty σ H fun y H1=>td σ H1 fun x H2=>∃ a o,x = .ref a∧DGet H2 a y o∧Q (.bl o.isSome) H2
noncomputable def tDNotIn (ty td:TE):TE:=fun σ H Q=>ty σ H fun y H1=>td σ H1 fun x H2=>∃ a o,x = .ref a∧DGet H2 a y o∧Q (.bl (!o.isSome)) H2
noncomputable def sDPut (td ty tv:TE):TS:=fun D σ H=>tv σ H fun v H1=>td σ H1 fun x H2=>ty σ H2 fun y H3=>∃ a H4,x = .ref a∧DPut H3 a y v H4∧D.nx σ H4
noncomputable def sDAug (td ty tv:TE) (rd:V→V→Hp→VK→Prop):TS:=fun D σ H=>td σ H fun x H1=>ty σ H1 fun y H2=>∃ a v,x = .ref a∧DGet H2 a y (some v) ∧
  tv σ H2 fun y2 H3=>rd v y2 H3 fun z H4=>∃ H5,DPut H4 a y z H5∧D.nx σ H5
noncomputable def sDDel (td ty:TE):TS:=fun D σ H=>td σ H fun x H1=>ty σ H1 fun y H2=>∃ a kvs k,x = .ref a∧H2 a=some (.dK kvs)∧y=kV k∧(valV kvs k).isSome=true∧D.nx σ (upd H2 a (.dK (dropK kvs k)))
section
variable {X:Cx} {o i e value:Expr} {pos pos' tpos:Pos} {td ty tv:TE}
end
theorem dk_empty {P:Program} {w:World} {H:Hp} (h:Heap) (hb:sysModules<h.objs.size):ObjOk P w H (h.push { cls:=.type "dict",data:=.dict #[] }) h.objs.size (.dK []) :=
  ⟨Nat.zero_le _,beq_eq_false_iff_ne.mpr (Ne.symm (Nat.ne_of_lt hb)),[],.nil,Heap.DictOf.new h⟩
noncomputable def tDNewK:TE:=fun _ H Q=>∀ p,H p=none→Q (.ref p) (upd H p (.dK []))
noncomputable def tDNewT:TE:=fun _ H Q=>∀ p,H p=none→Q (.ref p) (upd H p (.dT []))
section
variable {X:Cx} {pos:Pos}
theorem pe_dnewK:PE X (.Dict [] [] pos) tDNewK:=fun pins s σ H Q I h =>
  wpAny_Dict_empty ⟨.ref s.heap.objs.size,_,I.laid (a:=s.heap.objs.size) (o:=.dK []) (t':=s.toks) (fun _ _ q=>Heap.get?_push_of_some _ q) (Nat.le_refl _) (dk_empty s.heap I.big),rfl,h _ (I.hok.fresh (Nat.le_refl _))⟩
end
noncomputable def tPairs:List (TE × TE)→St→Hp→(List (V × V)→Hp→Prop)→Prop
  | [],_,H,Q=>Q [] H
  | (tk,tv)::r,σ,H,Q=>tk σ H fun x H1=>tv σ H1 fun y H2=>tPairs r σ H2 fun ps H3=>Q ((x,y)::ps) H3
noncomputable abbrev VV:List (V × V)→List (Value × Value)→Prop:=Paired fun p q=>RelV p.1 q.1∧RelV p.2 q.2
noncomputable def PPs (X:Cx) (pos:Pos) (keys:List (Option Expr)) (values:List Expr) (trs:List (TE × TE)):Prop :=
  ∀ (pins:List (Addr × Obj)) (s:Shared) (σ:St) (H:Hp) (Q:List (V × V)→Hp→Prop),Inv X pins σ H s→tPairs trs σ H Q →
    wpAny (model X.prog X.w) X.A (evalPairs (pairTrees keys values X.env pos)) (fun vs s'=>∃ ps H',Inv X pins σ H' s'∧VV ps vs∧Q ps H') X.xe s
noncomputable def mergeK (kvs more:List (Key × V)):List (Key × V):=more.foldl (fun acc kv=>putK acc kv.1 kv.2) kvs
noncomputable def tDisp (trs:List (TE × TE)):TE:=fun σ H Q=>∀ p,H p=none→tPairs trs σ (upd H p (.dK [])) fun ps H2=>H2 p=some (.dK [])∧∃ kvs:List (Key × V),ps=kvs.map (fun kv=>(kV kv.1,kv.2))∧kvs.length≤15∧Q (.ref p) (upd H2 p (.dK (mergeK [] kvs)))
structure M1 (X:Cx) (o:Expr) (m:Str) (apos:Pos) (e:Expr) (cpos:Pos):Prop where
  base:attributeBase o m X.env (eval o X.env)=eval o X.env
  few:((backTo cpos (starEach [e] X.env)).all (fun x=>!x.1)&&(backToKw cpos (keywordEach [] X.env)).all (fun x=>x.1.isSome)
    && decide (([e]:List Expr).length+([]:List Keyword).length+(if ([]:List Keyword).isEmpty then 0 else 1)<30))=true
  line:(apos.endLine==cpos.line)=true
  trees:backTo cpos (starEach [e] X.env)=[(false,eval e X.env)]
structure M2 (X:Cx) (o:Expr) (m:Str) (apos:Pos) (e f:Expr) (cpos:Pos):Prop where
  base:attributeBase o m X.env (eval o X.env)=eval o X.env
  few:((backTo cpos (starEach [e,f] X.env)).all (fun x=>!x.1)&&(backToKw cpos (keywordEach [] X.env)).all (fun x=>x.1.isSome)
    && decide (([e,f]:List Expr).length+([]:List Keyword).length+(if ([]:List Keyword).isEmpty then 0 else 1)<30))=true
  line:(apos.endLine==cpos.line)=true
  trees:backTo cpos (starEach [e,f] X.env)=[(false,eval e X.env),(false,eval f X.env)]
noncomputable def IsD (H:Hp) (a:Addr):Prop:=(∃ kvs,Rd H a (.dK kvs))∨∃ kvs,Rd H a (.dT kvs)
section
variable {X:Cx} {pins:List (Addr × Obj)} {σ:St} {H:Hp} {s:Shared} {a:Addr} {y d:V} {u r:Value} {o:Option V} {A:Around} {E:Value→Shared→Prop}
end
noncomputable def tDGet1 (td ty:TE):TE:=fun σ H Q=>td σ H fun x H1=>∃ a,x = .ref a∧IsD H1 a∧ty σ H1 fun y H2=>∃ o,DGet H2 a y o∧Q (o.getD .non) H2
noncomputable def tDGet2 (td ty tx:TE):TE:=fun σ H Q=>td σ H fun x H1=>∃ a,x = .ref a∧IsD H1 a∧ty σ H1 fun y H2=>tx σ H2 fun z H3=>∃ o,DGet H3 a y o∧Q (o.getD z) H3
noncomputable def tDPop1 (td ty:TE):TE:=fun σ H Q=>td σ H fun x H1=>∃ a,x = .ref a∧IsD H1 a∧ty σ H1 fun y H2=>∃ kvs k v,H2 a=some (.dK kvs)∧y=kV k∧valV kvs k=some v∧Q v (upd H2 a (.dK (dropK kvs k)))
noncomputable def tDPop2 (td ty tx:TE):TE:=fun σ H Q=>td σ H fun x H1=>∃ a,x = .ref a∧IsD H1 a∧ty σ H1 fun y H2=>tx σ H2 fun z H3=>∃ kvs k,H3 a=some (.dK kvs)∧y=kV k ∧
  (∀ v,valV kvs k=some v→Q v (upd H3 a (.dK (dropK kvs k))))∧(valV kvs k=none→Q z H3)
section
variable {X:Cx} {o e f:Expr} {apos cpos:Pos} {td ty tx:TE}
end
section
variable {X:Cx} {pins:List (Addr × Obj)} {σ:St} {H:Hp} {s:Shared} {a:Addr} {kvs:List (Key × V)} {A:Around} {E:Value→Shared→Prop}
end
section
variable {X:Cx} {pins:List (Addr × Obj)} {σ:St} {H:Hp} {s:Shared} {a:Addr} {y:V} {u:Value} {A:Around} {E:Value→Shared→Prop}
end
section
variable {X:Cx}
end
section
variable {κ:Type} [DecidableEq κ]
end
theorem Same.upd {H:Hp} {p:Addr} {o:HO} (hp:H p=none):Same H (L2.upd H p o):=fun b u e=>by
  rw[upd_ne (ne_of_none e hp)]
  exact e
theorem Same.tup {K:PySem.W.Frag} {H H':Hp} {a:Addr} {xs:List V} (e:Same H H') (h:SqT K H a xs):SqT K H' a xs:=by
  rcases h with (h | ⟨o,h⟩) | h
  · exact .inl (.inl (e _ _ h))
  · exact .inl (.inr ⟨o,e _ _ h⟩)
  · exact .inr h
theorem TyOf.same {K:PySem.W.Frag} {H H':Hp} {v:V} {t:Value} (e:Same H H') (h:TyOf K H v t):TyOf K H' v t:=by
  cases h with
  | non=>exact .non
  | bl x=>exact .bl x
  | int i=>exact .int i
  | str x=>exact .str x
  | flt x=>exact .flt x
  | lst q=>exact .lst (e _ _ q)
  | frz q=>exact .frz (e _ _ q)
  | tup q=>exact .tup (e _ _ q)
  | dK q=>exact .dK (e _ _ q)
  | dT q=>exact .dT (e _ _ q)
  | ins q c1 c2 c3 c4 c5=>exact .ins (e _ _ q) c1 c2 c3 c4 c5
theorem NoNum.same {K:PySem.W.Frag} {H H':Hp} {v:V} (e:Same H H') (h:NoNum K H v):NoNum K H' v:=by
  obtain⟨r,h1,h2,h3⟩:=h
  exact⟨r,h1,h2.same e,h3⟩
theorem NoStr.same {K:PySem.W.Frag} {H H':Hp} {v:V} (e:Same H H') (h:NoStr K H v):NoStr K H' v:=by
  obtain⟨r,h1,h2,h3⟩:=h
  exact⟨r,h1,h2.same e,h3⟩
section
variable {K:PySem.W.Frag} {H:Hp}
theorem nn_none:NoNum K H .non:=⟨("NoneType",false,false,false,false),by decide,.non,by decide⟩
theorem nn_bl (b:Bool):NoNum K H (.bl b):=⟨("bool",true,true,false,false),by decide,.bl b,by decide⟩
theorem nn_str (x:Str):NoNum K H (.str x):=⟨("str",false,false,true,false),by decide,.str x,by decide⟩
theorem nn_lst {a:Addr} {xs:List V} (e:H a=some (.lst xs)):NoNum K H (.ref a):=⟨("list",false,false,false,true),by decide,.lst e,by decide⟩
theorem ns_none:NoStr K H .non:=⟨("NoneType",false,false,false,false),by decide,.non,by decide⟩
theorem ns_bl (b:Bool):NoStr K H (.bl b):=⟨("bool",true,true,false,false),by decide,.bl b,by decide⟩
theorem ns_int (i:Int):NoStr K H (.int i):=⟨("int",true,false,false,false),by decide,.int i,by decide⟩
theorem ns_lst {a:Addr} {xs:List V} (e:H a=some (.lst xs)):NoStr K H (.ref a):=⟨("list",false,false,false,true),by decide,.lst e,by decide⟩
theorem ns_tup {a:Addr} {xs:List V} (e:H a=some (.tup xs)):NoStr K H (.ref a):=⟨("tuple",false,false,false,false),by decide,.tup e,by decide⟩
theorem ns_dK {a:Addr} {kvs:List (Key × V)} (e:H a=some (.dK kvs)):NoStr K H (.ref a):=⟨("dict",false,false,false,false),by decide,.dK e,by decide⟩
end
noncomputable def isSl:Expr→Bool
  | .Slice _ _ _ _=>true
  | _=>false
theorem plain_ix {b:Expr} (h:isSl b=false):PlainIx b:=fun o i=>by
  cases b <;> first | rfl | cases h
theorem pe_at {X:Cx} {a b:Expr} {ta tb:TE} {pos:Pos} {r:R2} (hr:IxR X r) (ha:PE X a ta) (hb:PE X b tb) (hs:isSl b=false:=by rfl):PE X (.Subscript a b pos) (tOp r ta tb):=pe_ix hr ha hb (plain_ix hs)
theorem atI_of {α:Type} {xs:List α} {i:Int} {v:α} (h0:0≤i) (h:xs[i.toNat]? = some v):atI xs i=some v:=by
  have e:=atI_nat h
  rwa [Int.toNat_of_nonneg h0] at e
theorem at_any {α:Type} {xs:List α} {i:Int} (h0:0≤i) (h1:i<xs.length):∃ v,atI xs i=some v∧v∈xs:=by
  have hl:i.toNat<xs.length:=by omega
  exact⟨xs[i.toNat],atI_of h0 (List.getElem?_eq_getElem hl),List.getElem_mem hl⟩
theorem dInt {a b:Int}:(decide (V.int a=V.int b)=true)↔a=b:=by rw[decide_eq_true_iff];exact⟨fun h=>V.int.inj h,fun h=>congrArg V.int h⟩
noncomputable def cellZ (ns:List Int) (k:Int):Int:=ns.getD k.toNat 0
noncomputable def mixZ (ns:List Int) (k:Int):Int:=(cellZ ns k*48271+7919*k*k*k+104729)%2147483647*16807%2147483629
theorem cell_at {ns:List Int} {k:Int} (h0:0≤k) (h:k<((ns.map V.int).length:Nat)):atI (ns.map V.int) k=some (.int (cellZ ns k)):=by
  rw[List.length_map] at h
  have hl:k.toNat<ns.length:=by omega
  refine atI_of h0 ?_
  unfold cellZ
  rw[List.getElem?_map,List.getElem?_eq_getElem hl,List.getD_eq_getElem?_getD,List.getElem?_eq_getElem hl]
  rfl
theorem cell_out {ns:List Int} {k:Int} (h:¬ k<((ns.map V.int).length:Nat)):cellZ ns k=0:=by
  rw[List.length_map] at h
  unfold cellZ
  rw[List.getD_eq_getElem?_getD,List.getElem?_eq_none (by omega)]
  rfl
theorem lenOk {n:Nat} (h:Nat.ble n 1000=true):n≤sizeLine:=Nat.le_trans (Nat.le_of_ble_eq_true h) (by decide)
noncomputable def New (H:Hp) (o:HO) (Q:VK):Prop:=∀ p H',Same H H'→H p=none→H' p=some o→Q (.ref p) H'
theorem New.at {H:Hp} {o:HO} {Q:VK} (h:New H o Q) {p:Addr} (hp:H p=none):Q (.ref p) (upd H p o):=h p _ (Same.upd hp) hp upd_same
noncomputable def tTupS (t:TA):TE:=fun σ H Q=>t σ H fun xs H1=>xs.length≤sizeLine∧New H1 (.tup xs) Q
noncomputable def tLstS (t:TA):TE:=fun σ H Q=>t σ H fun xs H1=>xs.length≤sizeLine∧New H1 (.lst xs) Q
section
variable {X:Cx} {es:List Expr} {t:TA} {pos:Pos}
theorem pe_tupS {x1} (h:PA X es t):PE X (.Tuple es x1 pos) (tTupS t):=by
  intro pins s σ H Q I hq
  refine wpAny_Tuple_spliced (thn (h pos pins s σ H _ I hq) fun us s1 ⟨xs,H1,I1,r,z,q⟩=>⟨by rw[← r.length];exact z,?_⟩)
  have hf:H1 s1.heap.objs.size=none:=I1.hok.fresh (Nat.le_refl _)
  refine⟨.ref s1.heap.objs.size,upd H1 s1.heap.objs.size (.tup xs),I1.laid (t':=s1.toks) (fun b u e=>Heap.get?_push_of_some _ e) (Nat.le_refl _) ?_,rfl,q.at hf⟩
  exact⟨z,us,r,⟨_,Heap.get?_push_size _ rfl,rfl,_,rfl⟩⟩
theorem pe_lstS (h:PA X es t):PE X (.List es pos) (tLstS t):=by
  intro pins s σ H Q I hq
  refine wpAny_List_spliced (thn (h pos pins s σ H _ I hq) fun us s1 ⟨xs,H1,I1,r,z,q⟩=>⟨by rw[← r.length];exact z,?_⟩)
  have hf:H1 s1.heap.objs.size=none:=I1.hok.fresh (Nat.le_refl _)
  refine⟨.ref s1.heap.objs.size,upd H1 s1.heap.objs.size (.lst xs),I1.laid (t':=s1.toks) (fun b u e=>Heap.get?_push_of_some _ e) (Nat.le_refl _) ?_,rfl,q.at hf⟩
  exact⟨z,us,0,r,Heap.get?_push_size _ rfl⟩
noncomputable def tDNewS:TE:=fun _ H Q=>New H (.dK []) Q
theorem pe_dnewS:PE X (.Dict [] [] pos) tDNewS:=fun pins s σ H Q I h=>pe_dnewK pins s σ H Q I fun p hp=>h.at hp
noncomputable def rCatS:R2:=fun x y H Q=>∃ l b xs zs,x = .ref l∧y = .ref b∧H l=some (.lst xs)∧H b=some (.lst zs)∧xs.length+zs.length≤sizeLine∧New H (.lst (xs++zs)) Q
theorem op_catS:OpR X (binaryOp .Add) rCatS:=fun pins s σ H x y v u Q I rx ry ⟨l,b,xs,zs,e1,e2,h1,h2,hz,q⟩=>op_cat pins s σ H x y v u Q I rx ry ⟨l,b,xs,zs,e1,e2,h1,h2,hz,fun p hp=>q.at hp⟩
noncomputable def rRepS:R2:=fun x y H Q=>∃ l k xs,x = .ref l∧y = .int k∧H l=some (.lst xs)∧-(2 ^ 63)≤k∧k<2 ^ 63∧xs.length*k.toNat≤sizeLine∧New H (.lst (List.replicate k.toNat xs).flatten) Q
end
structure Held (K:PySem.W.Frag) (H:Hp) (ea C:Addr):Prop where
  ex:∃ oe vs,H ea=some (excO ea oe)∧oe.cls = .ref C∧oe.dict=none∧oe.data = .fields vs
  cls:XK.ExcCls K C
theorem Held.same {K:PySem.W.Frag} {H H':Hp} {ea C:Addr} (h:Held K H ea C) (s:Same H H'):Held K H' ea C:=by
  obtain⟨⟨oe,vs,e,r⟩,c⟩:=h
  exact⟨⟨oe,vs,s _ _ e,r⟩,c⟩
theorem Held.ty {K:PySem.W.Frag} {H:Hp} {ea C:Addr} (h:Held K H ea C):TyX K H (.ref ea) (.ref C):=by
  obtain⟨⟨oe,vs,e,e1,e2,e3⟩,c⟩:=h
  exact .inr ⟨ea,oe,C,vs,rfl,rfl,e,e1,e2,e3,c⟩
section
variable {X:Cx}
theorem Inv.walked {pins:List (Addr × Obj)} {σ:St} {H:Hp} {s:Shared} (I:Inv X pins σ H s) {u:Obj} {h':Heap} {tk:Nat} (hk:∀ b o,b∉[s.heap.objs.size]→(s.heap.push u).get? b=some o→h'.get? b=some o) :
    Inv X pins σ H { s with heap:=h',toks:=tk } :=
  I.kept (t':=tk) fun b o e=>hk b o (by simp;exact Nat.ne_of_lt (Heap.lt_size e)) (Heap.get?_push_of_some _ e)
theorem range_all {α:Type} (bs:List α) (d:α) (p:α→Bool):(List.range bs.length).all (fun i=>p (bs.getD i d))=bs.all p:=by
  induction bs with
  | nil=>rfl
  | cons b r ih =>
    rw[List.length_cons,List.range_succ_eq_map,List.all_cons,List.all_map,List.all_cons]
    congr 1
theorem val_bl {bs:List Bool} {its:List Value} (rv:Vals (bs.map V.bl) its) {i:Nat} {v:Value} (e:its.toArray[i]? = some v):v = .bool (bs.getD i false):=by
  have hl:=rv.length
  rw[List.length_map] at hl
  have hi:i<its.length:=by
    have:=(Array.getElem?_eq_some_iff.mp e).1
    simpa using this
  have hx:(bs.map V.bl)[i]? = some (V.bl (bs.getD i false)):=by
    rw[List.getElem?_map,List.getElem?_eq_getElem (by omega),List.getD_eq_getElem?_getD,List.getElem?_eq_getElem (by omega)]
    rfl
  obtain⟨u,e1,e2⟩:=rv.get hx
  have e3:its[i]? = some v:=by simpa using e
  rw[e1] at e3
  cases e3
  exact e2
theorem call_allL (hc:X.calm=true):CallR X (.builtin "all") (fun xs H Q=>∃ (a:Addr) (bs:List Bool),xs=[.ref a]∧SqL X.K H a (bs.map V.bl)∧Q (.bl (bs.all id)) H):=by
  intro pins s σ H xs us Q I r h
  obtain⟨a,bs,rfl,hS,q⟩:=h
  obtain⟨u,rfl,ru⟩:=vals1 r
  cases ru
  obtain⟨its,rv,pl,hz⟩:=I.list hS
  have hl:its.length=bs.length:=by rw[← rv.length,List.length_map]
  have hlt:a≠s.heap.objs.size:=by obtain⟨o,e,_⟩:=pl.isList;exact Nat.ne_of_lt (Heap.lt_size e)
  refine call_all_walk (wpAny_pyIter_list pl.isList ?_)
  refine⟨s.heap.objs.size,_,_,_,_,_,fun i=>bs.getD i false,rfl,Walks.list (A:=X.A.in1) (I.ok.hd hc) _ a hlt its.toArray,⟨⟨_,Heap.get?_push_size _ rfl,rfl,rfl⟩,pl.isList.push _⟩,fun i v s' Q' E' hP hQ=>?_,fun h' tk hk=>?_⟩
  · rw[val_bl rv hP]
    exact wpAny_truthy_bool hQ
  · refine⟨.bl _,H,I.walked hk,rfl,?_⟩
    have e:(List.range its.toArray.size).all (fun i=>bs.getD i false)=bs.all id:=by
      rw[List.size_toArray,hl]
      exact range_all bs false id
    rw[e]
    exact q
end
noncomputable def cutL (l:List Nat) (lo hi:Option Int):List Nat:=(l.drop (HT.sIx l.length 0 lo)).take (HT.sIx l.length l.length hi - HT.sIx l.length 0 lo)
theorem clip_lo (n d:Nat) (v:Int):max 0 (min (if v<0 then v+(n:Int) else v) (n:Int))=((HT.sIx n d (some v):Nat):Int):=by
  show _=(((if v<0 then (v+(n:Int)).toNat else min v.toNat n):Nat):Int)
  by_cases hv:v<0
  · have le:=Int.add_le_add_right (Int.le_of_lt hv) (n:Int)
    rw[Int.zero_add] at le
    rw[if_pos hv,if_pos hv,Int.min_eq_left le,Int.ofNat_toNat,Int.max_comm]
  · obtain⟨m,rfl⟩:=Int.eq_ofNat_of_zero_le (Int.not_lt.mp hv)
    rw[if_neg hv,if_neg hv,Int.toNat_natCast,Int.max_eq_right (Int.le_min.mpr ⟨Int.natCast_nonneg m,Int.natCast_nonneg n⟩)]
    rcases Nat.le_total m n with c | c
    · rw[Nat.min_eq_left c,Int.min_eq_left (Int.ofNat_le.mpr c)]
    · rw[Nat.min_eq_right c,Int.min_eq_right (Int.ofNat_le.mpr c)]
theorem slice_ix (lo hi:Option Int) (n:Nat):Builtin.Str.strSliceIndices lo hi 1 n=sliceRange ((HT.sIx n 0 lo:Nat):Int) ((HT.sIx n n hi:Nat):Int) 1:=by
  unfold Builtin.Str.strSliceIndices
  simp only[show (1:Int) > 0 by decide,if_true]
  cases lo with
  | none =>
    cases hi with
    | none=>rfl
    | some j=>simp only[clip_lo n n j];rfl
  | some i =>
    cases hi with
    | none=>simp only[clip_lo n 0 i];rfl
    | some j=>simp only[clip_lo n 0 i,clip_lo n n j]
theorem slice_codes (z:Str) (lo hi:Option Int):(Txt.slice z lo hi).cps.toList=cutL z.cps.toList lo hi:=by
  have len:z.length=z.cps.toList.length:=Array.length_toList.symm
  have ix:=(slice_ix lo hi z.length).trans (sliceRange_one _ _)
  have key:(Builtin.Str.strSliceIndices lo hi 1 z.length).filterMap (z.cps[·]?)=cutL z.cps.toList lo hi:=by
    rw[ix,pick_run,len]
    rfl
  unfold Txt.slice
  split
  · rename_i h
    have h:(Builtin.Str.strSliceIndices lo hi 1 z.length).length=z.length:=by simpa using h
    rw[ix,List.length_map,List.length_range,len] at h
    have a2:=HT.sIx_le z.cps.toList.length z.cps.toList.length (Nat.le_refl _) hi
    have hl:(cutL z.cps.toList lo hi).length=z.cps.toList.length:=by
      unfold cutL
      rw[List.length_take,List.length_drop,h]
      exact Nat.min_eq_left (Nat.le_trans (Nat.le_of_eq h.symm) (Nat.sub_le_sub_right a2 _))
    exact (((List.take_sublist _ _).trans (List.drop_sublist _ _)).eq_of_length hl).symm
  · exact key
noncomputable def rSlS:V→Option Int→Option Int→Hp→VK→Prop:=fun x lo hi H Q=>∃ z,x = .str z∧z.length≤sizeLine∧Q (.str (Txt.slice z lo hi)) H
theorem part_some {v:Value} {o:Option Int} (p:IsPart v o):∃ l:Option (Int × Tok),v=partValue l∧o=l.map (·.1):=by
  cases p with
  | none=>exact⟨none,rfl,rfl⟩
  | int i t=>exact⟨some (i,t),rfl,rfl⟩
theorem sl_str {X:Cx}:SlR X rSlS:=by
  intro pins s σ H x v vl vu lo hi sl Q I rx hs pl pu h
  obtain⟨z,rfl,hz,q⟩:=h
  obtain⟨t,rfl⟩:=rx
  obtain⟨l,rfl,rfl⟩:=part_some pl
  obtain⟨u,rfl,rfl⟩:=part_some pu
  refine⟨"str",_,F.slot_str_getitem.lookup,typeIs_str _ _ _,wpAny_getItem_str_slice (l:=l) (u:=u) (st:=none) hs rfl ?_⟩
  exact post_val_or_str ⟨Nat.le_trans (Txt.slice_le z _ _) hz,fun t' k=>⟨.str _,H,I.tok k,⟨t',rfl⟩,q⟩⟩
noncomputable def cxCompF (X:Cx) (Nc:List Str) (scope:Scope) (cl:List (Str × Addr)) (C:Addr) (fp:List Addr) (s:Shared) (H:Hp):Cx :=
  { X with N:=Nc,s₀:=s,H₀:=H,env:=compEnvC scope cl C X.env,outer:=X.stack,ex:=fp,fn:=fun _=>false,pn:=[],xe:=fun _ _=>False }
noncomputable def tTurnsI (J:It) (D:Addr) (g:TG) (tt:TT) (te:TE) (fin:List V→Hp→Prop) (σ:St) (H:Hp):Prop :=
  ∃ W:Nat→Nat→List V→St→Hp→Prop,(∃ m,W 0 m [] σ H)∧(∀ i m ys σ H,W i m ys σ H→H D=some (.lst ys)) ∧
    ∀ i m ys σ H,W i m ys σ H→(J.stop i H∧fin ys H) ∨
      (J.go i H∧∃ N:List V→St→Hp→Prop,(∀ ys' σ' H',N ys' σ' H'→∃ m',m'<m∧W (i+1) m' ys' σ' H') ∧
        ∀ x H',J.yld i H x H'→g x σ H' fun σ1 H1=>tt σ1 H1 fun b H2=>if b=true then te σ1 H2 fun y H3=>H3 D=some (.lst ys)∧ys.length<sizeLine∧N (ys++[y]) σ1 (upd H3 D (.lst (ys++[y]))) else N ys σ1 H2)
noncomputable def tCompI (src:List (Option Nat)) (wi:TI) (g:TG) (tt:TT) (te:TE):TE:=fun σ H Q=>wi σ H fun J H1=>∀ D,H1 D=none→tTurnsI J D g tt te (fun ys H2=>Q (.ref D) H2) (capt src σ) (upd H1 D (.lst []))
section
variable {X:Cx} {elt iter tgt:Expr} {ifs:List Expr} {scope:Scope} {cl:List (Str × Addr)} {Nc:List Str} {src:List (Option Nat)} {g:TG} {tt:TT} {te:TE}
theorem comp_blockI {pins:List (Addr × Obj)} {σ:St} {H:Hp} {s:Shared} {D it:Addr} {fp:List Addr} {tn:Nat→Heap→Prop} {J:It} {R:Addr→Result→Shared→Prop} {fin:List V→Hp→Prop} {pos:Pos} {E:Value→Shared→Prop}
    (c:CompOk X Nc scope cl src) (hcalm:X.calm=true) (I:Inv X pins σ H s) (T:Turn X.prog X.w X.K tgt J fp it tn) (st0:tn 0 s.heap) (f:∀ b∈fp,FpOk X pins H b)
    (hb:∀ C s' H',PG (cxCompF X Nc scope cl C fp s' H') tgt g∧PIf (cxCompF X Nc scope cl C fp s' H') ifs tt∧PE (cxCompF X Nc scope cl C fp s' H') elt te)
    (h:tTurnsI J D g tt te fin (capt src σ) H)
    (kend:∀ C ys σ' H' s',H C=none→Inv (cxCompF X Nc scope cl C fp s H) [] σ' H' s'→H' D=some (.lst ys)→fin ys H'→R C (.ok .next) s') :
    wpAny (model X.prog X.w) X.A (newFunctionEnv scope X.env.globals cl [] X.env.qual none .none (some X.env)) (fun cenv s4 =>
      codeAny (model X.prog X.w) X.A (.compStart (.ListComp elt [⟨tgt,iter,ifs,0⟩] scope pos) 0 (.ref it) (.ref D) { cenv with scope:=relabel scope X.env }) (R cenv.locals) s4) E s:=by
  obtain⟨W,⟨m0,w0⟩,wi,wt⟩:=h
  refine wpAny_newFunctionEnv c.cell (by intro y hy;simp at hy) (fun h1 hn1 hs1=>?_) c.kind
  have hC0:H s.heap.objs.size=none:=I.hok.fresh (Nat.le_refl _)
  have old:∀ b o,s.heap.get? b=some o→h1.get? b=some o:=fun b o e=>hs1.extBut b o (Nat.ne_of_lt (Heap.lt_size e)) (Heap.get?_push_of_some _ e)
  have fplt:∀ b∈fp,b<s.heap.objs.size:=fun b hb=>by
    obtain⟨o,e,_⟩:=T.obj 0 _ st0 b hb
    exact Heap.lt_size e
  have inStk:∀ b∈fp,b∉frs X.stack:=fun b hb z=>(List.mem_cons.mp (I.stkSub b z)).elim (f b hb).2.1 (f b hb).2.2.1
  have Yok:(cxCompF X Nc scope cl s.heap.objs.size fp s H).Ok:=by
    refine⟨I.ok.mod,c.kind,I.ok.glob,I.ok.blt,Nat.le_refl _,fun x y b h1 h2=>I.ok.inj x y b (c.sub x b h1) (c.sub y b h2),fun x hx=>c.has x hx,(fun x b h1 _=>nomatch h1),I.ok.hd,I.ok.frames,.inl rfl,fun b hb=>?_,fun b o e=>I.bs b o e,Nat.le_trans I.ok.bsz I.sz,fun b o e hb=>?_,fun b hb=>?_,I.stack,I.stkFree⟩
    · exact⟨Nat.ne_of_lt (fplt b hb),fun x b' e=>(f b hb).2.2.2.2.1 x b' (c.sub x b' e)⟩
    · have e0:=(I.ok.bs b o e).1
      rcases (f b hb).2.2.2.1 with z | z
      · exact I.ok.noex b o e z
      · rw[z] at e0;cases e0
    · exact inStk b hb
  have J0:Inv (cxCompF X Nc scope cl s.heap.objs.size fp s H) [] (capt src σ) H { s with heap:=h1,toks:=s.toks+([]:List (Str × Value)).length }:=by
    refine⟨Yok,rfl,I.bare,Un.kept old,⟨_,hn1,fun i x v e1 e2 e3=>?_⟩,fun x b e=>?_,hC0,fun x b e=>I.freeC x b (c.sub x b e),fun p hp=>absurd (show p∈([]:List (Addr × Obj)) from hp) (by simp),I.hok.kept old,?_⟩
    · unfold capt at e2
      rw[List.getElem?_map] at e2
      cases q:src[i]? with
      | none=>rw[q] at e2;cases e2
      | some oj =>
        rw[q] at e2
        cases oj with
        | none=>cases e2
        | some j =>
          obtain⟨y,y1,y2,y3,y4⟩:=c.frm i j q
          obtain rfl:y=x:=Option.some.inj (y1.symm.trans e1)
          have e2':(σ[j]?).join=some v:=Option.some.inj e2
          have e2s:σ[j]? = some (some v):=by
            cases z:σ[j]? with
            | none=>rw[z] at e2';cases e2'
            | some ov=>rw[z] at e2';exact congrArg some e2'
          obtain⟨m,hn,hl⟩:=I.loc
          obtain⟨u,r,l⟩:=hl j y v y2 e2s (.inr (.inl y3))
          refine⟨u,r,.inr ⟨.inl y4,?_⟩⟩
          rcases l with ⟨k1,_⟩ | ⟨_,b,k2,k3⟩
          · exact absurd (k1.symm.trans y3) (by intro z;cases z)
          · obtain⟨b',k4⟩:=c.has y (.inl y4)
            have k5:=c.sub y b' k4
            rw[k2] at k5
            cases k5
            obtain⟨o,ho,hd⟩:=k3
            exact⟨b,k4,o,old b o ho,hd⟩
    · obtain⟨v,o,ho,hd⟩:=I.cell x b (c.sub x b e)
      exact⟨v,o,old b o ho,hd⟩
    · unfold capt
      rw[List.length_map]
      exact c.len
  have st1:tn 0 h1:=T.keep _ _ _ st0 fun b _ o e=>old b o e
  obtain⟨bg,bi,be⟩:=hb s.heap.objs.size s H
  have fpY:∀ {H2:Hp},(∀ b∈fp,H2 b=none)→∀ b∈fp,FpOk (cxCompF X Nc scope cl s.heap.objs.size fp s H) [] H2 b:=fun {H2} n b hb =>
    ⟨n b hb,Nat.ne_of_lt (fplt b hb),inStk b hb,.inl hb,fun x b' e=>(f b hb).2.2.2.2.1 x b' (c.sub x b' e),fun p hp=>absurd (show p∈([]:List (Addr × Obj)) from hp) (by simp)⟩
  have loop:codeAny (model X.prog X.w) X.A (.compLoop (.ListComp elt [⟨tgt,iter,ifs,0⟩] scope pos) 0 (.ref it) (.ref D) (compEnvC scope cl s.heap.objs.size X.env)) (R s.heap.objs.size) { s with heap:=h1,toks:=s.toks+([]:List (Str × Value)).length }:=by
    refine comp_loop (fun n s'=>∃ i ys σ' H',Inv (cxCompF X Nc scope cl s.heap.objs.size fp s H) [] σ' H' s'∧tn i s'.heap∧(∀ b∈fp,H' b=none)∧W i n ys σ' H') ?_ m0 ⟨0,[],_,H,J0,st1,fun b hb=>(f b hb).1,w0⟩
    rintro n s2 ⟨i,ys,σ2,H2,J2,st2,fr2,w2⟩
    have q2:=wi i n ys σ2 H2 w2
    rcases wt i n ys σ2 H2 w2 with ⟨stop,qn⟩ | ⟨go,N,hN,step⟩
    · refine thn (T.done (cxCompF X Nc scope cl s.heap.objs.size fp s H) rfl rfl rfl hcalm i [] s2 σ2 H2 _ J2 (fpY fr2) st2 stop) fun r s4 ⟨hr,I4⟩=>?_
      subst hr
      exact kend _ ys σ2 H2 _ hC0 I4 q2 qn
    · refine thn (T.item (cxCompF X Nc scope cl s.heap.objs.size fp s H) rfl rfl rfl hcalm i [] s2 σ2 H2 _ J2 (fpY fr2) st2 go) fun r s4 ⟨u,hr,h4⟩=>?_
      subst hr
      refine thn h4 fun _ s5 ⟨x,H5,I5,r5,y5,st5,fr5⟩=>?_
      have I5':=I5.pinned (fpY fr5) (T.obj _ _ st5)
      have back:∀ {σ7:St} {H7:Hp} {s7:Shared},Inv (cxCompF X Nc scope cl s.heap.objs.size fp s H) ([]++pinsAt fp s5.heap) σ7 H7 s7→Inv (cxCompF X Nc scope cl s.heap.objs.size fp s H) [] σ7 H7 s7∧tn (i+1) s7.heap∧∀ b∈fp,H7 b=none:=fun {σ7 H7 s7} I7=>by
        refine⟨I7.unpinned,T.keep _ _ _ st5 fun b hb o e=>(I7.pin (b,o) (List.mem_append_right _ (List.mem_append_right _ (mem_pinsAt hb e)))).1,fun b hb=>?_⟩
        obtain⟨o,e,d⟩:=T.obj _ _ st5 b hb
        exact (I7.pin (b,o) (List.mem_append_right _ (List.mem_append_right _ (mem_pinsAt hb e)))).2.1
      refine thn (bg _ s5 σ2 H5 x u _ I5' r5 (step x H5 y5)) fun _ s6 ⟨σ6,H6,I6,q6⟩=>?_
      refine thn (bi _ s6 σ6 H6 _ I6 q6) fun b s7 ⟨H7,I7,q7⟩=>?_
      cases b with
      | false =>
        obtain⟨m',hm,w7⟩:=hN _ _ _ q7
        obtain⟨J7,st7,fr7⟩:=back I7
        exact⟨m',hm,i+1,ys,σ6,H7,J7,st7,fr7,w7⟩
      | true =>
        refine thn (be _ s7 σ6 H7 _ I7 q7) fun y s8 ⟨vy,H8,I8,ry,hD8,hl8,n8⟩=>?_
        refine thn (mt_append (X:=cxCompF X Nc scope cl s.heap.objs.size fp s H) _ s8 σ6 H8 (.ref D) [vy] (.ref D) [y] (fun _ H'=>H'=upd H8 D (.lst (ys++[vy]))) I8 rfl (.cons ry .nil) ⟨D,ys,vy,rfl,rfl,hD8,hl8,rfl⟩) fun _ s9 ⟨_,H9,I9,_,e9⟩=>?_
        subst e9
        obtain⟨m',hm,w8⟩:=hN _ _ _ n8
        obtain⟨J9,st9,fr9⟩:=back I9
        exact⟨m',hm,i+1,ys++[vy],σ6,_,J9,st9,fr9,w8⟩
  exact codeAny_compStart_list loop (T.self _ 0 _ _ _ st1 loop)
theorem comp_backI {pins:List (Addr × Obj)} {σ σ':St} {H H':Hp} {s s':Shared} {C:Addr} {fp:List Addr} {h':Heap} (I:Inv X pins σ H s) (f:∀ b∈fp,FpOk X pins H b) (J:Inv (cxCompF X Nc scope cl C fp s H) [] σ' H' s') (hs:Heap.SameBut C s'.heap h') :
    Inv X pins σ H' { s' with heap:=h' }:=by
  have nC:∀ b o,s.heap.get? b=some o→b≠C:=fun b o e=>Nat.ne_of_lt (Nat.lt_of_lt_of_le (Heap.lt_size e) J.ok.above)
  have B:=J.base
  refine I.call' (s':={ s' with heap:=h' }) (ch:=fp) J.os ⟨fun b o e n hb hx=>(hs.2 b (nC b o e)).trans (B.keep b o e n hb hx),fun b o e n hb hx=>?_,B.free,fun b o e hx=>?_,B.tups,B.frzs,B.tbls⟩ (fun b u q=>?_) J.bare fun b hb=>?_
  · obtain⟨sl,z⟩:=B.slot b o e n hb hx
    exact⟨sl,(hs.2 b (nC b o e)).trans z⟩
  · obtain⟨o',z⟩:=B.there b o e hx
    exact⟨o',(hs.2 b (nC b o e)).trans z⟩
  · have hC:H' C=none:=J.free
    refine (J.hok b u q).stay (fun c v hc z=>(hs.2 c ?_).trans z) (fun _ z=>z) fun _ _ z=>z
    rintro rfl
    rcases hc with hc | hc
    · rw[← hc,hC] at q;cases q
    · rw[hC] at hc;cases hc
  · exact⟨(f b hb).2.2.2.1,(f b hb).2.1,(f b hb).2.2.2.2.1,(f b hb).2.2.2.2.2⟩
theorem pe_compI {wi:TI} {pos:Pos} (c:CompOk X Nc scope cl src) (hcalm:X.calm=true) (hi:PI X tgt iter wi)
    (hb:∀ fp C s' H',PG (cxCompF X Nc scope cl C fp s' H') tgt g∧PIf (cxCompF X Nc scope cl C fp s' H') ifs tt∧PE (cxCompF X Nc scope cl C fp s' H') elt te)
    (hs:∀ x,foldedSetIterable iter X.env x=pure x:=by intro _;rfl):PE X (.ListComp elt [⟨tgt,iter,ifs,0⟩] scope pos) (tCompI src wi g tt te):=by
  intro pins s σ H Q I h
  rw[eval_ListComp]
  refine wpAny_comprehension_free (use:=none) rfl hs c.clos c.kind c.names (thn (hi pins s σ H _ I h) fun v s1 h1=>thn h1 fun itv s2 h2=>?_)
  obtain⟨it,fp,tn,J,H2,e,I2,T,st2,f2,hT⟩:=h2
  subst e
  refine wpAny_newObj_type ?_ (by size_fits)
  have old:∀ b o,s2.heap.get? b=some o→(s2.heap.push { cls:=.type "list",data:=.seq ([]:List Value).toArray }).get? b=some o:=fun b o e=>Heap.get?_push_of_some _ e
  have I3:=I2.laid (a:=s2.heap.objs.size) (o:=.lst []) (t':=s2.toks) (h':=s2.heap.push { cls:=.type "list",data:=.seq ([]:List Value).toArray }) old (Nat.le_refl _) ⟨Nat.zero_le _,[],0,.nil,Heap.get?_push_size _ rfl⟩
  have ne:∀ b∈fp,b≠s2.heap.objs.size:=fun b hb=>by
    obtain⟨o,e,_⟩:=T.obj 0 _ st2 b hb
    exact Nat.ne_of_lt (Heap.lt_size e)
  have f3:∀ b∈fp,FpOk X pins (upd H2 s2.heap.objs.size (.lst [])) b:=fun b hb=>⟨by rw[upd_ne (ne b hb)];exact (f2 b hb).1,(f2 b hb).2⟩
  refine comp_blockI (it:=it) (R:=fun C=>compPost (model X.prog X.w) X.A X.xe none (EP X pins σ Q) _ C) c hcalm I3 T (T.keep _ _ _ st2 fun b _ o e=>old b o e) f3 (hb fp) (hT _ (I2.hok.fresh (Nat.le_refl _))) fun C ys σ' H' s' hC J' hD q=>?_
  obtain⟨m,hn,_⟩:=id J'.loc
  exact⟨m,hn,fun h' hs'=>⟨.ref _,H',comp_backI I3 f3 J' hs',rfl,q⟩⟩
end
section
variable {K:PySem.W.Frag} {a D:Addr} {xs:List V} {g:TG} {tt:TT} {te:TE} {fin:List V→Hp→Prop} {σ:St} {H:Hp}
noncomputable def cTurn (D:Addr) (g:TG) (tt:TT) (te:TE) (x:V) (ys:List V) (N:List V→St→Hp→Prop) (σ:St) (H:Hp):Prop :=
  g x σ H fun σ1 H1=>tt σ1 H1 fun b H2=>if b=true then te σ1 H2 fun y H3=>H3 D=some (.lst ys)∧ys.length<sizeLine∧N (ys++[y]) σ1 (upd H3 D (.lst (ys++[y]))) else N ys σ1 H2
end
noncomputable def CanCall (X:Cx) (v:V) (vs:List V) (H:Hp) (Q:VK):Prop :=
  ∃ (CX:CXT) (k:Nat) (f:Addr) (fd:FuncData) (ps:List Str) (sp:Sp) (E:XK),v = .ref f∧FnOk X.prog X.w X.K X.mg X.base CX k f fd ps sp∧Room k X.A∧Binds X.K fd ps []∧Passes CX X E∧sp vs H Q E
noncomputable def CDivB (i j:Int):Prop:=0<j∧j<2 ^ 64
noncomputable def Its (z:Str):It:=⟨fun i _=>i<z.cps.size,fun i H x H'=>H'=H∧∃ c,z.cps[i]? = some c∧x = .str ⟨#[c]⟩,fun i _=>z.cps.size≤i⟩
theorem iterTy (z:Str):strIterType z = "str_ascii_iterator"∨strIterType z = "str_iterator":=by
  unfold strIterType
  split
  · exact .inl rfl
  · exact .inr rfl
theorem turn_str {P:Program} {w:World} {K:PySem.W.Frag} {tg:Expr} (z:Str) (t:Tok) (it:Addr):Turn P w K tg (Its z) [it] it (fun i h=>h.IsStrIter it (strIterType z) z t i) where
  mem:=by simp
  obj:=fun i h st b hb=>by
    have e:b=it:=by simpa using hb
    subst e
    obtain⟨o,e,c,d⟩:=st
    exact⟨o,e,fun v q=>by rw[d] at q;cases q⟩
  keep:=fun i h h' st k=>by
    obtain⟨o,e,r⟩:=st
    exact⟨o,k it (by simp) o e,r⟩
  item:=by
    intro X hP hw hK hc i pins s σ H E I hf st hg
    subst hP hw hK
    have hg':i<z.cps.size:=hg
    have hx:z.cps[i]? = some z.cps[i]:=Array.getElem?_eq_getElem hg'
    obtain⟨f0,f1,f2,f3,f4,f5⟩:=hf it (by simp)
    have fin:∀ h':Heap,h'.IsStrIter it (strIterType z) z t (i+1)→Heap.SameBut it s.heap h'→∃ u,some (Value.str ⟨#[z.cps[i]]⟩ s.toks)=some u ∧
        wpAny (model X.prog X.w) X.A (letOwnedTupleGo tg (.ref it) u) (fun _ s2=>∃ x H',Inv X pins σ H' s2∧RelV x u∧(Its z).yld i H x H'∧s2.heap.IsStrIter it (strIterType z) z t (i+1)∧∀ b∈[it],H' b=none) E { s with heap:=h',toks:=s.toks+1 }:=fun h' st' sb=>by
      have I1:Inv X pins σ H { s with heap:=h',toks:=s.toks+1 }:=I.turned (t':=s.toks+1) (fun b o hb e=>(sb.2 b hb).trans e) f0 f1 f3 f4 f5
      obtain⟨o,e,c,d⟩:=id st'
      refine⟨_,rfl,go_of (s:={ s with heap:=h',toks:=s.toks+1 }) e c d ?_ ⟨.str ⟨#[z.cps[i]]⟩,H,I1,⟨_,rfl⟩,⟨rfl,_,hx,rfl⟩,st',fun b hb=>(hf b hb).1⟩⟩
      rcases iterTy z with q | q <;> rw[q] <;> decide
    rcases iterTy z with q | q
    · rw[q] at st fin ⊢
      exact wpAny_pyNext_ascii_item st hx fun h' st' sb=>fin h' st' sb
    · rw[q] at st fin ⊢
      exact wpAny_pyNext_wide_item st hx fun h' st' sb=>fin h' st' sb
  done:=by
    intro X hP hw hK hc i pins s σ H E I hf st hg
    subst hP hw hK
    have hg':z.cps.size≤i:=hg
    have hx:z.cps[i]? = none:=Array.getElem?_eq_none hg'
    obtain⟨f0,f1,f2,f3,f4,f5⟩:=hf it (by simp)
    have fin:∀ h':Heap,Heap.ExtBut it s.heap h'→(none:Option Value)=none∧Inv X pins σ H { s with heap:=h' }:=fun h' eb=>⟨rfl,I.turned (t':=s.toks) (fun b o hb e=>eb b o hb e) f0 f1 f3 f4 f5⟩
    rcases iterTy z with q | q
    · rw[q] at st
      exact wpAny_pyNext_ascii_end (I.ok.hd hc) st hx fin
    · rw[q] at st
      exact wpAny_pyNext_wide_end (I.ok.hd hc) st hx fin
  self:=fun _ _ _ _ _ st h=>by
    rcases iterTy z with q | q
    · rw[q] at st
      exact wpAny_pyIter_striter_ascii st h
    · rw[q] at st
      exact wpAny_pyIter_striter_wide st h
noncomputable def iStr (tl:TE):TI:=fun σ H R=>tl σ H fun x H1=>∃ z,x = .str z∧R (Its z) H1
theorem pi_str {X:Cx} {tg l:Expr} {tl:TE} (hl:PE X l tl):PI X tg l (iStr tl):=by
  intro pins s σ H R I h
  refine thn (hl pins s σ H _ I h) fun v s1 ⟨x,H1,I1,r1,q1⟩=>?_
  obtain⟨z,e,q⟩:=q1
  subst e
  obtain⟨t,rfl⟩:=r1
  refine wpAny_pyIter_strU ?_
  refine⟨s1.heap.objs.size,[s1.heap.objs.size],_,_,H1,rfl,I1.kept (t':=s1.toks) fun b o e=>Heap.get?_push_of_some _ e,turn_str z t _,⟨_,Heap.get?_push_size _ rfl,rfl,rfl⟩,fun b hb=>?_,q⟩
  have e:b=s1.heap.objs.size:=by simpa using hb
  subst e
  exact I1.fpOk (Nat.le_refl _) (I1.hok.fresh (Nat.le_refl _))
noncomputable def sgn (c:Nat):V:=.str ⟨#[c]⟩
section
variable {D:Addr} {g:TG} {tt:TT} {te:TE} {fin:List V→Hp→Prop} {σ:St} {H:Hp} {z:Str}
end
section
variable {X:Cx}
theorem sign_in (x:Str) (c:Nat):(!(Builtin.Str.occurrences x ⟨#[c]⟩ 0 x.length 1).isEmpty)=x.cps.toList.contains c:=by
  rw[Bool.eq_iff_iff,StrLaws.found_iff,List.contains_iff_mem]
  constructor
  · rintro ⟨i,h⟩
    exact List.mem_of_getElem? ((StrLaws.subAt_one x c i).mp h)
  · intro h
    obtain⟨i,hi⟩:=List.getElem?_of_mem h
    exact⟨i,(StrLaws.subAt_one x c i).mpr hi⟩
noncomputable def timesS (z:Str) (n:Int):Str:=⟨(List.replicate n.toNat z.cps.toList).flatten.toArray⟩
end
open Builtin.Str (occurrences partsBetween)
theorem vals_strs:∀ {zs:List Str} {its:List Value},Vals (zs.map V.str) its→∃ l:List (Str × Tok),l.map (·.1)=zs∧its=strValues l
  | [],_,.nil=>⟨[],rfl,rfl⟩
  | z::zs,_,.cons ⟨t,e⟩ r=>by
    obtain⟨l,e1,e2⟩:=vals_strs r
    subst e e2
    exact⟨(z,t)::l,by rw[List.map_cons,e1],rfl⟩
section
variable {X:Cx}
theorem mt_join:MtR X "str.join" (fun x vs H Q=>∃ sep zs a,x = .str sep∧vs=[.ref a]∧SqL X.K H a (zs.map V.str)∧JoinOk sep zs=true∧Q (.str (Txt.join sep zs)) H):=by
  intro pins s σ H x xs v us Q I rx rv h
  obtain⟨sep,zs,a,rfl,rfl,hS,hj,q⟩:=h
  obtain⟨t,rfl⟩:=rx
  obtain⟨u,rfl,ru⟩:=Vals.one rv
  cases ru
  obtain⟨its,r,pl,hz⟩:=I.list hS
  obtain⟨l,e1,rfl⟩:=vals_strs r
  exact SC.join pl.isList e1 hj fun t' k=>⟨.str _,H,I.tok k,⟨t',rfl⟩,q⟩
end
end L2
namespace L2
open PySem PySem.Spec PyProof.Rows
inductive Dt where
  | v (x:V)
  | l (xs:List Dt)
  | t (xs:List Dt)
inductive Is (K:PySem.W.Frag) (H:Hp):Nat→V→Dt→Prop where
  | v {n:Nat} {x:V}:flatV x=true→Is K H n x (.v x)
  | l {n:Nat} {a:Addr} {xs:List V} {ds:List Dt}:SqL K H a xs→xs.length=ds.length→(∀ (j:Nat) x d,xs[j]? = some x→ds[j]? = some d→Is K H n x d)→Is K H (n+1) (.ref a) (.l ds)
  | t {n:Nat} {a:Addr} {xs:List V} {ds:List Dt}:SqT K H a xs→xs.length=ds.length→(∀ (j:Nat) x d,xs[j]? = some x→ds[j]? = some d→Is K H n x d)→Is K H (n+1) (.ref a) (.t ds)
theorem Is.flatT {K:PySem.W.Frag} {H:Hp} {a:Addr} {xs:List V} (h:SqT K H a xs) (f:xs.all flatV=true):Is K H 1 (.ref a) (.t (xs.map Dt.v)):=by
  refine .t h (by simp) fun j x d e1 e2=>?_
  rw[List.getElem?_map,e1] at e2
  cases e2
  exact .v (List.all_eq_true.mp f x (List.mem_of_getElem? e1))
theorem eqV_self {x:V} (f:flatV x=true):eqV x x=true:=by
  cases x <;> simp[flatV] at f <;> simp[eqV]
theorem all_true (n:Nat):(List.range n).all (fun _=>true)=true:=by
  rw[List.all_eq_true]
  intro _ _
  rfl
section
variable {X:Cx} {pins:List (Addr × Obj)} {σ:St} {H:Hp} {s:Shared}
theorem ix_of {xs:List V} {its:List Value} (r:Vals xs its) {j:Nat} (h:j<its.toArray.size):∃ x,xs[j]? = some x∧RelV x its.toArray[j]:=by
  have hl:=r.length
  have hj:j<xs.length:=by rw[hl];simpa using h
  refine⟨xs[j],List.getElem?_eq_getElem hj,?_⟩
  obtain⟨u,e1,e2⟩:=r.get (List.getElem?_eq_getElem hj)
  have:its[j]? = some its.toArray[j]:=by simp at h ⊢
  rw[this] at e1
  cases e1
  exact e2
theorem eqAt_same (I:Inv X pins σ H s):∀ (n:Nat) (d:Dt) (x y:V) (u v:Value) (A:Around),Is X.K H n x d→Is X.K H n y d→RelV x u→RelV y v→A.units+n<cLine→SeqAt.EqAt A s u v true:=by
  intro n
  induction n with
  | zero =>
    intro d x y u v A hx hy ru rv hu
    cases hx with
    | v f =>
      cases hy with
      | v f' =>
        have e:=eqAt_V (A:=A) (s:=s) ru rv f f
        rw[eqV_self f] at e
        exact e
  | succ n ih =>
    intro d x y u v A hx hy ru rv hu
    cases hx with
    | v f =>
      cases hy with
      | v f' =>
        have e:=eqAt_V (A:=A) (s:=s) ru rv f f
        rw[eqV_self f] at e
        exact e
    | l h1 h2 h3 =>
      cases hy with
      | l g1 g2 g3 =>
        cases ru
        cases rv
        rename_i a xs ds b ys
        by_cases hab:a=b
        · subst hab
          exact SeqAt.EqAt.same _
        · obtain⟨us,r1,p1,_⟩:=I.list h1
          obtain⟨ws,r2,p2,_⟩:=I.list g1
          have e:=SeqAt.RcAt.lists (A:=A) (e:=fun _=>true) p1.isList p2.isList (by rw[List.size_toArray,List.size_toArray,← r1.length,← r2.length,h2,g2]) (by omega) fun j k1 k2=>by
            obtain⟨x,ex,rx⟩:=ix_of r1 k1
            obtain⟨y,ey,ry⟩:=ix_of r2 k2
            have hj:j<ds.length:=by
              have:=(List.getElem?_eq_some_iff.mp ex).1
              omega
            exact ih ds[j] x y _ _ A.in1 (h3 j x _ ex (List.getElem?_eq_getElem hj)) (g3 j y _ ey (List.getElem?_eq_getElem hj)) rx ry (by show A.units+1+n<cLine;omega)
          rw[all_true] at e
          exact SeqAt.EqAt.of_refs hab e
    | t h1 h2 h3 =>
      cases hy with
      | t g1 g2 g3 =>
        cases ru
        cases rv
        rename_i a xs ds b ys
        by_cases hab:a=b
        · subst hab
          exact SeqAt.EqAt.same _
        · obtain⟨us,r1,p1,_⟩:=I.tuple h1
          obtain⟨ws,r2,p2,_⟩:=I.tuple g1
          have e:=SeqAt.RcAt.tuples (A:=A) (e:=fun _=>true) (show s.heap.IsTuple a us.toArray from p1) (show s.heap.IsTuple b ws.toArray from p2) (by omega) fun j k1 k2=>by
            obtain⟨x,ex,rx⟩:=ix_of r1 k1
            obtain⟨y,ey,ry⟩:=ix_of r2 k2
            have hj:j<ds.length:=by
              have:=(List.getElem?_eq_some_iff.mp ex).1
              omega
            exact ih ds[j] x y _ _ A.in1 (h3 j x _ ex (List.getElem?_eq_getElem hj)) (g3 j y _ ey (List.getElem?_eq_getElem hj)) rx ry (by show A.units+1+n<cLine;omega)
          rw[all_true,Bool.true_and,show (us.toArray.size==ws.toArray.size)=true by rw[beq_iff_eq,List.size_toArray,List.size_toArray,← r1.length,← r2.length,h2,g2]] at e
          exact SeqAt.EqAt.of_refs hab e
theorem kids (I:Inv X pins σ H s) {n:Nat} {ds:List Dt} {xs ys:List V} {us ws:List Value} {A:Around} (r1:Vals xs us) (r2:Vals ys ws) (h2:xs.length=ds.length)
    (h3:∀ (j:Nat) x d,xs[j]? = some x→ds[j]? = some d→Is X.K H n x d) (g3:∀ (j:Nat) x d,ys[j]? = some x→ds[j]? = some d→Is X.K H n x d) (hu:A.units+(n+1)<cLine) :
    ∀ j (k1:j<us.toArray.size) (k2:j<ws.toArray.size),SeqAt.EqAt A.in1 s us.toArray[j] ws.toArray[j] ((fun _=>true) j):=fun j k1 k2=>by
  obtain⟨x,ex,rx⟩:=ix_of r1 k1
  obtain⟨y,ey,ry⟩:=ix_of r2 k2
  have hj:j<ds.length:=by
    have:=(List.getElem?_eq_some_iff.mp ex).1
    omega
  exact eqAt_same I n ds[j] x y _ _ A.in1 (h3 j x _ ex (List.getElem?_eq_getElem hj)) (g3 j y _ ey (List.getElem?_eq_getElem hj)) rx ry (by show A.units+1+n<cLine;omega)
end
section
variable {X:Cx}
noncomputable def isSeq:Dt→Bool
  | .v _=>false
  | _=>true
noncomputable def rSame (X:Cx) (neg:Bool):R2:=fun x y H Q=>∃ n d,isSeq d=true∧Is X.K H n x d∧Is X.K H n y d∧X.A.units+n<cLine∧Q (.bl (!neg)) H
theorem op_eqD:OpR X (compareOp .Eq) (rSame X false):=by
  intro pins s σ H x y v u Q I rx ry h
  obtain⟨n,d,hq,hx,hy,hu,q⟩:=h
  cases hx with
  | v f=>cases hq
  | l h1 h2 h3 =>
    cases hy with
    | l g1 g2 g3 =>
      cases rx
      cases ry
      obtain⟨us,r1,p1,_⟩:=I.list h1
      obtain⟨ws,r2,p2,_⟩:=I.list g1
      refine SeqAt.eq_listAt p1.isList p2.isList (by rw[List.size_toArray,List.size_toArray,← r1.length,← r2.length,h2,g2]) (by omega) (kids I r1 r2 h2 h3 g3 hu) ?_
      rw[all_true]
      exact⟨.bl true,H,I,rfl,q⟩
  | t h1 h2 h3 =>
    cases hy with
    | t g1 g2 g3 =>
      cases rx
      cases ry
      obtain⟨us,r1,p1,_⟩:=I.tuple h1
      obtain⟨ws,r2,p2,_⟩:=I.tuple g1
      refine SeqAt.eq_tupleAt (show s.heap.IsTuple _ us.toArray from p1) (show s.heap.IsTuple _ ws.toArray from p2) (by omega) (kids I r1 r2 h2 h3 g3 hu) ?_
      rw[all_true,Bool.true_and,show (us.toArray.size==ws.toArray.size)=true by rw[beq_iff_eq,List.size_toArray,List.size_toArray,← r1.length,← r2.length,h2,g2]]
      exact⟨.bl true,H,I,rfl,q⟩
theorem op_neD:OpR X (compareOp .NotEq) (rSame X true):=by
  intro pins s σ H x y v u Q I rx ry h
  obtain⟨n,d,hq,hx,hy,hu,q⟩:=h
  cases hx with
  | v f=>cases hq
  | l h1 h2 h3 =>
    cases hy with
    | l g1 g2 g3 =>
      cases rx
      cases ry
      obtain⟨us,r1,p1,_⟩:=I.list h1
      obtain⟨ws,r2,p2,_⟩:=I.list g1
      refine SeqAt.RcNeAt.lists (e:=fun _=>true) p1.isList p2.isList (by rw[List.size_toArray,List.size_toArray,← r1.length,← r2.length,h2,g2]) (by omega) (kids I r1 r2 h2 h3 g3 hu) _ _ _ _ ?_
      rw[all_true]
      exact⟨.bl false,H,I,rfl,q⟩
  | t h1 h2 h3 =>
    cases hy with
    | t g1 g2 g3 =>
      cases rx
      cases ry
      obtain⟨us,r1,p1,_⟩:=I.tuple h1
      obtain⟨ws,r2,p2,_⟩:=I.tuple g1
      refine SeqAt.RcNeAt.tuples (e:=fun _=>true) (show s.heap.IsTuple _ us.toArray from p1) (show s.heap.IsTuple _ ws.toArray from p2) (by omega) (kids I r1 r2 h2 h3 g3 hu) _ _ _ _ ?_
      rw[all_true,Bool.true_and,show (us.toArray.size==ws.toArray.size)=true by rw[beq_iff_eq,List.size_toArray,List.size_toArray,← r1.length,← r2.length,h2,g2]]
      exact⟨.bl false,H,I,rfl,q⟩
end
end L2
set_option maxHeartbeats 1000000
namespace SG
open PySem PyProof.Rows
class Rk where
  num:Value→Int
  knd:SortKind
variable [Rk]
noncomputable def K (xs:Array Keyed) (i:Nat):Int:=match xs[i]? with
  | some q=>Rk.num q.1
  | none=>0
noncomputable def SortedTo (xs:Array Keyed) (n:Nat):Prop:=∀ a b,a≤b→b<n→K xs a≤K xs b
structure SBase (b₀:Array Keyed) (st:SortSt):Prop where
  perm:(arrOf st).Perm b₀
  kind:kindOf st=Rk.knd
  failed:failedOf st=none
  pend:pendingOf st = #[]
noncomputable def Cmp (prog:Program) (w:World) (A:Around) (s:Shared) (b₀:Array Keyed):Prop :=
  ∀ p∈b₀.toList,∀ q∈b₀.toList,∀ (Q:Bool→Shared→Prop) (E:Value→Shared→Prop),Q (decide (Rk.num p.1<Rk.num q.1)) s→wpAny (model prog w) A (keyLt' Rk.knd p.1 q.1) Q E s
section
variable {prog:Program} {w:World} {A:Around} {E:Value→Shared→Prop} {s:Shared} {b₀:Array Keyed}
end
end SG
namespace SG
open PySem PyProof.Rows
variable [Rk]
noncomputable abbrev ky (p:Keyed):Int:=Rk.num p.1
noncomputable def put (x:Keyed) (l:List Keyed):List Keyed:=l.takeWhile (fun y=>decide (ky y≤ky x))++x::l.dropWhile (fun y=>decide (ky y≤ky x))
noncomputable def srt (l:List Keyed):List Keyed:=l.foldl (fun acc x=>put x acc) []
noncomputable abbrev Up (l:List Keyed):Prop:=l.Pairwise fun a b=>ky a≤ky b
end SG
namespace SG
open PySem PyProof.Rows
variable [Rk]
section
variable {prog:Program} {w:World} {A:Around} {E:Value→Shared→Prop} {s:Shared} {b₀:Array Keyed}
structure Got (b₀:Array Keyed) (st:SortSt) (n:Nat):Prop where
  base:SBase b₀ st
  list:(arrOf st).toList=srt (b₀.toList.take n)++b₀.toList.drop n
end
end SG
namespace SG
open PySem PyProof.Rows
variable [Rk]
section
variable {prog:Program} {w:World} {A:Around} {E:Value→Shared→Prop} {s:Shared} {b₀:Array Keyed}
structure Fall (b₀:Array Keyed) (st:SortSt) (x q:Nat) (xs b:List Keyed) (v:Int):Prop where
  base:SBase b₀ st
  cut:b₀.toList.take x=xs++b
  list:(arrOf st).toList=(srt xs).reverse++(b++b₀.toList.drop x)
  len:b.length=q+1
  same:∀ y∈b,ky y=v
  less:∀ y∈xs,v<ky y
end
end SG
namespace SS
open PySem PyProof.Rows
@[reducible] noncomputable def rk:SG.Rk:=⟨numOf,oneType'⟩
noncomputable local instance:SG.Rk:=rk
noncomputable abbrev ky (p:Keyed):Int:=numOf p.1
noncomputable abbrev put (x:Keyed) (l:List Keyed):List Keyed:=@SG.put rk x l
noncomputable abbrev srt (l:List Keyed):List Keyed:=@SG.srt rk l
noncomputable abbrev Up (l:List Keyed):Prop:=@SG.Up rk l
end SS
namespace L2
open PySem PySem.Spec PyProof.Rows
noncomputable abbrev lamEnv (qual:Str) (scope:Scope) (cl:List (Str × Addr)) (f c':Addr) (C:Addr):Env:=PySem.W.envX qual scope C f (.ref c') cl
noncomputable def cxLam (X:Cx) (A:Around) (Nc:List Str) (qual:Str) (scope:Scope) (cl:List (Str × Addr)) (f c':Addr) (s:Shared) (H:Hp):Cx :=
  { X with A:=A.deeper (lamEnv qual scope cl f c' s.heap.objs.size),N:=Nc,s₀:=s,H₀:=H,env:=lamEnv qual scope cl f c' s.heap.objs.size,outer:=X.stack,stack:=lamEnv qual scope cl f c' s.heap.objs.size::X.stack,ex:=[],fn:=fun _=>false,pn:=[],xe:=fun _ _=>False }
structure LamOk (X:Cx) (p:Str) (Nr:List Str) (scope:Scope) (cl:List (Str × Addr)) (src:List (Option Nat)):Prop where
  clos:closureFor scope X.env=pure cl
  kind:scope.kind = .function
  co:scope.isCoroutine=false
  gen:scope.isGenerator=false
  cell:∀ y∈scope.names,y.2≠.cell
  par:scope.names.lookup p=some .local
  sub:∀ x c,cl.lookup x=some c→X.env.cells.lookup x=some c
  has:∀ x,(scope.names.lookup x=some .cell∨scope.names.lookup x=some .free)→∃ c,cl.lookup x=some c
  frm:∀ (i j:Nat),src[i]? = some (some j)→∃ x,Nr[i]? = some x∧X.N[j]? = some x∧X.env.scope.names.lookup x=some .cell∧scope.names.lookup x=some .free
  len:src.length=Nr.length
section
variable {X:Cx} {A:Around} {p:Str} {Nr:List Str} {scope:Scope} {cl:List (Str × Addr)} {src:List (Option Nat)} {pins:List (Addr × Obj)} {σ:St} {H:Hp} {s:Shared} {f c':Addr} {name qual:Str} {params:Arguments} {body:Expr} {pm ctv u:Value} {v:V} {te:TE} {Q:VK}
end
end L2
namespace SS
open PySem PyProof.Rows
noncomputable def iput (k:Nat→Int) (x:Nat) (l:List Nat):List Nat:=l.takeWhile (fun y=>decide (k y≤k x))++x::l.dropWhile (fun y=>decide (k y≤k x))
noncomputable def iord (k:Nat→Int) (l:List Nat):List Nat:=l.foldl (fun acc x=>iput k x acc) []
end SS
namespace SG
open PySem PyProof.Rows
variable [Rk]
end SG
namespace SS
open PySem PyProof.Rows
end SS
namespace L2
open PySem PySem.Spec PyProof.Rows
section
variable {X:Cx} {A:Around} {E:Value→Shared→Prop} {pins:List (Addr × Obj)} {σ:St} {H:Hp} {s:Shared} {a kS:Addr} {e e1:Nat} {keys:Array Value} {vs:List Value} {kz:List Int} {P:PySem.Fin→Shared→Prop}
end
section
variable {X:Cx} {A:Around} {E:Value→Shared→Prop} {pins:List (Addr × Obj)} {σ:St} {H:Hp} {s:Shared} {r q:Addr} {xs:List V} {k:Nat→Int} {Q:VK}
noncomputable def RngCome (s:Shared) (lo:Int) (n:Nat) (w:Result) (s':Shared):Prop:=∃ h' tk acc c,w = .ok (.ret (.ref s.heap.objs.size))∧s' = { s with heap:=h',toks:=tk }∧(∀ b o,s.heap.get? b=some o→h'.get? b=some o)∧h'.get? s.heap.objs.size=some { cls:=.type "list",dict:=none,data:=.seq acc c,slots:=#[] }∧ItemsOf (fun i v=>∃ t,v = .int (lo+i*1) t) acc n
end
open PySem.W
structure LamHd (X:Cx) (c P:Addr):Prop where
  code:X.env.code = .ref c
  hd:CodeHd X.base c P
  bm:∃ bm o,X.mg "__builtins__" = some (.ref bm)∧bm≠builtinsNs∧bm≠mainGlobals∧X.base.get? bm=some o∧o.cls = .type "module"∧o.dict=some builtinsNs∧o.data = .plain
noncomputable def LamAt (H:Hp) (c':Addr) (qual:Str):Prop:=∃ oc vs t u,H c'=some (.frz oc u)∧oc.data = .fields vs∧vs[1]? = some (.str qual t)
noncomputable def LamTab (H:Hp) (P:Addr) (pos:Pos) (qual:Str):Prop :=
  ∃ ps,H P=some (.tbl ps)∧TriplesOk ps.toList∧(codeAmong pos ps.toList=none∨∃ c',codeAmong pos ps.toList=some (.ref c')∧LamAt H c' qual)
noncomputable def LamNext (H H':Hp) (P:Addr):Prop:=∀ b o,b≠P→H b=some o→H' b=some o
section
variable {X:Cx} {p:Str} {Nr:List Str} {scope:Scope} {cl:List (Str × Addr)} {src:List (Option Nat)} {pins:List (Addr × Obj)} {σ:St} {H:Hp} {s:Shared} {c P:Addr} {params:Arguments} {body:Expr} {pos:Pos} {E:Value→Shared→Prop}
noncomputable def LamCome (X:Cx) (pins:List (Addr × Obj)) (σ:St) (H:Hp) (P:Addr) (pos:Pos) (qual:Str) (params:Arguments) (body:Expr) (scope:Scope) (cl:List (Str × Addr)) (w:Value) (s':Shared):Prop :=
  ∃ f c' pm ctv H',w = .ref f∧Inv X pins σ H' s'∧LamNext H H' P∧LamTab H' P pos qual∧LamAt H' c' qual∧FpOk X pins H' f∧s'.heap.get? f=some (kla_obj "<lambda>" qual params body scope cl pm c' ctv)
end
end L2
namespace L2
open PySem PySem.Spec PyProof.Rows
noncomputable def FnAt (K:PySem.W.Frag) (x:Str) (st:Stmt):Prop:=∃ f fd,PySem.W.nsIn K mainGlobals x=some (some (.ref f))∧Fun K x x st f fd
section
variable {P:Program} {w:World} {K:PySem.W.Frag} {mg:Str→Option Value} {base:Heap} {x:Str} {st:Stmt} {CX:CXT} {k:Nat} {ps:List Str} {sp:Sp} {h0:Heap}
theorem FnAt.cal (h:FnAt K x st) (X:K.In h0) (G:h0.Ns mainGlobals mg)
    (hb:∀ (kV doc pm:Value) (an:Option Addr) (cdv ct:Value) (us:List Value),us.length=ps.length→bindArgs (PySem.W.fnOf x x (defArgs st) (defBody st) (defScope st) .none kV doc pm an cdv ct) ⟨us,[]⟩=pure (ps.zip us))
    (ok:∀ f fd,Fun K x x st f fd→FnOk P w K mg base CX k f fd ps sp):Cal P w K mg base CX k x ps sp:=by
  obtain⟨f,fd,a,F⟩:=h
  exact⟨f,fd,PySem.W.mg_of X G a,F.kp,F.binds hb,ok f fd F⟩
theorem FnAt.calQ (h:FnAt K x st) (X:K.In h0) (G:h0.Ns mainGlobals mg)
    (hb:∀ (kV doc pm:Value) (an:Option Addr) (cdv ct:Value) (us:List Value),us.length=ps.length→bindArgs (PySem.W.fnOf x x (defArgs st) (defBody st) (defScope st) .none kV doc pm an cdv ct) ⟨us,[]⟩=pure (ps.zip us))
    (ok:∀ f fd,Fun K x x st f fd→FnOkQ P w K mg base k f fd ps sp):CalQ P w K mg base k x ps sp:=by
  obtain⟨f,fd,a,F⟩:=h
  exact⟨f,fd,PySem.W.mg_of X G a,F.kp,F.binds hb,ok f fd F⟩
end
theorem ulen1 {α:Type} {us:List α} (h:us.length=1):∃ a,us=[a]:=by
  match us,h with
  | [a],_=>exact⟨a,rfl⟩
theorem ulen2 {α:Type} {us:List α} (h:us.length=2):∃ a b,us=[a,b]:=by
  match us,h with
  | [a,b],_=>exact⟨a,b,rfl⟩
theorem ulen3 {α:Type} {us:List α} (h:us.length=3):∃ a b c,us=[a,b,c]:=by
  match us,h with
  | [a,b,c],_=>exact⟨a,b,c,rfl⟩
theorem ulen4 {α:Type} {us:List α} (h:us.length=4):∃ a b c d,us=[a,b,c,d]:=by
  match us,h with
  | [a,b,c,d],_=>exact⟨a,b,c,d,rfl⟩
theorem ulen5 {α:Type} {us:List α} (h:us.length=5):∃ a b c d e,us=[a,b,c,d,e]:=by
  match us,h with
  | [a,b,c,d,e],_=>exact⟨a,b,c,d,e,rfl⟩
open PySem.W
noncomputable def BMain (mg:Str→Option Value) (base:Heap):Prop:=∃ bm o,mg "__builtins__" = some (.ref bm)∧bm≠builtinsNs∧bm≠mainGlobals∧base.get? bm=some o∧o.cls = .type "module"∧o.dict=some builtinsNs∧o.data = .plain
noncomputable def OnlyT (tabs:List (Addr × Addr)) (H:Hp):Prop:=∀ b,H b=none∨(∃ o xs,H b=some (.frz o (.lst xs)))∨((∃ q∈tabs,q.2=b)∧H b=some (.tbl #[]))
end L2
namespace SS
end SS
namespace L2
open PySem PySem.Spec PyProof.Rows PySem.W
section
variable {prog:Program} {w:World} {A:Around} {E:Value→Shared→Prop} {s:Shared}
end
noncomputable def rSortTup:List V→Hp→VK→Prop:=fun xs H Q=>∃ (a:Addr) (ts:List V) (nsOf:Nat→List Int) (rk:Nat→Int),xs=[.ref a]∧H a=some (.lst ts)∧ts.length<64 ∧
  (∀ i,i<ts.length→∃ t,ts[i]? = some (.ref t)∧H t=some (.tup ((nsOf i).map V.int))∧nsOf i≠[])∧(∀ i j,i<ts.length→j<ts.length→HT.lexLt (nsOf i) (nsOf j)=decide (rk i<rk j)) ∧
  New H (.lst ((SS.iord rk (List.range ts.length)).map fun i=>ts.getD i .non)) Q
section
variable {X:Cx} {A:Around} {E:Value→Shared→Prop} {pins:List (Addr × Obj)} {σ:St} {H:Hp} {s:Shared} {a:Addr} {its:List Value} {ts:List V} {nsOf:Nat→List Int} {rk:Nat→Int} {P:PySem.Fin→Shared→Prop}
noncomputable def TupAt (H:Hp) (ts:List V) (its:List Value) (nsOf:Nat→List Int):Prop:=Vals ts its∧∀ i,i<ts.length→∃ t,ts[i]? = some (.ref t)∧H t=some (.tup ((nsOf i).map V.int))∧nsOf i≠[]
open Classical in
noncomputable def rankOf (its:List Value) (rk:Nat→Int):Value→Int:=fun v=>if h:∃ i,its[i]? = some v then rk h.choose else 0
end
end L2
namespace L2
open PySem PySem.Spec PyProof.Rows
section
variable {X:Cx}
end
open PySem.W
noncomputable def tSortK (P:Addr) (lpos:Pos) (qual:Str) (src:List (Option Nat)) (ta:TA) (te:TE):TE:=fun σ H Q=>ta σ H fun vs H1=>∃ (n:Nat) (k:Nat→Int),vs=[.int n]∧n<64∧LamTab H1 P lpos qual ∧
  ∀ H2,LamNext H1 H2 P→LamTab H2 P lpos qual→(∀ i,i<n→te (some (.int i)::capt src σ) H2 fun x H'=>x = .int (k i)∧H'=H2)∧∀ D,H2 D=none→Q (.ref D) (upd H2 D (.lst ((SS.iord k (List.range n)).map fun i=>.int (i:Nat))))
section
variable {X:Cx} {p:Str} {Nr:List Str} {scope:Scope} {cl:List (Str × Addr)} {src:List (Option Nat)} {c P:Addr} {params:Arguments} {body a:Expr} {pos lpos kpos p1 p2 p3:Pos} {ta:TA} {te:TE}
end
end L2
namespace L2
open PySem PySem.Spec PyProof.Rows
theorem boot_all:bootBuiltins "all" = some (.builtin "all"):=by kernel_rfl
theorem has_of {l:List (Str × NameKind)} {cl:List (Str × Addr)} (h:l.all (fun y=>match y.2 with | .cell | .free=>(cl.lookup y.1).isSome | _=>true)=true) (x:Str) (z:l.lookup x=some .cell∨l.lookup x=some .free):∃ c,cl.lookup x=some c:=by
  rcases z with z | z
  · have:=List.all_eq_true.mp h _ (PySem.mem_of_lookup z)
    exact Option.isSome_iff_exists.mp this
  · have:=List.all_eq_true.mp h _ (PySem.mem_of_lookup z)
    exact Option.isSome_iff_exists.mp this
theorem sub_of {cl cs:List (Str × Addr)} (h:∀ q∈cl,cs.lookup q.1=some q.2) (x:Str) (c:Addr) (z:cl.lookup x=some c):cs.lookup x=some c:=h _ (PySem.mem_of_lookup z)
theorem frm_nil {C:Nat→Nat→Prop} (i j:Nat) (z:([]:List (Option Nat))[i]? = some (some j)):C i j:=by simp at z
theorem frm_none {l:List (Option Nat)} {C:Nat→Nat→Prop} (h:∀ i j,l[i]? = some (some j)→C (i+1) j) (i j:Nat) (z:(none::l)[i]? = some (some j)):C i j:=by
  cases i with
  | zero=>simp at z
  | succ i=>exact h i j (by simpa using z)
theorem frm_some {l:List (Option Nat)} {k:Nat} {C:Nat→Nat→Prop} (h0:C 0 k) (h:∀ i j,l[i]? = some (some j)→C (i+1) j) (i j:Nat) (z:(some k::l)[i]? = some (some j)):C i j:=by
  cases i with
  | zero =>
    have:some k=some j:=by simpa using z
    cases this
    exact h0
  | succ i=>exact h i j (by simpa using z)
section
variable {X:Cx} {a b c:Expr} {ta:TA} {te:TE} {p1 p2 p3 pos:Pos}
noncomputable def RngHere (X:Cx) (pins:List (Addr × Obj)) (σ:St) (R:Int→Int→Hp→Prop) (w:Value) (s':Shared):Prop :=
  ∃ r i j t u v H1,w = .ref r∧Inv X pins σ H1 s'∧IsRange s'.heap r i j 1 t u v∧(-(2 ^ 62)≤i∧i<2 ^ 62∧-(2 ^ 62)≤j∧j<2 ^ 62)∧R i j H1
noncomputable def tRng2 (ta:TA) (σ:St) (H:Hp) (R:Int→Int→Hp→Prop):Prop:=ta σ H fun vs H1=>∃ i j:Int,vs=[.int i,.int j]∧(-(2 ^ 62)≤i∧i<2 ^ 62∧-(2 ^ 62)≤j∧j<2 ^ 62)∧R i j H1
noncomputable def tListRng (ta:TA):TE:=fun σ H Q=>tRng2 ta σ H fun i j H1=>(j - i).toNat≤2 ^ 24∧New H1 (.lst ((List.range (j - i).toNat).map fun k=>.int (i+(k:Nat)))) Q
noncomputable def tInRng (te:TE) (ta:TA):TT:=fun σ H Q=>te σ H fun x H1=>∃ n,x = .int n∧tRng2 ta σ H1 fun i j H2=>Q (decide (i≤n∧n<j)) H2
end
section
variable {X:Cx} {elt iter tgt:Expr} {ifs:List Expr} {scope:Scope} {cl:List (Str × Addr)} {Nc:List Str} {src:List (Option Nat)} {g:TG} {tt:TT} {te:TE}
theorem ps_setC {i:Nat} {x:Str} {wi:TI} {pos pos' cpos:Pos} (hN:X.N.Nodup) (hx:X.N[i]? = some x) (hl:X.env.scope.names.lookup x=some .local) (c:CompOk X Nc scope cl src) (hcalm:X.calm=true) (hi:PI X tgt iter wi)
    (hb:∀ fp C s' H',PG (cxCompF X Nc scope cl C fp s' H') tgt g∧PIf (cxCompF X Nc scope cl C fp s' H') ifs tt∧PE (cxCompF X Nc scope cl C fp s' H') elt te)
    (hsw:swapsWith (.ListComp elt [⟨tgt,iter,ifs,0⟩] scope cpos) (some (.Name x pos')) pos.line X.env=pure true:=by rfl)
    (hs:∀ x,foldedSetIterable iter X.env x=pure x:=by intro _;rfl):PS X (.Assign [.Name x pos'] (.ListComp elt [⟨tgt,iter,ifs,0⟩] scope cpos) pos) (tAsg (tCompI src wi g tt te) (gName i)):=by
  intro pins s σ H D I h
  rw[exec_Assign_Name_used _ _ _ _ hsw]
  refine wpAny_bind (wpAny_standAt (wpAny_bind ?_))
  show wpAny _ X.A (do let _ ← comprehension (.ListComp elt [⟨tgt,iter,ifs,0⟩] scope cpos) scope X.env _ (newList []) false (eval iter X.env) (some (assign (.Name x pos') X.env))) _ _ s
  refine wpAny_bind (wpAny_mono (wpAny_comprehension_free (use:=some (assign (.Name x pos') X.env)) (Q:=fun _ s'=>∃ σ' H',Inv X pins σ' H' s'∧D.nx σ' H') rfl hs c.clos c.kind c.names (thn (hi pins s σ H _ I h) fun v s1 h1=>thn h1 fun itv s2 h2=>?_)) (fun _ s' hq=>wpAny_pure (wpAny_pure hq)) fun _ _ z=>z)
  obtain⟨it,fp,tn,J,H2,e,I2,T,st2,f2,hT⟩:=h2
  subst e
  refine wpAny_newObj_type ?_ (by size_fits)
  have old:∀ b o,s2.heap.get? b=some o→(s2.heap.push { cls:=.type "list",data:=.seq ([]:List Value).toArray }).get? b=some o:=fun b o e=>Heap.get?_push_of_some _ e
  have I3:=I2.laid (a:=s2.heap.objs.size) (o:=.lst []) (t':=s2.toks) (h':=s2.heap.push { cls:=.type "list",data:=.seq ([]:List Value).toArray }) old (Nat.le_refl _) ⟨Nat.zero_le _,[],0,.nil,Heap.get?_push_size _ rfl⟩
  have ne:∀ b∈fp,b≠s2.heap.objs.size:=fun b hb=>by
    obtain⟨o,e,_⟩:=T.obj 0 _ st2 b hb
    exact Nat.ne_of_lt (Heap.lt_size e)
  have f3:∀ b∈fp,FpOk X pins (upd H2 s2.heap.objs.size (.lst [])) b:=fun b hb=>⟨by rw[upd_ne (ne b hb)];exact (f2 b hb).1,(f2 b hb).2⟩
  refine comp_blockI (it:=it) (R:=fun C=>compPost (model X.prog X.w) X.A X.xe (some (assign (.Name x pos') X.env)) (fun _ s'=>∃ σ' H',Inv X pins σ' H' s'∧D.nx σ' H') _ C) c hcalm I3 T (T.keep _ _ _ st2 fun b _ o e=>old b o e) f3 (hb fp) (hT _ (I2.hok.fresh (Nat.le_refl _))) fun C ys σ' H' s' hC J' hD q=>?_
  obtain⟨m,hn,_⟩:=id J'.loc
  have B:Inv X pins σ H' s':=comp_backI I3 f3 J' ⟨rfl,fun _ _=>rfl⟩
  have Cge:∀ b o,(s2.heap.push { cls:=.type "list",data:=.seq ([]:List Value).toArray }).get? b=some o→b≠C:=fun b o e=>Nat.ne_of_lt (Nat.lt_of_lt_of_le (Heap.lt_size e) J'.ok.above)
  have CL:C≠X.env.locals:=fun z=>by
    obtain⟨m3,⟨o,_,_,ho,_⟩,_⟩:=I3.loc
    exact Cge _ o ho z.symm
  refine wpAny_assign_Name (store_ok2 B hN hx (.inl hl) (v:=.ref s2.heap.objs.size) rfl (fun s5 I5 hsb=>?_) (.inr hl))
  obtain⟨a,sb,ha⟩:=hsb
  have aL:a≠C:=by
    rcases ha with rfl | ha
    · exact CL.symm
    · obtain⟨v,o,ho,_⟩:=I3.cell x a ha
      exact Cge _ o ho
  refine⟨m,hn.sameBut sb aL.symm,fun h' hs'=>⟨_,H',I5.turned (t':=s5.toks) (fun b o n e=>(hs'.2 b n).trans e) J'.free CL ?_ (fun y b e z=>?_) (fun p hp z=>?_),q⟩⟩
  · exact .inr (Heap.get?_none_of_le (Nat.le_trans I3.sz J'.ok.above))
  · obtain⟨v,o,ho,_⟩:=I3.cell y b e
    exact Cge _ o ho z
  · exact Cge _ _ (I3.pin p hp).1 z
end
end L2
namespace L2
open PySem
end L2
namespace Pg
open PySem L2
structure Glb (mg:Str→Option Value):Prop where
  isinstance:mg "isinstance" = none
  int:mg "int" = none
  bool:mg "bool" = none
  str:mg "str" = none
  len:mg "len" = none
  range:mg "range" = none
  ve:mg "ValueError" = none
  list:mg "list" = none
  tuple:mg "tuple" = none
  dict:mg "dict" = none
  set:mg "set" = none
  all:mg "all" = none
  any:mg "any" = none
  sum:mg "sum" = none
  sorted:mg "sorted" = none
  abs:mg "abs" = none
  max:mg "max" = none
  min:mg "min" = none
  zip:mg "zip" = none
  enumerate:mg "enumerate" = none
  reversed:mg "reversed" = none
structure Er (K:PySem.W.Frag) (mg:Str→Option Value) (x:Str) (c:Addr):Prop where
  at':mg x=some (.ref c)
  ex:PySem.W.excIn K c veMro "ValueError.__new__" = true
noncomputable def Num (mg:Str→Option Value) (x:Str) (n:Int):Prop:=∃ t,mg x=some (.int n t)
noncomputable def Txt (mg:Str→Option Value) (x:Str) (z:Str):Prop:=∃ t,mg x=some (.str z t)
structure Kds (mg:Str→Option Value) (d:Nat→Addr):Prop where
  g0:mg "BadAmount" = some (.ref (d 0))
  g1:mg "BadShare" = some (.ref (d 1))
  g2:mg "BadText" = some (.ref (d 2))
  g3:mg "BadMonth" = some (.ref (d 3))
  g4:mg "BadYear" = some (.ref (d 4))
  g5:mg "BadRule" = some (.ref (d 5))
  g6:mg "BadBook" = some (.ref (d 6))
  g7:mg "NoYear" = some (.ref (d 7))
  g8:mg "BadDay" = some (.ref (d 8))
  g9:mg "BadEntry" = some (.ref (d 9))
  g10:mg "NoMark" = some (.ref (d 10))
  g11:mg "NoPerson" = some (.ref (d 11))
  g12:mg "TooMany" = some (.ref (d 12))
  g13:mg "BadClose" = some (.ref (d 13))
  g14:mg "BadLine" = some (.ref (d 14))
structure KdOf (K:PySem.W.Frag) (d:Nat→Addr) (C:Addr) (i:Nat):Prop where
  cls:XK.ExcCls K C
  ve:PySem.W.kitOne K (.ref C) (.type "ValueError")=some true
  k0:PySem.W.kitOne K (.ref C) (.ref (d 0))=some (decide (i=0))
  k1:PySem.W.kitOne K (.ref C) (.ref (d 1))=some (decide (i=1))
  k2:PySem.W.kitOne K (.ref C) (.ref (d 2))=some (decide (i=2))
  k3:PySem.W.kitOne K (.ref C) (.ref (d 3))=some (decide (i=3))
  k4:PySem.W.kitOne K (.ref C) (.ref (d 4))=some (decide (i=4))
  k5:PySem.W.kitOne K (.ref C) (.ref (d 5))=some (decide (i=5))
  k6:PySem.W.kitOne K (.ref C) (.ref (d 6))=some (decide (i=6))
  k7:PySem.W.kitOne K (.ref C) (.ref (d 7))=some (decide (i=7))
  k8:PySem.W.kitOne K (.ref C) (.ref (d 8))=some (decide (i=8))
  k9:PySem.W.kitOne K (.ref C) (.ref (d 9))=some (decide (i=9))
  k10:PySem.W.kitOne K (.ref C) (.ref (d 10))=some (decide (i=10))
  k11:PySem.W.kitOne K (.ref C) (.ref (d 11))=some (decide (i=11))
  k12:PySem.W.kitOne K (.ref C) (.ref (d 12))=some (decide (i=12))
  k13:PySem.W.kitOne K (.ref C) (.ref (d 13))=some (decide (i=13))
  k14:PySem.W.kitOne K (.ref C) (.ref (d 14))=some (decide (i=14))
structure Rz (K:PySem.W.Frag) (d:Nat→Addr) (cR:Addr) (i:Nat):Prop where
  ex:PySem.W.exmOne K (.ref (d i)) (.ref cR)=some true
  kd:KdOf K d (d i) i
noncomputable def kPairs (i:Nat):List (Str × Bool):=[("amount",decide (i=0)),("share",decide (i=1)),("text",decide (i=2)),("month",decide (i=3)),("year",decide (i=4)),("rule",decide (i=5)),("book",decide (i=6)),("noyear",decide (i=7)),("day",decide (i=8)),("entry",decide (i=9)),("nomark",decide (i=10)),("noperson",decide (i=11)),("many",decide (i=12)),("close",decide (i=13)),("line",decide (i=14))]
noncomputable def kWord (i:Nat):List V:=((kPairs i).filter (·.2)).map (fun p=>V.str p.1)++[.str "value"]
noncomputable def sp_kind (K:PySem.W.Frag) (d:Nat→Addr):Sp:=fun vs H Q _=>∃ ea C i,vs=[.ref ea]∧Held K H ea C∧KdOf K d C i∧∀ l H',Same H H'→H l=none→H' l=some (.lst (kWord i))→Q (.ref l) H'
noncomputable def sp_is_number (K:PySem.W.Frag):Sp:=fun vs H Q _=>∃ v,vs=[v]∧((∃ z,v = .int z∧Q (.bl true) H)∨(NoNum K H v∧Q (.bl false) H))
noncomputable def sp_within (K:PySem.W.Frag):Sp:=fun vs H Q _=>∃ v a b,vs=[v,.int a,.int b]∧((∃ z,v = .int z∧Q (.bl (decide (a≤z∧z≤b))) H)∨(NoNum K H v∧Q (.bl false) H))
noncomputable def sp_need_amount (K:PySem.W.Frag) (cA:Addr):Sp:=fun vs H Q E=>∃ v,vs=[v]∧((∃ z,v = .int z∧Q .non H)∨(NoNum K H v∧E (.ref cA) none H))
noncomputable def NotTo (K:PySem.W.Frag) (H:Hp) (m:Int) (v:V):Prop:=NoNum K H v∨∃ z,v = .int z∧¬ (0≤z∧z≤m)
noncomputable def sp_need (K:PySem.W.Frag) (c:Addr) (m:Int):Sp:=fun vs H Q E=>∃ v,vs=[v]∧((∃ z,v = .int z∧0≤z∧z≤m∧Q .non H)∨(NotTo K H m v∧E (.ref c) none H))
noncomputable def sp_cell (K:PySem.W.Frag):Sp:=fun vs H Q _=>∃ a k ns,vs=[.ref a,.int k]∧SqL K H a (ns.map V.int)∧0≤k∧Q (.int (cellZ ns k)) H
noncomputable def sp_mixed (K:PySem.W.Frag):Sp:=fun vs H Q _=>∃ a k ns,vs=[.ref a,.int k]∧SqL K H a (ns.map V.int)∧0≤k∧k≤1000∧Q (.int (mixZ ns k)) H
noncomputable def sp_whole:Sp:=fun vs H Q _=>∃ z,vs=[.int z]∧Q (.bl true) H
noncomputable def sp_lawS (K:PySem.W.Frag):Sp:=fun vs H Q _=>∃ (a:Addr) (ns:List Int),vs=[.ref a]∧SqL K H a (ns.map V.int)∧∀ H',Q (.bl true) H'
theorem sub1 {cs:List (Str × Addr)} {k:Str} {a:Addr} (h:cs.lookup k=some a):∀ q∈[(k,a)],cs.lookup q.1=some q.2:=fun q hq=>by rw[List.mem_singleton.mp hq];exact h
theorem subN {cs cl:List (Str × Addr)} {k:Str} {a:Addr} (h:cs.lookup k=some a) (t:∀ q∈cl,cs.lookup q.1=some q.2):∀ q∈(k,a)::cl,cs.lookup q.1=some q.2:=fun q hq=>by
  rcases List.mem_cons.mp hq with rfl | hq
  · exact h
  · exact t q hq
noncomputable def sp_year_of (K:PySem.W.Frag) (c:Addr):Sp:=fun vs H Q E=>∃ v,vs=[v]∧((∃ z,v = .int z∧0≤z∧z≤119999∧Q (.int (z/12)) H)∨(NotTo K H 119999 v∧E (.ref c) none H))
noncomputable def sp_place_of (K:PySem.W.Frag) (c:Addr):Sp:=fun vs H Q E=>∃ v,vs=[v]∧((∃ z,v = .int z∧0≤z∧z≤119999∧Q (.int (z%12+1)) H)∨(NotTo K H 119999 v∧E (.ref c) none H))
noncomputable def monthsL (i:Int) (n:Nat):List V:=(List.range n).map fun k=>.int (i+(k:Nat))
noncomputable def sp_months_of (K:PySem.W.Frag) (c:Addr):Sp:=fun vs H Q E=>∃ v,vs=[v]∧((∃ z,v = .int z∧0≤z∧z≤9999∧New H (.lst (monthsL (z*12) 12)) Q)∨(NotTo K H 9999 v∧E (.ref c) none H))
end Pg
namespace L2
open PySem PySem.Spec PyProof.Rows
noncomputable def CalM (P:Program) (w:World) (K:PySem.W.Frag) (mg:Str→Option Value) (base:Heap) (CX:CXT) (k:Nat) (C:Addr) (m:Str) (ps:List Str) (sp:Sp):Prop :=
  Cls K C∧∃ f fd,Meth K C m f∧Binds K fd ps []∧FnOk P w K mg base CX k f fd ps sp
noncomputable def CalN (P:Program) (w:World) (K:PySem.W.Frag) (mg:Str→Option Value) (base:Heap) (CX:CXT) (k:Nat) (x:Str) (C:Addr) (ps:List Str) (sp:Sp):Prop :=
  mg x=some (.ref C)∧∃ f fd,Mk K C f∧Binds K fd ps []∧FnOk P w K mg base CX k f fd ps sp
section
variable {X:Cx} {CX:CXT} {j k:Nat} {C:Addr} {ps:List Str} {sp:Sp} {x m:Str} {p apos pos:Pos} {o e:Expr} {es:List Expr} {ta:TE} {t:TA} {E:XK}
noncomputable def tMt (C:Addr) (m:Str) (sp:Sp) (E:XK) (ta:TE) (t:TA):TE:=fun σ H Q=>ta σ H fun x H1=>∃ a dx fs,x = .ref a∧H1 a=some (.ins C dx fs)∧fs.lookup m=none∧t σ H1 fun vs H2=>sp (x::vs) H2 Q E
theorem pe_calM {pl:Sem Bool} (M:CalM X.prog X.w X.K X.mg X.base CX k C m ps sp) (hr:Room j X.A) (hj:k≤j) (hx:Passes CX X E) (he:PE X o ta) (ha:PA X (e::es) t)
    (hst:starEach (e::es) X.env=(false,eval e X.env)::starEach es X.env:=by exact starEach_cons rfl) (hpl:(backTo pos (starEach es X.env)).any (·.1)=false:=by exact noStars rfl)
    (ht:eval (.Call (.Attribute o m apos) (e::es) [] pos) X.env=(do
      let ov ← eval o X.env
      standAt apos.atName
      let (f,first) ← holding [ov] (getMethod ov m pl)
      callWith pos f first (backTo pos (starEach (e::es) X.env)) (backToKw pos (keywordEach [] X.env))):=by rfl) :
    PE X (.Call (.Attribute o m apos) (e::es) [] pos) (tMt C m sp E ta t):=by
  obtain⟨c,f,fd,hm,hb,F⟩:=M
  intro pins s σ H Q I h
  refine pe_meth (dvs:=[]) he c hm F (hr.mono hj) hb .nil hx ha hst hpl ht pins s σ H Q I ?_
  unfold tMeth
  simp only[List.append_nil]
  exact h
theorem pe_calM0 {pl:Sem Bool} (M:CalM X.prog X.w X.K X.mg X.base CX k C m ps sp) (hr:Room j X.A) (hj:k≤j) (hx:Passes CX X E) (he:PE X o ta)
    (ht:eval (.Call (.Attribute o m apos) [] [] pos) X.env=(do
      let ov ← eval o X.env
      standAt apos.atName
      let (f,first) ← holding [ov] (getMethod ov m pl)
      callWith pos f first (backTo pos (starEach [] X.env)) (backToKw pos (keywordEach [] X.env))):=by rfl) :
    PE X (.Call (.Attribute o m apos) [] [] pos) (tMt C m sp E ta tNil):=by
  obtain⟨c,f,fd,hm,hb,F⟩:=M
  intro pins s σ H Q I h
  refine pe_meth0 (dvs:=[]) he c hm F (hr.mono hj) hb .nil hx ht pins s σ H Q I ?_
  unfold tMeth
  simp only[List.append_nil]
  exact h
noncomputable def tMk (C:Addr) (sp:Sp) (E:XK) (t:TA):TE:=fun σ H Q=>t σ H fun vs H1=>∀ x dx,H1 x=none→H1 dx=none→dx≠x →
  sp (.ref x::vs) (upd (upd H1 dx (.own x)) x (.ins C dx [])) (fun v H2=>v = .non∧Q (.ref x) H2) E
end
noncomputable def MtAt (K:PySem.W.Frag) (C:Addr) (m qual:Str) (st:Stmt):Prop:=∃ f fd,Meth K C m f∧Fun K m qual st f fd
noncomputable def NwAt (K:PySem.W.Frag) (C:Addr) (qual:Str) (st:Stmt):Prop:=∃ f fd,Mk K C f∧Fun K "__init__" qual st f fd
section
variable {P:Program} {w:World} {K:PySem.W.Frag} {mg:Str→Option Value} {base:Heap} {C:Addr} {x m qual:Str} {st:Stmt} {CX:CXT} {k:Nat} {ps:List Str} {sp:Sp}
theorem MtAt.cal (h:MtAt K C m qual st) (cl:Cls K C)
    (hb:∀ (kV doc pm:Value) (an:Option Addr) (cdv ct:Value) (us:List Value),us.length=ps.length→bindArgs (PySem.W.fnOf m qual (defArgs st) (defBody st) (defScope st) .none kV doc pm an cdv ct) ⟨us,[]⟩=pure (ps.zip us))
    (ok:∀ f fd,Fun K m qual st f fd→FnOk P w K mg base CX k f fd ps sp):CalM P w K mg base CX k C m ps sp:=by
  obtain⟨f,fd,M,F⟩:=h
  exact⟨cl,f,fd,M,F.binds hb,ok f fd F⟩
theorem NwAt.cal (h:NwAt K C qual st) (hm:mg x=some (.ref C))
    (hb:∀ (kV doc pm:Value) (an:Option Addr) (cdv ct:Value) (us:List Value),us.length=ps.length→bindArgs (PySem.W.fnOf "__init__" qual (defArgs st) (defBody st) (defScope st) .none kV doc pm an cdv ct) ⟨us,[]⟩=pure (ps.zip us))
    (ok:∀ f fd,Fun K "__init__" qual st f fd→FnOk P w K mg base CX k f fd ps sp):CalN P w K mg base CX k x C ps sp:=by
  obtain⟨f,fd,M,F⟩:=h
  exact⟨hm,f,fd,M,F.binds hb,ok f fd F⟩
end
end L2
namespace L2
open PySem PySem.W PySem.Calls PyProof.Rows
theorem frag_in (as:List Addr) (h:Heap):(fragAt as h).In h:=by
  intro a o e
  induction as with
  | nil=>cases e
  | cons b r ih =>
    unfold fragAt at e
    rw[List.filterMap_cons] at e
    cases q:h.get? b with
    | none=>rw[q] at e;exact ih e
    | some o' =>
      rw[q] at e
      by_cases c:a=b
      · subst c
        have e:List.lookup a ((a,o')::fragAt r h)=some o:=e
        rw[List.lookup_cons_self] at e
        cases e
        exact q
      · have e:List.lookup a ((b,o')::fragAt r h)=some o:=e
        rw[List.lookup_cons,show (a==b)=false from beq_eq_false_iff_ne.mpr c] at e
        exact ih e
section
variable {K:Frag} {v:Option (Option Value)} {x qual m:Str} {st:Stmt} {C a:Addr}
theorem fn_seen (h:fnSeen K v=fnWant x qual st):∃ f fd,v=some (some (.ref f))∧Fun K x qual st f fd∧isFn K (.ref f)=true∧keepIn K (.ref f)=true:=by
  unfold fnSeen fnWant at h
  split at h
  · rename_i f
    split at h
    · rename_i oc od fd osl e
      obtain⟨nm,qn,pr,bd,sc,gl,cl,df,kV,doc,pm,an,cdv,ct,bl⟩:=fd
      simp only[Option.some.injEq,FnSeen.mk.injEq,Bool.and_eq_true] at h
      obtain⟨rfl,rfl,rfl,rfl,rfl,rfl,rfl,rfl,rfl,⟨h1,h2⟩,h3⟩:=h
      exact⟨f,_,rfl,fun_mk e h1 h2,h3,h2⟩
    · cases h
  · cases h
theorem fnAt_seen (h:fnSeen K (nsIn K mainGlobals x)=fnWant x x st):FnAt K x st:=by
  obtain⟨f,fd,h1,h2,_,_⟩:=fn_seen h
  exact⟨f,fd,h1,h2⟩
theorem mtAt_seen (h:fnSeen K (findIn K (.ref C) m)=fnWant m qual st):MtAt K C m qual st:=by
  obtain⟨f,fd,h1,h2,h3,h4⟩:=fn_seen h
  exact⟨f,fd,⟨h1,h3,h4⟩,h2⟩
theorem nwAt_seen (h:fnSeen K (findIn K (.ref C) "__init__")=fnWant "__init__" qual st) (g:(makesIn K C&&keepIn K (.ref C))=true):NwAt K C qual st:=by
  obtain⟨f,fd,h1,h2,h3,_⟩:=fn_seen h
  obtain⟨g1,g2⟩:=Bool.and_eq_true_iff.mp g
  exact⟨f,fd,⟨g1,h1,h3,g2⟩,h2⟩
theorem no_of (h:isNo v=true):v=some none:=by
  unfold isNo at h
  split at h
  · rfl
  · cases h
theorem int_of {z:Int} (h:isInt z v=true):∃ t,v=some (some (.int z t)):=by
  unfold isInt at h
  split at h
  · rw[of_decide_eq_true h];exact⟨_,rfl⟩
  · cases h
theorem str_of {z:Str} (h:isStr z v=true):∃ t,v=some (some (.str z t)):=by
  unfold isStr at h
  split at h
  · rw[of_decide_eq_true h];exact⟨_,rfl⟩
  · cases h
theorem ref_of (h:isRef a v=true):v=some (some (.ref a)):=by
  unfold isRef at h
  split at h
  · rw[Nat.eq_of_beq_eq_true h]
  · cases h
theorem blt_of {z:String} (h:isBlt z v=true):v=some (some (.builtin z)):=by
  unfold isBlt at h
  split at h
  · rw[of_decide_eq_true h]
  · cases h
theorem b_of {b:Bool} {v:Option Bool} (h:isB b v=true):v=some b:=by
  unfold isB at h
  split at h
  · rw[eq_of_beq h]
  · cases h
theorem exc_seen {D:Addr} (h:excSeen K D=true):XK.ExcCls K D:=by
  unfold excSeen at h
  simp only[Bool.and_eq_true] at h
  obtain⟨⟨⟨⟨⟨⟨⟨h1,h2⟩,h3⟩,h4⟩,h5⟩,h6⟩,h7⟩,h8⟩:=h
  exact⟨h1,blt_of h2,no_of h3,blt_of h4,blt_of h5,b_of h6,b_of h7,b_of h8⟩
noncomputable def clsSeen (K:Frag) (C:Addr):Bool:=plainGet K C Str.empty&&hasDictIn K C&&plainOver K C&&isBlt "object.__setattr__" (findIn K (.ref C) "__setattr__")
end
theorem all_get {bs:List Bool} (h:bs.all id=true) {b:Bool} (i:Nat) (e:bs[i]? = some b):b=true:=List.all_eq_true.mp h b (List.mem_of_getElem? e)
theorem map_get {α β:Type} {l:List α} {f g:α→β} (h:l.map f=l.map g) {x:α} (i:Nat) (e:l[i]? = some x):f x=g x:=by
  have:(l.map f)[i]? = (l.map g)[i]?:=by rw[h]
  rw[List.getElem?_map,List.getElem?_map,e] at this
  exact Option.some.inj this
noncomputable def FactsIn {α:Type} (facts:Frag→α) (good:α) (_:World) (h:Heap):Prop:=∃ K:Frag,K.In h∧facts K=good
theorem facts_of {α:Type} {facts:Frag→α} {good:α} {as:List Addr} (w:World) (s:Shared) (e:facts (fragAt as s.heap)=good):FactsIn facts good w s.heap:=⟨_,frag_in as s.heap,e⟩
theorem facts_keep {α:Type} {facts:Frag→α} {good:α} (w:World) (h h':Heap) (y:FactsIn facts good w h) (k:∀ b o,h.get? b=some o→h'.get? b=some o):FactsIn facts good w h':=by
  obtain⟨K,X,e⟩:=y
  exact⟨K,X.keeps k,e⟩
theorem walk_ex {q:Program} {loose:List Str} {XP:(Str→Option Value)→Heap→Prop} {α:Type} {facts:Frag→α} {good:α} {r:RowW} {d:DefRec} {kwd:List (Str × Expr)} {run:Value→List Value→Sem Value}
    (h:∀ K:Frag,facts K=good→WalkO q loose XP (fun _ h=>K.In h) r d kwd run):WalkO q loose XP (FactsIn facts good) r d kwd run:=by
  intro w s₀ s₁ mg mb G Y
  obtain⟨K,X,e⟩:=Y
  exact h K e w s₀ s₁ mg mb G X
theorem def_get {q:Program} {n:Str} (h:(defOf q n).isSome=true) (k:((defOf q n).map (·.2.isEmpty))=some true):defOf q n=some (((defOf q n).get h).1,[]):=by
  obtain⟨⟨d,kwd⟩,e⟩:=Option.isSome_iff_exists.mp h
  have e2:(defOf q n).get h=(d,kwd):=Option.get_of_eq_some h e
  rw[e2,e]
  rw[e] at k
  have:kwd.isEmpty=true:=Option.some.inj k
  rw[List.isEmpty_iff.mp this]
end L2
namespace L2
open PySem PySem.Spec PyProof.Rows
structure ClsFn (K:PySem.W.Frag) (C:Addr) (m:Str) (f:Addr):Prop where
  ga:PySem.W.specialIn K (.ref C) "__getattribute__" = some (some (.builtin "type.__getattribute__"))
  rd:PySem.W.readsIn K C (.type "type")=true
  at_:PySem.W.findCls K (.ref C) (.type "type") m=some (.val (.ref f))
  kp:PySem.W.keepIn K (.ref f)=true
noncomputable def CalC (P:Program) (w:World) (K:PySem.W.Frag) (mg:Str→Option Value) (base:Heap) (CX:CXT) (k:Nat) (x m:Str) (ps:List Str) (sp:Sp):Prop :=
  ∃ C f fd,mg x=some (.ref C)∧ClsFn K C m f∧Binds K fd ps []∧FnOk P w K mg base CX k f fd ps sp
section
variable {X:Cx} {CX:CXT} {j k:Nat} {C:Addr} {ps:List Str} {sp:Sp} {x m:Str} {p apos pos:Pos} {o e:Expr} {es:List Expr} {ta:TE} {t:TA} {E:XK}
noncomputable def tCl (sp:Sp) (E:XK) (t:TA):TE:=fun σ H Q=>t σ H fun vs H2=>sp vs H2 Q E
theorem pe_calC {pl:Sem Bool} (M:CalC X.prog X.w X.K X.mg X.base CX k x m ps sp) (hr:Room j X.A) (hj:k≤j) (hx:Passes CX X E) (ha:PA X (e::es) t) (hg:Gl X x:=by rfl) (hdb:(x==("__debug__":Str))=false:=by decide)
    (hst:starEach (e::es) X.env=(false,eval e X.env)::starEach es X.env:=by exact starEach_cons rfl) (hpl:(backTo pos (starEach es X.env)).any (·.1)=false:=by exact noStars rfl)
    (ht:eval (.Call (.Attribute (.Name x p) m apos) (e::es) [] pos) X.env=(do
      let ov ← eval (.Name x p) X.env
      standAt apos.atName
      let (f,first) ← holding [ov] (getMethod ov m pl)
      callWith pos f first (backTo pos (starEach (e::es) X.env)) (backToKw pos (keywordEach [] X.env))):=by rfl) :
    PE X (.Call (.Attribute (.Name x p) m apos) (e::es) [] pos) (tCl sp E t):=by
  obtain⟨C,f,fd,hm,c,hb,F⟩:=M
  intro pins s σ H Q I h
  refine PySem.W.methodCall_KW (pl:=pl) (thn (pe_glob (v:=.ref C) hg hm rfl hdb pins s σ H (fun v H1=>v = .ref C∧H1=H) I ⟨rfl,rfl⟩) fun u s1 ⟨y,H1,I1,rx,e1,e2⟩=>?_) ht
  subst e1 e2
  obtain rfl:u=Value.ref C:=rx
  refine PySem.W.method_cls I1.kIn c.ga (PySem.W.cls_value I1.kIn c.rd c.at_ rfl ?_)
  have I2:=I1.tok (s1.toks+1)
  refine PySem.W.callWith_K (first:=[]) (h₀:=X.base) I.ok.mod.kin c.kp (thn (ha pos pins _ σ H1 _ I2 h) fun us s2 ⟨vs,H2,I3,r,q2⟩=>⟨I3.kIn,?_⟩) hst hpl
  exact run_fn (dvs:=[]) (us:=us) (vs:=vs) F (hr.mono hj) hb .nil hx I3 r (by rw[List.append_nil];exact q2)
theorem pe_calN (M:CalN X.prog X.w X.K X.mg X.base CX k x C ps sp) (hr:Room (j+1) X.A) (hj:k≤j) (hx:Passes CX X E) (ha:PA X (e::es) t) (hg:Gl X x:=by rfl)
    (hdb:(x==("__debug__":Str))=false:=by decide) (hst:starEach (e::es) X.env=(false,eval e X.env)::starEach es X.env:=by exact starEach_cons rfl) (hpl:(backTo pos (starEach es X.env)).any (·.1)=false:=by exact noStars rfl) :
    PE X (.Call (.Name x p) (e::es) [] pos) (tMk C sp E t):=by
  obtain⟨hm,f,fd,M,hb,F⟩:=M
  intro pins s σ H Q I h
  refine pe_make (dvs:=[]) M (F.mono hj) hr hg hm hb .nil hx ha hdb hst hpl pins s σ H Q I ?_
  unfold tMake
  simp only[List.append_nil]
  exact h
theorem pe_anyP {α:Type} {p:α→Prop} {e:Expr} {T:α→TE} (h:∀ i,p i→PE X e (T i)):PE X e (fun σ H Q=>∃ i,p i∧T i σ H Q):=fun pins s σ H Q I ⟨i,hp,g⟩=>h i hp pins s σ H Q I g
end
section
variable {P:Program} {w:World} {K:PySem.W.Frag} {mg:Str→Option Value} {base:Heap} {C:Addr} {x m qual:Str} {st:Stmt} {CX:CXT} {k:Nat} {ps:List Str} {sp:Sp}
theorem cls_fn {f:Addr} (h:clsFnSeen K C m=true) (M:Meth K C m f):ClsFn K C m f:=by
  unfold clsFnSeen at h
  obtain⟨h,h3⟩:=Bool.and_eq_true_iff.mp h
  obtain⟨h1,h2⟩:=Bool.and_eq_true_iff.mp h
  refine⟨?_,h2,?_,M.kp⟩
  · split at h1
    · rename_i b e
      rw[e,beq_iff_eq.mp h1]
    · cases h1
  · rw[M.at_] at h3
    split at h3
    · rename_i f' g e1 e2
      cases e1
      rw[e2,Nat.eq_of_beq_eq_true h3]
    · cases h3
theorem MtAt.calC (h:MtAt K C m qual st) (see:clsFnSeen K C m=true) (hm:mg x=some (.ref C))
    (hb:∀ (kV doc pm:Value) (an:Option Addr) (cdv ct:Value) (us:List Value),us.length=ps.length→bindArgs (PySem.W.fnOf m qual (defArgs st) (defBody st) (defScope st) .none kV doc pm an cdv ct) ⟨us,[]⟩=pure (ps.zip us))
    (ok:∀ f fd,Fun K m qual st f fd→FnOk P w K mg base CX k f fd ps sp):CalC P w K mg base CX k x m ps sp:=by
  obtain⟨f,fd,M,F⟩:=h
  exact⟨C,f,fd,hm,cls_fn see M,F.binds hb,ok f fd F⟩
end
end L2
namespace L2
open PySem PySem.W PyProof.Rows
noncomputable def TpC (K:Frag) (x:Str) (zs:List Str):Prop:=∃ a,nsIn K mainGlobals x=some (some (.ref a))∧∀ H,SqT K H a (zs.map V.str)
theorem strs_valsC:∀ {its:List Value} {zs:List Str},isStrsC its zs=true→Vals (zs.map V.str) its
  | [],[],_=>.nil
  | v::r,z::q,h=>by
    unfold isStrsC at h
    obtain⟨h1,h2⟩:=Bool.and_eq_true_iff.mp h
    obtain⟨t,e⟩:=str_of h1
    cases e
    exact .cons ⟨t,rfl⟩ (strs_valsC h2)
  | [],z::q,h=>by cases h
  | v::r,[],h=>by cases h
theorem tup_seen {K:Frag} {x:Str} {zs:List Str} (h:tupSeen K x zs=true):TpC K x zs:=by
  unfold tupSeen at h
  split at h
  · rename_i a e
    split at h
    · rename_i n od its k sl e2
      rw[Bool.and_eq_true,Bool.and_eq_true] at h
      obtain⟨⟨h1,h2⟩,h3⟩:=h
      refine⟨a,e,fun H=>.inr ⟨_,its,k,e2,?_,rfl,lenOk h2,strs_valsC h3⟩⟩
      rw[of_decide_eq_true h1]
    · cases h
  · cases h
theorem TpC.mg {K:Frag} {x:Str} {zs:List Str} {h:Heap} {mg:Str→Option Value} (T:TpC K x zs) (X:K.In h) (G:h.Ns mainGlobals mg):∃ a,mg x=some (.ref a)∧∀ H,SqT K H a (zs.map V.str):=by
  obtain⟨a,e,t⟩:=T
  exact⟨a,mg_of X G e,t⟩
end L2
set_option maxHeartbeats 4000000
namespace K09
open PySem PySem.NumText L2 Pg
seal PE PA PT PW PS PSs PG PGs PI PIf PO PK
section
variable {P:Program} {w:World} {K:PySem.W.Frag} {mg:Str→Option Value} {base:Heap} {f:Addr} {fd:FuncData} {d:Nat→Addr} {cR:Addr}
theorem ok_is_number (F:Fun K "is_number" "is_number" (top 21) f fd) (G:Glb mg):FnOk P w K mg base CX0 1 f fd ["thing"] (sp_is_number K):=by
  refine F.ok (N:=["thing"]) ⟨rfl,rfl,rfl,by decide +kernel,rfl,by decide +kernel,by decide +kernel⟩ (fun vs H Q E h=>?_) (fun cdv A outer s H vs Q E hr h=>?_)
  · obtain⟨v,rfl,_⟩:=h
    rfl
  · obtain⟨v,rfl,h⟩:=h
    refine⟨_,pss_one (ps_ret (pe_and (pe_callB call_isinst rfl G.isinstance boot_isinstance (pa_cons (pv 0) (pa_cons (pe_bltn (v:=.ty "int") rfl G.int boot_int rfl) pa_nil)))
      (pe_one (pe_not (pe_callB call_isinst rfl G.isinstance boot_isinstance (pa_cons (pv 0) (pa_cons (pe_bltn (v:=.ty "bool") rfl G.bool boot_bool rfl) pa_nil))))))),?_⟩
    rcases h with ⟨z,rfl,q⟩ | ⟨⟨r,hr',ty,ne⟩,q⟩
    · refine⟨_,rfl,_,_,_,_,true,rfl,rfl,.inl (.int z),rfl,true,rfl,iteT ?_⟩
      exact⟨_,rfl,_,_,_,_,false,rfl,rfl,.inl (.int z),rfl,false,rfl,q⟩
    · obtain⟨k1,k2,_⟩:=kit_tab (K:=K) r hr'
      refine⟨_,rfl,_,_,_,_,r.2.1,rfl,rfl,.inl ty,k1,r.2.1,rfl,?_⟩
      cases e:r.2.1 with
      | false=>exact iteF q
      | true =>
        refine iteT ⟨_,rfl,_,_,_,_,r.2.2.1,rfl,rfl,.inl ty,k2,r.2.2.1,rfl,?_⟩
        have:r.2.2.1=true:=by
          simp only[numT,List.mem_cons,List.not_mem_nil,or_false] at hr'
          rcases hr' with rfl | rfl | rfl | rfl | rfl | rfl | rfl <;> first | rfl | (exact absurd rfl ne) | (cases e)
        rw[this]
        exact q
end
end K09
namespace K09
open PySem PySem.NumText L2 Pg
seal PE PA PT PW PS PSs PG PGs PI PIf PO PK
section
variable {P:Program} {w:World} {K:PySem.W.Frag} {mg:Str→Option Value} {base:Heap} {f:Addr} {fd:FuncData} {d:Nat→Addr} {cR:Addr}
theorem ok_within (F:Fun K "is_number_within" "is_number_within" (top 22) f fd) (C1:Cal P w K mg base CX0 1 "is_number" ["thing"] (sp_is_number K)):FnOk P w K mg base CX0 2 f fd ["thing","least","most"] (sp_within K):=by
  refine F.ok (N:=["thing","least","most"]) ⟨rfl,rfl,rfl,by decide +kernel,rfl,by decide +kernel,by decide +kernel⟩ (fun vs H Q E h=>?_) (fun cdv A outer s H vs Q E hr h=>?_)
  · obtain⟨v,a,b,rfl,_⟩:=h
    rfl
  · obtain⟨v,a,b,rfl,h⟩:=h
    refine⟨_,pss_one (ps_ret (pe_and (pe_cal C1 hr (by decide) pass0 (pa_cons (pv 0) pa_nil)) (pe_and (pe_cmpR op_le (pv 1) (pv 0) (nomark _)) (pe_one (pe_cmpR op_le (pv 0) (pv 2) (nomark _)))))),?_⟩
    rcases h with ⟨z,rfl,q⟩ | ⟨nn,q⟩
    · refine⟨_,rfl,_,rfl,.inl ⟨z,rfl,true,rfl,iteT ⟨_,rfl,_,rfl,_,_,rfl,rfl,_,rfl,?_⟩⟩⟩
      refine ite2 (fun e=>⟨_,rfl,_,rfl,_,_,rfl,rfl,?_⟩) (fun e=>?_)
      · have e1:a≤z:=of_decide_eq_true e
        show Q (.bl (decide (z≤b))) H
        rw[show decide (z≤b)=decide (a≤z∧z≤b) by simp[e1]]
        exact q
      · have e1:¬ a≤z:=fun c=>e (decide_eq_true c)
        show Q (.bl false) H
        rw[show false=decide (a≤z∧z≤b) by simp[e1]]
        exact q
    · exact⟨_,rfl,_,rfl,.inr ⟨nn,false,rfl,iteF q⟩⟩
end
end K09
namespace Pg
open PySem PySem.NumText L2
noncomputable def numS (z:Int):Str:=toString z
noncomputable def dg (n:Nat):List Nat:=(Nat.toDigits 10 n).map Char.toNat
noncomputable def padZ (k:Nat) (l:List Nat):List Nat:=List.replicate (k - l.length) 48++l
theorem app_codes (a b:Str):(a++b).cps.toList=a.cps.toList++b.cps.toList:=by
  show (a.cps++b.cps).toList=_
  simp
theorem len_codes (z:Str):z.length=z.cps.toList.length:=by show z.cps.size=_;simp
theorem app_len (a b:Str):(a++b).length=a.length+b.length:=by rw[len_codes,app_codes,List.length_append,← len_codes,← len_codes]
theorem app_le {a b:Str} {m n:Nat} (h1:a.length≤m) (h2:b.length≤n):(a++b).length≤m+n:=by rw[app_len];exact Nat.add_le_add h1 h2
theorem fitS {n m:Nat} (h:n≤m) (k:Nat.ble m 1000000=true):n≤sizeLine:=Nat.le_trans h (Nat.le_trans (Nat.le_of_ble_eq_true k) (by rw[sizeLine_eq];decide))
theorem fitA {a b m n:Nat} (h1:a≤m) (h2:b≤n) (k:Nat.ble (m+n) 1000000=true):a+b≤sizeLine:=fitS (Nat.add_le_add h1 h2) k
noncomputable def isF (c:Nat):Bool:=decide (48≤c)&&decide (c≤57)
noncomputable def figL (l:List Nat):Bool:=!l.isEmpty&&l.all isF
noncomputable def sp_figs:Sp:=fun vs H Q _=>∃ z,vs=[.str z]∧z.length≤100000∧∀ H',Same H H'→Q (.bl (figL z.cps.toList)) H'
noncomputable def mtB (z:Str):Bool:=decide (z.cps.toList.length=7)&&(figL (z.cps.toList.take 4)&&(decide (z.cps.toList[4]? = some 45)&&figL (z.cps.toList.drop 5)))
noncomputable def sp_is_month_text (K:PySem.W.Frag):Sp:=fun vs H Q _=>∃ v,vs=[v]∧((NoStr K H v∧Q (.bl false) H)∨∃ z,v = .str z∧z.length≤100000∧∀ H',Same H H'→Q (.bl (mtB z)) H')
noncomputable def readM (z:Str):Option Int:=if mtB z=true∧1≤digitsVal (z.cps.toList.drop 5)∧digitsVal (z.cps.toList.drop 5)≤12 then some ((digitsVal (z.cps.toList.take 4):Nat)*12+(digitsVal (z.cps.toList.drop 5):Nat) - 1) else none
noncomputable def sp_read_month (K:PySem.W.Frag) (cT:Addr):Sp:=fun vs H Q E=>∃ v,vs=[v]∧((NoStr K H v∧E (.ref cT) none H)∨∃ z,v = .str z∧z.length≤100000∧∀ H',Same H H'→(∀ m,readM z=some m→Q (.int m) H')∧(readM z=none→E (.ref cT) none H'))
noncomputable def yearS (y:Int):Str:=Txt.zfill (numS y) 4
noncomputable def placeS (p:Int):Str:=Txt.zfill (numS p) 2
noncomputable def monthS (m:Int):Str:=yearS (m/12)++("-":Str)++placeS (m%12+1)
noncomputable def sp_year_text:Sp:=fun vs H Q _=>∃ z,vs=[.int z]∧0≤z∧z≤9999∧Q (.str (yearS z)) H
noncomputable def sp_month_text (K:PySem.W.Frag) (c:Addr):Sp:=fun vs H Q E=>∃ v,vs=[v]∧((∃ z,v = .int z∧0≤z∧z≤119999∧Q (.str (monthS z)) H)∨(NotTo K H 119999 v∧E (.ref c) none H))
end Pg
namespace L2
open PySem PySem.Spec PyProof.Rows
structure Walk (J:It) (H:Hp) (xs:List V):Prop where
  go:∀ i x H',xs[i]? = some x→Same H H'→J.go i H'∧∀ y H'',J.yld i H' y H''→H''=H'∧y=x
  stop:∀ H',Same H H'→J.stop xs.length H'
theorem walk_list {K:PySem.W.Frag} {a:Addr} {xs:List V} {H:Hp} (h:SqL K H a xs):Walk (Itl K a) H xs :=
  ⟨fun i x H' e s=>⟨⟨xs,x,s.seq h,e⟩,fun y H'' ⟨e1,e2⟩=>⟨e1,Option.some.inj ((e2 xs (s.seq h)).symm.trans e)⟩⟩,fun H' s=>⟨xs,s.seq h,Nat.le_refl _⟩⟩
theorem walk_tup {K:PySem.W.Frag} {a:Addr} {xs:List V} {H:Hp} (h:SqT K H a xs):Walk (Itt K a) H xs :=
  ⟨fun i x H' e s=>⟨⟨xs,x,s.tup h,e⟩,fun y H'' ⟨e1,e2⟩=>⟨e1,Option.some.inj ((e2 xs (s.tup h)).symm.trans e)⟩⟩,fun H' s=>⟨xs,s.tup h,Nat.le_refl _⟩⟩
theorem walk_rng {lo:Int} {n:Nat} {H:Hp}:Walk (Itr lo n) H ((List.range n).map fun k=>V.int (lo+(k:Nat))):=by
  refine⟨fun i x H' e s=>?_,fun H' s=>by rw[List.length_map,List.length_range];exact Nat.le_refl n⟩
  rw[List.getElem?_map] at e
  obtain⟨k,hk,rfl⟩:=Option.map_eq_some_iff.mp e
  obtain⟨h1,h2⟩:=List.getElem?_eq_some_iff.mp hk
  simp at h1 h2
  exact⟨by show i<n;omega,fun y H'' ⟨e1,e2⟩=>⟨e1,by rw[e2,← h2]⟩⟩
theorem walk_str {z:Str} {H:Hp}:Walk (Its z) H (z.cps.toList.map sgn):=by
  refine⟨fun i x H' e s=>?_,fun H' s=>by rw[List.length_map,Array.length_toList];exact Nat.le_refl _⟩
  rw[List.getElem?_map] at e
  obtain⟨c,hc,rfl⟩:=Option.map_eq_some_iff.mp e
  have hc':z.cps[i]? = some c:=by simpa using hc
  exact⟨(Array.getElem?_eq_some_iff.mp hc').1,fun y H'' ⟨e1,c',h1,e2⟩=>⟨e1,by rw[e2,Option.some.inj (h1.symm.trans hc')];rfl⟩⟩
section
variable {J:It} {D:Addr} {g:TG} {tt:TT} {te:TE} {fin:List V→Hp→Prop} {σ:St} {H:Hp} {xs:List V}
theorem comp_walk (W:Walk J H xs) (hD:H D=none) (Good:Nat→List V→Hp→Prop) (Sg:St→Prop) (s0:Sg σ) (g0:Good 0 [] (upd H D (.lst [])))
    (hs:∀ i x ys σ' H',xs[i]? = some x→Sg σ'→Same H H'→H' D=some (.lst ys)→ys.length≤i→Good i ys H'→cTurn D g tt te x ys (fun ys' σ2 H2=>Sg σ2∧Same H H2∧H2 D=some (.lst ys')∧ys'.length≤i+1∧Good (i+1) ys' H2) σ' H')
    (hf:∀ ys H',Same H H'→H' D=some (.lst ys)→ys.length≤xs.length→Good xs.length ys H'→fin ys H'):tTurnsI J D g tt te fin σ (upd H D (.lst [])):=by
  refine⟨fun i m ys σ' H'=>m=xs.length - i∧i≤xs.length∧Sg σ'∧Same H H'∧H' D=some (.lst ys)∧ys.length≤i∧Good i ys H',⟨xs.length,by simp,Nat.zero_le _,s0,Same.upd hD,upd_same,Nat.le_refl _,g0⟩,fun i m ys σ H ⟨_,_,_,_,h,_⟩=>h,?_⟩
  rintro i m ys σ' H' ⟨rfl,hi,h1,h2,h3,h4,h5⟩
  by_cases hlt:i<xs.length
  · have hx:xs[i]? = some xs[i]:=List.getElem?_eq_getElem hlt
    obtain⟨w1,w2⟩:=W.go i _ H' hx h2
    refine .inr ⟨w1,fun ys' σ2 H2=>Sg σ2∧Same H H2∧H2 D=some (.lst ys')∧ys'.length≤i+1∧Good (i+1) ys' H2,fun ys' σ2 H2 p=>⟨xs.length - (i+1),by omega,rfl,hlt,p⟩,fun y H'' hy=>?_⟩
    obtain⟨e1,e2⟩:=w2 y H'' hy
    subst e1 e2
    exact hs i _ ys σ' _ hx h1 h2 h3 h4 h5
  · have e:i=xs.length:=by omega
    subst e
    exact .inl ⟨W.stop H' h2,hf ys H' h2 h3 h4 h5⟩
theorem comp_fm (W:Walk J H xs) (hD:H D=none) (hz:xs.length<sizeLine) (p:V→Bool) (φ:V→V)
    (ht:∀ x∈xs,∀ H' R,Same H H'→R (p x) H'→tt (σ.set 0 (some x)) H' R)
    (he:∀ x∈xs,p x=true→∀ H' R,Same H H'→R (φ x) H'→te (σ.set 0 (some x)) H' R)
    (hf:fin ((xs.filter p).map φ) (upd H D (.lst ((xs.filter p).map φ)))):tTurnsI J D (gName 0) tt te fin σ (upd H D (.lst [])):=by
  refine comp_walk W hD (fun i ys H'=>ys=((xs.take i).filter p).map φ∧H'=upd H D (.lst ys)) (fun σ'=>∀ x,σ'.set 0 (some x) = σ.set 0 (some x)) (fun _=>rfl) ⟨rfl,rfl⟩ ?_ ?_
  · rintro i x ys σ' H' hx hσ s hd hl ⟨rfl,rfl⟩
    have hi:i<xs.length:=(List.getElem?_eq_some_iff.mp hx).1
    have hm:=List.mem_of_getElem? hx
    have tk:xs.take (i+1)=xs.take i++[x]:=by rw[List.take_add_one,hx];rfl
    have hσ2:∀ y,(σ'.set 0 (some x)).set 0 (some y) = σ.set 0 (some y):=fun y=>by rw[List.set_set];exact hσ y
    show tt (σ'.set 0 (some x)) _ _
    rw[hσ x]
    refine ht x hm _ _ s ?_
    rw[hσ x] at hσ2
    cases hp:p x with
    | true =>
      refine iteT (he x hm hp _ _ s ⟨hd,by omega,hσ2,?_,upd_same,?_,?_,upd_upd⟩)
      · rw[upd_upd];exact Same.upd hD
      · rw[List.length_append,List.length_singleton];omega
      · rw[tk,List.filter_append,List.map_append];simp[hp]
    | false =>
      refine iteF ⟨hσ2,s,hd,by omega,?_,rfl⟩
      rw[tk,List.filter_append,List.map_append];simp[hp]
  · rintro ys H' s hd hl ⟨rfl,rfl⟩
    rw[List.take_length]
    exact hf
end
end L2
namespace L2
noncomputable def rkT (key:Nat→List Nat) (n i:Nat):Int:=((List.range n).countP fun j=>decide (key j<key i):Nat)
end L2
set_option maxHeartbeats 1000000
namespace SS
end SS
namespace L2
open PySem PySem.Spec PyProof.Rows PySem.W
section
variable {prog:Program} {w:World} {A:Around} {s:Shared}
end
section
variable {X:Cx} {A:Around} {E:Value→Shared→Prop} {pins:List (Addr × Obj)} {σ:St} {H:Hp} {s:Shared} {a:Addr} {its:List Value} {ts:List V} {nm:Nat→Str} {am:Nat→Int} {P:PySem.Fin→Shared→Prop}
structure PairAt (H:Hp) (ts:List V) (nm:Nat→Str) (am:Nat→Int):Prop where
  at_:∀ i,i<ts.length→∃ t,ts[i]? = some (.ref t)∧H t=some (.tup [.str (nm i),.int (am i)])
  one:∀ i j,i<ts.length→j<ts.length→nm i=nm j→am i=am j
noncomputable abbrev rkP (nm:Nat→Str) (n:Nat):Nat→Int:=rkT (fun i=>(nm i).cps.toList) n
noncomputable def rSortP (K:PySem.W.Frag):List V→Hp→VK→Prop:=fun xs H Q=>∃ (a:Addr) (ts:List V) (nm:Nat→Str) (am:Nat→Int),xs=[.ref a]∧SqL K H a ts∧ts.length<64∧PairAt H ts nm am ∧
  ∀ is:List Nat,is.Perm (List.range ts.length)→is.Pairwise (fun i j=>¬ (nm j).cps.toList<(nm i).cps.toList)→New H (.lst (is.map fun i=>ts.getD i .non)) Q
end
end L2
namespace L2
open PySem PySem.Spec PyProof.Rows
structure TupsAt (H:Hp) (ys:List V) (cs:List (List V)):Prop where
  len:ys.length=cs.length
  at_:∀ (i:Nat) (c:List V),cs[i]? = some c→∃ a,ys[i]? = some (V.ref a)∧H a=some (.tup c)
section
variable {H H':Hp} {ys:List V} {cs:List (List V)}
theorem TupsAt.nil:TupsAt H [] []:=⟨rfl,fun i c e=>by cases e⟩
theorem TupsAt.mono (T:TupsAt H ys cs) (k:∀ b c,H b=some (.tup c)→H' b=some (.tup c)):TupsAt H' ys cs:=⟨T.len,fun i c e=>by
  obtain⟨a,h1,h2⟩:=T.at_ i c e
  exact⟨a,h1,k _ _ h2⟩⟩
theorem TupsAt.same (T:TupsAt H ys cs) (s:Same H H'):TupsAt H' ys cs:=T.mono fun _ _ h=>s _ _ h
theorem TupsAt.upd {p:Addr} {o:HO} (T:TupsAt H ys cs) (n:∀ c,H p≠some (.tup c)):TupsAt (upd H p o) ys cs:=T.mono fun b c h=>by
  rw[upd_ne (show b≠p from fun e=>n c (by rw[← e];exact h))]
  exact h
theorem TupsAt.snoc {a:Addr} {c:List V} (T:TupsAt H ys cs) (h:H a=some (.tup c)):TupsAt H (ys++[.ref a]) (cs++[c]):=by
  refine⟨by rw[List.length_append,List.length_append,T.len];rfl,fun i d e=>?_⟩
  by_cases hi:i<cs.length
  · rw[List.getElem?_append_left hi] at e
    rw[List.getElem?_append_left (by rw[T.len];exact hi)]
    exact T.at_ i d e
  · have hi:=Nat.le_of_not_lt hi
    rw[List.getElem?_append_right hi] at e
    rw[List.getElem?_append_right (by rw[T.len];exact hi),T.len]
    cases q:i - cs.length with
    | zero =>
      rw[q] at e
      cases e
      exact⟨a,rfl,h⟩
    | succ n =>
      rw[q] at e
      cases e
theorem TupsAt.of_at (T:TupsAt H ys cs) {i:Nat} {y:V} (h:ys[i]? = some y):∃ a c,y = .ref a∧cs[i]? = some c∧H a=some (.tup c):=by
  have hi:i<cs.length:=by rw[← T.len];exact (List.getElem?_eq_some_iff.mp h).1
  obtain⟨a,h1,h2⟩:=T.at_ i _ (List.getElem?_eq_getElem hi)
  rw[h] at h1
  exact⟨a,_,Option.some.inj h1,List.getElem?_eq_getElem hi,h2⟩
end
noncomputable def cP (p:Str × Int):List V:=[.str p.1,.int p.2]
noncomputable def pAt (prs:List (Str × Int)) (i:Nat):Str × Int:=prs.getD i (Str.empty,0)
section
variable {J:It} {D a:Addr} {g:TG} {tt:TT} {te:TE} {fin:List V→Hp→Prop} {σ:St} {H:Hp} {xs:List V} {K:PySem.W.Frag}
end
noncomputable def dOf (tot:List (Str × Int)):List (Key × V):=tot.map fun p=>(Sum.inr p.1,V.int p.2)
noncomputable def getO (tot:List (Str × Int)) (z:Str):Option Int:=(tot.find? fun p=>decide (p.1=z)).map (·.2)
noncomputable def getT (tot:List (Str × Int)) (z:Str):Int:=(getO tot z).getD 0
noncomputable def putT (tot:List (Str × Int)) (z:Str) (v:Int):List (Str × Int) :=
  if (tot.any fun p=>decide (p.1=z))=true then tot.map (fun p=>if p.1=z then (p.1,v) else p) else tot++[(z,v)]
end L2
namespace ST
open PySem
noncomputable def Rise (xs:Array Nat):Prop:=∀ i j,i<j→j<xs.size→xs.getD i 0<xs.getD j 0
noncomputable def NoLive (t:SetTable) (j:Nat):Prop:=t.place[SetTable.below t.place j]?≠some j
structure Good (b:Bool) (t:SetTable):Prop where
  led:t.led=b
  rise:Rise t.place
open PySem.Spec
section
variable {prog:Program} {w:World} {K:Type} [DecidableEq K] [BEq K] [LawfulBEq K] {knd:KeyKind prog w K} {A:Around} {E:Value→Shared→Prop} {s:Shared}
structure At (knd:KeyKind prog w K) (b:Bool) (h:Heap) (a:Addr) (es:Array (Int × Value)):Prop where
  ex:∃ o ep t,h.get? a=some o∧o.ExactSet∧o.data = .set es ep t∧t.fits es.size=true∧Good b t
  el:ElemsOf knd es.toList
noncomputable def Added (knd:KeyKind prog w K) (k:K) (x:Value) (es es':Array (Int × Value)):Prop :=
  ((∃ e∈es.toList,knd.is k e.2=true)∧es'=es)∨((∀ e∈es.toList,knd.is k e.2=false)∧es'.toList.Perm (es.toList++[(knd.hash k,x)]))
end
noncomputable def byText (w:World):Bool:=w.params.followText "set-order"
section
variable {prog:Program} {w:World} {A:Around} {E:Value→Shared→Prop} {s:Shared}
noncomputable abbrev fresh0 (w:World):Obj:={ cls:=.type "set",dict:=none,data:=.set #[] 0 (.fresh 0 0 (!byText w)) }
end
open PyProof.Rows
section
variable {prog:Program} {w:World} {K:Type} [DecidableEq K] [BEq K] [LawfulBEq K] {knd:KeyKind prog w K} {A:Around} {E:Value→Shared→Prop} {s:Shared}
structure Keys (kf:Value→K) (es:Array (Int × Value)) (l:List K):Prop where
  nd:(es.toList.map fun e=>kf e.2).Nodup
  mem:∀ k,k∈es.toList.map (fun e=>kf e.2)↔k∈l
  len:es.size≤l.length
end
section
variable {prog:Program} {w:World} {K:Type} [DecidableEq K] [BEq K] [LawfulBEq K] {knd:KeyKind prog w K} {A:Around} {E:Value→Shared→Prop} {s:Shared}
structure Left (knd:KeyKind prog w K) (kf:Value→K) (l:List K) (h₀ h:Heap):Prop where
  ex:∃ es,At knd (!byText w) h h₀.objs.size es∧Keys kf es l
  keep:∀ c o,c<h₀.objs.size→h₀.get? c=some o→h.get? c=some o
end
section
variable {prog:Program} {w:World} {K:Type} [DecidableEq K] [BEq K] [LawfulBEq K] [Inhabited K] {knd:KeyKind prog w K} {A:Around} {E:Value→Shared→Prop} {s:Shared}
end
end ST
namespace L2
open PySem PySem.Spec PyProof.Rows
noncomputable def txtOf:Value→Str
  | .str z _=>z
  | _=>default
section
variable {X:Cx} {pins:List (Addr × Obj)} {σ:St} {H:Hp} {s:Shared} {a:Expr} {ta:TA} {p1 p2 p3 pos:Pos}
noncomputable def tLenSet (K:PySem.W.Frag) (ta:TA):TE:=fun σ H Q=>ta σ H fun vs H1=>∃ (l:Addr) (zs:List Str),vs=[.ref l]∧SqL K H1 l (zs.map V.str)∧zs.length<64 ∧
  ∀ n:Nat,n≤zs.length→(n<zs.length↔¬ zs.Nodup)→Q (.int n) H1
end
open PySem.W
section
variable {X:Cx} {pins:List (Addr × Obj)} {σ:St} {H:Hp} {s:Shared} {a:Addr}
theorem Inv.adoptO {o:HO} (I:Inv X pins σ H s) (f:FpOk X pins H a) (new:ObjOk X.prog X.w (upd H a o) s.heap a o):Inv X pins σ (upd H a o) s:=by
  have ne:∀ b o,H b=some o→b≠a:=fun b o q=>ne_of_none q f.1
  refine⟨I.ok,I.os,I.bare,⟨I.base.keep,I.base.slot,fun b o q n hx=>?_,I.base.there,fun b ys q=>?_,fun b o u q=>?_,fun b ps q=>?_⟩,I.loc,I.cell,?_,fun x c q=>?_,fun p hp=>?_,fun b o q=>?_,I.len⟩
  · have nb:b≠a:=fun z=>by
      subst z
      rcases f.2.2.2.1 with z | z
      · exact hx z
      · rw[z] at q;cases q
    rw[upd_ne nb]
    exact I.base.free b o q n hx
  · have z:=I.base.tups b ys q
    rw[upd_ne (ne _ _ z)];exact z
  · have z:=I.base.frzs b o u q
    rw[upd_ne (ne _ _ z)];exact z
  · obtain⟨m,z⟩:=I.base.tbls b ps q
    exact⟨m,by rw[upd_ne (ne _ _ z)];exact z⟩
  · rw[upd_ne (Ne.symm f.2.1)];exact I.free
  · rw[upd_ne (f.2.2.2.2.1 x c q)];exact I.freeC x c q
  · obtain⟨p1,p2,p3,p4,p5⟩:=I.pin p hp
    exact⟨p1,by rw[upd_ne (f.2.2.2.2.2 p hp)];exact p2,p3,p4,p5⟩
  · by_cases nb:b=a
    · subst nb
      rw[upd_same] at q
      cases q
      exact new
    · rw[upd_ne nb] at q
      refine (I.hok b o q).stay (fun c u _ z=>z) (fun c z=>?_) fun c ys z=>?_
      · rw[upd_ne (ne _ _ z)];exact z
      · rw[upd_ne (ne _ _ z)];exact z
end
noncomputable def itemsO (v d:Addr):HO:=.ext fun h=>h.IsItemsView v d
section
variable {X:Cx}
end
end L2
namespace Pg
open PySem L2
noncomputable def isL (c:Nat):Bool:=decide (97≤c)&&decide (c≤122)
theorem letters_codes:("abcdefghijklmnopqrstuvwxyz":Str).cps.toList=List.range' 97 26:=by decide +kernel
theorem isL_mem {c:Nat}:c∈List.range' 97 26↔isL c=true:=by
  rw[List.mem_range'_1]
  unfold isL
  rw[Bool.and_eq_true,decide_eq_true_iff,decide_eq_true_iff]
  omega
theorem letter_in (c:Nat):(!(Builtin.Str.occurrences ("abcdefghijklmnopqrstuvwxyz":Str) ⟨#[c]⟩ 0 ("abcdefghijklmnopqrstuvwxyz":Str).length 1).isEmpty)=isL c:=by
  rw[sign_in,letters_codes,Bool.eq_iff_iff,List.contains_iff_mem,isL_mem]
structure NameOk (z:Str):Prop where
  lo:1≤z.length
  hi:z.length≤8
  all:z.cps.toList.all isL=true
noncomputable def sp_word:Sp:=fun vs H Q _=>∃ z,vs=[.str z,.str "abcdefghijklmnopqrstuvwxyz"]∧NameOk z∧∀ H',Same H H'→Q (.bl true) H'
noncomputable def sp_name:Sp:=fun vs H Q _=>∃ z,vs=[.str z]∧NameOk z∧∀ H',Same H H'→Q (.bl true) H'
noncomputable def sp_due:Sp:=fun vs H Q _=>∃ (t:Addr) (p:Str × Int),vs=[.ref t]∧H t=some (.tup (cP p))∧NameOk p.1∧∀ H',Same H H'→Q (.bl true) H'
noncomputable def sp_dues:Sp:=fun vs H Q _=>∃ (l:Addr) (ts:List V) (prs:List (Str × Int)),vs=[.ref l]∧H l=some (.lst ts)∧TupsAt H ts (prs.map cP)∧prs.length<64∧(prs.map (·.1)).Nodup∧(∀ p∈prs,NameOk p.1)∧∀ H',Same H H'→Q .non H'
noncomputable def sp_need0 (m:Int):Sp:=fun vs H Q _=>∃ z,vs=[.int z]∧0≤z∧z≤m∧Q .non H
structure LdgK (K:PySem.W.Frag) (C:Addr):Prop where
  cls:Cls K C
  nT:NoAttr K C "totals"
  nM:NoAttr K C "made"
  nC:NoAttr K C "closed"
noncomputable def cM (p:Int × Str × Int):List V:=[.int p.1,.str p.2.1,.int p.2.2]
noncomputable def fsL (t m:Addr) (cl:V):List (Str × V):=[("totals",.ref t),("made",.ref m),("closed",cl)]
structure LedAt (C:Addr) (H:Hp) (L dx t m:Addr) (cl:V) (tot:List (Str × Int)) (mds:List (Int × Str × Int)):Prop where
  ins:H L=some (.ins C dx (fsL t m cl))
  tot:H t=some (.dK (dOf tot))
  made:∃ ys,H m=some (.lst ys)∧TupsAt H ys (mds.map cM)
noncomputable def sp_init (C:Addr):Sp:=fun vs H Q _=>∃ L dx,vs=[.ref L]∧H L=some (.ins C dx []) ∧
  ∀ t m H',H t=none→H m=none→LedAt C H' L dx t m .non [] []→(∀ b o,H b=some o→b≠L→H' b=some o)→Q .non H'
noncomputable def sp_later (C:Addr):Sp:=fun vs H Q _=>∃ L dx t m cl mo,vs=[.ref L,.int mo]∧H L=some (.ins C dx (fsL t m cl))∧0≤mo∧mo≤119999∧(cl = .non∨∃ c,cl = .int c∧c<mo)∧Q .non H
noncomputable def sp_paid (C:Addr):Sp:=fun vs H Q _=>∃ L dx t m cl tot z,vs=[.ref L,.str z]∧H L=some (.ins C dx (fsL t m cl))∧H t=some (.dK (dOf tot))∧Q (.int (getT tot z)) H
noncomputable def sp_owed (C:Addr):Sp:=fun vs H Q _=>∃ L dx t m cl tot z d,vs=[.ref L,.str z,.int d]∧H L=some (.ins C dx (fsL t m cl))∧H t=some (.dK (dOf tot))∧Q (.int (d - getT tot z)) H
noncomputable def sp_payments (C:Addr):Sp:=fun vs H Q _=>∃ L dx t m cl ys,vs=[.ref L]∧H L=some (.ins C dx (fsL t m cl))∧H m=some (.lst ys)∧New H (.lst ys) Q
noncomputable def duesOf (tot qs:List (Str × Int)):List (Str × Int):=(qs.map fun p=>(p.1,p.2 - getT tot p.1)).filter fun p=>decide (0<p.2)
noncomputable def settle (tot ps:List (Str × Int)):List (Str × Int):=ps.foldl (fun t p=>putT t p.1 (getT t p.1+p.2)) tot
noncomputable def sp_close (C:Addr):Sp:=fun vs H Q _=>∃ (L dx t m:Addr) (cl:V) (tot:List (Str × Int)) (mds:List (Int × Str × Int)) (mo:Int) (l:Addr) (ts:List V) (prs:List (Str × Int)),vs=[.ref L,.int mo,.ref l]∧LedAt C H L dx t m cl tot mds∧0≤mo∧mo≤119999∧(cl = .non∨∃ c,cl = .int c∧c<mo) ∧
  H l=some (.lst ts)∧TupsAt H ts (prs.map cP)∧prs.length<64∧(prs.map (·.1)).Nodup∧(∀ p∈prs,NameOk p.1)∧mds.length≤1000∧tot.length≤1000 ∧
  ∀ (qs:List (Str × Int)) (r:Addr) (ys:List V) (H':Hp),qs.Perm prs→qs.Pairwise (fun a b=>¬ b.1.cps.toList<a.1.cps.toList)→LedAt C H' L dx t m (.int mo) (settle tot (duesOf tot qs)) (mds++(duesOf tot qs).map fun p=>(mo,p)) →
    (∀ b o,H b=some o→b≠L→b≠t→b≠m→H' b=some o)→H r=none→H' r=some (.lst ys)→TupsAt H' ys ((duesOf tot qs).map cP)→Q (.ref r) H'
theorem ones_fold (cs:List Nat) (acc:Array Nat):((cs.map fun c=>(⟨#[c]⟩:Str)).foldl (fun acc p=>acc++("":Str).cps++p.cps) acc).toList=acc.toList++cs:=by
  induction cs generalizing acc with
  | nil=>simp
  | cons c r ih =>
    rw[List.map_cons,List.foldl_cons,ih]
    have:("":Str).cps = #[]:=by decide +kernel
    rw[this]
    simp
theorem join_codes (cs:List Nat):(Txt.join ("":Str) (cs.map fun c=>(⟨#[c]⟩:Str))).cps.toList=cs:=by
  unfold Txt.join Builtin.Str.glued
  cases cs with
  | nil=>rfl
  | cons c r =>
    show (((r.map fun c=>(⟨#[c]⟩:Str)).foldl (fun acc p=>acc++("":Str).cps++p.cps) #[c])).toList=c::r
    rw[ones_fold]
    rfl
noncomputable def mixN (c k:Int):Int:=(c%1000003*(k*k+48271)+c/1000003+7919*k+11)%1000003
noncomputable def mixC (c k:Int):Int:=mixN c k*mixN c k%1000003*(mixN c k+2*k+1)%1000003
noncomputable def sp_mixC:Sp:=fun vs H Q _=>∃ c k,vs=[.int c,.int k]∧0≤k∧k≤1000∧Q (.int (mixC c k)) H
noncomputable def sp_names:Sp:=fun vs H Q _=>∃ (c:Int) (n:Nat),vs=[.int c,.int n]∧1≤n∧n≤8∧∀ nms:List Str,nms.length=n→nms.Nodup→(∀ z∈nms,NameOk z)→New H (.lst (nms.map V.str)) Q
theorem letter_at {i:Int} (h0:0≤i) (h1:i<26):∃ c,atI ("abcdefghijklmnopqrstuvwxyz":Str).cps.toList i=some c∧isL c=true:=by
  rw[letters_codes]
  obtain⟨c,e,m⟩:=at_any (xs:=List.range' 97 26) h0 (by rw[List.length_range'];exact h1)
  exact⟨c,e,isL_mem.mp m⟩
theorem letters_len:("abcdefghijklmnopqrstuvwxyz":Str).length≤sizeLine:=fitS (m:=26) (by decide +kernel) rfl
noncomputable def ones (cs:List Nat):List V:=cs.map sgn
noncomputable def constL:List Str:=["ann","bo","cyd","annx","b","dd","eve","f"]
noncomputable def nameB (z:Str):Bool:=decide (1≤z.length)&&decide (z.length≤8)&&z.cps.toList.all isL
theorem nameB_ok {z:Str} (h:nameB z=true):NameOk z:=by
  unfold nameB at h
  rw[Bool.and_eq_true,Bool.and_eq_true] at h
  exact⟨of_decide_eq_true h.1.1,of_decide_eq_true h.1.2,h.2⟩
noncomputable def metOf (mds:List (Int × Str × Int)):List (List Key × V):=mds.map fun p=>([Sum.inl p.1,Sum.inr p.2.1],V.bl true)
noncomputable def keyM (p:Int × Str × Int):Int × Str:=(p.1,p.2.1)
noncomputable def sp_right (C:Addr):Sp:=fun vs H Q _=>∃ (L dx t m:Addr) (cl:V) (tot:List (Str × Int)) (mds:List (Int × Str × Int)) (nl:Addr) (nms:List Str) (md:Addr) (most:List (Str × Int)) (tl:Addr) (told:List (Str × Int)) (cell:Int),vs=[.ref L,.ref nl,.ref md,.ref tl,.int cell]∧LedAt C H L dx t m cl tot mds∧H nl=some (.lst (nms.map V.str))∧nms.length≤8∧(∀ z∈nms,NameOk z) ∧
  H md=some (.dK (dOf most))∧H tl=some (.dK (dOf told))∧(∀ p∈mds,0<p.2.2)∧(mds.map keyM).Nodup∧mds.length≤1000 ∧
  (∀ z,getT (settle [] (mds.map (·.2))) z=getT tot z)∧(∀ z,getT tot z=getT most z)∧(∀ z v,getO told z=some v→v≤getT tot z)∧∀ H',Same H H'→Q (.bl true) H'
end Pg
set_option maxHeartbeats 4000000
namespace K09
open PySem PySem.NumText L2 Pg
seal PE PA PT PW PS PSs PG PGs PI PIf PO PK
section
variable {P:Program} {w:World} {K:PySem.W.Frag} {mg:Str→Option Value} {base:Heap} {f:Addr} {fd:FuncData} {d:Nat→Addr} {cR:Addr}
theorem ok_word (F:Fun K "is_word_of" "is_word_of" (top 28) f fd) (G:Glb mg) (N1:Num mg "MOST_SIGNS" 8):FnOk P w K mg base CX0 1 f fd ["thing","signs"] sp_word:=by
  obtain⟨tm,hm⟩:=N1
  have nc:(["sign","signs"]:List Str).Nodup:=by decide +kernel
  refine F.ok (N:=["thing","signs"]) ⟨rfl,rfl,rfl,by decide +kernel,rfl,by decide +kernel,by decide +kernel⟩ (fun vs H Q E h=>?_) (fun cdv A outer s H vs Q E hr h=>?_)
  · obtain⟨z,rfl,_⟩:=h
    rfl
  · obtain⟨z,rfl,hz,q⟩:=h
    have l1:=hz.lo
    have l8:=hz.hi
    have fit:z.length≤sizeLine:=fitS l8 rfl
    refine' ⟨_,(pss_cons (ps_if (pt_not (pt_val (pe_callB call_isinst rfl G.isinstance boot_isinstance (pa_cons (pv 0) (pa_cons (pe_bltn (v:=.ty "str") rfl G.str boot_str rfl) pa_nil))))) (pss_one (ps_ret pe_bl)) pss_nil)
        (pss_cons (ps_if (PW.pt (pw_or (pt_cmpR op_lt (pe_callB call_len_str rfl G.len boot_len (pa_cons (pv 0) pa_nil)) pe_int (nomark _)) (pw_or1 (pt_cmpR op_gt (pe_callB call_len_str rfl G.len boot_len (pa_cons (pv 0) pa_nil)) (pe_glob (v:=.int 8) rfl hm ⟨_,rfl⟩) (nomark _))))) (pss_one (ps_ret pe_bl)) pss_nil)
        (pss_one (ps_ret (pe_callB (call_allL rfl) rfl G.all boot_all (pa_cons ?comp pa_nil)))))),?main⟩
    case comp =>
      refine' pe_compI (Nc:=["sign","signs"]) (cl:=[("signs",s.heap.objs.size+1)]) (src:=[none,some 1]) (wi:=iStr (tVar 0)) (g:=gName 0) (tt:=tNoIf) (te:=tOp (fun x y H Q=>∃ i j,x = .str i∧y = .str j∧Q (.bl (!(Builtin.Str.occurrences j i 0 j.length 1).isEmpty)) H) (tVar 0) (tVar 1)) ⟨rfl,rfl,by decide +kernel,by decide +kernel,sub_of (sub1 rfl),has_of (by rfl),frm_none (frm_some ⟨_,rfl,rfl,rfl,rfl⟩ frm_nil),rfl⟩ rfl (pi_str (pv 0)) ?hb
      case hb =>
        intro fp C' s' H'
        exact⟨pg_name (i:=0) nc rfl (Or.inl rfl),pif_nil,pe_cmpR op_in_str (pv 0) (pv 1) (by rfl)⟩
    refine⟨_,rfl,_,_,_,_,true,rfl,rfl,.inl (.str z),rfl,true,rfl,iteF ?_⟩
    refine⟨_,rfl,z,rfl,fit,_,_,rfl,rfl,_,rfl,ite2 (fun e=>absurd (of_decide_eq_true e) (by omega)) (fun _=>⟨_,rfl,z,rfl,fit,_,_,rfl,rfl,_,rfl,ite2 (fun e=>absurd (of_decide_eq_true e) (by omega)) (fun _=>?_)⟩)⟩
    refine⟨_,rfl,z,rfl,fun D hD=>?_⟩
    refine comp_fm (walk_str (z:=z)) hD (by rw[List.length_map,← len_codes,sizeLine_eq];omega) (fun _=>true) (fun x=>match x with | .str y=>.bl (isL (y.cps.getD 0 0)) | v=>v) (fun x _ H' R _ r=>r) (fun x hx _ H' R _ r=>?_) ?_
    · obtain⟨c,_,rfl⟩:=List.mem_map.mp hx
      refine⟨_,rfl,_,rfl,_,_,rfl,rfl,?_⟩
      rw[letter_in]
      exact r
    · rw[List.filter_eq_self.mpr fun _ _=>rfl,List.map_map]
      refine⟨D,z.cps.toList.map isL,rfl,SqL.of (by rw[List.map_map];exact upd_same),?_⟩
      have e2:(z.cps.toList.map isL).all id=true:=by
        rw[List.all_map]
        exact hz.all
      rw[e2]
      exact q _ (Same.upd hD)
end
end K09
namespace K09
open PySem PySem.NumText L2 Pg
seal PE PA PT PW PS PSs PG PGs PI PIf PO PK
section
variable {P:Program} {w:World} {K:PySem.W.Frag} {mg:Str→Option Value} {base:Heap} {f:Addr} {fd:FuncData} {d:Nat→Addr} {cR:Addr}
theorem ok_name (F:Fun K "is_name" "is_name" (top 29) f fd) (N1:Txt mg "LETTERS" "abcdefghijklmnopqrstuvwxyz") (C1:Cal P w K mg base CX0 1 "is_word_of" ["thing","signs"] sp_word):FnOk P w K mg base CX0 2 f fd ["thing"] sp_name:=by
  obtain⟨tm,hm⟩:=N1
  refine F.ok (N:=["thing"]) ⟨rfl,rfl,rfl,by decide +kernel,rfl,by decide +kernel,by decide +kernel⟩ (fun vs H Q E h=>?_) (fun cdv A outer s H vs Q E hr h=>?_)
  · obtain⟨z,rfl,_⟩:=h
    rfl
  · obtain⟨z,rfl,hz,q⟩:=h
    exact⟨_,pss_one (ps_ret (pe_cal C1 hr (by decide) pass0 (pa_cons (pv 0) (pa_cons (pe_glob (v:=.str "abcdefghijklmnopqrstuvwxyz") rfl hm ⟨_,rfl⟩) pa_nil)))),_,rfl,z,rfl,hz,q⟩
end
end K09
namespace K09
open PySem PySem.NumText L2 Pg
seal PE PA PT PW PS PSs PG PGs PI PIf PO PK
section
variable {P:Program} {w:World} {K:PySem.W.Frag} {mg:Str→Option Value} {base:Heap} {f:Addr} {fd:FuncData} {d:Nat→Addr} {cR:Addr}
theorem ok_cell_at (F:Fun K "_law_cell_at" "_law_cell_at" (top 52) f fd) (G:Glb mg):FnOk P w K mg base CX0 1 f fd ["_law_script","_law_k"] (sp_cell K):=by
  refine F.ok (N:=["_law_script","_law_k"]) ⟨rfl,rfl,rfl,by decide +kernel,rfl,by decide +kernel,by decide +kernel⟩ (fun vs H Q E h=>?_) (fun cdv A outer s H vs Q E hr h=>?_)
  · obtain⟨a,k,ns,rfl,_⟩:=h
    rfl
  · obtain⟨a,k,ns,rfl,hs,hk,q⟩:=h
    refine⟨_,(pss_cons (ps_if (pt_cmpR op_lt (pv 1) (pe_callB call_len_seq rfl G.len PySem.boot_len (pa_cons (pv 0) pa_nil)) (nomark _)) (pss_one (ps_ret (pe_at ix_list (pv 0) (pv 1)))) pss_nil)
        (pss_one (ps_ret pe_int))),?_⟩
    refine⟨_,rfl,_,rfl,a,_,rfl,.inl hs,_,_,rfl,rfl,_,rfl,ite2 (fun e=>?_) (fun e=>?_)⟩
    · exact⟨_,rfl,_,rfl,a,_,_,_,rfl,rfl,hs,cell_at hk (of_decide_eq_true e),q⟩
    · rw[cell_out fun c=>e (decide_eq_true c)] at q
      exact q
end
end K09
namespace DL
open PySem PySem.Spec PyProof.Rows
section
variable {prog:Program} {w:World} {A:Around} {E:Value→Shared→Prop} {s:Shared}
variable {K:Type} [DecidableEq K] {knd:KeyKind prog w K}
end
end DL
namespace L2
open PySem PySem.Spec PyProof.Rows
section
variable {X:Cx}
end
section
variable {X:Cx}
noncomputable def rInsert:V→List V→Hp→VK→Prop:=fun x vs H Q=>∃ l xs i y,x = .ref l∧vs=[.int i,y]∧H l=some (.lst xs)∧0≤i∧i≤xs.length∧xs.length<sizeLine∧Q .non (upd H l (.lst (xs.take i.toNat++y::xs.drop i.toNat)))
end
end L2
namespace Pg
open PySem L2
noncomputable def Fr (S:List Addr) (H H':Hp):Prop:=∀ b o,H b=some o→¬ b∈S→H' b=some o
noncomputable def NoTup (S:List Addr) (H:Hp):Prop:=∀ b∈S,∀ c,H b≠some (.tup c)
section
variable {C:Addr} {S S':List Addr} {H H' H1:Hp}
noncomputable def ownK (pd ml:Addr) (lv:V):List (Key × V):=[(Sum.inr "paid",.ref pd),(Sum.inr "made",.ref ml),(Sum.inr "last",lv)]
structure OwnAt (H:Hp) (o pd ml:Addr) (lv:V) (tot:List (Str × Int)) (mds:List (Int × Str × Int)):Prop where
  own:H o=some (.dK (ownK pd ml lv))
  tot:H pd=some (.dK (dOf tot))
  made:∃ ys,H ml=some (.lst ys)∧TupsAt H ys (mds.map cM)
noncomputable def HeldV (H:Hp) (S:List Addr) (v:V):Prop:=∃ (t f g:Addr) (ys:List V) (cs:List (List V)),v = .ref t∧H t=some (.tup [.ref f,.ref g])∧H f=some (.lst ys)∧H g=some (.lst ys)∧TupsAt H ys cs∧(∀ c∈cs,c.all flatV=true)∧¬ f∈S∧¬ g∈S
noncomputable def HeldAt (H:Hp) (S:List Addr) (hl:Addr) (n:Nat):Prop:=∃ hs,H hl=some (.lst hs)∧hs.length≤n∧∀ v∈hs,HeldV H S v
end
structure Adr where
  L:Addr
  dx:Addr
  t:Addr
  m:Addr
  o:Addr
  pd:Addr
  ml:Addr
  hl:Addr
  tl:Addr
  nl:Addr
  L2:Addr
  dx2:Addr
  t2:Addr
  m2:Addr
  nms:List Str
noncomputable def Adr.us (A:Adr):List Addr:=[A.hl,A.tl,A.ml,A.pd,A.o,A.m2,A.t2,A.L2,A.m,A.t,A.L,A.nl]
noncomputable def Adr.S (A:Adr):List Addr:=[A.L,A.t,A.m,A.o,A.pd,A.ml,A.hl,A.tl]
structure AOk (A:Adr):Prop where
  nd:A.us.Nodup
  n6:A.nms.length=6
  nn:A.nms.Nodup
  nok:∀ z∈A.nms,NameOk z
structure Rs (C:Addr) (H:Hp) (A:Adr) (told:List (Str × Int)) (n:Nat):Prop where
  held:HeldAt H A.S A.hl n
  told:H A.tl=some (.dK (dOf told))
  names:H A.nl=some (.lst (A.nms.map V.str))
  oth:LedAt C H A.L2 A.dx2 A.t2 A.m2 .non [] []
section
variable {C:Addr} {S:List Addr} {H H':Hp} {A:Adr} {told told':List (Str × Int)} {n n':Nat}
end
noncomputable def withS (prs:List (Str × Int)) (ss:List Str):List (Str × Int):=ss.map fun z=>(z,getT prs z)
noncomputable def Seen (H:Hp) (us:List Addr):Prop:=us.Nodup∧∀ b∈us,∃ o,H b=some o
noncomputable def rSame2 (K:PySem.W.Frag) (u:Nat) (neg:Bool):R2:=fun x y H Q=>∃ n d,isSeq d=true∧Is K H n x d∧Is K H n y d∧u+n<cLine∧Q (.bl (!neg)) H
structure Run (C:Addr) (H:Hp) (A:Adr) (cl:V) (tot:List (Str × Int)) (mds:List (Int × Str × Int)) (told:List (Str × Int)) (n:Nat) (mz:Int) (i:Nat):Prop where
  led:LedAt C H A.L A.dx A.t A.m cl tot mds
  own:OwnAt H A.o A.pd A.ml cl tot mds
  rs:Rs C H A told n
  cl:cl = .non∨∃ z,cl = .int z∧z≤mz
  m0:-1≤mz
  m1:mz≤110000+40*i
  lm:mds.length≤6*i
  lt:tot.length≤6*i
  ld:told.length≤6*i
  ln:n≤6+7*i
noncomputable def sp_last (C:Addr):Sp:=fun vs H Q _=>∃ (L dx t m:Addr) (cl:V),vs=[.ref L]∧H L=some (.ins C dx (fsL t m cl))∧Q cl H
noncomputable def sp_sum:Sp:=fun vs H Q _=>∃ c l,vs=[.int c,.int l]∧0≤c∧c≤2000000∧∀ z H',Same H H'→Q (.int z) H'
noncomputable def sp_duesL (K:PySem.W.Frag):Sp:=fun vs H Q _=>∃ (a:Addr) (ns:List Int) (at':Int) (nl:Addr) (nms:List Str) (tl:Addr) (told:List (Str × Int)),vs=[.ref a,.int at',.ref nl,.ref tl]∧(∀ H',Fr [tl] H H'→SqL K H' a (ns.map V.int))∧0≤at'∧H nl=some (.lst (nms.map V.str))∧nms.length≤8∧nms.Nodup∧H tl=some (.dK (dOf told))∧told.length≤1000 ∧
  ∀ (prs told':List (Str × Int)) (r:Addr) (ys:List V) (H':Hp),(prs.map (·.1)).Nodup→(∀ p∈prs,p.1∈nms)→prs.length≤nms.length→told'.length≤told.length+nms.length→Fr [tl] H H'→H' tl=some (.dK (dOf told'))→H r=none→H' r=some (.lst ys)→TupsAt H' ys (prs.map cP)→Q (.ref r) H'
noncomputable def sp_paidL:Sp:=fun vs H Q _=>∃ (o pd ml:Addr) (lv:V) (tot:List (Str × Int)) (mds:List (Int × Str × Int)) (mo:Int) (l:Addr) (ts:List V) (prs:List (Str × Int)),vs=[.ref o,.int mo,.ref l]∧OwnAt H o pd ml lv tot mds∧o≠pd ∧
  H l=some (.lst ts)∧l≠ml∧TupsAt H ts (prs.map cP)∧prs.length<64∧(prs.map (·.1)).Nodup∧mds.length≤1000∧tot.length≤1000 ∧
  ∀ (qs:List (Str × Int)) (r:Addr) (ys:List V) (H':Hp),qs.Perm prs→qs.Pairwise (fun a b=>¬ b.1.cps.toList<a.1.cps.toList)→OwnAt H' o pd ml (.int mo) (settle tot (duesOf tot qs)) (mds++(duesOf tot qs).map fun p=>(mo,p)) →
    Fr [o,pd,ml] H H'→H r=none→H' r=some (.lst ys)→TupsAt H' ys ((duesOf tot qs).map cP)→Q (.ref r) H'
noncomputable def sp_are (K:PySem.W.Frag):Sp:=fun vs H Q _=>∃ (f g:Addr) (ys zs:List V) (cs:List (List V)),vs=[.ref f,.ref g]∧H f=some (.lst ys)∧TupsAt H ys cs∧H g=some (.lst zs)∧TupsAt H zs cs∧cs.length≤2000∧(∀ c∈cs,c.all flatV=true)∧(∀ c∈cs,∃ i z,c=i++[V.int z])∧∀ H',Same H H'→Q (.bl true) H'
noncomputable def sp_answer (C:Addr):Sp:=fun vs H Q _=>∃ (A:Adr) (cl:V) (tot:List (Str × Int)) (mds:List (Int × Str × Int)) (told:List (Str × Int)) (n:Nat) (qn c:Int),vs=[.ref A.L,.ref A.o,.ref A.hl,.ref A.nl,.int qn,.int c]∧AOk A∧LedAt C H A.L A.dx A.t A.m cl tot mds∧OwnAt H A.o A.pd A.ml cl tot mds∧Rs C H A told n ∧
  (cl = .non∨∃ z,cl = .int z)∧0≤c∧c≤1000000∧mds.length≤1000∧n≤1000∧∀ H',Fr [A.hl] H H'→Rs C H' A told (n+1)→Q (.bl true) H'
noncomputable def sp_looked (C:Addr):Sp:=fun vs H Q _=>∃ (A:Adr) (cl:V) (tot:List (Str × Int)) (mds:List (Int × Str × Int)) (told:List (Str × Int)) (n:Nat) (c:Int),vs=[.ref A.L,.ref A.o,.ref A.hl,.ref A.nl,.int c]∧AOk A∧LedAt C H A.L A.dx A.t A.m cl tot mds∧OwnAt H A.o A.pd A.ml cl tot mds∧Rs C H A told n ∧
  (cl = .non∨∃ z,cl = .int z)∧0≤c∧c<1000003∧mds.length≤1000∧n≤990∧∀ H',Fr [A.hl] H H'→Rs C H' A told (n+6)→Q (.bl true) H'
end Pg
namespace L2
open PySem PySem.Spec PyProof.Rows
noncomputable def tOrN (ta tb:TE):TE:=fun σ H Q=>ta σ H fun x H1=>(x = .non∧tb σ H1 Q)∨∃ i,x = .int i∧(i≠0→Q (.int i) H1)∧(i=0→tb σ H1 Q)
section
variable {X:Cx} {a b:Expr} {rest:List Expr} {ta tb:TE} {pos:Pos}
end
noncomputable def rNeNil (K:PySem.W.Frag):R2:=fun x y H Q=>∃ a b xs,x = .ref a∧y = .ref b∧SqL K H a xs∧SqL K H b []∧(xs=[]→Q (.bl false) H)∧(xs≠[]→Q (.bl true) H)
noncomputable abbrev TJ:=St→Hp→(List Str→Hp→Prop)→Prop
noncomputable def joinS:List Str→Str
  | []=>Str.empty
  | z::r=>z++joinS r
noncomputable def tjNil:TJ:=fun _ H Q=>Q [] H
noncomputable def tjCons (te:TE) (t:TJ):TJ:=fun σ H Q=>te σ H fun v H1=>∃ z,v = .str z∧z.length≤100000∧t σ H1 fun zs H2=>Q (z::zs) H2
noncomputable def PJ (X:Cx) (es:List Expr) (t:TJ):Prop:=∀ (pins:List (Addr × Obj)) (s:Shared) (σ:St) (H:Hp) (out:Str) (Q:VK),Inv X pins σ H s→out.length+100000*es.length≤sizeLine→(t σ H fun zs H'=>Q (.str (out++joinS zs)) H') →
  wpAny (model X.prog X.w) X.A (joinParts out (evalEach es X.env)) (EP X pins σ Q) X.xe s
section
variable {X:Cx} {e:Expr} {es:List Expr} {te:TE} {t:TJ} {pos:Pos}
noncomputable def tFStr (t:TJ):TE:=fun σ H Q=>t σ H fun zs H'=>Q (.str (joinS zs)) H'
end
end L2
namespace Pg
open PySem L2
noncomputable def absI (a:Int):Int:=if a<0 then -a else a
noncomputable def signS (a:Int):Str:=if a<0 then "-" else ""
noncomputable def toldS (a:Int):Str:=joinS [signS a,numS (absI a/100),".",Txt.zfill (numS (absI a%100)) 2]
noncomputable def stripR (l:List Nat):List Nat:=l.take (l.length - (l.reverse.takeWhile fun c=>decide (c=32)).length)
theorem join_one (sep z:Str):Txt.join sep [z]=z:=rfl
theorem join_snoc (sep z:Str) {zs:List Str} (h:zs≠[]):Txt.join sep (zs++[z])=Txt.join sep zs++sep++z:=by
  cases zs with
  | nil=>exact absurd rfl h
  | cons a r =>
    unfold Txt.join Builtin.Str.glued
    show Str.mk ((r++[z]).foldl _ _)=Str.mk (_++_++_)
    rw[List.foldl_append]
    rfl
end Pg
namespace L2
open PySem PySem.Spec PyProof.Rows
section
variable {X:Cx} {pins:List (Addr × Obj)} {σ:St} {H:Hp} {s:Shared}
theorem Inv.turnedS {t':Nat} {h':Heap} {fp:List Addr} (I:Inv X pins σ H s) (k:∀ b o,¬ b∈fp→s.heap.get? b=some o→h'.get? b=some o) (hf:∀ b∈fp,FpOk X pins H b):Inv X pins σ H { s with heap:=h',toks:=t' }:=by
  have nit:∀ b u,H b=some u→¬ b∈fp:=fun b u e z=>by rw[(hf b z).1] at e;cases e
  refine I.step (g':=s.gens) (d':=s.drawn) (ch:=fp) (fun b hb=>?_) (fun b o _ _ hc e _=>k b o hc e) (fun b o _ _ hc e _=>⟨o.slots,k b o hc e⟩) (fun _ _ _ _ n=>n)
    (fun b o hc e=>⟨o,k b o hc e⟩) (fun _ _ e=>e) (fun _ _ _ e=>e) (fun b ps e=>⟨#[],by rw[e];simp⟩) (fun m hm=>?_) (fun b u e=>?_) I.bare
  · obtain⟨_,h2,_,h4,h5,h6⟩:=hf b hb
    exact⟨h4,h2,h5,h6⟩
  · obtain⟨o,es,ep,ho,r⟩:=hm
    exact⟨o,es,ep,k _ o (fun z=>(hf _ z).2.1 rfl) ho,r⟩
  · refine (I.hok b u e).stay (fun c v hc q=>k c v ?_ q) (fun _ q=>q) fun _ _ q=>q
    rcases hc with z | z
    · rw[z];exact nit b u e
    · exact nit c _ z
theorem Inv.pair {h':Heap} {t':Nat} {v w:V} {x y:Value} (I:Inv X pins σ H s) (J:Inv X pins σ H { s with heap:=h',toks:=t' }) (hv:RelV v x) (hw:RelV w y) (hp:IsPair h' s.heap.objs.size x y) :
    Inv X pins σ (upd H s.heap.objs.size (.tup [v,w])) { s with heap:=h',toks:=t' } :=
  J.adoptO (o:=.tup [v,w]) (I.fpOk (Nat.le_refl _) (I.hok.fresh (Nat.le_refl _))) ⟨lenOk rfl,[x,y],.cons hv (.cons hw .nil),_,hp,rfl,_,rfl⟩
end
noncomputable def Itz (K:PySem.W.Frag) (a b:Addr):It :=
  ⟨fun i H=>∃ xs ys x y,SqL K H a xs∧SqL K H b ys∧xs[i]? = some x∧ys[i]? = some y,
    fun i H z H'=>∃ p x y,z = .ref p∧H p=none∧H'=upd H p (.tup [x,y])∧∀ xs ys,SqL K H a xs→SqL K H b ys→xs[i]? = some x∧ys[i]? = some y,
    fun i H=>∃ xs ys,SqL K H a xs∧SqL K H b ys∧(xs.length≤i∨ys.length≤i)⟩
noncomputable def Ite (K:PySem.W.Frag) (a:Addr):It :=
  ⟨fun i H=>∃ xs x,SqL K H a xs∧xs[i]? = some x,
    fun i H z H'=>∃ p x,z = .ref p∧H p=none∧H'=upd H p (.tup [.int (i:Nat),x])∧∀ xs,SqL K H a xs→xs[i]? = some x,
    fun i H=>∃ xs,SqL K H a xs∧xs.length≤i⟩
theorem turn_zip {P:Program} {w:World} {K:PySem.W.Frag} {es:List Expr} {n:Nat} {pos:Pos} {z TI TO i1 i2 a b:Addr} (D:ZipApart z TI TO i1 i2 a b) :
    Turn P w K (.Tuple es n pos) (Itz K a b) [z,TI,TO,i1,i2] z (fun i h=>IsZip h z TI TO .none∧IsPair h TI (.ref i1) (.ref i2)∧(∃ u v,IsPair h TO u v)∧h.IsListIter i1 a i∧h.IsListIter i2 b i) where
  mem:=by simp
  obj:=fun i h st c hc=>by
    obtain⟨h1,h2,⟨u,v,h3⟩,h4,h5⟩:=st
    simp only[List.mem_cons,List.not_mem_nil,or_false] at hc
    rcases hc with rfl | rfl | rfl | rfl | rfl
    · exact⟨_,h1,fun v q=>nomatch q⟩
    · exact⟨_,h2,fun v q=>nomatch q⟩
    · exact⟨_,h3,fun v q=>nomatch q⟩
    · obtain⟨o,e,c,d⟩:=h4
      exact⟨o,e,fun v q=>by rw[d] at q;cases q⟩
    · obtain⟨o,e,c,d⟩:=h5
      exact⟨o,e,fun v q=>by rw[d] at q;cases q⟩
  keep:=fun i h h' st k=>by
    obtain⟨h1,h2,⟨u,v,h3⟩,h4,h5⟩:=st
    exact⟨k z (by simp) _ h1,k TI (by simp) _ h2,⟨u,v,k TO (by simp) _ h3⟩,h4.at fun o e=>k i1 (by simp) o e,h5.at fun o e=>k i2 (by simp) o e⟩
  item:=by
    intro X hP hw hK hc i pins s σ H E I hf st hg
    subst hP hw hK
    obtain⟨h1,h2,⟨u,v,h3⟩,h4,h5⟩:=st
    obtain⟨xs,ys,x,y,q1,q2,hx,hy⟩:=hg
    obtain⟨its,rv,p,hz⟩:=I.list q1
    obtain⟨jts,rw',p',hz'⟩:=I.list q2
    obtain⟨x',hx',rx⟩:=rv.get hx
    obtain⟨y',hy',ry⟩:=rw'.get hy
    have lt:∀ c∈[z,TI,TO,i1,i2],c<s.heap.objs.size:=fun c hc=>by
      obtain⟨o4,e4,_⟩:=h4
      obtain⟨o5,e5,_⟩:=h5
      simp only[List.mem_cons,List.not_mem_nil,or_false] at hc
      rcases hc with rfl | rfl | rfl | rfl | rfl
      · exact Heap.lt_size h1
      · exact Heap.lt_size h2
      · exact Heap.lt_size h3
      · exact Heap.lt_size e4
      · exact Heap.lt_size e5
    refine wpAny_pyNext_zip_item D h1 h2 h3 h4 h5 p.isList p'.isList (x:=x') (y:=y') (by simpa using hx') (by simpa using hy') fun h' k1 k2 k3 k4 k5 k6 k7=>?_
    refine⟨_,rfl,wpAny_letOwnedTupleGo_zip k1 fun h2' m1 sb=>?_⟩
    have sb:Heap.SameBut z h' h2':=sb
    have kk:∀ c o,¬ c∈[z,TI,TO,i1,i2]→s.heap.get? c=some o→h2'.get? c=some o:=fun c o hc e=>by
      simp only[List.mem_cons,List.not_mem_nil,or_false,not_or] at hc
      exact sb.extBut _ _ hc.1 (k7 c o hc.1 hc.2.2.1 hc.2.2.2.1 hc.2.2.2.2 e)
    have nz:s.heap.objs.size≠z:=Nat.ne_of_gt (lt z (by simp))
    have J:Inv X pins σ H { s with heap:=h2',toks:=s.toks }:=I.turnedS kk hf
    refine⟨.ref s.heap.objs.size,_,I.pair J rx ry (sb.extBut _ _ nz k5),rfl,⟨_,x,y,rfl,I.hok.fresh (Nat.le_refl _),rfl,fun xs' ys' r1 r2=>?_⟩,⟨m1,?_,⟨_,_,sb.extBut _ _ D.TOz k2⟩,k3.extBut sb.extBut D.i1z,k4.extBut sb.extBut D.i2z⟩,fun c hc=>?_⟩
    · rw[I.list_inj r1 q1,I.list_inj r2 q2]
      exact⟨hx,hy⟩
    · exact sb.extBut _ _ D.TIz (k7 _ _ D.TIz D.TITO D.TIi1 D.TIi2 h2)
    · rw[upd_ne (Nat.ne_of_lt (lt c hc))]
      exact (hf c hc).1
  done:=by
    intro X hP hw hK hc i pins s σ H E I hf st hg
    subst hP hw hK
    obtain⟨h1,h2,⟨u,v,h3⟩,h4,h5⟩:=st
    obtain⟨xs,ys,q1,q2,hl⟩:=hg
    obtain⟨its,rv,p,hz⟩:=I.list q1
    obtain⟨jts,rw',p',hz'⟩:=I.list q2
    have l1:=rv.length
    have l2:=rw'.length
    refine wpAny_pyNext_zip_end (I.ok.hd hc) D h1 h2 h3 h4 h5 p.isList p'.isList ?_ fun h' k=>⟨rfl,I.turnedS (t':=s.toks) (fun c o hc e=>?_) hf⟩
    · rcases hl with hl | hl
      · exact .inl (by simp;omega)
      · exact .inr (by simp;omega)
    · simp only[List.mem_cons,List.not_mem_nil,or_false,not_or] at hc
      exact k c o hc.1 hc.2.2.1 hc.2.2.2.1 hc.2.2.2.2 e
  self:=fun _ _ _ _ _ st h=>wpAny_pyIter_zip st.1 h
noncomputable def iZip (K:PySem.W.Frag) (ta:TA):TI:=fun σ H R=>ta σ H fun vs H1=>∃ a b,vs=[.ref a,.ref b]∧(∃ xs,SqL K H1 a xs)∧(∃ ys,SqL K H1 b ys)∧R (Itz K a b) H1
noncomputable def iEnum (K:PySem.W.Frag) (ta:TA):TI:=fun σ H R=>ta σ H fun vs H1=>∃ a,vs=[.ref a]∧(∃ xs,SqL K H1 a xs)∧R (Ite K a) H1
section
variable {X:Cx} {es:List Expr} {n:Nat} {tpos:Pos}
theorem pi_zip {a b:Expr} {ta:TA} {p pos:Pos} (hg:Gl X "zip") (hm:X.mg "zip" = none) (ha:PA X [a,b] ta) (hs:starEach [a,b] X.env=[(false,eval a X.env),(false,eval b X.env)]:=by rfl) (hs2:starEach [b] X.env=[(false,eval b X.env)]:=by rfl) :
    PI X (.Tuple es n tpos) (.Call (.Name "zip" p) [a,b] [] pos) (iZip X.K ta):=by
  intro pins s σ H R I h
  refine Call_ (ld_blt I hg hm boot_zip (PyProof.Rows.callWith_type1 (thn (ha pos pins s σ H _ I h) fun us s1 ⟨vs,H1,I1,r1,q1⟩=>?_) (by rw[hs,hs2]) (by rw[hs2];rfl)))
  obtain⟨l1,l2,e,⟨xs,h1⟩,⟨ys,h2⟩,q⟩:=q1
  subst e
  cases r1 with
  | cons r rr =>
    cases rr with
    | cons r' rr =>
      cases rr
      cases r
      cases r'
      obtain⟨its,rv,p,hz⟩:=I1.list h1
      obtain⟨jts,rw',p',hz'⟩:=I1.list h2
      have a1:l1<s1.heap.objs.size:=by obtain⟨_,e,_⟩:=p.isList;exact Heap.lt_size e
      have a2:l2<s1.heap.objs.size:=by obtain⟨_,e,_⟩:=p'.isList;exact Heap.lt_size e
      refine call_zip_2 p.isList p'.isList fun h' k1 k2 k3 k4 k5 k6 k7=>?_
      refine wpAny_pyIter_zip k1 ?_
      refine⟨_,_,_,_,H1,rfl,I1.kept (t':=s1.toks) k7,turn_zip (zipApart_new a1 a2),⟨k1,k2,⟨_,_,k3⟩,k4,k5⟩,fun c hc=>?_,q⟩
      have hc:s1.heap.objs.size≤c:=by
        simp only[List.mem_cons,List.not_mem_nil,or_false] at hc
        rcases hc with rfl | rfl | rfl | rfl | rfl
        · exact Nat.le_add_right _ _
        · exact Nat.le_add_right _ _
        · exact Nat.le_add_right _ _
        · exact Nat.le_refl _
        · exact Nat.le_add_right _ _
      exact I1.fpOk hc (I1.hok.fresh hc)
end
end L2
set_option maxHeartbeats 1000000
namespace L2
open PySem PySem.Spec PyProof.Rows PySem.W
noncomputable def rSortI:List V→Hp→VK→Prop:=fun xs H Q=>∃ (v d:Addr) (tot:List (Str × Int)),xs=[.ref v]∧H v=some (itemsO v d)∧H d=some (.dK (dOf tot))∧tot.length<64∧(tot.map (·.1)).Nodup ∧
  ∀ (qs:List (Str × Int)) (l:Addr) (ys:List V) (H':Hp),qs.Perm tot→qs.Pairwise (fun a b=>¬ b.1.cps.toList<a.1.cps.toList)→Same H H'→H l=none→H' l=some (.lst ys)→TupsAt H' ys (qs.map cP)→Q (.ref l) H'
end L2
namespace DT
open PySem PySem.Spec PyProof.Rows
section
variable {prog:Program} {w:World} {A:Around} {E:Value→Shared→Prop} {s:Shared}
variable {K:Type} [DecidableEq K] {knd:KeyKind prog w K}
end
end DT
namespace L2
open PySem PySem.Spec PyProof.Rows
noncomputable def tupO (its:Array Value) (n:Nat):Obj:={ cls:=.type "tuple",data:=.seq its n }
section
variable {X:Cx}
end
open Builtin Builtin.Str
section
variable {prog:Program} {w:World} {A:Around} {E:Value→Shared→Prop} {s:Shared} {J l:Addr} {items:Array Value}
noncomputable def RevAt (items:Array Value) (i:Nat) (v:Value):Prop:=items[items.size - 1 - i]? = some v
end
noncomputable def tJoinRev (K:PySem.W.Frag) (sep:Str) (ta:TA):TE:=fun σ H Q=>ta σ H fun vs H1=>∃ (l:Addr) (zs:List Str),vs=[.ref l]∧SqL K H1 l (zs.map V.str)∧zs.length≤100000∧JoinOk sep zs.reverse=true∧Q (.str (Txt.join sep zs.reverse)) H1
section
variable {X:Cx} {a:Expr} {ta:TA} {p1 p2 p3 apos cpos:Pos} {sep:Str} {kn:Nat}
end
end L2
namespace L2
open PySem PySem.Spec PyProof.Rows
section
variable {X:Cx}
end
theorem noIf {σ:St} {H:Hp} {A B:Hp→Prop} (h:A H):tNoIf σ H fun b H2=>if b=true then A H2 else B H2:=by
  show if true=true then A H else B H
  exact iteT h
structure ItemsAt {α:Type} (H:Hp) (ys:List V) (xs:List α) (P:Hp→V→α→Prop):Prop where
  len:ys.length=xs.length
  at_:∀ (i:Nat) (y:V),ys[i]? = some y→∃ x,xs[i]? = some x∧∀ H',Same H H'→P H' y x
section
variable {J:It} {D:Addr} {te:TE} {fin:List V→Hp→Prop} {σ:St} {H:Hp} {ys:List V} {α:Type} {xs:List α} {P:Hp→V→α→Prop}
theorem comp_at (W:Walk J H ys) (T:ItemsAt H ys xs P) (hD:H D=none) (hz:xs.length<sizeLine) (φ:α→V)
    (he:∀ x∈xs,∀ v H' R,Same H H'→P H' v x→(∀ H'',Same H' H''→R (φ x) H'')→te (σ.set 0 (some v)) H' R)
    (hf:∀ H',Same H H'→H' D=some (.lst (xs.map φ))→fin (xs.map φ) H'):tTurnsI J D (gName 0) tNoIf te fin σ (upd H D (.lst [])):=by
  refine comp_walk W hD (fun i zs H'=>zs=(xs.take i).map φ) (fun σ'=>∀ x,σ'.set 0 (some x) = σ.set 0 (some x)) (fun _=>rfl) rfl ?_ ?_
  · rintro i y zs σ' H' hy hσ s hd hl rfl
    obtain⟨x,hx,hP⟩:=T.at_ i y hy
    have tk:xs.take (i+1)=xs.take i++[x]:=by rw[List.take_add_one,hx];rfl
    have hi:i<xs.length:=(List.getElem?_eq_some_iff.mp hx).1
    have hσ2:∀ z,(σ'.set 0 (some y)).set 0 (some z) = σ.set 0 (some z):=fun z=>by rw[List.set_set];exact hσ z
    unfold cTurn gName
    dsimp only
    refine noIf ?_
    rw[hσ y] at hσ2 ⊢
    refine he x (List.mem_of_getElem? hx) y _ _ s (hP _ s) fun H3 s3=>⟨s3 _ _ hd,by omega,hσ2,fun b o z=>?_,upd_same,?_,?_⟩
    · rw[upd_ne (ne_of_none z hD)]
      exact s3 _ _ (s _ _ z)
    · rw[List.length_append,List.length_singleton];omega
    · rw[tk,List.map_append];rfl
  · rintro zs H' s hd hl rfl
    rw[T.len,List.take_length] at hd ⊢
    exact hf H' s hd
theorem comp_rel (W:Walk J H ys) (hl:ys.length=xs.length) (hD:H D=none) (hz:xs.length<sizeLine) (S:V→α→Prop)
    (he:∀ (i:Nat) x v,xs[i]? = some x→ys[i]? = some v→∀ H' R,Same H H'→(∀ u H'',S u x→Same H' H''→R u H'')→te (σ.set 0 (some v)) H' R)
    (hf:∀ zs H',Same H H'→zs.length=xs.length→(∀ (i:Nat) u,zs[i]? = some u→∃ x,xs[i]? = some x∧S u x)→H' D=some (.lst zs)→fin zs H'):tTurnsI J D (gName 0) tNoIf te fin σ (upd H D (.lst [])):=by
  refine comp_walk W hD (fun i zs H'=>zs.length=i∧∀ (j:Nat) u,zs[j]? = some u→∃ x,xs[j]? = some x∧S u x) (fun σ'=>∀ x,σ'.set 0 (some x) = σ.set 0 (some x)) (fun _=>rfl) ⟨rfl,fun j u e=>by cases e⟩ ?_ ?_
  · rintro i y zs σ' H' hy hσ s hd hl' ⟨g1,g2⟩
    have hi:i<xs.length:=by rw[← hl];exact (List.getElem?_eq_some_iff.mp hy).1
    have hx:=List.getElem?_eq_getElem hi
    have hσ2:∀ z,(σ'.set 0 (some y)).set 0 (some z) = σ.set 0 (some z):=fun z=>by rw[List.set_set];exact hσ z
    unfold cTurn gName
    dsimp only
    refine noIf ?_
    rw[hσ y] at hσ2 ⊢
    refine he i _ y hx hy _ _ s fun u H3 hu s3=>⟨s3 _ _ hd,by omega,hσ2,fun b o z=>?_,upd_same,?_,?_,fun j w e=>?_⟩
    · rw[upd_ne (ne_of_none z hD)]
      exact s3 _ _ (s _ _ z)
    · rw[List.length_append,List.length_singleton];omega
    · rw[List.length_append,List.length_singleton,g1]
    · by_cases hj:j<zs.length
      · rw[List.getElem?_append_left hj] at e
        exact g2 j w e
      · rw[List.getElem?_append_right (Nat.le_of_not_lt hj)] at e
        cases q:j - zs.length with
        | zero =>
          rw[q] at e
          cases e
          have:j=i:=by omega
          subst this
          exact⟨_,hx,hu⟩
        | succ n =>
          rw[q] at e
          cases e
  · rintro zs H' s hd _ ⟨g1,g2⟩
    exact hf zs H' s (g1.trans hl) g2 hd
end
noncomputable def ownH (h:Heap):Heap:=(h.push { cls:=.type "dict",data:=.dict #[] }).push { cls:=.type "cell",data:=.cell none }
structure CompOkN (X:Cx) (Nc:List Str) (scope:Scope) (cl:List (Str × Addr)) (src:List (Option Nat)) (x0:Str):Prop where
  clos:closureFor scope X.env=pure cl
  kind:scope.kind = .function
  lay:∀ n acc,cellsFrom n scope.names acc=(x0,n)::acc
  push:∀ h,pushCells h scope.names=h.push { cls:=.type "cell",data:=.cell none }
  names:∀ y∈scope.names,y.2 = .local→scope.names.lookup y.1=some .local
  sub:∀ x c,cl.lookup x=some c→X.env.cells.lookup x=some c
  has:∀ c0 x,((relabel scope X.env).names.lookup x=some .cell∨(relabel scope X.env).names.lookup x=some .free)→∃ c,((x0,c0)::cl).lookup x=some c
  frm:∀ (i j:Nat),src[i]? = some (some j)→∃ x,Nc[i]? = some x∧X.N[j]? = some x∧X.env.scope.names.lookup x=some .cell∧(relabel scope X.env).names.lookup x=some .cell∧x≠x0
  len:src.length=Nc.length
noncomputable def cxCompN (X:Cx) (Nc:List Str) (scope:Scope) (x0:Str) (cl:List (Str × Addr)) (C:Addr) (fp:List Addr) (s:Shared) (H:Hp):Cx :=
  { X with N:=Nc,s₀:=s,H₀:=H,env:=compEnvC scope ((x0,C+1)::cl) C X.env,outer:=X.stack,ex:=fp,fn:=fun x=>decide (x=x0),pn:=[],xe:=fun _ _=>False }
section
variable {X:Cx} {elt iter tgt:Expr} {ifs:List Expr} {scope:Scope} {cl:List (Str × Addr)} {Nc:List Str} {src:List (Option Nat)} {g:TG} {tt:TT} {te:TE} {x0:Str}
end
end L2
namespace Pg
open PySem L2
structure LstsAt (H:Hp) (ys:List V) (tab:List (List Str)):Prop where
  len:ys.length=tab.length
  at_:∀ (i:Nat) (r:List Str),tab[i]? = some r→∃ a,ys[i]? = some (V.ref a)∧H a=some (.lst (r.map V.str))
section
variable {H H':Hp} {ys:List V} {tab:List (List Str)}
end
structure TabOk (tab:List (List Str)) (n:Nat):Prop where
  wide:∀ r∈tab,r.length=n
  text:∀ r∈tab,∀ z∈r,z.length≤30
  n1:1≤n
  n2:n≤14
  t1:1≤tab.length
  t2:tab.length≤17
noncomputable def cellL (r:List Str) (k:Nat):Nat:=(r.getD k Str.empty).length
noncomputable def maxL (l:List Nat):Nat:=l.foldr max 0
noncomputable def colW (tab:List (List Str)) (k:Nat):Nat:=maxL (tab.map fun r=>cellL r k)
noncomputable def wdOf (tab:List (List Str)) (n:Nat):List Nat:=(List.range n).map (colW tab)
noncomputable def cellsS (r:List Str) (ws:List Nat):List Str:=(List.zipWith (fun z (w:Nat)=>Txt.rjust z w) r ws).set 0 (Txt.ljust (r.getD 0 Str.empty) ((ws.getD 0 0:Nat):Int))
noncomputable def rowS (r:List Str) (ws:List Nat):Str:=Txt.rstripChars (Txt.join "  " (cellsS r ws)) " "
noncomputable def rowsS (tab:List (List Str)) (n:Nat):List Str:=tab.map fun r=>rowS r (wdOf tab n)
section
variable {tab:List (List Str)} {n:Nat}
end
theorem foldl_lens (sep:Str) (m:Nat):∀ (zs:List Str) (acc:Nat),(∀ z∈zs,z.length≤m)→zs.foldl (fun a z=>a+z.length+sep.length) acc≤acc+zs.length*(m+sep.length):=by
  intro zs
  induction zs with
  | nil=>intro acc _;simp
  | cons z r ih =>
    intro acc h
    rw[List.foldl_cons]
    have h1:=ih (acc+z.length+sep.length) fun z hz=>h z (List.mem_cons_of_mem _ hz)
    have h2:=h z List.mem_cons_self
    rw[List.length_cons,Nat.succ_mul]
    omega
theorem join_len {sep:Str} {m:Nat} (hs:sep.length≤2):∀ (k:Nat) (zs:List Str),zs.length=k→(∀ z∈zs,z.length≤m)→(Txt.join sep zs).length≤k*(m+2):=by
  intro k
  induction k with
  | zero =>
    intro zs e _
    rw[List.length_eq_zero_iff.mp e]
    exact Nat.zero_le _
  | succ k ih =>
    intro zs e h
    rcases List.eq_nil_or_concat zs with rfl | ⟨r,z,rfl⟩
    · cases e
    · rw[List.concat_eq_append] at e h ⊢
      have er:r.length=k:=by rw[List.length_append,List.length_singleton] at e;omega
      have hz:=h z (List.mem_append_right _ List.mem_cons_self)
      have hr:=ih r er fun z hz=>h z (List.mem_append_left _ hz)
      rw[Nat.succ_mul]
      by_cases c:r=[]
      · subst c
        rw[List.nil_append,join_one]
        omega
      · rw[join_snoc _ _ c,app_len,app_len]
        omega
theorem join_small {sep:Str} {zs:List Str} {m k:Nat} (h:∀ z∈zs,z.length≤m) (hk:zs.length≤k) (hs:sep.length≤2) (hz:Nat.ble (k*(m+2)) 1000000=true):JoinOk sep zs=true∧(Txt.join sep zs).length≤k*(m+2):=by
  have h1:=foldl_lens sep m zs 0 h
  have h2:zs.length*(m+sep.length)≤k*(m+2):=Nat.mul_le_mul hk (Nat.add_le_add_left hs _)
  have h3:=Nat.le_of_ble_eq_true hz
  constructor
  · unfold JoinOk Builtin.Str.tooLong
    rw[List.foldl_toArray,Bool.not_eq_true',decide_eq_false_iff_not,sizeLine_eq]
    omega
  · exact Nat.le_trans (join_len hs _ zs rfl h) (Nat.mul_le_mul_right _ hk)
noncomputable def sp_needA:Sp:=fun vs H Q _=>∃ i,vs=[.int i]∧Q .non H
noncomputable def sp_year0:Sp:=fun vs H Q _=>∃ z,vs=[.int z]∧0≤z∧z≤119999∧Q (.int (z/12)) H
noncomputable def sp_place0:Sp:=fun vs H Q _=>∃ z,vs=[.int z]∧0≤z∧z≤119999∧Q (.int (z%12+1)) H
noncomputable def sp_month0:Sp:=fun vs H Q _=>∃ z,vs=[.int z]∧0≤z∧z≤119999∧Q (.str (monthS z)) H
noncomputable def sp_figures:Sp:=fun vs H Q _=>∃ n,vs=[.int n]∧0≤n∧n<10 ^ 18∧∀ H',Same H H'→Q (.str (numS n)) H'
noncomputable def sp_told:Sp:=fun vs H Q _=>∃ a,vs=[.int a]∧absI a<10 ^ 20∧∀ H',Same H H'→Q (.str (toldS a)) H'
noncomputable def intsV (ws:List Nat):List V:=ws.map fun w=>V.int (w:Nat)
noncomputable def sp_widths:Sp:=fun vs H Q _=>∃ t ys tab n,vs=[.ref t]∧H t=some (.lst ys)∧LstsAt H ys tab∧TabOk tab n∧∀ r H',Same H H'→H r=none→H' r=some (.lst (intsV (wdOf tab n)))→Q (.ref r) H'
noncomputable def sp_row:Sp:=fun vs H Q _=>∃ a b r ws n,vs=[.ref a,.ref b]∧H a=some (.lst (r.map V.str))∧H b=some (.lst (intsV ws))∧r.length=n∧ws.length=n∧1≤n∧n≤14∧(∀ z∈r,z.length≤30)∧(∀ w∈ws,w≤30)∧∀ H',Same H H'→Q (.str (rowS r ws)) H'
noncomputable def sp_rows:Sp:=fun vs H Q _=>∃ t ys tab n,vs=[.ref t]∧H t=some (.lst ys)∧LstsAt H ys tab∧TabOk tab n∧∀ r H',Same H H'→H r=none→H' r=some (.lst ((rowsS tab n).map V.str))→Q (.ref r) H'
theorem rng_items {H:Hp} (n:Nat):ItemsAt H ((List.range n).map fun k=>V.int (0+(k:Nat))) (List.range n) (fun _ v k=>v = .int (k:Nat)) :=
  ⟨List.length_map _,fun i y h=>by
    rw[List.getElem?_map] at h
    obtain⟨z,h1,rfl⟩:=Option.map_eq_some_iff.mp h
    exact⟨z,h1,fun _ _=>by rw[Int.zero_add]⟩⟩
noncomputable def addD (t:List (Str × Int)) (p:Str × Int):List (Str × Int):=putT t p.1 (getT t p.1+p.2)
noncomputable def addDs (t prs:List (Str × Int)):List (Str × Int):=prs.foldl addD t
noncomputable def addAll (prss:List (List (Str × Int))):List (Str × Int):=prss.foldl addDs []
noncomputable def sumL (l:List Int):Int:=l.foldr (· + ·) 0
structure Stm where
  m:Int
  b:Int
  ds:List (Str × Int)
  n:Int
noncomputable def Sm (x:Int):Prop:=-(2*10 ^ 18)≤x∧x≤2*10 ^ 18
structure StOk (nms:List Str) (s:Stm):Prop where
  m0:0≤s.m
  m1:s.m≤119999
  b:Sm s.b
  n:Sm s.n
  ds:∀ p∈s.ds,Sm p.2
  nm:∀ p∈s.ds,p.1∈nms
  nd:(s.ds.map (·.1)).Nodup
structure StsOk (nms:List Str) (sts:List Stm):Prop where
  few:sts.length≤15
  n11:nms.length≤11
  len:∀ z∈nms,z.length≤30
  each:∀ s∈sts,StOk nms s
noncomputable def KT (H H':Hp):Prop:=∀ b c,(H b=some (.tup c)→H' b=some (.tup c))∧∀ o,H b=some (.frz o (.tup c))→H' b=some (.frz o (.tup c))
noncomputable def DuesAt (H:Hp) (d:Addr) (prs:List (Str × Int)):Prop:=∃ ts,Rd H d (.tup ts)∧TupsAt H ts (prs.map cP)
noncomputable def FzAt (H:Hp) (d:Addr) (prs:List (Str × Int)):Prop:=∃ its n ts,H d=some (.frz (tupO its n) (.tup ts))∧TupsAt H ts (prs.map cP)
noncomputable def StAt (H:Hp) (v:V) (s:Stm):Prop:=∃ a d,v = .ref a∧H a=some (.tup [.int s.m,.int s.b,.ref d,.int s.n])∧FzAt H d s.ds
structure StsAt (H:Hp) (ys:List V) (sts:List Stm):Prop where
  len:ys.length=sts.length
  at_:∀ (i:Nat) (y:V),ys[i]? = some y→∃ s,sts[i]? = some s∧StAt H y s
noncomputable def allD (sts:List Stm):List (Str × Int):=addAll (sts.map (·.ds))
noncomputable def dueS (prs:List (Str × Int)) (z:Str):Str:=match getO prs z with | some v=>toldS v | none=>"-"
noncomputable def rowC (title:Str) (b:Int) (prs:List (Str × Int)) (n:Int) (nms:List Str):List Str:=[title,toldS b]++nms.map (dueS prs)++[toldS n]
noncomputable def headC (nms:List Str):List Str:=[("month":Str),"base"]++nms++[("net":Str)]
noncomputable def tabC (sts:List Stm) (qs:List (Str × Int)):List (List Str):=[headC (qs.map (·.1))]++sts.map (fun s=>rowC (monthS s.m) s.b s.ds s.n (qs.map (·.1)))++[rowC "sums" (sumL (sts.map (·.b))) qs (sumL (sts.map (·.n))) (qs.map (·.1))]
noncomputable def paperS (sts:List Stm) (qs:List (Str × Int)):Str:=Txt.join "\n" (rowsS (tabC sts qs) (qs.length+3))
noncomputable def Srt (qs:List (Str × Int)):Prop:=qs.Pairwise (fun a b=>¬ b.1.cps.toList<a.1.cps.toList)
noncomputable def sp_together:Sp:=fun vs H Q _=>∃ l ys prss,vs=[.ref l]∧H l=some (.lst ys)∧ItemsAt H ys prss (fun H' v prs=>∃ d,v = .ref d∧DuesAt H' d prs)∧(addAll prss).length<64∧prss.length≤100∧(∀ prs∈prss,prs.length≤100) ∧
  ∀ qs t ys' H',qs.Perm (addAll prss)→Srt qs→Same H H'→H t=none→H' t=some (.tup ys')→TupsAt H' ys' (qs.map cP)→Q (.ref t) H'
noncomputable def sp_sums:Sp:=fun vs H Q _=>∃ l ys sts nms,vs=[.ref l]∧H l=some (.lst ys)∧StsAt H ys sts∧StsOk nms sts ∧
  ∀ qs t d ys' H',qs.Perm (allD sts)→Srt qs→Same H H'→H' t=some (.tup [.int (sumL (sts.map (·.b))),.ref d,.int (sumL (sts.map (·.n)))])→H' d=some (.tup ys')→TupsAt H' ys' (qs.map cP)→Q (.ref t) H'
noncomputable def Big (x:Int):Prop:=absI x<10 ^ 20
noncomputable def sp_dueT:Sp:=fun vs H Q _=>∃ d prs z,vs=[.ref d,.str z]∧DuesAt H d prs∧(∀ p∈prs,Big p.2)∧∀ H',Same H H'→Q (.str (dueS prs z)) H'
noncomputable def sp_cells:Sp:=fun vs H Q _=>∃ title b d prs n nl nms,vs=[.str title,.int b,.ref d,.int n,.ref nl]∧DuesAt H d prs∧(∀ p∈prs,Big p.2)∧Big b∧Big n∧H nl=some (.lst (nms.map V.str))∧nms.length≤100 ∧
  ∀ r H',Same H H'→H r=none→H' r=some (.lst ((rowC title b prs n nms).map V.str))→Q (.ref r) H'
noncomputable def sp_paper:Sp:=fun vs H Q _=>∃ l ys sts nms,vs=[.ref l]∧H l=some (.lst ys)∧StsAt H ys sts∧StsOk nms sts∧∀ qs H',qs.Perm (allD sts)→Srt qs→Same H H'→Q (.str (paperS sts qs)) H'
noncomputable def sp_next:Sp:=fun vs H Q _=>∃ n k,vs=[.int n,.int k]∧0≤n∧n<2147483629∧0≤k∧k≤1000∧∀ v,0≤v→v<2147483629→Q (.int v) H
noncomputable def sp_amt:Sp:=fun vs H Q _=>∃ n,vs=[.int n]∧0≤n∧n<536870911∧∀ v H',0≤v→v≤10 ^ 17→Same H H'→Q (.int v) H'
noncomputable def sp_toldL:Sp:=fun vs H Q _=>∃ a,vs=[.int a]∧Big a∧Q (.str (toldS a)) H
noncomputable def optV (o:Option Int):V:=(o.map V.int).getD .non
noncomputable def optS (o:Option Int):Str:=match o with | some v=>toldS v | none=>"-"
noncomputable def rowO (s:Stm) (nms:List Str):List (Option Int):=[some s.b]++nms.map (getO s.ds)++[some s.n]
noncomputable def totL (sts:List Stm) (nms:List Str):List Int:=[sumL (sts.map (·.b))]++nms.map (fun z=>sumL (sts.map fun s=>getT s.ds z))++[sumL (sts.map (·.n))]
noncomputable def ivV:V→Int | .int i=>i | _=>0
noncomputable def pairT (sts:List Stm) (nms:List Str):List (Str × Int):=nms.map fun z=>(z,getT (allD sts) z)
noncomputable def newN (N:List Str) (prs:List (Str × Int)):List Str:=(prs.filter fun p=>!decide (p.1∈N)).map (·.1)
structure NmOk (N:List Str) (sts:List Stm):Prop where
  nd:N.Nodup
  mem:∀ z,z∈N↔∃ s∈sts,z∈s.ds.map (·.1)
noncomputable def sp_namesL:Sp:=fun vs H Q _=>∃ n k,vs=[.int n,.int k]∧0≤n∧n<2147483629∧0≤k∧k≤11∧∀ (nms:List Str) (r:Addr) (H':Hp),nms.length=k.toNat→nms.Nodup→(∀ z∈nms,z.length≤30)→Same H H'→H r=none→H' r=some (.lst (nms.map V.str))→Q (.ref r) H'
noncomputable def oneS (c:Nat):Str:=⟨#[c]⟩
noncomputable def resv:List Str:=["base","net","month","sums"]
noncomputable def inR (z:Str):Bool:=inV (.str z) (resv.map V.str)
noncomputable def nqS (z:Str):Str:=z++timesS "q" (if inR z=true then 1 else 0)
noncomputable def nm1 (a:Str) (at':Int) (x:Int) (k:Nat):Str:=Txt.slice a none (some at')++oneS (97+((x+7*(k:Nat))%26).toNat)++Txt.slice a (some at') none
noncomputable def nm2 (f:Int) (k:Nat):Str:=timesS (oneS (97+((f+(k:Nat)/8)%26).toNat)) (1+(k:Nat)%8)
noncomputable def sp_sts (K:PySem.W.Frag):Sp:=fun vs H Q _=>∃ (a:Addr) (ns:List Int),vs=[.ref a]∧SqL K H a (ns.map V.int)∧∀ (nms:List Str) (sts:List Stm) (r:Addr) (ys:List V) (H':Hp),StsOk nms sts→Same H H'→H r=none→H' r=some (.lst ys)→StsAt H' ys sts→Q (.ref r) H'
noncomputable def dtS (s:Stm):Dt:=.t [.v (.int s.m),.v (.int s.b),.t (s.ds.map fun p=>.t ((cP p).map Dt.v)),.v (.int s.n)]
noncomputable def wayL:List Str:=["down","up","near","even"]
noncomputable def Tps (K:PySem.W.Frag) (mg:Str→Option Value) (x:Str) (zs:List Str):Prop:=∃ a,mg x=some (.ref a)∧∀ H,SqT K H a (zs.map V.str)
noncomputable def halfUp (z l:Int) (x:Str):Bool:=if x = "near" then decide (0<z) else decide (l%2=1)
noncomputable def goesUp (z l r:Int) (x:Str):Bool:=if x = "down" then false else if x = "up" then decide (0<r) else if r=5000 then halfUp z l x else decide (5000<r)
noncomputable def rnd (z:Int) (x:Str):Int:=if goesUp z (z/10000) (z%10000) x=true then z/10000+1 else z/10000
theorem in_texts (x:Str) (zs:List Str):inV (.str x) (zs.map V.str)=zs.contains x:=by
  unfold inV
  rw[List.any_map,List.contains_eq_any_beq]
  congr 1
  funext y
  show (y==x)=(x==y)
  exact Bool.beq_comm ..
noncomputable def sp_parts0:Sp:=fun vs H Q _=>∃ z,vs=[.int z]∧0≤z∧z≤20000∧Q (.bl true) H
noncomputable def sp_way0:Sp:=fun vs H Q _=>∃ x,vs=[.str x]∧wayL.contains x=true∧Q (.bl true) H
noncomputable def sp_needW0:Sp:=fun vs H Q _=>∃ x,vs=[.str x]∧wayL.contains x=true∧Q .non H
noncomputable def sp_half:Sp:=fun vs H Q _=>∃ z l x,vs=[.int z,.int l,.str x]∧Q (.bl (halfUp z l x)) H
noncomputable def sp_goes:Sp:=fun vs H Q _=>∃ z l r x,vs=[.int z,.int l,.int r,.str x]∧Q (.bl (goesUp z l r x)) H
noncomputable def sp_rnd0:Sp:=fun vs H Q _=>∃ z x,vs=[.int z,.str x]∧wayL.contains x=true∧Q (.int (rnd z x)) H
noncomputable def sp_share0:Sp:=fun vs H Q _=>∃ z n x,vs=[.int z,.int n,.str x]∧0≤n∧n≤20000∧wayL.contains x=true∧Q (.int (rnd (z*n) x)) H
noncomputable def lawRnd (z:Int) (x:Str):Int:=if x = "down" then z/10000 else if x = "up" then z/10000+(if 0<z%10000 then 1 else 0) else if x = "near" then z/10000+(if 5000≤z%10000 then 1 else 0) else z/10000+(if 5000<z%10000∨(z%10000=5000∧z/10000%2=1) then 1 else 0)
inductive Rk where
  | flat (n:Str) (a:Int)
  | share (n:Str) (p:Int) (w:Str)
  | capped (n:Str) (p m:Int) (w:Str)
  | least (n:Str) (p l:Int) (w:Str)
  | bands (n:Str) (ps:List (Int × Int)) (w:Str)
  | ontop (n:Str) (p:Int) (w:Str) (r:Rk)
noncomputable def Rk.name:Rk→Str
  | .flat n _=>n
  | .share n _ _=>n
  | .capped n _ _ _=>n
  | .least n _ _ _=>n
  | .bands n _ _=>n
  | .ontop n _ _ _=>n
noncomputable def Rk.kd:Rk→Nat
  | .flat ..=>0
  | .share ..=>1
  | .capped ..=>2
  | .least ..=>3
  | .bands ..=>4
  | .ontop ..=>5
noncomputable def noNames:List Str:=["base","net","month","sums"]
structure RName (z:Str):Prop where
  ok:NameOk z
  no:noNames.contains z=false
noncomputable def Prt (p:Int):Prop:=0≤p∧p≤20000
noncomputable def Amt (a:Int):Prop:=0≤a∧a≤1000000000000
noncomputable def Way (w:Str):Prop:=wayL.contains w=true
inductive Pln:Rk→Prop where
  | flat {n:Str} {a:Int}:RName n→Amt a→Pln (.flat n a)
  | share {n:Str} {p:Int} {w:Str}:RName n→Prt p→Way w→Pln (.share n p w)
  | capped {n:Str} {p m:Int} {w:Str}:RName n→Prt p→Amt m→Way w→Pln (.capped n p m w)
  | least {n:Str} {p l:Int} {w:Str}:RName n→Prt p→Amt l→Way w→Pln (.least n p l w)
noncomputable def pos (bs:List Int):Int:=((bs.filter fun b=>decide (0<b)).length:Nat)
noncomputable def unt (r:Rk) (bs:List Int):Int:=match r with
  | .flat _ a=>a*pos bs
  | .share _ p w=>rnd (bs.sum*p) w
  | .capped _ p m w=>rnd ((if m<bs.sum then m else bs.sum)*p) w
  | .least _ p l w=>if l*pos bs > rnd (bs.sum*p) w then l*pos bs else rnd (bs.sum*p) w
  | _=>0
noncomputable def numS' (i:Int):Str:=toString i
noncomputable def rowP (r:Rk):List V:=match r with
  | .flat n a=>[.str "flat",.str n,.int a]
  | .share n p w=>[.str "share",.str n,.int p,.str w]
  | .capped n p m w=>[.str "capped",.str n,.int p,.int m,.str w]
  | .least n p l w=>[.str "least",.str n,.int p,.int l,.str w]
  | _=>[]
noncomputable def strV:V→Str
  | .str z=>z
  | .int i=>toString i
  | _=>Str.empty
noncomputable def rowT (r:Rk):Str:=Txt.join " " ((rowP r).map strV)
noncomputable def RtAt (H:Hp) (v:V) (r:Rk):Prop:=∃ t,v = .ref t∧H t=some (.tup (rowP r))
theorem RtAt.same {H H':Hp} {v:V} {r:Rk} (s:Same H H') (h:RtAt H v r):RtAt H' v r:=by
  obtain⟨t,e,h⟩:=h
  exact⟨t,e,s _ _ h⟩
noncomputable def rowF (r:Rk):List (Str × V):=match r with
  | .flat n a=>[("name",.str n),("amount",.int a)]
  | .share n p w=>[("name",.str n),("parts",.int p),("way",.str w)]
  | .capped n p m w=>[("name",.str n),("parts",.int p),("most",.int m),("way",.str w)]
  | .least n p l w=>[("name",.str n),("parts",.int p),("least",.int l),("way",.str w)]
  | _=>[]
noncomputable def RoAt (Cs:Nat→Addr) (H:Hp) (v:V) (r:Rk):Prop:=∃ o dx,v = .ref o∧H o=some (.ins (Cs r.kd) dx (rowF r))
theorem RoAt.same {Cs:Nat→Addr} {H H':Hp} {v:V} {r:Rk} (s:Same H H') (h:RoAt Cs H v r):RoAt Cs H' v r:=by
  obtain⟨t,dx,e,h⟩:=h
  exact⟨t,dx,e,s _ _ h⟩
structure RulK (K:PySem.W.Frag) (Cs:Nat→Addr):Prop where
  cls:∀ i,i<4→Cls K (Cs i)
  no:∀ i,i<4→∀ x∈(["name","amount","parts","way","most","least"]:List Str),NoAttr K (Cs i) x
noncomputable def sp_rname0:Sp:=fun vs H Q _=>∃ z,vs=[.str z]∧RName z∧∀ H',Same H H'→Q (.bl true) H'
noncomputable def sp_ramt0:Sp:=fun vs H Q _=>∃ z,vs=[.int z]∧Amt z∧Q (.bl true) H
noncomputable def sp_needR0:Sp:=fun vs H Q _=>∃ z,vs=[.int z]∧Amt z∧Q .non H
noncomputable def sp_needS0:Sp:=fun vs H Q _=>∃ p w,vs=[.int p,.str w]∧Prt p∧Way w∧Q .non H
noncomputable def sp_pos (K:PySem.W.Frag):Sp:=fun vs H Q _=>∃ b bs,vs=[.ref b]∧SqL K H b (bs.map V.int)∧bs.length≤100∧∀ H',Same H H'→Q (.int (pos bs)) H'
noncomputable def sp_rinit (Cs:Nat→Addr):Sp:=fun vs H Q _=>∃ i o dx z,vs=[.ref o,.str z]∧i<4∧H o=some (.ins (Cs i) dx [])∧RName z∧∀ H',(∀ b x,H b=some x→b≠o→H' b=some x)→H' o=some (.ins (Cs i) dx [("name",.str z)])→Q .non H'
noncomputable def argsR (r:Rk):List V:=(rowP r).drop 1
noncomputable def sp_kinit (k:Nat) (Cs:Nat→Addr):Sp:=fun vs H Q _=>∃ o dx r,vs = .ref o::argsR r∧r.kd=k∧Pln r∧H o=some (.ins (Cs k) dx [])∧∀ H',(∀ b x,H b=some x→b≠o→H' b=some x)→H' o=some (.ins (Cs k) dx (rowF r))→Q .non H'
noncomputable def sp_unt (K:PySem.W.Frag) (k:Nat) (Cs:Nat→Addr):Sp:=fun vs H Q _=>∃ v r b bs,vs=[v,.ref b]∧r.kd=k∧RoAt Cs H v r∧Pln r∧SqL K H b (bs.map V.int)∧bs.length≤100∧∀ H',Same H H'→Q (.int (unt r bs)) H'
noncomputable def dl (bs:List Int):List Int:=(bs.drop (HT.sIx bs.length 0 none)).take (HT.sIx bs.length bs.length (some (-1)) - HT.sIx bs.length 0 none)
noncomputable def ofm (r:Rk) (bs:List Int):Int:=unt r bs - unt r (dl bs)
noncomputable def sp_ofm (K:PySem.W.Frag) (k:Nat) (Cs:Nat→Addr):Sp:=fun vs H Q _=>∃ v r b bs,vs=[v,.ref b]∧r.kd=k∧RoAt Cs H v r∧Pln r∧SqL K H b (bs.map V.int)∧bs.length≤100∧∀ H',Same H H'→Q (.int (ofm r bs)) H'
noncomputable def sp_rowR (k:Nat) (Cs:Nat→Addr):Sp:=fun vs H Q _=>∃ v r,vs=[v]∧r.kd=k∧RoAt Cs H v r∧Pln r∧∀ H',Same H H'→Q (.str (rowT r)) H'
theorem pr1 (n:Str):putF "name" (.str n) []=[((("name":Str)),V.str n)]:=rfl
theorem pr2 (n x:Str) (v:V) (h:("name":Str)≠x):putF x v [(("name":Str),V.str n)]=[(("name":Str),V.str n),(x,v)]:=by
  unfold putF
  rw[if_neg h]
  rfl
theorem pr3 (n x y:Str) (u v:V) (h:("name":Str)≠x) (h2:y≠x):putF x v [(("name":Str),V.str n),(y,u)]=[(("name":Str),V.str n),(y,u),(x,v)]:=by
  unfold putF
  rw[if_neg h]
  unfold putF
  rw[if_neg h2]
  rfl
theorem pr4 (n x y z:Str) (u v w:V) (h:("name":Str)≠x) (h2:y≠x) (h3:z≠x):putF x v [(("name":Str),V.str n),(y,u),(z,w)]=[(("name":Str),V.str n),(y,u),(z,w),(x,v)]:=by
  unfold putF
  rw[if_neg h]
  unfold putF
  rw[if_neg h2]
  unfold putF
  rw[if_neg h3]
  rfl
end Pg
set_option maxHeartbeats 4000000
namespace K09
open PySem PySem.NumText L2 Pg
seal PE PA PT PW PS PSs PG PGs PI PIf PO PK
section
variable {P:Program} {w:World} {K:PySem.W.Frag} {mg:Str→Option Value} {base:Heap} {f:Addr} {fd:FuncData} {d:Nat→Addr} {cR:Addr}
theorem ok_parts0 (F:Fun K "is_parts" "is_parts" (top 23) f fd) (N1:Num mg "MOST_PARTS" 20000) (C1:Cal P w K mg base CX0 2 "is_number_within" ["thing","least","most"] (sp_within K)):FnOk P w K mg base CX0 3 f fd ["thing"] sp_parts0:=by
  obtain⟨t,em⟩:=N1
  refine F.ok (N:=["thing"]) ⟨rfl,rfl,rfl,by decide +kernel,rfl,by decide +kernel,by decide +kernel⟩ (fun vs H Q E h=>?_) (fun cdv A outer s H vs Q E hr h=>?_)
  · obtain⟨z,rfl,_⟩:=h
    rfl
  · obtain⟨z,rfl,h0,h1,q⟩:=h
    refine⟨_,pss_one (ps_ret (pe_cal C1 hr (by decide) pass0 (pa_cons (pv 0) (pa_cons pe_int (pa_cons (pe_glob (v:=.int 20000) rfl em ⟨t,rfl⟩) pa_nil))))),_,rfl,_,0,20000,rfl,.inl ⟨z,rfl,?_⟩⟩
    rw[decide_eq_true (⟨h0,h1⟩:(0:Int)≤z∧z≤20000)]
    exact q
theorem ok_way0 (F:Fun K "is_way" "is_way" (top 24) f fd) (G:Glb mg) (W:Tps K mg "WAYS" wayL):FnOk P w K mg base CX0 1 f fd ["thing"] sp_way0:=by
  obtain⟨aw,ew,tw⟩:=W
  refine F.ok (N:=["thing"]) ⟨rfl,rfl,rfl,by decide +kernel,rfl,by decide +kernel,by decide +kernel⟩ (fun vs H Q E h=>?_) (fun cdv A outer s H vs Q E hr h=>?_)
  · obtain⟨x,rfl,_⟩:=h
    rfl
  · obtain⟨x,rfl,hx,q⟩:=h
    refine⟨_,pss_one (ps_ret (pe_and (pe_callB call_isinst rfl G.isinstance boot_isinstance (pa_cons (pv 0) (pa_cons (pe_bltn (v:=.ty "str") rfl G.str boot_str rfl) pa_nil)))
      (pe_one (pe_cmpR op_in_seq (pv 0) (pe_glob (v:=.ref aw) rfl ew rfl) (by rfl))))),?_⟩
    refine⟨_,rfl,_,_,_,_,true,rfl,rfl,.inl (.str x),rfl,true,rfl,iteT ⟨_,rfl,aw,_,rfl,.inr (tw H),rfl,rfl,?_⟩⟩
    rw[if_neg Bool.false_ne_true,in_texts,hx]
    exact q
end
end K09
namespace K09
open PySem PySem.NumText L2 Pg
seal PE PA PT PW PS PSs PG PGs PI PIf PO PK
section
variable {P:Program} {w:World} {K:PySem.W.Frag} {mg:Str→Option Value} {base:Heap} {f:Addr} {fd:FuncData} {d:Nat→Addr} {cR:Addr}
theorem ok_rname0 (F:Fun K "is_rule_name" "is_rule_name" (top 34) f fd) (W:Tps K mg "NO_RULE_NAMES" noNames) (C1:Cal P w K mg base CX0 2 "is_name" ["thing"] sp_name):FnOk P w K mg base CX0 3 f fd ["thing"] sp_rname0:=by
  obtain⟨aw,ew,tw⟩:=W
  refine F.ok (N:=["thing"]) ⟨rfl,rfl,rfl,by decide +kernel,rfl,by decide +kernel,by decide +kernel⟩ (fun vs H Q E h=>?_) (fun cdv A outer s H vs Q E hr h=>?_)
  · obtain⟨z,rfl,_⟩:=h
    rfl
  · obtain⟨z,rfl,hz,q⟩:=h
    refine⟨_,pss_one (ps_ret (pe_and (pe_cal C1 hr (by decide) pass0 (pa_cons (pv 0) pa_nil)) (pe_one (pe_cmpR op_notIn_seq (pv 0) (pe_glob (v:=.ref aw) rfl ew rfl) (by rfl))))),?_⟩
    refine⟨_,rfl,z,rfl,hz.ok,fun H1 s1=>⟨true,rfl,iteT ⟨_,rfl,aw,_,rfl,.inr (tw H1),rfl,rfl,?_⟩⟩⟩
    rw[if_pos rfl,in_texts,hz.no]
    exact q H1 s1
theorem ok_ramt0 (F:Fun K "is_rule_amount" "is_rule_amount" (top 35) f fd) (N1:Num mg "MOST_AMOUNT" 1000000000000) (C1:Cal P w K mg base CX0 2 "is_number_within" ["thing","least","most"] (sp_within K)):FnOk P w K mg base CX0 3 f fd ["thing"] sp_ramt0:=by
  obtain⟨t,em⟩:=N1
  refine F.ok (N:=["thing"]) ⟨rfl,rfl,rfl,by decide +kernel,rfl,by decide +kernel,by decide +kernel⟩ (fun vs H Q E h=>?_) (fun cdv A outer s H vs Q E hr h=>?_)
  · obtain⟨z,rfl,_⟩:=h
    rfl
  · obtain⟨z,rfl,h0,q⟩:=h
    refine⟨_,pss_one (ps_ret (pe_cal C1 hr (by decide) pass0 (pa_cons (pv 0) (pa_cons pe_int (pa_cons (pe_glob (v:=.int 1000000000000) rfl em ⟨t,rfl⟩) pa_nil))))),_,rfl,_,0,1000000000000,rfl,.inl ⟨z,rfl,?_⟩⟩
    rw[show decide ((0:Int)≤z∧z≤1000000000000)=true from decide_eq_true h0]
    exact q
theorem ok_needR0 (F:Fun K "need_rule_amount" "need_rule_amount" (top 36) f fd) (C1:Cal P w K mg base CX0 3 "is_rule_amount" ["thing"] sp_ramt0):FnOk P w K mg base CX0 4 f fd ["thing"] sp_needR0:=by
  refine F.ok (N:=["thing"]) ⟨rfl,rfl,rfl,by decide +kernel,rfl,by decide +kernel,by decide +kernel⟩ (fun vs H Q E h=>?_) (fun cdv A outer s H vs Q E hr h=>?_)
  · obtain⟨x,rfl,_⟩:=h
    rfl
  · obtain⟨x,rfl,hx,q⟩:=h
    exact⟨_,pss_one (ps_if (pt_not (pt_val (pe_cal C1 hr (by decide) pass0 (pa_cons (pv 0) pa_nil)))) pss_never pss_nil),_,rfl,x,rfl,hx,true,rfl,iteF q⟩
theorem ok_needS0 (F:Fun K "need_share" "need_share" (top 37) f fd) (C1:Cal P w K mg base CX0 3 "is_parts" ["thing"] sp_parts0) (C2:Cal P w K mg base CX0 1 "is_way" ["thing"] sp_way0):FnOk P w K mg base CX0 4 f fd ["parts","way"] sp_needS0:=by
  refine F.ok (N:=["parts","way"]) ⟨rfl,rfl,rfl,by decide +kernel,rfl,by decide +kernel,by decide +kernel⟩ (fun vs H Q E h=>?_) (fun cdv A outer s H vs Q E hr h=>?_)
  · obtain⟨p,x,rfl,_⟩:=h
    rfl
  · obtain⟨p,x,rfl,hp,hx,q⟩:=h
    exact⟨_,pss_cons (ps_if (pt_not (pt_val (pe_cal C1 hr (by decide) pass0 (pa_cons (pv 0) pa_nil)))) pss_never pss_nil) (pss_one (ps_if (pt_not (pt_val (pe_cal C2 hr (by decide) pass0 (pa_cons (pv 1) pa_nil)))) pss_never pss_nil)),_,rfl,p,rfl,hp.1,hp.2,true,rfl,iteF ⟨_,rfl,x,rfl,hx,true,rfl,iteF q⟩⟩
end
end K09
namespace K09
open PySem PySem.NumText L2 Pg
seal PE PA PT PW PS PSs PG PGs PI PIf PO PK
section
variable {P:Program} {w:World} {K:PySem.W.Frag} {mg:Str→Option Value} {base:Heap} {f:Addr} {fd:FuncData} {d:Nat→Addr} {cR:Addr}
theorem ok_kinit0 {Cs:Nat→Addr} (F:Fun K "__init__" "Flat.__init__" (inClass (top 39) 0) f fd) (RK:RulK K Cs) (CR:CalC P w K mg base CX0 4 "Rule" "__init__" ["self","name"] (sp_rinit Cs)) (C1:Cal P w K mg base CX0 4 "need_rule_amount" ["thing"] sp_needR0):FnOk P w K mg base CX0 5 f fd ["self","name","amount"] (sp_kinit 0 Cs):=by
  refine F.ok (N:=["self","name","amount"]) ⟨rfl,rfl,rfl,by decide +kernel,rfl,by decide +kernel,by decide +kernel⟩ (fun vs H Q E h=>?_) (fun cdv A outer s H vs Q E hr h=>?_)
  · obtain⟨o,dx,r,rfl,hk,pl,_⟩:=h
    cases pl <;> first | rfl | cases hk
  · obtain⟨o,dx,r,rfl,hk,pl,ho,q⟩:=h
    cases pl with
    | flat hn ha =>
      refine⟨_,pss_cons (ps_expr (pe_calC CR hr (by decide) pass0 (pa_cons (pv 0) (pa_cons (pv 1) pa_nil)))) (pss_cons (ps_expr (pe_cal C1 hr (by decide) pass0 (pa_cons (pv 2) pa_nil))) (pss_one (ps_fld (pv 0) (pv 2) rfl))),?_⟩
      refine⟨_,rfl,_,rfl,0,o,dx,_,rfl,by decide,ho,hn,fun H1 f1 e1=>⟨_,rfl,_,rfl,ha,_,rfl,_,rfl,o,_,dx,_,rfl,e1,RK.cls 0 (by decide),RK.no 0 (by decide) "amount" (by decide),by show 1<1000;decide,?_⟩⟩
      rw[pr2 _ _ _ (by decide +kernel)]
      exact q _ (fun b x hb ne=>by rw[upd_ne ne];exact f1 _ _ hb ne) upd_same
    | share hn hp hw=>cases hk
    | capped hn hp ha hw=>cases hk
    | least hn hp ha hw=>cases hk
theorem ok_kinit1 {Cs:Nat→Addr} (F:Fun K "__init__" "Share.__init__" (inClass (top 40) 0) f fd) (RK:RulK K Cs) (CR:CalC P w K mg base CX0 4 "Rule" "__init__" ["self","name"] (sp_rinit Cs)) (C1:Cal P w K mg base CX0 4 "need_share" ["parts","way"] sp_needS0):FnOk P w K mg base CX0 5 f fd ["self","name","parts","way"] (sp_kinit 1 Cs):=by
  refine F.ok (N:=["self","name","parts","way"]) ⟨rfl,rfl,rfl,by decide +kernel,rfl,by decide +kernel,by decide +kernel⟩ (fun vs H Q E h=>?_) (fun cdv A outer s H vs Q E hr h=>?_)
  · obtain⟨o,dx,r,rfl,hk,pl,_⟩:=h
    cases pl <;> first | rfl | cases hk
  · obtain⟨o,dx,r,rfl,hk,pl,ho,q⟩:=h
    cases pl with
    | share hn hp hw =>
      refine⟨_,pss_cons (ps_expr (pe_calC CR hr (by decide) pass0 (pa_cons (pv 0) (pa_cons (pv 1) pa_nil)))) (pss_cons (ps_expr (pe_cal C1 hr (by decide) pass0 (pa_cons (pv 2) (pa_cons (pv 3) pa_nil)))) (pss_cons (ps_fld (pv 0) (pv 2) rfl) (pss_one (ps_fld (pv 0) (pv 3) rfl)))),?_⟩
      refine⟨_,rfl,_,rfl,1,o,dx,_,rfl,by decide,ho,hn,fun H1 f1 e1=>⟨_,rfl,_,rfl,_,_,rfl,hp,hw,_,rfl,_,rfl,o,_,dx,_,rfl,e1,RK.cls 1 (by decide),RK.no 1 (by decide) "parts" (by decide),by show 1<1000;decide,?_⟩⟩
      rw[pr2 _ _ _ (by decide +kernel)]
      refine⟨_,rfl,_,rfl,o,_,dx,_,rfl,upd_same,RK.cls 1 (by decide),RK.no 1 (by decide) "way" (by decide),by show 2<1000;decide,?_⟩
      rw[pr3 _ _ _ _ _ (by decide +kernel) (by decide +kernel)]
      exact q _ (fun b x hb ne=>by rw[upd_ne ne,upd_ne ne];exact f1 _ _ hb ne) upd_same
    | flat hn ha=>cases hk
    | capped hn hp ha hw=>cases hk
    | least hn hp ha hw=>cases hk
theorem ok_kinit2 {Cs:Nat→Addr} (F:Fun K "__init__" "Capped.__init__" (inClass (top 41) 0) f fd) (RK:RulK K Cs) (CR:CalC P w K mg base CX0 4 "Rule" "__init__" ["self","name"] (sp_rinit Cs)) (C1:Cal P w K mg base CX0 4 "need_share" ["parts","way"] sp_needS0) (C2:Cal P w K mg base CX0 4 "need_rule_amount" ["thing"] sp_needR0):FnOk P w K mg base CX0 5 f fd ["self","name","parts","most","way"] (sp_kinit 2 Cs):=by
  refine F.ok (N:=["self","name","parts","most","way"]) ⟨rfl,rfl,rfl,by decide +kernel,rfl,by decide +kernel,by decide +kernel⟩ (fun vs H Q E h=>?_) (fun cdv A outer s H vs Q E hr h=>?_)
  · obtain⟨o,dx,r,rfl,hk,pl,_⟩:=h
    cases pl <;> first | rfl | cases hk
  · obtain⟨o,dx,r,rfl,hk,pl,ho,q⟩:=h
    cases pl with
    | capped hn hp ha hw =>
      refine⟨_,pss_cons (ps_expr (pe_calC CR hr (by decide) pass0 (pa_cons (pv 0) (pa_cons (pv 1) pa_nil)))) (pss_cons (ps_expr (pe_cal C1 hr (by decide) pass0 (pa_cons (pv 2) (pa_cons (pv 4) pa_nil)))) (pss_cons (ps_expr (pe_cal C2 hr (by decide) pass0 (pa_cons (pv 3) pa_nil))) (pss_cons (ps_fld (pv 0) (pv 2) rfl) (pss_cons (ps_fld (pv 0) (pv 3) rfl) (pss_one (ps_fld (pv 0) (pv 4) rfl)))))),?_⟩
      refine⟨_,rfl,_,rfl,2,o,dx,_,rfl,by decide,ho,hn,fun H1 f1 e1=>⟨_,rfl,_,rfl,_,_,rfl,hp,hw,_,rfl,_,rfl,ha,_,rfl,_,rfl,o,_,dx,_,rfl,e1,RK.cls 2 (by decide),RK.no 2 (by decide) "parts" (by decide),by show 1<1000;decide,?_⟩⟩
      rw[pr2 _ _ _ (by decide +kernel)]
      refine⟨_,rfl,_,rfl,o,_,dx,_,rfl,upd_same,RK.cls 2 (by decide),RK.no 2 (by decide) "most" (by decide),by show 2<1000;decide,?_⟩
      rw[pr3 _ _ _ _ _ (by decide +kernel) (by decide +kernel)]
      refine⟨_,rfl,_,rfl,o,_,dx,_,rfl,upd_same,RK.cls 2 (by decide),RK.no 2 (by decide) "way" (by decide),by show 3<1000;decide,?_⟩
      rw[pr4 _ _ _ _ _ _ _ (by decide +kernel) (by decide +kernel) (by decide +kernel)]
      exact q _ (fun b x hb ne=>by rw[upd_ne ne,upd_ne ne,upd_ne ne];exact f1 _ _ hb ne) upd_same
    | flat hn ha=>cases hk
    | share hn hp hw=>cases hk
    | least hn hp ha hw=>cases hk
theorem ok_kinit3 {Cs:Nat→Addr} (F:Fun K "__init__" "Least.__init__" (inClass (top 42) 0) f fd) (RK:RulK K Cs) (CR:CalC P w K mg base CX0 4 "Rule" "__init__" ["self","name"] (sp_rinit Cs)) (C1:Cal P w K mg base CX0 4 "need_share" ["parts","way"] sp_needS0) (C2:Cal P w K mg base CX0 4 "need_rule_amount" ["thing"] sp_needR0):FnOk P w K mg base CX0 5 f fd ["self","name","parts","least","way"] (sp_kinit 3 Cs):=by
  refine F.ok (N:=["self","name","parts","least","way"]) ⟨rfl,rfl,rfl,by decide +kernel,rfl,by decide +kernel,by decide +kernel⟩ (fun vs H Q E h=>?_) (fun cdv A outer s H vs Q E hr h=>?_)
  · obtain⟨o,dx,r,rfl,hk,pl,_⟩:=h
    cases pl <;> first | rfl | cases hk
  · obtain⟨o,dx,r,rfl,hk,pl,ho,q⟩:=h
    cases pl with
    | least hn hp ha hw =>
      refine⟨_,pss_cons (ps_expr (pe_calC CR hr (by decide) pass0 (pa_cons (pv 0) (pa_cons (pv 1) pa_nil)))) (pss_cons (ps_expr (pe_cal C1 hr (by decide) pass0 (pa_cons (pv 2) (pa_cons (pv 4) pa_nil)))) (pss_cons (ps_expr (pe_cal C2 hr (by decide) pass0 (pa_cons (pv 3) pa_nil))) (pss_cons (ps_fld (pv 0) (pv 2) rfl) (pss_cons (ps_fld (pv 0) (pv 3) rfl) (pss_one (ps_fld (pv 0) (pv 4) rfl)))))),?_⟩
      refine⟨_,rfl,_,rfl,3,o,dx,_,rfl,by decide,ho,hn,fun H1 f1 e1=>⟨_,rfl,_,rfl,_,_,rfl,hp,hw,_,rfl,_,rfl,ha,_,rfl,_,rfl,o,_,dx,_,rfl,e1,RK.cls 3 (by decide),RK.no 3 (by decide) "parts" (by decide),by show 1<1000;decide,?_⟩⟩
      rw[pr2 _ _ _ (by decide +kernel)]
      refine⟨_,rfl,_,rfl,o,_,dx,_,rfl,upd_same,RK.cls 3 (by decide),RK.no 3 (by decide) "least" (by decide),by show 2<1000;decide,?_⟩
      rw[pr3 _ _ _ _ _ (by decide +kernel) (by decide +kernel)]
      refine⟨_,rfl,_,rfl,o,_,dx,_,rfl,upd_same,RK.cls 3 (by decide),RK.no 3 (by decide) "way" (by decide),by show 3<1000;decide,?_⟩
      rw[pr4 _ _ _ _ _ _ _ (by decide +kernel) (by decide +kernel) (by decide +kernel)]
      exact q _ (fun b x hb ne=>by rw[upd_ne ne,upd_ne ne,upd_ne ne];exact f1 _ _ hb ne) upd_same
    | flat hn ha=>cases hk
    | share hn hp hw=>cases hk
    | capped hn hp ha hw=>cases hk
end
end K09
namespace L2
open PySem PySem.Spec PyProof.Rows
section
variable {X:Cx} {pins:List (Addr × Obj)} {σ:St} {H:Hp} {s:Shared} {d:Addr} {kvs:List (Key × V)}
end
noncomputable def Itd (d:Addr) (o:Obj) (kvs:List (Key × V)):It :=
  ⟨fun i H=>H d=some (.frz o (.dK kvs))∧i<kvs.length,fun i H x H'=>H'=H∧∃ p,kvs[i]? = some p∧x=kV p.1,fun i H=>H d=some (.frz o (.dK kvs))∧kvs.length≤i⟩
noncomputable def iDict (tl:TE):TI:=fun σ H R=>tl σ H fun x H1=>∃ d o kvs,x = .ref d∧H1 d=some (.frz o (.dK kvs))∧R (Itd d o kvs) H1
section
variable {X:Cx}
inductive Ty4 (H:Hp):V→Value→Prop where
  | int (i:Int):Ty4 H (.int i) (.type "int")
  | str (x:Str):Ty4 H (.str x) (.type "str")
  | lst {a:Addr} {xs:List V} (e:H a=some (.lst xs)):Ty4 H (.ref a) (.type "list")
  | tup {a:Addr} {xs:List V} (e:H a=some (.tup xs)):Ty4 H (.ref a) (.type "tuple")
noncomputable def isT:Value→Bool
  | .bool b=>b
  | _=>false
theorem isT_at {bs:List Bool} {its:List Value} (r:Vals (bs.map V.bl) its):its=bs.map Value.bool:=by
  induction bs generalizing its with
  | nil=>cases r;rfl
  | cons b l ih =>
    cases r with
    | cons a c=>rw[List.map_cons,← ih c,show _=Value.bool b from a]
theorem eq_isT {A:Around} {s:Shared} {bs:List Bool}:∀ y,y∈(bs.map Value.bool).toArray→SeqAt.EqAt A s y (.bool true) (isT y):=fun y hy=>by
  obtain⟨b,_,rfl⟩:=List.mem_map.mp (List.mem_toArray.mp hy)
  have:=SeqAt.EqAt.bool_bool (A:=A) (s:=s) b true
  rw[show (b==true)=b by cases b <;> rfl] at this
  exact this
theorem mt_count:MtM X "list.count" (fun x vs H Q=>∃ (l:Addr) (bs:List Bool),x = .ref l∧vs=[.bl true]∧H l=some (.lst (bs.map V.bl))∧Q (.int (bs.countP id:Nat)) H):=by
  intro pins s σ H x vs v us Q I rx rv h
  obtain⟨l,bs,rfl,rfl,hH,q⟩:=h
  cases rx
  obtain⟨u,rfl,ru⟩:=rv.one
  cases (show u=Value.bool true from ru)
  obtain⟨z,its,n,r,hl,e⟩:=I.lstM hH
  cases isT_at r
  refine call_meets F.slot_list_count ⟨_,e,rfl⟩ F.entry_list_count (F.args_list_count_2 _ _) (SeqAt.list_countAt l _ n none #[] (.bool true) isT) ⟨e,eq_isT,?_⟩
  have ec:((bs.map Value.bool).toArray.toList).countP isT=bs.countP id:=by
    rw[List.toList_toArray,List.countP_map]
    rfl
  rw[ec]
  exact⟨.int _,H,I.tok _,⟨_,rfl⟩,q⟩
theorem mt_index:MtM X "list.index" (fun x vs H Q=>∃ (l:Addr) (bs:List Bool) (j:Nat),x = .ref l∧vs=[.bl true]∧H l=some (.lst (bs.map V.bl))∧bs[j]? = some true∧(∀ m,m<j→bs[m]? = some false)∧Q (.int (j:Nat)) H):=by
  intro pins s σ H x vs v us Q I rx rv h
  obtain⟨l,bs,j,rfl,rfl,hH,hj,hm,q⟩:=h
  cases rx
  obtain⟨u,rfl,ru⟩:=rv.one
  cases (show u=Value.bool true from ru)
  obtain⟨z,its,n,r,hl,e⟩:=I.lstM hH
  cases isT_at r
  have jl:=(List.getElem?_eq_some_iff.mp hj).1
  have l63:=line63
  rw[List.length_map] at z
  refine call_meets F.slot_list_index ⟨_,e,rfl⟩ F.entry_list_index (F.args_list_index_2 _ _) (SeqAt.list_indexAt l _ n none #[] (.bool true) isT j (by simpa using jl) (by omega) ?_ ?_) ⟨e,eq_isT,.int _,H,I.tok _,⟨_,rfl⟩,q⟩
  · have:=(List.getElem?_eq_some_iff.mp hj).2
    simp only[List.getElem_toArray,List.getElem_map]
    rw[this]
    rfl
  · intro m hm1 hm2
    have:=(List.getElem?_eq_some_iff.mp (hm m hm2)).2
    simp only[List.getElem_toArray,List.getElem_map]
    rw[this]
    rfl
end
inductive Ex4 {α β γ δ:Type} (p:α→β→γ→δ→Prop):Prop where
  | mk (a:α) (b:β) (c:γ) (d:δ) (h:p a b c d):Ex4 p
inductive Ex2 {α β:Type} (p:α→β→Prop):Prop where
  | mk (a:α) (b:β) (h:p a b):Ex2 p
inductive An4 (a b c d:Prop):Prop where
  | mk (h1:a) (h2:b) (h3:c) (h4:d):An4 a b c d
section
variable {J:It} {D:Addr} {tt:TT} {te:TE} {fin:List V→Hp→Prop} {σ:St} {H:Hp} {ys:List V} {α:Type} {xs:List α} {P:Hp→V→α→Prop} {K:PySem.W.Frag}
theorem snoc_new {H' H3:Hp} {zs:List V} {cs:List (List V)} {t:Addr} {c:List V} (G:TupsAt H' zs cs) (hd:H' D=some (.lst zs)) (s3:Same H' H3) (e3:H3 t=some (.tup c)):TupsAt (upd H3 D (.lst (zs++[.ref t]))) (zs++[.ref t]) (cs++[c]):=by
  refine TupsAt.snoc ((G.same s3).upd fun c z=>?_) ?_
  · rw[s3 _ _ hd] at z
    cases z
  · rw[upd_ne (ne_of e3 (s3 _ _ hd) (by intro z;cases z))]
    exact e3
theorem comp_newN (W:Walk J H ys) (T:ItemsAt H ys xs P) (hD:H D=none) (hz:xs.length<sizeLine) (ψ:α→List V)
    (he:∀ x∈xs,∀ v H' R,Same H H'→P H' v x→New H' (.tup (ψ x)) R→te (σ.set 0 (some v)) H' R)
    (hf:∀ zs H',Same H H'→H' D=some (.lst zs)→TupsAt H' zs (xs.map ψ)→fin zs H'):tTurnsI J D (gName 0) tNoIf te fin σ (upd H D (.lst [])):=by
  refine comp_walk W hD (fun i zs H'=>TupsAt H' zs ((xs.take i).map ψ)) (fun σ'=>∀ x,σ'.set 0 (some x) = σ.set 0 (some x)) (fun _=>rfl) TupsAt.nil ?_ ?_
  · rintro i y zs σ' H' hy hσ s hd hl G
    obtain⟨x,hx,hP⟩:=T.at_ i y hy
    have tk:xs.take (i+1)=xs.take i++[x]:=by rw[List.take_add_one,hx];rfl
    have hi:i<xs.length:=(List.getElem?_eq_some_iff.mp hx).1
    have hσ2:∀ z,(σ'.set 0 (some y)).set 0 (some z) = σ.set 0 (some z):=fun z=>by rw[List.set_set];exact hσ z
    unfold cTurn gName
    dsimp only
    refine noIf ?_
    rw[hσ y] at hσ2 ⊢
    refine he x (List.mem_of_getElem? hx) y _ _ s (hP _ s) fun t H3 s3 n3 e3=>⟨s3 _ _ hd,by omega,hσ2,fun b o z=>?_,upd_same,?_,?_⟩
    · rw[upd_ne (ne_of_none z hD)]
      exact s3 _ _ (s _ _ z)
    · rw[List.length_append,List.length_singleton];omega
    · rw[tk,List.map_append]
      exact snoc_new G hd s3 e3
  · rintro zs H' s hd hl G
    rw[T.len,List.take_length] at G
    exact hf zs H' s hd G
end
section
variable {K:PySem.W.Frag} {a b:Addr} {xs ys:List V} {g:TG} {tb:TS} {D:Ends} {σ:St} {H:Hp} {lo:Int} {n:Nat}
noncomputable abbrev ForW (J:It) (g:TG) (tb:TS) (D:Ends) (σ:St) (H:Hp):Prop:=∃ W:Nat→Nat→St→Hp→Prop,(∃ m,W 0 m σ H)∧∀ i m σ H,W i m σ H →
      (J.stop i H∧D.nx σ H)∨(J.go i H∧∃ N:St→Hp→Prop,(∀ σ' H',N σ' H'→∃ m',m'<m∧W (i+1) m' σ' H')∧∀ x H',J.yld i H x H'→g x σ H' fun σ2 H2=>tb { D with nx:=N,ct:=N,bk:=D.nx } σ2 H2)
theorem for_range2 (Pv:Nat→St→Hp→Prop) (h0:Pv 0 σ H)
    (hs:∀ (i:Nat) σ H,i<n→Pv i σ H→∀ E:Ends,(∀ σ' H',Pv (i+1) σ' H'→E.nx σ' H')→g (.int (lo+i)) σ H fun σ2 H2=>tb E σ2 H2) (hd:∀ σ H,Pv n σ H→D.nx σ H):ForW (Itr lo n) g tb D σ H :=
  for_range Pv h0 (fun i σ H hx p=>hs i σ H hx p _ fun _ _ h=>h) hd
end
noncomputable def tCut (t u:TS):TS:=fun D σ H=>∃ P:St→Hp→Prop,t { D with nx:=P } σ H∧∀ σ' H',P σ' H'→u D σ' H'
theorem pss_cut {X:Cx} {st:Stmt} {rest:List Stmt} {t u:TS} (h1:PS X st t) (h2:PSs X rest u):PSs X (st::rest) (tCut t u):=by
  intro pins s σ H D I h
  obtain⟨P,h,k⟩:=h
  refine wpAny_execs_cons (thn (h1 pins s σ H { D with nx:=P } I h) fun f s1 q=>?_)
  cases f with
  | next =>
    obtain⟨σ',H',I',q⟩:=q
    exact h2 pins s1 σ' H' D I' (k _ _ q)
  | ret v=>exact q
  | brk=>exact q
  | cont=>exact q
noncomputable def rEqNil (K:PySem.W.Frag):R2:=fun x y H Q=>∃ a b xs,x = .ref a∧y = .ref b∧SqL K H a xs∧SqL K H b []∧(xs=[]→Q (.bl true) H)∧(xs≠[]→Q (.bl false) H)
theorem cut_to {t u:TS} {D:Ends} {σ:St} {H:Hp} (P0:St→Hp→Prop) (h1:∀ E:Ends,(∀ σ' H',P0 σ' H'→E.nx σ' H')→t E σ H) (h2:∀ σ' H',P0 σ' H'→u D σ' H'):tCut t u D σ H:=⟨P0,h1 _ fun _ _ h=>h,h2⟩
theorem cxOf_K {CX:CXT} {P:Program} {w:World} {K:PySem.W.Frag} {mg:Str→Option Value} {base:Heap} {N:List Str} {qual:Str} {scope:Scope} {f:Addr} {cd:Value} {A:Around} {outer:List Env} {s:Shared} {H:Hp} {E:XK}:(cxOf CX P w K mg base N qual scope f cd A outer s H E).K=K:=rfl
theorem nox_K {X:Cx}:X.nox.K=X.K:=rfl
noncomputable def rSameK (K:PySem.W.Frag) (u:Nat):R2:=fun x y H Q=>∃ n d,isSeq d=true∧Is K H n x d∧Is K H n y d∧u+n<cLine∧Q (.bl true) H
noncomputable def rNeK (K:PySem.W.Frag) (u:Nat):R2:=fun x y H Q=>∃ n d,isSeq d=true∧Is K H n x d∧Is K H n y d∧u+n<cLine∧Q (.bl false) H
theorem op_neK {X:Cx}:OpR X (compareOp .NotEq) (rNeK X.K X.A.units):=op_neD
theorem op_eqK {X:Cx}:OpR X (compareOp .Eq) (rSameK X.K X.A.units):=op_eqD
section
variable {X:Cx}
theorem op_catT0:OpR X (binaryOp .Add) (fun x y H Q=>∃ a b xs ys,x = .ref a∧y = .ref b∧SqT X.K H a xs∧SqT X.K H b ys∧ys≠[]∧xs.length+ys.length≤sizeLine ∧
    (xs=[]→Q (.ref b) H)∧(xs≠[]→New H (.tup (xs++ys)) Q)):=by
  intro pins s σ H x y v u Q I rx ry h
  obtain⟨a,b,xs,ys,rfl,rfl,ha,hb,hy,hz,q1,q2⟩:=h
  by_cases e:xs=[]
  · subst e
    cases rx
    cases ry
    obtain⟨its,r1,p1,_⟩:=I.tuple ha
    obtain⟨its2,r2,p2,_⟩:=I.tuple hb
    cases r1
    obtain⟨⟨cls,dd,data,sl⟩,ho,hc,n,hd⟩:=id p1
    obtain⟨⟨cls2,dd2,data2,sl2⟩,ho2,hc2,n2,hd2⟩:=id p2
    simp only at hc hd hc2 hd2
    subst hc hd hc2 hd2
    exact concat_meets ⟨_,ho,rfl⟩ ⟨_,ho2,rfl⟩ noFill_tuple_add seq_tuple_add PySem.F.slot_tuple_add PySem.F.entry_tuple_add (PySem.F.args_tuple_add_2 _ _) (tuple_addW0 a b _ _ n n2 dd dd2 sl sl2 rfl) ⟨ho,ho2,.ref b,H,I,rfl,q1 rfl⟩
  · exact op_catT pins s σ H _ _ v u Q I rx ry ⟨a,b,xs,ys,rfl,rfl,ha,hb,e,hz,fun z=>absurd z hy,fun _ p hp=>(q2 e).at hp⟩
end
end L2
namespace Pg
open PySem L2
noncomputable def sp_mixR:Sp:=fun vs H Q _=>∃ c k,vs=[.int c,.int k]∧∀ m,0≤m→m<1000003→Q (.int m) H
noncomputable def sp_amtR:Sp:=fun vs H Q _=>∃ c k,vs=[.int c,.int k]∧∀ a H',Amt a→Same H H'→Q (.int a) H'
noncomputable def sp_prtR:Sp:=fun vs H Q _=>∃ c k,vs=[.int c,.int k]∧∀ a H',Prt a→Same H H'→Q (.int a) H'
noncomputable def sp_wayR:Sp:=fun vs H Q _=>∃ c k,vs=[.int c,.int k]∧∀ w H',Way w→Same H H'→Q (.str w) H'
noncomputable def Nns (bs:List Int):Prop:=∀ b∈bs,0≤b
noncomputable def sp_basR:Sp:=fun vs H Q _=>∃ (c:Int) (n:Nat),vs=[.int c,.int (n:Nat)]∧n≤50∧∀ (bs:List Int) l H',bs.length=n→Nns bs→Same H H'→H l=none→H' l=some (.lst (bs.map V.int))→Q (.ref l) H'
noncomputable def sp_namR:Sp:=fun vs H Q _=>∃ (c:Int) (n:Nat),vs=[.int c,.int (n:Nat)]∧n≤8∧∀ (nms:List Str) l H',nms.length=n→(∀ z∈nms,RName z)→Same H H'→H l=none→H' l=some (.lst (nms.map V.str))→Q (.ref l) H'
noncomputable def sp_rndL:Sp:=fun vs H Q _=>∃ z w,vs=[.int z,.str w]∧0≤z∧Q (.int (rnd z w)) H
noncomputable def sp_plnR:Sp:=fun vs H Q _=>∃ c z k,vs=[.int c,.str z,.int k]∧RName z∧0≤k∧k<4∧∀ v r H',Pln r→r.name=z→Same H H'→RtAt H' v r→Q v H'
noncomputable def sp_untL (K:PySem.W.Frag):Sp:=fun vs H Q _=>∃ v r b bs,vs=[v,.ref b]∧RtAt H v r∧Pln r∧SqL K H b (bs.map V.int)∧bs.length≤100∧Nns bs∧∀ H',Same H H'→Q (.int (unt r bs)) H'
noncomputable def sp_ofmL (K:PySem.W.Frag):Sp:=fun vs H Q _=>∃ v r b bs,vs=[v,.ref b]∧RtAt H v r∧Pln r∧SqL K H b (bs.map V.int)∧bs.length≤100∧Nns bs∧∀ H',Same H H'→Q (.int (ofm r bs)) H'
noncomputable def sp_rowL:Sp:=fun vs H Q _=>∃ v r,vs=[v]∧RtAt H v r∧Pln r∧∀ H',Same H H'→Q (.str (rowT r)) H'
noncomputable def sp_madL (Cs:Nat→Addr):Sp:=fun vs H Q _=>∃ v r,vs=[v]∧RtAt H v r∧Pln r∧∀ o H',Same H H'→RoAt Cs H' o r→Q o H'
noncomputable def sp_askL (K:PySem.W.Frag) (Cs:Nat→Addr):Sp:=fun vs H Q _=>∃ o v r b bs c,vs=[o,v,.ref b,.int c]∧RoAt Cs H o r∧RtAt H v r∧Pln r∧SqL K H b (bs.map V.int)∧bs.length≤100∧Nns bs∧∀ H',Same H H'→Q (.bl true) H'
noncomputable def sp_groL (K:PySem.W.Frag) (Cs:Nat→Addr):Sp:=fun vs H Q _=>∃ o v r o2 v2 r2 b bs c,vs=[o,v,o2,v2,.ref b,.int c]∧RoAt Cs H o r∧RtAt H v r∧Pln r∧RoAt Cs H o2 r2∧RtAt H v2 r2∧Pln r2∧SqL K H b (bs.map V.int)∧bs.length≤50∧Nns bs∧∀ H',Same H H'→Q (.bl true) H'
theorem iteSt {z:Str} {A B:Prop} (h:A):if decide (V.str z=V.str z)=true then A else B:=by
  rw[if_pos (decide_eq_true rfl)]
  exact h
theorem iteSf {x y:Str} {A B:Prop} (n:x≠y) (h:B):if decide (V.str x=V.str y)=true then A else B:=by
  rw[if_neg fun k=>n (V.str.inj (of_decide_eq_true k))]
  exact h
theorem n_fs:("share":Str)≠"flat":=by decide +kernel
theorem n_cf:("capped":Str)≠"flat":=by decide +kernel
theorem n_cs:("capped":Str)≠"share":=by decide +kernel
theorem n_lf:("least":Str)≠"flat":=by decide +kernel
theorem n_ls:("least":Str)≠"share":=by decide +kernel
theorem n_lc:("least":Str)≠"capped":=by decide +kernel
theorem way_at {i:Int} (h0:0≤i) (h1:i<4):∃ w,atI [V.str "down",.str "up",.str "near",.str "even"] i=some (.str w)∧Way w:=by
  obtain⟨v,ev,mv⟩:=at_any (xs:=[V.str "down",.str "up",.str "near",.str "even"]) (i:=i) h0 h1
  simp only[List.mem_cons,List.not_mem_nil,or_false] at mv
  rcases mv with rfl | rfl | rfl | rfl
  · exact⟨_,ev,by unfold Way;decide +kernel⟩
  · exact⟨_,ev,by unfold Way;decide +kernel⟩
  · exact⟨_,ev,by unfold Way;decide +kernel⟩
  · exact⟨_,ev,by unfold Way;decide +kernel⟩
theorem row_head {r:Rk} (h:Pln r):∃ z l,rowP r = .str z::l∧z≠"bands"∧z≠"ontop"∧l.length≤4:=by
  cases h with
  | flat hn ha=>exact⟨_,_,rfl,by decide +kernel,by decide +kernel,Nat.le_of_ble_eq_true rfl⟩
  | share hn hp hw=>exact⟨_,_,rfl,by decide +kernel,by decide +kernel,Nat.le_of_ble_eq_true rfl⟩
  | capped hn hp ha hw=>exact⟨_,_,rfl,by decide +kernel,by decide +kernel,Nat.le_of_ble_eq_true rfl⟩
  | least hn hp ha hw=>exact⟨_,_,rfl,by decide +kernel,by decide +kernel,Nat.le_of_ble_eq_true rfl⟩
theorem at_name {r:Rk} (h:Pln r):(rowF r).lookup ("name":Str)=some (.str r.name):=by cases h <;> rfl
theorem made_same {H H':Hp} {o dx C:Addr} (o0:H o=none) (d0:H dx=none) (fr:∀ b x,(upd (upd H dx (.own o)) o (.ins C dx [])) b=some x→b≠o→H' b=some x):Same H H':=fun b x hb=>by
  have bo:=ne_of_none hb o0
  refine fr b x ?_ bo
  rw[upd_ne bo,upd_ne (ne_of_none hb d0)]
  exact hb
noncomputable def on1 (bs:List Int) (k:Nat):List Int:=(bs.drop k).take 1
noncomputable def rIs (K:PySem.W.Frag):List V→Hp→VK→Prop:=fun xs H Q=>∃ x c cv t b,xs=[x,c]∧clsV c=some cv∧TyX K H x t∧PySem.W.kitOne K t cv=some b∧Q (.bl b) H
noncomputable def tK1 (K:PySem.W.Frag) (w:Str) (c:Addr):TE:=tTupS (tCons (tC (.str w)) (tCons (tCB (rIs K) (tCons (tVar 0) (tCons (tC (.ref c)) tNil))) tNil))
noncomputable def tKs (K:PySem.W.Frag):List (Str × Addr × Bool)→TA
  | []=>tNil
  | x::r=>tCons (tK1 K x.1 x.2.1) (tKs K r)
noncomputable def bits (l:List (Str × Addr × Bool)):List (Str × Bool):=l.map fun x=>(x.1,x.2.2)
noncomputable def Tups (H:Hp) (ts:List V) (ps:List (Str × Bool)):Prop:=ts.length=ps.length∧∀ (i:Nat) p,ps[i]? = some p→∃ t,ts[i]? = some (V.ref t)∧H t=some (.tup [.str p.1,.bl p.2])
section
variable {K:PySem.W.Frag} {ea C:Addr} {σ:St}
end
open PySem.NumText
noncomputable def sp_figsG:Sp:=fun vs H Q _=>∃ n:Int,vs=[.int n]∧0≤n∧n<1000000000000000000000000000000000000000000000000000000∧∀ H',Same H H'→Q (.str (numS n)) H'
noncomputable def sp_toldG:Sp:=fun vs H Q _=>∃ a,vs=[.int a]∧absI a<10 ^ 50∧∀ H',Same H H'→Q (.str (toldS a)) H'
noncomputable def sp_toldX (K:PySem.W.Frag) (c:Addr):Sp:=fun vs H Q E=>∃ v,vs=[v]∧NoNum K H v∧E (.ref c) none H
noncomputable def wh (u:List Nat):List Nat:=u.take (u.length - 3)
noncomputable def la2 (u:List Nat):List Nat:=u.drop (u.length - 2)
noncomputable def numT0 (l:List Nat):Bool:=figL l&&(decide (l=[48]) || !decide (l.head? = some 48))
noncomputable def okU (u:List Nat):Bool:=numT0 (wh u)&&(decide (u[u.length - 3]? = some 46)&&figL (la2 u))
noncomputable def unS (l:List Nat):List Nat:=if l.head? = some 45 then l.tail else l
noncomputable def zero0:List Nat:=[45,48,46,48,48]
noncomputable def sgL3 (l:List Nat):Int:=if l.head? = some 45 then -1 else 1
noncomputable def valU (u:List Nat):Int:=((digitsVal (wh u):Nat):Int)*100+((digitsVal (la2 u):Nat):Int)
noncomputable def readL (l:List Nat):Option Int:=if l.length≤30∧okU (unS l)=true∧l≠zero0 then some (if l.head? = some 45 then -(valU (unS l)) else valU (unS l)) else none
noncomputable def sp_numT:Sp:=fun vs H Q _=>∃ z,vs=[.str z]∧z.length≤1000∧∀ H',Same H H'→Q (.bl (numT0 z.cps.toList)) H'
noncomputable def sp_amtT:Sp:=fun vs H Q _=>∃ z,vs=[.str z]∧z.length≤1000∧∀ H',Same H H'→Q (.bl (okU z.cps.toList)) H'
noncomputable def sp_readA (K:PySem.W.Frag) (cT:Addr):Sp:=fun vs H Q E=>∃ v,vs=[v]∧((NoStr K H v∧E (.ref cT) none H)∨∃ z,v = .str z∧z.length≤100000∧∀ H',Same H H'→(∀ a,readL z.cps.toList=some a→Q (.int a) H')∧(readL z.cps.toList=none→E (.ref cT) none H'))
noncomputable def optR:Option Int→V
  | none=>.non
  | some z=>.int z
noncomputable def sp_readsL:Sp:=fun vs H Q _=>∃ z,vs=[.str z]∧z.length≤100000∧∀ H',Same H H'→Q (optR (readL z.cps.toList)) H'
noncomputable def lawU (u:List Nat):Bool:=decide ((u.drop (u.length - 3)).take (u.length - 2 - (u.length - 3))=[46])&&(decide (4≤u.length)&&((wh u++la2 u).all isF && !(decide (4<u.length)&&decide (u.head? = some 48))))
end Pg
namespace Pg
open PySem L2
noncomputable def smC:List Nat:=[97,99,100,102,103,104,105,106,107,108,111,112,113,114,116,117,118,119,120,121,122]
noncomputable def isSm (c:Nat):Bool:=smC.contains c
theorem sm_codes:("acdfghijklopqrtuvwxyz":Str).cps.toList=smC:=by decide +kernel
theorem sm_at {i:Int} (h0:0≤i) (h1:i<21):∃ c,atI ("acdfghijklopqrtuvwxyz":Str).cps.toList i=some c∧isSm c=true:=by
  rw[sm_codes]
  obtain⟨c,e,m⟩:=at_any (xs:=smC) h0 h1
  exact⟨c,e,List.contains_iff_mem.mpr m⟩
theorem sm_isL {c:Nat} (h:isSm c=true):isL c=true:=by
  have m:=List.contains_iff_mem.mp h
  have all:smC.all isL=true:=by decide +kernel
  exact List.all_eq_true.mp all c m
theorem rname_of {z:Str} (h1:1≤z.cps.toList.length) (h2:z.cps.toList.length≤8) (h3:z.cps.toList.all isL=true) (h4:∀ w∈noNames,z.cps.toList≠w.cps.toList):RName z:=by
  refine⟨⟨by rw[len_codes];exact h1,by rw[len_codes];exact h2,h3⟩,?_⟩
  cases e:noNames.contains z with
  | false=>rfl
  | true=>exact absurd rfl (h4 z (List.contains_iff_mem.mp e))
theorem no_two:∀ w∈noNames,2≤w.cps.toList.countP (fun c=>!isSm c):=by
  have all:(noNames.all fun w=>decide (2≤w.cps.toList.countP (fun c=>!isSm c)))=true:=by decide +kernel
  exact fun w h=>of_decide_eq_true (List.all_eq_true.mp all w h)
theorem no_q:∀ w∈noNames,w.cps.toList.head?≠some 113:=by
  have all:(noNames.all fun w=>decide (w.cps.toList.head?≠some 113))=true:=by decide +kernel
  exact fun w h=>of_decide_eq_true (List.all_eq_true.mp all w h)
theorem count_zero {l:List Nat} (h:∀ c∈l,isSm c=true):l.countP (fun c=>!isSm c)=0:=by
  rw[List.countP_eq_zero]
  intro c hc
  rw[h c hc]
  decide
theorem rname_mid {z:Str} {fs:List Nat} {c k m:Nat} (hf:∀ c∈fs,isSm c=true) (hl:fs.length=7) (hc:isL c=true) (hk:k≤m) (hm:m≤7) (e:z.cps.toList=fs.take k++[c]++(fs.drop k).take (m - k)):RName z:=by
  have ha:∀ x∈fs.take k,isSm x=true:=fun x hx=>hf x (List.mem_of_mem_take hx)
  have hb:∀ x∈(fs.drop k).take (m - k),isSm x=true:=fun x hx=>hf x (List.mem_of_mem_drop (List.mem_of_mem_take hx))
  have len:z.cps.toList.length=m+1:=by
    rw[e,List.length_append,List.length_append,List.length_take,List.length_take,List.length_drop,hl,List.length_singleton]
    omega
  refine rname_of (by omega) (by omega) ?_ fun w hw ew=>?_
  · rw[e,List.all_append,List.all_append,Bool.and_eq_true,Bool.and_eq_true]
    refine⟨⟨List.all_eq_true.mpr fun x hx=>sm_isL (ha x hx),?_⟩,List.all_eq_true.mpr fun x hx=>sm_isL (hb x hx)⟩
    show (isL c&&true)=true
    rw[hc]
    rfl
  · have t:=no_two w hw
    rw[← ew,e,List.countP_append,List.countP_append,count_zero ha,count_zero hb] at t
    have:[c].countP (fun c=>!isSm c)≤1:=List.countP_le_length
    omega
theorem rname_q {z:Str} {fs:List Nat} {k:Nat} (hf:∀ c∈fs,isSm c=true) (hl:fs.length=7) (e:z.cps.toList=113::fs.take k):RName z:=by
  refine rname_of ?_ ?_ ?_ fun w hw ew=>?_
  · rw[e]
    exact Nat.succ_le_succ (Nat.zero_le _)
  · rw[e,List.length_cons,List.length_take,hl]
    omega
  · rw[e,List.all_cons,Bool.and_eq_true]
    exact⟨by decide +kernel,List.all_eq_true.mpr fun x hx=>sm_isL (hf x (List.mem_of_mem_take hx))⟩
  · have t:=no_q w hw
    rw[← ew,e] at t
    exact t rfl
noncomputable def okNames:List Str:=["bases","nets","months","sum","ne","basis","bet","sumsum","netnet","mont"]
theorem rname_word:∀ z∈okNames,RName z:=by
  have all:(okNames.all fun z=>decide (1≤z.cps.toList.length)&&decide (z.cps.toList.length≤8)&&z.cps.toList.all isL&&noNames.all fun w=>decide (z.cps.toList≠w.cps.toList))=true:=by decide +kernel
  intro z hz
  have h:=List.all_eq_true.mp all z hz
  rw[Bool.and_eq_true,Bool.and_eq_true,Bool.and_eq_true] at h
  exact rname_of (of_decide_eq_true h.1.1.1) (of_decide_eq_true h.1.1.2) h.1.2 fun w hw=>of_decide_eq_true (List.all_eq_true.mp h.2 w hw)
theorem cut_upto (z:Str) (k:Nat):(Txt.slice z none (some ((k:Nat):Int))).cps.toList=z.cps.toList.take k:=by
  rw[slice_codes]
  unfold cutL
  rw[HT.sIx_nat,HT.sIx_none,List.drop_zero,Nat.sub_zero]
  by_cases h:k≤z.cps.toList.length
  · rw[Nat.min_eq_left h]
  · rw[Nat.min_eq_right (by omega),List.take_of_length_le (Nat.le_refl _),List.take_of_length_le (by omega)]
theorem cut_mid (z:Str) (k m:Nat) (h:m≤z.cps.toList.length) (hk:k≤m):(Txt.slice z (some ((k:Nat):Int)) (some ((m:Nat):Int))).cps.toList=(z.cps.toList.drop k).take (m - k):=by
  rw[slice_codes]
  unfold cutL
  rw[HT.sIx_nat,HT.sIx_nat,Nat.min_eq_left h,Nat.min_eq_left (Nat.le_trans hk h)]
theorem texts_of {p:Str→Prop}:∀ {zs:List V},(∀ u∈zs,∃ z,u = .str z∧p z)→∃ nms:List Str,zs=nms.map V.str∧∀ z∈nms,p z:=by
  intro zs
  induction zs with
  | nil=>exact fun _=>⟨[],rfl,fun z h=>nomatch h⟩
  | cons u r ih =>
    intro h
    obtain⟨z,rfl,hz⟩:=h u List.mem_cons_self
    obtain⟨nms,e,hn⟩:=ih fun v hv=>h v (List.mem_cons_of_mem _ hv)
    refine⟨z::nms,by rw[e];rfl,fun y hy=>?_⟩
    rcases List.mem_cons.mp hy with rfl | hy
    · exact hz
    · exact hn y hy
theorem signs_of {p:Nat→Prop}:∀ {zs:List V},(∀ u∈zs,∃ c,u = .str ⟨#[c]⟩∧p c)→∃ cs:List Nat,zs=(cs.map fun c=>(⟨#[c]⟩:Str)).map V.str∧∀ c∈cs,p c:=by
  intro zs
  induction zs with
  | nil=>exact fun _=>⟨[],rfl,fun z h=>nomatch h⟩
  | cons u r ih =>
    intro h
    obtain⟨z,rfl,hz⟩:=h u List.mem_cons_self
    obtain⟨nms,e,hn⟩:=ih fun v hv=>h v (List.mem_cons_of_mem _ hv)
    refine⟨z::nms,by rw[e];rfl,fun y hy=>?_⟩
    rcases List.mem_cons.mp hy with rfl | hy
    · exact hz
    · exact hn y hy
theorem mem_rel {α:Type} {zs:List V} {xs:List α} {p:V→Prop} (h:∀ (i:Nat) u,zs[i]? = some u→∃ x,xs[i]? = some x∧p u):∀ u∈zs,p u:=fun u hu=>by
  obtain⟨i,hi⟩:=List.mem_iff_getElem?.mp hu
  obtain⟨_,_,hp⟩:=h i u hi
  exact hp
structure RulI (K:PySem.W.Frag) (Cs:Nat→Addr) (cR:Addr):Prop where
  ha:∀ i,i<4→PySem.W.findIn K (.ref (Cs i)) "__class__" = some (some (.builtin "object.__class__"))
  hn:PySem.W.specialIn K (.builtin "object.__class__") "__get__" = some (some (.builtin "getset_descriptor.__get__"))
  htk:PySem.W.takesIn K (.builtin "object.__class__")=some true
  hm:∀ i,i<4→PySem.W.mroIn K (Cs i) (.type "object")=some true
  kt:∀ i,i<4→PySem.W.kitOne K (.ref (Cs i)) (.ref cR)=some true
theorem four {p:Nat→Prop} (h0:p 0) (h1:p 1) (h2:p 2) (h3:p 3):∀ i,i<4→p i
  | 0,_=>h0
  | 1,_=>h1
  | 2,_=>h2
  | 3,_=>h3
theorem two_of {nms:List Str} (h:nms.length=2):∃ a b,nms=[a,b]:=by
  match nms,h with
  | [a,b],_=>exact⟨a,b,rfl⟩
theorem six {p:Str→Prop} (h1:p "name") (h2:p "amount") (h3:p "parts") (h4:p "way") (h5:p "most") (h6:p "least"):∀ x∈(["name","amount","parts","way","most","least"]:List Str),p x:=by
  intro x hx
  simp only[List.mem_cons,List.not_mem_nil,or_false] at hx
  rcases hx with rfl | rfl | rfl | rfl | rfl | rfl <;> assumption
end Pg
namespace ST
open PySem PySem.Spec PyProof.Rows
noncomputable def own:List Char:="set_iterator".toList.reverse
section
variable {prog:Program} {w:World} {A:Around} {E:Value→Shared→Prop} {s:Shared}
end
section
variable {prog:Program} {w:World} {A:Around} {E:Value→Shared→Prop} {s:Shared}
noncomputable def itObj (first:Value) (i n ep:Nat) (S:Addr):Obj:={ cls:=.type "set_iterator",dict:=none,data:=.fields #[first,rawInt i,.ref S,rawInt n,rawInt ep],slots:=#[] }
noncomputable def isDrawn (es:Array (Int × Value)) (t:SetTable):Bool:=!t.plain&&decide (es.size > 1)
noncomputable def slotAt (t:SetTable) (i:Nat):Nat:=if i=0 then 0 else t.place.getD (i - 1) 0+1
inductive First (w:World) (es:Array (Int × Value)) (ep:Nat) (t:SetTable) (S T:Addr) (ord:List Value) (h:Heap) (i:Nat):Value→Prop
  | text (k:Nat):byText w=true→ord=(pickOrder (w.params.setOrder S ep) es).toList.map (·.2)→First w es ep t S T ord h i (rawInt k)
  | table:byText w=false→isDrawn es t=false→Good true t→ord=es.toList.map (·.2)→First w es ep t S T ord h i (rawInt (slotAt t i))
  | drawn (ps:List Nat):byText w=false→h.get? T=some (seqObj "tuple" (ps.map fun (p:Nat)=>rawInt p).toArray 0)→ps.Perm (List.range es.size)→ord=ps.map (fun p=>(es.getD p (0,.none)).2)→First w es ep t S T ord h i (.ref T)
end
section
variable {prog:Program} {w:World} {A:Around} {E:Value→Shared→Prop} {s:Shared}
structure It (w:World) (es:Array (Int × Value)) (ep:Nat) (t:SetTable) (S T I:Addr) (ord:List Value) (i:Nat) (h:Heap):Prop where
  it:∃ first,h.get? I=some (itObj first i es.size ep S)∧First w es ep t S T ord h i first
  set:∃ o,h.get? S=some o∧o.data = .set es ep t
  fits:t.fits es.size=true
end
section
variable {prog:Program} {w:World} {A:Around} {E:Value→Shared→Prop} {s:Shared}
end
section
variable {prog:Program} {w:World} {A:Around} {E:Value→Shared→Prop} {s:Shared}
end
section
variable {prog:Program} {w:World} {A:Around} {E:Value→Shared→Prop} {s:Shared}
end
section
variable {prog:Program} {w:World} {A:Around} {E:Value→Shared→Prop} {s:Shared}
noncomputable def Came (w:World) (s:Shared) (es:Array (Int × Value)) (r:Result) (s':Shared):Prop:=∃ h' d tk acc c,r = .ok (.ret (.ref s.heap.objs.size))∧s' = { s with heap:=h',drawn:=d,toks:=tk }∧(∀ b o,s.heap.get? b=some o→h'.get? b=some o)∧h'.get? s.heap.objs.size=some { cls:=.type "list",dict:=none,data:=.seq acc c,slots:=#[] }∧acc.toList.Perm (es.toList.map (·.2))
end
end ST
namespace L2
open PySem PySem.Spec PyProof.Rows
section
variable {X:Cx} {pins:List (Addr × Obj)} {σ:St} {H:Hp} {s:Shared} {a:Expr} {ta:TA} {p1 p2 p3 pos:Pos}
noncomputable def tSortSet (K:PySem.W.Frag) (ta:TA):TE:=fun σ H Q=>ta σ H fun vs H1=>∃ (l:Addr) (zs:List Int),vs=[.ref l]∧SqL K H1 l (zs.map V.int)∧zs.length<64 ∧
  ∀ ys:List Int,ys.Pairwise (· < ·)→(∀ z,z∈ys↔z∈zs)→∀ D,H1 D=none→Q (.ref D) (upd H1 D (.lst (ys.map V.int)))
end
section
variable {X:Cx} {A:Around} {E:Value→Shared→Prop} {pins:List (Addr × Obj)} {σ:St} {H:Hp} {s:Shared} {r:Addr} {Q:VK} {OK:List Str→Prop}
end
noncomputable def rSortD:List V→Hp→VK→Prop:=fun xs H Q=>∃ (d:Addr) (tot:List (Str × Int)),xs=[.ref d]∧Rd H d (.dK (dOf tot))∧tot.length<64 ∧
    ∀ ss:List Str,ss.Perm (tot.map (·.1))→ss.Pairwise (fun a b:Str=>¬ b.cps.toList<a.cps.toList)→New H (.lst (ss.map V.str)) Q
section
variable {X:Cx} {a:Expr} {ta:TA} {p1 p2 p3 pos:Pos}
noncomputable def tSortSetT (K:PySem.W.Frag) (ta:TA):TE:=fun σ H Q=>ta σ H fun vs H1=>∃ (l:Addr) (zs:List Str),vs=[.ref l]∧SqL K H1 l (zs.map V.str)∧zs.length<64 ∧
  ∀ ys:List Str,ys.Nodup→ys.Pairwise (fun a b:Str=>¬ b.cps.toList<a.cps.toList)→(∀ z,z∈ys↔z∈zs)→New H1 (.lst (ys.map V.str)) Q
end
noncomputable def Itv (K:PySem.W.Frag) (a:Addr) (n:Nat):It :=
  ⟨fun i H=>i<n∧∃ xs,SqL K H a xs∧xs.length=n,fun i H x H'=>H'=H∧∀ xs,SqL K H a xs→xs[n - 1 - i]? = some x,fun i _=>i=n⟩
noncomputable def iRev (K:PySem.W.Frag) (ta:TA):TI:=fun σ H R=>ta σ H fun vs H1=>∃ a xs,vs=[.ref a]∧SqL K H1 a xs∧R (Itv K a xs.length) H1
section
variable {X:Cx} {tg a:Expr} {ta:TA} {p pos:Pos}
end
noncomputable def rSortK:List V→Hp→VK→Prop:=fun xs H Q=>∃ (d:Addr) (kvs:List (Key × V)) (ks:List Str),xs=[.ref d]∧Rd H d (.dK kvs)∧kvs.map (·.1)=ks.map Sum.inr∧ks.length<64 ∧
    ∀ ss:List Str,ss.Perm ks→ss.Pairwise (fun a b:Str=>¬ b.cps.toList<a.cps.toList)→New H (.lst (ss.map V.str)) Q
end L2
namespace PySem
namespace F
end F
end PySem
namespace L2
open PySem PySem.Spec PyProof.Rows
noncomputable def rvdObj (l:Addr) (i:Int):Obj:={ cls:=.type "reversed",data:=.fields #[.ref l,rawInt i] }
noncomputable def IsRvd (h:Heap) (a l:Addr) (i:Int):Prop:=∃ o,h.get? a=some o∧o.cls = .type "reversed"∧o.data = .fields #[.ref l,rawInt i]
section
variable {prog:Program} {w:World} {A:Around} {E:Value→Shared→Prop} {s:Shared}
end
noncomputable def ItvT (K:PySem.W.Frag) (a:Addr) (n:Nat):It :=
  ⟨fun i H=>i<n∧∃ xs,SqT K H a xs∧xs.length=n,fun i H x H'=>H'=H∧∀ xs,SqT K H a xs→xs[n - 1 - i]? = some x,fun i _=>i=n⟩
noncomputable def iRevT (K:PySem.W.Frag) (ta:TA):TI:=fun σ H R=>ta σ H fun vs H1=>∃ a xs,vs=[.ref a]∧SqT K H1 a xs∧R (ItvT K a xs.length) H1
section
variable {X:Cx} {tg a:Expr} {ta:TA} {p pos:Pos}
end
end L2
namespace Pg
open PySem L2
noncomputable def mxI (a b:Int):Int:=if b > a then b else a
noncomputable def mnI (a b:Int):Int:=if b<a then b else a
noncomputable def pcE (r:List (Int × Int)) (t:Int):Int:=match r with
  | []=>t
  | q::_=>mnI t q.1
noncomputable def pc (b:Int) (r:List (Int × Int)) (t:Int):Int:=mxI 0 (pcE r t - b)
noncomputable def pcs:List (Int × Int)→Int→List Int
  | [],_=>[]
  | q::r,t=>pc q.1 r t::pcs r t
noncomputable def bsum:List (Int × Int)→Int→Int
  | [],_=>0
  | q::r,t=>q.2*pc q.1 r t+bsum r t
noncomputable def Up (ps:List (Int × Int)):Prop:=ps.Pairwise fun x y=>x.1<y.1
noncomputable def stp (q s:Int × Int):Int × Int:=if s.1 > q.1 then (q.1,s.2+(s.1 - q.1)*q.2) else s
noncomputable def cB (q:Int × Int):List V:=[.int q.1,.int q.2]
noncomputable def BdsAt (H:Hp) (u:Addr) (ps:List (Int × Int)):Prop:=∃ ys,H u=some (.tup ys)∧TupsAt H ys (ps.map cB)
theorem BdsAt.same {H H':Hp} {u:Addr} {ps:List (Int × Int)} (s:Same H H') (h:BdsAt H u ps):BdsAt H' u ps:=by
  obtain⟨ys,e,t⟩:=h
  exact⟨ys,s _ _ e,t.same s⟩
structure BdOk (ps:List (Int × Int)):Prop where
  few:ps.length≤12
  hd:∃ p r,ps=((0:Int),p)::r
  ok:∀ q∈ps,Amt q.1∧Prt q.2
  up:Up ps
inductive Gd:Nat→Rk→Prop where
  | pln {d:Nat} {r:Rk}:Pln r→Gd d r
  | bands {d:Nat} {n w:Str} {ps:List (Int × Int)}:RName n→BdOk ps→Way w→Gd d (.bands n ps w)
  | ontop {d:Nat} {n w:Str} {p:Int} {r:Rk}:RName n→Prt p→Way w→Gd d r→Gd (d+1) (.ontop n p w r)
theorem Gd.mono {d:Nat} {r:Rk} (h:Gd d r):Gd (d+1) r:=by
  induction h with
  | pln h=>exact .pln h
  | bands h1 h2 h3=>exact .bands h1 h2 h3
  | ontop h1 h2 h3 _ ih=>exact .ontop h1 h2 h3 ih
inductive RoG (Cs:Nat→Addr) (H:Hp):Rk→V→Prop where
  | pln {r:Rk} {v:V}:r.kd<4→RoAt Cs H v r→RoG Cs H r v
  | bands {n w:Str} {ps:List (Int × Int)} {o dx u:Addr}:H o=some (.ins (Cs 4) dx [("name",.str n),("bands",.ref u),("way",.str w)])→BdsAt H u ps→RoG Cs H (.bands n ps w) (.ref o)
  | ontop {n w:Str} {p:Int} {r:Rk} {o dx:Addr} {x:V}:H o=some (.ins (Cs 5) dx [("name",.str n),("parts",.int p),("way",.str w),("within",x)])→RoG Cs H r x→RoG Cs H (.ontop n p w r) (.ref o)
theorem RoG.same {Cs:Nat→Addr} {H H':Hp} {r:Rk} {v:V} (s:Same H H') (h:RoG Cs H r v):RoG Cs H' r v:=by
  induction h with
  | pln k h=>exact .pln k (h.same s)
  | bands h b=>exact .bands (s _ _ h) (b.same s)
  | ontop h _ ih=>exact .ontop (s _ _ h) ih
inductive RtG (H:Hp):Rk→V→Prop where
  | pln {r:Rk} {v:V}:r.kd<4→RtAt H v r→RtG H r v
  | bands {n w:Str} {ps:List (Int × Int)} {t u:Addr}:H t=some (.tup [.str "bands",.str n,.ref u,.str w])→BdsAt H u ps→RtG H (.bands n ps w) (.ref t)
  | ontop {n w:Str} {p:Int} {r:Rk} {t:Addr} {x:V}:H t=some (.tup [.str "ontop",.str n,.int p,.str w,x])→RtG H r x→RtG H (.ontop n p w r) (.ref t)
theorem RtG.same {H H':Hp} {r:Rk} {v:V} (s:Same H H') (h:RtG H r v):RtG H' r v:=by
  induction h with
  | pln k h=>exact .pln k (h.same s)
  | bands h b=>exact .bands (s _ _ h) (b.same s)
  | ontop h _ ih=>exact .ontop (s _ _ h) ih
noncomputable def untG:Rk→List Int→Int
  | .bands _ ps w,bs=>rnd (bsum ps bs.sum) w
  | .ontop _ p w r,bs=>rnd (untG r bs*p) w
  | .flat n a,bs=>unt (.flat n a) bs
  | .share n p w,bs=>unt (.share n p w) bs
  | .capped n p m w,bs=>unt (.capped n p m w) bs
  | .least n p l w,bs=>unt (.least n p l w) bs
noncomputable def ofmG (r:Rk) (bs:List Int):Int:=untG r bs - untG r (dl bs)
noncomputable def bandT (q:Int × Int):Str:=(toString q.1:Str) ++ ":" ++ (toString q.2:Str)
noncomputable def bndT (ps:List (Int × Int)):Str:=Txt.join "," (ps.map bandT)
noncomputable def rStrI:List V→Hp→VK→Prop:=fun xs H Q=>∃ i,xs=[.int i]∧i.natAbs.log2<1920∧Q (.str (toString i)) H
noncomputable def rAddS:R2:=fun x y H Q=>∃ i j,x = .str i∧y = .str j∧i.length+j.length≤sizeLine∧Q (.str (i++j)) H
noncomputable def rowG:Rk→Str
  | .bands n ps w=>Txt.join " " ["bands",n,bndT ps,w]
  | .ontop n p w r=>Txt.join " " ["ontop",n,toString p,w,"of",rowG r]
  | .flat n a=>rowT (.flat n a)
  | .share n p w=>rowT (.share n p w)
  | .capped n p m w=>rowT (.capped n p m w)
  | .least n p l w=>rowT (.least n p l w)
structure RulX (K:PySem.W.Frag) (C:Addr):Prop where
  cls:Cls K C
  no:∀ x∈(["name","bands","way","parts","within"]:List Str),NoAttr K C x
noncomputable def sp_rise0 (K:PySem.W.Frag):Sp:=fun vs H Q _=>∃ (l:Addr) (zs:List Int),vs=[.ref l]∧SqL K H l (zs.map V.int)∧zs.length≤50∧zs.Pairwise (fun x y:Int=>x<y)∧∀ H',Same H H'→Q (.bl true) H'
noncomputable def sp_band0:Sp:=fun vs H Q _=>∃ a q,vs=[.ref a]∧H a=some (.tup (cB q))∧Amt q.1∧Prt q.2∧Q (.bl true) H
noncomputable def sp_bands0:Sp:=fun vs H Q _=>∃ u ps,vs=[.ref u]∧BdsAt H u ps∧BdOk ps∧∀ H',Same H H'→Q (.bl true) H'
noncomputable def sp_rinitX (K:PySem.W.Frag):Sp:=fun vs H Q _=>∃ C o dx z,vs=[.ref o,.str z]∧Cls K C∧NoAttr K C "name"∧H o=some (.ins C dx [])∧RName z∧∀ H',(∀ b x,H b=some x→b≠o→H' b=some x)→H' o=some (.ins C dx [("name",.str z)])→Q .non H'
noncomputable def sp_binit (C:Addr):Sp:=fun vs H Q _=>∃ o dx n u ps w,vs=[.ref o,.str n,.ref u,.str w]∧RName n∧BdOk ps∧Way w∧BdsAt H u ps∧H o=some (.ins C dx []) ∧
  ∀ H' u',(∀ b x,H b=some x→b≠o→H' b=some x)→H' o=some (.ins C dx [("name",.str n),("bands",.ref u'),("way",.str w)])→BdsAt H' u' ps→Q .non H'
noncomputable def sp_untG (K:PySem.W.Frag) (d k:Nat) (Cs:Nat→Addr):Sp:=fun vs H Q _=>∃ v r b bs,vs=[v,.ref b]∧r.kd=k∧RoG Cs H r v∧Gd d r∧SqL K H b (bs.map V.int)∧bs.length≤100∧∀ H',Same H H'→Q (.int (untG r bs)) H'
noncomputable def sp_ofmG (K:PySem.W.Frag) (d k:Nat) (Cs:Nat→Addr):Sp:=fun vs H Q _=>∃ v r b bs,vs=[v,.ref b]∧r.kd=k∧RoG Cs H r v∧Gd d r∧SqL K H b (bs.map V.int)∧bs.length≤100∧∀ H',Same H H'→Q (.int (ofmG r bs)) H'
noncomputable def sp_rowG (d k:Nat) (Cs:Nat→Addr):Sp:=fun vs H Q _=>∃ v r,vs=[v]∧r.kd=k∧RoG Cs H r v∧Gd d r∧∀ H',Same H H'→Q (.str (rowG r)) H'
noncomputable def sp_pcsL:Sp:=fun vs H Q _=>∃ u ps t,vs=[.ref u,.int t]∧BdsAt H u ps∧BdOk ps∧∀ l H',Same H H'→H l=none→H' l=some (.lst ((pcs ps t).map V.int))→Q (.ref l) H'
noncomputable def sp_prsR:Sp:=fun vs H Q _=>∃ c,vs=[.int c]∧∀ u ps H',BdOk ps→Same H H'→BdsAt H' u ps→Q (.ref u) H'
noncomputable def sp_plnG:Sp:=fun vs H Q _=>∃ c z k,vs=[.int c,.str z,.int k]∧RName z∧0≤k∧k<5∧∀ v r H',Gd 0 r→r.name=z→(r.kd:Int)=k→Same H H'→RtG H' r v→Q v H'
noncomputable def sp_untN (K:PySem.W.Frag):Nat→Sp
  | 0=>fun _ _ _ _=>False
  | d+1=>fun vs H Q _=>∃ v r b bs,vs=[v,.ref b]∧RtG H r v∧Gd d r∧SqL K H b (bs.map V.int)∧bs.length≤100∧Nns bs∧∀ H',Same H H'→Q (.int (untG r bs)) H'
noncomputable def sp_ofmN (K:PySem.W.Frag) (d:Nat):Sp:=fun vs H Q _=>∃ v r b bs,vs=[v,.ref b]∧RtG H r v∧Gd d r∧SqL K H b (bs.map V.int)∧bs.length≤100∧Nns bs∧∀ H',Same H H'→Q (.int (ofmG r bs)) H'
noncomputable def sp_rowN:Nat→Sp
  | 0=>fun _ _ _ _=>False
  | d+1=>fun vs H Q _=>∃ v r,vs=[v]∧RtG H r v∧Gd d r∧∀ H',Same H H'→Q (.str (rowG r)) H'
noncomputable def sp_coins:Sp:=fun vs H Q _=>∃ u ps w t,vs=[.ref u,.str w,.int t]∧BdsAt H u ps∧BdOk ps∧0≤t∧t≤30∧∀ H',Same H H'→Q (.int (rnd (bsum ps t) w)) H'
theorem RoG.obj {Cs:Nat→Addr} {H:Hp} {r:Rk} {v:V} {d:Nat} (h:RoG Cs H r v) (g:Gd d r):∃ o dx fs,v = .ref o∧H o=some (.ins (Cs r.kd) dx fs)∧fs.lookup ("name":Str)=some (.str r.name) ∧
    ∀ x∈(["until","of_month","row","twin","depth"]:List Str),fs.lookup x=none:=by
  cases h with
  | pln k h =>
    obtain⟨o,dx,rfl,h⟩:=h
    cases g with
    | pln p =>
      refine⟨o,dx,_,rfl,h,at_name p,fun x hx=>?_⟩
      simp only[List.mem_cons,List.not_mem_nil,or_false] at hx
      cases p <;> rcases hx with rfl | rfl | rfl | rfl | rfl <;> rfl
    | bands=>exact absurd k (by show ¬ (_:Nat)<4;exact Nat.not_lt_of_le (Nat.le_of_ble_eq_true rfl))
    | ontop=>exact absurd k (by show ¬ (_:Nat)<4;exact Nat.not_lt_of_le (Nat.le_of_ble_eq_true rfl))
  | bands h b =>
    refine⟨_,_,_,rfl,h,rfl,fun x hx=>?_⟩
    simp only[List.mem_cons,List.not_mem_nil,or_false] at hx
    rcases hx with rfl | rfl | rfl | rfl | rfl <;> rfl
  | ontop h b =>
    refine⟨_,_,_,rfl,h,rfl,fun x hx=>?_⟩
    simp only[List.mem_cons,List.not_mem_nil,or_false] at hx
    rcases hx with rfl | rfl | rfl | rfl | rfl <;> rfl
theorem bds_items {H:Hp} {ys:List V} {ps:List (Int × Int)} (T:TupsAt H ys (ps.map cB)):ItemsAt H ys ps (fun H' v q=>∃ a,v = .ref a∧H' a=some (.tup (cB q))):=by
  refine⟨by rw[T.len,List.length_map],fun i y e=>?_⟩
  obtain⟨a,c,rfl,h1,h2⟩:=T.of_at e
  rw[List.getElem?_map] at h1
  obtain⟨q,hq,rfl⟩:=Option.map_eq_some_iff.mp h1
  exact⟨q,hq,fun H' s=>⟨a,rfl,s _ _ h2⟩⟩
theorem bds_at {H:Hp} {ys:List V} {ps:List (Int × Int)} (T:TupsAt H ys (ps.map cB)) {i:Nat} {q:Int × Int} (h:ps[i]? = some q):∃ a,ys[i]? = some (.ref a)∧H a=some (.tup (cB q)) :=
  T.at_ i _ (by rw[List.getElem?_map,h];rfl)
theorem all_true (n:Nat):(List.replicate n true).all id=true:=by
  rw[List.all_eq_true]
  intro x hx
  exact (List.mem_replicate.mp hx).2
theorem cut_tail (zs:List Int):cutV (zs.map V.int) (some 1) none=zs.tail.map V.int:=by
  unfold cutV
  rw[show (1:Int)=((1:Nat):Int) from rfl,HT.sIx_nat,HT.sIx_none,List.length_map]
  cases zs with
  | nil=>rfl
  | cons z r =>
    rw[Nat.min_eq_left (show 1≤(z::r).length from Nat.succ_le_succ (Nat.zero_le _))]
    show ((r.map V.int)).take (r.length+1 - 1)=r.map V.int
    rw[List.take_of_length_le (by rw[List.length_map];omega)]
theorem up_at {zs:List Int} (h:zs.Pairwise fun x y:Int=>x<y) {i:Nat} {a b:Int} (ha:zs[i]? = some a) (hb:zs.tail[i]? = some b):a<b:=by
  rw[List.getElem?_tail] at hb
  obtain⟨h1,rfl⟩:=List.getElem?_eq_some_iff.mp ha
  obtain⟨h2,rfl⟩:=List.getElem?_eq_some_iff.mp hb
  exact List.pairwise_iff_getElem.mp h i (i+1) h1 h2 (Nat.lt_succ_self _)
theorem zip_true (xs ys:List V):List.zipWith (fun _ _=>V.bl true) xs ys=(List.replicate (min xs.length ys.length) true).map V.bl:=by
  rw[List.map_replicate]
  apply List.ext_getElem
  · rw[List.length_zipWith,List.length_replicate]
  · intro i h1 h2
    rw[List.getElem_zipWith,List.getElem_replicate]
theorem map_true {α:Type} (xs:List α):xs.map (fun _=>V.bl true)=(List.replicate xs.length true).map V.bl:=by
  rw[List.map_replicate]
  induction xs with
  | nil=>rfl
  | cons x r ih=>exact congrArg (V.bl true :: ·) ih
theorem at_first {xs:List V} {v:V} (h:xs.head? = some v):atI xs 0=some v:=by
  cases xs with
  | nil=>cases h
  | cons x r =>
    cases h
    exact atI_nat (j:=0) rfl
end Pg
namespace L2
open PySem PySem.Spec PyProof.Rows
theorem comp_zipS {K:PySem.W.Frag} {D a b:Addr} {te:TE} {fin:List V→Hp→Prop} {σ:St} {H:Hp} {xs ys:List V} (ha:SqL K H a xs) (hb:SqL K H b ys) (hD:H D=none) (hz:ys.length<sizeLine) (hxy:ys.length≤xs.length) (φ:V→V→V)
    (he:∀ (i:Nat) x y,xs[i]? = some x→ys[i]? = some y→∀ H' R,Same H H'→(∀ H'',Same H' H''→R (φ x y) H'')→te ((σ.set 0 (some x)).set 1 (some y)) H' R)
    (hf:∀ H',Same H H'→H' D=some (.lst (List.zipWith φ xs ys))→fin (List.zipWith φ xs ys) H') :
    tTurnsI (Itz K a b) D (gTup K 2 (gCons (gName 0) (gCons (gName 1) gNil))) tNoIf te fin σ (upd H D (.lst [])):=by
  refine⟨fun i m zs σ' H'=>m=ys.length - i∧i≤ys.length∧(∀ x y,(σ'.set 0 x).set 1 y=(σ.set 0 x).set 1 y)∧Same H H'∧H' D=some (.lst zs)∧zs=List.zipWith φ (xs.take i) (ys.take i),⟨ys.length,by simp,Nat.zero_le _,fun _ _=>rfl,Same.upd hD,upd_same,rfl⟩,fun i m zs σ H ⟨_,_,_,_,h,_⟩=>h,?_⟩
  rintro i m zs σ' H' ⟨rfl,hi,hσ,s,hd,rfl⟩
  by_cases hlt:i<ys.length
  · have hx:=List.getElem?_eq_getElem (show i<xs.length by omega)
    have hy:=List.getElem?_eq_getElem hlt
    have tx:xs.take (i+1)=xs.take i++[xs[i]]:=by rw[List.take_add_one,hx];rfl
    have ty:ys.take (i+1)=ys.take i++[ys[i]]:=by rw[List.take_add_one,hy];rfl
    refine .inr ⟨⟨xs,ys,_,_,s.seq ha,s.seq hb,hx,hy⟩,fun zs' σ2 H2=>(∀ x y,(σ2.set 0 x).set 1 y=(σ.set 0 x).set 1 y)∧Same H H2∧H2 D=some (.lst zs')∧zs'=List.zipWith φ (xs.take (i+1)) (ys.take (i+1)),fun zs' σ2 H2 p=>⟨ys.length - (i+1),by omega,rfl,hlt,p⟩,fun v H'' hy'=>?_⟩
    obtain⟨c,x,y,e1,e2,e3,e4⟩:=hy'
    obtain⟨e5,e6⟩:=e4 xs ys (s.seq ha) (s.seq hb)
    subst e1 e3
    rw[hx] at e5
    rw[hy] at e6
    cases e5
    cases e6
    refine⟨c,_,rfl,SqT.of upd_same,rfl,_,_,rfl,_,_,rfl,rfl,?_⟩
    have s2:Same H' (upd H' c (.tup [xs[i],ys[i]])):=Same.upd e2
    unfold tNoIf
    dsimp only
    refine iteT ?_
    show te ((σ'.set 0 _).set 1 _) _ _
    rw[hσ]
    refine he i _ _ hx hy _ _ (s.trans s2) fun H3 s3=>⟨s3 _ _ (s2 _ _ hd),?_,?_,?_,upd_same,?_⟩
    · rw[List.length_zipWith,List.length_take,List.length_take];omega
    · intro x y
      rcases σ with _ | ⟨_,_ | ⟨_,_⟩⟩ <;> rfl
    · intro b o z
      rw[upd_ne (ne_of_none z hD)]
      exact s3 _ _ (s2 _ _ (s _ _ z))
    · rw[tx,ty,List.zipWith_append (by rw[List.length_take,List.length_take];omega)]
      rfl
  · have e:i=ys.length:=by omega
    subst e
    refine .inl ⟨⟨xs,ys,s.seq ha,s.seq hb,.inr (Nat.le_refl _)⟩,?_⟩
    have e3:List.zipWith φ (xs.take ys.length) ys=List.zipWith φ xs ys:=by
      apply List.ext_getElem?
      intro j
      rw[List.getElem?_zipWith,List.getElem?_zipWith,List.getElem?_take]
      by_cases h:j<ys.length
      · rw[if_pos h]
      · rw[if_neg h,List.getElem?_eq_none (l:=ys) (by omega)]
        cases xs[j]? <;> rfl
    rw[List.take_length,e3] at hd ⊢
    exact hf H' s hd
end L2
namespace K09
open PySem PySem.NumText L2 Pg
seal PE PA PT PW PS PSs PG PGs PI PIf PO PK
section
variable {P:Program} {w:World} {K:PySem.W.Frag} {mg:Str→Option Value} {base:Heap} {f:Addr} {fd:FuncData} {d:Nat→Addr} {cR:Addr}
theorem ok_rise0 (F:Fun K "rise" "rise" (top 30) f fd) (G:Glb mg):FnOk P w K mg base CX0 1 f fd ["things"] (sp_rise0 K):=by
  have nc:(["thing","after"]:List Str).Nodup:=by decide +kernel
  refine F.ok (N:=["things"]) ⟨rfl,rfl,rfl,by decide +kernel,rfl,by decide +kernel,by decide +kernel⟩ (fun vs H Q E h=>?_) (fun cdv A outer s H vs Q E hr h=>?_)
  · obtain⟨l,zs,rfl,_⟩:=h
    rfl
  · obtain⟨l,zs,rfl,hl,zl,up,q⟩:=h
    refine' ⟨_,pss_one (ps_ret (pe_callB (call_allL rfl) rfl G.all boot_all (pa_cons ?comp pa_nil))),?main⟩
    case comp =>
      refine' pe_compI (Nc:=["thing","after"]) (cl:=[]) (src:=[none,none]) (wi:=iZip K (tCons (tVar 0) (tCons (tSl (rSlL K) (tVar 0) (tPart (tC (.int 1))) tNoPart) tNil))) (g:=gTup K 2 (gCons (gName 0) (gCons (gName 1) gNil))) (tt:=tNoIf) (te:=tOp (rI0 fun i j=>.bl (decide (i<j))) (tVar 0) (tVar 1))
        ⟨rfl,rfl,by decide +kernel,by decide +kernel,(fun x c z=>nomatch z),has_of (by rfl),frm_none (frm_none frm_nil),rfl⟩ rfl (pi_zip rfl G.zip (pa_cons (pv 0) (pa_cons (pe_slice sl_list (pv 0) (po_some pe_int) po_none) pa_nil))) ?hb
      case hb =>
        intro fp C' s' H'
        exact⟨pg_tup rfl (pgs_cons (pg_name (i:=0) nc rfl (Or.inl rfl)) (pgs_cons (pg_name (i:=1) nc rfl (Or.inl rfl)) pgs_nil)),pif_nil,pe_cmpR op_lt (pv 0) (pv 1) (nomark _)⟩
    refine⟨_,rfl,_,rfl,_,rfl,l,_,rfl,hl,fun p p0=>?_⟩
    have s1:Same H (upd H p (.lst (cutV (zs.map V.int) (some 1) none))):=Same.upd p0
    have e1:(upd H p (.lst (cutV (zs.map V.int) (some 1) none))) p=some (.lst (zs.tail.map V.int)):=by rw[upd_same,cut_tail]
    refine⟨l,p,rfl,⟨_,s1.seq hl⟩,⟨_,SqL.of e1⟩,fun D hD=>comp_zipS (s1.seq hl) (SqL.of e1) hD (by rw[List.length_map,List.length_tail,sizeLine_eq];omega) (by rw[List.length_map,List.length_map,List.length_tail];omega) (fun _ _=>V.bl true) (fun i x y hx hy H1 R s2 r=>?_) (fun H1 s2 e2=>?_)⟩
    · rw[List.getElem?_map] at hx hy
      obtain⟨a,ha,rfl⟩:=Option.map_eq_some_iff.mp hx
      obtain⟨b,hb,rfl⟩:=Option.map_eq_some_iff.mp hy
      refine⟨_,rfl,_,rfl,a,b,rfl,rfl,?_⟩
      show R (V.bl (decide (a<b))) H1
      rw[decide_eq_true (up_at up ha hb)]
      exact r H1 (Same.refl _)
    · refine⟨D,List.replicate (zs.length - 1) true,rfl,SqL.of ?_,?_⟩
      · rw[e2,zip_true,List.length_map,List.length_map,List.length_tail,Nat.min_eq_right (by omega)]
      · rw[Pg.all_true]
        exact q H1 (s1.trans s2)
theorem ok_band0 (F:Fun K "is_band" "is_band" (top 48) f fd) (G:Glb mg) (C1:Cal P w K mg base CX0 3 "is_rule_amount" ["thing"] sp_ramt0) (C2:Cal P w K mg base CX0 3 "is_parts" ["thing"] sp_parts0):FnOk P w K mg base CX0 4 f fd ["thing"] sp_band0:=by
  refine F.ok (N:=["thing"]) ⟨rfl,rfl,rfl,by decide +kernel,rfl,by decide +kernel,by decide +kernel⟩ (fun vs H Q E h=>?_) (fun cdv A outer s H vs Q E hr h=>?_)
  · obtain⟨a,p,rfl,_⟩:=h
    rfl
  · obtain⟨a,p,rfl,ha,h1,h2,q⟩:=h
    refine⟨_,(pss_cons (ps_if (PW.pt (pw_or (pt_not (pt_val (pe_callB call_isinst rfl G.isinstance boot_isinstance (pa_cons (pv 0) (pa_cons (pe_bltn (v:=.ty "tuple") rfl G.tuple boot_tuple rfl) pa_nil))))) (pw_or1 (pt_cmpR op_ne (pe_callB call_len_seq rfl G.len boot_len (pa_cons (pv 0) pa_nil)) pe_int (nomark _))))) (pss_one (ps_ret pe_bl)) pss_nil)
        (pss_one (ps_ret (pe_and (pe_cal C1 hr (by decide) pass0 (pa_cons (pe_at ix_tup (pv 0) pe_int) pa_nil)) (pe_one (pe_cal C2 hr (by decide) pass0 (pa_cons (pe_at ix_tup (pv 0) pe_int) pa_nil))))))),?_⟩
    refine⟨_,rfl,_,_,_,_,true,rfl,rfl,.inl (.tup ha),rfl,true,rfl,iteF ⟨_,rfl,a,_,rfl,.inr (SqT.of ha),rfl,_,rfl,iteF ?_⟩⟩
    refine⟨_,rfl,a,_,_,_,rfl,rfl,SqT.of ha,rfl,_,rfl,h1,true,rfl,iteT ⟨_,rfl,a,_,_,_,rfl,rfl,SqT.of ha,rfl,_,rfl,h2.1,h2.2,q⟩⟩
theorem ok_bands0 (F:Fun K "are_bands" "are_bands" (top 49) f fd) (G:Glb mg) (N1:Num mg "MOST_BANDS" 12) (C1:Cal P w K mg base CX0 4 "is_band" ["thing"] sp_band0) (C2:Cal P w K mg base CX0 1 "rise" ["things"] (sp_rise0 K)):FnOk P w K mg base CX0 5 f fd ["thing"] sp_bands0:=by
  obtain⟨tk,em⟩:=N1
  have nd:(["thing","borders"]:List Str).Nodup:=by decide +kernel
  have nc:(["row"]:List Str).Nodup:=by decide +kernel
  refine F.ok (N:=["thing","borders"]) ⟨rfl,rfl,rfl,by decide +kernel,rfl,by decide +kernel,by decide +kernel⟩ (fun vs H Q E h=>?_) (fun cdv A outer s H vs Q E hr h=>?_)
  · obtain⟨u,ps,rfl,_⟩:=h
    rfl
  · obtain⟨u,ps,rfl,⟨ys,hu,T⟩,ok,q⟩:=h
    refine' ⟨_,(pss_cons (ps_if (PW.pt (pw_or (pt_not (pt_val (pe_callB call_isinst rfl G.isinstance boot_isinstance (pa_cons (pv 0) (pa_cons (pe_bltn (v:=.ty "tuple") rfl G.tuple boot_tuple rfl) pa_nil))))) (pw_or (pt_cmpR op_lt (pe_callB call_len_seq rfl G.len boot_len (pa_cons (pv 0) pa_nil)) pe_int (nomark _)) (pw_or1 (pt_cmpR op_gt (pe_callB call_len_seq rfl G.len boot_len (pa_cons (pv 0) pa_nil)) (pe_glob (v:=.int 12) rfl em ⟨tk,rfl⟩) (nomark _)))))) (pss_one (ps_ret pe_bl)) pss_nil)
        (pss_cons (ps_if (pt_not (pt_val (pe_callB (call_allL rfl) rfl G.all boot_all (pa_cons ?comp_2 pa_nil)))) (pss_one (ps_ret pe_bl)) pss_nil)
        (pss_cons ?st_1
        (pss_one (ps_ret (pe_and (pe_cmpR op_eq (pe_at ix_list (pv 1) pe_int) pe_int (nomark _)) (pe_one (pe_cal C2 hr (by decide) pass0 (pa_cons (pv 1) pa_nil))))))))),?main⟩
    case comp_2 =>
      refine' pe_compI (Nc:=["row"]) (cl:=[]) (src:=[none]) (wi:=iTup K (tVar 0)) (g:=gName 0) (tt:=tNoIf) (te:=fun σ H Q=>tCons (tVar 0) tNil σ H fun vs H1=>sp_band0 vs H1 Q E0)
        ⟨rfl,rfl,by decide +kernel,by decide +kernel,(fun x c z=>nomatch z),has_of (by rfl),frm_none frm_nil,rfl⟩ rfl (pi_tup (pv 0)) ?hb
      case hb =>
        intro fp C' s' H'
        exact⟨pg_name (i:=0) nc rfl (Or.inl rfl),pif_nil,pe_cal C1 hr (by decide) pass0 (pa_cons (pv 0) pa_nil)⟩
    case st_1 =>
      refine' ps_setC (i:=1) (Nc:=["row"]) (cl:=[]) (src:=[none]) (wi:=iTup K (tVar 0)) (g:=gName 0) (tt:=tNoIf) (te:=tOp (rIxT K) (tVar 0) (tC (.int 0))) nd rfl rfl
        ⟨rfl,rfl,by decide +kernel,by decide +kernel,(fun x c z=>nomatch z),has_of (by rfl),frm_none frm_nil,rfl⟩ rfl (pi_tup (pv 0)) ?hb
      case hb =>
        intro fp C' s' H'
        exact⟨pg_name (i:=0) nc rfl (Or.inl rfl),pif_nil,pe_at ix_tup (pv 0) pe_int⟩
    have few:=ok.few
    have yl:ys.length=ps.length:=by rw[T.len,List.length_map]
    obtain⟨p0,r0,ep⟩:=ok.hd
    have ne:1≤ps.length:=by rw[ep];exact Nat.succ_le_succ (Nat.zero_le _)
    have hs:ps.length<sizeLine:=by rw[sizeLine_eq];omega
    refine⟨_,rfl,_,_,_,_,true,rfl,rfl,.inl (.tup hu),rfl,true,rfl,iteF ⟨_,rfl,u,_,rfl,.inr (SqT.of hu),_,_,rfl,rfl,_,rfl,ite2 (fun e=>?_) (fun _=>?_)⟩⟩
    · have:=of_decide_eq_true e
      omega
    refine⟨_,rfl,u,_,rfl,.inr (SqT.of hu),_,_,rfl,rfl,_,rfl,ite2 (fun e=>?_) (fun _=>?_)⟩
    · have:=of_decide_eq_true e
      omega
    refine⟨_,rfl,u,rfl,⟨_,SqT.of hu⟩,fun D hD=>comp_at (walk_tup (SqT.of hu)) (bds_items T) hD hs (fun _=>V.bl true) (fun p hp v H1 R s1 e1 r=>?_) (fun H1 s1 e1=>?_)⟩
    · obtain⟨a,rfl,ha⟩:=e1
      exact⟨_,rfl,a,p,rfl,ha,(ok.ok p hp).1,(ok.ok p hp).2,r H1 (Same.refl _)⟩
    refine⟨D,List.replicate ps.length true,rfl,SqL.of (by rw[e1,map_true]),?_⟩
    rw[Pg.all_true]
    refine⟨true,rfl,iteF ⟨_,rfl,u,rfl,⟨_,SqT.of (s1 _ _ hu)⟩,fun D2 hD2=>comp_at (walk_tup (SqT.of (s1 _ _ hu))) (bds_items (T.same s1)) hD2 hs (fun p=>V.int p.1) (fun p hp v H2 R s2 e2 r=>?_) (fun H2 s2 e2=>?_)⟩⟩
    · obtain⟨a,rfl,ha⟩:=e2
      exact⟨_,rfl,a,_,_,_,rfl,rfl,SqT.of ha,rfl,r H2 (Same.refl _)⟩
    have e2':H2 D2=some (.lst ((ps.map (·.1)).map V.int)):=by rw[e2,List.map_map];rfl
    refine⟨_,rfl,D2,_,_,.int 0,rfl,rfl,SqL.of e2',at_first (by rw[ep];rfl),rfl,true,rfl,iteT ⟨_,rfl,D2,_,rfl,SqL.of e2',by rw[List.length_map];omega,?_,fun H3 s3=>q H3 (s1.trans (s2.trans s3))⟩⟩
    exact List.pairwise_map.mpr ok.up
end
end K09
namespace K09
open PySem PySem.NumText L2 Pg
seal PE PA PT PW PS PSs PG PGs PI PIf PO PK
section
variable {P:Program} {w:World} {K:PySem.W.Frag} {mg:Str→Option Value} {base:Heap} {f:Addr} {fd:FuncData} {d:Nat→Addr} {cR:Addr}
theorem ok_rinitX (F:Fun K "__init__" "Rule.__init__" (inClass (top 38) 0) f fd) (C1:Cal P w K mg base CX0 3 "is_rule_name" ["thing"] sp_rname0):FnOk P w K mg base CX0 4 f fd ["self","name"] (sp_rinitX K):=by
  refine F.ok (N:=["self","name"]) ⟨rfl,rfl,rfl,by decide +kernel,rfl,by decide +kernel,by decide +kernel⟩ (fun vs H Q E h=>?_) (fun cdv A outer s H vs Q E hr h=>?_)
  · obtain⟨i,o,dx,z,rfl,_⟩:=h
    rfl
  · obtain⟨C,o,dx,z,rfl,cl,no,ho,hz,q⟩:=h
    refine⟨_,pss_cons (ps_if (pt_not (pt_val (pe_cal C1 hr (by decide) pass0 (pa_cons (pv 1) pa_nil)))) pss_never pss_nil) (pss_one (ps_fld (pv 0) (pv 1) rfl)),?_⟩
    refine⟨_,rfl,z,rfl,hz,fun H1 s1=>⟨true,rfl,iteF ⟨_,rfl,_,rfl,o,_,dx,[],rfl,s1 _ _ ho,cl,no,by decide,?_⟩⟩⟩
    rw[pr1]
    exact q _ (fun b x hb ne=>by rw[upd_ne ne];exact s1 _ _ hb) upd_same
theorem ok_binit {C:Addr} (F:Fun K "__init__" "Bands.__init__" (inClass (top 50) 0) f fd) (G:Glb mg) (RX:RulX K C) (CR:CalC P w K mg base CX0 4 "Rule" "__init__" ["self","name"] (sp_rinitX K)) (C1:Cal P w K mg base CX0 5 "are_bands" ["thing"] sp_bands0) (C2:Cal P w K mg base CX0 1 "is_way" ["thing"] sp_way0):FnOk P w K mg base CX0 6 f fd ["self","name","rows","way"] (sp_binit C):=by
  have nc:(["row"]:List Str).Nodup:=by decide +kernel
  refine F.ok (N:=["self","name","rows","way"]) ⟨rfl,rfl,rfl,by decide +kernel,rfl,by decide +kernel,by decide +kernel⟩ (fun vs H Q E h=>?_) (fun cdv A outer s H vs Q E hr h=>?_)
  · obtain⟨o,dx,n,u,ps,x,rfl,_⟩:=h
    rfl
  · obtain⟨o,dx,n,u,ps,x,rfl,hn,ok,hw,bd,ho,q⟩:=h
    refine' ⟨_,pss_cons (ps_expr (pe_calC CR hr (by decide) pass0 (pa_cons (pv 0) (pa_cons (pv 1) pa_nil)))) (pss_cons (ps_if (pt_not (pt_val (pe_cal C1 hr (by decide) pass0 (pa_cons (pv 2) pa_nil)))) pss_never pss_nil) (pss_cons (ps_if (pt_not (pt_val (pe_cal C2 hr (by decide) pass0 (pa_cons (pv 3) pa_nil)))) pss_never pss_nil) (pss_cons (ps_fld (pv 0) (pe_callTy call_tuple_of rfl G.tuple boot_tuple (pa_cons ?comp pa_nil)) rfl) (pss_one (ps_fld (pv 0) (pv 3) rfl))))),?main⟩
    case comp =>
      refine' pe_compI (Nc:=["row"]) (cl:=[]) (src:=[none]) (wi:=iTup K (tVar 2)) (g:=gName 0) (tt:=tNoIf) (te:=tTupS (tCons (tOp (rIxT K) (tVar 0) (tC (.int 0))) (tCons (tOp (rIxT K) (tVar 0) (tC (.int 1))) tNil)))
        ⟨rfl,rfl,by decide +kernel,by decide +kernel,(fun x c z=>nomatch z),has_of (by rfl),frm_none frm_nil,rfl⟩ rfl (pi_tup (pv 2)) ?hb
      case hb =>
        intro fp C' s' H'
        exact⟨pg_name (i:=0) nc rfl (Or.inl rfl),pif_nil,pe_tupS (pa_cons (pe_at ix_tup (pv 0) pe_int) (pa_cons (pe_at ix_tup (pv 0) pe_int) pa_nil))⟩
    obtain⟨ys,hu,T⟩:=bd
    have few:=ok.few
    have uo:u≠o:=ne_of hu ho (by intro z;cases z)
    have nt:∀ c,H o≠some (.tup c):=fun c z=>by rw[ho] at z;cases z
    refine⟨_,rfl,_,rfl,C,o,dx,_,rfl,RX.cls,RX.no "name" (by decide),ho,hn,fun H1 f1 e1=>?_⟩
    have hu1:=f1 _ _ hu uo
    have T1:TupsAt H1 ys (ps.map cB):=T.mono fun b c h=>f1 _ _ h (ne_of h ho (by intro z;cases z))
    refine⟨_,rfl,u,ps,rfl,⟨ys,hu1,T1⟩,ok,fun H2 s2=>⟨true,rfl,iteF ⟨_,rfl,x,rfl,hw,true,rfl,iteF ?_⟩⟩⟩
    have hu2:=s2 _ _ hu1
    have T2:=T1.same s2
    refine⟨_,rfl,u,rfl,⟨_,SqT.of hu2⟩,fun D hD=>comp_newN (walk_tup (SqT.of hu2)) (bds_items T2) hD (by rw[sizeLine_eq];omega) cB (fun p hp v H3 R s3 e3 r=>?_) (fun zs H3 s3 e3 T3=>?_)⟩
    · obtain⟨a,rfl,ha⟩:=e3
      exact⟨_,rfl,a,_,_,_,rfl,rfl,SqT.of ha,rfl,_,rfl,a,_,_,_,rfl,rfl,SqT.of ha,rfl,lenOk rfl,r⟩
    refine⟨D,zs,rfl,.inl ⟨SqL.of e3,fun l l0=>?_⟩⟩
    have s4:Same H3 (upd H3 l (.tup zs)):=Same.upd l0
    have e4:(upd H3 l (.tup zs)) l=some (.tup zs):=upd_same
    generalize upd H3 l (.tup zs)=H4 at s4 e4
    have s24:=s2.trans (s3.trans s4)
    have eo:=s24 _ _ e1
    refine⟨_,rfl,o,_,dx,_,rfl,eo,RX.cls,RX.no "bands" (by decide),by show 1<1000;decide,?_⟩
    rw[pr2 _ _ _ (by decide +kernel)]
    refine⟨_,rfl,_,rfl,o,_,dx,_,rfl,upd_same,RX.cls,RX.no "way" (by decide),by show 2<1000;decide,?_⟩
    rw[pr3 _ _ _ _ _ (by decide +kernel) (by decide +kernel)]
    have lo:l≠o:=ne_of e4 eo (by intro z;cases z)
    have nt4:∀ c,H4 o≠some (.tup c):=fun c z=>by rw[eo] at z;cases z
    refine q _ l (fun b y hb ne=>by rw[upd_ne ne,upd_ne ne];exact s24 _ _ (f1 _ _ hb ne)) upd_same ⟨zs,by rw[upd_ne lo,upd_ne lo];exact e4,((T3.same s4).upd nt4).upd fun c z=>?_⟩
    rw[upd_same] at z
    cases z
end
end K09
set_option maxHeartbeats 1000000
namespace L2
open PySem PySem.Spec PyProof.Rows PySem.W
noncomputable def Rises (m:Nat→Int) (nm:Nat→Str) (n:Nat):Prop:=∀ i j,i<j→j<n→m i<m j∨(m i=m j∧(nm i).cps.toList<(nm j).cps.toList)
noncomputable def lexT (x:Int) (a:Str) (y:Int) (c:Str):Bool:=if x=y then decide (a.cps.toList<c.cps.toList) else decide (x<y)
section
variable {X:Cx} {A:Around} {E:Value→Shared→Prop} {pins:List (Addr × Obj)} {σ:St} {H:Hp} {s:Shared} {a kS:Addr} {e e1:Nat} {keys:Array Value} {vs:List Value} {m:Nat→Int} {nm:Nat→Str} {P:PySem.Fin→Shared→Prop}
noncomputable def KeysAt (H:Hp) (ks:List Value) (m:Nat→Int) (nm:Nat→Str):Prop:=∀ (i:Nat) v,ks[i]? = some v→∃ t,v = .ref t∧H t=some (.tup [.int (m i),.str (nm i)])
end
section
variable {X:Cx} {p:Str} {scope:Scope} {c P:Addr} {params:Arguments} {body a:Expr} {pos lpos kpos p1:Pos} {ta te:TE}
noncomputable def tSortM (K:PySem.W.Frag) (P:Addr) (lpos:Pos) (qual:Str) (ta te:TE):TE:=fun σ H Q=>ta σ H fun x H1=>∃ (l:Addr) (xs:List V) (m:Nat→Int) (nm:Nat→Str),x = .ref l∧SqL K H1 l xs∧xs.length<64∧Rises m nm xs.length∧LamTab H1 P lpos qual ∧
  ∀ H2,LamNext H1 H2 P→LamTab H2 P lpos qual→(∀ i x,xs[i]? = some x→∀ H3,Same H2 H3→te [some x] H3 fun y H'=>Same H3 H'∧∃ t,y = .ref t∧H' t=some (.tup [.int (m i),.str (nm i)]))∧∀ D H3,Same H2 H3→H2 D=none→H3 D=some (.lst xs)→Q (.ref D) H3
end
end L2
namespace L2
open PySem PySem.Spec PyProof.Rows
end L2
namespace Pg
open PySem L2
structure Nest (mg:Str→Option Value) (base:Heap) (c T:Addr):Prop where
  hd:PySem.W.CodeHd base c T
  bm:∃ bm o,mg "__builtins__" = some (.ref bm)∧bm≠builtinsNs∧bm≠mainGlobals∧base.get? bm=some o∧o.cls = .type "module"∧o.dict=some builtinsNs∧o.data = .plain
noncomputable def sumB (prs:List (Str × Int)) (z:Str):Int:=sumL ((prs.filter fun p=>decide (p.1=z)).map (·.2))
noncomputable def less (prs:List (Str × Int)):List (Str × Int):=prs.map fun p=>(p.1,-p.2)
noncomputable def leS (a b:Str):Bool:=decide (¬ b.cps.toList<a.cps.toList)
noncomputable def Ord (ss:List Str):Prop:=ss.Pairwise (fun a b=>¬ b.cps.toList<a.cps.toList)
noncomputable def cano (ks:List Str):List Str:=ks.mergeSort leS
noncomputable def canD (tot:List (Str × Int)):List (Str × Int):=(cano (tot.map (·.1))).map fun z=>(z,getT tot z)
noncomputable def amt (s:Stm):List (Str × Int):=s.ds++[(("base":Str),s.b),(("net":Str),s.n)]
noncomputable def both (o n:Stm):List (Str × Int):=addAll [amt n,less (amt o)]
noncomputable def dif (o n:Stm) (z:Str):Int:=sumB (amt n) z - sumB (amt o) z
noncomputable def rowsM (o n:Stm):List (Int × Str × Int):=((cano ((both o n).map (·.1))).filter fun z=>decide (dif o n z≠0)).map fun z=>(n.m,z,dif o n z)
noncomputable def RowLt (r s:Int × Str × Int):Prop:=r.1<s.1∨(r.1=s.1∧r.2.1.cps.toList<s.2.1.cps.toList)
noncomputable def Chg (o n:Stm):Prop:=∃ x:Str,∀ z:Str,z≠("net":Str)→z≠x→dif o n z=0
noncomputable def diffR (os ns:List Stm):List (Int × Str × Int):=((os.zip ns).map fun p=>rowsM p.1 p.2).flatten
noncomputable def dropT (tot:List (Str × Int)) (x:Str):List (Str × Int):=tot.filter fun p=>!decide (p.1=x)
structure StK (nms:List Str) (s:Stm):Prop where
  nm:∀ p∈s.ds,p.1∈nms
  nd:(s.ds.map (·.1)).Nodup
structure Lst (nms:List Str) (sts:List Stm):Prop where
  few:sts.length≤26
  n4:nms.length≤4
  each:∀ s∈sts,StK nms s
structure Two (nms:List Str) (os ns:List Stm):Prop where
  o:Lst nms os
  n:Lst nms ns
  mo:os.map (·.m)=ns.map (·.m)
  up:(ns.map (·.m)).Pairwise (· < ·)
  chg:∀ p∈os.zip ns,Chg p.1 p.2
noncomputable def PairsAt (H:Hp) (v:V) (prs:List (Str × Int)):Prop:=∃ d ts,v = .ref d∧(Rd H d (.tup ts)∨H d=some (.lst ts))∧TupsAt H ts (prs.map cP)
noncomputable def FstAt (H:Hp) (v:V) (m:Int):Prop:=∃ a r,v = .ref a∧H a=some (.tup (.int m::r))
noncomputable def Fsts (H:Hp) (ys:List V) (ms:List Int):Prop:=ItemsAt H ys ms FstAt
noncomputable def sp_tog:Sp:=fun vs H Q _=>∃ l ys prss,vs=[.ref l]∧H l=some (.lst ys)∧ItemsAt H ys prss PairsAt∧(addAll prss).length<64∧prss.length≤100∧(∀ prs∈prss,prs.length≤100) ∧
  ∀ t ys' H',Same H H'→H t=none→H' t=some (.tup ys')→TupsAt H' ys' ((canD (addAll prss)).map cP)→Q (.ref t) H'
noncomputable def sp_sm:Sp:=fun vs H Q _=>∃ l ys sts nms,vs=[.ref l]∧H l=some (.lst ys)∧StsAt H ys sts∧Lst nms sts ∧
  ∀ t d ys' H',Same H H'→H' t=some (.tup [.int (sumL (sts.map (·.b))),.ref d,.int (sumL (sts.map (·.n)))])→H' d=some (.tup ys')→TupsAt H' ys' ((canD (allD sts)).map cP)→Q (.ref t) H'
noncomputable def sp_amts:Sp:=fun vs H Q _=>∃ v s,vs=[v]∧StAt H v s∧s.ds.length≤100∧∀ t ys' H',Same H H'→H t=none→H' t=some (.tup ys')→TupsAt H' ys' ((amt s).map cP)→Q (.ref t) H'
noncomputable def sp_amtsL:Sp:=fun vs H Q _=>∃ v s,vs=[v]∧StAt H v s∧s.ds.length≤100∧∀ t ys' H',Same H H'→H t=none→H' t=some (.lst ys')→TupsAt H' ys' ((amt s).map cP)→Q (.ref t) H'
noncomputable def sp_md:Sp:=fun vs H Q _=>∃ v u o n nms,vs=[v,u]∧StAt H v o∧StAt H u n∧StK nms o∧StK nms n∧nms.length≤4∧∀ l ys' H',Same H H'→H l=none→H' l=some (.lst ys')→TupsAt H' ys' ((rowsM o n).map cM)→Q (.ref l) H'
noncomputable def lq:Str:=("differences":Str) ++ ".<locals>." ++ "<lambda>"
noncomputable def sp_diff (lp:Pos) (T cM':Addr):Sp:=fun vs H Q E=>∃ la ya lb yb,vs=[.ref la,.ref lb]∧H la=some (.lst ya)∧H lb=some (.lst yb) ∧
  ((∃ ma mb,Fsts H ya ma∧Fsts H yb mb∧ma.length≤1000∧mb.length≤1000∧ma≠mb∧∀ H',Same H H'→E (.ref cM') none H') ∨
   ∃ os ns nms,StsAt H ya os∧StsAt H yb ns∧Two nms os ns∧LamTab H T lp lq∧∀ l ys' H',LamNext H H' T→LamTab H' T lp lq→H l=none→H' l=some (.lst ys')→TupsAt H' ys' ((diffR os ns).map cM)→Q (.ref l) H')
noncomputable def sp_diffL:Sp:=fun vs H Q _=>∃ la ya lb yb os ns nms,vs=[.ref la,.ref lb]∧H la=some (.lst ya)∧H lb=some (.lst yb)∧StsAt H ya os∧StsAt H yb ns∧Two nms os ns ∧
  ∀ l ys' H',Same H H'→H l=none→H' l=some (.lst ys')→TupsAt H' ys' ((diffR os ns).map cM)→Q (.ref l) H'
noncomputable def sp_stm:Sp:=fun vs H Q _=>∃ m b d tot,vs=[.int m,.int b,.ref d]∧H d=some (.dK (dOf tot))∧tot.length<60∧(tot.map (·.1)).Nodup ∧
  ∀ o v H',H' d=some (.frz o (.dK (dOf tot)))→(∀ c u,c≠d→H c=some u→H' c=some u)→StAt H' v ⟨m,b,canD tot,b - sumL (tot.map (·.2))⟩→Q v H'
noncomputable def mxN (c:Int):Int:=(c%1000000007+1)*48271%2147483647
noncomputable def mxC (c k:Int):Int:=mxN c*(16807+7919*k*k+31*k)%2147483629/7
noncomputable def sp_mx:Sp:=fun vs H Q _=>∃ c k,vs=[.int c,.int k]∧0≤k∧k≤1000∧Q (.int (mxC c k)) H
noncomputable def sp_amtC:Sp:=fun vs H Q _=>∃ c k,vs=[.int c,.int k]∧0≤k∧k≤1000∧∀ v H',Same H H'→Q (.int v) H'
noncomputable def sp_words:Sp:=fun vs H Q _=>∃ c,vs=[.int c,.int 4,.str "abcdefghijklmnopqrstuvwxyz",.int 7]∧0≤c∧∀ (zs:List Str) (l:Addr) (H':Hp),Same H H'→H l=none→H' l=some (.lst (zs.map V.str))→zs.length=4→Q (.ref l) H'
noncomputable def sp_lists (K:PySem.W.Frag):Sp:=fun vs H Q _=>∃ (a:Addr) (ns:List Int) (nl:Addr) (zs:List Str),vs=[.ref a,.ref nl]∧SqL K H a (ns.map V.int)∧H nl=some (.lst (zs.map V.str))∧zs.length=4 ∧
  ∀ t lo ln yo yn os nw H',Same H H'→H' t=some (.tup [.ref lo,.ref ln])→H lo=none→H ln=none→H' lo=some (.lst yo)→H' ln=some (.lst yn)→StsAt H' yo os→StsAt H' yn nw→Two zs os nw→Q (.ref t) H'
noncomputable def sp_othr:Sp:=fun vs H Q _=>∃ lo yo os nms c,vs=[.ref lo,.int c]∧H lo=some (.lst yo)∧StsAt H yo os∧Lst nms os∧(os.map (·.m)).Pairwise (· < ·)∧0≤c ∧
  ∀ l yl ml H',Same H H'→H' l=some (.lst yl)→Fsts H' yl ml→ml.length≤1000→ml≠os.map (·.m)→Q (.ref l) H'
noncomputable def sp_refu:Sp:=fun vs H Q _=>∃ la ya lb yb ma mb,vs=[.ref la,.ref lb]∧H la=some (.lst ya)∧H lb=some (.lst yb)∧Fsts H ya ma∧Fsts H yb mb∧ma.length≤1000∧mb.length≤1000∧ma≠mb∧∀ H',Same H H'→Q (.bl true) H'
structure Kds8 (mg:Str→Option Value) (d:Nat→Addr):Prop where
  g0:mg "BadMonth" = some (.ref (d 0))
  g1:mg "BadYear" = some (.ref (d 1))
  g2:mg "NoYear" = some (.ref (d 2))
  g3:mg "BadDay" = some (.ref (d 3))
  g4:mg "BadEntry" = some (.ref (d 4))
  g5:mg "NoMark" = some (.ref (d 5))
  g6:mg "NoPerson" = some (.ref (d 6))
  g7:mg "TooMany" = some (.ref (d 7))
structure Kd8 (K:PySem.W.Frag) (d:Nat→Addr) (C:Addr):Prop where
  cls:XK.ExcCls K C
  ve:PySem.W.kitOne K (.ref C) (.type "ValueError")=some true
  k0:PySem.W.kitOne K (.ref C) (.ref (d 0))=some true
  k1:PySem.W.kitOne K (.ref C) (.ref (d 1))=some false
  k2:PySem.W.kitOne K (.ref C) (.ref (d 2))=some false
  k3:PySem.W.kitOne K (.ref C) (.ref (d 3))=some false
  k4:PySem.W.kitOne K (.ref C) (.ref (d 4))=some false
  k5:PySem.W.kitOne K (.ref C) (.ref (d 5))=some false
  k6:PySem.W.kitOne K (.ref C) (.ref (d 6))=some false
  k7:PySem.W.kitOne K (.ref C) (.ref (d 7))=some false
noncomputable def sp_wd (K:PySem.W.Frag) (d:Nat→Addr):Sp:=fun vs H Q _=>∃ ea C,vs=[.ref ea]∧Held K H ea C∧Kd8 K d C∧∀ t H',Same H H'→H t=none→H' t=some (.tup [.str "month"])→Q (.ref t) H'
inductive Al (H:Hp):Nat→V→Dt→Prop where
  | i {n:Nat} (z:Int):Al H n (.int z) (.v (.int z))
  | s {n:Nat} (z:Str):Al H n (.str z) (.v (.str z))
  | l {n:Nat} {a:Addr} {xs:List V} {ds:List Dt}:H a=some (.lst xs)→xs.length=ds.length→xs.length≤1000→(∀ (j:Nat) x d,xs[j]? = some x→ds[j]? = some d→Al H n x d)→Al H (n+1) (.ref a) (.l ds)
  | t {n:Nat} {a:Addr} {xs:List V} {ds:List Dt}:H a=some (.tup xs)→xs.length=ds.length→xs.length≤1000→(∀ (j:Nat) x d,xs[j]? = some x→ds[j]? = some d→Al H n x d)→Al H (n+1) (.ref a) (.t ds)
noncomputable def sp_alike (n:Nat):Sp:=fun vs H Q _=>∃ x y d,vs=[x,y]∧Al H n x d∧Al H n y d∧∀ H',Same H H'→Q (.bl true) H'
noncomputable def spA:Nat→Sp
  | 0=>fun _ _ _ _=>False
  | n+1=>sp_alike n
structure Grow (zs:List Str) (st:Int) (os nw:List Stm) (i:Nat):Prop where
  lo:os.length=i
  ln:nw.length=i
  mo:os.map (·.m)=(List.range i).map fun k=>st+(k:Nat)
  mn:nw.map (·.m)=(List.range i).map fun k=>st+(k:Nat)
  eo:∀ s∈os,StK zs s
  en:∀ s∈nw,StK zs s
  ch:∀ p∈os.zip nw,Chg p.1 p.2
structure Turned (r:Int) (x:Str) (b b':Int) (tot tot':List (Str × Int)):Prop where
  base:b'=b∨r=0
  same:r=0→tot'=tot
  get:∀ z,z≠x→getT tot' z=getT tot z
theorem cut_take {xs:List V} {k:Nat}:cutV xs none (some (k:Int))=xs.take k:=by
  unfold cutV
  rw[HT.sIx_none,HT.sIx_nat,List.drop_zero,Nat.sub_zero]
  by_cases h:k≤xs.length
  · rw[Nat.min_eq_left h]
  · rw[Nat.min_eq_right (by omega),List.take_length,List.take_of_length_le (by omega)]
theorem cut_drop {xs:List V} {k:Nat}:cutV xs (some (k:Int)) none=xs.drop k:=by
  unfold cutV
  rw[HT.sIx_none,HT.sIx_nat,← List.length_drop,List.take_length]
  by_cases h:k≤xs.length
  · rw[Nat.min_eq_left h]
  · rw[Nat.min_eq_right (by omega),List.drop_length,List.drop_eq_nil_of_le (by omega)]
section
variable {α:Type} {H:Hp} {ys zs:List V} {xs us:List α} {P:Hp→V→α→Prop}
end
noncomputable def HdAt (hl:Addr) (H:Hp) (y:V):Prop:=∃ p f g ys zs k,∃ rs:List (Int × Str × Int),y = .ref p∧H p=some (.tup [.ref f,.ref g])∧H f=some (.lst (ys++[.int k]))∧H g=some (.lst (zs++[.int k]))∧TupsAt H ys (rs.map cM)∧TupsAt H zs (rs.map cM)∧f≠hl∧g≠hl
noncomputable def sp_law21 (K:PySem.W.Frag) (T:Addr):Sp:=fun vs H Q _=>∃ (a:Addr) (ns:List Int),vs=[.ref a]∧SqL K H a (ns.map V.int)∧LamTab H T ⟨43,28,43,56⟩ lq∧∀ H',Q (.bl true) H'
end Pg
namespace L2
open PySem PySem.Spec PyProof.Rows
noncomputable def FT (H H':Hp):Prop:=∀ b c,H b=some (.tup c)→H' b=some (.tup c)
noncomputable def Up {α:Type} (P:Hp→V→α→Prop):Prop:=∀ H H' v x,FT H H'→P H v x→P H' v x
section
variable {α β:Type} {J:It} {D:Addr} {tt:TT} {te:TE} {fin:List V→Hp→Prop} {σ:St} {H H':Hp} {ys zs:List V} {xs:List α} {P:Hp→V→α→Prop} {K:PySem.W.Frag}
end
end L2
namespace Pg
open PySem L2
structure Alph (sg:Str) (ok:Nat→Bool):Prop where
  lo:1≤sg.length
  hi:sg.length≤100
  at_:∀ i:Int,0≤i→i<(sg.length:Nat)→∃ c,atI sg.cps.toList i=some c∧ok c=true
  in_:∀ c,(!(Builtin.Str.occurrences sg ⟨#[c]⟩ 0 sg.length 1).isEmpty)=ok c
structure WordOk (ok:Nat→Bool) (z:Str):Prop where
  lo:1≤z.length
  hi:z.length≤8
  all:z.cps.toList.all ok=true
noncomputable def inS (sg:Str) (c:Nat):Bool:=sg.cps.toList.contains c
noncomputable def sgL:Str:="abcdefghijklmnopqrstuvwxyz"
noncomputable def sgM:Str:="abcdefghijklmnopqrstuvwxyz0123456789"
noncomputable abbrev NamOk (z:Str):Prop:=WordOk (inS sgL) z
noncomputable abbrev MrkOk (z:Str):Prop:=WordOk (inS sgM) z
noncomputable def sp_wordOf:Sp:=fun vs H Q _=>∃ z sg ok,vs=[.str z,.str sg]∧Alph sg ok∧WordOk ok z∧∀ H',Same H H'→Q (.bl true) H'
noncomputable def sp_nm:Sp:=fun vs H Q _=>∃ z,vs=[.str z]∧NamOk z∧∀ H',Same H H'→Q (.bl true) H'
noncomputable def sp_mk:Sp:=fun vs H Q _=>∃ z,vs=[.str z]∧MrkOk z∧∀ H',Same H H'→Q (.bl true) H'
noncomputable def sp_wordsS:Sp:=fun vs H Q _=>∃ c n sg ok st,vs=[.int c,.int (n:Nat),.str sg,.int st]∧0≤c∧1≤n∧n≤10∧0≤st∧st≤100∧Alph sg ok∧∀ (zs:List Str) (l:Addr) (H':Hp),Same H H'→H l=none→H' l=some (.lst (zs.map V.str))→zs.length=n→(∀ z∈zs,WordOk ok z)→Q (.ref l) H'
inductive En where
  | wage (p:Str) (m r a:Int)
  | extra (p:Str) (m a:Int)
noncomputable def En.who:En→Str
  | .wage p _ _ _=>p
  | .extra p _ _=>p
noncomputable def cE:En→List V
  | .wage p m r a=>[.str "wage",.str p,.int m,.int r,.int a]
  | .extra p m a=>[.str "extra",.str p,.int m,.int a]
noncomputable def EnOk:En→Prop
  | .wage p m r a=>NamOk p∧0≤m∧m≤119999∧0≤r∧r≤99∧0≤a∧a≤10000000000
  | .extra p m a=>NamOk p∧0≤m∧m≤119999∧0≤a∧a≤10000000000
noncomputable def ThAt (H:Hp) (v:V):Option En→Prop
  | none=>v = .non
  | some e=>∃ a,v = .ref a∧H a=some (.tup (cE e))
structure Pt where
  d:Int
  k:Str
  t:Option En
noncomputable def PtAt (H:Hp) (v:V) (p:Pt):Prop:=∃ a x,v = .ref a∧H a=some (.tup [.int p.d,.str p.k,x])∧ThAt H x p.t
noncomputable def TdAt (H:Hp) (v:V) (q:Int × Option En):Prop:=∃ a x,v = .ref a∧H a=some (.tup [.int q.1,x])∧ThAt H x q.2
noncomputable def PrAt (H:Hp) (v:V) (q:Str × Option En):Prop:=∃ a x,v = .ref a∧H a=some (.tup [.str q.1,x])∧ThAt H x q.2
noncomputable def KnAt (H:Hp) (v:V) (q:Str × En):Prop:=PrAt H v (q.1,some q.2)
noncomputable def once (l:List Str):List Str:=l.foldr (fun x r=>if x∈r then r else x::r) []
noncomputable def told (z:Str) (ps:List Pt):List (Int × Option En):=(ps.filter fun p=>decide (p.k=z)).map fun p=>(p.d,p.t)
noncomputable def knO (l:List (Int × Option En)) (D:Int):Option En:=(l.reverse.find? fun q=>decide (q.1≤D)).bind (·.2)
noncomputable def mks (ps:List Pt):List Str:=cano (once (ps.map (·.k)))
noncomputable def kn (ps:List Pt) (D:Int):List (Str × En):=(mks ps).filterMap fun z=>(knO (told z ps) D).map fun e=>(z,e)
noncomputable def ppl (ks:List (Str × En)):List Str:=cano (once (ks.map (·.2.who)))
noncomputable def mOf (ms:List (Str × Addr)):List (Key × V):=ms.map fun p=>(Sum.inr p.1,V.ref p.2)
noncomputable def fsJ (t:Addr) (ld:Int):List (Str × V):=[("told",.ref t),("last_day",.int ld)]
structure JouK (K:PySem.W.Frag) (C:Addr):Prop where
  cls:Cls K C
  nT:NoAttr K C "told"
  nL:NoAttr K C "last_day"
structure Jou (C:Addr) (H:Hp) (J dx t:Addr) (ms:List (Str × Addr)) (ld:Int) (ps:List Pt):Prop where
  ins:H J=some (.ins C dx (fsJ t ld))
  dic:H t=some (.dK (mOf ms))
  nd:(ms.map (·.1)).Nodup
  na:(ms.map (·.2)).Nodup
  key:∀ z,z∈ms.map (·.1)↔z∈ps.map (·.k)
  tol:∀ p∈ms,∃ zs,H p.2=some (.lst zs)∧ItemsAt H zs (told p.1 ps) TdAt
  day:∀ p∈ps,p.d≤ld
  d0:0≤ld
noncomputable def own (J t:Addr) (ms:List (Str × Addr)):List Addr:=J::t::ms.map (·.2)
noncomputable def ThOk:Option En→Prop
  | none=>True
  | some e=>EnOk e
noncomputable def sp_needDay:Sp:=fun vs H Q _=>∃ z,vs=[.int z]∧0≤z∧Q .non H
noncomputable def kindS:En→Str
  | .wage _ _ _ _=>"wage"
  | .extra _ _ _=>"extra"
noncomputable def sp_begins:Sp:=fun vs H Q _=>∃ (a:Addr) (e:En) (z:Str) (n:Int),vs=[.ref a,.str z,.int n]∧H a=some (.tup (cE e))∧Q (.bl (decide (((cE e).length:Int)=n)&&decide (kindS e=z))) H
noncomputable def sp_pma:Sp:=fun vs H Q _=>∃ (a:Addr) (e:En),vs=[.ref a]∧H a=some (.tup (cE e))∧EnOk e∧∀ H',Same H H'→Q (.bl true) H'
noncomputable def sp_isEntry:Sp:=sp_pma
noncomputable def sp_needMT:Sp:=fun vs H Q _=>∃ (z:Str) (x:V) (t:Option En),vs=[.str z,x]∧MrkOk z∧ThAt H x t∧ThOk t∧∀ H',Same H H'→Q .non H'
noncomputable def sp_knownOf (K:PySem.W.Frag):Sp:=fun vs H Q _=>∃ (l:Addr) (zs:List V) (tl:List (Int × Option En)) (D:Int),vs=[.ref l,.int D]∧SqL K H l zs∧ItemsAt H zs tl TdAt∧∀ v,ThAt H v (knO tl D)→Q v H
noncomputable def sp_initJ (C:Addr):Sp:=fun vs H Q _=>∃ (J dx:Addr),vs=[.ref J]∧H J=some (.ins C dx [])∧∀ t H',H t=none→Jou C H' J dx t [] 0 []→(∀ b o,H b=some o→b≠J→H' b=some o)→Q .non H'
noncomputable def sp_put (C:Addr):Sp:=fun vs H Q _=>∃ (J dx t:Addr) (ms:List (Str × Addr)) (ld:Int) (ps:List Pt) (p:Pt) (x:V),vs=[.ref J,.int p.d,.str p.k,x]∧Jou C H J dx t ms ld ps∧ThAt H x p.t∧ThOk p.t∧MrkOk p.k∧ld≤p.d∧ps.length≤30∧(p.t=none→knO (told p.k ps) p.d≠none) ∧
  ∀ ms' H',Jou C H' J dx t ms' p.d (ps++[p])→(∀ b o,H b=some o→¬ b∈own J t ms→H' b=some o)→(∀ b∈own J t ms',b∈own J t ms∨H b=none)→Q .non H'
noncomputable def sp_kn (C:Addr):Sp:=fun vs H Q _=>∃ (J dx t:Addr) (ms:List (Str × Addr)) (ld:Int) (ps:List Pt) (D:Int),vs=[.ref J,.int D]∧Jou C H J dx t ms ld ps∧0≤D∧ps.length≤30 ∧
  ∀ l zs H',Same H H'→H l=none→H' l=some (.lst zs)→ItemsAt H' zs (kn ps D) KnAt→Q (.ref l) H'
noncomputable def sp_ppl (C:Addr):Sp:=fun vs H Q _=>∃ (J dx t:Addr) (ms:List (Str × Addr)) (ld:Int) (ps:List Pt) (D:Int),vs=[.ref J,.int D]∧Jou C H J dx t ms ld ps∧0≤D∧ps.length≤30 ∧
  ∀ l H',Same H H'→H l=none→H' l=some (.lst ((ppl (kn ps D)).map V.str))→Q (.ref l) H'
noncomputable def sp_knL:Sp:=fun vs H Q _=>∃ (pl:Addr) (ys:List V) (ps:List Pt) (D:Int),vs=[.ref pl,.int D]∧H pl=some (.lst ys)∧ItemsAt H ys ps PtAt∧ps.length≤30 ∧
  ∀ l zs H',Same H H'→H l=none→H' l=some (.lst zs)→ItemsAt H' zs (kn ps D) KnAt→Q (.ref l) H'
noncomputable def sp_pplL:Sp:=fun vs H Q _=>∃ (l:Addr) (zs:List V) (ks:List (Str × En)),vs=[.ref l]∧H l=some (.lst zs)∧ItemsAt H zs ks KnAt∧ks.length≤30 ∧
  ∀ a H',Same H H'→H a=none→H' a=some (.lst ((ppl ks).map V.str))→Q (.ref a) H'
noncomputable def sp_enL:Sp:=fun vs H Q _=>∃ (c st:Int) (nl:Addr) (ns:List Str),vs=[.int c,.ref nl,.int st]∧H nl=some (.lst (ns.map V.str))∧ns.length=4∧(∀ z∈ns,NamOk z)∧0≤st∧st≤119999 ∧
  ∀ e,EnOk e→New H (.tup (cE e)) Q
noncomputable def sp_start:Sp:=fun vs H Q _=>∃ c,vs=[.int c]∧0≤c∧∀ st H',0≤st→st≤119999→Same H H'→Q (.int st) H'
noncomputable def lastD (ps:List Pt):Int:=((ps.getLast?).map (·.d)).getD 0
noncomputable def sp_nextL:Sp:=fun vs H Q _=>∃ (c st:Int) (k:Nat) (pl ml nl:Addr) (ys:List V) (ps:List Pt) (ns mk:List Str),vs=[.int c,.int (k:Nat),.ref pl,.ref ml,.ref nl,.int st]∧k≤100∧H pl=some (.lst ys)∧ItemsAt H ys ps PtAt∧ps.length≤30∧(∀ p∈ps,0≤p.d) ∧
  H nl=some (.lst (ns.map V.str))∧ns.length=4∧(∀ z∈ns,NamOk z)∧H ml=some (.lst (mk.map V.str))∧1≤mk.length∧(∀ z∈mk,MrkOk z)∧0≤st∧st≤119999 ∧
  ∀ (a:Addr) (x:V) (p:Pt) (H':Hp),Same H H'→H' a=some (.tup [.int p.d,.str p.k,x])→ThAt H' x p.t→ThOk p.t→p.k∈mk→lastD ps≤p.d→0≤p.d→(p.t=none→knO (told p.k ps) p.d≠none)→Q (.ref a) H'
noncomputable def dE (e:En):Dt:=.t ((cE e).map Dt.v)
noncomputable def dKn (q:Str × En):Dt:=.t [.v (.str q.1),dE q.2]
inductive Fd where
  | k (ks:List (Str × En))
  | n (ss:List Str)
noncomputable def Fd.dt:Fd→List Dt
  | .k ks=>ks.map dKn
  | .n ss=>ss.map fun z=>.v (.str z)
noncomputable def FdAt (H:Hp) (xs:List V):Fd→Prop
  | .k ks=>ItemsAt H xs ks KnAt
  | .n ss=>xs=ss.map V.str
noncomputable def endN (b:Bool):List V:=if b then [.non] else []
noncomputable def LsAt (H:Hp) (f:Addr) (d:Fd) (b:Bool):Prop:=∃ xs,H f=some (.lst (xs++endN b))∧FdAt H xs d
noncomputable def HjAt (S:List Addr) (H:Hp) (y:V):Prop:=∃ a f g d b,y = .ref a∧H a=some (.tup [.ref f,.ref g])∧¬ f∈S∧¬ g∈S∧LsAt H f d b∧LsAt H g d b
noncomputable def sp_stands (C:Addr):Sp:=fun vs H Q _=>∃ (J dx t:Addr) (ms:List (Str × Addr)) (ld:Int) (ps:List Pt) (pl hl:Addr) (ys hs:List V) (c:Int) (S:List Addr),vs=[.ref J,.ref pl,.int c,.ref hl]∧Jou C H J dx t ms ld ps∧H pl=some (.lst ys)∧ItemsAt H ys ps PtAt∧ps.length≤30∧(∀ p∈ps,0≤p.d) ∧
  H hl=some (.lst hs)∧hs.length≤10000∧hl≠pl∧¬ hl∈own J t ms∧hl∈S∧(∀ b∈S,H b≠none)∧(∀ y∈hs,HjAt S H y)∧0≤c ∧
  ∀ hs' H',H' hl=some (.lst hs')→hs'.length≤hs.length+3→(∀ b o,H b=some o→b≠hl→H' b=some o)→(∀ y∈hs',HjAt S H' y)→Q (.bl true) H'
noncomputable def sp_lawJ (K:PySem.W.Frag):Sp:=fun vs H Q _=>∃ (a:Addr) (ns:List Int),vs=[.ref a]∧SqL K H a (ns.map V.int)∧∀ H',Q (.bl true) H'
section
variable {C:Addr} {H H':Hp} {J dx t:Addr} {ms:List (Str × Addr)} {ld:Int} {ps:List Pt}
structure JouM (C:Addr) (H:Hp) (J dx t:Addr) (ms:List (Str × Addr)) (ld:Int) (ps:List Pt) (z:Str):Prop where
  ins:H J=some (.ins C dx (fsJ t ld))
  dic:H t=some (.dK (mOf ms))
  nd:(ms.map (·.1)).Nodup
  na:(ms.map (·.2)).Nodup
  key:∀ y,y∈ms.map (·.1)↔y∈ps.map (·.k)∨y=z
  tol:∀ p∈ms,∃ zs,H p.2=some (.lst zs)∧ItemsAt H zs (told p.1 ps) TdAt
  day:∀ p∈ps,p.d≤ld
  d0:0≤ld
end
noncomputable def tillB (z:Str) (D:Int) (q:Pt):Bool:=decide (q.k=z)&&decide (q.d≤D)
theorem was_none {H H':Hp} {l:Addr} (s:Same H H') (h:H' l=none):H l=none:=by
  cases e:H l with
  | none=>rfl
  | some o=>rw[s _ _ e] at h;cases h
noncomputable def rLenS (K:PySem.W.Frag):List V→Hp→VK→Prop:=fun xs H Q=>∃ p ys,xs=[.ref p]∧(SqL K H p ys∨SqT K H p ys)∧Q (.int ys.length) H
structure BdI (ps:List (Int × Int)) (n:Nat):Prop where
  few:ps.length≤n+1
  hd:∃ p r,ps=((0:Int),p)::r
  ok:∀ q∈ps,Amt q.1∧Prt q.2
  up:Up ps
theorem BdI.done {ps:List (Int × Int)} {n:Nat} (h:BdI ps n) (hn:n≤11):BdOk ps:=⟨by have:=h.few;omega,h.hd,h.ok,h.up⟩
theorem BdI.one {p:Int} (h:Prt p):BdI [((0:Int),p)] 0:=⟨Nat.le_refl _,⟨p,[],rfl⟩,fun q hq=>by
  rw[List.mem_singleton.mp hq]
  exact⟨⟨Int.le_refl _,by show (0:Int)≤1000000000000;decide⟩,h⟩,List.pairwise_singleton _ _⟩
theorem BdI.mono {ps:List (Int × Int)} {n:Nat} (h:BdI ps n):BdI ps (n+1):=⟨Nat.le_succ_of_le h.few,h.hd,h.ok,h.up⟩
theorem BdI.last {ps:List (Int × Int)} {n:Nat} (h:BdI ps n):∃ qs q,ps=qs++[q]:=by
  obtain⟨p,r,e⟩:=h.hd
  refine⟨ps.dropLast,ps.getLast (by rw[e];exact List.cons_ne_nil _ _),(List.dropLast_concat_getLast _).symm⟩
theorem up_last {qs:List (Int × Int)} {q:Int × Int} (h:Up (qs++[q])):∀ x∈qs++[q],x.1≤q.1:=fun x hx=>by
  rcases List.mem_append.mp hx with hx | hx
  · exact Int.le_of_lt ((List.pairwise_append.mp h).2.2 x hx q (List.mem_singleton.mpr rfl))
  · rw[List.mem_singleton.mp hx]
    exact Int.le_refl _
theorem BdI.snoc {qs:List (Int × Int)} {q:Int × Int} {n:Nat} {s p:Int} (h:BdI (qs++[q]) n) (s1:1≤s) (b:q.1+s≤1000000000000) (hp:Prt p):BdI (qs++[q]++[(q.1+s,p)]) (n+1):=by
  refine⟨?_,?_,fun x hx=>?_,?_⟩
  · have:=h.few
    rw[List.length_append,List.length_singleton]
    omega
  · obtain⟨p0,r,e⟩:=h.hd
    exact⟨p0,r++[(q.1+s,p)],by rw[e];rfl⟩
  · rcases List.mem_append.mp hx with hx | hx
    · exact h.ok x hx
    · rw[List.mem_singleton.mp hx]
      have:=(h.ok q (List.mem_append_right _ (List.mem_singleton.mpr rfl))).1.1
      exact⟨⟨by show 0≤q.1+s;omega,b⟩,hp⟩
  · refine List.pairwise_append.mpr ⟨h.up,List.pairwise_singleton _ _,fun x hx y hy=>?_⟩
    rw[List.mem_singleton.mp hy]
    have:=up_last h.up x hx
    show x.1<q.1+s
    omega
theorem bds_last {H:Hp} {ys:List V} {qs:List (Int × Int)} {q:Int × Int} (T:TupsAt H ys ((qs++[q]).map cB)):∃ a,atI ys (-1)=some (.ref a)∧H a=some (.tup (cB q)):=by
  have yl:ys.length=qs.length+1:=by rw[T.len,List.length_map,List.length_append,List.length_singleton]
  obtain⟨a,e,h⟩:=bds_at T (i:=qs.length) (q:=q) (by rw[List.getElem?_append_right (Nat.le_refl _),Nat.sub_self];rfl)
  have ne:ys≠[]:=fun z=>by rw[z] at yl;cases yl
  refine⟨a,?_,h⟩
  have e2:=List.dropLast_concat_getLast ne
  rw[← e2,atI_last,List.getLast_eq_getElem]
  rw[List.getElem?_eq_getElem (by omega)] at e
  have e3:=Option.some.inj e
  rw[← e3]
  congr 2
  omega
theorem five_at {a b c d e:V} {i:Int} (h0:0≤i) (h1:i<5):∃ v,atI [a,b,c,d,e] i=some v∧(i=0∧v=a∨i=1∧v=b∨i=2∧v=c∨i=3∧v=d∨i=4∧v=e):=by
  obtain⟨n,rfl⟩:=Int.eq_ofNat_of_zero_le h0
  match n,h1 with
  | 0,_=>exact⟨a,atI_nat rfl,.inl ⟨rfl,rfl⟩⟩
  | 1,_=>exact⟨b,atI_nat rfl,.inr (.inl ⟨rfl,rfl⟩)⟩
  | 2,_=>exact⟨c,atI_nat rfl,.inr (.inr (.inl ⟨rfl,rfl⟩))⟩
  | 3,_=>exact⟨d,atI_nat rfl,.inr (.inr (.inr (.inl ⟨rfl,rfl⟩)))⟩
  | 4,_=>exact⟨e,atI_nat rfl,.inr (.inr (.inr (.inr ⟨rfl,rfl⟩)))⟩
  | k+5,h=>exact absurd h (by omega)
theorem n_bf:("bands":Str)≠"flat":=by decide +kernel
theorem n_bs:("bands":Str)≠"share":=by decide +kernel
theorem n_bc:("bands":Str)≠"capped":=by decide +kernel
theorem n_bl:("bands":Str)≠"least":=by decide +kernel
theorem n_of:("ontop":Str)≠"flat":=by decide +kernel
theorem n_os:("ontop":Str)≠"share":=by decide +kernel
theorem n_oc:("ontop":Str)≠"capped":=by decide +kernel
theorem n_ol:("ontop":Str)≠"least":=by decide +kernel
theorem n_ob:("ontop":Str)≠"bands":=by decide +kernel
end Pg
namespace L2
open PySem PySem.Spec PyProof.Rows
noncomputable def KeepNL (H H':Hp):Prop:=∀ b o,H b=some o→(∀ xs,o≠.lst xs)→H' b=some o
structure Made {α:Type} (H:Hp) (zs:List V) (xs:List α) (S:Hp→V→α→Prop):Prop where
  len:zs.length=xs.length
  at_:∀ (i:Nat) (x:α),xs[i]? = some x→∃ u,zs[i]? = some u∧S H u x
section
variable {J:It} {D:Addr} {te:TE} {fin:List V→Hp→Prop} {σ:St} {H:Hp} {ys:List V} {α:Type} {xs:List α} {P:Hp→V→α→Prop}
end
end L2
namespace Pg
open PySem L2
noncomputable def sp_askB (K:PySem.W.Frag) (Cs:Nat→Addr):Sp:=fun vs H Q _=>∃ o v n ps x b bs c,vs=[o,v,.ref b,.int c]∧RoG Cs H (.bands n ps x) o∧RtG H (.bands n ps x) v∧RName n∧BdOk ps∧Way x∧SqL K H b (bs.map V.int)∧bs.length≤100∧Nns bs∧∀ H',Same H H'→Q (.bl true) H'
noncomputable abbrev DB:=Str × List (Int × Int) × Str
noncomputable def rkD (d:DB):Rk:=.bands d.1 d.2.1 d.2.2
noncomputable def OkD (d:DB):Prop:=RName d.1∧BdOk d.2.1∧Way d.2.2
theorem many_of {x:V} {c:Int} (mv:x∈[V.int 0,.int 1,.int 2,.int 3,.int 5,.int 12,.int 12,.int (c/56%13)]) (f0:0≤c/56%13) (f1:c/56%13<13):∃ n:Nat,x = .int (n:Nat)∧n≤50:=by
  simp only[List.mem_cons,List.not_mem_nil,or_false] at mv
  rcases mv with rfl | rfl | rfl | rfl | rfl | rfl | rfl | rfl
  · exact⟨0,rfl,by decide⟩
  · exact⟨1,rfl,by decide⟩
  · exact⟨2,rfl,by decide⟩
  · exact⟨3,rfl,by decide⟩
  · exact⟨5,rfl,by decide⟩
  · exact⟨12,rfl,by decide⟩
  · exact⟨12,rfl,by decide⟩
  · obtain⟨k,hk⟩:=Int.eq_ofNat_of_zero_le f0
    exact⟨k,by rw[hk],by omega⟩
theorem five {p:Str→Prop} (h1:p "name") (h2:p "bands") (h3:p "way") (h4:p "parts") (h5:p "within"):∀ x∈(["name","bands","way","parts","within"]:List Str),p x:=by
  intro x hx
  simp only[List.mem_cons,List.not_mem_nil,or_false] at hx
  rcases hx with rfl | rfl | rfl | rfl | rfl <;> assumption
end Pg
namespace L2
open PySem
section
variable {P:Program} {w:World} {K:PySem.W.Frag} {mg:Str→Option Value} {base:Heap} {CX:CXT} {j k:Nat} {C:Addr} {x m:Str} {ps:List Str} {sp sp':Sp}
theorem CalM.mono (M:CalM P w K mg base CX j C m ps sp) (h:j≤k):CalM P w K mg base CX k C m ps sp:=by
  obtain⟨c,f,fd,a,b,F⟩:=M
  exact⟨c,f,fd,a,b,F.mono h⟩
theorem CalM.imp (M:CalM P w K mg base CX k C m ps sp) (h:∀ vs H Q E,sp' vs H Q E→sp vs H Q E):CalM P w K mg base CX k C m ps sp':=by
  obtain⟨c,f,fd,a,b,F⟩:=M
  exact⟨c,f,fd,a,b,F.imp h⟩
theorem CalC.imp (M:CalC P w K mg base CX k x m ps sp) (h:∀ vs H Q E,sp' vs H Q E→sp vs H Q E):CalC P w K mg base CX k x m ps sp':=by
  obtain⟨C,f,fd,a,b,c,F⟩:=M
  exact⟨C,f,fd,a,b,c,F.imp h⟩
end
end L2
namespace Pg
open PySem L2
noncomputable def dep:Rk→Int
  | .ontop _ _ _ r=>dep r+1
  | _=>0
theorem dep_le {d:Nat} {r:Rk} (h:Gd d r):dep r≤d:=by
  induction h with
  | pln h=>cases h <;> exact Int.natCast_nonneg _
  | bands=>exact Int.natCast_nonneg _
  | ontop _ _ _ _ ih =>
    show dep _+1≤_
    omega
theorem dep_zero {r:Rk} (h:r.kd<5):dep r=0:=by
  cases r with
  | ontop=>exact absurd h (Nat.not_lt_of_le (Nat.le_of_ble_eq_true rfl))
  | _=>rfl
structure RulJ (K:PySem.W.Frag) (Cs:Nat→Addr) (cR:Addr):Prop where
  ha:∀ i,i<6→PySem.W.findIn K (.ref (Cs i)) "__class__" = some (some (.builtin "object.__class__"))
  hn:PySem.W.specialIn K (.builtin "object.__class__") "__get__" = some (some (.builtin "getset_descriptor.__get__"))
  htk:PySem.W.takesIn K (.builtin "object.__class__")=some true
  hm:∀ i,i<6→PySem.W.mroIn K (Cs i) (.type "object")=some true
  kt:∀ i,i<6→PySem.W.kitOne K (.ref (Cs i)) (.ref cR)=some true
  cls:∀ i,i<6→Cls K (Cs i)
  ne:Cs 1≠Cs 5
theorem kd6 (r:Rk):r.kd<6:=by cases r <;> exact Nat.le_of_ble_eq_true rfl
theorem Gd.pl {d:Nat} {r:Rk} (h:Gd d r) (k:r.kd<4):Pln r:=by
  cases h with
  | pln p=>exact p
  | bands=>exact absurd k (by show ¬ (4:Nat)<4;decide)
  | ontop=>exact absurd k (by show ¬ (5:Nat)<4;decide)
theorem RoG.pl {Cs:Nat→Addr} {H:Hp} {r:Rk} {v:V} (h:RoG Cs H r v) (k:r.kd<4):RoAt Cs H v r:=by
  cases h with
  | pln _ p=>exact p
  | bands=>exact absurd k (by show ¬ (4:Nat)<4;decide)
  | ontop=>exact absurd k (by show ¬ (5:Nat)<4;decide)
theorem RoG.frame {Cs:Nat→Addr} {H H':Hp} {r:Rk} {v:V} {o C dx:Addr} {d:Nat} (h:RoG Cs H r v) (g:Gd d r) (ho:H o=some (.ins C dx [])) (fr:∀ b y,H b=some y→b≠o→H' b=some y):RoG Cs H' r v:=by
  induction h generalizing d with
  | pln k h =>
    obtain⟨t,dy,rfl,h⟩:=h
    refine .pln k ⟨t,dy,rfl,fr _ _ h fun e=>?_⟩
    subst e
    rw[h] at ho
    cases g.pl k <;> exact nomatch ho
  | bands h b =>
    obtain⟨ys,hu,T⟩:=b
    have nt:∀ b c,H b=some (.tup c)→H' b=some (.tup c):=fun b c h=>fr _ _ h (ne_of h ho (by intro z;cases z))
    exact .bands (fr _ _ h fun e=>by subst e;rw[h] at ho;cases ho) ⟨ys,nt _ _ hu,T.mono nt⟩
  | ontop h _ ih =>
    cases g with
    | pln p=>cases p
    | ontop _ _ _ g=>exact .ontop (fr _ _ h fun e=>by subst e;rw[h] at ho;cases ho) (ih g)
theorem RoG.frame3 {Cs:Nat→Addr} {H H':Hp} {r:Rk} {v:V} {o dx:Addr} {d:Nat} {n w:Str} {p:Int} (ne:Cs 1≠Cs 5) (h:RoG Cs H r v) (g:Gd d r) (ho:H o=some (.ins (Cs 5) dx [("name",.str n),("parts",.int p),("way",.str w)])) (fr:∀ b y,H b=some y→b≠o→H' b=some y):RoG Cs H' r v:=by
  induction h generalizing d with
  | pln k h =>
    obtain⟨t,dy,rfl,h⟩:=h
    refine .pln k ⟨t,dy,rfl,fr _ _ h fun e=>?_⟩
    subst e
    rw[h] at ho
    have ho:=Option.some.inj ho
    cases g.pl k with
    | flat=>exact nomatch (HO.ins.inj ho).2.2
    | share=>exact ne (HO.ins.inj ho).1
    | capped=>exact nomatch (HO.ins.inj ho).2.2
    | least=>exact nomatch (HO.ins.inj ho).2.2
  | bands h b =>
    obtain⟨ys,hu,T⟩:=b
    have nt:∀ b c,H b=some (.tup c)→H' b=some (.tup c):=fun b c h=>fr _ _ h (ne_of h ho (by intro z;cases z))
    refine .bands (fr _ _ h fun e=>?_) ⟨ys,nt _ _ hu,T.mono nt⟩
    subst e
    rw[h] at ho
    have k:=(HO.ins.inj (Option.some.inj ho)).2.2
    have k2:=congrArg (fun l=>(l.map Prod.fst)[1]?) k
    exact absurd (show ("bands":Str) = "parts" from Option.some.inj k2) (by decide +kernel)
  | ontop h _ ih =>
    cases g with
    | pln p=>cases p
    | ontop _ _ _ g =>
      refine .ontop (fr _ _ h fun e=>?_) (ih g)
      subst e
      rw[h] at ho
      exact nomatch (HO.ins.inj (Option.some.inj ho)).2.2
noncomputable def sp_depG (d k:Nat) (Cs:Nat→Addr):Sp:=fun vs H Q _=>∃ v r,vs=[v]∧r.kd=k∧RoG Cs H r v∧Gd d r∧Q (.int (dep r)) H
noncomputable def sp_twin (d k:Nat) (Cs:Nat→Addr):Sp:=fun vs H Q _=>∃ v r,vs=[v]∧r.kd=k∧RoG Cs H r v∧Gd d r∧∀ o H',Same H H'→RoG Cs H' r o→Q o H'
noncomputable def sp_oinit (d:Nat) (Cs:Nat→Addr):Sp:=fun vs H Q _=>∃ o dx n p x u r,vs=[.ref o,.str n,.int p,.str x,u]∧RName n∧Prt p∧Way x∧RoG Cs H r u∧Gd d r∧H o=some (.ins (Cs 5) dx []) ∧
  ∀ H' u',(∀ b y,H b=some y→b≠o→H' b=some y)→H' o=some (.ins (Cs 5) dx [("name",.str n),("parts",.int p),("way",.str x),("within",u')])→RoG Cs H' r u'→Q .non H'
noncomputable def sp_ruleR:Sp:=fun vs H Q _=>∃ c z,vs=[.int c,.str z]∧RName z∧∀ v r H',Gd 3 r→r.name=z→Same H H'→RtG H' r v→Q v H'
noncomputable def sp_madN (Cs:Nat→Addr):Nat→Sp
  | 0=>fun _ _ _ _=>False
  | d+1=>fun vs H Q _=>∃ v r,vs=[v]∧RtG H r v∧Gd d r∧∀ o H',Same H H'→RoG Cs H' r o→Q o H'
theorem no5 {d:Nat} {r:Rk} (h:Gd d r) (k:r.kd=5):∃ d' n p x r',d=d'+1∧r = .ontop n p x r'∧RName n∧Prt p∧Way x∧Gd d' r':=by
  cases h with
  | pln p=>cases p <;> cases k
  | bands=>cases k
  | ontop h1 h2 h3 h4=>exact⟨_,_,_,_,_,rfl,rfl,h1,h2,h3,h4⟩
theorem rinit_to {K:PySem.W.Frag} {Cs:Nat→Addr} (RK:RulK K Cs):∀ vs H Q E,sp_rinit Cs vs H Q E→sp_rinitX K vs H Q E:=by
  rintro vs H Q E ⟨i,o,dx,z,rfl,hi,ho,hz,q⟩
  exact⟨Cs i,o,dx,z,rfl,RK.cls i hi,RK.no i hi "name" (by decide),ho,hz,q⟩
theorem six6 {p:Nat→Prop} (h0:p 0) (h1:p 1) (h2:p 2) (h3:p 3) (h4:p 4) (h5:p 5):∀ i,i<6→p i
  | 0,_=>h0
  | 1,_=>h1
  | 2,_=>h2
  | 3,_=>h3
  | 4,_=>h4
  | 5,_=>h5
theorem Same.made {H:Hp} {o dx C:Addr} (o0:H o=none) (d0:H dx=none):Same H (upd (upd H dx (.own o)) o (.ins C dx [])):=fun b x hb=>by
  rw[upd_ne (ne_of_none hb o0),upd_ne (ne_of_none hb d0)]
  exact hb
end Pg
set_option maxHeartbeats 4000000
namespace K09
open PySem PySem.NumText L2 Pg
seal PE PA PT PW PS PSs PG PGs PI PIf PO PK
section
variable {P:Program} {w:World} {K:PySem.W.Frag} {mg:Str→Option Value} {base:Heap} {f:Addr} {fd:FuncData} {d:Nat→Addr} {cR:Addr}
theorem ok_depR {Cs:Nat→Addr} {d k:Nat} (hk:k<5) (F:Fun K "depth" "Rule.depth" (inClass (top 38) 4) f fd):FnOk P w K mg base CX0 1 f fd ["self"] (sp_depG d k Cs):=by
  refine F.ok (N:=["self"]) ⟨rfl,rfl,rfl,by decide +kernel,rfl,by decide +kernel,by decide +kernel⟩ (fun vs H Q E h=>?_) (fun cdv A outer s H vs Q E hr h=>?_)
  · obtain⟨v,r,rfl,_⟩:=h
    rfl
  · obtain⟨v,r,rfl,e,ro,gd,q⟩:=h
    refine⟨_,pss_one (ps_ret pe_int),?_⟩
    rw[dep_zero (by omega)] at q
    exact q
theorem ok_dep5 {Cs:Nat→Addr} {d j:Nat} (F:Fun K "depth" "OnTop.depth" (inClass (top 45) 4) f fd) (RX:RulX K (Cs 5)) (MD:∀ k,k<6→CalM P w K mg base CX0 j (Cs k) "depth" ["self"] (sp_depG d k Cs)):FnOk P w K mg base CX0 (j+1) f fd ["self"] (sp_depG (d+1) 5 Cs):=by
  refine F.ok (N:=["self"]) ⟨rfl,rfl,rfl,by decide +kernel,rfl,by decide +kernel,by decide +kernel⟩ (fun vs H Q E h=>?_) (fun cdv A outer s H vs Q E hr h=>?_)
  · obtain⟨v,r,rfl,_⟩:=h
    rfl
  · obtain⟨v,r,rfl,e,ro,gd,q⟩:=h
    obtain⟨d',n,p,x,r',ed,rfl,hn,hp,hw,g'⟩:=no5 gd e
    cases ed
    cases ro with
    | pln kk _=>exact absurd kk (by show ¬ (5:Nat)<4;decide)
    | @ontop _ _ _ _ o dx u ho ri =>
      obtain⟨oi,dxi,fsi,rfl,hoi,_,noi⟩:=ri.obj g'
      refine⟨_,pss_one (ps_ret (pe_op op_add (pe_anyP (p:=fun k=>k<6) fun k hk=>pe_calM0 (MD k hk) hr (Nat.le_refl _) pass0 (pe_fld (pv 0) rfl)) pe_int)),?_⟩
      exact⟨r'.kd,kd6 r',_,rfl,o,_,dx,_,_,rfl,ho,RX.cls,RX.no "within" (by decide),rfl,oi,dxi,fsi,rfl,hoi,noi "depth" (by decide),_,r',rfl,rfl,ri,g',_,_,rfl,rfl,q⟩
theorem ok_dep50 {Cs:Nat→Addr} {j:Nat}:FnOk P w K mg base CX0 j f fd ["self"] (sp_depG 0 5 Cs):=⟨fun vs H Q E ⟨v,r,h,e,ro,g,_⟩=>by rw[h];rfl,fun _ _ _ _ _ _ _ _ _ _ _ _ _ ⟨v,r,h,e,ro,g,_⟩=>by obtain⟨_,_,_,_,_,z,_⟩:=no5 g e;cases z⟩
theorem ok_twin50 {Cs:Nat→Addr} {j:Nat}:FnOk P w K mg base CX0 j f fd ["self"] (sp_twin 0 5 Cs):=⟨fun vs H Q E ⟨v,r,h,_⟩=>by rw[h];rfl,fun _ _ _ _ _ _ _ _ _ _ _ _ _ ⟨v,r,h,e,ro,g,_⟩=>by obtain⟨_,_,_,_,_,z,_⟩:=no5 g e;cases z⟩
theorem ok_twin0 {Cs:Nat→Addr} {d:Nat} (F:Fun K "twin" "Flat.twin" (inClass (top 39) 3) f fd) (RK:RulK K Cs) (N0:CalN P w K mg base CX0 5 "Flat" (Cs 0) ["self","name","amount"] (sp_kinit 0 Cs)):FnOk P w K mg base CX0 7 f fd ["self"] (sp_twin d 0 Cs):=by
  refine F.ok (N:=["self"]) ⟨rfl,rfl,rfl,by decide +kernel,rfl,by decide +kernel,by decide +kernel⟩ (fun vs H Q E h=>?_) (fun cdv A outer s H vs Q E hr h=>?_)
  · obtain⟨v,r,rfl,_⟩:=h
    rfl
  · obtain⟨v,r,rfl,e,ro,gd,q⟩:=h
    have pl:=gd.pl (by omega)
    have pl0:=pl
    obtain⟨o,dx,rfl,ho⟩:=ro.pl (by omega)
    cases pl with
    | @flat n a hn ha =>
      refine⟨_,pss_one (ps_ret (pe_calN (j:=5) N0 hr (by decide) pass0 (pa_cons (pe_fld (pv 0) rfl) (pa_cons (pe_fld (pv 0) rfl) pa_nil)))),?_⟩
      exact⟨_,rfl,o,_,dx,_,_,rfl,ho,RK.cls 0 (by decide),RK.no 0 (by decide) "name" (by decide),rfl,_,rfl,o,_,dx,_,_,rfl,ho,RK.cls 0 (by decide),RK.no 0 (by decide) "amount" (by decide),rfl,fun o dx o0 d0 ne=>⟨o,dx,.flat n a,rfl,rfl,pl0,upd_same,fun H' fr e=>⟨rfl,q _ H' (made_same o0 d0 fr) (.pln (Nat.le_of_ble_eq_true rfl) ⟨o,dx,rfl,e⟩)⟩⟩⟩
    | share=>cases e
    | capped=>cases e
    | least=>cases e
theorem ok_twin1 {Cs:Nat→Addr} {d:Nat} (F:Fun K "twin" "Share.twin" (inClass (top 40) 3) f fd) (RK:RulK K Cs) (N0:CalN P w K mg base CX0 5 "Share" (Cs 1) ["self","name","parts","way"] (sp_kinit 1 Cs)):FnOk P w K mg base CX0 7 f fd ["self"] (sp_twin d 1 Cs):=by
  refine F.ok (N:=["self"]) ⟨rfl,rfl,rfl,by decide +kernel,rfl,by decide +kernel,by decide +kernel⟩ (fun vs H Q E h=>?_) (fun cdv A outer s H vs Q E hr h=>?_)
  · obtain⟨v,r,rfl,_⟩:=h
    rfl
  · obtain⟨v,r,rfl,e,ro,gd,q⟩:=h
    have pl:=gd.pl (by omega)
    have pl0:=pl
    obtain⟨o,dx,rfl,ho⟩:=ro.pl (by omega)
    cases pl with
    | @share n p x hn hp hw =>
      refine⟨_,pss_one (ps_ret (pe_calN (j:=5) N0 hr (by decide) pass0 (pa_cons (pe_fld (pv 0) rfl) (pa_cons (pe_fld (pv 0) rfl) (pa_cons (pe_fld (pv 0) rfl) pa_nil))))),?_⟩
      exact⟨_,rfl,o,_,dx,_,_,rfl,ho,RK.cls 1 (by decide),RK.no 1 (by decide) "name" (by decide),rfl,_,rfl,o,_,dx,_,_,rfl,ho,RK.cls 1 (by decide),RK.no 1 (by decide) "parts" (by decide),rfl,_,rfl,o,_,dx,_,_,rfl,ho,RK.cls 1 (by decide),RK.no 1 (by decide) "way" (by decide),rfl,fun o dx o0 d0 ne=>⟨o,dx,.share n p x,rfl,rfl,pl0,upd_same,fun H' fr e=>⟨rfl,q _ H' (made_same o0 d0 fr) (.pln (Nat.le_of_ble_eq_true rfl) ⟨o,dx,rfl,e⟩)⟩⟩⟩
    | flat=>cases e
    | capped=>cases e
    | least=>cases e
theorem ok_twin2 {Cs:Nat→Addr} {d:Nat} (F:Fun K "twin" "Capped.twin" (inClass (top 41) 3) f fd) (RK:RulK K Cs) (N0:CalN P w K mg base CX0 5 "Capped" (Cs 2) ["self","name","parts","most","way"] (sp_kinit 2 Cs)):FnOk P w K mg base CX0 7 f fd ["self"] (sp_twin d 2 Cs):=by
  refine F.ok (N:=["self"]) ⟨rfl,rfl,rfl,by decide +kernel,rfl,by decide +kernel,by decide +kernel⟩ (fun vs H Q E h=>?_) (fun cdv A outer s H vs Q E hr h=>?_)
  · obtain⟨v,r,rfl,_⟩:=h
    rfl
  · obtain⟨v,r,rfl,e,ro,gd,q⟩:=h
    have pl:=gd.pl (by omega)
    have pl0:=pl
    obtain⟨o,dx,rfl,ho⟩:=ro.pl (by omega)
    cases pl with
    | @capped n p m x hn hp ha hw =>
      refine⟨_,pss_one (ps_ret (pe_calN (j:=5) N0 hr (by decide) pass0 (pa_cons (pe_fld (pv 0) rfl) (pa_cons (pe_fld (pv 0) rfl) (pa_cons (pe_fld (pv 0) rfl) (pa_cons (pe_fld (pv 0) rfl) pa_nil)))))),?_⟩
      exact⟨_,rfl,o,_,dx,_,_,rfl,ho,RK.cls 2 (by decide),RK.no 2 (by decide) "name" (by decide),rfl,_,rfl,o,_,dx,_,_,rfl,ho,RK.cls 2 (by decide),RK.no 2 (by decide) "parts" (by decide),rfl,_,rfl,o,_,dx,_,_,rfl,ho,RK.cls 2 (by decide),RK.no 2 (by decide) "most" (by decide),rfl,_,rfl,o,_,dx,_,_,rfl,ho,RK.cls 2 (by decide),RK.no 2 (by decide) "way" (by decide),rfl,fun o dx o0 d0 ne=>⟨o,dx,.capped n p m x,rfl,rfl,pl0,upd_same,fun H' fr e=>⟨rfl,q _ H' (made_same o0 d0 fr) (.pln (Nat.le_of_ble_eq_true rfl) ⟨o,dx,rfl,e⟩)⟩⟩⟩
    | flat=>cases e
    | share=>cases e
    | least=>cases e
theorem ok_twin3 {Cs:Nat→Addr} {d:Nat} (F:Fun K "twin" "Least.twin" (inClass (top 42) 3) f fd) (RK:RulK K Cs) (N0:CalN P w K mg base CX0 5 "Least" (Cs 3) ["self","name","parts","least","way"] (sp_kinit 3 Cs)):FnOk P w K mg base CX0 7 f fd ["self"] (sp_twin d 3 Cs):=by
  refine F.ok (N:=["self"]) ⟨rfl,rfl,rfl,by decide +kernel,rfl,by decide +kernel,by decide +kernel⟩ (fun vs H Q E h=>?_) (fun cdv A outer s H vs Q E hr h=>?_)
  · obtain⟨v,r,rfl,_⟩:=h
    rfl
  · obtain⟨v,r,rfl,e,ro,gd,q⟩:=h
    have pl:=gd.pl (by omega)
    have pl0:=pl
    obtain⟨o,dx,rfl,ho⟩:=ro.pl (by omega)
    cases pl with
    | @least n p m x hn hp ha hw =>
      refine⟨_,pss_one (ps_ret (pe_calN (j:=5) N0 hr (by decide) pass0 (pa_cons (pe_fld (pv 0) rfl) (pa_cons (pe_fld (pv 0) rfl) (pa_cons (pe_fld (pv 0) rfl) (pa_cons (pe_fld (pv 0) rfl) pa_nil)))))),?_⟩
      exact⟨_,rfl,o,_,dx,_,_,rfl,ho,RK.cls 3 (by decide),RK.no 3 (by decide) "name" (by decide),rfl,_,rfl,o,_,dx,_,_,rfl,ho,RK.cls 3 (by decide),RK.no 3 (by decide) "parts" (by decide),rfl,_,rfl,o,_,dx,_,_,rfl,ho,RK.cls 3 (by decide),RK.no 3 (by decide) "least" (by decide),rfl,_,rfl,o,_,dx,_,_,rfl,ho,RK.cls 3 (by decide),RK.no 3 (by decide) "way" (by decide),rfl,fun o dx o0 d0 ne=>⟨o,dx,.least n p m x,rfl,rfl,pl0,upd_same,fun H' fr e=>⟨rfl,q _ H' (made_same o0 d0 fr) (.pln (Nat.le_of_ble_eq_true rfl) ⟨o,dx,rfl,e⟩)⟩⟩⟩
    | flat=>cases e
    | share=>cases e
    | capped=>cases e
theorem ok_twin4 {Cs:Nat→Addr} {d:Nat} (F:Fun K "twin" "Bands.twin" (inClass (top 50) 3) f fd) (RX:RulX K (Cs 4)) (N0:CalN P w K mg base CX0 6 "Bands" (Cs 4) ["self","name","rows","way"] (sp_binit (Cs 4))):FnOk P w K mg base CX0 8 f fd ["self"] (sp_twin d 4 Cs):=by
  refine F.ok (N:=["self"]) ⟨rfl,rfl,rfl,by decide +kernel,rfl,by decide +kernel,by decide +kernel⟩ (fun vs H Q E h=>?_) (fun cdv A outer s H vs Q E hr h=>?_)
  · obtain⟨v,r,rfl,_⟩:=h
    rfl
  · obtain⟨v,r,rfl,e,ro,gd,q⟩:=h
    cases gd with
    | pln p=>cases p <;> cases e
    | ontop=>cases e
    | @bands _ n x ps hn ok hw =>
      cases ro with
      | pln kk _=>exact absurd kk (by show ¬ (4:Nat)<4;decide)
      | @bands _ _ _ o dx u ho bd =>
        refine⟨_,pss_one (ps_ret (pe_calN (j:=6) N0 hr (by decide) pass0 (pa_cons (pe_fld (pv 0) rfl) (pa_cons (pe_fld (pv 0) rfl) (pa_cons (pe_fld (pv 0) rfl) pa_nil))))),?_⟩
        refine⟨_,rfl,o,_,dx,_,_,rfl,ho,RX.cls,RX.no "name" (by decide),rfl,_,rfl,o,_,dx,_,_,rfl,ho,RX.cls,RX.no "bands" (by decide),rfl,_,rfl,o,_,dx,_,_,rfl,ho,RX.cls,RX.no "way" (by decide),rfl,fun o dx o0 dx0 ne=>⟨o,dx,n,u,ps,x,rfl,hn,ok,hw,?_,upd_same,fun H' u' fr ho' bd'=>⟨rfl,q _ H' (made_same o0 dx0 fr) (.bands ho' bd')⟩⟩⟩
        obtain⟨ys,hu,T⟩:=bd
        have nt:∀ {b c},H b=some (.tup c)→(upd (upd H dx (.own o)) o (.ins (Cs 4) dx [])) b=some (.tup c):=fun {b c} h=>by rw[upd_ne (ne_of_none h o0),upd_ne (ne_of_none h dx0)];exact h
        exact⟨ys,nt hu,T.mono fun b c h=>nt h⟩
theorem ok_twin5 {Cs:Nat→Addr} {d j:Nat} (F:Fun K "twin" "OnTop.twin" (inClass (top 45) 3) f fd) (RX:RulX K (Cs 5)) (N0:CalN P w K mg base CX0 j "OnTop" (Cs 5) ["self","name","parts","way","rule"] (sp_oinit d Cs)):FnOk P w K mg base CX0 (j+2) f fd ["self"] (sp_twin (d+1) 5 Cs):=by
  refine F.ok (N:=["self"]) ⟨rfl,rfl,rfl,by decide +kernel,rfl,by decide +kernel,by decide +kernel⟩ (fun vs H Q E h=>?_) (fun cdv A outer s H vs Q E hr h=>?_)
  · obtain⟨v,r,rfl,_⟩:=h
    rfl
  · obtain⟨v,r,rfl,e,ro,gd,q⟩:=h
    obtain⟨d',n,p,x,r',ed,rfl,hn,hp,hw,g'⟩:=no5 gd e
    cases ed
    cases ro with
    | pln kk _=>exact absurd kk (by show ¬ (5:Nat)<4;decide)
    | @ontop _ _ _ _ o dx u ho ri =>
      refine⟨_,pss_one (ps_ret (pe_calN (j:=j) N0 hr (Nat.le_refl _) pass0 (pa_cons (pe_fld (pv 0) rfl) (pa_cons (pe_fld (pv 0) rfl) (pa_cons (pe_fld (pv 0) rfl) (pa_cons (pe_fld (pv 0) rfl) pa_nil)))))),?_⟩
      exact⟨_,rfl,o,_,dx,_,_,rfl,ho,RX.cls,RX.no "name" (by decide),rfl,_,rfl,o,_,dx,_,_,rfl,ho,RX.cls,RX.no "parts" (by decide),rfl,_,rfl,o,_,dx,_,_,rfl,ho,RX.cls,RX.no "way" (by decide),rfl,_,rfl,o,_,dx,_,_,rfl,ho,RX.cls,RX.no "within" (by decide),rfl,fun o dx o0 dx0 ne=>⟨o,dx,n,p,x,u,r',rfl,hn,hp,hw,ri.same (Same.made o0 dx0),g',upd_same,fun H' u' fr ho' ri'=>⟨rfl,q _ H' (made_same o0 dx0 fr) (.ontop ho' ri')⟩⟩⟩
set_option maxHeartbeats 4000000 in
theorem ok_oinit {Cs:Nat→Addr} {cRu:Addr} {d j:Nat} (F:Fun K "__init__" "OnTop.__init__" (inClass (top 45) 0) f fd) (G:Glb mg) (RX:RulX K (Cs 5)) (RJ:RulJ K Cs cRu) (gR:mg "Rule" = some (.ref cRu)) (N1:Num mg "MOST_DEPTH" 3) (hd:d≤2) (hj:4≤j) (CR:CalC P w K mg base CX0 4 "Rule" "__init__" ["self","name"] (sp_rinitX K)) (C1:Cal P w K mg base CX0 4 "need_share" ["parts","way"] sp_needS0) (MT:∀ k,k<6→CalM P w K mg base CX0 j (Cs k) "twin" ["self"] (sp_twin d k Cs)) (MD:CalM P w K mg base CX0 j (Cs 5) "depth" ["self"] (sp_depG (d+1) 5 Cs)):FnOk P w K mg base CX0 (j+1) f fd ["self","name","parts","way","rule"] (sp_oinit d Cs):=by
  obtain⟨tk,em⟩:=N1
  refine F.ok (N:=["self","name","parts","way","rule"]) ⟨rfl,rfl,rfl,by decide +kernel,rfl,by decide +kernel,by decide +kernel⟩ (fun vs H Q E h=>?_) (fun cdv A outer s H vs Q E hr h=>?_)
  · obtain⟨o,dx,n,p,x,u,r,rfl,_⟩:=h
    rfl
  · obtain⟨o,dx,n,p,x,u,r,rfl,hn,hp,hw,ri,gd,ho,q⟩:=h
    refine⟨_,pss_cons (ps_expr (pe_calC CR hr hj pass0 (pa_cons (pv 0) (pa_cons (pv 1) pa_nil)))) (pss_cons (ps_expr (pe_cal C1 hr hj pass0 (pa_cons (pv 2) (pa_cons (pv 3) pa_nil)))) (pss_cons (ps_if (pt_not (pt_val (pe_callB call_isinst rfl G.isinstance boot_isinstance (pa_cons (pv 4) (pa_cons (pe_glob (v:=.ref cRu) rfl gR rfl) pa_nil))))) pss_never pss_nil)
      (pss_cons (ps_fld (pv 0) (pv 2) rfl) (pss_cons (ps_fld (pv 0) (pv 3) rfl) (pss_cons (ps_fld (pv 0) (pe_anyP (p:=fun k=>k<6) fun k hk=>pe_calM0 (MT k hk) hr (Nat.le_refl _) pass0 (pv 4)) rfl)
      (pss_one (ps_if (pt_cmpR op_gt (pe_calM0 MD hr (Nat.le_refl _) pass0 (pv 0)) (pe_glob (v:=.int 3) rfl em ⟨tk,rfl⟩) (nomark _)) pss_never pss_nil))))))),?_⟩
    refine⟨_,rfl,_,rfl,_,o,dx,_,rfl,RX.cls,RX.no "name" (by decide),ho,hn,fun H1 f1 e1=>⟨_,rfl,_,rfl,_,_,rfl,hp,hw,?_⟩⟩
    have r1:=ri.frame gd ho f1
    obtain⟨oi,dxi,fsi,rfl,hoi,_,noi⟩:=r1.obj gd
    have k6:=kd6 r
    refine⟨_,rfl,_,_,_,_,true,rfl,rfl,.inl (.ins hoi (RJ.cls _ k6) (RJ.ha _ k6) RJ.hn RJ.htk (RJ.hm _ k6)),RJ.kt _ k6,true,rfl,iteF ?_⟩
    refine⟨_,rfl,_,rfl,o,_,dx,_,rfl,e1,RX.cls,RX.no "parts" (by decide),by show 1<1000;decide,?_⟩
    rw[pr2 _ _ _ (by decide +kernel)]
    refine⟨_,rfl,_,rfl,o,_,dx,_,rfl,upd_same,RX.cls,RX.no "way" (by decide),by show 2<1000;decide,?_⟩
    rw[pr3 _ _ _ _ _ (by decide +kernel) (by decide +kernel)]
    have f2:∀ b y,H b=some y→b≠o→(upd (upd H1 o (.ins (Cs 5) dx [("name",.str n),("parts",.int p)])) o (.ins (Cs 5) dx [("name",.str n),("parts",.int p),("way",.str x)])) b=some y:=fun b y hb ne=>by rw[upd_ne ne,upd_ne ne];exact f1 _ _ hb ne
    have e2:(upd (upd H1 o (.ins (Cs 5) dx [("name",.str n),("parts",.int p)])) o (.ins (Cs 5) dx [("name",.str n),("parts",.int p),("way",.str x)])) o=some (.ins (Cs 5) dx [("name",.str n),("parts",.int p),("way",.str x)]):=upd_same
    generalize upd (upd H1 o (.ins (Cs 5) dx [("name",.str n),("parts",.int p)])) o (.ins (Cs 5) dx [("name",.str n),("parts",.int p),("way",.str x)])=H2 at f2 e2
    have r2:=ri.frame gd ho f2
    obtain⟨oi2,dxi2,fsi2,eoi,hoi2,_,noi2⟩:=r2.obj gd
    cases eoi
    refine⟨r.kd,k6,_,rfl,oi,dxi2,fsi2,rfl,hoi2,noi2 "twin" (by decide),_,r,rfl,rfl,r2,gd,fun u' H3 s3 r3=>?_⟩
    have e3:=s3 _ _ e2
    refine⟨_,rfl,o,_,dx,_,rfl,e3,RX.cls,RX.no "within" (by decide),by show 3<1000;decide,?_⟩
    rw[pr4 _ _ _ _ _ _ _ (by decide +kernel) (by decide +kernel) (by decide +kernel)]
    have f4:∀ b y,H3 b=some y→b≠o→(upd H3 o (.ins (Cs 5) dx [("name",.str n),("parts",.int p),("way",.str x),("within",u')])) b=some y:=fun b y hb ne=>by rw[upd_ne ne];exact hb
    have e4:(upd H3 o (.ins (Cs 5) dx [("name",.str n),("parts",.int p),("way",.str x),("within",u')])) o=some (.ins (Cs 5) dx [("name",.str n),("parts",.int p),("way",.str x),("within",u')]):=upd_same
    generalize upd H3 o (.ins (Cs 5) dx [("name",.str n),("parts",.int p),("way",.str x),("within",u')])=H4 at f4 e4
    have r4:=r3.frame3 RJ.ne gd e3 f4
    have g4:Gd (d+1) (.ontop n p x r):=.ontop hn hp hw gd
    refine⟨_,rfl,o,dx,_,rfl,e4,rfl,_,_,rfl,rfl,.ontop e4 r4,g4,_,_,rfl,rfl,_,rfl,ite2 (fun e=>?_) (fun _=>?_)⟩
    · have e:=of_decide_eq_true e
      have:=dep_le g4
      omega
    · exact q H4 u' (fun b y hb ne=>f4 _ _ (s3 _ _ (f2 _ _ hb ne)) ne) e4 r4
end
end K09
namespace K09
open PySem PySem.NumText L2 Pg
seal PE PA PT PW PS PSs PG PGs PI PIf PO PK
section
variable {P:Program} {w:World} {K:PySem.W.Frag} {mg:Str→Option Value} {base:Heap} {f:Addr} {fd:FuncData} {d:Nat→Addr} {cR:Addr}
theorem ok_mixR (F:Fun K "_law_mixed" "_law_mixed" (top 53) f fd):FnOk P w K mg base CX0 1 f fd ["_law_cell","_law_k"] sp_mixR:=by
  have nd:(["_law_cell","_law_k","_law_number"]:List Str).Nodup:=by decide +kernel
  refine F.ok (N:=["_law_cell","_law_k","_law_number"]) ⟨rfl,rfl,rfl,by decide +kernel,rfl,by decide +kernel,by decide +kernel⟩ (fun vs H Q E h=>?_) (fun cdv A outer s H vs Q E hr h=>?_)
  · obtain⟨c,k,rfl,_⟩:=h
    rfl
  · obtain⟨c,k,rfl,q⟩:=h
    refine⟨_,(pss_cons (ps_set (i:=2) nd rfl (Or.inl rfl) (pe_op op_mod (pe_op op_add (pe_op op_add (pe_op op_mul (pv 0) pe_int) (pe_op op_mul pe_int (pv 1))) pe_int) pe_int))
        (pss_one (ps_ret (pe_op op_mod (pe_op op_mul (pe_op op_mod (pe_op op_mul (pv 2) (pv 2)) pe_int) (pv 2)) pe_int)))),?_⟩
    refine⟨_,rfl,_,_,rfl,rfl,.inr ⟨by decide,by decide⟩,_,rfl,_,_,rfl,rfl,.inl ⟨by decide,by decide⟩,_,_,rfl,rfl,_,_,rfl,rfl,_,_,rfl,rfl,(by show (0:Int)<1000003;decide),?_⟩
    have b0:0≤(c*48271+7919*k+11)%1000003:=Int.emod_nonneg _ (by decide)
    have b1:(c*48271+7919*k+11)%1000003<1000003:=Int.emod_lt_of_pos _ (by decide)
    dsimp only
    generalize (c*48271+7919*k+11)%1000003=m at b0 b1
    exact⟨_,rfl,_,rfl,_,_,rfl,rfl,.inr ⟨by omega,by omega⟩,_,_,rfl,rfl,(by show (0:Int)<1000003;decide),_,rfl,_,_,rfl,rfl,.inr ⟨by omega,by omega⟩,_,_,rfl,rfl,(by show (0:Int)<1000003;decide),q _ (Int.emod_nonneg _ (by decide)) (Int.emod_lt_of_pos _ (by decide))⟩
theorem ok_amtR (F:Fun K "_law_amount" "_law_amount" (top 54) f fd) (C1:Cal P w K mg base CX0 1 "_law_mixed" ["_law_cell","_law_k"] sp_mixR):FnOk P w K mg base CX0 2 f fd ["_law_cell","_law_k"] sp_amtR:=by
  have nd:(["_law_cell","_law_k","_law_number","_law_more","_law_wide"]:List Str).Nodup:=by decide +kernel
  refine F.ok (N:=["_law_cell","_law_k","_law_number","_law_more","_law_wide"]) ⟨rfl,rfl,rfl,by decide +kernel,rfl,by decide +kernel,by decide +kernel⟩ (fun vs H Q E h=>?_) (fun cdv A outer s H vs Q E hr h=>?_)
  · obtain⟨c,k,rfl,_⟩:=h
    rfl
  · obtain⟨c,k,rfl,q⟩:=h
    refine⟨_,(pss_cons (ps_set (i:=2) nd rfl (Or.inl rfl) (pe_cal C1 hr (by decide) pass0 (pa_cons (pv 0) (pa_cons (pv 1) pa_nil))))
        (pss_cons (ps_set (i:=3) nd rfl (Or.inl rfl) (pe_op op_fdiv (pv 2) pe_int))
        (pss_cons (ps_set (i:=4) nd rfl (Or.inl rfl) (pe_op op_add (pe_op op_mul (pv 2) pe_int) (pe_cal C1 hr (by decide) pass0 (pa_cons (pv 0) (pa_cons (pe_op op_add (pv 1) pe_int) pa_nil)))))
        (pss_one (ps_ret (pe_at ix_list (pe_lstS (pa_cons pe_int (pa_cons (pe_op op_mod (pv 3) pe_int) (pa_cons (pe_op op_mod (pv 3) pe_int) (pa_cons (pe_op op_mul (pe_op op_mod (pv 3) pe_int) pe_int) (pa_cons (pe_op op_mul (pv 3) pe_int) (pa_cons (pe_op op_mod (pv 4) (pe_op op_add (pe_op op_pow pe_int pe_int) pe_int)) (pa_cons (pe_op op_pow pe_int pe_int) pa_nil)))))))) (pe_op op_mod (pv 2) pe_int))))))),?_⟩
    refine⟨_,rfl,_,rfl,c,k,rfl,fun m m0 m1=>⟨_,rfl,_,_,rfl,rfl,⟨by decide,by decide⟩,_,rfl,_,_,rfl,rfl,.inr ⟨by decide,by decide⟩,_,rfl,_,rfl,_,_,rfl,rfl,c,_,rfl,fun n n0 n1=>⟨_,_,rfl,rfl,?_⟩⟩⟩
    have d0:0≤m/7:=Int.ediv_nonneg m0 (by decide)
    have d1:m/7≤142858:=by omega
    dsimp only
    generalize m/7=e at d0 d1
    have e0:0≤e%19:=Int.emod_nonneg _ (by decide)
    have e1:e%19<19:=Int.emod_lt_of_pos _ (by decide)
    have p12:(10:Int) ^ (12:Int).toNat=1000000000000:=by decide
    refine⟨_,rfl,_,_,rfl,rfl,(by show (0:Int)<30;decide),_,rfl,_,_,rfl,rfl,(by show (0:Int)<40000;decide),_,rfl,_,_,rfl,rfl,(by show (0:Int)<19;decide),_,_,rfl,rfl,.inr ⟨by decide,by decide⟩,_,rfl,_,_,rfl,rfl,.inr ⟨by decide,by decide⟩,_,rfl,_,_,rfl,rfl,⟨by decide,by decide,by decide⟩,_,_,rfl,rfl,_,_,rfl,rfl,?_,_,_,rfl,rfl,⟨by decide,by decide,by decide⟩,lenOk rfl,fun l H1 s1 n1' e1'=>?_⟩
    · show (0:Int)<10 ^ (12:Int).toNat+1
      rw[p12]
      decide
    have w0:0≤(m*1000003+n)%(10 ^ (12:Int).toNat+1):=Int.emod_nonneg _ (by rw[p12];decide)
    have w1:(m*1000003+n)%(10 ^ (12:Int).toNat+1)<1000000000001:=by
      rw[p12]
      exact Int.emod_lt_of_pos _ (by decide)
    obtain⟨v,ev,mv⟩:=at_any (xs:=[V.int 0,.int (e%30),.int (e%40000),.int (e%19*5000),.int (e*50),.int ((m*1000003+n)%(10 ^ (12:Int).toNat+1)),.int (10 ^ (12:Int).toNat)]) (i:=m%7) (Int.emod_nonneg _ (by decide)) (Int.emod_lt_of_pos _ (by decide))
    obtain⟨a,rfl,ha⟩:∃ a,v = .int a∧Amt a:=by
      have f0:0≤e%30:=Int.emod_nonneg _ (by decide)
      have f1:e%30<30:=Int.emod_lt_of_pos _ (by decide)
      have g0:0≤e%40000:=Int.emod_nonneg _ (by decide)
      have g1:e%40000<40000:=Int.emod_lt_of_pos _ (by decide)
      generalize (m*1000003+n)%(10 ^ (12:Int).toNat+1)=x at w0 w1 mv
      rw[p12] at mv
      simp only[List.mem_cons,List.not_mem_nil,or_false] at mv
      rcases mv with rfl | rfl | rfl | rfl | rfl | rfl | rfl
      all_goals exact⟨_,rfl,by omega,by omega⟩
    exact⟨_,rfl,_,_,rfl,rfl,(by show (0:Int)<7;decide),l,_,_,_,rfl,rfl,SqL.of e1',ev,q a H1 ha s1⟩
theorem ok_prtR (F:Fun K "_law_parts" "_law_parts" (top 56) f fd) (C1:Cal P w K mg base CX0 1 "_law_mixed" ["_law_cell","_law_k"] sp_mixR):FnOk P w K mg base CX0 2 f fd ["_law_cell","_law_k"] sp_prtR:=by
  have nd:(["_law_cell","_law_k","_law_number"]:List Str).Nodup:=by decide +kernel
  refine F.ok (N:=["_law_cell","_law_k","_law_number"]) ⟨rfl,rfl,rfl,by decide +kernel,rfl,by decide +kernel,by decide +kernel⟩ (fun vs H Q E h=>?_) (fun cdv A outer s H vs Q E hr h=>?_)
  · obtain⟨c,k,rfl,_⟩:=h
    rfl
  · obtain⟨c,k,rfl,q⟩:=h
    refine⟨_,(pss_cons (ps_set (i:=2) nd rfl (Or.inl rfl) (pe_cal C1 hr (by decide) pass0 (pa_cons (pv 0) (pa_cons (pv 1) pa_nil))))
        (pss_one (ps_ret (pe_at ix_list (pe_lstS (pa_cons pe_int (pa_cons pe_int (pa_cons pe_int (pa_cons pe_int (pa_cons pe_int (pa_cons pe_int (pa_cons pe_int (pa_cons pe_int (pa_cons (pe_op op_mod (pe_op op_fdiv (pv 2) pe_int) pe_int) (pa_cons (pe_op op_mod (pe_op op_fdiv (pv 2) pe_int) pe_int) pa_nil))))))))))) (pe_op op_mod (pv 2) pe_int))))),?_⟩
    refine⟨_,rfl,_,rfl,c,k,rfl,fun m m0 m1=>⟨_,rfl,_,_,rfl,rfl,⟨by decide,by decide⟩,_,_,rfl,rfl,(by show (0:Int)<20001;decide),_,rfl,_,_,rfl,rfl,⟨by decide,by decide⟩,_,_,rfl,rfl,(by show (0:Int)<300;decide),lenOk rfl,fun l H1 s1 n1 e1=>?_⟩⟩
    obtain⟨v,ev,mv⟩:=at_any (xs:=[V.int 0,.int 1,.int 5000,.int 2500,.int 10000,.int 20000,.int 19999,.int 625,.int (m/10%20001),.int (m/10%300)]) (i:=m%10) (Int.emod_nonneg _ (by decide)) (Int.emod_lt_of_pos _ (by decide))
    obtain⟨a,rfl,ha⟩:∃ a,v = .int a∧Prt a:=by
      simp only[List.mem_cons,List.not_mem_nil,or_false] at mv
      have f0:0≤m/10%20001:=Int.emod_nonneg _ (by decide)
      have f1:m/10%20001<20001:=Int.emod_lt_of_pos _ (by decide)
      have g0:0≤m/10%300:=Int.emod_nonneg _ (by decide)
      have g1:m/10%300<300:=Int.emod_lt_of_pos _ (by decide)
      rcases mv with rfl | rfl | rfl | rfl | rfl | rfl | rfl | rfl | rfl | rfl
      all_goals exact⟨_,rfl,by omega,by omega⟩
    exact⟨_,rfl,_,_,rfl,rfl,(by show (0:Int)<10;decide),l,_,_,_,rfl,rfl,SqL.of e1,ev,q a H1 ha s1⟩
theorem ok_wayR (F:Fun K "_law_way" "_law_way" (top 57) f fd) (C1:Cal P w K mg base CX0 1 "_law_mixed" ["_law_cell","_law_k"] sp_mixR):FnOk P w K mg base CX0 2 f fd ["_law_cell","_law_k"] sp_wayR:=by
  refine F.ok (N:=["_law_cell","_law_k"]) ⟨rfl,rfl,rfl,by decide +kernel,rfl,by decide +kernel,by decide +kernel⟩ (fun vs H Q E h=>?_) (fun cdv A outer s H vs Q E hr h=>?_)
  · obtain⟨c,k,rfl,_⟩:=h
    rfl
  · obtain⟨c,k,rfl,q⟩:=h
    refine⟨_,(pss_one (ps_ret (pe_at ix_list (pe_lstS (pa_cons pe_str (pa_cons pe_str (pa_cons pe_str (pa_cons pe_str pa_nil))))) (pe_op op_mod (pe_op op_fdiv (pe_cal C1 hr (by decide) pass0 (pa_cons (pv 0) (pa_cons (pv 1) pa_nil))) pe_int) pe_int)))),?_⟩
    refine⟨lenOk rfl,fun l H1 s1 n1 e1=>⟨_,rfl,_,rfl,c,k,rfl,fun m m0 m1=>?_⟩⟩
    obtain⟨x,ev,hw⟩:=way_at (i:=m/5%4) (Int.emod_nonneg _ (by decide)) (Int.emod_lt_of_pos _ (by decide))
    exact⟨_,_,rfl,rfl,⟨by decide,by decide⟩,_,_,rfl,rfl,(by show (0:Int)<4;decide),l,_,_,_,rfl,rfl,SqL.of e1,ev,q x H1 hw s1⟩
end
end K09
namespace K09
open PySem PySem.NumText L2 Pg
seal PE PA PT PW PS PSs PG PGs PI PIf PO PK
section
variable {P:Program} {w:World} {K:PySem.W.Frag} {mg:Str→Option Value} {base:Heap} {f:Addr} {fd:FuncData} {d:Nat→Addr} {cR:Addr}
set_option maxHeartbeats 8000000 in
theorem ok_namR (F:Fun K "_law_names" "_law_names" (top 55) f fd) (G:Glb mg) (C1:Cal P w K mg base CX0 1 "_law_mixed" ["_law_cell","_law_k"] sp_mixR):FnOk P w K mg base CX0 2 f fd ["_law_cell","_law_many"] sp_namR:=by
  have nd:(["_law_cell","_law_many","_law_letters","_law_some","_law_number","_law_frame","_law_at","_law_size","_law_signs","_law_words"]:List Str).Nodup:=by decide +kernel
  have nc6:(["_law_j","_law_some","_law_cell"]:List Str).Nodup:=by decide +kernel
  have nc4:(["_law_k","_law_letters","_law_number"]:List Str).Nodup:=by decide +kernel
  have nc3:(["_law_sign","_law_frame","_law_at","_law_size"]:List Str).Nodup:=by decide +kernel
  have nc2:(["_law_k","_law_frame"]:List Str).Nodup:=by decide +kernel
  have nc1:(["_law_k","_law_words","_law_number"]:List Str).Nodup:=by decide +kernel
  refine F.ok (N:=["_law_cell","_law_many","_law_letters","_law_some","_law_number","_law_frame","_law_at","_law_size","_law_signs","_law_words"]) ⟨rfl,rfl,rfl,by decide +kernel,rfl,by decide +kernel,by decide +kernel⟩ (fun vs H Q E h=>?_) (fun cdv A outer s H vs Q E hr h=>?_)
  · obtain⟨c,n,rfl,_⟩:=h
    rfl
  · obtain⟨c,n,rfl,n8,q⟩:=h
    refine' ⟨_,(pss_cons (ps_set (i:=2) nd rfl (Or.inr rfl) pe_str)
        (pss_cons (ps_set (i:=3) nd rfl (Or.inr rfl) pe_str)
        (pss_cons (ps_set (i:=4) nd rfl (Or.inr rfl) (pe_cal C1 hr (by decide) pass0 (pa_cons (pv 0) (pa_cons pe_int pa_nil))))
        (pss_cons (ps_set (i:=5) nd rfl (Or.inr rfl) (pe_bm PySem.F.plainAttrs_str PySem.F.slot_str_join PySem.F.type_str_join mt_join pe_str (pa_cons ?comp_6 pa_nil)))
        (pss_cons (ps_set (i:=6) nd rfl (Or.inr rfl) (pe_op op_mod (pe_op op_fdiv (pv 4) pe_int) pe_int))
        (pss_cons (ps_set (i:=7) nd rfl (Or.inr rfl) (pe_op op_add (pv 6) (pe_op op_mod (pe_op op_fdiv (pv 4) pe_int) (pe_op op_sub pe_int (pv 6)))))
        (pss_cons (ps_if (pt_cmpR op_eq (pe_op op_mod (pv 4) pe_int) pe_int (nomark _)) (pss_cons ?comp_4
        (pss_one (ps_ret ?comp_3))) pss_nil)
        (pss_cons (ps_if (pt_cmpR op_eq (pe_op op_mod (pv 4) pe_int) pe_int (nomark _)) (pss_one (ps_ret ?comp_2)) pss_nil)
        (pss_cons (ps_set (i:=9) nd rfl (Or.inr rfl) (pe_lstS (pa_cons pe_str (pa_cons pe_str (pa_cons pe_str (pa_cons pe_str (pa_cons pe_str (pa_cons pe_str (pa_cons pe_str (pa_cons pe_str (pa_cons pe_str (pa_cons pe_str pa_nil))))))))))))
        (pss_one (ps_ret ?comp_1))))))))))),?main⟩
    case comp_6 =>
      refine' pe_compI (Nc:=["_law_j","_law_some","_law_cell"]) (cl:=[("_law_some",s.heap.objs.size+3),("_law_cell",s.heap.objs.size+1)]) (src:=[none,some 3,some 0]) (wi:=iRng1 (tCons (tC (.int 7)) tNil)) (g:=gName 0) (tt:=tNoIf)
        (te:=tOp rIxS (tVar 1) (tOp (rI (fun _ j=>0<j) fun i j=>.int (i%j)) (fun σ H Q=>tCons (tVar 2) (tCons (tOp (rI0 fun i j=>.int (i+j)) (tC (.int 120)) (tVar 0)) tNil) σ H fun vs H1=>sp_mixR vs H1 Q E0) (tC (.int 21))))
        ⟨rfl,rfl,by decide +kernel,by decide +kernel,sub_of (subN rfl (sub1 rfl)),has_of (by rfl),frm_none (frm_some ⟨_,rfl,rfl,rfl,rfl⟩ (frm_some ⟨_,rfl,rfl,rfl,rfl⟩ frm_nil)),rfl⟩ rfl (pi_range1 rfl G.range (pa_cons pe_int pa_nil)) ?hb
      case hb =>
        intro fp C' s' H'
        exact⟨pg_name (i:=0) nc6 rfl (Or.inl rfl),pif_nil,pe_at ix_str (pv 1) (pe_op op_mod (pe_cal C1 hr (by decide) pass0 (pa_cons (pv 2) (pa_cons (pe_op op_add pe_int (pv 0)) pa_nil))) pe_int)⟩
    case comp_4 =>
      refine' ps_setC (i:=8) (Nc:=["_law_k","_law_letters","_law_number"]) (cl:=[("_law_number",s.heap.objs.size+4),("_law_letters",s.heap.objs.size+2)]) (src:=[none,some 2,some 4]) (wi:=iRng1 (tCons (tVar 1) tNil)) (g:=gName 0) (tt:=tNoIf)
        (te:=tOp rIxS (tVar 1) (tOp (rI (fun _ j=>0<j) fun i j=>.int (i%j)) (tOp (rI0 fun i j=>.int (i+j)) (tOp (rI CDiv fun i j=>.int (i/j)) (tVar 2) (tC (.int 200))) (tOp (rI CMul fun i j=>.int (i*j)) (tC (.int 3)) (tVar 0))) (tC (.int 26)))) nd rfl rfl
        ⟨rfl,rfl,by decide +kernel,by decide +kernel,sub_of (subN rfl (sub1 rfl)),has_of (by rfl),frm_none (frm_some ⟨_,rfl,rfl,rfl,rfl⟩ (frm_some ⟨_,rfl,rfl,rfl,rfl⟩ frm_nil)),rfl⟩ rfl (pi_range1 rfl G.range (pa_cons (pv 1) pa_nil)) ?hb
      case hb =>
        intro fp C' s' H'
        exact⟨pg_name (i:=0) nc4 rfl (Or.inl rfl),pif_nil,pe_at ix_str (pv 1) (pe_op op_mod (pe_op op_add (pe_op op_fdiv (pv 2) pe_int) (pe_op op_mul pe_int (pv 0))) pe_int)⟩
    case comp_3 =>
      refine' pe_compI (Nc:=["_law_sign","_law_frame","_law_at","_law_size"]) (cl:=[("_law_size",s.heap.objs.size+7),("_law_frame",s.heap.objs.size+5),("_law_at",s.heap.objs.size+6)]) (src:=[none,some 5,some 6,some 7]) (wi:=iList K (tVar 8)) (g:=gName 0) (tt:=tNoIf)
        (te:=tOp (fun x y H Q=>∃ i j:Str,x = .str i∧y = .str j∧i.length+j.length≤sizeLine∧Q (.str (i++j)) H) (tOp (fun x y H Q=>∃ i j:Str,x = .str i∧y = .str j∧i.length+j.length≤sizeLine∧Q (.str (i++j)) H) (tSl rSlS (tVar 1) tNoPart (tPart (tVar 2))) (tVar 0)) (tSl rSlS (tVar 1) (tPart (tVar 2)) (tPart (tVar 3))))
        ⟨rfl,rfl,by decide +kernel,by decide +kernel,sub_of (subN rfl (subN rfl (sub1 rfl))),has_of (by rfl),frm_none (frm_some ⟨_,rfl,rfl,rfl,rfl⟩ (frm_some ⟨_,rfl,rfl,rfl,rfl⟩ (frm_some ⟨_,rfl,rfl,rfl,rfl⟩ frm_nil))),rfl⟩ rfl (pi_list (pv 8)) ?hb
      case hb =>
        intro fp C' s' H'
        exact⟨pg_name (i:=0) nc3 rfl (Or.inl rfl),pif_nil,pe_op op_add_str (pe_op op_add_str (pe_slice sl_str (pv 1) po_none (po_some (pv 2))) (pv 0)) (pe_slice sl_str (pv 1) (po_some (pv 2)) (po_some (pv 3)))⟩
    case comp_2 =>
      refine' pe_compI (Nc:=["_law_k","_law_frame"]) (cl:=[("_law_frame",s.heap.objs.size+5)]) (src:=[none,some 5]) (wi:=iRng1 (tCons (tVar 1) tNil)) (g:=gName 0) (tt:=tNoIf)
        (te:=tSl rSlS (tOp (fun x y H Q=>∃ i j:Str,x = .str i∧y = .str j∧i.length+j.length≤sizeLine∧Q (.str (i++j)) H) (tC (.str "q")) (tVar 1)) tNoPart (tPart (tOp (rI0 fun i j=>.int (i+j)) (tC (.int 1)) (tVar 0))))
        ⟨rfl,rfl,by decide +kernel,by decide +kernel,sub_of (sub1 rfl),has_of (by rfl),frm_none (frm_some ⟨_,rfl,rfl,rfl,rfl⟩ frm_nil),rfl⟩ rfl (pi_range1 rfl G.range (pa_cons (pv 1) pa_nil)) ?hb
      case hb =>
        intro fp C' s' H'
        exact⟨pg_name (i:=0) nc2 rfl (Or.inl rfl),pif_nil,pe_slice sl_str (pe_op op_add_str pe_str (pv 1)) po_none (po_some (pe_op op_add pe_int (pv 0)))⟩
    case comp_1 =>
      refine' pe_compI (Nc:=["_law_k","_law_words","_law_number"]) (cl:=[("_law_words",s.heap.objs.size+8),("_law_number",s.heap.objs.size+4)]) (src:=[none,some 9,some 4]) (wi:=iRng1 (tCons (tVar 1) tNil)) (g:=gName 0) (tt:=tNoIf)
        (te:=tOp (rIxL K) (tVar 1) (tOp (rI (fun _ j=>0<j) fun i j=>.int (i%j)) (tOp (rI0 fun i j=>.int (i+j)) (tOp (rI CDiv fun i j=>.int (i/j)) (tVar 2) (tC (.int 3))) (tVar 0)) (tC (.int 10))))
        ⟨rfl,rfl,by decide +kernel,by decide +kernel,sub_of (subN rfl (sub1 rfl)),has_of (by rfl),frm_none (frm_some ⟨_,rfl,rfl,rfl,rfl⟩ (frm_some ⟨_,rfl,rfl,rfl,rfl⟩ frm_nil)),rfl⟩ rfl (pi_range1 rfl G.range (pa_cons (pv 1) pa_nil)) ?hb
      case hb =>
        intro fp C' s' H'
        exact⟨pg_name (i:=0) nc1 rfl (Or.inl rfl),pif_nil,pe_at ix_list (pv 1) (pe_op op_mod (pe_op op_add (pe_op op_fdiv (pv 2) pe_int) (pv 0)) pe_int)⟩
    dsimp (config:={ proj:=false,iota:=false,beta:=false,eta:=false }) only [cxOf_K,nox_K]
    have rl:∀ m:Nat,((List.range m).map fun k=>V.int (0+((k:Nat):Int))).length=(List.range m).length:=fun m=>List.length_map _
    refine⟨_,rfl,c,_,rfl,fun u u0 u1=>?_⟩
    refine⟨rfl,7,rfl,by decide,by decide,fun D hD=>?_⟩
    refine comp_rel (walk_rng (n:=7)) (rl 7) hD (by rw[List.length_range,sizeLine_eq];decide) (fun v _=>∃ d,v = .str ⟨#[d]⟩∧isSm d=true) (fun i x v hx hv H1 R s1 r=>?_) (fun zs H1 s1 zl zr e1=>?_)
    · rw[List.getElem?_map] at hv
      obtain⟨k,hk,rfl⟩:=Option.map_eq_some_iff.mp hv
      refine⟨_,rfl,_,rfl,_,rfl,_,_,rfl,rfl,c,_,rfl,fun m m0 m1=>?_⟩
      obtain⟨d,d1,d2⟩:=sm_at (i:=m%21) (Int.emod_nonneg _ (by decide)) (Int.emod_lt_of_pos _ (by decide))
      exact⟨_,_,rfl,rfl,(by show (0:Int)<21;decide),_,_,d,rfl,rfl,fitS (m:=21) (by decide +kernel) rfl,d1,r _ _ ⟨d,rfl,d2⟩ (Same.refl _)⟩
    obtain⟨fs,rfl,fa⟩:=signs_of (mem_rel zr)
    have fl:fs.length=7:=by
      rw[List.length_map,List.length_map,List.length_range] at zl
      exact zl
    have jo:=(join_small (sep:="") (zs:=fs.map fun c=>(⟨#[c]⟩:Str)) (m:=1) (k:=7) (fun z hz=>by obtain⟨_,_,rfl⟩:=List.mem_map.mp hz;exact Nat.le_refl _) (by rw[List.length_map,fl];exact Nat.le_refl _) (by decide +kernel) rfl).1
    refine⟨_,_,D,rfl,rfl,SqL.of e1,jo,?_⟩
    have zc:=join_codes fs
    generalize Txt.join ("":Str) (fs.map fun c=>(⟨#[c]⟩:Str))=z at zc
    clear jo zl zr e1 hD
    have zl:z.length=7:=by rw[len_codes,zc,fl]
    have a0:0≤u/3%8:=Int.emod_nonneg _ (by decide)
    have a1:u/3%8<8:=Int.emod_lt_of_pos _ (by decide)
    refine⟨_,rfl,_,_,rfl,rfl,⟨by decide,by decide⟩,_,_,rfl,rfl,(by show (0:Int)<8;decide),?_⟩
    dsimp only
    obtain⟨at',hat⟩:=Int.eq_ofNat_of_zero_le a0
    rw[hat] at a0 a1 ⊢
    have b0:0≤u/24%(8 - (at':Int)):=Int.emod_nonneg _ (by omega)
    have b1:u/24%(8 - (at':Int))<8 - (at':Int):=Int.emod_lt_of_pos _ (by omega)
    refine⟨_,rfl,_,rfl,_,_,rfl,rfl,⟨by decide,by decide⟩,_,rfl,_,_,rfl,rfl,_,_,rfl,rfl,(by show (0:Int)<8 - (at':Int);omega),_,_,rfl,rfl,?_⟩
    dsimp only
    obtain⟨sz,hsz⟩:∃ sz:Nat,(at':Int)+u/24%(8 - (at':Int))=sz:=⟨(at':Int).toNat+(u/24%(8 - (at':Int))).toNat,by omega⟩
    have sz1:at'≤sz:=by omega
    have sz2:sz≤7:=by omega
    rw[hsz]
    clear hsz b0 b1 hat a0
    refine⟨_,rfl,_,_,rfl,rfl,(by show (0:Int)<3;decide),rfl,_,rfl,ite2 (fun _=>?_) (fun _=>?_)⟩
    · refine⟨_,rfl,_,rfl,by omega,by omega,fun D hD=>?_⟩
      rw[Int.toNat_natCast]
      refine comp_rel (walk_rng (n:=n)) (rl n) hD (by rw[List.length_range,sizeLine_eq];omega) (fun v _=>∃ d,v = .str ⟨#[d]⟩∧isL d=true) (fun i x v hx hv H2 R s2 r=>?_) (fun zs H2 s2 zsl zr e2=>?_)
      · rw[List.getElem?_map] at hv
        obtain⟨k,hk,rfl⟩:=Option.map_eq_some_iff.mp hv
        obtain⟨d,d1,d2⟩:=letter_at (i:=(u/200+3*(0+(k:Int)))%26) (Int.emod_nonneg _ (by decide)) (Int.emod_lt_of_pos _ (by decide))
        exact⟨_,rfl,_,rfl,_,_,rfl,rfl,⟨by decide,by decide⟩,_,rfl,_,_,rfl,rfl,.inl ⟨by decide,by decide⟩,_,_,rfl,rfl,_,_,rfl,rfl,(by show (0:Int)<26;decide),_,_,d,rfl,rfl,letters_len,d1,r _ _ ⟨d,rfl,d2⟩ (Same.refl _)⟩
      rw[List.length_range] at zsl
      have zm:=mem_rel zr
      refine⟨_,rfl,D,rfl,⟨_,SqL.of e2⟩,fun D3 hD3=>?_⟩
      refine comp_rel (xs:=zs) (walk_list (SqL.of e2)) rfl hD3 (by rw[zsl,sizeLine_eq];omega) (fun v _=>∃ y,v = .str y∧RName y) (fun i x v hx hv H3 R s3 r=>?_) (fun ws H3 s3 wl wr e3=>?_)
      · obtain⟨d,rfl,hd⟩:=zm v (List.mem_of_getElem? hv)
        have zf:z.length≤sizeLine:=fitS (m:=7) (by omega) rfl
        have sl:∀ lo hi,(Txt.slice z lo hi).length≤7:=fun lo hi=>Nat.le_trans (Txt.slice_le z lo hi) (by omega)
        have o1:(⟨#[d]⟩:Str).length≤1:=Nat.le_refl _
        refine⟨_,rfl,_,rfl,_,rfl,_,rfl,zf,_,rfl,_,_,rfl,rfl,fitA (sl _ _) o1 rfl,_,rfl,_,rfl,_,rfl,_,rfl,_,rfl,_,rfl,zf,_,_,rfl,rfl,fitA (app_le (sl _ _) o1) (sl _ _) rfl,r _ _ ⟨_,rfl,rname_mid fa fl hd sz1 sz2 ?_⟩ (Same.refl _)⟩
        rw[app_codes,app_codes,cut_upto,cut_mid _ _ _ (by rw[zc,fl];exact sz2) sz1,zc]
      obtain⟨nms,rfl,hn⟩:=texts_of (mem_rel wr)
      rw[List.length_map,zsl] at wl
      exact q nms D3 H3 wl hn (s1.trans (s2.trans s3)) (s1.free (s2.free hD3)) e3
    refine⟨_,rfl,_,_,rfl,rfl,(by show (0:Int)<3;decide),rfl,_,rfl,ite2 (fun _=>?_) (fun _=>?_)⟩
    · refine⟨_,rfl,_,rfl,by omega,by omega,fun D hD=>?_⟩
      rw[Int.toNat_natCast]
      refine comp_rel (walk_rng (n:=n)) (rl n) hD (by rw[List.length_range,sizeLine_eq];omega) (fun v _=>∃ y,v = .str y∧RName y) (fun i x v hx hv H2 R s2 r=>?_) (fun zs H2 s2 zsl zr e2=>?_)
      · rw[List.getElem?_map] at hv
        obtain⟨k,hk,rfl⟩:=Option.map_eq_some_iff.mp hv
        have q1:("q":Str).length=1:=by decide +kernel
        refine⟨_,rfl,_,_,rfl,rfl,fitS (m:=8) (by rw[q1,zl];decide) rfl,_,rfl,_,_,rfl,rfl,_,rfl,_,rfl,fitS (m:=8) (by rw[app_len,q1,zl];decide) rfl,r _ _ ⟨_,rfl,rname_q (k:=k) fa fl ?_⟩ (Same.refl _)⟩
        rw[show (1:Int)+(0+(k:Int))=((k+1:Nat):Int) by omega,cut_upto,app_codes,zc,show ("q":Str).cps.toList=[113] by decide +kernel]
        rfl
      obtain⟨nms,rfl,hn⟩:=texts_of (mem_rel zr)
      rw[List.length_map,List.length_range] at zsl
      exact q nms D H2 zsl hn (s1.trans s2) (s1.free hD) e2
    refine⟨lenOk rfl,fun lw H2 s2 n2 e2=>?_⟩
    refine⟨_,rfl,_,rfl,by omega,by omega,fun D hD=>?_⟩
    rw[Int.toNat_natCast]
    refine comp_rel (walk_rng (n:=n)) (rl n) hD (by rw[List.length_range,sizeLine_eq];omega) (fun v _=>∃ y,v = .str y∧RName y) (fun i x v hx hv H3 R s3 r=>?_) (fun zs H3 s3 zsl zr e3=>?_)
    · rw[List.getElem?_map] at hv
      obtain⟨k,hk,rfl⟩:=Option.map_eq_some_iff.mp hv
      obtain⟨v,ev,mv⟩:=at_any (xs:=okNames.map V.str) (i:=(u/3+(0+(k:Int)))%10) (Int.emod_nonneg _ (by decide)) (Int.emod_lt_of_pos _ (by decide))
      obtain⟨y,hy,rfl⟩:=List.mem_map.mp mv
      exact⟨_,rfl,_,rfl,_,_,rfl,rfl,⟨by decide,by decide⟩,_,rfl,_,_,rfl,rfl,_,_,rfl,rfl,(by show (0:Int)<10;decide),lw,_,_,_,rfl,rfl,SqL.of (s3 _ _ e2),ev,r _ _ ⟨y,rfl,rname_word y hy⟩ (Same.refl _)⟩
    obtain⟨nms,rfl,hn⟩:=texts_of (mem_rel zr)
    rw[List.length_map,List.length_range] at zsl
    exact q nms D H3 zsl hn (s1.trans (s2.trans s3)) (s1.free (s2.free hD)) e3
end
end K09
namespace K09
open PySem PySem.NumText L2 Pg
seal PE PA PT PW PS PSs PG PGs PI PIf PO PK
section
variable {P:Program} {w:World} {K:PySem.W.Frag} {mg:Str→Option Value} {base:Heap} {f:Addr} {fd:FuncData} {d:Nat→Addr} {cR:Addr}
set_option maxHeartbeats 4000000 in
theorem ok_prsR (F:Fun K "_law_pairs" "_law_pairs" (top 58) f fd) (G:Glb mg) (C1:Cal P w K mg base CX0 1 "_law_mixed" ["_law_cell","_law_k"] sp_mixR) (C2:Cal P w K mg base CX0 2 "_law_parts" ["_law_cell","_law_k"] sp_prtR):FnOk P w K mg base CX0 3 f fd ["_law_cell"] sp_prsR:=by
  have nd:(["_law_cell","_law_number","_law_pairs_here","_law_k","_law_more","_law_step"]:List Str).Nodup:=by decide +kernel
  refine F.ok (N:=["_law_cell","_law_number","_law_pairs_here","_law_k","_law_more","_law_step"]) ⟨rfl,rfl,rfl,by decide +kernel,rfl,by decide +kernel,by decide +kernel⟩ (fun vs H Q E h=>?_) (fun cdv A outer s H vs Q E hr h=>?_)
  · obtain⟨c,rfl,_⟩:=h
    rfl
  · obtain⟨c,rfl,q⟩:=h
    refine⟨_,(pss_cons (ps_set (i:=1) nd rfl (Or.inl rfl) (pe_cal C1 hr (by decide) pass0 (pa_cons (pv 0) (pa_cons pe_int pa_nil))))
        (pss_cons (ps_set (i:=2) nd rfl (Or.inl rfl) (pe_lstS (pa_cons (pe_tupS (pa_cons pe_int (pa_cons (pe_cal C2 hr (by decide) pass0 (pa_cons (pv 0) (pa_cons pe_int pa_nil))) pa_nil))) pa_nil)))
        (pss_cons (ps_for PassesOwn.never rfl (pi_range1 rfl G.range (pa_cons (pe_at ix_list (pe_lstS (pa_cons pe_int (pa_cons pe_int (pa_cons pe_int (pa_cons pe_int (pa_cons pe_int (pa_cons (pe_op op_mod (pe_op op_fdiv (pv 1) pe_int) pe_int) pa_nil))))))) (pe_op op_mod (pv 1) pe_int)) pa_nil)) (pg_name (i:=3) nd rfl (Or.inl rfl)) (pss_cons (ps_set (i:=4) nd rfl (Or.inl rfl) (pe_cal C1 hr (by decide) pass0 (pa_cons (pv 0) (pa_cons (pe_op op_add pe_int (pv 3)) pa_nil))))
        (pss_cons (ps_set (i:=5) nd rfl (Or.inl rfl) (pe_at ix_list (pe_lstS (pa_cons pe_int (pa_cons (pe_op op_add pe_int (pe_op op_mod (pe_op op_fdiv (pv 4) pe_int) pe_int)) (pa_cons (pe_op op_mul (pv 4) pe_int) (pa_cons (pe_op op_add (pe_op op_mul (pe_op op_mod (pe_op op_fdiv (pv 4) pe_int) pe_int) pe_int) pe_int) (pa_cons (pe_op op_add pe_int (pe_op op_mul (pe_op op_fdiv (pv 4) pe_int) pe_int)) pa_nil)))))) (pe_op op_mod (pv 4) pe_int)))
        (pss_one (ps_if (pt_cmpR op_le (pe_op op_add (pe_at ix_tup (pe_at ix_list (pv 2) (pe_un un_neg pe_int)) pe_int) (pv 5)) (pe_op op_pow pe_int pe_int) (nomark _)) (pss_one (ps_expr (pe_bm PySem.F.plainAttrs_list PySem.F.slot_list_append PySem.F.type_list_append mt_append (pv 2) (pa_cons (pe_tupS (pa_cons (pe_op op_add (pe_at ix_tup (pe_at ix_list (pv 2) (pe_un un_neg pe_int)) pe_int) (pv 5)) (pa_cons (pe_cal C2 hr (by decide) pass0 (pa_cons (pv 0) (pa_cons (pe_op op_add pe_int (pv 3)) pa_nil))) pa_nil))) pa_nil)))) pss_nil)))))
        (pss_one (ps_ret (pe_callTy call_tuple_of rfl G.tuple boot_tuple (pa_cons (pv 2) pa_nil))))))),?_⟩
    refine⟨_,rfl,c,_,rfl,fun m m0 m1=>⟨_,rfl,c,_,rfl,fun p H1 hp s1=>⟨lenOk rfl,fun t H2 s2 n2 e2=>⟨lenOk rfl,fun l H3 s3 n3 e3=>?_⟩⟩⟩⟩
    have T3:TupsAt H3 [V.ref t] ([((0:Int),p)].map cB):=TupsAt.snoc TupsAt.nil (s3 _ _ e2)
    have S3:=s1.trans (s2.trans s3)
    have l0:H l=none:=was_none (s1.trans s2) n3
    refine⟨_,rfl,_,_,rfl,rfl,⟨by decide,by decide⟩,_,_,rfl,rfl,(by show (0:Int)<12;decide),lenOk rfl,fun g H4 s4 n4 e4=>?_⟩
    obtain⟨v,ev,mv⟩:=at_any (xs:=[V.int 0,.int 1,.int 2,.int 3,.int 11,.int (m/30%12)]) (i:=m%6) (Int.emod_nonneg _ (by decide)) (Int.emod_lt_of_pos _ (by decide))
    obtain⟨n,rfl,h0,h1⟩:∃ n,v = .int n∧0≤n∧n≤11:=by
      simp only[List.mem_cons,List.not_mem_nil,or_false] at mv
      rcases mv with rfl | rfl | rfl | rfl | rfl | rfl
      all_goals exact⟨_,rfl,by omega,by omega⟩
    refine⟨_,rfl,_,_,rfl,rfl,(by show (0:Int)<6;decide),g,_,_,_,rfl,rfl,SqL.of e4,ev,n,rfl,by omega,by omega,for_range2 (fun i σ H'=>∃ x3 x4 x5,∃ ps ys,An4 (σ = [some (.int c),some (.int m),some (.ref l),x3,x4,x5]) (Same H H') (H' l=some (.lst ys)∧TupsAt H' ys (ps.map cB)) (BdI ps i)) ⟨_,_,_,_,_,rfl,S3.trans s4,⟨s4 _ _ e3,T3.same s4⟩,.one hp⟩ ?_ ?_⟩
    · rintro i σ H5 hi ⟨x3,x4,x5,ps,ys,rfl,s5,⟨e5,T5⟩,bi⟩ E5 k5
      refine⟨_,rfl,_,rfl,_,_,rfl,rfl,c,_,rfl,fun a a0 a1=>?_⟩
      refine⟨_,rfl,_,_,rfl,rfl,⟨by decide,by decide⟩,_,_,rfl,rfl,(by show (0:Int)<20;decide),_,_,rfl,rfl,_,rfl,_,_,rfl,rfl,.inr ⟨by decide,by decide⟩,_,rfl,_,_,rfl,rfl,⟨by decide,by decide⟩,_,_,rfl,rfl,(by show (0:Int)<9;decide),_,_,rfl,rfl,.inr ⟨by decide,by decide⟩,_,_,rfl,rfl,_,rfl,_,_,rfl,rfl,⟨by decide,by decide⟩,_,_,rfl,rfl,.inr ⟨by decide,by decide⟩,_,_,rfl,rfl,lenOk rfl,fun g6 H6 s6 n6 e6=>?_⟩
      obtain⟨v6,ev6,mv6⟩:=five_at (a:=V.int 1) (b:=.int (2+a/5%20)) (c:=.int (a*30)) (d:=.int (a/5%9*5000+1)) (e:=.int (1+a/5*200000)) (i:=a%5) (Int.emod_nonneg _ (by decide)) (Int.emod_lt_of_pos _ (by decide))
      obtain⟨st,rfl,st1⟩:∃ st,v6 = .int st∧1≤st:=by
        rcases mv6 with ⟨h,rfl⟩ | ⟨h,rfl⟩ | ⟨h,rfl⟩ | ⟨h,rfl⟩ | ⟨h,rfl⟩
        all_goals exact⟨_,rfl,by omega⟩
      obtain⟨qs,z,rfl⟩:=bi.last
      have T6:=T5.same s6
      have e6':=s6 _ _ e5
      obtain⟨b,eb,hb⟩:=bds_last T6
      refine⟨_,rfl,_,_,rfl,rfl,(by show (0:Int)<5;decide),g6,_,_,_,rfl,rfl,SqL.of e6,ev6,?_⟩
      have p12:(10:Int) ^ (12:Int).toNat=1000000000000:=by decide
      refine⟨_,rfl,_,rfl,l,_,_,_,rfl,rfl,SqL.of e6',eb,b,_,_,_,rfl,rfl,SqT.of hb,rfl,_,rfl,_,_,rfl,rfl,_,_,rfl,rfl,⟨by decide,by decide,by decide⟩,_,_,rfl,rfl,_,rfl,ite2 (fun e=>?_) (fun e=>?_)⟩
      · have e:=of_decide_eq_true e
        rw[p12] at e
        refine⟨_,rfl,.inl ⟨rfl,_,SqL.of e6'⟩,_,rfl,_,rfl,l,_,_,_,rfl,rfl,SqL.of e6',eb,b,_,_,_,rfl,rfl,SqT.of hb,rfl,_,rfl,_,_,rfl,rfl,_,rfl,_,rfl,_,_,rfl,rfl,c,_,rfl,fun p2 H7 hp2 s7=>⟨lenOk rfl,fun t2 H8 s8 n8 e8=>?_⟩⟩
        have e8l:=s8 _ _ (s7 _ _ e6')
        have fw:=bi.few
        refine⟨l,_,_,rfl,rfl,e8l,?_,?_⟩
        · rw[T5.len,List.length_map,sizeLine_eq]
          have:i<n.toNat:=hi
          omega
        · refine k5 _ _ ⟨_,_,_,qs++[z]++[(z.1+st,p2)],_,rfl,fun x o hx=>?_,⟨upd_same,?_⟩,bi.snoc st1 e hp2⟩
          · rw[upd_ne (ne_of_none hx l0)]
            exact s8 _ _ (s7 _ _ (s6 _ _ (s5 _ _ hx)))
          · rw[List.map_append]
            exact snoc_new ((T6.same s7)) (s7 _ _ e6') s8 e8
      · exact k5 _ _ ⟨_,_,_,_,_,rfl,s5.trans s6,⟨e6',T6⟩,bi.mono⟩
    · rintro σ H5 ⟨x3,x4,x5,ps,ys,rfl,s5,⟨e5,T5⟩,bi⟩
      refine⟨_,rfl,l,_,rfl,.inl ⟨SqL.of e5,fun u u0=>?_⟩⟩
      have su:Same H5 (upd H5 u (.tup ys)):=Same.upd u0
      exact q u ps _ (bi.done (by omega)) (s5.trans su) ⟨ys,upd_same,T5.same su⟩
theorem ok_plnG (F:Fun K "_law_plain" "_law_plain" (top 59) f fd) (C1:Cal P w K mg base CX0 2 "_law_amount" ["_law_cell","_law_k"] sp_amtR) (C2:Cal P w K mg base CX0 2 "_law_parts" ["_law_cell","_law_k"] sp_prtR) (C3:Cal P w K mg base CX0 2 "_law_way" ["_law_cell","_law_k"] sp_wayR) (C4:Cal P w K mg base CX0 3 "_law_pairs" ["_law_cell"] sp_prsR):FnOk P w K mg base CX0 4 f fd ["_law_cell","_law_name","_law_kind"] sp_plnG:=by
  refine F.ok (N:=["_law_cell","_law_name","_law_kind"]) ⟨rfl,rfl,rfl,by decide +kernel,rfl,by decide +kernel,by decide +kernel⟩ (fun vs H Q E h=>?_) (fun cdv A outer s H vs Q E hr h=>?_)
  · obtain⟨c,z,k,rfl,_⟩:=h
    rfl
  · obtain⟨c,z,k,rfl,hz,k0,k4,q⟩:=h
    refine⟨_,(pss_cons (ps_if (pt_cmpR op_eq (pv 2) pe_int (nomark _)) (pss_one (ps_ret (pe_tupS (pa_cons pe_str (pa_cons (pv 1) (pa_cons (pe_cal C1 hr (by decide) pass0 (pa_cons (pv 0) (pa_cons pe_int pa_nil))) pa_nil)))))) pss_nil)
        (pss_cons (ps_if (pt_cmpR op_eq (pv 2) pe_int (nomark _)) (pss_one (ps_ret (pe_tupS (pa_cons pe_str (pa_cons (pv 1) (pa_cons (pe_cal C2 hr (by decide) pass0 (pa_cons (pv 0) (pa_cons pe_int pa_nil))) (pa_cons (pe_cal C3 hr (by decide) pass0 (pa_cons (pv 0) (pa_cons pe_int pa_nil))) pa_nil))))))) pss_nil)
        (pss_cons (ps_if (pt_cmpR op_eq (pv 2) pe_int (nomark _)) (pss_one (ps_ret (pe_tupS (pa_cons pe_str (pa_cons (pv 1) (pa_cons (pe_cal C2 hr (by decide) pass0 (pa_cons (pv 0) (pa_cons pe_int pa_nil))) (pa_cons (pe_cal C1 hr (by decide) pass0 (pa_cons (pv 0) (pa_cons pe_int pa_nil))) (pa_cons (pe_cal C3 hr (by decide) pass0 (pa_cons (pv 0) (pa_cons pe_int pa_nil))) pa_nil)))))))) pss_nil)
        (pss_cons (ps_if (pt_cmpR op_eq (pv 2) pe_int (nomark _)) (pss_one (ps_ret (pe_tupS (pa_cons pe_str (pa_cons (pv 1) (pa_cons (pe_cal C2 hr (by decide) pass0 (pa_cons (pv 0) (pa_cons pe_int pa_nil))) (pa_cons (pe_cal C1 hr (by decide) pass0 (pa_cons (pv 0) (pa_cons pe_int pa_nil))) (pa_cons (pe_cal C3 hr (by decide) pass0 (pa_cons (pv 0) (pa_cons pe_int pa_nil))) pa_nil)))))))) pss_nil)
        (pss_one (ps_ret (pe_tupS (pa_cons pe_str (pa_cons (pv 1) (pa_cons (pe_cal C4 hr (by decide) pass0 (pa_cons (pv 0) pa_nil)) (pa_cons (pe_cal C3 hr (by decide) pass0 (pa_cons (pv 0) (pa_cons pe_int pa_nil))) pa_nil))))))))))),?_⟩
    refine⟨_,rfl,rfl,_,rfl,ite2 (fun e=>?_) (fun e=>?_)⟩
    · rw[dInt] at e
      exact⟨_,rfl,_,rfl,c,_,rfl,fun a H1 ha s1=>⟨lenOk rfl,fun t H2 s2 n2 e2=>q _ (.flat z a) H2 (.pln (.flat hz ha)) rfl e.symm (s1.trans s2) (.pln (Nat.le_of_ble_eq_true rfl) ⟨t,rfl,e2⟩)⟩⟩
    rw[dInt] at e
    refine⟨_,rfl,rfl,_,rfl,ite2 (fun e1=>?_) (fun e1=>?_)⟩
    · rw[dInt] at e1
      exact⟨_,rfl,_,rfl,c,_,rfl,fun p H1 hp s1=>⟨_,rfl,c,_,rfl,fun w H2 hw s2=>⟨lenOk rfl,fun t H3 s3 n3 e3=>q _ (.share z p w) H3 (.pln (.share hz hp hw)) rfl e1.symm (s1.trans (s2.trans s3)) (.pln (Nat.le_of_ble_eq_true rfl) ⟨t,rfl,e3⟩)⟩⟩⟩
    rw[dInt] at e1
    refine⟨_,rfl,rfl,_,rfl,ite2 (fun e2=>?_) (fun e2=>?_)⟩
    · rw[dInt] at e2
      exact⟨_,rfl,_,rfl,c,_,rfl,fun p H1 hp s1=>⟨_,rfl,c,_,rfl,fun a H2 ha s2=>⟨_,rfl,c,_,rfl,fun w H3 hw s3=>⟨lenOk rfl,fun t H4 s4 n4 e4=>q _ (.capped z p a w) H4 (.pln (.capped hz hp ha hw)) rfl e2.symm (s1.trans (s2.trans (s3.trans s4))) (.pln (Nat.le_of_ble_eq_true rfl) ⟨t,rfl,e4⟩)⟩⟩⟩⟩
    rw[dInt] at e2
    refine⟨_,rfl,rfl,_,rfl,ite2 (fun e3=>?_) (fun e3=>?_)⟩
    · rw[dInt] at e3
      exact⟨_,rfl,_,rfl,c,_,rfl,fun p H1 hp s1=>⟨_,rfl,c,_,rfl,fun a H2 ha s2=>⟨_,rfl,c,_,rfl,fun w H3 hw s3=>⟨lenOk rfl,fun t H4 s4 n4 e4=>q _ (.least z p a w) H4 (.pln (.least hz hp ha hw)) rfl e3.symm (s1.trans (s2.trans (s3.trans s4))) (.pln (Nat.le_of_ble_eq_true rfl) ⟨t,rfl,e4⟩)⟩⟩⟩⟩
    rw[dInt] at e3
    exact⟨_,rfl,_,rfl,c,rfl,fun u ps H1 hok s1 bd=>⟨_,rfl,c,_,rfl,fun w H2 hw s2=>⟨lenOk rfl,fun t H3 s3 n3 e3'=>q _ (.bands z ps w) H3 (.bands hz hok hw) rfl (by show (4:Int)=k;omega) (s1.trans (s2.trans s3)) (.bands e3' ((bd.same s2).same s3))⟩⟩⟩
end
end K09
namespace Pg
open PySem L2
noncomputable def NotName (K:PySem.W.Frag) (H:Hp) (x:V):Prop:=(∃ z,x = .str z∧nameB z=false∧z.length≤100)∨NoStr K H x
noncomputable def sp_wordB (K:PySem.W.Frag):Sp:=fun vs H Q _=>∃ v,vs=[v,.str "abcdefghijklmnopqrstuvwxyz"]∧((∃ z,v = .str z∧z.length≤100∧∀ H',Same H H'→Q (.bl (nameB z)) H')∨(NoStr K H v∧Q (.bl false) H))
noncomputable def sp_nameB (K:PySem.W.Frag):Sp:=fun vs H Q _=>∃ v,vs=[v]∧((∃ z,v = .str z∧z.length≤100∧∀ H',Same H H'→Q (.bl (nameB z)) H')∨(NoStr K H v∧Q (.bl false) H))
inductive DueV (K:PySem.W.Frag) (H:Hp):V→Bool→Prop where
  | good {t:Addr} {p:Str × Int}:H t=some (.tup (cP p))→NameOk p.1→DueV K H (.ref t) true
  | other {v:V} {t:Value}:TyOf K H v t→PySem.W.kitOne K t (.type "tuple")=some false→DueV K H v false
  | size {t:Addr} {xs:List V}:H t=some (.tup xs)→xs.length≠2→DueV K H (.ref t) false
  | name {t:Addr} {x y:V}:H t=some (.tup [x,y])→NotName K H x→DueV K H (.ref t) false
  | num {t:Addr} {z:Str} {y:V}:H t=some (.tup [.str z,y])→NameOk z→NoNum K H y→DueV K H (.ref t) false
noncomputable def sp_dueB (K:PySem.W.Frag):Sp:=fun vs H Q _=>∃ v b,vs=[v]∧DueV K H v b∧∀ H',Same H H'→Q (.bl b) H'
inductive BadD (K:PySem.W.Frag) (H:Hp):V→Prop where
  | other {v:V} {t:Value}:TyOf K H v t→PySem.W.kitOne K t (.type "list")=some false→BadD K H v
  | odd {l:Addr} {ts:List V} {bs:List Bool}:H l=some (.lst ts)→ts.length≤60→bs.length=ts.length→(∀ (j:Nat) x b,ts[j]? = some x→bs[j]? = some b→DueV K H x b)→bs.all id=false→BadD K H (.ref l)
  | twice {l:Addr} {ts:List V} {prs:List (Str × Int)}:H l=some (.lst ts)→TupsAt H ts (prs.map cP)→prs.length<64→(∀ p∈prs,NameOk p.1)→¬ (prs.map (·.1)).Nodup→BadD K H (.ref l)
noncomputable def sp_duesX (K:PySem.W.Frag) (cC:Addr):Sp:=fun vs H Q E=>∃ v,vs=[v]∧BadD K H v∧∀ H',Same H H'→E (.ref cC) none H'
noncomputable def Later (cl:V) (mo:Int):Prop:=cl = .non∨∃ c,cl = .int c∧c<mo
noncomputable def sp_laterE (K:PySem.W.Frag) (C cM cC:Addr):Sp:=fun vs H Q E=>∃ L dx t m cl v,vs=[.ref L,v]∧H L=some (.ins C dx (fsL t m cl)) ∧
  ((∃ mo,v = .int mo∧0≤mo∧mo≤119999∧((Later cl mo∧Q .non H)∨∃ c,cl = .int c∧mo≤c∧E (.ref cC) none H))∨(NotTo K H 119999 v∧E (.ref cM) none H))
noncomputable def RF (K:PySem.W.Frag) (H:Hp) (cl:V) (i:Nat) (v u:V):Prop:=(i=3∧NotTo K H 119999 v)∨(i=13∧∃ mo,v = .int mo∧0≤mo∧mo≤119999∧((∃ c,cl = .int c∧mo≤c)∨(Later cl mo∧BadD K H u)))
noncomputable def sp_closeX (K:PySem.W.Frag) (C:Addr) (d:Nat→Addr):Sp:=fun vs H Q E=>∃ L dx t m cl v u i,vs=[.ref L,v,u]∧H L=some (.ins C dx (fsL t m cl))∧RF K H cl i v u∧∀ H',Same H H'→E (.ref (d i)) none H'
noncomputable def kW (i:Nat):List V:=((kPairs i).filter (·.2)).map fun p=>V.str p.1
noncomputable def sp_kindB (K:PySem.W.Frag) (d:Nat→Addr):Sp:=fun vs H Q _=>∃ ea C i,vs=[.ref ea]∧Held K H ea C∧KdOf K d C i∧∀ l H',Same H H'→H l=none→H' l=some (.lst (kW i))→Q (.ref l) H'
noncomputable def sp_refC (K:PySem.W.Frag) (C:Addr):Sp:=fun vs H Q _=>∃ L dx t m cl v u i,vs=[.ref L,v,u]∧H L=some (.ins C dx (fsL t m cl))∧RF K H cl i v u∧∀ l H',Same H H'→H l=none→H' l=some (.lst (kW i))→Q (.ref l) H'
noncomputable def stV (tot:List (Str × Int)) (pl:Addr) (cl:V):List V:=[.int (getT tot "bo"),.int (getT tot "eve"),.ref pl,cl]
noncomputable def sp_stC (C:Addr):Sp:=fun vs H Q _=>∃ L dx t m cl tot mds,vs=[.ref L]∧LedAt C H L dx t m cl tot mds∧∀ l pl ys H',Same H H'→H l=none→H' l=some (.lst (stV tot pl cl))→H' pl=some (.lst ys)→TupsAt H' ys (mds.map cM)→Q (.ref l) H'
noncomputable def sp_oddM (K:PySem.W.Frag):Sp:=fun vs H Q _=>∃ c la,vs=[.int c,.int la]∧0≤c∧∀ v H',Same H H'→NotTo K H' 119999 v→Q v H'
noncomputable def sp_oddP (K:PySem.W.Frag):Sp:=fun vs H Q _=>∃ c,vs=[.int c]∧∀ v H',Same H H'→DueV K H' v false→Q v H'
noncomputable def LsNew (K:PySem.W.Frag) (H H':Hp) (v:V):Prop:=(∃ l ts,v = .ref l∧H l=none∧H' l=some (.lst ts))∨∃ t,TyOf K H' v t∧PySem.W.kitOne K t (.type "list")=some false
noncomputable def sp_badD (K:PySem.W.Frag):Sp:=fun vs H Q _=>∃ dl t n c,vs=[.ref dl,.int c]∧H dl=some (.lst [.ref t])∧H t=some (.tup (cP ("eve",n)))∧0≤c∧∀ v H',Same H H'→BadD K H' v→LsNew K H H' v→Q v H'
noncomputable def dSt (tot:List (Str × Int)) (mds:List (Int × Str × Int)) (cl:V):Dt:=.l [.v (.int (getT tot "bo")),.v (.int (getT tot "eve")),.l (mds.map fun p=>Dt.t ((cM p).map Dt.v)),.v cl]
structure LgK (i:Nat) (mo:Int) (cl:V) (tot:List (Str × Int)) (mds:List (Int × Str × Int)):Prop where
  cl:cl = .non∨cl = .int mo
  lo:0≤mo
  hi:mo≤100000+15*(i:Int)
  mn:mds.length≤2*i
  tn:tot.length≤2*i
  zd:getT tot "zed" = 0
noncomputable def DuOk (K:PySem.W.Frag) (H:Hp) (L t m:Addr) (v:V):Prop:=(∃ l ts,v = .ref l∧H l=some (.lst ts)∧l≠L∧l≠t∧l≠m)∨∃ ty,TyOf K H v ty∧PySem.W.kitOne K ty (.type "list")=some false
end Pg
namespace K09
open PySem PySem.NumText L2 Pg
seal PE PA PT PW PS PSs PG PGs PI PIf PO PK
section
variable {P:Program} {w:World} {K:PySem.W.Frag} {mg:Str→Option Value} {base:Heap} {f:Addr} {fd:FuncData} {d:Nat→Addr} {cR:Addr}
theorem ok_wordB (F:Fun K "is_word_of" "is_word_of" (top 28) f fd) (G:Glb mg) (N1:Num mg "MOST_SIGNS" 8):FnOk P w K mg base CX0 1 f fd ["thing","signs"] (sp_wordB K):=by
  obtain⟨tm,hm⟩:=N1
  have nc:(["sign","signs"]:List Str).Nodup:=by decide +kernel
  refine F.ok (N:=["thing","signs"]) ⟨rfl,rfl,rfl,by decide +kernel,rfl,by decide +kernel,by decide +kernel⟩ (fun vs H Q E h=>?_) (fun cdv A outer s H vs Q E hr h=>?_)
  · obtain⟨z,rfl,_⟩:=h
    rfl
  · obtain⟨v,rfl,h⟩:=h
    refine' ⟨_,(pss_cons (ps_if (pt_not (pt_val (pe_callB call_isinst rfl G.isinstance boot_isinstance (pa_cons (pv 0) (pa_cons (pe_bltn (v:=.ty "str") rfl G.str boot_str rfl) pa_nil))))) (pss_one (ps_ret pe_bl)) pss_nil)
        (pss_cons (ps_if (PW.pt (pw_or (pt_cmpR op_lt (pe_callB call_len_str rfl G.len boot_len (pa_cons (pv 0) pa_nil)) pe_int (nomark _)) (pw_or1 (pt_cmpR op_gt (pe_callB call_len_str rfl G.len boot_len (pa_cons (pv 0) pa_nil)) (pe_glob (v:=.int 8) rfl hm ⟨_,rfl⟩) (nomark _))))) (pss_one (ps_ret pe_bl)) pss_nil)
        (pss_one (ps_ret (pe_callB (call_allL rfl) rfl G.all boot_all (pa_cons ?comp pa_nil)))))),?main⟩
    case comp =>
      refine' pe_compI (Nc:=["sign","signs"]) (cl:=[("signs",s.heap.objs.size+1)]) (src:=[none,some 1]) (wi:=iStr (tVar 0)) (g:=gName 0) (tt:=tNoIf) (te:=tOp (fun x y H Q=>∃ i j,x = .str i∧y = .str j∧Q (.bl (!(Builtin.Str.occurrences j i 0 j.length 1).isEmpty)) H) (tVar 0) (tVar 1)) ⟨rfl,rfl,by decide +kernel,by decide +kernel,sub_of (sub1 rfl),has_of (by rfl),frm_none (frm_some ⟨_,rfl,rfl,rfl,rfl⟩ frm_nil),rfl⟩ rfl (pi_str (pv 0)) ?hb
      case hb =>
        intro fp C' s' H'
        exact⟨pg_name (i:=0) nc rfl (Or.inl rfl),pif_nil,pe_cmpR op_in_str (pv 0) (pv 1) (by rfl)⟩
    rcases h with ⟨z,rfl,zl,q⟩ | ⟨⟨r,hr',ty,ne⟩,q⟩
    · have fit:z.length≤sizeLine:=by rw[sizeLine_eq];omega
      refine⟨_,rfl,_,_,_,_,true,rfl,rfl,.inl (.str z),rfl,true,rfl,iteF ?_⟩
      refine⟨_,rfl,z,rfl,fit,_,_,rfl,rfl,_,rfl,ite2 (fun e=>iteT ?_) (fun e=>⟨_,rfl,z,rfl,fit,_,_,rfl,rfl,_,rfl,ite2 (fun e2=>?_) (fun e2=>?_)⟩)⟩
      · have e:=of_decide_eq_true e
        have nb:nameB z=false:=by unfold nameB;rw[decide_eq_false (show ¬ 1≤z.length by omega)];rfl
        rw[nb] at q
        exact q H (Same.refl _)
      · have e2:=of_decide_eq_true e2
        have nb:nameB z=false:=by unfold nameB;rw[decide_eq_false (show ¬ z.length≤8 by omega),Bool.and_false];rfl
        rw[nb] at q
        exact q H (Same.refl _)
      · have l1:1≤z.length:=by
          have e:¬ ((z.length:Nat):Int)<1:=fun c=>e (decide_eq_true c)
          omega
        have l8:z.length≤8:=by
          have e2:¬ (8:Int)<((z.length:Nat):Int):=fun c=>e2 (decide_eq_true c)
          omega
        refine⟨_,rfl,z,rfl,fun D hD=>?_⟩
        refine comp_fm (walk_str (z:=z)) hD (by rw[List.length_map,← len_codes,sizeLine_eq];omega) (fun _=>true) (fun x=>match x with | .str y=>.bl (isL (y.cps.getD 0 0)) | v=>v) (fun x _ H' R _ r=>r) (fun x hx _ H' R _ r=>?_) ?_
        · obtain⟨c,_,rfl⟩:=List.mem_map.mp hx
          refine⟨_,rfl,_,rfl,_,_,rfl,rfl,?_⟩
          rw[letter_in]
          exact r
        · rw[List.filter_eq_self.mpr fun _ _=>rfl,List.map_map]
          refine⟨D,z.cps.toList.map isL,rfl,SqL.of (by rw[List.map_map];exact upd_same),?_⟩
          have e2:(z.cps.toList.map isL).all id=nameB z:=by
            unfold nameB
            rw[List.all_map,decide_eq_true l1,decide_eq_true l8]
            rfl
          rw[e2]
          exact q _ (Same.upd hD)
    · obtain⟨_,_,k3,_⟩:=kit_tab (K:=K) r hr'
      have e:r.2.2.2.1=false:=by
        simp only[numT,List.mem_cons,List.not_mem_nil,or_false] at hr'
        rcases hr' with rfl | rfl | rfl | rfl | rfl | rfl | rfl <;> first | rfl | (exact absurd rfl ne)
      rw[e] at k3
      exact⟨_,rfl,_,_,_,_,false,rfl,rfl,.inl ty,k3,false,rfl,iteT q⟩
theorem ok_nameB (F:Fun K "is_name" "is_name" (top 29) f fd) (N1:Txt mg "LETTERS" "abcdefghijklmnopqrstuvwxyz") (C1:Cal P w K mg base CX0 1 "is_word_of" ["thing","signs"] (sp_wordB K)):FnOk P w K mg base CX0 2 f fd ["thing"] (sp_nameB K):=by
  obtain⟨tm,hm⟩:=N1
  refine F.ok (N:=["thing"]) ⟨rfl,rfl,rfl,by decide +kernel,rfl,by decide +kernel,by decide +kernel⟩ (fun vs H Q E h=>?_) (fun cdv A outer s H vs Q E hr h=>?_)
  · obtain⟨z,rfl,_⟩:=h
    rfl
  · obtain⟨v,rfl,h⟩:=h
    exact⟨_,pss_one (ps_ret (pe_cal C1 hr (by decide) pass0 (pa_cons (pv 0) (pa_cons (pe_glob (v:=.str "abcdefghijklmnopqrstuvwxyz") rfl hm ⟨_,rfl⟩) pa_nil)))),_,rfl,v,rfl,h⟩
end
end K09
namespace Pg
open PySem L2
theorem Gd.le {d e:Nat} {r:Rk} (h:Gd d r) (le:d≤e):Gd e r:=by
  induction le with
  | refl=>exact h
  | step _ ih=>exact ih.mono
noncomputable def sp_onT (K:PySem.W.Frag) (Cs:Nat→Addr):Sp:=fun vs H Q _=>∃ o v r b bs,vs=[o,v,.ref b]∧RoG Cs H r o∧RtG H r v∧Gd 3 r∧r.kd=5∧SqL K H b (bs.map V.int)∧bs.length≤100∧Nns bs∧∀ H',Same H H'→Q (.bl true) H'
noncomputable def sp_turn (K:PySem.W.Frag):Sp:=fun vs H Q _=>∃ (b:Addr) (bs:List Int) (c:Int),vs=[.ref b,.int c]∧SqL K H b (bs.map V.int)∧bs.length≤50∧∀ (cs:List Int) l H',cs.Perm bs→Same H H'→H' l=some (.lst (cs.map V.int))→Q (.ref l) H'
end Pg
namespace K09
open PySem PySem.NumText L2 Pg
seal PE PA PT PW PS PSs PG PGs PI PIf PO PK
section
variable {P:Program} {w:World} {K:PySem.W.Frag} {mg:Str→Option Value} {base:Heap} {f:Addr} {fd:FuncData} {d:Nat→Addr} {cR:Addr}
theorem ok_madN0 {Cs:Nat→Addr} {j:Nat}:FnOk P w K mg base CX0 j f fd ["_law_rule_here"] (sp_madN Cs 0):=⟨fun _ _ _ _ h=>h.elim,fun _ _ _ _ _ _ _ _ _ _ _ _ _ h=>h.elim⟩
set_option maxHeartbeats 8000000 in
theorem ok_madN {Cs:Nat→Addr} {d j:Nat} (hd:d≤3) (hj:17≤j) (F:Fun K "_law_made" "_law_made" (top 61) f fd) (C:Cal P w K mg base CX0 j "_law_made" ["_law_rule_here"] (sp_madN Cs d)) (N0:CalN P w K mg base CX0 5 "Flat" (Cs 0) ["self","name","amount"] (sp_kinit 0 Cs)) (N1:CalN P w K mg base CX0 5 "Share" (Cs 1) ["self","name","parts","way"] (sp_kinit 1 Cs)) (N2:CalN P w K mg base CX0 5 "Capped" (Cs 2) ["self","name","parts","most","way"] (sp_kinit 2 Cs)) (N3:CalN P w K mg base CX0 5 "Least" (Cs 3) ["self","name","parts","least","way"] (sp_kinit 3 Cs))
    (N4:CalN P w K mg base CX0 6 "Bands" (Cs 4) ["self","name","rows","way"] (sp_binit (Cs 4))) (N5:CalN P w K mg base CX0 16 "OnTop" (Cs 5) ["self","name","parts","way","rule"] (sp_oinit 2 Cs)):FnOk P w K mg base CX0 (j+1) f fd ["_law_rule_here"] (sp_madN Cs (d+1)):=by
  refine F.ok (N:=["_law_rule_here"]) ⟨rfl,rfl,rfl,by decide +kernel,rfl,by decide +kernel,by decide +kernel⟩ (fun vs H Q E h=>?_) (fun cdv A outer s H vs Q E hr h=>?_)
  · obtain⟨v,r,rfl,_⟩:=h
    rfl
  · obtain⟨v,r,rfl,rt,gd,q⟩:=h
    have hr7:Room (5+1) (A.deeper _):=hr.mono (by omega)
    have hr8:Room (6+1) (A.deeper _):=hr.mono (by omega)
    have hr17:Room (16+1) (A.deeper _):=hr.mono (by omega)
    refine⟨_,(pss_cons (ps_if (pt_cmpR op_eq (pe_at ix_tup (pv 0) pe_int) pe_str (nomark _)) (pss_one (ps_ret (pe_calN (j:=5) N0 hr7 (by decide) pass0 (pa_cons (pe_at ix_tup (pv 0) pe_int) (pa_cons (pe_at ix_tup (pv 0) pe_int) pa_nil))))) pss_nil)
        (pss_cons (ps_if (pt_cmpR op_eq (pe_at ix_tup (pv 0) pe_int) pe_str (nomark _)) (pss_one (ps_ret (pe_calN (j:=5) N1 hr7 (by decide) pass0 (pa_cons (pe_at ix_tup (pv 0) pe_int) (pa_cons (pe_at ix_tup (pv 0) pe_int) (pa_cons (pe_at ix_tup (pv 0) pe_int) pa_nil)))))) pss_nil)
        (pss_cons (ps_if (pt_cmpR op_eq (pe_at ix_tup (pv 0) pe_int) pe_str (nomark _)) (pss_one (ps_ret (pe_calN (j:=5) N2 hr7 (by decide) pass0 (pa_cons (pe_at ix_tup (pv 0) pe_int) (pa_cons (pe_at ix_tup (pv 0) pe_int) (pa_cons (pe_at ix_tup (pv 0) pe_int) (pa_cons (pe_at ix_tup (pv 0) pe_int) pa_nil))))))) pss_nil)
        (pss_cons (ps_if (pt_cmpR op_eq (pe_at ix_tup (pv 0) pe_int) pe_str (nomark _)) (pss_one (ps_ret (pe_calN (j:=5) N3 hr7 (by decide) pass0 (pa_cons (pe_at ix_tup (pv 0) pe_int) (pa_cons (pe_at ix_tup (pv 0) pe_int) (pa_cons (pe_at ix_tup (pv 0) pe_int) (pa_cons (pe_at ix_tup (pv 0) pe_int) pa_nil))))))) pss_nil)
        (pss_cons (ps_if (pt_cmpR op_eq (pe_at ix_tup (pv 0) pe_int) pe_str (nomark _)) (pss_one (ps_ret (pe_calN (j:=6) N4 hr8 (by decide) pass0 (pa_cons (pe_at ix_tup (pv 0) pe_int) (pa_cons (pe_at ix_tup (pv 0) pe_int) (pa_cons (pe_at ix_tup (pv 0) pe_int) pa_nil)))))) pss_nil)
        (pss_one (ps_ret (pe_calN (j:=16) N5 hr17 (by decide) pass0 (pa_cons (pe_at ix_tup (pv 0) pe_int) (pa_cons (pe_at ix_tup (pv 0) pe_int) (pa_cons (pe_at ix_tup (pv 0) pe_int) (pa_cons (pe_cal C hr (Nat.le_refl _) pass0 (pa_cons (pe_at ix_tup (pv 0) pe_int) pa_nil)) pa_nil)))))))))))),?_⟩
    cases gd with
    | pln pl =>
      have pl0:=pl
      cases pl with
      | @flat n a hn ha =>
        cases rt with
        | pln _ ra =>
          obtain⟨t,rfl,ht⟩:=ra
          exact⟨_,rfl,t,_,_,_,rfl,rfl,SqT.of ht,rfl,rfl,_,rfl,iteSt ⟨_,rfl,t,_,_,_,rfl,rfl,SqT.of ht,rfl,_,rfl,t,_,_,_,rfl,rfl,SqT.of ht,rfl,fun o dx o0 d0 ne=>⟨o,dx,.flat n a,rfl,rfl,pl0,upd_same,fun H' fr e=>⟨rfl,q _ H' (made_same o0 d0 fr) (.pln (Nat.le_of_ble_eq_true rfl) ⟨o,dx,rfl,e⟩)⟩⟩⟩⟩
      | @share n p w hn hp hw =>
        cases rt with
        | pln _ ra =>
          obtain⟨t,rfl,ht⟩:=ra
          exact⟨_,rfl,t,_,_,_,rfl,rfl,SqT.of ht,rfl,rfl,_,rfl,iteSf n_fs ⟨_,rfl,t,_,_,_,rfl,rfl,SqT.of ht,rfl,rfl,_,rfl,iteSt ⟨_,rfl,t,_,_,_,rfl,rfl,SqT.of ht,rfl,_,rfl,t,_,_,_,rfl,rfl,SqT.of ht,rfl,_,rfl,t,_,_,_,rfl,rfl,SqT.of ht,rfl,fun o dx o0 d0 ne=>⟨o,dx,.share n p w,rfl,rfl,pl0,upd_same,fun H' fr e=>⟨rfl,q _ H' (made_same o0 d0 fr) (.pln (Nat.le_of_ble_eq_true rfl) ⟨o,dx,rfl,e⟩)⟩⟩⟩⟩⟩
      | @capped n p m w hn hp ha hw =>
        cases rt with
        | pln _ ra =>
          obtain⟨t,rfl,ht⟩:=ra
          exact⟨_,rfl,t,_,_,_,rfl,rfl,SqT.of ht,rfl,rfl,_,rfl,iteSf n_cf ⟨_,rfl,t,_,_,_,rfl,rfl,SqT.of ht,rfl,rfl,_,rfl,iteSf n_cs ⟨_,rfl,t,_,_,_,rfl,rfl,SqT.of ht,rfl,rfl,_,rfl,iteSt ⟨_,rfl,t,_,_,_,rfl,rfl,SqT.of ht,rfl,_,rfl,t,_,_,_,rfl,rfl,SqT.of ht,rfl,_,rfl,t,_,_,_,rfl,rfl,SqT.of ht,rfl,_,rfl,t,_,_,_,rfl,rfl,SqT.of ht,rfl,fun o dx o0 d0 ne=>⟨o,dx,.capped n p m w,rfl,rfl,pl0,upd_same,fun H' fr e=>⟨rfl,q _ H' (made_same o0 d0 fr) (.pln (Nat.le_of_ble_eq_true rfl) ⟨o,dx,rfl,e⟩)⟩⟩⟩⟩⟩⟩
      | @least n p m w hn hp ha hw =>
        cases rt with
        | pln _ ra =>
          obtain⟨t,rfl,ht⟩:=ra
          exact⟨_,rfl,t,_,_,_,rfl,rfl,SqT.of ht,rfl,rfl,_,rfl,iteSf n_lf ⟨_,rfl,t,_,_,_,rfl,rfl,SqT.of ht,rfl,rfl,_,rfl,iteSf n_ls ⟨_,rfl,t,_,_,_,rfl,rfl,SqT.of ht,rfl,rfl,_,rfl,iteSf n_lc ⟨_,rfl,t,_,_,_,rfl,rfl,SqT.of ht,rfl,rfl,_,rfl,iteSt ⟨_,rfl,t,_,_,_,rfl,rfl,SqT.of ht,rfl,_,rfl,t,_,_,_,rfl,rfl,SqT.of ht,rfl,_,rfl,t,_,_,_,rfl,rfl,SqT.of ht,rfl,_,rfl,t,_,_,_,rfl,rfl,SqT.of ht,rfl,fun o dx o0 d0 ne=>⟨o,dx,.least n p m w,rfl,rfl,pl0,upd_same,fun H' fr e=>⟨rfl,q _ H' (made_same o0 d0 fr) (.pln (Nat.le_of_ble_eq_true rfl) ⟨o,dx,rfl,e⟩)⟩⟩⟩⟩⟩⟩⟩
    | @bands _ n x ps hn ok hw =>
      cases rt with
      | pln kk _=>exact absurd kk (by show ¬ (4:Nat)<4;decide)
      | @bands _ _ _ t u ht bd =>
        refine⟨_,rfl,t,_,_,_,rfl,rfl,SqT.of ht,rfl,rfl,_,rfl,iteSf n_bf ⟨_,rfl,t,_,_,_,rfl,rfl,SqT.of ht,rfl,rfl,_,rfl,iteSf n_bs ⟨_,rfl,t,_,_,_,rfl,rfl,SqT.of ht,rfl,rfl,_,rfl,iteSf n_bc ⟨_,rfl,t,_,_,_,rfl,rfl,SqT.of ht,rfl,rfl,_,rfl,iteSf n_bl ⟨_,rfl,t,_,_,_,rfl,rfl,SqT.of ht,rfl,rfl,_,rfl,iteSt ?_⟩⟩⟩⟩⟩
        refine⟨_,rfl,t,_,_,_,rfl,rfl,SqT.of ht,rfl,_,rfl,t,_,_,_,rfl,rfl,SqT.of ht,rfl,_,rfl,t,_,_,_,rfl,rfl,SqT.of ht,rfl,fun o dx o0 dx0 ne=>⟨o,dx,n,u,ps,x,rfl,hn,ok,hw,bd.same (Same.made o0 dx0),upd_same,fun H' u' fr ho' bd'=>⟨rfl,q _ H' (made_same o0 dx0 fr) (.bands ho' bd')⟩⟩⟩
    | @ontop d n x p r' hn hp hw gd =>
      cases rt with
      | pln kk _=>exact absurd kk (by show ¬ (5:Nat)<4;decide)
      | @ontop _ _ _ _ t y ht rti =>
        refine⟨_,rfl,t,_,_,_,rfl,rfl,SqT.of ht,rfl,rfl,_,rfl,iteSf n_of ⟨_,rfl,t,_,_,_,rfl,rfl,SqT.of ht,rfl,rfl,_,rfl,iteSf n_os ⟨_,rfl,t,_,_,_,rfl,rfl,SqT.of ht,rfl,rfl,_,rfl,iteSf n_oc ⟨_,rfl,t,_,_,_,rfl,rfl,SqT.of ht,rfl,rfl,_,rfl,iteSf n_ol ⟨_,rfl,t,_,_,_,rfl,rfl,SqT.of ht,rfl,rfl,_,rfl,iteSf n_ob ?_⟩⟩⟩⟩⟩
        exact⟨_,rfl,t,_,_,_,rfl,rfl,SqT.of ht,rfl,_,rfl,t,_,_,_,rfl,rfl,SqT.of ht,rfl,_,rfl,t,_,_,_,rfl,rfl,SqT.of ht,rfl,_,rfl,t,_,_,_,rfl,rfl,SqT.of ht,rfl,_,r',rfl,rti,gd,fun u H2 s2 ro=>fun o dx o0 dx0 ne=>⟨o,dx,n,p,x,u,r',rfl,hn,hp,hw,ro.same (Same.made o0 dx0),gd.le (by omega),upd_same,fun H' u' fr ho' ri'=>⟨rfl,q _ H' (s2.trans (made_same o0 dx0 fr)) (.ontop ho' ri')⟩⟩⟩
end
end K09
namespace L2
open PySem
theorem CalN.mono {P:Program} {w:World} {K:PySem.W.Frag} {mg:Str→Option Value} {base:Heap} {CX:CXT} {j k:Nat} {C:Addr} {x:Str} {ps:List Str} {sp:Sp} (M:CalN P w K mg base CX j x C ps sp) (h:j≤k):CalN P w K mg base CX k x C ps sp:=by
  obtain⟨a,f,fd,b,c,F⟩:=M
  exact⟨a,f,fd,b,c,F.mono h⟩
end L2
namespace Pg
open PySem L2
theorem ne_of_beq {a b:Nat} (h:(!(Nat.beq a b))=true):a≠b:=fun e=>by
  subst e
  rw[Nat.beq_refl] at h
  cases h
section
variable {P:Program} {w:World} {K:PySem.W.Frag} {mg:Str→Option Value} {base:Heap} {CX:CXT} {j d:Nat} {Cs:Nat→Addr}
theorem depG_le {d e k:Nat} {Cs:Nat→Addr} (h:d≤e):∀ vs H Q E,sp_depG d k Cs vs H Q E→sp_depG e k Cs vs H Q E:=by
  rintro vs H Q E ⟨v,r,rfl,h1,h2,h3,h4⟩
  exact⟨v,r,rfl,h1,h2,h3.le h,h4⟩
theorem twin_le {d e k:Nat} {Cs:Nat→Addr} (h:d≤e):∀ vs H Q E,sp_twin d k Cs vs H Q E→sp_twin e k Cs vs H Q E:=by
  rintro vs H Q E ⟨v,r,rfl,h1,h2,h3,h4⟩
  exact⟨v,r,rfl,h1,h2,h3.le h,h4⟩
theorem md_mk (D0:CalM P w K mg base CX 1 (Cs 0) "depth" ["self"] (sp_depG 3 0 Cs)) (D1:CalM P w K mg base CX 1 (Cs 1) "depth" ["self"] (sp_depG 3 1 Cs)) (D2:CalM P w K mg base CX 1 (Cs 2) "depth" ["self"] (sp_depG 3 2 Cs)) (D3:CalM P w K mg base CX 1 (Cs 3) "depth" ["self"] (sp_depG 3 3 Cs)) (D4:CalM P w K mg base CX 1 (Cs 4) "depth" ["self"] (sp_depG 3 4 Cs)) (hd:d≤3) (hj:1≤j) (D5:CalM P w K mg base CX j (Cs 5) "depth" ["self"] (sp_depG d 5 Cs)) :
    ∀ k,k<6→CalM P w K mg base CX j (Cs k) "depth" ["self"] (sp_depG d k Cs) :=
  six6 ((D0.imp (depG_le hd)).mono hj) ((D1.imp (depG_le hd)).mono hj) ((D2.imp (depG_le hd)).mono hj) ((D3.imp (depG_le hd)).mono hj) ((D4.imp (depG_le hd)).mono hj) D5
theorem mt_mk (T0:CalM P w K mg base CX 7 (Cs 0) "twin" ["self"] (sp_twin 3 0 Cs)) (T1:CalM P w K mg base CX 7 (Cs 1) "twin" ["self"] (sp_twin 3 1 Cs)) (T2:CalM P w K mg base CX 7 (Cs 2) "twin" ["self"] (sp_twin 3 2 Cs)) (T3:CalM P w K mg base CX 7 (Cs 3) "twin" ["self"] (sp_twin 3 3 Cs)) (T4:CalM P w K mg base CX 8 (Cs 4) "twin" ["self"] (sp_twin 3 4 Cs)) (hd:d≤3) (hj:8≤j) (T5:CalM P w K mg base CX j (Cs 5) "twin" ["self"] (sp_twin d 5 Cs)) :
    ∀ k,k<6→CalM P w K mg base CX j (Cs k) "twin" ["self"] (sp_twin d k Cs) :=
  six6 ((T0.imp (twin_le hd)).mono (by omega)) ((T1.imp (twin_le hd)).mono (by omega)) ((T2.imp (twin_le hd)).mono (by omega)) ((T3.imp (twin_le hd)).mono (by omega)) ((T4.imp (twin_le hd)).mono hj) T5
end
noncomputable def rnB (z:Str):Bool:=nameB z && !noNames.contains z
noncomputable def NmV (K:PySem.W.Frag) (H:Hp) (v:V) (b:Bool):Prop:=(∃ z,v = .str z∧z.length≤100∧b=rnB z)∨(NoStr K H v∧b=false)
noncomputable def NuV (K:PySem.W.Frag) (H:Hp) (m:Int) (v:V) (b:Bool):Prop:=(∃ z,v = .int z∧b=decide (0≤z∧z≤m))∨(NoNum K H v∧b=false)
noncomputable def WyV (K:PySem.W.Frag) (H:Hp) (v:V) (b:Bool):Prop:=(∃ z,v = .str z∧b=wayL.contains z)∨(NoStr K H v∧b=false)
section
variable {K:PySem.W.Frag} {H H':Hp} {v:V} {b:Bool} {m:Int} {o C dx:Addr} {fs:List (Str × V)}
theorem NmV.same (s:Same H H') (h:NmV K H v b):NmV K H' v b:=h.imp id fun h=>⟨h.1.same s,h.2⟩
theorem NuV.same (s:Same H H') (h:NuV K H m v b):NuV K H' m v b:=h.imp id fun h=>⟨h.1.same s,h.2⟩
theorem WyV.same (s:Same H H') (h:WyV K H v b):WyV K H' v b:=h.imp id fun h=>⟨h.1.same s,h.2⟩
theorem TyB.fr {t:String} (ho:H o=some (.ins C dx fs)) (f:∀ b x,H b=some x→b≠o→H' b=some x) (h:TyOf K H v (.type t)):TyOf K H' v (.type t):=by
  cases h with
  | non=>exact .non
  | bl x=>exact .bl x
  | int i=>exact .int i
  | str x=>exact .str x
  | flt x=>exact .flt x
  | lst e=>exact .lst (f _ _ e (ne_of e ho (by intro z;cases z)))
  | frz e=>exact .frz (f _ _ e (ne_of e ho (by intro z;cases z)))
  | tup e=>exact .tup (f _ _ e (ne_of e ho (by intro z;cases z)))
  | dK e=>exact .dK (f _ _ e (ne_of e ho (by intro z;cases z)))
  | dT e=>exact .dT (f _ _ e (ne_of e ho (by intro z;cases z)))
theorem NuV.fr (ho:H o=some (.ins C dx fs)) (f:∀ b x,H b=some x→b≠o→H' b=some x) (h:NuV K H m v b):NuV K H' m v b:=by
  rcases h with h | ⟨⟨r,hr,ty,ne⟩,e⟩
  · exact .inl h
  · exact .inr ⟨⟨r,hr,TyB.fr ho f ty,ne⟩,e⟩
theorem WyV.fr (ho:H o=some (.ins C dx fs)) (f:∀ b x,H b=some x→b≠o→H' b=some x) (h:WyV K H v b):WyV K H' v b:=by
  rcases h with h | ⟨⟨r,hr,ty,ne⟩,e⟩
  · exact .inl h
  · exact .inr ⟨⟨r,hr,TyB.fr ho f ty,ne⟩,e⟩
end
inductive RwV (K:PySem.W.Frag) (H:Hp):V→Option (Int × Int)→Prop where
  | pair {t:Addr} {p:Int × Int}:H t=some (.tup (cB p))→Amt p.1→Prt p.2→RwV K H (.ref t) (some p)
  | other {v:V} {t:String}:TyOf K H v (.type t)→PySem.W.kitOne K (.type t) (.type "tuple")=some false→RwV K H v none
  | size {t:Addr} {xs:List V}:H t=some (.tup xs)→xs.length≠2→RwV K H (.ref t) none
  | odd {t:Addr} {x y:V} {b1 b2:Bool}:H t=some (.tup [x,y])→NuV K H 1000000000000 x b1→NuV K H 20000 y b2→(b1&&b2)=false→RwV K H (.ref t) none
theorem RwV.same {K:PySem.W.Frag} {H H':Hp} {v:V} {p:Option (Int × Int)} (s:Same H H') (h:RwV K H v p):RwV K H' v p:=by
  cases h with
  | pair a b c=>exact .pair (s _ _ a) b c
  | other a b=>exact .other (a.same s) b
  | size a b=>exact .size (s _ _ a) b
  | odd a b c d=>exact .odd (s _ _ a) (b.same s) (c.same s) d
theorem RwV.fr {K:PySem.W.Frag} {H H':Hp} {v:V} {p:Option (Int × Int)} {o C dx:Addr} {fs:List (Str × V)} (ho:H o=some (.ins C dx fs)) (f:∀ b x,H b=some x→b≠o→H' b=some x) (h:RwV K H v p):RwV K H' v p:=by
  have ft:∀ b c,H b=some (.tup c)→H' b=some (.tup c):=fun b c h=>f _ _ h (ne_of h ho (by intro z;cases z))
  cases h with
  | pair a b c=>exact .pair (ft _ _ a) b c
  | other a b=>exact .other (TyB.fr ho f a) b
  | size a b=>exact .size (ft _ _ a) b
  | odd a b c d=>exact .odd (ft _ _ a) (b.fr ho f) (c.fr ho f) d
noncomputable def adjB:List Int→Bool
  | a::b::l=>decide (a<b)&&adjB (b::l)
  | _=>true
noncomputable def bdB (os:List (Option (Int × Int))):Bool:=decide (1≤os.length∧os.length≤12)&&(os.all Option.isSome&&(decide ((os.filterMap fun o=>o.map (·.1)).head? = some 0)&&adjB (os.filterMap fun o=>o.map (·.1))))
inductive BdV (K:PySem.W.Frag) (H:Hp):V→Bool→Prop where
  | other {v:V} {t:String}:TyOf K H v (.type t)→PySem.W.kitOne K (.type t) (.type "tuple")=some false→BdV K H v false
  | rows {t:Addr} {xs:List V} {os:List (Option (Int × Int))}:H t=some (.tup xs)→xs.length=os.length→xs.length≤20→(∀ (j:Nat) x o,xs[j]? = some x→os[j]? = some o→RwV K H x o)→BdV K H (.ref t) (bdB os)
theorem BdV.same {K:PySem.W.Frag} {H H':Hp} {v:V} {b:Bool} (s:Same H H') (h:BdV K H v b):BdV K H' v b:=by
  cases h with
  | other a b=>exact .other (a.same s) b
  | rows a b c d=>exact .rows (s _ _ a) b c fun j x o h1 h2=>(d j x o h1 h2).same s
theorem BdV.fr {K:PySem.W.Frag} {H H':Hp} {v:V} {b:Bool} {o C dx:Addr} {fs:List (Str × V)} (ho:H o=some (.ins C dx fs)) (f:∀ b x,H b=some x→b≠o→H' b=some x) (h:BdV K H v b):BdV K H' v b:=by
  cases h with
  | other a b=>exact .other (TyB.fr ho f a) b
  | rows a b c d=>exact .rows (f _ _ a (ne_of a ho (by intro z;cases z))) b c fun j x o' h1 h2=>(d j x o' h1 h2).fr ho f
noncomputable def BadA (K:PySem.W.Frag) (H:Hp):Nat→List V→Prop
  | 0,[v1,v2]=>∃ b1 b2,NmV K H v1 b1∧NuV K H 1000000000000 v2 b2∧(b1&&b2)=false
  | 1,[v1,v2,v3]=>∃ b1 b2 b3,NmV K H v1 b1∧NuV K H 20000 v2 b2∧WyV K H v3 b3∧(b1&&(b2&&b3))=false
  | 2,[v1,v2,v3,v4]=>∃ b1 b2 b3 b4,NmV K H v1 b1∧NuV K H 20000 v2 b2∧NuV K H 1000000000000 v3 b3∧WyV K H v4 b4∧(b1&&((b2&&b4)&&b3))=false
  | 3,[v1,v2,v3,v4]=>∃ b1 b2 b3 b4,NmV K H v1 b1∧NuV K H 20000 v2 b2∧NuV K H 1000000000000 v3 b3∧WyV K H v4 b4∧(b1&&((b2&&b4)&&b3))=false
  | 4,[v1,v2,v3]=>∃ b1 b2 b3,NmV K H v1 b1∧BdV K H v2 b2∧WyV K H v3 b3∧(b1&&(b2&&b3))=false
  | _,_=>False
noncomputable def sp_rnameB (K:PySem.W.Frag):Sp:=fun vs H Q _=>∃ v b,vs=[v]∧NmV K H v b∧∀ H',Same H H'→Q (.bl b) H'
noncomputable def sp_nuB (K:PySem.W.Frag) (m:Int):Sp:=fun vs H Q _=>∃ v b,vs=[v]∧NuV K H m v b∧Q (.bl b) H
noncomputable def sp_wayB (K:PySem.W.Frag):Sp:=fun vs H Q _=>∃ v b,vs=[v]∧WyV K H v b∧Q (.bl b) H
noncomputable def sp_needRE (K:PySem.W.Frag) (c:Addr):Sp:=fun vs H Q E=>∃ v b,vs=[v]∧NuV K H 1000000000000 v b∧(b=true→Q .non H)∧(b=false→E (.ref c) none H)
noncomputable def sp_needSE (K:PySem.W.Frag) (c:Addr):Sp:=fun vs H Q E=>∃ v u b1 b2,vs=[v,u]∧NuV K H 20000 v b1∧WyV K H u b2∧((b1&&b2)=true→Q .non H)∧((b1&&b2)=false→E (.ref c) none H)
noncomputable def sp_rinitE (K:PySem.W.Frag) (c:Addr):Sp:=fun vs H Q E=>∃ C o dx v b,vs=[.ref o,v]∧Cls K C∧NoAttr K C "name"∧H o=some (.ins C dx [])∧NmV K H v b∧(b=true→∀ H',(∀ b x,H b=some x→b≠o→H' b=some x)→H' o=some (.ins C dx [("name",v)])→Q .non H')∧(b=false→∀ H',Same H H'→E (.ref c) none H')
noncomputable def sp_bandB (K:PySem.W.Frag):Sp:=fun vs H Q _=>∃ v p,vs=[v]∧RwV K H v p∧Q (.bl p.isSome) H
noncomputable def sp_riseB (K:PySem.W.Frag):Sp:=fun vs H Q _=>∃ (l:Addr) (zs:List Int),vs=[.ref l]∧SqL K H l (zs.map V.int)∧zs.length≤50∧∀ H',Same H H'→Q (.bl (adjB zs)) H'
noncomputable def sp_bandsB (K:PySem.W.Frag):Sp:=fun vs H Q _=>∃ v b,vs=[v]∧BdV K H v b∧∀ H',Same H H'→Q (.bl b) H'
noncomputable def sp_kinitE (K:PySem.W.Frag) (k:Nat) (Cs:Nat→Addr) (c:Addr):Sp:=fun vs H Q E=>∃ o dx args,vs = .ref o::args∧H o=some (.ins (Cs k) dx [])∧BadA K H k args∧∀ H',(∀ b x,H b=some x→b≠o→H' b=some x)→E (.ref c) none H'
theorem adj_zip:∀ zs:List Int,adjB zs=((zs.zip zs.tail).all fun p=>decide (p.1<p.2))
  | []=>rfl
  | [_]=>rfl
  | a::b::l=>by
    show (decide (a<b)&&adjB (b::l))=_
    rw[adj_zip (b::l)]
    rfl
theorem putF_name (v:V):putF "name" v []=[((("name":Str)),v)]:=rfl
noncomputable def ltV:V→V→V
  | .int a,.int b=>.bl (decide (a<b))
  | _,_=>.non
theorem zip_lt (zs ys:List Int):List.zipWith ltV (zs.map V.int) (ys.map V.int)=(List.zipWith (fun a b=>decide (a<b)) zs ys).map V.bl:=by
  rw[List.zipWith_map,List.map_zipWith]
  rfl
theorem adj_zw:∀ zs:List Int,(List.zipWith (fun a b=>decide (a<b)) zs zs.tail).all id=adjB zs
  | []=>rfl
  | [_]=>rfl
  | a::b::l=>by
    show (decide (a<b)&&(List.zipWith (fun a b=>decide (a<b)) (b::l) (b::l).tail).all id)=_
    rw[adj_zw (b::l)]
    rfl
theorem all_somes {os:List (Option (Int × Int))} (h:os.all Option.isSome=true):∃ ps:List (Int × Int),os=ps.map some:=by
  induction os with
  | nil=>exact⟨[],rfl⟩
  | cons o r ih =>
    rw[List.all_cons,Bool.and_eq_true] at h
    obtain⟨ps,rfl⟩:=ih h.2
    cases o with
    | none=>cases h.1
    | some p=>exact⟨p::ps,rfl⟩
theorem fm_somes (ps:List (Int × Int)):((ps.map some).filterMap fun o=>o.map (·.1))=ps.map (·.1):=by
  induction ps with
  | nil=>rfl
  | cons p r ih=>exact congrArg (List.cons p.1) ih
inductive OnV (K:PySem.W.Frag) (cRu:Addr) (Cs:Nat→Addr) (H:Hp):V→Bool→Prop where
  | other {v:V} {t:String}:TyOf K H v (.type t)→PySem.W.kitOne K (.type t) (.ref cRu)=some false→OnV K cRu Cs H v false
  | deep {v:V} {n w:Str} {p:Int} {r:Rk}:RoG Cs H (.ontop n p w r) v→Gd 3 (.ontop n p w r)→dep (.ontop n p w r)=3→OnV K cRu Cs H v false
  | good {v:V} {r:Rk}:RoG Cs H r v→Gd 2 r→OnV K cRu Cs H v true
noncomputable def sp_oinitE (K:PySem.W.Frag) (cRu:Addr) (Cs:Nat→Addr) (c:Addr):Sp:=fun vs H Q E=>∃ o dx v1 v2 v3 v4 b1 b2 b3 b4,vs=[.ref o,v1,v2,v3,v4]∧H o=some (.ins (Cs 5) dx [])∧NmV K H v1 b1∧NuV K H 20000 v2 b2∧WyV K H v3 b3∧OnV K cRu Cs H v4 b4∧(b1&&((b2&&b3)&&b4))=false∧∀ H',(∀ b x,H b=some x→b≠o→H' b=some x)→E (.ref c) none H'
theorem NmV.true {K:PySem.W.Frag} {H:Hp} {v:V} (h:NmV K H v true):∃ z,v = .str z∧RName z:=by
  rcases h with ⟨z,e,_,h⟩ | ⟨_,h⟩
  · unfold rnB at h
    have h:=h.symm
    rw[Bool.and_eq_true] at h
    refine⟨z,e,nameB_ok h.1,?_⟩
    have h2:=h.2
    cases q:noNames.contains z with
    | false=>rfl
    | true=>rw[q] at h2;cases h2
  · cases h
theorem NuV.true {K:PySem.W.Frag} {H:Hp} {m:Int} {v:V} (h:NuV K H m v true):∃ z,v = .int z∧0≤z∧z≤m:=by
  rcases h with ⟨z,e,h⟩ | ⟨_,h⟩
  · exact⟨z,e,of_decide_eq_true h.symm⟩
  · cases h
theorem WyV.true {K:PySem.W.Frag} {H:Hp} {v:V} (h:WyV K H v true):∃ z,v = .str z∧Way z:=by
  rcases h with ⟨z,e,h⟩ | ⟨_,h⟩
  · exact⟨z,e,h.symm⟩
  · cases h
end Pg
namespace K09
open PySem PySem.NumText L2 Pg
seal PE PA PT PW PS PSs PG PGs PI PIf PO PK
section
variable {P:Program} {w:World} {K:PySem.W.Frag} {mg:Str→Option Value} {base:Heap} {f:Addr} {fd:FuncData} {d:Nat→Addr} {cR:Addr}
theorem ok_rnameB (F:Fun K "is_rule_name" "is_rule_name" (top 34) f fd) (W:Tps K mg "NO_RULE_NAMES" noNames) (C1:Cal P w K mg base CX0 2 "is_name" ["thing"] (sp_nameB K)):FnOk P w K mg base CX0 3 f fd ["thing"] (sp_rnameB K):=by
  obtain⟨aw,ew,tw⟩:=W
  refine F.ok (N:=["thing"]) ⟨rfl,rfl,rfl,by decide +kernel,rfl,by decide +kernel,by decide +kernel⟩ (fun vs H Q E h=>?_) (fun cdv A outer s H vs Q E hr h=>?_)
  · obtain⟨v,b,rfl,_⟩:=h
    rfl
  · obtain⟨v,b,rfl,hv,q⟩:=h
    refine⟨_,pss_one (ps_ret (pe_and (pe_cal C1 hr (by decide) pass0 (pa_cons (pv 0) pa_nil)) (pe_one (pe_cmpR op_notIn_seq (pv 0) (pe_glob (v:=.ref aw) rfl ew rfl) (by rfl))))),?_⟩
    rcases hv with ⟨z,rfl,zl,rfl⟩ | ⟨ns,rfl⟩
    · refine⟨_,rfl,_,rfl,.inl ⟨z,rfl,zl,fun H1 s1=>⟨_,rfl,?_⟩⟩⟩
      have q1:=q H1 s1
      unfold rnB at q1
      cases e:nameB z with
      | false =>
        rw[e] at q1
        exact iteF q1
      | true =>
        rw[e,Bool.true_and] at q1
        refine iteT ⟨_,rfl,aw,_,rfl,.inr (tw H1),rfl,rfl,?_⟩
        rw[if_pos rfl,in_texts]
        exact q1
    · exact⟨_,rfl,v,rfl,.inr ⟨ns,false,rfl,iteF (q H (Same.refl _))⟩⟩
theorem ok_wayB (F:Fun K "is_way" "is_way" (top 24) f fd) (G:Glb mg) (W:Tps K mg "WAYS" wayL):FnOk P w K mg base CX0 1 f fd ["thing"] (sp_wayB K):=by
  obtain⟨aw,ew,tw⟩:=W
  refine F.ok (N:=["thing"]) ⟨rfl,rfl,rfl,by decide +kernel,rfl,by decide +kernel,by decide +kernel⟩ (fun vs H Q E h=>?_) (fun cdv A outer s H vs Q E hr h=>?_)
  · obtain⟨v,b,rfl,_⟩:=h
    rfl
  · obtain⟨v,b,rfl,hv,q⟩:=h
    refine⟨_,pss_one (ps_ret (pe_and (pe_callB call_isinst rfl G.isinstance boot_isinstance (pa_cons (pv 0) (pa_cons (pe_bltn (v:=.ty "str") rfl G.str boot_str rfl) pa_nil)))
      (pe_one (pe_cmpR op_in_seq (pv 0) (pe_glob (v:=.ref aw) rfl ew rfl) (by rfl))))),?_⟩
    rcases hv with ⟨x,rfl,rfl⟩ | ⟨⟨r,hr',ty,ne⟩,rfl⟩
    · refine⟨_,rfl,_,_,_,_,true,rfl,rfl,.inl (.str x),rfl,true,rfl,iteT ⟨_,rfl,aw,_,rfl,.inr (tw H),rfl,rfl,?_⟩⟩
      rw[if_neg Bool.false_ne_true,in_texts]
      exact q
    · obtain⟨_,_,k3,_⟩:=kit_tab (K:=K) r hr'
      have e:r.2.2.2.1=false:=by
        simp only[numT,List.mem_cons,List.not_mem_nil,or_false] at hr'
        rcases hr' with rfl | rfl | rfl | rfl | rfl | rfl | rfl <;> first | rfl | exact absurd rfl ne
      rw[e] at k3
      exact⟨_,rfl,_,_,_,_,false,rfl,rfl,.inl ty,k3,false,rfl,iteF q⟩
theorem ok_nuB {x:Str} {m:Int} {t:Tok} (em:mg x=some (.int m t)) (hn:Num mg x m) (F:Fun K "is_parts" "is_parts" (top 23) f fd) (hx:x = "MOST_PARTS") (C1:Cal P w K mg base CX0 2 "is_number_within" ["thing","least","most"] (sp_within K)):FnOk P w K mg base CX0 3 f fd ["thing"] (sp_nuB K m):=by
  subst hx
  refine F.ok (N:=["thing"]) ⟨rfl,rfl,rfl,by decide +kernel,rfl,by decide +kernel,by decide +kernel⟩ (fun vs H Q E h=>?_) (fun cdv A outer s H vs Q E hr h=>?_)
  · obtain⟨v,b,rfl,_⟩:=h
    rfl
  · obtain⟨v,b,rfl,hv,q⟩:=h
    refine⟨_,pss_one (ps_ret (pe_cal C1 hr (by decide) pass0 (pa_cons (pv 0) (pa_cons pe_int (pa_cons (pe_glob (v:=.int m) rfl em ⟨t,rfl⟩) pa_nil))))),_,rfl,v,0,m,rfl,?_⟩
    rcases hv with ⟨z,rfl,rfl⟩ | ⟨ns,rfl⟩
    · exact .inl ⟨z,rfl,q⟩
    · exact .inr ⟨ns,q⟩
theorem ok_partsB (F:Fun K "is_parts" "is_parts" (top 23) f fd) (N1:Num mg "MOST_PARTS" 20000) (C1:Cal P w K mg base CX0 2 "is_number_within" ["thing","least","most"] (sp_within K)):FnOk P w K mg base CX0 3 f fd ["thing"] (sp_nuB K 20000):=by
  obtain⟨t,em⟩:=N1
  exact ok_nuB em ⟨t,em⟩ F rfl C1
theorem ok_ramtB (F:Fun K "is_rule_amount" "is_rule_amount" (top 35) f fd) (N1:Num mg "MOST_AMOUNT" 1000000000000) (C1:Cal P w K mg base CX0 2 "is_number_within" ["thing","least","most"] (sp_within K)):FnOk P w K mg base CX0 3 f fd ["thing"] (sp_nuB K 1000000000000):=by
  obtain⟨t,em⟩:=N1
  refine F.ok (N:=["thing"]) ⟨rfl,rfl,rfl,by decide +kernel,rfl,by decide +kernel,by decide +kernel⟩ (fun vs H Q E h=>?_) (fun cdv A outer s H vs Q E hr h=>?_)
  · obtain⟨v,b,rfl,_⟩:=h
    rfl
  · obtain⟨v,b,rfl,hv,q⟩:=h
    refine⟨_,pss_one (ps_ret (pe_cal C1 hr (by decide) pass0 (pa_cons (pv 0) (pa_cons pe_int (pa_cons (pe_glob (v:=.int 1000000000000) rfl em ⟨t,rfl⟩) pa_nil))))),_,rfl,v,0,1000000000000,rfl,?_⟩
    rcases hv with ⟨z,rfl,rfl⟩ | ⟨ns,rfl⟩
    · exact .inl ⟨z,rfl,q⟩
    · exact .inr ⟨ns,q⟩
theorem ok_needRE {cB:Addr} (F:Fun K "need_rule_amount" "need_rule_amount" (top 36) f fd) (X:Er K mg "BadRule" cB) (C1:Cal P w K mg base CX0 3 "is_rule_amount" ["thing"] (sp_nuB K 1000000000000)):FnOk P w K mg base (CXE P w) 4 f fd ["thing"] (sp_needRE K cB):=by
  refine F.okE (N:=["thing"]) ⟨rfl,rfl,rfl,by decide +kernel,rfl,by decide +kernel,by decide +kernel⟩ (fun vs H Q E h=>?_) (fun cdv A outer s H vs Q E hr h=>?_)
  · obtain⟨v,b,rfl,_⟩:=h
    rfl
  · obtain⟨v,b,rfl,hv,q1,q2⟩:=h
    refine⟨_,pss_one (ps_if (pt_not (pt_val (pe_cal C1 hr (by decide) pass0 (pa_cons (pv 0) pa_nil)))) (pss_one (ps_raise throws_fn rfl rfl X.at' X.ex (pa_cons pe_str pa_nil))) pss_nil),_,rfl,v,b,rfl,hv,b,rfl,?_⟩
    cases b with
    | true=>exact iteF (q1 rfl)
    | false=>exact iteT ⟨by decide,q2 rfl⟩
theorem ok_needSE {cB:Addr} (F:Fun K "need_share" "need_share" (top 37) f fd) (X:Er K mg "BadRule" cB) (C1:Cal P w K mg base CX0 3 "is_parts" ["thing"] (sp_nuB K 20000)) (C2:Cal P w K mg base CX0 1 "is_way" ["thing"] (sp_wayB K)):FnOk P w K mg base (CXE P w) 4 f fd ["parts","way"] (sp_needSE K cB):=by
  refine F.okE (N:=["parts","way"]) ⟨rfl,rfl,rfl,by decide +kernel,rfl,by decide +kernel,by decide +kernel⟩ (fun vs H Q E h=>?_) (fun cdv A outer s H vs Q E hr h=>?_)
  · obtain⟨v,u,b1,b2,rfl,_⟩:=h
    rfl
  · obtain⟨v,u,b1,b2,rfl,h1,h2,q1,q2⟩:=h
    refine⟨_,pss_cons (ps_if (pt_not (pt_val (pe_cal C1 hr (by decide) pass0 (pa_cons (pv 0) pa_nil)))) (pss_one (ps_raise throws_fn rfl rfl X.at' X.ex (pa_cons pe_str pa_nil))) pss_nil) (pss_one (ps_if (pt_not (pt_val (pe_cal C2 hr (by decide) pass0 (pa_cons (pv 1) pa_nil)))) (pss_one (ps_raise throws_fn rfl rfl X.at' X.ex (pa_cons pe_str pa_nil))) pss_nil)),_,rfl,v,b1,rfl,h1,b1,rfl,?_⟩
    cases b1 with
    | false=>exact iteT ⟨by decide,q2 rfl⟩
    | true =>
      refine iteF ⟨_,rfl,u,b2,rfl,h2,b2,rfl,?_⟩
      cases b2 with
      | true=>exact iteF (q1 rfl)
      | false=>exact iteT ⟨by decide,q2 rfl⟩
theorem ok_rinitE {cB:Addr} (F:Fun K "__init__" "Rule.__init__" (inClass (top 38) 0) f fd) (X:Er K mg "BadRule" cB) (C1:Cal P w K mg base CX0 3 "is_rule_name" ["thing"] (sp_rnameB K)):FnOk P w K mg base (CXE P w) 4 f fd ["self","name"] (sp_rinitE K cB):=by
  refine F.okE (N:=["self","name"]) ⟨rfl,rfl,rfl,by decide +kernel,rfl,by decide +kernel,by decide +kernel⟩ (fun vs H Q E h=>?_) (fun cdv A outer s H vs Q E hr h=>?_)
  · obtain⟨C,o,dx,v,b,rfl,_⟩:=h
    rfl
  · obtain⟨C,o,dx,v,b,rfl,cl,no,ho,hv,q1,q2⟩:=h
    refine⟨_,pss_cons (ps_if (pt_not (pt_val (pe_cal C1 hr (by decide) pass0 (pa_cons (pv 1) pa_nil)))) (pss_one (ps_raise throws_fn rfl rfl X.at' X.ex (pa_cons pe_str pa_nil))) pss_nil) (pss_one (ps_fld (pv 0) (pv 1) rfl)),?_⟩
    refine⟨_,rfl,v,b,rfl,hv,fun H1 s1=>⟨b,rfl,?_⟩⟩
    cases b with
    | false=>exact iteT ⟨by decide,q2 rfl H1 s1⟩
    | true =>
      refine iteF ⟨_,rfl,_,rfl,o,_,dx,[],rfl,s1 _ _ ho,cl,no,by decide,?_⟩
      rw[putF_name]
      exact q1 rfl _ (fun b x hb ne=>by rw[upd_ne ne];exact s1 _ _ hb) upd_same
theorem ok_kinitE0 {Cs:Nat→Addr} {cB:Addr} (F:Fun K "__init__" "Flat.__init__" (inClass (top 39) 0) f fd) (RK:RulK K Cs) (CR:CalC P w K mg base (CXE P w) 4 "Rule" "__init__" ["self","name"] (sp_rinitE K cB)) (C1:Cal P w K mg base (CXE P w) 4 "need_rule_amount" ["thing"] (sp_needRE K cB)):FnOk P w K mg base (CXE P w) 5 f fd ["self","name","amount"] (sp_kinitE K 0 Cs cB):=by
  refine F.okE (N:=["self","name","amount"]) ⟨rfl,rfl,rfl,by decide +kernel,rfl,by decide +kernel,by decide +kernel⟩ (fun vs H Q E h=>?_) (fun cdv A outer s H vs Q E hr h=>?_)
  · obtain⟨o,dx,args,rfl,ho,bad,q⟩:=h
    match args,bad with
    | [v1,v2],_=>rfl
  · obtain⟨o,dx,args,rfl,ho,bad,q⟩:=h
    match args,bad with
    | [v1,v2],⟨b1,b2,h1,h2,no⟩ =>
      refine⟨_,pss_cons (ps_expr (pe_calC CR hr (by decide) passE (pa_cons (pv 0) (pa_cons (pv 1) pa_nil)))) (pss_cons (ps_expr (pe_cal C1 hr (by decide) passE (pa_cons (pv 2) pa_nil))) pss_never),?_⟩
      refine⟨_,rfl,_,rfl,_,o,dx,v1,b1,rfl,RK.cls 0 (by decide),RK.no 0 (by decide) "name" (by decide),ho,h1,fun e1 H1 f1 e=>?_,fun e1 H1 s1=>q H1 fun b x h _=>s1 _ _ h⟩
      rw[e1,Bool.true_and] at no
      exact⟨_,rfl,v2,b2,rfl,h2.fr ho f1,(fun e2=>by rw[e2] at no;cases no),fun _=>q H1 f1⟩
theorem ok_kinitE1 {Cs:Nat→Addr} {cB:Addr} (F:Fun K "__init__" "Share.__init__" (inClass (top 40) 0) f fd) (RK:RulK K Cs) (CR:CalC P w K mg base (CXE P w) 4 "Rule" "__init__" ["self","name"] (sp_rinitE K cB)) (C1:Cal P w K mg base (CXE P w) 4 "need_share" ["parts","way"] (sp_needSE K cB)):FnOk P w K mg base (CXE P w) 5 f fd ["self","name","parts","way"] (sp_kinitE K 1 Cs cB):=by
  refine F.okE (N:=["self","name","parts","way"]) ⟨rfl,rfl,rfl,by decide +kernel,rfl,by decide +kernel,by decide +kernel⟩ (fun vs H Q E h=>?_) (fun cdv A outer s H vs Q E hr h=>?_)
  · obtain⟨o,dx,args,rfl,ho,bad,q⟩:=h
    match args,bad with
    | [v1,v2,v3],_=>rfl
  · obtain⟨o,dx,args,rfl,ho,bad,q⟩:=h
    match args,bad with
    | [v1,v2,v3],⟨b1,b2,b3,h1,h2,h3,no⟩ =>
      refine⟨_,pss_cons (ps_expr (pe_calC CR hr (by decide) passE (pa_cons (pv 0) (pa_cons (pv 1) pa_nil)))) (pss_cons (ps_expr (pe_cal C1 hr (by decide) passE (pa_cons (pv 2) (pa_cons (pv 3) pa_nil)))) pss_never),?_⟩
      refine⟨_,rfl,_,rfl,_,o,dx,v1,b1,rfl,RK.cls 1 (by decide),RK.no 1 (by decide) "name" (by decide),ho,h1,fun e1 H1 f1 e=>?_,fun e1 H1 s1=>q H1 fun b x h _=>s1 _ _ h⟩
      rw[e1,Bool.true_and] at no
      exact⟨_,rfl,_,rfl,v2,v3,b2,b3,rfl,h2.fr ho f1,h3.fr ho f1,(fun e2=>by rw[e2] at no;cases no),fun _=>q H1 f1⟩
theorem ok_kinitE2 {Cs:Nat→Addr} {cB:Addr} (F:Fun K "__init__" "Capped.__init__" (inClass (top 41) 0) f fd) (RK:RulK K Cs) (CR:CalC P w K mg base (CXE P w) 4 "Rule" "__init__" ["self","name"] (sp_rinitE K cB)) (C1:Cal P w K mg base (CXE P w) 4 "need_share" ["parts","way"] (sp_needSE K cB)) (C2:Cal P w K mg base (CXE P w) 4 "need_rule_amount" ["thing"] (sp_needRE K cB)):FnOk P w K mg base (CXE P w) 5 f fd ["self","name","parts","most","way"] (sp_kinitE K 2 Cs cB):=by
  refine F.okE (N:=["self","name","parts","most","way"]) ⟨rfl,rfl,rfl,by decide +kernel,rfl,by decide +kernel,by decide +kernel⟩ (fun vs H Q E h=>?_) (fun cdv A outer s H vs Q E hr h=>?_)
  · obtain⟨o,dx,args,rfl,ho,bad,q⟩:=h
    match args,bad with
    | [v1,v2,v3,v4],_=>rfl
  · obtain⟨o,dx,args,rfl,ho,bad,q⟩:=h
    match args,bad with
    | [v1,v2,v3,v4],⟨b1,b2,b3,b4,h1,h2,h3,h4,no⟩ =>
      refine⟨_,pss_cons (ps_expr (pe_calC CR hr (by decide) passE (pa_cons (pv 0) (pa_cons (pv 1) pa_nil)))) (pss_cons (ps_expr (pe_cal C1 hr (by decide) passE (pa_cons (pv 2) (pa_cons (pv 4) pa_nil)))) (pss_cons (ps_expr (pe_cal C2 hr (by decide) passE (pa_cons (pv 3) pa_nil))) pss_never)),?_⟩
      refine⟨_,rfl,_,rfl,_,o,dx,v1,b1,rfl,RK.cls 2 (by decide),RK.no 2 (by decide) "name" (by decide),ho,h1,fun e1 H1 f1 e=>?_,fun e1 H1 s1=>q H1 fun b x h _=>s1 _ _ h⟩
      rw[e1,Bool.true_and] at no
      refine⟨_,rfl,_,rfl,v2,v4,b2,b4,rfl,h2.fr ho f1,h4.fr ho f1,fun e2=>?_,fun _=>q H1 f1⟩
      rw[e2,Bool.true_and] at no
      exact⟨_,rfl,v3,b3,rfl,h3.fr ho f1,(fun e3=>by rw[e3] at no;cases no),fun _=>q H1 f1⟩
theorem ok_kinitE3 {Cs:Nat→Addr} {cB:Addr} (F:Fun K "__init__" "Least.__init__" (inClass (top 42) 0) f fd) (RK:RulK K Cs) (CR:CalC P w K mg base (CXE P w) 4 "Rule" "__init__" ["self","name"] (sp_rinitE K cB)) (C1:Cal P w K mg base (CXE P w) 4 "need_share" ["parts","way"] (sp_needSE K cB)) (C2:Cal P w K mg base (CXE P w) 4 "need_rule_amount" ["thing"] (sp_needRE K cB)):FnOk P w K mg base (CXE P w) 5 f fd ["self","name","parts","least","way"] (sp_kinitE K 3 Cs cB):=by
  refine F.okE (N:=["self","name","parts","least","way"]) ⟨rfl,rfl,rfl,by decide +kernel,rfl,by decide +kernel,by decide +kernel⟩ (fun vs H Q E h=>?_) (fun cdv A outer s H vs Q E hr h=>?_)
  · obtain⟨o,dx,args,rfl,ho,bad,q⟩:=h
    match args,bad with
    | [v1,v2,v3,v4],_=>rfl
  · obtain⟨o,dx,args,rfl,ho,bad,q⟩:=h
    match args,bad with
    | [v1,v2,v3,v4],⟨b1,b2,b3,b4,h1,h2,h3,h4,no⟩ =>
      refine⟨_,pss_cons (ps_expr (pe_calC CR hr (by decide) passE (pa_cons (pv 0) (pa_cons (pv 1) pa_nil)))) (pss_cons (ps_expr (pe_cal C1 hr (by decide) passE (pa_cons (pv 2) (pa_cons (pv 4) pa_nil)))) (pss_cons (ps_expr (pe_cal C2 hr (by decide) passE (pa_cons (pv 3) pa_nil))) pss_never)),?_⟩
      refine⟨_,rfl,_,rfl,_,o,dx,v1,b1,rfl,RK.cls 3 (by decide),RK.no 3 (by decide) "name" (by decide),ho,h1,fun e1 H1 f1 e=>?_,fun e1 H1 s1=>q H1 fun b x h _=>s1 _ _ h⟩
      rw[e1,Bool.true_and] at no
      refine⟨_,rfl,_,rfl,v2,v4,b2,b4,rfl,h2.fr ho f1,h4.fr ho f1,fun e2=>?_,fun _=>q H1 f1⟩
      rw[e2,Bool.true_and] at no
      exact⟨_,rfl,v3,b3,rfl,h3.fr ho f1,(fun e3=>by rw[e3] at no;cases no),fun _=>q H1 f1⟩
end
end K09
namespace K09
open PySem PySem.NumText L2 Pg
seal PE PA PT PW PS PSs PG PGs PI PIf PO PK
section
variable {P:Program} {w:World} {K:PySem.W.Frag} {mg:Str→Option Value} {base:Heap} {f:Addr} {fd:FuncData} {d:Nat→Addr} {cR:Addr}
theorem ok_bandB (F:Fun K "is_band" "is_band" (top 48) f fd) (G:Glb mg) (C1:Cal P w K mg base CX0 3 "is_rule_amount" ["thing"] (sp_nuB K 1000000000000)) (C2:Cal P w K mg base CX0 3 "is_parts" ["thing"] (sp_nuB K 20000)):FnOk P w K mg base CX0 4 f fd ["thing"] (sp_bandB K):=by
  refine F.ok (N:=["thing"]) ⟨rfl,rfl,rfl,by decide +kernel,rfl,by decide +kernel,by decide +kernel⟩ (fun vs H Q E h=>?_) (fun cdv A outer s H vs Q E hr h=>?_)
  · obtain⟨v,p,rfl,_⟩:=h
    rfl
  · obtain⟨v,p,rfl,hv,q⟩:=h
    refine⟨_,(pss_cons (ps_if (PW.pt (pw_or (pt_not (pt_val (pe_callB call_isinst rfl G.isinstance boot_isinstance (pa_cons (pv 0) (pa_cons (pe_bltn (v:=.ty "tuple") rfl G.tuple boot_tuple rfl) pa_nil))))) (pw_or1 (pt_cmpR op_ne (pe_callB call_len_seq rfl G.len boot_len (pa_cons (pv 0) pa_nil)) pe_int (nomark _))))) (pss_one (ps_ret pe_bl)) pss_nil)
        (pss_one (ps_ret (pe_and (pe_cal C1 hr (by decide) pass0 (pa_cons (pe_at ix_tup (pv 0) pe_int) pa_nil)) (pe_one (pe_cal C2 hr (by decide) pass0 (pa_cons (pe_at ix_tup (pv 0) pe_int) pa_nil))))))),?_⟩
    cases hv with
    | other ty kt=>exact⟨_,rfl,_,_,_,_,false,rfl,rfl,.inl ty,kt,false,rfl,iteT (iteT q)⟩
    | @size t xs ha ne =>
      refine⟨_,rfl,_,_,_,_,true,rfl,rfl,.inl (.tup ha),rfl,true,rfl,iteF ⟨_,rfl,t,_,rfl,.inr (SqT.of ha),rfl,_,rfl,ite2 (fun _=>q) (fun e=>?_)⟩⟩
      exact (e (by rw[Bool.not_eq_true',decide_eq_false fun z=>ne (by injection z with z;omega)])).elim
    | @pair t p ha h1 h2 =>
      refine⟨_,rfl,_,_,_,_,true,rfl,rfl,.inl (.tup ha),rfl,true,rfl,iteF ⟨_,rfl,t,_,rfl,.inr (SqT.of ha),rfl,_,rfl,iteF ?_⟩⟩
      have d1:decide (0≤p.1∧p.1≤1000000000000)=true:=decide_eq_true h1
      have d2:decide (0≤p.2∧p.2≤20000)=true:=decide_eq_true h2
      exact⟨_,rfl,t,_,_,_,rfl,rfl,SqT.of ha,rfl,_,true,rfl,.inl ⟨p.1,rfl,d1.symm⟩,true,rfl,iteT ⟨_,rfl,t,_,_,_,rfl,rfl,SqT.of ha,rfl,_,true,rfl,.inl ⟨p.2,rfl,d2.symm⟩,q⟩⟩
    | @odd t x y b1 b2 ha h1 h2 no =>
      refine⟨_,rfl,_,_,_,_,true,rfl,rfl,.inl (.tup ha),rfl,true,rfl,iteF ⟨_,rfl,t,_,rfl,.inr (SqT.of ha),rfl,_,rfl,iteF ?_⟩⟩
      refine⟨_,rfl,t,_,_,_,rfl,rfl,SqT.of ha,rfl,x,b1,rfl,h1,b1,rfl,?_⟩
      cases b1 with
      | false=>exact iteF q
      | true =>
        rw[Bool.true_and] at no
        subst no
        exact iteT ⟨_,rfl,t,_,_,_,rfl,rfl,SqT.of ha,rfl,y,false,rfl,h2,q⟩
theorem ok_riseB (F:Fun K "rise" "rise" (top 30) f fd) (G:Glb mg):FnOk P w K mg base CX0 1 f fd ["things"] (sp_riseB K):=by
  have nc:(["thing","after"]:List Str).Nodup:=by decide +kernel
  refine F.ok (N:=["things"]) ⟨rfl,rfl,rfl,by decide +kernel,rfl,by decide +kernel,by decide +kernel⟩ (fun vs H Q E h=>?_) (fun cdv A outer s H vs Q E hr h=>?_)
  · obtain⟨l,zs,rfl,_⟩:=h
    rfl
  · obtain⟨l,zs,rfl,hl,zl,q⟩:=h
    refine' ⟨_,pss_one (ps_ret (pe_callB (call_allL rfl) rfl G.all boot_all (pa_cons ?comp pa_nil))),?main⟩
    case comp =>
      refine' pe_compI (Nc:=["thing","after"]) (cl:=[]) (src:=[none,none]) (wi:=iZip K (tCons (tVar 0) (tCons (tSl (rSlL K) (tVar 0) (tPart (tC (.int 1))) tNoPart) tNil))) (g:=gTup K 2 (gCons (gName 0) (gCons (gName 1) gNil))) (tt:=tNoIf) (te:=tOp (rI0 fun i j=>.bl (decide (i<j))) (tVar 0) (tVar 1))
        ⟨rfl,rfl,by decide +kernel,by decide +kernel,(fun x c z=>nomatch z),has_of (by rfl),frm_none (frm_none frm_nil),rfl⟩ rfl (pi_zip rfl G.zip (pa_cons (pv 0) (pa_cons (pe_slice sl_list (pv 0) (po_some pe_int) po_none) pa_nil))) ?hb
      case hb =>
        intro fp C' s' H'
        exact⟨pg_tup rfl (pgs_cons (pg_name (i:=0) nc rfl (Or.inl rfl)) (pgs_cons (pg_name (i:=1) nc rfl (Or.inl rfl)) pgs_nil)),pif_nil,pe_cmpR op_lt (pv 0) (pv 1) (nomark _)⟩
    refine⟨_,rfl,_,rfl,_,rfl,l,_,rfl,hl,fun p p0=>?_⟩
    have s1:Same H (upd H p (.lst (cutV (zs.map V.int) (some 1) none))):=Same.upd p0
    have e1:(upd H p (.lst (cutV (zs.map V.int) (some 1) none))) p=some (.lst (zs.tail.map V.int)):=by rw[upd_same,cut_tail]
    refine⟨l,p,rfl,⟨_,s1.seq hl⟩,⟨_,SqL.of e1⟩,fun D hD=>comp_zipS (s1.seq hl) (SqL.of e1) hD (by rw[List.length_map,List.length_tail,sizeLine_eq];omega) (by rw[List.length_map,List.length_map,List.length_tail];omega) ltV (fun i x y hx hy H1 R s2 r=>?_) (fun H1 s2 e2=>?_)⟩
    · rw[List.getElem?_map] at hx hy
      obtain⟨a,ha,rfl⟩:=Option.map_eq_some_iff.mp hx
      obtain⟨b,hb,rfl⟩:=Option.map_eq_some_iff.mp hy
      exact⟨_,rfl,_,rfl,a,b,rfl,rfl,r H1 (Same.refl _)⟩
    · rw[zip_lt] at e2
      refine⟨D,_,rfl,SqL.of e2,?_⟩
      rw[adj_zw]
      exact q H1 (s1.trans s2)
set_option maxHeartbeats 4000000 in
theorem ok_bandsB (F:Fun K "are_bands" "are_bands" (top 49) f fd) (G:Glb mg) (N1:Num mg "MOST_BANDS" 12) (C1:Cal P w K mg base CX0 4 "is_band" ["thing"] (sp_bandB K)) (C2:Cal P w K mg base CX0 1 "rise" ["things"] (sp_riseB K)):FnOk P w K mg base CX0 5 f fd ["thing"] (sp_bandsB K):=by
  obtain⟨tk,em⟩:=N1
  have nd:(["thing","borders"]:List Str).Nodup:=by decide +kernel
  have nc:(["row"]:List Str).Nodup:=by decide +kernel
  refine F.ok (N:=["thing","borders"]) ⟨rfl,rfl,rfl,by decide +kernel,rfl,by decide +kernel,by decide +kernel⟩ (fun vs H Q E h=>?_) (fun cdv A outer s H vs Q E hr h=>?_)
  · obtain⟨v,b,rfl,_⟩:=h
    rfl
  · obtain⟨v,b,rfl,hv,q⟩:=h
    refine' ⟨_,(pss_cons (ps_if (PW.pt (pw_or (pt_not (pt_val (pe_callB call_isinst rfl G.isinstance boot_isinstance (pa_cons (pv 0) (pa_cons (pe_bltn (v:=.ty "tuple") rfl G.tuple boot_tuple rfl) pa_nil))))) (pw_or (pt_cmpR op_lt (pe_callB call_len_seq rfl G.len boot_len (pa_cons (pv 0) pa_nil)) pe_int (nomark _)) (pw_or1 (pt_cmpR op_gt (pe_callB call_len_seq rfl G.len boot_len (pa_cons (pv 0) pa_nil)) (pe_glob (v:=.int 12) rfl em ⟨tk,rfl⟩) (nomark _)))))) (pss_one (ps_ret pe_bl)) pss_nil)
        (pss_cons (ps_if (pt_not (pt_val (pe_callB (call_allL rfl) rfl G.all boot_all (pa_cons ?comp_2 pa_nil)))) (pss_one (ps_ret pe_bl)) pss_nil)
        (pss_cons ?st_1
        (pss_one (ps_ret (pe_and (pe_cmpR op_eq (pe_at ix_list (pv 1) pe_int) pe_int (nomark _)) (pe_one (pe_cal C2 hr (by decide) pass0 (pa_cons (pv 1) pa_nil))))))))),?main⟩
    case comp_2 =>
      refine' pe_compI (Nc:=["row"]) (cl:=[]) (src:=[none]) (wi:=iTup K (tVar 0)) (g:=gName 0) (tt:=tNoIf) (te:=fun σ H Q=>tCons (tVar 0) tNil σ H fun vs H1=>sp_bandB K vs H1 Q E0)
        ⟨rfl,rfl,by decide +kernel,by decide +kernel,(fun x c z=>nomatch z),has_of (by rfl),frm_none frm_nil,rfl⟩ rfl (pi_tup (pv 0)) ?hb
      case hb =>
        intro fp C' s' H'
        exact⟨pg_name (i:=0) nc rfl (Or.inl rfl),pif_nil,pe_cal C1 hr (by decide) pass0 (pa_cons (pv 0) pa_nil)⟩
    case st_1 =>
      refine' ps_setC (i:=1) (Nc:=["row"]) (cl:=[]) (src:=[none]) (wi:=iTup K (tVar 0)) (g:=gName 0) (tt:=tNoIf) (te:=tOp (rIxT K) (tVar 0) (tC (.int 0))) nd rfl rfl
        ⟨rfl,rfl,by decide +kernel,by decide +kernel,(fun x c z=>nomatch z),has_of (by rfl),frm_none frm_nil,rfl⟩ rfl (pi_tup (pv 0)) ?hb
      case hb =>
        intro fp C' s' H'
        exact⟨pg_name (i:=0) nc rfl (Or.inl rfl),pif_nil,pe_at ix_tup (pv 0) pe_int⟩
    cases hv with
    | other ty kt=>exact⟨_,rfl,_,_,_,_,false,rfl,rfl,.inl ty,kt,false,rfl,iteT (iteT (q H (Same.refl _)))⟩
    | @rows u xs os hu xl x20 rw' =>
      have bd:bdB os=(decide (1≤os.length∧os.length≤12)&&(os.all Option.isSome&&(decide ((os.filterMap fun o=>o.map (·.1)).head? = some 0)&&adjB (os.filterMap fun o=>o.map (·.1))))):=rfl
      have hs:os.length<sizeLine:=by rw[sizeLine_eq];omega
      refine⟨_,rfl,_,_,_,_,true,rfl,rfl,.inl (.tup hu),rfl,true,rfl,iteF ⟨_,rfl,u,_,rfl,.inr (SqT.of hu),_,_,rfl,rfl,_,rfl,ite2 (fun e=>iteT ?_) (fun e1=>?_)⟩⟩
      · have e:=of_decide_eq_true e
        rw[bd,decide_eq_false (by omega),Bool.false_and] at q
        exact q H (Same.refl _)
      refine⟨_,rfl,u,_,rfl,.inr (SqT.of hu),_,_,rfl,rfl,_,rfl,ite2 (fun e=>?_) (fun e2=>?_)⟩
      · have e:=of_decide_eq_true e
        rw[bd,decide_eq_false (by omega),Bool.false_and] at q
        exact q H (Same.refl _)
      have l1:1≤os.length:=by
        have:¬ ((xs.length:Nat):Int)<1:=fun c=>e1 (decide_eq_true c)
        omega
      have l2:os.length≤12:=by
        have:¬ (12:Int)<((xs.length:Nat):Int):=fun c=>e2 (decide_eq_true c)
        omega
      rw[decide_eq_true (show 1≤os.length∧os.length≤12 from ⟨l1,l2⟩),Bool.true_and] at bd
      have T:ItemsAt H xs os (fun H v o=>RwV K H v o):=⟨xl,fun i y e=>by
        have hi:i<os.length:=by rw[← xl];exact (List.getElem?_eq_some_iff.mp e).1
        exact⟨_,List.getElem?_eq_getElem hi,fun H' s=>(rw' i y _ e (List.getElem?_eq_getElem hi)).same s⟩⟩
      refine⟨_,rfl,u,rfl,⟨_,SqT.of hu⟩,fun D hD=>comp_at (walk_tup (SqT.of hu)) T hD hs (fun o=>V.bl o.isSome) (fun o ho v H1 R s1 e1 r=>⟨_,rfl,v,o,rfl,e1,r H1 (Same.refl _)⟩) (fun H1 s1 e1=>?_)⟩
      refine⟨D,os.map Option.isSome,rfl,SqL.of (by rw[e1,List.map_map];rfl),_,rfl,?_⟩
      have ea:(os.map Option.isSome).all id=os.all Option.isSome:=by rw[List.all_map];rfl
      rw[ea]
      cases al:os.all Option.isSome with
      | false =>
        rw[al,Bool.false_and] at bd
        rw[bd] at q
        exact iteT (q H1 s1)
      | true =>
        rw[al,Bool.true_and] at bd
        refine iteF ?_
        obtain⟨ps,rfl⟩:=all_somes al
        rw[fm_somes] at bd
        rw[List.length_map] at xl hs l1
        have T1:ItemsAt H1 xs ps (fun H v p=>∃ a,v = .ref a∧H a=some (.tup (cB p))):=⟨xl,fun i y e=>by
          have hi:i<ps.length:=by rw[← xl];exact (List.getElem?_eq_some_iff.mp e).1
          refine⟨_,List.getElem?_eq_getElem hi,fun H' s=>?_⟩
          have:=(rw' i y (some ps[i]) e (by rw[List.getElem?_map,List.getElem?_eq_getElem hi];rfl)).same (s1.trans s)
          cases this with
          | pair a b c=>exact⟨_,rfl,a⟩⟩
        refine⟨_,rfl,u,rfl,⟨_,SqT.of (s1 _ _ hu)⟩,fun D2 hD2=>comp_at (walk_tup (SqT.of (s1 _ _ hu))) T1 hD2 hs (fun p=>V.int p.1) (fun p hp v H2 R s2 e2 r=>?_) (fun H2 s2 e2=>?_)⟩
        · obtain⟨a,rfl,ha⟩:=e2
          exact⟨_,rfl,a,_,_,_,rfl,rfl,SqT.of ha,rfl,r H2 (Same.refl _)⟩
        have e2':H2 D2=some (.lst ((ps.map (·.1)).map V.int)):=by rw[e2,List.map_map];rfl
        cases ps with
        | nil=>cases l1
        | cons p0 pr =>
          refine⟨_,rfl,D2,_,_,.int p0.1,rfl,rfl,SqL.of e2',at_first rfl,rfl,_,rfl,?_⟩
          rw[bd] at q
          by_cases c:p0.1=0
          · rw[show decide (((p0::pr).map (·.1)).head? = some 0)=true from decide_eq_true (by rw[← c];rfl),Bool.true_and] at q
            rw[show decide (V.int p0.1=V.int 0)=true from decide_eq_true (by rw[c])]
            exact iteT ⟨_,rfl,D2,_,rfl,SqL.of e2',by rw[List.length_map];omega,fun H3 s3=>q H3 (s1.trans (s2.trans s3))⟩
          · rw[show decide (((p0::pr).map (·.1)).head? = some 0)=false from decide_eq_false (fun z=>c (Option.some.inj z)),Bool.false_and] at q
            rw[show decide (V.int p0.1=V.int 0)=false from decide_eq_false (fun z=>c (by injection z))]
            exact iteF (q H2 (s1.trans s2))
theorem ok_binitE {Cs:Nat→Addr} {cB:Addr} (F:Fun K "__init__" "Bands.__init__" (inClass (top 50) 0) f fd) (X:Er K mg "BadRule" cB) (RX:RulX K (Cs 4)) (CR:CalC P w K mg base (CXE P w) 4 "Rule" "__init__" ["self","name"] (sp_rinitE K cB)) (C1:Cal P w K mg base CX0 5 "are_bands" ["thing"] (sp_bandsB K)) (C2:Cal P w K mg base CX0 1 "is_way" ["thing"] (sp_wayB K)):FnOk P w K mg base (CXE P w) 6 f fd ["self","name","rows","way"] (sp_kinitE K 4 Cs cB):=by
  refine F.okE (N:=["self","name","rows","way"]) ⟨rfl,rfl,rfl,by decide +kernel,rfl,by decide +kernel,by decide +kernel⟩ (fun vs H Q E h=>?_) (fun cdv A outer s H vs Q E hr h=>?_)
  · obtain⟨o,dx,args,rfl,ho,bad,q⟩:=h
    match args,bad with
    | [v1,v2,v3],_=>rfl
  · obtain⟨o,dx,args,rfl,ho,bad,q⟩:=h
    match args,bad with
    | [v1,v2,v3],⟨b1,b2,b3,h1,h2,h3,no⟩ =>
      refine⟨_,pss_cons (ps_expr (pe_calC CR hr (by decide) passE (pa_cons (pv 0) (pa_cons (pv 1) pa_nil)))) (pss_cons (ps_if (pt_not (pt_val (pe_cal C1 hr (by decide) pass0 (pa_cons (pv 2) pa_nil)))) (pss_one (ps_raise throws_fn rfl rfl X.at' X.ex (pa_cons pe_str pa_nil))) pss_nil) (pss_cons (ps_if (pt_not (pt_val (pe_cal C2 hr (by decide) pass0 (pa_cons (pv 3) pa_nil)))) (pss_one (ps_raise throws_fn rfl rfl X.at' X.ex (pa_cons pe_str pa_nil))) pss_nil) pss_never)),?_⟩
      refine⟨_,rfl,_,rfl,_,o,dx,v1,b1,rfl,RX.cls,RX.no "name" (by decide),ho,h1,fun e1 H1 f1 e=>?_,fun e1 H1 s1=>q H1 fun b x h _=>s1 _ _ h⟩
      rw[e1,Bool.true_and] at no
      refine⟨_,rfl,v2,b2,rfl,h2.fr ho f1,fun H2 s2=>⟨b2,rfl,?_⟩⟩
      have f2:∀ b x,H b=some x→b≠o→H2 b=some x:=fun b x h n=>s2 _ _ (f1 _ _ h n)
      cases b2 with
      | false=>exact iteT ⟨by decide,q H2 f2⟩
      | true =>
        rw[Bool.true_and] at no
        subst no
        exact iteF ⟨_,rfl,v3,false,rfl,h3.fr ho f2,false,rfl,iteT ⟨by decide,q H2 f2⟩⟩
set_option maxHeartbeats 4000000 in
theorem ok_oinitE {Cs:Nat→Addr} {cRu cB:Addr} {j:Nat} (F:Fun K "__init__" "OnTop.__init__" (inClass (top 45) 0) f fd) (G:Glb mg) (X:Er K mg "BadRule" cB) (RX:RulX K (Cs 5)) (RJ:RulJ K Cs cRu) (gR:mg "Rule" = some (.ref cRu)) (N1:Num mg "MOST_DEPTH" 3) (hj:4≤j) (CR:CalC P w K mg base (CXE P w) 4 "Rule" "__init__" ["self","name"] (sp_rinitE K cB)) (C1:Cal P w K mg base (CXE P w) 4 "need_share" ["parts","way"] (sp_needSE K cB)) (MT:∀ k,k<6→CalM P w K mg base CX0 j (Cs k) "twin" ["self"] (sp_twin 3 k Cs)) (MD:CalM P w K mg base CX0 j (Cs 5) "depth" ["self"] (sp_depG 4 5 Cs)):FnOk P w K mg base (CXE P w) (j+1) f fd ["self","name","parts","way","rule"] (sp_oinitE K cRu Cs cB):=by
  obtain⟨tk,em⟩:=N1
  refine F.okE (N:=["self","name","parts","way","rule"]) ⟨rfl,rfl,rfl,by decide +kernel,rfl,by decide +kernel,by decide +kernel⟩ (fun vs H Q E h=>?_) (fun cdv A outer s H vs Q E hr h=>?_)
  · obtain⟨o,dx,v1,v2,v3,v4,b1,b2,b3,b4,rfl,_⟩:=h
    rfl
  · obtain⟨o,dx,v1,v2,v3,v4,b1,b2,b3,b4,rfl,ho,h1,h2,h3,h4,no,q⟩:=h
    refine⟨_,pss_cons (ps_expr (pe_calC CR hr hj passE (pa_cons (pv 0) (pa_cons (pv 1) pa_nil)))) (pss_cons (ps_expr (pe_cal C1 hr hj passE (pa_cons (pv 2) (pa_cons (pv 3) pa_nil)))) (pss_cons (ps_if (pt_not (pt_val (pe_callB call_isinst rfl G.isinstance boot_isinstance (pa_cons (pv 4) (pa_cons (pe_glob (v:=.ref cRu) rfl gR rfl) pa_nil))))) (pss_one (ps_raise throws_fn rfl rfl X.at' X.ex (pa_cons pe_str pa_nil))) pss_nil)
      (pss_cons (ps_fld (pv 0) (pv 2) rfl) (pss_cons (ps_fld (pv 0) (pv 3) rfl) (pss_cons (ps_fld (pv 0) (pe_anyP (p:=fun k=>k<6) fun k hk=>pe_calM0 (MT k hk) hr (Nat.le_refl _) pass0 (pv 4)) rfl)
      (pss_one (ps_if (pt_cmpR op_gt (pe_calM0 MD hr (Nat.le_refl _) pass0 (pv 0)) (pe_glob (v:=.int 3) rfl em ⟨tk,rfl⟩) (nomark _)) (pss_one (ps_raise throws_fn rfl rfl X.at' X.ex (pa_cons pe_str pa_nil))) pss_never))))))),?_⟩
    refine⟨_,rfl,_,rfl,_,o,dx,v1,b1,rfl,RX.cls,RX.no "name" (by decide),ho,h1,fun t1 H1 f1 e1=>?_,fun _ H1 s1=>q H1 fun b x h _=>s1 _ _ h⟩
    subst t1
    rw[Bool.true_and] at no
    refine⟨_,rfl,_,rfl,v2,v3,b2,b3,rfl,h2.fr ho f1,h3.fr ho f1,fun t2=>?_,fun _=>q H1 f1⟩
    rw[t2,Bool.true_and] at no
    rw[Bool.and_eq_true] at t2
    obtain⟨rfl,rfl⟩:=t2
    obtain⟨n,rfl,hn⟩:=h1.true
    obtain⟨p,rfl,hp⟩:=h2.true
    obtain⟨x,rfl,hw⟩:=h3.true
    cases h4 with
    | good=>cases no
    | other ty kt=>exact⟨_,rfl,_,_,_,_,false,rfl,rfl,.inl (TyB.fr ho f1 ty),kt,false,rfl,iteT ⟨by decide,q H1 f1⟩⟩
    | @deep n' w' p' r' ri gd dp =>
      obtain⟨r,hr3⟩:∃ r,r=Rk.ontop n' p' w' r':=⟨_,rfl⟩
      rw[← hr3] at ri gd dp
      have r1:=ri.frame gd ho f1
      obtain⟨oi,dxi,fsi,rfl,hoi,_,noi⟩:=r1.obj gd
      have k6:=kd6 r
      refine⟨_,rfl,_,_,_,_,true,rfl,rfl,.inl (.ins hoi (RJ.cls _ k6) (RJ.ha _ k6) RJ.hn RJ.htk (RJ.hm _ k6)),RJ.kt _ k6,true,rfl,iteF ?_⟩
      refine⟨_,rfl,_,rfl,o,_,dx,_,rfl,e1,RX.cls,RX.no "parts" (by decide),by show 1<1000;decide,?_⟩
      rw[pr2 _ _ _ (by decide +kernel)]
      refine⟨_,rfl,_,rfl,o,_,dx,_,rfl,upd_same,RX.cls,RX.no "way" (by decide),by show 2<1000;decide,?_⟩
      rw[pr3 _ _ _ _ _ (by decide +kernel) (by decide +kernel)]
      have f2:∀ b y,H b=some y→b≠o→(upd (upd H1 o (.ins (Cs 5) dx [("name",.str n),("parts",.int p)])) o (.ins (Cs 5) dx [("name",.str n),("parts",.int p),("way",.str x)])) b=some y:=fun b y hb ne=>by rw[upd_ne ne,upd_ne ne];exact f1 _ _ hb ne
      have e2:(upd (upd H1 o (.ins (Cs 5) dx [("name",.str n),("parts",.int p)])) o (.ins (Cs 5) dx [("name",.str n),("parts",.int p),("way",.str x)])) o=some (.ins (Cs 5) dx [("name",.str n),("parts",.int p),("way",.str x)]):=upd_same
      generalize upd (upd H1 o (.ins (Cs 5) dx [("name",.str n),("parts",.int p)])) o (.ins (Cs 5) dx [("name",.str n),("parts",.int p),("way",.str x)])=H2 at f2 e2
      have r2:=ri.frame gd ho f2
      obtain⟨oi2,dxi2,fsi2,eoi,hoi2,_,noi2⟩:=r2.obj gd
      cases eoi
      refine⟨r.kd,k6,_,rfl,oi,dxi2,fsi2,rfl,hoi2,noi2 "twin" (by decide),_,r,rfl,rfl,r2,gd,fun u' H3 s3 r3=>?_⟩
      have e3:=s3 _ _ e2
      refine⟨_,rfl,o,_,dx,_,rfl,e3,RX.cls,RX.no "within" (by decide),by show 3<1000;decide,?_⟩
      rw[pr4 _ _ _ _ _ _ _ (by decide +kernel) (by decide +kernel) (by decide +kernel)]
      have f4:∀ b y,H3 b=some y→b≠o→(upd H3 o (.ins (Cs 5) dx [("name",.str n),("parts",.int p),("way",.str x),("within",u')])) b=some y:=fun b y hb ne=>by rw[upd_ne ne];exact hb
      have e4:(upd H3 o (.ins (Cs 5) dx [("name",.str n),("parts",.int p),("way",.str x),("within",u')])) o=some (.ins (Cs 5) dx [("name",.str n),("parts",.int p),("way",.str x),("within",u')]):=upd_same
      generalize upd H3 o (.ins (Cs 5) dx [("name",.str n),("parts",.int p),("way",.str x),("within",u')])=H4 at f4 e4
      have r4:=r3.frame3 RJ.ne gd e3 f4
      have g4:Gd (3+1) (.ontop n p x r):=.ontop hn hp hw gd
      refine⟨_,rfl,o,dx,_,rfl,e4,rfl,_,_,rfl,rfl,.ontop e4 r4,g4,_,_,rfl,rfl,_,rfl,ite2 (fun _=>⟨by decide,q H4 fun b y hb ne=>f4 _ _ (s3 _ _ (f2 _ _ hb ne)) ne⟩) (fun e=>?_)⟩
      refine e (decide_eq_true ?_)
      show dep (.ontop n p x r) > 3
      have:dep (.ontop n p x r)=dep r+1:=rfl
      omega
end
end K09
namespace L2
open PySem PySem.Spec PyProof.Rows PySem.SeqAt
open AutoSeq1 (wpAny_loadPart')
theorem noFill_tuple_mul:fillsNumberSlot (.type "tuple") "mul" = pure false :=
  PySem.fillsNumberSlot_seq (id:="tuple.__mul__") (r:=some (.builtin "tuple.__rmul__")) F.slot_tuple_mul.lookup (by decide +kernel) F.slot_tuple_rmul.lookup (by decide +kernel)
theorem repeat_tuple:seqRepeat? (.type "tuple")=pure (some (.builtin "tuple.__mul__")):=by
  unfold seqRepeat?
  rw[PySem.seqSlot_of (T:="tuple") (name:="__mul__") (id:="tuple.__mul__") F.slot_tuple_mul.lookup (by decide +kernel),PySem.seqSlot_of (T:="tuple") (name:="__rmul__") (id:="tuple.__rmul__") F.slot_tuple_rmul.lookup (by decide +kernel)]
  rfl
theorem int_rmul_tuple (a:Int) (t:Tok) (l:Addr) (items:Array Value) (n:Nat) (dd:Option Addr) (sl:Array (Option Value)) :
    Meets (Builtin.«int.__rmul__» ⟨[.int a t,.ref l],[]⟩) (fun _ R s=>s.heap.get? l=some { cls:=.type "tuple",dict:=dd,data:=.seq items n,slots:=sl }∧R (.ok (.ret Value.notImplemented)) s) :=
  .of_wp fun prog w A R s h=>by obtain⟨hp,g,d,tk,os⟩:=s;obtain⟨hl,h⟩:=h;wp_walk;exact⟨_,rfl,h⟩
theorem tuple_mul0 (l:Addr) (items:Array Value) (n:Nat) (dd:Option Addr) (sl:Array (Option Value)) (t:Tok) (hc0:items.isEmpty=true) :
    Meets (Builtin.«tuple.__mul__» ⟨[.ref l,.int 0 t],[]⟩) (fun _ R s=>s.heap.get? l=some { cls:=.type "tuple",dict:=dd,data:=.seq items n,slots:=sl }∧R (.ok (.ret (Value.ref l))) s) :=
  .of_wp fun prog w A R s h=>by obtain⟨hp,g,d,tk,os⟩:=s;obtain⟨hl,h⟩:=h;have f1:=AutoSeq1.idx_int;have f2:=AutoSeq1.sub_tuple_tuple;wp_walk using wpAny_loadPart' hl;exact⟨_,rfl,h⟩
theorem tuple_mul1 (l:Addr) (items:Array Value) (n:Nat) (dd:Option Addr) (sl:Array (Option Value)) (t:Tok) (hc0:¬ items.isEmpty=true) :
    Meets (Builtin.«tuple.__mul__» ⟨[.ref l,.int 0 t],[]⟩) (fun _ R s=>s.heap.get? l=some { cls:=.type "tuple",dict:=dd,data:=.seq items n,slots:=sl }∧R (.ok (.ret (Value.ref s.heap.objs.size))) { s with heap:=s.heap.push { cls:=Value.type "tuple",data:=Data.seq #[] } }) :=
  .of_wp fun prog w A R s h=>by obtain⟨hp,g,d,tk,os⟩:=s;obtain⟨hl,h⟩:=h;have f1:=AutoSeq1.idx_int;have f2:=AutoSeq1.sub_tuple_tuple;wp_walk using wpAny_loadPart' hl;exact⟨_,rfl,h⟩
theorem op_rep0T {X:Cx}:OpR X (binaryOp .Mult) (fun x y H Q=>∃ a xs,x = .ref a∧y = .int 0∧SqT X.K H a xs∧(xs=[]→Q (.ref a) H)∧(xs≠[]→∀ p,H p=none→Q (.ref p) (upd H p (.tup [])))):=by
  intro pins s σ H x y v u Q I rx ry h
  obtain⟨a,xs,rfl,rfl,ha,q1,q2⟩:=h
  cases rx
  obtain⟨t,rfl⟩:=ry
  obtain⟨its,r1,p1,_⟩:=I.tuple ha
  obtain⟨⟨cls,dd,data,sl⟩,ho,hc,n,hd⟩:=id p1
  simp only at hc hd
  subst hc hd
  refine wpAny_binaryOp_repeat_ref (T:="tuple") (U:="int") (by decide) ⟨_,ho,rfl⟩ (fun s'=>typeIs_int s' 0 t) noFill_tuple_mul F.fills_int_mul F.slot_int_rmul repeat_tuple F.slot_int_index.lookup
    (call_meets F.slot_int_rmul (typeIs_int s 0 t) F.entry_int_rmul (F.args_int_rmul_2 _ _) (int_rmul_tuple 0 t a its.toArray n dd sl) ⟨ho,rfl,⟨_,ho,rfl⟩,?_⟩)
  by_cases e:xs=[]
  · have e':=r1.nil_iff.mpr e
    subst e'
    exact call_meets F.slot_tuple_mul ⟨_,ho,rfl⟩ F.entry_tuple_mul (F.args_tuple_mul_2 _ _) (tuple_mul0 a _ n dd sl t rfl) ⟨ho,⟨.ref a,H,I,rfl,q1 e⟩⟩
  · have e':¬ its.toArray.isEmpty=true:=fun z=>e (r1.nil_iff.mp (by simpa using z))
    refine call_meets F.slot_tuple_mul ⟨_,ho,rfl⟩ F.entry_tuple_mul (F.args_tuple_mul_2 _ _) (tuple_mul1 a _ n dd sl t e') ⟨ho,?_⟩
    refine⟨.ref s.heap.objs.size,_,I.laid (t':=s.toks) (o:=.tup []) (fun b ob q=>Heap.get?_push_of_some _ q) (Nat.le_refl _) ?_,rfl,q2 e _ (I.hok.fresh (Nat.le_refl _))⟩
    exact⟨Nat.zero_le _,_,.nil,IsTup.new _ _⟩
end L2
namespace Pg
open PySem L2
noncomputable def wdR (i:Nat):Str:=(["amount","share","text","month","year","rule","book","noyear","day","entry","mark","person","many","close","line"]:List Str).getD i ""
noncomputable def sp_wdR (K:PySem.W.Frag) (d:Nat→Addr):Sp:=fun vs H Q _=>∃ ea C i,vs=[.ref ea]∧Held K H ea C∧KdOf K d C i∧i=5∧∀ H',Same H H'→Q (.str (wdR i)) H'
noncomputable def sp_oddNm (K:PySem.W.Frag):Sp:=fun vs H Q _=>∃ n,vs=[.int n]∧∀ v H',Same H H'→NmV K H' v false→Q v H'
noncomputable def sp_oddNu (K:PySem.W.Frag):Sp:=fun vs H Q _=>∃ n m,vs=[.int n,.int m]∧0≤m∧∀ v H',Same H H'→NuV K H' m v false→Q v H'
noncomputable def sp_oddWy (K:PySem.W.Frag):Sp:=fun vs H Q _=>∃ n,vs=[.int n]∧∀ v H',Same H H'→WyV K H' v false→Q v H'
noncomputable def sp_oddBd (K:PySem.W.Frag):Sp:=fun vs H Q _=>∃ u ps n,vs=[.ref u,.int n]∧BdsAt H u ps∧BdOk ps∧∀ v H',Same H H'→BdV K H' v false→Q v H'
theorem nm_bad {K:PySem.W.Frag} {H:Hp} {z:Str} (h:(!(rnB z)&&decide (z.length≤100))=true):NmV K H (.str z) false:=by
  rw[Bool.and_eq_true] at h
  refine .inl ⟨z,rfl,of_decide_eq_true h.2,?_⟩
  cases q:rnB z with
  | false=>rfl
  | true=>rw[q] at h;cases h.1
theorem wy_bad {K:PySem.W.Frag} {H:Hp} {z:Str} (h:wayL.contains z=false):WyV K H (.str z) false:=.inl ⟨z,rfl,h.symm⟩
theorem nu_bad {K:PySem.W.Frag} {H:Hp} {z m:Int} (h:z<0∨m<z):NuV K H m (.int z) false:=.inl ⟨z,rfl,(decide_eq_false (by omega)).symm⟩
theorem bd_len {os:List (Option (Int × Int))} (h:os.length=0∨12<os.length):bdB os=false:=by
  unfold bdB
  rw[decide_eq_false (by omega),Bool.false_and]
theorem bd_none {os:List (Option (Int × Int))} (h:none∈os):bdB os=false:=by
  unfold bdB
  have:os.all Option.isSome=false:=by
    cases q:os.all Option.isSome with
    | false=>rfl
    | true=>exact absurd (List.all_eq_true.mp q none h) (by decide)
  rw[this,Bool.false_and,Bool.and_false]
theorem adj_last:∀ (zs:List Int) (a b:Int),b≤a→adjB (zs++[a,b])=false
  | [],a,b,h=>by
    show (decide (a<b)&&true)=false
    rw[decide_eq_false (by omega)]
    rfl
  | [x],a,b,h=>by
    show (decide (x<a)&&adjB [a,b])=false
    rw[show adjB [a,b]=false from adj_last [] a b h,Bool.and_false]
  | x::y::r,a,b,h=>by
    show (decide (x<y)&&adjB (y::r++[a,b]))=false
    rw[adj_last (y::r) a b h,Bool.and_false]
theorem bd_last {ps:List (Int × Int)} {a b:Int × Int} (h:b.1≤a.1):bdB ((ps++[a,b]).map some)=false:=by
  have e:((ps++[a,b]).map fun p:Int × Int=>p.1)=ps.map (·.1)++[a.1,b.1]:=List.map_append
  unfold bdB
  rw[fm_somes,e,adj_last _ _ _ h,Bool.and_false,Bool.and_false,Bool.and_false]
noncomputable def RwL (K:PySem.W.Frag) (H:Hp):List V→List (Option (Int × Int))→Prop
  | [],[]=>True
  | x::xs,o::os=>RwV K H x o∧RwL K H xs os
  | _,_=>False
section
variable {K:PySem.W.Frag} {H H':Hp}
theorem RwL.same (s:Same H H'):∀ {xs:List V} {os:List (Option (Int × Int))},RwL K H xs os→RwL K H' xs os
  | [],[],_=>trivial
  | _::_,_::_,h=>⟨h.1.same s,h.2.same s⟩
theorem RwL.len:∀ {xs:List V} {os:List (Option (Int × Int))},RwL K H xs os→xs.length=os.length
  | [],[],_=>rfl
  | _::_,_::_,h=>congrArg (· + 1) h.2.len
theorem RwL.append:∀ {xs ys:List V} {os ps:List (Option (Int × Int))},RwL K H xs os→RwL K H ys ps→RwL K H (xs++ys) (os++ps)
  | [],_,[],_,_,h2=>h2
  | _::_,_,_::_,_,h1,h2=>⟨h1.1,h1.2.append h2⟩
theorem RwL.take:∀ (k:Nat) {xs:List V} {os:List (Option (Int × Int))},RwL K H xs os→RwL K H (xs.take k) (os.take k)
  | 0,_,_,_=>trivial
  | _+1,[],[],_=>trivial
  | k+1,_::_,_::_,h=>⟨h.1,h.2.take k⟩
theorem RwL.drop:∀ (k:Nat) {xs:List V} {os:List (Option (Int × Int))},RwL K H xs os→RwL K H (xs.drop k) (os.drop k)
  | 0,_,_,h=>h
  | _+1,[],[],_=>trivial
  | k+1,_::_,_::_,h=>h.2.drop k
theorem RwL.at:∀ {xs:List V} {os:List (Option (Int × Int))},RwL K H xs os→∀ (j:Nat) x o,xs[j]? = some x→os[j]? = some o→RwV K H x o
  | [],[],_,_,_,_,h,_=>by cases h
  | _::_,_::_,h,0,_,_,h1,h2=>by
    cases h1
    cases h2
    exact h.1
  | _::_,_::_,h,j+1,_,_,h1,h2=>h.2.at j _ _ h1 h2
theorem RwL.of:∀ {xs:List V} {os:List (Option (Int × Int))},xs.length=os.length→(∀ (j:Nat) x o,xs[j]? = some x→os[j]? = some o→RwV K H x o)→RwL K H xs os
  | [],[],_,_=>trivial
  | _::_,[],h,_=>by cases h
  | [],_::_,h,_=>by cases h
  | _::_,_::_,h,a=>⟨a 0 _ _ rfl rfl,RwL.of (Nat.succ.inj h) fun j x o h1 h2=>a (j+1) x o h1 h2⟩
theorem RwL.bd {t:Addr} {xs:List V} {os:List (Option (Int × Int))} (h:RwL K H xs os) (e:H t=some (.tup xs)) (l:xs.length≤20) (b:bdB os=false):BdV K H (.ref t) false:=by
  rw[← b]
  exact .rows e h.len l h.at
theorem RwL.tups {ys:List V} {ps:List (Int × Int)} (T:TupsAt H ys (ps.map cB)) (ok:∀ q∈ps,Amt q.1∧Prt q.2):RwL K H ys (ps.map some):=by
  refine .of (by rw[T.len,List.length_map,List.length_map]) fun j x o h1 h2=>?_
  obtain⟨a,c,rfl,h3,h4⟩:=T.of_at h1
  rw[List.getElem?_map] at h2 h3
  obtain⟨q,e1,rfl⟩:=Option.map_eq_some_iff.mp h2
  rw[e1] at h3
  cases h3
  have m:=ok q (List.mem_of_getElem? e1)
  exact .pair h4 m.1 m.2
theorem TyB.put {l:Addr} {xs ys:List V} {v:V} {t:String} (hl:H l=some (.lst xs)) (h:TyOf K H v (.type t)):TyOf K (upd H l (.lst ys)) v (.type t):=by
  have f:∀ b x,H b=some x→(∀ zs,x≠.lst zs)→(upd H l (.lst ys)) b=some x:=fun b x e n=>by
    rw[upd_ne (fun z=>by rw[z,hl] at e;cases e;exact n _ rfl)]
    exact e
  cases h with
  | non=>exact .non
  | bl x=>exact .bl x
  | int i=>exact .int i
  | str x=>exact .str x
  | flt x=>exact .flt x
  | @lst a zs e =>
    by_cases q:a=l
    · subst q
      exact .lst upd_same
    · exact .lst (by rw[upd_ne q];exact e)
  | frz e=>exact .frz (f _ _ e (by intro z h;cases h))
  | tup e=>exact .tup (f _ _ e (by intro z h;cases h))
  | dK e=>exact .dK (f _ _ e (by intro z h;cases h))
  | dT e=>exact .dT (f _ _ e (by intro z h;cases h))
theorem NuV.put {l:Addr} {xs ys:List V} {m:Int} {v:V} {b:Bool} (hl:H l=some (.lst xs)) (h:NuV K H m v b):NuV K (upd H l (.lst ys)) m v b:=by
  rcases h with h | ⟨⟨r,hr,ty,ne⟩,e⟩
  · exact .inl h
  · exact .inr ⟨⟨r,hr,TyB.put hl ty,ne⟩,e⟩
theorem RwV.put {l:Addr} {xs ys:List V} {v:V} {o:Option (Int × Int)} (hl:H l=some (.lst xs)) (h:RwV K H v o):RwV K (upd H l (.lst ys)) v o:=by
  have f:∀ b c,H b=some (.tup c)→(upd H l (.lst ys)) b=some (.tup c):=fun b c e=>by
    rw[upd_ne (fun z=>by rw[z,hl] at e;cases e)]
    exact e
  cases h with
  | pair a b c=>exact .pair (f _ _ a) b c
  | other a b=>exact .other (TyB.put hl a) b
  | size a b=>exact .size (f _ _ a) b
  | odd a b c d=>exact .odd (f _ _ a) (b.put hl) (c.put hl) d
theorem same_put {H0:Hp} {l:Addr} {x:HO} (s:Same H0 H) (n:H0 l=none):Same H0 (upd H l x):=fun b o h=>by
  rw[upd_ne (ne_of_none h n)]
  exact s _ _ h
end
end Pg
namespace K09
open PySem PySem.NumText L2 Pg
seal PE PA PT PW PS PSs PG PGs PI PIf PO PK
section
variable {P:Program} {w:World} {K:PySem.W.Frag} {mg:Str→Option Value} {base:Heap} {f:Addr} {fd:FuncData} {d:Nat→Addr} {cR:Addr}
set_option maxHeartbeats 16000000 in
theorem ok_wdR (F:Fun K "_law_word" "_law_word" (top 62) f fd) (G:Glb mg) (D:Kds mg d):FnOkQ P w K mg base 1 f fd ["_law_e"] (sp_wdR K d):=by
  have nd:(["_law_e","_law_found","_law_words"]:List Str).Nodup:=by decide +kernel
  refine F.okQ (N:=["_law_e","_law_found","_law_words"]) ⟨rfl,rfl,rfl,by decide +kernel,rfl,by decide +kernel,by decide +kernel⟩ (fun vs H Q E h=>?_) (fun cdv A outer s H vs Q hr hq h=>?_)
  · obtain⟨ea,C,i,rfl,_⟩:=h
    rfl
  · obtain⟨ea,C,i,rfl,h0,kd,hi,q⟩:=h
    refine' ⟨_,(pss_cut (ps_set (i:=1) nd rfl (Or.inl rfl) (pe_lstS (pa_cons (pe_callB call_isinst rfl G.isinstance boot_isinstance (pa_cons (pv 0) (pa_cons (pe_glob (v:=.ref (d 0)) rfl D.g0 rfl) pa_nil))) (pa_cons (pe_callB call_isinst rfl G.isinstance boot_isinstance (pa_cons (pv 0) (pa_cons (pe_glob (v:=.ref (d 1)) rfl D.g1 rfl) pa_nil))) (pa_cons (pe_callB call_isinst rfl G.isinstance boot_isinstance (pa_cons (pv 0) (pa_cons (pe_glob (v:=.ref (d 2)) rfl D.g2 rfl) pa_nil))) (pa_cons (pe_callB call_isinst rfl G.isinstance boot_isinstance (pa_cons (pv 0) (pa_cons (pe_glob (v:=.ref (d 3)) rfl D.g3 rfl) pa_nil))) pa_nil))))))
        (pss_cut (ps_set (i:=1) nd rfl (Or.inl rfl) (pe_op op_catS (pv 1) (pe_lstS (pa_cons (pe_callB call_isinst rfl G.isinstance boot_isinstance (pa_cons (pv 0) (pa_cons (pe_glob (v:=.ref (d 4)) rfl D.g4 rfl) pa_nil))) (pa_cons (pe_callB call_isinst rfl G.isinstance boot_isinstance (pa_cons (pv 0) (pa_cons (pe_glob (v:=.ref (d 5)) rfl D.g5 rfl) pa_nil))) (pa_cons (pe_callB call_isinst rfl G.isinstance boot_isinstance (pa_cons (pv 0) (pa_cons (pe_glob (v:=.ref (d 6)) rfl D.g6 rfl) pa_nil))) (pa_cons (pe_callB call_isinst rfl G.isinstance boot_isinstance (pa_cons (pv 0) (pa_cons (pe_glob (v:=.ref (d 7)) rfl D.g7 rfl) pa_nil))) pa_nil)))))))
        (pss_cut (ps_set (i:=1) nd rfl (Or.inl rfl) (pe_op op_catS (pv 1) (pe_lstS (pa_cons (pe_callB call_isinst rfl G.isinstance boot_isinstance (pa_cons (pv 0) (pa_cons (pe_glob (v:=.ref (d 8)) rfl D.g8 rfl) pa_nil))) (pa_cons (pe_callB call_isinst rfl G.isinstance boot_isinstance (pa_cons (pv 0) (pa_cons (pe_glob (v:=.ref (d 9)) rfl D.g9 rfl) pa_nil))) (pa_cons (pe_callB call_isinst rfl G.isinstance boot_isinstance (pa_cons (pv 0) (pa_cons (pe_glob (v:=.ref (d 10)) rfl D.g10 rfl) pa_nil))) (pa_cons (pe_callB call_isinst rfl G.isinstance boot_isinstance (pa_cons (pv 0) (pa_cons (pe_glob (v:=.ref (d 11)) rfl D.g11 rfl) pa_nil))) pa_nil)))))))
        (pss_cut (ps_set (i:=1) nd rfl (Or.inl rfl) (pe_op op_catS (pv 1) (pe_lstS (pa_cons (pe_callB call_isinst rfl G.isinstance boot_isinstance (pa_cons (pv 0) (pa_cons (pe_glob (v:=.ref (d 12)) rfl D.g12 rfl) pa_nil))) (pa_cons (pe_callB call_isinst rfl G.isinstance boot_isinstance (pa_cons (pv 0) (pa_cons (pe_glob (v:=.ref (d 13)) rfl D.g13 rfl) pa_nil))) (pa_cons (pe_callB call_isinst rfl G.isinstance boot_isinstance (pa_cons (pv 0) (pa_cons (pe_glob (v:=.ref (d 14)) rfl D.g14 rfl) pa_nil))) pa_nil))))))
        (pss_cons (ps_set (i:=2) nd rfl (Or.inl rfl) (pe_lstS (pa_cons pe_str (pa_cons pe_str (pa_cons pe_str (pa_cons pe_str (pa_cons pe_str (pa_cons pe_str (pa_cons pe_str (pa_cons pe_str (pa_cons pe_str (pa_cons pe_str (pa_cons pe_str (pa_cons pe_str pa_nil))))))))))))))
        (pss_cons (ps_if (PW.pt (pw_or (pt_cmpR op_ne (pe_bm PySem.F.plainAttrs_list PySem.F.slot_list_count PySem.F.type_list_count mt_count (pv 1) (pa_cons pe_bl pa_nil)) pe_int (nomark _)) (pw_or1 (pt_not (pt_val (pe_callB call_isinst rfl G.isinstance boot_isinstance (pa_cons (pv 0) (pa_cons (pe_bltn (v:=.ty "ValueError") rfl G.ve boot_VE rfl) pa_nil)))))))) (pss_one (ps_ret pe_str)) pss_nil)
        (pss_one (ps_ret (pe_at ix_list (pe_op op_catS (pv 2) (pe_lstS (pa_cons pe_str (pa_cons pe_str (pa_cons pe_str pa_nil))))) (pe_bm PySem.F.plainAttrs_list PySem.F.slot_list_index PySem.F.type_list_index mt_index (pv 1) (pa_cons pe_bl pa_nil))))))))))),?main⟩
    refine cut_to (fun σ H'=>∃ l,σ = [some (.ref ea),some (.ref l),none]∧Same H H'∧H' l=some (.lst ([decide (i=0),decide (i=1),decide (i=2),decide (i=3)].map V.bl))) (fun Ek kk=>?_) ?_
    · exact⟨_,rfl,_,_,_,_,_,rfl,rfl,h0.ty,kd.k0,_,rfl,_,_,_,_,_,rfl,rfl,h0.ty,kd.k1,_,rfl,_,_,_,_,_,rfl,rfl,h0.ty,kd.k2,_,rfl,_,_,_,_,_,rfl,rfl,h0.ty,kd.k3,lenOk rfl,fun l1 H1 s1 n1 e1=>kk _ _ ⟨l1,rfl,s1,e1⟩⟩
    rintro σ H1 ⟨l1,rfl,s1,e1⟩
    have h1:=h0.same s1
    refine cut_to (fun σ H'=>∃ l,σ = [some (.ref ea),some (.ref l),none]∧Same H H'∧H' l=some (.lst ([decide (i=0),decide (i=1),decide (i=2),decide (i=3),decide (i=4),decide (i=5),decide (i=6),decide (i=7)].map V.bl))) (fun Ek kk=>?_) ?_
    · exact⟨_,rfl,_,rfl,_,_,_,_,_,rfl,rfl,h1.ty,kd.k4,_,rfl,_,_,_,_,_,rfl,rfl,h1.ty,kd.k5,_,rfl,_,_,_,_,_,rfl,rfl,h1.ty,kd.k6,_,rfl,_,_,_,_,_,rfl,rfl,h1.ty,kd.k7,lenOk rfl,fun l2 H2 s2 n2 e2=>⟨l1,l2,_,_,rfl,rfl,s2 _ _ e1,e2,by rw[sizeLine_eq];exact Nat.le_of_ble_eq_true rfl,fun l3 H3 s3 n3 e3=>kk _ _ ⟨l3,rfl,s1.trans (s2.trans s3),e3⟩⟩⟩
    rintro σ H3 ⟨l3,rfl,S3,e3⟩
    have h3:=h0.same S3
    refine cut_to (fun σ H'=>∃ l,σ = [some (.ref ea),some (.ref l),none]∧Same H H'∧H' l=some (.lst ([decide (i=0),decide (i=1),decide (i=2),decide (i=3),decide (i=4),decide (i=5),decide (i=6),decide (i=7),decide (i=8),decide (i=9),decide (i=10),decide (i=11)].map V.bl))) (fun Ek kk=>?_) ?_
    · exact⟨_,rfl,_,rfl,_,_,_,_,_,rfl,rfl,h3.ty,kd.k8,_,rfl,_,_,_,_,_,rfl,rfl,h3.ty,kd.k9,_,rfl,_,_,_,_,_,rfl,rfl,h3.ty,kd.k10,_,rfl,_,_,_,_,_,rfl,rfl,h3.ty,kd.k11,lenOk rfl,fun l4 H4 s4 n4 e4=>⟨l3,l4,_,_,rfl,rfl,s4 _ _ e3,e4,by rw[sizeLine_eq];exact Nat.le_of_ble_eq_true rfl,fun l5 H5 s5 n5 e5=>kk _ _ ⟨l5,rfl,S3.trans (s4.trans s5),e5⟩⟩⟩
    rintro σ H5 ⟨l5,rfl,S5,e5⟩
    have h5:=h0.same S5
    refine cut_to (fun σ H'=>∃ l,σ = [some (.ref ea),some (.ref l),none]∧Same H H'∧H' l=some (.lst ([decide (i=0),decide (i=1),decide (i=2),decide (i=3),decide (i=4),decide (i=5),decide (i=6),decide (i=7),decide (i=8),decide (i=9),decide (i=10),decide (i=11),decide (i=12),decide (i=13),decide (i=14)].map V.bl))) (fun Ek kk=>?_) ?_
    · exact⟨_,rfl,_,rfl,_,_,_,_,_,rfl,rfl,h5.ty,kd.k12,_,rfl,_,_,_,_,_,rfl,rfl,h5.ty,kd.k13,_,rfl,_,_,_,_,_,rfl,rfl,h5.ty,kd.k14,lenOk rfl,fun l6 H6 s6 n6 e6=>⟨l5,l6,_,_,rfl,rfl,s6 _ _ e5,e6,by rw[sizeLine_eq];exact Nat.le_of_ble_eq_true rfl,fun l7 H7 s7 n7 e7=>kk _ _ ⟨l7,rfl,S5.trans (s6.trans s7),e7⟩⟩⟩
    rintro σ H7 ⟨l7,rfl,S7,e7⟩
    refine⟨lenOk rfl,fun wl H8 s8 n8 e8=>?_⟩
    have e7':=s8 _ _ e7
    have h8:=(h0.same S7).same s8
    have S8:=S7.trans s8
    have c1:([decide (i=0),decide (i=1),decide (i=2),decide (i=3),decide (i=4),decide (i=5),decide (i=6),decide (i=7),decide (i=8),decide (i=9),decide (i=10),decide (i=11),decide (i=12),decide (i=13),decide (i=14)]).countP id=1:=by subst hi;rfl
    refine⟨_,rfl,.inl ⟨rfl,_,SqL.of e7'⟩,l7,_,rfl,rfl,e7',rfl,_,rfl,?_⟩
    rw[c1]
    refine iteF ⟨_,rfl,_,_,_,_,_,rfl,rfl,h8.ty,kd.ve,_,rfl,iteF ?_⟩
    refine⟨_,rfl,lenOk rfl,fun l9 H9 s9 n9 e9=>⟨wl,l9,_,_,rfl,rfl,s9 _ _ e8,e9,by decide,fun la Ha sa na ea'=>?_⟩⟩
    have e7a:=sa _ _ (s9 _ _ e7')
    refine⟨_,rfl,.inl ⟨rfl,_,SqL.of e7a⟩,l7,_,i,rfl,rfl,e7a,?_,(fun m hm=>?_),la,_,_,_,rfl,rfl,SqL.of ea',?_,q Ha (S8.trans (s9.trans sa))⟩
    · subst hi;rfl
    · subst hi
      match m,hm with
      | 0,_=>rfl
      | 1,_=>rfl
      | 2,_=>rfl
      | 3,_=>rfl
      | 4,_=>rfl
    · subst hi;rfl
set_option maxHeartbeats 4000000 in
theorem ok_oddNm (F:Fun K "_law_odd_name" "_law_odd_name" (top 63) f fd):FnOk P w K mg base CX0 1 f fd ["_law_number"] (sp_oddNm K):=by
  have nd:(["_law_number","_law_some"]:List Str).Nodup:=by decide +kernel
  refine F.ok (N:=["_law_number","_law_some"]) ⟨rfl,rfl,rfl,by decide +kernel,rfl,by decide +kernel,by decide +kernel⟩ (fun vs H Q E h=>?_) (fun cdv A outer s H vs Q E hr h=>?_)
  · obtain⟨n,rfl,_⟩:=h
    rfl
  · obtain⟨n,rfl,q⟩:=h
    refine⟨_,(pss_cons (ps_set (i:=1) nd rfl (Or.inl rfl) (pe_lstS (pa_cons pe_str (pa_cons pe_str (pa_cons pe_str (pa_cons pe_str (pa_cons pe_str (pa_cons pe_str (pa_cons pe_str (pa_cons pe_str (pa_cons pe_str (pa_cons pe_non (pa_cons pe_int (pa_cons (pe_lstS (pa_cons pe_str pa_nil)) (pa_cons pe_bl (pa_cons pe_str (pa_cons pe_str (pa_cons pe_dnewS pa_nil))))))))))))))))))
        (pss_one (ps_ret (pe_at ix_list (pv 1) (pe_op op_mod (pv 0) pe_int))))),?_⟩
    refine⟨lenOk rfl,fun l1 H1 s1 n1 e1=>fun t2 H2 s2 n2 e2=>⟨lenOk rfl,fun l3 H3 s3 n3 e3=>?_⟩⟩
    obtain⟨v,ev,mv⟩:=at_any (xs:=[V.str "",V.str "abcdefghi",V.str "Ab",V.str "a1",V.str "a b",V.str "base",V.str "net",V.str "month",V.str "sums",V.non,V.int 5,V.ref l1,V.bl true,V.str "a-",V.str " a",V.ref t2]) (i:=n%16) (Int.emod_nonneg _ (by decide)) (Int.emod_lt_of_pos _ (by decide))
    refine⟨_,rfl,_,rfl,_,_,rfl,rfl,(by show (0:Int)<16;decide),l3,_,_,_,rfl,rfl,SqL.of e3,ev,q v H3 (s1.trans (s2.trans s3)) ?_⟩
    simp only[List.mem_cons,List.not_mem_nil,or_false] at mv
    rcases mv with rfl | rfl | rfl | rfl | rfl | rfl | rfl | rfl | rfl | rfl | rfl | rfl | rfl | rfl | rfl | rfl
    · exact nm_bad (by decide +kernel)
    · exact nm_bad (by decide +kernel)
    · exact nm_bad (by decide +kernel)
    · exact nm_bad (by decide +kernel)
    · exact nm_bad (by decide +kernel)
    · exact nm_bad (by decide +kernel)
    · exact nm_bad (by decide +kernel)
    · exact nm_bad (by decide +kernel)
    · exact nm_bad (by decide +kernel)
    · exact .inr ⟨ns_none,rfl⟩
    · exact .inr ⟨ns_int 5,rfl⟩
    · exact .inr ⟨ns_lst (s3 _ _ (s2 _ _ e1)),rfl⟩
    · exact .inr ⟨ns_bl true,rfl⟩
    · exact nm_bad (by decide +kernel)
    · exact nm_bad (by decide +kernel)
    · exact .inr ⟨ns_dK (s3 _ _ e2),rfl⟩
set_option maxHeartbeats 4000000 in
theorem ok_oddNu (F:Fun K "_law_odd_number" "_law_odd_number" (top 64) f fd):FnOk P w K mg base CX0 1 f fd ["_law_number","_law_most"] (sp_oddNu K):=by
  have nd:(["_law_number","_law_most","_law_far"]:List Str).Nodup:=by decide +kernel
  refine F.ok (N:=["_law_number","_law_most","_law_far"]) ⟨rfl,rfl,rfl,by decide +kernel,rfl,by decide +kernel,by decide +kernel⟩ (fun vs H Q E h=>?_) (fun cdv A outer s H vs Q E hr h=>?_)
  · obtain⟨n,m,rfl,_⟩:=h
    rfl
  · obtain⟨n,m,rfl,m0,q⟩:=h
    refine⟨_,(pss_cons (ps_set (i:=2) nd rfl (Or.inl rfl) (pe_op op_add (pe_op op_add (pv 1) pe_int) (pe_op op_mod (pe_op op_fdiv (pv 0) pe_int) (pe_op op_pow pe_int pe_int))))
        (pss_one (ps_ret (pe_at ix_list (pe_lstS (pa_cons (pe_un un_neg pe_int) (pa_cons (pe_op op_add (pv 1) pe_int) (pa_cons pe_bl (pa_cons pe_non (pa_cons pe_str (pa_cons (pv 2) (pa_cons pe_bl (pa_cons (pe_lstS (pa_cons pe_int pa_nil)) (pa_cons (pe_op op_sub pe_int (pv 2)) pa_nil)))))))))) (pe_op op_mod (pv 0) pe_int))))),?_⟩
    have p9:(0:Int)<(10:Int) ^ (9:Int).toNat:=by decide +kernel
    refine⟨_,rfl,_,_,rfl,rfl,_,rfl,_,_,rfl,rfl,⟨by decide,by decide⟩,_,_,rfl,rfl,⟨by decide,by decide,by decide⟩,_,_,rfl,rfl,p9,_,_,rfl,rfl,?_⟩
    have f0:0≤n/9%(10:Int) ^ (9:Int).toNat:=Int.emod_nonneg _ (by omega)
    dsimp only
    obtain⟨fa,hfa,fa0⟩:∃ fa:Int,m+1+n/9%(10:Int) ^ (9:Int).toNat=fa∧m+1≤fa:=⟨_,rfl,by omega⟩
    rw[hfa]
    refine⟨_,rfl,_,rfl,_,_,rfl,rfl,_,rfl,lenOk rfl,fun l1 H1 s1 n1 e1=>⟨_,rfl,_,_,rfl,rfl,lenOk rfl,fun l4 H4 s4 n4 e4=>?_⟩⟩
    obtain⟨v,ev,mv⟩:=at_any (xs:=[V.int (-1),V.int (m+1),V.bl true,V.non,V.str "5",V.int fa,V.bl false,V.ref l1,V.int (0 - fa)]) (i:=n%9) (Int.emod_nonneg _ (by decide)) (Int.emod_lt_of_pos _ (by decide))
    refine⟨_,rfl,_,_,rfl,rfl,(by show (0:Int)<9;decide),l4,_,_,_,rfl,rfl,SqL.of e4,ev,q v H4 (s1.trans s4) ?_⟩
    simp only[List.mem_cons,List.not_mem_nil,or_false] at mv
    rcases mv with rfl | rfl | rfl | rfl | rfl | rfl | rfl | rfl | rfl
    · exact nu_bad (.inl (by decide))
    · exact nu_bad (.inr (by omega))
    · exact .inr ⟨nn_bl true,rfl⟩
    · exact .inr ⟨nn_none,rfl⟩
    · exact .inr ⟨nn_str _,rfl⟩
    · exact nu_bad (.inr (by omega))
    · exact .inr ⟨nn_bl false,rfl⟩
    · exact .inr ⟨nn_lst (s4 _ _ e1),rfl⟩
    · exact nu_bad (.inl (by omega))
set_option maxHeartbeats 4000000 in
theorem ok_oddWy (F:Fun K "_law_odd_way" "_law_odd_way" (top 65) f fd):FnOk P w K mg base CX0 1 f fd ["_law_number"] (sp_oddWy K):=by
  refine F.ok (N:=["_law_number"]) ⟨rfl,rfl,rfl,by decide +kernel,rfl,by decide +kernel,by decide +kernel⟩ (fun vs H Q E h=>?_) (fun cdv A outer s H vs Q E hr h=>?_)
  · obtain⟨n,rfl,_⟩:=h
    rfl
  · obtain⟨n,rfl,q⟩:=h
    refine⟨_,pss_one (ps_ret (pe_at ix_list (pe_lstS (pa_cons pe_str (pa_cons pe_str (pa_cons pe_str (pa_cons pe_non (pa_cons pe_int (pa_cons (pe_lstS (pa_cons pe_str pa_nil)) (pa_cons pe_str (pa_cons pe_bl (pa_cons (pe_tupS (pa_cons pe_str pa_nil)) (pa_cons pe_dnewS pa_nil))))))))))) (pe_op op_mod (pv 0) pe_int))),?_⟩
    refine⟨lenOk rfl,fun l1 H1 s1 n1 e1=>⟨lenOk rfl,fun t1 G1 g1 m1 i1=>fun t2 H2 s2 n2 e2=>⟨lenOk rfl,fun l3 H3 s3 n3 e3=>?_⟩⟩⟩
    obtain⟨v,ev,mv⟩:=at_any (xs:=[V.str "",V.str "Down",V.str "half",V.non,V.int 5,V.ref l1,V.str "up ",V.bl true,V.ref t1,V.ref t2]) (i:=n%10) (Int.emod_nonneg _ (by decide)) (Int.emod_lt_of_pos _ (by decide))
    refine⟨_,rfl,_,_,rfl,rfl,(by show (0:Int)<10;decide),l3,_,_,_,rfl,rfl,SqL.of e3,ev,q v H3 (s1.trans (g1.trans (s2.trans s3))) ?_⟩
    simp only[List.mem_cons,List.not_mem_nil,or_false] at mv
    rcases mv with rfl | rfl | rfl | rfl | rfl | rfl | rfl | rfl | rfl | rfl
    · exact wy_bad (by decide +kernel)
    · exact wy_bad (by decide +kernel)
    · exact wy_bad (by decide +kernel)
    · exact .inr ⟨ns_none,rfl⟩
    · exact .inr ⟨ns_int 5,rfl⟩
    · exact .inr ⟨ns_lst (s3 _ _ (s2 _ _ (g1 _ _ e1))),rfl⟩
    · exact wy_bad (by decide +kernel)
    · exact .inr ⟨ns_bl true,rfl⟩
    · exact .inr ⟨ns_tup (s3 _ _ (s2 _ _ i1)),rfl⟩
    · exact .inr ⟨ns_dK (s3 _ _ e2),rfl⟩
end
end K09
namespace K09
open PySem PySem.NumText L2 Pg
seal PE PA PT PW PS PSs PG PGs PI PIf PO PK
section
variable {P:Program} {w:World} {K:PySem.W.Frag} {mg:Str→Option Value} {base:Heap} {f:Addr} {fd:FuncData} {d:Nat→Addr} {cR:Addr}
set_option maxHeartbeats 16000000 in
theorem ok_oddBd (F:Fun K "_law_odd_bands" "_law_odd_bands" (top 66) f fd) (G:Glb mg) (C1:Cal P w K mg base CX0 1 "_law_odd_number" ["_law_number","_law_most"] (sp_oddNu K)):FnOk P w K mg base CX0 2 f fd ["_law_pairs_here","_law_number"] (sp_oddBd K):=by
  have nd:(["_law_pairs_here","_law_number","_law_at","_law_more","_law_pair","_law_odd","_law_some"]:List Str).Nodup:=by decide +kernel
  have nc:(["_law_k"]:List Str).Nodup:=by decide +kernel
  refine F.ok (N:=["_law_pairs_here","_law_number","_law_at","_law_more","_law_pair","_law_odd","_law_some"]) ⟨rfl,rfl,rfl,by decide +kernel,rfl,by decide +kernel,by decide +kernel⟩ (fun vs H Q E h=>?_) (fun cdv A outer s H vs Q E hr h=>?_)
  · obtain⟨u,ps,n,rfl,_⟩:=h
    rfl
  · obtain⟨u,ps,n,rfl,⟨ys,hu,T⟩,ok,q⟩:=h
    refine' ⟨_,(pss_cons (ps_set (i:=2) nd rfl (Or.inl rfl) (pe_op op_mod (pe_op op_fdiv (pv 1) pe_int) (pe_callB call_len_seq rfl G.len boot_len (pa_cons (pv 0) pa_nil))))
        (pss_cons (ps_set (i:=3) nd rfl (Or.inl rfl) (pe_op op_fdiv (pv 1) pe_int))
        (pss_cons (ps_set (i:=4) nd rfl (Or.inl rfl) (pe_at ix_tup (pv 0) (pv 2)))
        (pss_cut (ps_set (i:=5) nd rfl (Or.inl rfl) (pe_lstS (pa_cons (pe_callTy call_list_of rfl G.list boot_list (pa_cons (pv 4) pa_nil)) (pa_cons (pe_op op_catT (pv 4) (pe_tupS (pa_cons pe_int pa_nil))) (pa_cons (pe_slice sl_tup (pv 4) po_none (po_some pe_int)) (pa_cons pe_non (pa_cons (pe_tupS (pa_cons (pe_at ix_tup (pv 4) pe_int) (pa_cons (pe_cal C1 hr (by decide) pass0 (pa_cons (pv 3) (pa_cons pe_int pa_nil))) pa_nil))) (pa_cons pe_int pa_nil))))))))
        (pss_cut (ps_expr (pe_bm PySem.F.plainAttrs_list PySem.F.slot_list_append PySem.F.type_list_append mt_append (pv 5) (pa_cons (pe_tupS (pa_cons (pe_cal C1 hr (by decide) pass0 (pa_cons (pv 3) (pa_cons (pe_op op_pow pe_int pe_int) pa_nil))) (pa_cons (pe_at ix_tup (pv 4) pe_int) pa_nil))) pa_nil)))
        (pss_cut (ps_set (i:=6) nd rfl (Or.inl rfl) (pe_lstS (pa_cons (pe_callTy call_list_of rfl G.list boot_list (pa_cons (pv 0) pa_nil)) (pa_cons (pe_tupS pa_nil) (pa_cons (pe_callTy call_tuple_of rfl G.tuple boot_tuple (pa_cons ?comp pa_nil)) (pa_cons (pe_op op_catT (pe_tupS (pa_cons (pe_tupS (pa_cons pe_int (pa_cons pe_int pa_nil))) pa_nil)) (pe_op op_rep0T (pe_slice sl_tup (pv 0) (po_some pe_int) po_none) pe_int)) (pa_cons pe_non (pa_cons pe_str (pa_cons pe_int pa_nil)))))))))
        (pss_cut (ps_set (i:=6) nd rfl (Or.inl rfl) (pe_op op_catS (pv 6) (pe_lstS (pa_cons (pe_op op_catT (pv 0) (pe_tupS (pa_cons (pe_at ix_tup (pv 0) (pe_un un_neg pe_int)) pa_nil))) (pa_cons (pe_op op_catT (pv 0) (pe_tupS (pa_cons (pe_tupS (pa_cons pe_int (pa_cons pe_int pa_nil))) pa_nil))) pa_nil)))))
        (pss_cons (ps_if (pt_cmpR op_lt (pe_op op_mod (pv 1) pe_int) pe_int (nomark _)) (pss_one (ps_ret (pe_at ix_list (pv 6) (pe_op op_mod (pv 1) pe_int)))) pss_nil)
        (pss_one (ps_ret (pe_op op_catT (pe_op op_catT0 (pe_slice sl_tup (pv 0) po_none (po_some (pv 2))) (pe_tupS (pa_cons (pe_at ix_list (pv 5) (pe_op op_mod (pv 3) pe_int)) pa_nil))) (pe_slice sl_tup (pv 0) (po_some (pe_op op_add (pv 2) pe_int)) po_none)))))))))))),?main⟩
    case comp =>
      refine' pe_compI (Nc:=["_law_k"]) (cl:=[]) (src:=[none]) (wi:=iRng1 (tCons (tC (.int 13)) tNil)) (g:=gName 0) (tt:=tNoIf) (te:=tTupS (tCons (tVar 0) (tCons (tC (.int 5)) tNil)))
        ⟨rfl,rfl,by decide +kernel,by decide +kernel,(fun x c z=>nomatch z),has_of (by rfl),frm_none frm_nil,rfl⟩ rfl (pi_range1 rfl G.range (pa_cons pe_int pa_nil)) ?hb
      case hb =>
        intro fp C' s' H'
        exact⟨pg_name (i:=0) nc rfl (Or.inl rfl),pif_nil,pe_tupS (pa_cons (pv 0) (pa_cons pe_int pa_nil))⟩
    dsimp (config:={ proj:=false,iota:=false,beta:=false,eta:=false }) only [cxOf_K,nox_K]
    have yl:ys.length=ps.length:=by rw[T.len,List.length_map]
    have p1:1≤ps.length:=by
      obtain⟨p,r,e⟩:=ok.hd
      rw[e]
      exact Nat.le_add_left _ _
    have few:=ok.few
    have k0:0≤n/11%(ys.length:Int):=Int.emod_nonneg _ (by omega)
    have k1:n/11%(ys.length:Int)<(ys.length:Int):=Int.emod_lt_of_pos _ (by omega)
    obtain⟨k,ek⟩:=Int.eq_ofNat_of_zero_le k0
    rw[ek] at k1
    have kl:k<ps.length:=by omega
    obtain⟨a,ea,ha⟩:=bds_at T (List.getElem?_eq_getElem kl)
    obtain⟨mA,mP⟩:=ok.ok _ (List.getElem_mem kl)
    obtain⟨p,hp⟩:∃ p,p=ps[k]:=⟨_,rfl⟩
    rw[← hp] at ha mA mP
    refine⟨_,rfl,_,_,rfl,rfl,⟨by decide,by decide⟩,_,rfl,u,_,rfl,.inr (SqT.of hu),_,_,rfl,rfl,(by show (0:Int)<(ys.length:Int);omega),?_⟩
    dsimp only
    rw[ek]
    refine⟨_,rfl,_,_,rfl,rfl,⟨by decide,by decide⟩,_,rfl,_,rfl,u,_,_,_,rfl,rfl,SqT.of hu,atI_nat ea,?_⟩
    dsimp only
    generalize n/200=m
    refine cut_to (fun σ H'=>∃ l xs,σ = [some (.ref u),some (.int n),some (.int (k:Nat)),some (.int m),some (.ref a),some (.ref l),none]∧Same H H'∧H l=none∧H' l=some (.lst xs)∧xs.length=6∧∀ x∈xs,RwV K H' x none) (fun Ek kk=>?_) ?_
    · refine⟨_,rfl,a,_,rfl,.inr (SqT.of ha),fun l1 l10=>?_⟩
      have s1:Same H (upd H l1 (.lst (cB p))):=Same.upd l10
      have e1:(upd H l1 (.lst (cB p))) l1=some (.lst (cB p)):=upd_same
      generalize upd H l1 (.lst (cB p))=H1 at s1 e1
      refine⟨_,rfl,lenOk rfl,fun t2 H2 s2 n2 e2=>⟨a,t2,_,_,rfl,rfl,SqT.of (s2 _ _ (s1 _ _ ha)),SqT.of e2,(by intro z;cases z),(by rw[sizeLine_eq];exact Nat.le_of_ble_eq_true rfl),(by intro z;cases z),fun _ t3 n3=>?_⟩⟩
      have s3:Same H2 (upd H2 t3 (.tup (cB p++[.int 0]))):=Same.upd n3
      have e3:(upd H2 t3 (.tup (cB p++[.int 0]))) t3=some (.tup (cB p++[.int 0])):=upd_same
      generalize upd H2 t3 (.tup (cB p++[.int 0]))=H3 at s3 e3
      refine⟨_,rfl,_,rfl,a,_,rfl,SqT.of (s3 _ _ (s2 _ _ (s1 _ _ ha))),(by intro z;cases z.2),fun t4 n4=>?_⟩
      have s4:Same H3 (upd H3 t4 (.tup (cutV (cB p) none (some 1)))):=Same.upd n4
      have e4:(upd H3 t4 (.tup (cutV (cB p) none (some 1)))) t4=some (.tup (cutV (cB p) none (some 1))):=upd_same
      generalize upd H3 t4 (.tup (cutV (cB p) none (some 1)))=H4 at s4 e4
      have ha4:=s4 _ _ (s3 _ _ (s2 _ _ (s1 _ _ ha)))
      refine⟨_,rfl,a,_,_,_,rfl,rfl,SqT.of ha4,rfl,_,rfl,m,20000,rfl,by decide,fun v H5 s5 nv=>⟨lenOk rfl,fun t6 H6 s6 n6 e6=>⟨lenOk rfl,fun l H7 s7 n7 e7=>?_⟩⟩⟩
      have S:=s1.trans (s2.trans (s3.trans (s4.trans (s5.trans s6))))
      refine kk _ _ ⟨l,_,rfl,S.trans s7,was_none S n7,e7,rfl,fun x hx=>?_⟩
      simp only[List.mem_cons,List.not_mem_nil,or_false] at hx
      rcases hx with rfl | rfl | rfl | rfl | rfl | rfl
      · exact .other (.lst (s7 _ _ (s6 _ _ (s5 _ _ (s4 _ _ (s3 _ _ (s2 _ _ e1))))))) rfl
      · exact .size (s7 _ _ (s6 _ _ (s5 _ _ (s4 _ _ e3)))) (by intro z;cases z)
      · exact .size (s7 _ _ (s6 _ _ (s5 _ _ e4))) (by intro z;cases z)
      · exact .other .non rfl
      · exact .odd (b1:=true) (b2:=false) (s7 _ _ e6) (.inl ⟨p.1,rfl,(decide_eq_true (show 0≤p.1∧p.1≤1000000000000 from mA)).symm⟩) (nv.same (s6.trans s7)) rfl
      · exact .other (.int 5) rfl
    rintro σ H1 ⟨l,xs,rfl,s1,l0,hl,xl,bad⟩
    refine cut_to (fun σ H'=>∃ xs,σ = [some (.ref u),some (.int n),some (.int (k:Nat)),some (.int m),some (.ref a),some (.ref l),none]∧Same H H'∧H' l=some (.lst xs)∧xs.length=7∧∀ x∈xs,RwV K H' x none) (fun Ek kk=>?_) ?_
    · refine⟨_,rfl,.inl ⟨rfl,_,SqL.of hl⟩,_,rfl,_,_,rfl,rfl,⟨by decide,by decide,by decide⟩,m,_,rfl,by decide +kernel,fun v H2 s2 nv=>⟨_,rfl,a,_,_,_,rfl,rfl,SqT.of (s2 _ _ (s1 _ _ ha)),rfl,lenOk rfl,fun t3 H3 s3 n3 e3=>?_⟩⟩
      have hl3:=s3 _ _ (s2 _ _ hl)
      refine⟨l,_,_,rfl,rfl,hl3,by rw[xl,sizeLine_eq];decide,kk _ _ ⟨_,rfl,same_put (s1.trans (s2.trans s3)) l0,upd_same,by rw[List.length_append,xl];rfl,fun x hx=>?_⟩⟩
      rcases List.mem_append.mp hx with hx | hx
      · exact ((bad x hx).same (s2.trans s3)).put hl3
      · rw[List.mem_singleton] at hx
        subst hx
        have nv':NuV K H2 1000000000000 v false:=nv
        exact RwV.put hl3 (.odd (b1:=false) (b2:=true) e3 (nv'.same s3) (.inl ⟨p.2,rfl,(decide_eq_true (show 0≤p.2∧p.2≤20000 from mP)).symm⟩) rfl)
    rintro σ H2 ⟨xs2,rfl,s2,hl2,xl2,bad2⟩
    refine cut_to (fun σ H'=>∃ l' zs,σ = [some (.ref u),some (.int n),some (.int (k:Nat)),some (.int m),some (.ref a),some (.ref l),some (.ref l')]∧Same H2 H'∧H' l'=some (.lst zs)∧zs.length=7∧∀ x∈zs,BdV K H' x false) (fun Ek kk=>?_) ?_
    · have hu2:=s2 _ _ hu
      refine⟨_,rfl,u,_,rfl,.inr (SqT.of hu2),fun l3 l30=>?_⟩
      have s3:Same H2 (upd H2 l3 (.lst ys)):=Same.upd l30
      have e3:(upd H2 l3 (.lst ys)) l3=some (.lst ys):=upd_same
      generalize upd H2 l3 (.lst ys)=H3 at s3 e3
      refine⟨lenOk rfl,fun t4 H4 s4 n4 e4=>⟨13,rfl,by decide,by decide,fun D hD=>comp_newN walk_rng (rng_items 13) hD (by rw[List.length_range,sizeLine_eq];decide) (fun i=>cB ((i:Int),5)) (fun i hi v H5 R s5 e5 r=>?_) (fun zs H5 s5 e5 T5=>?_)⟩⟩
      · exact⟨_,rfl,lenOk rfl,fun t H6 s6 n6 e6=>r t H6 s6 n6 (by rw[e6,e5];rfl)⟩
      refine⟨D,_,rfl,.inl ⟨SqL.of e5,fun t6 n6=>?_⟩⟩
      have s6:Same H5 (upd H5 t6 (.tup zs)):=Same.upd n6
      have e6:(upd H5 t6 (.tup zs)) t6=some (.tup zs):=upd_same
      generalize upd H5 t6 (.tup zs)=H6 at s6 e6
      refine⟨lenOk rfl,fun t7 H7 s7 n7 e7=>⟨lenOk rfl,fun t8 H8 s8 n8 e8=>?_⟩⟩
      have hu8:=s8 _ _ (s7 _ _ (s6 _ _ (s5 _ _ (s4 _ _ (s3 _ _ hu2)))))
      refine⟨_,rfl,_,rfl,u,_,rfl,SqT.of hu8,(by rw[show (1:Int)=((1:Nat):Int) from rfl,HT.sIx_nat];omega),fun t9 n9=>?_⟩
      have s9:Same H8 (upd H8 t9 (.tup (cutV ys (some 1) none))):=Same.upd n9
      have e9:(upd H8 t9 (.tup (cutV ys (some 1) none))) t9=some (.tup (cutV ys (some 1) none)):=upd_same
      generalize upd H8 t9 (.tup (cutV ys (some 1) none))=H9 at s9 e9
      have S9:=s3.trans (s4.trans (s5.trans (s6.trans (s7.trans (s8.trans s9)))))
      have fin:∀ {Hz:Hp} {tz:Addr},Same H9 Hz→Hz tz=some (.tup [.ref t7])→∀ x∈[V.ref l3,V.ref t4,V.ref t6,V.ref tz,V.non,V.str "0:5",V.int 5],BdV K Hz x false:=fun {Hz tz} sz ez x hx=>by
        simp only[List.mem_cons,List.not_mem_nil,or_false] at hx
        rcases hx with rfl | rfl | rfl | rfl | rfl | rfl | rfl
        · exact .other (.lst (sz _ _ (s9 _ _ (s8 _ _ (s7 _ _ (s6 _ _ (s5 _ _ (s4 _ _ e3)))))))) rfl
        · exact RwL.bd (xs:=[]) (os:=[]) trivial (sz _ _ (s9 _ _ (s8 _ _ (s7 _ _ (s6 _ _ (s5 _ _ e4)))))) (by decide) (bd_len (.inl rfl))
        · have S:=s6.trans (s7.trans (s8.trans (s9.trans sz)))
          have T5':TupsAt H5 zs ((((List.range 13).map fun i:Nat=>((i:Int),(5:Int)))).map cB):=by rw[List.map_map];exact T5
          have zl:zs.length=13:=by rw[T5.len,List.length_map,List.length_range]
          refine RwL.bd (RwL.tups (T5'.same S) fun q hq=>?_) (sz _ _ (s9 _ _ (s8 _ _ (s7 _ _ e6)))) (by omega) (bd_len (.inr (by rw[List.length_map,List.length_map,List.length_range];decide)))
          obtain⟨i,hi,rfl⟩:=List.mem_map.mp hq
          have:=List.mem_range.mp hi
          exact⟨⟨by show 0≤(i:Int);omega,by show (i:Int)≤1000000000000;omega⟩,⟨by show (0:Int)≤5;decide,by show (5:Int)≤20000;decide⟩⟩
        · refine RwL.bd (xs:=[.ref t7]) (os:=[some (1,5)]) ⟨.pair (p:=(1,5)) (sz _ _ (s9 _ _ (s8 _ _ e7))) ⟨by decide,by decide⟩ ⟨by decide,by decide⟩,trivial⟩ ez (by show 1≤20;decide) (by decide)
        · exact .other .non rfl
        · exact .other (.str _) rfl
        · exact .other (.int 5) rfl
      have cat:∀ {z:Addr} {Hz:Hp} {R:V→Hp→Prop},Same H9 Hz→Hz z=some (.tup [])→(∀ tz Hy,Same Hz Hy→Hy tz=some (.tup [.ref t7])→R (.ref tz) Hy)→rCatT K (.ref t8) (.ref z) Hz R:=fun {z Hz R} sz ez r=>⟨t8,z,_,_,rfl,rfl,SqT.of (sz _ _ (s9 _ _ e8)),SqT.of ez,(by intro z;cases z),(by rw[sizeLine_eq];exact Nat.le_of_ble_eq_true rfl),fun _=>r _ _ (Same.refl _) (sz _ _ (s9 _ _ e8)),fun z=>absurd rfl z⟩
      refine⟨t9,_,rfl,rfl,SqT.of e9,fun z=>cat (Same.refl _) (by rw[e9,z]) fun tz Hy sy ey=>⟨lenOk rfl,fun l' Hx sx nx ex=>kk _ _ ⟨l',_,rfl,S9.trans (sy.trans sx),ex,rfl,fun x hx=>(fin sy ey x hx).same sx⟩⟩,fun _ ta na=>?_⟩
      have sa:Same H9 (upd H9 ta (.tup [])):=Same.upd na
      exact cat sa upd_same fun tz Hy sy ey=>⟨lenOk rfl,fun l' Hx sx nx ex=>kk _ _ ⟨l',_,rfl,S9.trans (sa.trans (sy.trans sx)),ex,rfl,fun x hx=>(fin (sa.trans sy) ey x hx).same sx⟩⟩
    rintro σ H3 ⟨l',zs,rfl,s3,hl',zl,badz⟩
    have S3:=s2.trans s3
    have T3:=T.same S3
    obtain⟨qs,z,eps⟩:∃ qs z,ps=qs++[z]:=⟨ps.dropLast,ps.getLast (fun e=>by rw[e] at p1;cases p1),(List.dropLast_concat_getLast _).symm⟩
    refine cut_to (fun σ H'=>∃ l' zs,σ = [some (.ref u),some (.int n),some (.int (k:Nat)),some (.int m),some (.ref a),some (.ref l),some (.ref l')]∧Same H2 H'∧H' l'=some (.lst zs)∧zs.length=9∧∀ x∈zs,BdV K H' x false) (fun Ek kk=>?_) ?_
    · obtain⟨b,eb,hb⟩:=bds_last (eps ▸ T3)
      have mz:=ok.ok z (by rw[eps];exact List.mem_append_right _ List.mem_cons_self)
      have hu3:=S3 _ _ hu
      have ne:ys≠[]:=fun e=>by
        rw[e] at yl
        have:(0:Nat)=ps.length:=yl
        omega
      refine⟨_,rfl,_,rfl,_,rfl,_,rfl,u,_,_,_,rfl,rfl,SqT.of hu3,eb,lenOk rfl,fun t4 H4 s4 n4 e4=>⟨u,t4,_,_,rfl,rfl,SqT.of (s4 _ _ hu3),SqT.of e4,ne,by rw[sizeLine_eq];show ys.length+1≤_;omega,(by intro z;cases z),fun _ t5 n5=>?_⟩⟩
      have s5:Same H4 (upd H4 t5 (.tup (ys++[.ref b]))):=Same.upd n5
      have e5:(upd H4 t5 (.tup (ys++[.ref b]))) t5=some (.tup (ys++[.ref b])):=upd_same
      generalize upd H4 t5 (.tup (ys++[.ref b]))=H5 at s5 e5
      refine⟨_,rfl,lenOk rfl,fun t6 H6 s6 n6 e6=>⟨lenOk rfl,fun t7 H7 s7 n7 e7=>⟨u,t7,_,_,rfl,rfl,SqT.of (s7 _ _ (s6 _ _ (s5 _ _ (s4 _ _ hu3)))),SqT.of e7,ne,by rw[sizeLine_eq];show ys.length+1≤_;omega,(by intro z;cases z),fun _ t8 n8=>?_⟩⟩⟩
      have s8:Same H7 (upd H7 t8 (.tup (ys++[.ref t6]))):=Same.upd n8
      have e8:(upd H7 t8 (.tup (ys++[.ref t6]))) t8=some (.tup (ys++[.ref t6])):=upd_same
      generalize upd H7 t8 (.tup (ys++[.ref t6]))=H8 at s8 e8
      refine⟨lenOk rfl,fun t9 H9 s9 n9 e9=>⟨l',t9,_,_,rfl,rfl,s9 _ _ (s8 _ _ (s7 _ _ (s6 _ _ (s5 _ _ (s4 _ _ hl'))))),e9,by rw[zl,sizeLine_eq];exact Nat.le_of_ble_eq_true rfl,fun ta Ha sa na ea'=>?_⟩⟩
      have S:=s4.trans (s5.trans (s6.trans (s7.trans (s8.trans (s9.trans sa)))))
      have TA:=RwL.tups (K:=K) (T3.same S) ok.ok
      refine kk _ _ ⟨ta,_,rfl,s3.trans S,ea',by rw[List.length_append,zl];rfl,fun x hx=>?_⟩
      rcases List.mem_append.mp hx with hx | hx
      · exact (badz x hx).same S
      simp only[List.mem_cons,List.not_mem_nil,or_false] at hx
      rcases hx with rfl | rfl
      · have R:RwL K Ha (ys++[.ref b]) (ps.map some++[some z]):=TA.append ⟨.pair (S _ _ hb) mz.1 mz.2,trivial⟩
        refine R.bd (sa _ _ (s9 _ _ (s8 _ _ (s7 _ _ (s6 _ _ e5))))) (by rw[List.length_append,yl];show ps.length+1≤20;omega) ?_
        have e:ps.map some++[some z]=(qs++[z,z]).map some:=by
          rw[eps,List.map_append,List.map_append,List.append_assoc]
          rfl
        rw[e]
        exact bd_last (Int.le_refl _)
      · have R:RwL K Ha (ys++[.ref t6]) (ps.map some++[some (0,7)]):=TA.append ⟨.pair (p:=(0,7)) (sa _ _ (s9 _ _ (s8 _ _ (s7 _ _ e6)))) ⟨by decide,by decide⟩ ⟨by decide,by decide⟩,trivial⟩
        refine R.bd (sa _ _ (s9 _ _ e8)) (by rw[List.length_append,yl];show ps.length+1≤20;omega) ?_
        have e:ps.map some++[some ((0:Int),(7:Int))]=(qs++[z,(0,7)]).map some:=by
          rw[eps,List.map_append,List.map_append,List.append_assoc]
          rfl
        rw[e]
        exact bd_last mz.1.1
    rintro σ H4 ⟨l4,zs4,rfl,s4,hl4,zl4,bad4⟩
    have S4:=s2.trans s4
    refine⟨_,rfl,_,_,rfl,rfl,(by show (0:Int)<11;decide),_,_,rfl,rfl,_,rfl,ite2 (fun e=>?_) (fun _=>?_)⟩
    · have e:=of_decide_eq_true e
      obtain⟨v,ev,mv⟩:=at_any (xs:=zs4) (i:=n%11) (Int.emod_nonneg _ (by decide)) (by rw[zl4];exact e)
      exact⟨_,rfl,_,rfl,_,_,rfl,rfl,(by show (0:Int)<11;decide),l4,_,_,_,rfl,rfl,SqL.of hl4,ev,q v H4 S4 (bad4 v mv)⟩
    · have hu4:=S4 _ _ hu
      obtain⟨v,ev,mv⟩:=at_any (xs:=xs2) (i:=m%7) (Int.emod_nonneg _ (by decide)) (by rw[xl2];exact Int.emod_lt_of_pos _ (by decide))
      refine⟨_,rfl,_,rfl,_,rfl,u,_,rfl,SqT.of hu4,(by rw[HT.sIx_nat];omega),fun t5 n5=>?_⟩
      have s5:Same H4 (upd H4 t5 (.tup (cutV ys none (some (k:Int))))):=Same.upd n5
      have e5:(upd H4 t5 (.tup (cutV ys none (some (k:Int))))) t5=some (.tup (ys.take k)):=by rw[upd_same,cut_take]
      generalize upd H4 t5 (.tup (cutV ys none (some (k:Int))))=H5 at s5 e5
      refine⟨_,rfl,_,rfl,_,_,rfl,rfl,(by show (0:Int)<7;decide),l,_,_,_,rfl,rfl,SqL.of (s5 _ _ (s4 _ _ hl2)),ev,lenOk rfl,fun t6 H6 s6 n6 e6=>?_⟩
      have S6:=s4.trans (s5.trans s6)
      have rv:RwV K H6 v none:=(bad2 v mv).same S6
      have tl:(ys.take k).length=k:=by rw[List.length_take];omega
      have go:∀ {t7:Addr} {H7:Hp},Same H6 H7→H7 t7=some (.tup (ys.take k++[v]))→tSl (rSlT K) (tVar 0) (tPart (tOp (rI0 fun i j=>.int (i+j)) (tVar 2) (tC (.int 1)))) tNoPart [some (.ref u),some (.int n),some (.int (k:Nat)),some (.int m),some (.ref a),some (.ref l),some (.ref l4)] H7 fun y Hy=>rCatT K (.ref t7) y Hy Q:=fun {t7 H7} s7 e7=>by
        have hu7:=s7 _ _ (s6 _ _ (s5 _ _ hu4))
        refine⟨_,rfl,_,rfl,_,_,rfl,rfl,_,rfl,u,_,rfl,SqT.of hu7,(by rw[show ((k:Nat):Int)+1=((k+1:Nat):Int) from rfl,HT.sIx_nat];omega),fun t8 n8=>?_⟩
        have s8:Same H7 (upd H7 t8 (.tup (cutV ys (some ((k:Nat)+1)) none))):=Same.upd n8
        have e8:(upd H7 t8 (.tup (cutV ys (some ((k:Nat)+1)) none))) t8=some (.tup (ys.drop (k+1))):=by rw[upd_same,show ((k:Nat):Int)+1=((k+1:Nat):Int) from rfl,cut_drop]
        generalize upd H7 t8 (.tup (cutV ys (some ((k:Nat)+1)) none))=H8 at s8 e8
        have S8:=S4.trans (s5.trans (s6.trans (s7.trans s8)))
        have TA:=RwL.tups (K:=K) (T.same S8) ok.ok
        have R1:RwL K H8 (ys.take k++[v]) ((ps.map some).take k++[none]):=(TA.take k).append ⟨rv.same (s7.trans s8),trivial⟩
        have l1:(ys.take k++[v]).length=k+1:=by rw[List.length_append,tl];rfl
        have l2:(ys.drop (k+1)).length=ys.length - (k+1):=List.length_drop
        refine⟨t7,t8,_,_,rfl,rfl,SqT.of (s8 _ _ e7),SqT.of e8,(fun z=>by rw[z] at l1;cases l1),(by rw[l1,l2,sizeLine_eq];omega),fun z=>?_,fun z t9 n9=>?_⟩
        · exact q _ H8 S8 (R1.bd (s8 _ _ e7) (by rw[l1];omega) (bd_none (List.mem_append_right _ List.mem_cons_self)))
        · have s9:Same H8 (upd H8 t9 (.tup (ys.take k++[v]++ys.drop (k+1)))):=Same.upd n9
          refine q _ _ (S8.trans s9) (((R1.append (TA.drop (k+1))).same s9).bd upd_same (by rw[List.length_append,l1,l2];omega) (bd_none (List.mem_append_left _ (List.mem_append_right _ List.mem_cons_self))))
      refine⟨t5,t6,_,_,rfl,rfl,SqT.of (s6 _ _ e5),SqT.of e6,(by intro z;cases z),(by rw[tl,sizeLine_eq];show k+1≤_;omega),fun z=>go (Same.refl _) (by rw[z];exact e6),fun _ t7 H7 s7 n7 e7=>go s7 e7⟩
end
end K09
namespace Pg
open PySem L2
noncomputable def kwd:Nat→Str
  | 0=>"flat"
  | 1=>"share"
  | 2=>"capped"
  | 3=>"least"
  | 4=>"bands"
  | _=>"ontop"
inductive ArV (K:PySem.W.Frag) (H:Hp):Nat→List V→List Bool→Prop where
  | flat {v1 v2:V} {b1 b2:Bool}:NmV K H v1 b1→NuV K H 1000000000000 v2 b2→ArV K H 0 [v1,v2] [b1,b2]
  | share {v1 v2 v3:V} {b1 b2 b3:Bool}:NmV K H v1 b1→NuV K H 20000 v2 b2→WyV K H v3 b3→ArV K H 1 [v1,v2,v3] [b1,b2,b3]
  | capped {v1 v2 v3 v4:V} {b1 b2 b3 b4:Bool}:NmV K H v1 b1→NuV K H 20000 v2 b2→NuV K H 1000000000000 v3 b3→WyV K H v4 b4→ArV K H 2 [v1,v2,v3,v4] [b1,b2,b3,b4]
  | least {v1 v2 v3 v4:V} {b1 b2 b3 b4:Bool}:NmV K H v1 b1→NuV K H 20000 v2 b2→NuV K H 1000000000000 v3 b3→WyV K H v4 b4→ArV K H 3 [v1,v2,v3,v4] [b1,b2,b3,b4]
  | bands {v1 v2 v3:V} {b1 b2 b3:Bool}:NmV K H v1 b1→BdV K H v2 b2→WyV K H v3 b3→ArV K H 4 [v1,v2,v3] [b1,b2,b3]
  | ontop {v1 v2 v3 v4:V} {b1 b2 b3:Bool}:NmV K H v1 b1→NuV K H 20000 v2 b2→WyV K H v3 b3→ArV K H 5 [v1,v2,v3,v4] [b1,b2,b3]
section
variable {K:PySem.W.Frag} {H H':Hp} {k:Nat} {args:List V} {bs:List Bool}
theorem ArV.same (s:Same H H') (h:ArV K H k args bs):ArV K H' k args bs:=by
  cases h with
  | flat a b=>exact .flat (a.same s) (b.same s)
  | share a b c=>exact .share (a.same s) (b.same s) (c.same s)
  | capped a b c d=>exact .capped (a.same s) (b.same s) (c.same s) (d.same s)
  | least a b c d=>exact .least (a.same s) (b.same s) (c.same s) (d.same s)
  | bands a b c=>exact .bands (a.same s) (b.same s) (c.same s)
  | ontop a b c=>exact .ontop (a.same s) (b.same s) (c.same s)
theorem ArV.bad (h:ArV K H k args bs) (hk:k<5) (f:false∈bs):BadA K H k args:=by
  have nf:∀ {b:Bool},b≠false→b=true:=fun {b} h=>by cases b with
    | false=>exact absurd rfl h
    | true=>rfl
  cases h with
  | @flat _ _ b1 b2 a b =>
    refine⟨b1,b2,a,b,?_⟩
    cases b1 <;> cases b2 <;> first | rfl | (simp at f)
  | @share _ _ _ b1 b2 b3 a b c =>
    refine⟨b1,b2,b3,a,b,c,?_⟩
    cases b1 <;> cases b2 <;> cases b3 <;> first | rfl | (simp at f)
  | @capped _ _ _ _ b1 b2 b3 b4 a b c d =>
    refine⟨b1,b2,b3,b4,a,b,c,d,?_⟩
    cases b1 <;> cases b2 <;> cases b3 <;> cases b4 <;> first | rfl | (simp at f)
  | @least _ _ _ _ b1 b2 b3 b4 a b c d =>
    refine⟨b1,b2,b3,b4,a,b,c,d,?_⟩
    cases b1 <;> cases b2 <;> cases b3 <;> cases b4 <;> first | rfl | (simp at f)
  | @bands _ _ _ b1 b2 b3 a b c =>
    refine⟨b1,b2,b3,a,b,c,?_⟩
    cases b1 <;> cases b2 <;> cases b3 <;> first | rfl | (simp at f)
  | ontop a b c=>exact absurd hk (by decide)
end
theorem iteNt {x y:Str} {A B:Prop} (n:x≠y) (h:A):if (!decide (V.str x=V.str y))=true then A else B:=by
  rw[decide_eq_false fun z=>n (V.str.inj z)]
  exact h
theorem iteNf {x:Str} {A B:Prop} (h:B):if (!decide (V.str x=V.str x))=true then A else B:=by
  rw[decide_eq_true rfl]
  exact h
theorem iteIn {z:Str} {A B:Prop} (n:(["flat","ontop"]:List Str).contains z=false) (h:A):if (if true=true then !inV (.str z) [V.str "flat",V.str "ontop"] else inV (.str z) [V.str "flat",V.str "ontop"])=true then A else B:=by
  have e:inV (.str z) [V.str "flat",V.str "ontop"]=false:=(in_texts z ["flat","ontop"]).trans n
  rw[e]
  exact h
theorem iteInF {z:Str} {A B:Prop} (n:(["flat","ontop"]:List Str).contains z=true) (h:B):if (if true=true then !inV (.str z) [V.str "flat",V.str "ontop"] else inV (.str z) [V.str "flat",V.str "ontop"])=true then A else B:=by
  have e:inV (.str z) [V.str "flat",V.str "ontop"]=true:=(in_texts z ["flat","ontop"]).trans n
  rw[e]
  exact h
noncomputable def sp_spo (K:PySem.W.Frag):Sp:=fun vs H Q _=>∃ (t:Addr) (p k:Nat) (n:Int) (args:List V) (bs:List Bool),vs=[.ref t,.int (p:Nat),.int n]∧H t=some (.tup (.str (kwd k)::args))∧ArV K H k args bs∧1≤p∧p≤args.length∧(k=5→p≤3)∧(k=4→p=2→∃ u ps,args[1]? = some (.ref u)∧BdsAt H u ps∧BdOk ps) ∧
  ∀ t' args' H',Same H H'→H' t'=some (.tup (.str (kwd k)::args'))→ArV K H' k args' (bs.set (p - 1) false)→Q (.ref t') H'
theorem BadA.same {K:PySem.W.Frag} {H H':Hp} (s:Same H H') {k:Nat} {args:List V} (h:BadA K H k args):BadA K H' k args:=by
  match k,args,h with
  | 0,[_,_],⟨b1,b2,h1,h2,e⟩=>exact⟨b1,b2,h1.same s,h2.same s,e⟩
  | 1,[_,_,_],⟨b1,b2,b3,h1,h2,h3,e⟩=>exact⟨b1,b2,b3,h1.same s,h2.same s,h3.same s,e⟩
  | 2,[_,_,_,_],⟨b1,b2,b3,b4,h1,h2,h3,h4,e⟩=>exact⟨b1,b2,b3,b4,h1.same s,h2.same s,h3.same s,h4.same s,e⟩
  | 3,[_,_,_,_],⟨b1,b2,b3,b4,h1,h2,h3,h4,e⟩=>exact⟨b1,b2,b3,b4,h1.same s,h2.same s,h3.same s,h4.same s,e⟩
  | 4,[_,_,_],⟨b1,b2,b3,h1,h2,h3,e⟩=>exact⟨b1,b2,b3,h1.same s,h2.same s,h3.same s,e⟩
theorem OnV.same {K:PySem.W.Frag} {cRu:Addr} {Cs:Nat→Addr} {H H':Hp} {v:V} {b:Bool} (s:Same H H') (h:OnV K cRu Cs H v b):OnV K cRu Cs H' v b:=by
  cases h with
  | other a b=>exact .other (a.same s) b
  | deep a b c=>exact .deep (a.same s) b c
  | good a b=>exact .good (a.same s) b
noncomputable def sp_madE (K:PySem.W.Frag) (c:Addr):Sp:=fun vs H Q E=>∃ t k args,vs=[.ref t]∧k<5∧H t=some (.tup (.str (kwd k)::args))∧BadA K H k args∧∀ H',Same H H'→E (.ref c) none H'
noncomputable def OnA (K:PySem.W.Frag) (cRu:Addr) (Cs:Nat→Addr) (H:Hp) (args:List V) (w:V):Prop:=∃ v1 v2 v3 v4 b1 b2 b3 b4,args=[v1,v2,v3,v4]∧NmV K H v1 b1∧NuV K H 20000 v2 b2∧WyV K H v3 b3∧OnV K cRu Cs H w b4∧(b1&&((b2&&b3)&&b4))=false
noncomputable def sp_tdE (K:PySem.W.Frag) (cRu:Addr) (Cs:Nat→Addr):Sp:=fun vs H Q _=>∃ t w k args,vs=[.ref t,w]∧H t=some (.tup (.str (kwd k)::args))∧((k<5∧BadA K H k args)∨(k=5∧OnA K cRu Cs H args w))∧∀ l H',Same H H'→H' l=some (.tup [.str "refused",.str "rule"])→Q (.ref l) H'
noncomputable def sp_tdG (Cs:Nat→Addr):Sp:=fun vs H Q _=>∃ t w z,vs=[.ref t,w]∧((∃ r,RtG H r (.ref t)∧Gd 0 r∧r.name=z)∨(∃ p x v4 r,H t=some (.tup [.str "ontop",.str z,.int p,.str x,v4])∧RName z∧Prt p∧Way x∧RoG Cs H r w∧Gd 2 r))∧∀ l H',Same H H'→H' l=some (.tup [.str "made",.str z])→Q (.ref l) H'
theorem kw_ne:∀ {k:Nat},k<5→kwd k≠"ontop"
  | 0,_=>by decide +kernel
  | 1,_=>by decide +kernel
  | 2,_=>by decide +kernel
  | 3,_=>by decide +kernel
  | 4,_=>by decide +kernel
  | k+5,h=>absurd h (by omega)
theorem gd0_kd {r:Rk} (h:Gd 0 r):r.kd≠5:=by
  cases h with
  | pln p=>cases p <;> exact fun z=>nomatch z
  | bands _ _ _=>exact (by decide:(4:Nat)≠5)
theorem rt_head {H:Hp} {r:Rk} {v:V} {d:Nat} (h:RtG H r v) (g:Gd d r):∃ t l,v = .ref t∧H t=some (.tup l)∧∃ z,atI l 0=some (.str z)∧(z = "ontop"→r.kd=5):=by
  cases h with
  | pln k h =>
    obtain⟨t,rfl,h⟩:=h
    obtain⟨z,l,el,_,zo,_⟩:=row_head (g.pl k)
    exact⟨t,_,rfl,h,z,at_first (by rw[el];rfl),fun e=>absurd e zo⟩
  | bands h b=>exact⟨_,_,rfl,h,_,at_first rfl,fun e=>absurd e (by decide +kernel)⟩
  | ontop h b=>exact⟨_,_,rfl,h,_,at_first rfl,fun _=>rfl⟩
end Pg
namespace K09
open PySem PySem.NumText L2 Pg
seal PE PA PT PW PS PSs PG PGs PI PIf PO PK
section
variable {P:Program} {w:World} {K:PySem.W.Frag} {mg:Str→Option Value} {base:Heap} {f:Addr} {fd:FuncData} {d:Nat→Addr} {cR:Addr}
set_option maxHeartbeats 32000000 in
theorem ok_spo (F:Fun K "_law_spoilt" "_law_spoilt" (top 67) f fd) (G:Glb mg) (C1:Cal P w K mg base CX0 1 "_law_odd_name" ["_law_number"] (sp_oddNm K)) (C2:Cal P w K mg base CX0 1 "_law_odd_way" ["_law_number"] (sp_oddWy K)) (C3:Cal P w K mg base CX0 2 "_law_odd_bands" ["_law_pairs_here","_law_number"] (sp_oddBd K)) (C4:Cal P w K mg base CX0 1 "_law_odd_number" ["_law_number","_law_most"] (sp_oddNu K)):FnOk P w K mg base CX0 3 f fd ["_law_rule_here","_law_place","_law_number"] (sp_spo K):=by
  have nd:(["_law_rule_here","_law_place","_law_number","_law_odd"]:List Str).Nodup:=by decide +kernel
  refine F.ok (N:=["_law_rule_here","_law_place","_law_number","_law_odd"]) ⟨rfl,rfl,rfl,by decide +kernel,rfl,by decide +kernel,by decide +kernel⟩ (fun vs H Q E h=>?_) (fun cdv A outer s H vs Q E hr h=>?_)
  · obtain⟨t,p,k,n,args,bs,rfl,_⟩:=h
    rfl
  · obtain⟨t,p,k,n,args,bs,rfl,ht,ar,p1,p2,p5,p4,q⟩:=h
    refine⟨_,pss_cut (ps_if (pt_cmpR op_eq (pv 1) pe_int (nomark _)) (pss_one (ps_set (i:=3) nd rfl (Or.inl rfl) (pe_cal C1 hr (by decide) pass0 (pa_cons (pv 2) pa_nil))))
        (pss_one (ps_if (PW.pt (pw_or (PW.pt (pw_and (pt_cmpR op_eq (pv 1) (pe_op op_sub (pe_callB call_len_seq rfl G.len boot_len (pa_cons (pv 0) pa_nil)) pe_int) (nomark _)) (pw_and1 (pt_cmpR op_notIn_seq (pe_at ix_tup (pv 0) pe_int) (pe_tupS (pa_cons pe_str (pa_cons pe_str pa_nil))) (by rfl))))) (pw_or1 (PW.pt (pw_and (pt_cmpR op_eq (pv 1) pe_int (nomark _)) (pw_and1 (pt_cmpR op_eq (pe_at ix_tup (pv 0) pe_int) pe_str (nomark _)))))))) (pss_one (ps_set (i:=3) nd rfl (Or.inl rfl) (pe_cal C2 hr (by decide) pass0 (pa_cons (pv 2) pa_nil))))
        (pss_one (ps_if (pt_cmpR op_eq (pe_at ix_tup (pv 0) pe_int) pe_str (nomark _)) (pss_one (ps_set (i:=3) nd rfl (Or.inl rfl) (pe_cal C3 hr (by decide) pass0 (pa_cons (pe_at ix_tup (pv 0) pe_int) (pa_cons (pv 2) pa_nil)))))
        (pss_one (ps_if (PW.pt (pw_and (pt_cmpR op_eq (pv 1) pe_int (nomark _)) (pw_and1 (pt_cmpR op_ne (pe_at ix_tup (pv 0) pe_int) pe_str (nomark _))))) (pss_one (ps_set (i:=3) nd rfl (Or.inl rfl) (pe_cal C4 hr (by decide) pass0 (pa_cons (pv 2) (pa_cons pe_int pa_nil)))))
        (pss_one (ps_set (i:=3) nd rfl (Or.inl rfl) (pe_cal C4 hr (by decide) pass0 (pa_cons (pv 2) (pa_cons (pe_op op_pow pe_int pe_int) pa_nil))))))))))))
        (pss_one (ps_ret (pe_op op_catT (pe_op op_catT (pe_slice sl_tup (pv 0) po_none (po_some (pv 1))) (pe_tupS (pa_cons (pv 3) pa_nil))) (pe_slice sl_tup (pv 0) (po_some (pe_op op_add (pv 1) pe_int)) po_none)))),?_⟩
    dsimp (config:={ proj:=false,iota:=false,beta:=false,eta:=false }) only [cxOf_K,nox_K]
    refine cut_to (fun σ H'=>∃ v,σ = [some (.ref t),some (.int (p:Nat)),some (.int n),some v]∧Same H H'∧ArV K H' k (args.set (p - 1) v) (bs.set (p - 1) false)) (fun Ek kk=>?_) ?_
    · cases ar with
      | flat h1 h2 =>
        have p3:p≤2:=p2
        obtain rfl | rfl:p=1∨p=2:=by omega
        · exact⟨_,rfl,rfl,_,rfl,iteT ⟨_,rfl,n,rfl,fun v H1 s1 nv=>kk _ _ ⟨v,rfl,s1,.flat nv (h2.same s1)⟩⟩⟩
        · exact⟨_,rfl,rfl,_,rfl,iteF ⟨_,rfl,_,rfl,t,_,rfl,.inr (SqT.of ht),_,_,rfl,rfl,rfl,_,rfl,iteT ⟨_,rfl,t,_,_,_,rfl,rfl,SqT.of ht,rfl,lenOk rfl,fun t0 H0 s0 n0 e0=>⟨t0,_,rfl,.inr (SqT.of e0),rfl,rfl,_,rfl,iteInF (by decide +kernel) ⟨_,rfl,rfl,_,rfl,iteF (iteF ⟨_,rfl,t,_,_,_,rfl,rfl,SqT.of (s0 _ _ ht),rfl,rfl,_,rfl,iteSf (by decide +kernel) ⟨_,rfl,rfl,_,rfl,iteT ⟨_,rfl,t,_,_,_,rfl,rfl,SqT.of (s0 _ _ ht),rfl,rfl,_,rfl,iteNf ⟨_,rfl,_,_,rfl,rfl,⟨by decide,by decide,by decide⟩,n,_,rfl,by decide +kernel,fun v H1 s1 nv=>kk _ _ ⟨v,rfl,s0.trans s1,.flat (h1.same (s0.trans s1)) nv⟩⟩⟩⟩⟩)⟩⟩⟩⟩⟩
      | share h1 h2 h3 =>
        have p3:p≤3:=p2
        obtain rfl | rfl | rfl:p=1∨p=2∨p=3:=by omega
        · exact⟨_,rfl,rfl,_,rfl,iteT ⟨_,rfl,n,rfl,fun v H1 s1 nv=>kk _ _ ⟨v,rfl,s1,.share nv (h2.same s1) (h3.same s1)⟩⟩⟩
        · exact⟨_,rfl,rfl,_,rfl,iteF ⟨_,rfl,_,rfl,t,_,rfl,.inr (SqT.of ht),_,_,rfl,rfl,rfl,_,rfl,iteF (iteF ⟨_,rfl,rfl,_,rfl,iteF (iteF ⟨_,rfl,t,_,_,_,rfl,rfl,SqT.of ht,rfl,rfl,_,rfl,iteSf (by decide +kernel) ⟨_,rfl,rfl,_,rfl,iteT ⟨_,rfl,t,_,_,_,rfl,rfl,SqT.of ht,rfl,rfl,_,rfl,iteNt (by decide +kernel) ⟨_,rfl,n,20000,rfl,by decide,fun v H1 s1 nv=>kk _ _ ⟨v,rfl,s1,.share (h1.same s1) nv (h3.same s1)⟩⟩⟩⟩⟩)⟩)⟩⟩
        · exact⟨_,rfl,rfl,_,rfl,iteF ⟨_,rfl,_,rfl,t,_,rfl,.inr (SqT.of ht),_,_,rfl,rfl,rfl,_,rfl,iteT ⟨_,rfl,t,_,_,_,rfl,rfl,SqT.of ht,rfl,lenOk rfl,fun t0 H0 s0 n0 e0=>⟨t0,_,rfl,.inr (SqT.of e0),rfl,rfl,_,rfl,iteIn (by decide +kernel) (iteT ⟨_,rfl,n,rfl,fun v H1 s1 nv=>kk _ _ ⟨v,rfl,s0.trans s1,.share (h1.same (s0.trans s1)) (h2.same (s0.trans s1)) nv⟩⟩)⟩⟩⟩⟩
      | capped h1 h2 h3 h4 =>
        have p3:p≤4:=p2
        obtain rfl | rfl | rfl | rfl:p=1∨p=2∨p=3∨p=4:=by omega
        · exact⟨_,rfl,rfl,_,rfl,iteT ⟨_,rfl,n,rfl,fun v H1 s1 nv=>kk _ _ ⟨v,rfl,s1,.capped nv (h2.same s1) (h3.same s1) (h4.same s1)⟩⟩⟩
        · exact⟨_,rfl,rfl,_,rfl,iteF ⟨_,rfl,_,rfl,t,_,rfl,.inr (SqT.of ht),_,_,rfl,rfl,rfl,_,rfl,iteF (iteF ⟨_,rfl,rfl,_,rfl,iteF (iteF ⟨_,rfl,t,_,_,_,rfl,rfl,SqT.of ht,rfl,rfl,_,rfl,iteSf (by decide +kernel) ⟨_,rfl,rfl,_,rfl,iteT ⟨_,rfl,t,_,_,_,rfl,rfl,SqT.of ht,rfl,rfl,_,rfl,iteNt (by decide +kernel) ⟨_,rfl,n,20000,rfl,by decide,fun v H1 s1 nv=>kk _ _ ⟨v,rfl,s1,.capped (h1.same s1) nv (h3.same s1) (h4.same s1)⟩⟩⟩⟩⟩)⟩)⟩⟩
        · exact⟨_,rfl,rfl,_,rfl,iteF ⟨_,rfl,_,rfl,t,_,rfl,.inr (SqT.of ht),_,_,rfl,rfl,rfl,_,rfl,iteF (iteF ⟨_,rfl,rfl,_,rfl,iteT ⟨_,rfl,t,_,_,_,rfl,rfl,SqT.of ht,rfl,rfl,_,rfl,iteSf (by decide +kernel) ⟨_,rfl,t,_,_,_,rfl,rfl,SqT.of ht,rfl,rfl,_,rfl,iteSf (by decide +kernel) ⟨_,rfl,rfl,_,rfl,iteF (iteF ⟨_,rfl,_,_,rfl,rfl,⟨by decide,by decide,by decide⟩,n,_,rfl,by decide +kernel,fun v H1 s1 nv=>kk _ _ ⟨v,rfl,s1,.capped (h1.same s1) (h2.same s1) nv (h4.same s1)⟩⟩)⟩⟩⟩⟩)⟩⟩
        · exact⟨_,rfl,rfl,_,rfl,iteF ⟨_,rfl,_,rfl,t,_,rfl,.inr (SqT.of ht),_,_,rfl,rfl,rfl,_,rfl,iteT ⟨_,rfl,t,_,_,_,rfl,rfl,SqT.of ht,rfl,lenOk rfl,fun t0 H0 s0 n0 e0=>⟨t0,_,rfl,.inr (SqT.of e0),rfl,rfl,_,rfl,iteIn (by decide +kernel) (iteT ⟨_,rfl,n,rfl,fun v H1 s1 nv=>kk _ _ ⟨v,rfl,s0.trans s1,.capped (h1.same (s0.trans s1)) (h2.same (s0.trans s1)) (h3.same (s0.trans s1)) nv⟩⟩)⟩⟩⟩⟩
      | least h1 h2 h3 h4 =>
        have p3:p≤4:=p2
        obtain rfl | rfl | rfl | rfl:p=1∨p=2∨p=3∨p=4:=by omega
        · exact⟨_,rfl,rfl,_,rfl,iteT ⟨_,rfl,n,rfl,fun v H1 s1 nv=>kk _ _ ⟨v,rfl,s1,.least nv (h2.same s1) (h3.same s1) (h4.same s1)⟩⟩⟩
        · exact⟨_,rfl,rfl,_,rfl,iteF ⟨_,rfl,_,rfl,t,_,rfl,.inr (SqT.of ht),_,_,rfl,rfl,rfl,_,rfl,iteF (iteF ⟨_,rfl,rfl,_,rfl,iteF (iteF ⟨_,rfl,t,_,_,_,rfl,rfl,SqT.of ht,rfl,rfl,_,rfl,iteSf (by decide +kernel) ⟨_,rfl,rfl,_,rfl,iteT ⟨_,rfl,t,_,_,_,rfl,rfl,SqT.of ht,rfl,rfl,_,rfl,iteNt (by decide +kernel) ⟨_,rfl,n,20000,rfl,by decide,fun v H1 s1 nv=>kk _ _ ⟨v,rfl,s1,.least (h1.same s1) nv (h3.same s1) (h4.same s1)⟩⟩⟩⟩⟩)⟩)⟩⟩
        · exact⟨_,rfl,rfl,_,rfl,iteF ⟨_,rfl,_,rfl,t,_,rfl,.inr (SqT.of ht),_,_,rfl,rfl,rfl,_,rfl,iteF (iteF ⟨_,rfl,rfl,_,rfl,iteT ⟨_,rfl,t,_,_,_,rfl,rfl,SqT.of ht,rfl,rfl,_,rfl,iteSf (by decide +kernel) ⟨_,rfl,t,_,_,_,rfl,rfl,SqT.of ht,rfl,rfl,_,rfl,iteSf (by decide +kernel) ⟨_,rfl,rfl,_,rfl,iteF (iteF ⟨_,rfl,_,_,rfl,rfl,⟨by decide,by decide,by decide⟩,n,_,rfl,by decide +kernel,fun v H1 s1 nv=>kk _ _ ⟨v,rfl,s1,.least (h1.same s1) (h2.same s1) nv (h4.same s1)⟩⟩)⟩⟩⟩⟩)⟩⟩
        · exact⟨_,rfl,rfl,_,rfl,iteF ⟨_,rfl,_,rfl,t,_,rfl,.inr (SqT.of ht),_,_,rfl,rfl,rfl,_,rfl,iteT ⟨_,rfl,t,_,_,_,rfl,rfl,SqT.of ht,rfl,lenOk rfl,fun t0 H0 s0 n0 e0=>⟨t0,_,rfl,.inr (SqT.of e0),rfl,rfl,_,rfl,iteIn (by decide +kernel) (iteT ⟨_,rfl,n,rfl,fun v H1 s1 nv=>kk _ _ ⟨v,rfl,s0.trans s1,.least (h1.same (s0.trans s1)) (h2.same (s0.trans s1)) (h3.same (s0.trans s1)) nv⟩⟩)⟩⟩⟩⟩
      | bands h1 h2 h3 =>
        have p3:p≤3:=p2
        obtain rfl | rfl | rfl:p=1∨p=2∨p=3:=by omega
        · exact⟨_,rfl,rfl,_,rfl,iteT ⟨_,rfl,n,rfl,fun v H1 s1 nv=>kk _ _ ⟨v,rfl,s1,.bands nv (h2.same s1) (h3.same s1)⟩⟩⟩
        · obtain⟨u,ps,eu,bds,bok⟩:=p4 rfl rfl
          cases eu
          exact⟨_,rfl,rfl,_,rfl,iteF ⟨_,rfl,_,rfl,t,_,rfl,.inr (SqT.of ht),_,_,rfl,rfl,rfl,_,rfl,iteF (iteF ⟨_,rfl,rfl,_,rfl,iteF (iteF ⟨_,rfl,t,_,_,_,rfl,rfl,SqT.of ht,rfl,rfl,_,rfl,iteSt ⟨_,rfl,t,_,_,_,rfl,rfl,SqT.of ht,rfl,_,rfl,u,ps,n,rfl,bds,bok,fun v H1 s1 nv=>kk _ _ ⟨v,rfl,s1,.bands (h1.same s1) nv (h3.same s1)⟩⟩⟩)⟩)⟩⟩
        · exact⟨_,rfl,rfl,_,rfl,iteF ⟨_,rfl,_,rfl,t,_,rfl,.inr (SqT.of ht),_,_,rfl,rfl,rfl,_,rfl,iteT ⟨_,rfl,t,_,_,_,rfl,rfl,SqT.of ht,rfl,lenOk rfl,fun t0 H0 s0 n0 e0=>⟨t0,_,rfl,.inr (SqT.of e0),rfl,rfl,_,rfl,iteIn (by decide +kernel) (iteT ⟨_,rfl,n,rfl,fun v H1 s1 nv=>kk _ _ ⟨v,rfl,s0.trans s1,.bands (h1.same (s0.trans s1)) (h2.same (s0.trans s1)) nv⟩⟩)⟩⟩⟩⟩
      | ontop h1 h2 h3 =>
        have p3:=p5 rfl
        obtain rfl | rfl | rfl:p=1∨p=2∨p=3:=by omega
        · exact⟨_,rfl,rfl,_,rfl,iteT ⟨_,rfl,n,rfl,fun v H1 s1 nv=>kk _ _ ⟨v,rfl,s1,.ontop nv (h2.same s1) (h3.same s1)⟩⟩⟩
        · exact⟨_,rfl,rfl,_,rfl,iteF ⟨_,rfl,_,rfl,t,_,rfl,.inr (SqT.of ht),_,_,rfl,rfl,rfl,_,rfl,iteF (iteF ⟨_,rfl,rfl,_,rfl,iteF (iteF ⟨_,rfl,t,_,_,_,rfl,rfl,SqT.of ht,rfl,rfl,_,rfl,iteSf (by decide +kernel) ⟨_,rfl,rfl,_,rfl,iteT ⟨_,rfl,t,_,_,_,rfl,rfl,SqT.of ht,rfl,rfl,_,rfl,iteNt (by decide +kernel) ⟨_,rfl,n,20000,rfl,by decide,fun v H1 s1 nv=>kk _ _ ⟨v,rfl,s1,.ontop (h1.same s1) nv (h3.same s1)⟩⟩⟩⟩⟩)⟩)⟩⟩
        · exact⟨_,rfl,rfl,_,rfl,iteF ⟨_,rfl,_,rfl,t,_,rfl,.inr (SqT.of ht),_,_,rfl,rfl,rfl,_,rfl,iteF (iteF ⟨_,rfl,rfl,_,rfl,iteT ⟨_,rfl,t,_,_,_,rfl,rfl,SqT.of ht,rfl,rfl,_,rfl,iteSt ⟨_,rfl,n,rfl,fun v H1 s1 nv=>kk _ _ ⟨v,rfl,s1,.ontop (h1.same s1) (h2.same s1) nv⟩⟩⟩⟩)⟩⟩
    rintro σ H1 ⟨v,rfl,s1,ar1⟩
    have ht1:=s1 _ _ ht
    obtain⟨l,el⟩:∃ l,l=V.str (kwd k)::args:=⟨_,rfl⟩
    rw[← el] at ht1
    have ll:l.length=args.length+1:=by rw[el];rfl
    have a4:args.length≤4:=by cases ar <;> exact Nat.le_of_ble_eq_true rfl
    have tl:(l.take p).length=p:=by rw[List.length_take];omega
    refine⟨_,rfl,_,rfl,_,rfl,t,_,rfl,SqT.of ht1,(by rw[HT.sIx_nat];omega),fun t2 n2=>?_⟩
    have s2:Same H1 (upd H1 t2 (.tup (cutV l none (some (p:Int))))):=Same.upd n2
    have e2:(upd H1 t2 (.tup (cutV l none (some (p:Int))))) t2=some (.tup (l.take p)):=by rw[upd_same,cut_take]
    generalize upd H1 t2 (.tup (cutV l none (some (p:Int))))=H2 at s2 e2
    refine⟨_,rfl,lenOk rfl,fun t3 H3 s3 n3 e3=>⟨t2,t3,_,_,rfl,rfl,SqT.of (s3 _ _ e2),SqT.of e3,(fun z=>by rw[z] at tl;have:(0:Nat)=p:=tl;omega),(by rw[tl,sizeLine_eq];show p+1≤_;omega),(by intro z;cases z),fun _ t4 n4=>?_⟩⟩
    have s4:Same H3 (upd H3 t4 (.tup (l.take p++[v]))):=Same.upd n4
    have e4:(upd H3 t4 (.tup (l.take p++[v]))) t4=some (.tup (l.take p++[v])):=upd_same
    generalize upd H3 t4 (.tup (l.take p++[v]))=H4 at s4 e4
    refine⟨_,rfl,_,rfl,_,_,rfl,rfl,_,rfl,t,_,rfl,SqT.of (s4 _ _ (s3 _ _ (s2 _ _ ht1))),(by rw[show ((p:Nat):Int)+1=((p+1:Nat):Int) from rfl,HT.sIx_nat];omega),fun t5 n5=>?_⟩
    have s5:Same H4 (upd H4 t5 (.tup (cutV l (some ((p:Nat)+1)) none))):=Same.upd n5
    have e5:(upd H4 t5 (.tup (cutV l (some ((p:Nat)+1)) none))) t5=some (.tup (l.drop (p+1))):=by rw[upd_same,show ((p:Nat):Int)+1=((p+1:Nat):Int) from rfl,cut_drop]
    generalize upd H4 t5 (.tup (cutV l (some ((p:Nat)+1)) none))=H5 at s5 e5
    have S5:=s1.trans (s2.trans (s3.trans (s4.trans s5)))
    have l1:(l.take p++[v]).length=p+1:=by rw[List.length_append,tl];rfl
    have l2:(l.drop (p+1)).length=l.length - (p+1):=List.length_drop
    have es:l.take p++[v]++l.drop (p+1)=V.str (kwd k)::args.set (p - 1) v:=by
      have:l.set p v=l.take p++v::l.drop (p+1):=by rw[List.set_eq_take_append_cons_drop,if_pos (by omega)]
      rw[List.append_assoc]
      show l.take p++v::l.drop (p+1)=_
      rw[← this,el]
      cases p with
      | zero=>omega
      | succ p=>rfl
    refine⟨t4,t5,_,_,rfl,rfl,SqT.of (s5 _ _ e4),SqT.of e5,(fun z=>by rw[z] at l1;cases l1),(by rw[l1,l2,sizeLine_eq];omega),fun z=>?_,fun z t6 n6=>?_⟩
    · rw[z,List.append_nil] at es
      exact q _ _ H5 S5 (by rw[← es];exact s5 _ _ e4) (ar1.same (s2.trans (s3.trans (s4.trans s5))))
    · have s6:Same H5 (upd H5 t6 (.tup (l.take p++[v]++l.drop (p+1)))):=Same.upd n6
      exact q _ _ _ (S5.trans s6) (by rw[← es];exact upd_same) (ar1.same (s2.trans (s3.trans (s4.trans (s5.trans s6)))))
end
end K09
namespace L2
open PySem PySem.Spec PyProof.Rows
theorem ps_tryG {X:Cx} {tb:TS} {body:List Stmt} {h₀:ExceptHandler} {hs:List ExceptHandler} {pos:Pos} (hb:∀ pn,PSs (X.tr pn fun _ _=>False) body tb):PS X (.Try body (h₀ :: hs) [] [] pos) tb:=by
  intro pins s σ H D I h
  have ok:=I.ok
  refine wpAny_Try_except (wpAny_mono (hb (X.pn++pins) [] s σ H D I.tr h) (fun f s1 q=>?_) fun e s1 q=>q.elim)
  cases f with
  | next =>
    obtain⟨σ',H',I',q⟩:=q
    exact wpAny_execs_nil ⟨σ',H',I'.ofTr ok,q⟩
  | brk=>obtain⟨σ',H',I',q⟩:=q;exact⟨σ',H',I'.ofTr ok,q⟩
  | cont=>obtain⟨σ',H',I',q⟩:=q;exact⟨σ',H',I'.ofTr ok,q⟩
  | ret u=>obtain⟨v,σ',H',I',r,q⟩:=q;exact⟨v,σ',H',I'.ofTr ok,r,q⟩
end L2
namespace K09
open PySem PySem.NumText L2 Pg
seal PE PA PT PW PS PSs PG PGs PI PIf PO PK
section
variable {P:Program} {w:World} {K:PySem.W.Frag} {mg:Str→Option Value} {base:Heap} {f:Addr} {fd:FuncData} {d:Nat→Addr} {cR:Addr}
set_option maxHeartbeats 8000000 in
theorem ok_madE {Cs:Nat→Addr} {cB:Addr} {j:Nat} (hj:7≤j) (F:Fun K "_law_made" "_law_made" (top 61) f fd) (N0:CalN P w K mg base (CXE P w) 5 "Flat" (Cs 0) ["self","name","amount"] (sp_kinitE K 0 Cs cB)) (N1:CalN P w K mg base (CXE P w) 5 "Share" (Cs 1) ["self","name","parts","way"] (sp_kinitE K 1 Cs cB)) (N2:CalN P w K mg base (CXE P w) 5 "Capped" (Cs 2) ["self","name","parts","most","way"] (sp_kinitE K 2 Cs cB)) (N3:CalN P w K mg base (CXE P w) 5 "Least" (Cs 3) ["self","name","parts","least","way"] (sp_kinitE K 3 Cs cB))
    (N4:CalN P w K mg base (CXE P w) 6 "Bands" (Cs 4) ["self","name","rows","way"] (sp_kinitE K 4 Cs cB)):FnOk P w K mg base (CXE P w) (j+1) f fd ["_law_rule_here"] (sp_madE K cB):=by
  refine F.okE (N:=["_law_rule_here"]) ⟨rfl,rfl,rfl,by decide +kernel,rfl,by decide +kernel,by decide +kernel⟩ (fun vs H Q E h=>?_) (fun cdv A outer s H vs Q E hr h=>?_)
  · obtain⟨t,k,args,rfl,_⟩:=h
    rfl
  · obtain⟨t,k,args,rfl,k5,ht,bad,q⟩:=h
    have hr7:Room (5+1) (A.deeper _):=hr.mono (by omega)
    have hr8:Room (6+1) (A.deeper _):=hr.mono (by omega)
    refine⟨_,(pss_cons (ps_if (pt_cmpR op_eq (pe_at ix_tup (pv 0) pe_int) pe_str (nomark _)) (pss_one (ps_ret (pe_calN (j:=5) N0 hr7 (by decide) passE (pa_cons (pe_at ix_tup (pv 0) pe_int) (pa_cons (pe_at ix_tup (pv 0) pe_int) pa_nil))))) pss_nil)
        (pss_cons (ps_if (pt_cmpR op_eq (pe_at ix_tup (pv 0) pe_int) pe_str (nomark _)) (pss_one (ps_ret (pe_calN (j:=5) N1 hr7 (by decide) passE (pa_cons (pe_at ix_tup (pv 0) pe_int) (pa_cons (pe_at ix_tup (pv 0) pe_int) (pa_cons (pe_at ix_tup (pv 0) pe_int) pa_nil)))))) pss_nil)
        (pss_cons (ps_if (pt_cmpR op_eq (pe_at ix_tup (pv 0) pe_int) pe_str (nomark _)) (pss_one (ps_ret (pe_calN (j:=5) N2 hr7 (by decide) passE (pa_cons (pe_at ix_tup (pv 0) pe_int) (pa_cons (pe_at ix_tup (pv 0) pe_int) (pa_cons (pe_at ix_tup (pv 0) pe_int) (pa_cons (pe_at ix_tup (pv 0) pe_int) pa_nil))))))) pss_nil)
        (pss_cons (ps_if (pt_cmpR op_eq (pe_at ix_tup (pv 0) pe_int) pe_str (nomark _)) (pss_one (ps_ret (pe_calN (j:=5) N3 hr7 (by decide) passE (pa_cons (pe_at ix_tup (pv 0) pe_int) (pa_cons (pe_at ix_tup (pv 0) pe_int) (pa_cons (pe_at ix_tup (pv 0) pe_int) (pa_cons (pe_at ix_tup (pv 0) pe_int) pa_nil))))))) pss_nil)
        (pss_cons (ps_if (pt_cmpR op_eq (pe_at ix_tup (pv 0) pe_int) pe_str (nomark _)) (pss_one (ps_ret (pe_calN (j:=6) N4 hr8 (by decide) passE (pa_cons (pe_at ix_tup (pv 0) pe_int) (pa_cons (pe_at ix_tup (pv 0) pe_int) (pa_cons (pe_at ix_tup (pv 0) pe_int) pa_nil)))))) pss_nil)
        pss_never))))),?_⟩
    match k,args,bad with
    | 0,[v1,v2],b=>exact⟨_,rfl,t,_,_,_,rfl,rfl,SqT.of ht,rfl,rfl,_,rfl,iteSt ⟨_,rfl,t,_,_,_,rfl,rfl,SqT.of ht,rfl,_,rfl,t,_,_,_,rfl,rfl,SqT.of ht,rfl,fun o dx o0 d0 ne=>⟨o,dx,[v1,v2],rfl,upd_same,BadA.same (Same.made o0 d0) b,fun H1 fr=>q H1 (made_same o0 d0 fr)⟩⟩⟩
    | 1,[v1,v2,v3],b=>exact⟨_,rfl,t,_,_,_,rfl,rfl,SqT.of ht,rfl,rfl,_,rfl,iteSf (by decide +kernel) ⟨_,rfl,t,_,_,_,rfl,rfl,SqT.of ht,rfl,rfl,_,rfl,iteSt ⟨_,rfl,t,_,_,_,rfl,rfl,SqT.of ht,rfl,_,rfl,t,_,_,_,rfl,rfl,SqT.of ht,rfl,_,rfl,t,_,_,_,rfl,rfl,SqT.of ht,rfl,fun o dx o0 d0 ne=>⟨o,dx,[v1,v2,v3],rfl,upd_same,BadA.same (Same.made o0 d0) b,fun H1 fr=>q H1 (made_same o0 d0 fr)⟩⟩⟩⟩
    | 2,[v1,v2,v3,v4],b=>exact⟨_,rfl,t,_,_,_,rfl,rfl,SqT.of ht,rfl,rfl,_,rfl,iteSf (by decide +kernel) ⟨_,rfl,t,_,_,_,rfl,rfl,SqT.of ht,rfl,rfl,_,rfl,iteSf (by decide +kernel) ⟨_,rfl,t,_,_,_,rfl,rfl,SqT.of ht,rfl,rfl,_,rfl,iteSt ⟨_,rfl,t,_,_,_,rfl,rfl,SqT.of ht,rfl,_,rfl,t,_,_,_,rfl,rfl,SqT.of ht,rfl,_,rfl,t,_,_,_,rfl,rfl,SqT.of ht,rfl,_,rfl,t,_,_,_,rfl,rfl,SqT.of ht,rfl,fun o dx o0 d0 ne=>⟨o,dx,[v1,v2,v3,v4],rfl,upd_same,BadA.same (Same.made o0 d0) b,fun H1 fr=>q H1 (made_same o0 d0 fr)⟩⟩⟩⟩⟩
    | 3,[v1,v2,v3,v4],b=>exact⟨_,rfl,t,_,_,_,rfl,rfl,SqT.of ht,rfl,rfl,_,rfl,iteSf (by decide +kernel) ⟨_,rfl,t,_,_,_,rfl,rfl,SqT.of ht,rfl,rfl,_,rfl,iteSf (by decide +kernel) ⟨_,rfl,t,_,_,_,rfl,rfl,SqT.of ht,rfl,rfl,_,rfl,iteSf (by decide +kernel) ⟨_,rfl,t,_,_,_,rfl,rfl,SqT.of ht,rfl,rfl,_,rfl,iteSt ⟨_,rfl,t,_,_,_,rfl,rfl,SqT.of ht,rfl,_,rfl,t,_,_,_,rfl,rfl,SqT.of ht,rfl,_,rfl,t,_,_,_,rfl,rfl,SqT.of ht,rfl,_,rfl,t,_,_,_,rfl,rfl,SqT.of ht,rfl,fun o dx o0 d0 ne=>⟨o,dx,[v1,v2,v3,v4],rfl,upd_same,BadA.same (Same.made o0 d0) b,fun H1 fr=>q H1 (made_same o0 d0 fr)⟩⟩⟩⟩⟩⟩
    | 4,[v1,v2,v3],b=>exact⟨_,rfl,t,_,_,_,rfl,rfl,SqT.of ht,rfl,rfl,_,rfl,iteSf (by decide +kernel) ⟨_,rfl,t,_,_,_,rfl,rfl,SqT.of ht,rfl,rfl,_,rfl,iteSf (by decide +kernel) ⟨_,rfl,t,_,_,_,rfl,rfl,SqT.of ht,rfl,rfl,_,rfl,iteSf (by decide +kernel) ⟨_,rfl,t,_,_,_,rfl,rfl,SqT.of ht,rfl,rfl,_,rfl,iteSf (by decide +kernel) ⟨_,rfl,t,_,_,_,rfl,rfl,SqT.of ht,rfl,rfl,_,rfl,iteSt ⟨_,rfl,t,_,_,_,rfl,rfl,SqT.of ht,rfl,_,rfl,t,_,_,_,rfl,rfl,SqT.of ht,rfl,_,rfl,t,_,_,_,rfl,rfl,SqT.of ht,rfl,fun o dx o0 d0 ne=>⟨o,dx,[v1,v2,v3],rfl,upd_same,BadA.same (Same.made o0 d0) b,fun H1 fr=>q H1 (made_same o0 d0 fr)⟩⟩⟩⟩⟩⟩⟩
set_option maxHeartbeats 8000000 in
theorem ok_tdG {Cs:Nat→Addr} {j:Nat} (hj:18≤j) (F:Fun K "_law_told" "_law_told" (top 68) f fd) (hc:∀ k,k<6→Cls K (Cs k)) (hn:∀ k,k<6→NoAttr K (Cs k) "name") (C1:Cal P w K mg base CX0 18 "_law_made" ["_law_rule_here"] (sp_madN Cs 1)) (N5:CalN P w K mg base CX0 16 "OnTop" (Cs 5) ["self","name","parts","way","rule"] (sp_oinit 2 Cs)):FnOk P w K mg base CX0 (j+1) f fd ["_law_rule_here","_law_within"] (sp_tdG Cs):=by
  refine F.ok (N:=["_law_rule_here","_law_within","_law_e"]) ⟨rfl,rfl,rfl,by decide +kernel,rfl,by decide +kernel,by decide +kernel⟩ (fun vs H Q E h=>?_) (fun cdv A outer s H vs Q E hr h=>?_)
  · obtain⟨t,v,z,rfl,_⟩:=h
    rfl
  · obtain⟨t,v,z,rfl,h,q⟩:=h
    have hr17:Room (16+1) (A.deeper _):=hr.mono (by omega)
    refine' ⟨_,pss_one (ps_tryG (tb:=tSeq (tIfS (tTest (tOp rEq (tOp (rIxT K) (tVar 0) (tC (.int 0))) (tC (.str "ontop")))) (tRet (tTupS (tCons (tC (.str "made")) (tCons (tFld K (tMk (Cs 5) (sp_oinit 2 Cs) E0 (tCons (tOp (rIxT K) (tVar 0) (tC (.int 1))) (tCons (tOp (rIxT K) (tVar 0) (tC (.int 2))) (tCons (tOp (rIxT K) (tVar 0) (tC (.int 3))) (tCons (tVar 1) tNil))))) "name") tNil)))) tNext) (tRet (tTupS (tCons (tC (.str "made")) (tCons (tFld K (fun σ H Q=>tCons (tVar 0) tNil σ H fun vs H1=>sp_madN Cs 1 vs H1 Q E0) "name") tNil))))) ?body),?main⟩
    case body =>
      intro pn
      exact pss_cons (ps_if (pt_cmpR op_eq (pe_at ix_tup (pv 0) pe_int) pe_str (nomark _)) (pss_one (ps_ret (pe_tupS (pa_cons pe_str (pa_cons (pe_fld (pe_calN (j:=16) N5 hr17 (by decide) pass0 (pa_cons (pe_at ix_tup (pv 0) pe_int) (pa_cons (pe_at ix_tup (pv 0) pe_int) (pa_cons (pe_at ix_tup (pv 0) pe_int) (pa_cons (pv 1) pa_nil))))) rfl) pa_nil))))) pss_nil) (pss_one (ps_ret (pe_tupS (pa_cons pe_str (pa_cons (pe_fld (pe_cal C1 hr hj pass0 (pa_cons (pv 0) pa_nil)) rfl) pa_nil)))))
    rcases h with ⟨r,rt,gd,rfl⟩ | ⟨p,x,v4,r,ht,hz,hp,hw,ro,gd⟩
    · obtain⟨ta,l,et,ht,z,ez,k5⟩:=rt_head rt (gd.le (by decide:0≤3))
      cases et
      refine⟨_,rfl,t,_,_,_,rfl,rfl,SqT.of ht,ez,rfl,_,rfl,iteSf (fun e=>gd0_kd gd (k5 e)) ?_⟩
      refine⟨_,rfl,_,r,rfl,rt,gd,fun o H1 s1 ro=>?_⟩
      obtain⟨oi,dx,fs,rfl,ho,nm,_⟩:=ro.obj gd
      exact⟨oi,_,dx,fs,_,rfl,ho,hc _ (kd6 r),hn _ (kd6 r),nm,lenOk rfl,fun l1 H2 s2 n2 e2=>q l1 H2 (s1.trans s2) e2⟩
    · refine⟨_,rfl,t,_,_,_,rfl,rfl,SqT.of ht,rfl,rfl,_,rfl,iteSt ?_⟩
      refine⟨_,rfl,t,_,_,_,rfl,rfl,SqT.of ht,rfl,_,rfl,t,_,_,_,rfl,rfl,SqT.of ht,rfl,_,rfl,t,_,_,_,rfl,rfl,SqT.of ht,rfl,_,rfl,fun o dx o0 d0 ne=>⟨o,dx,z,p,x,v,r,rfl,hz,hp,hw,ro.same (Same.made o0 d0),gd,upd_same,fun H1 u fr ho ri=>⟨rfl,?_⟩⟩⟩
      exact⟨o,_,dx,_,_,rfl,ho,hc 5 (by decide),hn 5 (by decide),rfl,lenOk rfl,fun l1 H2 s2 n2 e2=>q l1 H2 ((made_same o0 d0 fr).trans s2) e2⟩
set_option maxHeartbeats 8000000 in
theorem ok_tdE {Cs:Nat→Addr} {cRu:Addr} {j:Nat} (hj:19≤j) (F:Fun K "_law_told" "_law_told" (top 68) f fd) (mgR:mg "RollError" = some (.ref cR)) (Z5:Rz K d cR 5) (hc:∀ k,k<6→Cls K (Cs k)) (hn:∀ k,k<6→NoAttr K (Cs k) "name") (C1:Cal P w K mg base (CXE P w) 18 "_law_made" ["_law_rule_here"] (sp_madE K (d 5))) (N5:CalN P w K mg base (CXE P w) 18 "OnTop" (Cs 5) ["self","name","parts","way","rule"] (sp_oinitE K cRu Cs (d 5))) (Ck:CalQ P w K mg base 1 "_law_word" ["_law_e"] (sp_wdR K d)):FnOk P w K mg base CX0 (j+1) f fd ["_law_rule_here","_law_within"] (sp_tdE K cRu Cs):=by
  have nd:(["_law_rule_here","_law_within","_law_e"]:List Str).Nodup:=by decide +kernel
  refine F.ok (N:=["_law_rule_here","_law_within","_law_e"]) ⟨rfl,rfl,rfl,by decide +kernel,rfl,by decide +kernel,by decide +kernel⟩ (fun vs H Q E h=>?_) (fun cdv A outer s H vs Q E hr h=>?_)
  · obtain⟨t,v,k,args,rfl,_⟩:=h
    rfl
  · obtain⟨t,v,k,args,rfl,ht,h,q⟩:=h
    have hr17:Room (18+1) (A.deeper _):=hr.mono (by omega)
    obtain⟨R,hR⟩:∃ R:XK,R=fun cls _ H'=>cls = .ref (d 5)∧Same H H':=⟨_,rfl⟩
    refine' ⟨_,pss_one (ps_try (R:=R) (i:=2) (th:=fun ea=>tRet (tTupS (tCons (tC (.str "refused")) (tCons (tCallQ ((A.deeper (PyProof.Rows.envOfC "_law_told" (defScope (top 68)) s.heap.objs.size f cdv)).mark (some (.ref ea))) (sp_wdR K d) (tCons (tVar 2) tNil)) tNil))))
      (tb:=tSeq (tIfS (tTest (tOp rEq (tOp (rIxT K) (tVar 0) (tC (.int 0))) (tC (.str "ontop")))) (tRet (tTupS (tCons (tC (.str "made")) (tCons (tFld K (tMk (Cs 5) (sp_oinitE K cRu Cs (d 5)) R (tCons (tOp (rIxT K) (tVar 0) (tC (.int 1))) (tCons (tOp (rIxT K) (tVar 0) (tC (.int 2))) (tCons (tOp (rIxT K) (tVar 0) (tC (.int 3))) (tCons (tVar 1) tNil))))) "name") tNil)))) tNext) (tRet (tTupS (tCons (tC (.str "made")) (tCons (tFld K (fun σ H Q=>tCons (tVar 0) tNil σ H fun vs H1=>sp_madE K (d 5) vs H1 Q R) "name") tNil)))))
      rfl rfl rfl mgR (fun cls o H' z=>by
        rw[hR] at z
        obtain⟨rfl,_⟩:=z
        exact Z5.ex) nd rfl rfl ?body
      (fun pn ea E=>pss_one (ps_ret (pe_tupS (pa_cons pe_str (pa_cons (pe_calQ (j:=j) Ck ⟨hr.dp,hr.un⟩ (by omega) (pa_cons (pv 2) pa_nil)) pa_nil)))))),?m1,?m2⟩
    case body =>
      intro pn
      exact pss_cons (ps_if (pt_cmpR op_eq (pe_at ix_tup (pv 0) pe_int) pe_str (nomark _)) (pss_one (ps_ret (pe_tupS (pa_cons pe_str (pa_cons (pe_fld (pe_calN (j:=18) N5 hr17 (by decide) passT (pa_cons (pe_at ix_tup (pv 0) pe_int) (pa_cons (pe_at ix_tup (pv 0) pe_int) (pa_cons (pe_at ix_tup (pv 0) pe_int) (pa_cons (pv 1) pa_nil))))) rfl) pa_nil))))) pss_nil) (pss_one (ps_ret (pe_tupS (pa_cons pe_str (pa_cons (pe_fld (pe_cal C1 hr (by omega) passT (pa_cons (pv 0) pa_nil)) rfl) pa_nil)))))
    case m1 =>
      subst hR
      rcases h with ⟨k5,bad⟩ | ⟨rfl,v1,v2,v3,v4,b1,b2,b3,b4,rfl,h1,h2,h3,h4,no⟩
      · exact⟨_,rfl,t,_,_,_,rfl,rfl,SqT.of ht,at_first rfl,rfl,_,rfl,iteSf (kw_ne k5) ⟨_,rfl,t,k,args,rfl,k5,ht,bad,fun H1 s1=>⟨rfl,s1⟩⟩⟩
      · exact⟨_,rfl,t,_,_,_,rfl,rfl,SqT.of ht,rfl,rfl,_,rfl,iteSt ⟨_,rfl,t,_,_,_,rfl,rfl,SqT.of ht,rfl,_,rfl,t,_,_,_,rfl,rfl,SqT.of ht,rfl,_,rfl,t,_,_,_,rfl,rfl,SqT.of ht,rfl,_,rfl,fun o dx o0 d0 ne=>⟨o,dx,v1,v2,v3,v,b1,b2,b3,b4,rfl,upd_same,h1.same (Same.made o0 d0),h2.same (Same.made o0 d0),h3.same (Same.made o0 d0),h4.same (Same.made o0 d0),no,fun H1 fr=>⟨rfl,made_same o0 d0 fr⟩⟩⟩⟩
    case m2 =>
      subst hR
      rintro ea oe vs cls σ' H' ⟨rfl,s1⟩ hne hcl hd1 hd2 h2 hlen
      exact⟨.ref ea,List.getElem?_set_self (by rw[hlen];show 2<3;decide),.inr ⟨ea,oe,vs,_,rfl,upd_same,hd2,.inl h2⟩,ea,d 5,5,rfl,⟨⟨oe,vs,upd_same,hcl,hd1,hd2⟩,Z5.kd.cls⟩,Z5.kd,rfl,fun H2 s2=>⟨lenOk rfl,fun l H3 s3 n3 e3=>q l H3 ((s1.trans (Same.upd hne)).trans (s2.trans s3)) e3⟩⟩
end
end K09
namespace Pg
open PySem L2
noncomputable def dpR (n:Str):Nat→Rk
  | 0=>.flat "a" 1
  | i+1=>.ontop n 5000 "up" (dpR n i)
theorem nm_a:RName "a":=⟨nameB_ok (by decide +kernel),by decide +kernel⟩
theorem nm_b:RName "b":=⟨nameB_ok (by decide +kernel),by decide +kernel⟩
theorem amt1:Amt 1:=⟨by decide,by decide⟩
theorem prt5:Prt 5000:=⟨by decide,by decide⟩
theorem way_up:Way "up":=show wayL.contains "up" = true by decide +kernel
theorem gd_dp {n:Str} (hn:RName n):∀ i,Gd i (dpR n i)
  | 0=>.pln (.flat nm_a amt1)
  | i+1=>.ontop hn prt5 way_up (gd_dp hn i)
structure GdT (K:PySem.W.Frag) (H:Hp) (t:Addr) (k:Nat) (args:List V) (bs:List Bool):Prop where
  tup:H t=some (.tup (.str (kwd k)::args))
  ar:ArV K H k args bs
  bd:k=4→∃ u ps,args[1]? = some (.ref u)∧BdsAt H u ps∧BdOk ps
theorem GdT.same {K:PySem.W.Frag} {H H':Hp} {t:Addr} {k:Nat} {args:List V} {bs:List Bool} (s:Same H H') (h:GdT K H t k args bs):GdT K H' t k args bs :=
  ⟨s _ _ h.tup,h.ar.same s,fun e=>by
    obtain⟨u,ps,e1,e2,e3⟩:=h.bd e
    exact⟨u,ps,e1,e2.same s,e3⟩⟩
structure KtR (K:PySem.W.Frag) (cRu:Addr):Prop where
  s:PySem.W.kitOne K (.type "str") (.ref cRu)=some false
  n:PySem.W.kitOne K (.type "NoneType") (.ref cRu)=some false
  i:PySem.W.kitOne K (.type "int") (.ref cRu)=some false
  l:PySem.W.kitOne K (.type "list") (.ref cRu)=some false
  t:PySem.W.kitOne K (.type "tuple") (.ref cRu)=some false
  b:PySem.W.kitOne K (.type "bool") (.ref cRu)=some false
noncomputable def sp_isRef (K:PySem.W.Frag) (Cs:Nat→Addr):Sp:=fun vs H Q _=>∃ t v n k args bs r,vs=[.ref t,v,.int n]∧GdT K H t k args bs∧k<6∧RoG Cs H r v∧Gd 2 r∧∀ H',Same H H'→Q (.bl true) H'
theorem set_false {bs:List Bool} {i:Nat} (h:i<bs.length):false∈bs.set i false:=List.mem_of_getElem? (List.getElem?_set_self h)
theorem ArV.lens {K:PySem.W.Frag} {H:Hp} {k:Nat} {args:List V} {bs:List Bool} (h:ArV K H k args bs):1≤bs.length∧2≤args.length∧args.length≤4∧(k<5→bs.length=args.length)∧(k=5→bs.length=3∧args.length=4):=by
  cases h <;> refine⟨Nat.le_of_ble_eq_true rfl,Nat.le_of_ble_eq_true rfl,Nat.le_of_ble_eq_true rfl,fun h=>?_,fun h=>?_⟩
  all_goals first | rfl | (exact⟨rfl,rfl⟩) | (exact absurd h (by decide))
theorem ArV.onA {K:PySem.W.Frag} {H:Hp} {cRu:Addr} {Cs:Nat→Addr} {args:List V} {bs:List Bool} {v:V} (h:ArV K H 5 args bs) (o:OnV K cRu Cs H v true) (f:false∈bs):OnA K cRu Cs H args v:=by
  cases h with
  | @ontop v1 v2 v3 v4 b1 b2 b3 a b c =>
    refine⟨v1,v2,v3,v4,b1,b2,b3,true,rfl,a,b,c,o,?_⟩
    cases b1 <;> cases b2 <;> cases b3 <;> first | rfl | (simp at f)
theorem ArV.onF {K:PySem.W.Frag} {H:Hp} {cRu:Addr} {Cs:Nat→Addr} {args:List V} {bs:List Bool} {v:V} (h:ArV K H 5 args bs) (o:OnV K cRu Cs H v false):OnA K cRu Cs H args v:=by
  cases h with
  | @ontop v1 v2 v3 v4 b1 b2 b3 a b c =>
    refine⟨v1,v2,v3,v4,b1,b2,b3,false,rfl,a,b,c,o,?_⟩
    cases b1 <;> cases b2 <;> cases b3 <;> rfl
end Pg
namespace K09
open PySem PySem.NumText L2 Pg
seal PE PA PT PW PS PSs PG PGs PI PIf PO PK
section
variable {P:Program} {w:World} {K:PySem.W.Frag} {mg:Str→Option Value} {base:Heap} {f:Addr} {fd:FuncData} {d:Nat→Addr} {cR:Addr}
set_option maxHeartbeats 16000000 in
theorem ok_isRef {Cs:Nat→Addr} {cRu:Addr} {j:Nat} (hj:18≤j) (F:Fun K "_law_is_refused" "_law_is_refused" (top 69) f fd) (G:Glb mg) (KT:KtR K cRu) (N0:CalN P w K mg base CX0 5 "Flat" (Cs 0) ["self","name","amount"] (sp_kinit 0 Cs)) (N5:CalN P w K mg base CX0 16 "OnTop" (Cs 5) ["self","name","parts","way","rule"] (sp_oinit 2 Cs)) (C1:Cal P w K mg base CX0 j "_law_told" ["_law_rule_here","_law_within"] (sp_tdE K cRu Cs)) (C2:Cal P w K mg base CX0 3 "_law_spoilt" ["_law_rule_here","_law_place","_law_number"] (sp_spo K)):FnOk P w K mg base CX0 (j+1) f fd ["_law_rule_here","_law_within","_law_number"] (sp_isRef K Cs):=by
  have nd:(["_law_rule_here","_law_within","_law_number","_law_place","_law_deep","_law_k","_law_odd","_law_spoilt_here"]:List Str).Nodup:=by decide +kernel
  refine F.ok (N:=["_law_rule_here","_law_within","_law_number","_law_place","_law_deep","_law_k","_law_odd","_law_spoilt_here"]) ⟨rfl,rfl,rfl,by decide +kernel,rfl,by decide +kernel,by decide +kernel⟩ (fun vs H Q E h=>?_) (fun cdv A outer s H vs Q E hr h=>?_)
  · obtain⟨t,v,n,k,args,bs,r,rfl,_⟩:=h
    rfl
  · obtain⟨t,v,n,k,args,bs,r,rfl,gt,k6,ro,gd,q⟩:=h
    have hr6:Room (5+1) (A.deeper _):=hr.mono (by omega)
    have hr17:Room (16+1) (A.deeper _):=hr.mono (by omega)
    have un1:(A.deeper (PyProof.Rows.envOfC "_law_is_refused" (defScope (top 69)) s.heap.objs.size f cdv)).units+1<cLine:=Nat.lt_of_le_of_lt (Nat.add_le_add_left (by decide:1≤64) _) hr.units
    refine⟨_,(pss_cons (ps_set (i:=3) nd rfl (Or.inl rfl) (pe_op op_add pe_int (pe_op op_mod (pv 2) (pe_op op_sub (pe_callB call_len_seq rfl G.len boot_len (pa_cons (pv 0) pa_nil)) pe_int))))
        (pss_cons (ps_if (PW.pt (pw_and (pt_cmpR op_eq (pv 3) pe_int (nomark _)) (pw_and1 (pt_cmpR op_eq (pe_at ix_tup (pv 0) pe_int) pe_str (nomark _)))))
          (pss_cons (ps_set (i:=4) nd rfl (Or.inl rfl) (pe_calN (j:=5) N0 hr6 (by decide) pass0 (pa_cons pe_str (pa_cons pe_int pa_nil))))
          (pss_cons (ps_for PassesOwn.never rfl (pi_range1 rfl G.range (pa_cons pe_int pa_nil)) (pg_name (i:=5) nd rfl (Or.inl rfl)) (pss_one (ps_set (i:=4) nd rfl (Or.inl rfl) (pe_calN (j:=16) N5 hr17 (by decide) pass0 (pa_cons pe_str (pa_cons pe_int (pa_cons pe_str (pa_cons (pv 4) pa_nil))))))))
          (pss_cons (ps_set (i:=6) nd rfl (Or.inl rfl) (pe_at ix_list (pe_lstS (pa_cons (pv 4) (pa_cons pe_str (pa_cons pe_non (pa_cons pe_int (pa_cons (pe_lstS (pa_cons (pv 1) pa_nil)) (pa_cons (pe_tupS (pa_cons pe_str (pa_cons pe_str (pa_cons pe_int pa_nil)))) (pa_cons pe_bl pa_nil)))))))) (pe_op op_mod (pe_op op_fdiv (pv 2) pe_int) pe_int)))
          (pss_one (ps_ret (pe_cmpR op_eqK (pe_cal C1 hr (Nat.le_refl _) pass0 (pa_cons (pv 0) (pa_cons (pv 6) pa_nil))) (pe_tupS (pa_cons pe_str (pa_cons pe_str pa_nil))) (nomark _))))))) pss_nil)
        (pss_cons (ps_set (i:=7) nd rfl (Or.inl rfl) (pe_cal C2 hr (by omega) pass0 (pa_cons (pv 0) (pa_cons (pv 3) (pa_cons (pe_op op_fdiv (pv 2) pe_int) pa_nil)))))
        (pss_cut (ps_if (pt_cmpR op_eq (pe_op op_mod (pe_op op_fdiv (pe_op op_fdiv (pv 2) pe_int) pe_int) pe_int) pe_int (nomark _)) (pss_one (ps_set (i:=7) nd rfl (Or.inl rfl) (pe_cal C2 hr (by omega) pass0 (pa_cons (pv 7) (pa_cons pe_int (pa_cons (pe_op op_fdiv (pv 2) pe_int) pa_nil)))))) pss_nil)
        (pss_one (ps_ret (pe_cmpR op_eqK (pe_cal C1 hr (Nat.le_refl _) pass0 (pa_cons (pv 7) (pa_cons (pv 1) pa_nil))) (pe_tupS (pa_cons pe_str (pa_cons pe_str pa_nil))) (nomark _)))))))),?_⟩
    dsimp (config:={ proj:=false,iota:=false,beta:=false,eta:=false }) only [cxOf_K,nox_K]
    obtain⟨b1,a2,a4,l5,l6⟩:=gt.ar.lens
    have m0:0≤n%(((V.str (kwd k)::args).length:Int) - 1):=Int.emod_nonneg _ (by rw[List.length_cons];omega)
    have m1:n%(((V.str (kwd k)::args).length:Int) - 1)<((V.str (kwd k)::args).length:Int) - 1:=Int.emod_lt_of_pos _ (by rw[List.length_cons];omega)
    refine⟨_,rfl,_,rfl,t,_,rfl,.inr (SqT.of gt.tup),_,_,rfl,rfl,_,_,rfl,rfl,(by show (0:Int)<((V.str (kwd k)::args).length:Int) - 1;rw[List.length_cons];omega),_,_,rfl,rfl,?_⟩
    dsimp only
    obtain⟨p,hp⟩:=Int.eq_ofNat_of_zero_le (show 0≤1+n%(((V.str (kwd k)::args).length:Int) - 1) by omega)
    have ll:(((V.str (kwd k)::args).length:Nat):Int)=(args.length:Int)+1:=by rw[List.length_cons];rfl
    have p1:1≤p:=by omega
    have p2:p≤args.length:=by omega
    rw[hp]
    by_cases c:p=4∧k=5
    · obtain⟨rfl,rfl⟩:=c
      refine⟨_,rfl,rfl,_,rfl,iteT ⟨_,rfl,t,_,_,_,rfl,rfl,SqT.of gt.tup,at_first rfl,rfl,_,rfl,iteSt ?_⟩⟩
      refine fun o dx o0 d0 ne=>⟨o,dx,.flat "a" 1,rfl,rfl,.flat nm_a amt1,upd_same,fun H1 fr e1=>⟨rfl,?_⟩⟩
      have s1:=made_same o0 d0 fr
      have r1:RoG Cs H1 (dpR "b" 0) (.ref o):=.pln (by decide) ⟨o,dx,rfl,e1⟩
      refine⟨3,rfl,by decide,by decide,for_range2 (n:=3) (fun i σ H'=>∃ u x5,σ = [some (.ref t),some v,some (.int n),some (.int 4),some u,x5,none,none]∧Same H H'∧RoG Cs H' (dpR "b" i) u) ⟨_,_,rfl,s1,r1⟩ ?_ ?_⟩
      · rintro i σ H2 hi ⟨u,x5,rfl,s2,r2⟩ E2 k2
        exact⟨_,rfl,fun o dx o0 d0 ne=>⟨o,dx,"b",5000,"up",u,dpR "b" i,rfl,nm_b,prt5,way_up,r2.same (Same.made o0 d0),(gd_dp nm_b i).le (by omega),upd_same,fun H3 u3 fr ho ri=>⟨rfl,k2 _ _ ⟨_,_,rfl,s2.trans (made_same o0 d0 fr),.ontop ho ri⟩⟩⟩⟩
      · rintro σ H2 ⟨u,x5,rfl,s2,r2⟩
        refine⟨_,rfl,_,rfl,lenOk rfl,fun l3 H3 s3 n3 e3=>⟨lenOk rfl,fun t4 H4 s4 n4 e4=>⟨lenOk rfl,fun l5 H5 s5 n5 e5=>?_⟩⟩⟩
        obtain⟨w,ew,mw⟩:=at_any (xs:=[u,V.str "flat a 5",V.non,V.int 5,V.ref l3,V.ref t4,V.bl true]) (i:=n/5%7) (Int.emod_nonneg _ (by decide)) (Int.emod_lt_of_pos _ (by decide))
        have S5:=s2.trans (s3.trans (s4.trans s5))
        have ow:OnV K cRu Cs H5 w false:=by
          simp only[List.mem_cons,List.not_mem_nil,or_false] at mw
          rcases mw with rfl | rfl | rfl | rfl | rfl | rfl | rfl
          · exact .deep (r2.same (s3.trans (s4.trans s5))) (gd_dp nm_b 3) rfl
          · exact .other (.str _) KT.s
          · exact .other .non KT.n
          · exact .other (.int 5) KT.i
          · exact .other (.lst (s5 _ _ (s4 _ _ e3))) KT.l
          · exact .other (.tup (s5 _ _ e4)) KT.t
          · exact .other (.bl true) KT.b
        refine⟨_,rfl,_,_,rfl,rfl,⟨by decide,by decide⟩,_,_,rfl,rfl,(by show (0:Int)<7;decide),l5,_,_,_,rfl,rfl,SqL.of e5,ew,?_⟩
        refine⟨_,rfl,_,rfl,t,w,5,args,rfl,S5 _ _ gt.tup,.inr ⟨rfl,(gt.ar.same S5).onF ow⟩,fun l6 H6 s6 e6=>⟨lenOk rfl,fun l7 H7 s7 n7 e7=>?_⟩⟩
        exact⟨1,_,rfl,Is.flatT (SqT.of (s7 _ _ e6)) rfl,Is.flatT (SqT.of e7) rfl,un1,q H7 (S5.trans (s6.trans s7))⟩
    · refine⟨_,rfl,rfl,_,rfl,ite2 (fun e=>⟨_,rfl,t,_,_,_,rfl,rfl,SqT.of gt.tup,at_first rfl,rfl,_,rfl,iteSf (fun z=>?_) ?_⟩) (fun _=>?_)⟩
      · have e:p=4:=by have:=of_decide_eq_true e;injection this with this;omega
        have:k=5:=Classical.byContradiction fun h=>kw_ne (k:=k) (by omega) z
        exact c ⟨e,this⟩
      all_goals
        try refine iteF ?_
        have p3:k=5→p≤3:=fun e=>by
          have:=(l6 e).2
          have:p≠4:=fun z=>c ⟨z,e⟩
          omega
        refine⟨_,rfl,_,rfl,_,rfl,_,_,rfl,rfl,⟨by decide,by decide⟩,t,p,k,_,args,bs,rfl,gt.tup,gt.ar,p1,p2,p3,fun e _=>gt.bd e,fun t1 args1 H1 s1 e1 ar1=>?_⟩
        have pb:p - 1<bs.length:=by
          by_cases h:k=5
          · have:=l6 h
            have:=p3 h
            omega
          · have:=l5 (by omega)
            omega
        refine cut_to (fun σ H'=>∃ t' args' bs',σ = [some (.ref t),some v,some (.int n),some (.int (p:Nat)),none,none,none,some (.ref t')]∧Same H H'∧H' t'=some (.tup (.str (kwd k)::args'))∧ArV K H' k args' bs'∧false∈bs') (fun Ek kk=>?_) ?_
        · refine⟨_,rfl,_,_,rfl,rfl,⟨by decide,by decide⟩,_,_,rfl,rfl,⟨by decide,by decide⟩,_,_,rfl,rfl,(by show (0:Int)<3;decide),rfl,_,rfl,ite2 (fun e=>?_) (fun _=>?_)⟩
          · have b2:=ar1.lens
            exact⟨_,rfl,_,rfl,_,_,rfl,rfl,⟨by decide,by decide⟩,t1,1,k,_,args1,_,rfl,e1,ar1,by decide,by omega,fun _=>by decide,fun _ z=>absurd z (by decide),fun t2 args2 H2 s2 e2 ar2=>kk _ _ ⟨_,_,_,rfl,s1.trans s2,e2,ar2,set_false (by omega)⟩⟩
          · exact kk _ _ ⟨_,_,_,rfl,s1,e1,ar1,set_false pb⟩
        rintro σ H2 ⟨t2,args2,bs2,rfl,s2,e2,ar2,fa⟩
        refine⟨_,rfl,_,rfl,t2,v,k,args2,rfl,e2,?_,fun l6 H6 s6 e6=>⟨lenOk rfl,fun l7 H7 s7 n7 e7=>?_⟩⟩
        · by_cases h:k=5
          · subst h
            exact .inr ⟨rfl,ar2.onA (.good (ro.same s2) gd) fa⟩
          · exact .inl ⟨by omega,ar2.bad (by omega) fa⟩
        exact⟨1,_,rfl,Is.flatT (SqT.of (s7 _ _ e6)) rfl,Is.flatT (SqT.of e7) rfl,un1,q H7 (s2.trans (s6.trans s7))⟩
end
end K09
namespace Pg
open PySem L2
theorem nm_of {K:PySem.W.Frag} {H:Hp} {z:Str} (h:RName z):NmV K H (.str z) (rnB z):=.inl ⟨z,rfl,by have:=h.ok.hi;omega,rfl⟩
theorem nu_of {K:PySem.W.Frag} {H:Hp} (m z:Int):NuV K H m (.int z) (decide (0≤z∧z≤m)):=.inl ⟨z,rfl,rfl⟩
theorem wy_of {K:PySem.W.Frag} {H:Hp} (z:Str):WyV K H (.str z) (wayL.contains z):=.inl ⟨z,rfl,rfl⟩
theorem bd_of {K:PySem.W.Frag} {H:Hp} {u:Addr} {ps:List (Int × Int)} (h:BdsAt H u ps) (ok:BdOk ps):BdV K H (.ref u) (bdB (ps.map some)):=by
  obtain⟨ys,e,T⟩:=h
  have l:ys.length=ps.length:=by rw[T.len,List.length_map]
  refine .rows e (by rw[l,List.length_map]) (by have:=ok.few;omega) fun j x o h1 h2=>?_
  obtain⟨a,c,rfl,e2,e3⟩:=T.of_at h1
  rw[List.getElem?_map] at h2 e2
  cases hp:ps[j]? with
  | none=>rw[hp] at e2;exact nomatch e2
  | some p =>
    rw[hp] at h2 e2
    cases h2
    cases e2
    have:=ok.ok p (List.mem_of_getElem? hp)
    exact .pair e3 this.1 this.2
structure TgV (K:PySem.W.Frag) (H:Hp) (t:Addr) (z:Str):Prop where
  gd:∃ k args bs,GdT K H t k args bs∧k<6
  told:(∃ r,RtG H r (.ref t)∧Gd 0 r∧r.name=z)∨(∃ p x v4,H t=some (.tup [.str "ontop",.str z,.int p,.str x,v4])∧RName z∧Prt p∧Way x)
theorem TgV.same {K:PySem.W.Frag} {H H':Hp} {t:Addr} {z:Str} (s:Same H H') (h:TgV K H t z):TgV K H' t z:=by
  obtain⟨⟨k,args,bs,g,k6⟩,h⟩:=h
  refine⟨⟨k,args,bs,g.same s,k6⟩,?_⟩
  rcases h with ⟨r,a,b⟩ | ⟨p,x,v,a,b⟩
  · exact .inl ⟨r,a.same s,b⟩
  · exact .inr ⟨p,x,v,s _ _ a,b⟩
theorem tg_gd {K:PySem.W.Frag} {H:Hp} {t:Addr} {r:Rk} (h:RtG H r (.ref t)) (g:Gd 0 r):TgV K H t r.name:=by
  refine⟨?_,.inl ⟨r,h,g,rfl⟩⟩
  cases g with
  | pln p =>
    cases h with
    | pln k h =>
      obtain⟨t',e,h⟩:=h
      cases e
      cases p with
      | flat hn ha=>exact⟨0,_,_,⟨h,.flat (nm_of hn) (nu_of _ _),fun e=>nomatch e⟩,by decide⟩
      | share hn hp hw=>exact⟨1,_,_,⟨h,.share (nm_of hn) (nu_of _ _) (wy_of _),fun e=>nomatch e⟩,by decide⟩
      | capped hn hp ha hw=>exact⟨2,_,_,⟨h,.capped (nm_of hn) (nu_of _ _) (nu_of _ _) (wy_of _),fun e=>nomatch e⟩,by decide⟩
      | least hn hp ha hw=>exact⟨3,_,_,⟨h,.least (nm_of hn) (nu_of _ _) (nu_of _ _) (wy_of _),fun e=>nomatch e⟩,by decide⟩
    | bands h b=>cases p
    | ontop h b=>cases p
  | bands hn ok hw =>
    cases h with
    | pln k h=>exact absurd k (by show ¬ (4:Nat)<4;decide)
    | bands h b=>exact⟨4,_,_,⟨h,.bands (nm_of hn) (bd_of b ok) (wy_of _),fun _=>⟨_,_,rfl,b,ok⟩⟩,by decide⟩
theorem tg_on {K:PySem.W.Frag} {H:Hp} {t:Addr} {z x:Str} {p:Int} {v:V} (h:H t=some (.tup [.str "ontop",.str z,.int p,.str x,v])) (hn:RName z) (hp:Prt p) (hw:Way x):TgV K H t z :=
  ⟨⟨5,_,_,⟨h,.ontop (nm_of hn) (nu_of _ _) (wy_of _),fun e=>nomatch e⟩,by decide⟩,.inr ⟨p,x,v,h,hn,hp,hw⟩⟩
end Pg
namespace K09
open PySem PySem.NumText L2 Pg
seal PE PA PT PW PS PSs PG PGs PI PIf PO PK
section
variable {P:Program} {w:World} {K:PySem.W.Frag} {mg:Str→Option Value} {base:Heap} {f:Addr} {fd:FuncData} {d:Nat→Addr} {cR:Addr}
set_option maxHeartbeats 16000000 in
theorem ok_law {Cs:Nat→Addr} (F:Fun K "law" "law" (top 70) f fd) (G:Glb mg) (C0:Cal P w K mg base CX0 1 "_law_cell_at" ["_law_script","_law_k"] (sp_cell K)) (C1:Cal P w K mg base CX0 1 "_law_mixed" ["_law_cell","_law_k"] sp_mixR) (C2:Cal P w K mg base CX0 2 "_law_names" ["_law_cell","_law_many"] sp_namR) (C3:Cal P w K mg base CX0 4 "_law_plain" ["_law_cell","_law_name","_law_kind"] sp_plnG) (C4:Cal P w K mg base CX0 2 "_law_parts" ["_law_cell","_law_k"] sp_prtR) (C5:Cal P w K mg base CX0 2 "_law_way" ["_law_cell","_law_k"] sp_wayR)
    (N0:CalN P w K mg base CX0 5 "Flat" (Cs 0) ["self","name","amount"] (sp_kinit 0 Cs)) (N5:CalN P w K mg base CX0 16 "OnTop" (Cs 5) ["self","name","parts","way","rule"] (sp_oinit 2 Cs)) (C6:Cal P w K mg base CX0 20 "_law_told" ["_law_rule_here","_law_within"] (sp_tdG Cs)) (C7:Cal P w K mg base CX0 21 "_law_is_refused" ["_law_rule_here","_law_within","_law_number"] (sp_isRef K Cs)):FnOk P w K mg base CX0 22 f fd ["_law_script"] (sp_lawS K):=by
  have nd:(["_law_script","_law_names_here","_law_kind","_law_cell","_law_rule_here","_law_within","_law_k"]:List Str).Nodup:=by decide +kernel
  refine F.ok (N:=["_law_script","_law_names_here","_law_kind","_law_cell","_law_rule_here","_law_within","_law_k"]) ⟨rfl,rfl,rfl,by decide +kernel,rfl,by decide +kernel,by decide +kernel⟩ (fun vs H Q E h=>?_) (fun cdv A outer s H vs Q E hr h=>?_)
  · obtain⟨a,ns,rfl,_⟩:=h
    rfl
  · obtain⟨a,ns,rfl,hs,q⟩:=h
    have hr6:Room (5+1) (A.deeper _):=hr.mono (by omega)
    have hr17:Room (16+1) (A.deeper _):=hr.mono (by omega)
    have un1:(A.deeper (PyProof.Rows.envOfC "law" (defScope (top 70)) s.heap.objs.size f cdv)).units+1<cLine:=Nat.lt_of_le_of_lt (Nat.add_le_add_left (by decide:1≤64) _) hr.units
    refine⟨_,(pss_cons (ps_set (i:=1) nd rfl (Or.inl rfl) (pe_cal C2 hr (by decide) pass0 (pa_cons (pe_cal C0 hr (by decide) pass0 (pa_cons (pv 0) (pa_cons pe_int pa_nil))) (pa_cons pe_int pa_nil))))
        (pss_cons (ps_set (i:=2) nd rfl (Or.inl rfl) (pe_op op_mod (pe_cal C0 hr (by decide) pass0 (pa_cons (pv 0) (pa_cons pe_int pa_nil))) pe_int))
        (pss_cons (ps_set (i:=3) nd rfl (Or.inl rfl) (pe_cal C0 hr (by decide) pass0 (pa_cons (pv 0) (pa_cons pe_int pa_nil))))
        (pss_cons (ps_set (i:=4) nd rfl (Or.inl rfl) (pe_cal C3 hr (by decide) pass0 (pa_cons (pv 3) (pa_cons (pe_at ix_list (pv 1) pe_int) (pa_cons (pe_op op_mod (pv 2) pe_int) pa_nil)))))
        (pss_cut (ps_if (pt_cmpR op_eq (pv 2) pe_int (nomark _)) (pss_one (ps_set (i:=4) nd rfl (Or.inl rfl) (pe_tupS (pa_cons pe_str (pa_cons (pe_at ix_list (pv 1) pe_int) (pa_cons (pe_cal C4 hr (by decide) pass0 (pa_cons (pv 3) (pa_cons pe_int pa_nil))) (pa_cons (pe_cal C5 hr (by decide) pass0 (pa_cons (pv 3) (pa_cons pe_int pa_nil))) (pa_cons (pe_cal C3 hr (by decide) pass0 (pa_cons (pv 3) (pa_cons (pe_at ix_list (pv 1) pe_int) (pa_cons (pe_op op_mod (pv 3) pe_int) pa_nil)))) pa_nil)))))))) pss_nil)
        (pss_cons (ps_set (i:=5) nd rfl (Or.inl rfl) (pe_calN (j:=5) N0 hr6 (by decide) pass0 (pa_cons pe_str (pa_cons pe_int pa_nil))))
        (pss_cons (ps_for PassesOwn.never rfl (pi_range1 rfl G.range (pa_cons (pe_op op_mod (pe_cal C1 hr (by decide) pass0 (pa_cons (pv 3) (pa_cons pe_int pa_nil))) pe_int) pa_nil)) (pg_name (i:=6) nd rfl (Or.inl rfl)) (pss_one (ps_set (i:=5) nd rfl (Or.inl rfl) (pe_calN (j:=16) N5 hr17 (by decide) pass0 (pa_cons (pe_at ix_list (pv 1) pe_int) (pa_cons pe_int (pa_cons pe_str (pa_cons (pv 5) pa_nil))))))))
        (pss_cons (ps_if (pt_cmpR op_neK (pe_cal C6 hr (by decide) pass0 (pa_cons (pv 4) (pa_cons (pv 5) pa_nil))) (pe_tupS (pa_cons pe_str (pa_cons (pe_at ix_list (pv 1) pe_int) pa_nil))) (nomark _)) (pss_one (ps_ret pe_bl)) pss_nil)
        (pss_cons (ps_for PassesOwn.never rfl (pi_range1 rfl G.range (pa_cons pe_int pa_nil)) (pg_name (i:=6) nd rfl (Or.inl rfl)) (pss_one (ps_if (pt_not (pt_val (pe_cal C7 hr (by decide) pass0 (pa_cons (pv 4) (pa_cons (pv 5) (pa_cons (pe_cal C1 hr (by decide) pass0 (pa_cons (pe_cal C0 hr (by decide) pass0 (pa_cons (pv 0) (pa_cons pe_int pa_nil))) (pa_cons (pv 6) pa_nil))) pa_nil)))))) (pss_one (ps_ret pe_bl)) pss_nil)))
        (pss_one (ps_ret (pe_cmpR op_eqK (pe_cal C6 hr (by decide) pass0 (pa_cons (pv 4) (pa_cons (pv 5) pa_nil))) (pe_tupS (pa_cons pe_str (pa_cons (pe_at ix_list (pv 1) pe_int) pa_nil))) (nomark _))))))))))))),?_⟩
    dsimp (config:={ proj:=false,iota:=false,beta:=false,eta:=false }) only [cxOf_K,nox_K]
    refine⟨_,rfl,a,0,ns,rfl,hs,by decide,_,2,rfl,by decide,fun nms ln H1 nl hn s1 n1 e1=>?_⟩
    obtain⟨z0,z1,rfl⟩:=two_of nl
    have hz0:=hn z0 List.mem_cons_self
    have hz1:=hn z1 (List.mem_cons_of_mem _ List.mem_cons_self)
    have e1:H1 ln=some (.lst [.str z0,.str z1]):=e1
    refine⟨_,rfl,a,1,ns,rfl,s1.seq hs,by decide,_,_,rfl,rfl,(by show (0:Int)<6;decide),?_⟩
    dsimp only
    generalize cellZ ns 1%6=kd
    refine⟨_,rfl,a,2,ns,rfl,s1.seq hs,by decide,?_⟩
    generalize cellZ ns 2=c
    refine⟨_,rfl,_,rfl,ln,_,_,_,rfl,rfl,SqL.of e1,rfl,_,rfl,_,_,rfl,rfl,(by show (0:Int)<5;decide),c,z0,_,rfl,hz0,Int.emod_nonneg _ (by decide),Int.emod_lt_of_pos _ (by decide),fun v r H2 gd rn _ s2 rt=>?_⟩
    obtain⟨t,_,rfl,_⟩:=rt_head rt gd
    subst rn
    have tg:=tg_gd (K:=K) rt gd
    have hz0:RName r.name:=hz0
    refine cut_to (fun σ H'=>∃ t,σ = [some (.ref a),some (.ref ln),some (.int kd),some (.int c),some (.ref t),none,none]∧Same H1 H'∧TgV K H' t r.name) (fun Ek kk=>?_) ?_
    · refine⟨_,rfl,rfl,_,rfl,ite2 (fun e=>?_) (fun _=>kk _ _ ⟨t,rfl,s2,tg⟩)⟩
      refine⟨_,rfl,ln,_,_,_,rfl,rfl,SqL.of (s2 _ _ e1),rfl,_,rfl,c,_,rfl,fun p H3 hp s3=>⟨_,rfl,c,_,rfl,fun x H4 hw s4=>⟨_,rfl,_,rfl,ln,_,_,_,rfl,rfl,SqL.of (s4 _ _ (s3 _ _ (s2 _ _ e1))),rfl,_,rfl,_,_,rfl,rfl,(by show (0:Int)<5;decide),c,z1,_,rfl,hz1,Int.emod_nonneg _ (by decide),Int.emod_lt_of_pos _ (by decide),fun v5 r5 H5 gd5 rn5 _ s5 rt5=>⟨lenOk rfl,fun t6 H6 s6 n6 e6=>?_⟩⟩⟩⟩
      exact kk _ _ ⟨t6,rfl,s2.trans (s3.trans (s4.trans (s5.trans s6))),tg_on e6 hz0 hp hw⟩
    clear tg rt s2 n1
    rintro σ H3 ⟨t,rfl,s3,tg⟩
    refine fun o dx o0 d0 ne=>⟨o,dx,.flat "a" 1,rfl,rfl,.flat nm_a amt1,upd_same,fun H4 fr e4=>⟨rfl,?_⟩⟩
    have s4:=made_same o0 d0 fr
    have r4:RoG Cs H4 (dpR z1 0) (.ref o):=.pln (by show 0<4;decide) ⟨o,dx,rfl,e4⟩
    have tg4:=tg.same s4
    have S4:=s3.trans s4
    clear fr
    refine⟨_,rfl,c,_,rfl,fun m m0 m1=>⟨_,_,rfl,rfl,(by show (0:Int)<3;decide),?_⟩⟩
    have b0:0≤m%3:=Int.emod_nonneg _ (by decide)
    have b1:m%3<3:=Int.emod_lt_of_pos _ (by decide)
    refine⟨_,rfl,by omega,by omega,for_range2 (fun i σ H'=>∃ u x6,σ = [some (.ref a),some (.ref ln),some (.int kd),some (.int c),some (.ref t),some u,x6]∧Same H1 H'∧TgV K H' t r.name∧RoG Cs H' (dpR z1 i) u) ⟨_,_,rfl,S4,tg4,r4⟩ ?_ ?_⟩
    · rintro i σ H5 hi ⟨u,x6,rfl,s5,tg5,r5⟩ E5 k5
      have hi:i<(m%3).toNat:=hi
      have i2:i≤2:=by omega
      exact⟨_,rfl,ln,_,_,_,rfl,rfl,SqL.of (s5 _ _ e1),rfl,_,rfl,fun o dx o0 d0 ne=>⟨o,dx,z1,5000,"up",u,dpR z1 i,rfl,hz1,prt5,way_up,r5.same (Same.made o0 d0),(gd_dp hz1 i).le i2,upd_same,fun H6 u6 fr ho ri=>⟨rfl,k5 _ _ ⟨_,_,rfl,s5.trans (made_same o0 d0 fr),tg5.same (made_same o0 d0 fr),.ontop ho ri⟩⟩⟩⟩
    clear r4 tg4 S4 e4 s4
    rintro σ H5 ⟨u,x6,rfl,s5,tg5,r5⟩
    have r5:RoG Cs H5 (dpR z1 (m%3).toNat) u:=r5
    have g5:Gd 2 (dpR z1 (m%3).toNat):=(gd_dp hz1 _).le (by omega)
    generalize dpR z1 (m%3).toNat=rw at r5 g5
    have td:∀ {H':Hp},Same H5 H'→(∃ r1,RtG H' r1 (.ref t)∧Gd 0 r1∧r1.name=r.name)∨(∃ p x v4 r1,H' t=some (.tup [.str "ontop",.str r.name,.int p,.str x,v4])∧RName r.name∧Prt p∧Way x∧RoG Cs H' r1 u∧Gd 2 r1):=fun {H'} s=>by
      rcases (tg5.same s).told with h | ⟨p,x,v4,h,h1,h2,h3⟩
      · exact .inl h
      · exact .inr ⟨p,x,v4,rw,h,h1,h2,h3,r5.same s,g5⟩
    refine⟨_,rfl,_,rfl,t,u,_,rfl,td (Same.refl _),fun l6 H6 s6 e6=>⟨_,rfl,ln,_,_,_,rfl,rfl,SqL.of (s6 _ _ (s5 _ _ e1)),rfl,lenOk rfl,fun l7 H7 s7 n7 e7=>⟨1,_,rfl,Is.flatT (SqT.of (s7 _ _ e6)) rfl,Is.flatT (SqT.of e7) rfl,un1,_,rfl,iteF ?_⟩⟩⟩
    refine⟨8,rfl,by decide,by decide,for_range2 (n:=8) (fun i σ H'=>∃ x6,σ = [some (.ref a),some (.ref ln),some (.int kd),some (.int c),some (.ref t),some u,x6]∧Same H5 H') ⟨_,rfl,s6.trans s7⟩ ?_ ?_⟩
    · rintro i σ H8 hi ⟨x6,rfl,s8⟩ E8 k8
      obtain⟨k,args,bs,g,k6⟩:=(tg5.same s8).gd
      exact⟨_,rfl,_,rfl,_,rfl,a,3,ns,rfl,(s1.trans (s5.trans s8)).seq hs,by decide,_,rfl,_,_,rfl,fun m m0 m1=>⟨t,u,m,k,args,bs,rw,rfl,g,k6,r5.same s8,g5,fun H9 s9=>⟨true,rfl,iteF (k8 _ _ ⟨_,rfl,s8.trans s9⟩)⟩⟩⟩
    rintro σ H8 ⟨x6,rfl,s8⟩
    exact⟨_,rfl,_,rfl,t,u,_,rfl,td s8,fun l9 H9 s9 e9=>⟨_,rfl,ln,_,_,_,rfl,rfl,SqL.of (s9 _ _ (s8 _ _ (s5 _ _ e1))),rfl,lenOk rfl,fun lA HA sA nA eA=>⟨1,_,rfl,Is.flatT (SqT.of (sA _ _ e9)) rfl,Is.flatT (SqT.of eA) rfl,un1,q HA⟩⟩⟩
end
end K09
set_option maxHeartbeats 8000000
namespace K09
open PySem L2 Pg
theorem law_fn {l:PySem.W.OpenLaw} {w:World} {K:PySem.W.Frag} {h:Heap} {mg:Str→Option Value} {fa:Addr} {c0 c1 c2 c3 c4 c5 c6 c7 c8 c9 c10 c11 c12 c13 c14 cR cRu cF cS cC cL cB cO:Addr} {t0 t1 t2 t3 t4:Tok} {u0:Tok} (X:K.In h) (G:h.Ns mainGlobals mg) (hfa:mg "law" = some (.ref fa))
    (f_is_number:FnAt K "is_number" (top 21))
    (f_is_number_within:FnAt K "is_number_within" (top 22))
    (f_is_parts:FnAt K "is_parts" (top 23))
    (f_is_way:FnAt K "is_way" (top 24))
    (f_is_word_of:FnAt K "is_word_of" (top 28))
    (f_is_name:FnAt K "is_name" (top 29))
    (f_rise:FnAt K "rise" (top 30))
    (f_is_rule_name:FnAt K "is_rule_name" (top 34))
    (f_is_rule_amount:FnAt K "is_rule_amount" (top 35))
    (f_need_rule_amount:FnAt K "need_rule_amount" (top 36))
    (f_need_share:FnAt K "need_share" (top 37))
    (f_is_band:FnAt K "is_band" (top 48))
    (f_are_bands:FnAt K "are_bands" (top 49))
    (f__law_cell_at:FnAt K "_law_cell_at" (top 52))
    (f__law_mixed:FnAt K "_law_mixed" (top 53))
    (f__law_amount:FnAt K "_law_amount" (top 54))
    (f__law_names:FnAt K "_law_names" (top 55))
    (f__law_parts:FnAt K "_law_parts" (top 56))
    (f__law_way:FnAt K "_law_way" (top 57))
    (f__law_pairs:FnAt K "_law_pairs" (top 58))
    (f__law_plain:FnAt K "_law_plain" (top 59))
    (f__law_made:FnAt K "_law_made" (top 61))
    (f__law_word:FnAt K "_law_word" (top 62))
    (f__law_odd_name:FnAt K "_law_odd_name" (top 63))
    (f__law_odd_number:FnAt K "_law_odd_number" (top 64))
    (f__law_odd_way:FnAt K "_law_odd_way" (top 65))
    (f__law_odd_bands:FnAt K "_law_odd_bands" (top 66))
    (f__law_spoilt:FnAt K "_law_spoilt" (top 67))
    (f__law_told:FnAt K "_law_told" (top 68))
    (f__law_is_refused:FnAt K "_law_is_refused" (top 69))
    (f_law:FnAt K "law" (top 70))
    (n0:PySem.W.nsIn K mainGlobals "BadAmount" = some (some (.ref c0)))
    (n1:PySem.W.nsIn K mainGlobals "BadShare" = some (some (.ref c1)))
    (n2:PySem.W.nsIn K mainGlobals "BadText" = some (some (.ref c2)))
    (n3:PySem.W.nsIn K mainGlobals "BadMonth" = some (some (.ref c3)))
    (n4:PySem.W.nsIn K mainGlobals "BadYear" = some (some (.ref c4)))
    (n5:PySem.W.nsIn K mainGlobals "BadRule" = some (some (.ref c5)))
    (n6:PySem.W.nsIn K mainGlobals "BadBook" = some (some (.ref c6)))
    (n7:PySem.W.nsIn K mainGlobals "NoYear" = some (some (.ref c7)))
    (n8:PySem.W.nsIn K mainGlobals "BadDay" = some (some (.ref c8)))
    (n9:PySem.W.nsIn K mainGlobals "BadEntry" = some (some (.ref c9)))
    (n10:PySem.W.nsIn K mainGlobals "NoMark" = some (some (.ref c10)))
    (n11:PySem.W.nsIn K mainGlobals "NoPerson" = some (some (.ref c11)))
    (n12:PySem.W.nsIn K mainGlobals "TooMany" = some (some (.ref c12)))
    (n13:PySem.W.nsIn K mainGlobals "BadClose" = some (some (.ref c13)))
    (n14:PySem.W.nsIn K mainGlobals "BadLine" = some (some (.ref c14)))
    (nR:PySem.W.nsIn K mainGlobals "RollError" = some (some (.ref cR)))
    (gc0:PySem.W.nsIn K mainGlobals "MOST_SIGNS" = some (some (.int 8 t0)))
    (gc1:PySem.W.nsIn K mainGlobals "MOST_PARTS" = some (some (.int 20000 t1)))
    (gc2:PySem.W.nsIn K mainGlobals "MOST_AMOUNT" = some (some (.int 1000000000000 t2)))
    (gc3:PySem.W.nsIn K mainGlobals "MOST_BANDS" = some (some (.int 12 t3)))
    (gc4:PySem.W.nsIn K mainGlobals "MOST_DEPTH" = some (some (.int 3 t4)))
    (s0:PySem.W.nsIn K mainGlobals "LETTERS" = some (some (.str "abcdefghijklmnopqrstuvwxyz" u0)))
    (s1:TpC K "WAYS" ["down","up","near","even"])
    (s2:TpC K "NO_RULE_NAMES" ["base","net","month","sums"])
    (b_isinstance:PySem.W.nsIn K mainGlobals "isinstance" = some none)
    (b_int:PySem.W.nsIn K mainGlobals "int" = some none)
    (b_bool:PySem.W.nsIn K mainGlobals "bool" = some none)
    (b_str:PySem.W.nsIn K mainGlobals "str" = some none)
    (b_len:PySem.W.nsIn K mainGlobals "len" = some none)
    (b_range:PySem.W.nsIn K mainGlobals "range" = some none)
    (b_ValueError:PySem.W.nsIn K mainGlobals "ValueError" = some none)
    (b_list:PySem.W.nsIn K mainGlobals "list" = some none)
    (b_tuple:PySem.W.nsIn K mainGlobals "tuple" = some none)
    (b_dict:PySem.W.nsIn K mainGlobals "dict" = some none)
    (b_set:PySem.W.nsIn K mainGlobals "set" = some none)
    (b_all:PySem.W.nsIn K mainGlobals "all" = some none)
    (b_any:PySem.W.nsIn K mainGlobals "any" = some none)
    (b_sum:PySem.W.nsIn K mainGlobals "sum" = some none)
    (b_sorted:PySem.W.nsIn K mainGlobals "sorted" = some none)
    (b_abs:PySem.W.nsIn K mainGlobals "abs" = some none)
    (b_max:PySem.W.nsIn K mainGlobals "max" = some none)
    (b_min:PySem.W.nsIn K mainGlobals "min" = some none)
    (b_zip:PySem.W.nsIn K mainGlobals "zip" = some none)
    (b_enumerate:PySem.W.nsIn K mainGlobals "enumerate" = some none)
    (b_reversed:PySem.W.nsIn K mainGlobals "reversed" = some none)
    (x5:PySem.W.excIn K c5 veMro "ValueError.__new__" = true)
    (e5:PySem.W.exmOne K (.ref c5) (.ref cR)=some true)
    (X5:XK.ExcCls K c5)
    (v5:PySem.W.kitOne K (.ref c5) (.type "ValueError")=some true)
    (k5_0:PySem.W.kitOne K (.ref c5) (.ref c0)=some false)
    (k5_1:PySem.W.kitOne K (.ref c5) (.ref c1)=some false)
    (k5_2:PySem.W.kitOne K (.ref c5) (.ref c2)=some false)
    (k5_3:PySem.W.kitOne K (.ref c5) (.ref c3)=some false)
    (k5_4:PySem.W.kitOne K (.ref c5) (.ref c4)=some false)
    (k5_5:PySem.W.kitOne K (.ref c5) (.ref c5)=some true)
    (k5_6:PySem.W.kitOne K (.ref c5) (.ref c6)=some false)
    (k5_7:PySem.W.kitOne K (.ref c5) (.ref c7)=some false)
    (k5_8:PySem.W.kitOne K (.ref c5) (.ref c8)=some false)
    (k5_9:PySem.W.kitOne K (.ref c5) (.ref c9)=some false)
    (k5_10:PySem.W.kitOne K (.ref c5) (.ref c10)=some false)
    (k5_11:PySem.W.kitOne K (.ref c5) (.ref c11)=some false)
    (k5_12:PySem.W.kitOne K (.ref c5) (.ref c12)=some false)
    (k5_13:PySem.W.kitOne K (.ref c5) (.ref c13)=some false)
    (k5_14:PySem.W.kitOne K (.ref c5) (.ref c14)=some false)
    (q_Rule:PySem.W.nsIn K mainGlobals "Rule" = some (some (.ref cRu)))
    (q1_Rule:PySem.W.plainGet K cRu Str.empty=true)
    (q2_Rule:PySem.W.hasDictIn K cRu=true)
    (q3_Rule:PySem.W.plainOver K cRu=true)
    (q4_Rule:PySem.W.findIn K (.ref cRu) "__setattr__" = some (some (.builtin "object.__setattr__")))
    (m_Rule___init__:MtAt K cRu "__init__" "Rule.__init__" (inClass (top 38) 0))
    (sn_Rule___init__:clsFnSeen K cRu "__init__" = true)
    (q_Flat:PySem.W.nsIn K mainGlobals "Flat" = some (some (.ref cF)))
    (q1_Flat:PySem.W.plainGet K cF Str.empty=true)
    (q2_Flat:PySem.W.hasDictIn K cF=true)
    (q3_Flat:PySem.W.plainOver K cF=true)
    (q4_Flat:PySem.W.findIn K (.ref cF) "__setattr__" = some (some (.builtin "object.__setattr__")))
    (a_Flat_name:NoAttr K cF "name")
    (a_Flat_amount:NoAttr K cF "amount")
    (a_Flat_parts:NoAttr K cF "parts")
    (a_Flat_way:NoAttr K cF "way")
    (a_Flat_most:NoAttr K cF "most")
    (a_Flat_least:NoAttr K cF "least")
    (m_Flat___init__:NwAt K cF "Flat.__init__" (inClass (top 39) 0))
    (m_Flat_twin:MtAt K cF "twin" "Flat.twin" (inClass (top 39) 3))
    (m_Flat_depth:MtAt K cF "depth" "Rule.depth" (inClass (top 38) 4))
    (q_Share:PySem.W.nsIn K mainGlobals "Share" = some (some (.ref cS)))
    (q1_Share:PySem.W.plainGet K cS Str.empty=true)
    (q2_Share:PySem.W.hasDictIn K cS=true)
    (q3_Share:PySem.W.plainOver K cS=true)
    (q4_Share:PySem.W.findIn K (.ref cS) "__setattr__" = some (some (.builtin "object.__setattr__")))
    (a_Share_name:NoAttr K cS "name")
    (a_Share_amount:NoAttr K cS "amount")
    (a_Share_parts:NoAttr K cS "parts")
    (a_Share_way:NoAttr K cS "way")
    (a_Share_most:NoAttr K cS "most")
    (a_Share_least:NoAttr K cS "least")
    (m_Share___init__:NwAt K cS "Share.__init__" (inClass (top 40) 0))
    (m_Share_twin:MtAt K cS "twin" "Share.twin" (inClass (top 40) 3))
    (m_Share_depth:MtAt K cS "depth" "Rule.depth" (inClass (top 38) 4))
    (q_Capped:PySem.W.nsIn K mainGlobals "Capped" = some (some (.ref cC)))
    (q1_Capped:PySem.W.plainGet K cC Str.empty=true)
    (q2_Capped:PySem.W.hasDictIn K cC=true)
    (q3_Capped:PySem.W.plainOver K cC=true)
    (q4_Capped:PySem.W.findIn K (.ref cC) "__setattr__" = some (some (.builtin "object.__setattr__")))
    (a_Capped_name:NoAttr K cC "name")
    (a_Capped_amount:NoAttr K cC "amount")
    (a_Capped_parts:NoAttr K cC "parts")
    (a_Capped_way:NoAttr K cC "way")
    (a_Capped_most:NoAttr K cC "most")
    (a_Capped_least:NoAttr K cC "least")
    (m_Capped___init__:NwAt K cC "Capped.__init__" (inClass (top 41) 0))
    (m_Capped_twin:MtAt K cC "twin" "Capped.twin" (inClass (top 41) 3))
    (m_Capped_depth:MtAt K cC "depth" "Rule.depth" (inClass (top 38) 4))
    (q_Least:PySem.W.nsIn K mainGlobals "Least" = some (some (.ref cL)))
    (q1_Least:PySem.W.plainGet K cL Str.empty=true)
    (q2_Least:PySem.W.hasDictIn K cL=true)
    (q3_Least:PySem.W.plainOver K cL=true)
    (q4_Least:PySem.W.findIn K (.ref cL) "__setattr__" = some (some (.builtin "object.__setattr__")))
    (a_Least_name:NoAttr K cL "name")
    (a_Least_amount:NoAttr K cL "amount")
    (a_Least_parts:NoAttr K cL "parts")
    (a_Least_way:NoAttr K cL "way")
    (a_Least_most:NoAttr K cL "most")
    (a_Least_least:NoAttr K cL "least")
    (m_Least___init__:NwAt K cL "Least.__init__" (inClass (top 42) 0))
    (m_Least_twin:MtAt K cL "twin" "Least.twin" (inClass (top 42) 3))
    (m_Least_depth:MtAt K cL "depth" "Rule.depth" (inClass (top 38) 4))
    (q_Bands:PySem.W.nsIn K mainGlobals "Bands" = some (some (.ref cB)))
    (q1_Bands:PySem.W.plainGet K cB Str.empty=true)
    (q2_Bands:PySem.W.hasDictIn K cB=true)
    (q3_Bands:PySem.W.plainOver K cB=true)
    (q4_Bands:PySem.W.findIn K (.ref cB) "__setattr__" = some (some (.builtin "object.__setattr__")))
    (a_Bands_name:NoAttr K cB "name")
    (a_Bands_bands:NoAttr K cB "bands")
    (a_Bands_way:NoAttr K cB "way")
    (a_Bands_parts:NoAttr K cB "parts")
    (a_Bands_within:NoAttr K cB "within")
    (m_Bands___init__:NwAt K cB "Bands.__init__" (inClass (top 50) 0))
    (m_Bands_twin:MtAt K cB "twin" "Bands.twin" (inClass (top 50) 3))
    (m_Bands_depth:MtAt K cB "depth" "Rule.depth" (inClass (top 38) 4))
    (q_OnTop:PySem.W.nsIn K mainGlobals "OnTop" = some (some (.ref cO)))
    (q1_OnTop:PySem.W.plainGet K cO Str.empty=true)
    (q2_OnTop:PySem.W.hasDictIn K cO=true)
    (q3_OnTop:PySem.W.plainOver K cO=true)
    (q4_OnTop:PySem.W.findIn K (.ref cO) "__setattr__" = some (some (.builtin "object.__setattr__")))
    (a_OnTop_name:NoAttr K cO "name")
    (a_OnTop_bands:NoAttr K cO "bands")
    (a_OnTop_way:NoAttr K cO "way")
    (a_OnTop_parts:NoAttr K cO "parts")
    (a_OnTop_within:NoAttr K cO "within")
    (m_OnTop___init__:NwAt K cO "OnTop.__init__" (inClass (top 45) 0))
    (m_OnTop_twin:MtAt K cO "twin" "OnTop.twin" (inClass (top 45) 3))
    (m_OnTop_depth:MtAt K cO "depth" "OnTop.depth" (inClass (top 45) 4))
    (ihn:PySem.W.specialIn K (.builtin "object.__class__") "__get__" = some (some (.builtin "getset_descriptor.__get__")))
    (itk:PySem.W.takesIn K (.builtin "object.__class__")=some true)
    (neSO:(!(Nat.beq cS cO))=true)
    (ia0:PySem.W.findIn K (.ref cF) "__class__" = some (some (.builtin "object.__class__")))
    (im0:PySem.W.mroIn K cF (.type "object")=some true)
    (ik0:PySem.W.kitOne K (.ref cF) (.ref cRu)=some true)
    (ia1:PySem.W.findIn K (.ref cS) "__class__" = some (some (.builtin "object.__class__")))
    (im1:PySem.W.mroIn K cS (.type "object")=some true)
    (ik1:PySem.W.kitOne K (.ref cS) (.ref cRu)=some true)
    (ia2:PySem.W.findIn K (.ref cC) "__class__" = some (some (.builtin "object.__class__")))
    (im2:PySem.W.mroIn K cC (.type "object")=some true)
    (ik2:PySem.W.kitOne K (.ref cC) (.ref cRu)=some true)
    (ia3:PySem.W.findIn K (.ref cL) "__class__" = some (some (.builtin "object.__class__")))
    (im3:PySem.W.mroIn K cL (.type "object")=some true)
    (ik3:PySem.W.kitOne K (.ref cL) (.ref cRu)=some true)
    (ia4:PySem.W.findIn K (.ref cB) "__class__" = some (some (.builtin "object.__class__")))
    (im4:PySem.W.mroIn K cB (.type "object")=some true)
    (ik4:PySem.W.kitOne K (.ref cB) (.ref cRu)=some true)
    (ia5:PySem.W.findIn K (.ref cO) "__class__" = some (some (.builtin "object.__class__")))
    (im5:PySem.W.mroIn K cO (.type "object")=some true)
    (ik5:PySem.W.kitOne K (.ref cO) (.ref cRu)=some true)
    (kS:PySem.W.kitOne K (.type "str") (.ref cRu)=some false)
    (kN:PySem.W.kitOne K (.type "NoneType") (.ref cRu)=some false)
    (kI:PySem.W.kitOne K (.type "int") (.ref cRu)=some false)
    (kL:PySem.W.kitOne K (.type "list") (.ref cRu)=some false)
    (kT:PySem.W.kitOne K (.type "tuple") (.ref cRu)=some false)
    (kB:PySem.W.kitOne K (.type "bool") (.ref cRu)=some false)
    : ∃ fd:FuncData,(∀ (s:Shared) (v:Value),BindsTo s fd ⟨[v],[]⟩ [("_law_script",v)])∧∀ base:Heap,K.In base→base.Ns mainGlobals mg→FnOk l.prog w K mg base CX0 22 fa fd ["_law_script"] (sp_lawS K):=by
  obtain⟨d,rfl,rfl,rfl,rfl,rfl,rfl,rfl,rfl,rfl,rfl,rfl,rfl,rfl,rfl,rfl⟩:∃ d:Nat→Addr,d 0=c0∧d 1=c1∧d 2=c2∧d 3=c3∧d 4=c4∧d 5=c5∧d 6=c6∧d 7=c7∧d 8=c8∧d 9=c9∧d 10=c10∧d 11=c11∧d 12=c12∧d 13=c13∧d 14=c14:=⟨fun i=>[c0,c1,c2,c3,c4,c5,c6,c7,c8,c9,c10,c11,c12,c13,c14].getD i 0,rfl,rfl,rfl,rfl,rfl,rfl,rfl,rfl,rfl,rfl,rfl,rfl,rfl,rfl,rfl⟩
  obtain⟨fl,fdl,al,Fl⟩:=f_law
  have e:=hfa.symm.trans (PySem.W.mg_of X G al)
  cases e
  have k5:KdOf K d (d 5) 5:=⟨X5,v5,k5_0,k5_1,k5_2,k5_3,k5_4,k5_5,k5_6,k5_7,k5_8,k5_9,k5_10,k5_11,k5_12,k5_13,k5_14⟩
  have N_WAYS:Tps K mg "WAYS" ["down","up","near","even"]:=s1.mg X G
  have N_NO_RULE_NAMES:Tps K mg "NO_RULE_NAMES" ["base","net","month","sums"]:=s2.mg X G
  have GL:Glb mg:=⟨PySem.W.mg_none_of X G b_isinstance,PySem.W.mg_none_of X G b_int,PySem.W.mg_none_of X G b_bool,PySem.W.mg_none_of X G b_str,PySem.W.mg_none_of X G b_len,PySem.W.mg_none_of X G b_range,PySem.W.mg_none_of X G b_ValueError,PySem.W.mg_none_of X G b_list,PySem.W.mg_none_of X G b_tuple,PySem.W.mg_none_of X G b_dict,PySem.W.mg_none_of X G b_set,PySem.W.mg_none_of X G b_all,PySem.W.mg_none_of X G b_any,PySem.W.mg_none_of X G b_sum,PySem.W.mg_none_of X G b_sorted,PySem.W.mg_none_of X G b_abs,PySem.W.mg_none_of X G b_max,PySem.W.mg_none_of X G b_min,PySem.W.mg_none_of X G b_zip,PySem.W.mg_none_of X G b_enumerate,PySem.W.mg_none_of X G b_reversed⟩
  have KD:Kds mg d:=⟨PySem.W.mg_of X G n0,PySem.W.mg_of X G n1,PySem.W.mg_of X G n2,PySem.W.mg_of X G n3,PySem.W.mg_of X G n4,PySem.W.mg_of X G n5,PySem.W.mg_of X G n6,PySem.W.mg_of X G n7,PySem.W.mg_of X G n8,PySem.W.mg_of X G n9,PySem.W.mg_of X G n10,PySem.W.mg_of X G n11,PySem.W.mg_of X G n12,PySem.W.mg_of X G n13,PySem.W.mg_of X G n14⟩
  have mgR:mg "RollError" = some (.ref cR):=PySem.W.mg_of X G nR
  have ER5:Er K mg "BadRule" (d 5):=⟨PySem.W.mg_of X G n5,x5⟩
  have RZ5:Rz K d cR 5:=⟨e5,k5⟩
  have N_MOST_SIGNS:Num mg "MOST_SIGNS" 8:=⟨t0,PySem.W.mg_of X G gc0⟩
  have N_MOST_PARTS:Num mg "MOST_PARTS" 20000:=⟨t1,PySem.W.mg_of X G gc1⟩
  have N_MOST_AMOUNT:Num mg "MOST_AMOUNT" 1000000000000:=⟨t2,PySem.W.mg_of X G gc2⟩
  have N_MOST_BANDS:Num mg "MOST_BANDS" 12:=⟨t3,PySem.W.mg_of X G gc3⟩
  have N_MOST_DEPTH:Num mg "MOST_DEPTH" 3:=⟨t4,PySem.W.mg_of X G gc4⟩
  have N_LETTERS:Pg.Txt mg "LETTERS" "abcdefghijklmnopqrstuvwxyz":=⟨_,PySem.W.mg_of X G s0⟩
  have bl:=Fl.binds (ps:=["_law_script"]) (fun _ _ _ _ _ _ us hl=>by obtain⟨a,rfl⟩:=ulen1 hl;rfl)
  refine⟨fdl,fun s v=>?_,fun base _ _=>?_⟩
  · obtain⟨oc,od,kV,doc,pm,an,cdv,ct,osl,rfl,lk,hcd⟩:=Fl.ex
    exact .of_eq rfl
  have KL_Rule:Cls K cRu:=⟨q1_Rule,q2_Rule,q3_Rule,q4_Rule⟩
  have mg_Rule:mg "Rule" = some (.ref cRu):=PySem.W.mg_of X G q_Rule
  have KL_Flat:Cls K cF:=⟨q1_Flat,q2_Flat,q3_Flat,q4_Flat⟩
  have mg_Flat:mg "Flat" = some (.ref cF):=PySem.W.mg_of X G q_Flat
  have KL_Share:Cls K cS:=⟨q1_Share,q2_Share,q3_Share,q4_Share⟩
  have mg_Share:mg "Share" = some (.ref cS):=PySem.W.mg_of X G q_Share
  have KL_Capped:Cls K cC:=⟨q1_Capped,q2_Capped,q3_Capped,q4_Capped⟩
  have mg_Capped:mg "Capped" = some (.ref cC):=PySem.W.mg_of X G q_Capped
  have KL_Least:Cls K cL:=⟨q1_Least,q2_Least,q3_Least,q4_Least⟩
  have mg_Least:mg "Least" = some (.ref cL):=PySem.W.mg_of X G q_Least
  have KL_Bands:Cls K cB:=⟨q1_Bands,q2_Bands,q3_Bands,q4_Bands⟩
  have mg_Bands:mg "Bands" = some (.ref cB):=PySem.W.mg_of X G q_Bands
  have KL_OnTop:Cls K cO:=⟨q1_OnTop,q2_OnTop,q3_OnTop,q4_OnTop⟩
  have mg_OnTop:mg "OnTop" = some (.ref cO):=PySem.W.mg_of X G q_OnTop
  obtain⟨Cs,rfl,rfl,rfl,rfl,rfl,rfl⟩:∃ Cs:Nat→Addr,Cs 0=cF∧Cs 1=cS∧Cs 2=cC∧Cs 3=cL∧Cs 4=cB∧Cs 5=cO:=⟨fun i=>[cF,cS,cC,cL,cB,cO].getD i 0,rfl,rfl,rfl,rfl,rfl,rfl⟩
  have RK:RulK K Cs:=⟨four KL_Flat KL_Share KL_Capped KL_Least,four (six a_Flat_name a_Flat_amount a_Flat_parts a_Flat_way a_Flat_most a_Flat_least) (six a_Share_name a_Share_amount a_Share_parts a_Share_way a_Share_most a_Share_least) (six a_Capped_name a_Capped_amount a_Capped_parts a_Capped_way a_Capped_most a_Capped_least) (six a_Least_name a_Least_amount a_Least_parts a_Least_way a_Least_most a_Least_least)⟩
  have RX4:RulX K (Cs 4):=⟨KL_Bands,five a_Bands_name a_Bands_bands a_Bands_way a_Bands_parts a_Bands_within⟩
  have RX5:RulX K (Cs 5):=⟨KL_OnTop,five a_OnTop_name a_OnTop_bands a_OnTop_way a_OnTop_parts a_OnTop_within⟩
  have RJ:RulJ K Cs cRu:=⟨six6 ia0 ia1 ia2 ia3 ia4 ia5,ihn,itk,six6 im0 im1 im2 im3 im4 im5,six6 ik0 ik1 ik2 ik3 ik4 ik5,six6 KL_Flat KL_Share KL_Capped KL_Least KL_Bands KL_OnTop,ne_of_beq neSO⟩
  have KT:KtR K cRu:=⟨kS,kN,kI,kL,kT,kB⟩
  have C1:=f_is_number.cal (P:=l.prog) (w:=w) (base:=base) (ps:=["thing"]) X G (fun _ _ _ _ _ _ us hl=>by obtain⟨a,rfl⟩:=ulen1 hl;rfl) fun f fd F=>ok_is_number F GL
  have C2:=f_is_number_within.cal (P:=l.prog) (w:=w) (base:=base) (ps:=["thing","least","most"]) X G (fun _ _ _ _ _ _ us hl=>by obtain⟨a,b,c,rfl⟩:=ulen3 hl;rfl) fun f fd F=>ok_within F C1
  have C3:=f_is_parts.cal (P:=l.prog) (w:=w) (base:=base) (ps:=["thing"]) X G (fun _ _ _ _ _ _ us hl=>by obtain⟨a,rfl⟩:=ulen1 hl;rfl) fun f fd F=>ok_parts0 F N_MOST_PARTS C2
  have C4:=f_is_way.cal (P:=l.prog) (w:=w) (base:=base) (ps:=["thing"]) X G (fun _ _ _ _ _ _ us hl=>by obtain⟨a,rfl⟩:=ulen1 hl;rfl) fun f fd F=>ok_way0 F GL N_WAYS
  have C11:=f_is_word_of.cal (P:=l.prog) (w:=w) (base:=base) (ps:=["thing","signs"]) X G (fun _ _ _ _ _ _ us hl=>by obtain⟨a,b,rfl⟩:=ulen2 hl;rfl) fun f fd F=>ok_word F GL N_MOST_SIGNS
  have C12:=f_is_name.cal (P:=l.prog) (w:=w) (base:=base) (ps:=["thing"]) X G (fun _ _ _ _ _ _ us hl=>by obtain⟨a,rfl⟩:=ulen1 hl;rfl) fun f fd F=>ok_name F N_LETTERS C11
  have C13:=f_is_rule_name.cal (P:=l.prog) (w:=w) (base:=base) (ps:=["thing"]) X G (fun _ _ _ _ _ _ us hl=>by obtain⟨a,rfl⟩:=ulen1 hl;rfl) fun f fd F=>ok_rname0 F N_NO_RULE_NAMES C12
  have C14:=f_is_rule_amount.cal (P:=l.prog) (w:=w) (base:=base) (ps:=["thing"]) X G (fun _ _ _ _ _ _ us hl=>by obtain⟨a,rfl⟩:=ulen1 hl;rfl) fun f fd F=>ok_ramt0 F N_MOST_AMOUNT C2
  have C15:=f_need_rule_amount.cal (P:=l.prog) (w:=w) (base:=base) (ps:=["thing"]) X G (fun _ _ _ _ _ _ us hl=>by obtain⟨a,rfl⟩:=ulen1 hl;rfl) fun f fd F=>ok_needR0 F C14
  have C16:=f_need_share.cal (P:=l.prog) (w:=w) (base:=base) (ps:=["parts","way"]) X G (fun _ _ _ _ _ _ us hl=>by obtain⟨a,b,rfl⟩:=ulen2 hl;rfl) fun f fd F=>ok_needS0 F C3 C4
  have C18:=f_rise.cal (P:=l.prog) (w:=w) (base:=base) (ps:=["things"]) X G (fun _ _ _ _ _ _ us hl=>by obtain⟨a,rfl⟩:=ulen1 hl;rfl) fun f fd F=>ok_rise0 F GL
  have C19:=f_is_band.cal (P:=l.prog) (w:=w) (base:=base) (ps:=["thing"]) X G (fun _ _ _ _ _ _ us hl=>by obtain⟨a,rfl⟩:=ulen1 hl;rfl) fun f fd F=>ok_band0 F GL C14 C3
  have C20:=f_are_bands.cal (P:=l.prog) (w:=w) (base:=base) (ps:=["thing"]) X G (fun _ _ _ _ _ _ us hl=>by obtain⟨a,rfl⟩:=ulen1 hl;rfl) fun f fd F=>ok_bands0 F GL N_MOST_BANDS C19 C18
  have R0:=m_Rule___init__.calC (P:=l.prog) (w:=w) (mg:=mg) (base:=base) (ps:=["self","name"]) sn_Rule___init__ mg_Rule (fun _ _ _ _ _ _ us hl=>by obtain⟨a,b,rfl⟩:=ulen2 hl;rfl) fun f fd F=>ok_rinitX F C13
  have R1:=R0.imp (rinit_to RK)
  have I0:=m_Flat___init__.cal (P:=l.prog) (w:=w) (mg:=mg) (base:=base) (ps:=["self","name","amount"]) mg_Flat (fun _ _ _ _ _ _ us hl=>by obtain⟨a,b,c,rfl⟩:=ulen3 hl;rfl) fun f fd F=>ok_kinit0 F RK R1 C15
  have I1:=m_Share___init__.cal (P:=l.prog) (w:=w) (mg:=mg) (base:=base) (ps:=["self","name","parts","way"]) mg_Share (fun _ _ _ _ _ _ us hl=>by obtain⟨a,b,c,d,rfl⟩:=ulen4 hl;rfl) fun f fd F=>ok_kinit1 F RK R1 C16
  have I2:=m_Capped___init__.cal (P:=l.prog) (w:=w) (mg:=mg) (base:=base) (ps:=["self","name","parts","most","way"]) mg_Capped (fun _ _ _ _ _ _ us hl=>by obtain⟨a,b,c,d,e,rfl⟩:=ulen5 hl;rfl) fun f fd F=>ok_kinit2 F RK R1 C16 C15
  have I3:=m_Least___init__.cal (P:=l.prog) (w:=w) (mg:=mg) (base:=base) (ps:=["self","name","parts","least","way"]) mg_Least (fun _ _ _ _ _ _ us hl=>by obtain⟨a,b,c,d,e,rfl⟩:=ulen5 hl;rfl) fun f fd F=>ok_kinit3 F RK R1 C16 C15
  have I4:=m_Bands___init__.cal (P:=l.prog) (w:=w) (mg:=mg) (base:=base) (ps:=["self","name","rows","way"]) mg_Bands (fun _ _ _ _ _ _ us hl=>by obtain⟨a,b,c,d,rfl⟩:=ulen4 hl;rfl) fun f fd F=>ok_binit F GL RX4 R0 C20 C4
  have E0:=m_Flat_depth.cal (P:=l.prog) (w:=w) (mg:=mg) (base:=base) (ps:=["self"]) KL_Flat (fun _ _ _ _ _ _ us hl=>by obtain⟨a,rfl⟩:=ulen1 hl;rfl) fun f fd F=>ok_depR (Cs:=Cs) (d:=3) (k:=0) (by decide) F
  have E1:=m_Share_depth.cal (P:=l.prog) (w:=w) (mg:=mg) (base:=base) (ps:=["self"]) KL_Share (fun _ _ _ _ _ _ us hl=>by obtain⟨a,rfl⟩:=ulen1 hl;rfl) fun f fd F=>ok_depR (Cs:=Cs) (d:=3) (k:=1) (by decide) F
  have E2:=m_Capped_depth.cal (P:=l.prog) (w:=w) (mg:=mg) (base:=base) (ps:=["self"]) KL_Capped (fun _ _ _ _ _ _ us hl=>by obtain⟨a,rfl⟩:=ulen1 hl;rfl) fun f fd F=>ok_depR (Cs:=Cs) (d:=3) (k:=2) (by decide) F
  have E3:=m_Least_depth.cal (P:=l.prog) (w:=w) (mg:=mg) (base:=base) (ps:=["self"]) KL_Least (fun _ _ _ _ _ _ us hl=>by obtain⟨a,rfl⟩:=ulen1 hl;rfl) fun f fd F=>ok_depR (Cs:=Cs) (d:=3) (k:=3) (by decide) F
  have E4:=m_Bands_depth.cal (P:=l.prog) (w:=w) (mg:=mg) (base:=base) (ps:=["self"]) KL_Bands (fun _ _ _ _ _ _ us hl=>by obtain⟨a,rfl⟩:=ulen1 hl;rfl) fun f fd F=>ok_depR (Cs:=Cs) (d:=3) (k:=4) (by decide) F
  have E50:=m_OnTop_depth.cal (P:=l.prog) (w:=w) (mg:=mg) (base:=base) (ps:=["self"]) KL_OnTop (fun _ _ _ _ _ _ us hl=>by obtain⟨a,rfl⟩:=ulen1 hl;rfl) fun f fd F=>ok_dep50 (Cs:=Cs) (j:=1)
  have ME0:=md_mk E0 E1 E2 E3 E4 (d:=0) (by decide) (by decide) E50
  have E51:=m_OnTop_depth.cal (P:=l.prog) (w:=w) (mg:=mg) (base:=base) (ps:=["self"]) KL_OnTop (fun _ _ _ _ _ _ us hl=>by obtain⟨a,rfl⟩:=ulen1 hl;rfl) fun f fd F=>ok_dep5 F RX5 ME0
  have ME1:=md_mk E0 E1 E2 E3 E4 (d:=1) (by decide) (by decide) E51
  have E52:=m_OnTop_depth.cal (P:=l.prog) (w:=w) (mg:=mg) (base:=base) (ps:=["self"]) KL_OnTop (fun _ _ _ _ _ _ us hl=>by obtain⟨a,rfl⟩:=ulen1 hl;rfl) fun f fd F=>ok_dep5 F RX5 ME1
  have ME2:=md_mk E0 E1 E2 E3 E4 (d:=2) (by decide) (by decide) E52
  have E53:=m_OnTop_depth.cal (P:=l.prog) (w:=w) (mg:=mg) (base:=base) (ps:=["self"]) KL_OnTop (fun _ _ _ _ _ _ us hl=>by obtain⟨a,rfl⟩:=ulen1 hl;rfl) fun f fd F=>ok_dep5 F RX5 ME2
  have T0:=m_Flat_twin.cal (P:=l.prog) (w:=w) (mg:=mg) (base:=base) (ps:=["self"]) KL_Flat (fun _ _ _ _ _ _ us hl=>by obtain⟨a,rfl⟩:=ulen1 hl;rfl) fun f fd F=>ok_twin0 (d:=3) F RK I0
  have T1:=m_Share_twin.cal (P:=l.prog) (w:=w) (mg:=mg) (base:=base) (ps:=["self"]) KL_Share (fun _ _ _ _ _ _ us hl=>by obtain⟨a,rfl⟩:=ulen1 hl;rfl) fun f fd F=>ok_twin1 (d:=3) F RK I1
  have T2:=m_Capped_twin.cal (P:=l.prog) (w:=w) (mg:=mg) (base:=base) (ps:=["self"]) KL_Capped (fun _ _ _ _ _ _ us hl=>by obtain⟨a,rfl⟩:=ulen1 hl;rfl) fun f fd F=>ok_twin2 (d:=3) F RK I2
  have T3:=m_Least_twin.cal (P:=l.prog) (w:=w) (mg:=mg) (base:=base) (ps:=["self"]) KL_Least (fun _ _ _ _ _ _ us hl=>by obtain⟨a,rfl⟩:=ulen1 hl;rfl) fun f fd F=>ok_twin3 (d:=3) F RK I3
  have T4:=m_Bands_twin.cal (P:=l.prog) (w:=w) (mg:=mg) (base:=base) (ps:=["self"]) KL_Bands (fun _ _ _ _ _ _ us hl=>by obtain⟨a,rfl⟩:=ulen1 hl;rfl) fun f fd F=>ok_twin4 (d:=3) F RX4 I4
  have T50:=m_OnTop_twin.cal (P:=l.prog) (w:=w) (mg:=mg) (base:=base) (ps:=["self"]) KL_OnTop (fun _ _ _ _ _ _ us hl=>by obtain⟨a,rfl⟩:=ulen1 hl;rfl) fun f fd F=>ok_twin50 (Cs:=Cs) (j:=8)
  have MT0:=mt_mk T0 T1 T2 T3 T4 (d:=0) (by decide) (by decide) T50
  have I50:=m_OnTop___init__.cal (P:=l.prog) (w:=w) (mg:=mg) (base:=base) (ps:=["self","name","parts","way","rule"]) mg_OnTop (fun _ _ _ _ _ _ us hl=>by obtain⟨a,b,c,d,e,rfl⟩:=ulen5 hl;rfl) fun f fd F=>ok_oinit F GL RX5 RJ mg_Rule N_MOST_DEPTH (by decide) (by decide) R0 C16 MT0 (E51.mono (by decide))
  have T51:=m_OnTop_twin.cal (P:=l.prog) (w:=w) (mg:=mg) (base:=base) (ps:=["self"]) KL_OnTop (fun _ _ _ _ _ _ us hl=>by obtain⟨a,rfl⟩:=ulen1 hl;rfl) fun f fd F=>ok_twin5 F RX5 I50
  have MT1:=mt_mk T0 T1 T2 T3 T4 (d:=1) (by decide) (by decide) T51
  have I51:=m_OnTop___init__.cal (P:=l.prog) (w:=w) (mg:=mg) (base:=base) (ps:=["self","name","parts","way","rule"]) mg_OnTop (fun _ _ _ _ _ _ us hl=>by obtain⟨a,b,c,d,e,rfl⟩:=ulen5 hl;rfl) fun f fd F=>ok_oinit F GL RX5 RJ mg_Rule N_MOST_DEPTH (by decide) (by decide) R0 C16 MT1 (E52.mono (by decide))
  have T52:=m_OnTop_twin.cal (P:=l.prog) (w:=w) (mg:=mg) (base:=base) (ps:=["self"]) KL_OnTop (fun _ _ _ _ _ _ us hl=>by obtain⟨a,rfl⟩:=ulen1 hl;rfl) fun f fd F=>ok_twin5 F RX5 I51
  have MT2:=mt_mk T0 T1 T2 T3 T4 (d:=2) (by decide) (by decide) T52
  have I52:=m_OnTop___init__.cal (P:=l.prog) (w:=w) (mg:=mg) (base:=base) (ps:=["self","name","parts","way","rule"]) mg_OnTop (fun _ _ _ _ _ _ us hl=>by obtain⟨a,b,c,d,e,rfl⟩:=ulen5 hl;rfl) fun f fd F=>ok_oinit F GL RX5 RJ mg_Rule N_MOST_DEPTH (by decide) (by decide) R0 C16 MT2 (E53.mono (by decide))
  have I5:=I52.mono (k:=16) (by decide)
  have ME3:=md_mk E0 E1 E2 E3 E4 (d:=3) (by decide) (by decide) E53
  have E54:=m_OnTop_depth.cal (P:=l.prog) (w:=w) (mg:=mg) (base:=base) (ps:=["self"]) KL_OnTop (fun _ _ _ _ _ _ us hl=>by obtain⟨a,rfl⟩:=ulen1 hl;rfl) fun f fd F=>ok_dep5 F RX5 ME3
  have T53:=m_OnTop_twin.cal (P:=l.prog) (w:=w) (mg:=mg) (base:=base) (ps:=["self"]) KL_OnTop (fun _ _ _ _ _ _ us hl=>by obtain⟨a,rfl⟩:=ulen1 hl;rfl) fun f fd F=>ok_twin5 F RX5 I52
  have MT3:=mt_mk T0 T1 T2 T3 T4 (d:=3) (by decide) (by decide) T53
  have C11B:=f_is_word_of.cal (P:=l.prog) (w:=w) (base:=base) (ps:=["thing","signs"]) X G (fun _ _ _ _ _ _ us hl=>by obtain⟨a,b,rfl⟩:=ulen2 hl;rfl) fun f fd F=>ok_wordB F GL N_MOST_SIGNS
  have C12B:=f_is_name.cal (P:=l.prog) (w:=w) (base:=base) (ps:=["thing"]) X G (fun _ _ _ _ _ _ us hl=>by obtain⟨a,rfl⟩:=ulen1 hl;rfl) fun f fd F=>ok_nameB F N_LETTERS C11B
  have C13B:=f_is_rule_name.cal (P:=l.prog) (w:=w) (base:=base) (ps:=["thing"]) X G (fun _ _ _ _ _ _ us hl=>by obtain⟨a,rfl⟩:=ulen1 hl;rfl) fun f fd F=>ok_rnameB F N_NO_RULE_NAMES C12B
  have C4B:=f_is_way.cal (P:=l.prog) (w:=w) (base:=base) (ps:=["thing"]) X G (fun _ _ _ _ _ _ us hl=>by obtain⟨a,rfl⟩:=ulen1 hl;rfl) fun f fd F=>ok_wayB F GL N_WAYS
  have C3B:=f_is_parts.cal (P:=l.prog) (w:=w) (base:=base) (ps:=["thing"]) X G (fun _ _ _ _ _ _ us hl=>by obtain⟨a,rfl⟩:=ulen1 hl;rfl) fun f fd F=>ok_partsB F N_MOST_PARTS C2
  have C14B:=f_is_rule_amount.cal (P:=l.prog) (w:=w) (base:=base) (ps:=["thing"]) X G (fun _ _ _ _ _ _ us hl=>by obtain⟨a,rfl⟩:=ulen1 hl;rfl) fun f fd F=>ok_ramtB F N_MOST_AMOUNT C2
  have C15E:=f_need_rule_amount.cal (P:=l.prog) (w:=w) (base:=base) (ps:=["thing"]) X G (fun _ _ _ _ _ _ us hl=>by obtain⟨a,rfl⟩:=ulen1 hl;rfl) fun f fd F=>ok_needRE F ER5 C14B
  have C16E:=f_need_share.cal (P:=l.prog) (w:=w) (base:=base) (ps:=["parts","way"]) X G (fun _ _ _ _ _ _ us hl=>by obtain⟨a,b,rfl⟩:=ulen2 hl;rfl) fun f fd F=>ok_needSE F ER5 C3B C4B
  have C19B:=f_is_band.cal (P:=l.prog) (w:=w) (base:=base) (ps:=["thing"]) X G (fun _ _ _ _ _ _ us hl=>by obtain⟨a,rfl⟩:=ulen1 hl;rfl) fun f fd F=>ok_bandB F GL C14B C3B
  have C18B:=f_rise.cal (P:=l.prog) (w:=w) (base:=base) (ps:=["things"]) X G (fun _ _ _ _ _ _ us hl=>by obtain⟨a,rfl⟩:=ulen1 hl;rfl) fun f fd F=>ok_riseB F GL
  have C20B:=f_are_bands.cal (P:=l.prog) (w:=w) (base:=base) (ps:=["thing"]) X G (fun _ _ _ _ _ _ us hl=>by obtain⟨a,rfl⟩:=ulen1 hl;rfl) fun f fd F=>ok_bandsB F GL N_MOST_BANDS C19B C18B
  have R0E:=m_Rule___init__.calC (P:=l.prog) (w:=w) (mg:=mg) (base:=base) (ps:=["self","name"]) sn_Rule___init__ mg_Rule (fun _ _ _ _ _ _ us hl=>by obtain⟨a,b,rfl⟩:=ulen2 hl;rfl) fun f fd F=>ok_rinitE F ER5 C13B
  have I0E:=m_Flat___init__.cal (P:=l.prog) (w:=w) (mg:=mg) (base:=base) (ps:=["self","name","amount"]) mg_Flat (fun _ _ _ _ _ _ us hl=>by obtain⟨a,b,c,rfl⟩:=ulen3 hl;rfl) fun f fd F=>ok_kinitE0 F RK R0E C15E
  have I1E:=m_Share___init__.cal (P:=l.prog) (w:=w) (mg:=mg) (base:=base) (ps:=["self","name","parts","way"]) mg_Share (fun _ _ _ _ _ _ us hl=>by obtain⟨a,b,c,d,rfl⟩:=ulen4 hl;rfl) fun f fd F=>ok_kinitE1 F RK R0E C16E
  have I2E:=m_Capped___init__.cal (P:=l.prog) (w:=w) (mg:=mg) (base:=base) (ps:=["self","name","parts","most","way"]) mg_Capped (fun _ _ _ _ _ _ us hl=>by obtain⟨a,b,c,d,e,rfl⟩:=ulen5 hl;rfl) fun f fd F=>ok_kinitE2 F RK R0E C16E C15E
  have I3E:=m_Least___init__.cal (P:=l.prog) (w:=w) (mg:=mg) (base:=base) (ps:=["self","name","parts","least","way"]) mg_Least (fun _ _ _ _ _ _ us hl=>by obtain⟨a,b,c,d,e,rfl⟩:=ulen5 hl;rfl) fun f fd F=>ok_kinitE3 F RK R0E C16E C15E
  have I4E:=m_Bands___init__.cal (P:=l.prog) (w:=w) (mg:=mg) (base:=base) (ps:=["self","name","rows","way"]) mg_Bands (fun _ _ _ _ _ _ us hl=>by obtain⟨a,b,c,d,rfl⟩:=ulen4 hl;rfl) fun f fd F=>ok_binitE F ER5 RX4 R0E C20B C4B
  have I5E:=m_OnTop___init__.cal (P:=l.prog) (w:=w) (mg:=mg) (base:=base) (ps:=["self","name","parts","way","rule"]) mg_OnTop (fun _ _ _ _ _ _ us hl=>by obtain⟨a,b,c,d,e,rfl⟩:=ulen5 hl;rfl) fun f fd F=>ok_oinitE F GL ER5 RX5 RJ mg_Rule N_MOST_DEPTH (by decide) R0E C16E MT3 (E54.mono (by decide))
  have D1:=f__law_cell_at.cal (P:=l.prog) (w:=w) (base:=base) (ps:=["_law_script","_law_k"]) X G (fun _ _ _ _ _ _ us hl=>by obtain⟨a,b,rfl⟩:=ulen2 hl;rfl) fun f fd F=>ok_cell_at F GL
  have D2:=f__law_mixed.cal (P:=l.prog) (w:=w) (base:=base) (ps:=["_law_cell","_law_k"]) X G (fun _ _ _ _ _ _ us hl=>by obtain⟨a,b,rfl⟩:=ulen2 hl;rfl) fun f fd F=>ok_mixR F
  have D4:=f__law_amount.cal (P:=l.prog) (w:=w) (base:=base) (ps:=["_law_cell","_law_k"]) X G (fun _ _ _ _ _ _ us hl=>by obtain⟨a,b,rfl⟩:=ulen2 hl;rfl) fun f fd F=>ok_amtR F D2
  have D6:=f__law_names.cal (P:=l.prog) (w:=w) (base:=base) (ps:=["_law_cell","_law_many"]) X G (fun _ _ _ _ _ _ us hl=>by obtain⟨a,b,rfl⟩:=ulen2 hl;rfl) fun f fd F=>ok_namR F GL D2
  have D7:=f__law_parts.cal (P:=l.prog) (w:=w) (base:=base) (ps:=["_law_cell","_law_k"]) X G (fun _ _ _ _ _ _ us hl=>by obtain⟨a,b,rfl⟩:=ulen2 hl;rfl) fun f fd F=>ok_prtR F D2
  have D8:=f__law_way.cal (P:=l.prog) (w:=w) (base:=base) (ps:=["_law_cell","_law_k"]) X G (fun _ _ _ _ _ _ us hl=>by obtain⟨a,b,rfl⟩:=ulen2 hl;rfl) fun f fd F=>ok_wayR F D2
  have D9:=f__law_pairs.cal (P:=l.prog) (w:=w) (base:=base) (ps:=["_law_cell"]) X G (fun _ _ _ _ _ _ us hl=>by obtain⟨a,rfl⟩:=ulen1 hl;rfl) fun f fd F=>ok_prsR F GL D2 D7
  have D10:=f__law_plain.cal (P:=l.prog) (w:=w) (base:=base) (ps:=["_law_cell","_law_name","_law_kind"]) X G (fun _ _ _ _ _ _ us hl=>by obtain⟨a,b,c,rfl⟩:=ulen3 hl;rfl) fun f fd F=>ok_plnG F D4 D7 D8 D9
  have M0:=f__law_made.cal (P:=l.prog) (w:=w) (base:=base) (ps:=["_law_rule_here"]) X G (fun _ _ _ _ _ _ us hl=>by obtain⟨a,rfl⟩:=ulen1 hl;rfl) fun f fd F=>ok_madN0 (Cs:=Cs) (j:=17)
  have M1:=f__law_made.cal (P:=l.prog) (w:=w) (base:=base) (ps:=["_law_rule_here"]) X G (fun _ _ _ _ _ _ us hl=>by obtain⟨a,rfl⟩:=ulen1 hl;rfl) fun f fd F=>ok_madN (by decide) (by decide) F M0 I0 I1 I2 I3 I4 I5
  have MdE:=f__law_made.cal (P:=l.prog) (w:=w) (base:=base) (ps:=["_law_rule_here"]) X G (fun _ _ _ _ _ _ us hl=>by obtain⟨a,rfl⟩:=ulen1 hl;rfl) fun f fd F=>ok_madE (j:=17) (by decide) F I0E I1E I2E I3E I4E
  have Wd:=f__law_word.calQ (P:=l.prog) (w:=w) (base:=base) (ps:=["_law_e"]) X G (fun _ _ _ _ _ _ us hl=>by obtain⟨a,rfl⟩:=ulen1 hl;rfl) fun f fd F=>ok_wdR F GL KD
  have O1:=f__law_odd_name.cal (P:=l.prog) (w:=w) (base:=base) (ps:=["_law_number"]) X G (fun _ _ _ _ _ _ us hl=>by obtain⟨a,rfl⟩:=ulen1 hl;rfl) fun f fd F=>ok_oddNm F
  have O2:=f__law_odd_number.cal (P:=l.prog) (w:=w) (base:=base) (ps:=["_law_number","_law_most"]) X G (fun _ _ _ _ _ _ us hl=>by obtain⟨a,b,rfl⟩:=ulen2 hl;rfl) fun f fd F=>ok_oddNu F
  have O3:=f__law_odd_way.cal (P:=l.prog) (w:=w) (base:=base) (ps:=["_law_number"]) X G (fun _ _ _ _ _ _ us hl=>by obtain⟨a,rfl⟩:=ulen1 hl;rfl) fun f fd F=>ok_oddWy F
  have O4:=f__law_odd_bands.cal (P:=l.prog) (w:=w) (base:=base) (ps:=["_law_pairs_here","_law_number"]) X G (fun _ _ _ _ _ _ us hl=>by obtain⟨a,b,rfl⟩:=ulen2 hl;rfl) fun f fd F=>ok_oddBd F GL O2
  have Spo:=f__law_spoilt.cal (P:=l.prog) (w:=w) (base:=base) (ps:=["_law_rule_here","_law_place","_law_number"]) X G (fun _ _ _ _ _ _ us hl=>by obtain⟨a,b,c,rfl⟩:=ulen3 hl;rfl) fun f fd F=>ok_spo F GL O1 O3 O4 O2
  have TdG:=f__law_told.cal (P:=l.prog) (w:=w) (base:=base) (ps:=["_law_rule_here","_law_within"]) X G (fun _ _ _ _ _ _ us hl=>by obtain⟨a,b,rfl⟩:=ulen2 hl;rfl) fun f fd F=>ok_tdG (j:=19) (by decide) F (six6 KL_Flat KL_Share KL_Capped KL_Least KL_Bands KL_OnTop) (six6 a_Flat_name a_Share_name a_Capped_name a_Least_name a_Bands_name a_OnTop_name) M1 I5
  have TdE:=f__law_told.cal (P:=l.prog) (w:=w) (base:=base) (ps:=["_law_rule_here","_law_within"]) X G (fun _ _ _ _ _ _ us hl=>by obtain⟨a,b,rfl⟩:=ulen2 hl;rfl) fun f fd F=>ok_tdE (j:=19) (by decide) F mgR RZ5 (six6 KL_Flat KL_Share KL_Capped KL_Least KL_Bands KL_OnTop) (six6 a_Flat_name a_Share_name a_Capped_name a_Least_name a_Bands_name a_OnTop_name) MdE I5E Wd
  have Ir:=f__law_is_refused.cal (P:=l.prog) (w:=w) (base:=base) (ps:=["_law_rule_here","_law_within","_law_number"]) X G (fun _ _ _ _ _ _ us hl=>by obtain⟨a,b,c,rfl⟩:=ulen3 hl;rfl) fun f fd F=>ok_isRef (j:=20) (by decide) F GL KT I0 I5 TdE Spo
  exact ok_law Fl GL D1 D2 D6 D10 D7 D8 I0 I5 TdG Ir
theorem walk {l:PySem.W.OpenLaw} {q:Program} {loose:List Str} {XP:(Str→Option Value)→Heap→Prop} {YP:World→Heap→Prop} {d:DefRec} {K:Params→PySem.W.Frag} (hn:l.most=some 63) (hdf:d.params.defaults=[])
    (hY:∀ (w:World) (h:Heap),YP w h→(K w.params).In h)
    (F:∀ (w:World) (mg:Str→Option Value) (fa:Addr) (h:Heap),(K w.params).In h→h.Ns mainGlobals mg→mg d.name=some (.ref fa) →
      ∃ fd:FuncData,(∀ (s:Shared) (u:Value),BindsTo s fd ⟨[u],[]⟩ [("_law_script",u)])∧∀ base:Heap,(K w.params).In base→base.Ns mainGlobals mg→FnOk l.prog w (K w.params) mg base CX0 22 fa fd ["_law_script"] (sp_lawS (K w.params))) :
    PySem.W.WalkO q loose XP YP l.row.toRowW d [] (fun f vs=>PySem.call f vs) :=
  L2.walk_of (n:=63) (k:=22) (x:="_law_script") (CX:=fun _=>CX0) (sp:=fun w=>(sp_lawS (K w.params))) hn (by decide) hdf ⟨rfl,by decide,by decide⟩ hY F (fun _ _ a ns hl _ hS=>⟨a,ns,rfl,hS,fun _=>rfl⟩) fun _ _ _ _ _ z=>z
end K09
set_option maxHeartbeats 0
namespace K09
open PySem PySem.W PySem.Calls PyProof.Rows L2
theorem hDef:(defOf hQ "law").isSome=true:=by kernel_rfl
noncomputable def hD:DefRec:=((defOf hQ "law").get hDef).1
theorem hWalk:WalkO hQ [] (XL hQ []) (FactsIn hSee hWant) (PySem.Challenge.rw_coinroll_k09_makings_refused).row.toRowW hD [] (fun f vs=>PySem.call f vs):=by
  refine walk_ex fun K e=>?_
  have hF:hFs.map (fun x=>fnSeen K (nsIn K mainGlobals x.1))=hFs.map (fun x=>fnWant x.1 x.1 (top x.2)):=congrArg Prod.fst e
  have hM:hMs.map (fun x=>fnSeen K (findIn K (.ref x.1) x.2.1))=hMs.map (fun x=>fnWant x.2.1 x.2.2.1 (inClass (top x.2.2.2.1) x.2.2.2.2)):=congrArg (fun z=>z.2.1) e
  have hB:(hYes K).all id=true:=congrArg (fun z=>z.2.2) e
  obtain⟨t0,gc0⟩:=int_of (all_get hB 16 rfl)
  obtain⟨t1,gc1⟩:=int_of (all_get hB 17 rfl)
  obtain⟨t2,gc2⟩:=int_of (all_get hB 18 rfl)
  obtain⟨t3,gc3⟩:=int_of (all_get hB 19 rfl)
  obtain⟨t4,gc4⟩:=int_of (all_get hB 20 rfl)
  obtain⟨u0,s0⟩:=str_of (all_get hB 21 rfl)
  refine walk (l:=PySem.Challenge.rw_coinroll_k09_makings_refused) (K:=fun _=>K) rfl (by kernel_rfl) (fun w h Y=>Y) ?_
  intro w mg fa h KX G hmg
  exact law_fn KX G hmg (fnAt_seen (map_get hF 0 rfl)) (fnAt_seen (map_get hF 1 rfl)) (fnAt_seen (map_get hF 2 rfl)) (fnAt_seen (map_get hF 3 rfl)) (fnAt_seen (map_get hF 4 rfl)) (fnAt_seen (map_get hF 5 rfl)) (fnAt_seen (map_get hF 6 rfl)) (fnAt_seen (map_get hF 7 rfl)) (fnAt_seen (map_get hF 8 rfl)) (fnAt_seen (map_get hF 9 rfl)) (fnAt_seen (map_get hF 10 rfl)) (fnAt_seen (map_get hF 11 rfl)) (fnAt_seen (map_get hF 12 rfl)) (fnAt_seen (map_get hF 13 rfl)) (fnAt_seen (map_get hF 14 rfl)) (fnAt_seen (map_get hF 15 rfl)) (fnAt_seen (map_get hF 16 rfl)) (fnAt_seen (map_get hF 17 rfl)) (fnAt_seen (map_get hF 18 rfl)) (fnAt_seen (map_get hF 19 rfl)) (fnAt_seen (map_get hF 20 rfl)) (fnAt_seen (map_get hF 21 rfl)) (fnAt_seen (map_get hF 22 rfl)) (fnAt_seen (map_get hF 23 rfl)) (fnAt_seen (map_get hF 24 rfl)) (fnAt_seen (map_get hF 25 rfl)) (fnAt_seen (map_get hF 26 rfl)) (fnAt_seen (map_get hF 27 rfl)) (fnAt_seen (map_get hF 28 rfl)) (fnAt_seen (map_get hF 29 rfl)) (fnAt_seen (map_get hF 30 rfl)) (ref_of (all_get hB 0 rfl)) (ref_of (all_get hB 1 rfl)) (ref_of (all_get hB 2 rfl)) (ref_of (all_get hB 3 rfl)) (ref_of (all_get hB 4 rfl)) (ref_of (all_get hB 5 rfl)) (ref_of (all_get hB 6 rfl)) (ref_of (all_get hB 7 rfl)) (ref_of (all_get hB 8 rfl)) (ref_of (all_get hB 9 rfl)) (ref_of (all_get hB 10 rfl)) (ref_of (all_get hB 11 rfl)) (ref_of (all_get hB 12 rfl)) (ref_of (all_get hB 13 rfl)) (ref_of (all_get hB 14 rfl)) (ref_of (all_get hB 15 rfl)) gc0 gc1 gc2 gc3 gc4 s0 (tup_seen (all_get hB 22 rfl)) (tup_seen (all_get hB 23 rfl)) (no_of (all_get hB 24 rfl)) (no_of (all_get hB 25 rfl)) (no_of (all_get hB 26 rfl)) (no_of (all_get hB 27 rfl)) (no_of (all_get hB 28 rfl)) (no_of (all_get hB 29 rfl)) (no_of (all_get hB 30 rfl)) (no_of (all_get hB 31 rfl)) (no_of (all_get hB 32 rfl)) (no_of (all_get hB 33 rfl)) (no_of (all_get hB 34 rfl)) (no_of (all_get hB 35 rfl)) (no_of (all_get hB 36 rfl)) (no_of (all_get hB 37 rfl)) (no_of (all_get hB 38 rfl)) (no_of (all_get hB 39 rfl)) (no_of (all_get hB 40 rfl)) (no_of (all_get hB 41 rfl)) (no_of (all_get hB 42 rfl)) (no_of (all_get hB 43 rfl)) (no_of (all_get hB 44 rfl)) (all_get hB 45 rfl) (b_of (all_get hB 46 rfl)) (exc_seen (all_get hB 47 rfl)) (b_of (all_get hB 48 rfl)) (b_of (all_get hB 49 rfl)) (b_of (all_get hB 50 rfl)) (b_of (all_get hB 51 rfl)) (b_of (all_get hB 52 rfl)) (b_of (all_get hB 53 rfl)) (b_of (all_get hB 54 rfl)) (b_of (all_get hB 55 rfl)) (b_of (all_get hB 56 rfl)) (b_of (all_get hB 57 rfl)) (b_of (all_get hB 58 rfl)) (b_of (all_get hB 59 rfl)) (b_of (all_get hB 60 rfl)) (b_of (all_get hB 61 rfl)) (b_of (all_get hB 62 rfl)) (b_of (all_get hB 63 rfl)) (ref_of (all_get hB 64 rfl)) (all_get hB 65 rfl) (all_get hB 66 rfl) (all_get hB 67 rfl) (blt_of (all_get hB 68 rfl)) (mtAt_seen (map_get hM 0 rfl)) (all_get hB 69 rfl) (ref_of (all_get hB 70 rfl)) (all_get hB 71 rfl) (all_get hB 72 rfl) (all_get hB 73 rfl) (blt_of (all_get hB 74 rfl)) (no_of (all_get hB 75 rfl)) (no_of (all_get hB 76 rfl)) (no_of (all_get hB 77 rfl)) (no_of (all_get hB 78 rfl)) (no_of (all_get hB 79 rfl)) (no_of (all_get hB 80 rfl)) (nwAt_seen (map_get hM 1 rfl) (all_get hB 81 rfl)) (mtAt_seen (map_get hM 2 rfl)) (mtAt_seen (map_get hM 3 rfl)) (ref_of (all_get hB 82 rfl)) (all_get hB 83 rfl) (all_get hB 84 rfl) (all_get hB 85 rfl) (blt_of (all_get hB 86 rfl)) (no_of (all_get hB 87 rfl)) (no_of (all_get hB 88 rfl)) (no_of (all_get hB 89 rfl)) (no_of (all_get hB 90 rfl)) (no_of (all_get hB 91 rfl)) (no_of (all_get hB 92 rfl)) (nwAt_seen (map_get hM 4 rfl) (all_get hB 93 rfl)) (mtAt_seen (map_get hM 5 rfl)) (mtAt_seen (map_get hM 6 rfl)) (ref_of (all_get hB 94 rfl)) (all_get hB 95 rfl) (all_get hB 96 rfl) (all_get hB 97 rfl) (blt_of (all_get hB 98 rfl)) (no_of (all_get hB 99 rfl)) (no_of (all_get hB 100 rfl)) (no_of (all_get hB 101 rfl)) (no_of (all_get hB 102 rfl)) (no_of (all_get hB 103 rfl)) (no_of (all_get hB 104 rfl)) (nwAt_seen (map_get hM 7 rfl) (all_get hB 105 rfl)) (mtAt_seen (map_get hM 8 rfl)) (mtAt_seen (map_get hM 9 rfl)) (ref_of (all_get hB 106 rfl)) (all_get hB 107 rfl) (all_get hB 108 rfl) (all_get hB 109 rfl) (blt_of (all_get hB 110 rfl)) (no_of (all_get hB 111 rfl)) (no_of (all_get hB 112 rfl)) (no_of (all_get hB 113 rfl)) (no_of (all_get hB 114 rfl)) (no_of (all_get hB 115 rfl)) (no_of (all_get hB 116 rfl)) (nwAt_seen (map_get hM 10 rfl) (all_get hB 117 rfl)) (mtAt_seen (map_get hM 11 rfl)) (mtAt_seen (map_get hM 12 rfl)) (ref_of (all_get hB 118 rfl)) (all_get hB 119 rfl) (all_get hB 120 rfl) (all_get hB 121 rfl) (blt_of (all_get hB 122 rfl)) (no_of (all_get hB 123 rfl)) (no_of (all_get hB 124 rfl)) (no_of (all_get hB 125 rfl)) (no_of (all_get hB 126 rfl)) (no_of (all_get hB 127 rfl)) (nwAt_seen (map_get hM 13 rfl) (all_get hB 128 rfl)) (mtAt_seen (map_get hM 14 rfl)) (mtAt_seen (map_get hM 15 rfl)) (ref_of (all_get hB 129 rfl)) (all_get hB 130 rfl) (all_get hB 131 rfl) (all_get hB 132 rfl) (blt_of (all_get hB 133 rfl)) (no_of (all_get hB 134 rfl)) (no_of (all_get hB 135 rfl)) (no_of (all_get hB 136 rfl)) (no_of (all_get hB 137 rfl)) (no_of (all_get hB 138 rfl)) (nwAt_seen (map_get hM 16 rfl) (all_get hB 139 rfl)) (mtAt_seen (map_get hM 17 rfl)) (mtAt_seen (map_get hM 18 rfl)) (blt_of (all_get hB 140 rfl)) (b_of (all_get hB 141 rfl)) (all_get hB 142 rfl) (blt_of (all_get hB 143 rfl)) (b_of (all_get hB 144 rfl)) (b_of (all_get hB 145 rfl)) (blt_of (all_get hB 146 rfl)) (b_of (all_get hB 147 rfl)) (b_of (all_get hB 148 rfl)) (blt_of (all_get hB 149 rfl)) (b_of (all_get hB 150 rfl)) (b_of (all_get hB 151 rfl)) (blt_of (all_get hB 152 rfl)) (b_of (all_get hB 153 rfl)) (b_of (all_get hB 154 rfl)) (blt_of (all_get hB 155 rfl)) (b_of (all_get hB 156 rfl)) (b_of (all_get hB 157 rfl)) (blt_of (all_get hB 158 rfl)) (b_of (all_get hB 159 rfl)) (b_of (all_get hB 160 rfl)) (b_of (all_get hB 161 rfl)) (b_of (all_get hB 162 rfl)) (b_of (all_get hB 163 rfl)) (b_of (all_get hB 164 rfl)) (b_of (all_get hB 165 rfl)) (b_of (all_get hB 166 rfl))
end K09
open PySem PySem.W PyProof.Rows
set_option maxRecDepth 100000 in
set_option maxHeartbeats 0 in
theorem PySem.Challenge.cw_coinroll_k09_makings_refused_holds : PySem.Challenge.rw_coinroll_k09_makings_refused.Holds := by
  w_on;o_law
  refine' holds_open (q:=K09.hQ) (d:=K09.hD) (kwd:=[]) K09.hLeft ?a1 ?a2 ?a3 XL.keeps ?a4 ?a5 ?a6 ?a7 ?a8 ?a9 ?b1 ?b2 ?b3 K09.hWalk
  case a1=>exact fun w s e=>L2.facts_of w s e
  case a2=>exact L2.facts_keep
  case a3=>exact fun s e=>xl_of s (Bool.and_eq_true_iff.mp e).1
  case a4=>exact L2.def_get K09.hDef (by kernel_rfl)
  case a5=>kernel_rfl
  case a6=>kernel_rfl
  case a7=>exact fun s e=>recFacts_of (Bool.and_eq_true_iff.mp e).2
  case a8=>rfl
  case a9=>assumption
  case b1=>decide +kernel
  case b2=>exact⟨rfl,rfl,rfl,rfl,rfl,by decide +kernel⟩
  case b3=>w_witness2
#print axioms PySem.Challenge.cw_coinroll_k09_makings_refused_holds
