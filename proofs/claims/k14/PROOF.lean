import PyProof.Rows.All
import Wide.All
import OpenK.AllK
import Wide.FinOn
import Lean
import PyProof.EqAt
import PyProof.EqKinds
import PyProof.TupleCall
import PyProof.NeKinds
import PyProof.SumWalkG
import PyProof.EnumMake
import KE.KIntText
import PyProof.StrLawsIn
import PyProof.StrCalls2
import PyProof.Rows.SortRuns
import KE.KSortTup
import KE.KSortKey
import PyProof.StrCalls
import PyProof.ListRange
import KE.IntTextLaws
import KE.IntTextText
import PyProof.Rows.FStr
import PyProof.SetKind
import PyProof.Rows.SetFrom
import PyProof.Walks
import KE.KItemsList
import KE.KDictOf
import PyProof.AttrMissHeap
import PyProof.AutoListH
import PyProof.Rows.ZipGen
import PyProof.Rows.EnumRows
import PyProof.EnumFor
import PyProof.WalksMore
import PyProof.TupleIter
import KE.KRevIter
import PyProof.CollectIter
import PyProof.JoinWalk
import PyProof.Rows.FactsT2
import PyProof.SeqI3
import PyProof.DictWalks
import PyProof.CollectWalk
import PyProof.Rows.SortWalk
import KE.KDictSum
import PySem.Challenge.RW_coinroll_k14_statements
set_option Elab.async false
set_option linter.all false
set_option genSizeOf false
set_option compiler.extract_closed false
set_option maxRecDepth 100000
noncomputable section
abbrev BnN (K:PySem.W.Frag) (x:PySem.Str):Prop:=PySem.W.nsIn K PySem.mainGlobals x=some none
abbrev bK:=@Nat.le_refl
abbrev bM:=@List.length_map
abbrev bN:=@List.mem_cons
abbrev bO:=@List.getElem?_eq_getElem
abbrev bP:=@List.length_append
abbrev bQ:=@PySem.Heap.lt_size
abbrev bR:=@List.getElem?_map
abbrev bS:=@List.not_mem_nil
abbrev bT:=@List.size_toArray
abbrev bU:=@List.getElem?_eq_some_iff
abbrev bV:=@Bool.false_ne_true
abbrev bW:=@PySem.Heap.get?_push_of_some
abbrev bX:=@Option.map_eq_some_iff
abbrev bY:=@List.getElem?_append_right
abbrev bZ:=@List.mem_map
abbrev b5:=@Nat.ne_of_lt
abbrev b6:=@List.map_map
abbrev b7:=@Int.emod_nonneg
abbrev b8:=@Nat.le_of_ble_eq_true
abbrev Bb:=@List.mem_cons_self
abbrev Bc:=@List.map_append
abbrev Bd:=@PySem.Heap.get?_push_size
abbrev Bf:=@List.mem_singleton
abbrev Bg:=@Int.emod_lt_of_pos
abbrev Bh:=@List.length_take
abbrev Bi:=@List.length_cons
abbrev Bj:=@Nat.le_trans
abbrev Bk:=@List.mem_cons_of_mem
abbrev Bl:=@List.getElem?_append_left
abbrev Bm:=@List.length_range
abbrev Bn:=@Bool.and_eq_true
abbrev Bo:=@Nat.zero_le
abbrev Bp:=@List.all_eq_true
abbrev Bq:=@Nat.lt_of_lt_of_le
abbrev Br:=@List.map_cons
abbrev Bs:=@List.append_nil
abbrev Bt:=@List.mem_append
abbrev Bu:=@List.length_singleton
abbrev Bv:=@List.mem_of_getElem?
abbrev Bw:=@Array.length_toList
abbrev Bx:=@List.getD_eq_getElem?_getD
abbrev By:=@List.append_assoc
abbrev Bz:=@List.mem_append_right
abbrev BA:=@Int.toNat_natCast
abbrev BB:=@List.length_reverse
abbrev BC:=@Int.le_refl
abbrev BD:=@List.take_length
abbrev BE:=@Int.mul_nonneg
abbrev BF:=@List.nodup_cons
abbrev BG:=@List.getElem?_eq_none
abbrev BH:=@List.contains_iff_mem
abbrev BI:=@List.take_add_one
abbrev BJ:=@Bool.and_eq_true_iff
abbrev BL:=@Nat.le_of_not_lt
abbrev BM:=@Array.getElem?_eq_some_iff
abbrev BN:=@Bool.eq_iff_iff
abbrev BO:=@List.take_of_length_le
abbrev BP:=@Int.eq_ofNat_of_zero_le
abbrev BQ:=@Nat.min_eq_left
abbrev BR:=@Option.isSome_iff_exists
abbrev BS:=@Bool.false_eq_true
abbrev BU:=@Nat.le_add_right
abbrev BV:=@Nat.zero_add
abbrev BW:=@List.all_cons
abbrev BX:=@Nat.lt_succ_self
abbrev BY:=@List.of_mem_zip
abbrev BZ:=@List.length_drop
abbrev B5:=@Nat.lt_of_le_of_lt
abbrev B6:=@List.find?_cons
abbrev B7:=@List.getElem_mem
abbrev cb:=@Int.zero_add
abbrev ce:=@Bool.true_and
abbrev cf:=@List.foldl_cons
abbrev cg:=@List.nil_append
abbrev ci:=@List.pairwise_cons
abbrev cj:=@List.length_eq_zero_iff
abbrev ck:=@List.ext_getElem?
abbrev cm:=@List.pairwise_iff_getElem
abbrev cn:=@List.set_set
abbrev cp:=@List.mem_iff_getElem?
abbrev cq:=@Nat.sub_self
abbrev cr:=@List.cons_ne_nil
abbrev cu:=@List.mem_filter
abbrev cw:=@List.mem_range
abbrev cx:=@Nat.le_of_lt
abbrev cy:=@List.filterMap_cons
abbrev cz:=@List.mem_append_left
abbrev cA:=@PySem.Heap.size_push
abbrev cD:=@List.any_cons
abbrev cG:=@PySem.Heap.get?_update_other
abbrev cH:=@Nat.add_le_add_left
abbrev cI:=@PySem.Heap.get?_update_self
abbrev cJ:=@Int.natCast_nonneg
abbrev cQ:=@List.dropLast_concat_getLast
abbrev cT:=@List.pairwise_append
abbrev cU:=@Nat.sub_zero
abbrev cV:=@List.nodup_nil
abbrev cW:=@List.getElem_range
abbrev cX:=@Array.toList_inj
abbrev cY:=@List.take_append_drop
abbrev cZ:=@Nat.lt_irrefl
abbrev Ca:=@Nat.ne_of_gt
abbrev Cb:=@Nat.lt_trans
abbrev Cc:=@List.all_map
abbrev Cd:=@Nat.lt_succ_of_lt
abbrev Ce:=@List.cons_append
abbrev Cf:=@List.pairwise_singleton
abbrev Cg:=@List.getElem?_cons_succ
abbrev Ch:=@List.filter_append
abbrev Ci:=@List.getElem_map
abbrev Cj:=@Int.add_zero
abbrev Cl:=@List.mem_of_mem_take
abbrev Cm:=@List.drop_zero
abbrev Cn:=@List.map_congr_left
abbrev Co:=@Array.toList_push
abbrev Cp:=@List.all_append
abbrev Cq:=@Bool.not_eq_true'
abbrev Cr:=@Bool.false_or
abbrev Cu:=@PySem.Heap.get?_none_of_le
abbrev Cv:=@List.getElem?_set_self
abbrev Cw:=@List.take_sublist
abbrev Cy:=@List.length_nil
abbrev Cz:=@Nat.min_eq_right
abbrev CA:=@List.takeWhile_append_dropWhile
abbrev CB:=@List.mem_iff_getElem
abbrev CC:=@List.drop_drop
abbrev CD:=@Option.map_some
abbrev CF:=@List.getElem?_drop
abbrev CG:=@Nat.succ_le_succ
abbrev CH:=@Nat.not_lt_of_le
abbrev CI:=@List.length_tail
abbrev CJ:=@List.pairwise_map
abbrev CK:=@Option.bind_eq_some_iff
abbrev CM:=@List.getElem?_take_of_lt
abbrev CN:=@List.range_succ_eq_map
abbrev CO:=@Array.getElem?_eq_getElem
abbrev CP:=@List.perm_append_singleton
abbrev CQ:=@List.drop_eq_getElem_cons
abbrev CS:=@List.length_eq_one_iff
abbrev CU:=@List.length_erase_of_mem
abbrev CV:=@List.length_pos_of_mem
abbrev CW:=@List.nodup_iff_pairwise_ne
namespace L2
open PySem PySem.W PySem.Calls PyProof.Rows
def Wb (tb:String→Option Builtin) (p:Program) (w:World) (n₀:Nat) (ann:Option Value):Nat→SharedT→Thread→Option SharedT
 | 0,_,_=>none
 | n+1,s,t=>match through t with
  | true=>some s
  | false=>match stepOk n₀ ann t with
   | false=>none
   | true=>match stepT (denote tb) p w s t with
    | some (s',t')=>Wb tb p w n₀ ann n s' t'
    | none=>none
theorem Nk {tb:String→Option Builtin} {p:Program} {w:World} {n₀:Nat} {ann:Option Value} (n:Nat):∀ {s s':SharedT} {t:Thread},Wb tb p w n₀ ann n s t=some s'→topRun tb p w n₀ ann n s.abs t=some s'.abs:=by
 induction n with
 | zero=>intro s s' t h;cases h
 | succ n ih =>
  intro s s' t h
  unfold Wb at h
  unfold topRun
  cases ht:through t with
  | true=>rw[ht] at h;cases h;rfl
  | false =>
   rw[ht] at h
   cases hk:stepOk n₀ ann t with
   | false=>rw[hk] at h;cases h
   | true =>
    rw[hk] at h
    cases hs:stepT (denote tb) p w s t with
    | none=>rw[hs] at h;cases h
    | some r =>
     obtain⟨s₂,t₂⟩:=r
     rw[hs] at h
     rw[stepT_spec hs]
     exact ih h
def oY:List Obj→BT→Nat→Option BT
 | [],t,_=>some t
 | o::l,t,n=>match ((t.ins n o).get n).isSome with
  | true=>oY l (t.ins n o) (n+1)
  | false=>none
theorem LS {life:Life} (l:List Obj):∀ {t t':BT} {n:Nat},oY l t n=some t'→(absHeap t' (n+l.length) life).objs.toList=(absHeap t n life).objs.toList++l:=by
 induction l with
 | nil=>intro t t' n h;cases h;rw[Bs];rfl
 | cons o l ih =>
  intro t t' n h
  unfold oY at h
  cases e:((t.ins n o).get n).isSome with
  | false=>rw[e] at h;cases h
  | true =>
   rw[e] at h
   have:=ih h
   rw[Bi,show n+(l.length+1)=n+1+l.length by omega,this,absHeap_ins e]
   show ((absHeap t n life).objs.push o).toList++l=_
   rw[Co,By]
   rfl
def OD {β:Type} (p:Program) (m:Nat) (ann:Option Value) (M:Nat) (see:Shared→β) (w:World) (os:OsState):Option β :=
 (oY (boot_heap w.params).objs.toList .nil 0).bind fun t=>(Wb treeTable p w m ann M ⟨t,m,(boot_heap w.params).life,Array.mk [],boot_drawn,boot_toks,os⟩ (topStub p)).map fun s=>see s.abs
theorem GW {p q:Program} {loose:List Str} {Xt:Shared→Bool} {α:Type} {Yf:Shared→α} {Ya:World→α} {N M m:Nat} {g0:Bool} {ann:Option Value}
  (e:opening p=plainProg p.main.scope.names) (hN:Nat.ble 600 N=true) (f:∀ s,fenceModules? p s=some s) (le:Nat.ble M N=true)
  (size:∀ w:World,((boot_heap w.params).isNs mainGlobals,(boot_heap w.params).objs.toList.length,(boot_heap w.params).nsMap mainGlobals "__annotations__")=(true,m,ann))
  (h:∀ (w:World) (os:OsState),OD p m ann M (fun s=>((staticsOk (importedModules p.main.body) (boot_heap w.params) s.heap&&namesBound p s.heap&&gensDone s&&laidKept (boot_heap w.params) s.heap),openSeen q loose (importedModules p.main.body) Xt g0 s,Yf s)) w os=some (true,openGood q loose,Ya w)) :
  LeftO p q loose Xt Yf Ya N g0:=fun w=>by
 obtain⟨⟨hp,gs,d,k,os⟩,e1,e2⟩:=bX.mp (boot_open e hN f w)
 obtain⟨rfl,rfl,rfl,rfl⟩:hp=boot_heap w.params∧gs=Array.mk []∧d=boot_drawn∧k=boot_toks:=by
  have a:=congrArg Prod.fst e2
  have b:=congrArg (fun x=>x.2.1) e2
  have c:=congrArg (fun x=>x.2.2.1) e2
  have d:=congrArg (fun x=>x.2.2.2) e2
  exact⟨a,b,c,d⟩
 have sz:=size w
 have z1:(boot_heap w.params).isNs mainGlobals=true:=congrArg Prod.fst sz
 have z2:(boot_heap w.params).objs.toList.length=m:=congrArg (fun x=>x.2.1) sz
 have z3:(boot_heap w.params).nsMap mainGlobals "__annotations__" = ann:=congrArg (fun x=>x.2.2) sz
 have h:=h w os
 unfold OD at h
 obtain⟨t,ht,h⟩:=CK.mp h
 obtain⟨s,hs,h⟩:=bX.mp h
 have ab:SharedT.abs ⟨t,m,(boot_heap w.params).life,Array.mk [],boot_drawn,boot_toks,os⟩=⟨boot_heap w.params,Array.mk [],boot_drawn,boot_toks,os⟩:=by
  have g:=LS (life:=(boot_heap w.params).life) _ ht
  rw[BV,z2] at g
  have g':(absHeap t m (boot_heap w.params).life).objs.toList=(boot_heap w.params).objs.toList:=g
  have g2:absHeap t m (boot_heap w.params).life=boot_heap w.params:=by
   show Heap.mk (absHeap t m (boot_heap w.params).life).objs (boot_heap w.params).life=Heap.mk (boot_heap w.params).objs (boot_heap w.params).life
   exact congrArg (Heap.mk · _) (cX.mp g')
  show Shared.mk (absHeap t m (boot_heap w.params).life) _ _ _ _=_
  rw[g2]
 have r:=Nk M hs
 rw[ab] at r
 have r:=topRun_mono (N - M) _ _ _ _ r
 rw[show M+(N - M)=N by have:=b8 le;omega] at r
 have l1:=congrArg Prod.fst h
 have l2:=congrArg Prod.snd h
 dsimp only at l1 l2
 have t:topFrom treeTable p w N ⟨boot_heap w.params,Array.mk [],boot_drawn,boot_toks,os⟩=some s.abs:=by
  unfold topFrom
  have c:((boot_heap w.params).isNs mainGlobals&&(Array.mk ([]:List GenState)).size==0)=true:=by rw[z1];rfl
  show (match (boot_heap w.params).isNs mainGlobals&&(Array.mk ([]:List GenState)).size==0 with | true=>_ | false=>none)=_
  rw[c]
  show (topRun treeTable p w (boot_heap w.params).objs.size ((boot_heap w.params).nsMap mainGlobals "__annotations__") N _ _).bind _=_
  rw[show (boot_heap w.params).objs.size=m from z2,z3,r]
  show (match _ with | true=>_ | false=>none)=_
  rw[l1]
 unfold openEnds
 rw[e1]
 show (topFrom treeTable p w N _).map _=_
 rw[t]
 exact congrArg some l2
end L2
namespace L2
open PySem PySem.Spec PyProof.Rows
def zz (s:Stmt) (j:Nat):Stmt:=match s with
 | .ClassDef _ _ _ body _ _ _ _ _ _ _=>body.getD j (.Pass ⟨0,0,0,0⟩)
 | _=>.Pass ⟨0,0,0,0⟩
def jk (s:Stmt):Arguments:=match s with
 | .FunctionDef _ a _ _ _ _ _ _ _ _=>a
 | _=>{ posonlyargs:=[],args:=[],vararg:=none,kwonlyargs:=[],kw_defaults:=[],kwarg:=none,defaults:=[] }
def yu (s:Stmt):List Stmt:=match s with
 | .FunctionDef _ _ b _ _ _ _ _ _ _=>b
 | _=>[]
def zV (s:Stmt):Scope:=match s with
 | .FunctionDef _ _ _ _ _ _ sc _ _ _=>sc
 | _=>{ kind:=.function,names:=[],isGenerator:=false,isCoroutine:=false }
end L2
namespace L2
open PySem PySem.W PySem.Calls PyProof.Rows
def yR (as:List Addr) (h:Heap):Frag:=as.filterMap fun a=>(h.get? a).map fun o=>(a,o)
structure xu where
 name:Str
 qual:Str
 params:Arguments
 body:FuncBody
 scope:Scope
 globals:Addr
 closure:List (Str × Addr)
 defaults:Value
 builtins:Addr
 ok:Bool
def jg (K:Frag) (v:Option (Option Value)):Option xu:=match v with
 | some (some (.ref f))=>match K.lookup f with
  | some ⟨_,_,.func fd,_⟩=>some ⟨fd.name,fd.qualname,fd.params,fd.body,fd.scope,fd.globals,fd.closure,fd.defaults,fd.builtins,codeIn K fd.code fd.qualname&&keepIn K (.ref f)&&isFn K (.ref f)⟩
  | _=>none
 | _=>none
def y9 (x qual:Str) (st:Stmt):Option xu:=some ⟨x,qual,jk st,.stmts (yu st),zV st,mainGlobals,[],.none,builtinsNs,true⟩
abbrev Y4:List Value:=[.type "ValueError",.type "Exception",.type "BaseException",.type "object"]
def qy (v:Option (Option Value)):Bool:=match v with
 | some none=>true
 | _=>false
def isInt (z:Int) (v:Option (Option Value)):Bool:=match v with
 | some (some (.int y _))=>decide (y=z)
 | _=>false
def VX (z:Str) (v:Option (Option Value)):Bool:=match v with
 | some (some (.str y _))=>decide (y=z)
 | _=>false
def yb (z:Addr) (v:Option (Option Value)):Bool:=match v with
 | some (some (.ref y))=>Nat.beq y z
 | _=>false
def yM (z:String) (v:Option (Option Value)):Bool:=match v with
 | some (some (.builtin y))=>decide (y=z)
 | _=>false
def jx (b:Bool) (v:Option Bool):Bool:=match v with
 | some c=>c==b
 | none=>false
def Zj (K:Frag) (D:Addr):Bool:=(clsIn K D).isSome&&yM "BaseException.__getattribute__" (findIn K (.ref D) "__getattribute__")&&qy (findIn K (.ref D) "__getattr__")&&yM "object.__class__" (findIn K (.ref D) "__class__")&&yM "getset_descriptor.__get__" (specialIn K (.builtin "object.__class__") "__get__")&&jx true (takesIn K (.builtin "object.__class__"))&&jx true (mroIn K D (.type "object"))&&jx true (mroIn K D (.type "BaseException"))
def kX:List Value→List Str→Bool
 | [],[]=>true
 | v::r,z::q=>VX z (some (some v))&&kX r q
 | _,_=>false
def Zo (K:Frag) (x:Str) (zs:List Str):Bool:=match nsIn K mainGlobals x with
 | some (some (.ref a))=>match K.lookup a with
  | some ⟨.type n,_,.seq its _,_⟩=>decide (n = "tuple")&&Nat.ble its.size 1000&&kX its.toList zs
  | _=>false
 | _=>false
def vc (K:PySem.W.Frag) (C:Addr) (m:Str):Bool :=
 (match PySem.W.specialIn K (.ref C) "__getattribute__" with | some (some (.builtin b))=>b == "type.__getattribute__" | _=>false)&&PySem.W.readsIn K C (.type "type") &&
 (match PySem.W.findIn K (.ref C) m,PySem.W.findCls K (.ref C) (.type "type") m with | some (some (.ref f)),some (.val (.ref g))=>Nat.beq f g | _,_=>false)
end L2
namespace L2
open PySem PySem.W
def xE (s:SharedT) (a:Addr):Option Obj:=match Nat.blt a s.n with
 | true=>alive ((s.tree.get a).getD default)
 | false=>none
theorem gX (s:SharedT) (a:Addr):xE s a=s.abs.heap.get? a:=by
 unfold xE
 show _=(absHeap s.tree s.n s.life).get? a
 cases h:Nat.blt a s.n with
 | true =>
  have h:a<s.n:=Nat.blt_eq.mp h
  unfold Heap.get?
  rw[absHeap_at,if_pos h]
  generalize (s.tree.get a).getD default=o
  obtain⟨c,d,dt,sl⟩:=o
  cases dt <;> rfl
 | false =>
  have h:¬ a<s.n:=fun c=>by rw[Nat.blt_eq.mpr c] at h;cases h
  exact (abs_get_none h).symm
def ju (as:List Addr) (s:SharedT):Frag:=as.filterMap fun a=>(xE s a).map fun o=>(a,o)
theorem vT (as:List Addr) (s:SharedT):yR as s.abs.heap=ju as s:=by
 unfold yR ju
 congr 1
 funext a
 rw[gX]
end L2
set_option maxHeartbeats 4000000
namespace K14
open PySem
def top (i:Nat):Stmt:=PySem.Challenge.pw_coinroll_k14_statements.main.body.getD i (.Pass ⟨0,0,0,0⟩)
end K14
set_option maxHeartbeats 0
namespace K14
open PySem PySem.W PySem.Calls PyProof.Rows L2
def hQ:Program:=PySem.W.view PySem.Challenge.pw_coinroll_k14_statements [0,2,3,4,5,6,7,8,9,10,11,12,13,14,15,16,17,19,20,21,22,23,24,25,26,27,28,29,30,31,32,34,35,36,37,38,39,41,42,43,45,46,47,48,49,50,52,53,54,55,57,58,59,60,61,62,63,64,65,66,67,68,70,71,72,73,75,76,78,79,80,81,82,83,84,85,87,88,89,90,92,93,94,95,96,97,98,99,100,101,102,103,104,105,106,107,108,109,110,111,112,113,114,115]
def gG:List Addr:=[2,3,15,17,18,20,21,22,29,30,31,32,35,42,43,44,47,54,55,56,59,66,67,68,71,78,79,80,83,90,91,92,95,102,103,104,107,114,115,116,119,126,127,128,131,138,139,140,143,150,151,152,155,162,163,164,167,174,175,176,179,186,187,188,191,198,199,200,203,210,211,212,215,216,218,219,221,222,223,225,226,228,229,230,232,233,235,236,237,239,240,242,243,244,246,247,249,250,251,253,254,256,257,258,260,261,263,264,265,267,268,270,271,272,274,275,277,278,279,281,282,284,285,286,289,290,291,293,294,296,297,298,301,302,303,306,307,308,310,311,313,314,315,317,318,320,321,322,324,325,327,328,329,331,332,334,335,336,338,339,341,342,343,346,347,348,351,352,353,355,356,358,359,360,362,363,365,366,367,368,370,371,373,374,375,377,378,380,381,382,384,385,387,388,389,391,392,394,395,396,399,400,408,410,411,413,414,415,417,418,420,421,422,424,425,427,428,429,431,432,434,435,436,438,439,441,442,443,445,446,448,449,450,451,452,453,454,457,464,466,467,469,470,471,473,474,476,477,478,480,481,483,484,485,487,488,490,491,492,493,494,497,504,506,507,509,510,511,513,514,516,517,518,520,521,523,524,525,527,528,530,531,532,533,534,537,544,546,547,549,550,551,553,554,556,557,558,560,561,563,564,565,567,568,570,571,572,573,574,577,584,586,587,589,590,591,593,594,596,597,598,600,601,603,604,605,607,608,610,611,612,613,614,617,619,620,622,623,624,627,628,629,636,639,640,641,643,644,646,647,648,651,652,653,655,656,658,659,660,661,662,665,672,674,675,677,678,679,681,682,684,685,686,688,689,691,692,693,695,696,698,699,700,702,703,705,706,707,708,709,712,714,715,717,718,719,721,722,724,725,726,729,730,731,733,734,736,737,738,740,741,743,744,745,747,748,750,751,752,754,755,757,758,759,761,762,764,765,766,769,770,778,780,781,783,784,785,788,789,790,793,794,795,798,799,800,802,803,805,806,807,808,809,810,811,814,816,817,819,820,821,823,824,826,827,828,830,831,833,834,835,837,838,840,841,842,844,845,847,848,849,852,853,854,856,857,859,860,861,863,864,866,867,868,870,871,873,874,875,877,878,880,881,882,884,885,887,888,889,891,892,894,895,896,898,899,901,902,903,906,907,908,910,911,913,914,915,918,919,920,923,924,925,928,929,930,933,934,935,937,938,940,941,942,944,945,947,948,949,951,952,954,955,956,959,960,961,964,965]
def hFs:List (Str × Nat):=[(("is_number":Str),23),(("is_number_within":Str),24),(("is_parts":Str),25),(("is_way":Str),26),(("need_amount":Str),27),(("need_way":Str),28),(("half_goes_up":Str),29),(("goes_up":Str),30),(("rounded":Str),31),(("share_of":Str),32),(("is_word_of":Str),37),(("is_name":Str),38),(("rise":Str),39),(("are_figures":Str),41),(("is_number_text":Str),42),(("read_number":Str),43),(("need_month":Str),48),(("need_year":Str),49),(("year_of":Str),50),(("dues_of":Str),52),(("month_row":Str),53),(("statement_by":Str),54),(("statement":Str),55),(("is_rule_name":Str),59),(("is_rule_amount":Str),60),(("need_rule_amount":Str),61),(("need_share":Str),62),(("months_with_base":Str),63),(("is_band":Str),71),(("are_bands":Str),72),(("number_of":Str),79),(("band_of":Str),80),(("bands_of":Str),81),(("plain_rule":Str),82),(("is_ontop":Str),83),(("rule_of_words":Str),84),(("rule_of":Str),85),(("need_few":Str),88),(("need_unlike_names":Str),89),(("_law_cell_at":Str),92),(("_law_mixed":Str),93),(("_law_whole":Str),94),(("_law_amount":Str),95),(("_law_bases":Str),96),(("_law_names":Str),97),(("_law_parts":Str),98),(("_law_way":Str),99),(("_law_pairs":Str),100),(("_law_plain":Str),101),(("_law_rule":Str),102),(("_law_rounded":Str),103),(("_law_pieces":Str),104),(("_law_until":Str),105),(("_law_of_month":Str),106),(("_law_row":Str),107),(("_law_rules":Str),108),(("_law_dues":Str),109),(("_law_net":Str),110),(("_law_dues_right":Str),111),(("_law_word":Str),112),(("_law_told":Str),113),(("_law_is_right":Str),114),(("law":Str),115)]
def hMs:List (Addr × Str × Str × Nat × Nat):=[(452,("__init__":Str),("Rule.__init__":Str),64,0),(494,("__init__":Str),("Flat.__init__":Str),65,0),(494,("until":Str),("Flat.until":Str),65,1),(494,("twin":Str),("Flat.twin":Str),65,3),(494,("depth":Str),("Rule.depth":Str),64,4),(494,("of_month":Str),("Rule.of_month":Str),64,5),(494,("row":Str),("Flat.row":Str),65,2),(534,("__init__":Str),("Share.__init__":Str),66,0),(534,("until":Str),("Share.until":Str),66,1),(534,("twin":Str),("Share.twin":Str),66,3),(534,("depth":Str),("Rule.depth":Str),64,4),(534,("of_month":Str),("Rule.of_month":Str),64,5),(534,("row":Str),("Share.row":Str),66,2),(574,("__init__":Str),("Capped.__init__":Str),67,0),(574,("until":Str),("Capped.until":Str),67,1),(574,("twin":Str),("Capped.twin":Str),67,3),(574,("depth":Str),("Rule.depth":Str),64,4),(574,("of_month":Str),("Rule.of_month":Str),64,5),(574,("row":Str),("Capped.row":Str),67,2),(614,("__init__":Str),("Least.__init__":Str),68,0),(614,("until":Str),("Least.until":Str),68,1),(614,("twin":Str),("Least.twin":Str),68,3),(614,("depth":Str),("Rule.depth":Str),64,4),(614,("of_month":Str),("Rule.of_month":Str),64,5),(614,("row":Str),("Least.row":Str),68,2),(662,("__init__":Str),("Bands.__init__":Str),73,0),(662,("until":Str),("Bands.until":Str),73,1),(662,("twin":Str),("Bands.twin":Str),73,3),(662,("depth":Str),("Rule.depth":Str),64,4),(662,("of_month":Str),("Rule.of_month":Str),64,5),(662,("row":Str),("Bands.row":Str),73,2),(709,("__init__":Str),("OnTop.__init__":Str),76,0),(709,("until":Str),("OnTop.until":Str),76,1),(709,("twin":Str),("OnTop.twin":Str),76,3),(709,("depth":Str),("OnTop.depth":Str),76,4),(709,("of_month":Str),("Rule.of_month":Str),64,5),(709,("row":Str),("OnTop.row":Str),76,2),(809,("__init__":Str),("RuleBook.__init__":Str),90,0),(809,("put":Str),("RuleBook.put":Str),90,1),(809,("rows":Str),("RuleBook.rows":Str),90,2),(809,("rules":Str),("RuleBook.rules":Str),90,3)]
def Lx (K:Frag):List Bool:=[yb 44 (nsIn K mainGlobals "BadAmount"),yb 56 (nsIn K mainGlobals "BadShare"),yb 68 (nsIn K mainGlobals "BadText"),yb 80 (nsIn K mainGlobals "BadMonth"),yb 92 (nsIn K mainGlobals "BadYear"),yb 104 (nsIn K mainGlobals "BadRule"),yb 116 (nsIn K mainGlobals "BadBook"),yb 128 (nsIn K mainGlobals "NoYear"),yb 140 (nsIn K mainGlobals "BadDay"),yb 152 (nsIn K mainGlobals "BadEntry"),yb 164 (nsIn K mainGlobals "NoMark"),yb 176 (nsIn K mainGlobals "NoPerson"),yb 188 (nsIn K mainGlobals "TooMany"),yb 200 (nsIn K mainGlobals "BadClose"),yb 212 (nsIn K mainGlobals "BadLine"),yb 31 (nsIn K mainGlobals "RollError"),isInt 8 (nsIn K mainGlobals "MOST_SIGNS"),isInt 20000 (nsIn K mainGlobals "MOST_PARTS"),isInt 10000 (nsIn K mainGlobals "WHOLE"),isInt 5000 (nsIn K mainGlobals "HALF"),isInt 1000000000000 (nsIn K mainGlobals "MOST_AMOUNT"),isInt 12 (nsIn K mainGlobals "MOST_BANDS"),isInt 3 (nsIn K mainGlobals "MOST_DEPTH"),isInt 13 (nsIn K mainGlobals "MOST_FIGURES"),isInt 12 (nsIn K mainGlobals "YEAR_MONTHS"),isInt 9999 (nsIn K mainGlobals "LAST_YEAR"),isInt 119999 (nsIn K mainGlobals "LAST_MONTH"),isInt 8 (nsIn K mainGlobals "MOST_RULES"),VX "abcdefghijklmnopqrstuvwxyz" (nsIn K mainGlobals "LETTERS"),VX "0123456789" (nsIn K mainGlobals "FIGURES"),Zo K "WAYS" ["down","up","near","even"],Zo K "NO_RULE_NAMES" ["base","net","month","sums"],qy (nsIn K mainGlobals "isinstance"),qy (nsIn K mainGlobals "int"),qy (nsIn K mainGlobals "bool"),qy (nsIn K mainGlobals "str"),qy (nsIn K mainGlobals "len"),qy (nsIn K mainGlobals "range"),qy (nsIn K mainGlobals "ValueError"),qy (nsIn K mainGlobals "list"),qy (nsIn K mainGlobals "tuple"),qy (nsIn K mainGlobals "dict"),qy (nsIn K mainGlobals "set"),qy (nsIn K mainGlobals "all"),qy (nsIn K mainGlobals "any"),qy (nsIn K mainGlobals "sum"),qy (nsIn K mainGlobals "sorted"),qy (nsIn K mainGlobals "abs"),qy (nsIn K mainGlobals "max"),qy (nsIn K mainGlobals "min"),qy (nsIn K mainGlobals "zip"),qy (nsIn K mainGlobals "enumerate"),qy (nsIn K mainGlobals "reversed"),excIn K 80 Y4 "ValueError.__new__",jx true (exmOne K (.ref 80) (.ref 31)),Zj K 80,jx true (kitOne K (.ref 80) (.type "ValueError")),jx false (kitOne K (.ref 80) (.ref 44)),jx false (kitOne K (.ref 80) (.ref 56)),jx false (kitOne K (.ref 80) (.ref 68)),jx true (kitOne K (.ref 80) (.ref 80)),jx false (kitOne K (.ref 80) (.ref 92)),jx false (kitOne K (.ref 80) (.ref 104)),jx false (kitOne K (.ref 80) (.ref 116)),jx false (kitOne K (.ref 80) (.ref 128)),jx false (kitOne K (.ref 80) (.ref 140)),jx false (kitOne K (.ref 80) (.ref 152)),jx false (kitOne K (.ref 80) (.ref 164)),jx false (kitOne K (.ref 80) (.ref 176)),jx false (kitOne K (.ref 80) (.ref 188)),jx false (kitOne K (.ref 80) (.ref 200)),jx false (kitOne K (.ref 80) (.ref 212)),excIn K 128 Y4 "ValueError.__new__",jx true (exmOne K (.ref 128) (.ref 31)),Zj K 128,jx true (kitOne K (.ref 128) (.type "ValueError")),jx false (kitOne K (.ref 128) (.ref 44)),jx false (kitOne K (.ref 128) (.ref 56)),jx false (kitOne K (.ref 128) (.ref 68)),jx false (kitOne K (.ref 128) (.ref 80)),jx false (kitOne K (.ref 128) (.ref 92)),jx false (kitOne K (.ref 128) (.ref 104)),jx false (kitOne K (.ref 128) (.ref 116)),jx true (kitOne K (.ref 128) (.ref 128)),jx false (kitOne K (.ref 128) (.ref 140)),jx false (kitOne K (.ref 128) (.ref 152)),jx false (kitOne K (.ref 128) (.ref 164)),jx false (kitOne K (.ref 128) (.ref 176)),jx false (kitOne K (.ref 128) (.ref 188)),jx false (kitOne K (.ref 128) (.ref 200)),jx false (kitOne K (.ref 128) (.ref 212)),yb 452 (nsIn K mainGlobals "Rule"),plainGet K 452 Str.empty,hasDictIn K 452,plainOver K 452,yM "object.__setattr__" (findIn K (.ref 452) "__setattr__"),vc K 452 "__init__",yb 494 (nsIn K mainGlobals "Flat"),plainGet K 494 Str.empty,hasDictIn K 494,plainOver K 494,yM "object.__setattr__" (findIn K (.ref 494) "__setattr__"),qy (findIn K (.ref 494) "name"),qy (findIn K (.ref 494) "amount"),qy (findIn K (.ref 494) "parts"),qy (findIn K (.ref 494) "way"),qy (findIn K (.ref 494) "most"),qy (findIn K (.ref 494) "least"),makesIn K 494&&keepIn K (.ref 494),yb 534 (nsIn K mainGlobals "Share"),plainGet K 534 Str.empty,hasDictIn K 534,plainOver K 534,yM "object.__setattr__" (findIn K (.ref 534) "__setattr__"),qy (findIn K (.ref 534) "name"),qy (findIn K (.ref 534) "amount"),qy (findIn K (.ref 534) "parts"),qy (findIn K (.ref 534) "way"),qy (findIn K (.ref 534) "most"),qy (findIn K (.ref 534) "least"),makesIn K 534&&keepIn K (.ref 534),yb 574 (nsIn K mainGlobals "Capped"),plainGet K 574 Str.empty,hasDictIn K 574,plainOver K 574,yM "object.__setattr__" (findIn K (.ref 574) "__setattr__"),qy (findIn K (.ref 574) "name"),qy (findIn K (.ref 574) "amount"),qy (findIn K (.ref 574) "parts"),qy (findIn K (.ref 574) "way"),qy (findIn K (.ref 574) "most"),qy (findIn K (.ref 574) "least"),makesIn K 574&&keepIn K (.ref 574),yb 614 (nsIn K mainGlobals "Least"),plainGet K 614 Str.empty,hasDictIn K 614,plainOver K 614,yM "object.__setattr__" (findIn K (.ref 614) "__setattr__"),qy (findIn K (.ref 614) "name"),qy (findIn K (.ref 614) "amount"),qy (findIn K (.ref 614) "parts"),qy (findIn K (.ref 614) "way"),qy (findIn K (.ref 614) "most"),qy (findIn K (.ref 614) "least"),makesIn K 614&&keepIn K (.ref 614),yb 662 (nsIn K mainGlobals "Bands"),plainGet K 662 Str.empty,hasDictIn K 662,plainOver K 662,yM "object.__setattr__" (findIn K (.ref 662) "__setattr__"),qy (findIn K (.ref 662) "name"),qy (findIn K (.ref 662) "bands"),qy (findIn K (.ref 662) "way"),qy (findIn K (.ref 662) "parts"),qy (findIn K (.ref 662) "within"),makesIn K 662&&keepIn K (.ref 662),yb 709 (nsIn K mainGlobals "OnTop"),plainGet K 709 Str.empty,hasDictIn K 709,plainOver K 709,yM "object.__setattr__" (findIn K (.ref 709) "__setattr__"),qy (findIn K (.ref 709) "name"),qy (findIn K (.ref 709) "bands"),qy (findIn K (.ref 709) "way"),qy (findIn K (.ref 709) "parts"),qy (findIn K (.ref 709) "within"),makesIn K 709&&keepIn K (.ref 709),yb 809 (nsIn K mainGlobals "RuleBook"),plainGet K 809 Str.empty,hasDictIn K 809,plainOver K 809,yM "object.__setattr__" (findIn K (.ref 809) "__setattr__"),qy (findIn K (.ref 809) "told"),makesIn K 809&&keepIn K (.ref 809),yM "getset_descriptor.__get__" (specialIn K (.builtin "object.__class__") "__get__"),jx true (takesIn K (.builtin "object.__class__")),(!(Nat.beq 534 709)),yM "object.__class__" (findIn K (.ref 494) "__class__"),jx true (mroIn K 494 (.type "object")),jx true (kitOne K (.ref 494) (.ref 452)),yM "object.__class__" (findIn K (.ref 534) "__class__"),jx true (mroIn K 534 (.type "object")),jx true (kitOne K (.ref 534) (.ref 452)),yM "object.__class__" (findIn K (.ref 574) "__class__"),jx true (mroIn K 574 (.type "object")),jx true (kitOne K (.ref 574) (.ref 452)),yM "object.__class__" (findIn K (.ref 614) "__class__"),jx true (mroIn K 614 (.type "object")),jx true (kitOne K (.ref 614) (.ref 452)),yM "object.__class__" (findIn K (.ref 662) "__class__"),jx true (mroIn K 662 (.type "object")),jx true (kitOne K (.ref 662) (.ref 452)),yM "object.__class__" (findIn K (.ref 709) "__class__"),jx true (mroIn K 709 (.type "object")),jx true (kitOne K (.ref 709) (.ref 452))]
def nF (K:Frag):=(hFs.map (fun x=>jg K (nsIn K mainGlobals x.1)),hMs.map (fun x=>jg K (findIn K (.ref x.1) x.2.1)),(Lx K).all id)
def pC:=(hFs.map (fun x=>y9 x.1 x.1 (top x.2)),hMs.map (fun x=>y9 x.2.1 x.2.2.1 (zz (top x.2.2.2.1) x.2.2.2.2)),true)
def Ri (s:Shared):Bool:=xlAt hQ [] s&&recOk [] s
def rG (w:World) (s:Shared):=((staticsOk (importedModules PySem.Challenge.pw_coinroll_k14_statements.main.body) (boot_heap w.params) s.heap&&namesBound PySem.Challenge.pw_coinroll_k14_statements s.heap&&gensDone s&&laidKept (boot_heap w.params) s.heap),openSeen hQ [] (importedModules PySem.Challenge.pw_coinroll_k14_statements.main.body) Ri true s,nF (yR gG s.heap))
def bp (K:Frag):List Bool:=Lx K
def hX (w:World) (os:OsState):Option SharedT:=(oY (boot_heap w.params).objs.toList .nil 0).bind fun t=>(Wb treeTable PySem.Challenge.pw_coinroll_k14_statements w 11 (some (.ref 6)) 8321 ⟨t,11,(boot_heap w.params).life,Array.mk [],boot_drawn,boot_toks,os⟩ (topStub PySem.Challenge.pw_coinroll_k14_statements))
def PM (w:World) (os:OsState):=(hX w os).map fun s=>(staticsOk (importedModules PySem.Challenge.pw_coinroll_k14_statements.main.body) (boot_heap w.params) s.abs.heap)&&((namesBound PySem.Challenge.pw_coinroll_k14_statements s.abs.heap&&gensDone s.abs&&laidKept (boot_heap w.params) s.abs.heap))
def Pc (_:World) (_:OsState):=some (true)
theorem Wy:PM=PM:=rfl
theorem M8:Pc=Pc:=rfl
def PX (w:World) (os:OsState):=(hX w os).map fun s=>seen ((recsOf hQ).map (·.name)) (ownsOf hQ) [] { s.abs with gens:=#[] }
def Ob (_:World) (_:OsState):=some (expectedOf hQ)
theorem WX:PX=PX:=rfl
theorem xW:Ob=Ob:=rfl
def Od (w:World) (os:OsState):=(hX w os).map fun s=>s.abs.heap.bltView
def PJ (_:World) (_:OsState):=some (bltViewBooted)
theorem xG:Od=Od:=rfl
theorem NE:PJ=PJ:=rfl
def PB (w:World) (os:OsState):=(hX w os).map fun s=>(s.abs.heap.keysOk (looseW hQ []) ((recsOf hQ).map (·.name)) ((litsOf hQ).map (·.1)) ((clssOf hQ (looseW hQ [])).map (·.name)))&&((s.abs.heap.accountedOkI (importedModules PySem.Challenge.pw_coinroll_k14_statements.main.body))&&((s.abs.heap.isNs mainGlobals&&s.abs.heap.isNs builtinsNs&&tablesOk hQ s.abs.heap&&Ri s.abs&&(if true=true then s.abs.gens.size==0 else !leftWithCleanup s.abs.gens))))
def O6 (_:World) (_:OsState):=some (true)
theorem xR:PB=PB:=rfl
theorem nG:O6=O6:=rfl
def pR (w:World) (os:OsState):=(hX w os).map fun s=>(tabsOk hQ s.abs,pinSeenD hQ (drecsOf hQ) s.abs,plainSeenD hQ [] s.abs,clsSeenW hQ [] s.abs)
def ou (_:World) (_:OsState):=some ((true,pinGoodD (drecsOf hQ),plainGoodD hQ [],clsGoodW hQ []))
theorem WA:pR=pR:=rfl
theorem xV:ou=ou:=rfl
def oV (w:World) (os:OsState):=(hX w os).map fun s=>((plainsOf hQ (looseW hQ [])).take 10).map fun c=>s.abs.heap.plainShapeAt c.withCmp
def oM (_:World) (_:OsState):=some (((plainsOf hQ (looseW hQ [])).take 10).map fun c=>some c.withCmp.plainShape)
theorem xp:oV=oV:=rfl
theorem xU:oM=oM:=rfl
def pK (w:World) (os:OsState):=(hX w os).map fun s=>((plainsOf hQ (looseW hQ [])).drop 10).map fun c=>s.abs.heap.plainShapeAt c.withCmp
def pQ (_:World) (_:OsState):=some (((plainsOf hQ (looseW hQ [])).drop 10).map fun c=>some c.withCmp.plainShape)
theorem xf:pK=pK:=rfl
theorem Wm:pQ=pQ:=rfl
def xt (w:World) (os:OsState):=(hX w os).map fun s=>(wdefsOf hQ).map fun d=>shapeAtK s.abs.heap d.1.name
def xZ (_:World) (_:OsState):=some ((wdefsOf hQ).map fun d=>some d.1.shape)
theorem V5:xt=xt:=rfl
theorem UT:xZ=xZ:=rfl
def xP (w:World) (os:OsState):=(hX w os).map fun s=>((wdefsOf hQ).all fun d=>s.abs.heap.restOk (hQ.nameAt false d.1.name) d.1.name&&dfltAt s.abs.heap d)&&(wlitsOf hQ).all (constAt s.abs.heap)
def Wh (_:World) (_:OsState):=some (true)
theorem UD:xP=xP:=rfl
theorem Ma:Wh=Wh:=rfl
def xm (w:World) (os:OsState):=(hX w os).map fun s=>((hFs.drop 0).take 80).map (fun x=>jg (ju gG s) (nsIn (ju gG s) mainGlobals x.1))
def xT (_:World) (_:OsState):=some (((hFs.drop 0).take 80).map (fun x=>y9 x.1 x.1 (top x.2)))
theorem UC:xm=xm:=rfl
theorem Ud:xT=xT:=rfl
def Wx (w:World) (os:OsState):=(hX w os).map fun s=>hMs.map (fun x=>jg (ju gG s) (findIn (ju gG s) (.ref x.1) x.2.1))
def WH (_:World) (_:OsState):=some (hMs.map (fun x=>y9 x.2.1 x.2.2.1 (zz (top x.2.2.2.1) x.2.2.2.2)))
theorem VW:Wx=Wx:=rfl
theorem UV:WH=WH:=rfl
def Wj (w:World) (os:OsState):=(hX w os).map fun s=>(bp (ju gG s)).all id
def xr (_:World) (_:OsState):=some (true)
theorem UU:Wj=Wj:=rfl
theorem Mo:xr=xr:=rfl
end K14
lay_quick L2.Wb K14.top
name_quick hRunQ0 for K14.PM by K14.Wy
name_quick hRunQ2 for K14.PX by K14.WX
name_quick hEndQ2 for K14.Ob by K14.xW
name_quick hRunQ3 for K14.Od by K14.xG
name_quick hRunQ4 for K14.PB by K14.xR
name_quick hRunQ7 for K14.pR by K14.WA
name_quick hEndQ7 for K14.ou by K14.xV
name_quick hRunQ8 for K14.oV by K14.xp
name_quick hEndQ8 for K14.oM by K14.xU
name_quick hRunQ9 for K14.pK by K14.xf
name_quick hEndQ9 for K14.pQ by K14.Wm
name_quick hRunQ10 for K14.xt by K14.V5
name_quick hEndQ10 for K14.xZ by K14.UT
name_quick hRunQ11 for K14.xP by K14.UD
name_quick hRunQ12 for K14.xm by K14.UC
name_quick hEndQ12 for K14.xT by K14.Ud
name_quick hRunQ13 for K14.Wx by K14.VW
name_quick hEndQ13 for K14.WH by K14.UV
name_quick hRunQ14 for K14.Wj by K14.UU
namespace K14
open PySem PySem.W PySem.Calls PyProof.Rows L2
theorem Nz:Fast.hRunQ0=Pc:=by kernel_rfl
theorem Ms:Fast.hRunQ2=Fast.hEndQ2:=by kernel_rfl
theorem Na:Fast.hRunQ3=PJ:=by kernel_rfl
theorem MG:Fast.hRunQ4=O6:=by kernel_rfl
theorem nj:Fast.hRunQ7=Fast.hEndQ7:=by kernel_rfl
theorem Mx:Fast.hRunQ8=Fast.hEndQ8:=by kernel_rfl
theorem nO:Fast.hRunQ9=Fast.hEndQ9:=by kernel_rfl
theorem mj:Fast.hRunQ10=Fast.hEndQ10:=by kernel_rfl
theorem mY:Fast.hRunQ11=Wh:=by kernel_rfl
theorem LJ:Fast.hRunQ12=Fast.hEndQ12:=by kernel_rfl
theorem mO:Fast.hRunQ13=Fast.hEndQ13:=by kernel_rfl
theorem Lv:Fast.hRunQ14=xr:=by kernel_rfl
theorem Rj:LeftO PySem.Challenge.pw_coinroll_k14_statements hQ [] Ri (fun s=>nF (yR gG s.heap)) (fun _=>pC) 8321:=by
 refine GW (M:=8321) (m:=11) (ann:=some (.ref 6)) (by kernel_rfl) (by kernel_rfl) (fun s=>by kernel_rfl) (by kernel_rfl) (fun w=>by kernel_rfl) fun w os=>?_
 obtain⟨s,es,e0⟩:=bX.mp (show (hX w os).map _=some _ from congrFun (congrFun (Fast.hRunQ0_eq.trans Nz) w) os)
 obtain⟨s2,es2,e2⟩:=bX.mp (show (hX w os).map _=some _ from congrFun (congrFun (Fast.hRunQ2_eq.trans (Ms.trans Fast.hEndQ2_eq.symm)) w) os)
 obtain rfl:s=s2:=Option.some.inj (es.symm.trans es2)
 obtain⟨s3,es3,e3⟩:=bX.mp (show (hX w os).map _=some _ from congrFun (congrFun (Fast.hRunQ3_eq.trans Na) w) os)
 obtain rfl:s=s3:=Option.some.inj (es.symm.trans es3)
 obtain⟨s4,es4,e4⟩:=bX.mp (show (hX w os).map _=some _ from congrFun (congrFun (Fast.hRunQ4_eq.trans MG) w) os)
 obtain rfl:s=s4:=Option.some.inj (es.symm.trans es4)
 obtain⟨s7,es7,e7⟩:=bX.mp (show (hX w os).map _=some _ from congrFun (congrFun (Fast.hRunQ7_eq.trans (nj.trans Fast.hEndQ7_eq.symm)) w) os)
 obtain rfl:s=s7:=Option.some.inj (es.symm.trans es7)
 obtain⟨s8,es8,e8⟩:=bX.mp (show (hX w os).map _=some _ from congrFun (congrFun (Fast.hRunQ8_eq.trans (Mx.trans Fast.hEndQ8_eq.symm)) w) os)
 obtain rfl:s=s8:=Option.some.inj (es.symm.trans es8)
 obtain⟨s9,es9,e9⟩:=bX.mp (show (hX w os).map _=some _ from congrFun (congrFun (Fast.hRunQ9_eq.trans (nO.trans Fast.hEndQ9_eq.symm)) w) os)
 obtain rfl:s=s9:=Option.some.inj (es.symm.trans es9)
 obtain⟨s10,es10,e10⟩:=bX.mp (show (hX w os).map _=some _ from congrFun (congrFun (Fast.hRunQ10_eq.trans (mj.trans Fast.hEndQ10_eq.symm)) w) os)
 obtain rfl:s=s10:=Option.some.inj (es.symm.trans es10)
 obtain⟨s11,es11,e11⟩:=bX.mp (show (hX w os).map _=some _ from congrFun (congrFun (Fast.hRunQ11_eq.trans mY) w) os)
 obtain rfl:s=s11:=Option.some.inj (es.symm.trans es11)
 obtain⟨s12,es12,e12⟩:=bX.mp (show (hX w os).map _=some _ from congrFun (congrFun (Fast.hRunQ12_eq.trans (LJ.trans Fast.hEndQ12_eq.symm)) w) os)
 obtain rfl:s=s12:=Option.some.inj (es.symm.trans es12)
 obtain⟨s13,es13,e13⟩:=bX.mp (show (hX w os).map _=some _ from congrFun (congrFun (Fast.hRunQ13_eq.trans (mO.trans Fast.hEndQ13_eq.symm)) w) os)
 obtain rfl:s=s13:=Option.some.inj (es.symm.trans es13)
 obtain⟨s14,es14,e14⟩:=bX.mp (show (hX w os).map _=some _ from congrFun (congrFun (Fast.hRunQ14_eq.trans Lv) w) os)
 obtain rfl:s=s14:=Option.some.inj (es.symm.trans es14)
 obtain⟨e0,e1⟩:=BJ.mp e0
 obtain⟨e4,e5⟩:=BJ.mp e4
 obtain⟨e5,e6⟩:=BJ.mp e5
 have ey:(Lx (yR gG s.abs.heap)).all id=true:=by
  rw[vT]
  show (bp (ju gG s)).all id=true
  try simp only[Cp,Bn]
  exact e14
 have el:rG w s.abs=(true,openGood hQ [],pC):=by
  have a1:(staticsOk (importedModules PySem.Challenge.pw_coinroll_k14_statements.main.body) (boot_heap w.params) s.abs.heap&&namesBound PySem.Challenge.pw_coinroll_k14_statements s.abs.heap&&gensDone s.abs&&laidKept (boot_heap w.params) s.abs.heap)=true:=by
   have e1:=e1
   simp only[Bn] at e1 ⊢
   exact⟨⟨⟨e0,e1.1.1⟩,e1.1.2⟩,e1.2⟩
  have ab:(s.abs.heap.keysOk (looseW hQ []) ((recsOf hQ).map (·.name)) ((litsOf hQ).map (·.1)) ((clssOf hQ (looseW hQ [])).map (·.name))&&s.abs.heap.accountedOkI (importedModules PySem.Challenge.pw_coinroll_k14_statements.main.body)&&s.abs.heap.isNs mainGlobals&&s.abs.heap.isNs builtinsNs&&tablesOk hQ s.abs.heap&&Ri s.abs&&(if true=true then s.abs.gens.size==0 else !leftWithCleanup s.abs.gens))=true:=by
   have e6:=e6
   simp only[Bn] at e6 ⊢
   obtain⟨⟨⟨⟨g1,g2⟩,g3⟩,g4⟩,g5⟩:=e6
   exact⟨⟨⟨⟨⟨⟨e4,e5⟩,g1⟩,g2⟩,g3⟩,g4⟩,g5⟩
  have e8:=congr (congrArg HAppend.hAppend e8) e9
  rw[← Bc,← Bc,cY] at e8
  have a2:openSeen hQ [] (importedModules PySem.Challenge.pw_coinroll_k14_statements.main.body) Ri true s.abs=openGood hQ []:=congr (congrArg Prod.mk e2) (congr (congrArg Prod.mk e3) (congr (congrArg Prod.mk ab) (congr (congrArg Prod.mk (congrArg Prod.fst e7)) (congr (congrArg Prod.mk (congrArg (fun z=>z.2.1) e7)) (congr (congrArg Prod.mk e8) (congr (congrArg Prod.mk (congrArg (fun z=>z.2.2.1) e7)) (congr (congrArg Prod.mk (congr (congrArg Prod.mk e10) e11)) (congrArg (fun z=>z.2.2.2) e7))))))))
  have e12:((hFs.drop 0).take 80).map (fun x=>jg (yR gG s.abs.heap) (nsIn (yR gG s.abs.heap) mainGlobals x.1))=((hFs.drop 0).take 80).map (fun x=>y9 x.1 x.1 (top x.2)):=by rw[vT];exact e12
  have e13:hMs.map (fun x=>jg (yR gG s.abs.heap) (findIn (yR gG s.abs.heap) (.ref x.1) x.2.1))=hMs.map (fun x=>y9 x.2.1 x.2.2.1 (zz (top x.2.2.2.1) x.2.2.2.2)):=by rw[vT];exact e13
  have ef:=e12
  try simp only[← Bc] at ef
  rw[show (hFs.drop 0).take 80=hFs by kernel_rfl] at ef
  exact congr (congrArg Prod.mk a1) (congr (congrArg Prod.mk a2) (congr (congrArg Prod.mk ef) (congr (congrArg Prod.mk e13) ey)))
 unfold OD
 obtain⟨t,ht,hs⟩:=CK.mp es
 rw[ht]
 show (Wb _ _ w _ _ _ _ _).map _=_
 rw[hs]
 exact congrArg some el
end K14
namespace L2
open PySem PySem.Spec PyProof.Rows
def Ot:Expr→Bool
 | .Starred _ _=>true
 | _=>false
theorem z6 {e:Expr} {es:List Expr} {env:Env} (h:Ot e=false):starEach (e::es) env=(false,eval e env)::starEach es env:=by
 cases e <;> first | rfl | cases h
theorem yw {env:Env} {pos:Pos}:∀ {es:List Expr},es.all (fun e=>!Ot e)=true→(backTo pos (starEach es env)).any (·.1)=false
 | [],_=>rfl
 | e::es,h=>by
  rw[BW,Bn,Cq] at h
  rw[z6 h.1]
  show (false || (backTo pos (starEach es env)).any (·.1))=false
  rw[Cr]
  exact yw h.2
abbrev yJ:=Sum Int Str
def Y3:yJ→Value→Bool
 | .inl k,v=>Value.isInt k v
 | .inr x,v=>Value.isStrOf x v
def tK (w:World):yJ→Int
 | .inl k=>hashInt k
 | .inr x=>hashStr w x
theorem qM:∀ {k:yJ} {v:Value},Y3 k v=true→(∃ i t,k=Sum.inl i∧v=Value.int i t)∨(∃ x t,k=Sum.inr x∧v=Value.str x t)
 | .inl i,v,h=>by
  obtain⟨t,e⟩:=Value.isInt_shape (k:=i) (v:=v) h
  exact .inl ⟨i,t,rfl,e⟩
 | .inr x,v,h=>by
  obtain⟨t,e⟩:=Value.isStrOf_shape (x:=x) (v:=v) h
  exact .inr ⟨x,t,rfl,e⟩
theorem gj (i:Int) (t:Tok):Y3 (.inl i) (.int i t)=true:=by simp[Y3,Value.isInt]
theorem GC (x:Str) (t:Tok):Y3 (.inr x) (.str x t)=true:=by simp[Y3,Value.isStrOf]
theorem Mu (a b:Int):decide ((Sum.inl a:yJ)=Sum.inl b)=(a==b):=by
 by_cases e:a=b
 ·subst e;simp
 ·have h:¬ (Sum.inl a:yJ)=Sum.inl b:=fun q=>e (Sum.inl.inj q)
  rw[decide_eq_false h]
  exact (beq_eq_false_iff_ne.mpr e).symm
theorem MI (a b:Str):decide ((Sum.inr a:yJ)=Sum.inr b)=decide (a=b):=by
 by_cases e:a=b
 ·subst e;simp
 ·have h:¬ (Sum.inr a:yJ)=Sum.inr b:=fun q=>e (Sum.inr.inj q)
  rw[decide_eq_false h,decide_eq_false e]
theorem nw (a:Int) (b:Str):decide ((Sum.inl a:yJ)=Sum.inr b)=false:=decide_eq_false (fun q=>nomatch q)
theorem MC (a:Str) (b:Int):decide ((Sum.inr a:yJ)=Sum.inl b)=false:=decide_eq_false (fun q=>nomatch q)
def yh (prog:Program) (w:World):PySem.KeyKind prog w yJ where
 is:=Y3
 hash:=tK w
 inj:=fun v a b ha hb=>by
  rcases qM ha with ⟨i,t,rfl,rfl⟩ | ⟨x,t,rfl,rfl⟩
  ·rcases qM hb with ⟨j,u,rfl,e⟩ | ⟨y,u,rfl,e⟩
   ·injection e with e1 _;rw[e1]
   ·exact nomatch e
  ·rcases qM hb with ⟨j,u,rfl,e⟩ | ⟨y,u,rfl,e⟩
   ·exact nomatch e
   ·injection e with e1 _;rw[e1]
 byValue:=fun k v h=>by
  rcases qM h with ⟨i,t,rfl,rfl⟩ | ⟨x,t,rfl,rfl⟩ <;> rfl
 pyHash:=fun hv h=>by
  rcases qM hv with ⟨i,t,rfl,rfl⟩ | ⟨x,t,rfl,rfl⟩
  ·exact wpAny_pyHash_int h
  ·exact wpAny_pyHash_str h
 eqBool:=fun hu hv h=>by
  rcases qM hu with ⟨i,t,rfl,rfl⟩ | ⟨x,t,rfl,rfl⟩
  ·rcases qM hv with ⟨j,u,rfl,rfl⟩ | ⟨y,u,rfl,rfl⟩
   ·rw[Mu] at h;exact wpAny_eqBool_int h
   ·rw[nw] at h;exact SeqAt.EqAt.int_str i t y u _ _ _ _ h
  ·rcases qM hv with ⟨j,u,rfl,rfl⟩ | ⟨y,u,rfl,rfl⟩
   ·rw[MC] at h;exact SeqAt.EqAt.str_int x t j u _ _ _ _ h
   ·rw[MI] at h;exact wpAny_eqBool_str h
 «strs»:=fun k x t v h=>by
  rcases qM h with ⟨i,u,rfl,e⟩ | ⟨y,u,rfl,e⟩
  ·exact nomatch e
  ·injection e with e1 _
   subst e1
   cases v <;> rfl
theorem V9 (prog:Program) (w:World) (i:Int) (t:Tok):(yh prog w).is (.inl i) (.int i t)=true:=gj i t
theorem VS (prog:Program) (w:World) (x:Str) (t:Tok):(yh prog w).is (.inr x) (.str x t)=true:=GC x t
inductive V where
 | non | bl (b:Bool) | int (i:Int) | str (x:Str) | byt (b:Array UInt8) | flt (b:UInt64) | ref (a:Addr) | ty (n:String)
 deriving DecidableEq
def qp:V→Value→Prop
 | .non,u=>u=Value.none
 | .bl b,u=>u=Value.bool b
 | .int i,u=>∃ t,u=Value.int i t
 | .str x,u=>∃ t,u=Value.str x t
 | .byt b,u=>∃ t,u=Value.bytes b t
 | .flt b,u=>∃ t,u=Value.float b t
 | .ref a,u=>u=Value.ref a
 | .ty n,u=>u=Value.type n
abbrev z9:List V→List Value→Prop:=Paired qp
theorem z9.length {xs:List V} {us:List Value} (r:z9 xs us):xs.length=us.length:=Paired.length r
theorem z9.get:∀ {xs:List V} {us:List Value} {i:Nat} {x:V},z9 xs us→xs[i]? = some x→∃ u,us[i]? = some u∧qp x u
 | _,_,_,_,.nil,e=>by simp at e
 | _,_,0,_,.cons r _,e=>by simp at e;subst e;exact⟨_,rfl,r⟩
 | _,_,i+1,x,.cons _ t,e=>by
  obtain⟨u,h1,h2⟩:=z9.get (i:=i) (x:=x) t (by simpa using e)
  exact⟨u,by simpa using h1,h2⟩
theorem z9.append:∀ {xs ys:List V} {us ws:List Value},z9 xs us→z9 ys ws→z9 (xs++ys) (us++ws)
 | _,_,_,_,.nil,s=>s
 | _,_,_,_,.cons r t,s=>.cons r (z9.append t s)
theorem z9.take:∀ {xs:List V} {us:List Value} (n:Nat),z9 xs us→z9 (xs.take n) (us.take n)
 | _,_,0,_=>.nil
 | _,_,_+1,.nil=>.nil
 | _,_,n+1,.cons r t=>.cons r (z9.take n t)
theorem z9.drop:∀ {xs:List V} {us:List Value} (n:Nat),z9 xs us→z9 (xs.drop n) (us.drop n)
 | _,_,0,r=>r
 | _,_,_+1,.nil=>.nil
 | _,_,n+1,.cons _ t=>z9.drop n t
def uz:Option V→Option Value→Prop
 | some v,some u=>qp v u
 | none,none=>True
 | _,_=>False
def KV {κ:Type}:List (κ × V)→List (κ × Value)→Prop:=Paired fun (p:κ × V) (q:κ × Value)=>p.1=q.1∧qp p.2 q.2
def kV:yJ→V
 | .inl i=>.int i
 | .inr x=>.str x
inductive HO where
 | lst (xs:List V)
 | tup (xs:List V)
 | dK (kvs:List (yJ × V)) | dT (kvs:List (List yJ × V))
 | set (S:Int→Bool) (n:Nat)
 | ins (C dx:Addr) (fs:List (Str × V))
 | own (x:Addr)
 | xd (fs:List (Str × V))
 | met (f x:Addr)
 | rng (lo hi:Int)
 | frz (o:Obj) (u:HO)
 | tbl (ps:Array Value)
 | ext (φ:Heap→Prop)
abbrev Hp:=Addr→Option HO
def upd (H:Hp) (a:Addr) (o:HO):Hp:=fun b=>if b=a then some o else H b
theorem zm {H:Hp} {a:Addr} {o:HO}:upd H a o a=some o:=by unfold upd;rw[if_pos rfl]
theorem zq {H:Hp} {a b:Addr} {o:HO} (h:b≠a):upd H a o b=H b:=by unfold upd;rw[if_neg h]
theorem Xp {H:Hp} {a:Addr} {o u:HO}:upd (upd H a o) a u=upd H a u:=by
 funext b;unfold upd;split <;> rfl
theorem yp {H:Hp} {a b:Addr} {o u:HO} (h:H a=some o) (h':H b=some u) (d:o≠u):a≠b:=by
 intro e;subst e;rw[h] at h';exact d (Option.some.inj h')
theorem zF {H:Hp} {a b:Addr} {o:HO} (h:H a=some o) (h':H b=none):a≠b:=by
 intro e;subst e;rw[h] at h';cases h'
section
variable (P:Program) (w:World)
def qQ (H:Hp) (h:Heap) (a:Addr):HO→Prop
 | .lst xs=>xs.length≤sizeLine∧∃ (its:List Value) (n:Nat),z9 xs its∧h.get? a=some { cls:=.type "list",data:=.seq its.toArray n }
 | .tup xs=>xs.length≤sizeLine∧∃ its:List Value,z9 xs its∧IsTup h a its.toArray
 | .dK kvs=>kvs.length≤sizeLine∧(a==sysModules)=false∧∃ vs,KV kvs vs∧h.DictOf (yh P w) a vs
 | .dT kvs=>kvs.length≤sizeLine∧(a==sysModules)=false∧∃ xs:List (List yJ × Addr × Value),
   Paired (fun (p:List yJ × V) (q:List yJ × Addr × Value)=>p.1=q.1∧H q.2.1=some (.tup (p.1.map kV))∧qp p.2 q.2.2) kvs xs ∧
   ∃ o es ep,h.get? a=some o∧o.ExactDict∧o.data = .dict es ep∧es.toList=xs.map (entryOfKey (tupleKind (yh P w)))∧(xs.map (·.1)).Nodup
 | .set S n=>h.SetOf (intKind P w) a S n
 | .ins C dx fs=>H dx=some (.own a)∧fs.length≤1000∧dx≠a∧h.get? a=some (PySem.W.instObj C dx) ∧
   ∃ mA,h.Ns1 dx mA∧(∀ f,uz (fs.lookup f) (mA f))∧PySem.Within mA (fs.map (·.1))
 | .own _=>∃ o,h.get? a=some o
 | .xd fs=>∃ mA,h.Ns1 a mA∧∀ f,uz (fs.lookup f) (mA f)
 | .rng lo hi=>∃ t u v,h.get? a=some { cls:=.type "range",data:=.fields #[.int lo t,.int hi u,.int 1 v] }
 | .frz o u=>h.get? a=some o∧qQ H h a u
 | .tbl ps=>h.get? a=some { cls:=.none,data:=.fields ps }
 | .met f x=>h.get? a=some (PySem.W.methodObj (.ref f) (.ref x))
 | .ext φ=>φ h∧(∃ o,h.get? a=some o)∧∀ h1 h2:Heap,φ h1→(∀ o,h1.get? a=some o→h2.get? a=some o)→φ h2
def uf (H:Hp) (h:Heap):Prop:=∀ a o,H a=some o→qQ P w H h a o
end
section
variable {P:Program} {w:World} {H H':Hp} {h h':Heap} {a:Addr} {o:HO}
theorem qQ.lt (x:qQ P w H h a o):a<h.objs.size:=by
 cases o with
 | lst xs=>obtain⟨_,_,_,_,e⟩:=x;exact bQ e
 | tup xs=>obtain⟨_,_,_,p⟩:=x;exact p.lt
 | dK kvs=>obtain⟨_,_,_,_,o,_,_,e,_⟩:=x;exact bQ e
 | dT kvs=>obtain⟨_,_,_,_,o,_,_,e,_⟩:=x;exact bQ e
 | set S n=>obtain⟨o,_,_,_,e,_⟩:=x;exact bQ e
 | ins C dx fs=>obtain⟨_,_,_,e,_⟩:=x;exact bQ e
 | own y=>obtain⟨_,e⟩:=x;exact bQ e
 | xd fs=>obtain⟨_,⟨_,_,_,e,_⟩,_⟩:=x;exact bQ e
 | rng lo hi=>obtain⟨_,_,_,e⟩:=x;exact bQ e
 | frz ob u=>obtain⟨e,_⟩:=x;exact bQ e
 | tbl ps=>exact bQ (show h.get? a=some _ from x)
 | met f y=>exact bQ (show h.get? a=some _ from x)
 | ext φ=>obtain⟨_,⟨_,e⟩,_⟩:=x;exact bQ e
theorem Paired.mapP {α β:Type} {F G:α→β→Prop}:∀ {l₁:List α} {l₂:List β},Paired F l₁ l₂→(∀ a b,F a b→G a b)→Paired G l₁ l₂
 | _,_,.nil,_=>.nil
 | _,_,.cons r t,f=>.cons (f _ _ r) (Paired.mapP t f)
theorem qQ.stay (x:qQ P w H h a o) (k:∀ b u,(b=a∨H b=some (.own a))→h.get? b=some u→h'.get? b=some u)
  (ho:∀ b,H b=some (.own a)→H' b=some (.own a)) (ht:∀ b xs,H b=some (.tup xs)→H' b=some (.tup xs)):qQ P w H' h' a o:=by
 induction o with
 | lst xs=>obtain⟨z,its,n,r,e⟩:=x;exact⟨z,its,n,r,k _ _ (.inl rfl) e⟩
 | tup xs=>obtain⟨z,its,r,ob,e,c⟩:=x;exact⟨z,its,r,ob,k _ _ (.inl rfl) e,c⟩
 | dK kvs=>obtain⟨z,y,vs,r,ob,es,ep,e,c⟩:=x;exact⟨z,y,vs,r,ob,es,ep,k _ _ (.inl rfl) e,c⟩
 | dT kvs =>
  obtain⟨z,y,xs,r,ob,es,ep,e,c⟩:=x
  exact⟨z,y,xs,Paired.mapP r fun p q z=>⟨z.1,ht _ _ z.2.1,z.2.2⟩,ob,es,ep,k _ _ (.inl rfl) e,c⟩
 | set S n=>obtain⟨ob,es,ep,t,e,c⟩:=x;exact⟨ob,es,ep,t,k _ _ (.inl rfl) e,c⟩
 | ins C dx fs =>
  obtain⟨d,z,ne,e,mA,⟨od,es,ep,e2,c⟩,r⟩:=x
  exact⟨ho _ d,z,ne,k _ _ (.inl rfl) e,mA,⟨od,es,ep,k _ _ (.inr d) e2,c⟩,r⟩
 | own y=>obtain⟨ob,e⟩:=x;exact⟨ob,k _ _ (.inl rfl) e⟩
 | xd fs=>obtain⟨mA,⟨od,es,ep,e,c⟩,r⟩:=x;exact⟨mA,⟨od,es,ep,k _ _ (.inl rfl) e,c⟩,r⟩
 | rng lo hi=>obtain⟨t,u,v,e⟩:=x;exact⟨t,u,v,k _ _ (.inl rfl) e⟩
 | frz ob u ih=>obtain⟨e,q⟩:=x;exact⟨k _ _ (.inl rfl) e,ih q⟩
 | tbl ps =>
  have e:h.get? a=some { cls:=.none,data:=.fields ps }:=x
  show h'.get? a=some { cls:=.none,data:=.fields ps }
  exact k a _ (.inl rfl) e
 | met f y =>
  have e:h.get? a=some (PySem.W.methodObj (.ref f) (.ref y)):=x
  show h'.get? a=some (PySem.W.methodObj (.ref f) (.ref y))
  exact k a _ (.inl rfl) e
 | ext φ=>obtain⟨p,⟨o,e⟩,st⟩:=x;exact⟨st _ _ p fun o q=>k _ _ (.inl rfl) q,⟨o,k _ _ (.inl rfl) e⟩,st⟩
theorem uf.lt (x:uf P w H h) (e:H a=some o):a<h.objs.size:=(x a o e).lt
theorem uf.fresh (x:uf P w H h) (e:h.objs.size≤a):H a=none:=by
 cases q:H a with
 | none=>rfl
 | some u=>exact absurd (Bq (x.lt q) e) (cZ _)
theorem uf.kept (x:uf P w H h) (k:∀ b u,h.get? b=some u→h'.get? b=some u):uf P w H h':=fun a o e =>
 (x a o e).stay (fun b u _ q=>k b u q) (fun _ q=>q) fun _ _ q=>q
theorem uf.laid (x:uf P w H h) (k:∀ b u,h.get? b=some u→h'.get? b=some u) (hp:h.objs.size≤a) (new:qQ P w (upd H a o) h' a o):uf P w (upd H a o) h':=fun b u e=>by
 have hn:=x.fresh hp
 by_cases hb:b=a
 ·subst hb;rw[zm] at e;cases e;exact new
 ·rw[zq hb] at e
  exact (x b u e).stay (fun c v _ q=>k c v q) (fun c q=>by rw[zq (zF q hn)];exact q) fun c xs q=>by rw[zq (zF q hn)];exact q
end
def Rd (H:Hp) (a:Addr) (u:HO):Prop:=H a=some u∨∃ o,H a=some (.frz o u)
theorem Rd.ok {P:Program} {w:World} {H:Hp} {h:Heap} {a:Addr} {u:HO} (r:Rd H a u) (x:uf P w H h):qQ P w H h a u:=by
 rcases r with r | ⟨o,r⟩
 ·exact x a u r
 ·obtain⟨_,q⟩:=x a _ r
  exact q
def RL:Option HO→Prop
 | some (.lst _)=>True
 | some (.dK _)=>True
 | some (.dT _)=>True
 | some (.set _ _)=>True
 | some (.ins _ _ _)=>True
 | some (.ext _)=>True
 | _=>False
section
variable {P:Program} {w:World} {H:Hp} {h h':Heap} {x e:Addr} {o':HO}
theorem uf.write (ok:uf P w H h) (mu:RL (H x)) (he:e=x∨H e=some (.own x)) (k:∀ b u,b≠e→h.get? b=some u→h'.get? b=some u) (heo:∃ u,h'.get? e=some u)
  (new:qQ P w (upd H x o') h' x o'):uf P w (upd H x o') h':=fun b u q=>by
 have nown:∀ c y,H c=some (.own y)→c≠x:=fun c y r z=>by subst z;rw[r] at mu;exact mu
 have ntup:∀ c xs,H c=some (.tup xs)→c≠x:=fun c xs r z=>by subst z;rw[r] at mu;exact mu
 by_cases hb:b=x
 ·subst hb;rw[zm] at q;cases q;exact new
 ·rw[zq hb] at q
  by_cases hbe:b=e
  ·have q':H b=some (.own x):=by
    rcases he with z | z
    ·exact absurd (hbe.trans z) hb
    ·rw[hbe];exact z
   rw[q] at q';cases q'
   obtain⟨v,hv⟩:=heo
   exact⟨v,by rw[hbe];exact hv⟩
  ·refine (ok b u q).stay (fun c v hc r=>k c v ?_ r) (fun c r=>by rw[zq (nown c b r)];exact r) fun c xs r=>by rw[zq (ntup c xs r)];exact r
   rcases hc with rfl | hc
   ·exact hbe
   ·rintro rfl
    rcases he with z | z
    ·exact nown c b hc z
    ·rw[hc] at z;cases z;exact hb rfl
end
structure Un (fs ex:List Addr) (H H':Hp) (h h':Heap):Prop where
 keep:∀ b o,h.get? b=some o→H b=none→b∉fs→b∉ex→h'.get? b=some o
 slot:∀ b o,h.get? b=some o→H b=none→b∈fs→b∉ex→∃ sl,h'.get? b=some { o with slots:=sl }
 free:∀ b o,h.get? b=some o→H b=none→b∉ex→H' b=none
 there:∀ b o,h.get? b=some o→b∉ex→∃ o',h'.get? b=some o'
 tups:∀ b xs,H b=some (.tup xs)→H' b=some (.tup xs)
 frzs:∀ b o u,H b=some (.frz o u)→H' b=some (.frz o u)
 tbls:∀ b ps,H b=some (.tbl ps)→∃ more,H' b=some (.tbl (ps++more))
section
variable {fs fs' ex ex':List Addr} {H H1 H2:Hp} {h h1 h2 h':Heap} {a x e:Addr} {o:HO}
theorem Un.any (u:Un fs ex H H1 h h1) {b:Addr} {ob:Obj} (q:h.get? b=some ob) (n:H b=none) (hx:b∉ex):∃ sl,h1.get? b=some { ob with slots:=sl }:=by
 by_cases hb:b∈fs
 ·exact u.slot b ob q n hb hx
 ·exact⟨ob.slots,u.keep b ob q n hb hx⟩
theorem Un.kept (k:∀ b u,h.get? b=some u→h'.get? b=some u):Un fs ex H H h h' :=
 ⟨fun b ob q _ _ _=>k b ob q,fun b ob q _ _ _=>⟨ob.slots,k b ob q⟩,fun _ _ _ n _=>n,fun b ob q _=>⟨ob,k b ob q⟩,fun _ _ q=>q,fun _ _ _ q=>q,fun _ ps q=>⟨#[],by rw[q];simp⟩⟩
theorem Un.refl:Un fs ex H H h h:=Un.kept fun _ _ q=>q
theorem Un.laid (k:∀ b u,h.get? b=some u→h'.get? b=some u) (hp:h.objs.size≤a) (hn:H a=none):Un fs ex H (upd H a o) h h' where
 keep:=fun b u q _ _ _=>k b u q
 slot:=fun b u q _ _ _=>⟨u.slots,k b u q⟩
 free:=fun b u q n _=>by rw[zq (b5 (Bq (bQ q) hp))];exact n
 there:=fun b u q _=>⟨u,k b u q⟩
 tups:=fun b xs q=>by rw[zq (zF q hn)];exact q
 frzs:=fun b u xs q=>by rw[zq (zF q hn)];exact q
 tbls:=fun b ps q=>⟨#[],by rw[zq (zF q hn),q];simp⟩
theorem Un.write (mu:RL (H x)) (he:e=x∨H e=some (.own x)) (k:∀ b u,b≠e→h.get? b=some u→h'.get? b=some u) (heo:∃ u,h'.get? e=some u):Un fs ex H (upd H x o) h h':=by
 have hx:∀ b,H b=none→b≠x:=fun b n z=>by subst z;rw[n] at mu;exact mu
 have hb:∀ b,H b=none→b≠e:=fun b n z=>by
  subst z
  rcases he with r | r
  ·exact hx b n r
  ·rw[n] at r;cases r
 have hm:∀ b u,H b=some u→¬ RL (some u)→b≠x:=fun b u q nm z=>by subst z;rw[q] at mu;exact nm mu
 refine⟨fun b u q n _ _=>k b u (hb b n) q,fun b u q n _ _=>⟨u.slots,k b u (hb b n) q⟩,fun b u q n _=>by rw[zq (hx b n)];exact n,fun b u q _=>?_,
  fun b xs q=>by rw[zq (hm b _ q fun z=>z)];exact q,fun b u xs q=>by rw[zq (hm b _ q fun z=>z)];exact q,fun b ps q=>⟨#[],by rw[zq (hm b _ q fun z=>z),q];simp⟩⟩
 by_cases hbe:b=e
 ·subst hbe;exact heo
 ·exact⟨u,k b u hbe q⟩
end
def tF (h:Heap) (H:Hp):List Addr:=(List.range h.objs.size).filter fun a=>(H a).isSome
def Vl (h:Heap) (H:Hp):Heap:=PySem.W.hideAll h (tF h H)
theorem GE (h:Heap) (H:Hp):(Vl h H).objs.size=h.objs.size:=PySem.W.hideAll_size _ _
theorem pf {h:Heap} {H:Hp} {b:Addr} {o:Obj} (e:h.get? b=some o) (n:H b=none):(Vl h H).get? b=some o :=
 PySem.W.hideAll_get _ e fun hm=>by
  have q:(H b).isSome=true:=(cu.mp hm).2
  rw[n] at q;simp at q
theorem LZ {h:Heap} {H:Hp} {b:Addr} {o:Obj} (e:(Vl h H).get? b=some o):h.get? b=some o∧H b=none:=by
 have e':h.get? b=some o:=PySem.W.of_hideAll (tF h H) e
 refine⟨e',?_⟩
 cases q:H b with
 | none=>rfl
 | some x =>
  have hm:b∈tF h H:=cu.mpr ⟨cw.mpr (bQ e'),by simp[q]⟩
  have z:(Vl h H).get? b=none:=PySem.W.hideAll_none (tF h H) hm
  rw[z] at e;cases e
def L3 (g h:Heap) (L:Addr):List (Addr × Obj):=(List.range h.objs.size).filterMap fun a=>if a=L∨(g.get? a).isSome=true then none else (h.get? a).map fun o=>(a,o)
def rest (g h:Heap) (L d:Addr):List (Addr × Obj):=(L3 g h L).filter fun p=>decide (p.1≠d)
structure Mod (K:PySem.W.Frag) (mg:Str→Option Value) (base:Heap):Prop where
 kin:K.In base
 glob:base.Ns mainGlobals mg
 blt:∃ mb,base.Ns builtinsNs mb∧∀ x:Str,x≠"__name__"→mb x=bootBuiltins x
 nolimit:base.NoLimit
structure Cx where
 prog:Program
 w:World
 K:PySem.W.Frag
 mg:Str→Option Value
 base:Heap
 A:Around
 N:List Str
 s₀:Shared
 H₀:Hp
 env:Env
 outer:List Env
 stack:List Env
 ex:List Addr
 fn:Str→Bool
 calm:Bool
 pn:List (Addr × Obj)
 xe:Value→Shared→Prop
def Gr (l:List Env):List Addr:=l.filterMap (·.frame)
abbrev Cx.fs (X:Cx):List Addr:=Gr X.outer
def tY (sc:Scope) (x:Str):Prop:=sc.names.lookup x=some .local∨sc.names.lookup x=some .cell∨sc.names.lookup x=some .free
def R9 (sc:Scope) (x:Str):Prop:=sc.names.lookup x=some .local∨sc.names.lookup x=some .cell
def Tw (env:Env) (h:Heap) (m:Str→Option Value) (x:Str) (u:Value):Prop :=
 (env.kindOf x=some .local∧m x=some u)∨((env.kindOf x=some .cell∨env.kindOf x=some .free)∧∃ c,env.cells.lookup x=some c∧h.IsCell c (some u))
structure Cx.Ok (X:Cx):Prop where
 mod:Mod X.K X.mg X.base
 kind:X.env.scope.kind = .function
 glob:X.env.globals=mainGlobals
 blt:X.env.builtins=builtinsNs
 above:X.s₀.heap.objs.size≤X.env.locals
 inj:∀ x y c,X.env.cells.lookup x=some c→X.env.cells.lookup y=some c→x=y
 has:∀ x,(X.env.kindOf x=some .cell∨X.env.kindOf x=some .free)→∃ c,X.env.cells.lookup x=some c
 cab:∀ x c,X.fn x=true→X.env.cells.lookup x=some c→X.s₀.heap.objs.size≤c
 hd:X.calm=true→X.A.handled=none
 frames:X.A.frames=some X.stack
 stk:X.stack=X.outer∨(X.stack=X.env::X.outer∧X.env.frame=some X.env.locals)
 exf:∀ b∈X.ex,b≠X.env.locals∧∀ x c,X.env.cells.lookup x=some c→c≠b
 bs:∀ b o,X.base.get? b=some o→X.s₀.heap.get? b=some o∧X.H₀ b=none
 bsz:X.base.objs.size≤X.s₀.heap.objs.size
 noex:∀ b o,X.base.get? b=some o→b∉X.ex
 exfs:∀ b∈X.ex,b∉X.fs
 funs:X.s₀.heap.FunFrames X.base X.outer
 frf:∀ b∈X.fs,X.H₀ b=none
structure zH (X:Cx) (pins:List (Addr × Obj)) (σ:List (Option V)) (H:Hp) (s:Shared):Prop where
 ok:X.Ok
 os:s.os=X.s₀.os
 bare:AllBare s.gens
 base:Un X.fs X.ex X.H₀ H X.s₀.heap s.heap
 loc:∃ m,s.heap.Ns X.env.locals m∧∀ (i:Nat) (x:Str) (v:V),X.N[i]? = some x→σ[i]? = some (some v)→tY X.env.scope x→∃ u,qp v u∧Tw X.env s.heap m x u
 cell:∀ x c,X.env.cells.lookup x=some c→∃ v,s.heap.IsCell c v
 free:H X.env.locals=none
 freeC:∀ x c,X.env.cells.lookup x=some c→H c=none
 pin:∀ p∈X.pn++pins,s.heap.get? p.1=some p.2∧H p.1=none∧p.1≠X.env.locals∧p.1∉X.fs∧∀ v,p.2.data≠.cell v
 hok:uf X.prog X.w H s.heap
 len:σ.length=X.N.length
section
variable {X:Cx} {pins:List (Addr × Obj)} {σ:List (Option V)} {H H':Hp} {s:Shared} {h':Heap}
theorem Cx.Ok.nofr (ok:X.Ok) {b:Addr} {o:Obj} (e:X.base.get? b=some o):b∉X.fs:=fun hb=>by
 have:=(ok.funs.mem hb).1
 rw[e] at this;cases this
theorem zH.bs (I:zH X pins σ H s):∀ b o,X.base.get? b=some o→s.heap.get? b=some o∧H b=none:=fun b o e =>
 ⟨I.base.keep b o (I.ok.bs b o e).1 (I.ok.bs b o e).2 (I.ok.nofr e) (I.ok.noex b o e),I.base.free b o (I.ok.bs b o e).1 (I.ok.bs b o e).2 (I.ok.noex b o e)⟩
theorem zH.bk (I:zH X pins σ H s):∀ b o,X.base.get? b=some o→s.heap.get? b=some o:=fun b o e=>(I.bs b o e).1
theorem zH.mod (I:zH X pins σ H s):Mod X.K X.mg X.base:=I.ok.mod
theorem zH.kIn (I:zH X pins σ H s):X.K.In s.heap:=I.ok.mod.kin.keeps I.bk
theorem zH.lt (I:zH X pins σ H s):X.env.locals<s.heap.objs.size:=let ⟨_,hn,_⟩:=I.loc;hn.lt
theorem zH.sz (I:zH X pins σ H s):X.s₀.heap.objs.size≤s.heap.objs.size:=Bj I.ok.above (cx I.lt)
theorem zH.nofs (I:zH X pins σ H s) {a:Addr} (h:s.heap.objs.size≤a):a∉X.fs:=fun hb=>by
 obtain⟨_,o,ho,_⟩:=I.ok.funs.mem hb
 exact absurd (Bq (bQ ho) (Bj I.sz h)) (cZ _)
theorem zH.cne (I:zH X pins σ H s):∀ x c,X.env.cells.lookup x=some c→c≠X.env.locals:=fun x c e z=>by
 obtain⟨v,o,ho,hd⟩:=I.cell x c e
 obtain⟨m,⟨o',es,ep,ho',hd',_⟩,_⟩:=I.loc
 rw[z,ho'] at ho;cases ho;rw[hd'] at hd;cases hd
theorem zH.funs (I:zH X pins σ H s):s.heap.FunFrames X.base X.outer:=by
 have all:∀ (l:List Env),(∀ b∈Gr l,b∈X.fs)→X.s₀.heap.FunFrames X.base l→s.heap.FunFrames X.base l:=by
  intro l
  induction l with
  | nil=>intro _ _;trivial
  | cons env r ih =>
   intro hs hl
   obtain⟨hk,⟨L,o,hf,hn,ho,hd⟩,hr⟩:=hl
   have hL:L∈X.fs:=hs L (by unfold Gr;rw[cy,hf];exact Bb)
   obtain⟨sl,e⟩:=I.base.slot L o ho (I.ok.frf L hL) hL fun z=>I.ok.exfs L z hL
   exact⟨hk,⟨L,_,hf,hn,e,hd⟩,ih (fun b hb=>hs b (by unfold Gr;rw[cy,hf];exact Bk _ hb)) hr⟩
 exact all X.outer (fun _ hb=>hb) I.ok.funs
theorem zH.stack (I:zH X pins σ H s):s.heap.FunFrames X.base X.stack:=by
 rcases I.ok.stk with e | ⟨e,hf⟩
 ·rw[e];exact I.funs
 ·rw[e]
  obtain⟨m,hn,_⟩:=I.loc
  refine .cons (by rw[I.ok.kind];decide) hf hn ?_ I.funs
  exact Cu (Bj I.ok.bsz I.ok.above)
theorem zH.stkSub (I:zH X pins σ H s):∀ b∈Gr X.stack,b∈X.env.locals::X.fs:=fun b hb=>by
 rcases I.ok.stk with e | ⟨e,hf⟩
 ·rw[e] at hb;exact Bk _ hb
 ·rw[e] at hb
  unfold Gr at hb
  rw[cy,hf] at hb
  exact hb
theorem zH.stkFree (I:zH X pins σ H s):∀ b∈Gr X.stack,H b=none:=fun b hb=>by
 rcases bN.mp (I.stkSub b hb) with e | hb
 ·rw[e];exact I.free
 ·obtain⟨_,o,ho,_⟩:=I.ok.funs.mem hb
  exact I.base.free b o ho (I.ok.frf b hb) fun z=>I.ok.exfs b z hb
theorem zH.step {g':Array GenState} {t':Nat} {d':Drawn} {ch:List Addr} (I:zH X pins σ H s)
  (hch:∀ b∈ch,(b∈X.ex∨X.s₀.heap.get? b=none)∧b≠X.env.locals∧(∀ x c,X.env.cells.lookup x=some c→c≠b)∧∀ p∈X.pn++pins,p.1≠b)
  (keep:∀ b o,b≠X.env.locals→b∉X.fs→b∉ch→s.heap.get? b=some o→H b=none→h'.get? b=some o)
  (slot:∀ b o,b≠X.env.locals→b∈X.fs→b∉ch→s.heap.get? b=some o→H b=none→∃ sl,h'.get? b=some { o with slots:=sl }) (free:∀ b o,b∉ch→s.heap.get? b=some o→H b=none→H' b=none)
  (there:∀ b o,b∉ch→s.heap.get? b=some o→∃ o',h'.get? b=some o')
  (tups:∀ b xs,H b=some (.tup xs)→H' b=some (.tup xs)) (frzs:∀ b o u,H b=some (.frz o u)→H' b=some (.frz o u)) (tbls:∀ b ps,H b=some (.tbl ps)→∃ more,H' b=some (.tbl (ps++more)))
  (ns:∀ m,s.heap.Ns X.env.locals m→h'.Ns X.env.locals m) (hok:uf X.prog X.w H' h') (hg:AllBare g') :
  zH X pins σ H' { s with heap:=h',gens:=g',drawn:=d',toks:=t' }:=by
 have neL:∀ b o,X.s₀.heap.get? b=some o→b≠X.env.locals:=fun b o e=>b5 (Bq (bQ e) I.ok.above)
 have neC:∀ b o,X.s₀.heap.get? b=some o→b∉X.ex→b∉ch:=fun b o e hx hb=>by
  rcases (hch b hb).1 with z | z
  ·exact hx z
  ·rw[z] at e;cases e
 have cellK:∀ x c,X.env.cells.lookup x=some c→∀ v,s.heap.IsCell c v→h'.IsCell c v:=fun x c e v ⟨o,ho,hd⟩=>by
  have nch:c∉ch:=fun z=>(hch c z).2.2.1 x c e rfl
  by_cases hc:c∈X.fs
  ·obtain⟨sl,q⟩:=slot c o (I.cne x c e) hc nch ho (I.freeC x c e)
   exact⟨_,q,hd⟩
  ·exact⟨o,keep c o (I.cne x c e) hc nch ho (I.freeC x c e),hd⟩
 refine⟨I.ok,I.os,hg,⟨fun b o e n hb hx=>?_,fun b o e n hb hx=>?_,fun b o e n hx=>?_,fun b o e hx=>?_,fun b xs e=>tups b xs (I.base.tups b xs e),fun b o xs e=>frzs b o xs (I.base.frzs b o xs e),fun b ps e=>?_⟩,?_,fun x c e=>?_,?_,fun x c e=>?_,fun p hp=>?_,hok,I.len⟩
 ·exact keep b o (neL b o e) hb (neC b o e hx) (I.base.keep b o e n hb hx) (I.base.free b o e n hx)
 ·obtain⟨sl,e1⟩:=I.base.slot b o e n hb hx
  obtain⟨sl',e2⟩:=slot b _ (neL b o e) hb (neC b o e hx) e1 (I.base.free b o e n hx)
  exact⟨sl',e2⟩
 ·obtain⟨o',e1⟩:=I.base.there b o e hx
  exact free b o' (neC b o e hx) e1 (I.base.free b o e n hx)
 ·obtain⟨o',e1⟩:=I.base.there b o e hx
  exact there b o' (neC b o e hx) e1
 ·obtain⟨m1,e1⟩:=I.base.tbls b ps e
  obtain⟨m2,e2⟩:=tbls b _ e1
  exact⟨m1++m2,by rw[e2,Array.append_assoc]⟩
 ·obtain⟨m,hn,hl⟩:=I.loc
  refine⟨m,ns m hn,fun i x v e1 e2 e3=>?_⟩
  obtain⟨u,r,l⟩:=hl i x v e1 e2 e3
  refine⟨u,r,?_⟩
  rcases l with l | ⟨k,c,e,z⟩
  ·exact .inl l
  ·exact .inr ⟨k,c,e,cellK x c e _ z⟩
 ·obtain⟨v,z⟩:=I.cell x c e
  exact⟨v,cellK x c e v z⟩
 ·obtain⟨m,⟨o,_,_,ho,_⟩,_⟩:=I.loc
  exact free _ o (fun z=>(hch _ z).2.1 rfl) ho I.free
 ·obtain⟨v,o,ho,hd⟩:=I.cell x c e
  exact free c o (fun z=>(hch c z).2.2.1 x c e rfl) ho (I.freeC x c e)
 ·obtain⟨e,n,ne,nf,d⟩:=I.pin p hp
  have nch:p.1∉ch:=fun z=>(hch p.1 z).2.2.2 p hp rfl
  exact⟨keep p.1 p.2 ne nf nch e n,free p.1 p.2 nch e n,ne,nf,d⟩
theorem zH.un {t':Nat} (I:zH X pins σ H s) (u:Un X.fs [] H H' s.heap h') (hok:uf X.prog X.w H' h'):zH X pins σ H' { s with heap:=h',toks:=t' }:=by
 obtain⟨m,⟨o,es,ep,ho,r⟩,_⟩:=id I.loc
 obtain⟨sl,hL⟩:=u.any ho I.free (by simp)
 exact I.step (g':=s.gens) (d':=s.drawn) (ch:=[]) (fun _ z=>nomatch z) (fun b o _ hb _ e n=>u.keep b o e n hb (by simp)) (fun b o _ hb _ e n=>u.slot b o e n hb (by simp)) (fun b o _ e n=>u.free b o e n (by simp)) (fun b o _ e=>u.there b o e (by simp)) u.tups u.frzs u.tbls (fun m' hm=>by
  obtain⟨o',es',ep',ho',r'⟩:=hm
  rw[ho] at ho';cases ho'
  exact⟨_,es',ep',hL,r'⟩) hok I.bare
theorem zH.call {g':Array GenState} {t':Nat} {d':Drawn} {ch:List Addr} (I:zH X pins σ H s) (u:Un (Gr X.stack) ch H H' s.heap h') (hok:uf X.prog X.w H' h') (hg:AllBare g')
  (hch:∀ b∈ch,(b∈X.ex∨X.s₀.heap.get? b=none)∧b≠X.env.locals∧(∀ x c,X.env.cells.lookup x=some c→c≠b)∧∀ p∈X.pn++pins,p.1≠b) :
  zH X pins σ H' { s with heap:=h',gens:=g',drawn:=d',toks:=t' }:=by
 obtain⟨m,⟨o,es,ep,ho,r⟩,_⟩:=id I.loc
 obtain⟨sl,hL⟩:=u.any ho I.free fun z=>(hch _ z).2.1 rfl
 exact I.step (ch:=ch) hch (fun b o hL hb hc e n=>u.keep b o e n (fun z=>(bN.mp (I.stkSub b z)).elim hL hb) hc) (fun b o _ _ hc e n=>u.any e n hc) (fun b o hc e n=>u.free b o e n hc) (fun b o hc e=>u.there b o e hc) u.tups u.frzs u.tbls (fun m' hm=>by
  obtain⟨o',es',ep',ho',r'⟩:=hm
  rw[ho] at ho';cases ho'
  exact⟨_,es',ep',hL,r'⟩) hok hg
theorem zH.turned {t':Nat} {it:Addr} (I:zH X pins σ H s) (k:∀ b o,b≠it→s.heap.get? b=some o→h'.get? b=some o) (hn:H it=none) (hL:it≠X.env.locals)
  (h1:it∈X.ex∨X.s₀.heap.get? it=none) (h2:∀ x c,X.env.cells.lookup x=some c→c≠it) (h3:∀ p∈X.pn++pins,p.1≠it):zH X pins σ H { s with heap:=h',toks:=t' }:=by
 have nit:∀ b u,H b=some u→b≠it:=fun b u e z=>by rw[z,hn] at e;cases e
 refine I.step (g':=s.gens) (d':=s.drawn) (ch:=[it]) (fun b hb=>?_) (fun b o _ _ hc e _=>k b o (fun z=>hc (by simp[z])) e) (fun b o _ _ hc e _=>⟨o.slots,k b o (fun z=>hc (by simp[z])) e⟩) (fun _ _ _ _ n=>n)
  (fun b o hc e=>⟨o,k b o (fun z=>hc (by simp[z])) e⟩) (fun _ _ e=>e) (fun _ _ _ e=>e) (fun b ps e=>⟨#[],by rw[e];simp⟩) (fun m hm=>?_) (fun b u e=>?_) I.bare
 ·have e:b=it:=by simpa using hb
  subst e
  exact⟨h1,hL,h2,h3⟩
 ·obtain⟨o,es,ep,ho,r⟩:=hm
  exact⟨o,es,ep,k _ o (Ne.symm hL) ho,r⟩
 ·refine (I.hok b u e).stay (fun c v hc q=>k c v ?_ q) (fun _ q=>q) fun _ _ q=>q
  rcases hc with z | z
  ·rw[z];exact nit b u e
  ·exact nit c _ z
theorem zH.tok (I:zH X pins σ H s) (t:Nat):zH X pins σ H { s with toks:=t }:=I.un (h':=s.heap) (t':=t) Un.refl I.hok
theorem zH.kept {t':Nat} (I:zH X pins σ H s) (k:∀ b u,s.heap.get? b=some u→h'.get? b=some u):zH X pins σ H { s with heap:=h',toks:=t' }:=I.un (Un.kept k) (I.hok.kept k)
theorem zH.laid {a:Addr} {o:HO} {t':Nat} (I:zH X pins σ H s) (k:∀ b u,s.heap.get? b=some u→h'.get? b=some u) (hp:s.heap.objs.size≤a) (new:qQ X.prog X.w (upd H a o) h' a o) :
  zH X pins σ (upd H a o) { s with heap:=h',toks:=t' }:=I.un (Un.laid k hp (I.hok.fresh hp)) (I.hok.laid k hp new)
theorem zH.write {x e:Addr} {o:HO} {t':Nat} (I:zH X pins σ H s) (mu:RL (H x)) (he:e=x∨H e=some (.own x)) (k:∀ b u,b≠e→s.heap.get? b=some u→h'.get? b=some u) (heo:∃ u,h'.get? e=some u)
  (new:qQ X.prog X.w (upd H x o) h' x o):zH X pins σ (upd H x o) { s with heap:=h',toks:=t' }:=I.un (Un.write mu he k heo) (I.hok.write mu he k heo new)
theorem zH.pins_of {pins':List (Addr × Obj)} (I:zH X pins σ H s) (h:∀ p∈pins',s.heap.get? p.1=some p.2∧H p.1=none∧p.1≠X.env.locals∧p.1∉X.fs∧∀ v,p.2.data≠.cell v):zH X pins' σ H s :=
 ⟨I.ok,I.os,I.bare,I.base,I.loc,I.cell,I.free,I.freeC,fun p hp=>(Bt.mp hp).elim (fun z=>I.pin p (cz _ z)) (h p),I.hok,I.len⟩
theorem Ut {N:List Str} (hN:N.Nodup) {i j:Nat} {x:Str} (a:N[i]? = some x) (b:N[j]? = some x):i=j:=by
 obtain⟨h1,e1⟩:=bU.mp a
 obtain⟨h2,e2⟩:=bU.mp b
 exact (List.getElem_inj hN).mp (e1.trans e2.symm)
theorem YX {M:Model} {A:Around} {E:Value→Shared→Prop} {i:Nat} {x:Str} {v:V} {u:Value} {Q:Unit→Shared→Prop} (I:zH X pins σ H s) (hN:X.N.Nodup) (hi:X.N[i]? = some x) (hx:R9 X.env.scope x) (r:qp v u)
  (h:∀ s',zH X pins (σ.set i (some v)) H s'→(∃ a,Heap.SameBut a s.heap s'.heap∧(a=X.env.locals∨X.env.cells.lookup x=some a))→Q () s') (hf:X.fn x=true∨X.env.scope.names.lookup x=some .local:=by first | exact .inl rfl | exact .inr rfl | assumption):wpAny M A (storeName X.env x u) Q E s:=by
 obtain⟨m,hn,hl⟩:=id I.loc
 have hcls:(X.env.scope.kind == .class || (X.env.scope.kind == .module&&X.env.locals != X.env.globals))=false:=by rw[I.ok.kind];rfl
 have hiσ:i < σ.length:=by rw[I.len];exact (bU.mp hi).1
 have cne:=I.cne
 have tracked:∀ {a:Addr} {h':Heap},(∃ o,s.heap.get? a=some o∧H a=none)→Heap.SameBut a s.heap h'→uf X.prog X.w H h':=fun {a h'} ha hs b ob e=>by
  obtain⟨_,_,hfree⟩:=ha
  refine (I.hok b ob e).stay (fun c w' hc q=>(hs.2 c ?_).trans q) (fun _ q=>q) fun _ _ q=>q
  rintro rfl
  rcases hc with rfl | hc
  ·rw[hfree] at e;cases e
  ·rw[hfree] at hc;cases hc
 rcases hx with hk | hk
 ·refine wpAny_storeName_local hk hn (fun h' hn' hs=>?_) hcls
  obtain⟨oL,_,_,hoL,_⟩:=id hn
  refine h _ ⟨I.ok,I.os,I.bare,⟨fun b o e n hb hx=>?_,fun b o e n hb hx=>?_,I.base.free,fun b o e hx=>?_,I.base.tups,I.base.frzs,I.base.tbls⟩,⟨_,hn',fun j y v' e1 e2 e3=>?_⟩,fun y c e=>?_,I.free,I.freeC,fun p hp=>?_,tracked ⟨oL,hoL,I.free⟩ hs,by simpa using I.len⟩ ⟨_,hs,.inl rfl⟩
  ·exact (hs.2 b (b5 (Bq (bQ e) I.ok.above))).trans (I.base.keep b o e n hb hx)
  ·obtain⟨sl,e1⟩:=I.base.slot b o e n hb hx
   exact⟨sl,(hs.2 b (b5 (Bq (bQ e) I.ok.above))).trans e1⟩
  ·obtain⟨o',e1⟩:=I.base.there b o e hx
   exact⟨o',(hs.2 b (b5 (Bq (bQ e) I.ok.above))).trans e1⟩
  ·by_cases hj:j=i
   ·subst hj
    rw[hi] at e1;cases e1
    rw[Cv hiσ] at e2
    cases e2
    exact⟨u,r,.inl ⟨hk,by simp⟩⟩
   ·rw[List.getElem?_set_ne (Ne.symm hj)] at e2
    obtain⟨u',r',q⟩:=hl j y v' e1 e2 e3
    refine⟨u',r',?_⟩
    rcases q with ⟨k,e⟩ | ⟨k,c,e,z⟩
    ·refine .inl ⟨k,?_⟩
     have:y≠x:=fun e=>hj (Ut hN e1 (e ▸ hi))
     simp[this,e]
    ·exact .inr ⟨k,c,e,z.sameBut hs (cne y c e)⟩
  ·obtain⟨w',z⟩:=I.cell y c e
   exact⟨w',z.sameBut hs (cne y c e)⟩
  ·obtain⟨e,n,ne,nf,d⟩:=I.pin p hp
   exact⟨(hs.2 p.1 ne).trans e,n,ne,nf,d⟩
 ·have hfn:X.fn x=true:=by
   rcases hf with z | z
   ·exact z
   ·rw[z] at hk;cases hk
  obtain⟨c,hc⟩:=I.ok.has x (.inl hk)
  obtain⟨w',z⟩:=I.cell x c hc
  refine wpAny_storeName_cell I.ok.kind hk hc z (fun h' hc' hs=>?_)
  obtain⟨oc,hoc,hocd⟩:=id z
  refine h { s with heap:=h' } ⟨I.ok,I.os,I.bare,⟨fun b o e n hb hx=>?_,fun b o e n hb hx=>?_,I.base.free,fun b o e hx=>?_,I.base.tups,I.base.frzs,I.base.tbls⟩,⟨m,hn.sameBut hs (Ne.symm (cne x c hc)),fun j y v' e1 e2 e3=>?_⟩,fun y c' e=>?_,I.free,I.freeC,fun p hp=>?_,tracked ⟨oc,hoc,I.freeC x c hc⟩ hs,by simpa using I.len⟩ ⟨c,hs,.inr hc⟩
  ·exact (hs.2 b (b5 (Bq (bQ e) (I.ok.cab x c hfn hc)))).trans (I.base.keep b o e n hb hx)
  ·obtain⟨sl,e1⟩:=I.base.slot b o e n hb hx
   exact⟨sl,(hs.2 b (b5 (Bq (bQ e) (I.ok.cab x c hfn hc)))).trans e1⟩
  ·obtain⟨o',e1⟩:=I.base.there b o e hx
   exact⟨o',(hs.2 b (b5 (Bq (bQ e) (I.ok.cab x c hfn hc)))).trans e1⟩
  ·by_cases hj:j=i
   ·subst hj
    rw[hi] at e1;cases e1
    rw[Cv hiσ] at e2
    cases e2
    exact⟨u,r,.inr ⟨.inl hk,c,hc,hc'⟩⟩
   ·rw[List.getElem?_set_ne (Ne.symm hj)] at e2
    obtain⟨u',r',q⟩:=hl j y v' e1 e2 e3
    refine⟨u',r',?_⟩
    rcases q with q | ⟨k,c',e,z'⟩
    ·exact .inl q
    ·refine .inr ⟨k,c',e,z'.sameBut hs ?_⟩
     rintro rfl
     exact hj (Ut hN e1 (I.ok.inj _ _ _ e hc ▸ hi))
  ·by_cases hcc:c'=c
   ·subst hcc;exact⟨_,hc'⟩
   ·obtain⟨w2,z2⟩:=I.cell y c' e
    exact⟨w2,z2.sameBut hs hcc⟩
  ·obtain⟨e,n,ne,nf,d⟩:=I.pin p hp
   refine⟨(hs.2 p.1 ?_).trans e,n,ne,nf,d⟩
   intro q
   rw[q,hoc] at e
   have q':oc=p.2:=Option.some.inj e
   exact d w' (by rw[← q'];exact hocd)
theorem Qh {M:Model} {A:Around} {E:Value→Shared→Prop} {i:Nat} {x:Str} {v:V} {u:Value} {Q:Unit→Shared→Prop} (I:zH X pins σ H s) (hN:X.N.Nodup) (hi:X.N[i]? = some x) (hx:R9 X.env.scope x) (r:qp v u)
  (h:∀ s',zH X pins (σ.set i (some v)) H s'→Q () s') (hf:X.fn x=true∨X.env.scope.names.lookup x=some .local:=by first | exact .inl rfl | exact .inr rfl | assumption):wpAny M A (storeName X.env x u) Q E s :=
 YX I hN hi hx r (fun s' I' _=>h s' I') hf
theorem zH.call' {s':Shared} {ch:List Addr} (I:zH X pins σ H s) (ho:s'.os=s.os) (u:Un (Gr X.stack) ch H H' s.heap s'.heap) (hok:uf X.prog X.w H' s'.heap) (hg:AllBare s'.gens)
  (hch:∀ b∈ch,(b∈X.ex∨X.s₀.heap.get? b=none)∧b≠X.env.locals∧(∀ x c,X.env.cells.lookup x=some c→c≠b)∧∀ p∈X.pn++pins,p.1≠b):zH X pins σ H' s':=by
 obtain⟨h',g',d',t',o'⟩:=s'
 have e:o'=s.os:=ho
 subst e
 exact I.call (g':=g') (t':=t') (d':=d') u hok hg hch
end
abbrev XK:=Value→Option Addr→Hp→Prop
abbrev St:=List (Option V)
abbrev VK:=V→Hp→Prop
abbrev TE:=St→Hp→VK→Prop
abbrev TT:=St→Hp→(Bool→Hp→Prop)→Prop
abbrev TA:=St→Hp→(List V→Hp→Prop)→Prop
structure jN where
 nx:St→Hp→Prop
 rt:VK
 bk:St→Hp→Prop:=fun _ _=>False
 ct:St→Hp→Prop:=fun _ _=>False
abbrev TS:=jN→St→Hp→Prop
def EP (X:Cx) (pins:List (Addr × Obj)) (σ:St) (Q:VK) (u:Value) (s':Shared):Prop:=∃ v H',zH X pins σ H' s'∧qp v u∧Q v H'
def TP (X:Cx) (pins:List (Addr × Obj)) (σ:St) (Q:Bool→Hp→Prop) (b:Bool) (s':Shared):Prop:=∃ H',zH X pins σ H' s'∧Q b H'
def AP (X:Cx) (pins:List (Addr × Obj)) (σ:St) (Q:List V→Hp→Prop) (us:List Value) (s':Shared):Prop:=∃ vs H',zH X pins σ H' s'∧z9 vs us∧Q vs H'
def SP (X:Cx) (pins:List (Addr × Obj)) (D:jN) (f:Flow) (s':Shared):Prop :=
 match f with
 | .next=>∃ σ' H',zH X pins σ' H' s'∧D.nx σ' H'
 | .brk=>∃ σ' H',zH X pins σ' H' s'∧D.bk σ' H'
 | .cont=>∃ σ' H',zH X pins σ' H' s'∧D.ct σ' H'
 | .ret u=>∃ v σ' H',zH X pins σ' H' s'∧qp v u∧D.rt v H'
def PE (X:Cx) (e:Expr) (t:TE):Prop :=
 ∀ (pins:List (Addr × Obj)) (s:Shared) (σ:St) (H:Hp) (Q:VK),zH X pins σ H s→t σ H Q→wpAny (model X.prog X.w) X.A (eval e X.env) (EP X pins σ Q) X.xe s
def PT (X:Cx) (e:Expr) (t:TT):Prop :=
 ∀ (pins:List (Addr × Obj)) (s:Shared) (σ:St) (H:Hp) (Q:Bool→Hp→Prop),zH X pins σ H s→t σ H Q→wpAny (model X.prog X.w) X.A (isTrue e X.env (eval e X.env)) (TP X pins σ Q) X.xe s
def PW (X:Cx) (e:Expr) (t:TT):Prop :=
 ∀ (whole:Sem Value) (pins:List (Addr × Obj)) (s:Shared) (σ:St) (H:Hp) (Q:Bool→Hp→Prop),zH X pins σ H s→t σ H Q→wpAny (model X.prog X.w) X.A (isTrue e X.env whole) (TP X pins σ Q) X.xe s
theorem PW.pt {X:Cx} {e:Expr} {t:TT} (h:PW X e t):PT X e t:=h _
def PA (X:Cx) (es:List Expr) (t:TA):Prop :=
 ∀ (pos:Pos) (pins:List (Addr × Obj)) (s:Shared) (σ:St) (H:Hp) (Q:List V→Hp→Prop),zH X pins σ H s→t σ H Q→wpAny (model X.prog X.w) X.A (spliced (backTo pos (starEach es X.env))) (AP X pins σ Q) X.xe s
def PS (X:Cx) (st:Stmt) (t:TS):Prop :=
 ∀ (pins:List (Addr × Obj)) (s:Shared) (σ:St) (H:Hp) (D:jN),zH X pins σ H s→t D σ H→wpAny (model X.prog X.w) X.A (exec st X.env) (SP X pins D) X.xe s
def jw (X:Cx) (st:List Stmt) (t:TS):Prop :=
 ∀ (pins:List (Addr × Obj)) (s:Shared) (σ:St) (H:Hp) (D:jN),zH X pins σ H s→t D σ H→wpAny (model X.prog X.w) X.A (execs st X.env) (SP X pins D) X.xe s
theorem qS {α:Type} {t:Sem α} {Q Q':α→Shared→Prop} {M:Model} {A:Around} {E:Value→Shared→Prop} {s:Shared} (h:wpAny M A t Q E s) (hQ:∀ a s,Q a s→Q' a s):wpAny M A t Q' E s:=wpAny_mono h hQ fun _ _ x=>x
section
variable {X:Cx}
theorem bJ {a b:Expr} {ta tb:TE} (ha:PE X a ta) (hb:PE X b tb) {pins:List (Addr × Obj)} {s:Shared} {σ:St} {H:Hp} {R:V→V→Hp→Prop} (I:zH X pins σ H s) (h:ta σ H fun x H1=>tb σ H1 fun y H2=>R x y H2)
  {α:Type} {Q:α→Shared→Prop} {f:Value→Value→Sem α}
  (hf:∀ v u s2 x y H2,zH X pins σ H2 s2→qp x v→qp y u→R x y H2→wpAny (model X.prog X.w) X.A (f v u) Q X.xe s2) :
  wpAny (model X.prog X.w) X.A (eval a X.env) (fun v s₁=>wpAny (model X.prog X.w) X.A (eval b X.env) (fun u s₂=>wpAny (model X.prog X.w) X.A (f v u) Q X.xe s₂) X.xe s₁) X.xe s:=by
 refine qS (ha pins s σ H _ I h) fun v s1 ⟨x,H1,I1,r1,q1⟩=>?_
 refine qS (hb pins s1 σ H1 _ I1 q1) fun u s2 ⟨y,H2,I2,r2,q2⟩=>?_
 exact hf v u s2 x y H2 I2 r1 r2 q2
def zP (i:Nat):TE:=fun σ H Q=>∃ v,σ[i]? = some (some v)∧Q v H
def tC (v:V):TE:=fun _ H Q=>Q v H
theorem Nh {i:Nat} {x:Str} {pos:Pos} (hN:X.N[i]? = some x) (hv:tY X.env.scope x) (hd:(x==("__debug__":Str))=false:=by decide) (hcd:(x==("__classdict__":Str))=false:=by decide):PE X (.Name x pos) (zP i):=by
 intro pins s σ H Q I h
 obtain⟨v,e,h⟩:=h
 obtain⟨m,hn,hl⟩:=I.loc
 obtain⟨u,r,l⟩:=hl i x v hN e hv
 have fin:EP X pins σ Q u s:=⟨v,H,I,r,h⟩
 rcases l with ⟨hk,hm⟩ | ⟨hk,c,hc,hcell⟩
 ·exact wpAny_Name (wpAny_loadName_local I.ok.kind hk hn hm fin) hd
 ·rcases hk with hk | hk
  ·exact wpAny_Name (wpAny_loadName_cell I.ok.kind hk hc hcell fin) hd
  ·exact wpAny_Name (wpAny_loadName_free I.ok.kind hk hc hcell fin hcd) hd
theorem ze {i j pos}:PE X (.Constant (.int i) j pos) (tC (.int i)):=fun _ _ _ H _ I h=>wpAny_Constant_int ⟨.int i,H,I.tok _,⟨_,rfl⟩,h⟩
theorem yP {b j pos}:PE X (.Constant (.bool b) j pos) (tC (.bl b)):=fun _ _ _ H _ I h=>Constant_bool ⟨.bl b,H,I,rfl,h⟩
theorem ON {j pos}:PE X (.Constant .none j pos) (tC .non):=fun _ _ _ H _ I h=>Constant_none ⟨.non,H,I,rfl,h⟩
theorem zA {x j pos}:PE X (.Constant (.str x) j pos) (tC (.str x)):=fun _ _ _ H _ I h=>Calls.Constant_str ⟨.str x,H,I.tok _,⟨_,rfl⟩,h⟩
def Gl (X:Cx) (x:Str):Prop:=X.env.kindOf x=some .globalImplicit
theorem vw {E:Value→Shared→Prop} {pins:List (Addr × Obj)} {s:Shared} {σ:St} {H:Hp} {x:Str} {u:Value} {pos:Pos} {Q:Value→Shared→Prop} (I:zH X pins σ H s) (hg:Gl X x) (hm:X.mg x=some u) (h:Q u s)
  (hd:(x==("__debug__":Str))=false:=by decide):wpAny (model X.prog X.w) X.A (eval (.Name x pos) X.env) Q E s :=
 Calls.Name_function_global I.ok.kind hg (Calls.loadGlobal_global (by rw[I.ok.glob];exact I.mod.glob.keeps I.bk) hm h) hd
theorem uc {E:Value→Shared→Prop} {pins:List (Addr × Obj)} {s:Shared} {σ:St} {H:Hp} {x:Str} {u:Value} {pos:Pos} {Q:Value→Shared→Prop} (I:zH X pins σ H s) (hg:Gl X x) (hm:X.mg x=none) (hv:bootBuiltins x=some u) (h:Q u s)
  (hn:x≠"__name__":=by decide) (hd:(x==("__debug__":Str))=false:=by decide):wpAny (model X.prog X.w) X.A (eval (.Name x pos) X.env) Q E s:=by
 obtain⟨mb,h1,h2⟩:=I.mod.blt
 exact Calls.Name_function_global I.ok.kind hg (Calls.loadGlobal_builtin (by rw[I.ok.glob];exact I.mod.glob.keeps I.bk) hm (by rw[I.ok.blt];exact h1.keeps I.bk) ((h2 x hn).trans hv) h) hd
theorem zZ {x:Str} {v:V} {u:Value} {pos:Pos} (hg:Gl X x) (hm:X.mg x=some u) (r:qp v u) (hd:(x==("__debug__":Str))=false:=by decide):PE X (.Name x pos) (tC v) :=
 fun _ _ _ H _ I h=>vw I hg hm ⟨v,H,I,r,h⟩ hd
theorem yg {x:Str} {v:V} {u:Value} {pos:Pos} (hg:Gl X x) (hm:X.mg x=none) (hv:bootBuiltins x=some u) (r:qp v u) (hn:x≠"__name__":=by decide) (hd:(x==("__debug__":Str))=false:=by decide):PE X (.Name x pos) (tC v) :=
 fun _ _ _ H _ I h=>uc I hg hm hv ⟨v,H,I,r,h⟩ hn hd
variable {a b:Expr} {ta tb:TE} {pos:Pos}
def PC (X:Cx) (op:CmpOp) (a b:Expr) (t:TE):Prop :=
 ∀ (pins:List (Addr × Obj)) (s:Shared) (σ:St) (H:Hp) (Q:VK),zH X pins σ H s→t σ H Q →
  wpAny (model X.prog X.w) X.A (eval a X.env) (fun v s₁=>wpAny (model X.prog X.w) X.A (eval b X.env) (fun u s₂=>wpAny (model X.prog X.w) X.A (compareOp op v u) (EP X pins σ Q) X.xe s₂) X.xe s₁) X.xe s
def tB (t:TE):TT:=fun σ H Q=>t σ H fun x H1=>∃ c,x = .bl c∧Q c H1
theorem TF {op:CmpOp} {t:TE} (h:PC X op a b t) (h1:behindInMarks op b=false:=by first | exact nobehind _ (by decide) (by decide) | rfl):PT X (.Compare a [op] [b] pos) (tB t):=by
 intro pins s σ H Q I hw
 refine wpAny_isTrue_Compare1 (qS (h pins s σ H _ I hw) fun v s1 h1=>qS h1 fun u s2 h2=>qS h2 fun c s3 ⟨x,H1,I1,r1,q1⟩=>?_) h1
 obtain⟨d,rfl,q⟩:=q1
 cases r1
 exact wpAny_truthy_bool ⟨H1,I1,q⟩
theorem qz {e:Expr} {t:TE} (h:PE X e t) (he:∀ whole,isTrue e X.env whole=(do let v ← whole;standAt e.pos;holding [v] (truthy v)):=by intro _;rfl):PT X e (tB t):=by
 intro pins s σ H Q I hw
 refine isTrue_plain (qS (h pins s σ H _ I hw) fun v s1 ⟨x,H1,I1,r1,q1⟩=>?_) (he _)
 obtain⟨d,rfl,q⟩:=q1
 cases r1
 exact wpAny_truthy_bool ⟨H1,I1,q⟩
variable {tA tB':TT} {rest:List Expr}
def tO (t u:TT):TT:=fun σ H Q=>t σ H fun c H1=>if c=true then u σ H1 Q else Q false H1
def bw (t u:TT):TT:=fun σ H Q=>t σ H fun c H1=>if c=true then Q true H1 else u σ H1 Q
def Tk (t:TT):TT:=fun σ H Q=>t σ H fun c H1=>Q (!c) H1
theorem wj (ha:PT X a tA):PW X (.BoolOp .And [a] pos) tA:=by
 intro wh pins s σ H Q I h
 refine isTrue_and (qS (ha pins s σ H Q I h) fun c s1 e=>?_)
 cases c with
 | true=>exact isTrue_and_nil e
 | false=>exact e
theorem vt (ha:PT X a tA):PW X (.BoolOp .Or [a] pos) tA:=by
 intro wh pins s σ H Q I h
 refine isTrue_or (qS (ha pins s σ H Q I h) fun c s1 e=>?_)
 cases c with
 | false=>exact isTrue_or_nil e
 | true=>exact e
theorem Qt (ha:PT X a tA) (hb:PW X (.BoolOp .And (b::rest) pos) tB'):PW X (.BoolOp .And (a::b::rest) pos) (tO tA tB'):=by
 intro wh pins s σ H Q I h
 refine isTrue_and (qS (ha pins s σ H _ I h) fun c s1 ⟨H1,I1,q1⟩=>?_)
 cases c with
 | true=>exact hb wh pins s1 σ H1 Q I1 q1
 | false=>exact⟨H1,I1,q1⟩
theorem vL (ha:PT X a tA) (hb:PW X (.BoolOp .Or (b::rest) pos) tB'):PW X (.BoolOp .Or (a::b::rest) pos) (bw tA tB'):=by
 intro wh pins s σ H Q I h
 refine isTrue_or (qS (ha pins s σ H _ I h) fun c s1 ⟨H1,I1,q1⟩=>?_)
 cases c with
 | true=>exact⟨H1,I1,q1⟩
 | false=>exact hb wh pins s1 σ H1 Q I1 q1
theorem qD (ha:PT X a tA):PT X (.UnaryOp .Not a pos) (Tk tA):=by
 intro pins s σ H Q I h
 exact isTrue_not (ha pins s σ H (fun c H1=>Q (!c) H1) I h)
def rS (ta tb:TE):TE:=fun σ H Q=>ta σ H fun x H1=>∃ c,x = .bl c∧if c=true then tb σ H1 Q else Q (.bl false) H1
def tG (ta tb:TE):TE:=fun σ H Q=>ta σ H fun x H1=>∃ c,x = .bl c∧if c=true then Q (.bl true) H1 else tb σ H1 Q
def rh (ta:TE):TE:=fun σ H Q=>ta σ H fun x H1=>∃ c,x = .bl c∧Q (.bl (!c)) H1
theorem yT {op} {t:TE} (h:PE X a t):PE X (.BoolOp op [a] pos) t:=fun pins s σ H Q I hw=>BoolOp_one (h pins s σ H Q I hw)
theorem yI (ha:PE X a ta) (hb:PE X (.BoolOp .And (b::rest) pos) tb):PE X (.BoolOp .And (a::b::rest) pos) (rS ta tb):=by
 intro pins s σ H Q I h
 refine BoolOp_and (qS (ha pins s σ H _ I h) fun v s1 ⟨x,H1,I1,r1,q1⟩=>?_)
 obtain⟨c,rfl,q1⟩:=q1
 cases r1
 refine wpAny_truthy_bool ?_
 cases c with
 | true=>exact hb pins s1 σ H1 Q I1 q1
 | false=>exact⟨.bl false,H1,I1,rfl,q1⟩
theorem Mf (ha:PE X a ta) (hb:PE X (.BoolOp .Or (b::rest) pos) tb):PE X (.BoolOp .Or (a::b::rest) pos) (tG ta tb):=by
 intro pins s σ H Q I h
 refine BoolOp_or (qS (ha pins s σ H _ I h) fun v s1 ⟨x,H1,I1,r1,q1⟩=>?_)
 obtain⟨c,rfl,q1⟩:=q1
 cases r1
 refine wpAny_truthy_bool ?_
 cases c with
 | false=>exact hb pins s1 σ H1 Q I1 q1
 | true=>exact⟨.bl true,H1,I1,rfl,q1⟩
theorem We (ha:PE X a ta):PE X (.UnaryOp .Not a pos) (rh ta):=by
 intro pins s σ H Q I h
 refine UnaryOp_ (qS (ha pins s σ H _ I h) fun v s1 ⟨x,H1,I1,r1,q1⟩=>?_)
 obtain⟨c,rfl,q1⟩:=q1
 cases r1
 exact not_of (wpAny_truthy_bool ⟨.bl (!c),H1,I1,rfl,q1⟩)
def bt (t:TT) (ta tb:TE):TE:=fun σ H Q=>t σ H fun c H1=>if c=true then ta σ H1 Q else tb σ H1 Q
theorem pi {c:Expr} (hc:PT X c tA) (ha:PE X a ta) (hb:PE X b tb):PE X (.IfExp c a b pos) (bt tA ta tb):=by
 intro pins s σ H Q I h
 refine wpAny_IfExp (qS (hc pins s σ H _ I h) fun d s1 ⟨H1,I1,q1⟩=>?_)
 cases d with
 | true=>exact ha pins s1 σ H1 Q I1 q1
 | false=>exact hb pins s1 σ H1 Q I1 q1
end
def z5 (K:PySem.W.Frag) (H:Hp) (a:Addr) (xs:List V):Prop :=
 Rd H a (.lst xs) ∨
  ∃ (o:Obj) (its:Array Value) (n:Nat),K.lookup a=some o∧o.cls = .type "list"∧o.dict=none∧o.data = .seq its n∧its.size≤sizeLine∧z9 xs its.toList
def qg (K:PySem.W.Frag) (H:Hp) (a:Addr) (xs:List V):Prop :=
 Rd H a (.tup xs) ∨
  ∃ (o:Obj) (its:Array Value) (n:Nat),K.lookup a=some o∧o.cls = .type "tuple"∧o.data = .seq its n∧its.size≤sizeLine∧z9 xs its.toList
def Tb:Value→Option V
 | .none=>some .non
 | .bool b=>some (.bl b)
 | .int i _=>some (.int i)
 | .str x _=>some (.str x)
 | .bytes b _=>some (.byt b)
 | .float b _=>some (.flt b)
 | .ref a=>some (.ref a)
 | .type n=>some (.ty n)
 | _=>none
theorem qp.abs {x:V} {u:Value} (r:qp x u):Tb u=some x:=by
 cases x with
 | non=>cases r;rfl
 | bl _=>cases r;rfl
 | int _=>obtain⟨t,rfl⟩:=r;rfl
 | str _=>obtain⟨t,rfl⟩:=r;rfl
 | byt _=>obtain⟨t,rfl⟩:=r;rfl
 | flt _=>obtain⟨t,rfl⟩:=r;rfl
 | ref _=>cases r;rfl
 | ty _=>cases r;rfl
theorem qp.inj {x y:V} {u:Value} (r:qp x u) (q:qp y u):x=y:=Option.some.inj (r.abs.symm.trans q.abs)
theorem z9.inj:∀ {xs ys:List V} {us:List Value},z9 xs us→z9 ys us→xs=ys
 | _,_,_,.nil,.nil=>rfl
 | _,_,_,.cons r t,.cons r' t'=>by rw[r.inj r',z9.inj t t']
section
variable {X:Cx} {pins:List (Addr × Obj)} {σ:St} {H:Hp} {s:Shared} {a:Addr} {xs ys:List V}
theorem z5.of {K:PySem.W.Frag} (h:H a=some (.lst xs)):z5 K H a xs:=.inl (.inl h)
theorem qg.of {K:PySem.W.Frag} (h:H a=some (.tup xs)):qg K H a xs:=.inl (.inl h)
theorem zH.list (I:zH X pins σ H s) (h:z5 X.K H a xs):∃ its:List Value,z9 xs its∧PlainL s.heap a its.toArray∧xs.length≤sizeLine:=by
 rcases h with h | ⟨o,its,n,hk,hc,hd,hs,hz,r⟩
 ·obtain⟨z,its,n,r,e⟩:=h.ok I.hok
  exact⟨its,r,⟨_,n,e,rfl,rfl,rfl⟩,z⟩
 ·refine⟨its.toList,r,⟨o,n,I.kIn a o hk,hc,hd,by simpa using hs⟩,?_⟩
  have e:=r.length
  simp only[Bw] at e
  omega
theorem zH.tuple (I:zH X pins σ H s) (h:qg X.K H a xs):∃ its:List Value,z9 xs its∧IsTup s.heap a its.toArray∧xs.length≤sizeLine:=by
 rcases h with h | ⟨o,its,n,hk,hc,hs,hz,r⟩
 ·obtain⟨z,its,r,p⟩:=h.ok I.hok
  exact⟨its,r,p,z⟩
 ·refine⟨its.toList,r,⟨o,I.kIn a o hk,hc,n,by simpa using hs⟩,?_⟩
  have e:=r.length
  simp only[Bw] at e
  omega
theorem zH.list_inj (I:zH X pins σ H s) (h:z5 X.K H a xs) (h':z5 X.K H a ys):xs=ys:=by
 obtain⟨its,r,⟨o,n,e,_,_,d⟩,_⟩:=I.list h
 obtain⟨its',r',⟨o',n',e',_,_,d'⟩,_⟩:=I.list h'
 rw[e] at e';cases e'
 rw[d] at d'
 injection d' with d1 _
 have:its=its':=by simpa using congrArg Array.toList d1
 subst this
 exact r.inj r'
theorem zH.tuple_inj (I:zH X pins σ H s) (h:qg X.K H a xs) (h':qg X.K H a ys):xs=ys:=by
 obtain⟨its,r,⟨o,e,_,n,d⟩,_⟩:=I.tuple h
 obtain⟨its',r',⟨o',e',_,n',d'⟩,_⟩:=I.tuple h'
 rw[e] at e';cases e'
 rw[d] at d'
 injection d' with d1 _
 have:its=its':=by simpa using congrArg Array.toList d1
 subst this
 exact r.inj r'
end
abbrev Cx.wish (X:Cx) (E:Value→Shared→Prop):Cx:={ X with xe:=E }
abbrev Cx.nox (X:Cx):Cx:=X.wish fun _ _=>False
theorem Cx.Ok.wish {X:Cx} (ok:X.Ok) (E:Value→Shared→Prop):(X.wish E).Ok :=
 ⟨ok.mod,ok.kind,ok.glob,ok.blt,ok.above,ok.inj,ok.has,ok.cab,ok.hd,ok.frames,ok.stk,ok.exf,ok.bs,ok.bsz,ok.noex,ok.exfs,ok.funs,ok.frf⟩
theorem Cx.Ok.unwish {X:Cx} {E:Value→Shared→Prop} (ok:(X.wish E).Ok):X.Ok :=
 ⟨ok.mod,ok.kind,ok.glob,ok.blt,ok.above,ok.inj,ok.has,ok.cab,ok.hd,ok.frames,ok.stk,ok.exf,ok.bs,ok.bsz,ok.noex,ok.exfs,ok.funs,ok.frf⟩
section
variable {X:Cx} {pins:List (Addr × Obj)} {σ:St} {H:Hp} {s:Shared} {E:Value→Shared→Prop}
theorem zH.wish (I:zH X pins σ H s) (E:Value→Shared→Prop):zH (X.wish E) pins σ H s:=⟨I.ok.wish E,I.os,I.bare,I.base,I.loc,I.cell,I.free,I.freeC,I.pin,I.hok,I.len⟩
theorem zH.unwish (I:zH (X.wish E) pins σ H s):zH X pins σ H s:=⟨I.ok.unwish,I.os,I.bare,I.base,I.loc,I.cell,I.free,I.freeC,I.pin,I.hok,I.len⟩
theorem SP.unwish {D:jN} {f:Flow} {s':Shared} (h:SP (X.wish E) pins D f s'):SP X pins D f s':=by
 cases f with
 | next=>obtain⟨σ',H',I,q⟩:=h;exact⟨σ',H',I.unwish,q⟩
 | brk=>obtain⟨σ',H',I,q⟩:=h;exact⟨σ',H',I.unwish,q⟩
 | cont=>obtain⟨σ',H',I,q⟩:=h;exact⟨σ',H',I.unwish,q⟩
 | ret u=>obtain⟨v,σ',H',I,r,q⟩:=h;exact⟨v,σ',H',I.unwish,r,q⟩
theorem jw.nox {st:List Stmt} {t:TS} (h:jw X.nox st t):jw X st t:=fun pins s σ H D I hw =>
 wpAny_mono (h pins s σ H D (I.wish _) hw) (fun _ _ q=>q.unwish) fun _ _ z=>False.elim z
end
section
variable {X:Cx} {st:Stmt} {rest:List Stmt} {t u:TS} {e:Expr} {te:TE} {pos:Pos}
def rj:TS:=fun D σ H=>D.nx σ H
def lP (t u:TS):TS:=fun D σ H=>t { D with nx:=u D } σ H
theorem zC:jw X [] rj:=fun _ _ σ H _ I h=>wpAny_execs_nil ⟨σ,H,I,h⟩
theorem zh (h1:PS X st t) (h2:jw X rest u):jw X (st::rest) (lP t u):=by
 intro pins s σ H D I h
 refine wpAny_execs_cons (qS (h1 pins s σ H { D with nx:=u D } I h) fun f s1 q=>?_)
 cases f with
 | next =>
  obtain⟨σ',H',I',q⟩:=q
  exact h2 pins s1 σ' H' D I' q
 | ret v=>exact q
 | brk=>exact q
 | cont=>exact q
theorem zi (h1:PS X st t):jw X [st] t:=by
 intro pins s σ H D I h
 refine wpAny_execs_cons (qS (h1 pins s σ H D I h) fun f s1 q=>?_)
 cases f with
 | next=>exact wpAny_execs_nil q
 | ret v=>exact q
 | brk=>exact q
 | cont=>exact q
theorem zH.quiet {pins:List (Addr × Obj)} {σ:St} {H:Hp} {s:Shared} (I:zH X pins σ H s):interactive X.env=false:=by simp[interactive,I.ok.kind]
def rM (te:TE):TS:=fun D σ H=>te σ H fun _ H1=>D.nx σ H1
theorem qv (he:PE X e te) (hs:swapsWith e none pos.line X.env=pure false:=by rfl):PS X (.Expr e pos) (rM te):=by
 intro pins s σ H D I h
 exact wpAny_Expr_any (qS (he pins s σ H _ I h) fun v s1 ⟨x,H1,I1,r1,q1⟩=>⟨σ,H1,I1,q1⟩) I.quiet hs
def mR (te:TE):TS:=fun D σ H=>te σ H D.rt
theorem zp (he:PE X e te):PS X (.Return (some e) pos) (mR te):=by
 intro pins s σ H D I h
 exact wpAny_Return_some (qS (he pins s σ H _ I h) fun v s1 ⟨x,H1,I1,r1,q1⟩=>⟨x,σ,H1,I1,r1,q1⟩)
def TH (c:TT) (t u:TS):TS:=fun D σ H=>c σ H fun b H1=>if b=true then t D σ H1 else u D σ H1
theorem zT {c:Expr} {a b:List Stmt} {tc:TT} (hc:PT X c tc) (ha:jw X a t) (hb:jw X b u):PS X (.If c a b pos) (TH tc t u):=by
 intro pins s σ H D I h
 refine wpAny_If (qS (hc pins s σ H _ I h) fun d s1 ⟨H1,I1,q1⟩=>?_)
 cases d with
 | true=>exact ha pins s1 σ H1 D I1 q1
 | false=>exact hb pins s1 σ H1 D I1 q1
def nA:TS:=fun _ _ _=>False
theorem qk {sts:List Stmt}:jw X sts nA:=fun _ _ _ _ _ _ h=>h.elim
end
abbrev TG:=V→St→Hp→(St→Hp→Prop)→Prop
abbrev M3:=List V→St→Hp→(St→Hp→Prop)→Prop
def PG (X:Cx) (target:Expr) (t:TG):Prop :=
 ∀ (pins:List (Addr × Obj)) (s:Shared) (σ:St) (H:Hp) (v:V) (u:Value) (Q:St→Hp→Prop),zH X pins σ H s→qp v u→t v σ H Q →
  wpAny (model X.prog X.w) X.A (assign target X.env u) (fun _ s'=>∃ σ' H',zH X pins σ' H' s'∧Q σ' H') X.xe s
def um (X:Cx) (ts:List Expr) (t:M3):Prop :=
 ∀ (pins:List (Addr × Obj)) (s:Shared) (σ:St) (H:Hp) (vs:List V) (us:List Value) (Q:St→Hp→Prop),zH X pins σ H s→z9 vs us→t vs σ H Q →
  wpAny (model X.prog X.w) X.A (assignInOrder ((assignEach ts X.env).map (·.2)) us) (fun _ s'=>∃ σ' H',zH X pins σ' H' s'∧Q σ' H') X.xe s
section
variable {X:Cx} {pos:Pos}
def zX (i:Nat):TG:=fun v σ H Q=>Q (σ.set i (some v)) H
theorem zS {i:Nat} {x:Str} (hN:X.N.Nodup) (hi:X.N[i]? = some x) (hx:R9 X.env.scope x) (hf:X.fn x=true∨X.env.scope.names.lookup x=some .local:=by first | exact .inl rfl | exact .inr rfl | assumption):PG X (.Name x pos) (zX i):=by
 intro pins s σ H v u Q I r h
 exact wpAny_assign_Name (Qh I hN hi hx r (fun s' I'=>⟨_,H,I',h⟩) hf)
def Jn:M3:=fun vs σ H Q=>vs=[]∧Q σ H
def jp (t:TG) (u:M3):M3:=fun vs σ H Q=>∃ v r,vs=v::r∧t v σ H fun σ' H'=>u r σ' H' Q
theorem Zd:um X [] Jn:=by
 intro pins s σ H vs us Q I r h
 obtain⟨e,h⟩:=h
 subst e
 cases r
 exact assignInOrder_nil ⟨σ,H,I,h⟩
theorem js {e:Expr} {es:List Expr} {t:TG} {u:M3} (h1:PG X e t) (h2:um X es u)
  (hs:(assignEach (e::es) X.env).map (·.2)=assign e X.env::(assignEach es X.env).map (·.2):=by rfl):um X (e::es) (jp t u):=by
 intro pins s σ H vs us Q I r h
 obtain⟨v,vr,e1,h⟩:=h
 subst e1
 cases r with
 | cons r rr =>
  rw[hs]
  refine assignInOrder_cons (qS (h1 pins s σ H _ _ _ I r h) fun _ s1 ⟨σ1,H1,I1,q1⟩=>?_)
  exact h2 pins s1 σ1 H1 _ _ Q I1 rr q1
def JT (K:PySem.W.Frag) (n:Nat) (t:M3):TG:=fun v σ H Q=>∃ a xs,v = .ref a∧qg K H a xs∧xs.length=n∧t xs σ H Q
theorem JF {es:List Expr} {k:Nat} {t:M3} {n:Nat} (hc:X.calm=true) (h:um X es t)
  (hn:(assignEach es X.env).length=n:=by rfl) (hst:(assignEach es X.env).findIdx? (·.1)=none:=by rfl):PG X (.Tuple es k pos) (JT X.K n t):=by
 intro pins s σ H v u Q I r hw
 obtain⟨a,xs,e1,hq,hl,hw⟩:=hw
 subst e1
 cases r
 obtain⟨its,rv,ht,hz⟩:=I.tuple hq
 refine assign_Tuple_tuple (I.ok.hd hc) ht (by simp[hn,← hl,rv.length]) hst fun h' hx=>?_
 have I1:zH X pins σ H { s with heap:=h' }:=I.kept (t':=s.toks) fun b o e=>hx b o (b5 (bQ e)) e
 exact h pins _ σ H xs _ Q I1 (by simpa using rv) hw
def Pa (te:TE) (g:TG):TS:=fun D σ H=>te σ H fun x H1=>g x σ H1 D.nx
theorem zI {i:Nat} {x:Str} {e:Expr} {te:TE} {pos':Pos} (hN:X.N.Nodup) (hi:X.N[i]? = some x) (hx:R9 X.env.scope x) (he:PE X e te) (hs:swapsWith e (some (.Name x pos')) pos.line X.env=pure false:=by rfl) (hf:X.fn x=true∨X.env.scope.names.lookup x=some .local:=by first | exact .inl rfl | exact .inr rfl | assumption) :
  PS X (.Assign [.Name x pos'] e pos) (Pa te (zX i)):=by
 intro pins s σ H D I h
 refine wpAny_Assign_Name (qS (he pins s σ H _ I h) fun v s1 ⟨y,H1,I1,r1,q1⟩=>?_) hs
 exact Qh I1 hN hi hx r1 (fun s2 I2=>⟨_,H1,I2,q1⟩) hf
end
section
variable {X:Cx} {pos:Pos}
end
structure It where
 go:Nat→Hp→Prop
 yld:Nat→Hp→V→Hp→Prop
 stop:Nat→Hp→Prop
def jC (X:Cx) (pins:List (Addr × Obj)) (H:Hp) (b:Addr):Prop :=
 H b=none∧b≠X.env.locals∧b∉X.fs∧(b∈X.ex∨X.s₀.heap.get? b=none)∧(∀ x c,X.env.cells.lookup x=some c→c≠b)∧∀ p∈X.pn++pins,p.1≠b
theorem zH.fpOk {X:Cx} {pins:List (Addr × Obj)} {σ:St} {H H':Hp} {s:Shared} {b:Addr} (I:zH X pins σ H s) (hb:s.heap.objs.size≤b) (hn:H' b=none):jC X pins H' b:=by
 refine⟨hn,Ca (Bq I.lt hb),I.nofs hb,.inr (Cu (Bj I.sz hb)),fun x c e z=>?_,fun p hp z=>?_⟩
 ·obtain⟨v,q⟩:=I.cell x c e
  exact absurd (Bq q.lt (by rw[z];exact hb)) (cZ _)
 ·exact absurd (Bq (bQ (I.pin p hp).1) (by rw[z];exact hb)) (cZ _)
structure Vi (P:Program) (w:World) (K:PySem.W.Frag) (tg:Expr) (J:It) (fp:List Addr) (it:Addr) (tn:Nat→Heap→Prop):Prop where
 mem:it∈fp
 obj:∀ i h,tn i h→∀ b∈fp,∃ o,h.get? b=some o∧∀ v,o.data≠.cell v
 keep:∀ i h h',tn i h→(∀ b∈fp,∀ o,h.get? b=some o→h'.get? b=some o)→tn i h'
 item:∀ (X:Cx),X.prog=P→X.w=w→X.K=K→X.calm=true→∀ (i:Nat) (pins:List (Addr × Obj)) (s:Shared) (σ:St) (H:Hp) (E:Value→Shared→Prop),zH X pins σ H s→(∀ b∈fp,jC X pins H b)→tn i s.heap→J.go i H →
  wpAny (model P w) X.A (pyNext (.ref it)) (fun r s1=>∃ u,r=some u ∧
   wpAny (model P w) X.A (letOwnedTupleGo tg (.ref it) u) (fun _ s2=>∃ x H',zH X pins σ H' s2∧qp x u∧J.yld i H x H'∧tn (i+1) s2.heap∧∀ b∈fp,H' b=none) E s1) E s
 done:∀ (X:Cx),X.prog=P→X.w=w→X.K=K→X.calm=true→∀ (i:Nat) (pins:List (Addr × Obj)) (s:Shared) (σ:St) (H:Hp) (E:Value→Shared→Prop),zH X pins σ H s→(∀ b∈fp,jC X pins H b)→tn i s.heap→J.stop i H →
  wpAny (model P w) X.A (pyNext (.ref it)) (fun r s1=>r=none∧zH X pins σ H s1) E s
 self:∀ (A:Around) (i:Nat) (s:Shared) (Q:Value→Shared→Prop) (E:Value→Shared→Prop),tn i s.heap→Q (.ref it) s→wpAny (model P w) A (pyIter (.ref it)) Q E s
abbrev TI:=St→Hp→(It→Hp→Prop)→Prop
def bf (X:Cx) (pins:List (Addr × Obj)) (σ:St) (tg:Expr) (R:It→Hp→Prop) (itv:Value) (s2:Shared):Prop :=
 ∃ (it:Addr) (fp:List Addr) (tn:Nat→Heap→Prop) (J:It) (H':Hp),itv = .ref it∧zH X pins σ H' s2∧Vi X.prog X.w X.K tg J fp it tn∧tn 0 s2.heap∧(∀ b∈fp,jC X pins H' b)∧R J H'
def PI (X:Cx) (tg iter:Expr) (wi:TI):Prop :=
 ∀ (pins:List (Addr × Obj)) (s:Shared) (σ:St) (H:Hp) (R:It→Hp→Prop),zH X pins σ H s→wi σ H R →
  wpAny (model X.prog X.w) X.A (eval iter X.env) (fun v s1=>wpAny (model X.prog X.w) X.A (pyIter v) (bf X pins σ tg R) X.xe s1) X.xe s
theorem Y2 {M:Model} {A:Around} {E:Value→Shared→Prop} {s:Shared} {tg:Expr} {it:Addr} {u:Value} {o:Obj} {n:String} {vs:Array Value} {Q:Unit→Shared→Prop} (ho:s.heap.get? it=some o) (hc:o.cls = .type n) (hd:o.data = .fields vs)
  (hn:["enumerate","zip","dict_itemiterator","dict_reverseitemiterator","odict_iterator","itertools.zip_longest","itertools.pairwise"].contains n=false) (hQ:Q () s):wpAny M A (letOwnedTupleGo tg (.ref it) u) Q E s:=by
 unfold letOwnedTupleGo
 cases tg <;> first
  | exact wpAny_pure hQ
  | (cases u <;> first
    | exact wpAny_pure hQ
    | (refine wpAny_bind (wpAny_load ho ?_)
       rw[hc,hd]
       show wpAny M A (if (["enumerate","zip","dict_itemiterator","dict_reverseitemiterator","odict_iterator","itertools.zip_longest","itertools.pairwise"].contains n&&vs[0]? == some (rawInt _))=true then _ else _) Q E s
       rw[if_neg (by intro h;rw[hn,Bool.false_and] at h;cases h)]
       exact wpAny_pure hQ))
def nK (K:PySem.W.Frag) (a:Addr):It :=
 ⟨fun i H=>∃ xs x,z5 K H a xs∧xs[i]? = some x,fun i H x H'=>H'=H∧∀ xs,z5 K H a xs→xs[i]? = some x,fun i H=>∃ xs,z5 K H a xs∧xs.length≤i⟩
def NA (K:PySem.W.Frag) (a:Addr):It :=
 ⟨fun i H=>∃ xs x,qg K H a xs∧xs[i]? = some x,fun i H x H'=>H'=H∧∀ xs,qg K H a xs→xs[i]? = some x,fun i H=>∃ xs,qg K H a xs∧xs.length≤i⟩
def Mb (lo:Int) (n:Nat):It:=⟨fun i _=>i<n,fun i H x H'=>H'=H∧x = .int (lo+i),fun i _=>n≤i⟩
theorem Gb {P:Program} {w:World} {K:PySem.W.Frag} {tg:Expr} (a it:Addr):Vi P w K tg (nK K a) [it] it (fun i h=>h.IsListIter it a i) where
 mem:=by simp
 obj:=fun i h st b hb=>by
  have e:b=it:=by simpa using hb
  subst e
  obtain⟨o,e,c,d⟩:=st
  exact⟨o,e,fun v z=>by rw[d] at z;cases z⟩
 keep:=fun i h h' st k=>st.at fun o e=>k it (by simp) o e
 item:=by
  intro X hP hw hK hc i pins s σ H E I hf st hg
  subst hP hw hK
  obtain⟨xs,x,hq,hx⟩:=hg
  obtain⟨its,rv,p,hz⟩:=I.list hq
  obtain⟨u,hu,ru⟩:=rv.get hx
  obtain⟨f0,f1,f2,f3,f4,f5⟩:=hf it (by simp)
  refine wpAny_pyNext_list_item st p.isList (x:=u) (by simpa using hu) fun h' st' sb=>?_
  have I1:zH X pins σ H { s with heap:=h' }:=I.turned (t':=s.toks) (fun b o hb e=>(sb.2 b hb).trans e) f0 f1 f3 f4 f5
  obtain⟨o,e,c,d⟩:=id st'
  exact⟨u,rfl,Y2 (s:={ s with heap:=h' }) e c d (by decide) ⟨x,H,I1,ru,⟨rfl,fun ys hy=>by rw[I.list_inj hy hq];exact hx⟩,st',fun b hb=>(hf b hb).1⟩⟩
 done:=by
  intro X hP hw hK hc i pins s σ H E I hf st hg
  subst hP hw hK
  obtain⟨xs,hq,hx⟩:=hg
  obtain⟨its,rv,p,hz⟩:=I.list hq
  obtain⟨f0,f1,f2,f3,f4,f5⟩:=hf it (by simp)
  have hl:=rv.length
  exact wpAny_pyNext_list_end (I.ok.hd hc) st p.isList (by simp;omega) fun h' eb=>⟨rfl,I.turned (t':=s.toks) (fun b o hb e=>eb b o hb e) f0 f1 f3 f4 f5⟩
 self:=fun _ _ _ _ _ st h=>wpAny_pyIter_listiter st h
theorem xn {P:Program} {w:World} {K:PySem.W.Frag} {tg:Expr} (a it:Addr):Vi P w K tg (NA K a) [it] it (fun i h=>h.IsTupleIter it a i) where
 mem:=by simp
 obj:=fun i h st b hb=>by
  have e:b=it:=by simpa using hb
  subst e
  obtain⟨o,e,c,d⟩:=st
  exact⟨o,e,fun v z=>by rw[d] at z;cases z⟩
 keep:=fun i h h' st k=>st.at fun o e=>k it (by simp) o e
 item:=by
  intro X hP hw hK hc i pins s σ H E I hf st hg
  subst hP hw hK
  obtain⟨xs,x,hq,hx⟩:=hg
  obtain⟨its,rv,p,hz⟩:=I.tuple hq
  obtain⟨u,hu,ru⟩:=rv.get hx
  obtain⟨f0,f1,f2,f3,f4,f5⟩:=hf it (by simp)
  refine wpAny_pyNext_tuple_item st (show s.heap.IsTuple a its.toArray from p) (x:=u) (by simpa using hu) fun h' st' sb=>?_
  have I1:zH X pins σ H { s with heap:=h' }:=I.turned (t':=s.toks) (fun b o hb e=>(sb.2 b hb).trans e) f0 f1 f3 f4 f5
  obtain⟨o,e,c,d⟩:=id st'
  exact⟨u,rfl,Y2 (s:={ s with heap:=h' }) e c d (by decide) ⟨x,H,I1,ru,⟨rfl,fun ys hy=>by rw[I.tuple_inj hy hq];exact hx⟩,st',fun b hb=>(hf b hb).1⟩⟩
 done:=by
  intro X hP hw hK hc i pins s σ H E I hf st hg
  subst hP hw hK
  obtain⟨xs,hq,hx⟩:=hg
  obtain⟨its,rv,p,hz⟩:=I.tuple hq
  obtain⟨f0,f1,f2,f3,f4,f5⟩:=hf it (by simp)
  have hl:=rv.length
  exact wpAny_pyNext_tuple_end (I.ok.hd hc) st (show s.heap.IsTuple a its.toArray from p) (by simp;omega) fun h' eb=>⟨rfl,I.turned (t':=s.toks) (fun b o hb e=>eb b o hb e) f0 f1 f3 f4 f5⟩
 self:=fun _ _ _ _ _ st h=>wpAny_pyIter_tupleiter st h
theorem xS {P:Program} {w:World} {K:PySem.W.Frag} {tg:Expr} (it:Addr) (lo:Int) (n:Nat):Vi P w K tg (Mb lo n) [it] it (fun i h=>IsRangeIter h it (lo+(i:Nat)*1) ((n:Int) - (i:Nat)) 1) where
 mem:=by simp
 obj:=fun i h st b hb=>by
  have e:b=it:=by simpa using hb
  subst e
  exact⟨_,st,fun v z=>by
   have z':Data.fields _=Data.cell v:=z
   cases z'⟩
 keep:=fun i h h' st k=>k it (by simp) _ st
 item:=by
  intro X hP hw hK hc i pins s σ H E I hf st hg
  subst hP hw hK
  obtain⟨f0,f1,f2,f3,f4,f5⟩:=hf it (by simp)
  have W:=Walks.range (prog:=X.prog) (w:=X.w) (I.ok.hd hc) it lo 1 n
  refine W.item i s _ _ hg st fun v h' tk hv st' kk=>?_
  obtain⟨t,rfl⟩:=hv
  have I1:zH X pins σ H { s with heap:=h',toks:=tk }:=I.turned (fun b o hb e=>kk b o (by simpa using hb) e) f0 f1 f3 f4 f5
  refine⟨_,rfl,Y2 (s:={ s with heap:=h',toks:=tk }) (n:="range_iterator") st' rfl rfl (by decide) ⟨.int (lo+i),H,I1,⟨t,?_⟩,⟨rfl,rfl⟩,st',fun b hb=>(hf b hb).1⟩⟩
  rw[Int.mul_one]
 done:=by
  intro X hP hw hK hc i pins s σ H E I hf st hg
  subst hP hw hK
  obtain⟨f0,f1,f2,f3,f4,f5⟩:=hf it (by simp)
  exact wpAny_pyNext_range_end (I.ok.hd hc) st (by have:n≤i:=hg;omega) fun h' eb=>⟨rfl,I.turned (t':=s.toks) (fun b o hb e=>eb b o hb e) f0 f1 f3 f4 f5⟩
 self:=fun _ _ _ _ _ st h=>wpAny_pyIter_rangeiter st h
section
variable {X:Cx} {tg:Expr}
def vG (K:PySem.W.Frag) (tl:TE):TI:=fun σ H R=>tl σ H fun x H1=>∃ a,x = .ref a∧(∃ xs,z5 K H1 a xs)∧R (nK K a) H1
def Z2 (K:PySem.W.Frag) (tl:TE):TI:=fun σ H R=>tl σ H fun x H1=>∃ a,x = .ref a∧(∃ xs,qg K H1 a xs)∧R (NA K a) H1
theorem yy {l:Expr} {tl:TE} (hl:PE X l tl):PI X tg l (vG X.K tl):=by
 intro pins s σ H R I h
 refine qS (hl pins s σ H _ I h) fun v s1 ⟨x,H1,I1,r1,q1⟩=>?_
 obtain⟨a,e,⟨xs,hq⟩,q⟩:=q1
 subst e
 cases r1
 obtain⟨its,rv,p,hz⟩:=I1.list hq
 refine wpAny_pyIter_list p.isList ?_
 refine⟨s1.heap.objs.size,[s1.heap.objs.size],_,_,H1,rfl,I1.kept (t':=s1.toks) fun b o e=>bW _ e,Gb a _,⟨_,Bd _ rfl,rfl,rfl⟩,fun b hb=>?_,q⟩
 have e:b=s1.heap.objs.size:=by simpa using hb
 subst e
 exact I1.fpOk (bK _) (I1.hok.fresh (bK _))
theorem jY {l:Expr} {tl:TE} (hl:PE X l tl):PI X tg l (Z2 X.K tl):=by
 intro pins s σ H R I h
 refine qS (hl pins s σ H _ I h) fun v s1 ⟨x,H1,I1,r1,q1⟩=>?_
 obtain⟨a,e,⟨xs,hq⟩,q⟩:=q1
 subst e
 cases r1
 obtain⟨its,rv,p,hz⟩:=I1.tuple hq
 refine wpAny_pyIter_tuple (show s1.heap.IsTuple a its.toArray from p) ?_
 refine⟨s1.heap.objs.size,[s1.heap.objs.size],_,_,H1,rfl,I1.kept (t':=s1.toks) fun b o e=>bW _ e,xn a _,⟨_,Bd _ rfl,rfl,rfl⟩,fun b hb=>?_,q⟩
 have e:b=s1.heap.objs.size:=by simpa using hb
 subst e
 exact I1.fpOk (bK _) (I1.hok.fresh (bK _))
theorem OI {pins:List (Addr × Obj)} {σ:St} {H:Hp} {s:Shared} {R:It→Hp→Prop} {E:Value→Shared→Prop} {lo hi:Int} {t u v:Tok} {tk:Nat} (I:zH X pins σ H s) (h1:-(2 ^ 62)≤lo) (h2:lo<2 ^ 62) (h3:-(2 ^ 62)≤hi) (h4:hi<2 ^ 62)
  (q:R (Mb lo (hi - lo).toNat) H):wpAny (model X.prog X.w) X.A (pyIter (.ref s.heap.objs.size)) (bf X pins σ tg R) E { s with heap:=s.heap.push { cls:=.type "range",data:=.fields #[.int lo t,.int hi u,.int 1 v] },toks:=tk }:=by
 refine wpAny_pyIter_range (IsRange.new ..) (small_one h1 h2 h3 h4) ?_
 have I1:zH X pins σ H { s with heap:=s.heap.push { cls:=.type "range",data:=.fields #[.int lo t,.int hi u,.int 1 v] },toks:=tk }:=I.kept fun b o e=>bW _ e
 refine⟨(s.heap.push { cls:=.type "range",data:=.fields #[.int lo t,.int hi u,.int 1 v] }).objs.size,[(s.heap.push { cls:=.type "range",data:=.fields #[.int lo t,.int hi u,.int 1 v] }).objs.size],_,_,H,rfl,
  I1.kept (t':=tk) fun b o e=>bW _ e,xS _ lo (hi - lo).toNat,?_,fun b hb=>?_,q⟩
 ·have e1:lo+((0:Nat):Int)*1=lo:=by simp
  have e2:(((hi - lo).toNat:Nat):Int) - ((0:Nat):Int)=Builtin.Range.rangeSize lo hi 1:=by rw[rangeSize_one];split <;> omega
  show IsRangeIter _ _ (lo+((0:Nat):Int)*1) ((((hi - lo).toNat:Nat):Int) - ((0:Nat):Int)) 1
  rw[e1,e2]
  exact Bd _ rfl
 ·have e:b=(s.heap.push { cls:=.type "range",data:=.fields #[.int lo t,.int hi u,.int 1 v] }).objs.size:=by simpa using hb
  subst e
  exact I1.fpOk (bK _) (I1.hok.fresh (bK _))
def Z9 (ta:TA):TI:=fun σ H R=>ta σ H fun vs H1=>∃ j:Int,vs=[.int j]∧-(2 ^ 62)≤j∧j<2 ^ 62∧R (Mb 0 j.toNat) H1
theorem yk {a:Expr} {ta:TA} {p pos:Pos} (hg:Gl X "range") (hm:X.mg "range" = none) (ha:PA X [a] ta) (hs:starEach [a] X.env=[(false,eval a X.env)]:=by rfl):PI X tg (.Call (.Name "range" p) [a] [] pos) (Z9 ta):=by
 intro pins s σ H R I h
 refine Call_ (uc I hg hm boot_range (PyProof.Rows.callWith_type1 (qS (ha pos pins s σ H _ I h) fun us s1 ⟨vs,H1,I1,r1,q1⟩=>?_) hs rfl))
 obtain⟨j,e,q1,q2,q⟩:=q1
 subst e
 cases r1 with
 | cons r rr =>
  cases rr
  obtain⟨t,rfl⟩:=r
  exact call_range_1 (OI I1 (by omega) (by omega) q1 q2 (by simpa using q))
def tW (wi:TI) (g:TG) (tb:TS):TS:=fun D σ H=>wi σ H fun J H1=>∃ W:Nat→Nat→St→Hp→Prop,(∃ m,W 0 m σ H1)∧∀ i m σ H,W i m σ H →
 (J.stop i H∧D.nx σ H)∨(J.go i H∧∃ N:St→Hp→Prop,(∀ σ' H',N σ' H'→∃ m',m'<m∧W (i+1) m' σ' H')∧∀ x H',J.yld i H x H'→g x σ H' fun σ2 H2=>tb { D with nx:=N,ct:=N,bk:=D.nx } σ2 H2)
def Qr (fp:List Addr) (h:Heap):List (Addr × Obj):=fp.filterMap fun b=>(h.get? b).map fun o=>(b,o)
theorem vF {fp:List Addr} {h:Heap} {b:Addr} {o:Obj} (hb:b∈fp) (e:h.get? b=some o):(b,o)∈Qr fp h:=List.mem_filterMap.mpr ⟨b,hb,by rw[e];rfl⟩
theorem G3 {fp:List Addr} {h:Heap} {p:Addr × Obj} (hp:p∈Qr fp h):p.1∈fp∧h.get? p.1=some p.2:=by
 obtain⟨b,hb,e⟩:=List.mem_filterMap.mp hp
 cases q:h.get? b with
 | none=>rw[q] at e;cases e
 | some o =>
  rw[q] at e
  have e':(b,o)=p:=Option.some.inj e
  subst e'
  exact⟨hb,q⟩
theorem zH.pinned {pins:List (Addr × Obj)} {σ:St} {H:Hp} {s:Shared} {fp:List Addr} (I:zH X pins σ H s) (hf:∀ b∈fp,jC X pins H b) (ho:∀ b∈fp,∃ o,s.heap.get? b=some o∧∀ v,o.data≠.cell v):zH X (pins++Qr fp s.heap) σ H s :=
 I.pins_of fun p hp=>(Bt.mp hp).elim (fun z=>I.pin p (Bz _ z)) fun z=>by
  obtain⟨hb,e⟩:=G3 z
  obtain⟨f0,f1,f2,_⟩:=hf p.1 hb
  obtain⟨o,e',d⟩:=ho p.1 hb
  rw[e] at e';cases e'
  exact⟨e,f0,f1,f2,d⟩
theorem zH.unpinned {pins pl:List (Addr × Obj)} {σ:St} {H:Hp} {s:Shared} (I:zH X (pins++pl) σ H s):zH X pins σ H s:=I.pins_of fun p hp=>I.pin p (Bz _ (cz _ hp))
theorem uI {iter:Expr} {body:List Stmt} {wi:TI} {g:TG} {tb:TS} {pos:Pos} (hp:PassesOwn (model X.prog X.w) X.A X.env X.xe) (hc:X.calm=true) (hi:PI X tg iter wi) (hg:PG X tg g) (hb:jw X body tb)
  (hs:∀ x,foldedSetIterable iter X.env x=pure x:=by intro _;rfl):PS X (.For tg iter body [] pos) (tW wi g tb):=by
 intro pins s σ H D I h
 refine wpAny_For (qS (hi pins s σ H _ I h) fun v s1 h1=>qS h1 fun itv s2 h2=>?_) hs
 obtain⟨it,fp,tn,J,H2,e,I2,T,st2,f2,W,⟨m0,w0⟩,turn⟩:=h2
 subst e
 have stat:∀ {H':Hp},(∀ b∈fp,H' b=none)→∀ b∈fp,jC X pins H' b:=fun hn b hb=>⟨hn b hb,(f2 b hb).2⟩
 refine codeAny_forLoop_any (fun n s'=>∃ i σ' H',zH X pins σ' H' s'∧tn i s'.heap∧(∀ b∈fp,H' b=none)∧W i n σ' H') ?_ m0 ⟨0,σ,H2,I2,st2,fun b hb=>(f2 b hb).1,w0⟩
 rintro n s3 ⟨i,σ3,H3,I3,st3,fr3,w3⟩
 rcases turn i n σ3 H3 w3 with ⟨stop,qn⟩ | ⟨go,N,hN,step⟩
 ·refine wpAny_passesOwn hp (qS (T.done X rfl rfl rfl hc i pins s3 σ3 H3 X.xe I3 (stat fr3) st3 stop) fun r s4 ⟨hr,I4⟩=>?_)
  subst hr
  exact wpAny_execs_nil ⟨σ3,H3,I4,qn⟩
 ·refine wpAny_passesOwn hp (qS (T.item X rfl rfl rfl hc i pins s3 σ3 H3 X.xe I3 (stat fr3) st3 go) fun r s4 ⟨u,hr,h4⟩=>?_)
  subst hr
  refine wpAny_passesOwn hp (qS h4 fun _ s5 ⟨x,H5,I5,r5,y5,st5,fr5⟩=>?_)
  have I5':=I5.pinned (stat fr5) (T.obj _ _ st5)
  refine wpAny_passesOwn hp (qS (hg _ s5 σ3 H5 x u _ I5' r5 (step x H5 y5)) fun _ s6 ⟨σ6,H6,I6,q6⟩=>?_)
  refine wpAny_passesOwn hp (qS (hb _ s6 σ6 H6 _ I6 q6) fun f s7 q7=>?_)
  have again:∀ {σ7:St} {H7:Hp},zH X (pins++Qr fp s5.heap) σ7 H7 s7→N σ7 H7→∃ m,m<n∧∃ i σ' H',zH X pins σ' H' s7∧tn i s7.heap∧(∀ b∈fp,H' b=none)∧W i m σ' H':=fun {σ7 H7} I7 n7=>by
   obtain⟨m',hm,w7⟩:=hN σ7 H7 n7
   refine⟨m',hm,i+1,σ7,H7,I7.unpinned,T.keep _ _ _ st5 fun b hb o e=>(I7.pin (b,o) (Bz _ (Bz _ (vF hb e)))).1,fun b hb=>?_,w7⟩
   obtain⟨o,e,d⟩:=T.obj _ _ st5 b hb
   exact (I7.pin (b,o) (Bz _ (Bz _ (vF hb e)))).2.1
  cases f with
  | next=>obtain⟨σ7,H7,I7,n7⟩:=q7;exact again I7 n7
  | cont=>obtain⟨σ7,H7,I7,n7⟩:=q7;exact again I7 n7
  | brk=>obtain⟨σ7,H7,I7,q7⟩:=q7;exact⟨σ7,H7,I7.unpinned,q7⟩
  | ret v=>obtain⟨x7,σ7,H7,I7,r7,q7⟩:=q7;exact⟨x7,σ7,H7,I7.unpinned,r7,q7⟩
end
theorem pb {K:PySem.W.Frag} {a:Addr} {xs:List V} {g:TG} {tb:TS} {D:jN} {σ:St} {H:Hp} (Pv:Nat→St→Hp→Prop) (h0:Pv 0 σ H) (hl:∀ i σ H,i≤xs.length→Pv i σ H→z5 K H a xs)
  (hs:∀ i x σ H,xs[i]? = some x→Pv i σ H→g x σ H fun σ2 H2=>tb { D with nx:=Pv (i+1),ct:=Pv (i+1),bk:=D.nx } σ2 H2) (hd:∀ σ H,Pv xs.length σ H→D.nx σ H) :
  ∃ W:Nat→Nat→St→Hp→Prop,(∃ m,W 0 m σ H)∧∀ i m σ H,W i m σ H →
   ((nK K a).stop i H∧D.nx σ H)∨((nK K a).go i H∧∃ N:St→Hp→Prop,(∀ σ' H',N σ' H'→∃ m',m'<m∧W (i+1) m' σ' H')∧∀ x H',(nK K a).yld i H x H'→g x σ H' fun σ2 H2=>tb { D with nx:=N,ct:=N,bk:=D.nx } σ2 H2):=by
 refine⟨fun i m σ H=>m=xs.length - i∧i≤xs.length∧Pv i σ H,⟨xs.length,by simp,Bo _,h0⟩,?_⟩
 rintro i m σ H ⟨rfl,hi,p⟩
 have q:=hl i σ H hi p
 by_cases hlt:i<xs.length
 ·refine .inr ⟨⟨xs,xs[i],q,by simp[hlt]⟩,Pv (i+1),fun σ' H' p'=>⟨xs.length - (i+1),by omega,rfl,hlt,p'⟩,fun x H' y=>?_⟩
  obtain⟨e,y⟩:=y
  subst e
  exact hs i x σ _ (y xs q) p
 ·have e:i=xs.length:=by omega
  subst e
  exact .inl ⟨⟨xs,q,bK _⟩,hd σ H p⟩
theorem mD {K:PySem.W.Frag} {a:Addr} {xs:List V} {g:TG} {tb:TS} {D:jN} {σ:St} {H:Hp} (Pv:Nat→St→Hp→Prop) (h0:Pv 0 σ H) (hl:∀ i σ H,i≤xs.length→Pv i σ H→qg K H a xs)
  (hs:∀ i x σ H,xs[i]? = some x→Pv i σ H→g x σ H fun σ2 H2=>tb { D with nx:=Pv (i+1),ct:=Pv (i+1),bk:=D.nx } σ2 H2) (hd:∀ σ H,Pv xs.length σ H→D.nx σ H) :
  ∃ W:Nat→Nat→St→Hp→Prop,(∃ m,W 0 m σ H)∧∀ i m σ H,W i m σ H →
   ((NA K a).stop i H∧D.nx σ H)∨((NA K a).go i H∧∃ N:St→Hp→Prop,(∀ σ' H',N σ' H'→∃ m',m'<m∧W (i+1) m' σ' H')∧∀ x H',(NA K a).yld i H x H'→g x σ H' fun σ2 H2=>tb { D with nx:=N,ct:=N,bk:=D.nx } σ2 H2):=by
 refine⟨fun i m σ H=>m=xs.length - i∧i≤xs.length∧Pv i σ H,⟨xs.length,by simp,Bo _,h0⟩,?_⟩
 rintro i m σ H ⟨rfl,hi,p⟩
 have q:=hl i σ H hi p
 by_cases hlt:i<xs.length
 ·refine .inr ⟨⟨xs,xs[i],q,by simp[hlt]⟩,Pv (i+1),fun σ' H' p'=>⟨xs.length - (i+1),by omega,rfl,hlt,p'⟩,fun x H' y=>?_⟩
  obtain⟨e,y⟩:=y
  subst e
  exact hs i x σ _ (y xs q) p
 ·have e:i=xs.length:=by omega
  subst e
  exact .inl ⟨⟨xs,q,bK _⟩,hd σ H p⟩
theorem Gj {lo:Int} {n:Nat} {g:TG} {tb:TS} {D:jN} {σ:St} {H:Hp} (Pv:Nat→St→Hp→Prop) (h0:Pv 0 σ H)
  (hs:∀ i σ H,i<n→Pv i σ H→g (.int (lo+i)) σ H fun σ2 H2=>tb { D with nx:=Pv (i+1),ct:=Pv (i+1),bk:=D.nx } σ2 H2) (hd:∀ σ H,Pv n σ H→D.nx σ H) :
  ∃ W:Nat→Nat→St→Hp→Prop,(∃ m,W 0 m σ H)∧∀ i m σ H,W i m σ H →
   ((Mb lo n).stop i H∧D.nx σ H)∨((Mb lo n).go i H∧∃ N:St→Hp→Prop,(∀ σ' H',N σ' H'→∃ m',m'<m∧W (i+1) m' σ' H')∧∀ x H',(Mb lo n).yld i H x H'→g x σ H' fun σ2 H2=>tb { D with nx:=N,ct:=N,bk:=D.nx } σ2 H2):=by
 refine⟨fun i m σ H=>m=n - i∧i≤n∧Pv i σ H,⟨n,by simp,Bo _,h0⟩,?_⟩
 rintro i m σ H ⟨rfl,hi,p⟩
 by_cases hlt:i<n
 ·refine .inr ⟨hlt,Pv (i+1),fun σ' H' p'=>⟨n - (i+1),by omega,rfl,hlt,p'⟩,fun x H' y=>?_⟩
  obtain⟨e,y⟩:=y
  subst e y
  exact hs i σ _ hlt p
 ·have e:i=n:=by omega
  subst e
  exact .inl ⟨bK _,hd σ H p⟩
abbrev R2:=V→V→Hp→VK→Prop
def uE (X:Cx) (f:Value→Value→Sem Value) (r:R2):Prop :=
 ∀ (pins:List (Addr × Obj)) (s:Shared) (σ:St) (H:Hp) (x y:V) (v u:Value) (Q:VK),zH X pins σ H s→qp x v→qp y u→r x y H Q →
  wpAny (model X.prog X.w) X.A (f v u) (EP X pins σ Q) X.xe s
def tJ (X:Cx) (f:Value→Sem Value) (r:V→Hp→VK→Prop):Prop :=
 ∀ (pins:List (Addr × Obj)) (s:Shared) (σ:St) (H:Hp) (x:V) (v:Value) (Q:VK),zH X pins σ H s→qp x v→r x H Q →
  wpAny (model X.prog X.w) X.A (f v) (EP X pins σ Q) X.xe s
def jq (X:Cx) (f:Value) (r:List V→Hp→VK→Prop):Prop :=
 ∀ (pins:List (Addr × Obj)) (s:Shared) (σ:St) (H:Hp) (xs:List V) (us:List Value) (Q:VK),zH X pins σ H s→z9 xs us→r xs H Q →
  wpAny (model X.prog X.w) X.A (call f us) (EP X pins σ Q) X.xe s
def jB (r:R2) (ta tb:TE):TE:=fun σ H Q=>ta σ H fun x H1=>tb σ H1 fun y H2=>r x y H2 Q
def bD (r:V→Hp→VK→Prop) (ta:TE):TE:=fun σ H Q=>ta σ H fun x H1=>r x H1 Q
def rI (C:Int→Int→Prop) (g:Int→Int→V):R2:=fun x y H Q=>∃ i j,x = .int i∧y = .int j∧C i j∧Q (g i j) H
def Yw (g:Int→Int→V):R2:=fun x y H Q=>∃ i j,x = .int i∧y = .int j∧Q (g i j) H
def rU (g:Int→V):V→Hp→VK→Prop:=fun x H Q=>∃ i,x = .int i∧Q (g i) H
section
variable {X:Cx} {a b c:Expr} {ta tb tc:TE} {pos:Pos}
theorem nQ (ha:PE X a ta) (hb:PE X b tb) {pins:List (Addr × Obj)} {s:Shared} {σ:St} {H:Hp} {R:V→V→Hp→Prop} (I:zH X pins σ H s)
  (h:ta σ H fun x H1=>tb σ H1 fun y H2=>R x y H2) {Q:Value→Shared→Prop} {f:Value→Value→Sem Value}
  (hf:∀ v u s2 x y H2,zH X pins σ H2 s2→qp x v→qp y u→R x y H2→wpAny (model X.prog X.w) X.A (f v u) Q X.xe s2) :
  wpAny (model X.prog X.w) X.A (eval a X.env) (fun v s₁=>wpAny (model X.prog X.w) X.A (eval b X.env) (fun u s₂=>wpAny (model X.prog X.w) X.A (f v u) Q X.xe s₂) X.xe s₁) X.xe s:=by
 refine qS (ha pins s σ H _ I h) fun v s1 ⟨x,H1,I1,r1,q1⟩=>?_
 refine qS (hb pins s1 σ H1 _ I1 q1) fun u s2 ⟨y,H2,I2,r2,q2⟩=>?_
 exact hf v u s2 x y H2 I2 r1 r2 q2
theorem zw {op:Operator} {r:R2} (ho:uE X (binaryOp op) r) (ha:PE X a ta) (hb:PE X b tb):PE X (.BinOp a op b pos) (jB r ta tb):=by
 intro pins s σ H Q I h
 exact wpAny_BinOp (nQ ha hb I h fun v u s2 x y H2 I2 rx ry q=>ho pins s2 σ H2 x y v u Q I2 rx ry q)
theorem uD {op:UnaryOp} {r:V→Hp→VK→Prop} (ho:tJ X (unaryOp op) r) (ha:PE X a ta):PE X (.UnaryOp op a pos) (bD r ta):=by
 intro pins s σ H Q I h
 exact UnaryOp_ (qS (ha pins s σ H _ I h) fun v s1 ⟨x,H1,I1,r1,q1⟩=>ho pins s1 σ H1 x v Q I1 r1 q1)
theorem tf {f:Value→Value→Sem Value} {C:Int→Int→Prop} {g:Int→Int→Int}
  (rule:∀ (i j:Int) (t u:Tok) (s:Shared) (Q:Value→Shared→Prop) (E:Value→Shared→Prop),C i j→Q (.int (g i j) s.toks) { s with toks:=s.toks+1 }→wpAny (model X.prog X.w) X.A (f (.int i t) (.int j u)) Q E s) :
  uE X f (rI C fun i j=>.int (g i j)):=by
 intro pins s σ H x y v u Q I rx ry h
 obtain⟨i,j,rfl,rfl,hc,q⟩:=h
 obtain⟨t,rfl⟩:=rx
 obtain⟨t',rfl⟩:=ry
 exact rule i j t t' s _ _ hc ⟨.int (g i j),H,I.tok _,⟨_,rfl⟩,q⟩
theorem NX {f:Value→Value→Sem Value} {g:Int→Int→Int}
  (rule:∀ (i j:Int) (t u:Tok) (s:Shared) (Q:Value→Shared→Prop) (E:Value→Shared→Prop),Q (.int (g i j) s.toks) { s with toks:=s.toks+1 }→wpAny (model X.prog X.w) X.A (f (.int i t) (.int j u)) Q E s) :
  uE X f (Yw fun i j=>.int (g i j)):=by
 intro pins s σ H x y v u Q I rx ry h
 obtain⟨i,j,rfl,rfl,q⟩:=h
 obtain⟨t,rfl⟩:=rx
 obtain⟨t',rfl⟩:=ry
 exact rule i j t t' s _ _ ⟨.int (g i j),H,I.tok _,⟨_,rfl⟩,q⟩
theorem Lw {f:Value→Value→Sem Value} {g:Int→Int→Bool}
  (rule:∀ (i j:Int) (t u:Tok) (s:Shared) (Q:Value→Shared→Prop) (E:Value→Shared→Prop),Q (.bool (g i j)) s→wpAny (model X.prog X.w) X.A (f (.int i t) (.int j u)) Q E s) :
  uE X f (Yw fun i j=>.bl (g i j)):=by
 intro pins s σ H x y v u Q I rx ry h
 obtain⟨i,j,rfl,rfl,q⟩:=h
 obtain⟨t,rfl⟩:=rx
 obtain⟨t',rfl⟩:=ry
 exact rule i j t t' s _ _ ⟨.bl (g i j),H,I,rfl,q⟩
def Lj (i j:Int):Prop:=0<j∧j<1073741824
def TR (i j:Int):Prop:=0≤j∧j≤1000000∧i.natAbs<2 ^ 64
def oI (i j:Int):Prop:=(-(2 ^ 64)<i∧i<2 ^ 64)∨(-(2 ^ 64)<j∧j<2 ^ 64)
theorem oI.ok {i j:Int} (h:oI i j):IntMulOk i j:=by
 rcases h with ⟨h1,h2⟩ | ⟨h1,h2⟩
 ·exact .of_left (intBits_le_64 h1 h2)
 ·exact .of_right (intBits_le_64 h1 h2)
theorem qj:uE X (binaryOp .Add) (Yw fun i j=>.int (i+j)):=NX fun _ _ _ _ _ _ _ q=>add_int q
theorem ua:uE X (binaryOp .Sub) (Yw fun i j=>.int (i - j)):=NX fun _ _ _ _ _ _ _ q=>sub_int q
theorem qJ:uE X (binaryOp .Mult) (rI oI fun i j=>.int (i*j)):=tf fun _ _ _ _ _ _ _ hc q=>mul_int q hc.ok
theorem qK:uE X (binaryOp .FloorDiv) (rI Lj fun i j=>.int (i/j)):=tf fun i j _ _ _ _ _ hc q=>by
 have h1:(0:Int)<j:=hc.1
 have h2:j<1073741824:=hc.2
 exact floordiv_int (by omega) (by rw[Int.fdiv_eq_ediv_of_nonneg i (by omega)];exact q) (.inl (PyProof.noPylong_small (by omega)))
theorem qd:uE X (binaryOp .Mod) (rI (fun _ j=>0<j) fun i j=>.int (i%j)):=tf fun i j _ _ _ _ _ hc q=>by
 have h1:(0:Int)<j:=hc
 exact mod_int' (by omega) (by rw[Int.fmod_eq_emod_of_nonneg i (by omega)];exact q)
theorem xD:uE X (binaryOp .Pow) (rI TR fun i j=>.int (i ^ j.toNat)):=tf fun _ _ _ _ _ _ _ hc q=>pow_int_small hc.1 hc.2.1 hc.2.2 q
theorem bB {f:Value→Sem Value} {g:Int→Int}
  (rule:∀ (i:Int) (t:Tok) (s:Shared) (Q:Value→Shared→Prop) (E:Value→Shared→Prop),Q (.int (g i) s.toks) { s with toks:=s.toks+1 }→wpAny (model X.prog X.w) X.A (f (.int i t)) Q E s) :
  tJ X f (rU fun i=>.int (g i)):=by
 intro pins s σ H x v Q I rx h
 obtain⟨i,rfl,q⟩:=h
 obtain⟨t,rfl⟩:=rx
 exact rule i t s _ _ ⟨.int (g i),H,I.tok _,⟨_,rfl⟩,q⟩
theorem j0:tJ X (unaryOp .USub) (rU fun i=>.int (-i)):=bB fun _ _ _ _ _ q=>neg_int q
end
def RT:V→V→Bool
 | .non,.non=>true | .non,.int _=>true | .int _,.non=>true | .non,.bl _=>true | .bl _,.non=>true | .non,.str _=>true | .str _,.non=>true
 | .int _,.int _=>true | .bl _,.bl _=>true | .str _,.str _=>true | .byt _,.byt _=>true
 | .int _,.str _=>true | .str _,.int _=>true | .bl _,.str _=>true | .str _,.bl _=>true
 | _,_=>false
def br:R2:=fun x y H Q=>RT x y=true∧Q (.bl (decide (x=y))) H
def bE:R2:=fun x y H Q=>RT x y=true∧Q (.bl (!decide (x=y))) H
theorem Xs {i j:Int}:decide (V.int i=V.int j)=(i==j):=by
 rw[BN]
 simp
theorem OF {i j:Bool}:decide (V.bl i=V.bl j)=(i==j):=by
 rw[BN]
 simp
theorem gb {i j:Str}:decide (V.str i=V.str j)=(i==j):=by
 rw[BN]
 simp
theorem Xr {i j:Array UInt8}:decide (V.byt i=V.byt j)=(i.toList==j.toList):=by
 rw[BN]
 cases i
 cases j
 simp
section
variable {X:Cx} {a b c:Expr} {ta tb tc:TE} {pos:Pos}
theorem qr {pins:List (Addr × Obj)} {σ:St} {H:Hp} {s:Shared} {Q:VK} {k k':Bool} (I:zH X pins σ H s) (q:Q (.bl k) H) (e:k=k'):EP X pins σ Q (.bool k') s:=by
 subst e
 exact⟨.bl k,H,I,rfl,q⟩
theorem qx:uE X (compareOp .Eq) br:=by
 intro pins s σ H x y v u Q I rx ry h
 obtain⟨hs,q⟩:=h
 cases x with
 | non =>
  cases rx
  cases y with
  | non=>cases ry;exact PySem.EqNone.eq_none_none (qr I q (by simp))
  | bl j=>cases ry;exact PySem.EqNone.eq_none_bool (qr I q (by simp))
  | int j=>obtain⟨t',rfl⟩:=ry;exact PySem.EqNone.eq_none_int (qr I q (by simp))
  | str j=>obtain⟨t',rfl⟩:=ry;exact PySem.EqNone.eq_none_str (qr I q (by simp))
  | _=>exact absurd (show false=true from hs) bV
 | bl i =>
  cases rx
  cases y with
  | non=>cases ry;exact PySem.EqNone.eq_bool_none (qr I q (by simp))
  | bl j=>cases ry;exact eq_bool (qr I q OF)
  | str j=>obtain⟨t',rfl⟩:=ry;exact PySem.EqMixed.eq_bool_str (qr I q (by simp))
  | _=>exact absurd (show false=true from hs) bV
 | int i =>
  obtain⟨t,rfl⟩:=rx
  cases y with
  | non=>cases ry;exact PySem.EqNone.eq_int_none (qr I q (by simp))
  | int j=>obtain⟨t',rfl⟩:=ry;exact eq_int (qr I q Xs)
  | str j=>obtain⟨t',rfl⟩:=ry;exact PySem.EqMixed.eq_int_str (qr I q (by simp))
  | _=>exact absurd (show false=true from hs) bV
 | str i =>
  obtain⟨t,rfl⟩:=rx
  cases y with
  | non=>cases ry;exact PySem.EqNone.eq_str_none (qr I q (by simp))
  | bl j=>cases ry;exact PySem.EqMixed.eq_str_bool (qr I q (by simp))
  | int j=>obtain⟨t',rfl⟩:=ry;exact PySem.EqMixed.eq_str_int (qr I q (by simp))
  | str j=>obtain⟨t',rfl⟩:=ry;exact eq_str (qr I q gb)
  | _=>exact absurd (show false=true from hs) bV
 | byt i =>
  obtain⟨t,rfl⟩:=rx
  cases y with
  | byt j=>obtain⟨t',rfl⟩:=ry;exact PySem.W.eq_bytes (qr I q Xr)
  | _=>exact absurd (show false=true from hs) bV
 | _=>cases y <;> exact absurd (show false=true from hs) bV
theorem XY:uE X (compareOp .NotEq) bE:=by
 intro pins s σ H x y v u Q I rx ry h
 obtain⟨hs,q⟩:=h
 cases x with
 | non =>
  cases rx
  cases y with
  | non=>cases ry;exact PySem.EqNone.ne_none_none (qr I q (by simp))
  | bl j=>cases ry;exact PySem.EqNone.ne_none_bool (qr I q (by simp))
  | int j=>obtain⟨t',rfl⟩:=ry;exact PySem.EqNone.ne_none_int (qr I q (by simp))
  | str j=>obtain⟨t',rfl⟩:=ry;exact PySem.EqNone.ne_none_str (qr I q (by simp))
  | _=>exact absurd (show false=true from hs) bV
 | bl i =>
  cases rx
  cases y with
  | non=>cases ry;exact PySem.EqNone.ne_bool_none (qr I q (by simp))
  | bl j=>cases ry;exact ne_bool (qr I q (congrArg not OF))
  | str j=>obtain⟨t',rfl⟩:=ry;exact PySem.EqMixed.ne_bool_str (qr I q (by simp))
  | _=>exact absurd (show false=true from hs) bV
 | int i =>
  obtain⟨t,rfl⟩:=rx
  cases y with
  | non=>cases ry;exact PySem.EqNone.ne_int_none (qr I q (by simp))
  | int j=>obtain⟨t',rfl⟩:=ry;exact ne_int (qr I q (congrArg not Xs))
  | str j=>obtain⟨t',rfl⟩:=ry;exact PySem.EqMixed.ne_int_str (qr I q (by simp))
  | _=>exact absurd (show false=true from hs) bV
 | str i =>
  obtain⟨t,rfl⟩:=rx
  cases y with
  | non=>cases ry;exact PySem.EqNone.ne_str_none (qr I q (by simp))
  | bl j=>cases ry;exact PySem.EqMixed.ne_str_bool (qr I q (by simp))
  | int j=>obtain⟨t',rfl⟩:=ry;exact PySem.EqMixed.ne_str_int (qr I q (by simp))
  | str j=>obtain⟨t',rfl⟩:=ry;exact ne_str (qr I q (congrArg not gb))
  | _=>exact absurd (show false=true from hs) bV
 | byt i =>
  obtain⟨t,rfl⟩:=rx
  cases y with
  | byt j=>obtain⟨t',rfl⟩:=ry;exact PySem.W.ne_bytes (qr I q (congrArg not Xr))
  | _=>exact absurd (show false=true from hs) bV
 | _=>cases y <;> exact absurd (show false=true from hs) bV
theorem YC:uE X (compareOp .Lt) (Yw fun i j=>.bl (decide (i<j))):=Lw fun _ _ _ _ _ _ _ q=>lt_int q
theorem UA:uE X (compareOp .LtE) (Yw fun i j=>.bl (decide (i≤j))):=Lw fun _ _ _ _ _ _ _ q=>le_int q
theorem jD:uE X (compareOp .Gt) (Yw fun i j=>.bl (decide (j<i))):=Lw fun _ _ _ _ _ _ _ q=>gt_int q
theorem Rs:uE X (compareOp .GtE) (Yw fun i j=>.bl (decide (j≤i))):=Lw fun _ _ _ _ _ _ _ q=>ge_int q
theorem YL:uE X (compareOp .In) (fun x y H Q=>∃ i j,x = .str i∧y = .str j∧Q (.bl (!(Builtin.Str.occurrences j i 0 j.length 1).isEmpty)) H):=by
 intro pins s σ H x y v u Q I rx ry h
 obtain⟨i,j,rfl,rfl,q⟩:=h
 obtain⟨t,rfl⟩:=rx
 obtain⟨t',rfl⟩:=ry
 exact in_str (qr I q rfl)
theorem mJ:uE X (compareOp .IsNot) (fun x y H Q=>y = .non∧Q (.bl (!decide (x = .non))) H):=by
 intro pins s σ H x y v u Q I rx ry h
 obtain⟨rfl,q⟩:=h
 cases ry
 refine isnot_none_gen (qr I q ?_)
 cases x <;> first
  | (cases rx;rfl)
  | (obtain⟨t,rfl⟩:=rx;rfl)
theorem zD (b:Expr) {op:CmpOp} (h:op≠.In:=by decide) (h2:op≠.NotIn:=by decide):behindInMarks op b=false:=by
 have e1:(op==CmpOp.In)=false:=by cases op <;> first | rfl | exact absurd rfl h
 have e2:(op==CmpOp.NotIn)=false:=by cases op <;> first | rfl | exact absurd rfl h2
 cases b <;> simp[behindInMarks,e1,e2]
theorem qB {op:CmpOp} {r:R2} (ho:uE X (compareOp op) r) (ha:PE X a ta) (hb:PE X b tb) (hm:behindInMarks op b=false):PE X (.Compare a [op] [b] pos) (jB r ta tb):=by
 intro pins s σ H Q I h
 exact wpAny_Compare1 (nQ ha hb I h fun v u s2 x y H2 I2 rx ry q=>ho pins s2 σ H2 x y v u Q I2 rx ry q) hm
def VB (t:TE):TT:=fun σ H Q=>t σ H fun x H'=>∃ k,x = .bl k∧Q k H'
theorem zE {op:CmpOp} {r:R2} (ho:uE X (compareOp op) r) (ha:PE X a ta) (hb:PE X b tb) (hm:behindInMarks op b=false):PT X (.Compare a [op] [b] pos) (VB (jB r ta tb)):=by
 intro pins s σ H Q I h
 refine wpAny_isTrue_Compare1 (qS (ha pins s σ H _ I h) fun v s1 ⟨x,H1,I1,r1,q1⟩=>qS (hb pins s1 σ H1 _ I1 q1) fun u s2 ⟨y,H2,I2,r2,q2⟩ =>
  qS (ho pins s2 σ H2 x y v u _ I2 r1 r2 q2) fun c s3 ⟨z,H3,I3,r3,k,e,q3⟩=>?_) hm
 subst e
 cases r3
 exact wpAny_truthy_bool ⟨H3,I3,q3⟩
theorem wC:(sizeLine:Nat)<2 ^ 63:=by rw[sizeLine_eq];decide
theorem qA:uE X (binaryOp .Add) (fun x y H Q=>∃ i j,x = .str i∧y = .str j∧i.length+j.length≤sizeLine∧Q (.str (i++j)) H):=by
 intro pins s σ H x y v u Q I rx ry h
 obtain⟨i,j,rfl,rfl,hz,q⟩:=h
 obtain⟨t,rfl⟩:=rx
 obtain⟨t',rfl⟩:=ry
 exact add_str (fun t' tk=>⟨.str (i++j),H,I.tok _,⟨_,rfl⟩,q⟩) hz
theorem vK {x:V} {us:List Value} (r:z9 [x] us):∃ u,us=[u]∧qp x u:=by
 cases r with
 | cons r1 r2=>cases r2;exact⟨_,rfl,r1⟩
theorem XF {x y:V} {us:List Value} (r:z9 [x,y] us):∃ u w',us=[u,w']∧qp x u∧qp y w':=by
 cases r with
 | cons r1 r2 =>
  cases r2 with
  | cons r3 r4=>cases r4;exact⟨_,_,rfl,r1,r3⟩
theorem wO (hc:X.calm=true):jq X (.builtin "max") (fun xs H Q=>∃ i j,xs=[.int i,.int j]∧Q (.int (if j > i then j else i)) H):=by
 intro pins s σ H xs us Q I r h
 obtain⟨i,j,rfl,q⟩:=h
 obtain⟨u,w',rfl,⟨t,rfl⟩,⟨t',rfl⟩⟩:=XF r
 refine max_two_ints (I.ok.hd hc) fun h' tk k=>⟨_,H,I.kept k,?_,q⟩
 by_cases hj:j > i
 ·rw[if_pos hj,if_pos hj];exact⟨_,rfl⟩
 ·rw[if_neg hj,if_neg hj];exact⟨_,rfl⟩
theorem wK (hc:X.calm=true):jq X (.builtin "min") (fun xs H Q=>∃ i j,xs=[.int i,.int j]∧Q (.int (if j<i then j else i)) H):=by
 intro pins s σ H xs us Q I r h
 obtain⟨i,j,rfl,q⟩:=h
 obtain⟨u,w',rfl,⟨t,rfl⟩,⟨t',rfl⟩⟩:=XF r
 refine min_two_ints (I.ok.hd hc) fun h' tk k=>⟨_,H,I.kept k,?_,q⟩
 by_cases hj:j<i
 ·rw[if_pos hj,if_pos hj];exact⟨_,rfl⟩
 ·rw[if_neg hj,if_neg hj];exact⟨_,rfl⟩
theorem wA:jq X (.type "int") (fun xs H Q=>(∃ i,xs=[.int i]∧Q (.int i) H)∨∃ k,xs=[.bl k]∧Q (.int (if k then 1 else 0)) H):=by
 intro pins s σ H xs us Q I r h
 rcases h with ⟨i,rfl,q⟩ | ⟨k,rfl,q⟩
 ·obtain⟨u,rfl,t,rfl⟩:=vK r
  exact call_int_int ⟨.int i,H,I,⟨_,rfl⟩,q⟩
 ·obtain⟨u,rfl,r1⟩:=vK r
  cases r1
  exact call_int_bool ⟨.int (if k then 1 else 0),H,I.tok _,⟨_,rfl⟩,q⟩
theorem ql:jq X (.type "str") (fun xs H Q=>∃ i,xs=[.int i]∧i.natAbs.log2<1920∧Q (.str (toString i)) H):=by
 intro pins s σ H xs us Q I r h
 obtain⟨i,rfl,hz,q⟩:=h
 obtain⟨u,rfl,t,rfl⟩:=vK r
 exact PySem.P.str_of_int hz ⟨.str _,H,I.tok _,⟨_,rfl⟩,q⟩
end
structure xa (h:Heap) (x dx C:Addr) (mA:Str→Option Value):Prop where
 obj:h.get? x=some (PySem.W.instObj C dx)
 ns:h.Ns1 dx mA
 ne:dx≠x
theorem gT {h:Heap} {dx:Addr} {mA:Str→Option Value} (n:h.Ns1 dx mA):∃ od,h.get? dx=some od∧∀ name,PySem.W.lookIn name od=some (mA name):=by
 obtain⟨o,es,ep,ho,hd,hk,_,hm⟩:=n
 refine⟨o,ho,fun name=>?_⟩
 have e:=hm name
 unfold nsFind findBy at e
 rw[← Array.find?_toList] at e
 unfold PySem.W.lookIn
 rw[hd]
 dsimp only
 split
 ·rename_i y q
  rw[q] at e
  exact congrArg some e
 ·rename_i q
  rw[q] at e
  have a:es.toList.any (·.refKey)=false:=by
   rw[List.any_eq_false]
   intro y hy
   obtain⟨z,t,hkey⟩:=hk y (Array.mem_toList_iff.mp hy)
   simp[DictEntry.refKey,hkey]
  have a':¬ es.toList.any (·.refKey)=true:=by rw[a];exact bV
  rw[if_neg a']
  exact congrArg some e
theorem xa.look {h:Heap} {x dx C:Addr} {mA:Str→Option Value} (I:xa h x dx C mA):∃ od,PySem.W.InstAt h x (PySem.W.instObj C dx) C (some od)∧∀ name,PySem.W.lookIn name od=some (mA name) :=
 let ⟨od,ho,hl⟩:=gT I.ns
 ⟨od,⟨I.obj,rfl,rfl,ho⟩,hl⟩
section
variable {prog:Program} {w:World} {A:Around} {E:Value→Shared→Prop} {s:Shared} {K:PySem.W.Frag} {x dx C f:Addr} {mA:Str→Option Value} {name:Str} {v:Value}
theorem LF {expr:Bool} {Q:Value→Shared→Prop} (X:K.In s.heap) (I:xa s.heap x dx C mA) (hg:PySem.W.plainGet K C name=true) (hh:PySem.W.hasDictIn K C=true)
  (ha:PySem.W.findIn K (.ref C) name=some none) (hv:mA name=some v) (hv':PySem.W.handedIn v=true) (h:Q v { s with toks:=s.toks+1 }) :
  wpAny (model prog w) A (getAttr (.ref x) name expr) Q E s:=by
 obtain⟨od,J,hl⟩:=I.look
 exact PySem.W.get_value X J (PySem.W.plainGet_of hg).1 (PySem.W.findObj_own hh ha rfl (by rw[hl,hv])) hv' h
theorem Om {pl:Sem Bool} {Q:Value × List Value→Shared→Prop} (X:K.In s.heap) (I:xa s.heap x dx C mA) (hg:PySem.W.plainGet K C name=true)
  (hf:PySem.W.findIn K (.ref C) name=some (some (.ref f))) (ht:PySem.W.isFn K (.ref f)=true) (hv:mA name=none) (h:Q (.ref f,[.ref x]) s) :
  wpAny (model prog w) A (getMethod (.ref x) name pl) Q E s:=by
 obtain⟨od,J,hl⟩:=I.look
 exact PySem.W.method_fn X J (PySem.W.plainGet_of hg).1 (PySem.W.plainGet_of hg).2 hf (beq_iff_eq.mp ht) (by show (PySem.W.lookIn name od).map (·.isSome)=some false;rw[hl,hv];rfl) h
theorem mV {ns:List Str} {Q:Unit→Shared→Prop} (X:K.In s.heap) (I:xa s.heap x dx C mA)
  (hs:PySem.W.findIn K (.ref C) "__setattr__" = some (some (.builtin "object.__setattr__"))) (hp:PySem.W.plainOver K C=true) (ht:PySem.W.takerIn K C name=some none) (hh:PySem.W.hasDictIn K C=true)
  (hw:PySem.Within mA ns) (hsz:ns.length≤sizeLine)
  (h:∀ h',xa h' x dx C (fun y=>if y=name then some v else mA y)→Heap.SameBut dx s.heap h'→Q () { s with heap:=h',toks:=s.toks+2 }) :
  wpAny (model prog w) A (setAttr (.ref x) name v) Q E s:=by
 obtain⟨od,J,hl⟩:=I.look
 refine PySem.W.set_plain X J hs (PySem.W.osa_open (s:={ s with toks:=s.toks+1 }) (r:=none) X J hp ht fun b=>?_)
 obtain⟨cd,hc,hd'⟩:=PySem.W.any_some hh
 have hx:s.heap.get? x=some ⟨.ref C,some dx,.plain,#[]⟩:=I.obj
 refine wpAny_bind (wpAny_pure (wpAny_bind (wpAny_bind (wpAny_loadPart hx (wpAny_bind (PySem.W.Looks.here (s:={ s with toks:=s.toks+1 }) (PySem.W.looks_clsIn X hc) ?_))))))
 rw[hd']
 refine wpAny_pure (a:=some dx) (wpAny_bind (wpAny_pure (wpAny_bind ?_)))
 refine wpAny_nsSet1 (s:={ s with toks:=s.toks+1 }) I.ns fun h' hn2 hs2=>?_
 obtain⟨oD,esD,epD,hoD,hdD,hcD⟩:=hn2.count (PySem.Within.cons name v hw)
 refine wpAny_bind (wpAny_lookBehind hoD (by rw[hdD];exact pastItsLine_dict (Bj hcD (by rw[Bi];omega))) ?_)
 exact wpAny_pure (h _ ⟨(hs2.2 _ (Ne.symm I.ne)).trans I.obj,hn2,I.ne⟩ hs2)
theorem oB {R:Result→Shared→Prop} {vs:List Value} {kw:List (Str × Value)} (X:K.In s.heap) (hm:PySem.W.makesIn K C=true)
  (hi:PySem.W.findIn K (.ref C) "__init__" = some (some (.ref f))) (hf:PySem.W.typeIn K (.ref f)=some (.type "function"))
  (h:codeAny (model prog w) (A.under (.builtin "type.__call__" ⟨.ref C::vs,kw⟩)) (.call (.ref f) ⟨.ref (s.heap.objs.size+1)::vs,kw⟩) (PySem.W.InitBack (s.heap.objs.size+1) R)
   { s with heap:=(s.heap.push PySem.W.emptyDict).push (PySem.W.instObj C s.heap.objs.size) }) :
  codeAny (model prog w) A (.call (.ref C) ⟨vs,kw⟩) R s:=by
 obtain⟨hh,g,d,t,os⟩:=s
 exact PySem.W.make_core (PySem.W.makes_of X hm) (PySem.W.looks_findIn X hi) (fun self=>PySem.W.bind_fn X self hf) (.inl rfl) h
end
def je (f:Str) (v:V):List (Str × V)→List (Str × V)
 | []=>[(f,v)]
 | (g,x)::r=>if g=f then (g,v)::r else (g,x)::je f v r
theorem ko (f g:Str) (v:V):∀ fs:List (Str × V),(je f v fs).lookup g=if g=f then some v else fs.lookup g
 | []=>by
  show List.lookup g [(f,v)]=_
  by_cases h:g=f
  ·have hb:(g==f)=true:=beq_iff_eq.mpr h
   simp only[List.lookup,hb,if_pos h]
  ·have hb:(g==f)=false:=beq_eq_false_iff_ne.mpr h
   simp only[List.lookup,hb,if_neg h]
 | (k,x)::r=>by
  have ih:=ko f g v r
  rw[show je f v ((k,x)::r)=(if k=f then (k,v)::r else (k,x)::je f v r) from rfl]
  by_cases hk:k=f
  ·rw[if_pos hk]
   by_cases h:g=k
   ·have hb:(g==k)=true:=beq_iff_eq.mpr h
    simp only[List.lookup,hb,if_pos (h.trans hk)]
   ·have hb:(g==k)=false:=beq_eq_false_iff_ne.mpr h
    simp only[List.lookup,hb,if_neg (fun e:g=f=>h (e.trans hk.symm))]
  ·rw[if_neg hk]
   by_cases h:g=k
   ·have hb:(g==k)=true:=beq_iff_eq.mpr h
    simp only[List.lookup,hb,if_neg (fun e:g=f=>hk (h.symm.trans e))]
   ·have hb:(g==k)=false:=beq_eq_false_iff_ne.mpr h
    simp only[List.lookup,hb]
    exact ih
theorem wD (f:Str) (v:V):∀ fs:List (Str × V),f∈(je f v fs).map (·.1)∧∀ g,g∈fs.map (·.1)→g∈(je f v fs).map (·.1)
 | []=>⟨by simp[je],fun g h=>by simp at h⟩
 | (k,x)::r=>by
  obtain⟨i1,i2⟩:=wD f v r
  rw[show je f v ((k,x)::r)=(if k=f then (k,v)::r else (k,x)::je f v r) from rfl]
  by_cases hk:k=f
  ·rw[if_pos hk]
   subst hk
   exact⟨by simp,fun g h=>by simpa using h⟩
  ·rw[if_neg hk]
   refine⟨?_,fun g h=>?_⟩
   ·rw[Br]
    exact Bk _ i1
   ·rw[Br] at h ⊢
    rcases bN.mp h with e | e
    ·exact bN.mpr (.inl e)
    ·exact Bk _ (i2 g e)
theorem kj (f:Str) (v:V):∀ fs:List (Str × V),(je f v fs).length≤fs.length+1
 | []=>by simp[je]
 | (k,x)::r=>by
  have ih:=kj f v r
  rw[show je f v ((k,x)::r)=(if k=f then (k,v)::r else (k,x)::je f v r) from rfl]
  by_cases hk:k=f
  ·rw[if_pos hk,Bi,Bi];omega
  ·rw[if_neg hk,Bi,Bi];omega
theorem uz.some_of {v:V} {o:Option Value} (r:uz (some v) o):∃ u,o=some u∧qp v u:=by
 cases o with
 | none=>exact (show False from r).elim
 | some u=>exact⟨u,rfl,r⟩
theorem uz.none_of {o:Option Value} (r:uz none o):o=none:=by
 cases o with
 | none=>rfl
 | some u=>exact (show False from r).elim
theorem GQ {v:V} {u:Value} (r:qp v u):PySem.W.handedIn u=true:=by
 cases v with
 | non=>cases (show u=Value.none from r);rfl
 | bl b=>cases (show u=Value.bool b from r);rfl
 | int i=>obtain⟨t,e⟩:=(show ∃ t,u=Value.int i t from r);cases e;rfl
 | str x=>obtain⟨t,e⟩:=(show ∃ t,u=Value.str x t from r);cases e;rfl
 | byt b=>obtain⟨t,e⟩:=(show ∃ t,u=Value.bytes b t from r);cases e;rfl
 | flt b=>obtain⟨t,e⟩:=(show ∃ t,u=Value.float b t from r);cases e;rfl
 | ref a=>cases (show u=Value.ref a from r);rfl
 | ty n=>cases (show u=Value.type n from r);rfl
section
variable {P:Program} {w:World} {H H':Hp} {h h':Heap} {a C dx:Addr} {fs fs':List (Str × V)}
theorem kZ (hok:uf P w H h) (e:H a=some (.ins C dx fs)):∃ mA,xa h a dx C mA∧(∀ f,uz (fs.lookup f) (mA f))∧PySem.Within mA (fs.map (·.1))∧fs.length≤1000∧H dx=some (.own a):=by
 obtain⟨d,z,ne,ob,mA,n,r,q⟩:=(show qQ P w H h a (.ins C dx fs) from hok a _ e)
 exact⟨mA,⟨ob,n,ne⟩,r,q,z,d⟩
end
structure uT (K:PySem.W.Frag) (C:Addr):Prop where
 pg:PySem.W.plainGet K C Str.empty=true
 hd:PySem.W.hasDictIn K C=true
 po:PySem.W.plainOver K C=true
 sa:PySem.W.findIn K (.ref C) "__setattr__" = some (some (.builtin "object.__setattr__"))
theorem uT.get {K:PySem.W.Frag} {C:Addr} (c:uT K C) (f:Str):PySem.W.plainGet K C f=true:=c.pg
def zU (K:PySem.W.Frag) (C:Addr) (f:Str):Prop:=PySem.W.findIn K (.ref C) f=some none
theorem zU.taker {K:PySem.W.Frag} {C:Addr} {f:Str} (n:zU K C f):PySem.W.takerIn K C f=some none:=by
 unfold PySem.W.takerIn
 rw[show PySem.W.findIn K (.ref C) f=some none from n]
 rfl
structure U9 (K:PySem.W.Frag) (C:Addr) (m:Str) (f:Addr):Prop where
 at_:PySem.W.findIn K (.ref C) m=some (some (.ref f))
 fn:PySem.W.isFn K (.ref f)=true
 kp:PySem.W.keepIn K (.ref f)=true
section
variable {X:Cx} {pins:List (Addr × Obj)} {σ:St} {H:Hp} {s:Shared} {a C dx:Addr} {fs:List (Str × V)} {f:Str} {v:V} {A:Around} {E:Value→Shared→Prop}
theorem Wi {b:Bool} {Q:Value→Shared→Prop} (I:zH X pins σ H s) (e:H a=some (.ins C dx fs)) (c:uT X.K C) (n:zU X.K C f) (l:fs.lookup f=some v)
  (h:∀ u s',zH X pins σ H s'→qp v u→Q u s'):wpAny (model X.prog X.w) A (getAttr (.ref a) f b) Q E s:=by
 obtain⟨mA,O,r,_,_,_⟩:=kZ I.hok e
 obtain⟨u,hu,ru⟩:=uz.some_of (v:=v) (o:=mA f) (by rw[← l];exact r f)
 exact LF I.kIn O (c.get f) c.hd n hu (GQ ru) (h u _ (I.tok _) ru)
theorem uM {m:Str} {g:Addr} {pl:Sem Bool} {Q:Value × List Value→Shared→Prop} (I:zH X pins σ H s) (e:H a=some (.ins C dx fs)) (c:uT X.K C) (k:U9 X.K C m g) (l:fs.lookup m=none)
  (h:Q (.ref g,[.ref a]) s):wpAny (model X.prog X.w) A (getMethod (.ref a) m pl) Q E s:=by
 obtain⟨mA,O,r,_,_,_⟩:=kZ I.hok e
 have hn:mA m=none:=uz.none_of (by rw[← l];exact r m)
 exact Om I.kIn O (c.get m) k.at_ k.fn hn h
theorem U7 {y:V} {u:Value} {Q:Unit→Shared→Prop} (I:zH X pins σ H s) (e:H a=some (.ins C dx fs)) (c:uT X.K C) (n:zU X.K C f) (hl:fs.length<1000) (ry:qp y u)
  (h:∀ s',zH X pins σ (upd H a (.ins C dx (je f y fs))) s'→Q () s'):wpAny (model X.prog X.w) A (setAttr (.ref a) f u) Q E s:=by
 obtain⟨mA,O,r,wi,_,ho⟩:=kZ I.hok e
 have hz:(fs.map (·.1)).length≤sizeLine:=by rw[bM,sizeLine_eq];omega
 refine mV I.kIn O c.sa c.po n.taker c.hd wi hz fun h' O' sb=>h _ ?_
 have hd:∃ o,h'.get? dx=some o:=let ⟨o,_,_,e',_⟩:=O'.ns;⟨o,e'⟩
 refine I.write (x:=a) (e:=dx) (by rw[e];exact True.intro) (.inr ho) (fun b q hb z=>(sb.2 b hb).trans z) hd ?_
 refine⟨by rw[zq O.ne];exact ho,?_,O.ne,O'.obj,_,O'.ns,fun g=>?_,fun g hg=>?_⟩
 ·have:=kj f y fs;omega
 ·show uz ((je f y fs).lookup g) (if g=f then some u else mA g)
  rw[ko]
  by_cases q:g=f
  ·rw[if_pos q,if_pos q];exact ry
  ·rw[if_neg q,if_neg q];exact r g
 ·by_cases q:g=f
  ·rw[q];exact (wD f y fs).1
  ·refine (wD f y fs).2 g (wi g fun z=>hg ?_)
   show (if g=f then some u else mA g)=none
   rw[if_neg q];exact z
theorem zH.made (I:zH X pins σ H s):zH X pins σ (upd (upd H s.heap.objs.size (.own (s.heap.objs.size+1))) (s.heap.objs.size+1) (.ins C s.heap.objs.size []))
  { s with heap:=(s.heap.push PySem.W.emptyDict).push (PySem.W.instObj C s.heap.objs.size) }:=by
 have e1:(s.heap.push PySem.W.emptyDict).get? s.heap.objs.size=some PySem.W.emptyDict:=Bd s.heap rfl
 have e2:((s.heap.push PySem.W.emptyDict).push (PySem.W.instObj C s.heap.objs.size)).get? (s.heap.objs.size+1)=some (PySem.W.instObj C s.heap.objs.size):=by
  have:=Bd (s.heap.push PySem.W.emptyDict) (o:=PySem.W.instObj C s.heap.objs.size) rfl
  rwa [cA] at this
 have e3:(s.heap.push PySem.W.emptyDict).Ns s.heap.objs.size (fun _=>none):=⟨PySem.W.emptyDict,#[],_,e1,rfl,(fun e he=>absurd he (by simp)),fun _=>rfl⟩
 have I1:=I.laid (a:=s.heap.objs.size) (o:=.own (s.heap.objs.size+1)) (h':=s.heap.push PySem.W.emptyDict) (t':=s.toks) (fun b u q=>bW _ q) (bK _) ⟨_,e1⟩
 refine I1.laid (a:=s.heap.objs.size+1) (o:=.ins C s.heap.objs.size []) (t':=s.toks) (fun b u q=>bW _ q) (Nat.le_of_eq (cA _ _)) ?_
 have ne:s.heap.objs.size≠s.heap.objs.size+1:=b5 (BX _)
 refine⟨by rw[zq ne,zm],Bo _,ne,e2,fun _=>none,(Heap.Ns1.of_empty e3).at fun o q=>bW _ q,fun _=>True.intro,fun y hy=>absurd rfl hy⟩
theorem lN {prog:Program} {w:World} {env:Env} {e:Expr} {f:Str} {pos:Pos} {s:Shared} {Q:Value→Shared→Prop} (hb:attributeBase e f env (eval e env)=eval e env)
  (h:wpAny (model prog w) A (eval e env) (fun o s₁=>wpAny (model prog w) A (getAttr o f true) Q E s₁) E s):wpAny (model prog w) A (eval (.Attribute e f pos) env) Q E s :=
 Attribute_any_ h (by rw[arm_eval_Attribute,hb])
end
def OB (K:PySem.W.Frag) (ta:TE) (f:Str):TE:=fun σ H Q=>ta σ H fun x H1=>∃ a C dx fs v,x = .ref a∧H1 a=some (.ins C dx fs)∧uT K C∧zU K C f∧fs.lookup f=some v∧Q v H1
def Tt (K:PySem.W.Frag) (ta tv:TE) (f:Str):TS:=fun D σ H=>tv σ H fun y H1=>ta σ H1 fun x H2=>∃ a C dx fs,x = .ref a∧H2 a=some (.ins C dx fs)∧uT K C∧zU K C f∧fs.length<1000 ∧
 D.nx σ (upd H2 a (.ins C dx (je f y fs)))
section
variable {X:Cx} {o e value:Expr} {f:Str} {pos pos' tpos:Pos} {ta tv:TE}
theorem zN (he:PE X e ta) (hb:attributeBase e f X.env (eval e X.env)=eval e X.env):PE X (.Attribute e f pos) (OB X.K ta f):=by
 intro pins s σ H Q I h
 refine lN hb (qS (he pins s σ H _ I h) fun u s1 ⟨x,H1,I1,rx,a,C,dx,fs,v,ex,ea,c,n,l,q⟩=>?_)
 subst ex
 obtain rfl:u=Value.ref a:=rx
 exact Wi I1 ea c n l fun u' s2 I2 ru=>⟨v,H1,I2,ru,q⟩
theorem yA (ha:PE X o ta) (hv:PE X value tv) (hs:swapsWith value (some (.Attribute o f pos')) pos.line X.env=pure false):PS X (.Assign [.Attribute o f pos'] value pos) (Tt X.K ta tv f):=by
 intro pins s σ H D I h
 refine plainObj_wpAny_Assign_Attribute (qS (hv pins s σ H _ I h) fun u s1 ⟨y,H1,I1,ry,q⟩=>qS (ha pins s1 σ H1 _ I1 q) fun ov s2 ⟨x,H2,I2,rx,a,C,dx,fs,ex,ea,c,n,l,q2⟩=>?_) hs
 subst ex
 obtain rfl:ov=Value.ref a:=rx
 exact U7 I2 ea c n l ry fun s3 I3=>⟨σ,_,I3,q2⟩
theorem m9 {pl:Sem Bool} {m:Str} {apos:Pos} {args:List Expr} {pins:List (Addr × Obj)} {s:Shared} {σ:St} {H:Hp} {Q:Value→Shared→Prop} {te:TE} (he:PE X e te) (I:zH X pins σ H s)
  (h:te σ H fun x H1=>∃ a C dx fs g,x = .ref a∧H1 a=some (.ins C dx fs)∧uT X.K C∧U9 X.K C m g∧fs.lookup m=none ∧
   ∀ s1,zH X pins σ H1 s1→wpAny (model X.prog X.w) X.A (callWith pos (.ref g) [.ref a] (backTo pos (starEach args X.env)) (backToKw pos (keywordEach [] X.env))) Q X.xe s1)
  (ht:eval (.Call (.Attribute e m apos) args [] pos) X.env=(do
   let ov ← eval e X.env
   standAt apos.atName
   let (f,first) ← holding [ov] (getMethod ov m pl)
   callWith pos f first (backTo pos (starEach args X.env)) (backToKw pos (keywordEach [] X.env)))) :
  wpAny (model X.prog X.w) X.A (eval (.Call (.Attribute e m apos) args [] pos) X.env) Q X.xe s:=by
 refine PySem.W.methodCall_KW (pl:=pl) (qS (he pins s σ H _ I h) fun u s1 ⟨x,H1,I1,rx,a,C,dx,fs,g,ex,ea,c,k,l,q⟩=>?_) ht
 subst ex
 obtain rfl:u=Value.ref a:=rx
 exact uM I1 ea c k l (q s1 I1)
end
section
variable {X:Cx} {pins:List (Addr × Obj)} {σ:St} {H:Hp} {s:Shared} {A:Around} {E:Value→Shared→Prop} {Q:Value→Shared→Prop} {c:Value} {b:Bool}
inductive wp (K:PySem.W.Frag) (H:Hp):V→Value→Prop where
 | non:wp K H .non (.type "NoneType")
 | bl (x:Bool):wp K H (.bl x) (.type "bool")
 | int (i:Int):wp K H (.int i) (.type "int")
 | str (x:Str):wp K H (.str x) (.type "str")
 | flt (x:UInt64):wp K H (.flt x) (.type "float")
 | lst {a:Addr} {xs:List V} (e:H a=some (.lst xs)):wp K H (.ref a) (.type "list")
 | frz {a:Addr} {o:Obj} {xs:List V} (e:H a=some (.frz o (.lst xs))):wp K H (.ref a) (.type "list")
 | tup {a:Addr} {xs:List V} (e:H a=some (.tup xs)):wp K H (.ref a) (.type "tuple")
 | dK {a:Addr} {kvs:List (yJ × V)} (e:H a=some (.dK kvs)):wp K H (.ref a) (.type "dict")
 | dT {a:Addr} {kvs:List (List yJ × V)} (e:H a=some (.dT kvs)):wp K H (.ref a) (.type "dict")
 | ins {a C dx:Addr} {fs:List (Str × V)} (e:H a=some (.ins C dx fs)) (cl:uT K C) (ha:PySem.W.findIn K (.ref C) "__class__" = some (some (.builtin "object.__class__")))
   (hn:PySem.W.specialIn K (.builtin "object.__class__") "__get__" = some (some (.builtin "getset_descriptor.__get__"))) (htk:PySem.W.takesIn K (.builtin "object.__class__")=some true)
   (hm:PySem.W.mroIn K C (.type "object")=some true):wp K H (.ref a) (.ref C)
theorem gI {x:V} {u t:Value} (I:zH X pins σ H s) (rx:qp x u) (ty:wp X.K H x t) (e:PySem.W.kitOne X.K t c=some b) (h:∀ tk,Q (.bool b) { s with toks:=tk }) :
  wpAny (model X.prog X.w) A (call (.builtin "isinstance") [u,c]) Q E s:=by
 cases ty with
 | non=>cases (show u=Value.none from rx);exact PySem.W.kia_one PySem.W.kitx_none I.kIn True.intro e (fun z=>nomatch z) h
 | bl y=>cases (show u=Value.bool y from rx);exact PySem.W.kia_one PySem.W.kitx_bool I.kIn True.intro e (fun z=>nomatch z) h
 | int i=>obtain⟨t,q⟩:=(show ∃ t,u=Value.int i t from rx);cases q;exact PySem.W.kia_one PySem.W.kitx_int I.kIn True.intro e (fun z=>nomatch z) h
 | str y=>obtain⟨t,q⟩:=(show ∃ t,u=Value.str y t from rx);cases q;exact PySem.W.kia_one PySem.W.kitx_str I.kIn True.intro e (fun z=>nomatch z) h
 | flt y=>obtain⟨t,q⟩:=(show ∃ t,u=Value.float y t from rx);cases q;exact PySem.W.kia_one PySem.W.kitx_float I.kIn True.intro e (fun z=>nomatch z) h
 | @lst a xs ea =>
  cases (show u=Value.ref a from rx)
  obtain⟨_,_,n,_,h1⟩:=(show qQ X.prog X.w H s.heap a (.lst xs) from I.hok a _ ea)
  exact PySem.W.kia_one PySem.W.kitx_list I.kIn ⟨_,h1,rfl⟩ e (fun z=>nomatch z) h
 | @frz a ob xs ea =>
  cases (show u=Value.ref a from rx)
  obtain⟨_,_,_,n,_,h1⟩:=(show qQ X.prog X.w H s.heap a (.frz ob (.lst xs)) from I.hok a _ ea)
  exact PySem.W.kia_one PySem.W.kitx_list I.kIn ⟨_,h1,rfl⟩ e (fun z=>nomatch z) h
 | @tup a xs ea =>
  cases (show u=Value.ref a from rx)
  obtain⟨_,_,_,p⟩:=(show qQ X.prog X.w H s.heap a (.tup xs) from I.hok a _ ea)
  obtain⟨o,h1,h2,_⟩:=p
  exact PySem.W.kia_one PySem.W.kitx_tuple I.kIn ⟨o,h1,h2⟩ e (fun z=>nomatch z) h
 | @dK a kvs ea =>
  cases (show u=Value.ref a from rx)
  obtain⟨_,_,vs,_,p⟩:=(show qQ X.prog X.w H s.heap a (.dK kvs) from I.hok a _ ea)
  obtain⟨o,es,ep,h1,h2,_⟩:=p
  exact PySem.W.kia_one PySem.W.kitx_dict I.kIn ⟨o,h1,h2.1⟩ e (fun z=>nomatch z) h
 | @dT a kvs ea =>
  cases (show u=Value.ref a from rx)
  obtain⟨_,_,xs,_,o,es,ep,h1,h2,_⟩:=(show qQ X.prog X.w H s.heap a (.dT kvs) from I.hok a _ ea)
  exact PySem.W.kia_one PySem.W.kitx_dict I.kIn ⟨o,h1,h2.1⟩ e (fun z=>nomatch z) h
 | @ins a C dx fs ea cl ha hn htk hm =>
  cases (show u=Value.ref a from rx)
  obtain⟨mA,O,_⟩:=kZ I.hok ea
  obtain⟨od,J,_⟩:=O.look
  exact PySem.W.kia_one (PySem.W.kitx_own (cl.get _) cl.hd ha hn htk hm) I.kIn J e (fun z=>nomatch z) h
end
structure ym (k:Nat) (A:Around):Prop where
 hd:A.handled=none
 dp:A.depth+3*k+5<recursionLimit
 un:A.units+16*k+200<cLine
theorem ym.mono {j k:Nat} {A:Around} (r:ym k A) (h:j≤k):ym j A:=⟨r.hd,by have:=r.dp;omega,by have:=r.un;omega⟩
theorem ym.deeper {k:Nat} {A:Around} (r:ym (k+1) A) (env:Env):ym k (A.deeper env) :=
 ⟨r.hd,by have:=r.dp;show A.depth+1+3*k+5<_;omega,by have:=r.un;show A.units+3+16*k+200<_;omega⟩
theorem xj {A:Around} {C:Addr} {us:List Value} {kw:List (Str × Value)}:(A.under (.builtin "type.__call__" ⟨.ref C::us,kw⟩)).depth=A.depth+1:=by
 first | rfl | simp[Around.under,Code.weight,Code.isCreation,Code.isGuard,Code.isCaller,Code.frames,Code.isFrame,guardIds]
theorem WY {A:Around} {C:Addr} {us:List Value} {kw:List (Str × Value)}:(A.under (.builtin "type.__call__" ⟨.ref C::us,kw⟩)).units=A.units+1:=by
 first | rfl | simp[Around.under,Code.cUnits,Code.frames,Code.isFrame]
theorem ym.make {k:Nat} {A:Around} (r:ym (k+1) A) (C:Addr) (us:List Value) (kw:List (Str × Value)):ym k (A.under (.builtin "type.__call__" ⟨.ref C::us,kw⟩)) :=
 ⟨r.hd,by have:=r.dp;rw[xj];omega,by have:=r.un;rw[WY];omega⟩
theorem ym.depth {k:Nat} {A:Around} (r:ym k A):A.depth<recursionLimit:=by have:=r.dp;omega
theorem ym.units {k:Nat} {A:Around} (r:ym k A):A.units+64<cLine:=by have:=r.un;omega
theorem ym.units0 {k:Nat} {A:Around} (r:ym k A):A.units<cLine:=by have:=r.un;omega
def q8:TA:=fun _ H Q=>Q [] H
def qf (ta:TE) (tr:TA):TA:=fun σ H Q=>ta σ H fun x H1=>tr σ H1 fun xs H2=>Q (x::xs) H2
section
variable {X:Cx} {e:Expr} {es:List Expr} {te:TE} {t:TA} {pos:Pos}
theorem zd:PA X [] q8:=fun _ _ _ _ H Q I h=>Calls.spliced_nil ⟨[],H,I,.nil,h⟩
theorem za (ha:PE X e te) (hr:PA X es t) (hs:starEach (e::es) X.env=(false,eval e X.env)::starEach es X.env:=by exact z6 rfl):PA X (e::es) (qf te t):=by
 intro pos pins s σ H Q I h
 rw[hs]
 show wpAny _ _ (spliced ((false,eval e X.env)::backTo pos (starEach es X.env))) _ _ s
 refine Calls.spliced_cons (qS (ha pins s σ H _ I h) fun u s1 ⟨x,H1,I1,r1,q1⟩=>?_)
 exact qS (hr pos pins s1 σ H1 _ I1 q1) fun us s2 ⟨xs,H2,I2,r2,q2⟩=>⟨x::xs,H2,I2,.cons r1 r2,q2⟩
end
abbrev Sp:=List V→Hp→VK→XK→Prop
abbrev wf:=List Env→Hp→Shared→XK→Value→Shared→Prop
structure UI (P:Program) (w:World) (K:PySem.W.Frag) (mg:Str→Option Value) (base:Heap) (A:Around) (outer:List Env) (s:Shared) (H:Hp):Prop where
 frames:A.frames=some outer
 mod:Mod K mg base
 bs:∀ b o,base.get? b=some o→s.heap.get? b=some o∧H b=none
 bsz:base.objs.size≤s.heap.objs.size
 funs:s.heap.FunFrames base outer
 frf:∀ b∈Gr outer,H b=none
 hok:uf P w H s.heap
 bare:AllBare s.gens
def CE (outer:List Env) (P:Program) (w:World) (H:Hp) (s:Shared) (Q:VK) (u:Value) (s':Shared):Prop :=
 ∃ v H',s'.os=s.os∧AllBare s'.gens∧Un (Gr outer) [] H H' s.heap s'.heap∧uf P w H' s'.heap∧qp v u∧Q v H'
def CR (CX:wf) (outer:List Env) (P:Program) (w:World) (H:Hp) (s:Shared) (Q:VK) (E:XK) (r:Result) (s':Shared):Prop :=
 match r with
 | .ok (.ret u)=>CE outer P w H s Q u s'
 | .ok _=>False
 | .error e=>CX outer H s E e s'
structure zJ (P:Program) (w:World) (K:PySem.W.Frag) (mg:Str→Option Value) (base:Heap) (CX:wf) (k:Nat) (f:Addr) (fd:FuncData) (ps:List Str) (sp:Sp):Prop where
 len:∀ vs H Q E,sp vs H Q E→vs.length=ps.length
 run:∀ (A:Around) (outer:List Env) (s:Shared) (H:Hp) (args:Args) (us:List Value) (vs:List V) (Q:VK) (E:XK),ym k A→UI P w K mg base A outer s H→BindsTo s fd args (ps.zip us)→z9 vs us→sp vs H Q E →
  codeAny (model P w) A (.call (.ref f) args) (CR CX outer P w H s Q E) s
theorem zJ.mono {P:Program} {w:World} {K:PySem.W.Frag} {mg:Str→Option Value} {base:Heap} {CX:wf} {j k:Nat} {f:Addr} {fd:FuncData} {ps:List Str} {sp:Sp} (F:zJ P w K mg base CX j f fd ps sp) (h:j≤k) :
  zJ P w K mg base CX k f fd ps sp:=⟨F.len,fun A outer s H args us vs Q E hr=>F.run A outer s H args us vs Q E (hr.mono h)⟩
theorem zJ.imp {P:Program} {w:World} {K:PySem.W.Frag} {mg:Str→Option Value} {base:Heap} {CX:wf} {k:Nat} {f:Addr} {fd:FuncData} {ps:List Str} {sp sp':Sp} (F:zJ P w K mg base CX k f fd ps sp)
  (h:∀ vs H Q E,sp' vs H Q E→sp vs H Q E):zJ P w K mg base CX k f fd ps sp' :=
 ⟨fun vs H Q E q=>F.len vs H Q E (h _ _ _ _ q),fun A outer s H args us vs Q E hr he hb hv hs=>F.run A outer s H args us vs Q E hr he hb hv (h _ _ _ _ hs)⟩
theorem UI.make {P:Program} {w:World} {K:PySem.W.Frag} {mg:Str→Option Value} {base:Heap} {A:Around} {outer:List Env} {s:Shared} {H:Hp} (e:UI P w K mg base A outer s H) (C:Addr) (us:List Value) (kw:List (Str × Value)) :
  UI P w K mg base (A.under (.builtin "type.__call__" ⟨.ref C::us,kw⟩)) outer s H:=⟨by first | exact e.frames | (simpa [Around.under,Code.envs,Code.isFrame,pushEnvs] using e.frames),e.mod,e.bs,e.bsz,e.funs,e.frf,e.hok,e.bare⟩
section
variable {X:Cx} {pins:List (Addr × Obj)} {σ:St} {H:Hp} {s s':Shared}
theorem zH.env0 (I:zH X pins σ H s):UI X.prog X.w X.K X.mg X.base X.A X.stack s H :=
 ⟨I.ok.frames,I.ok.mod,I.bs,Bj I.ok.bsz I.sz,I.stack,I.stkFree,I.hok,I.bare⟩
theorem zH.after {Q:VK} {u:Value} (I:zH X pins σ H s) (h:CE X.stack X.prog X.w H s Q u s'):EP X pins σ Q u s':=by
 obtain⟨v,H',os,bare,un,hok,r,q⟩:=h
 obtain⟨hh,g,d,t,os'⟩:=s'
 obtain rfl:os'=s.os:=os
 exact⟨v,H',I.call (h':=hh) (g':=g) (d':=d) (t':=t) (ch:=[]) un hok bare (fun b z=>absurd z (by simp)),r,q⟩
end
def Mm (sp:Sp) (dvs:List V) (E:XK) (t:TA):TE:=fun σ H Q=>t σ H fun vs H1=>sp (vs++dvs) H1 Q E
def Xx (C:Addr) (m:Str) (sp:Sp) (dvs:List V) (E:XK) (ta:TE) (t:TA):TE:=fun σ H Q=>ta σ H fun x H1=>∃ a dx fs,x = .ref a∧H1 a=some (.ins C dx fs)∧fs.lookup m=none ∧
 t σ H1 fun vs H2=>sp (x::(vs++dvs)) H2 Q E
def Xf (C:Addr) (sp:Sp) (dvs:List V) (E:XK) (t:TA):TE:=fun σ H Q=>t σ H fun vs H1=>∀ x dx,H1 x=none→H1 dx=none→dx≠x →
 sp (.ref x::(vs++dvs)) (upd (upd H1 dx (.own x)) x (.ins C dx [])) (fun v H2=>v = .non∧Q (.ref x) H2) E
def jE (K:PySem.W.Frag) (fd:FuncData) (ps:List Str) (ds:List Value):Prop :=
 ∀ (s:Shared) (us:List Value),K.In s.heap→(us++ds).length=ps.length→BindsTo s fd ⟨us,[]⟩ (ps.zip (us++ds))
theorem jE.all {K:PySem.W.Frag} {fd:FuncData} {ps:List Str} (h:∀ us:List Value,us.length=ps.length→bindArgs fd ⟨us,[]⟩=pure (ps.zip us)):jE K fd ps []:=fun s us _ hl=>by
 rw[Bs] at hl ⊢
 exact .of_eq (h us hl)
def yt (CX:wf) (X:Cx) (E:XK):Prop:=∀ (pins:List (Addr × Obj)) (σ:St) (H:Hp) (s:Shared) (e:Value) (s':Shared),zH X pins σ H s→CX X.stack H s E e s'→X.xe e s'
section
variable {X:Cx} {CX:wf} {k:Nat} {f C:Addr} {fd:FuncData} {ps:List Str} {sp:Sp} {dvs:List V} {ds:List Value} {E:XK} {x m:Str} {p pos apos:Pos} {e o:Expr} {es:List Expr} {ta:TE} {t:TA}
theorem Ju {pins:List (Addr × Obj)} {σ:St} {H:Hp} {s:Shared} {Q:VK} {us:List Value} {vs:List V} (F:zJ X.prog X.w X.K X.mg X.base CX k f fd ps sp) (hr:ym k X.A) (hb:jE X.K fd ps ds) (hd:z9 dvs ds) (hx:yt CX X E)
  (I:zH X pins σ H s) (r:z9 vs us) (h:sp (vs++dvs) H Q E):wpAny (model X.prog X.w) X.A (call (.ref f) us) (EP X pins σ Q) X.xe s:=by
 have r2:z9 (vs++dvs) (us++ds):=r.append hd
 have hl:(us++ds).length=ps.length:=by rw[← r2.length];exact F.len _ _ _ _ h
 refine wpAny_call (codeAny_mono (F.run X.A X.stack s H ⟨us,[]⟩ (us++ds) (vs++dvs) Q E hr I.env0 (hb s us I.kIn hl) r2 h) fun r s' hq=>?_)
 cases r with
 | error e=>exact hx pins σ H s e s' I hq
 | ok fl =>
  cases fl with
  | ret u=>exact I.after hq
  | next=>exact False.elim hq
  | brk=>exact False.elim hq
  | cont=>exact False.elim hq
theorem mX (F:zJ X.prog X.w X.K X.mg X.base CX k f fd ps sp) (hr:ym k X.A) (hg:Gl X x) (hm:X.mg x=some (.ref f)) (hk:PySem.W.keepIn X.K (.ref f)=true) (hb:jE X.K fd ps ds) (hd:z9 dvs ds) (hx:yt CX X E)
  (ha:PA X (e::es) t) (hdb:(x==("__debug__":Str))=false:=by decide) (he:starEach (e::es) X.env=(false,eval e X.env)::starEach es X.env:=by exact z6 rfl) (hpl:(backTo pos (starEach es X.env)).any (·.1)=false:=by exact yw rfl) :
  PE X (.Call (.Name x p) (e::es) [] pos) (Mm sp dvs E t):=by
 intro pins s σ H Q I h
 refine wpAny_Call_Name_kw (vw I hg hm ?_ hdb)
 refine PySem.W.callWith_K (h₀:=X.base) I.ok.mod.kin hk (qS (ha pos pins s σ H _ I h) fun us s1 ⟨vs,H1,I1,r,q⟩=>⟨I1.kIn,?_⟩) he hpl
 exact Ju F hr hb hd hx I1 r q
theorem LM {pl:Sem Bool} (he:PE X o ta) (c:uT X.K C) (hm:U9 X.K C m f) (F:zJ X.prog X.w X.K X.mg X.base CX k f fd ps sp) (hr:ym k X.A) (hb:jE X.K fd ps ds) (hd:z9 dvs ds) (hx:yt CX X E) (ha:PA X (e::es) t)
  (hst:starEach (e::es) X.env=(false,eval e X.env)::starEach es X.env:=by exact z6 rfl) (hpl:(backTo pos (starEach es X.env)).any (·.1)=false:=by exact yw rfl)
  (ht:eval (.Call (.Attribute o m apos) (e::es) [] pos) X.env=(do
   let ov ← eval o X.env
   standAt apos.atName
   let (f,first) ← holding [ov] (getMethod ov m pl)
   callWith pos f first (backTo pos (starEach (e::es) X.env)) (backToKw pos (keywordEach [] X.env))):=by rfl) :
  PE X (.Call (.Attribute o m apos) (e::es) [] pos) (Xx C m sp dvs E ta t):=by
 intro pins s σ H Q I h
 refine PySem.W.methodCall_KW (pl:=pl) (qS (he pins s σ H _ I h) fun u s1 ⟨x,H1,I1,rx,a,dx,fs,ex,ea,l,q⟩=>?_) ht
 subst ex
 obtain rfl:u=Value.ref a:=rx
 refine uM I1 ea c hm l ?_
 refine PySem.W.callWith_K (first:=[.ref a]) (h₀:=X.base) I.ok.mod.kin hm.kp (qS (ha pos pins s1 σ H1 _ I1 q) fun us s2 ⟨vs,H2,I2,r,q2⟩=>⟨I2.kIn,?_⟩) hst hpl
 exact Ju (us:=.ref a::us) (vs:=.ref a::vs) F hr hb hd hx I2 (.cons rfl r) q2
theorem P5 {pl:Sem Bool} (he:PE X o ta) (c:uT X.K C) (hm:U9 X.K C m f) (F:zJ X.prog X.w X.K X.mg X.base CX k f fd ps sp) (hr:ym k X.A) (hb:jE X.K fd ps ds) (hd:z9 dvs ds) (hx:yt CX X E)
  (ht:eval (.Call (.Attribute o m apos) [] [] pos) X.env=(do
   let ov ← eval o X.env
   standAt apos.atName
   let (f,first) ← holding [ov] (getMethod ov m pl)
   callWith pos f first (backTo pos (starEach [] X.env)) (backToKw pos (keywordEach [] X.env))):=by rfl) :
  PE X (.Call (.Attribute o m apos) [] [] pos) (Xx C m sp dvs E ta q8):=by
 intro pins s σ H Q I h
 refine PySem.W.methodCall_KW (pl:=pl) (qS (he pins s σ H _ I h) fun u s1 ⟨x,H1,I1,rx,a,dx,fs,ex,ea,l,q⟩=>?_) ht
 subst ex
 obtain rfl:u=Value.ref a:=rx
 refine uM I1 ea c hm l ?_
 exact PySem.W.callWith_K0 (first:=[.ref a]) I1.kIn hm.kp (Ju (us:=[.ref a]) (vs:=[.ref a]) F hr hb hd hx I1 (.cons rfl .nil) q)
structure Mk (K:PySem.W.Frag) (C f:Addr):Prop where
 makes:PySem.W.makesIn K C=true
 init:PySem.W.findIn K (.ref C) "__init__" = some (some (.ref f))
 fn:PySem.W.isFn K (.ref f)=true
 kp:PySem.W.keepIn K (.ref C)=true
theorem Uj {pins:List (Addr × Obj)} {σ:St} {H:Hp} {s:Shared} {Q:VK} {us:List Value} {vs:List V} (M:Mk X.K C f) (F:zJ X.prog X.w X.K X.mg X.base CX k f fd ps sp) (hr:ym (k+1) X.A) (hb:jE X.K fd ps ds) (hd:z9 dvs ds)
  (hx:yt CX X E) (I:zH X pins σ H s) (r:z9 vs us)
  (h:∀ x dx,H x=none→H dx=none→dx≠x→sp (.ref x::(vs++dvs)) (upd (upd H dx (.own x)) x (.ins C dx [])) (fun v H2=>v = .non∧Q (.ref x) H2) E) :
  wpAny (model X.prog X.w) X.A (call (.ref C) us) (EP X pins σ Q) X.xe s:=by
 have hq:=h (s.heap.objs.size+1) s.heap.objs.size (I.hok.fresh (Nat.le_succ _)) (I.hok.fresh (bK _)) (b5 (BX _))
 have I2:=zH.made (C:=C) I
 have r2:z9 (V.ref (s.heap.objs.size+1)::(vs++dvs)) (Value.ref (s.heap.objs.size+1)::(us++ds)):=.cons rfl (r.append hd)
 have hl:(Value.ref (s.heap.objs.size+1)::us++ds).length=ps.length:=by
  have e:=r2.length
  rw[F.len _ _ _ _ hq] at e
  exact e.symm
 refine wpAny_call (oB (f:=f) I.kIn M.makes M.init (beq_iff_eq.mp M.fn) (codeAny_mono (F.run _ X.stack _ _ ⟨Value.ref (s.heap.objs.size+1)::us,[]⟩ (Value.ref (s.heap.objs.size+1)::(us++ds)) _ _ E (hr.make C us [])
  (I2.env0.make C us []) (hb _ (Value.ref (s.heap.objs.size+1)::us) I2.kIn hl) r2 hq) fun r s' hq'=>?_))
 cases r with
 | error e=>exact hx pins σ _ _ e s' I2 hq'
 | ok fl =>
  cases fl with
  | ret u =>
   obtain⟨v,H',I3,rv,ev,q3⟩:=I2.after hq'
   subst ev
   exact⟨rv,⟨V.ref (s.heap.objs.size+1),H',I3,rfl,q3⟩⟩
  | next=>exact False.elim hq'
  | brk=>exact False.elim hq'
  | cont=>exact False.elim hq'
theorem my (M:Mk X.K C f) (F:zJ X.prog X.w X.K X.mg X.base CX k f fd ps sp) (hr:ym (k+1) X.A) (hg:Gl X x) (hm:X.mg x=some (.ref C)) (hb:jE X.K fd ps ds) (hd:z9 dvs ds) (hx:yt CX X E)
  (ha:PA X (e::es) t) (hdb:(x==("__debug__":Str))=false:=by decide) (he:starEach (e::es) X.env=(false,eval e X.env)::starEach es X.env:=by exact z6 rfl) (hpl:(backTo pos (starEach es X.env)).any (·.1)=false:=by exact yw rfl) :
  PE X (.Call (.Name x p) (e::es) [] pos) (Xf C sp dvs E t):=by
 intro pins s σ H Q I h
 refine wpAny_Call_Name_kw (vw I hg hm ?_ hdb)
 refine PySem.W.callWith_K (h₀:=X.base) I.ok.mod.kin M.kp (qS (ha pos pins s σ H _ I h) fun us s1 ⟨vs,H1,I1,r,q⟩=>⟨I1.kIn,?_⟩) he hpl
 exact Uj M F hr hb hd hx I1 r q
theorem oh (M:Mk X.K C f) (F:zJ X.prog X.w X.K X.mg X.base CX k f fd ps sp) (hr:ym (k+1) X.A) (hg:Gl X x) (hm:X.mg x=some (.ref C)) (hb:jE X.K fd ps ds) (hd:z9 dvs ds) (hx:yt CX X E)
  (hdb:(x==("__debug__":Str))=false:=by decide):PE X (.Call (.Name x p) [] [] pos) (Xf C sp dvs E q8):=by
 intro pins s σ H Q I h
 refine wpAny_Call_Name_kw (vw I hg hm ?_ hdb)
 exact PySem.W.callWith_K0 I.kIn M.kp (Uj (us:=[]) M F hr hb hd hx I .nil h)
end
def PK (X:Cx) (kws:List Keyword) (t:TA):Prop :=
 ∀ (pos:Pos) (pins:List (Addr × Obj)) (s:Shared) (σ:St) (H:Hp) (Q:List V→Hp→Prop),zH X pins σ H s→t σ H Q→wpAny (model X.prog X.w) X.A (evalAll ((backToKw pos (keywordEach kws X.env)).map (·.2))) (AP X pins σ Q) X.xe s
section
variable {X:Cx} {CX:wf} {k:Nat} {f C:Addr} {fd:FuncData} {ps ks:List Str} {sp:Sp} {E:XK} {x m:Str} {p pos apos kpos:Pos} {e o:Expr} {es:List Expr} {kws:List Keyword} {te ta:TE} {t tk:TA} {nm:Option Str}
variable {g:List Value→List Value→List Value} {gV:List V→List V→List V}
end
structure u7 (N P:List Str) (sc:Scope):Prop where
 kind:sc.kind = .function
 co:sc.isCoroutine=false
 gen:sc.isGenerator=false
 nd:N.Nodup
 pre:N.take P.length=P
 par:∀ x∈P,sc.names.lookup x=some .local∨sc.names.lookup x=some .cell
 nofree:∀ y∈sc.names,y.2≠.free
theorem YB {kindOf:Str→Option NameKind} {x:Str}:∀ {binds:List (Str × Value)} {m:Str→Option Value},(∀ v,(x,v)∉binds)→bindL kindOf binds m x=m x
 | [],_,_=>rfl
 | (n,v)::r,m,h=>by
  unfold bindL
  rw[YB fun w hw=>h w (Bk _ hw)]
  split
  ·have:x≠n:=by rintro rfl;exact h v Bb
   simp[this]
  ·rfl
theorem Yq {kindOf:Str→Option NameKind} {x:Str}:∀ {binds:List (Str × Value)} {m:Str→Option Value},(∀ v,(x,v)∉binds)→bindC kindOf binds m x=m x
 | [],_,_=>rfl
 | (n,v)::r,m,h=>by
  unfold bindC
  rw[Yq fun w hw=>h w (Bk _ hw)]
  split
  ·rfl
  ·have:x≠n:=by rintro rfl;exact h v Bb
   simp[this]
theorem Yv {kindOf:Str→Option NameKind} {x:Str} {v:Value}:∀ {P:List Str} {vs:List Value} {i:Nat} {m:Str→Option Value},P.Nodup→P[i]? = some x→vs[i]? = some v→kindOf x=some .local →
  bindL kindOf (P.zip vs) m x=some v
 | [],_,_,_,_,h,_,_=>by simp at h
 | _::_,[],_,_,_,_,h,_=>by simp at h
 | p::P,w::vs,0,m,nd,h1,h2,hk=>by
  simp at h1 h2;subst h1;subst h2
  show bindL kindOf ((p,w)::P.zip vs) m p=_
  unfold bindL
  rw[YB fun v hv=>(BF.mp nd).1 (BY hv).1,if_pos hk]
  simp
 | p::P,w::vs,i+1,m,nd,h1,h2,hk=>by
  show bindL kindOf ((p,w)::P.zip vs) m x=_
  unfold bindL
  exact Yv (i:=i) (BF.mp nd).2 (by simpa using h1) (by simpa using h2) hk
theorem Yt {kindOf:Str→Option NameKind} {x:Str} {v:Value}:∀ {P:List Str} {vs:List Value} {i:Nat} {m:Str→Option Value},P.Nodup→P[i]? = some x→vs[i]? = some v→kindOf x≠some .local →
  bindC kindOf (P.zip vs) m x=some v
 | [],_,_,_,_,h,_,_=>by simp at h
 | _::_,[],_,_,_,_,h,_=>by simp at h
 | p::P,w::vs,0,m,nd,h1,h2,hk=>by
  simp at h1 h2;subst h1;subst h2
  show bindC kindOf ((p,w)::P.zip vs) m p=_
  unfold bindC
  rw[Yq fun v hv=>(BF.mp nd).1 (BY hv).1,if_neg hk]
  simp
 | p::P,w::vs,i+1,m,nd,h1,h2,hk=>by
  show bindC kindOf ((p,w)::P.zip vs) m x=_
  unfold bindC
  exact Yt (i:=i) (BF.mp nd).2 (by simpa using h1) (by simpa using h2) hk
def vI (N:List Str) (vs:List V):St:=vs.map some++List.replicate (N.length - vs.length) none
def kJ (CX:wf) (P:Program) (w:World) (K:PySem.W.Frag) (mg:Str→Option Value) (base:Heap) (N:List Str) (qual:Str) (scope:Scope) (f:Addr) (cd:Value) (A:Around) (outer:List Env) (s:Shared) (H:Hp) (E:XK):Cx where
 prog:=P
 w:=w
 K:=K
 mg:=mg
 base:=base
 A:=A.deeper (envOfC qual scope s.heap.objs.size f cd)
 N:=N
 s₀:=s
 H₀:=H
 env:=envOfC qual scope s.heap.objs.size f cd
 outer:=outer
 stack:=envOfC qual scope s.heap.objs.size f cd::outer
 ex:=[]
 calm:=true
 fn:=fun _=>true
 pn:=[]
 xe:=fun e s'=>wpAny (model P w) (A.deeper (envOfC qual scope s.heap.objs.size f cd)) (leaving (envOfC qual scope s.heap.objs.size f cd) e) (fun _ s''=>CX outer H s E e s'') (fun e' s''=>CX outer H s E e' s'') s'
theorem UX {sc:Scope} {n:Nat} {x:Str} (h:sc.names.lookup x=some .cell):∃ c,(cellsFrom n sc.names []).lookup x=some c:=by
 have q:=PySem.W.cellsFrom_some sc.names n [] (.inl h)
 exact BR.mp q
theorem YR {CX:wf} {P:Program} {w:World} {K:PySem.W.Frag} {mg:Str→Option Value} {base:Heap} {N ps:List Str} {qual:Str} {scope:Scope} {f:Addr} {cd:Value} {A:Around} {outer:List Env} {s s1:Shared} {H:Hp} {E:XK} {us:List Value} {vs:List V}
  (S:u7 N ps scope) (hd:A.handled=none) (e0:UI P w K mg base A outer s H) (hl:vs.length=ps.length) (r:z9 vs us)
  (x:InCallC s s.heap.objs.size (bindL (envOfC qual scope s.heap.objs.size f cd).kindOf (ps.zip us) fun _=>none) (cellsFrom (s.heap.objs.size+1) scope.names []) (bindC (envOfC qual scope s.heap.objs.size f cd).kindOf (ps.zip us) fun _=>none) s1) :
  zH (kJ CX P w K mg base N qual scope f cd A outer s H E) [] (vI N vs) H s1:=by
 have hpl:ps.length≤N.length:=by have:=congrArg List.length S.pre;rw[Bh] at this;omega
 obtain⟨h1,tk,rfl,hk⟩:=x.done
 have noA:∀ b:Addr,b∉(kJ CX P w K mg base N qual scope f cd A outer s H E).ex:=fun b z=>absurd (show b∈([]:List Addr) from z) (by simp)
 refine⟨⟨e0.mod,S.kind,rfl,rfl,bK _,fun y z c h1 h2=>?_,fun y hy=>?_,fun y c _ h=>?_,fun _=>hd,Around.frames_deeper e0.frames,.inr ⟨rfl,rfl⟩,fun b z=>absurd z (noA b),e0.bs,e0.bsz,fun b _ _=>noA b,fun b z=>absurd z (noA b),e0.funs,e0.frf⟩,
  rfl,e0.bare,Un.kept hk,⟨_,x.toInCall.ns,fun i y v h1 h2 h3=>?_⟩,fun y c h=>⟨_,x.cell y c h⟩,e0.hok.fresh (bK _),fun y c h=>?_,fun p hp=>absurd (show p∈([]:List (Addr × Obj)) from hp) (by simp),e0.hok.kept hk,?_⟩
 ·exact name_of_addr x.apart (PySem.mem_of_lookup h1) (PySem.mem_of_lookup h2)
 ·have hy:scope.names.lookup y=some .cell∨scope.names.lookup y=some .free:=hy
  rcases hy with hy | hy
  ·exact UX hy
  ·exact absurd rfl (S.nofree _ (PySem.mem_of_lookup hy))
 ·exact cx (x.above y c (PySem.mem_of_lookup h))
 ·have hi:i<vs.length:=by
   unfold vI at h2
   by_cases hi:i<vs.length
   ·exact hi
   ·rw[bY (by simpa using hi)] at h2
    rw[List.getElem?_replicate] at h2
    split at h2 <;> cases h2
  have ha:vs[i]? = some v:=by
   unfold vI at h2
   rw[Bl (by simpa using hi),bR] at h2
   cases e:vs[i]? with
   | none=>rw[e] at h2;cases h2
   | some a=>rw[e] at h2;cases h2;rfl
  obtain⟨u,hu,rv⟩:=r.get ha
  have hp:ps[i]? = some y:=by
   rw[← S.pre,CM (by omega)];exact h1
  have ndP:ps.Nodup:=by rw[← S.pre];exact S.nd.sublist (Cw _ _)
  refine⟨u,rv,?_⟩
  rcases S.par y (Bv hp) with k | k
  ·exact .inl ⟨k,Yv ndP hp hu k⟩
  ·obtain⟨c,e⟩:=UX (n:=s.heap.objs.size+1) k
   refine .inr ⟨.inl k,c,e,?_⟩
   have q:=x.cell y c e
   rw[Yt ndP hp hu (by show scope.names.lookup y≠_;rw[k];decide)] at q
   exact q
 ·exact e0.hok.fresh (cx (x.above y c (PySem.mem_of_lookup h)))
 ·unfold vI
  show _=N.length
  rw[bP,bM,List.length_replicate]
  omega
theorem Me {CX:wf} {P:Program} {w:World} {K:PySem.W.Frag} {mg:Str→Option Value} {base:Heap} {k:Nat} {f:Addr} {name qual:Str} {params:Arguments} {body:List Stmt} {scope:Scope} {dV kV doc pm cdv ct oc:Value} {an od:Option Addr}
  {osl:Array (Option Value)} {N ps:List Str} {sp:Sp} (lk:K.lookup f=some ⟨oc,od,.func (PySem.W.fnOf name qual params body scope dV kV doc pm an cdv ct),osl⟩) (hcd:PySem.W.codeIn K cdv qual=true) (S:u7 N ps scope)
  (len:∀ vs H Q E,sp vs H Q E→vs.length=ps.length)
  (hbody:∀ (A:Around) (outer:List Env) (s:Shared) (H:Hp) (vs:List V) (Q:VK) (E:XK),ym k (A.deeper (envOfC qual scope s.heap.objs.size f cdv))→sp vs H Q E →
   ∃ t,jw (kJ CX P w K mg base N qual scope f cdv A outer s H E) body t∧t { nx:=fun _ H'=>Q .non H',rt:=Q } (vI N vs) H) :
  zJ P w K mg base CX (k+1) f (PySem.W.fnOf name qual params body scope dV kV doc pm an cdv ct) ps sp:=by
 refine⟨len,fun A outer s H args us vs Q E hr e0 hb r hsp=>?_⟩
 have hl:=len _ _ _ _ hsp
 have KX:K.In s.heap:=e0.mod.kin.keeps fun b o e=>(e0.bs b o e).1
 have lim:s.heap.NoLimit:=e0.mod.nolimit.keeps fun b o e=>(e0.bs b o e).1
 have hkind:∀ y∈ps.zip us,scope.names.lookup y.1=some .local∨(scope.names.lookup y.1=some .cell∧((cellsFrom (s.heap.objs.size+1) scope.names []).lookup y.1).isSome=true):=fun⟨n,v⟩ hy=>by
  rcases S.par n (BY hy).1 with q | q
  ·exact .inl q
  ·exact .inr ⟨q,PySem.W.cellsFrom_some _ _ _ (.inl q)⟩
 refine codeAny_call_function hr.depth (KX _ _ lk) rfl S.co S.gen rfl (PySem.W.codeRec_of KX hcd) (hb _ _ _ _ ?_)
 refine wpAny_newFunctionEnv_cells S.kind hkind fun env he s1 x=>?_
 subst he
 refine⟨lim.keeps x.toInCall.keep,codeAny_func ?_⟩
 obtain⟨t,ht,hq⟩:=hbody A outer s H vs Q E (hr.deeper _) hsp
 have I:zH (kJ CX P w K mg base N qual scope f cdv A outer s H E) [] (vI N vs) H s1:=YR S hr.hd e0 hl r x
 refine wpAny_mono (ht [] s1 (vI N vs) H _ I hq) (fun fl s' hs=>?_) fun e s' hs=>hs
 have fin:∀ {σ':St} {H':Hp} {v:V} {u:Value},zH (kJ CX P w K mg base N qual scope f cdv A outer s H E) [] σ' H' s'→qp v u→Q v H'→CE outer P w H s Q u s' :=
  fun {σ' H' v u} J rv q=>⟨v,H',J.os,J.bare,J.base,J.hok,rv,q⟩
 cases fl with
 | ret u =>
  obtain⟨v,σ',H',J,rv,q⟩:=hs
  exact fin J rv q
 | next =>
  obtain⟨σ',H',J,q⟩:=hs
  exact fin (v:=V.non) (u:=Value.none) J rfl q
 | brk =>
  obtain⟨_,_,_,q⟩:=hs
  exact False.elim q
 | cont =>
  obtain⟨_,_,_,q⟩:=hs
  exact False.elim q
section
variable {X:Cx} {x:Str} {p pos:Pos} {e:Expr} {es:List Expr} {t:TA} {id T:String} {r:List V→Hp→VK→Prop}
def lY (r:List V→Hp→VK→Prop) (t:TA):TE:=fun σ H Q=>t σ H fun vs H1=>r vs H1 Q
theorem zt (hc:jq X (.builtin id) r) (hg:Gl X x) (hm:X.mg x=none) (hv:bootBuiltins x=some (.builtin id)) (ha:PA X (e::es) t) (hn:x≠"__name__":=by decide) (hdb:(x==("__debug__":Str))=false:=by decide)
  (he:starEach (e::es) X.env=(false,eval e X.env)::starEach es X.env:=by exact z6 rfl) (hpl:(backTo pos (starEach es X.env)).any (·.1)=false:=by exact yw rfl):PE X (.Call (.Name x p) (e::es) [] pos) (lY r t):=by
 intro pins s σ H Q I h
 refine wpAny_Call_Name_kw (uc I hg hm hv ?_ hn hdb)
 exact PyProof.Rows.callWith_builtin1 (qS (ha pos pins s σ H _ I h) fun us s1 ⟨vs,H1,I1,r1,q1⟩=>hc pins s1 σ H1 vs us Q I1 r1 q1) he hpl
theorem z7 (hc:jq X (.type T) r) (hg:Gl X x) (hm:X.mg x=none) (hv:bootBuiltins x=some (.type T)) (ha:PA X (e::es) t) (hn:x≠"__name__":=by decide) (hdb:(x==("__debug__":Str))=false:=by decide)
  (he:starEach (e::es) X.env=(false,eval e X.env)::starEach es X.env:=by exact z6 rfl) (hpl:(backTo pos (starEach es X.env)).any (·.1)=false:=by exact yw rfl):PE X (.Call (.Name x p) (e::es) [] pos) (lY r t):=by
 intro pins s σ H Q I h
 refine wpAny_Call_Name_kw (uc I hg hm hv ?_ hn hdb)
 exact PyProof.Rows.callWith_type1 (qS (ha pos pins s σ H _ I h) fun us s1 ⟨vs,H1,I1,r1,q1⟩=>hc pins s1 σ H1 vs us Q I1 r1 q1) he hpl
end
end L2
namespace HT
open PySem PyProof.Rows
section
open PySem.SeqAt
open PySem.AutoSeq1 (wpAny_loadPart')
open PySem.MeetsSeq PySem.MeetsSeq2 PySem.MeetsSeq3
end
section
variable {prog:Program} {w:World} {A:Around} {E:Value→Shared→Prop} {s:Shared}
theorem mW {t b:Addr} {vs ws:List Value} {Q:Value→Shared→Prop} (ht:IsTup s.heap t vs.toArray) (hb:IsTup s.heap b ws.toArray) (hv:vs≠[])
  (h1:ws=[]→Q (.ref t) s) (h2:ws≠[]→Q (.ref s.heap.objs.size) { s with heap:=s.heap.push { cls:=.type "tuple",data:=.seq (vs++ws).toArray } })
  (hsz:vs.length+ws.length≤sizeLine):wpAny (model prog w) A (binaryOp .Add (.ref t) (.ref b)) Q E s:=by
 obtain⟨⟨cls,dd,data,sl⟩,ho,hc,n,hd⟩:=id ht
 obtain⟨⟨cls2,dd2,data2,sl2⟩,ho2,hc2,n2,hd2⟩:=id hb
 simp only at hc hd hc2 hd2
 subst hc hd hc2 hd2
 have e:vs.toArray++ws.toArray=(vs++ws).toArray:=by simp
 by_cases hw:ws=[]
 ·exact concat_meets ⟨_,ho,rfl⟩ ⟨_,ho2,rfl⟩ noFill_tuple_add seq_tuple_add PySem.F.slot_tuple_add PySem.F.entry_tuple_add (PySem.F.args_tuple_add_2 _ _)
   (tuple_addW1 t b vs.toArray ws.toArray n n2 dd dd2 sl sl2 (by simpa using hv) (by simp[hw])) ⟨ho,ho2,h1 hw⟩
 ·refine concat_meets ⟨_,ho,rfl⟩ ⟨_,ho2,rfl⟩ noFill_tuple_add seq_tuple_add PySem.F.slot_tuple_add PySem.F.entry_tuple_add (PySem.F.args_tuple_add_2 _ _)
   (tuple_addW2 t b vs.toArray ws.toArray n n2 dd dd2 sl sl2 (by simpa using hv) (by simpa using hw) (by rw[bT,bT];exact hsz)) ⟨ho,ho2,?_⟩
  rw[e]
  exact h2 hw
def uZ (n d:Nat):Option Int→Nat
 | none=>d
 | some v=>if v<0 then (v+(n:Int)).toNat else min v.toNat n
theorem Qx (n d:Nat):uZ n d none=d:=rfl
theorem vn (n d k:Nat):uZ n d (some (k:Int))=min k n:=by
 show (if (k:Int)<0 then ((k:Int)+(n:Int)).toNat else min (k:Int).toNat n)=min k n
 rw[if_neg (by omega),BA]
theorem M9 (n d:Nat) (hd:d≤n) (o:Option Int):uZ n d o≤n:=by
 cases o with
 | none=>exact hd
 | some v =>
  show (if v<0 then (v+(n:Int)).toNat else min v.toNat n)≤n
  by_cases hv:v<0
  ·rw[if_pos hv];omega
  ·rw[if_neg hv];exact Nat.min_le_right _ _
end
end HT
namespace L2
open PySem PySem.Spec PyProof.Rows
abbrev TO:=St→Hp→(Option Int→Hp→Prop)→Prop
def PO (X:Cx) (e:Option Expr) (t:TO):Prop :=
 ∀ (pins:List (Addr × Obj)) (s:Shared) (σ:St) (H:Hp) (Q:Option Int→Hp→Prop),zH X pins σ H s→t σ H Q →
  wpAny (model X.prog X.w) X.A (evalPart e X.env) (fun u s'=>∃ o H',zH X pins σ H' s'∧IsPart u o∧Q o H') X.xe s
def Zh:TO:=fun _ H Q=>Q none H
def YM (t:TE):TO:=fun σ H Q=>t σ H fun x H1=>∃ i,x = .int i∧Q (some i) H1
section
variable {X:Cx} {e:Expr} {te:TE} {lo hi:Option Expr} {tl th:TO} {pos p2:Pos}
theorem uu:PO X none Zh:=by
 intro pins s σ H Q I h
 rw[evalPart_none]
 exact wpAny_pure ⟨none,H,I,.none,h⟩
theorem jm (h:PE X e te):PO X (some e) (YM te):=by
 intro pins s σ H Q I hw
 rw[evalPart_some]
 refine qS (h pins s σ H _ I hw) fun u s1 ⟨x,H1,I1,r1,q1⟩=>?_
 obtain⟨i,rfl,q⟩:=q1
 obtain⟨t,rfl⟩:=r1
 exact⟨some i,H1,I1,.int i t,q⟩
def tT (X:Cx) (r:V→Option Int→Option Int→Hp→VK→Prop):Prop :=
 ∀ (pins:List (Addr × Obj)) (s:Shared) (σ:St) (H:Hp) (x:V) (v vl vu:Value) (lo hi:Option Int) (sl:Addr) (Q:VK),zH X pins σ H s→qp x v→s.heap.IsSliceOf sl vl vu .none→IsPart vl lo→IsPart vu hi→r x lo hi H Q →
  ∃ T id,typeLookup (.type T) "__getitem__" = pure (some (.builtin id))∧s.TypeIs v T∧wpAny (model X.prog X.w) X.A (getItem v (.ref sl)) (EP X pins σ Q) X.xe s
def rV (r:V→Option Int→Option Int→Hp→VK→Prop) (te:TE) (tl th:TO):TE:=fun σ H Q=>te σ H fun x H1=>tl σ H1 fun l H2=>th σ H2 fun u H3=>r x l u H3 Q
theorem jv {r:V→Option Int→Option Int→Hp→VK→Prop} (hr:tT X r) (he:PE X e te) (hl:PO X lo tl) (hu:PO X hi th):PE X (.Subscript e (.Slice lo hi none p2) pos) (rV r te tl th):=by
 intro pins s σ H Q I h
 refine Subscript_ (qS (he pins s σ H _ I h) fun v s1 ⟨x,H1,I1,r1,q1⟩=>?_)
 refine wpAny_Slice (qS (hl pins s1 σ H1 _ I1 q1) fun vl s2 ⟨l,H2,I2,pl,q2⟩=>qS (hu pins s2 σ H2 _ I2 q2) fun vu s3 ⟨u,H3,I3,pu,q3⟩=>?_)
 rw[evalPart_none]
 refine wpAny_pure ?_
 have I4:zH X pins σ H3 { s3 with heap:=s3.heap.push { cls:=.type "slice",data:=.fields #[vl,vu,.none] } }:=I3.kept (t':=s3.toks) fun b ob q=>bW _ q
 obtain⟨T,id,hT,ht,hg⟩:=hr pins { s3 with heap:=s3.heap.push { cls:=.type "slice",data:=.fields #[vl,vu,.none] } } σ H3 x v vl vu l u s3.heap.objs.size Q I4 r1 (Heap.IsSliceOf.new ..) pl pu q3
 show wpAny (model X.prog X.w) X.A (subscriptTail e (.Slice lo hi none p2) v (.ref s3.heap.objs.size)) (EP X pins σ Q) X.xe { s3 with heap:=s3.heap.push { cls:=.type "slice",data:=.fields #[vl,vu,.none] } }
 exact tail_any (ops:=[.ref s3.heap.objs.size,v]) ht hT hg (by with_unfolding_all rfl)
def vm (xs:List V) (lo hi:Option Int):List V:=(xs.drop (HT.uZ xs.length 0 lo)).take (HT.uZ xs.length xs.length hi - HT.uZ xs.length 0 lo)
theorem Ux (xs:List V) (lo hi:Option Int):(vm xs lo hi).length≤xs.length:=by
 unfold vm
 rw[Bh,BZ]
 omega
def RD (K:PySem.W.Frag):R2:=fun x y H Q=>∃ a b xs ys,x = .ref a∧y = .ref b∧qg K H a xs∧qg K H b ys∧xs≠[]∧xs.length+ys.length≤sizeLine ∧
 (ys=[]→Q (.ref a) H)∧(ys≠[]→∀ p,H p=none→Q (.ref p) (upd H p (.tup (xs++ys))))
theorem z9.nil_iff {xs:List V} {us:List Value} (r:z9 xs us):us=[]↔xs=[]:=by
 cases r with
 | nil=>simp
 | cons _ _=>simp
theorem Ly:uE X (binaryOp .Add) (RD X.K):=by
 intro pins s σ H x y v u Q I rx ry h
 obtain⟨a,b,xs,ys,rfl,rfl,ha,hb,hx,hz,q1,q2⟩:=h
 cases rx
 cases ry
 obtain⟨its,r1,p1,_⟩:=I.tuple ha
 obtain⟨its2,r2,p2,_⟩:=I.tuple hb
 refine HT.mW p1 p2 (fun z=>hx (r1.nil_iff.mp z)) (fun z=>⟨.ref a,H,I,rfl,q1 (r2.nil_iff.mp z)⟩) (fun z=>?_) (by rw[← r1.length,← r2.length];exact hz)
 refine⟨.ref s.heap.objs.size,_,I.laid (t':=s.toks) (o:=.tup (xs++ys)) (fun b ob q=>bW _ q) (bK _) ?_,rfl,q2 (fun w=>z (r2.nil_iff.mpr w)) _ (I.hok.fresh (bK _))⟩
 exact⟨by rw[bP];exact hz,_,r1.append r2,IsTup.new _ _⟩
end
def lm (n:Nat) (i:Int):Option Nat:=if 0≤i then (if i<n then some i.toNat else none) else if -(n:Int)≤i then some (i+n).toNat else none
def atI {α:Type} (xs:List α) (i:Int):Option α:=(lm xs.length i).bind fun j=>xs[j]?
theorem mi {n:Nat} {i:Int} {j:Nat} (h:lm n i=some j):seqIndex? i n=some j∧j<n∧-(n:Int)≤i∧i<n:=by
 unfold lm at h
 by_cases h0:0≤i
 ·rw[if_pos h0] at h
  by_cases h1:i<n
  ·rw[if_pos h1] at h
   have e:i.toNat=j:=Option.some.inj h
   exact⟨by rw[seqIndex_of h0 h1,e],by omega,by omega,h1⟩
  ·rw[if_neg h1] at h;cases h
 ·rw[if_neg h0] at h
  by_cases h1:-(n:Int)≤i
  ·rw[if_pos h1] at h
   have e:(i+n).toNat=j:=Option.some.inj h
   exact⟨by rw[seqIndex_neg (by omega) h1,e],by omega,h1,by omega⟩
  ·rw[if_neg h1] at h;cases h
theorem Jz {α:Type} {xs:List α} {i:Int} {v:α} (h:atI xs i=some v):∃ j,seqIndex? i xs.length=some j∧xs[j]? = some v∧j<xs.length∧-(xs.length:Int)≤i∧i<xs.length:=by
 unfold atI at h
 cases e:lm xs.length i with
 | none=>rw[e] at h;cases h
 | some j =>
  rw[e] at h
  obtain⟨h1,h2,h3,h4⟩:=mi e
  exact⟨j,h1,h,h2,h3,h4⟩
theorem qV {α:Type} {xs:List α} {j:Nat} {v:α} (h:xs[j]? = some v):atI xs (j:Int)=some v:=by
 have hj:j<xs.length:=(bU.mp h).1
 have e:lm xs.length (j:Int)=some j:=by
  unfold lm
  rw[if_pos (by omega),if_pos (by omega)];simp
 unfold atI;rw[e];exact h
theorem Ue {α:Type} (xs:List α) (v:α):atI (xs++[v]) (-1)=some v:=by
 have hl:(xs++[v]).length=xs.length+1:=by simp
 have e:lm (xs++[v]).length (-1)=some xs.length:=by
  unfold lm
  rw[hl,if_neg (by decide),if_pos (by omega)]
  congr 1
  omega
 unfold atI
 rw[e]
 show (xs++[v])[xs.length]? = some v
 simp
def XI (b:Expr):Prop:=∀ o i,subscripted b false o i=operate [o,i] (getItem o i)
def Rr (X:Cx) (r:R2):Prop :=
 ∀ (value slice:Expr) (pins:List (Addr × Obj)) (s:Shared) (σ:St) (H:Hp) (x y:V) (v u:Value) (Q:VK),zH X pins σ H s→qp x v→qp y u→r x y H Q →
  subscripted slice false v u=operate [v,u] (getItem v u)→wpAny (model X.prog X.w) X.A (subscriptTail value slice v u) (EP X pins σ Q) X.xe s
def RZ (X:Cx) (id:String) (r:V→List V→Hp→VK→Prop):Prop :=
 ∀ (pins:List (Addr × Obj)) (s:Shared) (σ:St) (H:Hp) (x:V) (xs:List V) (v:Value) (us:List Value) (Q:VK),zH X pins σ H s→qp x v→z9 xs us→r x xs H Q →
  wpAny (model X.prog X.w) X.A (call (.builtin id) (v::us)) (EP X pins σ Q) X.xe s
section
variable {X:Cx} {a b:Expr} {ta tb:TE} {pos:Pos}
theorem rA {r:R2} (hr:Rr X r) (ha:PE X a ta) (hb:PE X b tb) (hs:XI b):PE X (.Subscript a b pos) (jB r ta tb):=by
 intro pins s σ H Q I h
 exact Subscript_ (nQ ha hb I h fun v u s2 x y H2 I2 rx ry q=>hr a b pins s2 σ H2 x y v u Q I2 rx ry q (hs _ _))
def O8 (K:PySem.W.Frag):R2:=fun x y H Q=>∃ p xs i v,x = .ref p∧y = .int i∧z5 K H p xs∧atI xs i=some v∧Q v H
def kT (K:PySem.W.Frag):R2:=fun x y H Q=>∃ p xs i v,x = .ref p∧y = .int i∧qg K H p xs∧atI xs i=some v∧Q v H
def nu:R2:=fun x y H Q=>∃ z i c,x = .str z∧y = .int i∧z.length≤sizeLine∧atI z.cps.toList i=some c∧Q (.str ⟨#[c]⟩) H
theorem zK:Rr X (O8 X.K):=by
 intro value slice pins s σ H x y v u Q I rx ry h hs
 obtain⟨p,xs,i,z,rfl,rfl,hq,he,q⟩:=h
 cases rx
 obtain⟨t,rfl⟩:=ry
 obtain⟨its,r,pl,hz⟩:=I.list hq
 obtain⟨j,h1,h2,h3,h4,h5⟩:=Jz he
 obtain⟨w,ew,rw'⟩:=r.get h2
 have hl:=r.length
 have hn:=wC
 have fin:EP X pins σ Q w s:=⟨z,H,I,rw',q⟩
 by_cases h0:0≤i
 ·have hj:i.toNat=j:=by
   rw[seqIndex_of h0 h5] at h1
   exact Option.some.inj h1
  exact item_listR pl.isList h0 (by omega) (by rw[hj];simpa using ew) fin hs
 ·have hj:(i+(its.toArray.size:Int)).toNat=j:=by
   rw[seqIndex_neg (by omega) h4] at h1
   rw[bT,← hl]
   exact Option.some.inj h1
  exact subscriptTail_builtinR (x:=w) pl.isList.typeIs slot_list_getitem.lookup
   (wpAny_getItem_list_neg (Q:=fun r s'=>r=w∧EP X pins σ Q r s') pl.isList (by omega) (by rw[bT] <;> omega) (by omega) (by rw[hj];simpa using ew) ⟨rfl,fin⟩) hs
theorem zL:Rr X (kT X.K):=by
 intro value slice pins s σ H x y v u Q I rx ry h hs
 obtain⟨p,xs,i,z,rfl,rfl,hq,he,q⟩:=h
 cases rx
 obtain⟨t,rfl⟩:=ry
 obtain⟨its,r,pl,hz⟩:=I.tuple hq
 obtain⟨j,h1,h2,h3,h4,h5⟩:=Jz he
 obtain⟨w,ew,rw'⟩:=r.get h2
 have hl:=r.length
 have hn:=wC
 have fin:EP X pins σ Q w s:=⟨z,H,I,rw',q⟩
 exact subscriptTail_builtinR (x:=w) pl.typeIs slot_tuple_getitem.lookup
  (getItem_tuple (j:=j) (Q:=fun r s'=>r=w∧EP X pins σ Q r s') pl (by omega) (by omega) (by rw[bT,← hl];exact h1) (by simpa using ew) ⟨rfl,fin⟩) hs
theorem ph:Rr X nu:=by
 intro value slice pins s σ H x y v u Q I rx ry h hs
 obtain⟨z,i,c,rfl,rfl,hz,he,q⟩:=h
 obtain⟨t,rfl⟩:=rx
 obtain⟨t',rfl⟩:=ry
 obtain⟨j,h1,h2,h3,h4,h5⟩:=Jz he
 have hl:z.cps.toList.length=z.length:=by simp[Str.length]
 rw[hl] at h1 h4 h5
 have hn:=wC
 exact tail_any (typeIs_str s z t) slot_str_getitem.lookup (getItem_str (c:=c) (by
  have e1:decide (i < -(2 ^ 63:Int))=false:=decide_eq_false (by omega)
  have e2:decide (i ≥ 2 ^ 63)=false:=decide_eq_false (by omega)
  rw[e1,e2,Bool.or_false]) (by rw[h1];simpa using h2) ⟨.str ⟨#[c]⟩,H,I.tok _,⟨_,rfl⟩,q⟩) hs
theorem Ve (lo hi:Option Int) (n:Nat):(sliceBounds lo hi none n).1=((HT.uZ n 0 lo:Nat):Int)∧(sliceBounds lo hi none n).2.1=((HT.uZ n n hi:Nat):Int)∧(sliceBounds lo hi none n).2.2=1:=by
 refine⟨?_,?_,rfl⟩
 ·cases lo with
  | none=>simp[sliceBounds,HT.uZ]
  | some i =>
   simp only[sliceBounds,HT.uZ,Option.getD_none,show (1:Int) > 0 by decide,if_true]
   by_cases h:i<0
   ·simp only[h,if_true] <;> omega
   ·simp only[h,if_false] <;> omega
 ·cases hi with
  | none=>simp[sliceBounds,HT.uZ]
  | some i =>
   simp only[sliceBounds,HT.uZ,Option.getD_none,show (1:Int) > 0 by decide,if_true]
   by_cases h:i<0
   ·simp only[h,if_true] <;> omega
   ·simp only[h,if_false] <;> omega
theorem QA (its:List Value) (lo hi:Option Int):slicePick its.toArray lo hi none=((its.drop (HT.uZ its.length 0 lo)).take (HT.uZ its.length its.length hi - HT.uZ its.length 0 lo)).toArray:=by
 obtain⟨h1,h2,h3⟩:=Ve lo hi its.toArray.size
 unfold slicePick
 rw[h1,h2,h3]
 simp only[sliceRange_one,pick_run,bT] <;> rfl
def Rp (K:PySem.W.Frag):V→Option Int→Option Int→Hp→VK→Prop:=fun x lo hi H Q=>∃ a xs,x = .ref a∧z5 K H a xs∧∀ p,H p=none→Q (.ref p) (upd H p (.lst (vm xs lo hi)))
theorem uW:tT X (Rp X.K):=by
 intro pins s σ H x v vl vu lo hi sl Q I rx hs pl pu h
 obtain⟨a,xs,rfl,hx,q⟩:=h
 cases rx
 obtain⟨its,r,ht,hz⟩:=I.list hx
 have hlen:=r.length
 refine⟨"list",_,slot_list_getitem.lookup,ht.isList.typeIs,?_⟩
 refine wpAny_getItem_list_slice ht.isList hs pl pu .none (by simp) ?_ (by rw[bT] <;> omega)
 rw[QA,← hlen]
 refine⟨.ref s.heap.objs.size,_,I.laid (t':=s.toks) (o:=.lst (vm xs lo hi)) (fun b ob q=>bW _ q) (bK _) ?_,rfl,q _ (I.hok.fresh (bK _))⟩
 exact⟨Bj (Ux xs lo hi) hz,_,0,(r.drop (HT.uZ xs.length 0 lo)).take (HT.uZ xs.length xs.length hi - HT.uZ xs.length 0 lo),Bd _ rfl⟩
def jX:V→Bool
 | .non=>true
 | .bl _=>true
 | .int _=>true
 | .str _=>true
 | _=>false
def lu:V→V→Bool
 | .non,.non=>true
 | .bl a,.bl b=>a==b
 | .bl a,.int b=>(if a then 1 else 0)==b
 | .int a,.bl b=>a==(if b then 1 else 0)
 | .int a,.int b=>a==b
 | .str a,.str b=>a==b
 | _,_=>false
theorem WO {A:Around} {s:Shared} {y x:V} {u v:Value} (ry:qp y u) (rx:qp x v) (fy:jX y=true) (fx:jX x=true):SeqAt.EqAt A s u v (lu y x):=by
 cases y with
 | non =>
  cases ry
  cases x with
  | non=>cases rx;exact SeqAt.EqAt.same _
  | bl b=>cases rx;exact SeqAt.EqAt.none_bool b
  | int b=>obtain⟨t,rfl⟩:=rx;exact SeqAt.EqAt.none_int b t
  | str b=>obtain⟨t,rfl⟩:=rx;exact SeqAt.EqAt.none_str b t
  | _=>exact absurd (show false=true from fx) bV
 | bl a =>
  cases ry
  cases x with
  | non=>cases rx;exact SeqAt.EqAt.bool_none a
  | bl b=>cases rx;exact SeqAt.EqAt.bool_bool a b
  | int b=>obtain⟨t,rfl⟩:=rx;exact SeqAt.EqAt.bool_int a b t
  | str b=>obtain⟨t,rfl⟩:=rx;exact SeqAt.EqAt.bool_str a b t
  | _=>exact absurd (show false=true from fx) bV
 | int a =>
  obtain⟨t',rfl⟩:=ry
  cases x with
  | non=>cases rx;exact SeqAt.EqAt.int_none a t'
  | bl b=>cases rx;exact SeqAt.EqAt.int_bool a t' b
  | int b=>obtain⟨t,rfl⟩:=rx;exact SeqAt.EqAt.int_int a t' b t
  | str b=>obtain⟨t,rfl⟩:=rx;exact SeqAt.EqAt.int_str a t' b t
  | _=>exact absurd (show false=true from fx) bV
 | str a =>
  obtain⟨t',rfl⟩:=ry
  cases x with
  | non=>cases rx;exact SeqAt.EqAt.str_none a t'
  | bl b=>cases rx;exact SeqAt.EqAt.str_bool a t' b
  | int b=>obtain⟨t,rfl⟩:=rx;exact SeqAt.EqAt.str_int a t' b t
  | str b=>obtain⟨t,rfl⟩:=rx;exact SeqAt.EqAt.str_str a t' b t
  | _=>exact absurd (show false=true from fx) bV
 | _=>exact absurd (show false=true from fy) bV
def Wt (x:V) (u:Value):Bool:=match u with
 | .none=>lu .non x
 | .bool b=>lu (.bl b) x
 | .int i _=>lu (.int i) x
 | .str z _=>lu (.str z) x
 | _=>false
theorem pL {x y:V} {u:Value} (r:qp y u) (f:jX y=true):Wt x u=lu y x:=by
 cases y with
 | non=>cases r;rfl
 | bl b=>cases r;rfl
 | int i=>obtain⟨t,rfl⟩:=r;rfl
 | str z=>obtain⟨t,rfl⟩:=r;rfl
 | _=>exact absurd (show false=true from f) bV
theorem u6 {x:V}:∀ {xs:List V} {us:List Value},z9 xs us→xs.all jX=true→us.any (Wt x)=xs.any fun y=>lu y x
 | _,_,.nil,_=>rfl
 | y::xs,u::us,.cons r t,f=>by
  rw[BW,Bn] at f
  rw[cD,cD,pL r f.1,u6 t f.2]
theorem v4 {A:Around} {s:Shared} {x:V} {v:Value} (rx:qp x v) (fx:jX x=true):∀ {xs:List V} {us:List Value},z9 xs us→xs.all jX=true→∀ u∈us,SeqAt.EqAt A s u v (Wt x u)
 | _,_,.nil,_=>fun u hu=>by cases hu
 | y::xs,u::us,.cons r t,f=>fun u' hu=>by
  rw[BW,Bn] at f
  rcases bN.mp hu with rfl | hu
  ·rw[pL r f.1];exact WO r rx f.1 fx
  ·exact v4 rx fx t f.2 u' hu
def tE (x:V) (xs:List V):Bool:=xs.any fun y=>lu y x
def ba (K:PySem.W.Frag) (neg:Bool):R2:=fun x y H Q=>∃ p xs,y = .ref p∧(z5 K H p xs∨qg K H p xs)∧jX x=true∧xs.all jX=true∧Q (.bl (if neg then !tE x xs else tE x xs)) H
theorem Gs:uE X (compareOp .In) (ba X.K false):=by
 intro pins s σ H x y v u Q I rx ry h
 obtain⟨p,xs,rfl,hq,fx,fs,q⟩:=h
 cases ry
 rcases hq with hq | hq
 ·obtain⟨its,r,pl,hz⟩:=I.list hq
  refine SeqAt.in_listAt (Wt x) pl.isList (fun w hw=>v4 rx fx r fs w (by simpa using hw)) ⟨.bl _,H,I,rfl,?_⟩
  rw[show its.toArray.any (Wt x)=its.any (Wt x) by simp,u6 r fs]
  exact q
 ·obtain⟨its,r,pl,hz⟩:=I.tuple hq
  refine SeqAt.in_tupleAt (Wt x) pl (fun w hw=>v4 rx fx r fs w (by simpa using hw)) ⟨.bl _,H,I,rfl,?_⟩
  rw[show its.toArray.any (Wt x)=its.any (Wt x) by simp,u6 r fs]
  exact q
theorem Vb:uE X (compareOp .NotIn) (ba X.K true):=by
 intro pins s σ H x y v u Q I rx ry h
 obtain⟨p,xs,rfl,hq,fx,fs,q⟩:=h
 cases ry
 rcases hq with hq | hq
 ·obtain⟨its,r,pl,hz⟩:=I.list hq
  refine SeqAt.notIn_listAt (Wt x) pl.isList (fun w hw=>v4 rx fx r fs w (by simpa using hw)) ⟨.bl _,H,I,rfl,?_⟩
  rw[show its.toArray.any (Wt x)=its.any (Wt x) by simp,u6 r fs]
  exact q
 ·obtain⟨its,r,pl,hz⟩:=I.tuple hq
  refine SeqAt.notIn_tupleAt (Wt x) pl (fun w hw=>v4 rx fx r fs w (by simpa using hw)) ⟨.bl _,H,I,rfl,?_⟩
  rw[show its.toArray.any (Wt x)=its.any (Wt x) by simp,u6 r fs]
  exact q
theorem zR:jq X (.builtin "len") (fun xs H Q=>∃ p ys,xs=[.ref p]∧(z5 X.K H p ys∨qg X.K H p ys)∧Q (.int ys.length) H):=by
 intro pins s σ H xs us Q I r h
 obtain⟨p,ys,rfl,hq,q⟩:=h
 obtain⟨u,rfl,rx⟩:=vK r
 cases rx
 have hn:=wC
 rcases hq with hq | hq
 ·obtain⟨its,r',pl,hz⟩:=I.list hq
  have hlen:=r'.length
  exact Calls.call_len_list pl.isList (by simp only[bT] <;> omega) ⟨.int ys.length,H,I.tok _,⟨s.toks+1,by rw[bT,hlen]⟩,q⟩
 ·obtain⟨its,r',pl,hz⟩:=I.tuple hq
  have hlen:=r'.length
  exact len_tuple pl (by simp only[bT] <;> omega) ⟨.int ys.length,H,I.tok _,⟨s.toks+1,by rw[bT,hlen]⟩,q⟩
theorem jH:jq X (.builtin "len") (fun xs H Q=>∃ z,xs=[.str z]∧z.length≤sizeLine∧Q (.int z.length) H):=by
 intro pins s σ H xs us Q I r h
 obtain⟨z,rfl,hz,q⟩:=h
 obtain⟨u,rfl,t,rfl⟩:=vK r
 have hn:=wC
 exact len_str (by omega) ⟨.int z.length,H,I.tok _,⟨_,rfl⟩,q⟩
theorem u8:jq X (.type "list") (fun xs H Q=>∃ p ys,xs=[.ref p]∧(z5 X.K H p ys∨qg X.K H p ys)∧∀ l,H l=none→Q (.ref l) (upd H l (.lst ys))):=by
 intro pins s σ H xs us Q I r h
 obtain⟨p,ys,rfl,hq,q⟩:=h
 obtain⟨u,rfl,rx⟩:=vK r
 cases rx
 have fin:∀ (its:List Value),z9 ys its→ys.length≤sizeLine→∀ (h':Heap) (c':Nat),(∀ b o',s.heap.get? b=some o'→h'.get? b=some o') →
   h'.get? s.heap.objs.size=some { cls:=.type "list",dict:=none,data:=.seq its.toArray c',slots:=#[] }→EP X pins σ Q (.ref s.heap.objs.size) { s with heap:=h' }:=fun its r' hz h' c' kp e =>
  ⟨.ref s.heap.objs.size,_,I.laid (t':=s.toks) kp (bK _) (show qQ X.prog X.w _ h' _ (.lst ys) from ⟨hz,its,c',r',e⟩),rfl,q _ (I.hok.fresh (bK _))⟩
 rcases hq with hq | hq
 ·obtain⟨its,r',pl,hz⟩:=I.list hq
  have hlen:=r'.length
  obtain⟨o,ho,hc,n,hd⟩:=pl.isList
  exact call_list_seq p (.inl rfl) ho hc hd (fun h' c' kp e=>fin its r' hz h' c' kp e) (by simp only[bT] <;> omega)
 ·obtain⟨its,r',pl,hz⟩:=I.tuple hq
  have hlen:=r'.length
  obtain⟨o,ho,hc,n,hd⟩:=pl
  exact call_list_seq p (.inr rfl) ho hc hd (fun h' c' kp e=>fin its r' hz h' c' kp e) (by simp only[bT] <;> omega)
theorem yD:jq X (.type "tuple") (fun xs H Q=>∃ p ys,xs=[.ref p]∧((z5 X.K H p ys∧∀ l,H l=none→Q (.ref l) (upd H l (.tup ys)))∨(qg X.K H p ys∧Q (.ref p) H))):=by
 intro pins s σ H xs us Q I r h
 obtain⟨p,ys,rfl,h⟩:=h
 obtain⟨u,rfl,rx⟩:=vK r
 cases rx
 rcases h with ⟨hq,q⟩ | ⟨hq,q⟩
 ·obtain⟨its,r',pl,hz⟩:=I.list hq
  have hlen:=r'.length
  refine call_tuple_list pl.isList (fun h' kp=>?_) (by simp only[bT] <;> omega)
  have I1:zH X pins σ H { s with heap:=h' }:=I.kept (t':=s.toks) kp
  have I2:zH X pins σ (upd H h'.objs.size (.tup ys)) { s with heap:=h'.push { cls:=.type "tuple",data:=.seq its.toArray } } :=
   I1.laid (t':=s.toks) (fun b o e=>bW _ e) (bK _) (show qQ X.prog X.w _ _ _ (.tup ys) from ⟨hz,its,r',IsTup.new _ _⟩)
  exact⟨.ref h'.objs.size,_,I2,rfl,q _ (I1.hok.fresh (bK _))⟩
 ·obtain⟨its,r',pl,hz⟩:=I.tuple hq
  exact call_tuple_same pl ⟨.ref p,H,I,rfl,q⟩
def TZ (K:PySem.W.Frag) (T:String) (x:V) (H:Hp):Prop:=match x with
 | .str _=>T = "str"
 | .int _=>T = "int"
 | .ref p=>(T = "list"∧∃ xs,z5 K H p xs)∨(T = "tuple"∧∃ o,K.lookup p=some o∧o.cls = .type "tuple"∧o.dict=none) ∨
   (T = "dict"∧((∃ kvs,H p=some (.dK kvs))∨∃ kvs,H p=some (.dT kvs)))∨(T = "set"∧∃ S n,H p=some (.set S n))
 | _=>False
theorem nV {pins:List (Addr × Obj)} {σ:St} {H:Hp} {s:Shared} {T:String} {x:V} {v:Value} (I:zH X pins σ H s) (r:qp x v) (ty:TZ X.K T x H) :
  s.TypeIs v T∧∀ a,v = .ref a→∃ ob,s.heap.get? a=some ob∧ob.dict=none:=by
 cases x with
 | str z =>
  obtain⟨t,rfl⟩:=r
  cases (show T = "str" from ty)
  exact⟨typeIs_str s z t,fun _ e=>nomatch e⟩
 | int i =>
  obtain⟨t,rfl⟩:=r
  cases (show T = "int" from ty)
  exact⟨typeIs_int s i t,fun _ e=>nomatch e⟩
 | ref p =>
  cases r
  rcases ty with ⟨rfl,xs,hq⟩ | ⟨rfl,o,hk,hc,hd⟩ | ⟨rfl,hk⟩ | ⟨rfl,S,n,hk⟩
  ·obtain⟨its,_,pl,_⟩:=I.list hq
   refine⟨pl.isList.typeIs,fun a e=>?_⟩
   cases e
   obtain⟨o,n,e,c,hd,_⟩:=pl
   exact⟨o,e,hd⟩
  ·refine⟨⟨o,I.kIn p o hk,hc⟩,fun a e=>?_⟩
   cases e
   exact⟨o,I.kIn _ o hk,hd⟩
  ·have z:∃ o,s.heap.get? p=some o∧o.ExactDict:=by
    rcases hk with ⟨kvs,hk⟩ | ⟨kvs,hk⟩
    ·obtain⟨_,_,_,_,o,_,_,e,ex,_⟩:=I.hok p _ hk
     exact⟨o,e,ex⟩
    ·obtain⟨_,_,_,_,o,_,_,e,ex,_⟩:=I.hok p _ hk
     exact⟨o,e,ex⟩
   obtain⟨o,e,ex⟩:=z
   refine⟨⟨o,e,ex.1⟩,fun a e2=>?_⟩
   cases e2
   exact⟨o,e,ex.2.1⟩
  ·obtain⟨o,_,_,_,e,ex,_⟩:=I.hok p _ hk
   refine⟨⟨o,e,ex.1⟩,fun a e2=>?_⟩
   cases e2
   exact⟨o,e,ex.2.1⟩
 | _=>exact False.elim ty
def bc (K:PySem.W.Frag) (T:String) (r:V→List V→Hp→VK→Prop) (to:TE) (t:TA):TE:=fun σ H Q=>to σ H fun x H1=>TZ K T x H1∧t σ H1 fun xs H2=>r x xs H2 Q
variable {o e:Expr} {es:List Expr} {to:TE} {t:TA} {name:Str} {apos cpos:Pos} {T id:String} {r:V→List V→Hp→VK→Prop}
theorem yE (pa:PlainAttrs T) (slot:Slot T name id) (hty:typeOf (.builtin id)=pure (.type "method_descriptor")) (hm:RZ X id r) (ho:PE X o to) (ha:PA X (e::es) t)
  (hbase:attributeBase o name X.env (eval o X.env)=eval o X.env:=by rfl)
  (hfew:((backTo cpos (starEach (e::es) X.env)).all (fun x=>!x.1)&&(backToKw cpos (keywordEach [] X.env)).all (fun x=>x.1.isSome)
   && decide ((e::es).length+([]:List Keyword).length+(if ([]:List Keyword).isEmpty then 0 else 1)<30))=true:=by rfl)
  (hline:(apos.endLine==cpos.line)=true:=by rfl) (hs:starEach (e::es) X.env=(false,eval e X.env)::starEach es X.env:=by exact z6 rfl) (hplain:(backTo cpos (starEach es X.env)).any (·.1)=false:=by rfl) :
  PE X (.Call (.Attribute o name apos) (e::es) [] cpos) (bc X.K T r to t):=by
 intro pins s σ H Q I h
 refine wpAny_Call_method_late hbase hfew hline rfl (qS (ho pins s σ H _ I h) fun v s1 ⟨x,H1,I1,r1,ty,q1⟩=>?_)
 obtain⟨h1,h2⟩:=nV I1 r1 ty
 refine⟨T,id,pa,slot,hty,h1,h2,?_⟩
 have hA:=ha cpos pins s1 σ H1 _ I1 q1
 rw[hs] at hA ⊢
 refine Calls.callWith_builtin (by show (false || (backTo cpos (starEach es X.env)).any (·.1))=false;rw[hplain] <;> rfl) (Calls.evalArgs_plain ?_)
 exact qS hA fun us s2 ⟨vs,H2,I2,r2,q2⟩=>hm pins s2 σ H2 x vs v us Q I2 r1 r2 q2
end
def Tn (X:Cx) (id:String) (r:V→List V→Hp→VK→Prop):Prop :=
 ∀ (pins:List (Addr × Obj)) (s:Shared) (σ:St) (H:Hp) (x:V) (xs:List V) (v:Value) (us:List Value) (Q:VK),zH X pins σ H s→qp x v→z9 xs us→r x xs H Q →
  wpAny (model X.prog X.w) X.A (call (.builtin id) (v::us)) (EP X pins σ Q) X.xe s
theorem z9.one:∀ {x:V} {us:List Value},z9 [x] us→∃ u,us=[u]∧qp x u
 | _,_,.cons r .nil=>⟨_,rfl,r⟩
theorem z9.dropLast {xs:List V} {us:List Value} (h:z9 xs us):z9 xs.dropLast us.dropLast:=by
 induction h with
 | nil=>exact .nil
 | cons r t ih =>
  cases t with
  | nil=>exact .nil
  | cons q t'=>exact .cons r ih
theorem nL {α:Type} (l:List α):l.eraseIdx (l.length - 1)=l.dropLast:=by
 induction l with
 | nil=>rfl
 | cons a r ih =>
  cases r with
  | nil=>rfl
  | cons b r =>
   have e:(a::b::r).length - 1=((b::r).length - 1)+1:=by
    have h1:(a::b::r).length=r.length+2:=rfl
    have h2:(b::r).length=r.length+1:=rfl
    omega
   rw[e,List.eraseIdx_cons_succ,ih]
   all_goals rfl
section
variable {X:Cx} {pins:List (Addr × Obj)} {σ:St} {H:Hp} {s:Shared} {l b:Addr} {xs ys zs:List V}
theorem zH.lset {its its':List Value} {n:Nat} {f:Array Value→Array Value} {t':Nat} (I:zH X pins σ H s) (hH:H l=some (.lst xs))
  (e:s.heap.get? l=some { cls:=.type "list",data:=.seq its.toArray n }) (hf:f its.toArray=its'.toArray) (hv:z9 ys its') (hz:ys.length≤sizeLine) :
  zH X pins σ (upd H l (.lst ys)) { s with heap:=s.heap.update l (Obj.mapSeq f),toks:=t' }:=by
 have q:=PySem.IsL.update e f
 rw[hf] at q
 refine I.write (x:=l) (e:=l) (by rw[hH];exact trivial) (.inl rfl) (fun b' u hb hu=>(cG s.heap (Obj.mapSeq f) (Ne.symm hb)).trans hu) ⟨_,q⟩ ?_
 exact⟨hz,its',_,hv,q⟩
theorem zH.lnew {its:List Value} {t':Nat} (I:zH X pins σ H s) (hv:z9 ys its) (hz:ys.length≤sizeLine) :
  zH X pins σ (upd H s.heap.objs.size (.lst ys)) { s with heap:=s.heap.push { cls:=.type "list",data:=.seq its.toArray },toks:=t' } :=
 I.laid (fun _ _ q=>bW _ q) (bK _) ⟨hz,its,0,hv,Bd _ rfl⟩
theorem zH.fresh (I:zH X pins σ H s):H s.heap.objs.size=none:=I.hok.fresh (bK _)
theorem zH.lstM (I:zH X pins σ H s) (hH:H l=some (.lst xs)):xs.length≤sizeLine∧∃ (its:List Value) (n:Nat),z9 xs its∧xs.length=its.length∧s.heap.get? l=some { cls:=.type "list",data:=.seq its.toArray n }:=by
 obtain⟨z,its,n,r,e⟩:=I.hok l _ hH
 exact⟨z,its,n,r,r.length,e⟩
theorem RV {n:Nat} (h:n≤sizeLine):Builtin.List.listTooLong n=false:=by
 unfold Builtin.List.listTooLong
 exact decide_eq_false (by omega)
end
section
variable {X:Cx}
def mC:V→List V→Hp→VK→Prop:=fun x vs H Q=>∃ l xs y,x = .ref l∧vs=[y]∧H l=some (.lst xs)∧xs.length<sizeLine∧Q .non (upd H l (.lst (xs++[y])))
theorem j7:Tn X "list.append" mC:=by
 intro pins s σ H x vs v us Q I rx rv h
 obtain⟨l,xs,y,rfl,rfl,hH,hz,q⟩:=h
 cases rx
 obtain⟨u,rfl,ru⟩:=rv.one
 obtain⟨z,its,n,r,hl,e⟩:=I.lstM hH
 refine call_meets F.slot_list_append ⟨_,e,rfl⟩ F.entry_list_append (F.args_list_append_2 _ _) (PySem.list_append l its.toArray n u (by rw[bT];omega)) ⟨e,?_⟩
 refine⟨.non,_,I.lset (its':=its++[u]) hH e (by simp) (r.append (.cons ru .nil)) ?_,rfl,q⟩
 rw[bP,Bu]
 omega
def tZ:R2:=fun x y H Q=>∃ l b xs zs,x = .ref l∧y = .ref b∧H l=some (.lst xs)∧H b=some (.lst zs)∧xs.length+zs.length≤sizeLine∧∀ p,H p=none→Q (.ref p) (upd H p (.lst (xs++zs)))
theorem ND:uE X (binaryOp .Add) tZ:=by
 intro pins s σ H x y v u Q I rx ry h
 obtain⟨l,b,xs,zs,rfl,rfl,hH,hB,hz,q⟩:=h
 cases rx
 cases ry
 obtain⟨z,its,n,r,hl,e⟩:=I.lstM hH
 obtain⟨z2,its2,n2,r2,hl2,e2⟩:=I.lstM hB
 refine PySem.P.add_list e e2 ?_ (by rw[bT,bT];omega)
 have ea:its.toArray++its2.toArray=(its++its2).toArray:=by simp
 rw[ea]
 exact⟨.ref _,_,I.lnew (t':=s.toks) (r.append r2) (by rw[bP];omega),rfl,q _ I.fresh⟩
end
section
variable {prog:Program} {w:World} {A:Around} {E:Value→Shared→Prop} {s:Shared}
end
section
variable {X:Cx}
end
end L2
namespace Att
open PySem PySem.W PySem.Calls PyProof.Rows
theorem kM {P:Params} {h:Heap}:∀ (ns:List Int) (vs:List Value),WellAll P h vs (ns.map WData.int)→IntsAre vs ns:=by
 intro ns
 induction ns with
 | nil =>
  intro vs w
  rw[List.map_nil] at w
  cases w
  exact .nil
 | cons n ns ih =>
  intro vs w
  rw[Br] at w
  cases w with
  | cons a b =>
   cases a
   exact .cons _ _ (ih _ b)
theorem gm {l:OpenLaw} {n:Nat} (hn:l.most=some n) {P:Params} {h:Heap} {args:List WData} {vals:List Value}
  (hpre:l.row.toRowW.claim.pre args=true) (hwl:WellAll P h vals args) :
  ∃ a vs ns,vals=[Value.ref a]∧args=[WData.list (ns.map WData.int)]∧h.get? a=some { cls:=.type "list",data:=.seq vs.toArray }∧IntsAre vs ns∧ns.length≤n:=by
 have hsh:WShape.hasAll [] args [.list .int]=true:=(pre_splitW hpre).1
 have hc:l.pre.holds [] { args:=args } = true:=(pre_splitW hpre).2
 obtain⟨d,r,rfl,h1,h2⟩:=hasAllW_cons hsh
 obtain rfl:=hasAllW_nil h2
 obtain⟨xs,rfl,h3⟩:=hasW_list h1
 obtain⟨ns,rfl⟩:=items_int h3
 have hlen:ns.length≤n:=by
  unfold OpenLaw.pre at hc
  have h4:(WTm.not (.lt (.lit (.int (n:Int))) (.len (.arg 0)))).holds [] { args:=[.list (ns.map .int)] } = true:=by
   have h4:=(holds_andW hc).1
   rw[hn] at h4
   exact h4
  have h5:=condW_of h4 (w_not (w_lt w_lit (w_len_list (w_arg rfl))))
  rw[bM] at h5
  refine BL fun q=>?_
  have q':(n:Int)<((ns.length:Nat):Int):=by omega
  first
   | (rw[decide_eq_true q'] at h5;exact absurd h5 (by decide))
   | (simp at h5;omega)
 cases hwl with
 | cons w1 w2 =>
  cases w2
  cases w1 with
  | list ho hall=>exact⟨_,_,ns,rfl,rfl,ho,kM ns _ hall,hlen⟩
theorem gH (l:OpenLaw) (args:List WData):l.row.toRowW.claim.post args (.bool true) args=true :=
 postW_of (r:=l.row.toRowW) (X:=(true==true))
  (show WShape.has [] (.bool true) .bool=true by first | rfl | decide | simp[WShape.has,WShape.arms,WShape.armsAll])
  (show (WTm.eq .res (.lit (.bool true))).value [] { args:=args,res:=some (.bool true),after:=args } = some (.bool (true==true)) from w_eq_bool (w_res rfl) w_lit) rfl
theorem UE {l:OpenLaw} {n:Nat} {q:Program} {loose:List Str} {XP:(Str→Option Value)→Heap→Prop} {YP:World→Heap→Prop} {d:DefRec}
  (hn:l.most=some n) (hdf:d.params.defaults=[])
  (call:∀ (w:World) (s₀ s₁:Shared) (mg mb:Str→Option Value) (fa:Addr) (o:Obj) (pm cd doc:Value) (a:Addr) (vs:List Value) (ns:List Int),
   Ground q loose [] XP w s₀ mg mb s₁.heap→YP w s₁.heap →
   s₁.heap.get? fa=some o→o.data = .func (docDef d.name d.params d.body d.scope pm cd doc)→s₁.heap.CodeRec cd d.name→mg d.name=some (.ref fa) →
   s₁.heap.get? a=some { cls:=.type "list",data:=.seq vs.toArray }→IntsAre vs ns→ns.length≤n→s₁.gens = #[] →
   codeAny (model l.prog w) callerA (.call (.ref fa) ⟨[.ref a],[]⟩) (fun r s'=>r = .ok (.ret (.bool true))∧OldK s₁.heap s'.heap∧s'.os=s₁.os∧AllBare s'.gens) s₁) :
  WalkO q loose XP YP l.row.toRowW d [] (fun f vs=>PySem.call f vs):=by
 intro w s₀ s₁ mg mb G Y fa o pm cd doc dV kV ho hd hcd hD hmg hg args vals as hpre hlay hrd hwl hlo
 obtain rfl:dV = .none:=Dflts.none hD hdf
 obtain rfl:kV = .none:=Dflts.noKw hD
 obtain⟨a,vs,ns,rfl,rfl,hobj,hints,hlen⟩:=gm hn hpre hwl
 refine enter_call (codeAny_mono (call w s₀ s₁ mg mb fa o pm cd doc a vs ns G Y ho (fd_plain hd) hcd hmg hobj hints hlen hg) fun r s' hq=>?_)
 obtain⟨rfl,h2,h3,h4⟩:=hq
 exact⟨.inl ⟨.bool true,.bool true,[],rfl,fun _=>rfl,.bool true,gH l _,fun _=>⟨List.Pairwise.nil,fun _ hm=>(nomatch hm)⟩⟩,h2,h3,h4⟩
section
variable {prog:Program} {w:World} {A:Around} {E:Value→Shared→Prop} {s:Shared} {K:Frag}
end
end Att
namespace L2
open PySem PySem.Spec PyProof.Rows
theorem Ym:∀ {vs:List Value} {ns:List Int},IntsAre vs ns→z9 (ns.map V.int) vs
 | _,_,.nil=>.nil
 | _,_,.cons n t h=>.cons ⟨t,rfl⟩ (Ym h)
def MY (H:Hp):Prop:=∀ b,H b=none∨∃ o xs,H b=some (.frz o (.lst xs))
theorem oZ {P:Program} {w:World} {K:PySem.W.Frag} {mg mb:Str→Option Value} {CX:wf} {k:Nat} {fa a:Addr} {fd:FuncData} {x:Str} {sp:Sp} {s₁:Shared} {vs:List Value} {ns:List Int}
  (KX:K.In s₁.heap) (hns:s₁.heap.Ns mainGlobals mg) (hb:s₁.heap.Ns builtinsNs mb) (hbb:∀ x:Str,x≠"__name__"→mb x=bootBuiltins x) (hlim:s₁.heap.NoLimit) (hg:s₁.gens = #[])
  (ha:s₁.heap.get? a=some { cls:=.type "list",data:=.seq vs.toArray }) (hi:IntsAre vs ns) (hl:ns.length≤sizeLine) (hr:ym k callerA)
  (F:∀ base:Heap,K.In base→base.Ns mainGlobals mg→zJ P w K mg base CX k fa fd [x] sp) (hbind:∀ (s:Shared) (u:Value),BindsTo s fd ⟨[u],[]⟩ [(x,u)])
  (hsp:∀ H:Hp,MY H→z5 K H a (ns.map V.int)→sp [.ref a] H (fun v _=>v = .bl true) fun _ _ _=>False)
  (hCX:∀ H e s',CX [] H s₁ (fun _ _ _=>False) e s'→False) :
  codeAny (model P w) callerA (.call (.ref fa) ⟨[.ref a],[]⟩) (fun r s'=>r = .ok (.ret (.bool true))∧OldK s₁.heap s'.heap∧s'.os=s₁.os∧AllBare s'.gens) s₁:=by
 have rv:=Ym hi
 have lenV:=hi.length
 have core:∀ H:Hp,MY H→z5 K H a (ns.map V.int)→uf P w H s₁.heap→(∀ b,H b≠none→b=a)→(H a≠none→K.lookup a=none) →
   codeAny (model P w) callerA (.call (.ref fa) ⟨[.ref a],[]⟩) (fun r s'=>r = .ok (.ret (.bool true))∧OldK s₁.heap s'.heap∧s'.os=s₁.os∧AllBare s'.gens) s₁:=by
  intro H hO hS hok hA hK
  have base_of:∀ {b:Addr} {o:Obj},s₁.heap.get? b=some o→H b=none→(Vl s₁.heap H).get? b=some o:=fun e n=>pf e n
  have noA:∀ {b:Addr} {o:Obj} {es:Array DictEntry} {ep:Nat},s₁.heap.get? b=some o→o.data = .dict es ep→H b=none:=fun {b o es ep} e d=>by
   cases q:H b with
   | none=>rfl
   | some u =>
    have e':b=a:=hA b (by rw[q];simp)
    subst e'
    rw[ha] at e;cases e
    have d':Data.seq vs.toArray _=Data.dict es ep:=d
    cases d'
  have nsK:∀ {b:Addr} {m:Str→Option Value},s₁.heap.Ns b m→(Vl s₁.heap H).Ns b m:=fun {b m} ⟨o,es,ep,e,d,r⟩=>⟨o,es,ep,base_of e (noA e d),d,r⟩
  have hKb:K.In (Vl s₁.heap H):=fun b o e=>base_of (KX b o e) (by
   cases q:H b with
   | none=>rfl
   | some u =>
    have e':b=a:=hA b (by rw[q];simp)
    subst e'
    rw[hK (by rw[q];simp)] at e;cases e)
  have hM:Mod K mg (Vl s₁.heap H):=⟨hKb,nsK hns,⟨mb,nsK hb,hbb⟩,let ⟨mc,h1,h2⟩:=hlim;⟨mc,nsK h1,h2⟩⟩
  have e0:UI P w K mg (Vl s₁.heap H) callerA [] s₁ H:=⟨rfl,hM,fun b o e=>LZ e,Nat.le_of_eq (GE _ _),trivial,fun b hb=>absurd (show b∈([]:List Addr) from hb) (by simp),hok,.of_eq hg⟩
  refine codeAny_mono ((F _ hKb (nsK hns)).run callerA [] s₁ H ⟨[.ref a],[]⟩ [.ref a] [.ref a] _ _ hr e0 (hbind s₁ (.ref a)) (.cons rfl .nil) (hsp H hO hS)) fun r s' h=>?_
  cases r with
  | error e=>exact (hCX H e s' h).elim
  | ok fl =>
   cases fl with
   | next=>exact False.elim h
   | brk=>exact False.elim h
   | cont=>exact False.elim h
   | ret u =>
    obtain⟨v,H',os,bare,un,hok',r',q⟩:=h
    have q':v = .bl true:=q
    subst q'
    obtain rfl:u=Value.bool true:=r'
    refine⟨rfl,OldK.of_keep fun b o e=>?_,os,bare⟩
    cases q:H b with
    | none=>exact un.keep b o e q (by intro z;exact absurd (show b∈([]:List Addr) from z) (by simp)) (by simp)
    | some u =>
     rcases hO b with z | ⟨ob,xs,z⟩
     ·rw[q] at z;cases z
     ·have z2:=un.frzs b ob _ z
      obtain⟨e1,_⟩:=hok b _ z
      obtain⟨e2,_⟩:=hok' b _ z2
      rw[e] at e1;cases e1
      exact e2
 cases hk:K.lookup a with
 | some o =>
  have e:=KX a o hk
  rw[ha] at e
  cases e
  refine core (fun _=>none) (fun _=>.inl rfl) (.inr ⟨_,vs.toArray,_,hk,rfl,rfl,rfl,by rw[bT,lenV];exact hl,by simpa using rv⟩) (fun b u z=>by have z':(none:Option HO)=some u:=z;cases z') (fun b z=>absurd rfl z) fun z=>absurd rfl z
 | none =>
  refine core (fun b=>if b=a then some (.frz { cls:=.type "list",data:=.seq vs.toArray } (.lst (ns.map V.int))) else none) (fun b=>?_) (.inl (.inr ⟨{ cls:=.type "list",data:=.seq vs.toArray },if_pos rfl⟩)) (fun b u z=>?_) (fun b z=>?_) fun _=>hk
  ·by_cases hb:b=a
   ·exact .inr ⟨_,_,if_pos hb⟩
   ·exact .inl (if_neg hb)
  ·by_cases hb:b=a
   ·have z':=(if_pos hb).symm.trans z
    cases z'
    subst hb
    exact⟨ha,by rw[bM];exact hl,vs,_,rv,ha⟩
   ·have z':=(if_neg hb).symm.trans z
    cases z'
  ·by_cases hb:b=a
   ·exact hb
   ·exact absurd (if_neg hb) z
theorem LR {l:PySem.W.OpenLaw} {n k:Nat} {q:Program} {loose:List Str} {XP:(Str→Option Value)→Heap→Prop} {YP:World→Heap→Prop} {d:DefRec} {K:Params→PySem.W.Frag} {CX:World→wf} {sp:World→Sp} {x:Str}
  (hn:l.most=some n) (hn2:n≤sizeLine) (hdf:d.params.defaults=[]) (hr:ym k callerA)
  (hY:∀ (w:World) (h:Heap),YP w h→(K w.params).In h)
  (F:∀ (w:World) (mg:Str→Option Value) (fa:Addr) (h:Heap),(K w.params).In h→h.Ns mainGlobals mg→mg d.name=some (.ref fa) →
   ∃ fd:FuncData,(∀ (s:Shared) (u:Value),BindsTo s fd ⟨[u],[]⟩ [(x,u)]) ∧
    ∀ base:Heap,(K w.params).In base→base.Ns mainGlobals mg→zJ l.prog w (K w.params) mg base (CX w) k fa fd [x] (sp w))
  (hsp:∀ (w:World) (H:Hp) (a:Addr) (ns:List Int),ns.length≤n→MY H→z5 (K w.params) H a (ns.map V.int)→sp w [.ref a] H (fun v _=>v = .bl true) fun _ _ _=>False)
  (hCX:∀ (w:World) (H:Hp) (s:Shared) (e:Value) (s':Shared),CX w [] H s (fun _ _ _=>False) e s'→False) :
  PySem.W.WalkO q loose XP YP l.row.toRowW d [] (fun f vs=>PySem.call f vs):=by
 refine Att.UE hn hdf fun w s₀ s₁ mg mb fa o pm cd doc a vs ns G Y ho hd hcd hmg hobj hints hlen hg=>?_
 have KX:=hY w _ Y
 obtain⟨fd,hb,hF⟩:=F w mg fa _ KX G.T.g hmg
 exact oZ KX G.T.g G.T.b G.T.builtins G.T.nolimit hg hobj hints (Bj hlen hn2) hr hF hb (fun H hO hS=>hsp w H a ns hlen hO hS) fun H e s'=>hCX w H s₁ e s'
abbrev zO:wf:=fun _ _ _ _ _ _=>False
abbrev E0:XK:=fun _ _ _=>False
theorem zu {X:Cx}:yt zO X E0:=fun _ _ _ _ _ _ _ h=>h.elim
structure qE (K:PySem.W.Frag) (x qual:Str) (st:Stmt) (f:Addr) (fd:FuncData):Prop where
 ex:∃ (oc:Value) (od:Option Addr) (kV doc pm:Value) (an:Option Addr) (cdv ct:Value) (osl:Array (Option Value)),
  fd=PySem.W.fnOf x qual (jk st) (yu st) (zV st) .none kV doc pm an cdv ct∧K.lookup f=some ⟨oc,od,.func fd,osl⟩∧PySem.W.codeIn K cdv qual=true
 kp:PySem.W.keepIn K (.ref f)=true
section
variable {P:Program} {w:World} {K:PySem.W.Frag} {mg:Str→Option Value} {base:Heap}
theorem qE.ok {x qual:Str} {st:Stmt} {f:Addr} {fd:FuncData} {N ps:List Str} {k:Nat} {sp:Sp} (F:qE K x qual st f fd) (S:u7 N ps (zV st)) (len:∀ vs H Q E,sp vs H Q E→vs.length=ps.length)
  (hbody:∀ (cdv:Value) (A:Around) (outer:List Env) (s:Shared) (H:Hp) (vs:List V) (Q:VK) (E:XK),ym k (A.deeper (envOfC qual (zV st) s.heap.objs.size f cdv))→sp vs H Q E →
   ∃ t,jw (kJ zO P w K mg base N qual (zV st) f cdv A outer s H E).nox (yu st) t∧t { nx:=fun _ H'=>Q .non H',rt:=Q } (vI N vs) H):zJ P w K mg base zO (k+1) f fd ps sp:=by
 obtain⟨oc,od,kV,doc,pm,an,cdv,ct,osl,rfl,lk,hcd⟩:=F.ex
 refine Me lk hcd S len fun A outer s H vs Q E hr hsp=>?_
 obtain⟨t,h,q⟩:=hbody cdv A outer s H vs Q E hr hsp
 exact⟨t,h.nox,q⟩
theorem qE.binds {x qual:Str} {st:Stmt} {f:Addr} {fd:FuncData} {ps:List Str} (F:qE K x qual st f fd)
  (h:∀ (kV doc pm:Value) (an:Option Addr) (cdv ct:Value) (us:List Value),us.length=ps.length→bindArgs (PySem.W.fnOf x qual (jk st) (yu st) (zV st) .none kV doc pm an cdv ct) ⟨us,[]⟩=pure (ps.zip us)):jE K fd ps []:=by
 obtain⟨oc,od,kV,doc,pm,an,cdv,ct,osl,rfl,lk,hcd⟩:=F.ex
 exact .all (h kV doc pm an cdv ct)
theorem Nw {x qual:Str} {st:Stmt} {f:Addr} {oc:Value} {od an:Option Addr} {osl:Array (Option Value)} {kV doc pm cdv ct:Value} (l:K.lookup f=some ⟨oc,od,.func (PySem.W.fnOf x qual (jk st) (yu st) (zV st) .none kV doc pm an cdv ct),osl⟩)
  (c:PySem.W.codeIn K cdv qual=true) (k:PySem.W.keepIn K (.ref f)=true):qE K x qual st f (PySem.W.fnOf x qual (jk st) (yu st) (zV st) .none kV doc pm an cdv ct):=⟨⟨oc,od,kV,doc,pm,an,cdv,ct,osl,rfl,l,c⟩,k⟩
end
theorem Xj {A:Around} {k:Nat} (hr:ym k A):A.units+1<cLine:=B5 (cH (by decide:1≤64) _) hr.units
section
variable {X:Cx}
theorem pv (i:Nat) {x:Str} {pos:Pos} (hN:X.N[i]? = some x:=by rfl) (hv:tY X.env.scope x:=by first | exact Or.inl rfl | exact Or.inr (Or.inl rfl) | exact Or.inr (Or.inr rfl)) (hd:(x==("__debug__":Str))=false:=by decide)
  (hcd:(x==("__classdict__":Str))=false:=by decide):PE X (.Name x pos) (zP i):=Nh hN hv hd hcd
end
theorem qN {A B:Prop} (h:B):if false=true then A else B:=by
 rw[if_neg bV]
 exact h
theorem y8 {A B:Prop} (h:A):if true=true then A else B:=by
 rw[if_pos rfl]
 exact h
theorem yv {c A B:Prop} [Decidable c] (h1:c→A) (h2:¬ c→B):if c then A else B:=by
 by_cases h:c
 ·rw[if_pos h]
  exact h1 h
 ·rw[if_neg h]
  exact h2 h
def zx (H H':Hp):Prop:=∀ b o,H b=some o→H' b=some o
theorem zx.refl (H:Hp):zx H H:=fun _ _ h=>h
theorem zx.trans {H H1 H2:Hp} (a:zx H H1) (b:zx H1 H2):zx H H2:=fun c o h=>b c o (a c o h)
theorem zx.free {H H':Hp} (e:zx H H') {l:Addr} (h:H' l=Option.none):H l=Option.none:=by
 cases q:H l with
 | none=>rfl
 | some o =>
  rw[e l o q] at h
  cases h
theorem zx.seq {K:PySem.W.Frag} {H H':Hp} {a:Addr} {xs:List V} (e:zx H H') (h:z5 K H a xs):z5 K H' a xs:=by
 rcases h with (h | ⟨o,h⟩) | h
 ·exact .inl (.inl (e _ _ h))
 ·exact .inl (.inr ⟨o,e _ _ h⟩)
 ·exact .inr h
end L2
namespace XK
open PySem PySem.W PySem.Spec PySem.Calls PyProof.Rows
section
variable {prog:Program} {w:World} {A:Around} {E:Value→Shared→Prop} {s:Shared} {K:Frag} {x D:Addr} {ox:Obj}
structure jQ (K:Frag) (D:Addr):Prop where
 cls:(clsIn K D).isSome=true
 ga:findIn K (.ref D) "__getattribute__" = some (some (.builtin "BaseException.__getattribute__"))
 hook:findIn K (.ref D) "__getattr__" = some none
 ca:findIn K (.ref D) "__class__" = some (some (.builtin "object.__class__"))
 get:specialIn K (.builtin "object.__class__") "__get__" = some (some (.builtin "getset_descriptor.__get__"))
 tk:takesIn K (.builtin "object.__class__")=some true
 ob:mroIn K D (.type "object")=some true
 bx:mroIn K D (.type "BaseException")=some true
theorem NZ (c:jQ K D):findObj K D none "__class__" = some (.bind (.builtin "getset_descriptor.__get__") (.builtin "object.__class__")):=by
 obtain⟨cd,hc⟩:=BR.mp c.cls
 unfold findObj
 rw[hc,Option.bind_some,c.ca,Option.bind_some]
 simp[c.get,c.tk]
theorem OX {nameV:Value} {M:Model} {Q:Unit→Shared→Prop} (X:K.In s.heap) (c:jQ K D) (I:InstAt s.heap x ox D none) (h:Q () s) :
  wpAny M A (checkBuiltinCall "BaseException.__getattribute__" ⟨[.ref x,nameV],[]⟩) Q E s:=by
 have hk:builtinKind "BaseException.__getattribute__" = some .slot:=by decide +kernel
 have hsplit:splitId "BaseException.__getattribute__" = some ("BaseException","__getattribute__"):=by decide +kernel
 have ha:=F.args_bexc_ga (.ref x) nameV
 have L0:=I.type (M:=M)
 have L1:=looks_mroIn (M:=M) X c.bx
 obtain⟨hh,g,d,t,os⟩:=s
 simp only[checkBuiltinCall,hk,hsplit]
 unfold isInstance
 repeat (first | exact h | refine wpAny_bind (L0.at ?_) | refine wpAny_bind (L1.at ?_) | refine L0.at ?_ | refine L1.at ?_ | wp_step)
theorem Ov {tk:Tok} {Q:Fin→Shared→Prop} (X:K.In s.heap) (c:jQ K D) (I:InstAt s.heap x ox D none) (h:Q (.done (.ret (.ref D))) s) :
  wpAny (model prog w) A (Builtin.«object.__getattribute__» ⟨[.ref x,.str "__class__" tk],[]⟩) Q E s:=by
 have L0:=I.type (M:=model prog w)
 have L1:=looks_find (M:=model prog w) X I (NZ c)
 obtain⟨hh,g,d,t,os⟩:=s
 unfold Builtin.«object.__getattribute__»
 repeat (first | refine wpAny_bind (L0.at ?_) | refine wpAny_bind (L1.at ?_) | wp_step)
 exact class_get X I c.ob (wpAny_pure h)
theorem Lf {Q:Option Value→Shared→Prop} (X:K.In s.heap) (c:jQ K D) (I:InstAt s.heap x ox D none) (h:Q (some (.ref D)) { s with toks:=s.toks+1 }) :
  wpAny (model prog w) A (getAttr? (.ref x) "__class__") Q E s:=by
 have L0:=I.type (M:=model prog w)
 have L1:=looks_findIn (M:=model prog w) X c.ga
 have L2:=looks_findIn (M:=model prog w) X c.hook
 have f3:=PySem.F.attr_ValueError.ga.bind (.ref x)
 have hx2:(Value.builtin "BaseException.__getattribute__" == Value.builtin "object.__getattribute__")=false:=by decide +kernel
 have hx1:(onTheHeap (Value.ref D)&&Value.builtin "BaseException.__getattribute__" == Value.builtin "object.__getattribute__")=false:=by rw[hx2];rfl
 obtain⟨hh,g,d,t,os⟩:=s
 unfold getAttr? getAttrBy? getAttrBy
 refine wpAny_bind (wpAny_mkText (wpAny_bind (wpAny_attempt (wpAny_holding (wpAny_bind (L0.at (wpAny_bind (L1.at ?_))))))))
 dsimp only
 rw[hx1,if_neg bV]
 unfold getAttrByItsOwn hookBefore
 rw[show onTheHeap (Value.ref D)=true from rfl,if_pos rfl]
 refine wpAny_bind (L2.at ?_)
 refine wpAny_bind (wpAny_attempt (wpAny_holding ?_))
 unfold callGetattribute
 rw[Bool.false_and,if_neg bV]
 unfold boundAndCalled
 rw[f3]
 refine wpAny_bind (wpAny_pure ?_)
 refine wpAny_call (codeAny_call_builtin PySem.F.attr_ValueError.ga.plain F.entry_bexc_ga (OX (s:=⟨hh,g,d,t+1,os⟩) X c I (Ov (s:=⟨hh,g,d,t+1,os⟩) X c I ?_)))
 repeat (first | exact h | wp_step)
theorem p8 (c:jQ K D):KitX K (.ref x) (.ref D) (fun h=>InstAt h x ox D none) where
 ty:=fun _ _ _ I=>I.type
 it:=fun M h X _=>by
  obtain⟨cd,hc⟩:=BR.mp c.cls
  unfold clsIn at hc
  split at hc
  ·rename_i ho
   intro A' Q' E' s' k q
   unfold isType loadHead
   exact wpAny_bind (wpAny_loadPart (k _ _ (X _ _ ho)) (wpAny_pure q))
  ·cases hc
 ne:=fun h tp dd its n sl X htp=>by
  obtain⟨cd,hc⟩:=BR.mp c.cls
  refine Bool.eq_false_iff.mpr fun q=>?_
  obtain rfl:D=tp:=Value.ref.inj (beq_iff_eq.mp q)
  unfold clsIn at hc
  split at hc
  ·rename_i ho
   cases (X _ _ ho).symm.trans htp
  ·cases hc
 ca:=fun X I k=>Lf X c I k
end
end XK
namespace L2
open PySem PySem.Spec PyProof.Rows
section
variable {M:Model} {A:Around} {E:Value→Shared→Prop} {s:Shared}
structure lR (fl:List Addr) (e:Addr) (oe:Obj) (mark:Value) (h h':Heap) (T:Addr):Prop where
 keep:∀ b o,b≠e→b∉fl→h.get? b=some o→h'.get? b=some o
 slot:∀ b o,b≠e→h.get? b=some o→∃ sl,h'.get? b=some { o with slots:=sl }
 new:h.objs.size≤T
 recd:h'.get? e=some (oe.mapFields (·.setIfInBounds 1 (.ref T)))
 head:∃ oT ts,h'.get? T=some oT∧oT.data = .fields ts∧ts[3]? = some mark
theorem lf {base:Heap} {env:Env} {outer:List Env} {L e:Addr} {oe:Obj} {vs:Array Value} {head:Value} {b:Bool} {Q:Unit→Shared→Prop}
  (hfr:A.frames=some (env::outer)) (hl:s.heap.FunFrames base (env::outer)) (hf:env.frame=some L) (he:s.heap.get? e=some oe) (hd:oe.data = .fields vs) (hz:1<vs.size)
  (k:∀ h' T,lR ((env::outer).filterMap (·.frame)) e oe (rawInt L) s.heap h' T→Q () { s with heap:=h' }) :
  wpAny M A (do setField (.ref e) 1 (← EntryCells.newEntry head (← frameOf env) .none (rawInt L) .none (← entryPlaceOf L b))) Q E s:=by
 have off:e∉(env::outer).filterMap (·.frame):=fun hm=>by
  obtain⟨_,o,ho,nf⟩:=hl.mem hm
  rw[he] at ho
  cases ho
  exact nf vs hd
 refine wpAny_bind (wpAny_frameOf_fun hfr hl hf fun g so=>?_)
 refine wpAny_bind (wpAny_entryPlaceOf fun pl place=>?_)
 refine wpAny_bind ?_
 unfold EntryCells.newEntry newFields
 refine wpAny_newObj_type ?_ (place.sizeOk5 _ _ _ _ _)
 have g1:g.get? e=some oe:=(so.2.1 e off).trans he
 have g2:=bW (h:=g) { cls:=.type "traceback",dict:=none,data:=.fields ([head,.ref L,.none,rawInt L,.none]++(if pl.isEmpty then List.replicate 6 Value.none else pl)).toArray } g1
 have ne:g.objs.size≠e:=Ca (bQ g1)
 refine wpAny_setField g2 hd hz (k _ g.objs.size ?_)
 have oth:∀ c o,c≠e→g.get? c=some o→((g.push { cls:=.type "traceback",dict:=none,data:=.fields ([head,.ref L,.none,rawInt L,.none]++(if pl.isEmpty then List.replicate 6 Value.none else pl)).toArray }).update e (Obj.mapFields (·.setIfInBounds 1 (Value.ref g.objs.size)))).get? c=some o:=fun c o hc q=>by
  rw[cG _ _ (Ne.symm hc)]
  exact bW _ q
 refine⟨fun c o hc hm q=>oth c o hc ((so.2.1 c hm).trans q),fun c o hc q=>?_,by rw[so.1];exact bK _,?_,?_⟩
 ·obtain⟨sl,z⟩:=so.2.2 c o q
  exact⟨sl,oth c _ hc z⟩
 ·exact cI _ g2 (Obj.isFreed_of_fields (Obj.data_mapFields hd _))
 ·refine⟨_,_,(cG _ _ (Ne.symm ne)).trans (Bd g rfl),rfl,?_⟩
  simp
end
abbrev CT:=Hp→Array Value→Prop
def C0:CT:=fun _ vs=>vs[2]? = some .none
def ny:CT:=fun H vs=>vs[2]? = some .none∨∃ eb ob ws u,vs[2]? = some (.ref eb)∧H eb=some (.frz ob u)∧ob.data = .fields ws∧ws[2]? = some .none
class gY (C:CT):Prop where
 keep:∀ {H:Hp} {vs:Array Value} {v:Value},C H vs→C H (vs.setIfInBounds 1 v)
 zero:∀ {H:Hp} {vs:Array Value},vs[2]? = some .none→C H vs
 ctx:∀ {H:Hp} {vs:Array Value},C H vs→ny H vs
theorem OV {vs:Array Value} {v:Value} {n:Value} (h:vs[2]? = some n):(vs.setIfInBounds 1 v)[2]? = some n:=by
 rw[Array.getElem?_setIfInBounds_ne (by decide)]
 exact h
instance:gY C0:=⟨OV,id,.inl⟩
instance:gY ny:=⟨fun h=>h.imp OV fun⟨eb,ob,ws,u,f1,f2⟩=>⟨eb,ob,ws,u,OV f1,f2⟩,.inl,id⟩
def QP (C:CT) (X:Cx) (pins:List (Addr × Obj)) (H:Hp) (ea:Addr) (cls fl:Value) (h:Heap):Prop :=
 jC X pins H ea∧∃ oe vs,h.get? ea=some oe∧(oe.cls=cls∧oe.dict=none)∧oe.data = .fields vs∧C H vs ∧
  ((vs[1]? = some .none∧fl = .none)∨∃ T oT ts,vs[1]? = some (.ref T)∧T≠ea∧jC X pins H T∧h.get? T=some oT∧oT.data = .fields ts∧ts[3]? = some fl)
section
variable {X:Cx} {pins:List (Addr × Obj)} {σ:St} {H:Hp} {s:Shared} {ea:Addr} {cls fl:Value} {M:Model} {A:Around} {E:Value→Shared→Prop} {Q:Unit→Shared→Prop} {C:CT} [ct:gY C]
theorem zH.flown (I:zH X pins σ H s) {b:Addr} (f:jC X pins H b) {h':Heap} (k:∀ c o,c≠b→s.heap.get? c=some o→h'.get? c=some o):zH X pins σ H { s with heap:=h' } :=
 I.turned (t':=s.toks) k f.1 f.2.1 f.2.2.2.1 f.2.2.2.2.1 f.2.2.2.2.2
theorem qQ.some {P:Program} {w:World} {h:Heap} {a:Addr} {o:HO} (x:qQ P w H h a o):∃ u,h.get? a=some u:=by
 cases o with
 | lst xs=>obtain⟨_,_,_,_,e⟩:=x;exact⟨_,e⟩
 | tup xs=>obtain⟨_,_,_,u,e,_⟩:=x;exact⟨_,e⟩
 | dK kvs=>obtain⟨_,_,_,_,u,_,_,e,_⟩:=x;exact⟨u,e⟩
 | dT kvs=>obtain⟨_,_,_,_,u,_,_,e,_⟩:=x;exact⟨u,e⟩
 | set S n=>obtain⟨u,_,_,_,e,_⟩:=x;exact⟨u,e⟩
 | ins C dx fs=>obtain⟨_,_,_,e,_⟩:=x;exact⟨_,e⟩
 | own y=>exact x
 | xd fs=>obtain⟨_,⟨u,_,_,e,_⟩,_⟩:=x;exact⟨u,e⟩
 | rng lo hi=>obtain⟨_,_,_,e⟩:=x;exact⟨_,e⟩
 | frz ob u=>obtain⟨e,_⟩:=x;exact⟨_,e⟩
 | tbl ps=>exact⟨_,x⟩
 | met f y=>exact⟨_,x⟩
 | ext φ=>exact x.2.1
theorem zH.none_of (I:zH X pins σ H s) {b:Addr} (hb:s.heap.get? b=none):H b=none:=by
 cases q:H b with
 | none=>rfl
 | some o =>
  obtain⟨u,e⟩:=(I.hok b o q).some
  rw[hb] at e
  cases e
theorem zH.fpNone {H':Hp} (I:zH X pins σ H s) {b:Addr} (hb:s.heap.get? b=none) (hn:H' b=none):jC X pins H' b:=by
 refine⟨hn,fun z=>?_,fun z=>?_,?_,fun x c e z=>?_,fun p hp z=>?_⟩
 ·obtain⟨m,⟨o,_,_,e,_⟩,_⟩:=I.loc
  rw[← z,hb] at e
  cases e
 ·obtain⟨_,o,e,_⟩:=I.funs.mem z
  rw[hb] at e
  cases e
 ·by_cases hx:b∈X.ex
  ·exact .inl hx
  ·refine .inr ?_
   cases q:X.s₀.heap.get? b with
   | none=>rfl
   | some o =>
    obtain⟨o',e⟩:=I.base.there b o q hx
    rw[hb] at e
    cases e
 ·obtain⟨v,o,e',_⟩:=I.cell x c e
  rw[z,hb] at e'
  cases e'
 ·have e:=(I.pin p hp).1
  rw[z,hb] at e
  cases e
theorem wJ (I:zH X pins σ H s) (F:QP C X pins H ea cls fl s.heap) (k:∀ s',zH X pins σ H s'→QP C X pins H ea cls .none s'.heap→Q () s') :
  wpAny M A (setFlight (.ref ea) none) Q E s:=by
 obtain⟨f0,oe,vs,he,hc,hd,h2,hh⟩:=F
 unfold setFlight
 rcases hh with ⟨h1,rfl⟩ | ⟨T,oT,ts,h1,hne,fT,hT,hdT,h3⟩
 ·refine wpAny_bind (wpAny_field he hd h1 ?_)
  rw[if_neg (by decide)]
  exact wpAny_pure (k s I ⟨f0,oe,vs,he,hc,hd,h2,.inl ⟨h1,rfl⟩⟩)
 ·have hz:3<ts.size:=(BM.mp h3).1
  refine wpAny_bind (wpAny_field he hd h1 ?_)
  rw[if_pos (show (Value.ref T != Value.none)=true by simp)]
  have oth:∀ c,c≠T→(s.heap.update T (Obj.mapFields (·.setIfInBounds 3 ((none:Option Addr).elim Value.none fun f=>rawInt f)))).get? c=s.heap.get? c:=fun c hc=>cG _ _ (Ne.symm hc)
  have hT':=cI (Obj.mapFields (·.setIfInBounds 3 ((none:Option Addr).elim Value.none fun f=>rawInt f))) hT (Obj.isFreed_of_fields (Obj.data_mapFields hdT _))
  refine wpAny_setField hT hdT hz (k _ (I.flown fT fun c o hc q=>(oth c hc).trans q) ⟨f0,oe,vs,(oth ea (Ne.symm hne)).trans he,hc,hd,h2,.inr ⟨T,_,_,h1,hne,fT,hT',Obj.data_mapFields hdT _,?_⟩⟩)
  simp[hz]
theorem ZN (f:Array Value→Array Value) (o:Obj):(Obj.mapFields f o).dict=o.dict:=by
 obtain⟨c,d,dt,sl⟩:=o
 cases dt <;> rfl
theorem YV (I:zH X pins σ H s) (hs:X.stack=X.env::X.outer) (hf:X.env.frame=some X.env.locals) (hfr:A.frames=some X.stack) {oe:Obj} {vs:Array Value} {head:Value} {b:Bool}
  (f0:jC X pins H ea) (he:s.heap.get? ea=some oe) (hc:oe.cls=cls∧oe.dict=none) (hd:oe.data = .fields vs) (h2:C H vs) (hz:1<vs.size)
  (k:∀ s',zH X pins σ H s'→QP C X pins H ea cls (rawInt X.env.locals) s'.heap→Q () s') :
  wpAny M A (do setField (.ref ea) 1 (← EntryCells.newEntry head (← frameOf X.env) .none (rawInt X.env.locals) .none (← entryPlaceOf X.env.locals b))) Q E s:=by
 have stk:s.heap.FunFrames X.base (X.env::X.outer):=by
  have q:=I.stack
  rw[hs] at q
  exact q
 have fm:∀ b,b∈(X.env::X.outer).filterMap (·.frame)↔b=X.env.locals∨b∈X.fs:=fun b=>by
  rw[cy,hf]
  exact bN
 have fre:∀ b∈(X.env::X.outer).filterMap (·.frame),H b=none:=fun b hb=>I.stkFree b (by rw[hs];exact hb)
 refine lf (hfr.trans (congrArg some hs)) stk hf he hd hz fun h' T W=>?_
 have nT:ea≠T:=b5 (Bq (bQ he) W.new)
 have I':zH X pins σ H { s with heap:=h' }:=by
  refine I.step (g':=s.gens) (d':=s.drawn) (t':=s.toks) (ch:=[ea]) (fun b hb=>?_) (fun b o hL hb hc q _=>?_) (fun b o _ _ hc q _=>W.slot b o (fun z=>hc (by simp[z])) q) (fun _ _ _ _ n=>n)
   (fun b o hc q=>?_) (fun _ _ q=>q) (fun _ _ _ q=>q) (fun _ ps q=>⟨#[],by rw[q];simp⟩) (fun m hm=>?_) (fun b u q=>?_) I.bare
  ·obtain rfl:b=ea:=by simpa using hb
   exact⟨f0.2.2.2.1,f0.2.1,f0.2.2.2.2.1,f0.2.2.2.2.2⟩
  ·exact W.keep b o (fun z=>hc (by simp[z])) (fun z=>((fm b).mp z).elim hL hb) q
  ·obtain⟨sl,z⟩:=W.slot b o (fun z=>hc (by simp[z])) q
   exact⟨_,z⟩
  ·obtain⟨o,es,ep,ho,r⟩:=hm
   obtain⟨sl,z⟩:=W.slot _ o (Ne.symm f0.2.1) ho
   exact⟨_,es,ep,z,r⟩
  ·refine (I.hok b u q).stay (fun c v hc z=>?_) (fun _ z=>z) fun _ _ z=>z
   have nc:H c≠none:=by
    rcases hc with rfl | hc
    ·rw[q];simp
    ·rw[hc];simp
   exact W.keep c v (fun e=>nc (by rw[e];exact f0.1)) (fun e=>nc (fre c e)) z
 obtain⟨oT,ts,hT,hdT,h3⟩:=W.head
 refine k _ I' ⟨f0,_,_,W.recd,⟨(Obj.cls_mapFields _ _).trans hc.1,(ZN _ _).trans hc.2⟩,Obj.data_mapFields hd _,?_,.inr ⟨T,oT,ts,?_,Ne.symm nT,?_,hT,hdT,h3⟩⟩
 ·exact ct.keep h2
 ·simp[hz]
 ·exact I.fpOk W.new (I.hok.fresh W.new)
theorem Xe (I:zH X pins σ H s) (F:QP C X pins H ea cls fl s.heap) (hs:X.stack=X.env::X.outer) (hf:X.env.frame=some X.env.locals) (hfr:A.frames=some X.stack)
  (k:∀ s',zH X pins σ H s'→QP C X pins H ea cls (rawInt X.env.locals) s'.heap→Q () s'):wpAny M A (noteFrame (.ref ea) X.env) Q E s:=by
 obtain⟨f0,oe,vs,he,hc,hd,h2,hh⟩:=F
 unfold noteFrame
 simp only[hf]
 rcases hh with ⟨h1,_⟩ | ⟨T,oT,ts,h1,hne,fT,hT,hdT,h3⟩
 ·refine wpAny_bind (wpAny_field he hd h1 ?_)
  rw[if_neg (by decide)]
  exact YV I hs hf hfr f0 he hc hd h2 (BM.mp h1).1 k
 ·have hz:3<ts.size:=(BM.mp h3).1
  refine wpAny_bind (wpAny_field he hd h1 ?_)
  rw[if_pos (show (Value.ref T != Value.none)=true by simp)]
  refine wpAny_bind (wpAny_field hT hdT h3 ?_)
  by_cases me:(fl==rawInt X.env.locals)=true
  ·rw[if_pos me]
   exact wpAny_pure (k s I ⟨f0,oe,vs,he,hc,hd,h2,.inr ⟨T,oT,ts,h1,hne,fT,hT,hdT,by rw[← eq_of_beq me];exact h3⟩⟩)
  rw[if_neg me]
  have oth:∀ c,c≠T→(s.heap.update T (Obj.mapFields (·.setIfInBounds 3 Value.none))).get? c=s.heap.get? c:=fun c hc=>cG _ _ (Ne.symm hc)
  refine wpAny_bind (wpAny_setField hT hdT hz ?_)
  exact YV (I.flown fT fun c o hc q=>(oth c hc).trans q) hs hf hfr f0 ((oth ea (Ne.symm hne)).trans he) hc hd h2 (BM.mp h1).1 k
end
def tq (C:CT) (P:Program) (w:World):wf:=fun outer H s E e s'=>∃ (ea:Addr) (cls:Value) (H':Hp),e = .ref ea∧s'.os=s.os∧AllBare s'.gens∧Un (Gr outer) [] H H' s.heap s'.heap∧uf P w H' s'.heap ∧
 (s.heap.get? ea=none∧H' ea=none∧∃ oe vs,s'.heap.get? ea=some oe∧(oe.cls=cls∧oe.dict=none)∧oe.data = .fields vs∧C H' vs ∧
  ((vs[1]? = some .none)∨∃ T oT ts,vs[1]? = some (.ref T)∧T≠ea∧s.heap.get? T=none∧H' T=none∧s'.heap.get? T=some oT∧oT.data = .fields ts∧ts[3]? = some .none))∧E cls none H'
abbrev xq:=tq C0
def Zp (C:CT) (X:Cx) (E:XK):Prop:=∀ (pins:List (Addr × Obj)) (σ:St) (H:Hp) (s:Shared) (ea:Addr) (cls fl:Value),zH X pins σ H s→QP C X pins H ea cls fl s.heap→E cls none H→X.xe (.ref ea) s
theorem kq {C:CT} {P:Program} {w:World} {X:Cx} {E:XK} (hP:X.prog=P) (hw:X.w=w) (t:Zp C X E):yt (tq C P w) X E:=by
 subst hP hw
 intro pins σ H s e s' I c
 obtain⟨ea,cls,H',rfl,os,bare,un,hok,⟨n0,f0,oe,vs,he,hc,hd,h2,hh⟩,q⟩:=c
 have I':zH X pins σ H' s':=I.call' (ch:=[]) os un hok bare fun b z=>absurd z (by simp)
 refine t pins σ H' s' ea cls .none I' ⟨I.fpNone n0 f0,oe,vs,he,hc,hd,h2,?_⟩ q
 rcases hh with h1 | ⟨T,oT,ts,h1,ne,nT,fT,hT,hdT,h3⟩
 ·exact .inl ⟨h1,rfl⟩
 ·exact .inr ⟨T,oT,ts,h1,ne,I.fpNone nT fT,hT,hdT,h3⟩
theorem wE {C:CT} [ct:gY C] {P:Program} {w:World} {K:PySem.W.Frag} {mg:Str→Option Value} {base:Heap} {N:List Str} {qual:Str} {scope:Scope} {f:Addr} {cd:Value} {A:Around} {outer:List Env} {s:Shared} {H:Hp} {E:XK} :
  Zp C (kJ (tq C P w) P w K mg base N qual scope f cd A outer s H E) E:=by
 intro pins σ H' s' ea cls fl I F q
 show wpAny _ _ (leaving _ _) _ _ _
 unfold leaving
 refine wpAny_bind (Xe I F rfl rfl I.ok.frames fun s1 I1 F1=>?_)
 refine wJ I1 F1 fun s2 I2 F2=>?_
 obtain⟨f0,oe,vs,he,hc,hd,h2,hh⟩:=F2
 have ge:∀ {b:Addr},jC (kJ (tq C P w) P w K mg base N qual scope f cd A outer s H E) pins H' b→s.heap.get? b=none:=fun {b} z=>by
  rcases z.2.2.2.1 with z | z
  ·exact absurd (show b∈([]:List Addr) from z) (by simp)
  ·exact z
 refine⟨ea,cls,H',rfl,I2.os,I2.bare,I2.base,I2.hok,⟨ge f0,f0.1,oe,vs,he,hc,hd,h2,?_⟩,q⟩
 rcases hh with ⟨h1,_⟩ | ⟨T,oT,ts,h1,ne,fT,hT,hdT,h3⟩
 ·exact .inl h1
 ·exact .inr ⟨T,oT,ts,h1,ne,ge fT,fT.1,hT,hdT,h3⟩
theorem lK {K:PySem.W.Frag} {h:Heap} {C:Addr} {bmB:List Value} {newId:String} (X:K.In h) (q:PySem.W.excIn K C bmB newId=true) :
  ∃ bm N nm qn bs hd sn sub ab col dd k0 k1 k2 k3 k5 mN,h.get? C=some (excClassObj nm qn C N bs bm hd sn sub ab col dd k0 k1 k2 k3 k5 newId)∧h.Ns N mN∧mN "__init__" = none∧OwnTail h bmB bm:=by
 unfold PySem.W.excIn at q
 split at q
 case h_2=>cases q
 case h_1 dd cd sl lk =>
  split at q
  case h_2=>cases q
  case h_1 C' bm k0 k1 k2 k3 n k5 em es =>
   simp only[Bn,beq_iff_eq,Cq] at q
   obtain⟨⟨⟨⟨⟨e1,e2⟩,e3⟩,e4⟩,e5⟩,e6⟩:=q
   subst e1 e2
   obtain⟨c1,c2,c3,c4,c5,c6,c7,c8,c9,c10,c11⟩:=cd
   dsimp only at em e3 e5 e6
   subst em e3
   obtain⟨ls⟩:=sl
   dsimp only at es
   subst es
   exact⟨bm,c4,c1,c5,c2,c6,c7,c8,c9,c10,dd,k0,k1,k2,k3,k5,_,X _ _ lk,.of_isNs (PySem.W.isNs_of_in X e5),PySem.W.nsMap_none_of_in X e5 e6,PySem.W.tail_of_in X e4⟩
section
variable {X:Cx} {E:XK} {x:Str} {C:Addr} {Ct:CT} [ct:gY Ct] {e₀:Expr} {rest:List Expr} {t:TA} {np cpos pos:Pos}
def MF (E:XK) (C:Addr) (t:TA):TS:=fun _ σ H=>t σ H fun vs H1=>vs.length≤sizeLine∧E (.ref C) none H1
theorem Vv (hE:Zp Ct X E) (hc:X.calm=true) (hg:Gl X x) (hm:X.mg x=some (.ref C)) (hx:PySem.W.excIn X.K C Y4 "ValueError.__new__" = true) (ha:PA X (e₀ :: rest) t)
  (he:starEach (e₀ :: rest) X.env=(false,eval e₀ X.env)::starEach rest X.env:=by exact z6 rfl) (hpl:(backTo cpos (starEach rest X.env)).any (·.1)=false:=by exact yw rfl) (hdb:(x==("__debug__":Str))=false:=by decide) :
  PS X (.Raise (some (.Call (.Name x np) (e₀ :: rest) [] cpos)) none pos) (MF E C t):=by
 intro pins s σ H D I h
 obtain⟨bm,N,nm,qn,bs,hd,sn,sub,ab,col,dd,k0,k1,k2,k3,k5,mN,oC,oN,ni,T⟩:=lK I.ok.mod.kin hx
 have FB:=PySem.F.excBase_ValueError
 refine wpAny_Raise_call_subT (C:=C) (nm:=nm) (q:=qn) (N:=N) (bs:=bs) (bm:=bm) (hdct:=hd) (sn:=sn) (sub:=sub) (ab:=ab) (col:=col) (dd:=dd) (k0:=k0) (k1:=k1) (k2:=k2) (k3:=k3) (k5:=k5) (mN:=mN)
  FB (T.hasType FB.hasBase) (I.ok.hd hc) (by rw[he];show (false || (backTo cpos (starEach rest X.env)).any (·.1))=false;rw[hpl];rfl) ni (vw I hg hm ⟨rfl,?_⟩ hdb)
 have q:=ha cpos pins s σ H _ I h
 rw[he] at q ⊢
 refine Calls.evalArgs_plain (qS q fun us s2 ⟨vs,H1,I1,r,hl,w⟩=>⟨rfl,by show us.length≤sizeLine;rw[← r.length];exact hl,I1.bk _ _ oC,oN.keeps I1.bk,T.keeps I1.bk,fun h' e made=>?_⟩)
 obtain⟨t0,there,_,_⟩:=made.there
 exact hE pins σ H1 _ e (.ref C) .none (I1.kept (t':=s2.toks) made.keeps) ⟨I1.fpNone made.new (I1.none_of made.new),_,_,there,⟨rfl,rfl⟩,rfl,ct.zero rfl,.inl ⟨rfl,rfl⟩⟩ w
end
abbrev Cx.tr (X:Cx) (pn:List (Addr × Obj)) (E:Value→Shared→Prop):Cx:={ X with pn:=pn,xe:=E }
abbrev Cx.hdl (X:Cx) (pn:List (Addr × Obj)) (ea:Addr) (E:Value→Shared→Prop):Cx:={ X with pn:=pn,xe:=E,A:=X.A.mark (some (.ref ea)),calm:=false }
def Ow (ea:Addr) (oe:Obj):HO:=.frz oe (.ext fun h=>∃ o,h.get? ea=some o)
section
variable {X:Cx} {pn pins:List (Addr × Obj)} {σ:St} {H:Hp} {s:Shared} {E:Value→Shared→Prop} {ea:Addr}
theorem Cx.Ok.tr (ok:X.Ok):(X.tr pn E).Ok :=
 ⟨ok.mod,ok.kind,ok.glob,ok.blt,ok.above,ok.inj,ok.has,ok.cab,ok.hd,ok.frames,ok.stk,ok.exf,ok.bs,ok.bsz,ok.noex,ok.exfs,ok.funs,ok.frf⟩
theorem Cx.Ok.hdl (ok:X.Ok):(X.hdl pn ea E).Ok :=
 ⟨ok.mod,ok.kind,ok.glob,ok.blt,ok.above,ok.inj,ok.has,ok.cab,(fun z=>nomatch z),ok.frames,ok.stk,ok.exf,ok.bs,ok.bsz,ok.noex,ok.exfs,ok.funs,ok.frf⟩
theorem zH.tr (I:zH X pins σ H s):zH (X.tr (X.pn++pins) E) [] σ H s :=
 ⟨I.ok.tr,I.os,I.bare,I.base,I.loc,I.cell,I.free,I.freeC,fun p hp=>I.pin p (by simpa using hp),I.hok,I.len⟩
theorem zH.toHdl {E':Value→Shared→Prop} (I:zH (X.tr pn E') [] σ H s) (ok:X.Ok):zH (X.hdl pn ea E) [] σ H s :=
 ⟨ok.hdl,I.os,I.bare,I.base,I.loc,I.cell,I.free,I.freeC,I.pin,I.hok,I.len⟩
theorem zH.ofHdl (I:zH (X.hdl (X.pn++pins) ea E) [] σ H s) (ok:X.Ok):zH X pins σ H s :=
 ⟨ok,I.os,I.bare,I.base,I.loc,I.cell,I.free,I.freeC,fun p hp=>I.pin p (by simpa using hp),I.hok,I.len⟩
theorem zH.ofTr (I:zH (X.tr (X.pn++pins) E) [] σ H s) (ok:X.Ok):zH X pins σ H s :=
 ⟨ok,I.os,I.bare,I.base,I.loc,I.cell,I.free,I.freeC,fun p hp=>I.pin p (by simpa using hp),I.hok,I.len⟩
theorem QP.toHdl {C:CT} {E':Value→Shared→Prop} {cls fl:Value} {h:Heap} {eb:Addr} (F:QP C (X.tr pn E') [] H ea cls fl h):QP C (X.hdl pn eb E) [] H ea cls fl h:=F
theorem zH.hold (I:zH X pins σ H s) (f:jC X pins H ea) {oe:Obj} (he:s.heap.get? ea=some oe):zH X pins σ (upd H ea (Ow ea oe)) s:=by
 have off:∀ b u,H b=some u→b≠ea:=fun b u q z=>by rw[z,f.1] at q;cases q
 refine I.step (h':=s.heap) (g':=s.gens) (d':=s.drawn) (t':=s.toks) (ch:=[ea]) (fun b hb=>?_) (fun _ _ _ _ _ q _=>q) (fun b o _ _ _ q _=>⟨o.slots,q⟩) (fun b o hc _ n=>?_) (fun b o _ q=>⟨o,q⟩)
  (fun b xs q=>by rw[zq (off b _ q)];exact q) (fun b o u q=>by rw[zq (off b _ q)];exact q) (fun b ps q=>⟨#[],by rw[zq (off b _ q),q];simp⟩) (fun _ z=>z) (fun b u q=>?_) I.bare
 ·obtain rfl:b=ea:=by simpa using hb
  exact⟨f.2.2.2.1,f.2.1,f.2.2.2.2.1,f.2.2.2.2.2⟩
 ·rw[zq (fun z=>hc (by simp[z]))]
  exact n
 ·by_cases hb:b=ea
  ·subst hb
   rw[zm] at q
   cases q
   exact⟨he,⟨_,he⟩,⟨_,he⟩,fun h1 h2 ⟨o,e⟩ k=>⟨o,k o e⟩⟩
  ·rw[zq hb] at q
   exact (I.hok b u q).stay (fun _ _ _ z=>z) (fun c z=>by rw[zq (off c _ z)];exact z) fun c xs z=>by rw[zq (off c _ z)];exact z
theorem zH.relocal {h':Heap} {m':Str→Option Value} {t':Nat} (I:zH X pins σ H s) (hn:h'.Ns X.env.locals m') (hs:Heap.SameBut X.env.locals s.heap h') :
  zH X pins (X.N.map fun _=>none) H { s with heap:=h',toks:=t' }:=by
 have nl:∀ b o,X.s₀.heap.get? b=some o→b≠X.env.locals:=fun b o e=>b5 (Bq (bQ e) I.ok.above)
 refine⟨I.ok,I.os,I.bare,⟨fun b o e n hb hx=>?_,fun b o e n hb hx=>?_,I.base.free,fun b o e hx=>?_,I.base.tups,I.base.frzs,I.base.tbls⟩,⟨m',hn,fun i x v e1 e2 _=>?_⟩,fun x c e=>?_,I.free,I.freeC,fun p hp=>?_,fun b u q=>?_,by simp⟩
 ·exact (hs.2 b (nl b o e)).trans (I.base.keep b o e n hb hx)
 ·obtain⟨sl,q⟩:=I.base.slot b o e n hb hx
  exact⟨sl,(hs.2 b (nl b o e)).trans q⟩
 ·obtain⟨o',q⟩:=I.base.there b o e hx
  exact⟨o',(hs.2 b (nl b o e)).trans q⟩
 ·rw[bR,e1] at e2
  cases e2
 ·obtain⟨v,z⟩:=I.cell x c e
  exact⟨v,z.sameBut hs (I.cne x c e)⟩
 ·obtain⟨e,n,ne,nf,d⟩:=I.pin p hp
  exact⟨(hs.2 p.1 ne).trans e,n,ne,nf,d⟩
 ·refine (I.hok b u q).stay (fun c v hc z=>(hs.2 c ?_).trans z) (fun _ z=>z) fun _ _ z=>z
  rintro rfl
  rcases hc with hc | hc
  ·rw[← hc,I.free] at q;cases q
  ·rw[I.free] at hc;cases hc
end
def lv (C:CT) (X:Cx) (pn:List (Addr × Obj)) (R:XK):Value→Shared→Prop:=fun e s=>∃ (ea:Addr) (cls fl:Value) (σ:St) (H:Hp),e = .ref ea∧zH (X.tr pn fun _ _=>True) [] σ H s∧QP C (X.tr pn fun _ _=>True) [] H ea cls fl s.heap∧R cls none H
abbrev RP:=lv C0
theorem WU {C:CT} {X:Cx} {pn:List (Addr × Obj)} {R:XK}:Zp C (X.tr pn (lv C X pn R)) R:=by
 intro pins σ H s ea cls fl I F q
 refine⟨ea,cls,fl,σ,H,rfl,⟨⟨I.ok.mod,I.ok.kind,I.ok.glob,I.ok.blt,I.ok.above,I.ok.inj,I.ok.has,I.ok.cab,I.ok.hd,I.ok.frames,I.ok.stk,I.ok.exf,I.ok.bs,I.ok.bsz,I.ok.noex,I.ok.exfs,I.ok.funs,I.ok.frf⟩,I.os,I.bare,I.base,I.loc,I.cell,I.free,I.freeC,fun p hp=>I.pin p ?_,I.hok,I.len⟩,?_,q⟩
 ·rw[Bs] at hp
  exact cz _ hp
 ·have cut:∀ {b:Addr},jC (X.tr pn (lv C X pn R)) pins H b→jC (X.tr pn fun _ _=>True) [] H b:=fun {b} f=>⟨f.1,f.2.1,f.2.2.1,f.2.2.2.1,f.2.2.2.2.1,fun p hp=>f.2.2.2.2.2 p (by rw[Bs] at hp;exact cz _ hp)⟩
  obtain⟨f0,oe,vs,he,hc,hd,h2,hh⟩:=F
  refine⟨cut f0,oe,vs,he,hc,hd,h2,?_⟩
  rcases hh with z | ⟨T,oT,ts,h1,ne,fT,hT,hdT,h3⟩
  ·exact .inl z
  ·exact .inr ⟨T,oT,ts,h1,ne,cut fT,hT,hdT,h3⟩
def Ry (N:List Str) (D:jN):jN:={ nx:=fun _ H=>D.nx (N.map fun _=>none) H,rt:=D.rt,bk:=fun _ H=>D.bk (N.map fun _=>none) H,ct:=fun _ H=>D.ct (N.map fun _=>none) H }
def Mj (C:CT) (R:XK) (N:List Str) (i:Nat) (tb:TS) (th:Addr→TS):TS:=fun D σ H=>tb D σ H∧∀ (ea:Addr) (oe:Obj) (vs:Array Value) (cls:Value) (σ':St) (H':Hp),R cls none H'→H' ea=none→oe.cls=cls→oe.dict=none →
 oe.data = .fields vs→C H' vs→σ'.length=N.length→th ea (Ry N D) (σ'.set i (some (.ref ea))) (upd H' ea (Ow ea oe))
abbrev tQ:=Mj C0
theorem lC {C:CT} [ct:gY C] {X:Cx} {x n:Str} {i:Nat} {c:Addr} {R:XK} {tb:TS} {th:Addr→TS} {body suite:List Stmt} {b₀:Stmt} {np hpos pos:Pos} (hs:X.stack=X.env::X.outer) (hf:X.env.frame=some X.env.locals) (hg:Gl X x) (hm:X.mg x=some (.ref c))
  (hR:∀ cls o H,R cls o H→PySem.W.exmOne X.K cls (.ref c)=some true) (hN:X.N.Nodup) (hi:X.N[i]? = some n) (hn:X.env.scope.names.lookup n=some .local)
  (hb:∀ pn,jw (X.tr pn (lv C X pn R)) body tb) (hh:∀ pn ea E,jw (X.hdl pn ea E) (b₀ :: suite) (th ea)) (hdb:(x==("__debug__":Str))=false:=by decide) :
  PS X (.Try body [.ExceptHandler (some (.Name x np)) (some n) (b₀ :: suite) hpos] [] [] pos) (Mj C R X.N i tb th):=by
 intro pins s σ H D I h
 obtain⟨h1,h2⟩:=h
 have ok:=I.ok
 have cls0:(X.env.scope.kind == .class || (X.env.scope.kind == .module&&X.env.locals != X.env.globals))=false:=by rw[ok.kind];rfl
 refine wpAny_Try_except (wpAny_mono (hb (X.pn++pins) [] s σ H D I.tr h1) (fun f s1 q=>?_) fun e s1 q=>?_)
 ·cases f with
  | next =>
   obtain⟨σ',H',I',q⟩:=q
   exact wpAny_execs_nil ⟨σ',H',I'.ofTr ok,q⟩
  | brk=>obtain⟨σ',H',I',q⟩:=q;exact⟨σ',H',I'.ofTr ok,q⟩
  | cont=>obtain⟨σ',H',I',q⟩:=q;exact⟨σ',H',I'.ofTr ok,q⟩
  | ret u=>obtain⟨v,σ',H',I',r,q⟩:=q;exact⟨v,σ',H',I'.ofTr ok,r,q⟩
 ·obtain⟨ea,cls,fl,σ1,H1,rfl,I1,F1,r1⟩:=q
  refine Xe (X:=X.tr (X.pn++pins) fun _ _=>True) I1 F1 hs hf I1.ok.frames fun s2 I2 F2=>?_
  refine wJ I2 F2 fun s3 I3 F3=>?_
  have J3:zH (X.hdl (X.pn++pins) ea fun _ _=>True) [] σ1 H1 s3:=I3.toHdl ok
  obtain⟨_,oe3,_,he3,hc3,_⟩:=id F3
  refine wpAny_handleBy_cons (codeAny_handlers_test (vw J3 hg hm ?_ hdb)) (by intro q;cases q)
  have LT:PySem.W.Looks (model X.prog X.w) s3.heap (typeOf (.ref ea)) cls:=by
   rw[← hc3.1]
   exact (PySem.W.Looks.ld he3).andThen .now
  refine (PySem.W.exm_one J3.kIn LT (hR cls none H1 r1)).here ?_
  refine codeAny_handlers_suite_as ?_
  refine wJ J3 F3.toHdl fun s4 J4 F4=>?_
  obtain⟨f4,oe,vs,he,hc,hd,h2',_⟩:=F4
  have J5:=J4.hold f4 he
  refine Qh (X:=X.hdl (X.pn++pins) ea fun _ _=>True) J5 hN hi (.inl hn) (v:=.ref ea) rfl (fun s6 J6=>?_) (.inr hn)
  have len:σ1.length=X.N.length:=I1.len
  have J6':∀ E,zH (X.hdl (X.pn++pins) ea E) [] (σ1.set i (some (.ref ea))) (upd H1 ea (Ow ea oe)) s6:=fun E=>⟨ok.hdl,J6.os,J6.bare,J6.base,J6.loc,J6.cell,J6.free,J6.freeC,J6.pin,J6.hok,J6.len⟩
  refine wpAny_mono (hh (X.pn++pins) ea _ [] s6 _ _ (Ry X.N D) (J6' _) (h2 ea oe vs cls σ1 H1 r1 f4.1 hc.1 hc.2 hd h2' len)) (fun f s7 q=>?_) fun _ _ z=>z
  have go:∀ {σ7:St} {H7:Hp} {E7:Value→Shared→Prop},zH (X.hdl (X.pn++pins) ea E7) [] σ7 H7 s7→(∀ s8,zH X pins (X.N.map fun _=>none) H7 s8→SP X pins D f s8) →
    wpAny (model X.prog X.w) X.A (do bindName X.env n .none;unbindBehindTheSuite X.env n hpos) (fun _ s8=>SP X pins D f s8) X.xe s7:=fun {σ7 H7 E7} J k=>by
   obtain⟨m,hns,_⟩:=J.loc
   exact wpAny_nameGoes hn hns cls0 fun h' m' hn' hs'=>k _ ((J.ofHdl ok).relocal hn' hs')
  cases f with
  | next=>obtain⟨σ',H',I',q⟩:=q;exact go I' fun s8 I8=>⟨_,_,I8,q⟩
  | brk=>obtain⟨σ',H',I',q⟩:=q;exact go I' fun s8 I8=>⟨_,_,I8,q⟩
  | cont=>obtain⟨σ',H',I',q⟩:=q;exact go I' fun s8 I8=>⟨_,_,I8,q⟩
  | ret u=>obtain⟨v,σ',H',I',r,q⟩:=q;exact go I' fun s8 I8=>⟨v,_,_,I8,r,q⟩
theorem nY {X:Cx} {x n:Str} {i:Nat} {c:Addr} {R:XK} {tb:TS} {th:Addr→TS} {body suite:List Stmt} {b₀:Stmt} {np hpos pos:Pos} (hs:X.stack=X.env::X.outer) (hf:X.env.frame=some X.env.locals) (hg:Gl X x) (hm:X.mg x=some (.ref c))
  (hR:∀ cls o H,R cls o H→PySem.W.exmOne X.K cls (.ref c)=some true) (hN:X.N.Nodup) (hi:X.N[i]? = some n) (hn:X.env.scope.names.lookup n=some .local)
  (hb:∀ pn,jw (X.tr pn (RP X pn R)) body tb) (hh:∀ pn ea E,jw (X.hdl pn ea E) (b₀ :: suite) (th ea)) (hdb:(x==("__debug__":Str))=false:=by decide) :
  PS X (.Try body [.ExceptHandler (some (.Name x np)) (some n) (b₀ :: suite) hpos] [] [] pos) (tQ R X.N i tb th):=lC hs hf hg hm hR hN hi hn hb hh hdb
section
variable {prog:Program} {w:World} {A:Around} {E:Value→Shared→Prop} {s:Shared}
end
def Tz (A:Around) (H:Hp):Prop:=A.handled=none∨∃ ea oe vs u,A.handled=some (.ref ea)∧H ea=some (.frz oe u)∧oe.data = .fields vs∧ny H vs
section
variable {X:Cx} {pins:List (Addr × Obj)} {σ:St} {H:Hp} {s:Shared}
end
def ud (X:Cx) (ifs:List Expr) (t:TT):Prop :=
 ∀ (pins:List (Addr × Obj)) (s:Shared) (σ:St) (H:Hp) (Q:Bool→Hp→Prop),zH X pins σ H s→t σ H Q →
  wpAny (model X.prog X.w) X.A (forIn ifs true fun c r=>if r=true then do let ok ← isTrue c X.env (eval c X.env);pure (ForInStep.yield ok) else pure (ForInStep.yield r)) (TP X pins σ Q) X.xe s
def qC:TT:=fun _ H Q=>Q true H
theorem qi {X:Cx}:ud X [] qC:=fun _ _ _ H _ I h=>wpAny_tests_nil ⟨H,I,h⟩
theorem Zl {X:Cx} {c:Expr} {t:TT} (h:PT X c t):ud X [c] t:=fun pins s σ H Q I q=>wpAny_tests_one (h pins s σ H Q I q)
theorem Gk {prog:Program} {w:World} {A:Around} {R:Result→Shared→Prop} {s:Shared} {elt tgt iter:Expr} {ifs:List Expr} {scope:Scope} {pos:Pos} {it acc:Value} {env:Env} {EX:Value→Shared→Prop} (hx:∀ x s',EX x s'→notedBy (model prog w) A env (fun e s'=>R (.error e) s') x s') (J:Nat→Shared→Prop)
  (turn:∀ n s,J n s→wpAny (model prog w) A (pyNext it) (fun r s1=>match r with
   | none=>R (.ok .next) s1
   | some v=>wpAny (model prog w) A (letOwnedTupleGo tgt it v) (fun _ s2=>wpAny (model prog w) A (assign tgt env v) (fun _ s3 =>
     wpAny (model prog w) A (forIn ifs true fun c r=>if r=true then do let ok ← isTrue c env (eval c env);pure (ForInStep.yield ok) else pure (ForInStep.yield r)) (fun ok s4 =>
      if ok=true then wpAny (model prog w) A (eval elt env) (fun x s5=>wpAny (model prog w) A (call (.builtin "list.append") [acc,x]) (fun _ s6=>∃ m,m<n∧J m s6) EX s5) EX s4
      else ∃ m,m<n∧J m s4) EX s3) EX s2) EX s1) EX s)
  (n:Nat) (h:J n s):codeAny (model prog w) A (.compLoop (.ListComp elt [⟨tgt,iter,ifs,0⟩] scope pos) 0 it acc env) R s:=by
 refine codeAny_loop rfl J (fun n s hJ=>?_) n h
 show wpAny _ A ((compTurn (.ListComp elt [⟨tgt,iter,ifs,0⟩] scope pos) 0 it acc env).onRaise (fun x=>do noteFrame x env;theTreesLotGoes x)) _ _ s
 refine wpAny_noted (wpAny_mono (E:=EX) ?_ (fun _ _ z=>z) hx)
 rw[compTurn_list]
 refine wpAny_bind (wpAny_standAt (wpAny_bind (qS (turn n s hJ) fun r s1 h1=>?_)))
 cases r with
 | none=>exact wpAny_pure h1
 | some v =>
  refine wpAny_bind (qS h1 fun _ s2 h2=>wpAny_bind (qS h2 fun _ s3 h3=>wpAny_bind (qS h3 fun ok s4 h4=>?_)))
  cases ok with
  | false=>exact wpAny_pure ⟨rfl,h4⟩
  | true=>exact wpAny_bind (wpAny_bind (qS h4 fun x s5 h5=>wpAny_bind (qS h5 fun _ s6 h6=>wpAny_pure (wpAny_pure ⟨rfl,h6⟩))))
def pj (src:List (Option Nat)) (σ:St):St:=src.map fun o=>o.bind fun j=>(σ[j]?).join
section
variable {X:Cx} {elt iter tgt:Expr} {ifs:List Expr} {scope:Scope} {cl:List (Str × Addr)} {Nc:List Str} {src:List (Option Nat)} {g:TG} {tt:TT} {te:TE}
structure Wf (X:Cx) (Nc:List Str) (scope:Scope) (cl:List (Str × Addr)) (src:List (Option Nat)):Prop where
 clos:closureFor scope X.env=pure cl
 kind:scope.kind = .function
 cell:∀ y∈scope.names,y.2≠.cell
 names:∀ y∈scope.names,y.2 = .local→scope.names.lookup y.1=some .local
 sub:∀ x c,cl.lookup x=some c→X.env.cells.lookup x=some c
 has:∀ x,((relabel scope X.env).names.lookup x=some .cell∨(relabel scope X.env).names.lookup x=some .free)→∃ c,cl.lookup x=some c
 frm:∀ (i j:Nat),src[i]? = some (some j)→∃ x,Nc[i]? = some x∧X.N[j]? = some x∧X.env.scope.names.lookup x=some .cell∧(relabel scope X.env).names.lookup x=some .cell
 len:src.length=Nc.length
end
structure km (k:Nat) (A:Around):Prop where
 dp:A.depth+3*k+5<recursionLimit
 un:A.units+16*k+200<cLine
theorem km.mono {j k:Nat} {A:Around} (r:km k A) (h:j≤k):km j A:=⟨by have:=r.dp;omega,by have:=r.un;omega⟩
structure Uk (P:Program) (w:World) (K:PySem.W.Frag) (mg:Str→Option Value) (base:Heap) (k:Nat) (f:Addr) (fd:FuncData) (ps:List Str) (sp:Sp):Prop where
 len:∀ vs H Q E,sp vs H Q E→vs.length=ps.length
 run:∀ (A:Around) (outer:List Env) (s:Shared) (H:Hp) (args:Args) (us:List Value) (vs:List V) (Q:VK),km k A→Tz A H→UI P w K mg base A outer s H→BindsTo s fd args (ps.zip us)→z9 vs us→sp vs H Q E0 →
  codeAny (model P w) A (.call (.ref f) args) (CR zO outer P w H s Q E0) s
def Tm (P:Program) (w:World) (K:PySem.W.Frag) (mg:Str→Option Value) (base:Heap) (N:List Str) (qual:Str) (scope:Scope) (f:Addr) (cd:Value) (A:Around) (outer:List Env) (s:Shared) (H:Hp):Cx :=
 { kJ zO P w K mg base N qual scope f cd A outer s H E0 with calm:=false,xe:=fun _ _=>False }
section
variable {P:Program} {w:World} {K:PySem.W.Frag} {mg:Str→Option Value} {base:Heap}
theorem qE.okQ {x qual:Str} {st:Stmt} {f:Addr} {fd:FuncData} {N ps:List Str} {k:Nat} {sp:Sp} (F:qE K x qual st f fd) (S:u7 N ps (zV st)) (len:∀ vs H Q E,sp vs H Q E→vs.length=ps.length)
  (hbody:∀ (cdv:Value) (A:Around) (outer:List Env) (s:Shared) (H:Hp) (vs:List V) (Q:VK),km k (A.deeper (envOfC qual (zV st) s.heap.objs.size f cdv))→Tz (A.deeper (envOfC qual (zV st) s.heap.objs.size f cdv)) H→sp vs H Q E0 →
   ∃ t,jw (Tm P w K mg base N qual (zV st) f cdv A outer s H) (yu st) t∧t { nx:=fun _ H'=>Q .non H',rt:=Q } (vI N vs) H):Uk P w K mg base (k+1) f fd ps sp:=by
 obtain⟨oc,od,kV,doc,pm,an,cdv,ct,osl,rfl,lk,hcd⟩:=F.ex
 refine⟨len,fun A outer s H args us vs Q hr hh e0 hb r hsp=>?_⟩
 have hl:=len _ _ _ _ hsp
 have KX:K.In s.heap:=e0.mod.kin.keeps fun b o e=>(e0.bs b o e).1
 have lim:s.heap.NoLimit:=e0.mod.nolimit.keeps fun b o e=>(e0.bs b o e).1
 have dpt:A.depth<recursionLimit:=by have:=hr.dp;omega
 have kinds:∀ y∈ps.zip us,(zV st).names.lookup y.1=some .local∨((zV st).names.lookup y.1=some .cell∧((cellsFrom (s.heap.objs.size+1) (zV st).names []).lookup y.1).isSome=true):=fun⟨n,v⟩ hy=>by
  rcases S.par n (BY hy).1 with q | q
  ·exact .inl q
  ·exact .inr ⟨q,PySem.W.cellsFrom_some _ _ _ (.inl q)⟩
 refine codeAny_call_function dpt (KX _ _ lk) rfl S.co S.gen rfl (PySem.W.codeRec_of KX hcd) (hb _ _ _ _ ?_)
 refine wpAny_newFunctionEnv_cells S.kind kinds fun env he s1 x=>?_
 subst he
 refine⟨lim.keeps x.toInCall.keep,codeAny_func ?_⟩
 have rq:km k (A.deeper (envOfC qual (zV st) s.heap.objs.size f cdv)):=⟨by have:=hr.dp;show A.depth+1+3*k+5<_;omega,by have:=hr.un;show A.units+3+16*k+200<_;omega⟩
 obtain⟨t,ht,hq⟩:=hbody cdv A outer s H vs Q rq hh hsp
 have J:=YR (CX:=zO) (E:=E0) (A:={ A with handled:=none }) S rfl ⟨e0.frames,e0.mod,e0.bs,e0.bsz,e0.funs,e0.frf,e0.hok,e0.bare⟩ hl r x
 have I:zH (Tm P w K mg base N qual (zV st) f cdv A outer s H) [] (vI N vs) H s1 :=
  ⟨⟨J.ok.mod,J.ok.kind,J.ok.glob,J.ok.blt,J.ok.above,J.ok.inj,J.ok.has,J.ok.cab,(fun z=>nomatch z),Around.frames_deeper e0.frames,J.ok.stk,J.ok.exf,J.ok.bs,J.ok.bsz,J.ok.noex,J.ok.exfs,J.ok.funs,J.ok.frf⟩,J.os,J.bare,J.base,J.loc,J.cell,J.free,J.freeC,J.pin,J.hok,J.len⟩
 refine wpAny_mono (ht [] s1 (vI N vs) H _ I hq) (fun fl s' hs=>?_) fun e s' hs=>False.elim hs
 have fin:∀ {σ':St} {H':Hp} {v:V} {u:Value},zH (Tm P w K mg base N qual (zV st) f cdv A outer s H) [] σ' H' s'→qp v u→Q v H'→CE outer P w H s Q u s' :=
  fun {σ' H' v u} J rv q=>⟨v,H',J.os,J.bare,J.base,J.hok,rv,q⟩
 cases fl with
 | ret u =>
  obtain⟨v,σ',H',J,rv,q⟩:=hs
  exact fin J rv q
 | next =>
  obtain⟨σ',H',J,q⟩:=hs
  exact fin (v:=V.non) (u:=Value.none) J rfl q
 | brk=>obtain⟨_,_,_,z⟩:=hs;exact False.elim z
 | cont=>obtain⟨_,_,_,z⟩:=hs;exact False.elim z
theorem qE.okE {x qual:Str} {st:Stmt} {f:Addr} {fd:FuncData} {N ps:List Str} {k:Nat} {sp:Sp} (F:qE K x qual st f fd) (S:u7 N ps (zV st)) (len:∀ vs H Q E,sp vs H Q E→vs.length=ps.length)
  (hbody:∀ (cdv:Value) (A:Around) (outer:List Env) (s:Shared) (H:Hp) (vs:List V) (Q:VK) (E:XK),ym k (A.deeper (envOfC qual (zV st) s.heap.objs.size f cdv))→sp vs H Q E →
   ∃ t,jw (kJ (xq P w) P w K mg base N qual (zV st) f cdv A outer s H E) (yu st) t∧t { nx:=fun _ H'=>Q .non H',rt:=Q } (vI N vs) H):zJ P w K mg base (xq P w) (k+1) f fd ps sp:=by
 obtain⟨oc,od,kV,doc,pm,an,cdv,ct,osl,rfl,lk,hcd⟩:=F.ex
 exact Me lk hcd S len fun A outer s H vs Q E hr hsp=>hbody cdv A outer s H vs Q E hr hsp
theorem X9 {N:List Str} {qual:Str} {scope:Scope} {f:Addr} {cd:Value} {A:Around} {outer:List Env} {s:Shared} {H:Hp} {E:XK}:yt (xq P w) (kJ (xq P w) P w K mg base N qual scope f cd A outer s H E) E:=kq rfl rfl wE
end
theorem Rx {X:Cx} {pn:List (Addr × Obj)} {R:XK}:yt (xq X.prog X.w) (X.tr pn (RP X pn R)) R:=kq rfl rfl WU
section
variable {X:Cx} {k:Nat} {f:Addr} {fd:FuncData} {ps:List Str} {sp:Sp} {x:Str} {p pos:Pos} {e:Expr} {es:List Expr} {t:TA}
def xI (A:Around) (sp:Sp) (t:TA):TE:=fun σ H Q=>t σ H fun vs H1=>Tz A H1∧sp vs H1 Q E0
theorem Pj (F:Uk X.prog X.w X.K X.mg X.base k f fd ps sp) (hr:km k X.A) (hg:Gl X x) (hm:X.mg x=some (.ref f)) (hk:PySem.W.keepIn X.K (.ref f)=true) (hb:jE X.K fd ps []) (ha:PA X (e::es) t)
  (hdb:(x==("__debug__":Str))=false:=by decide) (he:starEach (e::es) X.env=(false,eval e X.env)::starEach es X.env:=by exact z6 rfl) (hpl:(backTo pos (starEach es X.env)).any (·.1)=false:=by exact yw rfl) :
  PE X (.Call (.Name x p) (e::es) [] pos) (xI X.A sp t):=by
 intro pins s σ H Q I h
 refine wpAny_Call_Name_kw (vw I hg hm ?_ hdb)
 refine PySem.W.callWith_K (h₀:=X.base) I.ok.mod.kin hk (qS (ha pos pins s σ H _ I h) fun us s1 ⟨vs,H1,I1,r,hd,q⟩=>⟨I1.kIn,?_⟩) he hpl
 have hl:us.length=ps.length:=by rw[← r.length];exact F.len _ _ _ _ q
 have B:BindsTo s1 fd ⟨us,[]⟩ (ps.zip us):=by
  have z:=hb s1 us I1.kIn (by rw[Bs];exact hl)
  rw[Bs] at z
  exact z
 refine wpAny_call (codeAny_mono (F.run X.A X.stack s1 H1 ⟨us,[]⟩ us vs Q hr hd I1.env0 B r q) fun r s' hq=>?_)
 cases r with
 | error e=>exact False.elim hq
 | ok fl =>
  cases fl with
  | ret u=>exact I1.after hq
  | next=>exact False.elim hq
  | brk=>exact False.elim hq
  | cont=>exact False.elim hq
end
def tU:V→Option Value
 | .ref a=>some (.ref a)
 | .ty n=>some (.type n)
 | _=>none
def bj (K:PySem.W.Frag) (H:Hp) (x:V) (t:Value):Prop :=
 wp K H x t∨∃ a oe C vs,x = .ref a∧t = .ref C∧H a=some (Ow a oe)∧oe.cls = .ref C∧oe.dict=none∧oe.data = .fields vs∧XK.jQ K C
section
variable {X:Cx}
theorem zG:jq X (.builtin "isinstance") (fun xs H Q=>∃ x c cv t b,xs=[x,c]∧tU c=some cv∧bj X.K H x t∧PySem.W.kitOne X.K t cv=some b∧Q (.bl b) H):=by
 intro pins s σ H xs us Q I r h
 obtain⟨x,c,cv,t,b,rfl,hc,ty,hk,q⟩:=h
 obtain⟨u,v,rfl,ru,rv⟩:=XF r
 obtain rfl:v=cv:=by
  cases c with
  | ref a=>cases hc;exact rv
  | ty n=>cases hc;exact rv
  | _=>cases hc
 rcases ty with ty | ⟨a,oe,C,vs,rfl,rfl,ha,e1,e2,e3,ec⟩
 ·exact gI I ru ty hk fun tk=>⟨.bl b,H,I.tok tk,rfl,q⟩
 ·cases ru
  have g:=(I.hok a _ ha).1
  have inst:PySem.W.InstAt s.heap a oe C none:=⟨g,e1,by unfold PySem.W.notCls;rw[e3],by rw[e2];trivial⟩
  exact PySem.W.kia_one (XK.p8 (ox:=oe) ec) I.kIn inst hk (fun z=>nomatch z) fun tk=>⟨.bl b,H,I.tok tk,rfl,q⟩
end
def qH (P:Program) (w:World) (K:PySem.W.Frag) (mg:Str→Option Value) (base:Heap) (CX:wf) (k:Nat) (x:Str) (ps:List Str) (sp:Sp):Prop :=
 ∃ f fd,mg x=some (.ref f)∧PySem.W.keepIn K (.ref f)=true∧jE K fd ps []∧zJ P w K mg base CX k f fd ps sp
def NG (P:Program) (w:World) (K:PySem.W.Frag) (mg:Str→Option Value) (base:Heap) (k:Nat) (x:Str) (ps:List Str) (sp:Sp):Prop :=
 ∃ f fd,mg x=some (.ref f)∧PySem.W.keepIn K (.ref f)=true∧jE K fd ps []∧Uk P w K mg base k f fd ps sp
section
variable {X:Cx} {CX:wf} {j k:Nat} {ps:List Str} {sp:Sp} {x:Str} {p pos:Pos} {e:Expr} {es:List Expr} {t:TA} {E:XK}
theorem zj (C:qH X.prog X.w X.K X.mg X.base CX k x ps sp) (hr:ym j X.A) (hj:k≤j) (hx:yt CX X E) (ha:PA X (e::es) t) (hg:Gl X x:=by rfl)
  (hdb:(x==("__debug__":Str))=false:=by decide) (he:starEach (e::es) X.env=(false,eval e X.env)::starEach es X.env:=by exact z6 rfl) (hpl:(backTo pos (starEach es X.env)).any (·.1)=false:=by exact yw rfl) :
  PE X (.Call (.Name x p) (e::es) [] pos) (fun σ H Q=>t σ H fun vs H1=>sp vs H1 Q E):=by
 obtain⟨f,fd,hm,hk,hb,F⟩:=C
 intro pins s σ H Q I h
 refine mX (dvs:=[]) F (hr.mono hj) hg hm hk hb .nil hx ha hdb he hpl pins s σ H Q I ?_
 unfold Mm
 simp only[Bs]
 exact h
theorem LE (C:NG X.prog X.w X.K X.mg X.base k x ps sp) (hr:km j X.A) (hj:k≤j) (ha:PA X (e::es) t) (hg:Gl X x:=by rfl)
  (hdb:(x==("__debug__":Str))=false:=by decide) (he:starEach (e::es) X.env=(false,eval e X.env)::starEach es X.env:=by exact z6 rfl) (hpl:(backTo pos (starEach es X.env)).any (·.1)=false:=by exact yw rfl) :
  PE X (.Call (.Name x p) (e::es) [] pos) (xI X.A sp t):=by
 obtain⟨f,fd,hm,hk,hb,F⟩:=C
 exact Pj F (hr.mono hj) hg hm hk hb ha hdb he hpl
end
theorem zy:bootBuiltins "isinstance" = some (.builtin "isinstance"):=by kernel_rfl
theorem jt:bootBuiltins "sum" = some (.builtin "sum"):=by kernel_rfl
theorem vf:bootBuiltins "int" = some (.type "int"):=by kernel_rfl
theorem YE:bootBuiltins "bool" = some (.type "bool"):=by kernel_rfl
theorem qG:bootBuiltins "str" = some (.type "str"):=by kernel_rfl
theorem wU:bootBuiltins "list" = some (.type "list"):=by kernel_rfl
theorem qX:bootBuiltins "tuple" = some (.type "tuple"):=by kernel_rfl
theorem lT:bootBuiltins "ValueError" = some (.type "ValueError"):=by kernel_rfl
def lO:List (String × Bool × Bool × Bool × Bool):=[("NoneType",false,false,false,false),("bool",true,true,false,false),("int",true,false,false,false),("str",false,false,true,false),("list",false,false,false,true),("tuple",false,false,false,false),("dict",false,false,false,false)]
theorem LQ {K:PySem.W.Frag}:∀ r∈lO,PySem.W.kitOne K (.type r.1) (.type "int")=some r.2.1∧PySem.W.kitOne K (.type r.1) (.type "bool")=some r.2.2.1∧PySem.W.kitOne K (.type r.1) (.type "str")=some r.2.2.2.1∧PySem.W.kitOne K (.type r.1) (.type "list")=some r.2.2.2.2:=by
 intro r hr
 simp only[lO,bN,bS,or_false] at hr
 rcases hr with rfl | rfl | rfl | rfl | rfl | rfl | rfl <;> exact⟨by rfl,by rfl,by rfl,by rfl⟩
def kh (K:PySem.W.Frag) (H:Hp) (v:V):Prop:=∃ r∈lO,wp K H v (.type r.1)∧r.1≠"int"
section
variable {κ:Type} [DecidableEq κ]
def kK (kvs:List (κ × V)) (k:κ):Option V:=(kvs.find? fun kv=>decide (kv.1=k)).map (·.2)
def wI (kvs:List (κ × V)) (k:κ) (v:V):List (κ × V) :=
 if (kvs.any fun kv=>decide (kv.1=k))=true then kvs.map (fun kv=>if kv.1=k then (kv.1,v) else kv) else kvs++[(k,v)]
theorem we {p:κ × V} {r:List (κ × V)} {k:κ} (e:p.1=k):kK (p::r) k=some p.2:=by simp[kK,B6,e]
theorem wm {p:κ × V} {r:List (κ × V)} {k:κ} (e:¬ p.1=k):kK (p::r) k=kK r k:=by simp[kK,B6,e]
theorem VN (k:κ):∀ kvs:List (κ × V),(kvs.any fun kv=>decide (kv.1=k))=(kK kvs k).isSome
 | []=>rfl
 | p::r=>by
  rw[cD]
  by_cases e:p.1=k
  ·simp only[we e,decide_eq_true e,Bool.true_or,Option.isSome_some]
  ·rw[wm e,decide_eq_false e,Cr];exact VN k r
theorem ku (kvs:List (κ × V)) (k:κ) (v:V):(wI kvs k v).length≤kvs.length+1:=by
 unfold wI
 split
 ·rw[bM];omega
 ·rw[bP,Bi,Cy];omega
theorem uz.isSome_eq {o:Option V} {u:Option Value} (r:uz o u):o.isSome=u.isSome:=by
 cases o with
 | none=>cases u with
  | none=>rfl
  | some _=>exact (show False from r).elim
 | some _=>cases u with
  | none=>exact (show False from r).elim
  | some _=>rfl
theorem KV.val {kvs:List (κ × V)} {vs:List (κ × Value)} (r:KV kvs vs) (k:κ):uz (kK kvs k) (valueAt vs k):=by
 unfold KV at r
 induction r with
 | nil=>exact True.intro
 | @cons p q ps qs h t ih =>
  obtain⟨h1,h2⟩:=h
  by_cases e:p.1=k
  ·have e':q.1=k:=h1.symm.trans e
   have b:valueAt (q::qs) k=some q.2:=by simp[valueAt,B6,e']
   rw[we e,b];exact h2
  ·have e':¬ q.1=k:=fun z=>e (h1.trans z)
   have b:valueAt (q::qs) k=valueAt qs k:=by simp[valueAt,B6,e']
   rw[wm e,b];exact ih
theorem KV.any {kvs:List (κ × V)} {vs:List (κ × Value)} (r:KV kvs vs) (k:κ):(kvs.any fun kv=>decide (kv.1=k))=vs.any fun kv=>decide (kv.1=k):=by
 unfold KV at r
 induction r with
 | nil=>rfl
 | cons h t ih=>rw[cD,cD,ih,h.1]
theorem KV.repl {kvs:List (κ × V)} {vs:List (κ × Value)} (r:KV kvs vs) (k:κ) {y:V} {u:Value} (ry:qp y u) :
  KV (kvs.map fun kv=>if kv.1=k then (kv.1,y) else kv) (vs.map fun kv=>if kv.1=k then (kv.1,u) else kv):=by
 unfold KV at r ⊢
 induction r with
 | nil=>exact .nil
 | @cons p q ps qs h t ih =>
  rw[Br,Br]
  refine .cons ?_ ih
  obtain⟨h1,h2⟩:=h
  by_cases e:p.1=k
  ·rw[if_pos e,if_pos (h1.symm.trans e)];exact⟨h1,ry⟩
  ·rw[if_neg e,if_neg (fun z=>e (h1.trans z))];exact⟨h1,h2⟩
theorem KV.put {kvs:List (κ × V)} {vs:List (κ × Value)} (r:KV kvs vs) (k:κ) {y:V} {u:Value} (ry:qp y u):KV (wI kvs k y) (stored vs k u):=by
 unfold wI stored
 rw[r.any k]
 by_cases e:(vs.any fun kv=>decide (kv.1=k))=true
 ·rw[if_pos e,if_pos e];exact r.repl k ry
 ·rw[if_neg e,if_neg e];exact Paired.snoc r ⟨rfl,ry⟩
theorem KV.length {kvs:List (κ × V)} {vs:List (κ × Value)} (r:KV kvs vs):kvs.length=vs.length:=Paired.length r
end
theorem Px {P:Program} {w:World} {k:yJ} {u:Value} (r:qp (kV k) u):(yh P w).is k u=true:=by
 cases k with
 | inl i=>obtain⟨t,e⟩:=(show ∃ t,u=Value.int i t from r);subst e;exact V9 P w i t
 | inr x=>obtain⟨t,e⟩:=(show ∃ t,u=Value.str x t from r);subst e;exact VS P w x t
theorem YD {P:Program} {w:World}:∀ {ks:List yJ} {us:List Value},z9 (ks.map kV) us→ItemsAre (yh P w) ks us
 | [],_,r=>by rw[List.map_nil] at r;cases r;exact .nil
 | k::ks,_,r=>by
  rw[Br] at r
  cases r with
  | cons h t=>exact .cons (Px h) (YD t)
abbrev KT (H:Hp):List (List yJ × V)→List (List yJ × Addr × Value)→Prop:=Paired fun p q=>p.1=q.1∧H q.2.1=some (.tup (p.1.map kV))∧qp p.2 q.2.2
theorem KT.val {H:Hp} {kvs:List (List yJ × V)} {xs:List (List yJ × Addr × Value)} (r:KT H kvs xs) (k:List yJ):uz (kK kvs k) ((atKey xs k).map (·.2)):=by
 induction r with
 | nil=>exact True.intro
 | @cons p q ps qs h t ih =>
  obtain⟨h1,_,h2⟩:=h
  by_cases e:p.1=k
  ·have e':q.1=k:=h1.symm.trans e
   have b:atKey (q::qs) k=some q.2:=by simp[atKey,B6,e']
   rw[we e,b];exact h2
  ·have e':¬ q.1=k:=fun z=>e (h1.trans z)
   have b:atKey (q::qs) k=atKey qs k:=by simp[atKey,B6,e']
   rw[wm e,b];exact ih
theorem KT.repl {H:Hp} {kvs:List (List yJ × V)} {xs:List (List yJ × Addr × Value)} (r:KT H kvs xs) (k:List yJ) {y:V} {u:Value} (ry:qp y u) :
  KT H (kvs.map fun kv=>if kv.1=k then (kv.1,y) else kv) (xs.map (putAt k u)):=by
 induction r with
 | nil=>exact .nil
 | @cons p q ps qs h t ih =>
  rw[Br,Br]
  refine .cons ?_ ih
  obtain⟨h1,h2,h3⟩:=h
  unfold putAt
  by_cases e:p.1=k
  ·rw[if_pos e,if_pos (h1.symm.trans e)];exact⟨h1,h2,ry⟩
  ·rw[if_neg e,if_neg (fun z=>e (h1.trans z))];exact⟨h1,h2,h3⟩
theorem KT.put {H:Hp} {kvs:List (List yJ × V)} {xs:List (List yJ × Addr × Value)} (r:KT H kvs xs) (k:List yJ) {b:Addr} {y:V} {u:Value} (hb:H b=some (.tup (k.map kV))) (ry:qp y u) :
  KT H (wI kvs k y) (storedH xs k b u):=by
 have e:(kvs.any fun kv=>decide (kv.1=k))=(atKey xs k).isSome:=by
  rw[VN,(r.val k).isSome_eq,Option.isSome_map]
 unfold wI storedH
 rw[e]
 by_cases q:(atKey xs k).isSome=true
 ·rw[if_pos q,if_pos q];exact r.repl k ry
 ·rw[if_neg q,if_neg q];exact Paired.snoc r ⟨rfl,hb,ry⟩
theorem KT.keeps {H H':Hp} {kvs:List (List yJ × V)} {xs:List (List yJ × Addr × Value)} (r:KT H kvs xs) (ht:∀ b ys,H b=some (.tup ys)→H' b=some (.tup ys)):KT H' kvs xs :=
 Paired.mapP r fun _ _ z=>⟨z.1,ht _ _ z.2.1,z.2.2⟩
section
variable {P:Program} {w:World} {H:Hp} {h:Heap} {a:Addr}
theorem Mc {u:HO} (ok:uf P w H h) (e:Rd H a u):qQ P w H h a u:=e.ok ok
theorem Ol {kvs:List (yJ × V)} (ok:uf P w H h) (e:Rd H a (.dK kvs)):kvs.length≤sizeLine∧(a==sysModules)=false∧∃ vs,KV kvs vs∧h.DictOf (yh P w) a vs :=
 show qQ P w H h a (.dK kvs) from Mc ok e
theorem rH {kvs:List (yJ × V)} (ok:uf P w H h) (e:H a=some (.dK kvs)):kvs.length≤sizeLine∧(a==sysModules)=false∧∃ vs,KV kvs vs∧h.DictOf (yh P w) a vs:=Ol ok (.inl e)
theorem xH {ks:List yJ} (ok:uf P w H h) (e:H a=some (.tup (ks.map kV))):(tupleKind (yh P w)).is h ks a:=by
 obtain⟨_,its,r,o,h1,h2,n,h3⟩:=(show qQ P w H h a (.tup (ks.map kV)) from ok a _ e)
 exact⟨o,its.toArray,n,h1,h2,h3,by simpa using YD r⟩
theorem pG {kvs:List (List yJ × V)} (ok:uf P w H h) (e:Rd H a (.dT kvs)):kvs.length≤sizeLine∧(a==sysModules)=false ∧
  ∃ xs,KT H kvs xs∧h.DictOfH (tupleKind (yh P w)) a xs:=by
 obtain⟨z,y,xs,r,o,es,ep,h1,h2,h3,h4,h5⟩:=(show qQ P w H h a (.dT kvs) from Mc ok e)
 refine⟨z,y,xs,r,o,es,ep,h1,h2,h3,h4,fun x hx=>?_,h5⟩
 have all:∀ {l:List (List yJ × V)} {m:List (List yJ × Addr × Value)},KT H l m→∀ x∈m,(tupleKind (yh P w)).is h x.1 x.2.1:=by
  intro l m q
  induction q with
  | nil=>intro x hx;exact nomatch hx
  | @cons p q ps qs hq t ih =>
   intro x hx
   rcases bN.mp hx with e | hx
   ·subst e
    exact xH ok (by rw[← hq.1];exact hq.2.1)
   ·exact ih x hx
 exact all r x hx
theorem rJ {kvs:List (List yJ × V)} (ok:uf P w H h) (e:H a=some (.dT kvs)):kvs.length≤sizeLine∧(a==sysModules)=false ∧
  ∃ xs,KT H kvs xs∧h.DictOfH (tupleKind (yh P w)) a xs:=pG ok (.inl e)
end
def ZD (H:Hp) (a:Addr) (y:V) (r:Option V):Prop :=
 (∃ kvs k,Rd H a (.dK kvs)∧y=kV k∧r=kK kvs k)∨∃ kvs k b,Rd H a (.dT kvs)∧y = .ref b∧H b=some (.tup (k.map kV))∧r=kK kvs k
def Gp (H:Hp) (a:Addr) (y v:V) (H':Hp):Prop :=
 (∃ kvs k,H a=some (.dK kvs)∧y=kV k∧kvs.length<sizeLine∧H'=upd H a (.dK (wI kvs k v))) ∨
 ∃ kvs k b,H a=some (.dT kvs)∧y = .ref b∧H b=some (.tup (k.map kV))∧kvs.length<sizeLine∧H'=upd H a (.dT (wI kvs k v))
theorem ZD.k {H:Hp} {a:Addr} {kvs:List (yJ × V)} {k:yJ} (e:H a=some (.dK kvs)):ZD H a (kV k) (kK kvs k):=.inl ⟨kvs,k,.inl e,rfl,rfl⟩
theorem Gp.k {H:Hp} {a:Addr} {kvs:List (yJ × V)} {k:yJ} {v:V} (e:H a=some (.dK kvs)) (hl:kvs.length<sizeLine):Gp H a (kV k) v (upd H a (.dK (wI kvs k v))):=.inl ⟨kvs,k,e,rfl,hl,rfl⟩
section
variable {X:Cx} {pins:List (Addr × Obj)} {σ:St} {H:Hp} {s:Shared} {a:Addr} {y v:V} {u r:Value} {o:Option V} {A:Around} {E:Value→Shared→Prop}
theorem zH.big (I:zH X pins σ H s):sysModules<s.heap.objs.size:=by
 have h:mainGlobals<s.heap.objs.size:=(I.mod.glob.keeps I.bk).lt
 exact Cb (by decide) h
theorem gi {Q:Value→Shared→Prop} (hu:A.units+1<cLine) (I:zH X pins σ H s) (g:ZD H a y (some v)) (ry:qp y u) (h:∀ w' s',zH X pins σ H s'→qp v w'→Q w' s') :
  wpAny (model X.prog X.w) A (getItem (.ref a) u) Q E s:=by
 rcases g with ⟨kvs,k,e,ey,l⟩ | ⟨kvs,k,b,e,ey,eb,l⟩
 ·subst ey
  obtain⟨z,hd,vs,rel,dd⟩:=Ol I.hok e
  obtain⟨w',hw,rw'⟩:=uz.some_of (v:=v) (o:=valueAt vs k) (by rw[l];exact rel.val k)
  exact wpAny_getItem_of (Px ry) dd.mapOf hw (h w' _ (I.tok _) rw')
 ·subst ey
  cases (show u=Value.ref b from ry)
  obtain⟨z,hd,xs,rel,dd⟩:=pG I.hok e
  obtain⟨w',hw,rw'⟩:=uz.some_of (v:=v) (o:=(atKey xs k).map (·.2)) (by rw[l];exact rel.val k)
  obtain⟨p,hp,hp2⟩:=bX.mp hw
  refine wpAny_getItem_heap (tupleKind_room_in1 hu) (xH I.hok eb) dd hp ?_
  rw[hp2]
  exact h w' _ (I.tok _) rw'
theorem XD {h':Heap} {t':Nat} {ob:HO} (I:zH X pins σ H s) (mu:RL (H a)) (hs:Heap.SameBut a s.heap h') (he:∃ q,h'.get? a=some q) (new:qQ X.prog X.w (upd H a ob) h' a ob) :
  zH X pins σ (upd H a ob) { s with heap:=h',toks:=t' } :=
 I.write (x:=a) (e:=a) mu (.inl rfl) (fun b q hb z=>(hs.2 b hb).trans z) he new
theorem Nf {P:Program} {w:World} {H':Hp} {h':Heap} {kvs:List (yJ × V)} {vs:List (yJ × Value)} (z:kvs.length≤sizeLine) (hd:(a==sysModules)=false) (rel:KV kvs vs) (dd:h'.DictOf (yh P w) a vs) :
  qQ P w H' h' a (.dK kvs):=⟨z,hd,vs,rel,dd⟩
theorem GU {H':Hp} {Q:Unit→Shared→Prop} (hu:A.units+1<cLine) (I:zH X pins σ H s) (g:Gp H a y v H') (ry:qp y u) (rv:qp v r) (h:∀ s',zH X pins σ H' s'→Q () s') :
  wpAny (model X.prog X.w) A (setItem (.ref a) u r) Q E s:=by
 rcases g with ⟨kvs,k,e,ey,l,eH⟩ | ⟨kvs,k,b,e,ey,eb,l,eH⟩
 ·subst ey eH
  obtain⟨z,hd,vs,rel,dd⟩:=rH I.hok e
  have hz:vs.length≤sizeLine:=by rw[← rel.length];exact z
  have hl:(wI kvs k v).length≤sizeLine:=by have:=ku kvs k v;omega
  refine wpAny_setItem_pairs (hsz:=hz) (Px ry) dd fun h' dd' hs=>h _ ?_
  have he:∃ q,h'.get? a=some q:=let ⟨q,_,_,hq,_⟩:=dd';⟨q,hq⟩
  exact XD I (by rw[e];exact True.intro) hs he (Nf hl hd (rel.put k rv) dd')
 ·subst ey eH
  cases (show u=Value.ref b from ry)
  obtain⟨z,hd,xs,rel,dd⟩:=rJ I.hok e
  have hz:xs.length≤sizeLine:=by rw[← Paired.length rel];exact z
  have hl:(wI kvs k v).length≤sizeLine:=by have:=ku kvs k v;omega
  refine wpAny_setItem_heap (hsz:=hz) (tupleKind_room_in1 hu) (xH I.hok eb) dd fun h' dd' hs=>h _ ?_
  obtain⟨q,es,ep,hq,h2,h3,h4,_,h5⟩:=dd'
  refine XD I (by rw[e];exact True.intro) hs ⟨q,hq⟩ ⟨hl,hd,_,(rel.put k eb rv).keeps fun c ys ec=>?_,q,es,ep,hq,h2,h3,h4,h5⟩
  rw[zq (yp ec e (fun z=>nomatch z))]
  exact ec
end
section
variable {X:Cx} {pins:List (Addr × Obj)} {σ:St} {H:Hp} {s:Shared} {a:Addr} {kvs:List (yJ × V)} {k:yJ} {u:Value} {A:Around} {E:Value→Shared→Prop}
end
def r8 (i:Expr):Prop:=∀ ov iv,subscripted i false ov iv=operate [ov,iv] (getItem ov iv)
theorem Ls {prog:Program} {w:World} {A:Around} {E:Value→Shared→Prop} {s:Shared} {env:Env} {value slice:Expr} {pos:Pos} {T id:String} {Q:Value→Shared→Prop}
  (hl:typeLookup (.type T) "__getitem__" = pure (some (.builtin id))) (hs:r8 slice)
  (h:wpAny (model prog w) A (eval value env) (fun o s₁=>wpAny (model prog w) A (eval slice env) (fun i s₂=>s₂.TypeIs o T∧wpAny (model prog w) A (getItem o i) Q E s₂) E s₁) E s) :
  wpAny (model prog w) A (eval (.Subscript value slice pos) env) Q E s:=by
 refine Subscript_ (wpAny_mono h (fun o s₁ h₁=>wpAny_mono h₁ (fun i s₂ h₂=>?_) fun _ _ x=>x) fun _ _ x=>x)
 obtain⟨hT,h₂⟩:=h₂
 unfold subscriptTail
 refine wpAny_bind ?_
 rw[getitemInPython_of_ne hT.not_modules]
 refine wpAny_bind (wpAny_specialOf hT hl ?_)
 have fin:wpAny (model prog w) A (subscripted slice false o i) (fun r s₃=>wpAny (model prog w) A (letTemporaryGo value o r >>= fun _=>pure r) Q E s₃) E s₂:=by
  rw[hs o i]
  exact wpAny_operating (wpAny_mono h₂ (fun r s₃ h₃=>wpAny_bind (wpAny_letTemporaryGo (wpAny_pure h₃))) fun _ _ x=>x)
 first
  | exact wpAny_pure (wpAny_bind fin)
  | exact wpAny_bind (wpAny_pure (wpAny_bind fin))
  | exact wpAny_bind fin
theorem UM {X:Cx} {pins:List (Addr × Obj)} {σ:St} {H:Hp} {s:Shared} {a:Addr} {y:V} {o:Option V} (I:zH X pins σ H s) (g:ZD H a y o):s.TypeIs (.ref a) "dict":=by
 rcases g with ⟨kvs,k,e,_,_⟩ | ⟨kvs,k,b,e,_,_,_⟩
 ·obtain⟨_,_,vs,_,dd⟩:=Ol I.hok e
  exact dd.typeIs
 ·obtain⟨_,_,xs,_,dd⟩:=pG I.hok e
  exact dd.typeIs
def Mh (td ty:TE):TE:=fun σ H Q=>td σ H fun x H1=>ty σ H1 fun y H2=>∃ a v,x = .ref a∧ZD H2 a y (some v)∧Q v H2
def rP (td ty tv:TE):TS:=fun D σ H=>tv σ H fun v H1=>td σ H1 fun x H2=>ty σ H2 fun y H3=>∃ a H4,x = .ref a∧Gp H3 a y v H4∧D.nx σ H4
section
variable {X:Cx} {o i e value:Expr} {pos pos' tpos:Pos} {td ty tv:TE}
theorem Ja (hu:X.A.units+1<cLine) (ho:PE X o td) (hi:PE X i ty) (hs:r8 i):PE X (.Subscript o i pos) (Mh td ty):=by
 intro pins s σ H Q I h
 refine Ls PySem.F.slot_dict_getitem.lookup hs (qS (ho pins s σ H _ I h) fun u s1 ⟨x,H1,I1,rx,q1⟩=>qS (hi pins s1 σ H1 _ I1 q1) fun iv s2 ⟨y,H2,I2,ry,a,v,ex,g,q2⟩=>?_)
 subst ex
 obtain rfl:u=Value.ref a:=rx
 exact⟨UM I2 g,gi hu I2 g ry fun w' s3 I3 rw'=>⟨v,H2,I3,rw',q2⟩⟩
theorem gc (hu:X.A.units+1<cLine) (ho:PE X o td) (hi:PE X i ty) (hv:PE X value tv) (hs:swapsWith value (some (.Subscript o i pos')) pos.line X.env=pure false) :
  PS X (.Assign [.Subscript o i pos'] value pos) (rP td ty tv):=by
 intro pins s σ H D I h
 refine wpAny_Assign_Subscript (qS (hv pins s σ H _ I h) fun r s1 ⟨v,H1,I1,rv,q1⟩=>qS (ho pins s1 σ H1 _ I1 q1) fun u s2 ⟨x,H2,I2,rx,q2⟩=>qS (hi pins s2 σ H2 _ I2 q2) fun iv s3 ⟨y,H3,I3,ry,a,H4,ex,g,q3⟩=>?_) hs
 subst ex
 obtain rfl:u=Value.ref a:=rx
 exact GU hu I3 g ry rv fun s4 I4=>⟨σ,H4,I4,q3⟩
end
theorem G7 {P:Program} {w:World} {H:Hp} (h:Heap) (hb:sysModules<h.objs.size):qQ P w H (h.push { cls:=.type "dict",data:=.dict #[] }) h.objs.size (.dK []) :=
 ⟨Bo _,beq_eq_false_iff_ne.mpr (Ne.symm (b5 hb)),[],.nil,Heap.DictOf.new h⟩
def No:TE:=fun _ H Q=>∀ p,H p=none→Q (.ref p) (upd H p (.dK []))
section
variable {X:Cx} {pos:Pos}
theorem oR:PE X (.Dict [] [] pos) No:=fun pins s σ H Q I h =>
 wpAny_Dict_empty ⟨.ref s.heap.objs.size,_,I.laid (a:=s.heap.objs.size) (o:=.dK []) (t':=s.toks) (fun _ _ q=>bW _ q) (bK _) (G7 s.heap I.big),rfl,h _ (I.hok.fresh (bK _))⟩
end
structure M1 (X:Cx) (o:Expr) (m:Str) (apos:Pos) (e:Expr) (cpos:Pos):Prop where
 base:attributeBase o m X.env (eval o X.env)=eval o X.env
 few:((backTo cpos (starEach [e] X.env)).all (fun x=>!x.1)&&(backToKw cpos (keywordEach [] X.env)).all (fun x=>x.1.isSome)
  && decide (([e]:List Expr).length+([]:List Keyword).length+(if ([]:List Keyword).isEmpty then 0 else 1)<30))=true
 line:(apos.endLine==cpos.line)=true
 trees:backTo cpos (starEach [e] X.env)=[(false,eval e X.env)]
section
variable {X:Cx} {pins:List (Addr × Obj)} {σ:St} {H:Hp} {s:Shared} {a:Addr} {y d:V} {u r:Value} {o:Option V} {A:Around} {E:Value→Shared→Prop}
end
section
variable {X:Cx} {o e f:Expr} {apos cpos:Pos} {td ty tx:TE}
end
section
variable {X:Cx} {pins:List (Addr × Obj)} {σ:St} {H:Hp} {s:Shared} {a:Addr} {kvs:List (yJ × V)} {A:Around} {E:Value→Shared→Prop}
end
section
variable {X:Cx} {pins:List (Addr × Obj)} {σ:St} {H:Hp} {s:Shared} {a:Addr} {y:V} {u:Value} {A:Around} {E:Value→Shared→Prop}
end
section
variable {X:Cx}
end
section
variable {κ:Type} [DecidableEq κ]
end
theorem zx.upd {H:Hp} {p:Addr} {o:HO} (hp:H p=none):zx H (L2.upd H p o):=fun b u e=>by
 rw[zq (zF e hp)]
 exact e
theorem zx.tup {K:PySem.W.Frag} {H H':Hp} {a:Addr} {xs:List V} (e:zx H H') (h:qg K H a xs):qg K H' a xs:=by
 rcases h with (h | ⟨o,h⟩) | h
 ·exact .inl (.inl (e _ _ h))
 ·exact .inl (.inr ⟨o,e _ _ h⟩)
 ·exact .inr h
section
variable {K:PySem.W.Frag} {H:Hp}
theorem Ll:kh K H .non:=⟨("NoneType",false,false,false,false),by decide,.non,by decide⟩
theorem m7 (b:Bool):kh K H (.bl b):=⟨("bool",true,true,false,false),by decide,.bl b,by decide⟩
theorem NH (x:Str):kh K H (.str x):=⟨("str",false,false,true,false),by decide,.str x,by decide⟩
theorem ML {a:Addr} {xs:List V} (e:H a=some (.lst xs)):kh K H (.ref a):=⟨("list",false,false,false,true),by decide,.lst e,by decide⟩
theorem nU {a:Addr} {xs:List V} (e:H a=some (.tup xs)):kh K H (.ref a):=⟨("tuple",false,false,false,false),by decide,.tup e,by decide⟩
end
def Rg:Expr→Bool
 | .Slice _ _ _ _=>true
 | _=>false
theorem PD {b:Expr} (h:Rg b=false):XI b:=fun o i=>by
 cases b <;> first | rfl | cases h
theorem zB {X:Cx} {a b:Expr} {ta tb:TE} {pos:Pos} {r:R2} (hr:Rr X r) (ha:PE X a ta) (hb:PE X b tb) (hs:Rg b=false:=by rfl):PE X (.Subscript a b pos) (jB r ta tb):=rA hr ha hb (PD hs)
theorem WS {α:Type} {xs:List α} {i:Int} {v:α} (h0:0≤i) (h:xs[i.toNat]? = some v):atI xs i=some v:=by
 have e:=qV h
 rwa [Int.toNat_of_nonneg h0] at e
theorem vq {α:Type} {xs:List α} {i:Int} (h0:0≤i) (h1:i<xs.length):∃ v,atI xs i=some v∧v∈xs:=by
 have hl:i.toNat<xs.length:=by omega
 exact⟨xs[i.toNat],WS h0 (bO hl),B7 hl⟩
theorem kU {a b:Str}:(decide (V.str a=V.str b)=true)↔a=b:=by rw[decide_eq_true_iff];exact⟨fun h=>V.str.inj h,fun h=>congrArg V.str h⟩
theorem ux {a b:Int}:(decide (V.int a=V.int b)=true)↔a=b:=by rw[decide_eq_true_iff];exact⟨fun h=>V.int.inj h,fun h=>congrArg V.int h⟩
theorem NL (a b:Int):decide (V.int a=V.int b)=decide (a=b):=BN.mpr (ux.trans decide_eq_true_iff.symm)
def Qm (ns:List Int) (k:Int):Int:=ns.getD k.toNat 0
theorem lH {ns:List Int} {k:Int} (h0:0≤k) (h:k<((ns.map V.int).length:Nat)):atI (ns.map V.int) k=some (.int (Qm ns k)):=by
 rw[bM] at h
 have hl:k.toNat<ns.length:=by omega
 refine WS h0 ?_
 unfold Qm
 rw[bR,bO hl,Bx,bO hl]
 rfl
theorem Pn {ns:List Int} {k:Int} (h:¬ k<((ns.map V.int).length:Nat)):Qm ns k=0:=by
 rw[bM] at h
 unfold Qm
 rw[Bx,BG (by omega)]
 rfl
theorem qa {n:Nat} (h:Nat.ble n 1000=true):n≤sizeLine:=Bj (b8 h) (by decide)
def Va (H:Hp) (o:HO) (Q:VK):Prop:=∀ p H',zx H H'→H p=none→H' p=some o→Q (.ref p) H'
theorem Va.at {H:Hp} {o:HO} {Q:VK} (h:Va H o Q) {p:Addr} (hp:H p=none):Q (.ref p) (upd H p o):=h p _ (zx.upd hp) hp zm
def Um (t:TA):TE:=fun σ H Q=>t σ H fun xs H1=>xs.length≤sizeLine∧Va H1 (.tup xs) Q
def Mg (t:TA):TE:=fun σ H Q=>t σ H fun xs H1=>xs.length≤sizeLine∧Va H1 (.lst xs) Q
section
variable {X:Cx} {es:List Expr} {t:TA} {pos:Pos}
theorem qZ {x1} (h:PA X es t):PE X (.Tuple es x1 pos) (Um t):=by
 intro pins s σ H Q I hq
 refine wpAny_Tuple_spliced (qS (h pos pins s σ H _ I hq) fun us s1 ⟨xs,H1,I1,r,z,q⟩=>⟨by rw[← r.length];exact z,?_⟩)
 have hf:H1 s1.heap.objs.size=none:=I1.hok.fresh (bK _)
 refine⟨.ref s1.heap.objs.size,upd H1 s1.heap.objs.size (.tup xs),I1.laid (t':=s1.toks) (fun b u e=>bW _ e) (bK _) ?_,rfl,q.at hf⟩
 exact⟨z,us,r,⟨_,Bd _ rfl,rfl,_,rfl⟩⟩
theorem zY (h:PA X es t):PE X (.List es pos) (Mg t):=by
 intro pins s σ H Q I hq
 refine wpAny_List_spliced (qS (h pos pins s σ H _ I hq) fun us s1 ⟨xs,H1,I1,r,z,q⟩=>⟨by rw[← r.length];exact z,?_⟩)
 have hf:H1 s1.heap.objs.size=none:=I1.hok.fresh (bK _)
 refine⟨.ref s1.heap.objs.size,upd H1 s1.heap.objs.size (.lst xs),I1.laid (t':=s1.toks) (fun b u e=>bW _ e) (bK _) ?_,rfl,q.at hf⟩
 exact⟨z,us,0,r,Bd _ rfl⟩
def MQ:TE:=fun _ H Q=>Va H (.dK []) Q
theorem VY:PE X (.Dict [] [] pos) MQ:=fun pins s σ H Q I h=>oR pins s σ H Q I fun p hp=>h.at hp
def rY:R2:=fun x y H Q=>∃ l b xs zs,x = .ref l∧y = .ref b∧H l=some (.lst xs)∧H b=some (.lst zs)∧xs.length+zs.length≤sizeLine∧Va H (.lst (xs++zs)) Q
theorem Zn:uE X (binaryOp .Add) rY:=fun pins s σ H x y v u Q I rx ry ⟨l,b,xs,zs,e1,e2,h1,h2,hz,q⟩=>ND pins s σ H x y v u Q I rx ry ⟨l,b,xs,zs,e1,e2,h1,h2,hz,fun p hp=>q.at hp⟩
end
structure gh (K:PySem.W.Frag) (H:Hp) (ea C:Addr):Prop where
 ex:∃ oe vs,H ea=some (Ow ea oe)∧oe.cls = .ref C∧oe.dict=none∧oe.data = .fields vs
 cls:XK.jQ K C
theorem gh.same {K:PySem.W.Frag} {H H':Hp} {ea C:Addr} (h:gh K H ea C) (s:zx H H'):gh K H' ea C:=by
 obtain⟨⟨oe,vs,e,r⟩,c⟩:=h
 exact⟨⟨oe,vs,s _ _ e,r⟩,c⟩
theorem gh.ty {K:PySem.W.Frag} {H:Hp} {ea C:Addr} (h:gh K H ea C):bj K H (.ref ea) (.ref C):=by
 obtain⟨⟨oe,vs,e,e1,e2,e3⟩,c⟩:=h
 exact .inr ⟨ea,oe,C,vs,rfl,rfl,e,e1,e2,e3,c⟩
section
variable {X:Cx}
theorem zH.walked {pins:List (Addr × Obj)} {σ:St} {H:Hp} {s:Shared} (I:zH X pins σ H s) {u:Obj} {h':Heap} {tk:Nat} (hk:∀ b o,b∉[s.heap.objs.size]→(s.heap.push u).get? b=some o→h'.get? b=some o) :
  zH X pins σ H { s with heap:=h',toks:=tk } :=
 I.kept (t':=tk) fun b o e=>hk b o (by simp;exact b5 (bQ e)) (bW _ e)
theorem GI {α:Type} (bs:List α) (d:α) (p:α→Bool):(List.range bs.length).all (fun i=>p (bs.getD i d))=bs.all p:=by
 induction bs with
 | nil=>rfl
 | cons b r ih =>
  rw[Bi,CN,BW,Cc,BW]
  congr 1
theorem MW {bs:List Bool} {its:List Value} (rv:z9 (bs.map V.bl) its) {i:Nat} {v:Value} (e:its.toArray[i]? = some v):v = .bool (bs.getD i false):=by
 have hl:=rv.length
 rw[bM] at hl
 have hi:i<its.length:=by
  have:=(BM.mp e).1
  simpa using this
 have hx:(bs.map V.bl)[i]? = some (V.bl (bs.getD i false)):=by
  rw[bR,bO (by omega),Bx,bO (by omega)]
  rfl
 obtain⟨u,e1,e2⟩:=rv.get hx
 have e3:its[i]? = some v:=by simpa using e
 rw[e1] at e3
 cases e3
 exact e2
theorem vh (hc:X.calm=true):jq X (.builtin "all") (fun xs H Q=>∃ (a:Addr) (bs:List Bool),xs=[.ref a]∧z5 X.K H a (bs.map V.bl)∧Q (.bl (bs.all id)) H):=by
 intro pins s σ H xs us Q I r h
 obtain⟨a,bs,rfl,hS,q⟩:=h
 obtain⟨u,rfl,ru⟩:=vK r
 cases ru
 obtain⟨its,rv,pl,hz⟩:=I.list hS
 have hl:its.length=bs.length:=by rw[← rv.length,bM]
 have hlt:a≠s.heap.objs.size:=by obtain⟨o,e,_⟩:=pl.isList;exact b5 (bQ e)
 refine call_all_walk (wpAny_pyIter_list pl.isList ?_)
 refine⟨s.heap.objs.size,_,_,_,_,_,fun i=>bs.getD i false,rfl,Walks.list (A:=X.A.in1) (I.ok.hd hc) _ a hlt its.toArray,⟨⟨_,Bd _ rfl,rfl,rfl⟩,pl.isList.push _⟩,fun i v s' Q' E' hP hQ=>?_,fun h' tk hk=>?_⟩
 ·rw[MW rv hP]
  exact wpAny_truthy_bool hQ
 ·refine⟨.bl _,H,I.walked hk,rfl,?_⟩
  have e:(List.range its.toArray.size).all (fun i=>bs.getD i false)=bs.all id:=by
   rw[bT,hl]
   exact GI bs false id
  rw[e]
  exact q
theorem Zk {ns:List Int} {its:List Value} (rv:z9 (ns.map V.int) its) {i:Nat} {v:Value} (e:its.toArray[i]? = some v):∃ t,v = .int (ns.getD i 0) t:=by
 have hl:=rv.length
 rw[bM] at hl
 have hi:i<its.length:=by
  have:=(BM.mp e).1
  simpa using this
 have hx:(ns.map V.int)[i]? = some (V.int (ns.getD i 0)):=by
  rw[bR,bO (by omega),Bx,bO (by omega)]
  rfl
 obtain⟨u,e1,e2⟩:=rv.get hx
 have e3:its[i]? = some v:=by simpa using e
 rw[e1] at e3
 cases e3
 exact e2
theorem kr (l:List Int):∀ j,preSum (fun i=>l.getD i 0) j=(l.take j).sum
 | 0=>by simp[preSum]
 | j+1=>by
  rw[preSum,kr l j]
  by_cases h:j<l.length
  ·have e:l.take (j+1)=l.take j++[l[j]]:=by rw[List.take_succ,bO h];rfl
   rw[e,List.sum_append,Bx,bO h]
   simp
  ·rw[BO (by omega),BO (by omega),Bx,BG (by omega)]
   simp
theorem yN (hc:X.calm=true):jq X (.builtin "sum") (fun xs H Q=>∃ (a:Addr) (ns:List Int),xs=[.ref a]∧z5 X.K H a (ns.map V.int)∧Q (.int ns.sum) H):=by
 intro pins s σ H xs us Q I r h
 obtain⟨a,ns,rfl,hS,q⟩:=h
 obtain⟨u,rfl,ru⟩:=vK r
 cases ru
 obtain⟨its,rv,pl,hz⟩:=I.list hS
 have hl:its.length=ns.length:=by rw[← rv.length,bM]
 have hlt':a<s.heap.objs.size:=by obtain⟨o,e,_⟩:=pl.isList;exact bQ e
 have hlt:a≠s.heap.objs.size:=b5 hlt'
 refine call_sum_walkG (wpAny_pyIter_list pl.isList ?_)
 refine⟨s.heap.objs.size,_,_,_,_,_,fun i=>ns.getD i 0,rfl,Walks.list (A:=X.A.in1) (I.ok.hd hc) _ a hlt its.toArray,⟨⟨_,Bd _ rfl,rfl,rfl⟩,pl.isList.push _⟩,fun b hb=>?_,fun i v hP=>Zk rv hP,fun h' tk t' hk=>?_⟩
 ·show b<(s.heap.push _).objs.size
  rw[cA]
  rcases bN.mp hb with rfl | hb
  ·exact BX _
  ·rw[Bf.mp hb]
   exact Cd hlt'
 ·refine⟨.int _,H,I.walked hk,⟨t',rfl⟩,?_⟩
  have e:preSum (fun i=>ns.getD i 0) its.toArray.size=ns.sum:=by
   rw[bT,hl,kr,BO (bK _)]
  rw[e]
  exact q
end
def G2 (l:List Nat) (lo hi:Option Int):List Nat:=(l.drop (HT.uZ l.length 0 lo)).take (HT.uZ l.length l.length hi - HT.uZ l.length 0 lo)
theorem Za (n d:Nat) (v:Int):max 0 (min (if v<0 then v+(n:Int) else v) (n:Int))=((HT.uZ n d (some v):Nat):Int):=by
 show _=(((if v<0 then (v+(n:Int)).toNat else min v.toNat n):Nat):Int)
 by_cases hv:v<0
 ·have le:=Int.add_le_add_right (Int.le_of_lt hv) (n:Int)
  rw[cb] at le
  rw[if_pos hv,if_pos hv,Int.min_eq_left le,Int.ofNat_toNat,Int.max_comm]
 ·obtain⟨m,rfl⟩:=BP (Int.not_lt.mp hv)
  rw[if_neg hv,if_neg hv,BA,Int.max_eq_right (Int.le_min.mpr ⟨cJ m,cJ n⟩)]
  rcases Nat.le_total m n with c | c
  ·rw[BQ c,Int.min_eq_left (Int.ofNat_le.mpr c)]
  ·rw[Cz c,Int.min_eq_right (Int.ofNat_le.mpr c)]
theorem oy (lo hi:Option Int) (n:Nat):Builtin.Str.strSliceIndices lo hi 1 n=sliceRange ((HT.uZ n 0 lo:Nat):Int) ((HT.uZ n n hi:Nat):Int) 1:=by
 unfold Builtin.Str.strSliceIndices
 simp only[show (1:Int) > 0 by decide,if_true]
 cases lo with
 | none =>
  cases hi with
  | none=>rfl
  | some j=>simp only[Za n n j];rfl
 | some i =>
  cases hi with
  | none=>simp only[Za n 0 i];rfl
  | some j=>simp only[Za n 0 i,Za n n j]
theorem kc (z:Str) (lo hi:Option Int):(Txt.slice z lo hi).cps.toList=G2 z.cps.toList lo hi:=by
 have len:z.length=z.cps.toList.length:=Bw.symm
 have ix:=(oy lo hi z.length).trans (sliceRange_one _ _)
 have key:(Builtin.Str.strSliceIndices lo hi 1 z.length).filterMap (z.cps[·]?)=G2 z.cps.toList lo hi:=by
  rw[ix,pick_run,len]
  rfl
 unfold Txt.slice
 split
 ·rename_i h
  have h:(Builtin.Str.strSliceIndices lo hi 1 z.length).length=z.length:=by simpa using h
  rw[ix,bM,Bm,len] at h
  have a2:=HT.M9 z.cps.toList.length z.cps.toList.length (bK _) hi
  have hl:(G2 z.cps.toList lo hi).length=z.cps.toList.length:=by
   unfold G2
   rw[Bh,BZ,h]
   exact BQ (Bj (Nat.le_of_eq h.symm) (Nat.sub_le_sub_right a2 _))
  exact (((Cw _ _).trans (List.drop_sublist _ _)).eq_of_length hl).symm
 ·exact key
def LD:V→Option Int→Option Int→Hp→VK→Prop:=fun x lo hi H Q=>∃ z,x = .str z∧z.length≤sizeLine∧Q (.str (Txt.slice z lo hi)) H
theorem YU {v:Value} {o:Option Int} (p:IsPart v o):∃ l:Option (Int × Tok),v=partValue l∧o=l.map (·.1):=by
 cases p with
 | none=>exact⟨none,rfl,rfl⟩
 | int i t=>exact⟨some (i,t),rfl,rfl⟩
theorem xX {X:Cx}:tT X LD:=by
 intro pins s σ H x v vl vu lo hi sl Q I rx hs pl pu h
 obtain⟨z,rfl,hz,q⟩:=h
 obtain⟨t,rfl⟩:=rx
 obtain⟨l,rfl,rfl⟩:=YU pl
 obtain⟨u,rfl,rfl⟩:=YU pu
 refine⟨"str",_,F.slot_str_getitem.lookup,typeIs_str _ _ _,wpAny_getItem_str_slice (l:=l) (u:=u) (st:=none) hs rfl ?_⟩
 exact post_val_or_str ⟨Bj (Txt.slice_le z _ _) hz,fun t' k=>⟨.str _,H,I.tok k,⟨t',rfl⟩,q⟩⟩
def yd (xe:Value→Shared→Prop) (X:Cx) (Nc:List Str) (scope:Scope) (cl:List (Str × Addr)) (C:Addr) (fp:List Addr) (s:Shared) (H:Hp):Cx :=
 { X with N:=Nc,s₀:=s,H₀:=H,env:=compEnvC scope cl C X.env,outer:=X.stack,ex:=fp,fn:=fun _=>false,pn:=[],xe:=xe }
abbrev ul:=yd fun _ _=>False
def yG (J:It) (D:Addr) (g:TG) (tt:TT) (te:TE) (fin:List V→Hp→Prop) (σ:St) (H:Hp):Prop :=
 ∃ W:Nat→Nat→List V→St→Hp→Prop,(∃ m,W 0 m [] σ H)∧(∀ i m ys σ H,W i m ys σ H→H D=some (.lst ys)) ∧
  ∀ i m ys σ H,W i m ys σ H→(J.stop i H∧fin ys H) ∨
   (J.go i H∧∃ N:List V→St→Hp→Prop,(∀ ys' σ' H',N ys' σ' H'→∃ m',m'<m∧W (i+1) m' ys' σ' H') ∧
    ∀ x H',J.yld i H x H'→g x σ H' fun σ1 H1=>tt σ1 H1 fun b H2=>if b=true then te σ1 H2 fun y H3=>H3 D=some (.lst ys)∧ys.length<sizeLine∧N (ys++[y]) σ1 (upd H3 D (.lst (ys++[y]))) else N ys σ1 H2)
def WG (src:List (Option Nat)) (wi:TI) (g:TG) (tt:TT) (te:TE):TE:=fun σ H Q=>wi σ H fun J H1=>∀ D,H1 D=none→yG J D g tt te (fun ys H2=>Q (.ref D) H2) (pj src σ) (upd H1 D (.lst []))
section
variable {X:Cx} {elt iter tgt:Expr} {ifs:List Expr} {scope:Scope} {cl:List (Str × Addr)} {Nc:List Str} {src:List (Option Nat)} {g:TG} {tt:TT} {te:TE}
theorem kB {xe:Value→Shared→Prop} {pins:List (Addr × Obj)} {σ:St} {H:Hp} {s:Shared} {D it:Addr} {fp:List Addr} {tn:Nat→Heap→Prop} {J:It} {R:Addr→Result→Shared→Prop} {fin:List V→Hp→Prop} {pos:Pos} {E:Value→Shared→Prop}
  (c:Wf X Nc scope cl src) (hcalm:X.calm=true) (I:zH X pins σ H s) (T:Vi X.prog X.w X.K tgt J fp it tn) (st0:tn 0 s.heap) (f:∀ b∈fp,jC X pins H b)
  (hb:PG (yd xe X Nc scope cl s.heap.objs.size fp s H) tgt g∧ud (yd xe X Nc scope cl s.heap.objs.size fp s H) ifs tt∧PE (yd xe X Nc scope cl s.heap.objs.size fp s H) elt te)
  (h:yG J D g tt te fin (pj src σ) H)
  (hx:∀ x s',xe x s'→notedBy (model X.prog X.w) X.A (compEnvC scope cl s.heap.objs.size X.env) (fun e s'=>R s.heap.objs.size (.error e) s') x s')
  (kend:∀ C ys σ' H' s',H C=none→zH (yd xe X Nc scope cl C fp s H) [] σ' H' s'→H' D=some (.lst ys)→fin ys H'→R C (.ok .next) s') :
  wpAny (model X.prog X.w) X.A (newFunctionEnv scope X.env.globals cl [] X.env.qual none .none (some X.env)) (fun cenv s4 =>
   codeAny (model X.prog X.w) X.A (.compStart (.ListComp elt [⟨tgt,iter,ifs,0⟩] scope pos) 0 (.ref it) (.ref D) { cenv with scope:=relabel scope X.env }) (R cenv.locals) s4) E s:=by
 obtain⟨W,⟨m0,w0⟩,wi,wt⟩:=h
 refine wpAny_newFunctionEnv c.cell (by intro y hy;simp at hy) (fun h1 hn1 hs1=>?_) c.kind
 have hC0:H s.heap.objs.size=none:=I.hok.fresh (bK _)
 have old:∀ b o,s.heap.get? b=some o→h1.get? b=some o:=fun b o e=>hs1.extBut b o (b5 (bQ e)) (bW _ e)
 have fplt:∀ b∈fp,b<s.heap.objs.size:=fun b hb=>by
  obtain⟨o,e,_⟩:=T.obj 0 _ st0 b hb
  exact bQ e
 have inStk:∀ b∈fp,b∉Gr X.stack:=fun b hb z=>(bN.mp (I.stkSub b z)).elim (f b hb).2.1 (f b hb).2.2.1
 have Yok:(yd xe X Nc scope cl s.heap.objs.size fp s H).Ok:=by
  refine⟨I.ok.mod,c.kind,I.ok.glob,I.ok.blt,bK _,fun x y b h1 h2=>I.ok.inj x y b (c.sub x b h1) (c.sub y b h2),fun x hx=>c.has x hx,(fun x b h1 _=>nomatch h1),I.ok.hd,I.ok.frames,.inl rfl,fun b hb=>?_,fun b o e=>I.bs b o e,Bj I.ok.bsz I.sz,fun b o e hb=>?_,fun b hb=>?_,I.stack,I.stkFree⟩
  ·exact⟨b5 (fplt b hb),fun x b' e=>(f b hb).2.2.2.2.1 x b' (c.sub x b' e)⟩
  ·have e0:=(I.ok.bs b o e).1
   rcases (f b hb).2.2.2.1 with z | z
   ·exact I.ok.noex b o e z
   ·rw[z] at e0;cases e0
  ·exact inStk b hb
 have J0:zH (yd xe X Nc scope cl s.heap.objs.size fp s H) [] (pj src σ) H { s with heap:=h1,toks:=s.toks+([]:List (Str × Value)).length }:=by
  refine⟨Yok,rfl,I.bare,Un.kept old,⟨_,hn1,fun i x v e1 e2 e3=>?_⟩,fun x b e=>?_,hC0,fun x b e=>I.freeC x b (c.sub x b e),fun p hp=>absurd (show p∈([]:List (Addr × Obj)) from hp) (by simp),I.hok.kept old,?_⟩
  ·unfold pj at e2
   rw[bR] at e2
   cases q:src[i]? with
   | none=>rw[q] at e2;cases e2
   | some oj =>
    rw[q] at e2
    cases oj with
    | none=>cases e2
    | some j =>
     obtain⟨y,y1,y2,y3,y4⟩:=c.frm i j q
     obtain rfl:y=x:=Option.some.inj (y1.symm.trans e1)
     have e2':(σ[j]?).join=some v:=Option.some.inj e2
     have e2s:σ[j]? = some (some v):=by
      cases z:σ[j]? with
      | none=>rw[z] at e2';cases e2'
      | some ov=>rw[z] at e2';exact congrArg some e2'
     obtain⟨m,hn,hl⟩:=I.loc
     obtain⟨u,r,l⟩:=hl j y v y2 e2s (.inr (.inl y3))
     refine⟨u,r,.inr ⟨.inl y4,?_⟩⟩
     rcases l with ⟨k1,_⟩ | ⟨_,b,k2,k3⟩
     ·exact absurd (k1.symm.trans y3) (by intro z;cases z)
     ·obtain⟨b',k4⟩:=c.has y (.inl y4)
      have k5:=c.sub y b' k4
      rw[k2] at k5
      cases k5
      obtain⟨o,ho,hd⟩:=k3
      exact⟨b,k4,o,old b o ho,hd⟩
  ·obtain⟨v,o,ho,hd⟩:=I.cell x b (c.sub x b e)
   exact⟨v,o,old b o ho,hd⟩
  ·unfold pj
   rw[bM]
   exact c.len
 have st1:tn 0 h1:=T.keep _ _ _ st0 fun b _ o e=>old b o e
 obtain⟨bg,bi,be⟩:=hb
 have fpY:∀ {H2:Hp},(∀ b∈fp,H2 b=none)→∀ b∈fp,jC (yd xe X Nc scope cl s.heap.objs.size fp s H) [] H2 b:=fun {H2} n b hb =>
  ⟨n b hb,b5 (fplt b hb),inStk b hb,.inl hb,fun x b' e=>(f b hb).2.2.2.2.1 x b' (c.sub x b' e),fun p hp=>absurd (show p∈([]:List (Addr × Obj)) from hp) (by simp)⟩
 have loop:codeAny (model X.prog X.w) X.A (.compLoop (.ListComp elt [⟨tgt,iter,ifs,0⟩] scope pos) 0 (.ref it) (.ref D) (compEnvC scope cl s.heap.objs.size X.env)) (R s.heap.objs.size) { s with heap:=h1,toks:=s.toks+([]:List (Str × Value)).length }:=by
  refine Gk (EX:=xe) hx (fun n s'=>∃ i ys σ' H',zH (yd xe X Nc scope cl s.heap.objs.size fp s H) [] σ' H' s'∧tn i s'.heap∧(∀ b∈fp,H' b=none)∧W i n ys σ' H') ?_ m0 ⟨0,[],_,H,J0,st1,fun b hb=>(f b hb).1,w0⟩
  rintro n s2 ⟨i,ys,σ2,H2,J2,st2,fr2,w2⟩
  have q2:=wi i n ys σ2 H2 w2
  rcases wt i n ys σ2 H2 w2 with ⟨stop,qn⟩ | ⟨go,N,hN,step⟩
  ·refine qS (T.done (yd xe X Nc scope cl s.heap.objs.size fp s H) rfl rfl rfl hcalm i [] s2 σ2 H2 _ J2 (fpY fr2) st2 stop) fun r s4 ⟨hr,I4⟩=>?_
   subst hr
   exact kend _ ys σ2 H2 _ hC0 I4 q2 qn
  ·refine qS (T.item (yd xe X Nc scope cl s.heap.objs.size fp s H) rfl rfl rfl hcalm i [] s2 σ2 H2 _ J2 (fpY fr2) st2 go) fun r s4 ⟨u,hr,h4⟩=>?_
   subst hr
   refine qS h4 fun _ s5 ⟨x,H5,I5,r5,y5,st5,fr5⟩=>?_
   have I5':=I5.pinned (fpY fr5) (T.obj _ _ st5)
   have back:∀ {σ7:St} {H7:Hp} {s7:Shared},zH (yd xe X Nc scope cl s.heap.objs.size fp s H) ([]++Qr fp s5.heap) σ7 H7 s7→zH (yd xe X Nc scope cl s.heap.objs.size fp s H) [] σ7 H7 s7∧tn (i+1) s7.heap∧∀ b∈fp,H7 b=none:=fun {σ7 H7 s7} I7=>by
    refine⟨I7.unpinned,T.keep _ _ _ st5 fun b hb o e=>(I7.pin (b,o) (Bz _ (Bz _ (vF hb e)))).1,fun b hb=>?_⟩
    obtain⟨o,e,d⟩:=T.obj _ _ st5 b hb
    exact (I7.pin (b,o) (Bz _ (Bz _ (vF hb e)))).2.1
   refine qS (bg _ s5 σ2 H5 x u _ I5' r5 (step x H5 y5)) fun _ s6 ⟨σ6,H6,I6,q6⟩=>?_
   refine qS (bi _ s6 σ6 H6 _ I6 q6) fun b s7 ⟨H7,I7,q7⟩=>?_
   cases b with
   | false =>
    obtain⟨m',hm,w7⟩:=hN _ _ _ q7
    obtain⟨J7,st7,fr7⟩:=back I7
    exact⟨m',hm,i+1,ys,σ6,H7,J7,st7,fr7,w7⟩
   | true =>
    refine qS (be _ s7 σ6 H7 _ I7 q7) fun y s8 ⟨vy,H8,I8,ry,hD8,hl8,n8⟩=>?_
    refine qS (j7 (X:=yd xe X Nc scope cl s.heap.objs.size fp s H) _ s8 σ6 H8 (.ref D) [vy] (.ref D) [y] (fun _ H'=>H'=upd H8 D (.lst (ys++[vy]))) I8 rfl (.cons ry .nil) ⟨D,ys,vy,rfl,rfl,hD8,hl8,rfl⟩) fun _ s9 ⟨_,H9,I9,_,e9⟩=>?_
    subst e9
    obtain⟨m',hm,w8⟩:=hN _ _ _ n8
    obtain⟨J9,st9,fr9⟩:=back I9
    exact⟨m',hm,i+1,ys++[vy],σ6,_,J9,st9,fr9,w8⟩
 exact codeAny_compStart_list loop (T.self _ 0 _ _ _ st1 loop)
theorem Z8 {xe:Value→Shared→Prop} {pins:List (Addr × Obj)} {σ σ':St} {H H':Hp} {s s':Shared} {C:Addr} {fp:List Addr} {h':Heap} (I:zH X pins σ H s) (f:∀ b∈fp,jC X pins H b) (J:zH (yd xe X Nc scope cl C fp s H) [] σ' H' s') (hs:Heap.SameBut C s'.heap h') :
  zH X pins σ H' { s' with heap:=h' }:=by
 have nC:∀ b o,s.heap.get? b=some o→b≠C:=fun b o e=>b5 (Bq (bQ e) J.ok.above)
 have B:=J.base
 refine I.call' (s':={ s' with heap:=h' }) (ch:=fp) J.os ⟨fun b o e n hb hx=>(hs.2 b (nC b o e)).trans (B.keep b o e n hb hx),fun b o e n hb hx=>?_,B.free,fun b o e hx=>?_,B.tups,B.frzs,B.tbls⟩ (fun b u q=>?_) J.bare fun b hb=>?_
 ·obtain⟨sl,z⟩:=B.slot b o e n hb hx
  exact⟨sl,(hs.2 b (nC b o e)).trans z⟩
 ·obtain⟨o',z⟩:=B.there b o e hx
  exact⟨o',(hs.2 b (nC b o e)).trans z⟩
 ·have hC:H' C=none:=J.free
  refine (J.hok b u q).stay (fun c v hc z=>(hs.2 c ?_).trans z) (fun _ z=>z) fun _ _ z=>z
  rintro rfl
  rcases hc with hc | hc
  ·rw[← hc,hC] at q;cases q
  ·rw[hC] at hc;cases hc
 ·exact⟨(f b hb).2.2.2.1,(f b hb).2.1,(f b hb).2.2.2.2.1,(f b hb).2.2.2.2.2⟩
theorem qb {wi:TI} {pos:Pos} (c:Wf X Nc scope cl src) (hcalm:X.calm=true) (hi:PI X tgt iter wi)
  (hb:∀ fp C s' H',PG (ul X Nc scope cl C fp s' H') tgt g∧ud (ul X Nc scope cl C fp s' H') ifs tt∧PE (ul X Nc scope cl C fp s' H') elt te)
  (hs:∀ x,foldedSetIterable iter X.env x=pure x:=by intro _;rfl):PE X (.ListComp elt [⟨tgt,iter,ifs,0⟩] scope pos) (WG src wi g tt te):=by
 intro pins s σ H Q I h
 rw[eval_ListComp]
 refine wpAny_comprehension_free (use:=none) rfl hs c.clos c.kind c.names (qS (hi pins s σ H _ I h) fun v s1 h1=>qS h1 fun itv s2 h2=>?_)
 obtain⟨it,fp,tn,J,H2,e,I2,T,st2,f2,hT⟩:=h2
 subst e
 refine wpAny_newObj_type ?_ (by size_fits)
 have old:∀ b o,s2.heap.get? b=some o→(s2.heap.push { cls:=.type "list",data:=.seq ([]:List Value).toArray }).get? b=some o:=fun b o e=>bW _ e
 have I3:=I2.laid (a:=s2.heap.objs.size) (o:=.lst []) (t':=s2.toks) (h':=s2.heap.push { cls:=.type "list",data:=.seq ([]:List Value).toArray }) old (bK _) ⟨Bo _,[],0,.nil,Bd _ rfl⟩
 have ne:∀ b∈fp,b≠s2.heap.objs.size:=fun b hb=>by
  obtain⟨o,e,_⟩:=T.obj 0 _ st2 b hb
  exact b5 (bQ e)
 have f3:∀ b∈fp,jC X pins (upd H2 s2.heap.objs.size (.lst [])) b:=fun b hb=>⟨by rw[zq (ne b hb)];exact (f2 b hb).1,(f2 b hb).2⟩
 refine kB (it:=it) (R:=fun C=>compPost (model X.prog X.w) X.A X.xe none (EP X pins σ Q) _ C) c hcalm I3 T (T.keep _ _ _ st2 fun b _ o e=>old b o e) f3 (hb fp _ _ _) (hT _ (I2.hok.fresh (bK _))) (fun _ _ z=>z.elim) fun C ys σ' H' s' hC J' hD q=>?_
 obtain⟨m,hn,_⟩:=id J'.loc
 exact⟨m,hn,fun h' hs'=>⟨.ref _,H',Z8 I3 f3 J' hs',rfl,q⟩⟩
end
section
variable {K:PySem.W.Frag} {a D:Addr} {xs:List V} {g:TG} {tt:TT} {te:TE} {fin:List V→Hp→Prop} {σ:St} {H:Hp}
def YG (D:Addr) (g:TG) (tt:TT) (te:TE) (x:V) (ys:List V) (N:List V→St→Hp→Prop) (σ:St) (H:Hp):Prop :=
 g x σ H fun σ1 H1=>tt σ1 H1 fun b H2=>if b=true then te σ1 H2 fun y H3=>H3 D=some (.lst ys)∧ys.length<sizeLine∧N (ys++[y]) σ1 (upd H3 D (.lst (ys++[y]))) else N ys σ1 H2
end
def R6 (z:Str):It:=⟨fun i _=>i<z.cps.size,fun i H x H'=>H'=H∧∃ c,z.cps[i]? = some c∧x = .str ⟨#[c]⟩,fun i _=>z.cps.size≤i⟩
theorem Jc (z:Str):strIterType z = "str_ascii_iterator"∨strIterType z = "str_iterator":=by
 unfold strIterType
 split
 ·exact .inl rfl
 ·exact .inr rfl
theorem pZ {P:Program} {w:World} {K:PySem.W.Frag} {tg:Expr} (z:Str) (t:Tok) (it:Addr):Vi P w K tg (R6 z) [it] it (fun i h=>h.IsStrIter it (strIterType z) z t i) where
 mem:=by simp
 obj:=fun i h st b hb=>by
  have e:b=it:=by simpa using hb
  subst e
  obtain⟨o,e,c,d⟩:=st
  exact⟨o,e,fun v q=>by rw[d] at q;cases q⟩
 keep:=fun i h h' st k=>by
  obtain⟨o,e,r⟩:=st
  exact⟨o,k it (by simp) o e,r⟩
 item:=by
  intro X hP hw hK hc i pins s σ H E I hf st hg
  subst hP hw hK
  have hg':i<z.cps.size:=hg
  have hx:z.cps[i]? = some z.cps[i]:=CO hg'
  obtain⟨f0,f1,f2,f3,f4,f5⟩:=hf it (by simp)
  have fin:∀ h':Heap,h'.IsStrIter it (strIterType z) z t (i+1)→Heap.SameBut it s.heap h'→∃ u,some (Value.str ⟨#[z.cps[i]]⟩ s.toks)=some u ∧
    wpAny (model X.prog X.w) X.A (letOwnedTupleGo tg (.ref it) u) (fun _ s2=>∃ x H',zH X pins σ H' s2∧qp x u∧(R6 z).yld i H x H'∧s2.heap.IsStrIter it (strIterType z) z t (i+1)∧∀ b∈[it],H' b=none) E { s with heap:=h',toks:=s.toks+1 }:=fun h' st' sb=>by
   have I1:zH X pins σ H { s with heap:=h',toks:=s.toks+1 }:=I.turned (t':=s.toks+1) (fun b o hb e=>(sb.2 b hb).trans e) f0 f1 f3 f4 f5
   obtain⟨o,e,c,d⟩:=id st'
   refine⟨_,rfl,Y2 (s:={ s with heap:=h',toks:=s.toks+1 }) e c d ?_ ⟨.str ⟨#[z.cps[i]]⟩,H,I1,⟨_,rfl⟩,⟨rfl,_,hx,rfl⟩,st',fun b hb=>(hf b hb).1⟩⟩
   rcases Jc z with q | q <;> rw[q] <;> decide
  rcases Jc z with q | q
  ·rw[q] at st fin ⊢
   exact wpAny_pyNext_ascii_item st hx fun h' st' sb=>fin h' st' sb
  ·rw[q] at st fin ⊢
   exact wpAny_pyNext_wide_item st hx fun h' st' sb=>fin h' st' sb
 done:=by
  intro X hP hw hK hc i pins s σ H E I hf st hg
  subst hP hw hK
  have hg':z.cps.size≤i:=hg
  have hx:z.cps[i]? = none:=Array.getElem?_eq_none hg'
  obtain⟨f0,f1,f2,f3,f4,f5⟩:=hf it (by simp)
  have fin:∀ h':Heap,Heap.ExtBut it s.heap h'→(none:Option Value)=none∧zH X pins σ H { s with heap:=h' }:=fun h' eb=>⟨rfl,I.turned (t':=s.toks) (fun b o hb e=>eb b o hb e) f0 f1 f3 f4 f5⟩
  rcases Jc z with q | q
  ·rw[q] at st
   exact wpAny_pyNext_ascii_end (I.ok.hd hc) st hx fin
  ·rw[q] at st
   exact wpAny_pyNext_wide_end (I.ok.hd hc) st hx fin
 self:=fun _ _ _ _ _ st h=>by
  rcases Jc z with q | q
  ·rw[q] at st
   exact wpAny_pyIter_striter_ascii st h
  ·rw[q] at st
   exact wpAny_pyIter_striter_wide st h
def ng (tl:TE):TI:=fun σ H R=>tl σ H fun x H1=>∃ z,x = .str z∧R (R6 z) H1
theorem OY {X:Cx} {tg l:Expr} {tl:TE} (hl:PE X l tl):PI X tg l (ng tl):=by
 intro pins s σ H R I h
 refine qS (hl pins s σ H _ I h) fun v s1 ⟨x,H1,I1,r1,q1⟩=>?_
 obtain⟨z,e,q⟩:=q1
 subst e
 obtain⟨t,rfl⟩:=r1
 refine wpAny_pyIter_strU ?_
 refine⟨s1.heap.objs.size,[s1.heap.objs.size],_,_,H1,rfl,I1.kept (t':=s1.toks) fun b o e=>bW _ e,pZ z t _,⟨_,Bd _ rfl,rfl,rfl⟩,fun b hb=>?_,q⟩
 have e:b=s1.heap.objs.size:=by simpa using hb
 subst e
 exact I1.fpOk (bK _) (I1.hok.fresh (bK _))
def bH (c:Nat):V:=.str ⟨#[c]⟩
section
variable {D:Addr} {g:TG} {tt:TT} {te:TE} {fin:List V→Hp→Prop} {σ:St} {H:Hp} {z:Str}
end
section
variable {X:Cx}
theorem XZ (x:Str) (c:Nat):(!(Builtin.Str.occurrences x ⟨#[c]⟩ 0 x.length 1).isEmpty)=x.cps.toList.contains c:=by
 rw[BN,StrLaws.found_iff,BH]
 constructor
 ·rintro ⟨i,h⟩
  exact Bv ((StrLaws.subAt_one x c i).mp h)
 ·intro h
  obtain⟨i,hi⟩:=List.getElem?_of_mem h
  exact⟨i,(StrLaws.subAt_one x c i).mpr hi⟩
theorem QS:jq X (.type "int") (fun xs H Q=>∃ z n,xs=[.str z]∧PySem.intText? z=some n∧z.length≤640∧Q (.int n) H):=by
 intro pins s σ H xs us Q I r h
 obtain⟨z,n,rfl,hn,hl,q⟩:=h
 obtain⟨u,rfl,ru⟩:=vK r
 obtain⟨t,rfl⟩:=ru
 exact PySem.W.KIN.call_text hn hl ⟨.int n,H,I.tok _,⟨_,rfl⟩,q⟩
end
open Builtin.Str (occurrences partsBetween)
theorem YO:∀ {zs:List Str} {its:List Value},z9 (zs.map V.str) its→∃ l:List (Str × Tok),l.map (·.1)=zs∧its=strValues l
 | [],_,.nil=>⟨[],rfl,rfl⟩
 | z::zs,_,.cons ⟨t,e⟩ r=>by
  obtain⟨l,e1,e2⟩:=YO r
  subst e e2
  exact⟨(z,t)::l,by rw[Br,e1],rfl⟩
theorem Y6:∀ (l:List (Str × Tok)),z9 ((l.map (·.1)).map V.str) (strValues l)
 | []=>.nil
 | p::r=>.cons ⟨p.2,rfl⟩ (Y6 r)
section
variable {X:Cx}
theorem yV:RZ X "str.join" (fun x vs H Q=>∃ sep zs a,x = .str sep∧vs=[.ref a]∧z5 X.K H a (zs.map V.str)∧JoinOk sep zs=true∧Q (.str (Txt.join sep zs)) H):=by
 intro pins s σ H x xs v us Q I rx rv h
 obtain⟨sep,zs,a,rfl,rfl,hS,hj,q⟩:=h
 obtain⟨t,rfl⟩:=rx
 obtain⟨u,rfl,ru⟩:=z9.one rv
 cases ru
 obtain⟨its,r,pl,hz⟩:=I.list hS
 obtain⟨l,e1,rfl⟩:=YO r
 exact SC.join pl.isList e1 hj fun t' k=>⟨.str _,H,I.tok k,⟨t',rfl⟩,q⟩
theorem Qb:RZ X "str.split" (fun x vs H Q=>∃ z y,x = .str z∧vs=[.str y]∧(y.length==0)=false∧z.length≤sizeLine∧(partsBetween z (occurrences z y 0 z.length (z.length+1)) y.length).length≤sizeLine∧Va H (.lst ((Txt.split z y).map V.str)) Q):=by
 intro pins s σ H x xs v us Q I rx rv h
 obtain⟨z,y,rfl,rfl,hy,h1,h2,q⟩:=h
 obtain⟨t,rfl⟩:=rx
 obtain⟨u,rfl,ru⟩:=z9.one rv
 obtain⟨tu,rfl⟩:=ru
 have fin:∀ (l:List (Str × Tok)) (k:Nat),l.map (·.1)=Txt.split z y→(Txt.split z y).length≤sizeLine→EP X pins σ Q (.ref s.heap.objs.size) { s with toks:=k,heap:=s.heap.push { cls:=.type "list",data:=.seq (strValues l).toArray } }:=fun l k e hl=>by
  refine⟨.ref _,upd H s.heap.objs.size (.lst ((Txt.split z y).map V.str)),I.laid (t':=k) (fun b o e=>bW _ e) (bK _) ⟨by rw[bM];exact hl,strValues l,0,by rw[← e];exact Y6 l,Bd _ rfl⟩,rfl,q.at (I.hok.fresh (bK _))⟩
 have one:∀ e:Txt.split z y=[z],(Txt.split z y).length≤sizeLine:=fun e=>by rw[e];exact qa rfl
 cases c1:(decide (z.length<y.length) || decide (Builtin.Str.strKind z<Builtin.Str.strKind y))
 ·cases hf:(occurrences z y 0 z.length (z.length+1)).isEmpty
  ·refine call_meets F.slot_str_split (typeIs_str _ _ _) F.entry_str_split (F.args_str_split_2 _ _) (meets_str_split_sep z y t tu c1 hy hf h1 h2) ?_
   show wants _ _ _ { s with toks:=_,heap:=s.heap.push { cls:=.type "list",data:=.seq (strsFrom s.toks (partsBetween z (occurrences z y 0 z.length (z.length+1)) y.length)).toArray } }
   rw[strsFrom_eq]
   have e:Txt.split z y=partsBetween z (occurrences z y 0 z.length (z.length+1)) y.length:=(if_neg (ne_true_of_eq_false c1)).trans (if_neg (ne_true_of_eq_false hf))
   exact fin (numbered s.toks _) _ ((numbered_texts _ _).trans e.symm) (by rw[e];exact h2)
  ·have e:Txt.split z y=[z]:=(if_neg (ne_true_of_eq_false c1)).trans (if_pos hf)
   exact call_meets F.slot_str_split (typeIs_str _ _ _) F.entry_str_split (F.args_str_split_2 _ _) (meets_str_split_not_found z y t tu c1 hy hf) (fin [(z,t)] s.toks e.symm (one e))
 ·have e:Txt.split z y=[z]:=if_pos c1
  exact call_meets F.slot_str_split (typeIs_str _ _ _) F.entry_str_split (F.args_str_split_2 _ _) (meets_str_split_cannot_occur z y t tu c1) (fin [(z,t)] s.toks e.symm (one e))
end
end L2
namespace L2
open PySem PySem.Spec PyProof.Rows
inductive Dt where
 | v (x:V)
 | l (xs:List Dt)
 | t (xs:List Dt)
inductive Is (K:PySem.W.Frag) (H:Hp):Nat→V→Dt→Prop where
 | v {n:Nat} {x:V}:jX x=true→Is K H n x (.v x)
 | l {n:Nat} {a:Addr} {xs:List V} {ds:List Dt}:z5 K H a xs→xs.length=ds.length→(∀ (j:Nat) x d,xs[j]? = some x→ds[j]? = some d→Is K H n x d)→Is K H (n+1) (.ref a) (.l ds)
 | t {n:Nat} {a:Addr} {xs:List V} {ds:List Dt}:qg K H a xs→xs.length=ds.length→(∀ (j:Nat) x d,xs[j]? = some x→ds[j]? = some d→Is K H n x d)→Is K H (n+1) (.ref a) (.t ds)
theorem Is.flat {K:PySem.W.Frag} {H:Hp} {a:Addr} {xs:List V} (h:z5 K H a xs) (f:xs.all jX=true):Is K H 1 (.ref a) (.l (xs.map Dt.v)):=by
 refine .l h (by simp) fun j x d e1 e2=>?_
 rw[bR,e1] at e2
 cases e2
 exact .v (Bp.mp f x (Bv e1))
theorem Is.flatT {K:PySem.W.Frag} {H:Hp} {a:Addr} {xs:List V} (h:qg K H a xs) (f:xs.all jX=true):Is K H 1 (.ref a) (.t (xs.map Dt.v)):=by
 refine .t h (by simp) fun j x d e1 e2=>?_
 rw[bR,e1] at e2
 cases e2
 exact .v (Bp.mp f x (Bv e1))
theorem V0 {x:V} (f:jX x=true):lu x x=true:=by
 cases x <;> simp[jX] at f <;> simp[lu]
theorem yY (n:Nat):(List.range n).all (fun _=>true)=true:=by
 rw[Bp]
 intro _ _
 rfl
section
variable {X:Cx} {pins:List (Addr × Obj)} {σ:St} {H:Hp} {s:Shared}
theorem Yl {xs:List V} {its:List Value} (r:z9 xs its) {j:Nat} (h:j<its.toArray.size):∃ x,xs[j]? = some x∧qp x its.toArray[j]:=by
 have hl:=r.length
 have hj:j<xs.length:=by rw[hl];simpa using h
 refine⟨xs[j],bO hj,?_⟩
 obtain⟨u,e1,e2⟩:=r.get (bO hj)
 have:its[j]? = some its.toArray[j]:=by simp at h ⊢
 rw[this] at e1
 cases e1
 exact e2
theorem Gu (I:zH X pins σ H s):∀ (n:Nat) (d:Dt) (x y:V) (u v:Value) (A:Around),Is X.K H n x d→Is X.K H n y d→qp x u→qp y v→A.units+n<cLine→SeqAt.EqAt A s u v true:=by
 intro n
 induction n with
 | zero =>
  intro d x y u v A hx hy ru rv hu
  cases hx with
  | v f =>
   cases hy with
   | v f' =>
    have e:=WO (A:=A) (s:=s) ru rv f f
    rw[V0 f] at e
    exact e
 | succ n ih =>
  intro d x y u v A hx hy ru rv hu
  cases hx with
  | v f =>
   cases hy with
   | v f' =>
    have e:=WO (A:=A) (s:=s) ru rv f f
    rw[V0 f] at e
    exact e
  | l h1 h2 h3 =>
   cases hy with
   | l g1 g2 g3 =>
    cases ru
    cases rv
    rename_i a xs ds b ys
    by_cases hab:a=b
    ·subst hab
     exact SeqAt.EqAt.same _
    ·obtain⟨us,r1,p1,_⟩:=I.list h1
     obtain⟨ws,r2,p2,_⟩:=I.list g1
     have e:=SeqAt.RcAt.lists (A:=A) (e:=fun _=>true) p1.isList p2.isList (by rw[bT,bT,← r1.length,← r2.length,h2,g2]) (by omega) fun j k1 k2=>by
      obtain⟨x,ex,rx⟩:=Yl r1 k1
      obtain⟨y,ey,ry⟩:=Yl r2 k2
      have hj:j<ds.length:=by
       have:=(bU.mp ex).1
       omega
      exact ih ds[j] x y _ _ A.in1 (h3 j x _ ex (bO hj)) (g3 j y _ ey (bO hj)) rx ry (by show A.units+1+n<cLine;omega)
     rw[yY] at e
     exact SeqAt.EqAt.of_refs hab e
  | t h1 h2 h3 =>
   cases hy with
   | t g1 g2 g3 =>
    cases ru
    cases rv
    rename_i a xs ds b ys
    by_cases hab:a=b
    ·subst hab
     exact SeqAt.EqAt.same _
    ·obtain⟨us,r1,p1,_⟩:=I.tuple h1
     obtain⟨ws,r2,p2,_⟩:=I.tuple g1
     have e:=SeqAt.RcAt.tuples (A:=A) (e:=fun _=>true) (show s.heap.IsTuple a us.toArray from p1) (show s.heap.IsTuple b ws.toArray from p2) (by omega) fun j k1 k2=>by
      obtain⟨x,ex,rx⟩:=Yl r1 k1
      obtain⟨y,ey,ry⟩:=Yl r2 k2
      have hj:j<ds.length:=by
       have:=(bU.mp ex).1
       omega
      exact ih ds[j] x y _ _ A.in1 (h3 j x _ ex (bO hj)) (g3 j y _ ey (bO hj)) rx ry (by show A.units+1+n<cLine;omega)
     rw[yY,ce,show (us.toArray.size==ws.toArray.size)=true by rw[beq_iff_eq,bT,bT,← r1.length,← r2.length,h2,g2]] at e
     exact SeqAt.EqAt.of_refs hab e
theorem Lm (I:zH X pins σ H s) {n:Nat} {ds:List Dt} {xs ys:List V} {us ws:List Value} {A:Around} (r1:z9 xs us) (r2:z9 ys ws) (h2:xs.length=ds.length)
  (h3:∀ (j:Nat) x d,xs[j]? = some x→ds[j]? = some d→Is X.K H n x d) (g3:∀ (j:Nat) x d,ys[j]? = some x→ds[j]? = some d→Is X.K H n x d) (hu:A.units+(n+1)<cLine) :
  ∀ j (k1:j<us.toArray.size) (k2:j<ws.toArray.size),SeqAt.EqAt A.in1 s us.toArray[j] ws.toArray[j] ((fun _=>true) j):=fun j k1 k2=>by
 obtain⟨x,ex,rx⟩:=Yl r1 k1
 obtain⟨y,ey,ry⟩:=Yl r2 k2
 have hj:j<ds.length:=by
  have:=(bU.mp ex).1
  omega
 exact Gu I n ds[j] x y _ _ A.in1 (h3 j x _ ex (bO hj)) (g3 j y _ ey (bO hj)) rx ry (by show A.units+1+n<cLine;omega)
end
section
variable {X:Cx}
def o9:Dt→Bool
 | .v _=>false
 | _=>true
def m8 (X:Cx) (neg:Bool):R2:=fun x y H Q=>∃ n d,o9 d=true∧Is X.K H n x d∧Is X.K H n y d∧X.A.units+n<cLine∧Q (.bl (!neg)) H
theorem Nu:uE X (compareOp .Eq) (m8 X false):=by
 intro pins s σ H x y v u Q I rx ry h
 obtain⟨n,d,hq,hx,hy,hu,q⟩:=h
 cases hx with
 | v f=>cases hq
 | l h1 h2 h3 =>
  cases hy with
  | l g1 g2 g3 =>
   cases rx
   cases ry
   obtain⟨us,r1,p1,_⟩:=I.list h1
   obtain⟨ws,r2,p2,_⟩:=I.list g1
   refine SeqAt.eq_listAt p1.isList p2.isList (by rw[bT,bT,← r1.length,← r2.length,h2,g2]) (by omega) (Lm I r1 r2 h2 h3 g3 hu) ?_
   rw[yY]
   exact⟨.bl true,H,I,rfl,q⟩
 | t h1 h2 h3 =>
  cases hy with
  | t g1 g2 g3 =>
   cases rx
   cases ry
   obtain⟨us,r1,p1,_⟩:=I.tuple h1
   obtain⟨ws,r2,p2,_⟩:=I.tuple g1
   refine SeqAt.eq_tupleAt (show s.heap.IsTuple _ us.toArray from p1) (show s.heap.IsTuple _ ws.toArray from p2) (by omega) (Lm I r1 r2 h2 h3 g3 hu) ?_
   rw[yY,ce,show (us.toArray.size==ws.toArray.size)=true by rw[beq_iff_eq,bT,bT,← r1.length,← r2.length,h2,g2]]
   exact⟨.bl true,H,I,rfl,q⟩
theorem nM:uE X (compareOp .NotEq) (m8 X true):=by
 intro pins s σ H x y v u Q I rx ry h
 obtain⟨n,d,hq,hx,hy,hu,q⟩:=h
 cases hx with
 | v f=>cases hq
 | l h1 h2 h3 =>
  cases hy with
  | l g1 g2 g3 =>
   cases rx
   cases ry
   obtain⟨us,r1,p1,_⟩:=I.list h1
   obtain⟨ws,r2,p2,_⟩:=I.list g1
   refine SeqAt.RcNeAt.lists (e:=fun _=>true) p1.isList p2.isList (by rw[bT,bT,← r1.length,← r2.length,h2,g2]) (by omega) (Lm I r1 r2 h2 h3 g3 hu) _ _ _ _ ?_
   rw[yY]
   exact⟨.bl false,H,I,rfl,q⟩
 | t h1 h2 h3 =>
  cases hy with
  | t g1 g2 g3 =>
   cases rx
   cases ry
   obtain⟨us,r1,p1,_⟩:=I.tuple h1
   obtain⟨ws,r2,p2,_⟩:=I.tuple g1
   refine SeqAt.RcNeAt.tuples (e:=fun _=>true) (show s.heap.IsTuple _ us.toArray from p1) (show s.heap.IsTuple _ ws.toArray from p2) (by omega) (Lm I r1 r2 h2 h3 g3 hu) _ _ _ _ ?_
   rw[yY,ce,show (us.toArray.size==ws.toArray.size)=true by rw[beq_iff_eq,bT,bT,← r1.length,← r2.length,h2,g2]]
   exact⟨.bl false,H,I,rfl,q⟩
end
end L2
set_option maxHeartbeats 1000000
namespace SG
open PySem PyProof.Rows
class Rk where
 num:Value→Int
 knd:SortKind
variable [Rk]
def K (xs:Array Keyed) (i:Nat):Int:=match xs[i]? with
 | some q=>Rk.num q.1
 | none=>0
def jO (xs:Array Keyed) (n:Nat):Prop:=∀ a b,a≤b→b<n→K xs a≤K xs b
structure jG (b₀:Array Keyed) (st:SortSt):Prop where
 perm:(arrOf st).Perm b₀
 kind:kindOf st=Rk.knd
 failed:failedOf st=none
 pend:pendingOf st = #[]
theorem jG.size {b₀:Array Keyed} {st:SortSt} (h:jG b₀ st):(arrOf st).size=b₀.size:=h.perm.size_eq
theorem jG.setArr {b₀:Array Keyed} {st:SortSt} (h:jG b₀ st) {ys:Array Keyed} (q:ys.Perm (arrOf st)):jG b₀ (PyProof.Rows.setArr st ys):=⟨q.trans h.perm,h.kind,h.failed,h.pend⟩
def LP (prog:Program) (w:World) (A:Around) (s:Shared) (b₀:Array Keyed):Prop :=
 ∀ p∈b₀.toList,∀ q∈b₀.toList,∀ (Q:Bool→Shared→Prop) (E:Value→Shared→Prop),Q (decide (Rk.num p.1<Rk.num q.1)) s→wpAny (model prog w) A (keyLt' Rk.knd p.1 q.1) Q E s
section
variable {prog:Program} {w:World} {A:Around} {E:Value→Shared→Prop} {s:Shared} {b₀:Array Keyed}
theorem jG.mem {st:SortSt} (h:jG b₀ st) {i:Nat} (hi:i<b₀.size):∃ p,(arrOf st)[i]? = some p∧p∈b₀.toList:=by
 have hi':i<(arrOf st).size:=by rw[h.size];exact hi
 exact⟨_,getElem?_pos _ i hi',(Array.perm_iff_toList_perm.mp h.perm).mem_iff.mp (by simp)⟩
theorem uV {st:SortSt} {i j:Nat} {Q:Option Bool→SortSt→Prop} (hB:jG b₀ st) (hk:LP prog w A s b₀) (hi:i<b₀.size) (hj:j<b₀.size) (h:Q (some (decide (K (arrOf st) i<K (arrOf st) j))) st):wpS (model prog w) A E s (ltAt' i j) Q st:=by
 obtain⟨p,e1,m1⟩:=hB.mem hi
 obtain⟨q,e2,m2⟩:=hB.mem hj
 have k1:K (arrOf st) i=Rk.num p.1:=by unfold K;rw[e1]
 have k2:K (arrOf st) j=Rk.num q.1:=by unfold K;rw[e2]
 rw[k1,k2] at h
 rw[ltAt'_eq];refine wpS_bind (wpS_get ?_)
 show wpS _ _ _ _ (do let u ← elem' (arrOf st) i;let v ← elem' (arrOf st) j;lt' u v) Q st
 rw[elem'_eq,elem'_eq,e1,e2]
 refine wpS_bind (wpS_pure (wpS_bind (wpS_pure (?_))))
 rw[lt'_eq];refine wpS_bind (wpS_get ?_)
 rw[hB.kind]
 refine wpS_bind (wpS_lift (wpAny_attempt (hk p m1 q m2 _ _ ⟨rfl,?_⟩)))
 exact wpS_pure h
theorem kC {st:SortSt} {a N:Nat} {Q:AscSt→SortSt→Prop} (hk:LP prog w A s b₀) (hN:N≤b₀.size) (h1:1≤a) (ha:a≤N) (hB:jG b₀ st) (hs:jO (arrOf st) a)
  (h:∀ m,a≤m→m≤N→jO (arrOf st) m→(m=N∨K (arrOf st) m<K (arrOf st) (m - 1))→Q (none,m) st):wpS (model prog w) A E s (ascLoop a N) Q st:=by
 unfold ascLoop
 refine wpS_forRange (I:=fun x c st'=>st'=st∧c=(none,x)∧jO (arrOf st) x) ?turn ?done ⟨rfl,rfl,hs⟩
 case done =>
  rintro c st' ⟨rfl,rfl,z⟩
  have e:max a N=N:=by omega
  rw[e] at z ⊢
  exact h N ha (bK _) z (.inl rfl)
 case turn =>
  rintro x c st' hx1 hx2 ⟨rfl,rfl,z⟩
  dsimp only
  refine wpS_bind (uV hB hk (by omega) (by omega) ?_)
  by_cases lt:K (arrOf st') x<K (arrOf st') (x - 1)
  ·simp only[lt,decide_true,if_true];exact wpS_pure (h x hx1 (by omega) z (.inr lt))
  ·simp only[lt,decide_false,BS,if_false]
   refine wpS_pure ⟨rfl,rfl,fun i j hij hj=>?_⟩
   by_cases c1:j<x
   ·exact z i j hij c1
   ·obtain rfl:j=x:=by omega
    by_cases c2:i=j
    ·rw[c2];exact BC _
    ·have:=z i (j - 1) (by omega) (by omega)
     omega
end
end SG
namespace SG
open PySem PyProof.Rows
variable [Rk]
abbrev ky (p:Keyed):Int:=Rk.num p.1
def put (x:Keyed) (l:List Keyed):List Keyed:=l.takeWhile (fun y=>decide (ky y≤ky x))++x::l.dropWhile (fun y=>decide (ky y≤ky x))
def y7 (l:List Keyed):List Keyed:=l.foldl (fun acc x=>put x acc) []
theorem Zt (l:List Keyed) (x:Keyed):y7 (l++[x])=put x (y7 l):=by
 unfold y7
 rw[List.foldl_append]
 rfl
theorem o3 {p:Keyed→Bool}:∀ {a b:List Keyed},(∀ y∈a,p y=true)→(∀ y∈b,p y=false)→(a++b).takeWhile p=a∧(a++b).dropWhile p=b
 | [],[],_,_=>⟨rfl,rfl⟩
 | [],y::b,_,h=>by
  have:=h y Bb
  simp[List.takeWhile,List.dropWhile,this]
 | x::a,b,h1,h2=>by
  have hx:=h1 x Bb
  obtain⟨e1,e2⟩:=o3 (fun y hy=>h1 y (Bk _ hy)) h2
  simp only[Ce,List.takeWhile,List.dropWhile,hx]
  exact⟨by rw[e1],e2⟩
theorem Ws {x:Keyed} {a b:List Keyed} (h1:∀ y∈a,ky y≤ky x) (h2:∀ y∈b,ky x<ky y):put x (a++b)=a++x::b:=by
 unfold put
 obtain⟨e1,e2⟩:=o3 (p:=fun y=>decide (ky y≤ky x)) (a:=a) (b:=b) (fun y hy=>decide_eq_true (h1 y hy)) (fun y hy=>decide_eq_false (by have:=h2 y hy;omega))
 rw[e1,e2]
theorem Ul (x:Keyed) (l:List Keyed):(put x l).Perm (l++[x]):=by
 unfold put
 refine List.perm_middle.trans ?_
 rw[CA]
 exact (CP x l).symm
theorem UP (l:List Keyed):(y7 l).Perm l:=by
 have:∀ (l acc:List Keyed),(l.foldl (fun acc x=>put x acc) acc).Perm (acc++l):=by
  intro l
  induction l with
  | nil=>intro acc;simp
  | cons x r ih =>
   intro acc
   rw[cf]
   refine (ih _).trans ?_
   have:=(Ul x acc).append_right r
   simpa using this
 have q:=this l []
 rw[cg] at q
 exact q
theorem mz {l:List Keyed} {y:Keyed}:y∈y7 l↔y∈l:=(UP l).mem_iff
theorem y6 (l:List Keyed):(y7 l).length=l.length:=(UP l).length_eq
abbrev Up (l:List Keyed):Prop:=l.Pairwise fun a b=>ky a≤ky b
theorem Mv {x:Keyed} {l:List Keyed} (h:Up l):Up (put x l):=by
 have:∀ l:List Keyed,Up l→Up (put x l):=by
  intro l
  induction l with
  | nil=>intro _;exact Cf _ _
  | cons y r ih =>
   intro h
   obtain⟨h1,h2⟩:=ci.mp h
   by_cases hy:ky y≤ky x
   ·have e:put x (y::r)=y::put x r:=by
     unfold put
     simp[List.takeWhile,List.dropWhile,hy]
    rw[e]
    refine ci.mpr ⟨fun z hz=>?_,ih h2⟩
    rcases Bt.mp ((Ul x r).mem_iff.mp hz) with q | q
    ·exact h1 z q
    ·rw[Bf.mp q];exact hy
   ·have e:put x (y::r)=x::y::r:=by
     unfold put
     simp[List.takeWhile,List.dropWhile,hy]
    rw[e]
    refine ci.mpr ⟨fun z hz=>?_,h⟩
    rcases bN.mp hz with rfl | q
    ·omega
    ·have:=h1 z q;omega
 exact this l h
theorem nX (l:List Keyed):Up (y7 l):=by
 have:∀ (l acc:List Keyed),Up acc→Up (l.foldl (fun acc x=>put x acc) acc):=by
  intro l
  induction l with
  | nil=>intro acc h;exact h
  | cons x r ih=>intro acc h;exact ih _ (Mv h)
 exact this l [] List.Pairwise.nil
theorem VU (xs:List Keyed):∀ (n:Nat) (b:List Keyed),b.length=n→Up (y7 xs++b)→y7 (xs++b)=y7 xs++b:=by
 intro n
 induction n with
 | zero =>
  intro b hb _
  rw[cj.mp hb]
  simp
 | succ n ih =>
  intro b hb h
  obtain⟨c,z,rfl⟩:∃ c z,b=c++[z]:=⟨b.dropLast,b.getLast (by intro e;rw[e] at hb;cases hb),(cQ _).symm⟩
  rw[bP] at hb
  have h':Up ((y7 xs++c)++[z]):=by rw[By];exact h
  obtain⟨u1,_,u3⟩:=cT.mp h'
  rw[← By,Zt,ih c (by simp at hb;exact hb) u1]
  have:=Ws (x:=z) (a:=y7 xs++c) (b:=[]) (fun y hy=>u3 y hy z (Bf.mpr rfl)) (fun y hy=>absurd hy (by simp))
  rw[Bs] at this
  rw[this,By]
theorem pV {l:List Keyed} (h:Up l):y7 l=l:=by
 have:=VU [] l.length l rfl (by simpa [y7] using h)
 simpa [y7] using this
theorem YI {xs:List Keyed} {v:Int} (h1:∀ y∈xs,v<ky y):∀ (n:Nat) (b:List Keyed),b.length=n→(∀ y∈b,ky y=v)→y7 (xs++b)=b++y7 xs:=by
 intro n
 induction n with
 | zero =>
  intro b hb _
  rw[cj.mp hb]
  simp
 | succ n ih =>
  intro b hb h
  obtain⟨c,z,rfl⟩:∃ c z,b=c++[z]:=⟨b.dropLast,b.getLast (by intro e;rw[e] at hb;cases hb),(cQ _).symm⟩
  rw[bP] at hb
  have hz:ky z=v:=h z (by simp)
  rw[← By,Zt,ih c (by simp at hb;exact hb) fun y hy=>h y (by simp[hy])]
  have:=Ws (x:=z) (a:=c) (b:=y7 xs) (fun y hy=>by rw[h y (by simp[hy]),hz];exact BC _) (fun y hy=>by rw[hz];exact h1 y (mz.mp hy))
  rw[this]
  simp
theorem XW {α:Type} {xs:Array α} {l:List α} (h:xs.toList=l) (i:Nat):xs[i]? = l[i]?:=by rw[← h];simp
theorem V6 {xs:Array Keyed} {p q r:List Keyed} {x:Keyed} (h:xs.toList=p++(q++x::r)):(bubble xs (p.length+q.length) q.length).toList=p++(x::(q++r)):=by
 have hs:p.length+q.length<xs.size:=by
  have:xs.size=(p++(q++x::r)).length:=by rw[← h];simp
  rw[this];simp only[bP,Bi];omega
 refine ck fun i=>?_
 have e:=getElem?_bubble hs q.length (by omega) i
 rw[Array.getElem?_toList,e,XW h,XW h,XW h,show p.length+q.length - q.length=p.length by omega]
 by_cases h1:i=p.length
 ·have e1:(p++(q++x::r))[p.length+q.length]? = some x:=by
   rw[bY (by omega),bY (by omega)]
   simp
  have e2:(p++(x::(q++r)))[i]? = some x:=by
   rw[bY (by omega),h1]
   simp
  rw[if_pos h1,e1,e2]
 ·rw[if_neg h1]
  by_cases h2:p.length<i∧i≤p.length+q.length
  ·obtain⟨j,hj⟩:∃ j,i=p.length+(j+1):=⟨i - p.length - 1,by omega⟩
   have e1:(p++(q++x::r))[i - 1]? = q[j]?:=by
    rw[bY (by omega),Bl (by omega)]
    congr 1
    omega
   have e2:(p++(x::(q++r)))[i]? = q[j]?:=by
    rw[bY (by omega),show i - p.length=j+1 by omega,Cg,Bl (by omega)]
   rw[if_pos h2,e1,e2]
  ·rw[if_neg h2]
   by_cases h3:i<p.length
   ·rw[Bl h3,Bl h3]
   ·obtain⟨j,hj⟩:∃ j,i=p.length+q.length+(j+1):=⟨i - p.length - q.length - 1,by omega⟩
    have e1:(p++(q++x::r))[i]? = r[j]?:=by
     rw[bY (by omega),bY (by omega),show i - p.length - q.length=j+1 by omega,Cg]
    have e2:(p++(x::(q++r)))[i]? = r[j]?:=by
     rw[bY (by omega),show i - p.length=(q.length+j)+1 by omega,Cg,bY (by omega)]
     congr 1
     omega
    rw[e1,e2]
theorem vU {xs:Array Keyed} {p m r:List Keyed} (h:xs.toList=p++(m++r)) {i j:Nat} (hi:i=p.length) (hj:j=p.length+m.length):(mirror xs i j ((j - i)/2)).toList=p++(m.reverse++r):=by
 subst hi hj
 have hs:p.length+m.length≤xs.size:=by
  have:xs.size=(p++(m++r)).length:=by rw[← h];simp
  rw[this];simp only[bP];omega
 refine ck fun k=>?_
 have e:=getElem?_mirror_all (i:=p.length) hs k
 rw[Array.getElem?_toList,e,XW h,XW h]
 by_cases h1:p.length≤k∧k<p.length+m.length
 ·obtain⟨n,hn⟩:∃ n,k=p.length+n:=⟨k - p.length,by omega⟩
  have e1:(p++(m++r))[p.length+(p.length+m.length) - 1 - k]? = m[m.length - 1 - n]?:=by
   rw[bY (by omega),Bl (by omega)]
   congr 1
   omega
  have e2:(p++(m.reverse++r))[k]? = m[m.length - 1 - n]?:=by
   rw[bY (by omega),Bl (by rw[BB];omega),List.getElem?_reverse (by omega)]
   congr 1
   omega
  rw[if_pos h1,e1,e2]
 ·rw[if_neg h1]
  by_cases h2:k<p.length
  ·rw[Bl h2,Bl h2]
  ·have e1:(p++(m++r))[k]? = r[k - p.length - m.length]?:=by
    rw[bY (by omega),bY (by omega)]
   have e2:(p++(m.reverse++r))[k]? = r[k - p.length - m.length]?:=by
    rw[bY (by omega),bY (by rw[BB];omega),BB]
   rw[e1,e2]
theorem QL {xs:Array Keyed} {i:Nat} {p:Keyed} (h:xs[i]? = some p):K xs i=ky p:=by
 unfold K
 rw[h]
theorem Mn {xs:Array Keyed} {l r:List Keyed} (h:xs.toList=l++r) (hs:jO xs l.length):Up l:=by
 refine cm.mpr fun i j hi hj hij=>?_
 have e1:xs[i]? = some l[i]:=by rw[XW h,Bl hi];exact bO hi
 have e2:xs[j]? = some l[j]:=by rw[XW h,Bl hj];exact bO hj
 have:=hs i j (cx hij) hj
 rw[QL e1,QL e2] at this
 exact this
theorem NQ {xs:Array Keyed} {l r:List Keyed} (h:xs.toList=l++r) (hu:Up l):jO xs l.length:=by
 intro i j hij hj
 have hi:i<l.length:=by omega
 have e1:xs[i]? = some l[i]:=by rw[XW h,Bl hi];exact bO hi
 have e2:xs[j]? = some l[j]:=by rw[XW h,Bl hj];exact bO hj
 rw[QL e1,QL e2]
 by_cases q:i=j
 ·subst q;exact BC _
 ·exact cm.mp hu i j hi hj (by omega)
end SG
namespace SG
open PySem PyProof.Rows
variable [Rk]
section
variable {prog:Program} {w:World} {A:Around} {E:Value→Shared→Prop} {s:Shared} {b₀:Array Keyed}
structure kD (b₀:Array Keyed) (st:SortSt) (n:Nat):Prop where
 base:jG b₀ st
 list:(arrOf st).toList=y7 (b₀.toList.take n)++b₀.toList.drop n
theorem kb (b₀:Array Keyed):b₀.toList.length=b₀.size:=by simp
theorem kD.len {st:SortSt} {n:Nat} (g:kD b₀ st n) (hn:n≤b₀.size):(y7 (b₀.toList.take n)).length=n:=by
 rw[y6,Bh,kb]
 omega
theorem kD.up {st:SortSt} {n:Nat} (g:kD b₀ st n) (hn:n≤b₀.size):jO (arrOf st) n:=by
 have:=NQ g.list (nX _)
 rw[g.len hn] at this
 exact this
theorem ww {k:Nat} (hk:k<b₀.size):b₀.toList.drop k=b₀[k]::b₀.toList.drop (k+1):=by
 rw[CQ (by rw[kb];exact hk)]
 simp
theorem Jg {k:Nat} (hk:k<b₀.size):b₀.toList.take (k+1)=b₀.toList.take k++[b₀[k]]:=by
 rw[List.take_succ,bO (by rw[kb];exact hk)]
 simp
theorem kD.next {st:SortSt} {k:Nat} (g:kD b₀ st k) (hk:k<b₀.size):(arrOf st)[k]? = some b₀[k]:=by
 rw[XW g.list,bY (by rw[g.len (by omega)];exact bK _),g.len (by omega),ww hk]
 simp
theorem kD.atI {st:SortSt} {n i:Nat} (g:kD b₀ st n) (hn:n≤b₀.size) (hi:i<n):∃ y,(y7 (b₀.toList.take n))[i]? = some y∧K (arrOf st) i=ky y:=by
 have hl:=g.len hn
 have e:=bO (l:=y7 (b₀.toList.take n)) (i:=i) (by rw[hl];exact hi)
 exact⟨_,e,QL (by rw[XW g.list,Bl (by rw[hl];exact hi)];exact e)⟩
theorem kD.insert {st:SortSt} {k c:Nat} (g:kD b₀ st k) (hk:k<b₀.size) (hc:c≤k) (lo:∀ i,i<c→K (arrOf st) i≤K (arrOf st) k) (hi:∀ i,c≤i→i<k→K (arrOf st) k<K (arrOf st) i) :
  kD b₀ (setArr st (bubble (arrOf st) k (k - c))) (k+1):=by
 have hl:=g.len (by omega:k≤b₀.size)
 have ex:K (arrOf st) k=ky b₀[k]:=QL (g.next hk)
 have e0:y7 (b₀.toList.take k)=(y7 (b₀.toList.take k)).take c++(y7 (b₀.toList.take k)).drop c:=(cY _ _).symm
 have lp:((y7 (b₀.toList.take k)).take c).length=c:=by rw[Bh,hl];omega
 have lq:((y7 (b₀.toList.take k)).drop c).length=k - c:=by rw[BZ,hl]
 have li:(arrOf st).toList=(y7 (b₀.toList.take k)).take c++((y7 (b₀.toList.take k)).drop c++b₀[k]::b₀.toList.drop (k+1)):=by
  rw[g.list,ww hk,← By,← e0]
 refine⟨g.base.setArr (bubble_perm _ _ _),?_⟩
 have mv:=V6 li
 rw[lp,lq,show c+(k - c)=k by omega] at mv
 show (bubble (arrOf st) k (k - c)).toList=_
 rw[mv,Jg hk,Zt]
 have pa:=Ws (x:=b₀[k]) (a:=(y7 (b₀.toList.take k)).take c) (b:=(y7 (b₀.toList.take k)).drop c) (fun y hy=>?_) (fun y hy=>?_)
 ·rw[← e0] at pa
  rw[pa]
  simp
 ·obtain⟨i,hi',e⟩:=CB.mp hy
  rw[lp] at hi'
  obtain⟨z,ez,kz⟩:=g.atI (by omega) (by omega:i<k)
  have:z=y:=by
   rw[List.getElem_take] at e
   rw[bO (by rw[hl];omega)] at ez
   rw[← e]
   exact (Option.some.inj ez).symm
  have q:=lo i hi'
  rw[kz,ex,this] at q
  exact q
 ·obtain⟨i,hi',e⟩:=CB.mp hy
  rw[lq] at hi'
  obtain⟨z,ez,kz⟩:=g.atI (by omega) (by omega:c+i<k)
  have:z=y:=by
   rw[List.getElem_drop] at e
   rw[bO (by rw[hl];omega)] at ez
   rw[← e]
   exact (Option.some.inj ez).symm
  have q:=hi (c+i) (by omega) (by omega)
  rw[kz,ex,this] at q
  exact q
theorem lz {st:SortSt} {n m:Nat} {Q:Bool→SortSt→Prop} (hk:LP prog w A s b₀) (hn:n≤b₀.size) (hm:m≤n) (hm1:1≤m) (g:kD b₀ st m) (fin:∀ st',kD b₀ st' n→Q true st') :
  wpS (model prog w) A E s (binarySort' 0 n m) Q st:=by
 rw[binarySort'_eq]
 simp only[BV]
 refine wpS_bind (wpS_mono (wpS_forRange (I:=fun k c st'=>c=(none,())∧kD b₀ st' k) (Q:=fun c st'=>c=(none,())∧kD b₀ st' n) ?turn ?done ?begin) ?after)
 case after =>
  rintro _ st' ⟨rfl,g'⟩
  exact wpS_pure (fin st' g')
 case begin =>
  rw[show max m 1=m by omega]
  exact⟨rfl,g⟩
 case done =>
  rintro c st' ⟨hc,g'⟩
  rw[show max (max m 1) n=n by omega] at g'
  exact⟨hc,g'⟩
 case turn =>
  rintro k _ st' lo hi ⟨rfl,g'⟩
  have kz:k<b₀.size:=by omega
  have srtd:=g'.up (by omega:k≤b₀.size)
  refine wpS_bind (wpS_mono (wpS_forRange
   (I:=fun x c st2=>st2=st'∧∃ l r,c=(none,l,r)∧(l≤r∧r≤k∧r - l≤k - x)∧(∀ i,i<l→K (arrOf st') i≤K (arrOf st') k)∧∀ i,r≤i→i<k→K (arrOf st') k<K (arrOf st') i)
   (Q:=fun c st2=>st2=st'∧∃ l r,c=(none,l,r)∧l≤k∧(∀ i,i<l→K (arrOf st') i≤K (arrOf st') k)∧∀ i,l≤i→i<k→K (arrOf st') k<K (arrOf st') i) ?t2 ?d2 ?b2) ?a2)
  case b2=>exact⟨rfl,0,k,rfl,⟨by omega,by omega,by omega⟩,fun i hi=>absurd hi (by omega),fun i h1 h2=>absurd h2 (by omega)⟩
  case d2 =>
   rintro c st2 ⟨rfl,l,r,rfl,⟨q1,q2,q3⟩,q4,q5⟩
   obtain rfl:l=r:=by omega
   exact⟨rfl,l,l,rfl,q2,q4,q5⟩
  case t2 =>
   rintro x c st2 _ _ ⟨rfl,l,r,rfl,⟨q1,q2,q3⟩,q4,q5⟩
   dsimp only
   by_cases end':l ≥ r
   ·rw[if_pos end']
    obtain rfl:l=r:=by omega
    exact wpS_pure ⟨rfl,l,l,rfl,q2,q4,q5⟩
   rw[if_neg end']
   refine wpS_bind (uV g'.base hk kz (by omega) ?_)
   by_cases less:K (arrOf st2) k<K (arrOf st2) ((l+r)/2)
   ·rw[decide_eq_true less]
    simp only[if_true]
    exact wpS_pure ⟨rfl,l,(l+r)/2,rfl,⟨by omega,by omega,by omega⟩,q4,fun i h1 h2=>Int.lt_of_lt_of_le less (srtd _ _ h1 h2)⟩
   ·rw[decide_eq_false less]
    simp only[BS,if_false]
    refine wpS_pure ⟨rfl,(l+r)/2+1,r,rfl,⟨by omega,by omega,by omega⟩,fun i h1=>?_,q5⟩
    have:=srtd i ((l+r)/2) (by omega) (by omega)
    omega
  case a2 =>
   rintro c st2 ⟨rfl,l,r,rfl,q1,q2,q3⟩
   show wpS _ _ _ _ (do moveDown' k l;pure (ForInStep.yield (none,()))) _ _
   rw[moveDown'_eq]
   exact wpS_bind (wpS_modify (wpS_pure ⟨rfl,g'.insert kz q1 q2 q3⟩))
end
end SG
namespace SG
open PySem PyProof.Rows
variable [Rk]
section
variable {prog:Program} {w:World} {A:Around} {E:Value→Shared→Prop} {s:Shared} {b₀:Array Keyed}
theorem kD.on {st:SortSt} {n m:Nat} (g:kD b₀ st n) (h1:n≤m) (h2:m≤b₀.size) (hs:jO (arrOf st) m):kD b₀ st m:=by
 have et:b₀.toList.take m=b₀.toList.take n++(b₀.toList.drop n).take (m - n):=by
  have:=List.take_add (l:=b₀.toList) (i:=n) (j:=m - n)
  rwa [show n+(m - n)=m by omega] at this
 have ed:b₀.toList.drop n=(b₀.toList.drop n).take (m - n)++b₀.toList.drop m:=by
  have:=(cY (m - n) (b₀.toList.drop n)).symm
  rwa [CC,show n+(m - n)=m by omega] at this
 have li:(arrOf st).toList=(y7 (b₀.toList.take n)++(b₀.toList.drop n).take (m - n))++b₀.toList.drop m:=by
  rw[g.list,By,← ed]
 have ln:(y7 (b₀.toList.take n)++(b₀.toList.drop n).take (m - n)).length=m:=by
  rw[bP,g.len (by omega),Bh,BZ,kb]
  omega
 refine⟨g.base,?_⟩
 rw[et,VU _ _ _ rfl (Mn li (by rw[ln];exact hs))]
 exact li
theorem Xn {st:SortSt} {n N:Nat} {Q:Option Nat→SortSt→Prop} (hk:LP prog w A s b₀) (hN:N≤b₀.size) (h1:1≤n) (hn:n≤N) (hB:jG b₀ st)
  (li:(arrOf st).toList=(y7 (b₀.toList.take n)).reverse++b₀.toList.drop n) (fin:∀ m st',kD b₀ st' m→1≤m→m≤N→Q (some m) st'):wpS (model prog w) A E s (tail3 n N) Q st:=by
 unfold tail3
 have ln:(y7 (b₀.toList.take n)).length=n:=by rw[y6,Bh,kb];omega
 refine wpS_bind (wpS_reverse ?_)
 have g:kD b₀ (setArr st (mirror (arrOf st) 0 n ((n - 0)/2))) n:=by
  refine⟨hB.setArr (mirror_perm _ _ _ _),?_⟩
  have e:=vU (xs:=arrOf st) (p:=[]) (m:=(y7 (b₀.toList.take n)).reverse) (r:=b₀.toList.drop n) (i:=0) (j:=n) (by rw[cg];exact li) rfl (by rw[BB,ln];simp)
  rw[List.reverse_reverse,cg] at e
  exact e
 refine wpS_bind (kC hk hN h1 hn g.base (g.up (by omega)) fun m a1 a2 a3 _=>?_)
 exact wpS_pure (fin m _ (g.on a1 (by omega) a3) (by omega) a2)
structure u4 (b₀:Array Keyed) (st:SortSt) (x q:Nat) (xs b:List Keyed) (v:Int):Prop where
 base:jG b₀ st
 cut:b₀.toList.take x=xs++b
 list:(arrOf st).toList=(y7 xs).reverse++(b++b₀.toList.drop x)
 len:b.length=q+1
 same:∀ y∈b,ky y=v
 less:∀ y∈xs,v<ky y
theorem u4.size {st:SortSt} {x q:Nat} {xs b:List Keyed} {v:Int} (f:u4 b₀ st x q xs b v) (hx:x≤b₀.size):xs.length+(q+1)=x:=by
 have:=congrArg List.length f.cut
 rw[Bh,kb,bP,f.len] at this
 omega
theorem u4.next {st:SortSt} {x q:Nat} {xs b:List Keyed} {v:Int} (f:u4 b₀ st x q xs b v) (hx:x<b₀.size):K (arrOf st) x=ky b₀[x]:=by
 have sz:=f.size (by omega)
 refine QL ?_
 rw[XW f.list,bY (by rw[BB,y6];omega),bY (by rw[BB,y6,f.len];omega),ww hx,BB,y6,f.len,show x - xs.length - (q+1)=0 by omega]
 rfl
theorem u4.last {st:SortSt} {x q:Nat} {xs b:List Keyed} {v:Int} (f:u4 b₀ st x q xs b v) (hx:x≤b₀.size):K (arrOf st) (x - 1)=v:=by
 have sz:=f.size hx
 have hq:q<b.length:=by rw[f.len];omega
 have e:(arrOf st)[x - 1]? = some b[q]:=by
  rw[XW f.list,bY (by rw[BB,y6];omega),Bl (by rw[BB,y6,f.len];omega),BB,y6,show x - 1 - xs.length=q by omega]
  exact bO hq
 rw[QL e]
 exact f.same _ (B7 hq)
theorem u4.turned {st:SortSt} {x q:Nat} {xs b:List Keyed} {v:Int} (f:u4 b₀ st x q xs b v) (hx:x≤b₀.size):(mirror (arrOf st) (x - (q+1)) x ((x - (x - (q+1)))/2)).toList=(y7 (b₀.toList.take x)).reverse++b₀.toList.drop x:=by
 have sz:=f.size hx
 have e:=vU (xs:=arrOf st) (p:=(y7 xs).reverse) (m:=b) (r:=b₀.toList.drop x) (i:=x - (q+1)) (j:=x) f.list (by rw[BB,y6];omega) (by rw[BB,y6,f.len];omega)
 rw[e,f.cut,YI f.less _ _ rfl f.same,List.reverse_append,By]
theorem u4.still {st:SortSt} {x:Nat} {xs b:List Keyed} {v:Int} (f:u4 b₀ st x 0 xs b v):(arrOf st).toList=(y7 (b₀.toList.take x)).reverse++b₀.toList.drop x:=by
 obtain⟨y,hy⟩:∃ y,b=[y]:=CS.mp f.len
 rw[f.list,f.cut,YI f.less _ _ rfl f.same,List.reverse_append,By,hy]
 rfl
theorem JU {st:SortSt} {x:Nat} (hB:jG b₀ st) (hx:x<b₀.size) (li:(arrOf st).toList=(y7 (b₀.toList.take x)).reverse++b₀.toList.drop x) (hl:∀ y∈b₀.toList.take x,ky b₀[x]<ky y) :
  u4 b₀ st (x+1) 0 (b₀.toList.take x) [b₀[x]] (ky b₀[x]):=by
 refine⟨hB,Jg hx,?_,rfl,fun y hy=>by rw[Bf.mp hy],hl⟩
 rw[li,ww hx]
 rfl
theorem gg {st:SortSt} {n N:Nat} {Q:DescSt→SortSt→Prop} (hk:LP prog w A s b₀) (hN:N≤b₀.size) (h1:1≤n) (hn:n≤N) {q0:Nat} {xs0 c0:List Keyed} {v0:Int} (hq0:q0=0) (f0:u4 b₀ st n q0 xs0 c0 v0)
  (fin:∀ m q st' xs b v,u4 b₀ st' m q xs b v→n≤m→m≤N→Q (none,m,q) st'):wpS (model prog w) A E s (descLoop n N) Q st:=by
 subst hq0
 unfold descLoop
 refine wpS_forRange (I:=fun x c st'=>∃ q xs b v,c=(none,x,q)∧u4 b₀ st' x q xs b v) ?turn ?done ⟨0,xs0,c0,v0,rfl,f0⟩
 case done =>
  rintro c st' ⟨q,xs,b,v,rfl,f⟩
  rw[show max n N=N by omega] at f ⊢
  exact fin N q st' xs b v f hn (bK _)
 case turn =>
  rintro x c st' lo hi ⟨q,xs,b,v,rfl,f⟩
  dsimp only
  have hx:x<b₀.size:=by omega
  have kx:=f.next hx
  have kl:=f.last (by omega)
  refine wpS_bind (uV f.base hk (by omega) (by omega) ?_)
  by_cases less:K (arrOf st') x<K (arrOf st') (x - 1)
  ·rw[decide_eq_true less]
   simp only[if_true]
   have hl:∀ y∈b₀.toList.take x,ky b₀[x]<ky y:=fun y hy=>by
    rw[kx,kl] at less
    rw[f.cut] at hy
    rcases Bt.mp hy with z | z
    ·have:=f.less y z;omega
    ·rw[f.same y z];exact less
   by_cases hq:q > 0
   ·rw[if_pos hq]
    exact wpS_bind (wpS_reverse (wpS_pure ⟨0,_,_,_,rfl,JU (f.base.setArr (mirror_perm _ _ _ _)) hx (f.turned (by omega)) hl⟩))
   ·rw[if_neg hq]
    obtain rfl:q=0:=by omega
    exact wpS_pure ⟨0,_,_,_,rfl,JU f.base hx f.still hl⟩
  ·rw[decide_eq_false less]
   simp only[BS,if_false]
   refine wpS_bind (uV f.base hk (by omega) (by omega) ?_)
   by_cases more:K (arrOf st') (x - 1)<K (arrOf st') x
   ·rw[decide_eq_true more]
    simp only[if_true]
    exact wpS_pure (fin x q st' xs b v f lo (by omega))
   ·rw[decide_eq_false more]
    simp only[BS,if_false]
    have eq:ky b₀[x]=v:=by rw[kx,kl] at less more;omega
    refine wpS_pure ⟨q+1,xs,b++[b₀[x]],v,rfl,f.base,?_,?_,by rw[bP,f.len];rfl,fun y hy=>?_,f.less⟩
    ·rw[Jg hx,f.cut,By]
    ·rw[f.list,ww hx,By]
     rfl
    ·rcases Bt.mp hy with z | z
     ·exact f.same y z
     ·rw[Bf.mp z];exact eq
theorem Yz {st:SortSt} {n N:Nat} {Q:Option Nat→SortSt→Prop} (hk:LP prog w A s b₀) (hN:N≤b₀.size) (hn:n+1≤N) (hB:jG b₀ st) (li:(arrOf st).toList=(y7 (b₀.toList.take n)).reverse++b₀.toList.drop n)
  (hl:∀ (h:n<b₀.size),∀ y∈b₀.toList.take n,ky b₀[n]<ky y) (fin:∀ m st',kD b₀ st' m→1≤m→m≤N→Q (some m) st'):wpS (model prog w) A E s (descPart n N) Q st:=by
 unfold descPart
 refine wpS_bind (wpS_lift (wpAny_rule ⟨rfl,?_⟩))
 have hx:n<b₀.size:=by omega
 refine wpS_bind (gg hk hN (by omega) hn rfl (JU hB hx li (hl hx)) fun m q st' xs b v f a1 a2=>?_)
 dsimp only
 by_cases hq:q > 0
 ·rw[if_pos hq]
  exact wpS_bind (wpS_reverse (Xn hk hN (by omega) a2 (f.base.setArr (mirror_perm _ _ _ _)) (f.turned (by omega)) fin))
 ·rw[if_neg hq]
  obtain rfl:q=0:=by omega
  exact Xn hk hN (by omega) a2 f.base f.still fin
theorem oz {st:SortSt} {N:Nat} {Q:Option Nat→SortSt→Prop} (hk:LP prog w A s b₀) (hN:N≤b₀.size) (h1:1≤N) (hB:jG b₀ st) (h0:(arrOf st).toList=b₀.toList)
  (fin:∀ m st',kD b₀ st' m→1≤m→m≤N→Q (some m) st'):wpS (model prog w) A E s (countRun' 0 N) Q st:=by
 rw[countRun0_eq]
 have g0:kD b₀ st 0:=⟨hB,by rw[h0];rfl⟩
 refine wpS_bind (kC hk hN (bK 1) h1 hB (fun i j a b=>by
  obtain rfl:i=j:=by omega
  exact BC _) fun n a1 a2 up stop=>?_)
 dsimp only
 have gn:kD b₀ st n:=g0.on (Bo _) (by omega) up
 by_cases e:n=N
 ·rw[if_pos (by simpa using e)]
  exact wpS_pure (fin n st gn a1 a2)
 rw[if_neg (by simpa using e)]
 have dn:K (arrOf st) n<K (arrOf st) (n - 1):=stop.resolve_left e
 have hn:n<b₀.size:=by omega
 have kn:K (arrOf st) n=ky b₀[n]:=QL (gn.next hn)
 have li:(arrOf st).toList=b₀.toList.take n++b₀.toList.drop n:=by rw[h0,cY]
 have lt:(b₀.toList.take n).length=n:=by rw[Bh,kb];omega
 have id':y7 (b₀.toList.take n)=b₀.toList.take n:=pV (Mn li (by rw[lt];exact up))
 have kat:∀ y∈b₀.toList.take n,∃ i,i<n∧K (arrOf st) i=ky y:=fun y hy=>by
  obtain⟨i,hi,rfl⟩:=CB.mp hy
  rw[lt] at hi
  exact⟨i,hi,QL (by rw[XW li,Bl (by rw[lt];exact hi)];exact bO _)⟩
 by_cases two:n > 1
 ·rw[if_pos two]
  refine wpS_bind (uV hB hk (by omega) (by omega) ?_)
  by_cases rose:K (arrOf st) 0<K (arrOf st) (n - 1)
  ·rw[decide_eq_true rose]
   simp only[if_true]
   exact wpS_pure (fin n st gn a1 a2)
  ·rw[decide_eq_false rose]
   simp only[BS,if_false]
   refine wpS_bind (wpS_reverse (Yz hk hN (by omega) (hB.setArr (mirror_perm _ _ _ _)) ?_ (fun _ y hy=>?_) fin))
   ·have e:=vU (xs:=arrOf st) (p:=[]) (m:=b₀.toList.take n) (r:=b₀.toList.drop n) (i:=0) (j:=n) (by rw[cg];exact li) rfl (by rw[lt];simp)
    rw[id']
    exact e
   ·obtain⟨i,hi,ki⟩:=kat y hy
    have u1:=up 0 i (by omega) hi
    have u2:=up i (n - 1) (by omega) (by omega)
    rw[← ki,← kn]
    omega
 ·rw[if_neg two]
  obtain rfl:n=1:=by omega
  refine Yz hk hN (by omega) hB ?_ (fun _ y hy=>?_) fin
  ·rw[id']
   obtain⟨z,hz⟩:∃ z,b₀.toList.take 1=[z]:=CS.mp lt
   rw[hz]
   rw[hz] at li
   exact li
  ·obtain⟨i,hi,ki⟩:=kat y hy
   obtain rfl:i=0:=by omega
   rw[← ki,← kn]
   exact dn
theorem mS {st:SortSt} {Q:Unit→SortSt→Prop} (hk:LP prog w A s b₀) (hB:jG b₀ st) (h0:(arrOf st).toList=b₀.toList) (h2:2≤b₀.size) (h64:b₀.size<64)
  (fin:∀ st',failedOf st'=none→(arrOf st').toList=y7 b₀.toList→Q () st'):wpS (model prog w) A E s sortRuns' Q st:=by
 rw[sortRuns'_eq]
 refine wpS_bind (wpS_get ?_)
 dsimp only
 have mr:minRun' b₀.size b₀.size 0=b₀.size:=by
  obtain⟨f,hf⟩:∃ f,b₀.size=f+1:=⟨b₀.size - 1,by omega⟩
  have q:minRun' (f+1) b₀.size 0=b₀.size:=by
   rw[minRun'_succ,if_pos h64]
   rfl
  rwa [← hf] at q
 simp only[hB.size,mr]
 have whole:∀ {st':SortSt},kD b₀ st' b₀.size→(arrOf st').toList=y7 b₀.toList:=fun {st'} g=>by
  have:=g.list
  rw[← kb,BO (bK _),List.drop_of_length_le (bK _),Bs] at this
  exact this
 refine wpS_bind (wpS_mono (wpS_forRange
  (I:=fun x c st'=>(x=0∧c=(none,0)∧st'=st)∨(1≤x∧c=(none,b₀.size)∧failedOf st'=none∧pendingOf st' = #[(0,b₀.size,0)]∧(arrOf st').toList=y7 b₀.toList))
  (Q:=fun c st'=>c=(none,b₀.size)∧failedOf st'=none∧pendingOf st' = #[(0,b₀.size,0)]∧(arrOf st').toList=y7 b₀.toList) ?turn ?done (.inl ⟨rfl,rfl,rfl⟩)) ?after)
 case done =>
  rintro c st' (⟨z,_⟩ | ⟨_,z⟩)
  ·omega
  ·exact z
 case turn =>
  rintro x c st' _ hx (⟨rfl,rfl,rfl⟩ | ⟨x1,rfl,z⟩)
  ·dsimp only
   rw[if_neg (by omega)]
   simp only[cU,Nat.min_self,BV]
   refine wpS_bind (oz hk (bK _) (by omega) hB h0 fun m st2 g m1 m2=>?_)
   dsimp only
   have fin2:∀ {st3:SortSt},kD b₀ st3 b₀.size→(failedOf (setPending st3 ((pendingOf st3).push (0,b₀.size,0)))=none∧pendingOf (setPending st3 ((pendingOf st3).push (0,b₀.size,0))) = #[(0,b₀.size,0)]∧(arrOf (setPending st3 ((pendingOf st3).push (0,b₀.size,0)))).toList=y7 b₀.toList):=fun {st3} g3 =>
    ⟨g3.base.failed,by show (pendingOf st3).push _=_;rw[g3.base.pend];rfl,show (arrOf st3).toList=y7 b₀.toList from whole g3⟩
   by_cases lt:m<b₀.size
   ·rw[if_pos lt]
    refine wpS_bind (wpS_lift (wpAny_rule ⟨rfl,?_⟩))
    refine wpS_bind (lz hk (bK _) m2 m1 g fun st3 g3=>?_)
    simp only[Bool.not_true,BS,if_false]
    refine wpS_bind (wpS_get ?_)
    rw[show (pendingOf st3).back? = none by rw[g3.base.pend];rfl]
    dsimp only
    exact wpS_bind (wpS_modify (wpS_pure (.inr ⟨by omega,rfl,fin2 g3⟩)))
   ·rw[if_neg lt]
    obtain rfl:m=b₀.size:=by omega
    refine wpS_bind (wpS_get ?_)
    rw[show (pendingOf st2).back? = none by rw[g.base.pend];rfl]
    dsimp only
    exact wpS_bind (wpS_modify (wpS_pure (.inr ⟨by omega,rfl,fin2 g⟩)))
  ·dsimp only
   rw[if_pos (bK _)]
   exact wpS_pure ⟨rfl,z⟩
 case after =>
  rintro c st' ⟨rfl,z1,z2,z3⟩
  dsimp only
  refine wpS_bind (wpS_mono (wpS_forRange (I:=fun _ c st2=>st2=st'∧c=(none,())) (Q:=fun c st2=>st2=st'∧c=(none,())) ?_ (fun _ _ q=>q) ⟨rfl,rfl⟩) ?_)
  ·rintro x c st2 _ _ ⟨rfl,rfl⟩
   refine wpS_bind (wpS_get ?_)
   rw[if_pos (by rw[z2];exact bK 1)]
   exact wpS_pure ⟨rfl,rfl⟩
  ·rintro c st2 ⟨rfl,rfl⟩
   exact wpS_pure (fin _ z1 z3)
end
end SG
namespace SS
open PySem PyProof.Rows
@[reducible] def rk:SG.Rk:=⟨numOf,oneType'⟩
local instance:SG.Rk:=rk
abbrev ky (p:Keyed):Int:=numOf p.1
abbrev put (x:Keyed) (l:List Keyed):List Keyed:=@SG.put rk x l
abbrev y7 (l:List Keyed):List Keyed:=@SG.y7 rk l
abbrev Up (l:List Keyed):Prop:=@SG.Up rk l
end SS
namespace L2
open PySem PySem.Spec PyProof.Rows
section
variable {X:Cx} {A:Around} {p:Str} {Nr:List Str} {scope:Scope} {cl:List (Str × Addr)} {src:List (Option Nat)} {pins:List (Addr × Obj)} {σ:St} {H:Hp} {s:Shared} {f c':Addr} {name qual:Str} {params:Arguments} {body:Expr} {pm ctv u:Value} {v:V} {te:TE} {Q:VK}
end
end L2
namespace SS
open PySem PyProof.Rows
def uY (k:Nat→Int) (x:Nat) (l:List Nat):List Nat:=l.takeWhile (fun y=>decide (k y≤k x))++x::l.dropWhile (fun y=>decide (k y≤k x))
def pY (k:Nat→Int) (l:List Nat):List Nat:=l.foldl (fun acc x=>uY k x acc) []
end SS
namespace SG
open PySem PyProof.Rows
variable [Rk]
theorem P4 {R:Nat→Keyed→Prop} {k:Nat→Int} (hR:∀ i p,R i p→ky p=k i) {i:Nat} {p:Keyed} (h:R i p) {l:List Nat} {l':List Keyed} (u:Paired R l l'):Paired R (SS.uY k i l) (put p l'):=by
 induction u with
 | nil=>exact .cons h .nil
 | @cons x y l l' r t ih =>
  by_cases q:k x≤k i
  ·have q':ky y≤ky p:=by rw[hR _ _ r,hR _ _ h];exact q
   have e1:SS.uY k i (x::l)=x::SS.uY k i l:=by unfold SS.uY;simp[List.takeWhile,List.dropWhile,q]
   have e2:put p (y::l')=y::put p l':=by unfold put;simp[List.takeWhile,List.dropWhile,q']
   rw[e1,e2]
   exact .cons r ih
  ·have q':¬ ky y≤ky p:=by rw[hR _ _ r,hR _ _ h];exact q
   have e1:SS.uY k i (x::l)=i::x::l:=by unfold SS.uY;simp[List.takeWhile,List.dropWhile,q]
   have e2:put p (y::l')=p::y::l':=by unfold put;simp[List.takeWhile,List.dropWhile,q']
   rw[e1,e2]
   exact .cons h (.cons r t)
theorem Py {R:Nat→Keyed→Prop} {k:Nat→Int} (hR:∀ i p,R i p→ky p=k i) {l:List Nat} {l':List Keyed} (h:Paired R l l'):Paired R (SS.pY k l) (y7 l'):=by
 have:∀ (l:List Nat) (l':List Keyed) (a:List Nat) (a':List Keyed),Paired R l l'→Paired R a a'→Paired R (l.foldl (fun acc x=>SS.uY k x acc) a) (l'.foldl (fun acc x=>put x acc) a'):=by
  intro l l' a a' h
  induction h generalizing a a' with
  | nil=>intro q;exact q
  | cons r t ih=>intro q;exact ih _ _ (P4 hR r q)
 exact this l l' [] [] h .nil
end SG
namespace SS
open PySem PyProof.Rows
end SS
namespace L2
open PySem PySem.Spec PyProof.Rows
section
variable {X:Cx} {A:Around} {E:Value→Shared→Prop} {pins:List (Addr × Obj)} {σ:St} {H:Hp} {s:Shared} {a kS:Addr} {e e1:Nat} {keys:Array Value} {vs:List Value} {kz:List Int} {P:PySem.Fin→Shared→Prop}
theorem zH.turn1 (I:zH X pins σ H s) (f:jC X pins H a) {h':Heap} (hs:Heap.SameBut a s.heap h'):zH X pins σ H { s with heap:=h' } :=
 I.turned (t':=s.toks) (fun b o n q=>(hs.2 b n).trans q) f.1 f.2.1 f.2.2.2.1 f.2.2.2.2.1 f.2.2.2.2.2
theorem zH.adopt {xs:List V} {us:List Value} {n:Nat} (I:zH X pins σ H s) (f:jC X pins H a) (ha:s.heap.get? a=some (seqObj "list" us.toArray n)) (r:z9 xs us) (hz:xs.length≤sizeLine):zH X pins σ (upd H a (.lst xs)) s:=by
 have ne:∀ b o,H b=some o→b≠a:=fun b o q=>zF q f.1
 refine⟨I.ok,I.os,I.bare,⟨I.base.keep,I.base.slot,fun b o q n hx=>?_,I.base.there,fun b ys q=>?_,fun b o u q=>?_,fun b ps q=>?_⟩,I.loc,I.cell,?_,fun x c q=>?_,fun p hp=>?_,fun b o q=>?_,I.len⟩
 ·have nb:b≠a:=fun z=>by
   subst z
   rcases f.2.2.2.1 with z | z
   ·exact hx z
   ·rw[z] at q;cases q
  rw[zq nb]
  exact I.base.free b o q n hx
 ·have z:=I.base.tups b ys q
  rw[zq (ne _ _ z)];exact z
 ·have z:=I.base.frzs b o u q
  rw[zq (ne _ _ z)];exact z
 ·obtain⟨m,z⟩:=I.base.tbls b ps q
  exact⟨m,by rw[zq (ne _ _ z)];exact z⟩
 ·rw[zq (Ne.symm f.2.1)];exact I.free
 ·rw[zq (f.2.2.2.2.1 x c q)];exact I.freeC x c q
 ·obtain⟨p1,p2,p3,p4,p5⟩:=I.pin p hp
  exact⟨p1,by rw[zq (f.2.2.2.2.2 p hp)];exact p2,p3,p4,p5⟩
 ·by_cases nb:b=a
  ·subst nb
   rw[zm] at q
   cases q
   exact⟨hz,us,n,r,ha⟩
  ·rw[zq nb] at q
   refine (I.hok b o q).stay (fun c u _ z=>z) (fun c z=>?_) fun c ys z=>?_
   ·rw[zq (ne _ _ z)];exact z
   ·rw[zq (ne _ _ z)];exact z
end
theorem YW {α β:Type} {F:α→β→Prop}:∀ {l₁:List α} {l₂:List β},l₁.length=l₂.length→(∀ (i:Nat) a b,l₁[i]? = some a→l₂[i]? = some b→F a b)→Paired F l₁ l₂
 | [],[],_,_=>.nil
 | [],_::_,h,_=>by simp at h
 | _::_,[],h,_=>by simp at h
 | a::l,b::m,h,f=>.cons (f 0 a b rfl rfl) (YW (by simpa using h) fun i x y e1 e2=>f (i+1) x y (by simpa using e1) (by simpa using e2))
section
variable {X:Cx} {A:Around} {E:Value→Shared→Prop} {pins:List (Addr × Obj)} {σ:St} {H:Hp} {s:Shared} {r q:Addr} {xs:List V} {k:Nat→Int} {Q:VK}
end
open PySem.W
section
variable {X:Cx} {p:Str} {Nr:List Str} {scope:Scope} {cl:List (Str × Addr)} {src:List (Option Nat)} {pins:List (Addr × Obj)} {σ:St} {H:Hp} {s:Shared} {c P:Addr} {params:Arguments} {body:Expr} {pos:Pos} {E:Value→Shared→Prop}
end
end L2
namespace L2
open PySem PySem.Spec PyProof.Rows
def qm (K:PySem.W.Frag) (x:Str) (st:Stmt):Prop:=∃ f fd,PySem.W.nsIn K mainGlobals x=some (some (.ref f))∧qE K x x st f fd
section
variable {P:Program} {w:World} {K:PySem.W.Frag} {mg:Str→Option Value} {base:Heap} {x:Str} {st:Stmt} {CX:wf} {k:Nat} {ps:List Str} {sp:Sp} {h0:Heap}
theorem qm.cal (h:qm K x st) (X:K.In h0) (G:h0.Ns mainGlobals mg)
  (hb:∀ (kV doc pm:Value) (an:Option Addr) (cdv ct:Value) (us:List Value),us.length=ps.length→bindArgs (PySem.W.fnOf x x (jk st) (yu st) (zV st) .none kV doc pm an cdv ct) ⟨us,[]⟩=pure (ps.zip us))
  (ok:∀ f fd,qE K x x st f fd→zJ P w K mg base CX k f fd ps sp):qH P w K mg base CX k x ps sp:=by
 obtain⟨f,fd,a,F⟩:=h
 exact⟨f,fd,PySem.W.mg_of X G a,F.kp,F.binds hb,ok f fd F⟩
theorem qm.calQ (h:qm K x st) (X:K.In h0) (G:h0.Ns mainGlobals mg)
  (hb:∀ (kV doc pm:Value) (an:Option Addr) (cdv ct:Value) (us:List Value),us.length=ps.length→bindArgs (PySem.W.fnOf x x (jk st) (yu st) (zV st) .none kV doc pm an cdv ct) ⟨us,[]⟩=pure (ps.zip us))
  (ok:∀ f fd,qE K x x st f fd→Uk P w K mg base k f fd ps sp):NG P w K mg base k x ps sp:=by
 obtain⟨f,fd,a,F⟩:=h
 exact⟨f,fd,PySem.W.mg_of X G a,F.kp,F.binds hb,ok f fd F⟩
end
theorem zW {α:Type} {us:List α} (h:us.length=1):∃ a,us=[a]:=by
 match us,h with
 | [a],_=>exact⟨a,rfl⟩
theorem qh {α:Type} {us:List α} (h:us.length=2):∃ a b,us=[a,b]:=by
 match us,h with
 | [a,b],_=>exact⟨a,b,rfl⟩
theorem uC {α:Type} {us:List α} (h:us.length=3):∃ a b c,us=[a,b,c]:=by
 match us,h with
 | [a,b,c],_=>exact⟨a,b,c,rfl⟩
theorem XV {α:Type} {us:List α} (h:us.length=4):∃ a b c d,us=[a,b,c,d]:=by
 match us,h with
 | [a,b,c,d],_=>exact⟨a,b,c,d,rfl⟩
theorem VZ {α:Type} {us:List α} (h:us.length=5):∃ a b c d e,us=[a,b,c,d,e]:=by
 match us,h with
 | [a,b,c,d,e],_=>exact⟨a,b,c,d,e,rfl⟩
open PySem.W
end L2
namespace SS
theorem xl (k:Nat→Int) (x:Nat) (l:List Nat):(uY k x l).Perm (l++[x]):=by
 unfold uY
 refine List.perm_middle.trans ?_
 rw[CA]
 exact (CP x l).symm
theorem xc (k:Nat→Int) (l:List Nat):(pY k l).Perm l:=by
 have:∀ (l acc:List Nat),(l.foldl (fun acc x=>uY k x acc) acc).Perm (acc++l):=by
  intro l
  induction l with
  | nil=>intro acc;simp
  | cons x r ih =>
   intro acc
   rw[cf]
   refine (ih _).trans ?_
   have:=(xl k x acc).append_right r
   simpa using this
 have q:=this l []
 rw[cg] at q
 exact q
end SS
namespace L2
open PySem PySem.Spec PyProof.Rows PySem.W
section
variable {prog:Program} {w:World} {A:Around} {E:Value→Shared→Prop} {s:Shared}
end
section
variable {X:Cx} {A:Around} {E:Value→Shared→Prop} {pins:List (Addr × Obj)} {σ:St} {H:Hp} {s:Shared} {a:Addr} {its:List Value} {ts:List V} {nsOf:Nat→List Int} {rk:Nat→Int} {P:PySem.Fin→Shared→Prop}
open Classical in
def v8 (its:List Value) (rk:Nat→Int):Value→Int:=fun v=>if h:∃ i,its[i]? = some v then rk h.choose else 0
end
end L2
namespace L2
open PySem PySem.Spec PyProof.Rows
section
variable {X:Cx}
theorem QI:RZ X "str.startswith" (fun x vs H Q=>∃ z y,x = .str z∧vs=[.str y]∧Q (.bl (Txt.startswith z y)) H):=by
 intro pins s σ H x xs v us Q I rx rv h
 obtain⟨z,y,rfl,rfl,q⟩:=h
 obtain⟨t,rfl⟩:=rx
 obtain⟨u,rfl,ru⟩:=z9.one rv
 obtain⟨tu,rfl⟩:=ru
 exact SC.startswith ⟨.bl _,H,I,rfl,q⟩
end
open PySem.W
section
variable {X:Cx} {p:Str} {Nr:List Str} {scope:Scope} {cl:List (Str × Addr)} {src:List (Option Nat)} {c P:Addr} {params:Arguments} {body a:Expr} {pos lpos kpos p1 p2 p3:Pos} {ta:TA} {te:TE}
end
end L2
namespace L2
open PySem PySem.Spec PyProof.Rows
theorem vV:bootBuiltins "all" = some (.builtin "all"):=by kernel_rfl
theorem qu {l:List (Str × NameKind)} {cl:List (Str × Addr)} (h:l.all (fun y=>match y.2 with | .cell | .free=>(cl.lookup y.1).isSome | _=>true)=true) (x:Str) (z:l.lookup x=some .cell∨l.lookup x=some .free):∃ c,cl.lookup x=some c:=by
 rcases z with z | z
 ·have:=Bp.mp h _ (PySem.mem_of_lookup z)
  exact BR.mp this
 ·have:=Bp.mp h _ (PySem.mem_of_lookup z)
  exact BR.mp this
theorem ja {cl cs:List (Str × Addr)} (h:∀ q∈cl,cs.lookup q.1=some q.2) (x:Str) (c:Addr) (z:cl.lookup x=some c):cs.lookup x=some c:=h _ (PySem.mem_of_lookup z)
theorem qc {C:Nat→Nat→Prop} (i j:Nat) (z:([]:List (Option Nat))[i]? = some (some j)):C i j:=by simp at z
theorem zQ {l:List (Option Nat)} {C:Nat→Nat→Prop} (h:∀ i j,l[i]? = some (some j)→C (i+1) j) (i j:Nat) (z:(none::l)[i]? = some (some j)):C i j:=by
 cases i with
 | zero=>simp at z
 | succ i=>exact h i j (by simpa using z)
theorem qt {l:List (Option Nat)} {k:Nat} {C:Nat→Nat→Prop} (h0:C 0 k) (h:∀ i j,l[i]? = some (some j)→C (i+1) j) (i j:Nat) (z:(some k::l)[i]? = some (some j)):C i j:=by
 cases i with
 | zero =>
  have:some k=some j:=by simpa using z
  cases this
  exact h0
 | succ i=>exact h i j (by simpa using z)
section
variable {X:Cx} {a b c:Expr} {ta:TA} {te:TE} {p1 p2 p3 pos:Pos}
end
section
variable {X:Cx} {elt iter tgt:Expr} {ifs:List Expr} {scope:Scope} {cl:List (Str × Addr)} {Nc:List Str} {src:List (Option Nat)} {g:TG} {tt:TT} {te:TE}
theorem wc {i:Nat} {x:Str} {wi:TI} {pos pos' cpos:Pos} (hN:X.N.Nodup) (hx:X.N[i]? = some x) (hl:X.env.scope.names.lookup x=some .local) (c:Wf X Nc scope cl src) (hcalm:X.calm=true) (hi:PI X tgt iter wi)
  (hb:∀ fp C s' H',PG (ul X Nc scope cl C fp s' H') tgt g∧ud (ul X Nc scope cl C fp s' H') ifs tt∧PE (ul X Nc scope cl C fp s' H') elt te)
  (hsw:swapsWith (.ListComp elt [⟨tgt,iter,ifs,0⟩] scope cpos) (some (.Name x pos')) pos.line X.env=pure true:=by rfl)
  (hs:∀ x,foldedSetIterable iter X.env x=pure x:=by intro _;rfl):PS X (.Assign [.Name x pos'] (.ListComp elt [⟨tgt,iter,ifs,0⟩] scope cpos) pos) (Pa (WG src wi g tt te) (zX i)):=by
 intro pins s σ H D I h
 rw[exec_Assign_Name_used _ _ _ _ hsw]
 refine wpAny_bind (wpAny_standAt (wpAny_bind ?_))
 show wpAny _ X.A (do let _ ← comprehension (.ListComp elt [⟨tgt,iter,ifs,0⟩] scope cpos) scope X.env _ (newList []) false (eval iter X.env) (some (assign (.Name x pos') X.env))) _ _ s
 refine wpAny_bind (wpAny_mono (wpAny_comprehension_free (use:=some (assign (.Name x pos') X.env)) (Q:=fun _ s'=>∃ σ' H',zH X pins σ' H' s'∧D.nx σ' H') rfl hs c.clos c.kind c.names (qS (hi pins s σ H _ I h) fun v s1 h1=>qS h1 fun itv s2 h2=>?_)) (fun _ s' hq=>wpAny_pure (wpAny_pure hq)) fun _ _ z=>z)
 obtain⟨it,fp,tn,J,H2,e,I2,T,st2,f2,hT⟩:=h2
 subst e
 refine wpAny_newObj_type ?_ (by size_fits)
 have old:∀ b o,s2.heap.get? b=some o→(s2.heap.push { cls:=.type "list",data:=.seq ([]:List Value).toArray }).get? b=some o:=fun b o e=>bW _ e
 have I3:=I2.laid (a:=s2.heap.objs.size) (o:=.lst []) (t':=s2.toks) (h':=s2.heap.push { cls:=.type "list",data:=.seq ([]:List Value).toArray }) old (bK _) ⟨Bo _,[],0,.nil,Bd _ rfl⟩
 have ne:∀ b∈fp,b≠s2.heap.objs.size:=fun b hb=>by
  obtain⟨o,e,_⟩:=T.obj 0 _ st2 b hb
  exact b5 (bQ e)
 have f3:∀ b∈fp,jC X pins (upd H2 s2.heap.objs.size (.lst [])) b:=fun b hb=>⟨by rw[zq (ne b hb)];exact (f2 b hb).1,(f2 b hb).2⟩
 refine kB (it:=it) (R:=fun C=>compPost (model X.prog X.w) X.A X.xe (some (assign (.Name x pos') X.env)) (fun _ s'=>∃ σ' H',zH X pins σ' H' s'∧D.nx σ' H') _ C) c hcalm I3 T (T.keep _ _ _ st2 fun b _ o e=>old b o e) f3 (hb fp _ _ _) (hT _ (I2.hok.fresh (bK _))) (fun _ _ z=>z.elim) fun C ys σ' H' s' hC J' hD q=>?_
 obtain⟨m,hn,_⟩:=id J'.loc
 have B:zH X pins σ H' s':=Z8 I3 f3 J' ⟨rfl,fun _ _=>rfl⟩
 have Cge:∀ b o,(s2.heap.push { cls:=.type "list",data:=.seq ([]:List Value).toArray }).get? b=some o→b≠C:=fun b o e=>b5 (Bq (bQ e) J'.ok.above)
 have CL:C≠X.env.locals:=fun z=>by
  obtain⟨m3,⟨o,_,_,ho,_⟩,_⟩:=I3.loc
  exact Cge _ o ho z.symm
 refine wpAny_assign_Name (YX B hN hx (.inl hl) (v:=.ref s2.heap.objs.size) rfl (fun s5 I5 hsb=>?_) (.inr hl))
 obtain⟨a,sb,ha⟩:=hsb
 have aL:a≠C:=by
  rcases ha with rfl | ha
  ·exact CL.symm
  ·obtain⟨v,o,ho,_⟩:=I3.cell x a ha
   exact Cge _ o ho
 refine⟨m,hn.sameBut sb aL.symm,fun h' hs'=>⟨_,H',I5.turned (t':=s5.toks) (fun b o n e=>(hs'.2 b n).trans e) J'.free CL ?_ (fun y b e z=>?_) (fun p hp z=>?_),q⟩⟩
 ·exact .inr (Cu (Bj I3.sz J'.ok.above))
 ·obtain⟨v,o,ho,_⟩:=I3.cell y b e
  exact Cge _ o ho z
 ·exact Cge _ _ (I3.pin p hp).1 z
end
end L2
namespace L2
open PySem
end L2
namespace Pg
open PySem L2
structure jF (mg:Str→Option Value):Prop where
 isinstance:mg "isinstance" = none
 int:mg "int" = none
 bool:mg "bool" = none
 str:mg "str" = none
 len:mg "len" = none
 range:mg "range" = none
 ve:mg "ValueError" = none
 list:mg "list" = none
 tuple:mg "tuple" = none
 dict:mg "dict" = none
 set:mg "set" = none
 all:mg "all" = none
 any:mg "any" = none
 sum:mg "sum" = none
 sorted:mg "sorted" = none
 abs:mg "abs" = none
 max:mg "max" = none
 min:mg "min" = none
 zip:mg "zip" = none
 enumerate:mg "enumerate" = none
 reversed:mg "reversed" = none
structure Er (K:PySem.W.Frag) (mg:Str→Option Value) (x:Str) (c:Addr):Prop where
 at':mg x=some (.ref c)
 ex:PySem.W.excIn K c Y4 "ValueError.__new__" = true
def kF (mg:Str→Option Value) (x:Str) (n:Int):Prop:=∃ t,mg x=some (.int n t)
def Txt (mg:Str→Option Value) (x:Str) (z:Str):Prop:=∃ t,mg x=some (.str z t)
structure bh (mg:Str→Option Value) (d:Nat→Addr):Prop where
 g0:mg "BadAmount" = some (.ref (d 0))
 g1:mg "BadShare" = some (.ref (d 1))
 g2:mg "BadText" = some (.ref (d 2))
 g3:mg "BadMonth" = some (.ref (d 3))
 g4:mg "BadYear" = some (.ref (d 4))
 g5:mg "BadRule" = some (.ref (d 5))
 g6:mg "BadBook" = some (.ref (d 6))
 g7:mg "NoYear" = some (.ref (d 7))
 g8:mg "BadDay" = some (.ref (d 8))
 g9:mg "BadEntry" = some (.ref (d 9))
 g10:mg "NoMark" = some (.ref (d 10))
 g11:mg "NoPerson" = some (.ref (d 11))
 g12:mg "TooMany" = some (.ref (d 12))
 g13:mg "BadClose" = some (.ref (d 13))
 g14:mg "BadLine" = some (.ref (d 14))
structure Oh (K:PySem.W.Frag) (d:Nat→Addr) (C:Addr) (i:Nat):Prop where
 cls:XK.jQ K C
 ve:PySem.W.kitOne K (.ref C) (.type "ValueError")=some true
 k0:PySem.W.kitOne K (.ref C) (.ref (d 0))=some (decide (i=0))
 k1:PySem.W.kitOne K (.ref C) (.ref (d 1))=some (decide (i=1))
 k2:PySem.W.kitOne K (.ref C) (.ref (d 2))=some (decide (i=2))
 k3:PySem.W.kitOne K (.ref C) (.ref (d 3))=some (decide (i=3))
 k4:PySem.W.kitOne K (.ref C) (.ref (d 4))=some (decide (i=4))
 k5:PySem.W.kitOne K (.ref C) (.ref (d 5))=some (decide (i=5))
 k6:PySem.W.kitOne K (.ref C) (.ref (d 6))=some (decide (i=6))
 k7:PySem.W.kitOne K (.ref C) (.ref (d 7))=some (decide (i=7))
 k8:PySem.W.kitOne K (.ref C) (.ref (d 8))=some (decide (i=8))
 k9:PySem.W.kitOne K (.ref C) (.ref (d 9))=some (decide (i=9))
 k10:PySem.W.kitOne K (.ref C) (.ref (d 10))=some (decide (i=10))
 k11:PySem.W.kitOne K (.ref C) (.ref (d 11))=some (decide (i=11))
 k12:PySem.W.kitOne K (.ref C) (.ref (d 12))=some (decide (i=12))
 k13:PySem.W.kitOne K (.ref C) (.ref (d 13))=some (decide (i=13))
 k14:PySem.W.kitOne K (.ref C) (.ref (d 14))=some (decide (i=14))
structure Rz (K:PySem.W.Frag) (d:Nat→Addr) (cR:Addr) (i:Nat):Prop where
 ex:PySem.W.exmOne K (.ref (d i)) (.ref cR)=some true
 kd:Oh K d (d i) i
def vp (K:PySem.W.Frag):Sp:=fun vs H Q _=>∃ v,vs=[v]∧((∃ z,v = .int z∧Q (.bl true) H)∨(kh K H v∧Q (.bl false) H))
def j8 (K:PySem.W.Frag):Sp:=fun vs H Q _=>∃ v a b,vs=[v,.int a,.int b]∧((∃ z,v = .int z∧Q (.bl (decide (a≤z∧z≤b))) H)∨(kh K H v∧Q (.bl false) H))
def Yu (K:PySem.W.Frag) (H:Hp) (m:Int) (v:V):Prop:=kh K H v∨∃ z,v = .int z∧¬ (0≤z∧z≤m)
def XX (K:PySem.W.Frag) (c:Addr) (m:Int):Sp:=fun vs H Q E=>∃ v,vs=[v]∧((∃ z,v = .int z∧0≤z∧z≤m∧Q .non H)∨(Yu K H m v∧E (.ref c) none H))
def XJ (K:PySem.W.Frag):Sp:=fun vs H Q _=>∃ a k ns,vs=[.ref a,.int k]∧z5 K H a (ns.map V.int)∧0≤k∧Q (.int (Qm ns k)) H
def Qi:Sp:=fun vs H Q _=>∃ z,vs=[.int z]∧Q (.bl true) H
def Zi (K:PySem.W.Frag):Sp:=fun vs H Q _=>∃ (a:Addr) (ns:List Int),vs=[.ref a]∧z5 K H a (ns.map V.int)∧∀ H',Q (.bl true) H'
theorem Yn (zs:List Int):(zs.map V.int).all jX=true:=Bp.mpr fun x hx=>by
 obtain⟨k,_,rfl⟩:=bZ.mp hx
 rfl
theorem wG {cs:List (Str × Addr)} {k:Str} {a:Addr} (h:cs.lookup k=some a):∀ q∈[(k,a)],cs.lookup q.1=some q.2:=fun q hq=>by rw[Bf.mp hq];exact h
theorem Uc {cs cl:List (Str × Addr)} {k:Str} {a:Addr} (h:cs.lookup k=some a) (t:∀ q∈cl,cs.lookup q.1=some q.2):∀ q∈(k,a)::cl,cs.lookup q.1=some q.2:=fun q hq=>by
 rcases bN.mp hq with rfl | hq
 ·exact h
 ·exact t q hq
def ZH (K:PySem.W.Frag) (c:Addr):Sp:=fun vs H Q E=>∃ v,vs=[v]∧((∃ z,v = .int z∧0≤z∧z≤119999∧Q (.int (z/12)) H)∨(Yu K H 119999 v∧E (.ref c) none H))
end Pg
namespace L2
open PySem PySem.Spec PyProof.Rows
def qO (P:Program) (w:World) (K:PySem.W.Frag) (mg:Str→Option Value) (base:Heap) (CX:wf) (k:Nat) (C:Addr) (m:Str) (ps:List Str) (sp:Sp):Prop :=
 uT K C∧∃ f fd,U9 K C m f∧jE K fd ps []∧zJ P w K mg base CX k f fd ps sp
def vD (P:Program) (w:World) (K:PySem.W.Frag) (mg:Str→Option Value) (base:Heap) (CX:wf) (k:Nat) (x:Str) (C:Addr) (ps:List Str) (sp:Sp):Prop :=
 mg x=some (.ref C)∧∃ f fd,Mk K C f∧jE K fd ps []∧zJ P w K mg base CX k f fd ps sp
section
variable {X:Cx} {CX:wf} {j k:Nat} {C:Addr} {ps:List Str} {sp:Sp} {x m:Str} {p apos pos:Pos} {o e:Expr} {es:List Expr} {ta:TE} {t:TA} {E:XK}
def RS (C:Addr) (m:Str) (sp:Sp) (E:XK) (ta:TE) (t:TA):TE:=fun σ H Q=>ta σ H fun x H1=>∃ a dx fs,x = .ref a∧H1 a=some (.ins C dx fs)∧fs.lookup m=none∧t σ H1 fun vs H2=>sp (x::vs) H2 Q E
theorem vk {pl:Sem Bool} (M:qO X.prog X.w X.K X.mg X.base CX k C m ps sp) (hr:ym j X.A) (hj:k≤j) (hx:yt CX X E) (he:PE X o ta) (ha:PA X (e::es) t)
  (hst:starEach (e::es) X.env=(false,eval e X.env)::starEach es X.env:=by exact z6 rfl) (hpl:(backTo pos (starEach es X.env)).any (·.1)=false:=by exact yw rfl)
  (ht:eval (.Call (.Attribute o m apos) (e::es) [] pos) X.env=(do
   let ov ← eval o X.env
   standAt apos.atName
   let (f,first) ← holding [ov] (getMethod ov m pl)
   callWith pos f first (backTo pos (starEach (e::es) X.env)) (backToKw pos (keywordEach [] X.env))):=by rfl) :
  PE X (.Call (.Attribute o m apos) (e::es) [] pos) (RS C m sp E ta t):=by
 obtain⟨c,f,fd,hm,hb,F⟩:=M
 intro pins s σ H Q I h
 refine LM (dvs:=[]) he c hm F (hr.mono hj) hb .nil hx ha hst hpl ht pins s σ H Q I ?_
 unfold Xx
 simp only[Bs]
 exact h
theorem ue {pl:Sem Bool} (M:qO X.prog X.w X.K X.mg X.base CX k C m ps sp) (hr:ym j X.A) (hj:k≤j) (hx:yt CX X E) (he:PE X o ta)
  (ht:eval (.Call (.Attribute o m apos) [] [] pos) X.env=(do
   let ov ← eval o X.env
   standAt apos.atName
   let (f,first) ← holding [ov] (getMethod ov m pl)
   callWith pos f first (backTo pos (starEach [] X.env)) (backToKw pos (keywordEach [] X.env))):=by rfl) :
  PE X (.Call (.Attribute o m apos) [] [] pos) (RS C m sp E ta q8):=by
 obtain⟨c,f,fd,hm,hb,F⟩:=M
 intro pins s σ H Q I h
 refine P5 (dvs:=[]) he c hm F (hr.mono hj) hb .nil hx ht pins s σ H Q I ?_
 unfold Xx
 simp only[Bs]
 exact h
def bq (C:Addr) (sp:Sp) (E:XK) (t:TA):TE:=fun σ H Q=>t σ H fun vs H1=>∀ x dx,H1 x=none→H1 dx=none→dx≠x →
 sp (.ref x::vs) (upd (upd H1 dx (.own x)) x (.ins C dx [])) (fun v H2=>v = .non∧Q (.ref x) H2) E
theorem OA (M:vD X.prog X.w X.K X.mg X.base CX k x C ps sp) (hr:ym (j+1) X.A) (hj:k≤j) (hx:yt CX X E) (hg:Gl X x:=by rfl)
  (hdb:(x==("__debug__":Str))=false:=by decide):PE X (.Call (.Name x p) [] [] pos) (bq C sp E q8):=by
 obtain⟨hm,f,fd,M,hb,F⟩:=M
 intro pins s σ H Q I h
 refine oh (dvs:=[]) M (F.mono hj) hr hg hm hb .nil hx hdb pins s σ H Q I ?_
 unfold Xf
 simp only[Bs]
 exact h
end
def yf (K:PySem.W.Frag) (C:Addr) (m qual:Str) (st:Stmt):Prop:=∃ f fd,U9 K C m f∧qE K m qual st f fd
def QE (K:PySem.W.Frag) (C:Addr) (qual:Str) (st:Stmt):Prop:=∃ f fd,Mk K C f∧qE K "__init__" qual st f fd
section
variable {P:Program} {w:World} {K:PySem.W.Frag} {mg:Str→Option Value} {base:Heap} {C:Addr} {x m qual:Str} {st:Stmt} {CX:wf} {k:Nat} {ps:List Str} {sp:Sp}
theorem yf.cal (h:yf K C m qual st) (cl:uT K C)
  (hb:∀ (kV doc pm:Value) (an:Option Addr) (cdv ct:Value) (us:List Value),us.length=ps.length→bindArgs (PySem.W.fnOf m qual (jk st) (yu st) (zV st) .none kV doc pm an cdv ct) ⟨us,[]⟩=pure (ps.zip us))
  (ok:∀ f fd,qE K m qual st f fd→zJ P w K mg base CX k f fd ps sp):qO P w K mg base CX k C m ps sp:=by
 obtain⟨f,fd,M,F⟩:=h
 exact⟨cl,f,fd,M,F.binds hb,ok f fd F⟩
theorem QE.cal (h:QE K C qual st) (hm:mg x=some (.ref C))
  (hb:∀ (kV doc pm:Value) (an:Option Addr) (cdv ct:Value) (us:List Value),us.length=ps.length→bindArgs (PySem.W.fnOf "__init__" qual (jk st) (yu st) (zV st) .none kV doc pm an cdv ct) ⟨us,[]⟩=pure (ps.zip us))
  (ok:∀ f fd,qE K "__init__" qual st f fd→zJ P w K mg base CX k f fd ps sp):vD P w K mg base CX k x C ps sp:=by
 obtain⟨f,fd,M,F⟩:=h
 exact⟨hm,f,fd,M,F.binds hb,ok f fd F⟩
end
end L2
namespace L2
open PySem PySem.W PySem.Calls PyProof.Rows
theorem lL (as:List Addr) (h:Heap):(yR as h).In h:=by
 intro a o e
 induction as with
 | nil=>cases e
 | cons b r ih =>
  unfold yR at e
  rw[cy] at e
  cases q:h.get? b with
  | none=>rw[q] at e;exact ih e
  | some o' =>
   rw[q] at e
   by_cases c:a=b
   ·subst c
    have e:List.lookup a ((a,o')::yR r h)=some o:=e
    rw[List.lookup_cons_self] at e
    cases e
    exact q
   ·have e:List.lookup a ((b,o')::yR r h)=some o:=e
    rw[List.lookup_cons,show (a==b)=false from beq_eq_false_iff_ne.mpr c] at e
    exact ih e
section
variable {K:Frag} {v:Option (Option Value)} {x qual m:Str} {st:Stmt} {C a:Addr}
theorem JO (h:jg K v=y9 x qual st):∃ f fd,v=some (some (.ref f))∧qE K x qual st f fd∧isFn K (.ref f)=true∧keepIn K (.ref f)=true:=by
 unfold jg y9 at h
 split at h
 ·rename_i f
  split at h
  ·rename_i oc od fd osl e
   obtain⟨nm,qn,pr,bd,sc,gl,cl,df,kV,doc,pm,an,cdv,ct,bl⟩:=fd
   simp only[Option.some.injEq,xu.mk.injEq,Bn] at h
   obtain⟨rfl,rfl,rfl,rfl,rfl,rfl,rfl,rfl,rfl,⟨h1,h2⟩,h3⟩:=h
   exact⟨f,_,rfl,Nw e h1 h2,h3,h2⟩
  ·cases h
 ·cases h
theorem zv (h:jg K (nsIn K mainGlobals x)=y9 x x st):qm K x st:=by
 obtain⟨f,fd,h1,h2,_,_⟩:=JO h
 exact⟨f,fd,h1,h2⟩
theorem zM (h:jg K (findIn K (.ref C) m)=y9 m qual st):yf K C m qual st:=by
 obtain⟨f,fd,h1,h2,h3,h4⟩:=JO h
 exact⟨f,fd,⟨h1,h3,h4⟩,h2⟩
theorem jf (h:jg K (findIn K (.ref C) "__init__")=y9 "__init__" qual st) (g:(makesIn K C&&keepIn K (.ref C))=true):QE K C qual st:=by
 obtain⟨f,fd,h1,h2,h3,_⟩:=JO h
 obtain⟨g1,g2⟩:=BJ.mp g
 exact⟨f,fd,⟨g1,h1,h3,g2⟩,h2⟩
theorem z8 (h:qy v=true):v=some none:=by
 unfold qy at h
 split at h
 ·rfl
 ·cases h
theorem jz {z:Int} (h:isInt z v=true):∃ t,v=some (some (.int z t)):=by
 unfold isInt at h
 split at h
 ·rw[of_decide_eq_true h];exact⟨_,rfl⟩
 ·cases h
theorem xN {z:Str} (h:VX z v=true):∃ t,v=some (some (.str z t)):=by
 unfold VX at h
 split at h
 ·rw[of_decide_eq_true h];exact⟨_,rfl⟩
 ·cases h
theorem qL (h:yb a v=true):v=some (some (.ref a)):=by
 unfold yb at h
 split at h
 ·rw[Nat.eq_of_beq_eq_true h]
 ·cases h
theorem yn {z:String} (h:yM z v=true):v=some (some (.builtin z)):=by
 unfold yM at h
 split at h
 ·rw[of_decide_eq_true h]
 ·cases h
theorem qI {b:Bool} {v:Option Bool} (h:jx b v=true):v=some b:=by
 unfold jx at h
 split at h
 ·rw[eq_of_beq h]
 ·cases h
theorem Ur {D:Addr} (h:Zj K D=true):XK.jQ K D:=by
 unfold Zj at h
 simp only[Bn] at h
 obtain⟨⟨⟨⟨⟨⟨⟨h1,h2⟩,h3⟩,h4⟩,h5⟩,h6⟩,h7⟩,h8⟩:=h
 exact⟨h1,yn h2,z8 h3,yn h4,yn h5,qI h6,qI h7,qI h8⟩
end
theorem zg {bs:List Bool} (h:bs.all id=true) {b:Bool} (i:Nat) (e:bs[i]? = some b):b=true:=Bp.mp h b (Bv e)
theorem zk {α β:Type} {l:List α} {f g:α→β} (h:l.map f=l.map g) {x:α} (i:Nat) (e:l[i]? = some x):f x=g x:=by
 have:(l.map f)[i]? = (l.map g)[i]?:=by rw[h]
 rw[bR,bR,e] at this
 exact Option.some.inj this
def uU {α:Type} (facts:Frag→α) (good:α) (_:World) (h:Heap):Prop:=∃ K:Frag,K.In h∧facts K=good
theorem pT {α:Type} {facts:Frag→α} {good:α} {as:List Addr} (w:World) (s:Shared) (e:facts (yR as s.heap)=good):uU facts good w s.heap:=⟨_,lL as s.heap,e⟩
theorem Xa {α:Type} {facts:Frag→α} {good:α} (w:World) (h h':Heap) (y:uU facts good w h) (k:∀ b o,h.get? b=some o→h'.get? b=some o):uU facts good w h':=by
 obtain⟨K,X,e⟩:=y
 exact⟨K,X.keeps k,e⟩
theorem LW {q:Program} {loose:List Str} {XP:(Str→Option Value)→Heap→Prop} {α:Type} {facts:Frag→α} {good:α} {r:RowW} {d:DefRec} {kwd:List (Str × Expr)} {run:Value→List Value→Sem Value}
  (h:∀ K:Frag,facts K=good→WalkO q loose XP (fun _ h=>K.In h) r d kwd run):WalkO q loose XP (uU facts good) r d kwd run:=by
 intro w s₀ s₁ mg mb G Y
 obtain⟨K,X,e⟩:=Y
 exact h K e w s₀ s₁ mg mb G X
theorem ly {q:Program} {n:Str} (h:(defOf q n).isSome=true) (k:((defOf q n).map (·.2.isEmpty))=some true):defOf q n=some (((defOf q n).get h).1,[]):=by
 obtain⟨⟨d,kwd⟩,e⟩:=BR.mp h
 have e2:(defOf q n).get h=(d,kwd):=Option.get_of_eq_some h e
 rw[e2,e]
 rw[e] at k
 have:kwd.isEmpty=true:=Option.some.inj k
 rw[List.isEmpty_iff.mp this]
end L2
namespace L2
open PySem PySem.Spec PyProof.Rows
structure Ml (K:PySem.W.Frag) (C:Addr) (m:Str) (f:Addr):Prop where
 ga:PySem.W.specialIn K (.ref C) "__getattribute__" = some (some (.builtin "type.__getattribute__"))
 rd:PySem.W.readsIn K C (.type "type")=true
 at_:PySem.W.findCls K (.ref C) (.type "type") m=some (.val (.ref f))
 kp:PySem.W.keepIn K (.ref f)=true
def ZR (P:Program) (w:World) (K:PySem.W.Frag) (mg:Str→Option Value) (base:Heap) (CX:wf) (k:Nat) (x m:Str) (ps:List Str) (sp:Sp):Prop :=
 ∃ C f fd,mg x=some (.ref C)∧Ml K C m f∧jE K fd ps []∧zJ P w K mg base CX k f fd ps sp
section
variable {X:Cx} {CX:wf} {j k:Nat} {C:Addr} {ps:List Str} {sp:Sp} {x m:Str} {p apos pos:Pos} {o e:Expr} {es:List Expr} {ta:TE} {t:TA} {E:XK}
def bu (sp:Sp) (E:XK) (t:TA):TE:=fun σ H Q=>t σ H fun vs H2=>sp vs H2 Q E
theorem ui {pl:Sem Bool} (M:ZR X.prog X.w X.K X.mg X.base CX k x m ps sp) (hr:ym j X.A) (hj:k≤j) (hx:yt CX X E) (ha:PA X (e::es) t) (hg:Gl X x:=by rfl) (hdb:(x==("__debug__":Str))=false:=by decide)
  (hst:starEach (e::es) X.env=(false,eval e X.env)::starEach es X.env:=by exact z6 rfl) (hpl:(backTo pos (starEach es X.env)).any (·.1)=false:=by exact yw rfl)
  (ht:eval (.Call (.Attribute (.Name x p) m apos) (e::es) [] pos) X.env=(do
   let ov ← eval (.Name x p) X.env
   standAt apos.atName
   let (f,first) ← holding [ov] (getMethod ov m pl)
   callWith pos f first (backTo pos (starEach (e::es) X.env)) (backToKw pos (keywordEach [] X.env))):=by rfl) :
  PE X (.Call (.Attribute (.Name x p) m apos) (e::es) [] pos) (bu sp E t):=by
 obtain⟨C,f,fd,hm,c,hb,F⟩:=M
 intro pins s σ H Q I h
 refine PySem.W.methodCall_KW (pl:=pl) (qS (zZ (v:=.ref C) hg hm rfl hdb pins s σ H (fun v H1=>v = .ref C∧H1=H) I ⟨rfl,rfl⟩) fun u s1 ⟨y,H1,I1,rx,e1,e2⟩=>?_) ht
 subst e1 e2
 obtain rfl:u=Value.ref C:=rx
 refine PySem.W.method_cls I1.kIn c.ga (PySem.W.cls_value I1.kIn c.rd c.at_ rfl ?_)
 have I2:=I1.tok (s1.toks+1)
 refine PySem.W.callWith_K (first:=[]) (h₀:=X.base) I.ok.mod.kin c.kp (qS (ha pos pins _ σ H1 _ I2 h) fun us s2 ⟨vs,H2,I3,r,q2⟩=>⟨I3.kIn,?_⟩) hst hpl
 exact Ju (dvs:=[]) (us:=us) (vs:=vs) F (hr.mono hj) hb .nil hx I3 r (by rw[Bs];exact q2)
theorem yF (M:vD X.prog X.w X.K X.mg X.base CX k x C ps sp) (hr:ym (j+1) X.A) (hj:k≤j) (hx:yt CX X E) (ha:PA X (e::es) t) (hg:Gl X x:=by rfl)
  (hdb:(x==("__debug__":Str))=false:=by decide) (hst:starEach (e::es) X.env=(false,eval e X.env)::starEach es X.env:=by exact z6 rfl) (hpl:(backTo pos (starEach es X.env)).any (·.1)=false:=by exact yw rfl) :
  PE X (.Call (.Name x p) (e::es) [] pos) (bq C sp E t):=by
 obtain⟨hm,f,fd,M,hb,F⟩:=M
 intro pins s σ H Q I h
 refine my (dvs:=[]) M (F.mono hj) hr hg hm hb .nil hx ha hdb hst hpl pins s σ H Q I ?_
 unfold Xf
 simp only[Bs]
 exact h
theorem uw {α:Type} {p:α→Prop} {e:Expr} {T:α→TE} (h:∀ i,p i→PE X e (T i)):PE X e (fun σ H Q=>∃ i,p i∧T i σ H Q):=fun pins s σ H Q I ⟨i,hp,g⟩=>h i hp pins s σ H Q I g
theorem gu:jq X (.type "str") (fun xs H Q=>(∃ i,xs=[.int i]∧i.natAbs.log2<1920∧Q (.str (toString i)) H)∨∃ z,xs=[.str z]∧Q (.str z) H):=by
 intro pins s σ H xs us Q I r h
 rcases h with h | ⟨z,rfl,q⟩
 ·exact ql pins s σ H xs us Q I r h
 ·obtain⟨u,rfl,t,rfl⟩:=vK r
  exact PySem.P.str_of_str ⟨.str _,H,I,⟨_,rfl⟩,q⟩
end
section
variable {P:Program} {w:World} {K:PySem.W.Frag} {mg:Str→Option Value} {base:Heap} {C:Addr} {x m qual:Str} {st:Stmt} {CX:wf} {k:Nat} {ps:List Str} {sp:Sp}
theorem nh {f:Addr} (h:vc K C m=true) (M:U9 K C m f):Ml K C m f:=by
 unfold vc at h
 obtain⟨h,h3⟩:=BJ.mp h
 obtain⟨h1,h2⟩:=BJ.mp h
 refine⟨?_,h2,?_,M.kp⟩
 ·split at h1
  ·rename_i b e
   rw[e,beq_iff_eq.mp h1]
  ·cases h1
 ·rw[M.at_] at h3
  split at h3
  ·rename_i f' g e1 e2
   cases e1
   rw[e2,Nat.eq_of_beq_eq_true h3]
  ·cases h3
theorem yf.calC (h:yf K C m qual st) (see:vc K C m=true) (hm:mg x=some (.ref C))
  (hb:∀ (kV doc pm:Value) (an:Option Addr) (cdv ct:Value) (us:List Value),us.length=ps.length→bindArgs (PySem.W.fnOf m qual (jk st) (yu st) (zV st) .none kV doc pm an cdv ct) ⟨us,[]⟩=pure (ps.zip us))
  (ok:∀ f fd,qE K m qual st f fd→zJ P w K mg base CX k f fd ps sp):ZR P w K mg base CX k x m ps sp:=by
 obtain⟨f,fd,M,F⟩:=h
 exact⟨C,f,fd,hm,nh see M,F.binds hb,ok f fd F⟩
end
end L2
namespace L2
open PySem PySem.W PyProof.Rows
def Rv (K:Frag) (x:Str) (zs:List Str):Prop:=∃ a,nsIn K mainGlobals x=some (some (.ref a))∧∀ H,qg K H a (zs.map V.str)
theorem Qj:∀ {its:List Value} {zs:List Str},kX its zs=true→z9 (zs.map V.str) its
 | [],[],_=>.nil
 | v::r,z::q,h=>by
  unfold kX at h
  obtain⟨h1,h2⟩:=BJ.mp h
  obtain⟨t,e⟩:=xN h1
  cases e
  exact .cons ⟨t,rfl⟩ (Qj h2)
 | [],z::q,h=>by cases h
 | v::r,[],h=>by cases h
theorem VT {K:Frag} {x:Str} {zs:List Str} (h:Zo K x zs=true):Rv K x zs:=by
 unfold Zo at h
 split at h
 ·rename_i a e
  split at h
  ·rename_i n od its k sl e2
   rw[Bn,Bn] at h
   obtain⟨⟨h1,h2⟩,h3⟩:=h
   refine⟨a,e,fun H=>.inr ⟨_,its,k,e2,?_,rfl,qa h2,Qj h3⟩⟩
   rw[of_decide_eq_true h1]
  ·cases h
 ·cases h
theorem Rv.mg {K:Frag} {x:Str} {zs:List Str} {h:Heap} {mg:Str→Option Value} (T:Rv K x zs) (X:K.In h) (G:h.Ns mainGlobals mg):∃ a,mg x=some (.ref a)∧∀ H,qg K H a (zs.map V.str):=by
 obtain⟨a,e,t⟩:=T
 exact⟨a,mg_of X G e,t⟩
end L2
set_option maxHeartbeats 4000000
namespace K14
open PySem PySem.NumText L2 Pg
seal PE PA PT PW PS jw PG um PI ud PO PK
section
variable {P:Program} {w:World} {K:PySem.W.Frag} {mg:Str→Option Value} {base:Heap} {f:Addr} {fd:FuncData} {d:Nat→Addr} {cR:Addr}
theorem Jk (F:qE K "is_number" "is_number" (top 23) f fd) (G:jF mg):zJ P w K mg base zO 1 f fd ["thing"] (vp K):=by
 refine F.ok (N:=["thing"]) ⟨rfl,rfl,rfl,by decide +kernel,rfl,by decide +kernel,by decide +kernel⟩ (fun vs H Q E h=>?_) (fun cdv A outer s H vs Q E hr h=>?_)
 ·obtain⟨v,rfl,_⟩:=h
  rfl
 ·obtain⟨v,rfl,h⟩:=h
  refine⟨_,zi (zp (yI (zt zG rfl G.isinstance zy (za (pv 0) (za (yg (v:=.ty "int") rfl G.int vf rfl) zd)))
   (yT (We (zt zG rfl G.isinstance zy (za (pv 0) (za (yg (v:=.ty "bool") rfl G.bool YE rfl) zd))))))),?_⟩
  rcases h with ⟨z,rfl,q⟩ | ⟨⟨r,hr',ty,ne⟩,q⟩
  ·refine⟨_,rfl,_,_,_,_,true,rfl,rfl,.inl (.int z),rfl,true,rfl,y8 ?_⟩
   exact⟨_,rfl,_,_,_,_,false,rfl,rfl,.inl (.int z),rfl,false,rfl,q⟩
  ·obtain⟨k1,k2,_⟩:=LQ (K:=K) r hr'
   refine⟨_,rfl,_,_,_,_,r.2.1,rfl,rfl,.inl ty,k1,r.2.1,rfl,?_⟩
   cases e:r.2.1 with
   | false=>exact qN q
   | true =>
    refine y8 ⟨_,rfl,_,_,_,_,r.2.2.1,rfl,rfl,.inl ty,k2,r.2.2.1,rfl,?_⟩
    have:r.2.2.1=true:=by
     simp only[lO,bN,bS,or_false] at hr'
     rcases hr' with rfl | rfl | rfl | rfl | rfl | rfl | rfl <;> first | rfl | (exact absurd rfl ne) | (cases e)
    rw[this]
    exact q
end
end K14
namespace K14
open PySem PySem.NumText L2 Pg
seal PE PA PT PW PS jw PG um PI ud PO PK
section
variable {P:Program} {w:World} {K:PySem.W.Frag} {mg:Str→Option Value} {base:Heap} {f:Addr} {fd:FuncData} {d:Nat→Addr} {cR:Addr}
theorem GG (F:qE K "is_number_within" "is_number_within" (top 24) f fd) (C1:qH P w K mg base zO 1 "is_number" ["thing"] (vp K)):zJ P w K mg base zO 2 f fd ["thing","least","most"] (j8 K):=by
 refine F.ok (N:=["thing","least","most"]) ⟨rfl,rfl,rfl,by decide +kernel,rfl,by decide +kernel,by decide +kernel⟩ (fun vs H Q E h=>?_) (fun cdv A outer s H vs Q E hr h=>?_)
 ·obtain⟨v,a,b,rfl,_⟩:=h
  rfl
 ·obtain⟨v,a,b,rfl,h⟩:=h
  refine⟨_,zi (zp (yI (zj C1 hr (by decide) zu (za (pv 0) zd)) (yI (qB UA (pv 1) (pv 0) (zD _)) (yT (qB UA (pv 0) (pv 2) (zD _)))))),?_⟩
  rcases h with ⟨z,rfl,q⟩ | ⟨nn,q⟩
  ·refine⟨_,rfl,_,rfl,.inl ⟨z,rfl,true,rfl,y8 ⟨_,rfl,_,rfl,_,_,rfl,rfl,_,rfl,?_⟩⟩⟩
   refine yv (fun e=>⟨_,rfl,_,rfl,_,_,rfl,rfl,?_⟩) (fun e=>?_)
   ·have e1:a≤z:=of_decide_eq_true e
    show Q (.bl (decide (z≤b))) H
    rw[show decide (z≤b)=decide (a≤z∧z≤b) by simp[e1]]
    exact q
   ·have e1:¬ a≤z:=fun c=>e (decide_eq_true c)
    show Q (.bl false) H
    rw[show false=decide (a≤z∧z≤b) by simp[e1]]
    exact q
  ·exact⟨_,rfl,_,rfl,.inr ⟨nn,false,rfl,qN q⟩⟩
end
end K14
namespace Pg
open PySem PySem.NumText L2
def RR (z:Int):Str:=toString z
def dg (n:Nat):List Nat:=(Nat.toDigits 10 n).map Char.toNat
theorem ZM (n:Nat):(RR (n:Nat)).cps.toList=dg n:=PySem.W.KIN.signs_num n
theorem wz (n:Nat):AllDigits (dg n):=by
 intro c hc
 obtain⟨ch,hch,e⟩:=bZ.mp hc
 have r:=PyProof.Rows.digit_range (Nat.isDigit_of_mem_toDigits (by decide) (by decide) hch)
 rw[← e]
 exact r
theorem uH (n:Nat):1≤(dg n).length:=by unfold dg;rw[bM];exact PySem.toDigits_len_ge 10 n
theorem Gy {k n:Nat} (hk:1≤k) (hn:n<10 ^ k):(dg n).length≤k:=by unfold dg;rw[bM];exact PySem.toDigits_len_pow (by decide) hk hn
theorem Wp {a b:Str} (h:a.cps.toList=b.cps.toList):a=b:=by
 obtain⟨a⟩:=a
 obtain⟨b⟩:=b
 have:a=b:=cX.mp h
 rw[this]
theorem Ys {z:Int} (h0:0≤z) (h1:z<2 ^ 64):z.natAbs.log2<1920:=by
 by_cases h:z.natAbs=0
 ·rw[h];decide
 ·exact Cb ((Nat.log2_lt h).mpr (show z.natAbs<2 ^ 64 by omega)) (by decide)
theorem ya (a b:Str):(a++b).cps.toList=a.cps.toList++b.cps.toList:=by
 show (a.cps++b.cps).toList=_
 simp
theorem qF (z:Str):z.length=z.cps.toList.length:=by show z.cps.size=_;simp
theorem Zb (a b:Str):(a++b).length=a.length+b.length:=by rw[qF,ya,bP,← qF,← qF]
theorem M5 {a b:Str} {m n:Nat} (h1:a.length≤m) (h2:b.length≤n):(a++b).length≤m+n:=by rw[Zb];exact Nat.add_le_add h1 h2
theorem Wq {n m:Nat} (h:n≤m) (k:Nat.ble m 1000000=true):n≤sizeLine:=Bj h (Bj (b8 k) (by rw[sizeLine_eq];decide))
theorem rX {a b m n:Nat} (h1:a≤m) (h2:b≤n) (k:Nat.ble (m+n) 1000000=true):a+b≤sizeLine:=Wq (Nat.add_le_add h1 h2) k
def LY (c:Nat):Bool:=decide (48≤c)&&decide (c≤57)
def WD (l:List Nat):Bool:=!l.isEmpty&&l.all LY
theorem Mp (c:Nat):(!(Builtin.Str.occurrences ("0123456789":Str) ⟨#[c]⟩ 0 ("0123456789":Str).length 1).isEmpty)=LY c:=by
 rw[XZ]
 have e:("0123456789":Str).cps.toList=[48,49,50,51,52,53,54,55,56,57]:=by decide +kernel
 rw[e]
 by_cases h:c<58
 ·have all:∀ c<58,[48,49,50,51,52,53,54,55,56,57].contains c=LY c:=by decide +kernel
  exact all c h
 ·have e1:LY c=false:=by
   unfold LY
   rw[decide_eq_false (p:=c≤57) (fun z=>h (Nat.lt_succ_of_le z)),Bool.and_false]
  rw[e1,Bool.eq_false_iff]
  intro z
  have all:∀ x∈[48,49,50,51,52,53,54,55,56,57],x<58:=by decide +kernel
  exact h (all c (BH.mp z))
def XQ:Sp:=fun vs H Q _=>∃ z,vs=[.str z]∧z.length≤100000∧∀ H',zx H H'→Q (.bl (WD z.cps.toList)) H'
end Pg
namespace L2
open PySem PySem.Spec PyProof.Rows
abbrev TJ:=St→Hp→(List Str→Hp→Prop)→Prop
section
variable {X:Cx} {e:Expr} {es:List Expr} {te:TE} {t:TJ} {pos:Pos}
end
end L2
namespace Pg
open PySem L2
theorem X1 {n:Nat} (h:10≤n):dg n=dg (n/10)++[48+n%10]:=by
 unfold dg
 rw[Nat.toDigits_of_base_le (by decide) h,Bc,List.map_singleton]
 congr 2
 have:n%10<10:=Nat.mod_lt _ (by decide)
 generalize n%10=d at this
 match d,this with
 | 0,_=>rfl
 | 1,_=>rfl
 | 2,_=>rfl
 | 3,_=>rfl
 | 4,_=>rfl
 | 5,_=>rfl
 | 6,_=>rfl
 | 7,_=>rfl
 | 8,_=>rfl
 | 9,_=>rfl
 | d+10,h=>omega
theorem OT {n:Nat} (h:n<10):dg n=[48+n]:=by
 match n,h with
 | 0,_=>rfl
 | 1,_=>rfl
 | 2,_=>rfl
 | 3,_=>rfl
 | 4,_=>rfl
 | 5,_=>rfl
 | 6,_=>rfl
 | 7,_=>rfl
 | 8,_=>rfl
 | 9,_=>rfl
 | d+10,h=>omega
theorem Vy (sep z:Str):Txt.join sep [z]=z:=rfl
theorem jL (sep z:Str) {zs:List Str} (h:zs≠[]):Txt.join sep (zs++[z])=Txt.join sep zs++sep++z:=by
 cases zs with
 | nil=>exact absurd rfl h
 | cons a r =>
  unfold Txt.join Builtin.Str.glued
  show Str.mk ((r++[z]).foldl _ _)=Str.mk (_++_++_)
  rw[List.foldl_append]
  rfl
theorem Qw {z:Int} {k:Nat} (h0:0≤z) (hk:1≤k) (h1:z.toNat<10 ^ k):(RR z).length≤k:=by
 obtain⟨n,rfl⟩:=BP h0
 rw[qF,ZM]
 exact Gy hk (by simpa using h1)
end Pg
namespace L2
open PySem PySem.Spec PyProof.Rows
structure wq (J:It) (H:Hp) (xs:List V):Prop where
 go:∀ i x H',xs[i]? = some x→zx H H'→J.go i H'∧∀ y H'',J.yld i H' y H''→H''=H'∧y=x
 stop:∀ H',zx H H'→J.stop xs.length H'
theorem qT {K:PySem.W.Frag} {a:Addr} {xs:List V} {H:Hp} (h:z5 K H a xs):wq (nK K a) H xs :=
 ⟨fun i x H' e s=>⟨⟨xs,x,s.seq h,e⟩,fun y H'' ⟨e1,e2⟩=>⟨e1,Option.some.inj ((e2 xs (s.seq h)).symm.trans e)⟩⟩,fun H' s=>⟨xs,s.seq h,bK _⟩⟩
theorem yS {K:PySem.W.Frag} {a:Addr} {xs:List V} {H:Hp} (h:qg K H a xs):wq (NA K a) H xs :=
 ⟨fun i x H' e s=>⟨⟨xs,x,s.tup h,e⟩,fun y H'' ⟨e1,e2⟩=>⟨e1,Option.some.inj ((e2 xs (s.tup h)).symm.trans e)⟩⟩,fun H' s=>⟨xs,s.tup h,bK _⟩⟩
theorem vg {lo:Int} {n:Nat} {H:Hp}:wq (Mb lo n) H ((List.range n).map fun k=>V.int (lo+(k:Nat))):=by
 refine⟨fun i x H' e s=>?_,fun H' s=>by rw[bM,Bm];exact bK n⟩
 rw[bR] at e
 obtain⟨k,hk,rfl⟩:=bX.mp e
 obtain⟨h1,h2⟩:=bU.mp hk
 simp at h1 h2
 exact⟨by show i<n;omega,fun y H'' ⟨e1,e2⟩=>⟨e1,by rw[e2,← h2]⟩⟩
theorem UL {z:Str} {H:Hp}:wq (R6 z) H (z.cps.toList.map bH):=by
 refine⟨fun i x H' e s=>?_,fun H' s=>by rw[bM,Bw];exact bK _⟩
 rw[bR] at e
 obtain⟨c,hc,rfl⟩:=bX.mp e
 have hc':z.cps[i]? = some c:=by simpa using hc
 exact⟨(BM.mp hc').1,fun y H'' ⟨e1,c',h1,e2⟩=>⟨e1,by rw[e2,Option.some.inj (h1.symm.trans hc')];rfl⟩⟩
section
variable {J:It} {D:Addr} {g:TG} {tt:TT} {te:TE} {fin:List V→Hp→Prop} {σ:St} {H:Hp} {xs:List V}
theorem yL (W:wq J H xs) (hD:H D=none) (jT:Nat→List V→Hp→Prop) (Sg:St→Prop) (s0:Sg σ) (g0:jT 0 [] (upd H D (.lst [])))
  (hs:∀ i x ys σ' H',xs[i]? = some x→Sg σ'→zx H H'→H' D=some (.lst ys)→ys.length≤i→jT i ys H'→YG D g tt te x ys (fun ys' σ2 H2=>Sg σ2∧zx H H2∧H2 D=some (.lst ys')∧ys'.length≤i+1∧jT (i+1) ys' H2) σ' H')
  (hf:∀ ys H',zx H H'→H' D=some (.lst ys)→ys.length≤xs.length→jT xs.length ys H'→fin ys H'):yG J D g tt te fin σ (upd H D (.lst [])):=by
 refine⟨fun i m ys σ' H'=>m=xs.length - i∧i≤xs.length∧Sg σ'∧zx H H'∧H' D=some (.lst ys)∧ys.length≤i∧jT i ys H',⟨xs.length,by simp,Bo _,s0,zx.upd hD,zm,bK _,g0⟩,fun i m ys σ H ⟨_,_,_,_,h,_⟩=>h,?_⟩
 rintro i m ys σ' H' ⟨rfl,hi,h1,h2,h3,h4,h5⟩
 by_cases hlt:i<xs.length
 ·have hx:xs[i]? = some xs[i]:=bO hlt
  obtain⟨w1,w2⟩:=W.go i _ H' hx h2
  refine .inr ⟨w1,fun ys' σ2 H2=>Sg σ2∧zx H H2∧H2 D=some (.lst ys')∧ys'.length≤i+1∧jT (i+1) ys' H2,fun ys' σ2 H2 p=>⟨xs.length - (i+1),by omega,rfl,hlt,p⟩,fun y H'' hy=>?_⟩
  obtain⟨e1,e2⟩:=w2 y H'' hy
  subst e1 e2
  exact hs i _ ys σ' _ hx h1 h2 h3 h4 h5
 ·have e:i=xs.length:=by omega
  subst e
  exact .inl ⟨W.stop H' h2,hf ys H' h2 h3 h4 h5⟩
theorem Zf (W:wq J H xs) (hD:H D=none) (hz:xs.length<sizeLine) (p:V→Bool) (φ:V→V)
  (ht:∀ x∈xs,∀ H' R,zx H H'→R (p x) H'→tt (σ.set 0 (some x)) H' R)
  (he:∀ x∈xs,p x=true→∀ H' R,zx H H'→R (φ x) H'→te (σ.set 0 (some x)) H' R)
  (hf:fin ((xs.filter p).map φ) (upd H D (.lst ((xs.filter p).map φ)))):yG J D (zX 0) tt te fin σ (upd H D (.lst [])):=by
 refine yL W hD (fun i ys H'=>ys=((xs.take i).filter p).map φ∧H'=upd H D (.lst ys)) (fun σ'=>∀ x,σ'.set 0 (some x) = σ.set 0 (some x)) (fun _=>rfl) ⟨rfl,rfl⟩ ?_ ?_
 ·rintro i x ys σ' H' hx hσ s hd hl ⟨rfl,rfl⟩
  have hi:i<xs.length:=(bU.mp hx).1
  have hm:=Bv hx
  have tk:xs.take (i+1)=xs.take i++[x]:=by rw[BI,hx];rfl
  have hσ2:∀ y,(σ'.set 0 (some x)).set 0 (some y) = σ.set 0 (some y):=fun y=>by rw[cn];exact hσ y
  show tt (σ'.set 0 (some x)) _ _
  rw[hσ x]
  refine ht x hm _ _ s ?_
  rw[hσ x] at hσ2
  cases hp:p x with
  | true =>
   refine y8 (he x hm hp _ _ s ⟨hd,by omega,hσ2,?_,zm,?_,?_,Xp⟩)
   ·rw[Xp];exact zx.upd hD
   ·rw[bP,Bu];omega
   ·rw[tk,Ch,Bc];simp[hp]
  | false =>
   refine qN ⟨hσ2,s,hd,by omega,?_,rfl⟩
   rw[tk,Ch,Bc];simp[hp]
 ·rintro ys H' s hd hl ⟨rfl,rfl⟩
  rw[BD]
  exact hf
end
end L2
namespace L2
theorem GH {p q:Nat→Bool} {l:List Nat} (h:∀ x∈l,p x=true→q x=true) (w:∃ x∈l,q x=true∧p x=false):l.countP p<l.countP q:=by
 induction l with
 | nil =>
  obtain⟨x,hx,_⟩:=w
  cases hx
 | cons a l ih =>
  rw[List.countP_cons,List.countP_cons]
  have hl:∀ x∈l,p x=true→q x=true:=fun x hx=>h x (Bk _ hx)
  obtain⟨x,hx,h1,h2⟩:=w
  rcases bN.mp hx with rfl | hx
  ·rw[h1,h2,if_pos rfl,if_neg bV]
   exact Nat.lt_succ_of_le (List.countP_mono_left hl)
  ·have:=ih hl ⟨x,hx,h1,h2⟩
   cases e:p a with
   | false =>
    rw[if_neg bV]
    exact Bq this (BU _ _)
   | true =>
    rw[h a Bb e,if_pos rfl]
    exact Nat.add_lt_add_right this 1
def NJ (key:Nat→List Nat) (n i:Nat):Int:=((List.range n).countP fun j=>decide (key j<key i):Nat)
theorem PP {key:Nat→List Nat} {n i j:Nat} (hi:i<n):decide (key i<key j)=decide (NJ key n i<NJ key n j):=by
 refine decide_eq_decide.mpr ⟨fun h=>?_,fun h=>?_⟩
 ·refine Int.ofNat_lt.mpr (GH (fun x _ e=>decide_eq_true (List.lt_trans (of_decide_eq_true e) h)) ⟨i,cw.mpr hi,decide_eq_true h,decide_eq_false (List.lt_irrefl _)⟩)
 ·have h:=Int.ofNat_lt.mp h
  refine Classical.byContradiction fun c=>Nat.not_lt.mpr (List.countP_mono_left fun x _ e=>?_) h
  have e:=of_decide_eq_true e
  refine decide_eq_true (Classical.byContradiction fun d=>c (List.lt_of_le_of_lt d e))
theorem Pu {key:Nat→List Nat} {n i j:Nat} (h:key i=key j):NJ key n i=NJ key n j:=by
 have:(fun k=>decide (key k<key i))=fun k=>decide (key k<key j):=funext fun k=>decide_eq_decide.mpr (by rw[h])
 unfold NJ
 rw[this]
theorem Xz {α:Type} [DecidableEq α] {l m:List α} (hn:l.Nodup) (hs:∀ x∈l,x∈m):l.length≤m.length:=by
 induction l generalizing m with
 | nil=>exact Bo _
 | cons a l ih =>
  obtain⟨h1,h2⟩:=BF.mp hn
  have ha:=hs a Bb
  have:=ih (m:=m.erase a) h2 fun x hx=>(List.mem_erase_of_ne (show x≠a from fun e=>h1 (e ▸ hx))).mpr (hs x (Bk _ hx))
  rw[CU ha] at this
  have:0<m.length:=CV ha
  rw[Bi]
  omega
theorem Vg {α:Type} [DecidableEq α] {l m:List α} (hn:l.Nodup) (hs:∀ x,x∈l↔x∈m) (hl:m.length≤l.length):m.Nodup:=by
 induction m generalizing l with
 | nil=>exact cV
 | cons a m ih =>
  have ha:a∈l:=(hs a).mpr Bb
  have no:¬ a∈m:=fun c=>by
   have:∀ x∈l,x∈m:=fun x hx=>by
    rcases bN.mp ((hs x).mp hx) with rfl | h
    ·exact c
    ·exact h
   have:=Xz hn this
   rw[Bi] at hl
   omega
  refine BF.mpr ⟨no,ih (l:=l.erase a) (hn.erase a) (fun x=>?_) ?_⟩
  ·rw[hn.mem_erase_iff,hs x,bN]
   exact⟨fun⟨h1,h2⟩=>h2.resolve_left h1,fun h=>⟨fun e=>no (e ▸ h),.inr h⟩⟩
  ·rw[CU ha]
   rw[Bi] at hl
   omega
theorem Xb {α:Type} [DecidableEq α] {l m:List α} (hn:l.Nodup) (hs:∀ x,x∈l↔x∈m):l.length<m.length↔¬ m.Nodup :=
 ⟨fun h c=>Nat.not_lt.mpr (Xz c fun x hx=>(hs x).mpr hx) h,fun h=>Nat.lt_of_not_le fun c=>h (Vg hn hs c)⟩
end L2
set_option maxHeartbeats 1000000
namespace SS
theorem Ld {k:Nat→Int} {x:Nat} {l:List Nat} (h:l.Pairwise fun a b=>k a≤k b):(uY k x l).Pairwise fun a b=>k a≤k b:=by
 unfold uY
 have h':=h
 rw[← CA (p:=fun y=>decide (k y≤k x)) (l:=l),cT] at h'
 obtain⟨h1,h2,h3⟩:=h'
 have lo:∀ y∈l.takeWhile (fun y=>decide (k y≤k x)),k y≤k x:=fun y hy=>of_decide_eq_true (Bp.mp List.all_takeWhile y hy)
 have hi:∀ y∈l.dropWhile (fun y=>decide (k y≤k x)),k x≤k y:=by
  cases e:l.dropWhile (fun y=>decide (k y≤k x)) with
  | nil=>intro y hy;cases hy
  | cons a r =>
   have ha:decide (k a≤k x)=false:=by
    have:=List.head?_dropWhile_not (fun y=>decide (k y≤k x)) l
    rw[e] at this
    simpa using this
   have ha:=of_decide_eq_false ha
   rw[e] at h2
   intro y hy
   rcases bN.mp hy with rfl | hy
   ·omega
   ·have:=(ci.mp h2).1 y hy
    omega
 refine cT.mpr ⟨h1,ci.mpr ⟨hi,h2⟩,fun a ha b hb=>?_⟩
 rcases bN.mp hb with rfl | hb
 ·exact lo a ha
 ·exact h3 a ha b hb
theorem mK (k:Nat→Int) (l:List Nat):(pY k l).Pairwise fun a b=>k a≤k b:=by
 have:∀ (l acc:List Nat),acc.Pairwise (fun a b=>k a≤k b)→(l.foldl (fun acc x=>uY k x acc) acc).Pairwise fun a b=>k a≤k b:=by
  intro l
  induction l with
  | nil=>intro acc h;exact h
  | cons x r ih =>
   intro acc h
   rw[cf]
   exact ih _ (Ld h)
 exact this l [] List.Pairwise.nil
end SS
namespace L2
open PySem PySem.Spec PyProof.Rows PySem.W
section
variable {prog:Program} {w:World} {A:Around} {s:Shared}
theorem Pi {Q:Bool→Shared→Prop} {a c:Str} {t t2 u u2:Tok} {x y:Int} (h1:a=c→x=y) (h:Q (decide (a.cps.toList<c.cps.toList)) s) :
  KatLex prog w A true (decide (2<2)) Q ([Value.str a t,Value.int x t2].zip [Value.str c u,Value.int y u2]) 0 s:=by
 refine kat_cons (wpAny_eqBool_str (kat_go (fun e=>kat_yes ?_) fun e=>kat_no ?_))
 ·have e:=of_decide_eq_true e
  have e2:=h1 e
  subst e e2
  refine kat_cons (wpAny_eqBool_int (kat_go (fun e=>kat_yes ?_) fun e=>?_))
  ·have h:Q (decide (a.cps.toList<a.cps.toList)) s:=h
   rw[decide_eq_false (List.lt_irrefl _)] at h
   exact h
  ·simp at e
 ·exact oneLt_str h
end
section
variable {X:Cx} {A:Around} {E:Value→Shared→Prop} {pins:List (Addr × Obj)} {σ:St} {H:Hp} {s:Shared} {a:Addr} {its:List Value} {ts:List V} {nm:Nat→Str} {am:Nat→Int} {P:PySem.Fin→Shared→Prop}
structure uO (H:Hp) (ts:List V) (nm:Nat→Str) (am:Nat→Int):Prop where
 at_:∀ i,i<ts.length→∃ t,ts[i]? = some (.ref t)∧H t=some (.tup [.str (nm i),.int (am i)])
 one:∀ i j,i<ts.length→j<ts.length→nm i=nm j→am i=am j
abbrev XH (nm:Nat→Str) (n:Nat):Nat→Int:=NJ (fun i=>(nm i).cps.toList) n
theorem vS (T:uO H ts nm am) (rv:z9 ts its) {P:Program} {w:World} {h:Heap} (ok:uf P w H h) {i:Nat} {v:Value} (hv:its[i]? = some v):∃ t o k1 k2 n,v = .ref t∧H t=some (.tup [.str (nm i),.int (am i)])∧h.get? t=some o∧o.cls = .type "tuple"∧o.data = .seq #[Value.str (nm i) k1,Value.int (am i) k2] n:=by
 have hi:i<ts.length:=by rw[rv.length];exact (bU.mp hv).1
 obtain⟨t,e1,e2⟩:=T.at_ i hi
 obtain⟨u,hu,ru⟩:=rv.get e1
 rw[hv] at hu
 cases hu
 cases ru
 obtain⟨_,us,rv,o,ho,hc,n,hd⟩:=ok t _ e2
 obtain⟨u1,u2,rfl,⟨k1,r1⟩,⟨k2,r2⟩⟩:=XF rv
 subst r1 r2
 exact⟨t,o,k1,k2,n,rfl,e2,ho,hc,hd⟩
theorem w5 (T:uO H ts nm am) (rv:z9 ts its) {P:Program} {w:World} {h:Heap} (ok:uf P w H h) {i:Nat} {v:Value} (hv:its[i]? = some v):v8 its (XH nm ts.length) v=XH nm ts.length i:=by
 have ex:∃ i,its[i]? = some v:=⟨i,hv⟩
 unfold v8
 rw[dif_pos ex]
 have hj:=ex.choose_spec
 generalize ex.choose=j at hj
 obtain⟨t,_,_,_,_,e1,e2,_⟩:=vS T rv ok hv
 obtain⟨t',_,_,_,_,e1',e2',_⟩:=vS T rv ok hj
 rw[e1] at e1'
 cases e1'
 rw[e2] at e2'
 have en:nm i=nm j:=by
  have:=HO.tup.inj (Option.some.inj e2')
  exact V.str.inj (List.cons.inj this).1
 exact Pu (congrArg (fun z:Str=>z.cps.toList) en.symm)
theorem Gw (T:uO H ts nm am) (rv:z9 ts its) {P:Program} {w:World} (ok:uf P w H s.heap) :
  @SG.LP ⟨v8 its (XH nm ts.length),tuples' true⟩ P w A s (its.toArray.zip its.toArray):=by
 intro p hp q hq Q E h
 rw[ksk_zip] at hp hq
 obtain⟨x,x'⟩:=p
 obtain⟨y,y'⟩:=q
 obtain⟨i,hi⟩:=cp.mp (BY hp).1
 obtain⟨j,hj⟩:=cp.mp (BY hq).1
 rw[ksk_tl] at hi hj
 have li:i<ts.length:=by rw[rv.length];exact (bU.mp hi).1
 have lj:j<ts.length:=by rw[rv.length];exact (bU.mp hj).1
 have h':Q (decide (v8 its (XH nm ts.length) x<v8 its (XH nm ts.length) y)) s:=h
 rw[w5 T rv ok hi,w5 T rv ok hj,← PP li] at h'
 obtain⟨t,o,k1,k2,n,e1,_,e3,_,e5⟩:=vS T rv ok hi
 obtain⟨t',o',l1,l2,n',f1,_,f3,_,f5⟩:=vS T rv ok hj
 show wpAny (model P w) A (keyLt' (tuples' true) x y) Q E s
 rw[e1,f1]
 exact kat_lt e3 e5 f3 f5 (Pi (T.one i j li lj) h')
theorem Uy (T:uO H ts nm am) (rv:z9 ts its) {P:Program} {w:World} {h:Heap} (ok:uf P w H h) :
  z9 ((SS.pY (XH nm ts.length) (List.range ts.length)).map fun i=>ts.getD i .non) ((@SG.y7 ⟨v8 its (XH nm ts.length),tuples' true⟩ (its.zip its)).map (·.2)):=by
 letI:SG.Rk:=⟨v8 its (XH nm ts.length),tuples' true⟩
 have tl:=rv.length
 have P0:Paired (fun (i:Nat) (p:Keyed)=>SG.ky p=XH nm ts.length i∧qp (ts.getD i .non) p.2) (List.range ts.length) (its.zip its):=by
  refine YW (by rw[Bm,List.length_zip,Nat.min_self,tl]) fun i j p e1 e2=>?_
  obtain⟨hi,rfl⟩:i<ts.length∧i=j:=by
   rw[bU] at e1
   obtain⟨h1,h2⟩:=e1
   rw[cW] at h2
   exact⟨by simpa using h1,h2⟩
  have e3:its[i]? = some p.1∧its[i]? = some p.2:=List.getElem?_zip_eq_some.mp e2
  refine⟨w5 T rv ok e3.1,?_⟩
  obtain⟨u,hu,rv⟩:=rv.get (i:=i) (x:=ts.getD i .non) (by rw[Bx,bO hi];rfl)
  rw[e3.2] at hu
  cases hu
  exact rv
 have P1:=SG.Py (k:=XH nm ts.length) (fun i p h=>h.1) P0
 have:∀ {l:List Nat} {m:List Keyed},Paired (fun (i:Nat) (p:Keyed)=>SG.ky p=XH nm ts.length i∧qp (ts.getD i .non) p.2) l m→z9 (l.map fun i=>ts.getD i .non) (m.map (·.2)):=by
  intro l m h
  induction h with
  | nil=>exact .nil
  | cons r _ ih=>exact .cons r.2 ih
 exact this P1
theorem lJ {h:Heap} {its:List Value} (H:∀ v∈its,∃ a o xs n k t,v=Value.ref a∧h.get? a=some o∧o.cls = .type "tuple"∧o.data = .seq xs n∧xs[0]? = some (Value.str k t)):∃ fs,KatTups h its fs∧fs.length=its.length∧∀ f∈fs,∃ k t,f=Value.str k t:=by
 induction its with
 | nil=>exact⟨[],trivial,rfl,fun f hf=>absurd hf (by simp)⟩
 | cons v its ih =>
  obtain⟨fs,t1,t2,t3⟩:=ih fun v hv=>H v (Bk _ hv)
  obtain⟨a,o,xs,n,k,t,e1,e2,e3,e4,e5⟩:=H v Bb
  refine⟨.str k t::fs,⟨⟨a,o,xs,n,e1,e2,e3,e4,e5⟩,t1⟩,by rw[Bi,Bi,t2],fun f hf=>?_⟩
  rcases bN.mp hf with rfl | hf
  ·exact⟨k,t,rfl⟩
  ·exact t3 f hf
theorem GT {n:Nat} (I:zH X pins σ H s) (ha:s.heap.get? a=some (seqObj "list" its.toArray n)) (fa:jC X pins H a) (h64:its.length<64) (T:uO H ts nm am) (rv:z9 ts its)
  (h:∀ s' c out,z9 ((SS.pY (XH nm ts.length) (List.range ts.length)).map fun i=>ts.getD i .non) out→zH X pins σ H s'→s'.heap.get? a=some (seqObj "list" out.toArray c)→P (.done (.ret .none)) s') :
  wpAny (model X.prog X.w) A (Builtin.«list.sort» ⟨[.ref a],[]⟩) P E s:=by
 letI:SG.Rk:=⟨v8 its (XH nm ts.length),tuples' true⟩
 have u1:=Heap.SameBut.update s.heap a (Obj.mapSeq fun _=>(#[]:Array Value))
 obtain⟨e1,g1⟩:∃ e1,(s.heap.update a (Obj.mapSeq fun _=>(#[]:Array Value))).get? a=some (seqObj "list" #[] e1):=⟨_,get?_update_seq ha fun _=>#[]⟩
 have J1:=I.turn1 fa u1
 have J2:=J1.kept (t':=s.toks) (h':=(s.heap.update a (Obj.mapSeq fun _=>(#[]:Array Value))).push (seqObj "tuple" its.toArray 0)) fun b o q=>bW _ q
 have J3:=J2.kept (t':=s.toks) (h':=((s.heap.update a (Obj.mapSeq fun _=>(#[]:Array Value))).push (seqObj "tuple" its.toArray 0)).push (seqObj "list" #[] 0)) fun b o q=>bW _ q
 have g3:(((s.heap.update a (Obj.mapSeq fun _=>(#[]:Array Value))).push (seqObj "tuple" its.toArray 0)).push (seqObj "list" #[] 0)).get? a=some (seqObj "list" #[] e1):=bW _ (bW _ g1)
 rw[list_sort_plain]
 refine wpAny_bind (listItems_at ha rfl (wpAny_bind (listUpdate_at ha rfl (wpAny_bind (seqEpoch_at g1 rfl (wpAny_bind (wpAny_newTuple (wpAny_bind (wpAny_newList (wpAny_holding ?_) (Bo _))) (by show its.length≤_;rw[sizeLine_eq];omega))))) (by rw[bT,sizeLine_eq];omega) (Bo _))))
 dsimp only
 have ov:=Uy T rv J3.hok
 have zl:(its.zip its).length=its.length:=by rw[List.length_zip,Nat.min_self]
 have zs:(its.toArray.zip its.toArray).size=its.length:=by rw[← zl,← ksk_tl its,← ksk_zip,Bw,ksk_tl]
 have fin:∀ (st:SortSt),(arrOf st).toList=SG.y7 (its.zip its)→failedOf st=none→wpAny (model X.prog X.w) A (do
   let touched:=(← seqEpoch a) != e1
   Builtin.List.listUpdate (.ref a) fun _=>(arrOf st).map (·.2)
   if let some e:=failedOf st then rule "list.sort.comparison-raised";throw e
   if touched then rule "list.sort.modified";raiseError "ValueError" "list modified during sort"
   ret .none) P E { s with heap:=((s.heap.update a (Obj.mapSeq fun _=>(#[]:Array Value))).push (seqObj "tuple" its.toArray 0)).push (seqObj "list" #[] 0) }:=fun st e3 e2=>by
  have ez:((arrOf st).map (·.2))=((SG.y7 (its.zip its)).map (·.2)).toArray:=by rw[← e3,← Array.toList_map,Array.toArray_toList]
  have sz:((arrOf st).map (·.2)).size≤64:=by rw[ez];simp only[bT,bM];rw[SG.y6,zl];omega
  have u3:=Heap.SameBut.update (((s.heap.update a (Obj.mapSeq fun _=>(#[]:Array Value))).push (seqObj "tuple" its.toArray 0)).push (seqObj "list" #[] 0)) a (Obj.mapSeq fun _=>(arrOf st).map (·.2))
  have a3:=get?_update_seq g3 fun _=>(arrOf st).map (·.2)
  refine wpAny_bind (seqEpoch_at g3 rfl (wpAny_bind (listUpdate_at g3 rfl ?_ (Bo _) (Bj sz (by rw[sizeLine_eq];omega)))))
  rw[e2]
  simp only[bne_self_eq_false,BS,if_false]
  have a4:∃ c,((((s.heap.update a (Obj.mapSeq fun _=>(#[]:Array Value))).push (seqObj "tuple" its.toArray 0)).push (seqObj "list" #[] 0)).update a (Obj.mapSeq fun _=>(arrOf st).map (·.2))).get? a=some (seqObj "list" ((SG.y7 (its.zip its)).map (·.2)).toArray c):=⟨_,by rw[← ez];exact a3⟩
  obtain⟨c,a4⟩:=a4
  exact wpAny_pure (h _ c _ ov (J3.turn1 fa u3) a4)
 by_cases h2:its.toArray.size<2
 ·rw[if_pos h2,if_pos h2]
  refine wpAny_bind (wpAny_pure ?_)
  rw[StateT.run_pure]
  refine wpAny_bind (wpAny_pure ?_)
  have h2':its.length<2:=by simpa using h2
  refine fin _ ?_ rfl
  have up:SG.Up (its.zip its):=by
   cases q:its.zip its with
   | nil=>exact List.Pairwise.nil
   | cons x r =>
    cases r with
    | nil=>exact Cf _ _
    | cons y r=>rw[q] at zl;simp at zl;omega
  rw[SG.pV up]
  exact ksk_zip its.toArray its
 ·rw[if_neg h2,if_neg h2]
  have h2':2≤its.length:=by simpa using h2
  obtain⟨fs,k1,k2,k3⟩:=lJ (h:=(((s.heap.update a (Obj.mapSeq fun _=>(#[]:Array Value))).push (seqObj "tuple" its.toArray 0)).push (seqObj "list" #[] 0))) (its:=its) fun v hv=>by
   obtain⟨i,hi⟩:=cp.mp hv
   obtain⟨t,o,k1,k2,n',y1,_,y3,y4,y5⟩:=vS T rv J3.hok hi
   exact⟨t,o,_,n',_,k1,y1,y3,y4,y5,rfl⟩
  refine wpAny_bind (kat_kind (T:=.type "str") k1 (by omega) (fun v hv=>?_) rfl ?_)
  ·obtain⟨k,t,rfl⟩:=k3 v hv
   exact .now
  refine wpAny_bind (wpAny_mono (SG.mS (b₀:=its.toArray.zip its.toArray) (st:=SortSt.mk' (tuples' true) (its.toArray.zip its.toArray) #[] 7 none)
   (Q:=fun _ st'=>failedOf st'=none∧(arrOf st').toList=SG.y7 (its.toArray.zip its.toArray).toList) (Gw T rv J3.hok) ⟨.refl _,rfl,rfl,rfl⟩ rfl (by omega) (by omega) fun st' z1 z2=>⟨z1,z2⟩) ?_ fun _ _ z=>z)
  rintro ⟨⟨⟩,st'⟩ s' ⟨rfl,z1,z2⟩
  rw[ksk_zip] at z2
  exact fin st' z2 z1
def M7 (K:PySem.W.Frag):List V→Hp→VK→Prop:=fun xs H Q=>∃ (a:Addr) (ts:List V) (nm:Nat→Str) (am:Nat→Int),xs=[.ref a]∧z5 K H a ts∧ts.length<64∧uO H ts nm am ∧
 ∀ is:List Nat,is.Perm (List.range ts.length)→is.Pairwise (fun i j=>¬ (nm j).cps.toList<(nm i).cps.toList)→Va H (.lst (is.map fun i=>ts.getD i .non)) Q
theorem Qu:jq X (.builtin "sorted") (M7 X.K):=by
 intro pins s σ H xs us Q I r h
 obtain⟨a,ts,nm,am,rfl,ha,h64,T,q⟩:=h
 cases r with
 | cons r1 rr =>
  cases rr
  cases r1
  obtain⟨its,rv,pl,hz⟩:=I.list ha
  have tl:=rv.length
  refine Calls.call_function_entry kind_sorted plain_sorted entry_sorted (args_sorted1 _) ?_
  unfold Builtin.«sorted»
  refine wpAny_bind (m:=checkCount "sorted" 1 1 _) (wpAny_pure (wpAny_bind (collect_list pl.isList (wpAny_bind (wpAny_newList ?_ (by rw[sizeLine_eq];omega))) (by rw[sizeLine_eq];omega))))
  have u0:=Heap.SameBut.update (s.heap.push (seqObj "list" #[] 0)) s.heap.objs.size (Obj.mapSeq (· ++ its.toArray))
  have J1:=I.kept (t':=s.toks) (h':=(s.heap.push (seqObj "list" #[] 0)).update s.heap.objs.size (Obj.mapSeq (· ++ its.toArray))) fun b o e=>(u0.2 b (b5 (bQ e))).trans (bW _ e)
  have J2:=J1.kept (t':=s.toks) (h':=((s.heap.push (seqObj "list" #[] 0)).update s.heap.objs.size (Obj.mapSeq (· ++ its.toArray))).push (seqObj "list" its.toArray 0)) fun b o e=>bW _ e
  have hn:H ((s.heap.push (seqObj "list" #[] 0)).update s.heap.objs.size (Obj.mapSeq (· ++ its.toArray))).objs.size=none:=J1.hok.fresh (bK _)
  have fa:=J1.fpOk (bK _) hn
  refine wpAny_bind (wpAny_holding (wpAny_call_entry slot_list_sort ⟨_,Bd _ rfl,rfl⟩ entry_list_sort ?body (args_list_sort _)))
  case body =>
   refine GT (X:=X) (pins:=pins) (σ:=σ) (H:=H) J2 (Bd _ rfl) fa (by omega) T rv fun s' c out ov J hq=>⟨_,rfl,wpAny_pure ⟨_,rfl,?_⟩⟩
   have pm:=SS.xc (XH nm ts.length) (List.range ts.length)
   refine⟨.ref _,_,J.adopt fa hq ov ?_,rfl,(q _ pm ((SS.mK _ _).imp_of_mem fun {i j} hi hj hl c=>?_)).at hn⟩
   ·rw[bM,pm.length_eq,Bm,sizeLine_eq]
    omega
   ·have hj:=cw.mp (pm.mem_iff.mp hj)
    have e:=PP (key:=fun i=>(nm i).cps.toList) (j:=i) hj
    rw[decide_eq_true c] at e
    exact absurd (of_decide_eq_true e.symm) (Int.not_lt.mpr hl)
end
end L2
namespace L2
open PySem PySem.Spec PyProof.Rows
structure z4 (H:Hp) (ys:List V) (cs:List (List V)):Prop where
 len:ys.length=cs.length
 at_:∀ (i:Nat) (c:List V),cs[i]? = some c→∃ a,ys[i]? = some (V.ref a)∧H a=some (.tup c)
section
variable {H H':Hp} {ys:List V} {cs:List (List V)}
theorem z4.nil:z4 H [] []:=⟨rfl,fun i c e=>by cases e⟩
theorem z4.mono (T:z4 H ys cs) (k:∀ b c,H b=some (.tup c)→H' b=some (.tup c)):z4 H' ys cs:=⟨T.len,fun i c e=>by
 obtain⟨a,h1,h2⟩:=T.at_ i c e
 exact⟨a,h1,k _ _ h2⟩⟩
theorem z4.same (T:z4 H ys cs) (s:zx H H'):z4 H' ys cs:=T.mono fun _ _ h=>s _ _ h
theorem z4.upd {p:Addr} {o:HO} (T:z4 H ys cs) (n:∀ c,H p≠some (.tup c)):z4 (upd H p o) ys cs:=T.mono fun b c h=>by
 rw[zq (show b≠p from fun e=>n c (by rw[← e];exact h))]
 exact h
theorem z4.snoc {a:Addr} {c:List V} (T:z4 H ys cs) (h:H a=some (.tup c)):z4 H (ys++[.ref a]) (cs++[c]):=by
 refine⟨by rw[bP,bP,T.len];rfl,fun i d e=>?_⟩
 by_cases hi:i<cs.length
 ·rw[Bl hi] at e
  rw[Bl (by rw[T.len];exact hi)]
  exact T.at_ i d e
 ·have hi:=BL hi
  rw[bY hi] at e
  rw[bY (by rw[T.len];exact hi),T.len]
  cases q:i - cs.length with
  | zero =>
   rw[q] at e
   cases e
   exact⟨a,rfl,h⟩
  | succ n =>
   rw[q] at e
   cases e
theorem z4.of_at (T:z4 H ys cs) {i:Nat} {y:V} (h:ys[i]? = some y):∃ a c,y = .ref a∧cs[i]? = some c∧H a=some (.tup c):=by
 have hi:i<cs.length:=by rw[← T.len];exact (bU.mp h).1
 obtain⟨a,h1,h2⟩:=T.at_ i _ (bO hi)
 rw[h] at h1
 exact⟨a,_,Option.some.inj h1,bO hi,h2⟩
end
def cP (p:Str × Int):List V:=[.str p.1,.int p.2]
def G6 (prs:List (Str × Int)) (i:Nat):Str × Int:=prs.getD i (Str.empty,0)
theorem Qs {prs:List (Str × Int)} {i:Nat} {p:Str × Int} (h:prs[i]? = some p):G6 prs i=p:=by
 unfold G6
 rw[Bx,h]
 rfl
theorem gk (prs:List (Str × Int)):(List.range prs.length).map (G6 prs)=prs:=by
 apply ck
 intro i
 rw[bR]
 by_cases h:i<prs.length
 ·rw[List.getElem?_range h,CD,bO h,Qs (bO h)]
 ·rw[BG (by simpa using h),BG (BL h)]
  rfl
theorem X5 {H:Hp} {ts:List V} {prs:List (Str × Int)} (T:z4 H ts (prs.map cP)) (nd:(prs.map (·.1)).Nodup):uO H ts (fun i=>(G6 prs i).1) (fun i=>(G6 prs i).2):=by
 have tl:ts.length=prs.length:=by rw[T.len,bM]
 refine⟨fun i hi=>?_,fun i j hi hj e=>?_⟩
 ·have hp:=bO (tl ▸ hi)
  rw[Qs hp]
  exact T.at_ i _ (by rw[bR,hp];rfl)
 ·have e1:(G6 prs i).1=(G6 prs j).1:=e
  have hp:=bO (tl ▸ hi)
  have hq:=bO (tl ▸ hj)
  have:i=j:=by
   have li:i<(prs.map (·.1)).length:=by rw[bM];exact tl ▸ hi
   have lj:j<(prs.map (·.1)).length:=by rw[bM];exact tl ▸ hj
   refine (List.getElem_inj (h₀:=li) (h₁:=lj) nd).mp ?_
   rw[Ci,Ci,← Qs hp,← Qs hq]
   exact e1
  rw[this]
theorem Qc {H:Hp} {ts:List V} {prs:List (Str × Int)} (T:z4 H ts (prs.map cP)) {is:List Nat} (pm:is.Perm (List.range ts.length)) :
  (is.map (G6 prs)).Perm prs∧z4 H (is.map fun i=>ts.getD i .non) ((is.map (G6 prs)).map cP):=by
 have tl:ts.length=prs.length:=by rw[T.len,bM]
 rw[tl] at pm
 constructor
 ·have:=pm.map (G6 prs)
  rw[gk] at this
  exact this
 ·refine⟨by simp,fun i c e=>?_⟩
  rw[bR,bR] at e
  obtain⟨q,hq,rfl⟩:=bX.mp e
  obtain⟨j,hj,rfl⟩:=bX.mp hq
  have lj:j<prs.length:=cw.mp (pm.mem_iff.mp (Bv hj))
  have hp:=bO lj
  obtain⟨a,h1,h2⟩:=T.at_ j _ (by rw[bR,hp];rfl)
  rw[Qs hp]
  refine⟨a,?_,h2⟩
  rw[bR,hj,CD,Bx,h1]
  rfl
section
variable {J:It} {D a:Addr} {g:TG} {tt:TT} {te:TE} {fin:List V→Hp→Prop} {σ:St} {H:Hp} {xs:List V} {K:PySem.W.Frag}
end
end L2
namespace ST
open PySem
def Vs (xs:Array Nat):Prop:=∀ i j,i<j→j<xs.size→xs.getD i 0<xs.getD j 0
theorem oo {xs:Array Nat} {i:Nat} (h:i<xs.size) (d e:Nat):xs.getD i d=xs.getD i e:=by
 simp[Array.getD,h]
theorem Je {xs:Array Nat} (hr:Vs xs) (j:Nat):∀ (fuel lo hi:Nat),hi - lo≤fuel→lo≤hi→hi≤xs.size→(∀ i,i<lo→xs.getD i 0<j)→(∀ i,hi≤i→i<xs.size→j≤xs.getD i 0) →
  (SetTable.below.go xs j fuel lo hi≤xs.size∧(∀ i,i<SetTable.below.go xs j fuel lo hi→xs.getD i 0<j)∧∀ i,SetTable.below.go xs j fuel lo hi≤i→i<xs.size→j≤xs.getD i 0)
 | 0,lo,hi,hf,hl,hs,h1,h2=>by
  have e:lo=hi:=by omega
  subst e
  exact⟨hs,h1,h2⟩
 | fuel+1,lo,hi,hf,hl,hs,h1,h2=>by
  unfold SetTable.below.go
  by_cases hlt:lo<hi
  ·rw[if_pos hlt]
   have hm:(lo+hi)/2<hi:=by omega
   have hm2:lo≤(lo+hi)/2:=by omega
   have hms:(lo+hi)/2<xs.size:=by omega
   show (if xs.getD ((lo+hi)/2) j<j then _ else _)≤_∧_
   simp only
   rw[oo hms j 0]
   by_cases hc:xs.getD ((lo+hi)/2) 0<j
   ·rw[if_pos hc]
    refine Je hr j fuel _ hi (by omega) (by omega) hs (fun i hi'=>?_) h2
    by_cases e:i=(lo+hi)/2
    ·rw[e];exact hc
    ·exact Cb (hr i _ (by omega) hms) hc
   ·rw[if_neg hc]
    refine Je hr j fuel lo _ (by omega) hm2 (by omega) h1 (fun i hi' his=>?_)
    by_cases e:i=(lo+hi)/2
    ·rw[e];exact BL hc
    ·exact Bj (BL hc) (cx (hr _ i (by omega) his))
  ·rw[if_neg hlt]
   have e:lo=hi:=by omega
   subst e
   exact⟨hs,h1,h2⟩
theorem WT {xs:Array Nat} (hr:Vs xs) (j:Nat):SetTable.below xs j≤xs.size∧(∀ i,i<SetTable.below xs j→xs.getD i 0<j)∧∀ i,SetTable.below xs j≤i→i<xs.size→j≤xs.getD i 0 :=
 Je hr j xs.size 0 xs.size (by omega) (by omega) (bK _) (fun i h=>absurd h (Nat.not_lt_zero i)) (fun i h1 h2=>absurd h2 (Nat.not_lt.mpr h1))
theorem ke {xs:Array Nat} {p x k:Nat} (hp:p≤xs.size):(SetTable.insertAt xs p x).getD k 0=if k<p then xs.getD k 0 else if k=p then x else xs.getD (k - 1) 0:=by
 unfold SetTable.insertAt
 have e:∀ (ys:Array Nat) (k:Nat),ys.getD k 0=(ys.toList[k]?).getD 0:=fun ys k=>by simp[Array.getD_eq_getD_getElem?]
 rw[e,e,e]
 have l:((xs.extract 0 p).push x++xs.extract p xs.size).toList=xs.toList.take p++x::xs.toList.drop p:=by
  simp[Array.toList_extract]
  rw[BO (by simp:_≤_)]
 rw[l]
 by_cases h1:k<p
 ·rw[if_pos h1,Bl (by rw[Bh,Bw];omega),CM h1]
 ·rw[if_neg h1,bY (by rw[Bh,Bw];omega),Bh,Bw,BQ hp]
  by_cases h2:k=p
  ·rw[if_pos h2,h2,cq];rfl
  ·rw[if_neg h2]
   obtain⟨m,hm⟩:∃ m,k - p=m+1:=⟨k - p - 1,by omega⟩
   rw[hm,Cg,CF]
   congr 2
   omega
theorem US {xs:Array Nat} {p x:Nat} (hp:p≤xs.size):(SetTable.insertAt xs p x).size=xs.size+1:=by
 unfold SetTable.insertAt
 simp
 omega
theorem oW {xs:Array Nat} (hr:Vs xs) {j:Nat} (hj:xs[SetTable.below xs j]?≠some j):Vs (SetTable.insertAt xs (SetTable.below xs j) j):=by
 obtain⟨h1,h2,h3⟩:=WT hr j
 have h4:∀ i,SetTable.below xs j≤i→i<xs.size→j<xs.getD i 0:=fun i a b=>by
  refine Nat.lt_of_le_of_ne (h3 i a b) fun e=>?_
  by_cases q:i=SetTable.below xs j
  ·apply hj
   rw[← q,CO b]
   have:xs.getD i 0=xs[i]:=by simp[Array.getD,b]
   rw[← this,← e]
  ·have:=hr (SetTable.below xs j) i (by omega) b
   have:=h3 (SetTable.below xs j) (bK _) (by omega)
   omega
 intro a b hab hb
 rw[US h1] at hb
 rw[ke h1,ke h1]
 by_cases c1:b<SetTable.below xs j
 ·rw[if_pos (by omega:a<SetTable.below xs j),if_pos c1]
  exact hr a b hab (by omega)
 ·rw[if_neg c1]
  by_cases c2:b=SetTable.below xs j
  ·rw[if_pos c2,if_pos (by omega:a<SetTable.below xs j)]
   exact h2 a (by omega)
  ·rw[if_neg c2]
   by_cases c3:a<SetTable.below xs j
   ·rw[if_pos c3]
    exact Cb (h2 a c3) (h4 (b - 1) (by omega) (by omega))
   ·rw[if_neg c3]
    by_cases c4:a=SetTable.below xs j
    ·rw[if_pos c4]
     exact h4 (b - 1) (by omega) (by omega)
    ·rw[if_neg c4]
     exact hr (a - 1) (b - 1) (by omega) (by omega)
theorem xO (n:Nat):Vs (Array.range n):=by
 intro i j hij hj
 have hj':j<n:=by simpa using hj
 have hi':i<n:=by omega
 simp[Array.getD,hj',hi',hij]
theorem wB {l:List Nat} (h:l.Pairwise (· < ·)):Vs l.toArray:=by
 intro i j hij hj
 have hj':j<l.length:=by simpa using hj
 have hi':i<l.length:=by omega
 have:=cm.mp h i j hi' hj' hij
 simpa [Array.getD,hi',hj'] using this
theorem gW {mask finger moves:Nat} {led plain:Bool} {hashes:Array Int} {t:SetTable} {order:Array Nat} (h:SetTable.laid mask finger moves led plain hashes=some (t,order)):Vs t.place∧t.led=led∧t.plain=plain:=by
 unfold SetTable.laid at h
 cases e:SetTable.layClean mask hashes with
 | none =>
  rw[e] at h
  cases h
 | some owner =>
  rw[e] at h
  cases h
  refine⟨wB ?_,rfl,rfl⟩
  rw[List.map_filterMap]
  refine List.Pairwise.filterMap _ (R:=(· < ·)) ?_ List.pairwise_lt_range
  intro a b hab x hx y hy
  simp only[Option.map_map,Option.mem_def,bX] at hx hy
  obtain⟨_,_,rfl⟩:=hx
  obtain⟨_,_,rfl⟩:=hy
  exact hab
def Z6 (t:SetTable) (j:Nat):Prop:=t.place[SetTable.below t.place j]?≠some j
theorem X4 {t:SetTable} {j:Nat} (h:∀ i,t.slot j≠.live i):Z6 t j:=by
 intro e
 unfold SetTable.slot at h
 simp only at h
 rw[if_pos (by rw[e];simp)] at h
 exact h _ rfl
theorem uK {t:SetTable} {f:Nat→Int} {h:Int}:∀ (fuel:Nat) (p:SetTable.Probe),(∀ d,p.dummy=some d→Z6 t d)→∀ j d,SetTable.probe.go t f h fuel p=some (.empty j d)→Z6 t j∧∀ e,d=some e→Z6 t e
 | 0,p,_,j,d,q=>by
  unfold SetTable.probe.go at q
  cases q
 | fuel+1,p,hp,j,d,q=>by
  unfold SetTable.probe.go at q
  cases hs:t.slot p.j with
  | empty =>
   rw[hs] at q
   simp only[Option.some.injEq,SetTable.Met.empty.injEq] at q
   obtain⟨e1,e2⟩:=q
   subst e1 e2
   exact⟨X4 fun i=>by rw[hs];simp,hp⟩
  | dummy =>
   rw[hs] at q
   refine uK fuel _ (fun e he=>?_) j d q
   have:(SetTable.advance t { p with dummy:=some p.j }).dummy=some p.j:=by
    unfold SetTable.advance
    split <;> rfl
   rw[this] at he
   cases he
   exact X4 fun i=>by rw[hs];simp
  | live i =>
   rw[hs] at q
   simp only at q
   split at q
   ·cases q
   ·refine uK fuel _ (fun e he=>?_) j d q
    have:(SetTable.advance t p).dummy=p.dummy:=by
     unfold SetTable.advance
     split <;> rfl
    rw[this] at he
    exact hp e he
theorem mM {t:SetTable} {h:Int} {s:Nat} {wd:Bool} (q:t.freeSlot h=some (s,wd)):Z6 t s:=by
 unfold SetTable.freeSlot at q
 cases e:t.probe (fun _=>h+1) h (t.probeStart h) with
 | none=>rw[e] at q;cases q
 | some m =>
  rw[e] at q
  cases m with
  | candidate j i n=>cases q
  | empty j d =>
   have hp:=uK _ _ (by intro d hd;cases hd) j d e
   simp only[Option.some.injEq,Prod.mk.injEq] at q
   obtain⟨q1,_⟩:=q
   cases d with
   | none=>rw[← q1];exact hp.1
   | some d=>rw[← q1];exact hp.2 d rfl
structure jT (b:Bool) (t:SetTable):Prop where
 led:t.led=b
 rise:Vs t.place
theorem vE {b:Bool} {t:SetTable} (g:jT b t) (n:Nat):jT b (t.standIn n):=⟨g.led,xO n⟩
theorem xB {b:Bool} {t:SetTable} (g:jT b t) (p:Bool):jT b { t with plain:=p }:=⟨g.led,g.rise⟩
theorem OH {b:Bool} {t:SetTable} (g:jT b t) (es:Array (Int × Value)) (h:Int) (x:Value):jT b (layNew t es h x).2.1:=by
 unfold layNew
 cases e:t.freeSlot h with
 | none=>exact vE g _
 | some q =>
  obtain⟨s,wd⟩:=q
  have gp:jT b (t.put s).1:=⟨g.led,oW g.rise (mM e)⟩
  show jT b ((t.put s).1.orStandIn _)
  unfold SetTable.orStandIn
  split
  ·exact gp
  ·exact vE gp _
theorem xo {b:Bool} {t:SetTable} (g:jT b t) (es:Array (Int × Value)) (n:Nat):jT b (relayAll t es n).2.1:=by
 unfold relayAll
 cases e:t.relaid (es.map (·.1)) n with
 | none=>exact vE g _
 | some q =>
  obtain⟨t',order⟩:=q
  simp only
  split
  ·obtain⟨r1,r2,_⟩:=gW e
   exact⟨r2.trans g.led,r1⟩
  ·exact vE g _
theorem Wr (b:Bool):jT b (SetTable.fresh 0 0 b):=⟨rfl,fun i j _ h=>absurd h (Nat.not_lt_zero _)⟩
open PySem.Spec
section
variable {prog:Program} {w:World} {K:Type} [DecidableEq K] [BEq K] [LawfulBEq K] {knd:KeyKind prog w K} {A:Around} {E:Value→Shared→Prop} {s:Shared}
structure At (knd:KeyKind prog w K) (b:Bool) (h:Heap) (a:Addr) (es:Array (Int × Value)):Prop where
 ex:∃ o ep t,h.get? a=some o∧o.ExactSet∧o.data = .set es ep t∧t.fits es.size=true∧jT b t
 el:ElemsOf knd es.toList
theorem Vx {b:Bool} {h:Heap} {a:Addr} {o:Obj} {es es':Array (Int × Value)} {ep:Nat} {t t':SetTable} (og:h.get? a=some o) (hx:o.ExactSet) (dg:o.data = .set es ep t) (el:ElemsOf knd es'.toList) (fg:t'.fits es'.size=true) (g:jT b t') :
  (h.update a (Obj.putSet es' t')).get? a=some { o with data:=.set es' (ep+1) t' }∧At knd b (h.update a (Obj.putSet es' t')) a es':=by
 have e:(h.update a (Obj.putSet es' t')).get? a=some { o with data:=.set es' (ep+1) t' }:=by
  rw[← putSet_of es' t' dg]
  exact cI _ og (by rw[putSet_of es' t' dg];rfl)
 exact⟨e,⟨_,_,_,e,hx,rfl,fg,g⟩,el⟩
def Md (knd:KeyKind prog w K) (k:K) (x:Value) (es es':Array (Int × Value)):Prop :=
 ((∃ e∈es.toList,knd.is k e.2=true)∧es'=es)∨((∀ e∈es.toList,knd.is k e.2=false)∧es'.toList.Perm (es.toList++[(knd.hash k,x)]))
theorem Ox {b:Bool} {a:Addr} {es:Array (Int × Value)} {k:K} {x:Value} {Q:Bool→Shared→Prop} (hk:knd.is k x=true) (hx:x.scannable=true) (hA:At knd b s.heap a es) (hb:es.size+1<scanBound)
  (h:∀ h' es' r,Heap.SameBut a s.heap h'→At knd b h' a es'→Md knd k x es es'→Q r { s with heap:=h' }):wpAny (model prog w) A (setAddHashed a x (knd.hash k)) Q E s:=by
 obtain⟨⟨o,ep,t,og,hex,dg,fg,g⟩,el⟩:=hA
 unfold setAddHashed
 unfold setAddHashedIn
 refine wpAny_holding (wpAny_bind (wpAny_setState_of og dg fg ?_))
 dsimp only
 rw[byScan_of hx (Nat.lt_of_succ_lt hb) el]
 simp only[↓reduceIte]
 unfold setAddByScan
 refine wpAny_bind (wpAny_bind (wpAny_rule (wpAny_bind (wpAny_setScan_of hk og dg fg el ?_))))
 cases met:List.findIdx? (fun u=>knd.is k u.2) es.toList with
 | some j =>
  dsimp only
  obtain⟨j1,j2,_⟩:=List.findIdx?_eq_some_iff_getElem.mp met
  refine wpAny_pure (wpAny_pure ?_)
  have z:=h s.heap es false (Heap.SameBut.refl a s.heap) ⟨⟨o,ep,t,og,hex,dg,fg,g⟩,el⟩ (.inl ⟨⟨_,B7 j1,j2⟩,rfl⟩)
  exact z
 | none =>
  dsimp only
  have none_is:∀ e∈es.toList,knd.is k e.2=false:=fun e he=>by
   have z:=List.findIdx?_eq_none_iff.mp met e he
   simpa using z
  have gw:∀ (c:Bool) {s₁:Shared} {R:Unit→Shared→Prop},R () s₁→wpAny (model prog w) A (match c with | true=>rule "set.scan.the-table-gave-way" | false=>pure ()) R E s₁:=fun c s₁ R q=>by
   cases c
   ·exact wpAny_pure q
   ·exact wpAny_rule q
  have pm:=layNew_perm t es (knd.hash k) x
  have ft:=layNew_fits t es (knd.hash k) x
  have gl:=OH g es (knd.hash k) x
  obtain⟨L,hL⟩:∃ L,layNew t es (knd.hash k) x=L:=⟨_,rfl⟩
  rw[hL] at pm ft gl ⊢
  obtain⟨es1,t1,wd,gv⟩:=L
  dsimp only at pm ft gl ⊢
  rw[Co] at pm
  have el1:ElemsOf knd es1.toList:=(el.push hk hx).perm pm
  have sz1:es1.size=es.size+1:=by rw[← Bw,pm.length_eq,bP,Bw];rfl
  have tail:∀ tb:SetTable,tb.fits es1.size=true→jT b tb→∀ R:Option Bool→Shared→Prop,(∀ h' es',Heap.SameBut a s.heap h'→At knd b h' a es'→es'.toList.Perm es1.toList→R (some true) { s with heap:=h' }) →
    wpAny (model prog w) A (do
     storeSet a es1 tb
     if (!wd&&tb.tooFull)=true then do
       (match (relayAll tb es1 (SetTable.grown es1.size)).2.2 with | true=>rule "set.scan.the-table-gave-way" | false=>pure ())
       storeSet a (relayAll tb es1 (SetTable.grown es1.size)).1 (relayAll tb es1 (SetTable.grown es1.size)).2.1
       pure (some true)
      else pure (some true)) R E s:=fun tb f2 g2 R q=>by
   have fit1:es1.size≤sizeLine:=fits_of_scanBound (by rw[sz1];exact hb)
   refine wpAny_bind (wpAny_storeSet_of og dg ?_ fit1)
   obtain⟨o1,A1⟩:=Vx (knd:=knd) og hex dg el1 f2 g2
   have sb1:=Heap.SameBut.update s.heap a (Obj.putSet es1 tb)
   split
   ·have rp:=relayAll_perm tb es1 (SetTable.grown es1.size)
    have rf:=relayAll_fits tb es1 (SetTable.grown es1.size)
    have rg:=xo g2 es1 (SetTable.grown es1.size)
    have rs:(relayAll tb es1 (SetTable.grown es1.size)).1.size=es1.size:=by rw[← Bw,rp.length_eq,Bw]
    refine wpAny_bind (gw _ ?_)
    refine wpAny_bind (wpAny_storeSet_of o1 rfl ?_ (by rw[rs];exact fit1))
    obtain⟨_,A2⟩:=Vx (knd:=knd) o1 hex rfl (el1.perm rp) rf rg
    exact wpAny_pure (q _ _ (sb1.trans (Heap.SameBut.update _ a _)) A2 rp)
   ·exact wpAny_pure (q _ _ sb1 A1 (List.Perm.refl _))
  have fin:∀ h' es',Heap.SameBut a s.heap h'→At knd b h' a es'→es'.toList.Perm es1.toList→Q true { s with heap:=h' }:=fun h' es' sb A2 p=>h h' es' true sb A2 (.inr ⟨none_is,p.trans pm⟩)
  refine wpAny_bind (gw _ ?_)
  split
  ·refine wpAny_bind ?_
   rw[hashByValue_scannable 8 hx]
   refine wpAny_pure ?_
   refine tail _ ?_ ?_ _ fun h' es' sb A2 p=>?_
   ·split
    ·exact ft
    ·exact SetTable.fits_plain_off ft
   ·split
    ·exact gl
    ·exact xB gl _
   ·dsimp only
    exact wpAny_pure (fin h' es' sb A2 p)
  ·refine wpAny_bind (wpAny_pure ?_)
   simp only[↓reduceIte]
   refine tail _ ft gl _ fun h' es' sb A2 p=>?_
   dsimp only
   exact wpAny_pure (fin h' es' sb A2 p)
end
def uN (w:World):Bool:=w.params.followText "set-order"
section
variable {prog:Program} {w:World} {A:Around} {E:Value→Shared→Prop} {s:Shared}
abbrev jy (w:World):Obj:={ cls:=.type "set",dict:=none,data:=.set #[] 0 (.fresh 0 0 (!uN w)) }
theorem oE (v:Value) {Q:Value→Shared→Prop} (h:Q (.ref s.heap.objs.size) { s with heap:=s.heap.push (jy w) }) :
  codeAny (model prog w) A (.call (.builtin "set.__new__") ⟨[.type "set",v],[]⟩) (wants Q E) s:=by
 refine codeAny_of_tree ?_
 show wpAny _ A.in1 (checkBuiltinCall "set.__new__" ⟨[.type "set",v],[]⟩ >>= fun _=>again (.builtin "set.__new__" ⟨[.type "set",v],[]⟩)) _ _ s
 refine wpAny_bind (wpAny_of_eq (F.newCall_set_1 v) (wpAny_pure ⟨plainId_quiet F.plain_set_new _,codeAny_builtin F.entry_set_new ?_⟩))
 rw[Around.under_plainId F.plain_set_new _]
 unfold Builtin.«set.__new__»
 unfold Builtin.Frozenset.newClass
 have sub:=sub_set_self
 obtain⟨hp,g,d,tk,os⟩:=s
 dsimp only
 wp_walk
 refine wpAny_askSetting (wpAny_pure ?_)
 dsimp only
 simp only[newObj]
 refine wpAny_bind (wpAny_alloc (wpAny_pure ?_))
 exact wpAny_pure h
end
open PyProof.Rows
section
variable {prog:Program} {w:World} {K:Type} [DecidableEq K] [BEq K] [LawfulBEq K] {knd:KeyKind prog w K} {A:Around} {E:Value→Shared→Prop} {s:Shared}
structure xQ (kf:Value→K) (es:Array (Int × Value)) (l:List K):Prop where
 nd:(es.toList.map fun e=>kf e.2).Nodup
 mem:∀ k,k∈es.toList.map (fun e=>kf e.2)↔k∈l
 len:es.size≤l.length
theorem Ga (kf:Value→K):xQ kf #[] []:=⟨cV,fun k=>Iff.rfl,bK _⟩
theorem o6 {kf:Value→K} (hkf:∀ k v,knd.is k v=true→kf v=k) {es es':Array (Int × Value)} {l:List K} {k:K} {x:Value} (el:ElemsOf knd es.toList) (hk:knd.is k x=true) (c:xQ kf es l) (a:Md knd k x es es'):xQ kf es' (l++[k]):=by
 rcases a with ⟨⟨e,he,h1⟩,rfl⟩ | ⟨no,pm⟩
 ·refine⟨c.nd,fun q=>?_,by rw[bP];exact Nat.le_add_right_of_le c.len⟩
  rw[c.mem,Bt,Bf]
  refine⟨.inl,fun z=>z.elim id fun z=>?_⟩
  rw[z,← c.mem]
  exact bZ.mpr ⟨e,he,hkf _ _ h1⟩
 ·have pk:(es'.toList.map fun e=>kf e.2).Perm ((es.toList.map fun e=>kf e.2)++[k]):=by
   have:=pm.map fun e=>kf e.2
   rw[Bc] at this
   simpa [hkf k x hk] using this
  have nk:¬ k∈es.toList.map fun e=>kf e.2:=fun m=>by
   obtain⟨e,he,e1⟩:=bZ.mp m
   obtain⟨⟨k',h1,_⟩,_⟩:=el e he
   have e2:=hkf _ _ h1
   have:=no e he
   rw[← e1,e2,h1] at this
   cases this
  refine⟨pk.nodup_iff.mpr ?_,fun q=>?_,?_⟩
  ·rw[List.nodup_append]
   refine⟨c.nd,by simp,fun a ha b hb z=>?_⟩
   rw[Bf.mp hb] at z
   exact nk (z ▸ ha)
  ·rw[pk.mem_iff,Bt,Bt,c.mem]
  ·rw[← Bw,pm.length_eq,bP,bP,Bw]
   exact Nat.add_le_add_right c.len _
theorem Xw {b:Bool} {h h':Heap} {a:Addr} {es:Array (Int × Value)} (x:At knd b h a es) (k:∀ o,h.get? a=some o→h'.get? a=some o):At knd b h' a es:=by
 obtain⟨⟨o,ep,t,e,r⟩,el⟩:=x
 exact⟨⟨o,ep,t,k o e,r⟩,el⟩
theorem GF {b:Bool} {I:Addr} {fp wr:List Addr} {n:Nat} {P:Nat→Value→Prop} {St:Nat→Heap→Prop} (W:Walks prog w A.in1 I fp wr n P St) (S:Addr) (hS:S∉fp) {kf:Value→K} (hkf:∀ k v,knd.is k v=true→kf v=k) (key:Nat→K)
  (hv:∀ i v,P i v→knd.is (key i) v=true∧v.scannable=true) (hb:n+1<scanBound) {R:Result→Shared→Prop} :
  ∀ (m i:Nat) (s:Shared) (es:Array (Int × Value)),n - i=m→i≤n→St i s.heap→At knd b s.heap S es→xQ kf es ((List.range i).map key) →
   (∀ h' tk es',(∀ c o,c∉wr→c≠S→s.heap.get? c=some o→h'.get? c=some o)→At knd b h' S es'→xQ kf es' ((List.range n).map key)→R (.ok (.ret .none)) { s with heap:=h',toks:=tk }) →
   codeAny (model prog w) A (.builtin "set.update.loop" ⟨[.ref S,.ref I],[]⟩) R s:=by
 have hSw:S∉wr:=fun z=>hS (W.sub _ z)
 intro m
 induction m with
 | zero =>
  intro i s es hm hi st hA hK hR
  obtain rfl:i=n:=by omega
  refine codeAny_builtin F.entry_set_update_loop ?_
  rw[Around.under_plainId F.plain_set_update_loop _]
  refine wpAny_bind (W.done s _ _ st fun h' tk keep=>?_)
  exact wpAny_pure (hR h' tk es (fun c o c1 _ e=>keep c o c1 e) (Xw hA fun o e=>keep _ o hSw e) hK)
 | succ m ih =>
  intro i s es hm hi st hA hK hR
  have lt:i<n:=by omega
  refine codeAny_builtin F.entry_set_update_loop ?_
  rw[Around.under_plainId F.plain_set_update_loop _]
  refine wpAny_bind (W.item i s _ _ lt st fun v h' tk hP st' keep=>?_)
  obtain⟨v1,v2⟩:=hv i v hP
  have hA':At knd b h' S es:=Xw hA fun o e=>keep _ o hSw e
  refine wpAny_bind (wpAny_holding ?_)
  unfold setAdd
  refine wpAny_holding (wpAny_bind (knd.pyHash v1 ?_))
  have room:es.size+1<scanBound:=by
   have:=hK.len
   rw[bM,Bm] at this
   omega
  refine Ox (knd:=knd) (s:={ s with heap:=h',toks:=tk+1 }) v1 v2 hA' room fun h2 es2 r sb A2 ad=>?_
  have K2:xQ kf es2 ((List.range (i+1)).map key):=by
   rw[List.range_succ,Bc]
   exact o6 hkf hA.el v1 hK ad
  refine wpAny_pure ⟨plainId_quiet F.plain_set_update_loop _,ih (i+1) _ es2 (by omega) lt (W.frame _ _ _ st' fun c hc o e=>?_) A2 K2 fun h3 tk3 es3 keep3 A3 K3=>?_⟩
  ·exact (sb.2 c fun z=>hS (z ▸ hc)).trans e
  ·exact hR h3 tk3 es3 (fun c o c1 c2 e=>keep3 c o c1 c2 ((sb.2 c c2).trans (keep c o c1 e))) A3 K3
end
section
variable {prog:Program} {w:World} {K:Type} [DecidableEq K] [BEq K] [LawfulBEq K] {knd:KeyKind prog w K} {A:Around} {E:Value→Shared→Prop} {s:Shared}
structure RC (knd:KeyKind prog w K) (kf:Value→K) (l:List K) (h₀ h:Heap):Prop where
 ex:∃ es,At knd (!uN w) h h₀.objs.size es∧xQ kf es l
 keep:∀ c o,c<h₀.objs.size→h₀.get? c=some o→h.get? c=some o
theorem lg {h:Heap} {a:Addr} (e:h.get? a=some (jy w)):At knd (!uN w) h a #[] :=
 ⟨⟨_,_,_,e,⟨rfl,rfl,rfl⟩,rfl,rfl,Wr _⟩,fun _ m=>by cases m⟩
theorem Gx {l:Addr} {items:Array Value} (hh:A.handled=none) (hl:s.heap.IsList l items) {kf:Value→K} (hkf:∀ k v,knd.is k v=true→kf v=k) {ks:List K}
  (hv:∀ (i:Nat) (v:Value),items[i]? = some v→∃ k,ks[i]? = some k∧knd.is k v=true∧v.scannable=true) (hn:ks.length=items.size) (hb:items.size+1<scanBound) [Inhabited K] :
  codeAny (model prog w) A (.call (.builtin "set.__init__") ⟨[.ref s.heap.objs.size,.ref l],[]⟩)
   (wants (fun r s'=>r = .none∧∃ h tk,s' = { s with heap:=h,toks:=tk }∧RC knd kf ks s.heap h) E) { s with heap:=s.heap.push (jy w) }:=by
 have e0:(s.heap.push (jy w)).get? s.heap.objs.size=some (jy w):=Bd _ rfl
 refine codeAny_call_builtin F.called_set.init.plain F.entry_set_init (check_set_init_1 ⟨_,e0,rfl⟩ ?_)
 have lt:l<s.heap.objs.size:=by
  obtain⟨o,e,_⟩:=hl
  exact bQ e
 have hl1:(s.heap.push (jy w)).IsList l items:=hl.push _
 have sz:(s.heap.push (jy w)).objs.size=s.heap.objs.size+1:=cA _ _
 obtain⟨⟨cl,di,da,sl⟩,og,oc,nl,od⟩:=id hl1
 dsimp only at oc od
 cases oc
 cases od
 have q1:=F.sub_list_set
 have q2:=F.sub_list_frozenset
 have q3:(Value.type "list" == Value.type "dict")=false:=rfl
 unfold Builtin.«set.__init__»
 unfold noKeywords
 unfold Builtin.Frozenset.updateFrom
 generalize z:pyIter=it
 wp_walk
 subst z
 refine wpAny_pyIter_list hl1 (wpAny_bind (wpAny_runValue ?_))
 have nI:l≠(s.heap.push (jy w)).objs.size:=by rw[sz];exact b5 (Cd lt)
 refine GF (knd:=knd) (b:=!uN w) (Walks.list (by simp[hh]) _ l nI items) s.heap.objs.size ?_ hkf (fun i=>ks.getD i default) (fun i v e=>?_) hb _ 0 _ #[] rfl (Bo _)
  ⟨⟨_,Bd _ rfl,rfl,rfl⟩,hl1.push _⟩ (lg (bW _ e0)) (Ga _) fun h tk es keep A1 K1=>?_
 ·rw[sz]
  intro m
  rcases bN.mp m with m | m
  ·exact b5 (BX _) m
  ·exact Ca lt (Bf.mp m)
 ·obtain⟨k,k1,k2⟩:=hv i v e
  have:ks.getD i default=k:=by rw[Bx,k1];rfl
  exact this ▸ k2
 ·have ek:(List.range items.size).map (fun i=>ks.getD i default)=ks:=by
   apply ck
   intro i
   rw[bR]
   by_cases c:i<items.size
   ·rw[List.getElem?_range c,CD,Bx,bO (hn ▸ c)];rfl
   ·rw[BG (by simpa using c),BG (by omega)];rfl
  rw[ek] at K1
  refine wpAny_pure (wpAny_pure ⟨rfl,h,tk,rfl,⟨es,A1,K1⟩,fun c o c1 c2=>?_⟩)
  refine keep c o ?_ (b5 c1) (bW _ (bW _ c2))
  rw[sz]
  intro m
  exact b5 (Cd c1) (Bf.mp m)
end
section
variable {prog:Program} {w:World} {K:Type} [DecidableEq K] [BEq K] [LawfulBEq K] [Inhabited K] {knd:KeyKind prog w K} {A:Around} {E:Value→Shared→Prop} {s:Shared}
set_option maxHeartbeats 3200000 in
theorem GS {l:Addr} {items:Array Value} (hh:A.handled=none) (hl:s.heap.IsList l items) {kf:Value→K} (hkf:∀ k v,knd.is k v=true→kf v=k) {ks:List K}
  (hv:∀ (i:Nat) (v:Value),items[i]? = some v→∃ k,ks[i]? = some k∧knd.is k v=true∧v.scannable=true) (hn:ks.length=items.size) (hb:items.size+1<scanBound) {Q:Value→Shared→Prop}
  (q:∀ h tk,RC knd kf ks s.heap h→Q (.ref s.heap.objs.size) { s with heap:=h,toks:=tk }):wpAny (model prog w) A (call (.type "set") [.ref l]) Q E s:=by
 obtain⟨_,_,m⟩:=F.called_set.mro
 have md:=F.called_set.made
 have sb:=F.called_set.sub
 have nt:=F.called_set.notType
 have cc:=F.called_set.canCreate
 have tc:=F.typeCall_set_1 (.ref l)
 refine wpAny_call (codeAny_of_tree (show wpAny _ _ (callAny (.type "set") _) _ _ _ from ?_))
 refine wpAny_pure ⟨Code.quiet_builtin _ (by decide +kernel),codeAny_builtin F.entry_type_call ?_⟩
 rw[Around.under_plain (weight_type_call_type "set" _ _) rfl]
 repeat' (first | assumption | wp_step)
 refine codeAny_mono (oE (.ref l) (E:=E) (Q:=fun v t=>v = .ref s.heap.objs.size∧t = { s with heap:=s.heap.push (jy w) }) ⟨rfl,rfl⟩) fun r t hr=>?_
 match r,hr with
 | .error e,hr=>exact hr
 | .ok (.ret v),hr =>
  obtain⟨e1,e2⟩:=hr
  subst e1 e2
  have e0:(s.heap.push (jy w)).get? s.heap.objs.size=some (jy w):=Bd _ rfl
  have ty:Shared.TypeIs { s with heap:=s.heap.push (jy w) } (.ref s.heap.objs.size) "set":=⟨_,e0,rfl⟩
  have i1:=F.called_set.init.lookup
  have i2:=F.called_set.init.bind (.ref s.heap.objs.size)
  repeat' (first | assumption | wp_step)
  refine codeAny_mono (Gx (knd:=knd) (E:=E) (by simp[hh]) hl hkf hv hn hb) fun r2 t2 hr2=>?_
  match r2,hr2 with
  | .error e,hr2=>exact hr2
  | .ok (.ret v2),hr2 =>
   obtain⟨f1,h,tk,f2,L⟩:=hr2
   subst f1 f2
   repeat' (first | assumption | wp_step)
   exact q h tk L
end
end ST
namespace L2
open PySem PySem.Spec PyProof.Rows
def NR:Value→Str
 | .str z _=>z
 | _=>default
section
variable {X:Cx} {pins:List (Addr × Obj)} {σ:St} {H:Hp} {s:Shared} {a:Expr} {ta:TA} {p1 p2 p3 pos:Pos}
def LL (K:PySem.W.Frag) (ta:TA):TE:=fun σ H Q=>ta σ H fun vs H1=>∃ (l:Addr) (zs:List Str),vs=[.ref l]∧z5 K H1 l (zs.map V.str)∧zs.length<64 ∧
 ∀ n:Nat,n≤zs.length→(n<zs.length↔¬ zs.Nodup)→Q (.int n) H1
theorem Gn (hcalm:X.calm=true) (hg1:Gl X "len") (hm1:X.mg "len" = none) (hg2:Gl X "set") (hm2:X.mg "set" = none) (ha:PA X [a] ta)
  (hs:starEach [a] X.env=[(false,eval a X.env)]:=by rfl) (hs1:starEach [.Call (.Name "set" p2) [a] [] p3] X.env=[(false,eval (.Call (.Name "set" p2) [a] [] p3) X.env)]:=by rfl) :
  PE X (.Call (.Name "len" p1) [.Call (.Name "set" p2) [a] [] p3] [] pos) (LL X.K ta):=by
 intro pins s σ H Q I h
 refine Call_ (uc I hg1 hm1 boot_len (PyProof.Rows.callWith_builtin1 ?_ hs1 rfl))
 rw[hs1]
 show wpAny _ _ (spliced ((false,eval (.Call (.Name "set" p2) [a] [] p3) X.env)::[])) _ _ s
 refine Calls.spliced_cons ?_
 refine Call_ (uc I hg2 hm2 boot_set (PyProof.Rows.callWith_type1 (qS (ha p3 pins s σ H _ I h) fun us s1 z=>?_) hs rfl))
 obtain⟨vs,H1,I1,r1,l,zs,e,hS,h64,q⟩:=z
 subst e
 cases r1 with
 | cons r rr =>
  cases rr
  cases r
  obtain⟨its,rv,pl,hz⟩:=I1.list hS
  have il:=rv.length
  rw[bM] at il
  have hh:=I1.ok.hd hcalm
  refine ST.GS (knd:=strKind X.prog X.w) (kf:=NR) (ks:=zs) hh pl.isList (fun k v hv=>?_) (fun i v hi=>?_) ?_ ?_ fun h1 tk1 L=>Calls.spliced_nil ?_
  ·obtain⟨t,rfl⟩:=Value.isStrOf_shape hv
   rfl
  ·have hi':i<zs.length:=by
    rw[il]
    have:=(BM.mp hi).1
    simpa using this
   obtain⟨u,hu,⟨t,rt⟩⟩:=rv.get (i:=i) (x:=.str zs[i]) (by rw[bR,bO hi'];rfl)
   have:v = .str zs[i] t:=by
    have h1:its[i]? = some v:=by simpa using hi
    rw[hu,rt] at h1
    exact (Option.some.inj h1).symm
   subst this
   exact⟨_,bO hi',strKind_is _ _ _ _,rfl⟩
  ·simpa using il
  ·rw[bT,← il]
   unfold scanBound
   omega
  ·have J1:zH X pins σ H1 { s1 with heap:=h1,toks:=tk1 }:=I1.kept fun b o e=>L.keep b o (bQ e) e
   obtain⟨⟨es,⟨⟨o,ep,t,og,ex,od,ft,_⟩,_⟩,K1⟩,_⟩:=L
   have n1:es.size≤zs.length:=K1.len
   refine PySem.call_len_set (s:={ s1 with heap:=h1,toks:=tk1 }) og ex od ft (by omega) ⟨.int es.size,H1,J1.tok _,⟨_,rfl⟩,q _ n1 ?_⟩
   have:=Xb K1.nd K1.mem
   rw[bM,Bw] at this
   exact this
end
open PySem.W
section
variable {X:Cx} {pins:List (Addr × Obj)} {σ:St} {H:Hp} {s:Shared} {a:Addr}
theorem zH.adoptO {o:HO} (I:zH X pins σ H s) (f:jC X pins H a) (new:qQ X.prog X.w (upd H a o) s.heap a o):zH X pins σ (upd H a o) s:=by
 have ne:∀ b o,H b=some o→b≠a:=fun b o q=>zF q f.1
 refine⟨I.ok,I.os,I.bare,⟨I.base.keep,I.base.slot,fun b o q n hx=>?_,I.base.there,fun b ys q=>?_,fun b o u q=>?_,fun b ps q=>?_⟩,I.loc,I.cell,?_,fun x c q=>?_,fun p hp=>?_,fun b o q=>?_,I.len⟩
 ·have nb:b≠a:=fun z=>by
   subst z
   rcases f.2.2.2.1 with z | z
   ·exact hx z
   ·rw[z] at q;cases q
  rw[zq nb]
  exact I.base.free b o q n hx
 ·have z:=I.base.tups b ys q
  rw[zq (ne _ _ z)];exact z
 ·have z:=I.base.frzs b o u q
  rw[zq (ne _ _ z)];exact z
 ·obtain⟨m,z⟩:=I.base.tbls b ps q
  exact⟨m,by rw[zq (ne _ _ z)];exact z⟩
 ·rw[zq (Ne.symm f.2.1)];exact I.free
 ·rw[zq (f.2.2.2.2.1 x c q)];exact I.freeC x c q
 ·obtain⟨p1,p2,p3,p4,p5⟩:=I.pin p hp
  exact⟨p1,by rw[zq (f.2.2.2.2.2 p hp)];exact p2,p3,p4,p5⟩
 ·by_cases nb:b=a
  ·subst nb
   rw[zm] at q
   cases q
   exact new
  ·rw[zq nb] at q
   refine (I.hok b o q).stay (fun c u _ z=>z) (fun c z=>?_) fun c ys z=>?_
   ·rw[zq (ne _ _ z)];exact z
   ·rw[zq (ne _ _ z)];exact z
end
theorem Go {α β:Type} {F:α→β→Prop} {l:List α} {m:List β} (h:Paired F l m) {j:Nat} {b:β} (e:m[j]? = some b):∃ a,l[j]? = some a∧F a b:=by
 induction h generalizing j with
 | nil=>cases e
 | cons r _ ih =>
  cases j with
  | zero =>
   cases e
   exact⟨_,rfl,r⟩
  | succ j=>exact ih e
theorem lD {P:Program} {w:World} {k:yJ} {v:Value} (h:(yh P w).is k v=true):qp (kV k) v:=by
 rcases qM h with ⟨i,t,rfl,rfl⟩ | ⟨x,t,rfl,rfl⟩
 ·exact⟨t,rfl⟩
 ·exact⟨t,rfl⟩
section
variable {X:Cx}
end
end L2
namespace Pg
open PySem L2
def UZ (c:Nat):Bool:=decide (97≤c)&&decide (c≤122)
theorem uB:("abcdefghijklmnopqrstuvwxyz":Str).cps.toList=List.range' 97 26:=by decide +kernel
theorem LK {c:Nat}:c∈List.range' 97 26↔UZ c=true:=by
 rw[List.mem_range'_1]
 unfold UZ
 rw[Bn,decide_eq_true_iff,decide_eq_true_iff]
 omega
theorem gK (c:Nat):(!(Builtin.Str.occurrences ("abcdefghijklmnopqrstuvwxyz":Str) ⟨#[c]⟩ 0 ("abcdefghijklmnopqrstuvwxyz":Str).length 1).isEmpty)=UZ c:=by
 rw[XZ,uB,BN,BH,LK]
structure WZ (z:Str):Prop where
 lo:1≤z.length
 hi:z.length≤8
 all:z.cps.toList.all UZ=true
def X0:Sp:=fun vs H Q _=>∃ z,vs=[.str z,.str "abcdefghijklmnopqrstuvwxyz"]∧WZ z∧∀ H',zx H H'→Q (.bl true) H'
def XB:Sp:=fun vs H Q _=>∃ z,vs=[.str z]∧WZ z∧∀ H',zx H H'→Q (.bl true) H'
def cM (p:Int × Str × Int):List V:=[.int p.1,.str p.2.1,.int p.2.2]
theorem gf (cs:List Nat) (acc:Array Nat):((cs.map fun c=>(⟨#[c]⟩:Str)).foldl (fun acc p=>acc++("":Str).cps++p.cps) acc).toList=acc.toList++cs:=by
 induction cs generalizing acc with
 | nil=>simp
 | cons c r ih =>
  rw[Br,cf,ih]
  have:("":Str).cps = #[]:=by decide +kernel
  rw[this]
  simp
theorem xw (cs:List Nat):(Txt.join ("":Str) (cs.map fun c=>(⟨#[c]⟩:Str))).cps.toList=cs:=by
 unfold Txt.join Builtin.Str.glued
 cases cs with
 | nil=>rfl
 | cons c r =>
  show (((r.map fun c=>(⟨#[c]⟩:Str)).foldl (fun acc p=>acc++("":Str).cps++p.cps) #[c])).toList=c::r
  rw[gf]
  rfl
theorem VF:("abcdefghijklmnopqrstuvwxyz":Str).length≤sizeLine:=Wq (m:=26) (by decide +kernel) rfl
end Pg
namespace DL
open PySem PySem.Spec PyProof.Rows
section
variable {prog:Program} {w:World} {A:Around} {E:Value→Shared→Prop} {s:Shared}
variable {K:Type} [DecidableEq K] {knd:KeyKind prog w K}
end
end DL
namespace L2
open PySem PySem.Spec PyProof.Rows
section
variable {X:Cx}
end
section
variable {X:Cx}
end
end L2
namespace Pg
open PySem L2
section
variable {C:Addr} {S S':List Addr} {H H' H1:Hp}
end
structure rD where
 L:Addr
 dx:Addr
 t:Addr
 m:Addr
 o:Addr
 pd:Addr
 ml:Addr
 hl:Addr
 tl:Addr
 nl:Addr
 L2:Addr
 dx2:Addr
 t2:Addr
 m2:Addr
 nms:List Str
def rD.us (A:rD):List Addr:=[A.hl,A.tl,A.ml,A.pd,A.o,A.m2,A.t2,A.L2,A.m,A.t,A.L,A.nl]
def rD.S (A:rD):List Addr:=[A.L,A.t,A.m,A.o,A.pd,A.ml,A.hl,A.tl]
section
variable {C:Addr} {S:List Addr} {H H':Hp} {A:rD} {RO told':List (Str × Int)} {n n':Nat}
end
end Pg
namespace L2
open PySem PySem.Spec PyProof.Rows
section
variable {X:Cx} {pins:List (Addr × Obj)} {σ:St} {H:Hp} {s:Shared}
theorem zH.turnedS {t':Nat} {h':Heap} {fp:List Addr} (I:zH X pins σ H s) (k:∀ b o,¬ b∈fp→s.heap.get? b=some o→h'.get? b=some o) (hf:∀ b∈fp,jC X pins H b):zH X pins σ H { s with heap:=h',toks:=t' }:=by
 have nit:∀ b u,H b=some u→¬ b∈fp:=fun b u e z=>by rw[(hf b z).1] at e;cases e
 refine I.step (g':=s.gens) (d':=s.drawn) (ch:=fp) (fun b hb=>?_) (fun b o _ _ hc e _=>k b o hc e) (fun b o _ _ hc e _=>⟨o.slots,k b o hc e⟩) (fun _ _ _ _ n=>n)
  (fun b o hc e=>⟨o,k b o hc e⟩) (fun _ _ e=>e) (fun _ _ _ e=>e) (fun b ps e=>⟨#[],by rw[e];simp⟩) (fun m hm=>?_) (fun b u e=>?_) I.bare
 ·obtain⟨_,h2,_,h4,h5,h6⟩:=hf b hb
  exact⟨h4,h2,h5,h6⟩
 ·obtain⟨o,es,ep,ho,r⟩:=hm
  exact⟨o,es,ep,k _ o (fun z=>(hf _ z).2.1 rfl) ho,r⟩
 ·refine (I.hok b u e).stay (fun c v hc q=>k c v ?_ q) (fun _ q=>q) fun _ _ q=>q
  rcases hc with z | z
  ·rw[z];exact nit b u e
  ·exact nit c _ z
theorem zH.pair {h':Heap} {t':Nat} {v w:V} {x y:Value} (I:zH X pins σ H s) (J:zH X pins σ H { s with heap:=h',toks:=t' }) (hv:qp v x) (hw:qp w y) (hp:IsPair h' s.heap.objs.size x y) :
  zH X pins σ (upd H s.heap.objs.size (.tup [v,w])) { s with heap:=h',toks:=t' } :=
 J.adoptO (o:=.tup [v,w]) (I.fpOk (bK _) (I.hok.fresh (bK _))) ⟨qa rfl,[x,y],.cons hv (.cons hw .nil),_,hp,rfl,_,rfl⟩
end
def tM (K:PySem.W.Frag) (a b:Addr):It :=
 ⟨fun i H=>∃ xs ys x y,z5 K H a xs∧z5 K H b ys∧xs[i]? = some x∧ys[i]? = some y,
  fun i H z H'=>∃ p x y,z = .ref p∧H p=none∧H'=upd H p (.tup [x,y])∧∀ xs ys,z5 K H a xs→z5 K H b ys→xs[i]? = some x∧ys[i]? = some y,
  fun i H=>∃ xs ys,z5 K H a xs∧z5 K H b ys∧(xs.length≤i∨ys.length≤i)⟩
theorem P6 {P:Program} {w:World} {K:PySem.W.Frag} {es:List Expr} {n:Nat} {pos:Pos} {z TI TO i1 i2 a b:Addr} (D:ZipApart z TI TO i1 i2 a b) :
  Vi P w K (.Tuple es n pos) (tM K a b) [z,TI,TO,i1,i2] z (fun i h=>IsZip h z TI TO .none∧IsPair h TI (.ref i1) (.ref i2)∧(∃ u v,IsPair h TO u v)∧h.IsListIter i1 a i∧h.IsListIter i2 b i) where
 mem:=by simp
 obj:=fun i h st c hc=>by
  obtain⟨h1,h2,⟨u,v,h3⟩,h4,h5⟩:=st
  simp only[bN,bS,or_false] at hc
  rcases hc with rfl | rfl | rfl | rfl | rfl
  ·exact⟨_,h1,fun v q=>nomatch q⟩
  ·exact⟨_,h2,fun v q=>nomatch q⟩
  ·exact⟨_,h3,fun v q=>nomatch q⟩
  ·obtain⟨o,e,c,d⟩:=h4
   exact⟨o,e,fun v q=>by rw[d] at q;cases q⟩
  ·obtain⟨o,e,c,d⟩:=h5
   exact⟨o,e,fun v q=>by rw[d] at q;cases q⟩
 keep:=fun i h h' st k=>by
  obtain⟨h1,h2,⟨u,v,h3⟩,h4,h5⟩:=st
  exact⟨k z (by simp) _ h1,k TI (by simp) _ h2,⟨u,v,k TO (by simp) _ h3⟩,h4.at fun o e=>k i1 (by simp) o e,h5.at fun o e=>k i2 (by simp) o e⟩
 item:=by
  intro X hP hw hK hc i pins s σ H E I hf st hg
  subst hP hw hK
  obtain⟨h1,h2,⟨u,v,h3⟩,h4,h5⟩:=st
  obtain⟨xs,ys,x,y,q1,q2,hx,hy⟩:=hg
  obtain⟨its,rv,p,hz⟩:=I.list q1
  obtain⟨jts,rw',p',hz'⟩:=I.list q2
  obtain⟨x',hx',rx⟩:=rv.get hx
  obtain⟨y',hy',ry⟩:=rw'.get hy
  have lt:∀ c∈[z,TI,TO,i1,i2],c<s.heap.objs.size:=fun c hc=>by
   obtain⟨o4,e4,_⟩:=h4
   obtain⟨o5,e5,_⟩:=h5
   simp only[bN,bS,or_false] at hc
   rcases hc with rfl | rfl | rfl | rfl | rfl
   ·exact bQ h1
   ·exact bQ h2
   ·exact bQ h3
   ·exact bQ e4
   ·exact bQ e5
  refine wpAny_pyNext_zip_item D h1 h2 h3 h4 h5 p.isList p'.isList (x:=x') (y:=y') (by simpa using hx') (by simpa using hy') fun h' k1 k2 k3 k4 k5 k6 k7=>?_
  refine⟨_,rfl,wpAny_letOwnedTupleGo_zip k1 fun h2' m1 sb=>?_⟩
  have sb:Heap.SameBut z h' h2':=sb
  have kk:∀ c o,¬ c∈[z,TI,TO,i1,i2]→s.heap.get? c=some o→h2'.get? c=some o:=fun c o hc e=>by
   simp only[bN,bS,or_false,not_or] at hc
   exact sb.extBut _ _ hc.1 (k7 c o hc.1 hc.2.2.1 hc.2.2.2.1 hc.2.2.2.2 e)
  have nz:s.heap.objs.size≠z:=Ca (lt z (by simp))
  have J:zH X pins σ H { s with heap:=h2',toks:=s.toks }:=I.turnedS kk hf
  refine⟨.ref s.heap.objs.size,_,I.pair J rx ry (sb.extBut _ _ nz k5),rfl,⟨_,x,y,rfl,I.hok.fresh (bK _),rfl,fun xs' ys' r1 r2=>?_⟩,⟨m1,?_,⟨_,_,sb.extBut _ _ D.TOz k2⟩,k3.extBut sb.extBut D.i1z,k4.extBut sb.extBut D.i2z⟩,fun c hc=>?_⟩
  ·rw[I.list_inj r1 q1,I.list_inj r2 q2]
   exact⟨hx,hy⟩
  ·exact sb.extBut _ _ D.TIz (k7 _ _ D.TIz D.TITO D.TIi1 D.TIi2 h2)
  ·rw[zq (b5 (lt c hc))]
   exact (hf c hc).1
 done:=by
  intro X hP hw hK hc i pins s σ H E I hf st hg
  subst hP hw hK
  obtain⟨h1,h2,⟨u,v,h3⟩,h4,h5⟩:=st
  obtain⟨xs,ys,q1,q2,hl⟩:=hg
  obtain⟨its,rv,p,hz⟩:=I.list q1
  obtain⟨jts,rw',p',hz'⟩:=I.list q2
  have l1:=rv.length
  have l2:=rw'.length
  refine wpAny_pyNext_zip_end (I.ok.hd hc) D h1 h2 h3 h4 h5 p.isList p'.isList ?_ fun h' k=>⟨rfl,I.turnedS (t':=s.toks) (fun c o hc e=>?_) hf⟩
  ·rcases hl with hl | hl
   ·exact .inl (by simp;omega)
   ·exact .inr (by simp;omega)
  ·simp only[bN,bS,or_false,not_or] at hc
   exact k c o hc.1 hc.2.2.1 hc.2.2.2.1 hc.2.2.2.2 e
 self:=fun _ _ _ _ _ st h=>wpAny_pyIter_zip st.1 h
def rz (K:PySem.W.Frag) (ta:TA):TI:=fun σ H R=>ta σ H fun vs H1=>∃ a b,vs=[.ref a,.ref b]∧(∃ xs,z5 K H1 a xs)∧(∃ ys,z5 K H1 b ys)∧R (tM K a b) H1
section
variable {X:Cx} {es:List Expr} {n:Nat} {tpos:Pos}
theorem nS {a b:Expr} {ta:TA} {p pos:Pos} (hg:Gl X "zip") (hm:X.mg "zip" = none) (ha:PA X [a,b] ta) (hs:starEach [a,b] X.env=[(false,eval a X.env),(false,eval b X.env)]:=by rfl) (hs2:starEach [b] X.env=[(false,eval b X.env)]:=by rfl) :
  PI X (.Tuple es n tpos) (.Call (.Name "zip" p) [a,b] [] pos) (rz X.K ta):=by
 intro pins s σ H R I h
 refine Call_ (uc I hg hm boot_zip (PyProof.Rows.callWith_type1 (qS (ha pos pins s σ H _ I h) fun us s1 ⟨vs,H1,I1,r1,q1⟩=>?_) (by rw[hs,hs2]) (by rw[hs2];rfl)))
 obtain⟨l1,l2,e,⟨xs,h1⟩,⟨ys,h2⟩,q⟩:=q1
 subst e
 cases r1 with
 | cons r rr =>
  cases rr with
  | cons r' rr =>
   cases rr
   cases r
   cases r'
   obtain⟨its,rv,p,hz⟩:=I1.list h1
   obtain⟨jts,rw',p',hz'⟩:=I1.list h2
   have a1:l1<s1.heap.objs.size:=by obtain⟨_,e,_⟩:=p.isList;exact bQ e
   have a2:l2<s1.heap.objs.size:=by obtain⟨_,e,_⟩:=p'.isList;exact bQ e
   refine call_zip_2 p.isList p'.isList fun h' k1 k2 k3 k4 k5 k6 k7=>?_
   refine wpAny_pyIter_zip k1 ?_
   refine⟨_,_,_,_,H1,rfl,I1.kept (t':=s1.toks) k7,P6 (zipApart_new a1 a2),⟨k1,k2,⟨_,_,k3⟩,k4,k5⟩,fun c hc=>?_,q⟩
   have hc:s1.heap.objs.size≤c:=by
    simp only[bN,bS,or_false] at hc
    rcases hc with rfl | rfl | rfl | rfl | rfl
    ·exact BU _ _
    ·exact BU _ _
    ·exact BU _ _
    ·exact bK _
    ·exact BU _ _
   exact I1.fpOk hc (I1.hok.fresh hc)
end
open PySem.W
end L2
namespace DT
open PySem PySem.Spec PyProof.Rows
section
variable {prog:Program} {w:World} {A:Around} {E:Value→Shared→Prop} {s:Shared}
variable {K:Type} [DecidableEq K] {knd:KeyKind prog w K}
end
end DT
namespace L2
open PySem PySem.Spec PyProof.Rows
section
variable {X:Cx}
end
section
variable {X:Cx} {a b:Expr} {rest:List Expr} {ta tb:TE} {pos:Pos}
end
open Builtin Builtin.Str
section
variable {prog:Program} {w:World} {A:Around} {E:Value→Shared→Prop} {s:Shared} {J l:Addr} {items:Array Value}
end
section
variable {X:Cx} {a:Expr} {ta:TA} {p1 p2 p3 apos cpos:Pos} {sep:Str} {kn:Nat}
end
end L2
namespace L2
open PySem PySem.Spec PyProof.Rows
section
variable {X:Cx}
theorem YJ (hc:X.calm=true):jq X (.builtin "max") (fun xs H Q=>∃ (a:Addr) (ns:List Int) (m:Int),xs=[.ref a]∧z5 X.K H a (ns.map V.int)∧m∈ns∧(∀ x∈ns,x≤m)∧Q (.int m) H):=by
 intro pins s σ H xs us Q I r h
 obtain⟨a,ns,m,rfl,hS,hm,hx,q⟩:=h
 obtain⟨u,rfl,ru⟩:=vK r
 cases ru
 obtain⟨its,rv,pl,hz⟩:=I.list hS
 have hl:its.length=ns.length:=by rw[← rv.length,bM]
 have hn:0<ns.length:=CV hm
 have hlt':a<s.heap.objs.size:=by obtain⟨o,e,_⟩:=pl.isList;exact bQ e
 have hlt:a≠s.heap.objs.size:=b5 hlt'
 refine call_max_walk (wpAny_pyIter_list pl.isList ?_)
 refine⟨s.heap.objs.size,_,_,_,_,_,fun i j=>decide (ns.getD i 0 > ns.getD j 0),rfl,Walks.list (A:=X.A.in1) (I.ok.hd hc) _ a hlt its.toArray,⟨⟨_,Bd _ rfl,rfl,rfl⟩,pl.isList.push _⟩,fun b hb=>?_,by rw[bT];omega,fun i j vi vj s' Q' E' h1 h2 h3=>?_,fun v h' tk hv hk=>?_⟩
 ·show b<(s.heap.push _).objs.size
  rw[cA]
  rcases bN.mp hb with rfl | hb
  ·exact BX _
  ·rw[Bf.mp hb]
   exact Cd hlt'
 ·obtain⟨t1,rfl⟩:=Zk rv h1
  obtain⟨t2,rfl⟩:=Zk rv h2
  exact gt_int h3
 ·obtain⟨t,rfl⟩:=Zk rv hv
  obtain⟨b1,b2⟩:=argBest_gt (fun i=>ns.getD i 0) (its.toArray.size - 1)
  rw[bT] at b1 b2
  have hi:argBest (fun i j=>decide (ns.getD i 0 > ns.getD j 0)) (its.length - 1)<ns.length:=by omega
  have e:ns.getD (argBest (fun i j=>decide (ns.getD i 0 > ns.getD j 0)) (its.length - 1)) 0=m:=by
   refine Int.le_antisymm (hx _ ?_) ?_
   ·rw[Bx,bO hi]
    exact B7 hi
   ·obtain⟨j,hj,rfl⟩:=List.getElem_of_mem hm
    have:=b2 j (by omega)
    rw[Bx,bO hj] at this
    exact this
  refine⟨.int m,H,I.walked hk,⟨t,?_⟩,q⟩
  rw[← e,bT]
end
theorem G4 {σ:St} {H:Hp} {A B:Hp→Prop} (h:A H):qC σ H fun b H2=>if b=true then A H2 else B H2:=by
 show if true=true then A H else B H
 exact y8 h
structure qP {α:Type} (H:Hp) (ys:List V) (xs:List α) (P:Hp→V→α→Prop):Prop where
 len:ys.length=xs.length
 at_:∀ (i:Nat) (y:V),ys[i]? = some y→∃ x,xs[i]? = some x∧∀ H',zx H H'→P H' y x
section
variable {J:It} {D:Addr} {te:TE} {fin:List V→Hp→Prop} {σ:St} {H:Hp} {ys:List V} {α:Type} {xs:List α} {P:Hp→V→α→Prop}
theorem jn (W:wq J H ys) (T:qP H ys xs P) (hD:H D=none) (hz:xs.length<sizeLine) (φ:α→V)
  (he:∀ x∈xs,∀ v H' R,zx H H'→P H' v x→(∀ H'',zx H' H''→R (φ x) H'')→te (σ.set 0 (some v)) H' R)
  (hf:∀ H',zx H H'→H' D=some (.lst (xs.map φ))→fin (xs.map φ) H'):yG J D (zX 0) qC te fin σ (upd H D (.lst [])):=by
 refine yL W hD (fun i zs H'=>zs=(xs.take i).map φ) (fun σ'=>∀ x,σ'.set 0 (some x) = σ.set 0 (some x)) (fun _=>rfl) rfl ?_ ?_
 ·rintro i y zs σ' H' hy hσ s hd hl rfl
  obtain⟨x,hx,hP⟩:=T.at_ i y hy
  have tk:xs.take (i+1)=xs.take i++[x]:=by rw[BI,hx];rfl
  have hi:i<xs.length:=(bU.mp hx).1
  have hσ2:∀ z,(σ'.set 0 (some y)).set 0 (some z) = σ.set 0 (some z):=fun z=>by rw[cn];exact hσ z
  unfold YG zX
  dsimp only
  refine G4 ?_
  rw[hσ y] at hσ2 ⊢
  refine he x (Bv hx) y _ _ s (hP _ s) fun H3 s3=>⟨s3 _ _ hd,by omega,hσ2,fun b o z=>?_,zm,?_,?_⟩
  ·rw[zq (zF z hD)]
   exact s3 _ _ (s _ _ z)
  ·rw[bP,Bu];omega
  ·rw[tk,Bc];rfl
 ·rintro zs H' s hd hl rfl
  rw[T.len,BD] at hd ⊢
  exact hf H' s hd
theorem VV {tt:TT} (W:wq J H ys) (T:qP H ys xs P) (hD:H D=none) (hz:xs.length<sizeLine) (p:α→Bool) (φ:α→V)
  (ht:∀ x∈xs,∀ v H' R,zx H H'→P H' v x→(∀ H'',zx H' H''→R (p x) H'')→tt (σ.set 0 (some v)) H' R)
  (he:∀ x∈xs,∀ v H' R,zx H H'→P H' v x→(∀ H'',zx H' H''→R (φ x) H'')→te (σ.set 0 (some v)) H' R)
  (hf:∀ H',zx H H'→H' D=some (.lst ((xs.filter p).map φ))→fin ((xs.filter p).map φ) H'):yG J D (zX 0) tt te fin σ (upd H D (.lst [])):=by
 refine yL W hD (fun i zs H'=>zs=((xs.take i).filter p).map φ) (fun σ'=>∀ x,σ'.set 0 (some x) = σ.set 0 (some x)) (fun _=>rfl) rfl ?_ ?_
 ·rintro i y zs σ' H' hy hσ s hd hl rfl
  obtain⟨x,hx,hP⟩:=T.at_ i y hy
  have tk:xs.take (i+1)=xs.take i++[x]:=by rw[BI,hx];rfl
  have hi:i<xs.length:=(bU.mp hx).1
  have hm:=Bv hx
  have hσ2:∀ z,(σ'.set 0 (some y)).set 0 (some z) = σ.set 0 (some z):=fun z=>by rw[cn];exact hσ z
  unfold YG zX
  dsimp only
  rw[hσ y] at hσ2 ⊢
  refine ht x hm y _ _ s (hP _ s) fun H2 s2=>?_
  cases q:p x with
  | true =>
   refine y8 (he x hm y _ _ (s.trans s2) (hP _ (s.trans s2)) fun H3 s3=>⟨s3 _ _ (s2 _ _ hd),by omega,hσ2,fun b o z=>?_,zm,?_,?_⟩)
   ·rw[zq (zF z hD)]
    exact s3 _ _ (s2 _ _ (s _ _ z))
   ·rw[bP,Bu];omega
   ·rw[tk,Ch,Bc];simp[q]
  | false =>
   refine qN ⟨hσ2,s.trans s2,s2 _ _ hd,by omega,?_⟩
   rw[tk,Ch,Bc];simp[q]
 ·rintro zs H' s hd hl rfl
  rw[T.len,BD] at hd ⊢
  exact hf H' s hd
theorem vR (W:wq J H ys) (hl:ys.length=xs.length) (hD:H D=none) (hz:xs.length<sizeLine) (S:V→α→Prop)
  (he:∀ (i:Nat) x v,xs[i]? = some x→ys[i]? = some v→∀ H' R,zx H H'→(∀ u H'',S u x→zx H' H''→R u H'')→te (σ.set 0 (some v)) H' R)
  (hf:∀ zs H',zx H H'→zs.length=xs.length→(∀ (i:Nat) u,zs[i]? = some u→∃ x,xs[i]? = some x∧S u x)→H' D=some (.lst zs)→fin zs H'):yG J D (zX 0) qC te fin σ (upd H D (.lst [])):=by
 refine yL W hD (fun i zs H'=>zs.length=i∧∀ (j:Nat) u,zs[j]? = some u→∃ x,xs[j]? = some x∧S u x) (fun σ'=>∀ x,σ'.set 0 (some x) = σ.set 0 (some x)) (fun _=>rfl) ⟨rfl,fun j u e=>by cases e⟩ ?_ ?_
 ·rintro i y zs σ' H' hy hσ s hd hl' ⟨g1,g2⟩
  have hi:i<xs.length:=by rw[← hl];exact (bU.mp hy).1
  have hx:=bO hi
  have hσ2:∀ z,(σ'.set 0 (some y)).set 0 (some z) = σ.set 0 (some z):=fun z=>by rw[cn];exact hσ z
  unfold YG zX
  dsimp only
  refine G4 ?_
  rw[hσ y] at hσ2 ⊢
  refine he i _ y hx hy _ _ s fun u H3 hu s3=>⟨s3 _ _ hd,by omega,hσ2,fun b o z=>?_,zm,?_,?_,fun j w e=>?_⟩
  ·rw[zq (zF z hD)]
   exact s3 _ _ (s _ _ z)
  ·rw[bP,Bu];omega
  ·rw[bP,Bu,g1]
  ·by_cases hj:j<zs.length
   ·rw[Bl hj] at e
    exact g2 j w e
   ·rw[bY (BL hj)] at e
    cases q:j - zs.length with
    | zero =>
     rw[q] at e
     cases e
     have:j=i:=by omega
     subst this
     exact⟨_,hx,hu⟩
    | succ n =>
     rw[q] at e
     cases e
 ·rintro zs H' s hd _ ⟨g1,g2⟩
  exact hf zs H' s (g1.trans hl) g2 hd
theorem VQ {K:PySem.W.Frag} {prs:List (Str × Int)} (W:wq J H ys) (T:z4 H ys (prs.map cP)) (hD:H D=none) (hz:prs.length<sizeLine) (φ:Str × Int→V)
  (he:∀ q∈prs,∀ H' R,zx H H'→(∀ H'',zx H' H''→R (φ q) H'')→te ((σ.set 0 (some (.str q.1))).set 1 (some (.int q.2))) H' R)
  (hf:∀ H',zx H H'→H' D=some (.lst (prs.map φ))→fin (prs.map φ) H'):yG J D (JT K 2 (jp (zX 0) (jp (zX 1) Jn))) qC te fin σ (upd H D (.lst [])):=by
 have tl:ys.length=prs.length:=by rw[T.len,bM]
 refine yL W hD (fun i zs H'=>zs=(prs.take i).map φ) (fun σ'=>∀ x y,(σ'.set 0 x).set 1 y=(σ.set 0 x).set 1 y) (fun _ _=>rfl) rfl ?_ ?_
 ·rintro i y zs σ' H' hy hσ s hd hl rfl
  obtain⟨b,c,rfl,h1,h2⟩:=T.of_at hy
  rw[bR] at h1
  obtain⟨q,hq,rfl⟩:=bX.mp h1
  have tk:prs.take (i+1)=prs.take i++[q]:=by rw[BI,hq];rfl
  have hi:i<prs.length:=(bU.mp hq).1
  refine⟨b,_,rfl,qg.of (s _ _ h2),rfl,_,_,rfl,_,_,rfl,rfl,G4 ?_⟩
  rw[hσ]
  have hσ2:∀ x y,((((σ.set 0 (some (.str q.1))).set 1 (some (.int q.2))).set 0 x).set 1 y)=(σ.set 0 x).set 1 y:=fun x y=>by
   rcases σ with _ | ⟨_,_ | ⟨_,_⟩⟩ <;> rfl
  refine he q (Bv hq) _ _ s fun H3 s3=>⟨s3 _ _ hd,by omega,hσ2,fun b o z=>?_,zm,?_,?_⟩
  ·rw[zq (zF z hD)]
   exact s3 _ _ (s _ _ z)
  ·rw[bP,Bu];omega
  ·rw[tk,Bc];rfl
 ·rintro zs H' s hd hl rfl
  rw[tl,BD] at hd ⊢
  exact hf H' s hd
end
section
variable {X:Cx} {elt iter tgt:Expr} {ifs:List Expr} {scope:Scope} {cl:List (Str × Addr)} {Nc:List Str} {src:List (Option Nat)} {g:TG} {tt:TT} {te:TE} {x0:Str}
end
end L2
namespace Pg
open PySem L2
section
variable {H H':Hp} {ys:List V} {tab:List (List Str)}
end
section
variable {tab:List (List Str)} {n:Nat}
end
theorem WQ (sep:Str) (m:Nat):∀ (zs:List Str) (acc:Nat),(∀ z∈zs,z.length≤m)→zs.foldl (fun a z=>a+z.length+sep.length) acc≤acc+zs.length*(m+sep.length):=by
 intro zs
 induction zs with
 | nil=>intro acc _;simp
 | cons z r ih =>
  intro acc h
  rw[cf]
  have h1:=ih (acc+z.length+sep.length) fun z hz=>h z (Bk _ hz)
  have h2:=h z Bb
  rw[Bi,Nat.succ_mul]
  omega
theorem P9 {sep:Str} {m:Nat} (hs:sep.length≤2):∀ (k:Nat) (zs:List Str),zs.length=k→(∀ z∈zs,z.length≤m)→(Txt.join sep zs).length≤k*(m+2):=by
 intro k
 induction k with
 | zero =>
  intro zs e _
  rw[cj.mp e]
  exact Bo _
 | succ k ih =>
  intro zs e h
  rcases List.eq_nil_or_concat zs with rfl | ⟨r,z,rfl⟩
  ·cases e
  ·rw[List.concat_eq_append] at e h ⊢
   have er:r.length=k:=by rw[bP,Bu] at e;omega
   have hz:=h z (Bz _ Bb)
   have hr:=ih r er fun z hz=>h z (cz _ hz)
   rw[Nat.succ_mul]
   by_cases c:r=[]
   ·subst c
    rw[cg,Vy]
    omega
   ·rw[jL _ _ c,Zb,Zb]
    omega
theorem yc {sep:Str} {zs:List Str} {m k:Nat} (h:∀ z∈zs,z.length≤m) (hk:zs.length≤k) (hs:sep.length≤2) (hz:Nat.ble (k*(m+2)) 1000000=true):JoinOk sep zs=true∧(Txt.join sep zs).length≤k*(m+2):=by
 have h1:=WQ sep m zs 0 h
 have h2:zs.length*(m+sep.length)≤k*(m+2):=Nat.mul_le_mul hk (cH hs _)
 have h3:=b8 hz
 constructor
 ·unfold JoinOk Builtin.Str.tooLong
  rw[List.foldl_toArray,Cq,decide_eq_false_iff_not,sizeLine_eq]
  omega
 ·exact Bj (P9 hs _ zs rfl h) (Nat.mul_le_mul_right _ hk)
def Zr:Sp:=fun vs H Q _=>∃ i,vs=[.int i]∧Q .non H
theorem YA {H:Hp} (n:Nat):qP H ((List.range n).map fun k=>V.int (0+(k:Nat))) (List.range n) (fun _ v k=>v = .int (k:Nat)) :=
 ⟨bM _,fun i y h=>by
  rw[bR] at h
  obtain⟨z,h1,rfl⟩:=bX.mp h
  exact⟨z,h1,fun _ _=>by rw[cb]⟩⟩
end Pg
set_option maxHeartbeats 4000000
namespace K14
open PySem PySem.NumText L2 Pg
seal PE PA PT PW PS jw PG um PI ud PO PK
section
variable {P:Program} {w:World} {K:PySem.W.Frag} {mg:Str→Option Value} {base:Heap} {f:Addr} {fd:FuncData} {d:Nat→Addr} {cR:Addr}
theorem pH (F:qE K "need_amount" "need_amount" (top 27) f fd) (C1:qH P w K mg base zO 1 "is_number" ["thing"] (vp K)):zJ P w K mg base zO 2 f fd ["thing"] Zr:=by
 refine F.ok (N:=["thing"]) ⟨rfl,rfl,rfl,by decide +kernel,rfl,by decide +kernel,by decide +kernel⟩ (fun vs H Q E h=>?_) (fun cdv A outer s H vs Q E hr h=>?_)
 ·obtain⟨i,rfl,_⟩:=h
  rfl
 ·obtain⟨i,rfl,q⟩:=h
  refine⟨_,zi (zT (qD (qz (zj C1 hr (by decide) zu (za (pv 0) zd)))) qk zC),?_⟩
  exact⟨_,rfl,_,rfl,.inl ⟨i,rfl,true,rfl,qN q⟩⟩
end
end K14
namespace K14
open PySem PySem.NumText L2 Pg
seal PE PA PT PW PS jw PG um PI ud PO PK
section
variable {P:Program} {w:World} {K:PySem.W.Frag} {mg:Str→Option Value} {base:Heap} {f:Addr} {fd:FuncData} {d:Nat→Addr} {cR:Addr}
theorem lF (F:qE K "is_word_of" "is_word_of" (top 37) f fd) (G:jF mg) (N1:kF mg "MOST_SIGNS" 8):zJ P w K mg base zO 1 f fd ["thing","signs"] X0:=by
 obtain⟨tm,hm⟩:=N1
 have nc:(["sign","signs"]:List Str).Nodup:=by decide +kernel
 refine F.ok (N:=["thing","signs"]) ⟨rfl,rfl,rfl,by decide +kernel,rfl,by decide +kernel,by decide +kernel⟩ (fun vs H Q E h=>?_) (fun cdv A outer s H vs Q E hr h=>?_)
 ·obtain⟨z,rfl,_⟩:=h
  rfl
 ·obtain⟨z,rfl,hz,q⟩:=h
  have l1:=hz.lo
  have l8:=hz.hi
  have fit:z.length≤sizeLine:=Wq l8 rfl
  refine' ⟨_,(zh (zT (qD (qz (zt zG rfl G.isinstance zy (za (pv 0) (za (yg (v:=.ty "str") rfl G.str qG rfl) zd))))) (zi (zp yP)) zC)
    (zh (zT (PW.pt (vL (zE YC (zt jH rfl G.len boot_len (za (pv 0) zd)) ze (zD _)) (vt (zE jD (zt jH rfl G.len boot_len (za (pv 0) zd)) (zZ (v:=.int 8) rfl hm ⟨_,rfl⟩) (zD _))))) (zi (zp yP)) zC)
    (zi (zp (zt (vh rfl) rfl G.all vV (za ?comp zd)))))),?main⟩
  case comp =>
   refine' qb (Nc:=["sign","signs"]) (cl:=[("signs",s.heap.objs.size+1)]) (src:=[none,some 1]) (wi:=ng (zP 0)) (g:=zX 0) (tt:=qC) (te:=jB (fun x y H Q=>∃ i j,x = .str i∧y = .str j∧Q (.bl (!(Builtin.Str.occurrences j i 0 j.length 1).isEmpty)) H) (zP 0) (zP 1)) ⟨rfl,rfl,by decide +kernel,by decide +kernel,ja (wG rfl),qu (by rfl),zQ (qt ⟨_,rfl,rfl,rfl,rfl⟩ qc),rfl⟩ rfl (OY (pv 0)) ?hb
   case hb =>
    intro fp C' s' H'
    exact⟨zS (i:=0) nc rfl (Or.inl rfl),qi,qB YL (pv 0) (pv 1) (by rfl)⟩
  refine⟨_,rfl,_,_,_,_,true,rfl,rfl,.inl (.str z),rfl,true,rfl,qN ?_⟩
  refine⟨_,rfl,z,rfl,fit,_,_,rfl,rfl,_,rfl,yv (fun e=>absurd (of_decide_eq_true e) (by omega)) (fun _=>⟨_,rfl,z,rfl,fit,_,_,rfl,rfl,_,rfl,yv (fun e=>absurd (of_decide_eq_true e) (by omega)) (fun _=>?_)⟩)⟩
  refine⟨_,rfl,z,rfl,fun D hD=>?_⟩
  refine Zf (UL (z:=z)) hD (by rw[bM,← qF,sizeLine_eq];omega) (fun _=>true) (fun x=>match x with | .str y=>.bl (UZ (y.cps.getD 0 0)) | v=>v) (fun x _ H' R _ r=>r) (fun x hx _ H' R _ r=>?_) ?_
  ·obtain⟨c,_,rfl⟩:=bZ.mp hx
   refine⟨_,rfl,_,rfl,_,_,rfl,rfl,?_⟩
   rw[gK]
   exact r
  ·rw[List.filter_eq_self.mpr fun _ _=>rfl,b6]
   refine⟨D,z.cps.toList.map UZ,rfl,z5.of (by rw[b6];exact zm),?_⟩
   have e2:(z.cps.toList.map UZ).all id=true:=by
    rw[Cc]
    exact hz.all
   rw[e2]
   exact q _ (zx.upd hD)
end
end K14
namespace K14
open PySem PySem.NumText L2 Pg
seal PE PA PT PW PS jw PG um PI ud PO PK
section
variable {P:Program} {w:World} {K:PySem.W.Frag} {mg:Str→Option Value} {base:Heap} {f:Addr} {fd:FuncData} {d:Nat→Addr} {cR:Addr}
theorem lB (F:qE K "is_name" "is_name" (top 38) f fd) (N1:Txt mg "LETTERS" "abcdefghijklmnopqrstuvwxyz") (C1:qH P w K mg base zO 1 "is_word_of" ["thing","signs"] X0):zJ P w K mg base zO 2 f fd ["thing"] XB:=by
 obtain⟨tm,hm⟩:=N1
 refine F.ok (N:=["thing"]) ⟨rfl,rfl,rfl,by decide +kernel,rfl,by decide +kernel,by decide +kernel⟩ (fun vs H Q E h=>?_) (fun cdv A outer s H vs Q E hr h=>?_)
 ·obtain⟨z,rfl,_⟩:=h
  rfl
 ·obtain⟨z,rfl,hz,q⟩:=h
  exact⟨_,zi (zp (zj C1 hr (by decide) zu (za (pv 0) (za (zZ (v:=.str "abcdefghijklmnopqrstuvwxyz") rfl hm ⟨_,rfl⟩) zd)))),_,rfl,z,rfl,hz,q⟩
end
end K14
namespace K14
open PySem PySem.NumText L2 Pg
seal PE PA PT PW PS jw PG um PI ud PO PK
section
variable {P:Program} {w:World} {K:PySem.W.Frag} {mg:Str→Option Value} {base:Heap} {f:Addr} {fd:FuncData} {d:Nat→Addr} {cR:Addr}
theorem xF (F:qE K "_law_cell_at" "_law_cell_at" (top 92) f fd) (G:jF mg):zJ P w K mg base zO 1 f fd ["_law_script","_law_k"] (XJ K):=by
 refine F.ok (N:=["_law_script","_law_k"]) ⟨rfl,rfl,rfl,by decide +kernel,rfl,by decide +kernel,by decide +kernel⟩ (fun vs H Q E h=>?_) (fun cdv A outer s H vs Q E hr h=>?_)
 ·obtain⟨a,k,ns,rfl,_⟩:=h
  rfl
 ·obtain⟨a,k,ns,rfl,hs,hk,q⟩:=h
  refine⟨_,(zh (zT (zE YC (pv 1) (zt zR rfl G.len PySem.boot_len (za (pv 0) zd)) (zD _)) (zi (zp (zB zK (pv 0) (pv 1)))) zC)
    (zi (zp ze))),?_⟩
  refine⟨_,rfl,_,rfl,a,_,rfl,.inl hs,_,_,rfl,rfl,_,rfl,yv (fun e=>?_) (fun e=>?_)⟩
  ·exact⟨_,rfl,_,rfl,a,_,_,_,rfl,rfl,hs,lH hk (of_decide_eq_true e),q⟩
  ·rw[Pn fun c=>e (decide_eq_true c)] at q
   exact q
end
end K14
namespace K14
open PySem PySem.NumText L2 Pg
seal PE PA PT PW PS jw PG um PI ud PO PK
section
variable {P:Program} {w:World} {K:PySem.W.Frag} {mg:Str→Option Value} {base:Heap} {f:Addr} {fd:FuncData} {d:Nat→Addr} {cR:Addr}
theorem Pz (F:qE K "_law_whole" "_law_whole" (top 94) f fd) (G:jF mg):zJ P w K mg base zO 1 f fd ["_law_found"] Qi:=by
 refine F.ok (N:=["_law_found"]) ⟨rfl,rfl,rfl,by decide +kernel,rfl,by decide +kernel,by decide +kernel⟩ (fun vs H Q E h=>?_) (fun cdv A outer s H vs Q E hr h=>?_)
 ·obtain⟨v,rfl,_⟩:=h
  rfl
 ·obtain⟨z,rfl,q⟩:=h
  refine⟨_,zi (zp (yI (zt zG rfl G.isinstance zy (za (pv 0) (za (yg (v:=.ty "int") rfl G.int vf rfl) zd)))
   (yT (We (zt zG rfl G.isinstance zy (za (pv 0) (za (yg (v:=.ty "bool") rfl G.bool YE rfl) zd))))))),?_⟩
  refine⟨_,rfl,_,_,_,_,true,rfl,rfl,.inl (.int z),rfl,true,rfl,y8 ?_⟩
  exact⟨_,rfl,_,_,_,_,false,rfl,rfl,.inl (.int z),rfl,false,rfl,q⟩
end
end K14
namespace Pg
open PySem L2
def KT (H H':Hp):Prop:=∀ b c,(H b=some (.tup c)→H' b=some (.tup c))∧∀ o,H b=some (.frz o (.tup c))→H' b=some (.frz o (.tup c))
theorem YN {H:Hp} (ts:List Int):qP H (ts.map V.int) ts (fun _ v o=>v = .int o) :=
 ⟨bM _,fun i y h=>by
  rw[bR] at h
  obtain⟨z,h1,rfl⟩:=bX.mp h
  exact⟨z,h1,fun _ _=>rfl⟩⟩
theorem xy {i:Int} (h0:0≤i) (h1:i<26):atI ("abcdefghijklmnopqrstuvwxyz":Str).cps.toList i=some (97+i.toNat):=by
 obtain⟨n,rfl⟩:=BP h0
 rw[uB]
 refine qV ?_
 rw[List.getElem?_range' (by omega)]
 rw[BA]
 congr 1
 omega
def wayL:List Str:=["down","up","near","even"]
def ti (K:PySem.W.Frag) (mg:Str→Option Value) (x:Str) (zs:List Str):Prop:=∃ a,mg x=some (.ref a)∧∀ H,qg K H a (zs.map V.str)
def Zs (z l:Int) (x:Str):Bool:=if x = "near" then decide (0<z) else decide (l%2=1)
def Jw (z l r:Int) (x:Str):Bool:=if x = "down" then false else if x = "up" then decide (0<r) else if r=5000 then Zs z l x else decide (5000<r)
def U6 (z:Int) (x:Str):Int:=if Jw z (z/10000) (z%10000) x=true then z/10000+1 else z/10000
theorem Uv (x:Str) (zs:List Str):tE (.str x) (zs.map V.str)=zs.contains x:=by
 unfold tE
 rw[List.any_map,List.contains_eq_any_beq]
 congr 1
 funext y
 show (y==x)=(x==y)
 exact Bool.beq_comm ..
def uq:Sp:=fun vs H Q _=>∃ z,vs=[.int z]∧0≤z∧z≤20000∧Q (.bl true) H
def Ze:Sp:=fun vs H Q _=>∃ x,vs=[.str x]∧wayL.contains x=true∧Q (.bl true) H
def YF:Sp:=fun vs H Q _=>∃ x,vs=[.str x]∧wayL.contains x=true∧Q .non H
def Xu:Sp:=fun vs H Q _=>∃ z l x,vs=[.int z,.int l,.str x]∧Q (.bl (Zs z l x)) H
def Xl:Sp:=fun vs H Q _=>∃ z l r x,vs=[.int z,.int l,.int r,.str x]∧Q (.bl (Jw z l r x)) H
def JB:Sp:=fun vs H Q _=>∃ z x,vs=[.int z,.str x]∧wayL.contains x=true∧Q (.int (U6 z x)) H
def va:Sp:=fun vs H Q _=>∃ z n x,vs=[.int z,.int n,.str x]∧0≤n∧n≤20000∧wayL.contains x=true∧Q (.int (U6 (z*n) x)) H
def WP (z:Int) (x:Str):Int:=if x = "down" then z/10000 else if x = "up" then z/10000+(if 0<z%10000 then 1 else 0) else if x = "near" then z/10000+(if 5000≤z%10000 then 1 else 0) else z/10000+(if 5000<z%10000∨(z%10000=5000∧z/10000%2=1) then 1 else 0)
theorem mL {z:Int} {x:Str} (h:0≤z):WP z x=U6 z x:=by
 unfold WP U6 Jw Zs
 by_cases h1:x = "down"
 ·rw[if_pos h1,if_pos h1,if_neg bV]
 rw[if_neg h1,if_neg h1]
 by_cases h2:x = "up"
 ·rw[if_pos h2,if_pos h2]
  by_cases c:0<z%10000
  ·rw[if_pos c,if_pos (decide_eq_true c)]
  ·rw[if_neg c,if_neg fun k=>c (of_decide_eq_true k),Cj]
 rw[if_neg h2,if_neg h2]
 by_cases h3:x = "near"
 ·rw[if_pos h3,if_pos h3]
  by_cases c:z%10000=5000
  ·rw[if_pos c,if_pos (by omega),if_pos (decide_eq_true (by omega))]
  ·rw[if_neg c]
   by_cases e:5000<z%10000
   ·rw[if_pos (by omega),if_pos (decide_eq_true e)]
   ·rw[if_neg (by omega),if_neg fun k=>e (of_decide_eq_true k),Cj]
 ·rw[if_neg h3,if_neg h3]
  by_cases c:z%10000=5000
  ·rw[if_pos c]
   by_cases e:z/10000%2=1
   ·rw[if_pos (.inr ⟨c,e⟩),if_pos (decide_eq_true e)]
   ·rw[if_neg (by omega),if_neg fun k=>e (of_decide_eq_true k),Cj]
  ·rw[if_neg c]
   by_cases e:5000<z%10000
   ·rw[if_pos (.inl e),if_pos (decide_eq_true e)]
   ·rw[if_neg (by omega),if_neg fun k=>e (of_decide_eq_true k),Cj]
inductive Rk where
 | flat (n:Str) (a:Int)
 | share (n:Str) (p:Int) (w:Str)
 | capped (n:Str) (p m:Int) (w:Str)
 | least (n:Str) (p l:Int) (w:Str)
 | bands (n:Str) (ps:List (Int × Int)) (w:Str)
 | ontop (n:Str) (p:Int) (w:Str) (r:Rk)
def Rk.name:Rk→Str
 | .flat n _=>n
 | .share n _ _=>n
 | .capped n _ _ _=>n
 | .least n _ _ _=>n
 | .bands n _ _=>n
 | .ontop n _ _ _=>n
def Rk.kd:Rk→Nat
 | .flat ..=>0
 | .share ..=>1
 | .capped ..=>2
 | .least ..=>3
 | .bands ..=>4
 | .ontop ..=>5
def noNames:List Str:=["base","net","month","sums"]
structure q9 (z:Str):Prop where
 ok:WZ z
 no:noNames.contains z=false
def YZ (p:Int):Prop:=0≤p∧p≤20000
def JY (a:Int):Prop:=0≤a∧a≤1000000000000
def JW (w:Str):Prop:=wayL.contains w=true
inductive Vr:Rk→Prop where
 | flat {n:Str} {a:Int}:q9 n→JY a→Vr (.flat n a)
 | share {n:Str} {p:Int} {w:Str}:q9 n→YZ p→JW w→Vr (.share n p w)
 | capped {n:Str} {p m:Int} {w:Str}:q9 n→YZ p→JY m→JW w→Vr (.capped n p m w)
 | least {n:Str} {p l:Int} {w:Str}:q9 n→YZ p→JY l→JW w→Vr (.least n p l w)
def pos (bs:List Int):Int:=((bs.filter fun b=>decide (0<b)).length:Nat)
def MM (r:Rk) (bs:List Int):Int:=match r with
 | .flat _ a=>a*pos bs
 | .share _ p w=>U6 (bs.sum*p) w
 | .capped _ p m w=>U6 ((if m<bs.sum then m else bs.sum)*p) w
 | .least _ p l w=>if l*pos bs > U6 (bs.sum*p) w then l*pos bs else U6 (bs.sum*p) w
 | _=>0
def jR (r:Rk):List V:=match r with
 | .flat n a=>[.str "flat",.str n,.int a]
 | .share n p w=>[.str "share",.str n,.int p,.str w]
 | .capped n p m w=>[.str "capped",.str n,.int p,.int m,.str w]
 | .least n p l w=>[.str "least",.str n,.int p,.int l,.str w]
 | _=>[]
def Q9:V→Str
 | .str z=>z
 | .int i=>toString i
 | _=>Str.empty
def xY (r:Rk):Str:=Txt.join " " ((jR r).map Q9)
def om (H:Hp) (v:V) (r:Rk):Prop:=∃ t,v = .ref t∧H t=some (.tup (jR r))
theorem om.same {H H':Hp} {v:V} {r:Rk} (s:zx H H') (h:om H v r):om H' v r:=by
 obtain⟨t,e,h⟩:=h
 exact⟨t,e,s _ _ h⟩
def MP (r:Rk):List (Str × V):=match r with
 | .flat n a=>[("name",.str n),("amount",.int a)]
 | .share n p w=>[("name",.str n),("parts",.int p),("way",.str w)]
 | .capped n p m w=>[("name",.str n),("parts",.int p),("most",.int m),("way",.str w)]
 | .least n p l w=>[("name",.str n),("parts",.int p),("least",.int l),("way",.str w)]
 | _=>[]
def xx (Cs:Nat→Addr) (H:Hp) (v:V) (r:Rk):Prop:=∃ o dx,v = .ref o∧H o=some (.ins (Cs r.kd) dx (MP r))
theorem xx.same {Cs:Nat→Addr} {H H':Hp} {v:V} {r:Rk} (s:zx H H') (h:xx Cs H v r):xx Cs H' v r:=by
 obtain⟨t,dx,e,h⟩:=h
 exact⟨t,dx,e,s _ _ h⟩
structure vM (K:PySem.W.Frag) (Cs:Nat→Addr):Prop where
 cls:∀ i,i<4→uT K (Cs i)
 no:∀ i,i<4→∀ x∈(["name","amount","parts","way","most","least"]:List Str),zU K (Cs i) x
def YY:Sp:=fun vs H Q _=>∃ z,vs=[.str z]∧q9 z∧∀ H',zx H H'→Q (.bl true) H'
def ZO:Sp:=fun vs H Q _=>∃ z,vs=[.int z]∧JY z∧Q (.bl true) H
def ur:Sp:=fun vs H Q _=>∃ z,vs=[.int z]∧JY z∧Q .non H
def vd:Sp:=fun vs H Q _=>∃ p w,vs=[.int p,.str w]∧YZ p∧JW w∧Q .non H
def U8 (K:PySem.W.Frag):Sp:=fun vs H Q _=>∃ b bs,vs=[.ref b]∧z5 K H b (bs.map V.int)∧bs.length≤100∧∀ H',zx H H'→Q (.int (pos bs)) H'
def vP (Cs:Nat→Addr):Sp:=fun vs H Q _=>∃ i o dx z,vs=[.ref o,.str z]∧i<4∧H o=some (.ins (Cs i) dx [])∧q9 z∧∀ H',(∀ b x,H b=some x→b≠o→H' b=some x)→H' o=some (.ins (Cs i) dx [("name",.str z)])→Q .non H'
def Ra (r:Rk):List V:=(jR r).drop 1
def yj (k:Nat) (Cs:Nat→Addr):Sp:=fun vs H Q _=>∃ o dx r,vs = .ref o::Ra r∧r.kd=k∧Vr r∧H o=some (.ins (Cs k) dx [])∧∀ H',(∀ b x,H b=some x→b≠o→H' b=some x)→H' o=some (.ins (Cs k) dx (MP r))→Q .non H'
def vB (K:PySem.W.Frag) (k:Nat) (Cs:Nat→Addr):Sp:=fun vs H Q _=>∃ v r b bs,vs=[v,.ref b]∧r.kd=k∧xx Cs H v r∧Vr r∧z5 K H b (bs.map V.int)∧bs.length≤100∧∀ H',zx H H'→Q (.int (MM r bs)) H'
def dl (bs:List Int):List Int:=(bs.drop (HT.uZ bs.length 0 none)).take (HT.uZ bs.length bs.length (some (-1)) - HT.uZ bs.length 0 none)
theorem Op (bs:List Int):vm (bs.map V.int) none (some (-1))=(dl bs).map V.int:=by
 unfold vm dl
 rw[bM,List.map_take,List.map_drop]
theorem OJ (bs:List Int):(dl bs).length≤bs.length:=by
 unfold dl
 rw[Bh,BZ]
 omega
theorem MH {bs:List Int} {b:Int} (h:b∈dl bs):b∈bs:=List.mem_of_mem_drop (Cl h)
def jI (k:Nat) (Cs:Nat→Addr):Sp:=fun vs H Q _=>∃ v r,vs=[v]∧r.kd=k∧xx Cs H v r∧Vr r∧∀ H',zx H H'→Q (.str (xY r)) H'
theorem VL {r:Rk} (h:Vr r):∀ z∈(jR r).map Q9,z.length≤20:=by
 have nl:∀ {z:Str},q9 z→z.length≤20:=fun h=>Bj h.ok.hi (by decide)
 have il:∀ {i:Int},0≤i→i≤1000000000000→(Q9 (.int i)).length≤20:=fun h0 h1=>Bj (Qw (k:=13) h0 (by decide) (by omega)) (by decide)
 have wl:∀ {w:Str},JW w→w.length≤20:=fun {w} h=>by
  have h:=BH.mp h
  unfold wayL at h
  simp only[bN,bS,or_false] at h
  rcases h with rfl | rfl | rfl | rfl <;> decide +kernel
 intro z hz
 obtain⟨v,hv,rfl⟩:=bZ.mp hz
 cases h with
 | flat hn ha =>
  simp only[jR,bN,bS,or_false] at hv
  rcases hv with rfl | rfl | rfl
  ·decide +kernel
  ·exact nl hn
  ·exact il ha.1 ha.2
 | share hn hp hw =>
  simp only[jR,bN,bS,or_false] at hv
  rcases hv with rfl | rfl | rfl | rfl
  ·decide +kernel
  ·exact nl hn
  ·exact il hp.1 (Int.le_trans hp.2 (by decide))
  ·exact wl hw
 | capped hn hp ha hw =>
  simp only[jR,bN,bS,or_false] at hv
  rcases hv with rfl | rfl | rfl | rfl | rfl
  ·decide +kernel
  ·exact nl hn
  ·exact il hp.1 (Int.le_trans hp.2 (by decide))
  ·exact il ha.1 ha.2
  ·exact wl hw
 | least hn hp ha hw =>
  simp only[jR,bN,bS,or_false] at hv
  rcases hv with rfl | rfl | rfl | rfl | rfl
  ·decide +kernel
  ·exact nl hn
  ·exact il hp.1 (Int.le_trans hp.2 (by decide))
  ·exact il ha.1 ha.2
  ·exact wl hw
theorem ZK {r:Rk} (h:Vr r):JoinOk " " ((jR r).map Q9)=true:=(yc (m:=20) (k:=5) (VL h) (by cases h <;> exact b8 rfl) (by decide +kernel) rfl).1
theorem uG {p:Int} (h:YZ p):p.natAbs.log2<1920:=Ys h.1 (by have:=h.2;omega)
theorem kA {p:Int} (h:JY p):p.natAbs.log2<1920:=Ys h.1 (by have:=h.2;omega)
theorem bI (n:Str):je "name" (.str n) []=[((("name":Str)),V.str n)]:=rfl
theorem NK (n x:Str) (v:V) (h:("name":Str)≠x):je x v [(("name":Str),V.str n)]=[(("name":Str),V.str n),(x,v)]:=by
 unfold je
 rw[if_neg h]
 rfl
theorem RW (n x y:Str) (u v:V) (h:("name":Str)≠x) (h2:y≠x):je x v [(("name":Str),V.str n),(y,u)]=[(("name":Str),V.str n),(y,u),(x,v)]:=by
 unfold je
 rw[if_neg h]
 unfold je
 rw[if_neg h2]
 rfl
theorem Tu (n x y z:Str) (u v w:V) (h:("name":Str)≠x) (h2:y≠x) (h3:z≠x):je x v [(("name":Str),V.str n),(y,u),(z,w)]=[(("name":Str),V.str n),(y,u),(z,w),(x,v)]:=by
 unfold je
 rw[if_neg h]
 unfold je
 rw[if_neg h2]
 unfold je
 rw[if_neg h3]
 rfl
end Pg
namespace K14
open PySem PySem.NumText L2 Pg
seal PE PA PT PW PS jw PG um PI ud PO PK
section
variable {P:Program} {w:World} {K:PySem.W.Frag} {mg:Str→Option Value} {base:Heap} {f:Addr} {fd:FuncData} {d:Nat→Addr} {cR:Addr}
theorem Gg (F:qE K "is_parts" "is_parts" (top 25) f fd) (N1:kF mg "MOST_PARTS" 20000) (C1:qH P w K mg base zO 2 "is_number_within" ["thing","least","most"] (j8 K)):zJ P w K mg base zO 3 f fd ["thing"] uq:=by
 obtain⟨t,em⟩:=N1
 refine F.ok (N:=["thing"]) ⟨rfl,rfl,rfl,by decide +kernel,rfl,by decide +kernel,by decide +kernel⟩ (fun vs H Q E h=>?_) (fun cdv A outer s H vs Q E hr h=>?_)
 ·obtain⟨z,rfl,_⟩:=h
  rfl
 ·obtain⟨z,rfl,h0,h1,q⟩:=h
  refine⟨_,zi (zp (zj C1 hr (by decide) zu (za (pv 0) (za ze (za (zZ (v:=.int 20000) rfl em ⟨t,rfl⟩) zd))))),_,rfl,_,0,20000,rfl,.inl ⟨z,rfl,?_⟩⟩
  rw[decide_eq_true (⟨h0,h1⟩:(0:Int)≤z∧z≤20000)]
  exact q
theorem L5 (F:qE K "is_way" "is_way" (top 26) f fd) (G:jF mg) (W:ti K mg "WAYS" wayL):zJ P w K mg base zO 1 f fd ["thing"] Ze:=by
 obtain⟨aw,ew,tw⟩:=W
 refine F.ok (N:=["thing"]) ⟨rfl,rfl,rfl,by decide +kernel,rfl,by decide +kernel,by decide +kernel⟩ (fun vs H Q E h=>?_) (fun cdv A outer s H vs Q E hr h=>?_)
 ·obtain⟨x,rfl,_⟩:=h
  rfl
 ·obtain⟨x,rfl,hx,q⟩:=h
  refine⟨_,zi (zp (yI (zt zG rfl G.isinstance zy (za (pv 0) (za (yg (v:=.ty "str") rfl G.str qG rfl) zd)))
   (yT (qB Gs (pv 0) (zZ (v:=.ref aw) rfl ew rfl) (by rfl))))),?_⟩
  refine⟨_,rfl,_,_,_,_,true,rfl,rfl,.inl (.str x),rfl,true,rfl,y8 ⟨_,rfl,aw,_,rfl,.inr (tw H),rfl,rfl,?_⟩⟩
  rw[if_neg bV,Uv,hx]
  exact q
theorem GY (F:qE K "need_way" "need_way" (top 28) f fd) (C1:qH P w K mg base zO 1 "is_way" ["thing"] Ze):zJ P w K mg base zO 2 f fd ["thing"] YF:=by
 refine F.ok (N:=["thing"]) ⟨rfl,rfl,rfl,by decide +kernel,rfl,by decide +kernel,by decide +kernel⟩ (fun vs H Q E h=>?_) (fun cdv A outer s H vs Q E hr h=>?_)
 ·obtain⟨x,rfl,_⟩:=h
  rfl
 ·obtain⟨x,rfl,hx,q⟩:=h
  exact⟨_,zi (zT (qD (qz (zj C1 hr (by decide) zu (za (pv 0) zd)))) qk zC),_,rfl,x,rfl,hx,true,rfl,qN q⟩
theorem mT (F:qE K "half_goes_up" "half_goes_up" (top 29) f fd):zJ P w K mg base zO 1 f fd ["number","lesser","way"] Xu:=by
 refine F.ok (N:=["number","lesser","way"]) ⟨rfl,rfl,rfl,by decide +kernel,rfl,by decide +kernel,by decide +kernel⟩ (fun vs H Q E h=>?_) (fun cdv A outer s H vs Q E hr h=>?_)
 ·obtain⟨z,l,x,rfl,_⟩:=h
  rfl
 ·obtain⟨z,l,x,rfl,q⟩:=h
  refine⟨_,(zh (zT (zE qx (pv 2) zA (zD _)) (zi (zp (qB jD (pv 0) ze (zD _)))) zC)
    (zi (zp (qB qx (zw qd (pv 1) ze) ze (zD _))))),?_⟩
  refine⟨_,rfl,rfl,_,rfl,yv (fun e=>?_) (fun e=>?_)⟩
  ·rw[kU] at e
   refine⟨_,rfl,_,_,rfl,rfl,?_⟩
   unfold Zs at q
   rw[if_pos e] at q
   exact q
  ·rw[kU] at e
   refine⟨_,rfl,_,_,rfl,rfl,(by show (0:Int)<2;decide),rfl,?_⟩
   unfold Zs at q
   rw[if_neg e] at q
   rw[show (decide (V.int (l%2)=V.int 1))=decide (l%2=1) from BN.mpr (ux.trans decide_eq_true_iff.symm)]
   exact q
theorem ma (F:qE K "goes_up" "goes_up" (top 30) f fd) (N1:kF mg "HALF" 5000) (C1:qH P w K mg base zO 1 "half_goes_up" ["number","lesser","way"] Xu):zJ P w K mg base zO 2 f fd ["number","lesser","rest","way"] Xl:=by
 obtain⟨t,eh⟩:=N1
 refine F.ok (N:=["number","lesser","rest","way"]) ⟨rfl,rfl,rfl,by decide +kernel,rfl,by decide +kernel,by decide +kernel⟩ (fun vs H Q E h=>?_) (fun cdv A outer s H vs Q E hr h=>?_)
 ·obtain⟨z,l,r,x,rfl,_⟩:=h
  rfl
 ·obtain⟨z,l,r,x,rfl,q⟩:=h
  refine⟨_,(zh (zT (zE qx (pv 3) zA (zD _)) (zi (zp yP)) zC)
    (zh (zT (zE qx (pv 3) zA (zD _)) (zi (zp (qB jD (pv 2) ze (zD _)))) zC)
    (zh (zT (zE qx (pv 2) (zZ (v:=.int 5000) rfl eh ⟨t,rfl⟩) (zD _)) (zi (zp (zj C1 hr (by decide) zu (za (pv 0) (za (pv 1) (za (pv 3) zd)))))) zC)
    (zi (zp (qB jD (pv 2) (zZ (v:=.int 5000) rfl eh ⟨t,rfl⟩) (zD _))))))),?_⟩
  unfold Jw at q
  refine⟨_,rfl,rfl,_,rfl,yv (fun e=>?_) (fun e=>?_)⟩
  ·rw[kU] at e
   rw[if_pos e] at q
   exact q
  rw[kU] at e
  rw[if_neg e] at q
  refine⟨_,rfl,rfl,_,rfl,yv (fun e=>?_) (fun e=>?_)⟩
  ·rw[kU] at e
   rw[if_pos e] at q
   exact⟨_,rfl,_,_,rfl,rfl,q⟩
  rw[kU] at e
  rw[if_neg e] at q
  refine⟨_,rfl,rfl,_,rfl,yv (fun e=>?_) (fun e=>?_)⟩
  ·rw[ux] at e
   rw[if_pos e] at q
   exact⟨_,rfl,_,rfl,_,rfl,_,_,_,rfl,q⟩
  ·rw[ux] at e
   rw[if_neg e] at q
   exact⟨_,rfl,_,_,rfl,rfl,q⟩
theorem m4 (F:qE K "rounded" "rounded" (top 31) f fd) (N1:kF mg "WHOLE" 10000) (C1:qH P w K mg base zO 2 "need_amount" ["thing"] Zr) (C2:qH P w K mg base zO 2 "need_way" ["thing"] YF) (C3:qH P w K mg base zO 2 "goes_up" ["number","lesser","rest","way"] Xl):zJ P w K mg base zO 3 f fd ["number","way"] JB:=by
 obtain⟨t,eh⟩:=N1
 have nd:(["number","way","lesser","rest"]:List Str).Nodup:=by decide +kernel
 refine F.ok (N:=["number","way","lesser","rest"]) ⟨rfl,rfl,rfl,by decide +kernel,rfl,by decide +kernel,by decide +kernel⟩ (fun vs H Q E h=>?_) (fun cdv A outer s H vs Q E hr h=>?_)
 ·obtain⟨z,x,rfl,_⟩:=h
  rfl
 ·obtain⟨z,x,rfl,hx,q⟩:=h
  refine⟨_,(zh (qv (zj C1 hr (by decide) zu (za (pv 0) zd)))
    (zh (qv (zj C2 hr (by decide) zu (za (pv 1) zd)))
    (zh (zI (i:=2) nd rfl (Or.inl rfl) (zw qK (pv 0) (zZ (v:=.int 10000) rfl eh ⟨t,rfl⟩)))
    (zh (zI (i:=3) nd rfl (Or.inl rfl) (zw qd (pv 0) (zZ (v:=.int 10000) rfl eh ⟨t,rfl⟩)))
    (zh (zT (qz (zj C3 hr (by decide) zu (za (pv 0) (za (pv 2) (za (pv 3) (za (pv 1) zd)))))) (zi (zp (zw qj (pv 2) ze))) zC)
    (zi (zp (pv 2)))))))),?_⟩
  refine⟨_,rfl,z,rfl,_,rfl,x,rfl,hx,_,rfl,_,_,rfl,rfl,⟨by decide,by decide⟩,_,rfl,_,_,rfl,rfl,(by show (0:Int)<10000;decide),?_⟩
  unfold U6 at q
  refine⟨_,rfl,_,rfl,_,rfl,_,rfl,z,_,_,x,rfl,_,rfl,yv (fun e=>?_) (fun e=>?_)⟩
  ·rw[if_pos e] at q
   exact⟨_,rfl,_,_,rfl,rfl,q⟩
  ·rw[if_neg e] at q
   exact⟨_,rfl,q⟩
theorem gD (F:qE K "share_of" "share_of" (top 32) f fd) (C1:qH P w K mg base zO 2 "need_amount" ["thing"] Zr) (C2:qH P w K mg base zO 3 "is_parts" ["thing"] uq) (C3:qH P w K mg base zO 3 "rounded" ["number","way"] JB):zJ P w K mg base zO 4 f fd ["amount","parts","way"] va:=by
 refine F.ok (N:=["amount","parts","way"]) ⟨rfl,rfl,rfl,by decide +kernel,rfl,by decide +kernel,by decide +kernel⟩ (fun vs H Q E h=>?_) (fun cdv A outer s H vs Q E hr h=>?_)
 ·obtain⟨z,n,x,rfl,_⟩:=h
  rfl
 ·obtain⟨z,n,x,rfl,n0,n1,hx,q⟩:=h
  exact⟨_,(zh (qv (zj C1 hr (by decide) zu (za (pv 0) zd)))
    (zh (zT (qD (qz (zj C2 hr (by decide) zu (za (pv 1) zd)))) qk zC)
    (zi (zp (zj C3 hr (by decide) zu (za (zw qJ (pv 0) (pv 1)) (za (pv 2) zd))))))),
   _,rfl,z,rfl,_,rfl,n,rfl,n0,n1,true,rfl,qN ⟨_,rfl,_,rfl,_,_,rfl,rfl,.inr ⟨by omega,by omega⟩,_,rfl,_,x,rfl,hx,q⟩⟩
end
end K14
namespace K14
open PySem PySem.NumText L2 Pg
seal PE PA PT PW PS jw PG um PI ud PO PK
section
variable {P:Program} {w:World} {K:PySem.W.Frag} {mg:Str→Option Value} {base:Heap} {f:Addr} {fd:FuncData} {d:Nat→Addr} {cR:Addr}
theorem gA (F:qE K "is_rule_name" "is_rule_name" (top 59) f fd) (W:ti K mg "NO_RULE_NAMES" noNames) (C1:qH P w K mg base zO 2 "is_name" ["thing"] XB):zJ P w K mg base zO 3 f fd ["thing"] YY:=by
 obtain⟨aw,ew,tw⟩:=W
 refine F.ok (N:=["thing"]) ⟨rfl,rfl,rfl,by decide +kernel,rfl,by decide +kernel,by decide +kernel⟩ (fun vs H Q E h=>?_) (fun cdv A outer s H vs Q E hr h=>?_)
 ·obtain⟨z,rfl,_⟩:=h
  rfl
 ·obtain⟨z,rfl,hz,q⟩:=h
  refine⟨_,zi (zp (yI (zj C1 hr (by decide) zu (za (pv 0) zd)) (yT (qB Vb (pv 0) (zZ (v:=.ref aw) rfl ew rfl) (by rfl))))),?_⟩
  refine⟨_,rfl,z,rfl,hz.ok,fun H1 s1=>⟨true,rfl,y8 ⟨_,rfl,aw,_,rfl,.inr (tw H1),rfl,rfl,?_⟩⟩⟩
  rw[if_pos rfl,Uv,hz.no]
  exact q H1 s1
theorem pE (F:qE K "is_rule_amount" "is_rule_amount" (top 60) f fd) (N1:kF mg "MOST_AMOUNT" 1000000000000) (C1:qH P w K mg base zO 2 "is_number_within" ["thing","least","most"] (j8 K)):zJ P w K mg base zO 3 f fd ["thing"] ZO:=by
 obtain⟨t,em⟩:=N1
 refine F.ok (N:=["thing"]) ⟨rfl,rfl,rfl,by decide +kernel,rfl,by decide +kernel,by decide +kernel⟩ (fun vs H Q E h=>?_) (fun cdv A outer s H vs Q E hr h=>?_)
 ·obtain⟨z,rfl,_⟩:=h
  rfl
 ·obtain⟨z,rfl,h0,q⟩:=h
  refine⟨_,zi (zp (zj C1 hr (by decide) zu (za (pv 0) (za ze (za (zZ (v:=.int 1000000000000) rfl em ⟨t,rfl⟩) zd))))),_,rfl,_,0,1000000000000,rfl,.inl ⟨z,rfl,?_⟩⟩
  rw[show decide ((0:Int)≤z∧z≤1000000000000)=true from decide_eq_true h0]
  exact q
theorem gC (F:qE K "need_rule_amount" "need_rule_amount" (top 61) f fd) (C1:qH P w K mg base zO 3 "is_rule_amount" ["thing"] ZO):zJ P w K mg base zO 4 f fd ["thing"] ur:=by
 refine F.ok (N:=["thing"]) ⟨rfl,rfl,rfl,by decide +kernel,rfl,by decide +kernel,by decide +kernel⟩ (fun vs H Q E h=>?_) (fun cdv A outer s H vs Q E hr h=>?_)
 ·obtain⟨x,rfl,_⟩:=h
  rfl
 ·obtain⟨x,rfl,hx,q⟩:=h
  exact⟨_,zi (zT (qD (qz (zj C1 hr (by decide) zu (za (pv 0) zd)))) qk zC),_,rfl,x,rfl,hx,true,rfl,qN q⟩
theorem gQ (F:qE K "need_share" "need_share" (top 62) f fd) (C1:qH P w K mg base zO 3 "is_parts" ["thing"] uq) (C2:qH P w K mg base zO 1 "is_way" ["thing"] Ze):zJ P w K mg base zO 4 f fd ["parts","way"] vd:=by
 refine F.ok (N:=["parts","way"]) ⟨rfl,rfl,rfl,by decide +kernel,rfl,by decide +kernel,by decide +kernel⟩ (fun vs H Q E h=>?_) (fun cdv A outer s H vs Q E hr h=>?_)
 ·obtain⟨p,x,rfl,_⟩:=h
  rfl
 ·obtain⟨p,x,rfl,hp,hx,q⟩:=h
  exact⟨_,zh (zT (qD (qz (zj C1 hr (by decide) zu (za (pv 0) zd)))) qk zC) (zi (zT (qD (qz (zj C2 hr (by decide) zu (za (pv 1) zd)))) qk zC)),_,rfl,p,rfl,hp.1,hp.2,true,rfl,qN ⟨_,rfl,x,rfl,hx,true,rfl,qN q⟩⟩
theorem nE (F:qE K "months_with_base" "months_with_base" (top 63) f fd) (G:jF mg):zJ P w K mg base zO 1 f fd ["bases"] (U8 K):=by
 have nc:(["base"]:List Str).Nodup:=by decide +kernel
 refine F.ok (N:=["bases"]) ⟨rfl,rfl,rfl,by decide +kernel,rfl,by decide +kernel,by decide +kernel⟩ (fun vs H Q E h=>?_) (fun cdv A outer s H vs Q E hr h=>?_)
 ·obtain⟨b,bs,rfl,_⟩:=h
  rfl
 ·obtain⟨b,bs,rfl,hb,bl,q⟩:=h
  refine' ⟨_,zi (zp (zt zR rfl G.len boot_len (za ?comp zd))),?main⟩
  case comp =>
   refine' qb (Nc:=["base"]) (cl:=[]) (src:=[none]) (wi:=vG K (zP 0)) (g:=zX 0) (tt:=VB (jB (Yw fun i j=>.bl (decide (j<i))) (zP 0) (tC (.int 0)))) (te:=zP 0)
    ⟨rfl,rfl,by decide +kernel,by decide +kernel,(fun x c z=>nomatch z),qu (by rfl),zQ qc,rfl⟩ rfl (yy (pv 0)) ?hb
   case hb =>
    intro fp C' s' H'
    exact⟨zS (i:=0) nc rfl (Or.inl rfl),Zl (zE jD (pv 0) ze (zD _)),pv 0⟩
  refine⟨_,rfl,b,rfl,⟨_,hb⟩,fun D hD=>VV (qT hb) (YN bs) hD (by rw[sizeLine_eq];omega) (fun i=>decide (0<i)) V.int (fun i hi v H1 R s1 e1 r=>?_) (fun i hi v H1 R s1 e1 r=>?_) (fun H1 s1 e1=>?_)⟩
  ·subst e1
   exact⟨_,rfl,_,_,rfl,rfl,_,rfl,r _ (zx.refl _)⟩
  ·subst e1
   exact⟨_,rfl,r _ (zx.refl _)⟩
  ·refine⟨D,_,rfl,.inl (z5.of e1),?_⟩
   rw[bM]
   exact q H1 s1
end
end K14
namespace K14
open PySem PySem.NumText L2 Pg
seal PE PA PT PW PS jw PG um PI ud PO PK
section
variable {P:Program} {w:World} {K:PySem.W.Frag} {mg:Str→Option Value} {base:Heap} {f:Addr} {fd:FuncData} {d:Nat→Addr} {cR:Addr}
theorem GR {Cs:Nat→Addr} (F:qE K "__init__" "Flat.__init__" (zz (top 65) 0) f fd) (RK:vM K Cs) (CR:ZR P w K mg base zO 4 "Rule" "__init__" ["self","name"] (vP Cs)) (C1:qH P w K mg base zO 4 "need_rule_amount" ["thing"] ur):zJ P w K mg base zO 5 f fd ["self","name","amount"] (yj 0 Cs):=by
 refine F.ok (N:=["self","name","amount"]) ⟨rfl,rfl,rfl,by decide +kernel,rfl,by decide +kernel,by decide +kernel⟩ (fun vs H Q E h=>?_) (fun cdv A outer s H vs Q E hr h=>?_)
 ·obtain⟨o,dx,r,rfl,hk,pl,_⟩:=h
  cases pl <;> first | rfl | cases hk
 ·obtain⟨o,dx,r,rfl,hk,pl,ho,q⟩:=h
  cases pl with
  | flat hn ha =>
   refine⟨_,zh (qv (ui CR hr (by decide) zu (za (pv 0) (za (pv 1) zd)))) (zh (qv (zj C1 hr (by decide) zu (za (pv 2) zd))) (zi (yA (pv 0) (pv 2) rfl))),?_⟩
   refine⟨_,rfl,_,rfl,0,o,dx,_,rfl,by decide,ho,hn,fun H1 f1 e1=>⟨_,rfl,_,rfl,ha,_,rfl,_,rfl,o,_,dx,_,rfl,e1,RK.cls 0 (by decide),RK.no 0 (by decide) "amount" (by decide),by show 1<1000;decide,?_⟩⟩
   rw[NK _ _ _ (by decide +kernel)]
   exact q _ (fun b x hb ne=>by rw[zq ne];exact f1 _ _ hb ne) zm
  | share hn hp hw=>cases hk
  | capped hn hp ha hw=>cases hk
  | least hn hp ha hw=>cases hk
theorem Gv {Cs:Nat→Addr} (F:qE K "__init__" "Share.__init__" (zz (top 66) 0) f fd) (RK:vM K Cs) (CR:ZR P w K mg base zO 4 "Rule" "__init__" ["self","name"] (vP Cs)) (C1:qH P w K mg base zO 4 "need_share" ["parts","way"] vd):zJ P w K mg base zO 5 f fd ["self","name","parts","way"] (yj 1 Cs):=by
 refine F.ok (N:=["self","name","parts","way"]) ⟨rfl,rfl,rfl,by decide +kernel,rfl,by decide +kernel,by decide +kernel⟩ (fun vs H Q E h=>?_) (fun cdv A outer s H vs Q E hr h=>?_)
 ·obtain⟨o,dx,r,rfl,hk,pl,_⟩:=h
  cases pl <;> first | rfl | cases hk
 ·obtain⟨o,dx,r,rfl,hk,pl,ho,q⟩:=h
  cases pl with
  | share hn hp hw =>
   refine⟨_,zh (qv (ui CR hr (by decide) zu (za (pv 0) (za (pv 1) zd)))) (zh (qv (zj C1 hr (by decide) zu (za (pv 2) (za (pv 3) zd)))) (zh (yA (pv 0) (pv 2) rfl) (zi (yA (pv 0) (pv 3) rfl)))),?_⟩
   refine⟨_,rfl,_,rfl,1,o,dx,_,rfl,by decide,ho,hn,fun H1 f1 e1=>⟨_,rfl,_,rfl,_,_,rfl,hp,hw,_,rfl,_,rfl,o,_,dx,_,rfl,e1,RK.cls 1 (by decide),RK.no 1 (by decide) "parts" (by decide),by show 1<1000;decide,?_⟩⟩
   rw[NK _ _ _ (by decide +kernel)]
   refine⟨_,rfl,_,rfl,o,_,dx,_,rfl,zm,RK.cls 1 (by decide),RK.no 1 (by decide) "way" (by decide),by show 2<1000;decide,?_⟩
   rw[RW _ _ _ _ _ (by decide +kernel) (by decide +kernel)]
   exact q _ (fun b x hb ne=>by rw[zq ne,zq ne];exact f1 _ _ hb ne) zm
  | flat hn ha=>cases hk
  | capped hn hp ha hw=>cases hk
  | least hn hp ha hw=>cases hk
theorem gS {Cs:Nat→Addr} (F:qE K "__init__" "Capped.__init__" (zz (top 67) 0) f fd) (RK:vM K Cs) (CR:ZR P w K mg base zO 4 "Rule" "__init__" ["self","name"] (vP Cs)) (C1:qH P w K mg base zO 4 "need_share" ["parts","way"] vd) (C2:qH P w K mg base zO 4 "need_rule_amount" ["thing"] ur):zJ P w K mg base zO 5 f fd ["self","name","parts","most","way"] (yj 2 Cs):=by
 refine F.ok (N:=["self","name","parts","most","way"]) ⟨rfl,rfl,rfl,by decide +kernel,rfl,by decide +kernel,by decide +kernel⟩ (fun vs H Q E h=>?_) (fun cdv A outer s H vs Q E hr h=>?_)
 ·obtain⟨o,dx,r,rfl,hk,pl,_⟩:=h
  cases pl <;> first | rfl | cases hk
 ·obtain⟨o,dx,r,rfl,hk,pl,ho,q⟩:=h
  cases pl with
  | capped hn hp ha hw =>
   refine⟨_,zh (qv (ui CR hr (by decide) zu (za (pv 0) (za (pv 1) zd)))) (zh (qv (zj C1 hr (by decide) zu (za (pv 2) (za (pv 4) zd)))) (zh (qv (zj C2 hr (by decide) zu (za (pv 3) zd))) (zh (yA (pv 0) (pv 2) rfl) (zh (yA (pv 0) (pv 3) rfl) (zi (yA (pv 0) (pv 4) rfl)))))),?_⟩
   refine⟨_,rfl,_,rfl,2,o,dx,_,rfl,by decide,ho,hn,fun H1 f1 e1=>⟨_,rfl,_,rfl,_,_,rfl,hp,hw,_,rfl,_,rfl,ha,_,rfl,_,rfl,o,_,dx,_,rfl,e1,RK.cls 2 (by decide),RK.no 2 (by decide) "parts" (by decide),by show 1<1000;decide,?_⟩⟩
   rw[NK _ _ _ (by decide +kernel)]
   refine⟨_,rfl,_,rfl,o,_,dx,_,rfl,zm,RK.cls 2 (by decide),RK.no 2 (by decide) "most" (by decide),by show 2<1000;decide,?_⟩
   rw[RW _ _ _ _ _ (by decide +kernel) (by decide +kernel)]
   refine⟨_,rfl,_,rfl,o,_,dx,_,rfl,zm,RK.cls 2 (by decide),RK.no 2 (by decide) "way" (by decide),by show 3<1000;decide,?_⟩
   rw[Tu _ _ _ _ _ _ _ (by decide +kernel) (by decide +kernel) (by decide +kernel)]
   exact q _ (fun b x hb ne=>by rw[zq ne,zq ne,zq ne];exact f1 _ _ hb ne) zm
  | flat hn ha=>cases hk
  | share hn hp hw=>cases hk
  | least hn hp ha hw=>cases hk
theorem GD {Cs:Nat→Addr} (F:qE K "__init__" "Least.__init__" (zz (top 68) 0) f fd) (RK:vM K Cs) (CR:ZR P w K mg base zO 4 "Rule" "__init__" ["self","name"] (vP Cs)) (C1:qH P w K mg base zO 4 "need_share" ["parts","way"] vd) (C2:qH P w K mg base zO 4 "need_rule_amount" ["thing"] ur):zJ P w K mg base zO 5 f fd ["self","name","parts","least","way"] (yj 3 Cs):=by
 refine F.ok (N:=["self","name","parts","least","way"]) ⟨rfl,rfl,rfl,by decide +kernel,rfl,by decide +kernel,by decide +kernel⟩ (fun vs H Q E h=>?_) (fun cdv A outer s H vs Q E hr h=>?_)
 ·obtain⟨o,dx,r,rfl,hk,pl,_⟩:=h
  cases pl <;> first | rfl | cases hk
 ·obtain⟨o,dx,r,rfl,hk,pl,ho,q⟩:=h
  cases pl with
  | least hn hp ha hw =>
   refine⟨_,zh (qv (ui CR hr (by decide) zu (za (pv 0) (za (pv 1) zd)))) (zh (qv (zj C1 hr (by decide) zu (za (pv 2) (za (pv 4) zd)))) (zh (qv (zj C2 hr (by decide) zu (za (pv 3) zd))) (zh (yA (pv 0) (pv 2) rfl) (zh (yA (pv 0) (pv 3) rfl) (zi (yA (pv 0) (pv 4) rfl)))))),?_⟩
   refine⟨_,rfl,_,rfl,3,o,dx,_,rfl,by decide,ho,hn,fun H1 f1 e1=>⟨_,rfl,_,rfl,_,_,rfl,hp,hw,_,rfl,_,rfl,ha,_,rfl,_,rfl,o,_,dx,_,rfl,e1,RK.cls 3 (by decide),RK.no 3 (by decide) "parts" (by decide),by show 1<1000;decide,?_⟩⟩
   rw[NK _ _ _ (by decide +kernel)]
   refine⟨_,rfl,_,rfl,o,_,dx,_,rfl,zm,RK.cls 3 (by decide),RK.no 3 (by decide) "least" (by decide),by show 2<1000;decide,?_⟩
   rw[RW _ _ _ _ _ (by decide +kernel) (by decide +kernel)]
   refine⟨_,rfl,_,rfl,o,_,dx,_,rfl,zm,RK.cls 3 (by decide),RK.no 3 (by decide) "way" (by decide),by show 3<1000;decide,?_⟩
   rw[Tu _ _ _ _ _ _ _ (by decide +kernel) (by decide +kernel) (by decide +kernel)]
   exact q _ (fun b x hb ne=>by rw[zq ne,zq ne,zq ne];exact f1 _ _ hb ne) zm
  | flat hn ha=>cases hk
  | share hn hp hw=>cases hk
  | capped hn hp ha hw=>cases hk
end
end K14
namespace K14
open PySem PySem.NumText L2 Pg
seal PE PA PT PW PS jw PG um PI ud PO PK
section
variable {P:Program} {w:World} {K:PySem.W.Frag} {mg:Str→Option Value} {base:Heap} {f:Addr} {fd:FuncData} {d:Nat→Addr} {cR:Addr}
theorem mH {Cs:Nat→Addr} (F:qE K "until" "Flat.until" (zz (top 65) 1) f fd) (RK:vM K Cs) (C1:qH P w K mg base zO 1 "months_with_base" ["bases"] (U8 K)):zJ P w K mg base zO 5 f fd ["self","bases"] (vB K 0 Cs):=by
 refine F.ok (N:=["self","bases"]) ⟨rfl,rfl,rfl,by decide +kernel,rfl,by decide +kernel,by decide +kernel⟩ (fun vs H Q E h=>?_) (fun cdv A outer s H vs Q E hr h=>?_)
 ·obtain⟨v,r,b,bs,rfl,_⟩:=h
  rfl
 ·obtain⟨v,r,b,bs,rfl,hk,⟨o,dx,rfl,ho⟩,pl,hb,bl,q⟩:=h
  cases pl with
  | flat hn ha =>
   refine⟨_,zi (zp (zw qJ (zN (pv 0) rfl) (zj C1 hr (by decide) zu (za (pv 1) zd)))),?_⟩
   have a1:=ha.2
   have a0:=ha.1
   exact⟨_,rfl,o,_,dx,_,_,rfl,ho,RK.cls 0 (by decide),RK.no 0 (by decide) "amount" (by decide),rfl,_,rfl,b,bs,rfl,hb,bl,fun H1 s1=>⟨_,_,rfl,rfl,.inl ⟨by omega,by omega⟩,q H1 s1⟩⟩
  | share hn hp hw=>cases hk
  | capped hn hp ha hw=>cases hk
  | least hn hp ha hw=>cases hk
theorem L4 {Cs:Nat→Addr} (F:qE K "until" "Share.until" (zz (top 66) 1) f fd) (G:jF mg) (RK:vM K Cs) (C1:qH P w K mg base zO 4 "share_of" ["amount","parts","way"] va):zJ P w K mg base zO 5 f fd ["self","bases"] (vB K 1 Cs):=by
 refine F.ok (N:=["self","bases"]) ⟨rfl,rfl,rfl,by decide +kernel,rfl,by decide +kernel,by decide +kernel⟩ (fun vs H Q E h=>?_) (fun cdv A outer s H vs Q E hr h=>?_)
 ·obtain⟨v,r,b,bs,rfl,_⟩:=h
  rfl
 ·obtain⟨v,r,b,bs,rfl,hk,⟨o,dx,rfl,ho⟩,pl,hb,bl,q⟩:=h
  cases pl with
  | share hn hp hw =>
   refine⟨_,zi (zp (zj C1 hr (by decide) zu (za (zt (yN rfl) rfl G.sum jt (za (pv 1) zd)) (za (zN (pv 0) rfl) (za (zN (pv 0) rfl) zd))))),?_⟩
   exact⟨_,rfl,b,bs,rfl,hb,_,rfl,o,_,dx,_,_,rfl,ho,RK.cls 1 (by decide),RK.no 1 (by decide) "parts" (by decide),rfl,_,rfl,o,_,dx,_,_,rfl,ho,RK.cls 1 (by decide),RK.no 1 (by decide) "way" (by decide),rfl,_,_,_,rfl,hp.1,hp.2,hw,q H (zx.refl _)⟩
  | flat hn ha=>cases hk
  | capped hn hp ha hw=>cases hk
  | least hn hp ha hw=>cases hk
theorem Lo {Cs:Nat→Addr} (F:qE K "until" "Capped.until" (zz (top 67) 1) f fd) (G:jF mg) (RK:vM K Cs) (C1:qH P w K mg base zO 4 "share_of" ["amount","parts","way"] va):zJ P w K mg base zO 5 f fd ["self","bases"] (vB K 2 Cs):=by
 refine F.ok (N:=["self","bases"]) ⟨rfl,rfl,rfl,by decide +kernel,rfl,by decide +kernel,by decide +kernel⟩ (fun vs H Q E h=>?_) (fun cdv A outer s H vs Q E hr h=>?_)
 ·obtain⟨v,r,b,bs,rfl,_⟩:=h
  rfl
 ·obtain⟨v,r,b,bs,rfl,hk,⟨o,dx,rfl,ho⟩,pl,hb,bl,q⟩:=h
  cases pl with
  | capped hn hp ha hw =>
   refine⟨_,zi (zp (zj C1 hr (by decide) zu (za (zt (wK rfl) rfl G.min PyProof.Rows.boot_min (za (zt (yN rfl) rfl G.sum jt (za (pv 1) zd)) (za (zN (pv 0) rfl) zd))) (za (zN (pv 0) rfl) (za (zN (pv 0) rfl) zd))))),?_⟩
   exact⟨_,rfl,b,bs,rfl,hb,_,rfl,o,_,dx,_,_,rfl,ho,RK.cls 2 (by decide),RK.no 2 (by decide) "most" (by decide),rfl,_,_,rfl,_,rfl,o,_,dx,_,_,rfl,ho,RK.cls 2 (by decide),RK.no 2 (by decide) "parts" (by decide),rfl,_,rfl,o,_,dx,_,_,rfl,ho,RK.cls 2 (by decide),RK.no 2 (by decide) "way" (by decide),rfl,_,_,_,rfl,hp.1,hp.2,hw,q H (zx.refl _)⟩
  | flat hn ha=>cases hk
  | share hn hp hw=>cases hk
  | least hn hp ha hw=>cases hk
theorem mG {Cs:Nat→Addr} (F:qE K "until" "Least.until" (zz (top 68) 1) f fd) (G:jF mg) (RK:vM K Cs) (C1:qH P w K mg base zO 4 "share_of" ["amount","parts","way"] va) (C2:qH P w K mg base zO 1 "months_with_base" ["bases"] (U8 K)):zJ P w K mg base zO 5 f fd ["self","bases"] (vB K 3 Cs):=by
 have nd:(["self","bases","share"]:List Str).Nodup:=by decide +kernel
 refine F.ok (N:=["self","bases","share"]) ⟨rfl,rfl,rfl,by decide +kernel,rfl,by decide +kernel,by decide +kernel⟩ (fun vs H Q E h=>?_) (fun cdv A outer s H vs Q E hr h=>?_)
 ·obtain⟨v,r,b,bs,rfl,_⟩:=h
  rfl
 ·obtain⟨v,r,b,bs,rfl,hk,⟨o,dx,rfl,ho⟩,pl,hb,bl,q⟩:=h
  cases pl with
  | least hn hp ha hw =>
   have a1:=ha.2
   have a0:=ha.1
   refine⟨_,zh (zI (i:=2) nd rfl (Or.inl rfl) (zj C1 hr (by decide) zu (za (zt (yN rfl) rfl G.sum jt (za (pv 1) zd)) (za (zN (pv 0) rfl) (za (zN (pv 0) rfl) zd)))))
    (zi (zp (zt (wO rfl) rfl G.max PyProof.Rows.boot_max (za (pv 2) (za (zw qJ (zN (pv 0) rfl) (zj C2 hr (by decide) zu (za (pv 1) zd))) zd))))),?_⟩
   exact⟨_,rfl,b,bs,rfl,hb,_,rfl,o,_,dx,_,_,rfl,ho,RK.cls 3 (by decide),RK.no 3 (by decide) "parts" (by decide),rfl,_,rfl,o,_,dx,_,_,rfl,ho,RK.cls 3 (by decide),RK.no 3 (by decide) "way" (by decide),rfl,_,_,_,rfl,hp.1,hp.2,hw,
    _,rfl,_,rfl,o,_,dx,_,_,rfl,ho,RK.cls 3 (by decide),RK.no 3 (by decide) "least" (by decide),rfl,_,rfl,b,bs,rfl,hb,bl,fun H1 s1=>⟨_,_,rfl,rfl,.inl ⟨by omega,by omega⟩,_,_,rfl,q H1 s1⟩⟩
  | flat hn ha=>cases hk
  | share hn hp hw=>cases hk
  | capped hn hp ha hw=>cases hk
theorem lI {Cs:Nat→Addr} (F:qE K "row" "Flat.row" (zz (top 65) 2) f fd) (G:jF mg) (RK:vM K Cs):zJ P w K mg base zO 1 f fd ["self"] (jI 0 Cs):=by
 refine F.ok (N:=["self"]) ⟨rfl,rfl,rfl,by decide +kernel,rfl,by decide +kernel,by decide +kernel⟩ (fun vs H Q E h=>?_) (fun cdv A outer s H vs Q E hr h=>?_)
 ·obtain⟨v,r,rfl,_⟩:=h
  rfl
 ·obtain⟨v,r,rfl,hk,⟨o,dx,rfl,ho⟩,pl,q⟩:=h
  have jo:=ZK pl
  cases pl with
  | flat hn ha =>
   refine⟨_,zi (zp (yE PySem.F.plainAttrs_str PySem.F.slot_str_join PySem.F.type_str_join yV zA (za (zY (za zA (za (zN (pv 0) rfl) (za (z7 ql rfl G.str qG (za (zN (pv 0) rfl) zd)) zd)))) zd))),?_⟩
   exact⟨rfl,_,rfl,o,_,dx,_,_,rfl,ho,RK.cls 0 (by decide),RK.no 0 (by decide) "name" (by decide),rfl,_,rfl,o,_,dx,_,_,rfl,ho,RK.cls 0 (by decide),RK.no 0 (by decide) "amount" (by decide),rfl,_,rfl,kA ha,qa rfl,fun l H1 s1 n1 e1=>⟨_,(jR (Rk.flat _ _)).map Q9,l,rfl,rfl,z5.of e1,jo,q H1 s1⟩⟩
  | share hn hp hw=>cases hk
  | capped hn hp ha hw=>cases hk
  | least hn hp ha hw=>cases hk
theorem L6 {Cs:Nat→Addr} (F:qE K "row" "Share.row" (zz (top 66) 2) f fd) (G:jF mg) (RK:vM K Cs):zJ P w K mg base zO 1 f fd ["self"] (jI 1 Cs):=by
 refine F.ok (N:=["self"]) ⟨rfl,rfl,rfl,by decide +kernel,rfl,by decide +kernel,by decide +kernel⟩ (fun vs H Q E h=>?_) (fun cdv A outer s H vs Q E hr h=>?_)
 ·obtain⟨v,r,rfl,_⟩:=h
  rfl
 ·obtain⟨v,r,rfl,hk,⟨o,dx,rfl,ho⟩,pl,q⟩:=h
  have jo:=ZK pl
  cases pl with
  | share hn hp hw =>
   refine⟨_,zi (zp (yE PySem.F.plainAttrs_str PySem.F.slot_str_join PySem.F.type_str_join yV zA (za (zY (za zA (za (zN (pv 0) rfl) (za (z7 ql rfl G.str qG (za (zN (pv 0) rfl) zd)) (za (zN (pv 0) rfl) zd))))) zd))),?_⟩
   exact⟨rfl,_,rfl,o,_,dx,_,_,rfl,ho,RK.cls 1 (by decide),RK.no 1 (by decide) "name" (by decide),rfl,_,rfl,o,_,dx,_,_,rfl,ho,RK.cls 1 (by decide),RK.no 1 (by decide) "parts" (by decide),rfl,_,rfl,uG hp,_,rfl,o,_,dx,_,_,rfl,ho,RK.cls 1 (by decide),RK.no 1 (by decide) "way" (by decide),rfl,qa rfl,fun l H1 s1 n1 e1=>⟨_,(jR (Rk.share _ _ _)).map Q9,l,rfl,rfl,z5.of e1,jo,q H1 s1⟩⟩
  | flat hn ha=>cases hk
  | capped hn hp ha hw=>cases hk
  | least hn hp ha hw=>cases hk
theorem Lu {Cs:Nat→Addr} (F:qE K "row" "Capped.row" (zz (top 67) 2) f fd) (G:jF mg) (RK:vM K Cs):zJ P w K mg base zO 1 f fd ["self"] (jI 2 Cs):=by
 refine F.ok (N:=["self"]) ⟨rfl,rfl,rfl,by decide +kernel,rfl,by decide +kernel,by decide +kernel⟩ (fun vs H Q E h=>?_) (fun cdv A outer s H vs Q E hr h=>?_)
 ·obtain⟨v,r,rfl,_⟩:=h
  rfl
 ·obtain⟨v,r,rfl,hk,⟨o,dx,rfl,ho⟩,pl,q⟩:=h
  have jo:=ZK pl
  cases pl with
  | capped hn hp ha hw =>
   refine⟨_,zi (zp (yE PySem.F.plainAttrs_str PySem.F.slot_str_join PySem.F.type_str_join yV zA (za (zY (za zA (za (zN (pv 0) rfl) (za (z7 ql rfl G.str qG (za (zN (pv 0) rfl) zd)) (za (z7 ql rfl G.str qG (za (zN (pv 0) rfl) zd)) (za (zN (pv 0) rfl) zd)))))) zd))),?_⟩
   exact⟨rfl,_,rfl,o,_,dx,_,_,rfl,ho,RK.cls 2 (by decide),RK.no 2 (by decide) "name" (by decide),rfl,_,rfl,o,_,dx,_,_,rfl,ho,RK.cls 2 (by decide),RK.no 2 (by decide) "parts" (by decide),rfl,_,rfl,uG hp,_,rfl,o,_,dx,_,_,rfl,ho,RK.cls 2 (by decide),RK.no 2 (by decide) "most" (by decide),rfl,_,rfl,kA ha,_,rfl,o,_,dx,_,_,rfl,ho,RK.cls 2 (by decide),RK.no 2 (by decide) "way" (by decide),rfl,qa rfl,fun l H1 s1 n1 e1=>⟨_,(jR (Rk.capped _ _ _ _)).map Q9,l,rfl,rfl,z5.of e1,jo,q H1 s1⟩⟩
  | flat hn ha=>cases hk
  | share hn hp hw=>cases hk
  | least hn hp ha hw=>cases hk
theorem mn {Cs:Nat→Addr} (F:qE K "row" "Least.row" (zz (top 68) 2) f fd) (G:jF mg) (RK:vM K Cs):zJ P w K mg base zO 1 f fd ["self"] (jI 3 Cs):=by
 refine F.ok (N:=["self"]) ⟨rfl,rfl,rfl,by decide +kernel,rfl,by decide +kernel,by decide +kernel⟩ (fun vs H Q E h=>?_) (fun cdv A outer s H vs Q E hr h=>?_)
 ·obtain⟨v,r,rfl,_⟩:=h
  rfl
 ·obtain⟨v,r,rfl,hk,⟨o,dx,rfl,ho⟩,pl,q⟩:=h
  have jo:=ZK pl
  cases pl with
  | least hn hp ha hw =>
   refine⟨_,zi (zp (yE PySem.F.plainAttrs_str PySem.F.slot_str_join PySem.F.type_str_join yV zA (za (zY (za zA (za (zN (pv 0) rfl) (za (z7 ql rfl G.str qG (za (zN (pv 0) rfl) zd)) (za (z7 ql rfl G.str qG (za (zN (pv 0) rfl) zd)) (za (zN (pv 0) rfl) zd)))))) zd))),?_⟩
   exact⟨rfl,_,rfl,o,_,dx,_,_,rfl,ho,RK.cls 3 (by decide),RK.no 3 (by decide) "name" (by decide),rfl,_,rfl,o,_,dx,_,_,rfl,ho,RK.cls 3 (by decide),RK.no 3 (by decide) "parts" (by decide),rfl,_,rfl,uG hp,_,rfl,o,_,dx,_,_,rfl,ho,RK.cls 3 (by decide),RK.no 3 (by decide) "least" (by decide),rfl,_,rfl,kA ha,_,rfl,o,_,dx,_,_,rfl,ho,RK.cls 3 (by decide),RK.no 3 (by decide) "way" (by decide),rfl,qa rfl,fun l H1 s1 n1 e1=>⟨_,(jR (Rk.least _ _ _ _)).map Q9,l,rfl,rfl,z5.of e1,jo,q H1 s1⟩⟩
  | flat hn ha=>cases hk
  | share hn hp hw=>cases hk
  | capped hn hp ha hw=>cases hk
end
end K14
namespace L2
open PySem PySem.Spec PyProof.Rows
section
variable {X:Cx} {pins:List (Addr × Obj)} {σ:St} {H:Hp} {s:Shared} {d:Addr} {kvs:List (yJ × V)}
theorem zH.freeze (I:zH X pins σ H s) (hd:H d=some (.dK kvs)):∃ o,zH X pins σ (upd H d (.frz o (.dK kvs))) s:=by
 have ok:=I.hok d _ hd
 obtain⟨_,_,vs,rel,o,es,ep,ho,r⟩:=id ok
 have ne:∀ b (u:HO),H b=some u→(∀ k,u≠.dK k)→b≠d:=fun b u q n e=>by
  subst e
  rw[hd] at q
  exact n _ (Option.some.inj q).symm
 have nn:∀ b,H b=none→b≠d:=fun b q e=>by rw[e,hd] at q;cases q
 refine⟨o,I.ok,I.os,I.bare,⟨I.base.keep,I.base.slot,fun b u q n hx=>?_,I.base.there,fun b ys q=>?_,fun b u v q=>?_,fun b ps q=>?_⟩,I.loc,I.cell,?_,fun x c q=>?_,fun p hp=>?_,fun b u q=>?_,I.len⟩
 ·have z:=I.base.free b u q n hx
  rw[zq (nn b z)];exact z
 ·have z:=I.base.tups b ys q
  rw[zq (ne _ _ z fun _ e=>nomatch e)];exact z
 ·have z:=I.base.frzs b u v q
  rw[zq (ne _ _ z fun _ e=>nomatch e)];exact z
 ·obtain⟨m,z⟩:=I.base.tbls b ps q
  exact⟨m,by rw[zq (ne _ _ z fun _ e=>nomatch e)];exact z⟩
 ·rw[zq (nn _ I.free)];exact I.free
 ·have z:=I.freeC x c q
  rw[zq (nn _ z)];exact z
 ·obtain⟨p1,p2,p3,p4,p5⟩:=I.pin p hp
  exact⟨p1,by rw[zq (nn _ p2)];exact p2,p3,p4,p5⟩
 ·by_cases nb:b=d
  ·subst nb
   rw[zm] at q
   cases q
   exact⟨ho,ok⟩
  ·rw[zq nb] at q
   refine (I.hok b u q).stay (fun c u _ z=>z) (fun c z=>?_) fun c ys z=>?_
   ·rw[zq (ne _ _ z fun _ e=>nomatch e)];exact z
   ·rw[zq (ne _ _ z fun _ e=>nomatch e)];exact z
end
def To (d:Addr) (o:Obj) (kvs:List (yJ × V)):It :=
 ⟨fun i H=>H d=some (.frz o (.dK kvs))∧i<kvs.length,fun i H x H'=>H'=H∧∃ p,kvs[i]? = some p∧x=kV p.1,fun i H=>H d=some (.frz o (.dK kvs))∧kvs.length≤i⟩
theorem WK {X:Cx} {pins:List (Addr × Obj)} {σ:St} {H:Hp} {s:Shared} {d:Addr} {o:Obj} {kvs:List (yJ × V)} (I:zH X pins σ H s) (hd:H d=some (.frz o (.dK kvs))) :
  (d==sysModules)=false∧∃ vs es ep,o.data = .dict es ep∧KV kvs vs∧s.heap.DictAt (yh X.prog X.w) d vs ep:=by
 obtain⟨h1,h2,h3,vs,rel,o',es,ep,h4,h5,h6,h7⟩:=I.hok d _ hd
 rw[h1] at h4
 cases h4
 exact⟨h3,vs,es,ep,h6,rel,o,es,h1,h5,h6,h7⟩
theorem gr {P:Program} {w:World} {K:PySem.W.Frag} {tg:Expr} {d it:Addr} {o:Obj} {kvs:List (yJ × V)} {es:Array DictEntry} {ep:Nat} (he:o.data = .dict es ep) :
  Vi P w K tg (To d o kvs) [it] it (fun i h=>h.IsKeyIter it d i kvs.length ep) where
 mem:=by simp
 obj:=fun i h st b hb=>by
  have e:b=it:=by simpa using hb
  subst e
  obtain⟨o,e,c,d⟩:=st
  exact⟨o,e,fun v z=>by rw[d] at z;cases z⟩
 keep:=fun i h h' st k=>st.at fun o e=>k it (by simp) o e
 item:=by
  intro X hP hw hK hc i pins s σ H E I hf st hg
  subst hP hw hK
  obtain⟨hd,hi⟩:=hg
  obtain⟨_,vs,es',ep',e1,rel,D⟩:=WK I hd
  rw[he] at e1
  cases e1
  have rl:kvs.length=vs.length:=Paired.length rel
  obtain⟨⟨k,v⟩,hx⟩:∃ q,vs[i]? = some q:=⟨_,bO (show i<vs.length by omega)⟩
  obtain⟨p,f1,f2,f3⟩:=Go rel hx
  obtain⟨f0,f1',f2',f3',f4,f5⟩:=hf it (by simp)
  rw[rl] at st
  refine wpAny_pyNext_dict_item st D hx fun key h' hk st' sb=>?_
  have I1:zH X pins σ H { s with heap:=h' }:=I.turned (t':=s.toks) (fun b o hb e=>(sb.2 b hb).trans e) f0 f1' f3' f4 f5
  have st2:=st'
  rw[← rl] at st2
  obtain⟨o',e,c,dd⟩:=id st'
  have g:=lD hk
  have f2:p.1=k:=f2
  rw[← f2] at g
  exact⟨key,rfl,Y2 (s:={ s with heap:=h' }) e c dd (by decide) ⟨_,H,I1,g,⟨rfl,p,f1,rfl⟩,st2,fun b hb=>(hf b hb).1⟩⟩
 done:=by
  intro X hP hw hK hc i pins s σ H E I hf st hg
  subst hP hw hK
  obtain⟨hd,hi⟩:=hg
  obtain⟨_,vs,es',ep',e1,rel,D⟩:=WK I hd
  rw[he] at e1
  cases e1
  have rl:kvs.length=vs.length:=Paired.length rel
  obtain⟨f0,f1,f2,f3,f4,f5⟩:=hf it (by simp)
  rw[rl] at st
  exact wpAny_pyNext_dict_end (I.ok.hd hc) st D (BG (by omega)) fun h' eb=>⟨rfl,I.turned (t':=s.toks) (fun b o hb e=>eb b o hb e) f0 f1 f3 f4 f5⟩
 self:=fun _ _ _ _ _ st h=>wpAny_pyIter_keyiter st h
def PZ (tl:TE):TI:=fun σ H R=>tl σ H fun x H1=>∃ d o kvs,x = .ref d∧H1 d=some (.frz o (.dK kvs))∧R (To d o kvs) H1
theorem XS {X:Cx} {tg l:Expr} {tl:TE} (hl:PE X l tl):PI X tg l (PZ tl):=by
 intro pins s σ H R I h
 refine qS (hl pins s σ H _ I h) fun v s1 ⟨x,H1,I1,r1,q1⟩=>?_
 obtain⟨d,o,kvs,e,hd,q⟩:=q1
 subst e
 cases r1
 obtain⟨h0,vs,es,ep,e1,rel,D⟩:=WK I1 hd
 have rl:kvs.length=vs.length:=Paired.length rel
 refine wpAny_pyIter_dict h0 D ?_
 refine⟨s1.heap.objs.size,[s1.heap.objs.size],_,_,H1,rfl,I1.kept (t':=s1.toks) fun b o e=>bW _ e,gr e1,?_,fun b hb=>?_,q⟩
 ·rw[rl]
  exact⟨_,Bd _ rfl,rfl,rfl⟩
 ·have e:b=s1.heap.objs.size:=by simpa using hb
  subst e
  exact I1.fpOk (bK _) (I1.hok.fresh (bK _))
theorem Yj {H:Hp} {d:Addr} {o:Obj} {kvs:List (yJ × V)} (hd:H d=some (.frz o (.dK kvs))):wq (To d o kvs) H (kvs.map fun p=>kV p.1):=by
 refine⟨fun i x H' e s=>?_,fun H' s=>⟨s _ _ hd,by rw[bM];exact bK _⟩⟩
 rw[bR] at e
 obtain⟨p,hp,rfl⟩:=bX.mp e
 exact⟨⟨s _ _ hd,(bU.mp hp).1⟩,fun y H'' ⟨e1,p',h1,h2⟩=>⟨e1,by rw[hp] at h1;cases h1;exact h2⟩⟩
section
variable {X:Cx}
def R8:Value→Bool
 | .bool b=>b
 | _=>false
theorem Pr {bs:List Bool} {its:List Value} (r:z9 (bs.map V.bl) its):its=bs.map Value.bool:=by
 induction bs generalizing its with
 | nil=>cases r;rfl
 | cons b l ih =>
  cases r with
  | cons a c=>rw[Br,← ih c,show _=Value.bool b from a]
theorem py {A:Around} {s:Shared} {bs:List Bool}:∀ y,y∈(bs.map Value.bool).toArray→SeqAt.EqAt A s y (.bool true) (R8 y):=fun y hy=>by
 obtain⟨b,_,rfl⟩:=bZ.mp (List.mem_toArray.mp hy)
 have:=SeqAt.EqAt.bool_bool (A:=A) (s:=s) b true
 rw[show (b==true)=b by cases b <;> rfl] at this
 exact this
theorem Os:Tn X "list.count" (fun x vs H Q=>∃ (l:Addr) (bs:List Bool),x = .ref l∧vs=[.bl true]∧H l=some (.lst (bs.map V.bl))∧Q (.int (bs.countP id:Nat)) H):=by
 intro pins s σ H x vs v us Q I rx rv h
 obtain⟨l,bs,rfl,rfl,hH,q⟩:=h
 cases rx
 obtain⟨u,rfl,ru⟩:=rv.one
 cases (show u=Value.bool true from ru)
 obtain⟨z,its,n,r,hl,e⟩:=I.lstM hH
 cases Pr r
 refine call_meets F.slot_list_count ⟨_,e,rfl⟩ F.entry_list_count (F.args_list_count_2 _ _) (SeqAt.list_countAt l _ n none #[] (.bool true) R8) ⟨e,py,?_⟩
 have ec:((bs.map Value.bool).toArray.toList).countP R8=bs.countP id:=by
  rw[List.toList_toArray,List.countP_map]
  rfl
 rw[ec]
 exact⟨.int _,H,I.tok _,⟨_,rfl⟩,q⟩
theorem OG:Tn X "list.index" (fun x vs H Q=>∃ (l:Addr) (bs:List Bool) (j:Nat),x = .ref l∧vs=[.bl true]∧H l=some (.lst (bs.map V.bl))∧bs[j]? = some true∧(∀ m,m<j→bs[m]? = some false)∧Q (.int (j:Nat)) H):=by
 intro pins s σ H x vs v us Q I rx rv h
 obtain⟨l,bs,j,rfl,rfl,hH,hj,hm,q⟩:=h
 cases rx
 obtain⟨u,rfl,ru⟩:=rv.one
 cases (show u=Value.bool true from ru)
 obtain⟨z,its,n,r,hl,e⟩:=I.lstM hH
 cases Pr r
 have jl:=(bU.mp hj).1
 have l63:=wC
 rw[bM] at z
 refine call_meets F.slot_list_index ⟨_,e,rfl⟩ F.entry_list_index (F.args_list_index_2 _ _) (SeqAt.list_indexAt l _ n none #[] (.bool true) R8 j (by simpa using jl) (by omega) ?_ ?_) ⟨e,py,.int _,H,I.tok _,⟨_,rfl⟩,q⟩
 ·have:=(bU.mp hj).2
  simp only[List.getElem_toArray,Ci]
  rw[this]
  rfl
 ·intro m hm1 hm2
  have:=(bU.mp (hm m hm2)).2
  simp only[List.getElem_toArray,Ci]
  rw[this]
  rfl
end
inductive N8 (a b c d:Prop):Prop where
 | mk (h1:a) (h2:b) (h3:c) (h4:d):N8 a b c d
section
variable {J:It} {D:Addr} {tt:TT} {te:TE} {fin:List V→Hp→Prop} {σ:St} {H:Hp} {ys:List V} {α:Type} {xs:List α} {P:Hp→V→α→Prop} {K:PySem.W.Frag}
theorem Uz {H' H3:Hp} {zs:List V} {cs:List (List V)} {t:Addr} {c:List V} (G:z4 H' zs cs) (hd:H' D=some (.lst zs)) (s3:zx H' H3) (e3:H3 t=some (.tup c)):z4 (upd H3 D (.lst (zs++[.ref t]))) (zs++[.ref t]) (cs++[c]):=by
 refine z4.snoc ((G.same s3).upd fun c z=>?_) ?_
 ·rw[s3 _ _ hd] at z
  cases z
 ·rw[zq (yp e3 (s3 _ _ hd) (by intro z;cases z))]
  exact e3
theorem uk (W:wq J H ys) (T:qP H ys xs P) (hD:H D=none) (hz:xs.length<sizeLine) (ψ:α→List V)
  (he:∀ x∈xs,∀ v H' R,zx H H'→P H' v x→Va H' (.tup (ψ x)) R→te (σ.set 0 (some v)) H' R)
  (hf:∀ zs H',zx H H'→H' D=some (.lst zs)→z4 H' zs (xs.map ψ)→fin zs H'):yG J D (zX 0) qC te fin σ (upd H D (.lst [])):=by
 refine yL W hD (fun i zs H'=>z4 H' zs ((xs.take i).map ψ)) (fun σ'=>∀ x,σ'.set 0 (some x) = σ.set 0 (some x)) (fun _=>rfl) z4.nil ?_ ?_
 ·rintro i y zs σ' H' hy hσ s hd hl G
  obtain⟨x,hx,hP⟩:=T.at_ i y hy
  have tk:xs.take (i+1)=xs.take i++[x]:=by rw[BI,hx];rfl
  have hi:i<xs.length:=(bU.mp hx).1
  have hσ2:∀ z,(σ'.set 0 (some y)).set 0 (some z) = σ.set 0 (some z):=fun z=>by rw[cn];exact hσ z
  unfold YG zX
  dsimp only
  refine G4 ?_
  rw[hσ y] at hσ2 ⊢
  refine he x (Bv hx) y _ _ s (hP _ s) fun t H3 s3 n3 e3=>⟨s3 _ _ hd,by omega,hσ2,fun b o z=>?_,zm,?_,?_⟩
  ·rw[zq (zF z hD)]
   exact s3 _ _ (s _ _ z)
  ·rw[bP,Bu];omega
  ·rw[tk,Bc]
   exact Uz G hd s3 e3
 ·rintro zs H' s hd hl G
  rw[T.len,BD] at G
  exact hf zs H' s hd G
end
theorem qP.same {α:Type} {H H':Hp} {ys:List V} {xs:List α} {P:Hp→V→α→Prop} (T:qP H ys xs P) (s:zx H H'):qP H' ys xs P:=⟨T.len,fun i y e=>by
 obtain⟨x,h1,h2⟩:=T.at_ i y e
 exact⟨x,h1,fun H'' s'=>h2 H'' (s.trans s')⟩⟩
section
variable {K:PySem.W.Frag} {a b:Addr} {xs ys:List V} {g:TG} {tb:TS} {D:jN} {σ:St} {H:Hp} {lo:Int} {n:Nat}
abbrev Lb (J:It) (g:TG) (tb:TS) (D:jN) (σ:St) (H:Hp):Prop:=∃ W:Nat→Nat→St→Hp→Prop,(∃ m,W 0 m σ H)∧∀ i m σ H,W i m σ H →
   (J.stop i H∧D.nx σ H)∨(J.go i H∧∃ N:St→Hp→Prop,(∀ σ' H',N σ' H'→∃ m',m'<m∧W (i+1) m' σ' H')∧∀ x H',J.yld i H x H'→g x σ H' fun σ2 H2=>tb { D with nx:=N,ct:=N,bk:=D.nx } σ2 H2)
theorem GV (Pv:Nat→St→Hp→Prop) (h0:Pv 0 σ H) (hl:∀ i σ H,i≤xs.length→Pv i σ H→z5 K H a xs)
  (hs:∀ i x σ H,xs[i]? = some x→Pv i σ H→∀ E:jN,(∀ σ' H',Pv (i+1) σ' H'→E.nx σ' H')→g x σ H fun σ2 H2=>tb E σ2 H2) (hd:∀ σ H,Pv xs.length σ H→D.nx σ H):Lb (nK K a) g tb D σ H :=
 pb Pv h0 hl (fun i x σ H hx p=>hs i x σ H hx p _ fun _ _ h=>h) hd
theorem PY (Pv:Nat→St→Hp→Prop) (h0:Pv 0 σ H) (hl:∀ i σ H,i≤xs.length→Pv i σ H→qg K H a xs)
  (hs:∀ i x σ H,xs[i]? = some x→Pv i σ H→∀ E:jN,(∀ σ' H',Pv (i+1) σ' H'→E.nx σ' H')→g x σ H fun σ2 H2=>tb E σ2 H2) (hd:∀ σ H,Pv xs.length σ H→D.nx σ H):Lb (NA K a) g tb D σ H :=
 mD Pv h0 hl (fun i x σ H hx p=>hs i x σ H hx p _ fun _ _ h=>h) hd
theorem vv (Pv:Nat→St→Hp→Prop) (h0:Pv 0 σ H)
  (hs:∀ (i:Nat) σ H,i<n→Pv i σ H→∀ E:jN,(∀ σ' H',Pv (i+1) σ' H'→E.nx σ' H')→g (.int (lo+i)) σ H fun σ2 H2=>tb E σ2 H2) (hd:∀ σ H,Pv n σ H→D.nx σ H):Lb (Mb lo n) g tb D σ H :=
 Gj Pv h0 (fun i σ H hx p=>hs i σ H hx p _ fun _ _ h=>h) hd
end
def NW (t u:TS):TS:=fun D σ H=>∃ P:St→Hp→Prop,t { D with nx:=P } σ H∧∀ σ' H',P σ' H'→u D σ' H'
theorem ut {X:Cx} {st:Stmt} {rest:List Stmt} {t u:TS} (h1:PS X st t) (h2:jw X rest u):jw X (st::rest) (NW t u):=by
 intro pins s σ H D I h
 obtain⟨P,h,k⟩:=h
 refine wpAny_execs_cons (qS (h1 pins s σ H { D with nx:=P } I h) fun f s1 q=>?_)
 cases f with
 | next =>
  obtain⟨σ',H',I',q⟩:=q
  exact h2 pins s1 σ' H' D I' (k _ _ q)
 | ret v=>exact q
 | brk=>exact q
 | cont=>exact q
def Nd (K:PySem.W.Frag):R2:=fun x y H Q=>∃ a b xs,x = .ref a∧y = .ref b∧z5 K H a xs∧z5 K H b []∧(xs=[]→Q (.bl true) H)∧(xs≠[]→Q (.bl false) H)
theorem V4 {X:Cx} (hu:X.A.units<cLine):uE X (compareOp .Eq) (Nd X.K):=by
 intro pins s σ H x y v u Q I rx ry h
 obtain⟨a,b,xs,rfl,rfl,h1,h2,q1,q2⟩:=h
 cases rx
 cases ry
 obtain⟨us,r1,p1,_⟩:=I.list h1
 obtain⟨ws,r2,p2,_⟩:=I.list h2
 have l1:=r1.length
 have l2:=r2.length
 rw[Cy] at l2
 by_cases hl:xs=[]
 ·subst hl
  rw[Cy] at l1
  refine SeqAt.eq_listAt p1.isList p2.isList (by simp;omega) hu (e:=fun _=>true) (fun j h1 h2=>?_) ?_
  ·simp at h1
   omega
  ·have:us=[]:=cj.mp l1.symm
   subst this
   exact⟨.bl true,H,I,rfl,q1 rfl⟩
 ·have:0<xs.length:=List.length_pos_iff.mpr hl
  exact SeqAt.eq_list_lengthsAt p1.isList p2.isList (by simp;omega) hu ⟨.bl false,H,I,rfl,q2 hl⟩
theorem wS {t u:TS} {D:jN} {σ:St} {H:Hp} (P0:St→Hp→Prop) (h1:∀ E:jN,(∀ σ' H',P0 σ' H'→E.nx σ' H')→t E σ H) (h2:∀ σ' H',P0 σ' H'→u D σ' H'):NW t u D σ H:=⟨P0,h1 _ fun _ _ h=>h,h2⟩
theorem nB {te:TE} {g:TG} {u:TS} {D:jN} {σ:St} {H:Hp} (C:VK→Prop) (h1:∀ Q,C Q→te σ H Q) (h2:C fun v H1=>g v σ H1 (u D)):lP (Pa te g) u D σ H:=h1 _ h2
theorem jd {CX:wf} {P:Program} {w:World} {K:PySem.W.Frag} {mg:Str→Option Value} {base:Heap} {N:List Str} {qual:Str} {scope:Scope} {f:Addr} {cd:Value} {A:Around} {outer:List Env} {s:Shared} {H:Hp} {E:XK}:(kJ CX P w K mg base N qual scope f cd A outer s H E).K=K:=rfl
theorem j5 {X:Cx}:X.nox.K=X.K:=rfl
def MK (K:PySem.W.Frag) (u:Nat):R2:=fun x y H Q=>∃ n d,o9 d=true∧Is K H n x d∧Is K H n y d∧u+n<cLine∧Q (.bl true) H
def TV (K:PySem.W.Frag) (u:Nat):R2:=fun x y H Q=>∃ n d,o9 d=true∧Is K H n x d∧Is K H n y d∧u+n<cLine∧Q (.bl false) H
theorem J8 {X:Cx}:uE X (compareOp .NotEq) (TV X.K X.A.units):=nM
theorem Nn {X:Cx}:uE X (compareOp .Eq) (MK X.K X.A.units):=Nu
section
variable {X:Cx}
theorem OO:uE X (binaryOp .Add) (fun x y H Q=>∃ a b xs ys,x = .ref a∧y = .ref b∧qg X.K H a xs∧qg X.K H b ys∧ys≠[]∧xs.length+ys.length≤sizeLine ∧
  (xs=[]→Q (.ref b) H)∧(xs≠[]→Va H (.tup (xs++ys)) Q)):=by
 intro pins s σ H x y v u Q I rx ry h
 obtain⟨a,b,xs,ys,rfl,rfl,ha,hb,hy,hz,q1,q2⟩:=h
 by_cases e:xs=[]
 ·subst e
  cases rx
  cases ry
  obtain⟨its,r1,p1,_⟩:=I.tuple ha
  obtain⟨its2,r2,p2,_⟩:=I.tuple hb
  cases r1
  obtain⟨⟨cls,dd,data,sl⟩,ho,hc,n,hd⟩:=id p1
  obtain⟨⟨cls2,dd2,data2,sl2⟩,ho2,hc2,n2,hd2⟩:=id p2
  simp only at hc hd hc2 hd2
  subst hc hd hc2 hd2
  exact concat_meets ⟨_,ho,rfl⟩ ⟨_,ho2,rfl⟩ noFill_tuple_add seq_tuple_add PySem.F.slot_tuple_add PySem.F.entry_tuple_add (PySem.F.args_tuple_add_2 _ _) (tuple_addW0 a b _ _ n n2 dd dd2 sl sl2 rfl) ⟨ho,ho2,.ref b,H,I,rfl,q1 rfl⟩
 ·exact Ly pins s σ H _ _ v u Q I rx ry ⟨a,b,xs,ys,rfl,rfl,ha,hb,e,hz,fun z=>absurd z hy,fun _ p hp=>(q2 e).at hp⟩
end
end L2
namespace Pg
open PySem L2
def yQ:Sp:=fun vs H Q _=>∃ c k,vs=[.int c,.int k]∧∀ m,0≤m→m<1000003→Q (.int m) H
def Vp:Sp:=fun vs H Q _=>∃ c k,vs=[.int c,.int k]∧∀ a H',JY a→zx H H'→Q (.int a) H'
def kW:Sp:=fun vs H Q _=>∃ c k,vs=[.int c,.int k]∧∀ a H',YZ a→zx H H'→Q (.int a) H'
def Jv:Sp:=fun vs H Q _=>∃ c k,vs=[.int c,.int k]∧∀ w H',JW w→zx H H'→Q (.str w) H'
def lh (bs:List Int):Prop:=∀ b∈bs,0≤b
def Xg:Sp:=fun vs H Q _=>∃ (c:Int) (n:Nat),vs=[.int c,.int (n:Nat)]∧n≤50∧∀ (bs:List Int) l H',bs.length=n→lh bs→zx H H'→H l=none→H' l=some (.lst (bs.map V.int))→Q (.ref l) H'
def Xm:Sp:=fun vs H Q _=>∃ z w,vs=[.int z,.str w]∧0≤z∧Q (.int (U6 z w)) H
theorem vH {z:Str} {A B:Prop} (h:A):if decide (V.str z=V.str z)=true then A else B:=by
 rw[if_pos (decide_eq_true rfl)]
 exact h
theorem qY {x y:Str} {A B:Prop} (n:x≠y) (h:B):if decide (V.str x=V.str y)=true then A else B:=by
 rw[if_neg fun k=>n (V.str.inj (of_decide_eq_true k))]
 exact h
theorem N9:("share":Str)≠"flat":=by decide +kernel
theorem RM:("capped":Str)≠"flat":=by decide +kernel
theorem rO:("capped":Str)≠"share":=by decide +kernel
theorem Rc:("least":Str)≠"flat":=by decide +kernel
theorem RQ:("least":Str)≠"share":=by decide +kernel
theorem RB:("least":Str)≠"capped":=by decide +kernel
theorem pP {bs:List Int} (h:lh bs):0≤bs.sum:=by
 induction bs with
 | nil=>exact BC _
 | cons a r ih =>
  rw[List.sum_cons]
  exact Int.add_nonneg (h a Bb) (ih fun b hb=>h b (Bk _ hb))
theorem nJ {i:Int} (h0:0≤i) (h1:i<4):∃ w,atI [V.str "down",.str "up",.str "near",.str "even"] i=some (.str w)∧JW w:=by
 obtain⟨v,ev,mv⟩:=vq (xs:=[V.str "down",.str "up",.str "near",.str "even"]) (i:=i) h0 h1
 simp only[bN,bS,or_false] at mv
 rcases mv with rfl | rfl | rfl | rfl
 ·exact⟨_,ev,by unfold JW;decide +kernel⟩
 ·exact⟨_,ev,by unfold JW;decide +kernel⟩
 ·exact⟨_,ev,by unfold JW;decide +kernel⟩
 ·exact⟨_,ev,by unfold JW;decide +kernel⟩
theorem xL {H:Hp} (xs:List V):qP H xs xs (fun _ v x=>v=x):=⟨rfl,fun i y h=>⟨y,h,fun _ _=>rfl⟩⟩
theorem GJ {r:Rk} (h:Vr r):∀ v∈jR r,(∃ i,v = .int i∧i.natAbs.log2<1920)∨∃ z,v = .str z:=by
 intro v hv
 cases h with
 | flat hn ha =>
  simp only[jR,bN,bS,or_false] at hv
  rcases hv with rfl | rfl | rfl
  ·exact .inr ⟨_,rfl⟩
  ·exact .inr ⟨_,rfl⟩
  ·exact .inl ⟨_,rfl,kA ha⟩
 | share hn hp hw =>
  simp only[jR,bN,bS,or_false] at hv
  rcases hv with rfl | rfl | rfl | rfl
  ·exact .inr ⟨_,rfl⟩
  ·exact .inr ⟨_,rfl⟩
  ·exact .inl ⟨_,rfl,uG hp⟩
  ·exact .inr ⟨_,rfl⟩
 | capped hn hp ha hw =>
  simp only[jR,bN,bS,or_false] at hv
  rcases hv with rfl | rfl | rfl | rfl | rfl
  ·exact .inr ⟨_,rfl⟩
  ·exact .inr ⟨_,rfl⟩
  ·exact .inl ⟨_,rfl,uG hp⟩
  ·exact .inl ⟨_,rfl,kA ha⟩
  ·exact .inr ⟨_,rfl⟩
 | least hn hp ha hw =>
  simp only[jR,bN,bS,or_false] at hv
  rcases hv with rfl | rfl | rfl | rfl | rfl
  ·exact .inr ⟨_,rfl⟩
  ·exact .inr ⟨_,rfl⟩
  ·exact .inl ⟨_,rfl,uG hp⟩
  ·exact .inl ⟨_,rfl,kA ha⟩
  ·exact .inr ⟨_,rfl⟩
theorem OE {r:Rk} (h:Vr r):∃ z l,jR r = .str z::l∧z≠"bands"∧z≠"ontop"∧l.length≤4:=by
 cases h with
 | flat hn ha=>exact⟨_,_,rfl,by decide +kernel,by decide +kernel,b8 rfl⟩
 | share hn hp hw=>exact⟨_,_,rfl,by decide +kernel,by decide +kernel,b8 rfl⟩
 | capped hn hp ha hw=>exact⟨_,_,rfl,by decide +kernel,by decide +kernel,b8 rfl⟩
 | least hn hp ha hw=>exact⟨_,_,rfl,by decide +kernel,by decide +kernel,b8 rfl⟩
theorem Le {r:Rk} (h:Vr r):(MP r).lookup ("name":Str)=some (.str r.name):=by cases h <;> rfl
theorem Nt {r:Rk} (h:Vr r):atI (jR r) 1=some (.str r.name):=by cases h <;> rfl
theorem qR {H H':Hp} {o dx C:Addr} (o0:H o=none) (d0:H dx=none) (fr:∀ b x,(upd (upd H dx (.own o)) o (.ins C dx [])) b=some x→b≠o→H' b=some x):zx H H':=fun b x hb=>by
 have bo:=zF hb o0
 refine fr b x ?_ bo
 rw[zq bo,zq (zF hb d0)]
 exact hb
theorem Oo {bs:List Int} {k:Nat} (h:k<bs.length):atI (bs.map V.int) ((k:Nat):Int)=some (.int (bs.getD k 0)):=qV (by rw[bR,bO h,Bx,bO h];rfl)
section
variable {K:PySem.W.Frag} {ea C:Addr} {σ:St}
end
open PySem.NumText
def wh (u:List Nat):List Nat:=u.take (u.length - 3)
def XT (l:List Nat):Bool:=WD l&&(decide (l=[48]) || !decide (l.head? = some 48))
def Xv:Sp:=fun vs H Q _=>∃ z,vs=[.str z]∧z.length≤1000∧∀ H',zx H H'→Q (.bl (XT z.cps.toList)) H'
theorem WC (z y:Str):decide (V.str z=V.str y)=decide (z.cps.toList=y.cps.toList):=decide_eq_decide.mpr ⟨fun h=>by injection h with h;rw[h],fun h=>by rw[Wp h]⟩
theorem Ww (z:Str) (c:Nat):Txt.startswith z ⟨#[c]⟩=decide (z.cps.toList.head? = some c):=by
 unfold Txt.startswith Builtin.Str.subAt
 obtain⟨⟨l⟩⟩:=z
 show (decide (0+1≤l.length)&&((Array.mk l).extract 0 (0+1) == #[c]))=decide (l.head? = some c)
 cases l with
 | nil=>rfl
 | cons a l =>
  have e:(Array.mk (a::l)).extract 0 (0+1) = #[a]:=by
   apply Array.ext'
   simp
  rw[e,decide_eq_true (by rw[Bi];omega),ce]
  by_cases h:a=c
  ·subst h
   simp
  ·rw[decide_eq_false (by intro q;exact h (Option.some.inj q))]
   simp[h]
theorem UH:("0":Str)=⟨#[48]⟩:=by decide +kernel
end Pg
namespace Pg
open PySem L2
def smC:List Nat:=[97,99,100,102,103,104,105,106,107,108,111,112,113,114,116,117,118,119,120,121,122]
def kN (c:Nat):Bool:=smC.contains c
theorem O9:("acdfghijklopqrtuvwxyz":Str).cps.toList=smC:=by decide +kernel
theorem Rh {i:Int} (h0:0≤i) (h1:i<21):∃ c,atI ("acdfghijklopqrtuvwxyz":Str).cps.toList i=some c∧kN c=true:=by
 rw[O9]
 obtain⟨c,e,m⟩:=vq (xs:=smC) h0 h1
 exact⟨c,e,BH.mpr m⟩
theorem xb {c:Nat} (h:kN c=true):UZ c=true:=by
 have m:=BH.mp h
 have all:smC.all UZ=true:=by decide +kernel
 exact Bp.mp all c m
theorem Qq {z:Str} (h1:1≤z.cps.toList.length) (h2:z.cps.toList.length≤8) (h3:z.cps.toList.all UZ=true) (h4:∀ w∈noNames,z.cps.toList≠w.cps.toList):q9 z:=by
 refine⟨⟨by rw[qF];exact h1,by rw[qF];exact h2,h3⟩,?_⟩
 cases e:noNames.contains z with
 | false=>rfl
 | true=>exact absurd rfl (h4 z (BH.mp e))
theorem Nb:∀ w∈noNames,2≤w.cps.toList.countP (fun c=>!kN c):=by
 have all:(noNames.all fun w=>decide (2≤w.cps.toList.countP (fun c=>!kN c)))=true:=by decide +kernel
 exact fun w h=>of_decide_eq_true (Bp.mp all w h)
theorem tN:∀ w∈noNames,w.cps.toList.head?≠some 113:=by
 have all:(noNames.all fun w=>decide (w.cps.toList.head?≠some 113))=true:=by decide +kernel
 exact fun w h=>of_decide_eq_true (Bp.mp all w h)
theorem Zy {l:List Nat} (h:∀ c∈l,kN c=true):l.countP (fun c=>!kN c)=0:=by
 rw[List.countP_eq_zero]
 intro c hc
 rw[h c hc]
 decide
theorem Gi {z:Str} {fs:List Nat} {c k m:Nat} (hf:∀ c∈fs,kN c=true) (hl:fs.length=7) (hc:UZ c=true) (hk:k≤m) (hm:m≤7) (e:z.cps.toList=fs.take k++[c]++(fs.drop k).take (m - k)):q9 z:=by
 have ha:∀ x∈fs.take k,kN x=true:=fun x hx=>hf x (Cl hx)
 have hb:∀ x∈(fs.drop k).take (m - k),kN x=true:=fun x hx=>hf x (List.mem_of_mem_drop (Cl hx))
 have len:z.cps.toList.length=m+1:=by
  rw[e,bP,bP,Bh,Bh,BZ,hl,Bu]
  omega
 refine Qq (by omega) (by omega) ?_ fun w hw ew=>?_
 ·rw[e,Cp,Cp,Bn,Bn]
  refine⟨⟨Bp.mpr fun x hx=>xb (ha x hx),?_⟩,Bp.mpr fun x hx=>xb (hb x hx)⟩
  show (UZ c&&true)=true
  rw[hc]
  rfl
 ·have t:=Nb w hw
  rw[← ew,e,List.countP_append,List.countP_append,Zy ha,Zy hb] at t
  have:[c].countP (fun c=>!kN c)≤1:=List.countP_le_length
  omega
theorem mq {z:Str} {fs:List Nat} {k:Nat} (hf:∀ c∈fs,kN c=true) (hl:fs.length=7) (e:z.cps.toList=113::fs.take k):q9 z:=by
 refine Qq ?_ ?_ ?_ fun w hw ew=>?_
 ·rw[e]
  exact CG (Bo _)
 ·rw[e,Bi,Bh,hl]
  omega
 ·rw[e,BW,Bn]
  exact⟨by decide +kernel,Bp.mpr fun x hx=>xb (hf x (Cl hx))⟩
 ·have t:=tN w hw
  rw[← ew,e] at t
  exact t rfl
def okNames:List Str:=["bases","nets","months","sum","ne","basis","bet","sumsum","netnet","mont"]
theorem Wn:∀ z∈okNames,q9 z:=by
 have all:(okNames.all fun z=>decide (1≤z.cps.toList.length)&&decide (z.cps.toList.length≤8)&&z.cps.toList.all UZ&&noNames.all fun w=>decide (z.cps.toList≠w.cps.toList))=true:=by decide +kernel
 intro z hz
 have h:=Bp.mp all z hz
 rw[Bn,Bn,Bn] at h
 exact Qq (of_decide_eq_true h.1.1.1) (of_decide_eq_true h.1.1.2) h.1.2 fun w hw=>of_decide_eq_true (Bp.mp h.2 w hw)
theorem wx (z:Str) (k:Nat):(Txt.slice z none (some ((k:Nat):Int))).cps.toList=z.cps.toList.take k:=by
 rw[kc]
 unfold G2
 rw[HT.vn,HT.Qx,Cm,cU]
 by_cases h:k≤z.cps.toList.length
 ·rw[BQ h]
 ·rw[Cz (by omega),BO (bK _),BO (by omega)]
theorem lE (z:Str) (k m:Nat) (h:m≤z.cps.toList.length) (hk:k≤m):(Txt.slice z (some ((k:Nat):Int)) (some ((m:Nat):Int))).cps.toList=(z.cps.toList.drop k).take (m - k):=by
 rw[kc]
 unfold G2
 rw[HT.vn,HT.vn,BQ h,BQ (Bj hk h)]
theorem pI {p:Str→Prop}:∀ {zs:List V},(∀ u∈zs,∃ z,u = .str z∧p z)→∃ nms:List Str,zs=nms.map V.str∧∀ z∈nms,p z:=by
 intro zs
 induction zs with
 | nil=>exact fun _=>⟨[],rfl,fun z h=>nomatch h⟩
 | cons u r ih =>
  intro h
  obtain⟨z,rfl,hz⟩:=h u Bb
  obtain⟨nms,e,hn⟩:=ih fun v hv=>h v (Bk _ hv)
  refine⟨z::nms,by rw[e];rfl,fun y hy=>?_⟩
  rcases bN.mp hy with rfl | hy
  ·exact hz
  ·exact hn y hy
theorem pX {p:Nat→Prop}:∀ {zs:List V},(∀ u∈zs,∃ c,u = .str ⟨#[c]⟩∧p c)→∃ cs:List Nat,zs=(cs.map fun c=>(⟨#[c]⟩:Str)).map V.str∧∀ c∈cs,p c:=by
 intro zs
 induction zs with
 | nil=>exact fun _=>⟨[],rfl,fun z h=>nomatch h⟩
 | cons u r ih =>
  intro h
  obtain⟨z,rfl,hz⟩:=h u Bb
  obtain⟨nms,e,hn⟩:=ih fun v hv=>h v (Bk _ hv)
  refine⟨z::nms,by rw[e];rfl,fun y hy=>?_⟩
  rcases bN.mp hy with rfl | hy
  ·exact hz
  ·exact hn y hy
theorem lS {α:Type} {zs:List V} {xs:List α} {p:V→Prop} (h:∀ (i:Nat) u,zs[i]? = some u→∃ x,xs[i]? = some x∧p u):∀ u∈zs,p u:=fun u hu=>by
 obtain⟨i,hi⟩:=cp.mp hu
 obtain⟨_,_,hp⟩:=h i u hi
 exact hp
theorem Rb {p:Nat→Prop} (h0:p 0) (h1:p 1) (h2:p 2) (h3:p 3):∀ i,i<4→p i
 | 0,_=>h0
 | 1,_=>h1
 | 2,_=>h2
 | 3,_=>h3
theorem R7 {p:Str→Prop} (h1:p "name") (h2:p "amount") (h3:p "parts") (h4:p "way") (h5:p "most") (h6:p "least"):∀ x∈(["name","amount","parts","way","most","least"]:List Str),p x:=by
 intro x hx
 simp only[bN,bS,or_false] at hx
 rcases hx with rfl | rfl | rfl | rfl | rfl | rfl <;> assumption
end Pg
namespace ST
open PySem PySem.Spec PyProof.Rows
def own:List Char:="set_iterator".toList.reverse
section
variable {prog:Program} {w:World} {A:Around} {E:Value→Shared→Prop} {s:Shared}
end
section
variable {prog:Program} {w:World} {A:Around} {E:Value→Shared→Prop} {s:Shared}
def rm (first:Value) (i n ep:Nat) (S:Addr):Obj:={ cls:=.type "set_iterator",dict:=none,data:=.fields #[first,rawInt i,.ref S,rawInt n,rawInt ep],slots:=#[] }
def mm (es:Array (Int × Value)) (t:SetTable):Bool:=!t.plain&&decide (es.size > 1)
def Nv (t:SetTable) (i:Nat):Nat:=if i=0 then 0 else t.place.getD (i - 1) 0+1
inductive XR (w:World) (es:Array (Int × Value)) (ep:Nat) (t:SetTable) (S T:Addr) (ord:List Value) (h:Heap) (i:Nat):Value→Prop
 | text (k:Nat):uN w=true→ord=(pickOrder (w.params.setOrder S ep) es).toList.map (·.2)→XR w es ep t S T ord h i (rawInt k)
 | table:uN w=false→mm es t=false→jT true t→ord=es.toList.map (·.2)→XR w es ep t S T ord h i (rawInt (Nv t i))
 | drawn (ps:List Nat):uN w=false→h.get? T=some (seqObj "tuple" (ps.map fun (p:Nat)=>rawInt p).toArray 0)→ps.Perm (List.range es.size)→ord=ps.map (fun p=>(es.getD p (0,.none)).2)→XR w es ep t S T ord h i (.ref T)
end
section
variable {prog:Program} {w:World} {A:Around} {E:Value→Shared→Prop} {s:Shared}
structure It (w:World) (es:Array (Int × Value)) (ep:Nat) (t:SetTable) (S T I:Addr) (ord:List Value) (i:Nat) (h:Heap):Prop where
 it:∃ first,h.get? I=some (rm first i es.size ep S)∧XR w es ep t S T ord h i first
 set:∃ o,h.get? S=some o∧o.data = .set es ep t
 fits:t.fits es.size=true
end
section
variable {prog:Program} {w:World} {A:Around} {E:Value→Shared→Prop} {s:Shared}
end
section
variable {prog:Program} {w:World} {A:Around} {E:Value→Shared→Prop} {s:Shared}
end
section
variable {prog:Program} {w:World} {A:Around} {E:Value→Shared→Prop} {s:Shared}
end
section
variable {prog:Program} {w:World} {A:Around} {E:Value→Shared→Prop} {s:Shared}
end
end ST
namespace L2
open PySem PySem.Spec PyProof.Rows
section
variable {X:Cx} {pins:List (Addr × Obj)} {σ:St} {H:Hp} {s:Shared} {a:Expr} {ta:TA} {p1 p2 p3 pos:Pos}
end
section
variable {X:Cx} {A:Around} {E:Value→Shared→Prop} {pins:List (Addr × Obj)} {σ:St} {H:Hp} {s:Shared} {r:Addr} {Q:VK} {OK:List Str→Prop}
end
section
variable {X:Cx} {a:Expr} {ta:TA} {p1 p2 p3 pos:Pos}
end
section
variable {X:Cx} {tg a:Expr} {ta:TA} {p pos:Pos}
end
end L2
namespace PySem
namespace F
theorem YS:Manifest.owners.lookup (String.ofList ['d','e','s','r','e','v','e','r'].reverse)=some Manifest.sig_reversed:=by kernel_rfl
theorem Yh:Slot "reversed" "__init__" "object.__init__" :=
 .of (owner:="object") (n:="__init__") (by rw[typeLookup_type,builtinLookup_eq_fast];kernel_rfl) (by decide +kernel) (by decide +kernel) (by decide +kernel)
  (by first | exact .inl (by decide +kernel) | exact .inr (by decide +kernel)) (by rw[isSubtype_type];kernel_rfl)
theorem yC:Slot "reversed" "__next__" "reversed.__next__" :=
 .of (owner:="reversed") (n:="__next__") (by rw[typeLookup_type,builtinLookup_eq_fast];kernel_rfl) (by decide +kernel) (by decide +kernel) (by decide +kernel)
  (by first | exact .inl (by decide +kernel) | exact .inr (by decide +kernel)) (by rw[isSubtype_type];kernel_rfl)
theorem v9:entryFor table "reversed.__next__" = some Builtin.«reversed.__next__»:=entryFor_of_tree (by kernel_rfl)
theorem vJ (a:Value):argsOk "reversed.__next__" ⟨[a],[]⟩:=by
 unfold argsOk;rw[signature?_of (id:="reversed.__next__") (n:=['_','_','t','x','e','n','_','_']) (o:=['d','e','s','r','e','v','e','r']) (by kernel_rfl) YS];kernel_rfl
theorem uF:Slot "reversed" "__iter__" "reversed.__iter__" :=
 .of (owner:="reversed") (n:="__iter__") (by rw[typeLookup_type,builtinLookup_eq_fast];kernel_rfl) (by decide +kernel) (by decide +kernel) (by decide +kernel)
  (by first | exact .inl (by decide +kernel) | exact .inr (by decide +kernel)) (by rw[isSubtype_type];kernel_rfl)
theorem kQ (a:Value):argsOk "reversed.__iter__" ⟨[a],[]⟩:=by
 unfold argsOk;rw[signature?_of (id:="reversed.__iter__") (n:=['_','_','r','e','t','i','_','_']) (o:=['d','e','s','r','e','v','e','r']) (by kernel_rfl) YS];kernel_rfl
theorem ZZ:entryFor table "reversed.__iter__" = some Builtin.«dict_keyiterator.__iter__» :=
 entryFor_alias (id':="dict_keyiterator.__iter__") (by kernel_rfl) (by first | rfl | decide +kernel | (unfold String.splitOn;simp +decide [String.splitOnAux])) (by decide +kernel) (by kernel_rfl)
theorem Xc:TypeCalled "reversed" "reversed.__new__" "object.__init__" :=
 ⟨by decide +kernel,by decide +kernel,⟨_,_,mro_reversed⟩,madeBy_type mro_reversed lookup_reversed_new (by decide +kernel),by decide +kernel,by rw[isSubtype_type];kernel_rfl,Yh⟩
theorem Uf:typeLookup (.type "tuple") "__reversed__" = pure none:=by rw[typeLookup_type,builtinLookup_eq_fast];kernel_rfl
end F
end PySem
namespace L2
open PySem PySem.Spec PyProof.Rows
def WV (l:Addr) (i:Int):Obj:={ cls:=.type "reversed",data:=.fields #[.ref l,rawInt i] }
def vO (h:Heap) (a l:Addr) (i:Int):Prop:=∃ o,h.get? a=some o∧o.cls = .type "reversed"∧o.data = .fields #[.ref l,rawInt i]
theorem vO.typeIs {s:Shared} {a l:Addr} {i:Int} (x:vO s.heap a l i):s.TypeIs (.ref a) "reversed":=let ⟨o,ho,hc,_⟩:=x;⟨o,ho,hc⟩
theorem vO.at {h h':Heap} {a l:Addr} {i:Int} (x:vO h a l i) (e:∀ o,h.get? a=some o→h'.get? a=some o):vO h' a l i:=let ⟨o,ho,r⟩:=x;⟨o,e _ ho,r⟩
section
variable {prog:Program} {w:World} {A:Around} {E:Value→Shared→Prop} {s:Shared}
theorem Yd (t:Addr) (items:Array Value) (hfit:(items.size:Int)<2 ^ 63) :
  Meets (Builtin.«reversed.__new__» ⟨[.type "reversed",.ref t],[]⟩) (fun _ R s=>IsTup s.heap t items∧∀ tk,R (.ok (.ret (.ref s.heap.objs.size))) { s with heap:=s.heap.push (WV t ((items.size:Int) - 1)),toks:=tk }) :=
 .of_wp fun prog w A R s h=>by
  obtain⟨ht,h⟩:=h
  unfold Builtin.«reversed.__new__»
  refine wpAny_bind (wpAny_of_eq (newClass_reversed _) ?_)
  try dsimp only
  refine wpAny_bind (wpAny_of_eq (a:=()) (by first | rfl | kernel_rfl) ?_)
  refine wpAny_bind (wpAny_of_eq (a:=()) (by first | rfl | kernel_rfl) ?_)
  try dsimp only
  refine wpAny_bind (wpAny_specialOf ht.typeIs F.Uf ?_)
  try dsimp only
  refine wpAny_bind (wpAny_bind (wpAny_isInstance ht.typeIs F.sub_tuple_dict ?_))
  rw[if_neg bV]
  refine wpAny_bind (wpAny_specialOf ht.typeIs F.slot_tuple_getitem.lookup ?_)
  try dsimp only
  rw[if_pos (by decide +kernel)]
  refine wpAny_pure ?_
  try dsimp only
  rw[if_neg (by decide)]
  refine wpAny_bind (len_tuple ht hfit ?_)
  try dsimp only
  refine wpAny_bind (wpAny_of_eq (a:=some (items.size:Int)) rfl ?_)
  try dsimp only
  refine wpAny_bind (m:=newObj (.type "reversed") (.fields #[.ref t,rawInt ((items.size:Int) - 1)])) (wpAny_newObj_type ?_)
  exact wpAny_pure ⟨_,rfl,h _⟩
theorem oU {t:Addr} {items:Array Value} {Q:Value→Shared→Prop} (ht:IsTup s.heap t items) (hfit:(items.size:Int)<2 ^ 63)
  (h:∀ tk,Q (.ref s.heap.objs.size) { s with heap:=s.heap.push (WV t ((items.size:Int) - 1)),toks:=tk }):wpAny (model prog w) A (call (.type "reversed") [.ref t]) Q E s:=by
 refine callType_new F.Xc (by decide) (F.typeCall_reversed_1 _) (F.newCall_reversed_1 _) (fun obj=>F.args_object_init_2 obj _) F.entry_reversed_new (Yd t items hfit) ⟨ht,fun tk=>?_⟩
 exact⟨⟨_,Bd _ rfl,rfl⟩,h tk⟩
theorem QV {it t:Addr} {i:Nat} {items:Array Value} {x:Value} {Q:Option Value→Shared→Prop} (hit:vO s.heap it t (i:Int)) (ht:IsTup s.heap t items) (hx:items[i]? = some x) (hfit:(items.size:Int)<2 ^ 63)
  (hQ:∀ h' tk,vO h' it t ((i:Int) - 1)→Heap.SameBut it s.heap h'→Q (some x) { s with heap:=h',toks:=tk }):wpAny (model prog w) A (pyNext (.ref it)) Q E s:=by
 obtain⟨o,ho,hc,hd⟩:=id hit
 have hi:i<items.size:=(BM.mp hx).1
 unfold pyNext
 refine wpAny_bind (wpAny_attempt (wpAny_callSpecial?_slot (name:=Str.ofString "__next__") hit.typeIs F.yC
  (wpAny_call_entry F.yC hit.typeIs F.v9 ?_ (F.vJ _))))
 unfold Builtin.«reversed.__next__»
 refine wpAny_bind (wpAny_of_eq (a:=(Value.ref it,[])) rfl ?_)
 try dsimp only
 refine wpAny_bind (wpAny_field ho hd (x:=.ref t) rfl ?_)
 refine wpAny_bind (wpAny_field ho hd (x:=rawInt (i:Int)) rfl ?_)
 show wpAny _ _ (if (i:Int)<0 then _ else _) _ _ s
 rw[if_neg (by omega)]
 refine wpAny_bind (wpAny_specialOf ht.typeIs F.slot_tuple_getitem.lookup ?_)
 try dsimp only
 rw[if_neg (by simp)]
 refine wpAny_bind (wpAny_mkInt ?_)
 refine wpAny_bind (wpAny_attempt (getItem_tuple (s:={ s with toks:=s.toks+1 }) ht (by omega) (by omega) (j:=i) (x:=x) ?_ hx ?_))
 ·exact PySem.seqIndex_of (by omega) (by omega)
 try dsimp only
 refine wpAny_bind (wpAny_field ho hd (x:=rawInt (i:Int)) rfl ?_)
 show wpAny _ _ (setField (.ref it) 1 (rawInt ((i:Int) - 1)) >>= _) _ _ _
 refine wpAny_bind (wpAny_setField ho hd (by simp) ?_)
 first
 | refine wpAny_pure ⟨x,rfl,wpAny_pure (hQ _ _ ?_ (Heap.SameBut.update ..))⟩
 | refine wpAny_bind (wpAny_pure (wpAny_pure ⟨x,rfl,wpAny_pure (hQ _ _ ?_ (Heap.SameBut.update ..))⟩))
 exact⟨_,cI _ ho (Obj.isFreed_of_fields (Obj.data_mapFields hd _)),(Obj.cls_mapFields ..).trans hc,by
  rw[Obj.data_mapFields hd];simp⟩
theorem Vj {it t:Addr} {Q:Option Value→Shared→Prop} (hh:A.handled=none) (hit:vO s.heap it t (-1))
  (hQ:∀ h',Heap.ExtBut it s.heap h'→Q none { s with heap:=h' }):wpAny (model prog w) A (pyNext (.ref it)) Q E s:=by
 obtain⟨o,ho,hc,hd⟩:=id hit
 unfold pyNext
 refine wpAny_bind (wpAny_attempt (wpAny_callSpecial?_slot (name:=Str.ofString "__next__") hit.typeIs F.yC
  (wpAny_call_entry F.yC hit.typeIs F.v9 ?_ (F.vJ _))))
 unfold Builtin.«reversed.__next__»
 refine wpAny_bind (wpAny_of_eq (a:=(Value.ref it,[])) rfl ?_)
 try dsimp only
 refine wpAny_bind (wpAny_field ho hd (x:=.ref t) rfl ?_)
 refine wpAny_bind (wpAny_field ho hd (x:=rawInt (-1)) rfl ?_)
 show wpAny _ _ (if (-1:Int)<0 then _ else _) _ _ s
 rw[if_pos (by decide)]
 refine wpAny_bind (wpAny_rule ?_)
 refine wpAny_bind (wpAny_bind (wpAny_setField ho hd (by simp) ?_))
 have hd2:(o.mapFields fun fs=>fs.set! 1 (rawInt (-1))).data = .fields #[.ref t,rawInt (-1)]:=by rw[Obj.data_mapFields hd];rfl
 refine wpAny_setField (cI _ ho (Obj.isFreed_of_fields (Obj.data_mapFields hd _))) hd2 (by simp) ?_
 first
 | show wpAny _ _ (newExc (.type "StopIteration") [] >>= _) _ _ _
 | (refine wpAny_bind ?_;show wpAny _ _ (newExc (.type "StopIteration") [] >>= _) _ _ _)
 refine wpAny_bind ?_
 simp only[newExc,newTuple]
 refine wpAny_bind (wpAny_newObj_type ?_ (by size_fits))
 refine wpAny_bind (m:=firstArgMember _ _) (wpAny_of_eq (a:=Value.none) (by first | rfl | (simp only[firstArgMember];rfl)) ?_)
 refine wpAny_newObj_type ?_ (by size_fits)
 simp only[raiseNew]
 refine wpAny_bind (wpAny_handled ?_)
 first | rw[show A.in1.handled=none from hh] | rw[hh]
 refine wpAny_bind (wpAny_pure (wpAny_throw ?_))
 refine wpAny_bind (wpAny_isInstance (T:="StopIteration") (b:=true) ⟨_,Bd _ rfl,rfl⟩ isSubtype_stop ?_)
 exact wpAny_pure (hQ _ (((((Heap.SameBut.update ..).extBut.trans (Heap.SameBut.update ..).extBut)).push _).push _))
theorem Vz {it t:Addr} {i:Int} {Q:Value→Shared→Prop} (hit:vO s.heap it t i) (h:Q (.ref it) s):wpAny (model prog w) A (pyIter (.ref it)) Q E s:=by
 refine wpAny_pyIter_slot hit.typeIs F.uF (wpAny_call_entry F.uF hit.typeIs F.ZZ ?_ (F.kQ _))
 show wpAny _ _ (ret (.ref it)) _ _ s
 exact wpAny_pure ⟨_,rfl,"reversed",_,hit.typeIs,F.yC.lookup,h⟩
end
def Nq (K:PySem.W.Frag) (a:Addr) (n:Nat):It :=
 ⟨fun i H=>i<n∧∃ xs,qg K H a xs∧xs.length=n,fun i H x H'=>H'=H∧∀ xs,qg K H a xs→xs[n - 1 - i]? = some x,fun i _=>i=n⟩
theorem pD {P:Program} {w:World} {K:PySem.W.Frag} {tg:Expr} (a it:Addr) (n:Nat):Vi P w K tg (Nq K a n) [it] it (fun i h=>vO h it a ((n:Int) - 1 - (i:Nat))) where
 mem:=by simp
 obj:=fun i h st b hb=>by
  have e:b=it:=by simpa using hb
  subst e
  obtain⟨o,e,c,d⟩:=st
  exact⟨o,e,fun v z=>by rw[d] at z;cases z⟩
 keep:=fun i h h' st k=>st.at fun o e=>k it (by simp) o e
 item:=by
  intro X hP hw hK hc i pins s σ H E I hf st hg
  subst hP hw hK
  obtain⟨hi,xs,hq,hn⟩:=hg
  obtain⟨its,rv,p,hz⟩:=I.tuple hq
  have hl:=rv.length
  rw[sizeLine_eq] at hz
  obtain⟨x,hx⟩:∃ x,xs[n - 1 - i]? = some x:=⟨_,bO (show n - 1 - i<xs.length by omega)⟩
  obtain⟨u,hu,ru⟩:=rv.get hx
  obtain⟨f0,f1,f2,f3,f4,f5⟩:=hf it (by simp)
  have e1:((n:Int) - 1 - (i:Nat))=((n - 1 - i:Nat):Int):=by omega
  have st:=st
  rw[e1] at st
  refine QV st p (x:=u) (by simpa using hu) (by rw[bT];omega) fun h' tk st' sb=>?_
  have I1:zH X pins σ H { s with heap:=h',toks:=tk }:=I.turned (t':=tk) (fun b o hb e=>(sb.2 b hb).trans e) f0 f1 f3 f4 f5
  obtain⟨o,e,c,d⟩:=id st'
  have e2:((n - 1 - i:Nat):Int) - 1=((n:Int) - 1 - ((i+1:Nat):Int)):=by omega
  rw[e2] at st'
  exact⟨u,rfl,Y2 (s:={ s with heap:=h',toks:=tk }) e c d (by decide) ⟨x,H,I1,ru,⟨rfl,fun ys hy=>by rw[I.tuple_inj hy hq];exact hx⟩,st',fun b hb=>(hf b hb).1⟩⟩
 done:=by
  intro X hP hw hK hc i pins s σ H E I hf st hg
  subst hP hw hK
  have hg:i=n:=hg
  subst hg
  obtain⟨f0,f1,f2,f3,f4,f5⟩:=hf it (by simp)
  have st:=st
  rw[show ((i:Int) - 1 - (i:Nat)) = -1 by omega] at st
  exact Vj (I.ok.hd hc) st fun h' eb=>⟨rfl,I.turned (t':=s.toks) (fun b o hb e=>eb b o hb e) f0 f1 f3 f4 f5⟩
 self:=fun _ _ _ _ _ st h=>Vz st h
def RU (K:PySem.W.Frag) (ta:TA):TI:=fun σ H R=>ta σ H fun vs H1=>∃ a xs,vs=[.ref a]∧qg K H1 a xs∧R (Nq K a xs.length) H1
section
variable {X:Cx} {tg a:Expr} {ta:TA} {p pos:Pos}
theorem nH (hg:Gl X "reversed") (hm:X.mg "reversed" = none) (ha:PA X [a] ta) (hs:starEach [a] X.env=[(false,eval a X.env)]:=by rfl) :
  PI X tg (.Call (.Name "reversed" p) [a] [] pos) (RU X.K ta):=by
 intro pins s σ H R I h
 refine Call_ (uc I hg hm boot_reversed (PyProof.Rows.callWith_type1 (qS (ha pos pins s σ H _ I h) fun us s1 ⟨vs,H1,I1,r1,q1⟩=>?_) hs rfl))
 obtain⟨l,xs,e,h1,q⟩:=q1
 subst e
 cases r1 with
 | cons r rr =>
  cases rr
  cases r
  obtain⟨its,rv,pl,hz⟩:=I1.tuple h1
  have hl:=rv.length
  rw[sizeLine_eq] at hz
  refine oU pl (by rw[bT];omega) fun tk=>?_
  have hd:vO (s1.heap.push (WV l ((its.toArray.size:Int) - 1))) s1.heap.objs.size l ((xs.length:Int) - 1):=⟨_,Bd _ rfl,rfl,by
   show Data.fields #[.ref l,rawInt ((its.toArray.size:Int) - 1)]=_
   rw[bT,hl]⟩
  refine Vz hd ?_
  refine⟨s1.heap.objs.size,[s1.heap.objs.size],_,_,H1,rfl,I1.kept (t':=tk) fun b o e=>bW _ e,pD l _ xs.length,?_,fun b hb=>?_,q⟩
  ·rw[Int.natCast_zero,Int.sub_zero]
   exact hd
  have e:b=s1.heap.objs.size:=by simpa using hb
  subst e
  exact I1.fpOk (bK _) (I1.hok.fresh (bK _))
end
theorem oP {K:PySem.W.Frag} {a:Addr} {xs:List V} {g:TG} {tb:TS} {D:jN} {σ:St} {H:Hp} (Pv:Nat→St→Hp→Prop) (h0:Pv 0 σ H) (hl:∀ i σ H,i≤xs.length→Pv i σ H→qg K H a xs)
  (hs:∀ i x σ H,i<xs.length→xs[xs.length - 1 - i]? = some x→Pv i σ H→∀ E:jN,(∀ σ' H',Pv (i+1) σ' H'→E.nx σ' H')→E.rt=D.rt→g x σ H fun σ2 H2=>tb E σ2 H2) (hd:∀ σ H,Pv xs.length σ H→D.nx σ H):Lb (Nq K a xs.length) g tb D σ H:=by
 refine⟨fun i m σ H=>m=xs.length - i∧i≤xs.length∧Pv i σ H,⟨xs.length,by simp,Bo _,h0⟩,?_⟩
 rintro i m σ H ⟨rfl,hi,p⟩
 have q:=hl i σ H hi p
 by_cases hlt:i<xs.length
 ·refine .inr ⟨⟨hlt,xs,q,rfl⟩,Pv (i+1),fun σ' H' p'=>⟨xs.length - (i+1),by omega,rfl,hlt,p'⟩,fun x H' y=>?_⟩
  obtain⟨rfl,y⟩:=y
  exact hs i x σ _ hlt (y xs q) p _ (fun _ _ h=>h) rfl
 ·have e:i=xs.length:=by omega
  subst e
  exact .inl ⟨rfl,hd σ H p⟩
end L2
namespace Pg
open PySem L2
def TX (a b:Int):Int:=if b > a then b else a
def La (a b:Int):Int:=if b<a then b else a
def G9 (r:List (Int × Int)) (t:Int):Int:=match r with
 | []=>t
 | q::_=>La t q.1
def pc (b:Int) (r:List (Int × Int)) (t:Int):Int:=TX 0 (G9 r t - b)
def lr:List (Int × Int)→Int→List Int
 | [],_=>[]
 | q::r,t=>pc q.1 r t::lr r t
def Jq:List (Int × Int)→Int→Int
 | [],_=>0
 | q::r,t=>q.2*pc q.1 r t+Jq r t
def Up (ps:List (Int × Int)):Prop:=ps.Pairwise fun x y=>x.1<y.1
def Rt (q s:Int × Int):Int × Int:=if s.1 > q.1 then (q.1,s.2+(s.1 - q.1)*q.2) else s
theorem NI (r:List (Int × Int)) (t:Int):G9 r t≤t:=by
 cases r with
 | nil=>exact BC _
 | cons q r =>
  show La t q.1≤t
  unfold La
  split <;> omega
theorem N7 (b:Int) (r:List (Int × Int)) (t:Int):0≤pc b r t:=by
 unfold pc TX
 split <;> omega
theorem PR {ps:List (Int × Int)} (h:Up ps) (t:Int):ps.foldr Rt (t,0)=(G9 ps t,Jq ps t):=by
 induction ps with
 | nil=>rfl
 | cons q r ih =>
  have h2:=ci.mp h
  rw[List.foldr_cons,ih h2.2]
  have le:=NI r t
  show (if G9 r t > q.1 then (q.1,Jq r t+(G9 r t - q.1)*q.2) else (G9 r t,Jq r t))=(La t q.1,q.2*pc q.1 r t+Jq r t)
  unfold pc TX La
  by_cases c:G9 r t > q.1
  ·rw[if_pos c,if_pos (show q.1<t by omega),if_pos (by omega),Int.mul_comm q.2,Int.add_comm]
  ·rw[if_neg c,if_neg (show ¬ G9 r t - q.1 > 0 by omega),Int.mul_zero,cb]
   refine Prod.ext ?_ rfl
   show G9 r t=if q.1<t then q.1 else t
   cases r with
   | nil =>
    have c:¬ t > q.1:=c
    rw[if_neg (by omega)]
    rfl
   | cons q' r' =>
    have lt:=h2.1 q' Bb
    have c:¬ La t q'.1 > q.1:=c
    show La t q'.1=_
    unfold La at c ⊢
    by_cases d:q'.1<t
    ·rw[if_pos d] at c
     omega
    ·rw[if_neg d] at c ⊢
     rw[if_neg (by omega)]
theorem Mi {ps:List (Int × Int)} (h:∀ q∈ps,0≤q.2) (t:Int):0≤Jq ps t:=by
 induction ps with
 | nil=>exact BC _
 | cons q r ih=>exact Int.add_nonneg (BE (h q Bb) (N7 _ _ _)) (ih fun p hp=>h p (Bk _ hp))
theorem JC (ps:List (Int × Int)) (t:Int):(lr ps t).length=ps.length:=by
 induction ps with
 | nil=>rfl
 | cons q r ih=>exact congrArg Nat.succ ih
theorem Ng {ps:List (Int × Int)} {t:Int} {k:Nat} {q:Int × Int} (h:ps[k]? = some q):(lr ps t)[k]? = some (pc q.1 (ps.drop (k+1)) t):=by
 induction ps generalizing k with
 | nil=>cases h
 | cons p r ih =>
  cases k with
  | zero =>
   cases h
   rfl
  | succ k=>exact ih (k:=k) h
theorem p9 {ps:List (Int × Int)} {t:Int} {k:Nat} {q:Int × Int} (h:ps[k]? = some q):(lr ps t).take (k+1)=(lr ps t).take k++[pc q.1 (ps.drop (k+1)) t]:=by
 rw[BI,Ng h]
 rfl
theorem oA (ps:List (Int × Int)) (t:Int):((List.range ps.length).map fun k=>(ps.map (·.2)).getD k 0*(lr ps t).getD k 0).sum=Jq ps t:=by
 induction ps with
 | nil=>rfl
 | cons q r ih =>
  rw[Bi,CN,Br,List.sum_cons,b6]
  show q.2*pc q.1 r t+_=q.2*pc q.1 r t+Jq r t
  rw[← ih]
  rfl
theorem VR {ps:List (Int × Int)} {t:Int} {k:Nat}:G9 (ps.drop k) t=match ps[k]? with | none=>t | some q=>La t q.1:=by
 induction ps generalizing k with
 | nil=>cases k <;> rfl
 | cons q r ih =>
  cases k with
  | zero=>rfl
  | succ k=>exact ih
def cB (q:Int × Int):List V:=[.int q.1,.int q.2]
def jW (H:Hp) (u:Addr) (ps:List (Int × Int)):Prop:=∃ ys,H u=some (.tup ys)∧z4 H ys (ps.map cB)
theorem jW.same {H H':Hp} {u:Addr} {ps:List (Int × Int)} (s:zx H H') (h:jW H u ps):jW H' u ps:=by
 obtain⟨ys,e,t⟩:=h
 exact⟨ys,s _ _ e,t.same s⟩
structure Z1 (ps:List (Int × Int)):Prop where
 few:ps.length≤12
 hd:∃ p r,ps=((0:Int),p)::r
 ok:∀ q∈ps,JY q.1∧YZ q.2
 up:Up ps
inductive Gd:Nat→Rk→Prop where
 | pln {d:Nat} {r:Rk}:Vr r→Gd d r
 | bands {d:Nat} {n w:Str} {ps:List (Int × Int)}:q9 n→Z1 ps→JW w→Gd d (.bands n ps w)
 | ontop {d:Nat} {n w:Str} {p:Int} {r:Rk}:q9 n→YZ p→JW w→Gd d r→Gd (d+1) (.ontop n p w r)
theorem Gd.mono {d:Nat} {r:Rk} (h:Gd d r):Gd (d+1) r:=by
 induction h with
 | pln h=>exact .pln h
 | bands h1 h2 h3=>exact .bands h1 h2 h3
 | ontop h1 h2 h3 _ ih=>exact .ontop h1 h2 h3 ih
inductive ug (Cs:Nat→Addr) (H:Hp):Rk→V→Prop where
 | pln {r:Rk} {v:V}:r.kd<4→xx Cs H v r→ug Cs H r v
 | bands {n w:Str} {ps:List (Int × Int)} {o dx u:Addr}:H o=some (.ins (Cs 4) dx [("name",.str n),("bands",.ref u),("way",.str w)])→jW H u ps→ug Cs H (.bands n ps w) (.ref o)
 | ontop {n w:Str} {p:Int} {r:Rk} {o dx:Addr} {x:V}:H o=some (.ins (Cs 5) dx [("name",.str n),("parts",.int p),("way",.str w),("within",x)])→ug Cs H r x→ug Cs H (.ontop n p w r) (.ref o)
theorem ug.same {Cs:Nat→Addr} {H H':Hp} {r:Rk} {v:V} (s:zx H H') (h:ug Cs H r v):ug Cs H' r v:=by
 induction h with
 | pln k h=>exact .pln k (h.same s)
 | bands h b=>exact .bands (s _ _ h) (b.same s)
 | ontop h _ ih=>exact .ontop (s _ _ h) ih
inductive Zg (H:Hp):Rk→V→Prop where
 | pln {r:Rk} {v:V}:r.kd<4→om H v r→Zg H r v
 | bands {n w:Str} {ps:List (Int × Int)} {t u:Addr}:H t=some (.tup [.str "bands",.str n,.ref u,.str w])→jW H u ps→Zg H (.bands n ps w) (.ref t)
 | ontop {n w:Str} {p:Int} {r:Rk} {t:Addr} {x:V}:H t=some (.tup [.str "ontop",.str n,.int p,.str w,x])→Zg H r x→Zg H (.ontop n p w r) (.ref t)
theorem Zg.same {H H':Hp} {r:Rk} {v:V} (s:zx H H') (h:Zg H r v):Zg H' r v:=by
 induction h with
 | pln k h=>exact .pln k (h.same s)
 | bands h b=>exact .bands (s _ _ h) (b.same s)
 | ontop h _ ih=>exact .ontop (s _ _ h) ih
def Wo:Rk→List Int→Int
 | .bands _ ps w,bs=>U6 (Jq ps bs.sum) w
 | .ontop _ p w r,bs=>U6 (Wo r bs*p) w
 | .flat n a,bs=>MM (.flat n a) bs
 | .share n p w,bs=>MM (.share n p w) bs
 | .capped n p m w,bs=>MM (.capped n p m w) bs
 | .least n p l w,bs=>MM (.least n p l w) bs
def gL (r:Rk) (bs:List Int):Int:=Wo r bs - Wo r (dl bs)
def yq (q:Int × Int):Str:=(toString q.1:Str) ++ ":" ++ (toString q.2:Str)
def jZ (ps:List (Int × Int)):Str:=Txt.join "," (ps.map yq)
def XM:List V→Hp→VK→Prop:=fun xs H Q=>∃ i,xs=[.int i]∧i.natAbs.log2<1920∧Q (.str (toString i)) H
def XC:R2:=fun x y H Q=>∃ i j,x = .str i∧y = .str j∧i.length+j.length≤sizeLine∧Q (.str (i++j)) H
def j6:Rk→Str
 | .bands n ps w=>Txt.join " " ["bands",n,jZ ps,w]
 | .ontop n p w r=>Txt.join " " ["ontop",n,toString p,w,"of",j6 r]
 | .flat n a=>xY (.flat n a)
 | .share n p w=>xY (.share n p w)
 | .capped n p m w=>xY (.capped n p m w)
 | .least n p l w=>xY (.least n p l w)
theorem Qk {r:Rk} (h:Vr r):Wo r=MM r:=by cases h <;> rfl
theorem ZA {r:Rk} (h:Vr r):j6 r=xY r:=by cases h <;> rfl
theorem ZT {z:Int} {w:Str} (h:0≤z):0≤U6 z w:=by
 unfold U6
 split <;> omega
theorem Pb (bs:List Int):0≤pos bs:=cJ _
theorem MA {r:Rk} (h:Vr r) {bs:List Int} (b:lh bs):0≤MM r bs:=by
 have sn:=pP b
 cases h with
 | flat hn ha=>exact BE ha.1 (Pb _)
 | share hn hp hw=>exact ZT (BE sn hp.1)
 | capped hn hp ha hw =>
  refine ZT (BE ?_ hp.1)
  have:=ha.1
  split <;> omega
 | @least n p l w hn hp ha hw =>
  have h2:=BE ha.1 (Pb bs)
  show 0≤if l*pos bs > U6 (bs.sum*p) w then l*pos bs else U6 (bs.sum*p) w
  split
  ·exact h2
  ·exact ZT (BE sn hp.1)
theorem lM {d:Nat} {r:Rk} (h:Gd d r) {bs:List Int} (b:lh bs):0≤Wo r bs:=by
 induction h with
 | pln h=>rw[Qk h];exact MA h b
 | bands h1 h2 h3=>exact ZT (Mi (fun q hq=>(h2.ok q hq).2.1) _)
 | ontop h1 h2 h3 _ ih=>exact ZT (BE ih h2.1)
structure Qg (K:PySem.W.Frag) (C:Addr):Prop where
 cls:uT K C
 no:∀ x∈(["name","bands","way","parts","within"]:List Str),zU K C x
def UR (K:PySem.W.Frag):Sp:=fun vs H Q _=>∃ (l:Addr) (zs:List Int),vs=[.ref l]∧z5 K H l (zs.map V.int)∧zs.length≤50∧zs.Pairwise (fun x y:Int=>x<y)∧∀ H',zx H H'→Q (.bl true) H'
def Zw:Sp:=fun vs H Q _=>∃ a q,vs=[.ref a]∧H a=some (.tup (cB q))∧JY q.1∧YZ q.2∧Q (.bl true) H
def Yr:Sp:=fun vs H Q _=>∃ u ps,vs=[.ref u]∧jW H u ps∧Z1 ps∧∀ H',zx H H'→Q (.bl true) H'
def uh (K:PySem.W.Frag):Sp:=fun vs H Q _=>∃ C o dx z,vs=[.ref o,.str z]∧uT K C∧zU K C "name"∧H o=some (.ins C dx [])∧q9 z∧∀ H',(∀ b x,H b=some x→b≠o→H' b=some x)→H' o=some (.ins C dx [("name",.str z)])→Q .non H'
def ZC (C:Addr):Sp:=fun vs H Q _=>∃ o dx n u ps w,vs=[.ref o,.str n,.ref u,.str w]∧q9 n∧Z1 ps∧JW w∧jW H u ps∧H o=some (.ins C dx []) ∧
 ∀ H' u',(∀ b x,H b=some x→b≠o→H' b=some x)→H' o=some (.ins C dx [("name",.str n),("bands",.ref u'),("way",.str w)])→jW H' u' ps→Q .non H'
def yW (K:PySem.W.Frag) (d k:Nat) (Cs:Nat→Addr):Sp:=fun vs H Q _=>∃ v r b bs,vs=[v,.ref b]∧r.kd=k∧ug Cs H r v∧Gd d r∧z5 K H b (bs.map V.int)∧bs.length≤100∧∀ H',zx H H'→Q (.int (Wo r bs)) H'
def JK (K:PySem.W.Frag) (d k:Nat) (Cs:Nat→Addr):Sp:=fun vs H Q _=>∃ v r b bs,vs=[v,.ref b]∧r.kd=k∧ug Cs H r v∧Gd d r∧z5 K H b (bs.map V.int)∧bs.length≤100∧∀ H',zx H H'→Q (.int (gL r bs)) H'
def yH (d k:Nat) (Cs:Nat→Addr):Sp:=fun vs H Q _=>∃ v r,vs=[v]∧r.kd=k∧ug Cs H r v∧Gd d r∧∀ H',zx H H'→Q (.str (j6 r)) H'
def Xh:Sp:=fun vs H Q _=>∃ u ps t,vs=[.ref u,.int t]∧jW H u ps∧Z1 ps∧∀ l H',zx H H'→H l=none→H' l=some (.lst ((lr ps t).map V.int))→Q (.ref l) H'
def XN:Sp:=fun vs H Q _=>∃ c,vs=[.int c]∧∀ u ps H',Z1 ps→zx H H'→jW H' u ps→Q (.ref u) H'
def XO:Sp:=fun vs H Q _=>∃ c z k,vs=[.int c,.str z,.int k]∧q9 z∧0≤k∧k<5∧∀ v r H',Gd 0 r→r.name=z→(r.kd:Int)=k→zx H H'→Zg H' r v→Q v H'
def kY (K:PySem.W.Frag):Nat→Sp
 | 0=>fun _ _ _ _=>False
 | d+1=>fun vs H Q _=>∃ v r b bs,vs=[v,.ref b]∧Zg H r v∧Gd d r∧z5 K H b (bs.map V.int)∧bs.length≤100∧lh bs∧∀ H',zx H H'→Q (.int (Wo r bs)) H'
def JE (K:PySem.W.Frag) (d:Nat):Sp:=fun vs H Q _=>∃ v r b bs,vs=[v,.ref b]∧Zg H r v∧Gd d r∧z5 K H b (bs.map V.int)∧bs.length≤100∧lh bs∧∀ H',zx H H'→Q (.int (gL r bs)) H'
def wo:Nat→Sp
 | 0=>fun _ _ _ _=>False
 | d+1=>fun vs H Q _=>∃ v r,vs=[v]∧Zg H r v∧Gd d r∧∀ H',zx H H'→Q (.str (j6 r)) H'
theorem ug.obj {Cs:Nat→Addr} {H:Hp} {r:Rk} {v:V} {d:Nat} (h:ug Cs H r v) (g:Gd d r):∃ o dx fs,v = .ref o∧H o=some (.ins (Cs r.kd) dx fs)∧fs.lookup ("name":Str)=some (.str r.name) ∧
  ∀ x∈(["until","of_month","row","twin","depth"]:List Str),fs.lookup x=none:=by
 cases h with
 | pln k h =>
  obtain⟨o,dx,rfl,h⟩:=h
  cases g with
  | pln p =>
   refine⟨o,dx,_,rfl,h,Le p,fun x hx=>?_⟩
   simp only[bN,bS,or_false] at hx
   cases p <;> rcases hx with rfl | rfl | rfl | rfl | rfl <;> rfl
  | bands=>exact absurd k (by show ¬ (_:Nat)<4;exact CH (b8 rfl))
  | ontop=>exact absurd k (by show ¬ (_:Nat)<4;exact CH (b8 rfl))
 | bands h b =>
  refine⟨_,_,_,rfl,h,rfl,fun x hx=>?_⟩
  simp only[bN,bS,or_false] at hx
  rcases hx with rfl | rfl | rfl | rfl | rfl <;> rfl
 | ontop h b =>
  refine⟨_,_,_,rfl,h,rfl,fun x hx=>?_⟩
  simp only[bN,bS,or_false] at hx
  rcases hx with rfl | rfl | rfl | rfl | rfl <;> rfl
theorem jM {H:Hp} {ys:List V} {ps:List (Int × Int)} (T:z4 H ys (ps.map cB)):qP H ys ps (fun H' v q=>∃ a,v = .ref a∧H' a=some (.tup (cB q))):=by
 refine⟨by rw[T.len,bM],fun i y e=>?_⟩
 obtain⟨a,c,rfl,h1,h2⟩:=T.of_at e
 rw[bR] at h1
 obtain⟨q,hq,rfl⟩:=bX.mp h1
 exact⟨q,hq,fun H' s=>⟨a,rfl,s _ _ h2⟩⟩
theorem Y9 {H:Hp} {ys:List V} {ps:List (Int × Int)} (T:z4 H ys (ps.map cB)) {i:Nat} {q:Int × Int} (h:ps[i]? = some q):∃ a,ys[i]? = some (.ref a)∧H a=some (.tup (cB q)) :=
 T.at_ i _ (by rw[bR,h];rfl)
theorem yY (n:Nat):(List.replicate n true).all id=true:=by
 rw[Bp]
 intro x hx
 exact (List.mem_replicate.mp hx).2
theorem On (zs:List Int):vm (zs.map V.int) (some 1) none=zs.tail.map V.int:=by
 unfold vm
 rw[show (1:Int)=((1:Nat):Int) from rfl,HT.vn,HT.Qx,bM]
 cases zs with
 | nil=>rfl
 | cons z r =>
  rw[BQ (show 1≤(z::r).length from CG (Bo _))]
  show ((r.map V.int)).take (r.length+1 - 1)=r.map V.int
  rw[BO (by rw[bM];omega)]
theorem NN {zs:List Int} (h:zs.Pairwise fun x y:Int=>x<y) {i:Nat} {a b:Int} (ha:zs[i]? = some a) (hb:zs.tail[i]? = some b):a<b:=by
 rw[List.getElem?_tail] at hb
 obtain⟨h1,rfl⟩:=bU.mp ha
 obtain⟨h2,rfl⟩:=bU.mp hb
 exact cm.mp h i (i+1) h1 h2 (BX _)
theorem P7 (xs ys:List V):List.zipWith (fun _ _=>V.bl true) xs ys=(List.replicate (min xs.length ys.length) true).map V.bl:=by
 rw[List.map_replicate]
 apply List.ext_getElem
 ·rw[List.length_zipWith,List.length_replicate]
 ·intro i h1 h2
  rw[List.getElem_zipWith,List.getElem_replicate]
theorem P8 {α:Type} (xs:List α):xs.map (fun _=>V.bl true)=(List.replicate xs.length true).map V.bl:=by
 rw[List.map_replicate]
 induction xs with
 | nil=>rfl
 | cons x r ih=>exact congrArg (V.bl true :: ·) ih
theorem ub {i:Int} (h:JY i):(toString i:Str).length≤13:=Qw (k:=13) h.1 (by decide) (by have:=h.2;have:=h.1;omega)
theorem j9 {i:Int} (h:YZ i):(toString i:Str).length≤5:=Qw (k:=5) h.1 (by decide) (by have:=h.2;have:=h.1;omega)
theorem YT {q:Int × Int} (h:JY q.1) (k:YZ q.2):(yq q).length≤19:=by
 have l1:=ub h
 have l2:=j9 k
 have l3:((toString q.1:Str) ++ ":" ++ (toString q.2:Str)).length=(toString q.1:Str).length+1+(toString q.2:Str).length:=by rw[Str.length_append,Str.length_append];rfl
 unfold yq
 omega
theorem jS {ps:List (Int × Int)} (ok:Z1 ps):JoinOk "," (ps.map yq)=true∧(jZ ps).length≤252:=yc (m:=19) (k:=12) (fun z hz=>by
 obtain⟨q,hq,rfl⟩:=bZ.mp hz
 exact YT (ok.ok q hq).1 (ok.ok q hq).2) (by rw[bM];exact ok.few) (by decide +kernel) rfl
theorem uj {w:Str} (h:JW w):w.length≤4:=by
 have h:=BH.mp h
 unfold wayL at h
 simp only[bN,bS,or_false] at h
 rcases h with rfl | rfl | rfl | rfl <;> decide +kernel
theorem Vm {n w:Str} {ps:List (Int × Int)} (hn:q9 n) (ok:Z1 ps) (hw:JW w):JoinOk " " ["bands",n,jZ ps,w]=true:=by
 refine (yc (m:=252) (k:=4) (fun z hz=>?_) (bK _) (by decide +kernel) rfl).1
 have h1:=hn.ok.hi
 have h2:=(jS ok).2
 have h3:=uj hw
 simp only[bN,bS,or_false] at hz
 rcases hz with rfl | rfl | rfl | rfl
 ·decide +kernel
 ·omega
 ·omega
 ·omega
theorem ZJ {xs:List V} {v:V} (h:xs.head? = some v):atI xs 0=some v:=by
 cases xs with
 | nil=>cases h
 | cons x r =>
  cases h
  exact qV (j:=0) rfl
end Pg
namespace L2
open PySem PySem.Spec PyProof.Rows
theorem Ge {K:PySem.W.Frag} {D a b:Addr} {te:TE} {fin:List V→Hp→Prop} {σ:St} {H:Hp} {xs ys:List V} (ha:z5 K H a xs) (hb:z5 K H b ys) (hD:H D=none) (hz:ys.length<sizeLine) (hxy:ys.length≤xs.length) (φ:V→V→V)
  (he:∀ (i:Nat) x y,xs[i]? = some x→ys[i]? = some y→∀ H' R,zx H H'→(∀ H'',zx H' H''→R (φ x y) H'')→te ((σ.set 0 (some x)).set 1 (some y)) H' R)
  (hf:∀ H',zx H H'→H' D=some (.lst (List.zipWith φ xs ys))→fin (List.zipWith φ xs ys) H') :
  yG (tM K a b) D (JT K 2 (jp (zX 0) (jp (zX 1) Jn))) qC te fin σ (upd H D (.lst [])):=by
 refine⟨fun i m zs σ' H'=>m=ys.length - i∧i≤ys.length∧(∀ x y,(σ'.set 0 x).set 1 y=(σ.set 0 x).set 1 y)∧zx H H'∧H' D=some (.lst zs)∧zs=List.zipWith φ (xs.take i) (ys.take i),⟨ys.length,by simp,Bo _,fun _ _=>rfl,zx.upd hD,zm,rfl⟩,fun i m zs σ H ⟨_,_,_,_,h,_⟩=>h,?_⟩
 rintro i m zs σ' H' ⟨rfl,hi,hσ,s,hd,rfl⟩
 by_cases hlt:i<ys.length
 ·have hx:=bO (show i<xs.length by omega)
  have hy:=bO hlt
  have tx:xs.take (i+1)=xs.take i++[xs[i]]:=by rw[BI,hx];rfl
  have ty:ys.take (i+1)=ys.take i++[ys[i]]:=by rw[BI,hy];rfl
  refine .inr ⟨⟨xs,ys,_,_,s.seq ha,s.seq hb,hx,hy⟩,fun zs' σ2 H2=>(∀ x y,(σ2.set 0 x).set 1 y=(σ.set 0 x).set 1 y)∧zx H H2∧H2 D=some (.lst zs')∧zs'=List.zipWith φ (xs.take (i+1)) (ys.take (i+1)),fun zs' σ2 H2 p=>⟨ys.length - (i+1),by omega,rfl,hlt,p⟩,fun v H'' hy'=>?_⟩
  obtain⟨c,x,y,e1,e2,e3,e4⟩:=hy'
  obtain⟨e5,e6⟩:=e4 xs ys (s.seq ha) (s.seq hb)
  subst e1 e3
  rw[hx] at e5
  rw[hy] at e6
  cases e5
  cases e6
  refine⟨c,_,rfl,qg.of zm,rfl,_,_,rfl,_,_,rfl,rfl,?_⟩
  have s2:zx H' (upd H' c (.tup [xs[i],ys[i]])):=zx.upd e2
  unfold qC
  dsimp only
  refine y8 ?_
  show te ((σ'.set 0 _).set 1 _) _ _
  rw[hσ]
  refine he i _ _ hx hy _ _ (s.trans s2) fun H3 s3=>⟨s3 _ _ (s2 _ _ hd),?_,?_,?_,zm,?_⟩
  ·rw[List.length_zipWith,Bh,Bh];omega
  ·intro x y
   rcases σ with _ | ⟨_,_ | ⟨_,_⟩⟩ <;> rfl
  ·intro b o z
   rw[zq (zF z hD)]
   exact s3 _ _ (s2 _ _ (s _ _ z))
  ·rw[tx,ty,List.zipWith_append (by rw[Bh,Bh];omega)]
   rfl
 ·have e:i=ys.length:=by omega
  subst e
  refine .inl ⟨⟨xs,ys,s.seq ha,s.seq hb,.inr (bK _)⟩,?_⟩
  have e3:List.zipWith φ (xs.take ys.length) ys=List.zipWith φ xs ys:=by
   apply ck
   intro j
   rw[List.getElem?_zipWith,List.getElem?_zipWith,List.getElem?_take]
   by_cases h:j<ys.length
   ·rw[if_pos h]
   ·rw[if_neg h,BG (l:=ys) (by omega)]
    cases xs[j]? <;> rfl
  rw[BD,e3] at hd ⊢
  exact hf H' s hd
end L2
namespace K14
open PySem PySem.NumText L2 Pg
seal PE PA PT PW PS jw PG um PI ud PO PK
section
variable {P:Program} {w:World} {K:PySem.W.Frag} {mg:Str→Option Value} {base:Heap} {f:Addr} {fd:FuncData} {d:Nat→Addr} {cR:Addr}
theorem OZ (F:qE K "rise" "rise" (top 39) f fd) (G:jF mg):zJ P w K mg base zO 1 f fd ["things"] (UR K):=by
 have nc:(["thing","after"]:List Str).Nodup:=by decide +kernel
 refine F.ok (N:=["things"]) ⟨rfl,rfl,rfl,by decide +kernel,rfl,by decide +kernel,by decide +kernel⟩ (fun vs H Q E h=>?_) (fun cdv A outer s H vs Q E hr h=>?_)
 ·obtain⟨l,zs,rfl,_⟩:=h
  rfl
 ·obtain⟨l,zs,rfl,hl,zl,up,q⟩:=h
  refine' ⟨_,zi (zp (zt (vh rfl) rfl G.all vV (za ?comp zd))),?main⟩
  case comp =>
   refine' qb (Nc:=["thing","after"]) (cl:=[]) (src:=[none,none]) (wi:=rz K (qf (zP 0) (qf (rV (Rp K) (zP 0) (YM (tC (.int 1))) Zh) q8))) (g:=JT K 2 (jp (zX 0) (jp (zX 1) Jn))) (tt:=qC) (te:=jB (Yw fun i j=>.bl (decide (i<j))) (zP 0) (zP 1))
    ⟨rfl,rfl,by decide +kernel,by decide +kernel,(fun x c z=>nomatch z),qu (by rfl),zQ (zQ qc),rfl⟩ rfl (nS rfl G.zip (za (pv 0) (za (jv uW (pv 0) (jm ze) uu) zd))) ?hb
   case hb =>
    intro fp C' s' H'
    exact⟨JF rfl (js (zS (i:=0) nc rfl (Or.inl rfl)) (js (zS (i:=1) nc rfl (Or.inl rfl)) Zd)),qi,qB YC (pv 0) (pv 1) (zD _)⟩
  refine⟨_,rfl,_,rfl,_,rfl,l,_,rfl,hl,fun p p0=>?_⟩
  have s1:zx H (upd H p (.lst (vm (zs.map V.int) (some 1) none))):=zx.upd p0
  have e1:(upd H p (.lst (vm (zs.map V.int) (some 1) none))) p=some (.lst (zs.tail.map V.int)):=by rw[zm,On]
  refine⟨l,p,rfl,⟨_,s1.seq hl⟩,⟨_,z5.of e1⟩,fun D hD=>Ge (s1.seq hl) (z5.of e1) hD (by rw[bM,CI,sizeLine_eq];omega) (by rw[bM,bM,CI];omega) (fun _ _=>V.bl true) (fun i x y hx hy H1 R s2 r=>?_) (fun H1 s2 e2=>?_)⟩
  ·rw[bR] at hx hy
   obtain⟨a,ha,rfl⟩:=bX.mp hx
   obtain⟨b,hb,rfl⟩:=bX.mp hy
   refine⟨_,rfl,_,rfl,a,b,rfl,rfl,?_⟩
   show R (V.bl (decide (a<b))) H1
   rw[decide_eq_true (NN up ha hb)]
   exact r H1 (zx.refl _)
  ·refine⟨D,List.replicate (zs.length - 1) true,rfl,z5.of ?_,?_⟩
   ·rw[e2,P7,bM,bM,CI,Cz (by omega)]
   ·rw[Pg.yY]
    exact q H1 (s1.trans s2)
theorem Ph (F:qE K "is_band" "is_band" (top 71) f fd) (G:jF mg) (C1:qH P w K mg base zO 3 "is_rule_amount" ["thing"] ZO) (C2:qH P w K mg base zO 3 "is_parts" ["thing"] uq):zJ P w K mg base zO 4 f fd ["thing"] Zw:=by
 refine F.ok (N:=["thing"]) ⟨rfl,rfl,rfl,by decide +kernel,rfl,by decide +kernel,by decide +kernel⟩ (fun vs H Q E h=>?_) (fun cdv A outer s H vs Q E hr h=>?_)
 ·obtain⟨a,p,rfl,_⟩:=h
  rfl
 ·obtain⟨a,p,rfl,ha,h1,h2,q⟩:=h
  refine⟨_,(zh (zT (PW.pt (vL (qD (qz (zt zG rfl G.isinstance zy (za (pv 0) (za (yg (v:=.ty "tuple") rfl G.tuple qX rfl) zd))))) (vt (zE XY (zt zR rfl G.len boot_len (za (pv 0) zd)) ze (zD _))))) (zi (zp yP)) zC)
    (zi (zp (yI (zj C1 hr (by decide) zu (za (zB zL (pv 0) ze) zd)) (yT (zj C2 hr (by decide) zu (za (zB zL (pv 0) ze) zd))))))),?_⟩
  refine⟨_,rfl,_,_,_,_,true,rfl,rfl,.inl (.tup ha),rfl,true,rfl,qN ⟨_,rfl,a,_,rfl,.inr (qg.of ha),rfl,_,rfl,qN ?_⟩⟩
  refine⟨_,rfl,a,_,_,_,rfl,rfl,qg.of ha,rfl,_,rfl,h1,true,rfl,y8 ⟨_,rfl,a,_,_,_,rfl,rfl,qg.of ha,rfl,_,rfl,h2.1,h2.2,q⟩⟩
theorem G1 (F:qE K "are_bands" "are_bands" (top 72) f fd) (G:jF mg) (N1:kF mg "MOST_BANDS" 12) (C1:qH P w K mg base zO 4 "is_band" ["thing"] Zw) (C2:qH P w K mg base zO 1 "rise" ["things"] (UR K)):zJ P w K mg base zO 5 f fd ["thing"] Yr:=by
 obtain⟨tk,em⟩:=N1
 have nd:(["thing","borders"]:List Str).Nodup:=by decide +kernel
 have nc:(["row"]:List Str).Nodup:=by decide +kernel
 refine F.ok (N:=["thing","borders"]) ⟨rfl,rfl,rfl,by decide +kernel,rfl,by decide +kernel,by decide +kernel⟩ (fun vs H Q E h=>?_) (fun cdv A outer s H vs Q E hr h=>?_)
 ·obtain⟨u,ps,rfl,_⟩:=h
  rfl
 ·obtain⟨u,ps,rfl,⟨ys,hu,T⟩,ok,q⟩:=h
  refine' ⟨_,(zh (zT (PW.pt (vL (qD (qz (zt zG rfl G.isinstance zy (za (pv 0) (za (yg (v:=.ty "tuple") rfl G.tuple qX rfl) zd))))) (vL (zE YC (zt zR rfl G.len boot_len (za (pv 0) zd)) ze (zD _)) (vt (zE jD (zt zR rfl G.len boot_len (za (pv 0) zd)) (zZ (v:=.int 12) rfl em ⟨tk,rfl⟩) (zD _)))))) (zi (zp yP)) zC)
    (zh (zT (qD (qz (zt (vh rfl) rfl G.all vV (za ?comp_2 zd)))) (zi (zp yP)) zC)
    (zh ?st_1
    (zi (zp (yI (qB qx (zB zK (pv 1) ze) ze (zD _)) (yT (zj C2 hr (by decide) zu (za (pv 1) zd))))))))),?main⟩
  case comp_2 =>
   refine' qb (Nc:=["row"]) (cl:=[]) (src:=[none]) (wi:=Z2 K (zP 0)) (g:=zX 0) (tt:=qC) (te:=fun σ H Q=>qf (zP 0) q8 σ H fun vs H1=>Zw vs H1 Q E0)
    ⟨rfl,rfl,by decide +kernel,by decide +kernel,(fun x c z=>nomatch z),qu (by rfl),zQ qc,rfl⟩ rfl (jY (pv 0)) ?hb
   case hb =>
    intro fp C' s' H'
    exact⟨zS (i:=0) nc rfl (Or.inl rfl),qi,zj C1 hr (by decide) zu (za (pv 0) zd)⟩
  case st_1 =>
   refine' wc (i:=1) (Nc:=["row"]) (cl:=[]) (src:=[none]) (wi:=Z2 K (zP 0)) (g:=zX 0) (tt:=qC) (te:=jB (kT K) (zP 0) (tC (.int 0))) nd rfl rfl
    ⟨rfl,rfl,by decide +kernel,by decide +kernel,(fun x c z=>nomatch z),qu (by rfl),zQ qc,rfl⟩ rfl (jY (pv 0)) ?hb
   case hb =>
    intro fp C' s' H'
    exact⟨zS (i:=0) nc rfl (Or.inl rfl),qi,zB zL (pv 0) ze⟩
  have few:=ok.few
  have yl:ys.length=ps.length:=by rw[T.len,bM]
  obtain⟨p0,r0,ep⟩:=ok.hd
  have ne:1≤ps.length:=by rw[ep];exact CG (Bo _)
  have hs:ps.length<sizeLine:=by rw[sizeLine_eq];omega
  refine⟨_,rfl,_,_,_,_,true,rfl,rfl,.inl (.tup hu),rfl,true,rfl,qN ⟨_,rfl,u,_,rfl,.inr (qg.of hu),_,_,rfl,rfl,_,rfl,yv (fun e=>?_) (fun _=>?_)⟩⟩
  ·have:=of_decide_eq_true e
   omega
  refine⟨_,rfl,u,_,rfl,.inr (qg.of hu),_,_,rfl,rfl,_,rfl,yv (fun e=>?_) (fun _=>?_)⟩
  ·have:=of_decide_eq_true e
   omega
  refine⟨_,rfl,u,rfl,⟨_,qg.of hu⟩,fun D hD=>jn (yS (qg.of hu)) (jM T) hD hs (fun _=>V.bl true) (fun p hp v H1 R s1 e1 r=>?_) (fun H1 s1 e1=>?_)⟩
  ·obtain⟨a,rfl,ha⟩:=e1
   exact⟨_,rfl,a,p,rfl,ha,(ok.ok p hp).1,(ok.ok p hp).2,r H1 (zx.refl _)⟩
  refine⟨D,List.replicate ps.length true,rfl,z5.of (by rw[e1,P8]),?_⟩
  rw[Pg.yY]
  refine⟨true,rfl,qN ⟨_,rfl,u,rfl,⟨_,qg.of (s1 _ _ hu)⟩,fun D2 hD2=>jn (yS (qg.of (s1 _ _ hu))) (jM (T.same s1)) hD2 hs (fun p=>V.int p.1) (fun p hp v H2 R s2 e2 r=>?_) (fun H2 s2 e2=>?_)⟩⟩
  ·obtain⟨a,rfl,ha⟩:=e2
   exact⟨_,rfl,a,_,_,_,rfl,rfl,qg.of ha,rfl,r H2 (zx.refl _)⟩
  have e2':H2 D2=some (.lst ((ps.map (·.1)).map V.int)):=by rw[e2,b6];rfl
  refine⟨_,rfl,D2,_,_,.int 0,rfl,rfl,z5.of e2',ZJ (by rw[ep];rfl),rfl,true,rfl,y8 ⟨_,rfl,D2,_,rfl,z5.of e2',by rw[bM];omega,?_,fun H3 s3=>q H3 (s1.trans (s2.trans s3))⟩⟩
  exact CJ.mpr ok.up
end
end K14
namespace K14
open PySem PySem.NumText L2 Pg
seal PE PA PT PW PS jw PG um PI ud PO PK
section
variable {P:Program} {w:World} {K:PySem.W.Frag} {mg:Str→Option Value} {base:Heap} {f:Addr} {fd:FuncData} {d:Nat→Addr} {cR:Addr}
theorem gx (F:qE K "__init__" "Rule.__init__" (zz (top 64) 0) f fd) (C1:qH P w K mg base zO 3 "is_rule_name" ["thing"] YY):zJ P w K mg base zO 4 f fd ["self","name"] (uh K):=by
 refine F.ok (N:=["self","name"]) ⟨rfl,rfl,rfl,by decide +kernel,rfl,by decide +kernel,by decide +kernel⟩ (fun vs H Q E h=>?_) (fun cdv A outer s H vs Q E hr h=>?_)
 ·obtain⟨i,o,dx,z,rfl,_⟩:=h
  rfl
 ·obtain⟨C,o,dx,z,rfl,cl,no,ho,hz,q⟩:=h
  refine⟨_,zh (zT (qD (qz (zj C1 hr (by decide) zu (za (pv 1) zd)))) qk zC) (zi (yA (pv 0) (pv 1) rfl)),?_⟩
  refine⟨_,rfl,z,rfl,hz,fun H1 s1=>⟨true,rfl,qN ⟨_,rfl,_,rfl,o,_,dx,[],rfl,s1 _ _ ho,cl,no,by decide,?_⟩⟩⟩
  rw[bI]
  exact q _ (fun b x hb ne=>by rw[zq ne];exact s1 _ _ hb) zm
theorem pO {C:Addr} (F:qE K "__init__" "Bands.__init__" (zz (top 73) 0) f fd) (G:jF mg) (RX:Qg K C) (CR:ZR P w K mg base zO 4 "Rule" "__init__" ["self","name"] (uh K)) (C1:qH P w K mg base zO 5 "are_bands" ["thing"] Yr) (C2:qH P w K mg base zO 1 "is_way" ["thing"] Ze):zJ P w K mg base zO 6 f fd ["self","name","rows","way"] (ZC C):=by
 have nc:(["row"]:List Str).Nodup:=by decide +kernel
 refine F.ok (N:=["self","name","rows","way"]) ⟨rfl,rfl,rfl,by decide +kernel,rfl,by decide +kernel,by decide +kernel⟩ (fun vs H Q E h=>?_) (fun cdv A outer s H vs Q E hr h=>?_)
 ·obtain⟨o,dx,n,u,ps,x,rfl,_⟩:=h
  rfl
 ·obtain⟨o,dx,n,u,ps,x,rfl,hn,ok,hw,bd,ho,q⟩:=h
  refine' ⟨_,zh (qv (ui CR hr (by decide) zu (za (pv 0) (za (pv 1) zd)))) (zh (zT (qD (qz (zj C1 hr (by decide) zu (za (pv 2) zd)))) qk zC) (zh (zT (qD (qz (zj C2 hr (by decide) zu (za (pv 3) zd)))) qk zC) (zh (yA (pv 0) (z7 yD rfl G.tuple qX (za ?comp zd)) rfl) (zi (yA (pv 0) (pv 3) rfl))))),?main⟩
  case comp =>
   refine' qb (Nc:=["row"]) (cl:=[]) (src:=[none]) (wi:=Z2 K (zP 2)) (g:=zX 0) (tt:=qC) (te:=Um (qf (jB (kT K) (zP 0) (tC (.int 0))) (qf (jB (kT K) (zP 0) (tC (.int 1))) q8)))
    ⟨rfl,rfl,by decide +kernel,by decide +kernel,(fun x c z=>nomatch z),qu (by rfl),zQ qc,rfl⟩ rfl (jY (pv 2)) ?hb
   case hb =>
    intro fp C' s' H'
    exact⟨zS (i:=0) nc rfl (Or.inl rfl),qi,qZ (za (zB zL (pv 0) ze) (za (zB zL (pv 0) ze) zd))⟩
  obtain⟨ys,hu,T⟩:=bd
  have few:=ok.few
  have uo:u≠o:=yp hu ho (by intro z;cases z)
  have nt:∀ c,H o≠some (.tup c):=fun c z=>by rw[ho] at z;cases z
  refine⟨_,rfl,_,rfl,C,o,dx,_,rfl,RX.cls,RX.no "name" (by decide),ho,hn,fun H1 f1 e1=>?_⟩
  have hu1:=f1 _ _ hu uo
  have T1:z4 H1 ys (ps.map cB):=T.mono fun b c h=>f1 _ _ h (yp h ho (by intro z;cases z))
  refine⟨_,rfl,u,ps,rfl,⟨ys,hu1,T1⟩,ok,fun H2 s2=>⟨true,rfl,qN ⟨_,rfl,x,rfl,hw,true,rfl,qN ?_⟩⟩⟩
  have hu2:=s2 _ _ hu1
  have T2:=T1.same s2
  refine⟨_,rfl,u,rfl,⟨_,qg.of hu2⟩,fun D hD=>uk (yS (qg.of hu2)) (jM T2) hD (by rw[sizeLine_eq];omega) cB (fun p hp v H3 R s3 e3 r=>?_) (fun zs H3 s3 e3 T3=>?_)⟩
  ·obtain⟨a,rfl,ha⟩:=e3
   exact⟨_,rfl,a,_,_,_,rfl,rfl,qg.of ha,rfl,_,rfl,a,_,_,_,rfl,rfl,qg.of ha,rfl,qa rfl,r⟩
  refine⟨D,zs,rfl,.inl ⟨z5.of e3,fun l l0=>?_⟩⟩
  have s4:zx H3 (upd H3 l (.tup zs)):=zx.upd l0
  have e4:(upd H3 l (.tup zs)) l=some (.tup zs):=zm
  generalize upd H3 l (.tup zs)=H4 at s4 e4
  have s24:=s2.trans (s3.trans s4)
  have eo:=s24 _ _ e1
  refine⟨_,rfl,o,_,dx,_,rfl,eo,RX.cls,RX.no "bands" (by decide),by show 1<1000;decide,?_⟩
  rw[NK _ _ _ (by decide +kernel)]
  refine⟨_,rfl,_,rfl,o,_,dx,_,rfl,zm,RX.cls,RX.no "way" (by decide),by show 2<1000;decide,?_⟩
  rw[RW _ _ _ _ _ (by decide +kernel) (by decide +kernel)]
  have lo:l≠o:=yp e4 eo (by intro z;cases z)
  have nt4:∀ c,H4 o≠some (.tup c):=fun c z=>by rw[eo] at z;cases z
  refine q _ l (fun b y hb ne=>by rw[zq ne,zq ne];exact s24 _ _ (f1 _ _ hb ne)) zm ⟨zs,by rw[zq lo,zq lo];exact e4,((T3.same s4).upd nt4).upd fun c z=>?_⟩
  rw[zm] at z
  cases z
set_option maxHeartbeats 4000000 in
theorem lQ {Cs:Nat→Addr} {d:Nat} (F:qE K "until" "Bands.until" (zz (top 73) 1) f fd) (G:jF mg) (RX:Qg K (Cs 4)) (C1:qH P w K mg base zO 3 "rounded" ["number","way"] JB):zJ P w K mg base zO 4 f fd ["self","bases"] (yW K d 4 Cs):=by
 have nd:(["self","bases","left","together","band"]:List Str).Nodup:=by decide +kernel
 refine F.ok (N:=["self","bases","left","together","band"]) ⟨rfl,rfl,rfl,by decide +kernel,rfl,by decide +kernel,by decide +kernel⟩ (fun vs H Q E h=>?_) (fun cdv A outer s H vs Q E hr h=>?_)
 ·obtain⟨v,r,b,bs,rfl,_⟩:=h
  rfl
 ·obtain⟨v,r,b,bs,rfl,hk,ro,gd,hb,bl,q⟩:=h
  cases gd with
  | pln p=>cases p <;> cases hk
  | ontop=>cases hk
  | @bands _ n x ps hn ok hw =>
   cases ro with
   | pln k _=>exact absurd k (by show ¬ (4:Nat)<4;decide)
   | @bands _ _ _ o dx u ho bd =>
    obtain⟨ys,hu,T⟩:=bd
    have yl:ys.length=ps.length:=by rw[T.len,bM]
    refine⟨_,zh (zI (i:=2) nd rfl (Or.inl rfl) (zt (yN rfl) rfl G.sum jt (za (pv 1) zd))) (zh (zI (i:=3) nd rfl (Or.inl rfl) ze) (zh (uI PassesOwn.never rfl (nH rfl G.reversed (za (zN (pv 0) rfl) zd)) (zS (i:=4) nd rfl (Or.inl rfl))
     (zi (zT (zE jD (pv 2) (zB zL (pv 4) ze) (zD _)) (zh (zI (i:=3) nd rfl (Or.inl rfl) (zw qj (pv 3) (zw qJ (zw ua (pv 2) (zB zL (pv 4) ze)) (zB zL (pv 4) ze)))) (zi (zI (i:=2) nd rfl (Or.inl rfl) (zB zL (pv 4) ze)))) zC)))
     (zi (zp (zj C1 hr (by decide) zu (za (pv 3) (za (zN (pv 0) rfl) zd))))))),?_⟩
    refine⟨_,rfl,b,bs,rfl,hb,_,rfl,o,_,dx,_,_,rfl,ho,RX.cls,RX.no "bands" (by decide),rfl,u,ys,rfl,qg.of hu,oP (fun i σ H'=>∃ x4,σ = [some (.ref o),some (.ref b),some (.int ((ps.drop (ps.length - i)).foldr Rt (bs.sum,0)).1),some (.int ((ps.drop (ps.length - i)).foldr Rt (bs.sum,0)).2),x4]∧H'=H) ?_ ?_ ?_ ?_⟩
    ·refine⟨none,?_,rfl⟩
     rw[cU,List.drop_length]
     rfl
    ·rintro i σ H' hi ⟨x4,rfl,rfl⟩
     exact qg.of hu
    ·rintro i y σ H' hi hy ⟨x4,rfl,rfl⟩ E2 k2 _
     rw[yl] at hi hy
     have hq:=bO (show ps.length - 1 - i<ps.length by omega)
     obtain⟨a,ea,ha⟩:=Y9 T hq
     rw[hy] at ea
     cases ea
     have dr:ps.drop (ps.length - (i+1))=ps[ps.length - 1 - i]::ps.drop (ps.length - i):=by
      rw[show ps.length - (i+1)=ps.length - 1 - i by omega,CQ (show ps.length - 1 - i<ps.length by omega),show ps.length - 1 - i+1=ps.length - i by omega]
     have pt:=(ok.ok _ (Bv hq)).2
     have p0:=pt.1
     have p1:=pt.2
     rw[dr,List.foldr_cons] at k2
     generalize ps[ps.length - 1 - i]=g at ha k2 p0 p1
     generalize (ps.drop (ps.length - i)).foldr Rt (bs.sum,0)=z at k2
     unfold Rt at k2
     refine⟨_,rfl,_,rfl,a,_,_,_,rfl,rfl,qg.of ha,rfl,_,_,rfl,rfl,_,rfl,yv (fun e=>?_) (fun e=>?_)⟩
     ·have e:=of_decide_eq_true e
      rw[if_pos e] at k2
      exact⟨_,rfl,_,rfl,_,rfl,a,_,_,_,rfl,rfl,qg.of ha,rfl,_,_,rfl,rfl,_,rfl,a,_,_,_,rfl,rfl,qg.of ha,rfl,_,_,rfl,rfl,.inr ⟨by omega,by omega⟩,_,_,rfl,rfl,_,rfl,a,_,_,_,rfl,rfl,qg.of ha,rfl,k2 _ _ ⟨_,rfl,rfl⟩⟩
     ·rw[if_neg fun c=>e (decide_eq_true c)] at k2
      exact k2 _ _ ⟨_,rfl,rfl⟩
    ·rintro σ H' ⟨x4,rfl,rfl⟩
     have e:=PR ok.up bs.sum
     rw[yl,cq,Cm,e]
     exact⟨_,rfl,_,rfl,o,_,dx,_,_,rfl,ho,RX.cls,RX.no "way" (by decide),rfl,_,_,rfl,hw,q _ (zx.refl _)⟩
theorem lx {Cs:Nat→Addr} {d:Nat} (F:qE K "row" "Bands.row" (zz (top 73) 2) f fd) (G:jF mg) (RX:Qg K (Cs 4)):zJ P w K mg base zO 1 f fd ["self"] (yH d 4 Cs):=by
 have nd:(["self","pairs"]:List Str).Nodup:=by decide +kernel
 have nc:(["band"]:List Str).Nodup:=by decide +kernel
 refine F.ok (N:=["self","pairs"]) ⟨rfl,rfl,rfl,by decide +kernel,rfl,by decide +kernel,by decide +kernel⟩ (fun vs H Q E h=>?_) (fun cdv A outer s H vs Q E hr h=>?_)
 ·obtain⟨v,r,rfl,_⟩:=h
  rfl
 ·obtain⟨v,r,rfl,hk,ro,gd,q⟩:=h
  cases gd with
  | pln p=>cases p <;> cases hk
  | ontop=>cases hk
  | @bands _ n x ps hn ok hw =>
   cases ro with
   | pln k _=>exact absurd k (by show ¬ (4:Nat)<4;decide)
   | @bands _ _ _ o dx u ho bd =>
    obtain⟨ys,hu,T⟩:=bd
    have few:=ok.few
    refine' ⟨_,zh (zI (i:=1) nd rfl (Or.inl rfl) (yE PySem.F.plainAttrs_str PySem.F.slot_str_join PySem.F.type_str_join yV zA (za ?comp zd))) (zi (zp (yE PySem.F.plainAttrs_str PySem.F.slot_str_join PySem.F.type_str_join yV zA (za (zY (za zA (za (zN (pv 0) rfl) (za (pv 1) (za (zN (pv 0) rfl) zd))))) zd)))),?main⟩
    case comp =>
     refine' qb (Nc:=["band"]) (cl:=[]) (src:=[none]) (wi:=Z2 K (OB K (zP 0) "bands")) (g:=zX 0) (tt:=qC) (te:=jB XC (jB XC (lY XM (qf (jB (kT K) (zP 0) (tC (.int 0))) q8)) (tC (.str ":"))) (lY XM (qf (jB (kT K) (zP 0) (tC (.int 1))) q8)))
      ⟨rfl,rfl,by decide +kernel,by decide +kernel,(fun x c z=>nomatch z),qu (by rfl),zQ qc,rfl⟩ rfl (jY (zN (pv 0) rfl)) ?hb
     case hb =>
      intro fp C' s' H'
      exact⟨zS (i:=0) nc rfl (Or.inl rfl),qi,zw qA (zw qA (z7 ql rfl G.str qG (za (zB zL (pv 0) ze) zd)) zA) (z7 ql rfl G.str qG (za (zB zL (pv 0) ze) zd))⟩
    refine⟨rfl,_,rfl,o,_,dx,_,_,rfl,ho,RX.cls,RX.no "bands" (by decide),rfl,u,rfl,⟨_,qg.of hu⟩,fun D hD=>jn (yS (qg.of hu)) (jM T) hD (by rw[sizeLine_eq];omega) (fun p=>.str (yq p)) (fun p hp v H1 R s1 e1 r=>?_) (fun H1 s1 e1=>?_)⟩
    ·obtain⟨a,rfl,ha⟩:=e1
     have hb:=ok.ok p hp
     have l1:=ub hb.1
     have l2:=j9 hb.2
     have l3:((toString p.1:Str) ++ ":").length=(toString p.1:Str).length+1:=Str.length_append ..
     exact⟨_,rfl,a,_,_,_,rfl,rfl,qg.of ha,rfl,_,rfl,kA hb.1,_,_,rfl,rfl,by rw[sizeLine_eq];show (toString p.1:Str).length+1≤_;omega,_,rfl,a,_,_,_,rfl,rfl,qg.of ha,rfl,_,rfl,uG hb.2,_,_,rfl,rfl,by rw[l3,sizeLine_eq];omega,r H1 (zx.refl _)⟩
    ·have jb:=jS ok
     have jr:=Vm hn ok hw
     have ho1:=s1 _ _ ho
     refine⟨_,ps.map yq,D,rfl,rfl,z5.of (by rw[e1,b6];rfl),jb.1,rfl,_,rfl,o,_,dx,_,_,rfl,ho1,RX.cls,RX.no "name" (by decide),rfl,_,rfl,_,rfl,o,_,dx,_,_,rfl,ho1,RX.cls,RX.no "way" (by decide),rfl,qa rfl,fun l H2 s2 n2 e2=>⟨_,["bands",n,jZ ps,x],l,rfl,rfl,z5.of e2,jr,q H2 (s1.trans s2)⟩⟩
theorem uv {Cs:Nat→Addr} {k d j:Nat} (F:qE K "of_month" "Rule.of_month" (zz (top 64) 5) f fd) (M:qO P w K mg base zO j (Cs k) "until" ["self","bases"] (yW K d k Cs)):zJ P w K mg base zO (j+1) f fd ["self","bases"] (JK K d k Cs):=by
 refine F.ok (N:=["self","bases"]) ⟨rfl,rfl,rfl,by decide +kernel,rfl,by decide +kernel,by decide +kernel⟩ (fun vs H Q E h=>?_) (fun cdv A outer s H vs Q E hr h=>?_)
 ·obtain⟨v,r,b,bs,rfl,_⟩:=h
  rfl
 ·obtain⟨v,r,b,bs,rfl,hk,ro,gd,hb,bl,q⟩:=h
  obtain⟨o,dx,fs,rfl,ho,_,no⟩:=ro.obj gd
  have no:=no "until" (by decide)
  rw[hk] at ho
  refine⟨_,zi (zp (zw ua (vk M hr (bK _) zu (pv 0) (za (pv 1) zd)) (vk M hr (bK _) zu (pv 0) (za (jv uW (pv 1) uu (jm (uD j0 ze))) zd)))),?_⟩
  refine⟨_,rfl,o,dx,_,rfl,ho,no,_,rfl,_,r,b,bs,rfl,hk,ro,gd,hb,bl,fun H1 s1=>?_⟩
  refine⟨_,rfl,o,dx,_,rfl,s1 _ _ ho,no,_,rfl,_,rfl,_,rfl,b,_,rfl,s1.seq hb,fun p p0=>?_⟩
  have s2:zx H1 (upd H1 p (.lst (vm (bs.map V.int) none (some (-1))))):=zx.upd p0
  refine⟨_,r,p,dl bs,rfl,hk,(ro.same s1).same s2,gd,z5.of (by rw[← Op];exact zm),Bj (OJ bs) bl,fun H2 s3=>⟨_,_,rfl,rfl,q H2 (s1.trans (s2.trans s3))⟩⟩
end
end K14
set_option maxHeartbeats 1000000
namespace L2
open PySem PySem.Spec PyProof.Rows PySem.W
section
variable {X:Cx} {A:Around} {E:Value→Shared→Prop} {pins:List (Addr × Obj)} {σ:St} {H:Hp} {s:Shared} {a kS:Addr} {e e1:Nat} {keys:Array Value} {vs:List Value} {m:Nat→Int} {nm:Nat→Str} {P:PySem.Fin→Shared→Prop}
end
section
variable {X:Cx} {p:Str} {scope:Scope} {c P:Addr} {params:Arguments} {body a:Expr} {pos lpos kpos p1:Pos} {ta te:TE}
end
end L2
namespace L2
open PySem PySem.Spec PyProof.Rows
end L2
namespace Pg
open PySem L2
def less (prs:List (Str × Int)):List (Str × Int):=prs.map fun p=>(p.1,-p.2)
def bb (a b:Str):Bool:=decide (¬ b.cps.toList<a.cps.toList)
def Ty (ks:List Str):List Str:=ks.mergeSort bb
theorem nq {a b:Str} (h1:¬ b.cps.toList<a.cps.toList) (h2:¬ a.cps.toList<b.cps.toList):a=b:=by
 have e:a.cps.toList=b.cps.toList:=List.le_antisymm h1 h2
 cases a
 cases b
 exact congrArg Str.mk (cX.mp e)
def lq:Str:=("differences":Str) ++ ".<locals>." ++ "<lambda>"
section
variable {α:Type} {H:Hp} {ys zs:List V} {xs us:List α} {P:Hp→V→α→Prop}
end
end Pg
namespace L2
open PySem PySem.Spec PyProof.Rows
def FT (H H':Hp):Prop:=∀ b c,H b=some (.tup c)→H' b=some (.tup c)
theorem FT.same {H H':Hp} (s:zx H H'):FT H H':=fun _ _ h=>s _ _ h
def Up {α:Type} (P:Hp→V→α→Prop):Prop:=∀ H H' v x,FT H H'→P H v x→P H' v x
section
variable {α β:Type} {J:It} {D:Addr} {tt:TT} {te:TE} {fin:List V→Hp→Prop} {σ:St} {H H':Hp} {ys zs:List V} {xs:List α} {P:Hp→V→α→Prop} {K:PySem.W.Frag}
theorem o2 {P2:Hp→V→V→α→Prop} (W:wq J H ys) (T:qP H ys xs P) (hP2:∀ H v x,P H v x→∃ a u1 u2,v = .ref a∧H a=some (.tup [u1,u2])∧P2 H u1 u2 x) (hD:H D=none) (hz:xs.length<sizeLine) (φ:α→V)
  (he:∀ x∈xs,∀ u1 u2 H' R,zx H H'→P2 H' u1 u2 x→(∀ H'',zx H' H''→R (φ x) H'')→te ((σ.set 0 (some u1)).set 1 (some u2)) H' R)
  (hf:∀ H',zx H H'→H' D=some (.lst (xs.map φ))→fin (xs.map φ) H'):yG J D (JT K 2 (jp (zX 0) (jp (zX 1) Jn))) qC te fin σ (upd H D (.lst [])):=by
 refine yL W hD (fun i zs H'=>zs=(xs.take i).map φ) (fun σ'=>∀ x y,(σ'.set 0 x).set 1 y=(σ.set 0 x).set 1 y) (fun _ _=>rfl) rfl ?_ ?_
 ·rintro i y zs σ' H' hy hσ s hd hl rfl
  obtain⟨x,hx,hP⟩:=T.at_ i y hy
  obtain⟨b,u1,u2,rfl,h2,h3⟩:=hP2 _ _ _ (hP _ s)
  have tk:xs.take (i+1)=xs.take i++[x]:=by rw[BI,hx];rfl
  have hi:i<xs.length:=(bU.mp hx).1
  refine⟨b,_,rfl,qg.of h2,rfl,_,_,rfl,_,_,rfl,rfl,G4 ?_⟩
  rw[hσ]
  have hσ2:∀ x y,((((σ.set 0 (some u1)).set 1 (some u2)).set 0 x).set 1 y)=(σ.set 0 x).set 1 y:=fun x y=>by
   rcases σ with _ | ⟨_,_ | ⟨_,_⟩⟩ <;> rfl
  refine he x (Bv hx) u1 u2 _ _ s h3 fun H3 s3=>⟨s3 _ _ hd,by omega,hσ2,fun b o z=>?_,zm,?_,?_⟩
  ·rw[zq (zF z hD)]
   exact s3 _ _ (s _ _ z)
  ·rw[bP,Bu];omega
  ·rw[tk,Bc];rfl
 ·rintro zs H' s hd hl rfl
  rw[T.len,BD] at hd ⊢
  exact hf H' s hd
end
end L2
namespace Pg
open PySem L2
inductive En where
 | wage (p:Str) (m r a:Int)
 | extra (p:Str) (m a:Int)
def cE:En→List V
 | .wage p m r a=>[.str "wage",.str p,.int m,.int r,.int a]
 | .extra p m a=>[.str "extra",.str p,.int m,.int a]
structure Pt where
 d:Int
 k:Str
 t:Option En
def tP (l:List Str):List Str:=l.foldr (fun x r=>if x∈r then r else x::r) []
def RO (z:Str) (ps:List Pt):List (Int × Option En):=(ps.filter fun p=>decide (p.k=z)).map fun p=>(p.d,p.t)
def bF (l:List (Int × Option En)) (D:Int):Option En:=(l.reverse.find? fun q=>decide (q.1≤D)).bind (·.2)
def bA (ps:List Pt):List Str:=Ty (tP (ps.map (·.k)))
def kn (ps:List Pt) (D:Int):List (Str × En):=(bA ps).filterMap fun z=>(bF (RO z ps) D).map fun e=>(z,e)
def own (J t:Addr) (ms:List (Str × Addr)):List Addr:=J::t::ms.map (·.2)
def dE (e:En):Dt:=.t ((cE e).map Dt.v)
def bG (q:Str × En):Dt:=.t [.v (.str q.1),dE q.2]
inductive Fd where
 | k (ks:List (Str × En))
 | n (ss:List Str)
def Fd.dt:Fd→List Dt
 | .k ks=>ks.map bG
 | .n ss=>ss.map fun z=>.v (.str z)
section
variable {C:Addr} {H H':Hp} {J dx t:Addr} {ms:List (Str × Addr)} {ld:Int} {ps:List Pt}
end
theorem v5 {H H':Hp} {l:Addr} (s:zx H H') (h:H' l=none):H l=none:=by
 cases e:H l with
 | none=>rfl
 | some o=>rw[s _ _ e] at h;cases h
def N6 (K:PySem.W.Frag):List V→Hp→VK→Prop:=fun xs H Q=>∃ p ys,xs=[.ref p]∧(z5 K H p ys∨qg K H p ys)∧Q (.int ys.length) H
structure Gq (ps:List (Int × Int)) (n:Nat):Prop where
 few:ps.length≤n+1
 hd:∃ p r,ps=((0:Int),p)::r
 ok:∀ q∈ps,JY q.1∧YZ q.2
 up:Up ps
theorem Gq.done {ps:List (Int × Int)} {n:Nat} (h:Gq ps n) (hn:n≤11):Z1 ps:=⟨by have:=h.few;omega,h.hd,h.ok,h.up⟩
theorem Gq.one {p:Int} (h:YZ p):Gq [((0:Int),p)] 0:=⟨bK _,⟨p,[],rfl⟩,fun q hq=>by
 rw[Bf.mp hq]
 exact⟨⟨BC _,by show (0:Int)≤1000000000000;decide⟩,h⟩,Cf _ _⟩
theorem Gq.mono {ps:List (Int × Int)} {n:Nat} (h:Gq ps n):Gq ps (n+1):=⟨Nat.le_succ_of_le h.few,h.hd,h.ok,h.up⟩
theorem Gq.last {ps:List (Int × Int)} {n:Nat} (h:Gq ps n):∃ qs q,ps=qs++[q]:=by
 obtain⟨p,r,e⟩:=h.hd
 refine⟨ps.dropLast,ps.getLast (by rw[e];exact cr _ _),(cQ _).symm⟩
theorem mQ {qs:List (Int × Int)} {q:Int × Int} (h:Up (qs++[q])):∀ x∈qs++[q],x.1≤q.1:=fun x hx=>by
 rcases Bt.mp hx with hx | hx
 ·exact Int.le_of_lt ((cT.mp h).2.2 x hx q (Bf.mpr rfl))
 ·rw[Bf.mp hx]
  exact BC _
theorem Gq.snoc {qs:List (Int × Int)} {q:Int × Int} {n:Nat} {s p:Int} (h:Gq (qs++[q]) n) (s1:1≤s) (b:q.1+s≤1000000000000) (hp:YZ p):Gq (qs++[q]++[(q.1+s,p)]) (n+1):=by
 refine⟨?_,?_,fun x hx=>?_,?_⟩
 ·have:=h.few
  rw[bP,Bu]
  omega
 ·obtain⟨p0,r,e⟩:=h.hd
  exact⟨p0,r++[(q.1+s,p)],by rw[e];rfl⟩
 ·rcases Bt.mp hx with hx | hx
  ·exact h.ok x hx
  ·rw[Bf.mp hx]
   have:=(h.ok q (Bz _ (Bf.mpr rfl))).1.1
   exact⟨⟨by show 0≤q.1+s;omega,b⟩,hp⟩
 ·refine cT.mpr ⟨h.up,Cf _ _,fun x hx y hy=>?_⟩
  rw[Bf.mp hy]
  have:=mQ h.up x hx
  show x.1<q.1+s
  omega
theorem p7 {H:Hp} {ys:List V} {qs:List (Int × Int)} {q:Int × Int} (T:z4 H ys ((qs++[q]).map cB)):∃ a,atI ys (-1)=some (.ref a)∧H a=some (.tup (cB q)):=by
 have yl:ys.length=qs.length+1:=by rw[T.len,bM,bP,Bu]
 obtain⟨a,e,h⟩:=Y9 T (i:=qs.length) (q:=q) (by rw[bY (bK _),cq];rfl)
 have ne:ys≠[]:=fun z=>by rw[z] at yl;cases yl
 refine⟨a,?_,h⟩
 have e2:=cQ ne
 rw[← e2,Ue,List.getLast_eq_getElem]
 rw[bO (by omega)] at e
 have e3:=Option.some.inj e
 rw[← e3]
 congr 2
 omega
theorem LA {a b c d e:V} {i:Int} (h0:0≤i) (h1:i<5):∃ v,atI [a,b,c,d,e] i=some v∧(i=0∧v=a∨i=1∧v=b∨i=2∧v=c∨i=3∧v=d∨i=4∧v=e):=by
 obtain⟨n,rfl⟩:=BP h0
 match n,h1 with
 | 0,_=>exact⟨a,qV rfl,.inl ⟨rfl,rfl⟩⟩
 | 1,_=>exact⟨b,qV rfl,.inr (.inl ⟨rfl,rfl⟩)⟩
 | 2,_=>exact⟨c,qV rfl,.inr (.inr (.inl ⟨rfl,rfl⟩))⟩
 | 3,_=>exact⟨d,qV rfl,.inr (.inr (.inr (.inl ⟨rfl,rfl⟩)))⟩
 | 4,_=>exact⟨e,qV rfl,.inr (.inr (.inr (.inr ⟨rfl,rfl⟩)))⟩
 | k+5,h=>exact absurd h (by omega)
theorem Re:("bands":Str)≠"flat":=by decide +kernel
theorem rZ:("bands":Str)≠"share":=by decide +kernel
theorem NY:("bands":Str)≠"capped":=by decide +kernel
theorem NV:("bands":Str)≠"least":=by decide +kernel
theorem Te:("ontop":Str)≠"flat":=by decide +kernel
theorem TL:("ontop":Str)≠"share":=by decide +kernel
theorem Tv:("ontop":Str)≠"capped":=by decide +kernel
theorem TC:("ontop":Str)≠"least":=by decide +kernel
theorem RE:("ontop":Str)≠"bands":=by decide +kernel
theorem UW (n b w:Str):("bands ":Str)++n ++ " " ++ b ++ " " ++ w=Txt.join " " ["bands",n,b,w]:=by
 rw[show ([("bands":Str),n,b,w]:List Str)=[("bands":Str),n,b]++[w] from rfl,jL " " w (cr _ _),show ([("bands":Str),n,b]:List Str)=[("bands":Str),n]++[b] from rfl,jL " " b (cr _ _),show ([("bands":Str),n]:List Str)=[("bands":Str)]++[n] from rfl,jL " " n (cr _ _),Vy]
 rw[show (("bands ":Str)) = "bands" ++ " " by decide +kernel]
theorem Zx (n p w r:Str):Txt.join " " ["ontop",n,p,w] ++ " of " ++ r=Txt.join " " ["ontop",n,p,w,"of",r]:=by
 rw[show ([("ontop":Str),n,p,w,"of",r]:List Str)=[("ontop":Str),n,p,w,"of"]++[r] from rfl,jL " " r (cr _ _),show ([("ontop":Str),n,p,w,"of"]:List Str)=[("ontop":Str),n,p,w]++[("of":Str)] from rfl,jL " " "of" (cr _ _)]
 rw[Str.append_assoc,Str.append_assoc,Str.append_assoc,show (" of ":Str) = " " ++ ("of" ++ " ") by decide +kernel,Str.append_assoc,Str.append_assoc,Str.append_assoc]
theorem Zu {d:Nat} {r:Rk} (h:Gd d r):(j6 r).length≤1016+200*d:=by
 induction h with
 | @pln d r h =>
  rw[ZA h]
  have:=(yc (sep:=" ") (m:=20) (k:=5) (VL h) (by cases h <;> exact b8 rfl) (by decide +kernel) rfl).2
  unfold xY
  omega
 | @bands d n w ps h1 h2 h3 =>
  have:=(yc (sep:=" ") (zs:=["bands",n,jZ ps,w]) (m:=252) (k:=4) (fun z hz=>?_) (bK _) (by decide +kernel) rfl).2
  ·show (Txt.join " " ["bands",n,jZ ps,w]).length≤_
   omega
  ·have k1:=h1.ok.hi
   have k2:=(jS h2).2
   have k3:=uj h3
   simp only[bN,bS,or_false] at hz
   rcases hz with rfl | rfl | rfl | rfl
   ·decide +kernel
   ·omega
   ·omega
   ·omega
 | @ontop d n w p r h1 h2 h3 _ ih =>
  show (Txt.join " " ["ontop",n,toString p,w,"of",j6 r]).length≤_
  rw[← Zx,Str.length_append,Str.length_append]
  have k:=(yc (sep:=" ") (zs:=["ontop",n,toString p,w]) (m:=8) (k:=4) (fun z hz=>?_) (bK _) (by decide +kernel) rfl).2
  ·have:(" of ":Str).length=4:=by decide +kernel
   omega
  ·have k1:=h1.ok.hi
   have k2:=j9 h2
   have k3:=uj h3
   simp only[bN,bS,or_false] at hz
   rcases hz with rfl | rfl | rfl | rfl
   ·decide +kernel
   ·omega
   ·omega
   ·omega
end Pg
namespace L2
open PySem PySem.Spec PyProof.Rows
def wH (H H':Hp):Prop:=∀ b o,H b=some o→(∀ xs,o≠.lst xs)→H' b=some o
theorem Oi {H:Hp} {D:Addr} {xs ys:List V} (h:H D=some (.lst xs)):wH H (upd H D (.lst ys)):=fun b o e n=>by
 rw[zq fun z=>?_]
 ·exact e
 ·subst z
  rw[h] at e
  cases e
  exact n _ rfl
structure xz {α:Type} (H:Hp) (zs:List V) (xs:List α) (S:Hp→V→α→Prop):Prop where
 len:zs.length=xs.length
 at_:∀ (i:Nat) (x:α),xs[i]? = some x→∃ u,zs[i]? = some u∧S H u x
section
variable {J:It} {D:Addr} {te:TE} {fin:List V→Hp→Prop} {σ:St} {H:Hp} {ys:List V} {α:Type} {xs:List α} {P:Hp→V→α→Prop}
theorem ZU (W:wq J H ys) (T:qP H ys xs P) (hD:H D=none) (hz:xs.length<sizeLine) (S:Hp→V→α→Prop) (mono:∀ {H H':Hp} {v:V} {x:α},wH H H'→S H v x→S H' v x)
  (he:∀ (i:Nat) x,xs[i]? = some x→∀ v H' R,zx H H'→P H' v x→(∀ u H'',zx H' H''→S H'' u x→R u H'')→te (σ.set 0 (some v)) H' R)
  (hf:∀ zs H',zx H H'→H' D=some (.lst zs)→xz H' zs xs S→fin zs H'):yG J D (zX 0) qC te fin σ (upd H D (.lst [])):=by
 refine yL W hD (fun i zs H'=>xz H' zs (xs.take i) S) (fun σ'=>∀ x,σ'.set 0 (some x) = σ.set 0 (some x)) (fun _=>rfl) ⟨rfl,fun i x h=>by cases h⟩ ?_ ?_
 ·rintro i y zs σ' H' hy hσ s hd hl G
  obtain⟨x,hx,hP⟩:=T.at_ i y hy
  have tk:xs.take (i+1)=xs.take i++[x]:=by rw[BI,hx];rfl
  have hi:i<xs.length:=(bU.mp hx).1
  have zl:zs.length=i:=by rw[G.len,Bh];omega
  have hσ2:∀ z,(σ'.set 0 (some y)).set 0 (some z) = σ.set 0 (some z):=fun z=>by rw[cn];exact hσ z
  unfold YG zX
  dsimp only
  refine G4 ?_
  rw[hσ y] at hσ2 ⊢
  refine he i x hx y _ _ s (hP _ s) fun u H3 s3 hu=>⟨s3 _ _ hd,by omega,hσ2,fun b o z=>?_,zm,?_,?_⟩
  ·rw[zq (zF z hD)]
   exact s3 _ _ (s _ _ z)
  ·rw[bP,Bu];omega
  ·have kp:=Oi (ys:=zs++[u]) (s3 _ _ hd)
   refine⟨by rw[tk,bP,bP,G.len];rfl,fun j w hw=>?_⟩
   rw[tk] at hw
   by_cases hj:j<(xs.take i).length
   ·rw[Bl hj] at hw
    obtain⟨u',h1,h2⟩:=G.at_ j w hw
    exact⟨u',by rw[Bl (by rw[G.len];exact hj)];exact h1,mono (fun b o e n=>kp b o (s3 _ _ e) n) h2⟩
   ·have hj:=BL hj
    rw[bY hj] at hw
    have e0:j - (xs.take i).length=0:=by
     cases q:j - (xs.take i).length with
     | zero=>rfl
     | succ n=>rw[q] at hw;cases hw
    rw[e0] at hw
    cases hw
    refine⟨u,?_,mono kp hu⟩
    rw[bY (by rw[G.len];exact hj),G.len,e0]
    rfl
 ·rintro zs H' s hd hl G
  rw[T.len,BD] at G
  exact hf zs H' s hd G
end
end L2
namespace Pg
open PySem L2
theorem z4.keep {H H':Hp} {ys:List V} {cs:List (List V)} (k:wH H H') (T:z4 H ys cs):z4 H' ys cs:=T.mono fun b c h=>k b _ h fun xs z=>by cases z
theorem jW.keep {H H':Hp} {u:Addr} {ps:List (Int × Int)} (k:wH H H') (h:jW H u ps):jW H' u ps:=by
 obtain⟨ys,e,t⟩:=h
 exact⟨ys,k _ _ e (fun xs z=>nomatch z),z4.keep k t⟩
theorem Zg.keep {H H':Hp} {r:Rk} {v:V} (k:wH H H') (h:Zg H r v):Zg H' r v:=by
 induction h with
 | pln e h =>
  obtain⟨t,rfl,h⟩:=h
  exact .pln e ⟨t,rfl,k _ _ h fun xs z=>by cases z⟩
 | bands h b=>exact .bands (k _ _ h fun xs z=>by cases z) (b.keep k)
 | ontop h _ ih=>exact .ontop (k _ _ h fun xs z=>by cases z) ih
theorem ug.keep {Cs:Nat→Addr} {H H':Hp} {r:Rk} {v:V} (k:wH H H') (h:ug Cs H r v):ug Cs H' r v:=by
 induction h with
 | pln e h =>
  obtain⟨t,dx,rfl,h⟩:=h
  exact .pln e ⟨t,dx,rfl,k _ _ h fun xs z=>by cases z⟩
 | bands h b=>exact .bands (k _ _ h fun xs z=>by cases z) (b.keep k)
 | ontop h _ ih=>exact .ontop (k _ _ h fun xs z=>by cases z) ih
theorem RY {x:V} {c:Int} (mv:x∈[V.int 0,.int 1,.int 2,.int 3,.int 5,.int 12,.int 12,.int (c/56%13)]) (f0:0≤c/56%13) (f1:c/56%13<13):∃ n:Nat,x = .int (n:Nat)∧n≤50:=by
 simp only[bN,bS,or_false] at mv
 rcases mv with rfl | rfl | rfl | rfl | rfl | rfl | rfl | rfl
 ·exact⟨0,rfl,by decide⟩
 ·exact⟨1,rfl,by decide⟩
 ·exact⟨2,rfl,by decide⟩
 ·exact⟨3,rfl,by decide⟩
 ·exact⟨5,rfl,by decide⟩
 ·exact⟨12,rfl,by decide⟩
 ·exact⟨12,rfl,by decide⟩
 ·obtain⟨k,hk⟩:=BP f0
  exact⟨k,by rw[hk],by omega⟩
theorem rc {p:Str→Prop} (h1:p "name") (h2:p "bands") (h3:p "way") (h4:p "parts") (h5:p "within"):∀ x∈(["name","bands","way","parts","within"]:List Str),p x:=by
 intro x hx
 simp only[bN,bS,or_false] at hx
 rcases hx with rfl | rfl | rfl | rfl | rfl <;> assumption
end Pg
namespace L2
open PySem
section
variable {P:Program} {w:World} {K:PySem.W.Frag} {mg:Str→Option Value} {base:Heap} {CX:wf} {j k:Nat} {C:Addr} {x m:Str} {ps:List Str} {sp sp':Sp}
theorem qO.mono (M:qO P w K mg base CX j C m ps sp) (h:j≤k):qO P w K mg base CX k C m ps sp:=by
 obtain⟨c,f,fd,a,b,F⟩:=M
 exact⟨c,f,fd,a,b,F.mono h⟩
theorem qO.imp (M:qO P w K mg base CX k C m ps sp) (h:∀ vs H Q E,sp' vs H Q E→sp vs H Q E):qO P w K mg base CX k C m ps sp':=by
 obtain⟨c,f,fd,a,b,F⟩:=M
 exact⟨c,f,fd,a,b,F.imp h⟩
theorem ZR.imp (M:ZR P w K mg base CX k x m ps sp) (h:∀ vs H Q E,sp' vs H Q E→sp vs H Q E):ZR P w K mg base CX k x m ps sp':=by
 obtain⟨C,f,fd,a,b,c,F⟩:=M
 exact⟨C,f,fd,a,b,c,F.imp h⟩
theorem qH.mono (M:qH P w K mg base CX j x ps sp) (h:j≤k):qH P w K mg base CX k x ps sp:=by
 obtain⟨f,fd,a,b,c,F⟩:=M
 exact⟨f,fd,a,b,c,F.mono h⟩
end
end L2
namespace Pg
open PySem L2
def rW:Rk→Int
 | .ontop _ _ _ r=>rW r+1
 | _=>0
theorem NC {d:Nat} {r:Rk} (h:Gd d r):rW r≤d:=by
 induction h with
 | pln h=>cases h <;> exact cJ _
 | bands=>exact cJ _
 | ontop _ _ _ _ ih =>
  show rW _+1≤_
  omega
theorem Oq {r:Rk} (h:r.kd<5):rW r=0:=by
 cases r with
 | ontop=>exact absurd h (CH (b8 rfl))
 | _=>rfl
structure Rf (K:PySem.W.Frag) (Cs:Nat→Addr) (cR:Addr):Prop where
 ha:∀ i,i<6→PySem.W.findIn K (.ref (Cs i)) "__class__" = some (some (.builtin "object.__class__"))
 hn:PySem.W.specialIn K (.builtin "object.__class__") "__get__" = some (some (.builtin "getset_descriptor.__get__"))
 htk:PySem.W.takesIn K (.builtin "object.__class__")=some true
 hm:∀ i,i<6→PySem.W.mroIn K (Cs i) (.type "object")=some true
 kt:∀ i,i<6→PySem.W.kitOne K (.ref (Cs i)) (.ref cR)=some true
 cls:∀ i,i<6→uT K (Cs i)
 ne:Cs 1≠Cs 5
theorem Mw (r:Rk):r.kd<6:=by cases r <;> exact b8 rfl
theorem Gd.pl {d:Nat} {r:Rk} (h:Gd d r) (k:r.kd<4):Vr r:=by
 cases h with
 | pln p=>exact p
 | bands=>exact absurd k (by show ¬ (4:Nat)<4;decide)
 | ontop=>exact absurd k (by show ¬ (5:Nat)<4;decide)
theorem ug.pl {Cs:Nat→Addr} {H:Hp} {r:Rk} {v:V} (h:ug Cs H r v) (k:r.kd<4):xx Cs H v r:=by
 cases h with
 | pln _ p=>exact p
 | bands=>exact absurd k (by show ¬ (4:Nat)<4;decide)
 | ontop=>exact absurd k (by show ¬ (5:Nat)<4;decide)
theorem ug.frame {Cs:Nat→Addr} {H H':Hp} {r:Rk} {v:V} {o C dx:Addr} {d:Nat} (h:ug Cs H r v) (g:Gd d r) (ho:H o=some (.ins C dx [])) (fr:∀ b y,H b=some y→b≠o→H' b=some y):ug Cs H' r v:=by
 induction h generalizing d with
 | pln k h =>
  obtain⟨t,dy,rfl,h⟩:=h
  refine .pln k ⟨t,dy,rfl,fr _ _ h fun e=>?_⟩
  subst e
  rw[h] at ho
  cases g.pl k <;> exact nomatch ho
 | bands h b =>
  obtain⟨ys,hu,T⟩:=b
  have nt:∀ b c,H b=some (.tup c)→H' b=some (.tup c):=fun b c h=>fr _ _ h (yp h ho (by intro z;cases z))
  exact .bands (fr _ _ h fun e=>by subst e;rw[h] at ho;cases ho) ⟨ys,nt _ _ hu,T.mono nt⟩
 | ontop h _ ih =>
  cases g with
  | pln p=>cases p
  | ontop _ _ _ g=>exact .ontop (fr _ _ h fun e=>by subst e;rw[h] at ho;cases ho) (ih g)
theorem ug.frame3 {Cs:Nat→Addr} {H H':Hp} {r:Rk} {v:V} {o dx:Addr} {d:Nat} {n w:Str} {p:Int} (ne:Cs 1≠Cs 5) (h:ug Cs H r v) (g:Gd d r) (ho:H o=some (.ins (Cs 5) dx [("name",.str n),("parts",.int p),("way",.str w)])) (fr:∀ b y,H b=some y→b≠o→H' b=some y):ug Cs H' r v:=by
 induction h generalizing d with
 | pln k h =>
  obtain⟨t,dy,rfl,h⟩:=h
  refine .pln k ⟨t,dy,rfl,fr _ _ h fun e=>?_⟩
  subst e
  rw[h] at ho
  have ho:=Option.some.inj ho
  cases g.pl k with
  | flat=>exact nomatch (HO.ins.inj ho).2.2
  | share=>exact ne (HO.ins.inj ho).1
  | capped=>exact nomatch (HO.ins.inj ho).2.2
  | least=>exact nomatch (HO.ins.inj ho).2.2
 | bands h b =>
  obtain⟨ys,hu,T⟩:=b
  have nt:∀ b c,H b=some (.tup c)→H' b=some (.tup c):=fun b c h=>fr _ _ h (yp h ho (by intro z;cases z))
  refine .bands (fr _ _ h fun e=>?_) ⟨ys,nt _ _ hu,T.mono nt⟩
  subst e
  rw[h] at ho
  have k:=(HO.ins.inj (Option.some.inj ho)).2.2
  have k2:=congrArg (fun l=>(l.map Prod.fst)[1]?) k
  exact absurd (show ("bands":Str) = "parts" from Option.some.inj k2) (by decide +kernel)
 | ontop h _ ih =>
  cases g with
  | pln p=>cases p
  | ontop _ _ _ g =>
   refine .ontop (fr _ _ h fun e=>?_) (ih g)
   subst e
   rw[h] at ho
   exact nomatch (HO.ins.inj (Option.some.inj ho)).2.2
def yo (d k:Nat) (Cs:Nat→Addr):Sp:=fun vs H Q _=>∃ v r,vs=[v]∧r.kd=k∧ug Cs H r v∧Gd d r∧Q (.int (rW r)) H
def qU (d k:Nat) (Cs:Nat→Addr):Sp:=fun vs H Q _=>∃ v r,vs=[v]∧r.kd=k∧ug Cs H r v∧Gd d r∧∀ o H',zx H H'→ug Cs H' r o→Q o H'
def ZW (d:Nat) (Cs:Nat→Addr):Sp:=fun vs H Q _=>∃ o dx n p x u r,vs=[.ref o,.str n,.int p,.str x,u]∧q9 n∧YZ p∧JW x∧ug Cs H r u∧Gd d r∧H o=some (.ins (Cs 5) dx []) ∧
 ∀ H' u',(∀ b y,H b=some y→b≠o→H' b=some y)→H' o=some (.ins (Cs 5) dx [("name",.str n),("parts",.int p),("way",.str x),("within",u')])→ug Cs H' r u'→Q .non H'
def ZS:Sp:=fun vs H Q _=>∃ c z,vs=[.int c,.str z]∧q9 z∧∀ v r H',Gd 3 r→r.name=z→zx H H'→Zg H' r v→Q v H'
theorem pS {d:Nat} {r:Rk} (h:Gd d r) (k:r.kd=5):∃ d' n p x r',d=d'+1∧r = .ontop n p x r'∧q9 n∧YZ p∧JW x∧Gd d' r':=by
 cases h with
 | pln p=>cases p <;> cases k
 | bands=>cases k
 | ontop h1 h2 h3 h4=>exact⟨_,_,_,_,_,rfl,rfl,h1,h2,h3,h4⟩
theorem Jj {K:PySem.W.Frag} {d k:Nat} {Cs:Nat→Addr} (hk:k<4):∀ vs H Q E,yW K d k Cs vs H Q E→vB K k Cs vs H Q E:=by
 rintro vs H Q E ⟨v,r,b,bs,rfl,e,ro,g,hb,bl,q⟩
 have pl:=g.pl (by omega)
 exact⟨v,r,b,bs,rfl,e,ro.pl (by omega),pl,hb,bl,by rw[Qk pl] at q;exact q⟩
theorem pF {K:PySem.W.Frag} {Cs:Nat→Addr} (RK:vM K Cs):∀ vs H Q E,vP Cs vs H Q E→uh K vs H Q E:=by
 rintro vs H Q E ⟨i,o,dx,z,rfl,hi,ho,hz,q⟩
 exact⟨Cs i,o,dx,z,rfl,RK.cls i hi,RK.no i hi "name" (by decide),ho,hz,q⟩
theorem JD {d k:Nat} {Cs:Nat→Addr} (hk:k<4):∀ vs H Q E,yH d k Cs vs H Q E→jI k Cs vs H Q E:=by
 rintro vs H Q E ⟨v,r,rfl,e,ro,g,q⟩
 have pl:=g.pl (by omega)
 exact⟨v,r,rfl,e,ro.pl (by omega),pl,by rw[ZA pl] at q;exact q⟩
theorem wV {p:Nat→Prop} (h0:p 0) (h1:p 1) (h2:p 2) (h3:p 3) (h4:p 4) (h5:p 5):∀ i,i<6→p i
 | 0,_=>h0
 | 1,_=>h1
 | 2,_=>h2
 | 3,_=>h3
 | 4,_=>h4
 | 5,_=>h5
theorem zx.made {H:Hp} {o dx C:Addr} (o0:H o=none) (d0:H dx=none):zx H (upd (upd H dx (.own o)) o (.ins C dx [])):=fun b x hb=>by
 rw[zq (zF hb o0),zq (zF hb d0)]
 exact hb
end Pg
set_option maxHeartbeats 4000000
namespace K14
open PySem PySem.NumText L2 Pg
seal PE PA PT PW PS jw PG um PI ud PO PK
section
variable {P:Program} {w:World} {K:PySem.W.Frag} {mg:Str→Option Value} {base:Heap} {f:Addr} {fd:FuncData} {d:Nat→Addr} {cR:Addr}
theorem wk {Cs:Nat→Addr} {d k:Nat} (hk:k<5) (F:qE K "depth" "Rule.depth" (zz (top 64) 4) f fd):zJ P w K mg base zO 1 f fd ["self"] (yo d k Cs):=by
 refine F.ok (N:=["self"]) ⟨rfl,rfl,rfl,by decide +kernel,rfl,by decide +kernel,by decide +kernel⟩ (fun vs H Q E h=>?_) (fun cdv A outer s H vs Q E hr h=>?_)
 ·obtain⟨v,r,rfl,_⟩:=h
  rfl
 ·obtain⟨v,r,rfl,e,ro,gd,q⟩:=h
  refine⟨_,zi (zp ze),?_⟩
  rw[Oq (by omega)] at q
  exact q
theorem Y8 {Cs:Nat→Addr} {d j:Nat} (F:qE K "depth" "OnTop.depth" (zz (top 76) 4) f fd) (RX:Qg K (Cs 5)) (MD:∀ k,k<6→qO P w K mg base zO j (Cs k) "depth" ["self"] (yo d k Cs)):zJ P w K mg base zO (j+1) f fd ["self"] (yo (d+1) 5 Cs):=by
 refine F.ok (N:=["self"]) ⟨rfl,rfl,rfl,by decide +kernel,rfl,by decide +kernel,by decide +kernel⟩ (fun vs H Q E h=>?_) (fun cdv A outer s H vs Q E hr h=>?_)
 ·obtain⟨v,r,rfl,_⟩:=h
  rfl
 ·obtain⟨v,r,rfl,e,ro,gd,q⟩:=h
  obtain⟨d',n,p,x,r',ed,rfl,hn,hp,hw,g'⟩:=pS gd e
  cases ed
  cases ro with
  | pln kk _=>exact absurd kk (by show ¬ (5:Nat)<4;decide)
  | @ontop _ _ _ _ o dx u ho ri =>
   obtain⟨oi,dxi,fsi,rfl,hoi,_,noi⟩:=ri.obj g'
   refine⟨_,zi (zp (zw qj (uw (p:=fun k=>k<6) fun k hk=>ue (MD k hk) hr (bK _) zu (zN (pv 0) rfl)) ze)),?_⟩
   exact⟨r'.kd,Mw r',_,rfl,o,_,dx,_,_,rfl,ho,RX.cls,RX.no "within" (by decide),rfl,oi,dxi,fsi,rfl,hoi,noi "depth" (by decide),_,r',rfl,rfl,ri,g',_,_,rfl,rfl,q⟩
theorem Pf {Cs:Nat→Addr} {j:Nat}:zJ P w K mg base zO j f fd ["self"] (yo 0 5 Cs):=⟨fun vs H Q E ⟨v,r,h,e,ro,g,_⟩=>by rw[h];rfl,fun _ _ _ _ _ _ _ _ _ _ _ _ _ ⟨v,r,h,e,ro,g,_⟩=>by obtain⟨_,_,_,_,_,z,_⟩:=pS g e;cases z⟩
theorem oG {Cs:Nat→Addr} {j:Nat}:zJ P w K mg base zO j f fd ["self","bases"] (yW K 0 5 Cs):=⟨fun vs H Q E ⟨v,r,b,bs,h,_⟩=>by rw[h];rfl,fun _ _ _ _ _ _ _ _ _ _ _ _ _ ⟨v,r,b,bs,h,e,ro,g,_⟩=>by obtain⟨_,_,_,_,_,z,_⟩:=pS g e;cases z⟩
theorem oK {Cs:Nat→Addr} {j:Nat}:zJ P w K mg base zO j f fd ["self"] (yH 0 5 Cs):=⟨fun vs H Q E ⟨v,r,h,_⟩=>by rw[h];rfl,fun _ _ _ _ _ _ _ _ _ _ _ _ _ ⟨v,r,h,e,ro,g,_⟩=>by obtain⟨_,_,_,_,_,z,_⟩:=pS g e;cases z⟩
theorem Gf {Cs:Nat→Addr} {j:Nat}:zJ P w K mg base zO j f fd ["self"] (qU 0 5 Cs):=⟨fun vs H Q E ⟨v,r,h,_⟩=>by rw[h];rfl,fun _ _ _ _ _ _ _ _ _ _ _ _ _ ⟨v,r,h,e,ro,g,_⟩=>by obtain⟨_,_,_,_,_,z,_⟩:=pS g e;cases z⟩
theorem Jd {Cs:Nat→Addr} {d j:Nat} (F:qE K "until" "OnTop.until" (zz (top 76) 1) f fd) (RX:Qg K (Cs 5)) (hj:4≤j) (MU:∀ k,k<6→qO P w K mg base zO j (Cs k) "until" ["self","bases"] (yW K d k Cs)) (C1:qH P w K mg base zO 4 "share_of" ["amount","parts","way"] va):zJ P w K mg base zO (j+1) f fd ["self","bases"] (yW K (d+1) 5 Cs):=by
 refine F.ok (N:=["self","bases"]) ⟨rfl,rfl,rfl,by decide +kernel,rfl,by decide +kernel,by decide +kernel⟩ (fun vs H Q E h=>?_) (fun cdv A outer s H vs Q E hr h=>?_)
 ·obtain⟨v,r,b,bs,rfl,_⟩:=h
  rfl
 ·obtain⟨v,r,b,bs,rfl,e,ro,gd,hb,bl,q⟩:=h
  obtain⟨d',n,p,x,r',ed,rfl,hn,hp,hw,g'⟩:=pS gd e
  cases ed
  cases ro with
  | pln kk _=>exact absurd kk (by show ¬ (5:Nat)<4;decide)
  | @ontop _ _ _ _ o dx u ho ri =>
   obtain⟨oi,dxi,fsi,rfl,hoi,_,noi⟩:=ri.obj g'
   refine⟨_,zi (zp (zj C1 hr hj zu (za (uw (p:=fun k=>k<6) fun k hk=>vk (MU k hk) hr (bK _) zu (zN (pv 0) rfl) (za (pv 1) zd)) (za (zN (pv 0) rfl) (za (zN (pv 0) rfl) zd))))),?_⟩
   refine⟨r'.kd,Mw r',_,rfl,o,_,dx,_,_,rfl,ho,RX.cls,RX.no "within" (by decide),rfl,oi,dxi,fsi,rfl,hoi,noi "until" (by decide),_,rfl,_,r',b,bs,rfl,rfl,ri,g',hb,bl,fun H1 s1=>?_⟩
   have ho1:=s1 _ _ ho
   exact⟨_,rfl,o,_,dx,_,_,rfl,ho1,RX.cls,RX.no "parts" (by decide),rfl,_,rfl,o,_,dx,_,_,rfl,ho1,RX.cls,RX.no "way" (by decide),rfl,_,_,_,rfl,hp.1,hp.2,hw,q H1 s1⟩
theorem O7 {Cs:Nat→Addr} {d:Nat} (F:qE K "twin" "Flat.twin" (zz (top 65) 3) f fd) (RK:vM K Cs) (N0:vD P w K mg base zO 5 "Flat" (Cs 0) ["self","name","amount"] (yj 0 Cs)):zJ P w K mg base zO 7 f fd ["self"] (qU d 0 Cs):=by
 refine F.ok (N:=["self"]) ⟨rfl,rfl,rfl,by decide +kernel,rfl,by decide +kernel,by decide +kernel⟩ (fun vs H Q E h=>?_) (fun cdv A outer s H vs Q E hr h=>?_)
 ·obtain⟨v,r,rfl,_⟩:=h
  rfl
 ·obtain⟨v,r,rfl,e,ro,gd,q⟩:=h
  have pl:=gd.pl (by omega)
  have pl0:=pl
  obtain⟨o,dx,rfl,ho⟩:=ro.pl (by omega)
  cases pl with
  | @flat n a hn ha =>
   refine⟨_,zi (zp (yF (j:=5) N0 hr (by decide) zu (za (zN (pv 0) rfl) (za (zN (pv 0) rfl) zd)))),?_⟩
   exact⟨_,rfl,o,_,dx,_,_,rfl,ho,RK.cls 0 (by decide),RK.no 0 (by decide) "name" (by decide),rfl,_,rfl,o,_,dx,_,_,rfl,ho,RK.cls 0 (by decide),RK.no 0 (by decide) "amount" (by decide),rfl,fun o dx o0 d0 ne=>⟨o,dx,.flat n a,rfl,rfl,pl0,zm,fun H' fr e=>⟨rfl,q _ H' (qR o0 d0 fr) (.pln (b8 rfl) ⟨o,dx,rfl,e⟩)⟩⟩⟩
  | share=>cases e
  | capped=>cases e
  | least=>cases e
theorem PN {Cs:Nat→Addr} {d:Nat} (F:qE K "twin" "Share.twin" (zz (top 66) 3) f fd) (RK:vM K Cs) (N0:vD P w K mg base zO 5 "Share" (Cs 1) ["self","name","parts","way"] (yj 1 Cs)):zJ P w K mg base zO 7 f fd ["self"] (qU d 1 Cs):=by
 refine F.ok (N:=["self"]) ⟨rfl,rfl,rfl,by decide +kernel,rfl,by decide +kernel,by decide +kernel⟩ (fun vs H Q E h=>?_) (fun cdv A outer s H vs Q E hr h=>?_)
 ·obtain⟨v,r,rfl,_⟩:=h
  rfl
 ·obtain⟨v,r,rfl,e,ro,gd,q⟩:=h
  have pl:=gd.pl (by omega)
  have pl0:=pl
  obtain⟨o,dx,rfl,ho⟩:=ro.pl (by omega)
  cases pl with
  | @share n p x hn hp hw =>
   refine⟨_,zi (zp (yF (j:=5) N0 hr (by decide) zu (za (zN (pv 0) rfl) (za (zN (pv 0) rfl) (za (zN (pv 0) rfl) zd))))),?_⟩
   exact⟨_,rfl,o,_,dx,_,_,rfl,ho,RK.cls 1 (by decide),RK.no 1 (by decide) "name" (by decide),rfl,_,rfl,o,_,dx,_,_,rfl,ho,RK.cls 1 (by decide),RK.no 1 (by decide) "parts" (by decide),rfl,_,rfl,o,_,dx,_,_,rfl,ho,RK.cls 1 (by decide),RK.no 1 (by decide) "way" (by decide),rfl,fun o dx o0 d0 ne=>⟨o,dx,.share n p x,rfl,rfl,pl0,zm,fun H' fr e=>⟨rfl,q _ H' (qR o0 d0 fr) (.pln (b8 rfl) ⟨o,dx,rfl,e⟩)⟩⟩⟩
  | flat=>cases e
  | capped=>cases e
  | least=>cases e
theorem PL {Cs:Nat→Addr} {d:Nat} (F:qE K "twin" "Capped.twin" (zz (top 67) 3) f fd) (RK:vM K Cs) (N0:vD P w K mg base zO 5 "Capped" (Cs 2) ["self","name","parts","most","way"] (yj 2 Cs)):zJ P w K mg base zO 7 f fd ["self"] (qU d 2 Cs):=by
 refine F.ok (N:=["self"]) ⟨rfl,rfl,rfl,by decide +kernel,rfl,by decide +kernel,by decide +kernel⟩ (fun vs H Q E h=>?_) (fun cdv A outer s H vs Q E hr h=>?_)
 ·obtain⟨v,r,rfl,_⟩:=h
  rfl
 ·obtain⟨v,r,rfl,e,ro,gd,q⟩:=h
  have pl:=gd.pl (by omega)
  have pl0:=pl
  obtain⟨o,dx,rfl,ho⟩:=ro.pl (by omega)
  cases pl with
  | @capped n p m x hn hp ha hw =>
   refine⟨_,zi (zp (yF (j:=5) N0 hr (by decide) zu (za (zN (pv 0) rfl) (za (zN (pv 0) rfl) (za (zN (pv 0) rfl) (za (zN (pv 0) rfl) zd)))))),?_⟩
   exact⟨_,rfl,o,_,dx,_,_,rfl,ho,RK.cls 2 (by decide),RK.no 2 (by decide) "name" (by decide),rfl,_,rfl,o,_,dx,_,_,rfl,ho,RK.cls 2 (by decide),RK.no 2 (by decide) "parts" (by decide),rfl,_,rfl,o,_,dx,_,_,rfl,ho,RK.cls 2 (by decide),RK.no 2 (by decide) "most" (by decide),rfl,_,rfl,o,_,dx,_,_,rfl,ho,RK.cls 2 (by decide),RK.no 2 (by decide) "way" (by decide),rfl,fun o dx o0 d0 ne=>⟨o,dx,.capped n p m x,rfl,rfl,pl0,zm,fun H' fr e=>⟨rfl,q _ H' (qR o0 d0 fr) (.pln (b8 rfl) ⟨o,dx,rfl,e⟩)⟩⟩⟩
  | flat=>cases e
  | share=>cases e
  | least=>cases e
theorem Pm {Cs:Nat→Addr} {d:Nat} (F:qE K "twin" "Least.twin" (zz (top 68) 3) f fd) (RK:vM K Cs) (N0:vD P w K mg base zO 5 "Least" (Cs 3) ["self","name","parts","least","way"] (yj 3 Cs)):zJ P w K mg base zO 7 f fd ["self"] (qU d 3 Cs):=by
 refine F.ok (N:=["self"]) ⟨rfl,rfl,rfl,by decide +kernel,rfl,by decide +kernel,by decide +kernel⟩ (fun vs H Q E h=>?_) (fun cdv A outer s H vs Q E hr h=>?_)
 ·obtain⟨v,r,rfl,_⟩:=h
  rfl
 ·obtain⟨v,r,rfl,e,ro,gd,q⟩:=h
  have pl:=gd.pl (by omega)
  have pl0:=pl
  obtain⟨o,dx,rfl,ho⟩:=ro.pl (by omega)
  cases pl with
  | @least n p m x hn hp ha hw =>
   refine⟨_,zi (zp (yF (j:=5) N0 hr (by decide) zu (za (zN (pv 0) rfl) (za (zN (pv 0) rfl) (za (zN (pv 0) rfl) (za (zN (pv 0) rfl) zd)))))),?_⟩
   exact⟨_,rfl,o,_,dx,_,_,rfl,ho,RK.cls 3 (by decide),RK.no 3 (by decide) "name" (by decide),rfl,_,rfl,o,_,dx,_,_,rfl,ho,RK.cls 3 (by decide),RK.no 3 (by decide) "parts" (by decide),rfl,_,rfl,o,_,dx,_,_,rfl,ho,RK.cls 3 (by decide),RK.no 3 (by decide) "least" (by decide),rfl,_,rfl,o,_,dx,_,_,rfl,ho,RK.cls 3 (by decide),RK.no 3 (by decide) "way" (by decide),rfl,fun o dx o0 d0 ne=>⟨o,dx,.least n p m x,rfl,rfl,pl0,zm,fun H' fr e=>⟨rfl,q _ H' (qR o0 d0 fr) (.pln (b8 rfl) ⟨o,dx,rfl,e⟩)⟩⟩⟩
  | flat=>cases e
  | share=>cases e
  | capped=>cases e
theorem Og {Cs:Nat→Addr} {d:Nat} (F:qE K "twin" "Bands.twin" (zz (top 73) 3) f fd) (RX:Qg K (Cs 4)) (N0:vD P w K mg base zO 6 "Bands" (Cs 4) ["self","name","rows","way"] (ZC (Cs 4))):zJ P w K mg base zO 8 f fd ["self"] (qU d 4 Cs):=by
 refine F.ok (N:=["self"]) ⟨rfl,rfl,rfl,by decide +kernel,rfl,by decide +kernel,by decide +kernel⟩ (fun vs H Q E h=>?_) (fun cdv A outer s H vs Q E hr h=>?_)
 ·obtain⟨v,r,rfl,_⟩:=h
  rfl
 ·obtain⟨v,r,rfl,e,ro,gd,q⟩:=h
  cases gd with
  | pln p=>cases p <;> cases e
  | ontop=>cases e
  | @bands _ n x ps hn ok hw =>
   cases ro with
   | pln kk _=>exact absurd kk (by show ¬ (4:Nat)<4;decide)
   | @bands _ _ _ o dx u ho bd =>
    refine⟨_,zi (zp (yF (j:=6) N0 hr (by decide) zu (za (zN (pv 0) rfl) (za (zN (pv 0) rfl) (za (zN (pv 0) rfl) zd))))),?_⟩
    refine⟨_,rfl,o,_,dx,_,_,rfl,ho,RX.cls,RX.no "name" (by decide),rfl,_,rfl,o,_,dx,_,_,rfl,ho,RX.cls,RX.no "bands" (by decide),rfl,_,rfl,o,_,dx,_,_,rfl,ho,RX.cls,RX.no "way" (by decide),rfl,fun o dx o0 dx0 ne=>⟨o,dx,n,u,ps,x,rfl,hn,ok,hw,?_,zm,fun H' u' fr ho' bd'=>⟨rfl,q _ H' (qR o0 dx0 fr) (.bands ho' bd')⟩⟩⟩
    obtain⟨ys,hu,T⟩:=bd
    have nt:∀ {b c},H b=some (.tup c)→(upd (upd H dx (.own o)) o (.ins (Cs 4) dx [])) b=some (.tup c):=fun {b c} h=>by rw[zq (zF h o0),zq (zF h dx0)];exact h
    exact⟨ys,nt hu,T.mono fun b c h=>nt h⟩
theorem Uo {Cs:Nat→Addr} {d j:Nat} (F:qE K "twin" "OnTop.twin" (zz (top 76) 3) f fd) (RX:Qg K (Cs 5)) (N0:vD P w K mg base zO j "OnTop" (Cs 5) ["self","name","parts","way","rule"] (ZW d Cs)):zJ P w K mg base zO (j+2) f fd ["self"] (qU (d+1) 5 Cs):=by
 refine F.ok (N:=["self"]) ⟨rfl,rfl,rfl,by decide +kernel,rfl,by decide +kernel,by decide +kernel⟩ (fun vs H Q E h=>?_) (fun cdv A outer s H vs Q E hr h=>?_)
 ·obtain⟨v,r,rfl,_⟩:=h
  rfl
 ·obtain⟨v,r,rfl,e,ro,gd,q⟩:=h
  obtain⟨d',n,p,x,r',ed,rfl,hn,hp,hw,g'⟩:=pS gd e
  cases ed
  cases ro with
  | pln kk _=>exact absurd kk (by show ¬ (5:Nat)<4;decide)
  | @ontop _ _ _ _ o dx u ho ri =>
   refine⟨_,zi (zp (yF (j:=j) N0 hr (bK _) zu (za (zN (pv 0) rfl) (za (zN (pv 0) rfl) (za (zN (pv 0) rfl) (za (zN (pv 0) rfl) zd)))))),?_⟩
   exact⟨_,rfl,o,_,dx,_,_,rfl,ho,RX.cls,RX.no "name" (by decide),rfl,_,rfl,o,_,dx,_,_,rfl,ho,RX.cls,RX.no "parts" (by decide),rfl,_,rfl,o,_,dx,_,_,rfl,ho,RX.cls,RX.no "way" (by decide),rfl,_,rfl,o,_,dx,_,_,rfl,ho,RX.cls,RX.no "within" (by decide),rfl,fun o dx o0 dx0 ne=>⟨o,dx,n,p,x,u,r',rfl,hn,hp,hw,ri.same (zx.made o0 dx0),g',zm,fun H' u' fr ho' ri'=>⟨rfl,q _ H' (qR o0 dx0 fr) (.ontop ho' ri')⟩⟩⟩
set_option maxHeartbeats 4000000 in
theorem Qv {Cs:Nat→Addr} {cRu:Addr} {d j:Nat} (F:qE K "__init__" "OnTop.__init__" (zz (top 76) 0) f fd) (G:jF mg) (RX:Qg K (Cs 5)) (RJ:Rf K Cs cRu) (gR:mg "Rule" = some (.ref cRu)) (N1:kF mg "MOST_DEPTH" 3) (hd:d≤2) (hj:4≤j) (CR:ZR P w K mg base zO 4 "Rule" "__init__" ["self","name"] (uh K)) (C1:qH P w K mg base zO 4 "need_share" ["parts","way"] vd) (MT:∀ k,k<6→qO P w K mg base zO j (Cs k) "twin" ["self"] (qU d k Cs)) (MD:qO P w K mg base zO j (Cs 5) "depth" ["self"] (yo (d+1) 5 Cs)):zJ P w K mg base zO (j+1) f fd ["self","name","parts","way","rule"] (ZW d Cs):=by
 obtain⟨tk,em⟩:=N1
 refine F.ok (N:=["self","name","parts","way","rule"]) ⟨rfl,rfl,rfl,by decide +kernel,rfl,by decide +kernel,by decide +kernel⟩ (fun vs H Q E h=>?_) (fun cdv A outer s H vs Q E hr h=>?_)
 ·obtain⟨o,dx,n,p,x,u,r,rfl,_⟩:=h
  rfl
 ·obtain⟨o,dx,n,p,x,u,r,rfl,hn,hp,hw,ri,gd,ho,q⟩:=h
  refine⟨_,zh (qv (ui CR hr hj zu (za (pv 0) (za (pv 1) zd)))) (zh (qv (zj C1 hr hj zu (za (pv 2) (za (pv 3) zd)))) (zh (zT (qD (qz (zt zG rfl G.isinstance zy (za (pv 4) (za (zZ (v:=.ref cRu) rfl gR rfl) zd))))) qk zC)
   (zh (yA (pv 0) (pv 2) rfl) (zh (yA (pv 0) (pv 3) rfl) (zh (yA (pv 0) (uw (p:=fun k=>k<6) fun k hk=>ue (MT k hk) hr (bK _) zu (pv 4)) rfl)
   (zi (zT (zE jD (ue MD hr (bK _) zu (pv 0)) (zZ (v:=.int 3) rfl em ⟨tk,rfl⟩) (zD _)) qk zC))))))),?_⟩
  refine⟨_,rfl,_,rfl,_,o,dx,_,rfl,RX.cls,RX.no "name" (by decide),ho,hn,fun H1 f1 e1=>⟨_,rfl,_,rfl,_,_,rfl,hp,hw,?_⟩⟩
  have r1:=ri.frame gd ho f1
  obtain⟨oi,dxi,fsi,rfl,hoi,_,noi⟩:=r1.obj gd
  have k6:=Mw r
  refine⟨_,rfl,_,_,_,_,true,rfl,rfl,.inl (.ins hoi (RJ.cls _ k6) (RJ.ha _ k6) RJ.hn RJ.htk (RJ.hm _ k6)),RJ.kt _ k6,true,rfl,qN ?_⟩
  refine⟨_,rfl,_,rfl,o,_,dx,_,rfl,e1,RX.cls,RX.no "parts" (by decide),by show 1<1000;decide,?_⟩
  rw[NK _ _ _ (by decide +kernel)]
  refine⟨_,rfl,_,rfl,o,_,dx,_,rfl,zm,RX.cls,RX.no "way" (by decide),by show 2<1000;decide,?_⟩
  rw[RW _ _ _ _ _ (by decide +kernel) (by decide +kernel)]
  have f2:∀ b y,H b=some y→b≠o→(upd (upd H1 o (.ins (Cs 5) dx [("name",.str n),("parts",.int p)])) o (.ins (Cs 5) dx [("name",.str n),("parts",.int p),("way",.str x)])) b=some y:=fun b y hb ne=>by rw[zq ne,zq ne];exact f1 _ _ hb ne
  have e2:(upd (upd H1 o (.ins (Cs 5) dx [("name",.str n),("parts",.int p)])) o (.ins (Cs 5) dx [("name",.str n),("parts",.int p),("way",.str x)])) o=some (.ins (Cs 5) dx [("name",.str n),("parts",.int p),("way",.str x)]):=zm
  generalize upd (upd H1 o (.ins (Cs 5) dx [("name",.str n),("parts",.int p)])) o (.ins (Cs 5) dx [("name",.str n),("parts",.int p),("way",.str x)])=H2 at f2 e2
  have r2:=ri.frame gd ho f2
  obtain⟨oi2,dxi2,fsi2,eoi,hoi2,_,noi2⟩:=r2.obj gd
  cases eoi
  refine⟨r.kd,k6,_,rfl,oi,dxi2,fsi2,rfl,hoi2,noi2 "twin" (by decide),_,r,rfl,rfl,r2,gd,fun u' H3 s3 r3=>?_⟩
  have e3:=s3 _ _ e2
  refine⟨_,rfl,o,_,dx,_,rfl,e3,RX.cls,RX.no "within" (by decide),by show 3<1000;decide,?_⟩
  rw[Tu _ _ _ _ _ _ _ (by decide +kernel) (by decide +kernel) (by decide +kernel)]
  have f4:∀ b y,H3 b=some y→b≠o→(upd H3 o (.ins (Cs 5) dx [("name",.str n),("parts",.int p),("way",.str x),("within",u')])) b=some y:=fun b y hb ne=>by rw[zq ne];exact hb
  have e4:(upd H3 o (.ins (Cs 5) dx [("name",.str n),("parts",.int p),("way",.str x),("within",u')])) o=some (.ins (Cs 5) dx [("name",.str n),("parts",.int p),("way",.str x),("within",u')]):=zm
  generalize upd H3 o (.ins (Cs 5) dx [("name",.str n),("parts",.int p),("way",.str x),("within",u')])=H4 at f4 e4
  have r4:=r3.frame3 RJ.ne gd e3 f4
  have g4:Gd (d+1) (.ontop n p x r):=.ontop hn hp hw gd
  refine⟨_,rfl,o,dx,_,rfl,e4,rfl,_,_,rfl,rfl,.ontop e4 r4,g4,_,_,rfl,rfl,_,rfl,yv (fun e=>?_) (fun _=>?_)⟩
  ·have e:=of_decide_eq_true e
   have:=NC g4
   omega
  ·exact q H4 u' (fun b y hb ne=>f4 _ _ (s3 _ _ (f2 _ _ hb ne)) ne) e4 r4
end
end K14
namespace K14
open PySem PySem.NumText L2 Pg
seal PE PA PT PW PS jw PG um PI ud PO PK
section
variable {P:Program} {w:World} {K:PySem.W.Frag} {mg:Str→Option Value} {base:Heap} {f:Addr} {fd:FuncData} {d:Nat→Addr} {cR:Addr}
theorem Qn (F:qE K "are_figures" "are_figures" (top 41) f fd) (G:jF mg) (N1:Txt mg "FIGURES" "0123456789"):zJ P w K mg base zO 1 f fd ["text"] XQ:=by
 obtain⟨tm,hm⟩:=N1
 have nc:(["sign"]:List Str).Nodup:=by decide +kernel
 refine F.ok (N:=["text"]) ⟨rfl,rfl,rfl,by decide +kernel,rfl,by decide +kernel,by decide +kernel⟩ (fun vs H Q E h=>?_) (fun cdv A outer s H vs Q E hr h=>?_)
 ·obtain⟨z,rfl,_⟩:=h
  rfl
 ·obtain⟨z,rfl,hz,q⟩:=h
  have ls:100001≤sizeLine:=by rw[sizeLine_eq];decide
  refine' ⟨_,zi (zp (yI (qB jD (zt jH rfl G.len boot_len (za (pv 0) zd)) ze (zD _)) (yT (zt (vh rfl) rfl G.all vV (za ?comp zd))))),?main⟩
  case comp =>
   refine' qb (Nc:=["sign"]) (cl:=[]) (src:=[none]) (wi:=ng (zP 0)) (g:=zX 0) (tt:=qC) (te:=jB (fun x y H Q=>∃ i j,x = .str i∧y = .str j∧Q (.bl (!(Builtin.Str.occurrences j i 0 j.length 1).isEmpty)) H) (zP 0) (tC (.str "0123456789"))) ⟨rfl,rfl,by decide +kernel,by decide +kernel,(fun x c z=>nomatch z),qu (by rfl),zQ qc,rfl⟩ rfl (OY (pv 0)) ?hb
   case hb =>
    intro fp C' s' H'
    exact⟨zS (i:=0) nc rfl (Or.inl rfl),qi,qB YL (pv 0) (zZ (v:=.str "0123456789") rfl hm ⟨_,rfl⟩) (by rfl)⟩
  refine⟨_,rfl,z,rfl,by omega,_,_,rfl,rfl,_,rfl,yv (fun e=>?_) (fun e=>?_)⟩
  ·have e:0<z.length:=by have:=of_decide_eq_true e;omega
   have ne:z.cps.toList≠[]:=fun y=>by rw[qF,y] at e;exact absurd e (by decide)
   refine⟨_,rfl,z,rfl,fun D hD=>?_⟩
   refine Zf (UL (z:=z)) hD (by rw[bM,← qF];omega) (fun _=>true) (fun x=>match x with | .str y=>.bl (LY (y.cps.getD 0 0)) | v=>v) (fun x _ H' R _ r=>r) (fun x hx _ H' R _ r=>?_) ?_
   ·obtain⟨c,_,rfl⟩:=bZ.mp hx
    refine⟨_,rfl,_,_,rfl,rfl,?_⟩
    rw[Mp]
    exact r
   ·rw[List.filter_eq_self.mpr fun _ _=>rfl,b6]
    refine⟨D,z.cps.toList.map LY,rfl,z5.of (by rw[b6];exact zm),?_⟩
    have e2:WD z.cps.toList=(z.cps.toList.map LY).all id:=by
     unfold WD
     rw[Cc]
     cases h:z.cps.toList with
     | nil=>exact absurd h ne
     | cons a l=>rfl
    rw[← e2]
    exact q _ (zx.upd hD)
  ·have e0:z.cps.toList=[]:=cj.mp (by
    rw[← qF]
    have:¬ (0:Int)<(z.length:Nat):=fun c=>e (decide_eq_true c)
    omega)
   have q':=q H (zx.refl _)
   rw[e0] at q'
   exact q'
end
end K14
namespace K14
open PySem PySem.NumText L2 Pg
seal PE PA PT PW PS jw PG um PI ud PO PK
section
variable {P:Program} {w:World} {K:PySem.W.Frag} {mg:Str→Option Value} {base:Heap} {f:Addr} {fd:FuncData} {d:Nat→Addr} {cR:Addr}
theorem mw (F:qE K "is_number_text" "is_number_text" (top 42) f fd) (C1:qH P w K mg base zO 1 "are_figures" ["text"] XQ):zJ P w K mg base zO 2 f fd ["text"] Xv:=by
 refine F.ok (N:=["text"]) ⟨rfl,rfl,rfl,by decide +kernel,rfl,by decide +kernel,by decide +kernel⟩ (fun vs H Q E h=>?_) (fun cdv A outer s H vs Q E hr h=>?_)
 ·obtain⟨z,rfl,_⟩:=h
  rfl
 ·obtain⟨z,rfl,hz,q⟩:=h
  refine⟨_,(zi (zp (yI (zj C1 hr (by decide) zu (za (pv 0) zd)) (yT (Mf (qB qx (pv 0) zA (zD _)) (yT (We (yE PySem.F.plainAttrs_str PySem.F.slot_str_startswith PySem.F.type_str_startswith QI (pv 0) (za zA zd))))))))),?_⟩
  refine⟨_,rfl,z,rfl,by omega,fun H1 s1=>⟨_,rfl,?_⟩⟩
  have q':=q H1 s1
  unfold XT at q'
  cases e:WD z.cps.toList with
  | false =>
   rw[e] at q'
   exact qN q'
  | true =>
   rw[e,ce] at q'
   refine y8 ⟨_,rfl,rfl,_,rfl,?_⟩
   have e0:("0":Str).cps.toList=[48]:=by rw[UH]
   rw[WC,e0]
   by_cases c:z.cps.toList=[48]
   ·rw[decide_eq_true c] at q' ⊢
    exact y8 q'
   ·rw[decide_eq_false c,Cr] at q'
    rw[decide_eq_false c]
    refine qN ⟨_,rfl,rfl,_,_,rfl,rfl,_,rfl,?_⟩
    rw[UH,Ww]
    exact q'
end
end K14
namespace Pg
open PySem L2
theorem Gd.le {d e:Nat} {r:Rk} (h:Gd d r) (le:d≤e):Gd e r:=by
 induction le with
 | refl=>exact h
 | step _ ih=>exact ih.mono
end Pg
namespace L2
open PySem PySem.StrLaws Builtin Builtin.Str
def yz (c:Nat):List Nat→Nat→List Nat
 | [],_=>[]
 | a::r,k=>if a=c then k::yz c r (k+1) else yz c r (k+1)
theorem Oe (x:Str) (c:Nat):∀ (l:List Nat) (k:Nat) (f:Array Nat) (fr:Nat),x.cps.toList.drop k=l→k≤x.length→fr≤k→f.size≤k →
  (forIn (List.range' k (l.length+1)) (f,fr) (occBody x ⟨#[c]⟩ x.length (x.length+1))).run.fst.toList=f.toList++yz c l k:=by
 intro l
 induction l with
 | nil =>
  intro k f fr e hk hf hs
  have e1:List.range' k (([]:List Nat).length+1)=[k]:=rfl
  have e2:yz c [] k=[]:=rfl
  rw[e1,e2,List.forIn_cons]
  unfold occBody
  have:¬ (((f.size<x.length+1∧fr≤k)∧k+(⟨#[c]⟩:Str).length≤x.length)∧subAt x ⟨#[c]⟩ k=true):=fun h=>by
   have h1:=(subAt_one x c k).mp ⟨h.1.2,h.2⟩
   have h2:(x.cps.toList.drop k)[0]? = some c:=by rw[CF];exact h1
   rw[e] at h2
   cases h2
  rw[if_neg this,Bs]
  rfl
 | cons a r ih =>
  intro k f fr e hk hf hs
  have ea:x.cps.toList[k]? = some a:=by
   have h2:(x.cps.toList.drop k)[0]? = some a:=by rw[e];rfl
   rw[CF] at h2
   exact h2
  have er:x.cps.toList.drop (k+1)=r:=by
   rw[← CC,e]
   rfl
  have kl:k+1≤x.length:=by
   have:=(bU.mp ea).1
   have e2:x.cps.toList.length=x.length:=rfl
   omega
  rw[Bi,List.range'_succ,List.forIn_cons]
  unfold occBody
  by_cases h:a=c
  ·subst h
   have h1:=(subAt_one x a k).mpr ea
   rw[if_pos ⟨⟨⟨B5 hs (by omega),hf⟩,h1.1⟩,h1.2⟩]
   have:=ih (k+1) (f.push k) (k+1) er kl (bK _) (by rw[Array.size_push];omega)
   have c1:yz a (a::r) k=k::yz a r (k+1):=if_pos rfl
   rw[c1]
   refine this.trans ?_
   rw[Co,By]
   rfl
  ·have:¬ (((f.size<x.length+1∧fr≤k)∧k+(⟨#[c]⟩:Str).length≤x.length)∧subAt x ⟨#[c]⟩ k=true):=fun q=>by
    have h1:=(subAt_one x c k).mp ⟨q.1.2,q.2⟩
    rw[ea] at h1
    exact h (Option.some.inj h1)
   rw[if_neg this]
   have c1:yz c (a::r) k=yz c r (k+1):=if_neg h
   rw[c1]
   exact ih (k+1) f fr er kl (by omega) (by omega)
theorem Pk (x:Str) (c:Nat):occurrences x ⟨#[c]⟩ 0 x.length (x.length+1)=yz c x.cps.toList 0:=by
 rw[occ_eq]
 exact Oe x c x.cps.toList 0 #[] 0 rfl (Bo _) (bK _) (bK _)
theorem Yp {c:Nat} {w:List Nat} (h:¬ c∈w) (r:List Nat) (k:Nat):yz c (w++r) k=yz c r (k+w.length):=by
 induction w generalizing k with
 | nil=>rfl
 | cons a w ih =>
  have n:¬ a=c:=fun e=>h (by rw[e];exact Bb)
  have e:yz c (a::w++r) k=yz c (w++r) (k+1):=if_neg n
  rw[e,ih (fun m=>h (Bk _ m)),Bi]
  congr 1
  omega
theorem xv (c:Nat) (l:List Nat) (k s:Nat):yz c l (k+s)=(yz c l k).map (· + s):=by
 induction l generalizing k with
 | nil=>rfl
 | cons a r ih =>
  show (if a=c then _ else _)=(if a=c then _ else _:List Nat).map _
  have e:=ih (k+1)
  rw[show k+1+s=k+s+1 by omega] at e
  split
  ·rw[Br,e]
  ·exact e
def tD (l cuts:List Nat):List (List Nat):=List.zipWith (fun i j=>(l.drop i).take (j - i)) (0::cuts.map (· + 1)) (cuts++[l.length])
theorem Pp {c:Nat}:∀ (rest:List (List Nat)) (w:List Nat),¬ c∈w→(∀ v∈rest,¬ c∈v)→tD (w++(rest.map fun v=>c::v).flatten) (yz c (w++(rest.map fun v=>c::v).flatten) 0)=w::rest:=by
 intro rest
 induction rest with
 | nil =>
  intro w hw _
  rw[Yp hw]
  show [((w++[]).drop 0).take ((w++[]).length - 0)]=[w]
  rw[Bs,Cm,cU,BD]
 | cons v r ih =>
  intro w hw hr
  have ih:=ih v (hr v Bb) fun u hu=>hr u (Bk _ hu)
  have el:(((v::r).map fun v=>c::v).flatten)=c::(v++(r.map fun v=>c::v).flatten):=rfl
  rw[el]
  generalize v++(r.map fun v=>c::v).flatten=l' at ih
  have e1:yz c (w++c::l') 0=w.length::(yz c l' 0).map (· + (w.length+1)):=by
   rw[Yp hw,BV]
   show (if c=c then _ else _)=_
   rw[if_pos rfl,← xv,BV]
  rw[e1]
  unfold tD at ih ⊢
  rw[Br,Ce,List.zipWith_cons_cons]
  congr 1
  ·rw[Cm,cU]
   exact List.take_left
  ·rw[← ih]
   have s1:(w.length+1)::((yz c l' 0).map (· + (w.length+1))).map (· + 1)=(0::(yz c l' 0).map (· + 1)).map (· + (w.length+1)):=by
    rw[Br,BV,b6,b6]
    congr 1
    refine Cn fun i _=>?_
    show i+(w.length+1)+1=i+1+(w.length+1)
    omega
   have s2:(yz c l' 0).map (· + (w.length+1))++[(w++c::l').length]=(yz c l' 0++[l'.length]).map (· + (w.length+1)):=by
    rw[Bc,bP,Bi]
    congr 1
    show [w.length+(l'.length+1)]=[l'.length+(w.length+1)]
    congr 1
    omega
   rw[s1,s2,List.zipWith_map]
   congr 1
   funext i j
   rw[Nat.add_sub_add_right]
   have:(w++c::l').drop (i+(w.length+1))=l'.drop i:=by
    rw[show i+(w.length+1)=w.length+(1+i) by omega,← CC,List.drop_left,Nat.add_comm 1 i,List.drop_succ_cons]
   rw[this]
theorem Wz (c:Nat):∀ (ws:List Str) (acc:Array Nat),(ws.foldl (fun acc p=>acc++(⟨#[c]⟩:Str).cps++p.cps) acc).toList=acc.toList++((ws.map fun p=>p.cps.toList).map fun v=>c::v).flatten:=by
 intro ws
 induction ws with
 | nil=>intro acc;exact (Bs _).symm
 | cons p r ih =>
  intro acc
  rw[cf,ih]
  simp
theorem qW (c:Nat) (w:Str) (ws:List Str):(Txt.join ⟨#[c]⟩ (w::ws)).cps.toList=w.cps.toList++((ws.map fun p=>p.cps.toList).map fun v=>c::v).flatten:=Wz c ws w.cps
theorem Uh (x:Str) (cuts:List Nat):(partsBetween x cuts 1).map (fun z=>z.cps.toList)=tD x.cps.toList cuts:=by
 unfold partsBetween tD
 rw[b6,List.zip,List.map_zipWith]
 congr 1
 funext i j
 show (x.cps.extract i j).toList=_
 rw[Array.toList_extract]
 try exact List.extract_eq_drop_take
theorem GP {a b:List Str} (h:a.map (fun z=>z.cps.toList)=b.map (fun z=>z.cps.toList)):a=b:=by
 induction a generalizing b with
 | nil =>
  cases b with
  | nil=>rfl
  | cons=>cases h
 | cons x r ih =>
  cases b with
  | nil=>cases h
  | cons y s =>
   have h1:=List.cons.inj h
   have e:x=y:=by
    obtain⟨x⟩:=x
    obtain⟨y⟩:=y
    exact congrArg Str.mk (cX.mp h1.1)
   rw[e,ih h1.2]
theorem uS {c:Nat} {w:Str} {ws:List Str} (hk:strKind (⟨#[c]⟩:Str)=1) (hw:¬ c∈w.cps.toList) (h:∀ v∈ws,¬ c∈v.cps.toList) (ne:1≤(Txt.join ⟨#[c]⟩ (w::ws)).length) :
  Txt.split (Txt.join ⟨#[c]⟩ (w::ws)) ⟨#[c]⟩=w::ws∧partsBetween (Txt.join ⟨#[c]⟩ (w::ws)) (occurrences (Txt.join ⟨#[c]⟩ (w::ws)) ⟨#[c]⟩ 0 (Txt.join ⟨#[c]⟩ (w::ws)).length ((Txt.join ⟨#[c]⟩ (w::ws)).length+1)) 1=w::ws:=by
 have e0:partsBetween (Txt.join ⟨#[c]⟩ (w::ws)) (occurrences (Txt.join ⟨#[c]⟩ (w::ws)) ⟨#[c]⟩ 0 (Txt.join ⟨#[c]⟩ (w::ws)).length ((Txt.join ⟨#[c]⟩ (w::ws)).length+1)) 1=w::ws:=by
  apply GP
  rw[Uh,Pk,qW]
  exact Pp _ _ hw fun v hv=>by
   obtain⟨u,hu,rfl⟩:=bZ.mp hv
   exact h u hu
 refine⟨?_,e0⟩
 unfold Txt.split
 have k1:1≤strKind (Txt.join ⟨#[c]⟩ (w::ws)):=by
  unfold Builtin.Str.strKind
  split
  ·decide
  ·split <;> decide
 have c1:(decide ((Txt.join ⟨#[c]⟩ (w::ws)).length<(⟨#[c]⟩:Str).length) || decide (strKind (Txt.join ⟨#[c]⟩ (w::ws))<strKind (⟨#[c]⟩:Str)))=false:=by
  rw[hk,Bool.or_eq_false_iff]
  exact⟨decide_eq_false (by show ¬ _<1;omega),decide_eq_false (by omega)⟩
 rw[if_neg (by rw[c1];exact bV)]
 split
 ·rename_i he
  have hn:occurrences (Txt.join ⟨#[c]⟩ (w::ws)) ⟨#[c]⟩ 0 (Txt.join ⟨#[c]⟩ (w::ws)).length ((Txt.join ⟨#[c]⟩ (w::ws)).length+1)=[]:=List.isEmpty_iff.mp he
  rw[hn] at e0
  have e1:partsBetween (Txt.join ⟨#[c]⟩ (w::ws)) [] 1=[strSub (Txt.join ⟨#[c]⟩ (w::ws)) 0 (Txt.join ⟨#[c]⟩ (w::ws)).length]:=rfl
  refine Eq.trans ?_ (e1.symm.trans e0)
  have:(Txt.join ⟨#[c]⟩ (w::ws)).cps.extract 0 (Txt.join ⟨#[c]⟩ (w::ws)).length=(Txt.join ⟨#[c]⟩ (w::ws)).cps:=Array.extract_size
  show [_]=[(⟨_⟩:Str)]
  rw[this]
 ·exact e0
end L2
namespace L2
open PySem PySem.Spec PyProof.Rows
theorem LB {X:Cx} {tb:TS} {body:List Stmt} {h₀:ExceptHandler} {hs:List ExceptHandler} {pos:Pos} (hb:∀ pn,jw (X.tr pn fun _ _=>False) body tb):PS X (.Try body (h₀ :: hs) [] [] pos) tb:=by
 intro pins s σ H D I h
 have ok:=I.ok
 refine wpAny_Try_except (wpAny_mono (hb (X.pn++pins) [] s σ H D I.tr h) (fun f s1 q=>?_) fun e s1 q=>q.elim)
 cases f with
 | next =>
  obtain⟨σ',H',I',q⟩:=q
  exact wpAny_execs_nil ⟨σ',H',I'.ofTr ok,q⟩
 | brk=>obtain⟨σ',H',I',q⟩:=q;exact⟨σ',H',I'.ofTr ok,q⟩
 | cont=>obtain⟨σ',H',I',q⟩:=q;exact⟨σ',H',I'.ofTr ok,q⟩
 | ret u=>obtain⟨v,σ',H',I',r,q⟩:=q;exact⟨v,σ',H',I'.ofTr ok,r,q⟩
end L2
namespace Pg
open PySem PySem.NumText L2 Builtin Builtin.Str
theorem Ru (n:Nat):digitsVal (dg n)=n:=by
 induction n using Nat.strongRecOn with
 | ind n ih =>
  by_cases h:n<10
  ·rw[OT h]
   show 0*10+(48+n - 48)=n
   omega
  ·rw[X1 (by omega),digitsVal_snoc,ih (n/10) (by omega)]
   omega
theorem px {n:Nat} (h:n≠0):∃ c r,dg n=c::r∧c≠48:=by
 induction n using Nat.strongRecOn with
 | ind n ih =>
  by_cases h10:n<10
  ·exact⟨48+n,[],OT h10,by omega⟩
  ·obtain⟨c,r,e,ne⟩:=ih (n/10) (by omega) (by omega)
   exact⟨c,r++[48+n%10],by rw[X1 (by omega),e];rfl,ne⟩
theorem M2 (n:Nat):WD (dg n)=true:=by
 have h:=wz n
 have l:=uH n
 unfold WD
 rw[Bn]
 constructor
 ·cases e:dg n with
  | nil=>rw[e] at l;exact absurd l (by decide)
  | cons=>rfl
 ·rw[Bp]
  intro c hc
  have:=h c hc
  unfold LY
  rw[decide_eq_true this.1,decide_eq_true this.2]
  rfl
theorem MB (n:Nat):XT (dg n)=true:=by
 unfold XT
 rw[M2,ce]
 by_cases h:n=0
 ·subst h
  rfl
 ·obtain⟨c,r,e,ne⟩:=px h
  rw[e]
  have:decide ((c::r).head? = some 48)=false:=decide_eq_false fun z=>ne (Option.some.inj z)
  rw[this]
  exact Bool.or_true _
theorem jK {i:Int} (h:0≤i):(toString i:Str).cps.toList=dg i.toNat:=by
 obtain⟨n,rfl⟩:=BP h
 exact ZM n
theorem PU {i:Int} (h:JY i):intText? (toString i:Str)=some i:=by
 have e:=jK h.1
 have l:=ub h
 rw[intText_digits (by rw[e];exact wz _) (by rw[e];intro z;have:=uH i.toNat;rw[z] at this;exact absurd this (by decide)) (by omega),e,Ru]
 congr 1
 have:=h.1
 omega
theorem wb {i:Int} (h:YZ i):JY i:=⟨h.1,by have:=h.2;omega⟩
theorem UB {c:Nat} (h:c<48∨57<c) (n:Nat):¬ c∈dg n:=fun m=>by
 have:=wz n c m
 omega
theorem mU {c:Nat} (h:c<97) {z:Str} (n:q9 z):¬ c∈z.cps.toList:=fun m=>by
 have:=Bp.mp n.ok.all c m
 unfold UZ at this
 rw[Bn] at this
 have:=of_decide_eq_true this.1
 omega
theorem ZG {w:Str} (h:JW w):¬ 32∈w.cps.toList:=by
 have h:=BH.mp h
 unfold wayL at h
 simp only[bN,bS,or_false] at h
 rcases h with rfl | rfl | rfl | rfl <;> decide +kernel
theorem Vf {c:Nat} (h:c<48∨57<c) {i:Int} (h0:0≤i):¬ c∈(toString i:Str).cps.toList:=by
 rw[jK h0]
 exact UB h _
theorem T9:(" ":Str)=⟨#[32]⟩:=by decide +kernel
theorem bC:(":":Str)=⟨#[58]⟩:=by decide +kernel
theorem T7:(",":Str)=⟨#[44]⟩:=by decide +kernel
theorem ol {c:Nat} (h:c<256):Builtin.Str.strKind (⟨#[c]⟩:Str)=1:=by
 unfold Builtin.Str.strKind
 rw[if_pos]
 simp[h]
def qo:Rk→List Str
 | .bands n ps w=>[("bands":Str),n,jZ ps,w]
 | .ontop n p w r=>[("ontop":Str),n,(toString p:Str),w,("of":Str)]++qo r
 | .flat n a=>[("flat":Str),n,(toString a:Str)]
 | .share n p w=>[("share":Str),n,(toString p:Str),w]
 | .capped n p m w=>[("capped":Str),n,(toString p:Str),(toString m:Str),w]
 | .least n p l w=>[("least":Str),n,(toString p:Str),(toString l:Str),w]
theorem uR (r:Rk):∃ w ws,qo r=w::ws∧w.length ≥ 1:=by
 cases r <;> exact⟨_,_,rfl,by decide +kernel⟩
theorem pp (c:Nat) (x y:Str) (xs ys:List Str):Txt.join ⟨#[c]⟩ (x::xs++[Txt.join ⟨#[c]⟩ (y::ys)])=Txt.join ⟨#[c]⟩ (x::xs++y::ys):=by
 apply Wp
 rw[Ce,Ce,qW,qW,Bc,Bc,Bc,Bc,List.flatten_append,List.flatten_append,Br,List.map_nil,qW]
 simp
theorem xA (r:Rk):j6 r=Txt.join " " (qo r):=by
 induction r with
 | ontop n p w r ih =>
  obtain⟨v,vs,e,_⟩:=uR r
  show Txt.join " " [("ontop":Str),n,(toString p:Str),w,("of":Str),j6 r]=Txt.join " " ([("ontop":Str),n,(toString p:Str),w,("of":Str)]++qo r)
  rw[ih,e,T9]
  exact pp 32 ("ontop":Str) v [n,(toString p:Str),w,("of":Str)] vs
 | _=>rfl
theorem vX (q:Int × Int) (h0:0≤q.1) (h1:0≤q.2):(yq q).cps.toList=dg q.1.toNat++(58::dg q.2.toNat):=by
 unfold yq
 rw[ya,ya,jK h0,jK h1,By]
 rfl
theorem xi (q:Int × Int):yq q=Txt.join ⟨#[58]⟩ [(toString q.1:Str),(toString q.2:Str)]:=by
 apply Wp
 rw[qW]
 unfold yq
 rw[ya,ya]
 simp
 rfl
theorem NF {ps:List (Int × Int)} (ok:Z1 ps):¬ 32∈(jZ ps).cps.toList:=by
 obtain⟨p,r,e⟩:=ok.hd
 have hb:∀ q∈ps,¬ 32∈(yq q).cps.toList:=fun q hq m=>by
  have h:=ok.ok q hq
  rw[vX q h.1.1 h.2.1] at m
  rcases Bt.mp m with m | m
  ·exact UB (.inl (by decide)) _ m
  ·rcases bN.mp m with m | m
   ·exact absurd m (by decide)
   ·exact UB (.inl (by decide)) _ m
 unfold jZ
 rw[e] at hb ⊢
 rw[Br,T7,qW]
 intro m
 rcases Bt.mp m with m | m
 ·exact hb _ Bb m
 ·obtain⟨l,hl,m⟩:=List.mem_flatten.mp m
  obtain⟨v,hv,rfl⟩:=bZ.mp hl
  obtain⟨u,hu,rfl⟩:=bZ.mp hv
  obtain⟨q,hq,rfl⟩:=bZ.mp hu
  rcases bN.mp m with m | m
  ·exact absurd m (by decide)
  ·exact hb q (Bk _ hq) m
theorem oJ {d:Nat} {r:Rk} (g:Gd d r):∀ z∈qo r,¬ 32∈z.cps.toList:=by
 have lit:∀ {z:Str},z.cps.toList.contains 32=false→¬ 32∈z.cps.toList:=fun h m=>by rw[BH.mpr m] at h;cases h
 have sp:∀ {z:Str},q9 z→¬ 32∈z.cps.toList:=fun h=>mU (by decide) h
 have pt:∀ {i:Int},YZ i→¬ 32∈(toString i:Str).cps.toList:=fun h=>Vf (.inl (by decide)) h.1
 have am:∀ {i:Int},JY i→¬ 32∈(toString i:Str).cps.toList:=fun h=>Vf (.inl (by decide)) h.1
 induction g with
 | pln p =>
  intro z hz
  cases p with
  | flat hn ha =>
   simp only[qo,bN,bS,or_false] at hz
   rcases hz with rfl | rfl | rfl
   ·exact lit (by decide +kernel)
   ·exact sp hn
   ·exact am ha
  | share hn hp hw =>
   simp only[qo,bN,bS,or_false] at hz
   rcases hz with rfl | rfl | rfl | rfl
   ·exact lit (by decide +kernel)
   ·exact sp hn
   ·exact pt hp
   ·exact ZG hw
  | capped hn hp ha hw =>
   simp only[qo,bN,bS,or_false] at hz
   rcases hz with rfl | rfl | rfl | rfl | rfl
   ·exact lit (by decide +kernel)
   ·exact sp hn
   ·exact pt hp
   ·exact am ha
   ·exact ZG hw
  | least hn hp ha hw =>
   simp only[qo,bN,bS,or_false] at hz
   rcases hz with rfl | rfl | rfl | rfl | rfl
   ·exact lit (by decide +kernel)
   ·exact sp hn
   ·exact pt hp
   ·exact am ha
   ·exact ZG hw
 | bands hn ok hw =>
  intro z hz
  simp only[qo,bN,bS,or_false] at hz
  rcases hz with rfl | rfl | rfl | rfl
  ·exact lit (by decide +kernel)
  ·exact sp hn
  ·exact NF ok
  ·exact ZG hw
 | ontop hn hp hw _ ih =>
  intro z hz
  rcases Bt.mp hz with hz | hz
  ·simp only[bN,bS,or_false] at hz
   rcases hz with rfl | rfl | rfl | rfl | rfl
   ·exact lit (by decide +kernel)
   ·exact sp hn
   ·exact pt hp
   ·exact ZG hw
   ·exact lit (by decide +kernel)
  ·exact ih z hz
theorem gM {d:Nat} {r:Rk} (g:Gd d r):(qo r).length≤5+5*d:=by
 induction g with
 | pln p=>cases p <;> (simp[qo] <;> try omega)
 | bands=>simp[qo] <;> try omega
 | ontop _ _ _ _ ih =>
  simp[qo] at ih ⊢
  omega
theorem GO {d:Nat} {r:Rk} (g:Gd d r):Txt.split (j6 r) " " = qo r∧partsBetween (j6 r) (occurrences (j6 r) " " 0 (j6 r).length ((j6 r).length+1)) 1=qo r:=by
 obtain⟨w,ws,e,l⟩:=uR r
 have no:=oJ g
 rw[xA,e,T9]
 rw[e] at no
 refine uS (ol (by decide)) (no w Bb) (fun v hv=>no v (Bk _ hv)) ?_
 rw[qF,qW,bP,← qF]
 omega
theorem xC (q:Int × Int) (h0:0≤q.1) (h1:0≤q.2):Txt.split (yq q) ":" = [(toString q.1:Str),(toString q.2:Str)]∧partsBetween (yq q) (occurrences (yq q) ":" 0 (yq q).length ((yq q).length+1)) 1=[(toString q.1:Str),(toString q.2:Str)]:=by
 rw[xi,bC]
 refine uS (ol (by decide)) (Vf (.inr (by decide)) h0) (fun v hv=>?_) ?_
 ·rw[Bf.mp hv]
  exact Vf (.inr (by decide)) h1
 ·rw[qF,qW,bP,jK h0]
  have:=uH q.1.toNat
  omega
theorem VG {ps:List (Int × Int)} (ok:Z1 ps):Txt.split (jZ ps) "," = ps.map yq∧partsBetween (jZ ps) (occurrences (jZ ps) "," 0 (jZ ps).length ((jZ ps).length+1)) 1=ps.map yq:=by
 obtain⟨p,r,e⟩:=ok.hd
 have hb:∀ q∈ps,¬ 44∈(yq q).cps.toList:=fun q hq m=>by
  have h:=ok.ok q hq
  rw[vX q h.1.1 h.2.1] at m
  rcases Bt.mp m with m | m
  ·exact UB (.inl (by decide)) _ m
  ·rcases bN.mp m with m | m
   ·exact absurd m (by decide)
   ·exact UB (.inl (by decide)) _ m
 have h0:=(ok.ok ((0:Int),p) (by rw[e];exact Bb))
 unfold jZ
 rw[e] at hb ⊢
 rw[Br,T7]
 refine uS (ol (by decide)) (hb _ Bb) (fun v hv=>?_) ?_
 ·obtain⟨q,hq,rfl⟩:=bZ.mp hv
  exact hb q (Bk _ hq)
 ·rw[qF,qW,bP,vX _ h0.1.1 h0.2.1,bP,Bi]
  omega
def Nx:V→List V→Hp→VK→Prop:=fun x vs H Q=>∃ z y,x = .str z∧vs=[.str y]∧(y.length==0)=false∧z.length≤sizeLine∧(partsBetween z (occurrences z y 0 z.length (z.length+1)) y.length).length≤sizeLine∧Va H (.lst ((Txt.split z y).map V.str)) Q
def UG:Sp:=fun vs H Q _=>∃ i,vs=[.str (toString i),.int 13]∧JY i∧∀ H',zx H H'→Q (.int i) H'
def wn:Sp:=fun vs H Q _=>∃ i,vs=[.str (toString i)]∧JY i∧∀ H',zx H H'→Q (.int i) H'
def wN:Sp:=fun vs H Q _=>∃ q,vs=[.str (yq q)]∧JY q.1∧YZ q.2∧∀ t H',zx H H'→H t=none→H' t=some (.tup (cB q))→Q (.ref t) H'
def Qp:Sp:=fun vs H Q _=>∃ ps,vs=[.str (jZ ps)]∧Z1 ps∧∀ u H',zx H H'→jW H' u ps→Q (.ref u) H'
def Y5 (K:PySem.W.Frag) (Cs:Nat→Addr):Sp:=fun vs H Q _=>∃ l r,vs=[.ref l]∧z5 K H l ((qo r).map V.str)∧Gd 0 r∧∀ o H',zx H H'→ug Cs H' r o→Q o H'
def Xy (K:PySem.W.Frag):Sp:=fun vs H Q _=>∃ l r d,vs=[.ref l]∧z5 K H l ((qo r).map V.str)∧Gd d r∧Q (.bl (decide (r.kd=5))) H
def vQ (K:PySem.W.Frag) (Cs:Nat→Addr):Nat→Sp
 | 0=>fun _ _ _ _=>False
 | d+1=>fun vs H Q _=>∃ l r dp,vs=[.ref l,.int dp]∧z5 K H l ((qo r).map V.str)∧Gd d r∧0≤dp∧dp+d≤3∧∀ o H',zx H H'→ug Cs H' r o→Q o H'
def vb (Cs:Nat→Addr):Sp:=fun vs H Q _=>∃ r,vs=[.str (j6 r)]∧Gd 3 r∧∀ o H',zx H H'→ug Cs H' r o→Q o H'
end Pg
namespace Pg
open PySem L2
theorem gF {H:Hp} (ps:List (Int × Int)):qP H ((ps.map yq).map V.str) ps (fun _ v q=>v = .str (yq q)):=by
 refine⟨by rw[bM,bM],fun i y e=>?_⟩
 rw[bR,bR] at e
 cases h:ps[i]? with
 | none=>rw[h] at e;cases e
 | some q =>
  rw[h] at e
  cases e
  exact⟨q,rfl,fun _ _=>rfl⟩
theorem Wl {d:Nat} {r:Rk} (g:Gd d r) (k:r.kd≠5):∃ z ws,(qo r).map V.str = .str z::ws∧z≠"ontop":=by
 cases g with
 | pln p=>cases p <;> exact⟨_,_,rfl,by decide +kernel⟩
 | bands=>exact⟨_,_,rfl,by decide +kernel⟩
 | ontop=>exact absurd rfl k
theorem Ln {d:Nat} {r:Rk} (g:Gd d r) (k:r.kd≠5):Gd 0 r:=by
 cases g with
 | pln p=>exact .pln p
 | bands h1 h2 h3=>exact .bands h1 h2 h3
 | ontop=>exact absurd rfl k
theorem oQ (n w:Str) (p:Int) (r:Rk):vm ((qo (.ontop n p w r)).map V.str) (some 5) none=(qo r).map V.str:=by
 have e0:(qo (.ontop n p w r)).map V.str=[V.str "ontop",.str n,.str (toString p),.str w,.str "of"]++(qo r).map V.str:=by
  show (([("ontop":Str),n,(toString p:Str),w,("of":Str)]++qo r).map V.str)=_
  rw[Bc]
  rfl
 unfold vm
 rw[e0,show (5:Int)=((5:Nat):Int) from rfl,HT.vn,HT.Qx,bP]
 have l5:([V.str "ontop",.str n,.str (toString p),.str w,.str "of"]:List V).length=5:=rfl
 rw[l5,BQ (BU _ _)]
 show List.take (5+((qo r).map V.str).length - 5) ((qo r).map V.str)=_
 rw[Nat.add_sub_cancel_left,BD]
end Pg
namespace K14
open PySem PySem.NumText L2 Pg
seal PE PA PT PW PS jw PG um PI ud PO PK
section
variable {P:Program} {w:World} {K:PySem.W.Frag} {mg:Str→Option Value} {base:Heap} {f:Addr} {fd:FuncData} {d:Nat→Addr} {cR:Addr}
theorem PQ (F:qE K "read_number" "read_number" (top 43) f fd) (G:jF mg) (C1:qH P w K mg base zO 2 "is_number_text" ["text"] Xv):zJ P w K mg base zO 3 f fd ["text","most_figures"] UG:=by
 refine F.ok (N:=["text","most_figures"]) ⟨rfl,rfl,rfl,by decide +kernel,rfl,by decide +kernel,by decide +kernel⟩ (fun vs H Q E h=>?_) (fun cdv A outer s H vs Q E hr h=>?_)
 ·obtain⟨i,rfl,_⟩:=h
  rfl
 ·obtain⟨i,rfl,ha,q⟩:=h
  have l:=ub ha
  refine⟨_,zh (zT (PW.pt (vL (zE jD (zt jH rfl G.len boot_len (za (pv 0) zd)) (pv 1) (zD _)) (vt (qD (qz (zj C1 hr (by decide) zu (za (pv 0) zd))))))) qk zC) (zi (zp (z7 QS rfl G.int vf (za (pv 0) zd)))),?_⟩
  refine⟨_,rfl,_,rfl,by rw[sizeLine_eq];omega,_,rfl,_,_,rfl,rfl,_,rfl,yv (fun e=>?_) (fun _=>?_)⟩
  ·have:=of_decide_eq_true e
   omega
  refine⟨_,rfl,_,rfl,by omega,fun H1 s1=>?_⟩
  rw[jK ha.1,MB]
  exact⟨true,rfl,qN ⟨_,rfl,_,i,rfl,PU ha,by omega,q H1 s1⟩⟩
theorem OQ (F:qE K "number_of" "number_of" (top 79) f fd) (N1:kF mg "MOST_FIGURES" 13) (C1:qH P w K mg base zO 3 "read_number" ["text","most_figures"] UG):zJ P w K mg base zO 4 f fd ["word"] wn:=by
 obtain⟨tk,em⟩:=N1
 refine F.ok (N:=["word"]) ⟨rfl,rfl,rfl,by decide +kernel,rfl,by decide +kernel,by decide +kernel⟩ (fun vs H Q E h=>?_) (fun cdv A outer s H vs Q E hr h=>?_)
 ·obtain⟨i,rfl,_⟩:=h
  rfl
 ·obtain⟨i,rfl,ha,q⟩:=h
  exact⟨_,zi (zp (zj C1 hr (by decide) zu (za (pv 0) (za (zZ (v:=.int 13) rfl em ⟨tk,rfl⟩) zd)))),_,rfl,i,rfl,ha,q⟩
theorem Gz (F:qE K "band_of" "band_of" (top 80) f fd) (G:jF mg) (C1:qH P w K mg base zO 4 "number_of" ["word"] wn):zJ P w K mg base zO 5 f fd ["text"] wN:=by
 have nd:(["text","ends"]:List Str).Nodup:=by decide +kernel
 refine F.ok (N:=["text","ends"]) ⟨rfl,rfl,rfl,by decide +kernel,rfl,by decide +kernel,by decide +kernel⟩ (fun vs H Q E h=>?_) (fun cdv A outer s H vs Q E hr h=>?_)
 ·obtain⟨q,rfl,_⟩:=h
  rfl
 ·obtain⟨b,rfl,ha,hp,q⟩:=h
  obtain⟨e1,e2⟩:=xC b ha.1 hp.1
  have bl:=YT ha hp
  refine⟨_,zh (zI (i:=1) nd rfl (Or.inl rfl) (yE PySem.F.plainAttrs_str PySem.F.slot_str_split PySem.F.type_str_split Qb (pv 0) (za zA zd))) (zh (zT (zE XY (zt zR rfl G.len boot_len (za (pv 1) zd)) ze (zD _)) qk zC)
   (zi (zp (qZ (za (zj C1 hr (by decide) zu (za (zB zK (pv 1) ze) zd)) (za (zj C1 hr (by decide) zu (za (zB zK (pv 1) ze) zd)) zd)))))),?_⟩
  refine⟨_,rfl,rfl,_,_,rfl,rfl,rfl,by rw[sizeLine_eq];omega,?_,?_⟩
  ·have e3:((":":Str)).length=1:=by decide +kernel
   rw[e3,e2,sizeLine_eq]
   show 2≤_
   omega
  rw[e1]
  refine fun l H1 s1 n1 g1=>⟨_,rfl,l,_,rfl,.inl (z5.of g1),rfl,_,rfl,qN ?_⟩
  refine⟨_,rfl,l,_,_,_,rfl,rfl,z5.of g1,rfl,_,rfl,ha,fun H2 s2=>⟨_,rfl,l,_,_,_,rfl,rfl,z5.of (s2 _ _ g1),rfl,_,rfl,wb hp,fun H3 s3=>⟨qa rfl,fun t H4 s4 n4 e4=>q t H4 (s1.trans (s2.trans (s3.trans s4))) (v5 (s1.trans (s2.trans s3)) n4) e4⟩⟩⟩
theorem WF (F:qE K "bands_of" "bands_of" (top 81) f fd) (G:jF mg) (C1:qH P w K mg base zO 5 "band_of" ["text"] wN):zJ P w K mg base zO 6 f fd ["word"] Qp:=by
 have nc:(["text"]:List Str).Nodup:=by decide +kernel
 refine F.ok (N:=["word"]) ⟨rfl,rfl,rfl,by decide +kernel,rfl,by decide +kernel,by decide +kernel⟩ (fun vs H Q E h=>?_) (fun cdv A outer s H vs Q E hr h=>?_)
 ·obtain⟨q,rfl,_⟩:=h
  rfl
 ·obtain⟨ps,rfl,ok,q⟩:=h
  obtain⟨e1,e2⟩:=VG ok
  have bl:=(jS ok).2
  have few:=ok.few
  refine' ⟨_,zi (zp (z7 yD rfl G.tuple qX (za ?comp zd))),?main⟩
  case comp =>
   refine' qb (Nc:=["text"]) (cl:=[]) (src:=[none]) (g:=zX 0) (tt:=qC) (te:=fun σ H Q=>qf (zP 0) q8 σ H fun vs H1=>wN vs H1 Q E0)
    ⟨rfl,rfl,by decide +kernel,by decide +kernel,(fun x c z=>nomatch z),qu (by rfl),zQ qc,rfl⟩ rfl (yy (yE PySem.F.plainAttrs_str PySem.F.slot_str_split PySem.F.type_str_split Qb (pv 0) (za zA zd))) ?hb
   case hb =>
    intro fp C' s' H'
    exact⟨zS (i:=0) nc rfl (Or.inl rfl),qi,zj C1 hr (by decide) zu (za (pv 0) zd)⟩
  refine⟨_,rfl,rfl,_,_,rfl,rfl,rfl,by rw[sizeLine_eq];omega,?_,?_⟩
  ·have e3:((",":Str)).length=1:=by decide +kernel
   rw[e3,e2,bM,sizeLine_eq]
   omega
  rw[e1]
  refine fun l H1 s1 n1 g1=>⟨l,rfl,⟨_,z5.of g1⟩,fun D hD=>uk (qT (z5.of g1)) (gF ps) hD (by rw[sizeLine_eq];omega) cB (fun p hp v H2 R s2 e3 r=>?_) (fun zs H2 s2 e3 T=>?_)⟩
  ·subst e3
   exact⟨_,rfl,p,rfl,(ok.ok p hp).1,(ok.ok p hp).2,r⟩
  ·refine⟨D,zs,rfl,.inl ⟨z5.of e3,fun u u0=>?_⟩⟩
   have su:zx H2 (upd H2 u (.tup zs)):=zx.upd u0
   exact q u _ (s1.trans (s2.trans su)) ⟨zs,zm,T.same su⟩
theorem mZ (F:qE K "is_ontop" "is_ontop" (top 83) f fd) (G:jF mg):zJ P w K mg base zO 1 f fd ["words"] (Xy K):=by
 refine F.ok (N:=["words"]) ⟨rfl,rfl,rfl,by decide +kernel,rfl,by decide +kernel,by decide +kernel⟩ (fun vs H Q E h=>?_) (fun cdv A outer s H vs Q E hr h=>?_)
 ·obtain⟨l,r,d,rfl,_⟩:=h
  rfl
 ·obtain⟨l,r,d,rfl,hl,gd,q⟩:=h
  refine⟨_,zi (zp (yI (qB qx (zB zK (pv 0) ze) zA (zD _)) (yI (qB jD (zt zR rfl G.len boot_len (za (pv 0) zd)) ze (zD _)) (yT (qB qx (zB zK (pv 0) ze) zA (zD _)))))),?_⟩
  by_cases k5:r.kd=5
  ·obtain⟨d',n,p,x,r',ed,rfl,_⟩:=pS gd k5
   obtain⟨w',ws,ew,_⟩:=uR r'
   have e0:(qo (.ontop n p x r')).map V.str = .str "ontop" :: .str n :: .str (toString p) :: .str x :: .str "of" :: .str w'::ws.map V.str:=by
    show (([("ontop":Str),n,(toString p:Str),x,("of":Str)]++qo r').map V.str)=_
    rw[ew]
    rfl
   rw[e0] at hl
   rw[decide_eq_true k5] at q
   refine⟨_,rfl,l,_,_,_,rfl,rfl,hl,ZJ rfl,rfl,true,by rw[decide_eq_true rfl],y8 ⟨_,rfl,l,_,rfl,.inl hl,_,_,rfl,rfl,true,?_,y8 ⟨_,rfl,l,_,_,_,rfl,rfl,hl,qV (j:=4) rfl,rfl,?_⟩⟩⟩
   ·exact congrArg V.bl (decide_eq_true (show (5:Int)<((V.str "ontop" :: .str n :: .str (toString p) :: .str x :: .str "of" :: .str w'::ws.map V.str:List V).length:Nat) by simp only[Bi];omega))
   ·rw[decide_eq_true rfl]
    exact q
  ·obtain⟨z,ws,ew,zn⟩:=Wl gd k5
   rw[ew] at hl
   rw[decide_eq_false k5] at q
   refine⟨_,rfl,l,_,_,_,rfl,rfl,hl,ZJ rfl,rfl,false,?_,qN q⟩
   congr 1
   exact decide_eq_false fun e=>zn (V.str.inj e)
set_option maxHeartbeats 4000000 in
theorem gE {Cs:Nat→Addr} (F:qE K "plain_rule" "plain_rule" (top 82) f fd) (G:jF mg) (C1:qH P w K mg base zO 4 "number_of" ["word"] wn) (C2:qH P w K mg base zO 6 "bands_of" ["word"] Qp) (N0:vD P w K mg base zO 5 "Flat" (Cs 0) ["self","name","amount"] (yj 0 Cs)) (N1:vD P w K mg base zO 5 "Share" (Cs 1) ["self","name","parts","way"] (yj 1 Cs)) (N2:vD P w K mg base zO 5 "Capped" (Cs 2) ["self","name","parts","most","way"] (yj 2 Cs)) (N3:vD P w K mg base zO 5 "Least" (Cs 3) ["self","name","parts","least","way"] (yj 3 Cs))
  (N4:vD P w K mg base zO 6 "Bands" (Cs 4) ["self","name","rows","way"] (ZC (Cs 4))):zJ P w K mg base zO 8 f fd ["words"] (Y5 K Cs):=by
 refine F.ok (N:=["words"]) ⟨rfl,rfl,rfl,by decide +kernel,rfl,by decide +kernel,by decide +kernel⟩ (fun vs H Q E h=>?_) (fun cdv A outer s H vs Q E hr h=>?_)
 ·obtain⟨l,r,rfl,_⟩:=h
  rfl
 ·obtain⟨l,r,rfl,hl,gd,q⟩:=h
  have hr6:ym (5+1) (A.deeper _):=hr.mono (by decide)
  refine⟨_,(zh (zT (PW.pt (Qt (zE qx (zB zK (pv 0) ze) zA (zD _)) (wj (zE qx (zt zR rfl G.len boot_len (za (pv 0) zd)) ze (zD _))))) (zi (zp (yF (j:=5) N0 hr6 (by decide) zu (za (zB zK (pv 0) ze) (za (zj C1 hr (by decide) zu (za (zB zK (pv 0) ze) zd)) zd))))) zC)
    (zh (zT (PW.pt (Qt (zE qx (zB zK (pv 0) ze) zA (zD _)) (wj (zE qx (zt zR rfl G.len boot_len (za (pv 0) zd)) ze (zD _))))) (zi (zp (yF (j:=5) N1 hr6 (by decide) zu (za (zB zK (pv 0) ze) (za (zj C1 hr (by decide) zu (za (zB zK (pv 0) ze) zd)) (za (zB zK (pv 0) ze) zd)))))) zC)
    (zh (zT (PW.pt (Qt (zE qx (zB zK (pv 0) ze) zA (zD _)) (wj (zE qx (zt zR rfl G.len boot_len (za (pv 0) zd)) ze (zD _))))) (zi (zp (yF (j:=5) N2 hr6 (by decide) zu (za (zB zK (pv 0) ze) (za (zj C1 hr (by decide) zu (za (zB zK (pv 0) ze) zd)) (za (zj C1 hr (by decide) zu (za (zB zK (pv 0) ze) zd)) (za (zB zK (pv 0) ze) zd))))))) zC)
    (zh (zT (PW.pt (Qt (zE qx (zB zK (pv 0) ze) zA (zD _)) (wj (zE qx (zt zR rfl G.len boot_len (za (pv 0) zd)) ze (zD _))))) (zi (zp (yF (j:=5) N3 hr6 (by decide) zu (za (zB zK (pv 0) ze) (za (zj C1 hr (by decide) zu (za (zB zK (pv 0) ze) zd)) (za (zj C1 hr (by decide) zu (za (zB zK (pv 0) ze) zd)) (za (zB zK (pv 0) ze) zd))))))) zC)
    (zh (zT (PW.pt (Qt (zE qx (zB zK (pv 0) ze) zA (zD _)) (wj (zE qx (zt zR rfl G.len boot_len (za (pv 0) zd)) ze (zD _))))) (zi (zp (yF (j:=6) N4 hr (by decide) zu (za (zB zK (pv 0) ze) (za (zj C2 hr (by decide) zu (za (zB zK (pv 0) ze) zd)) (za (zB zK (pv 0) ze) zd)))))) zC)
    qk))))),?_⟩
  cases gd with
  | pln pl =>
   have pl0:=pl
   cases pl with
   | @flat n a hn ha =>
    exact⟨_,rfl,l,_,_,_,rfl,rfl,hl,rfl,rfl,_,rfl,vH ⟨_,rfl,l,_,rfl,.inl hl,rfl,true,rfl,y8 ⟨_,rfl,l,_,_,_,rfl,rfl,hl,rfl,_,rfl,l,_,_,_,rfl,rfl,hl,rfl,_,rfl,ha,fun H1 s1=>fun o dx o0 d0 ne=>⟨o,dx,.flat n a,rfl,rfl,pl0,zm,fun H' fr e=>⟨rfl,q _ H' (s1.trans (qR o0 d0 fr)) (.pln (b8 rfl) ⟨o,dx,rfl,e⟩)⟩⟩⟩⟩⟩
   | @share n p x hn hp hw =>
    exact⟨_,rfl,l,_,_,_,rfl,rfl,hl,rfl,rfl,_,rfl,qY N9 ⟨_,rfl,l,_,_,_,rfl,rfl,hl,rfl,rfl,_,rfl,vH ⟨_,rfl,l,_,rfl,.inl hl,rfl,true,rfl,y8 ⟨_,rfl,l,_,_,_,rfl,rfl,hl,rfl,_,rfl,l,_,_,_,rfl,rfl,hl,rfl,_,rfl,wb hp,fun H1 s1=>⟨_,rfl,l,_,_,_,rfl,rfl,s1.seq hl,rfl,fun o dx o0 d0 ne=>⟨o,dx,.share n p x,rfl,rfl,pl0,zm,fun H' fr e=>⟨rfl,q _ H' (s1.trans (qR o0 d0 fr)) (.pln (b8 rfl) ⟨o,dx,rfl,e⟩)⟩⟩⟩⟩⟩⟩⟩
   | @capped n p m x hn hp ha hw =>
    exact⟨_,rfl,l,_,_,_,rfl,rfl,hl,rfl,rfl,_,rfl,qY RM ⟨_,rfl,l,_,_,_,rfl,rfl,hl,rfl,rfl,_,rfl,qY rO ⟨_,rfl,l,_,_,_,rfl,rfl,hl,rfl,rfl,_,rfl,vH ⟨_,rfl,l,_,rfl,.inl hl,rfl,true,rfl,y8 ⟨_,rfl,l,_,_,_,rfl,rfl,hl,rfl,_,rfl,l,_,_,_,rfl,rfl,hl,rfl,_,rfl,wb hp,fun H1 s1=>⟨_,rfl,l,_,_,_,rfl,rfl,s1.seq hl,rfl,_,rfl,ha,fun H2 s2=>⟨_,rfl,l,_,_,_,rfl,rfl,(s1.trans s2).seq hl,rfl,fun o dx o0 d0 ne=>⟨o,dx,.capped n p m x,rfl,rfl,pl0,zm,fun H' fr e=>⟨rfl,q _ H' ((s1.trans s2).trans (qR o0 d0 fr)) (.pln (b8 rfl) ⟨o,dx,rfl,e⟩)⟩⟩⟩⟩⟩⟩⟩⟩⟩
   | @least n p m x hn hp ha hw =>
    exact⟨_,rfl,l,_,_,_,rfl,rfl,hl,rfl,rfl,_,rfl,qY Rc ⟨_,rfl,l,_,_,_,rfl,rfl,hl,rfl,rfl,_,rfl,qY RQ ⟨_,rfl,l,_,_,_,rfl,rfl,hl,rfl,rfl,_,rfl,qY RB ⟨_,rfl,l,_,_,_,rfl,rfl,hl,rfl,rfl,_,rfl,vH ⟨_,rfl,l,_,rfl,.inl hl,rfl,true,rfl,y8 ⟨_,rfl,l,_,_,_,rfl,rfl,hl,rfl,_,rfl,l,_,_,_,rfl,rfl,hl,rfl,_,rfl,wb hp,fun H1 s1=>⟨_,rfl,l,_,_,_,rfl,rfl,s1.seq hl,rfl,_,rfl,ha,fun H2 s2=>⟨_,rfl,l,_,_,_,rfl,rfl,(s1.trans s2).seq hl,rfl,fun o dx o0 d0 ne=>⟨o,dx,.least n p m x,rfl,rfl,pl0,zm,fun H' fr e=>⟨rfl,q _ H' ((s1.trans s2).trans (qR o0 d0 fr)) (.pln (b8 rfl) ⟨o,dx,rfl,e⟩)⟩⟩⟩⟩⟩⟩⟩⟩⟩⟩
  | @bands _ n x ps hn ok hw =>
   refine⟨_,rfl,l,_,_,_,rfl,rfl,hl,rfl,rfl,_,rfl,qY Re ⟨_,rfl,l,_,_,_,rfl,rfl,hl,rfl,rfl,_,rfl,qY rZ ⟨_,rfl,l,_,_,_,rfl,rfl,hl,rfl,rfl,_,rfl,qY NY ⟨_,rfl,l,_,_,_,rfl,rfl,hl,rfl,rfl,_,rfl,qY NV ⟨_,rfl,l,_,_,_,rfl,rfl,hl,rfl,rfl,_,rfl,vH ⟨_,rfl,l,_,rfl,.inl hl,rfl,true,rfl,y8 ?_⟩⟩⟩⟩⟩⟩
   exact⟨_,rfl,l,_,_,_,rfl,rfl,hl,rfl,_,rfl,l,_,_,_,rfl,rfl,hl,rfl,ps,rfl,ok,fun u H1 s1 bd=>⟨_,rfl,l,_,_,_,rfl,rfl,s1.seq hl,rfl,fun o dx o0 dx0 ne=>⟨o,dx,n,u,ps,x,rfl,hn,ok,hw,bd.same (zx.made o0 dx0),zm,fun H' u' fr ho' bd'=>⟨rfl,q _ H' (s1.trans (qR o0 dx0 fr)) (.bands ho' bd')⟩⟩⟩⟩
theorem G0 {Cs:Nat→Addr} {j:Nat}:zJ P w K mg base zO j f fd ["words","depth"] (vQ K Cs 0):=⟨fun _ _ _ _ h=>h.elim,fun _ _ _ _ _ _ _ _ _ _ _ _ _ h=>h.elim⟩
theorem uX {Cs:Nat→Addr} {d j:Nat} (hj:17≤j) (F:qE K "rule_of_words" "rule_of_words" (top 84) f fd) (N1:kF mg "MOST_DEPTH" 3) (C1:qH P w K mg base zO 1 "is_ontop" ["words"] (Xy K)) (C2:qH P w K mg base zO 8 "plain_rule" ["words"] (Y5 K Cs)) (C3:qH P w K mg base zO 4 "number_of" ["word"] wn) (C4:qH P w K mg base zO j "rule_of_words" ["words","depth"] (vQ K Cs d)) (N5:vD P w K mg base zO 16 "OnTop" (Cs 5) ["self","name","parts","way","rule"] (ZW 2 Cs)):zJ P w K mg base zO (j+1) f fd ["words","depth"] (vQ K Cs (d+1)):=by
 obtain⟨tk,em⟩:=N1
 have nd:(["words","depth","within"]:List Str).Nodup:=by decide +kernel
 refine F.ok (N:=["words","depth","within"]) ⟨rfl,rfl,rfl,by decide +kernel,rfl,by decide +kernel,by decide +kernel⟩ (fun vs H Q E h=>?_) (fun cdv A outer s H vs Q E hr h=>?_)
 ·obtain⟨l,r,dp,rfl,_⟩:=h
  rfl
 ·obtain⟨l,r,dp,rfl,hl,gd,d0,d3,q⟩:=h
  have hr17:ym (16+1) (A.deeper _):=hr.mono hj
  refine⟨_,(zh (zT (qD (qz (zj C1 hr (by omega) zu (za (pv 0) zd)))) (zi (zp (zj C2 hr (by omega) zu (za (pv 0) zd)))) zC)
    (zh (zT (zE qx (pv 1) (zZ (v:=.int 3) rfl em ⟨tk,rfl⟩) (zD _)) qk zC)
    (zh (zI (i:=2) nd rfl (Or.inl rfl) (zj C4 hr (bK _) zu (za (jv uW (pv 0) (jm ze) uu) (za (zw qj (pv 1) ze) zd))))
    (zi (zp (yF (j:=16) N5 hr17 (by decide) zu (za (zB zK (pv 0) ze) (za (zj C3 hr (by omega) zu (za (zB zK (pv 0) ze) zd)) (za (zB zK (pv 0) ze) (za (pv 2) zd)))))))))),?_⟩
  refine⟨_,rfl,l,r,d,rfl,hl,gd,?_⟩
  by_cases k5:r.kd=5
  ·rw[decide_eq_true k5]
   refine⟨true,rfl,qN ⟨_,rfl,rfl,_,rfl,yv (fun e=>?_) (fun _=>?_)⟩⟩
   ·rw[ux] at e
    obtain⟨d',n,p,x,r',ed,_⟩:=pS gd k5
    omega
   obtain⟨d',n,p,x,r',rfl,rfl,hn,hp,hw,g'⟩:=pS gd k5
   refine⟨_,rfl,_,rfl,l,_,rfl,hl,fun t t0=>?_⟩
   have s1:zx H (upd H t (.lst (vm ((qo (.ontop n p x r')).map V.str) (some 5) none))):=zx.upd t0
   have e1:(upd H t (.lst (vm ((qo (.ontop n p x r')).map V.str) (some 5) none))) t=some (.lst ((qo r').map V.str)):=by rw[zm,oQ]
   generalize upd H t (.lst (vm ((qo (.ontop n p x r')).map V.str) (some 5) none))=H1 at s1 e1
   refine⟨_,rfl,_,_,rfl,rfl,t,r',_,rfl,z5.of e1,g',by show 0≤dp+1;omega,by show dp+1+d'≤3;omega,fun u H2 s2 ru=>?_⟩
   have S2:=s1.trans s2
   have hl2:=S2.seq hl
   refine⟨_,rfl,l,_,_,_,rfl,rfl,hl2,qV (j:=1) rfl,_,rfl,l,_,_,_,rfl,rfl,hl2,qV (j:=2) rfl,_,rfl,wb hp,fun H3 s3=>⟨_,rfl,l,_,_,_,rfl,rfl,s3.seq hl2,qV (j:=3) rfl,_,rfl,fun o dx o0 dx0 ne=>⟨o,dx,n,p,x,u,r',rfl,hn,hp,hw,(ru.same s3).same (zx.made o0 dx0),g'.le (by omega),zm,fun H' u' fr ho' ri'=>⟨rfl,q _ H' (S2.trans (s3.trans (qR o0 dx0 fr))) (.ontop ho' ri')⟩⟩⟩⟩
  ·rw[decide_eq_false k5]
   exact⟨false,rfl,y8 ⟨_,rfl,l,r,rfl,hl,Ln gd k5,q⟩⟩
theorem gN {Cs:Nat→Addr} {j:Nat} (F:qE K "rule_of" "rule_of" (top 85) f fd) (G:jF mg) (C1:qH P w K mg base zO j "rule_of_words" ["words","depth"] (vQ K Cs 4)):zJ P w K mg base zO (j+1) f fd ["text"] (vb Cs):=by
 refine F.ok (N:=["text"]) ⟨rfl,rfl,rfl,by decide +kernel,rfl,by decide +kernel,by decide +kernel⟩ (fun vs H Q E h=>?_) (fun cdv A outer s H vs Q E hr h=>?_)
 ·obtain⟨r,rfl,_⟩:=h
  rfl
 ·obtain⟨r,rfl,gd,q⟩:=h
  obtain⟨e1,e2⟩:=GO gd
  have rl:=Zu gd
  have wl:=gM gd
  refine' ⟨_,zh (zT (qD (qz (zt zG rfl G.isinstance zy (za (pv 0) (za (yg (v:=.ty "str") rfl G.str qG rfl) zd))))) qk zC)
   (zi (LB (tb:=mR fun σ H Q=>qf (bc K "str" Nx (zP 0) (qf (tC (.str " ")) q8)) (qf (tC (.int 0)) q8) σ H fun vs H1=>vQ K Cs 4 vs H1 Q E0) ?body)),?main⟩
  case body =>
   intro pn
   exact zi (zp (zj C1 hr (bK _) zu (za (yE PySem.F.plainAttrs_str PySem.F.slot_str_split PySem.F.type_str_split Qb (pv 0) (za zA zd)) (za ze zd))))
  refine⟨_,rfl,_,_,_,_,true,rfl,rfl,.inl (.str _),rfl,true,rfl,qN ⟨_,rfl,rfl,_,_,rfl,rfl,rfl,by rw[sizeLine_eq];omega,?_,?_⟩⟩
  ·have e3:((" ":Str)).length=1:=by decide +kernel
   rw[e3,e2,sizeLine_eq]
   omega
  rw[e1]
  exact fun l H1 s1 n1 g1=>⟨l,r,0,rfl,z5.of g1,gd,by decide,by decide,fun o H2 s2 ro=>q o H2 (s1.trans s2) ro⟩
end
end K14
namespace Pg
open PySem L2
def Xk:Sp:=fun vs H Q _=>∃ (c:Int) (n:Nat),vs=[.int c,.int (n:Nat)]∧n≤8∧∀ (nms:List Str) l H',nms.length=n→(∀ z∈nms,q9 z)→nms.Nodup→zx H H'→H l=none→H' l=some (.lst (nms.map V.str))→Q (.ref l) H'
theorem ZY {n:Nat} {p:Str→Prop} {t:Nat→Str→Prop} {zs:List V} (h:∀ (i:Nat) u,zs[i]? = some u→∃ k,(List.range n)[i]? = some k∧∃ z,u = .str z∧p z∧t k z):∃ nms:List Str,zs=nms.map V.str∧(∀ z∈nms,p z)∧∀ (i:Nat) z,nms[i]? = some z→t i z:=by
 have h':∀ u∈zs,∃ z,u = .str z∧p z:=fun u hu=>by
  obtain⟨i,hi⟩:=cp.mp hu
  obtain⟨k,_,z,e,hp,_⟩:=h i u hi
  exact⟨z,e,hp⟩
 obtain⟨nms,rfl,hn⟩:=pI h'
 refine⟨nms,rfl,hn,fun i z hz=>?_⟩
 obtain⟨k,hk,z',e,_,ht⟩:=h i (.str z) (by rw[bR,hz];rfl)
 cases e
 obtain⟨hk1,hk2⟩:=bU.mp hk
 rw[cW] at hk2
 subst hk2
 exact ht
theorem Ql {nms:List Str} {t:Nat→Str→Prop} (h:∀ (i:Nat) z,nms[i]? = some z→t i z) (inj:∀ i j z,i<nms.length→j<nms.length→t i z→t j z→i=j):nms.Nodup:=by
 rw[CW,cm]
 intro i j hi hj lt e
 have h1:=h i _ (bO hi)
 have h2:=h j _ (bO hj)
 rw[e] at h1
 have:=inj i j _ hi hj h1 h2
 omega
theorem nW {i j:Nat} {z:Str} (h1:okNames[i]? = some z) (h2:okNames[j]? = some z):i=j:=by
 have nd:okNames.Nodup:=by decide +kernel
 obtain⟨a,e1⟩:=bU.mp h1
 obtain⟨b,e2⟩:=bU.mp h2
 have pw:=cm.mp (CW.mp nd)
 rcases Nat.lt_trichotomy i j with lt | e | lt
 ·exact absurd (e1.trans e2.symm) (pw i j a b lt)
 ·exact e
 ·exact absurd (e2.trans e1.symm) (pw j i b a lt)
def tX (a b:Str × Int):Bool:=bb a.1 b.1
def mP (prs:List (Str × Int)):List (Str × Int):=prs.mergeSort tX
theorem wW (prs:List (Str × Int)):(mP prs).Perm prs:=List.mergeSort_perm prs tX
theorem PV (prs:List (Str × Int)):(mP prs).Pairwise fun a b=>¬ b.1.cps.toList<a.1.cps.toList:=by
 refine (List.pairwise_mergeSort (le:=tX) (fun a b c h1 h2=>?_) (fun a b=>?_) prs).imp fun h=>of_decide_eq_true h
 ·have h1:a.1.cps.toList≤b.1.cps.toList:=of_decide_eq_true h1
  have h2:b.1.cps.toList≤c.1.cps.toList:=of_decide_eq_true h2
  exact decide_eq_true (show a.1.cps.toList≤c.1.cps.toList from List.le_trans h1 h2)
 ·rw[Bool.or_eq_true]
  rcases List.le_total a.1.cps.toList b.1.cps.toList with h | h
  ·exact .inl (decide_eq_true h)
  ·exact .inr (decide_eq_true h)
theorem LU {prs:List (Str × Int)} (nd:(prs.map (·.1)).Nodup) {a b:Str × Int} (ha:a∈prs) (hb:b∈prs) (e:a.1=b.1):a=b:=by
 induction prs with
 | nil=>cases ha
 | cons p r ih =>
  have nd:=BF.mp nd
  rcases bN.mp ha with rfl | _
  ·rcases bN.mp hb with rfl | hb
   ·rfl
   ·exact absurd (bZ.mpr ⟨b,hb,e.symm⟩) nd.1
  ·rename_i ha'
   rcases bN.mp hb with eb | hb'
   ·exact absurd (bZ.mpr ⟨a,ha',e.trans (congrArg Prod.fst eb)⟩) nd.1
   ·exact ih nd.2 ha' hb'
theorem UY {qs prs:List (Str × Int)} (p:qs.Perm prs) (s:qs.Pairwise fun a b=>¬ b.1.cps.toList<a.1.cps.toList) (nd:(prs.map (·.1)).Nodup):qs=mP prs :=
 List.Perm.eq_of_pairwise (fun a b ha hb e1 e2=>LU nd (p.mem_iff.mp ha) ((wW prs).mem_iff.mp hb) (nq e1 e2)) s (PV prs) (p.trans (wW prs).symm)
def yB (rs:List Rk) (bs:List Int):List (Str × Int):=rs.map fun r=>(r.name,gL r bs)
def JN (rs:List Rk) (bs:List Int):List (Str × Int):=mP (yB rs bs)
structure uQ (rs:List Rk):Prop where
 gd:∀ r∈rs,Gd 3 r
 nd:(rs.map Rk.name).Nodup
 few:rs.length≤8
theorem OL {rs:List Rk} (h:uQ rs) (bs:List Int):((yB rs bs).map (·.1)).Nodup:=by
 unfold yB
 rw[b6]
 exact h.nd
theorem X8 {rs:List Rk} (h:uQ rs) (bs:List Int):(JN rs bs).length≤8:=by
 unfold JN
 rw[(wW _).length_eq,yB,bM]
 exact h.few
def kg (Cs:Nat→Addr) (H:Hp) (l:Addr) (rs:List Rk):Prop:=∃ ys,H l=some (.lst ys)∧qP H ys rs (fun H' v r=>ug Cs H' r v)
def wv (H:Hp) (l:Addr) (rs:List Rk):Prop:=∃ ys,H l=some (.lst ys)∧qP H ys rs (fun H' v r=>Zg H' r v)
theorem kg.same {Cs:Nat→Addr} {H H':Hp} {l:Addr} {rs:List Rk} (s:zx H H') (h:kg Cs H l rs):kg Cs H' l rs:=by
 obtain⟨ys,e,T⟩:=h
 exact⟨ys,s _ _ e,T.same s⟩
theorem wv.same {H H':Hp} {l:Addr} {rs:List Rk} (s:zx H H') (h:wv H l rs):wv H' l rs:=by
 obtain⟨ys,e,T⟩:=h
 exact⟨ys,s _ _ e,T.same s⟩
def vN (H:Hp) (v:V) (prs:List (Str × Int)):Prop:=∃ t ys,v = .ref t∧H t=some (.tup ys)∧z4 H ys (prs.map cP)
theorem vN.same {H H':Hp} {v:V} {prs:List (Str × Int)} (s:zx H H') (h:vN H v prs):vN H' v prs:=by
 obtain⟨t,ys,e,h,T⟩:=h
 exact⟨t,ys,e,s _ _ h,T.same s⟩
def vY (bs:List Int):Int:=bs.getLast?.getD 0
def Np (b:Int) (prs:List (Str × Int)):Int:=b - (prs.map (·.2)).sum
def Rl (H:Hp) (v:V) (rs:List Rk) (bs:List Int):Prop:=∃ t u,v = .ref t∧H t=some (.tup [.int (vY bs),u,.int (Np (vY bs) (JN rs bs))])∧vN H u (JN rs bs)
def Qo (K:PySem.W.Frag) (Cs:Nat→Addr):Sp:=fun vs H Q _=>∃ (l b:Addr) (rs:List Rk) (bs:List Int),vs=[.ref l,.ref b]∧kg Cs H l rs∧uQ rs∧z5 K H b (bs.map V.int)∧bs.length≤100∧∀ v H',zx H H'→vN H' v (JN rs bs)→Q v H'
def Xd (K:PySem.W.Frag) (Cs:Nat→Addr):Sp:=fun vs H Q _=>∃ (l b:Addr) (rs:List Rk) (bs:List Int),vs=[.ref l,.ref b]∧kg Cs H l rs∧uQ rs∧z5 K H b (bs.map V.int)∧bs.length≤100∧∀ v H',zx H H'→Rl H' v rs bs→Q v H'
def Ug (K:PySem.W.Frag):Sp:=fun vs H Q _=>∃ (l b:Addr) (rs:List Rk) (bs:List Int),vs=[.ref l,.ref b]∧wv H l rs∧uQ rs∧z5 K H b (bs.map V.int)∧bs.length≤100∧lh bs∧∀ v H',zx H H'→vN H' v (JN rs bs)→Q v H'
def XA:Sp:=fun vs H Q _=>∃ b v prs,vs=[.int b,v]∧vN H v prs∧prs.length≤8∧∀ H',zx H H'→Q (.int (Np b prs)) H'
def YK:Sp:=fun vs H Q _=>∃ u v prs,vs=[u,v]∧vN H u prs∧vN H v prs∧prs.length≤8∧∀ H',zx H H'→Q (.bl true) H'
theorem Zg.name {H:Hp} {r:Rk} {v:V} {d:Nat} (h:Zg H r v) (g:Gd d r):∃ t l,v = .ref t∧H t=some (.tup l)∧atI l 1=some (.str r.name):=by
 cases h with
 | pln k h =>
  obtain⟨t,rfl,h⟩:=h
  exact⟨t,_,rfl,h,Nt (g.pl k)⟩
 | bands h b=>exact⟨_,_,rfl,h,rfl⟩
 | ontop h b=>exact⟨_,_,rfl,h,rfl⟩
theorem Oc {K:PySem.W.Frag} {H:Hp} {v:V} {prs:List (Str × Int)} (h:vN H v prs):Is K H 2 v (.t (prs.map fun p=>Dt.t ((cP p).map Dt.v))):=by
 obtain⟨t,ys,rfl,h,T⟩:=h
 refine .t (qg.of h) (by rw[T.len,bM,bM]) fun i x e e1 e2=>?_
 rw[bR] at e2
 obtain⟨p,hp',rfl⟩:=bX.mp e2
 obtain⟨a,h1,h2⟩:=T.at_ i (cP p) (by rw[bR,hp'];rfl)
 rw[e1] at h1
 cases h1
 exact Is.flatT (qg.of h2) rfl
end Pg
namespace K14
open PySem PySem.NumText L2 Pg
seal PE PA PT PW PS jw PG um PI ud PO PK
section
variable {P:Program} {w:World} {K:PySem.W.Frag} {mg:Str→Option Value} {base:Heap} {f:Addr} {fd:FuncData} {d:Nat→Addr} {cR:Addr}
theorem Va.up {H H1:Hp} {o:HO} {Q:VK} (r:Va H o Q) (s:zx H H1):Va H1 o Q:=fun p H2 s2 n e=>r p H2 (s.trans s2) (v5 s n) e
set_option maxHeartbeats 4000000 in
theorem pA {Cs:Nat→Addr} {j:Nat} (F:qE K "dues_of" "dues_of" (top 52) f fd) (G:jF mg) (CL:∀ k,k<6→uT K (Cs k)) (NM:∀ k,k<6→zU K (Cs k) "name") (MO:∀ k,k<6→qO P w K mg base zO j (Cs k) "of_month" ["self","bases"] (JK K 3 k Cs)):zJ P w K mg base zO (j+1) f fd ["rules","bases"] (Qo K Cs):=by
 have nc:(["rule","bases"]:List Str).Nodup:=by decide +kernel
 refine F.ok (N:=["rules","bases"]) ⟨rfl,rfl,rfl,by decide +kernel,rfl,by decide +kernel,by decide +kernel⟩ (fun vs H Q E h=>?_) (fun cdv A outer s H vs Q E hr h=>?_)
 ·obtain⟨l,b,rs,bs,rfl,_⟩:=h
  rfl
 ·obtain⟨l,b,rs,bs,rfl,⟨ys,hl,T⟩,ok,hb,bl,q⟩:=h
  have few:=ok.few
  refine' ⟨_,(zi (zp (z7 yD rfl G.tuple qX (za (zt Qu rfl G.sorted PyProof.Rows.boot_sorted (za ?comp zd)) zd)))),?main⟩
  case comp =>
   refine' qb (Nc:=["rule","bases"]) (cl:=[("bases",s.heap.objs.size+1)]) (src:=[none,some 1]) (wi:=vG K (zP 0)) (g:=zX 0) (tt:=qC) (te:=Um (qf (OB K (zP 0) "name") (qf (fun σ H Q=>∃ k,k<6∧RS (Cs k) "of_month" (JK K 3 k Cs) E0 (zP 0) (qf (zP 1) q8) σ H Q) q8)))
    ⟨rfl,rfl,by decide +kernel,by decide +kernel,ja (wG rfl),qu (by rfl),zQ (qt ⟨_,rfl,rfl,rfl,rfl⟩ qc),rfl⟩ rfl (yy (pv 0)) ?hb
   case hb =>
    intro fp C' s' H'
    exact⟨zS (i:=0) nc rfl (Or.inl rfl),qi,qZ (za (zN (pv 0) rfl) (za (uw (p:=fun k=>k<6) fun k hk=>vk (MO k hk) hr (bK _) zu (pv 0) (za (pv 1) zd)) zd))⟩
  dsimp (config:={ proj:=false,iota:=false,beta:=false,eta:=false }) only [jd,j5]
  refine⟨_,rfl,l,rfl,⟨_,z5.of hl⟩,fun D hD=>uk (qT (z5.of hl)) T hD (by rw[sizeLine_eq];omega) (fun r=>cP (r.name,gL r bs)) (fun r hm v H1 R s1 ro k=>?_) (fun zs H1 s1 e1 T1=>?_)⟩
  ·have gd:=ok.gd r hm
   obtain⟨oa,dx,fs,rfl,ho,nm,no⟩:=ro.obj gd
   have k6:=Mw r
   exact⟨_,rfl,oa,_,dx,fs,_,rfl,ho,CL _ k6,NM _ k6,nm,r.kd,k6,_,rfl,oa,dx,fs,rfl,ho,no "of_month" (by decide),_,rfl,_,r,b,bs,rfl,rfl,ro,gd,s1.seq hb,bl,fun H2 s2=>⟨qa rfl,Va.up k s2⟩⟩
  ·have T2:z4 H1 zs ((yB rs bs).map cP):=by
    unfold yB
    rw[b6]
    exact T1
   have nd:=OL ok bs
   have zl:zs.length=(yB rs bs).length:=by rw[T2.len,bM]
   have pl:(yB rs bs).length=rs.length:=by unfold yB;rw[bM]
   refine⟨D,zs,_,_,rfl,z5.of e1,by omega,X5 T2 nd,fun is pm up a H2 s2 n2 e2=>?_⟩
   obtain⟨pq,T3⟩:=Qc T2 pm
   have up:(is.map (G6 (yB rs bs))).Pairwise (fun a b=>¬ b.1.cps.toList<a.1.cps.toList):=CJ.mpr up
   rw[UY pq up nd] at T3
   refine⟨a,_,rfl,.inl ⟨z5.of e2,fun t t0=>?_⟩⟩
   have s3:zx H2 (upd H2 t (.tup (is.map fun i=>zs.getD i V.non))):=zx.upd t0
   exact q _ _ (s1.trans (s2.trans s3)) ⟨t,_,rfl,zm,(T3.same s2).same s3⟩
theorem lZ {Cs:Nat→Addr} {j:Nat} (F:qE K "month_row" "month_row" (top 53) f fd) (G:jF mg) (C1:qH P w K mg base zO j "dues_of" ["rules","bases"] (Qo K Cs)):zJ P w K mg base zO (j+1) f fd ["rules","bases"] (Xd K Cs):=by
 have nd:(["rules","bases","base","dues","net"]:List Str).Nodup:=by decide +kernel
 have nc:(["name","due"]:List Str).Nodup:=by decide +kernel
 refine F.ok (N:=["rules","bases","base","dues","net"]) ⟨rfl,rfl,rfl,by decide +kernel,rfl,by decide +kernel,by decide +kernel⟩ (fun vs H Q E h=>?_) (fun cdv A outer s H vs Q E hr h=>?_)
 ·obtain⟨l,b,rs,bs,rfl,_⟩:=h
  rfl
 ·obtain⟨l,b,rs,bs,rfl,ro,ok,hb,bl,q⟩:=h
  refine' ⟨_,(zh (zI (i:=2) nd rfl (Or.inl rfl) (pi (zE jD (zt zR rfl G.len boot_len (za (pv 1) zd)) ze (zD _)) (zB zK (pv 1) (uD j0 ze)) ze))
    (zh (zI (i:=3) nd rfl (Or.inl rfl) (zj C1 hr (bK _) zu (za (pv 0) (za (pv 1) zd))))
    (zh (zI (i:=4) nd rfl (Or.inl rfl) (zw ua (pv 2) (zt (yN rfl) rfl G.sum jt (za ?comp zd))))
    (zi (zp (qZ (za (pv 2) (za (pv 3) (za (pv 4) zd))))))))),?main⟩
  case comp =>
   refine' qb (Nc:=["name","due"]) (cl:=[]) (src:=[none,none]) (wi:=Z2 K (zP 3)) (g:=JT K 2 (jp (zX 0) (jp (zX 1) Jn))) (tt:=qC) (te:=zP 1)
    ⟨rfl,rfl,by decide +kernel,by decide +kernel,(fun x c z=>nomatch z),qu (by rfl),zQ (zQ qc),rfl⟩ rfl (jY (pv 3)) ?hb
   case hb =>
    intro fp C' s' H'
    exact⟨JF rfl (js (zS (i:=0) nc rfl (Or.inl rfl)) (js (zS (i:=1) nc rfl (Or.inl rfl)) Zd)),qi,pv 1⟩
  have dl:=X8 ok bs
  have rest:∀ {D:jN},D.rt=Q→lP (Pa (fun σ H Q=>qf (zP 0) (qf (zP 1) q8) σ H fun vs H1=>Qo K Cs vs H1 Q E0) (zX 3)) (lP (Pa (jB (Yw fun i j=>.int (i - j)) (zP 2) (lY (fun xs H Q=>∃ (a:Addr) (ns:List Int),xs=[.ref a]∧z5 K H a (ns.map V.int)∧Q (.int ns.sum) H) (qf (WG [none,none] (Z2 K (zP 3)) (JT K 2 (jp (zX 0) (jp (zX 1) Jn))) qC (zP 1)) q8))) (zX 4)) (mR (Um (qf (zP 2) (qf (zP 3) (qf (zP 4) q8)))))) D [some (.ref l),some (.ref b),some (.int (vY bs)),none,none] H:=by
   intro D eD
   refine⟨_,rfl,_,rfl,l,b,rs,bs,rfl,ro,ok,hb,bl,fun v H1 s1 du=>?_⟩
   obtain⟨t,ys,rfl,ht,T⟩:=id du
   refine⟨_,rfl,_,rfl,t,rfl,⟨_,qg.of ht⟩,fun D2 hD2=>VQ (yS (qg.of ht)) T hD2 (by rw[sizeLine_eq];omega) (fun p=>V.int p.2) (fun p hp H2 R s2 r=>⟨_,rfl,r H2 (zx.refl _)⟩) (fun H2 s2 e2=>?_)⟩
   have e2':H2 D2=some (.lst (((JN rs bs).map (·.2)).map V.int)):=by rw[e2,b6];rfl
   refine⟨D2,_,rfl,z5.of e2',_,_,rfl,rfl,_,rfl,_,rfl,_,rfl,qa rfl,fun p H3 s3 n3 e3=>?_⟩
   rw[eD]
   exact q _ H3 (s1.trans (s2.trans s3)) ⟨p,_,rfl,e3,(du.same s2).same s3⟩
  cases hbs:bs.getLast? with
  | none =>
   have e0:bs=[]:=List.getLast?_eq_none_iff.mp hbs
   have lb:vY bs=0:=by unfold vY;rw[hbs];rfl
   rw[lb] at rest
   refine⟨_,rfl,b,_,rfl,.inl hb,_,_,rfl,rfl,_,rfl,yv (fun e=>?_) (fun _=>?_)⟩
   ·have e:=of_decide_eq_true e
    rw[e0] at e
    exact absurd e (by decide)
   ·exact rest rfl
  | some x =>
   have lb:vY bs=x:=by unfold vY;rw[hbs];rfl
   rw[lb] at rest
   obtain⟨ds,e0⟩:∃ ds,bs=ds++[x]:=List.getLast?_eq_some_iff.mp hbs
   refine⟨_,rfl,b,_,rfl,.inl hb,_,_,rfl,rfl,_,rfl,yv (fun _=>?_) (fun e=>?_)⟩
   ·refine⟨_,rfl,_,rfl,b,_,_,.int x,rfl,rfl,hb,?_,rest rfl⟩
    rw[e0,Bc]
    exact Ue _ _
   ·exact absurd (decide_eq_true (show (0:Int)<((bs.map V.int).length:Nat) by rw[bM,e0,bP,Bu];omega)) e
end
end K14
namespace K14
open PySem PySem.NumText L2 Pg
seal PE PA PT PW PS jw PG um PI ud PO PK
section
variable {P:Program} {w:World} {K:PySem.W.Frag} {mg:Str→Option Value} {base:Heap} {f:Addr} {fd:FuncData} {d:Nat→Addr} {cR:Addr}
theorem QK {cM:Addr} (F:qE K "need_month" "need_month" (top 48) f fd) (X:Er K mg "BadMonth" cM) (N1:kF mg "LAST_MONTH" 119999) (C1:qH P w K mg base zO 2 "is_number_within" ["thing","least","most"] (j8 K)):zJ P w K mg base (xq P w) 3 f fd ["thing"] (XX K cM 119999):=by
 obtain⟨tm,hm⟩:=N1
 refine F.okE (N:=["thing"]) ⟨rfl,rfl,rfl,by decide +kernel,rfl,by decide +kernel,by decide +kernel⟩ (fun vs H Q E h=>?_) (fun cdv A outer s H vs Q E hr h=>?_)
 ·obtain⟨v,rfl,_⟩:=h
  rfl
 ·obtain⟨v,rfl,h⟩:=h
  refine⟨_,zi (zT (qD (qz (zj C1 hr (by decide) zu (za (pv 0) (za ze (za (zZ (v:=.int 119999) rfl hm ⟨_,rfl⟩) zd)))))) (zi (Vv wE rfl rfl X.at' X.ex (za zA zd))) zC),?_⟩
  rcases h with ⟨z,rfl,h0,h1,q⟩ | ⟨nn | ⟨z,rfl,h0⟩,q⟩
  ·refine⟨_,rfl,_,_,_,rfl,.inl ⟨z,rfl,_,rfl,?_⟩⟩
   rw[decide_eq_true (show (0:Int)≤z∧z≤119999 from ⟨h0,h1⟩)]
   exact qN q
  ·exact⟨_,rfl,_,_,_,rfl,.inr ⟨nn,false,rfl,y8 ⟨by decide,q⟩⟩⟩
  ·refine⟨_,rfl,_,_,_,rfl,.inl ⟨z,rfl,_,rfl,?_⟩⟩
   rw[decide_eq_false h0]
   exact y8 ⟨by decide,q⟩
end
end K14
namespace K14
open PySem PySem.NumText L2 Pg
seal PE PA PT PW PS jw PG um PI ud PO PK
section
variable {P:Program} {w:World} {K:PySem.W.Frag} {mg:Str→Option Value} {base:Heap} {f:Addr} {fd:FuncData} {d:Nat→Addr} {cR:Addr}
theorem xh {cM:Addr} (F:qE K "year_of" "year_of" (top 50) f fd) (N1:kF mg "YEAR_MONTHS" 12) (C1:qH P w K mg base (xq P w) 3 "need_month" ["thing"] (XX K cM 119999)):zJ P w K mg base (xq P w) 4 f fd ["month"] (ZH K cM):=by
 obtain⟨tm,hm⟩:=N1
 refine F.okE (N:=["month"]) ⟨rfl,rfl,rfl,by decide +kernel,rfl,by decide +kernel,by decide +kernel⟩ (fun vs H Q E h=>?_) (fun cdv A outer s H vs Q E hr h=>?_)
 ·obtain⟨v,rfl,_⟩:=h
  rfl
 ·obtain⟨v,rfl,h⟩:=h
  refine⟨_,zh (qv (zj C1 hr (by decide) X9 (za (pv 0) zd))) (zi (zp (zw qK (pv 0) (zZ (v:=.int 12) rfl hm ⟨_,rfl⟩)))),?_⟩
  rcases h with ⟨z,rfl,h0,h1,q⟩ | ⟨nn,q⟩
  ·exact⟨_,rfl,_,rfl,.inl ⟨z,rfl,h0,h1,_,rfl,_,_,rfl,rfl,⟨by decide,by decide⟩,q⟩⟩
  ·exact⟨_,rfl,_,rfl,.inr ⟨nn,q⟩⟩
end
end K14
namespace L2
open PySem PySem.Spec PyProof.Rows
section
variable {X:Cx} {pins:List (Addr × Obj)} {σ:St} {H:Hp} {s:Shared}
end
section
variable {X:Cx}
end
end L2
namespace Pg
open PySem L2
theorem xz.items {α:Type} {H:Hp} {zs:List V} {xs:List α} {S:Hp→V→α→Prop} (M:xz H zs xs S) (mono:∀ H',zx H H'→∀ v x,S H v x→S H' v x):qP H zs xs S:=by
 refine⟨M.len,fun i y e=>?_⟩
 have hi:i<xs.length:=by rw[← M.len];exact (bU.mp e).1
 obtain⟨u,h1,h2⟩:=M.at_ i _ (bO hi)
 rw[e] at h1
 cases h1
 exact⟨_,bO hi,fun H' s=>mono H' s _ _ h2⟩
theorem Ua {H:Hp} {zs:List V} {n:Nat} {P:Hp→V→Rk→Prop} {q:Nat→Rk→Prop} (M:xz H zs (List.range n) (fun H u k=>∃ r,P H u r∧q k r)):∃ rs:List Rk,rs.length=n∧(∀ (i:Nat) r,rs[i]? = some r→q i r∧∃ u,zs[i]? = some u∧P H u r):=by
 have h:∀ k,∃ r,k<n→q k r∧∃ u,zs[k]? = some u∧P H u r:=fun k=>by
  by_cases hk:k<n
  ·obtain⟨u,h1,r,h2,h3⟩:=M.at_ k k (by rw[bO (by rw[Bm];exact hk),cW])
   exact⟨r,fun _=>⟨h3,u,h1,h2⟩⟩
  ·exact⟨.flat "a" 0,fun z=>absurd z hk⟩
 obtain⟨f,hf⟩:∃ f:Nat→Rk,∀ k,k<n→q k (f k)∧∃ u,zs[k]? = some u∧P H u (f k):=⟨fun k=>(h k).choose,fun k hk=>(h k).choose_spec hk⟩
 refine⟨(List.range n).map f,by rw[bM,Bm],fun i r e=>?_⟩
 rw[bR] at e
 obtain⟨k,h1,rfl⟩:=bX.mp e
 obtain⟨hk1,hk2⟩:=bU.mp h1
 rw[cW] at hk2
 subst hk2
 rw[Bm] at hk1
 exact hf i hk1
def YH (K:PySem.W.Frag):Sp:=fun vs H Q _=>∃ (c:Int) (ln:Addr) (nms:List Str) (mo:Nat),vs=[.int c,.ref ln,.int (mo:Nat)]∧mo≤8∧z5 K H ln (nms.map V.str)∧nms.length=8∧(∀ z∈nms,q9 z)∧nms.Nodup∧∀ l rs H',uQ rs→zx H H'→H l=none→wv H' l rs→Q (.ref l) H'
end Pg
namespace L2
open PySem
theorem vD.mono {P:Program} {w:World} {K:PySem.W.Frag} {mg:Str→Option Value} {base:Heap} {CX:wf} {j k:Nat} {C:Addr} {x:Str} {ps:List Str} {sp:Sp} (M:vD P w K mg base CX j x C ps sp) (h:j≤k):vD P w K mg base CX k x C ps sp:=by
 obtain⟨a,f,fd,b,c,F⟩:=M
 exact⟨a,f,fd,b,c,F.mono h⟩
end L2
namespace Pg
open PySem L2
theorem G5 {a b:Nat} (h:(!(Nat.beq a b))=true):a≠b:=fun e=>by
 subst e
 rw[Nat.beq_refl] at h
 cases h
section
variable {P:Program} {w:World} {K:PySem.W.Frag} {mg:Str→Option Value} {base:Heap} {CX:wf} {j d:Nat} {Cs:Nat→Addr}
theorem LI {K:PySem.W.Frag} {d e k:Nat} {Cs:Nat→Addr} (h:d≤e):∀ vs H Q E,yW K d k Cs vs H Q E→yW K e k Cs vs H Q E:=by
 rintro vs H Q E ⟨v,r,b,bs,rfl,h1,h2,h3,h4⟩
 exact⟨v,r,b,bs,rfl,h1,h2,h3.le h,h4⟩
theorem u5 {d e k:Nat} {Cs:Nat→Addr} (h:d≤e):∀ vs H Q E,yo d k Cs vs H Q E→yo e k Cs vs H Q E:=by
 rintro vs H Q E ⟨v,r,rfl,h1,h2,h3,h4⟩
 exact⟨v,r,rfl,h1,h2,h3.le h,h4⟩
theorem wg {d e k:Nat} {Cs:Nat→Addr} (h:d≤e):∀ vs H Q E,qU d k Cs vs H Q E→qU e k Cs vs H Q E:=by
 rintro vs H Q E ⟨v,r,rfl,h1,h2,h3,h4⟩
 exact⟨v,r,rfl,h1,h2,h3.le h,h4⟩
theorem XU (U0:qO P w K mg base CX 5 (Cs 0) "until" ["self","bases"] (vB K 0 Cs)) (U1:qO P w K mg base CX 5 (Cs 1) "until" ["self","bases"] (vB K 1 Cs)) (U2:qO P w K mg base CX 5 (Cs 2) "until" ["self","bases"] (vB K 2 Cs)) (U3:qO P w K mg base CX 5 (Cs 3) "until" ["self","bases"] (vB K 3 Cs)) (U4:qO P w K mg base CX 4 (Cs 4) "until" ["self","bases"] (yW K 3 4 Cs)) (hd:d≤3) (hj:5≤j) (U5:qO P w K mg base CX j (Cs 5) "until" ["self","bases"] (yW K d 5 Cs)) :
  ∀ k,k<6→qO P w K mg base CX j (Cs k) "until" ["self","bases"] (yW K d k Cs) :=
 wV ((U0.imp (Jj (by decide))).mono hj) ((U1.imp (Jj (by decide))).mono hj) ((U2.imp (Jj (by decide))).mono hj) ((U3.imp (Jj (by decide))).mono hj) ((U4.imp (LI hd)).mono (by omega)) U5
theorem G8 (D0:qO P w K mg base CX 1 (Cs 0) "depth" ["self"] (yo 3 0 Cs)) (D1:qO P w K mg base CX 1 (Cs 1) "depth" ["self"] (yo 3 1 Cs)) (D2:qO P w K mg base CX 1 (Cs 2) "depth" ["self"] (yo 3 2 Cs)) (D3:qO P w K mg base CX 1 (Cs 3) "depth" ["self"] (yo 3 3 Cs)) (D4:qO P w K mg base CX 1 (Cs 4) "depth" ["self"] (yo 3 4 Cs)) (hd:d≤3) (hj:1≤j) (D5:qO P w K mg base CX j (Cs 5) "depth" ["self"] (yo d 5 Cs)) :
  ∀ k,k<6→qO P w K mg base CX j (Cs k) "depth" ["self"] (yo d k Cs) :=
 wV ((D0.imp (u5 hd)).mono hj) ((D1.imp (u5 hd)).mono hj) ((D2.imp (u5 hd)).mono hj) ((D3.imp (u5 hd)).mono hj) ((D4.imp (u5 hd)).mono hj) D5
theorem OM (T0:qO P w K mg base CX 7 (Cs 0) "twin" ["self"] (qU 3 0 Cs)) (T1:qO P w K mg base CX 7 (Cs 1) "twin" ["self"] (qU 3 1 Cs)) (T2:qO P w K mg base CX 7 (Cs 2) "twin" ["self"] (qU 3 2 Cs)) (T3:qO P w K mg base CX 7 (Cs 3) "twin" ["self"] (qU 3 3 Cs)) (T4:qO P w K mg base CX 8 (Cs 4) "twin" ["self"] (qU 3 4 Cs)) (hd:d≤3) (hj:8≤j) (T5:qO P w K mg base CX j (Cs 5) "twin" ["self"] (qU d 5 Cs)) :
  ∀ k,k<6→qO P w K mg base CX j (Cs k) "twin" ["self"] (qU d k Cs) :=
 wV ((T0.imp (wg hd)).mono (by omega)) ((T1.imp (wg hd)).mono (by omega)) ((T2.imp (wg hd)).mono (by omega)) ((T3.imp (wg hd)).mono (by omega)) ((T4.imp (wg hd)).mono hj) T5
end
end Pg
namespace L2
open PySem PySem.Spec PyProof.Rows
section
variable {X:Cx} {pins:List (Addr × Obj)} {σ:St} {H:Hp} {s:Shared} {d:Addr} {kvs:List (yJ × V)} {o:Obj}
theorem zH.thaw (I:zH X pins σ H s) (n:∀ o u,X.H₀ d≠some (.frz o u)) (hd:H d=some (.frz o (.dK kvs))):zH X pins σ (upd H d (.dK kvs)) s:=by
 have ok:=I.hok d _ hd
 have ne:∀ b (u:HO),H b=some u→(∀ o k,u≠.frz o k)→b≠d:=fun b u q n' e=>by
  subst e
  rw[hd] at q
  exact n' _ _ (Option.some.inj q).symm
 have nn:∀ b,H b=none→b≠d:=fun b q e=>by rw[e,hd] at q;cases q
 refine⟨I.ok,I.os,I.bare,⟨I.base.keep,I.base.slot,fun b u q n hx=>?_,I.base.there,fun b ys q=>?_,fun b u v q=>?_,fun b ps q=>?_⟩,I.loc,I.cell,?_,fun x c q=>?_,fun p hp=>?_,fun b u q=>?_,I.len⟩
 ·have z:=I.base.free b u q n hx
  rw[zq (nn b z)];exact z
 ·have z:=I.base.tups b ys q
  rw[zq (ne _ _ z fun _ _ e=>nomatch e)];exact z
 ·have z:=I.base.frzs b u v q
  rw[zq (fun e=>n u v (by rw[← e];exact q))];exact z
 ·obtain⟨m,z⟩:=I.base.tbls b ps q
  exact⟨m,by rw[zq (ne _ _ z fun _ _ e=>nomatch e)];exact z⟩
 ·rw[zq (nn _ I.free)];exact I.free
 ·have z:=I.freeC x c q
  rw[zq (nn _ z)];exact z
 ·obtain⟨p1,p2,p3,p4,p5⟩:=I.pin p hp
  exact⟨p1,by rw[zq (nn _ p2)];exact p2,p3,p4,p5⟩
 ·by_cases nb:b=d
  ·subst nb
   rw[zm] at q
   cases q
   exact ok.2
  ·rw[zq nb] at q
   refine (I.hok b u q).stay (fun c u _ z=>z) (fun c z=>?_) fun c ys z=>?_
   ·rw[zq (ne _ _ z fun _ _ e=>nomatch e)];exact z
   ·rw[zq (ne _ _ z fun _ _ e=>nomatch e)];exact z
def bv (d:Addr) (o:Obj) (kvs:List (yJ × V)) (D:jN):jN:={ nx:=fun σ H=>H d=some (.frz o (.dK kvs))∧D.nx σ (upd H d (.dK kvs)),rt:=fun v H=>H d=some (.frz o (.dK kvs))∧D.rt v (upd H d (.dK kvs)),bk:=fun σ H=>H d=some (.frz o (.dK kvs))∧D.bk σ (upd H d (.dK kvs)),ct:=fun σ H=>H d=some (.frz o (.dK kvs))∧D.ct σ (upd H d (.dK kvs)) }
def Tc (t:TS):TS:=fun D σ H=>∃ d kvs,H d=some (.dK kvs)∧∀ o,t (bv d o kvs D) σ (upd H d (.frz o (.dK kvs)))
theorem pN {st:Stmt} {t:TS} (h:PS X st t):PS X st (Tc t):=by
 intro pins s σ H D I q
 obtain⟨d,kvs,hd,q⟩:=q
 obtain⟨o,J⟩:=I.freeze hd
 have n:∀ o u,X.H₀ d≠some (.frz o u):=fun o u z=>by
  have:=I.base.frzs d o u z
  rw[hd] at this
  cases this
 refine wpAny_mono (h pins s σ _ _ J (q o)) (fun f s1 q=>?_) fun _ _ z=>z
 cases f with
 | next=>obtain⟨σ',H',I',hd',q⟩:=q;exact⟨σ',_,I'.thaw n hd',q⟩
 | brk=>obtain⟨σ',H',I',hd',q⟩:=q;exact⟨σ',_,I'.thaw n hd',q⟩
 | cont=>obtain⟨σ',H',I',hd',q⟩:=q;exact⟨σ',_,I'.thaw n hd',q⟩
 | ret u=>obtain⟨v,σ',H',I',r,hd',q⟩:=q;exact⟨v,σ',_,I'.thaw n hd',r,q⟩
theorem Yy {H H':Hp} {d:Addr} {o:Obj} {kvs:List (yJ × V)} (hd:H d=some (.dK kvs)) (s:zx (upd H d (.frz o (.dK kvs))) H'):zx H (upd H' d (.dK kvs)):=fun b u e=>by
 by_cases c:b=d
 ·subst c
  rw[zm,← hd]
  exact e
 ·rw[zq c]
  exact s b u (by rw[zq c];exact e)
end
end L2
namespace Pg
open PySem L2
abbrev Be:=Int × Addr × List Rk
def yr (e:Be):Int × List Rk:=(e.1,e.2.2)
def jU (es:List Be):List (yJ × V):=es.map fun e=>(Sum.inl e.1,V.ref e.2.1)
def Yx (rs:List Rk):List V:=rs.map fun r=>V.str (j6 r)
structure Xo (C:Addr) (H:Hp) (B dx t:Addr) (es:List Be):Prop where
 ins:H B=some (.ins C dx [("told",.ref t)])
 dic:H t=some (.dK (jU es))
 nd:(es.map (·.1)).Nodup
 row:∀ e∈es,H e.2.1=some (.lst (Yx e.2.2))
 ok:∀ e∈es,uQ e.2.2
structure Rm (H:Hp) (o:Addr) (es:List Be):Prop where
 dic:H o=some (.dK (jU es))
 nd:(es.map (·.1)).Nodup
 rt:∀ e∈es,wv H e.2.1 e.2.2
theorem Xo.fr {C:Addr} {H H':Hp} {B dx t:Addr} {es:List Be} (h:Xo C H B dx t es) (k:∀ b o,H b=some o→H' b=some o):Xo C H' B dx t es:=⟨k _ _ h.ins,k _ _ h.dic,h.nd,fun e he=>k _ _ (h.row e he),h.ok⟩
theorem Rm.same {H H':Hp} {o:Addr} {es:List Be} (h:Rm H o es) (s:zx H H'):Rm H' o es:=⟨s _ _ h.dic,h.nd,fun e he=>(h.rt e he).same s⟩
theorem JA {a b:Int}:(Sum.inl a:yJ)=Sum.inl b↔a=b:=⟨fun h=>by injection h,fun h=>by rw[h]⟩
theorem WB {es:List Be} (nd:(es.map (·.1)).Nodup) {e:Be} (h:e∈es):kK (jU es) (Sum.inl e.1)=some (.ref e.2.1):=by
 induction es with
 | nil=>cases h
 | cons p r ih =>
  have nd:(p.1::r.map (·.1)).Nodup:=nd
  obtain⟨n1,n2⟩:=BF.mp nd
  rcases bN.mp h with rfl | h
  ·exact we rfl
  ·have ne:¬ (Sum.inl p.1:yJ)=Sum.inl e.1:=fun z=>n1 (by rw[JA.mp z];exact bZ.mpr ⟨_,h,rfl⟩)
   exact (wm ne).trans (ih n2 h)
def j3 (es:List Be) (Y:Int) (a:Addr) (rs:List Rk):List Be:=if (es.any fun e=>decide (e.1=Y))=true then es.map (fun e=>if e.1=Y then (Y,a,rs) else e) else es++[(Y,a,rs)]
def NS (ps:List (Int × List Rk)) (Y:Int) (rs:List Rk):List (Int × List Rk):=if (ps.any fun e=>decide (e.1=Y))=true then ps.map (fun e=>if e.1=Y then (Y,rs) else e) else ps++[(Y,rs)]
theorem Pq (es:List Be) (Y:Int) (a:Addr) (rs:List Rk):wI (jU es) (Sum.inl Y) (.ref a)=jU (j3 es Y a rs):=by
 have e1:((jU es).any fun kv=>decide (kv.1=Sum.inl Y))=es.any fun e=>decide (e.1=Y):=by
  unfold jU
  rw[List.any_map]
  congr 1
  funext e
  exact decide_eq_decide.mpr JA
 unfold wI j3
 rw[e1]
 cases q:es.any fun e=>decide (e.1=Y) with
 | true =>
  rw[if_pos rfl,if_pos rfl]
  unfold jU
  rw[b6,b6]
  refine Cn fun e _=>?_
  show (if (Sum.inl e.1:yJ)=Sum.inl Y then ((Sum.inl e.1:yJ),V.ref a) else (Sum.inl e.1,V.ref e.2.1))=(Sum.inl (if e.1=Y then ((Y,a,rs):Be) else e).1,V.ref (if e.1=Y then ((Y,a,rs):Be) else e).2.1)
  by_cases c:e.1=Y
  ·rw[if_pos (JA.mpr c),if_pos c,c]
  ·rw[if_neg (fun z=>c (JA.mp z)),if_neg c]
 | false =>
  rw[if_neg bV,if_neg bV]
  unfold jU
  rw[Bc]
  rfl
theorem Xq (es:List Be) (Y:Int) (a:Addr) (rs:List Rk):(j3 es Y a rs).map yr=NS (es.map yr) Y rs:=by
 have e1:((es.map yr).any fun e=>decide (e.1=Y))=es.any fun e=>decide (e.1=Y):=by rw[List.any_map];rfl
 unfold j3 NS
 rw[e1]
 cases q:es.any fun e=>decide (e.1=Y) with
 | true =>
  rw[if_pos rfl,if_pos rfl,b6,b6]
  refine Cn fun e _=>?_
  show yr (if e.1=Y then (Y,a,rs) else e)=if e.1=Y then (Y,rs) else yr e
  by_cases c:e.1=Y
  ·rw[if_pos c,if_pos c];rfl
  ·rw[if_neg c,if_neg c]
 | false =>
  rw[if_neg bV,if_neg bV,Bc]
  rfl
theorem vW {es:List Be} {Y:Int} {a:Addr} {rs:List Rk} {e:Be} (h:e∈j3 es Y a rs):e=(Y,a,rs)∨e∈es:=by
 unfold j3 at h
 cases q:es.any fun e=>decide (e.1=Y) with
 | true =>
  rw[q,if_pos rfl] at h
  obtain⟨f,hf,rfl⟩:=bZ.mp h
  by_cases c:f.1=Y
  ·rw[if_pos c];exact .inl rfl
  ·rw[if_neg c];exact .inr hf
 | false =>
  rw[q,if_neg bV] at h
  rcases Bt.mp h with h | h
  ·exact .inr h
  ·exact .inl (Bf.mp h)
theorem JG {es:List Be} {Y:Int} {a:Addr} {rs:List Rk} (nd:(es.map (·.1)).Nodup):((j3 es Y a rs).map (·.1)).Nodup:=by
 unfold j3
 cases q:es.any fun e=>decide (e.1=Y) with
 | true =>
  rw[if_pos rfl,b6]
  have:es.map ((·.1) ∘ fun e=>if e.1=Y then ((Y,a,rs):Be) else e)=es.map (·.1):=Cn fun e _=>by
   show (if e.1=Y then ((Y,a,rs):Be) else e).1=e.1
   by_cases c:e.1=Y
   ·rw[if_pos c,c]
   ·rw[if_neg c]
  rw[this]
  exact nd
 | false =>
  rw[if_neg bV,Bc]
  refine List.nodup_append.mpr ⟨nd,BF.mpr ⟨(fun z=>by cases z),cV⟩,fun x hx y hy=>?_⟩
  have hy:y∈[Y]:=hy
  rw[Bf.mp hy]
  rintro rfl
  obtain⟨e,he,rfl⟩:=bZ.mp hx
  have:(es.any fun f=>decide (f.1=e.1))=true:=List.any_eq_true.mpr ⟨e,he,decide_eq_true rfl⟩
  rw[this] at q
  cases q
theorem Pd (es:List Be) (Y:Int) (a:Addr) (rs:List Rk):(j3 es Y a rs).length≤es.length+1:=by
 unfold j3
 split
 ·rw[bM];omega
 ·rw[bP,Bu];exact bK _
structure QZ (ps:List (Int × List Rk)) (Y m:Int) (rs:List Rk):Prop where
 mem:(m,rs)∈ps
 le:m≤Y
 top:∀ q∈ps,q.1≤Y→q.1≤m
theorem QZ.one {ps:List (Int × List Rk)} {Y m m':Int} {rs rs':List Rk} (nd:(ps.map (·.1)).Nodup) (a:QZ ps Y m rs) (b:QZ ps Y m' rs'):rs=rs':=by
 have e:m=m':=Int.le_antisymm (b.top _ a.mem a.le) (a.top _ b.mem b.le)
 subst e
 have a1:=a.mem
 have b1:=b.mem
 clear a b
 induction ps with
 | nil=>cases a1
 | cons p r ih =>
  have nd:(p.1::r.map (·.1)).Nodup:=nd
  obtain⟨n1,n2⟩:=BF.mp nd
  rcases bN.mp a1 with e1 | h1
  ·rcases bN.mp b1 with e2 | h2
   ·rw[← e1] at e2
    cases e2
    rfl
   ·exact absurd (bZ.mpr ⟨_,h2,by rw[← e1]⟩) n1
  ·rcases bN.mp b1 with e2 | h2
   ·exact absurd (bZ.mpr ⟨_,h1,by rw[← e2]⟩) n1
   ·exact ih n2 h1 h2
theorem Jp (es:List Be):(es.map yr).map (·.1)=es.map (·.1):=by rw[b6];rfl
def wL (es:List Be) (Y:Int):List Int:=(es.map (·.1)).filter fun y=>decide (y≤Y)
theorem Uu {es:List Be} {Y m:Int} (h:m∈wL es Y) (t:∀ x∈wL es Y,x≤m):∃ e∈es,e.1=m∧QZ (es.map yr) Y m e.2.2:=by
 obtain⟨h1,h2⟩:=cu.mp h
 obtain⟨e,he,rfl⟩:=bZ.mp h1
 refine⟨e,he,rfl,bZ.mpr ⟨e,he,rfl⟩,of_decide_eq_true h2,fun q hq l=>?_⟩
 obtain⟨f,hf,rfl⟩:=bZ.mp hq
 exact t f.1 (cu.mpr ⟨bZ.mpr ⟨f,hf,rfl⟩,decide_eq_true l⟩)
theorem LC {es:List Be} {Y:Int} (h:wL es Y=[]) {m:Int} {rs:List Rk} (p:QZ (es.map yr) Y m rs):False:=by
 obtain⟨e,he,z⟩:=bZ.mp p.mem
 have:e.1∈wL es Y:=cu.mpr ⟨bZ.mpr ⟨e,he,rfl⟩,decide_eq_true (by
  have:e.1=m:=congrArg Prod.fst z
  rw[this]
  exact p.le)⟩
 rw[h] at this
 cases this
theorem Qf {H:Hp} (rs:List Rk):qP H (Yx rs) rs (fun _ v r=>v = .str (j6 r)):=⟨bM _,fun i y e=>by
 unfold Yx at e
 rw[bR] at e
 obtain⟨r,hr,rfl⟩:=bX.mp e
 exact⟨r,hr,fun _ _=>rfl⟩⟩
theorem OR {ns:List Int} (h:ns≠[]):∃ m∈ns,∀ x∈ns,x≤m:=by
 induction ns with
 | nil=>exact absurd rfl h
 | cons a r ih =>
  cases r with
  | nil=>exact⟨a,Bb,fun x hx=>by rw[Bf.mp hx];exact BC _⟩
  | cons b l =>
   obtain⟨m,hm,t⟩:=ih (fun z=>nomatch z)
   by_cases c:a≤m
   ·exact⟨m,Bk _ hm,fun x hx=>by
     rcases bN.mp hx with rfl | hx
     ·exact c
     ·exact t x hx⟩
   ·exact⟨a,Bb,fun x hx=>by
     rcases bN.mp hx with rfl | hx
     ·exact BC _
     ·have:=t x hx
      omega⟩
def Vw (C:Addr):Sp:=fun vs H Q _=>∃ (B dx:Addr),vs=[.ref B]∧H B=some (.ins C dx [])∧∀ t H',H t=none→Xo C H' B dx t []→(∀ b o,H b=some o→b≠B→H' b=some o)→Q .non H'
def XG (C:Addr):Sp:=fun vs H Q _=>∃ (B dx t l:Addr) (es:List Be) (Y:Int) (rs:List Rk),vs=[.ref B,.int Y,.ref l]∧Xo C H B dx t es∧0≤Y∧Y≤9999∧H l=some (.lst (Yx rs))∧uQ rs∧es.length≤100 ∧
 ∀ a H',H a=none→Xo C H' B dx t (j3 es Y a rs)→(∀ b o,H b=some o→b≠t→H' b=some o)→Q .non H'
def Z4 (C cN:Addr):Sp:=fun vs H Q E=>∃ (B dx t:Addr) (es:List Be) (Y:Int),vs=[.ref B,.int Y]∧Xo C H B dx t es∧0≤Y∧Y≤9999∧es.length≤100∧(wL es Y=[]→∀ H',zx H H'→E (.ref cN) none H') ∧
 ∀ m rs,QZ (es.map yr) Y m rs→uQ rs→∀ l H',zx H H'→H l=none→H' l=some (.lst (Yx rs))→Q (.ref l) H'
def Yk (Cs:Nat→Addr) (C cN:Addr):Sp:=fun vs H Q E=>∃ (B dx t:Addr) (es:List Be) (Y:Int),vs=[.ref B,.int Y]∧Xo C H B dx t es∧0≤Y∧Y≤9999∧es.length≤100∧(wL es Y=[]→∀ H',zx H H'→E (.ref cN) none H') ∧
 ∀ m rs,QZ (es.map yr) Y m rs→uQ rs→∀ l H',zx H H'→kg Cs H' l rs→Q (.ref l) H'
def Uw (H:Hp) (v:V) (M:Int) (rs:List Rk) (bs:List Int):Prop:=∃ t u,v = .ref t∧H t=some (.tup [.int M,.int (vY bs),u,.int (Np (vY bs) (JN rs bs))])∧vN H u (JN rs bs)
theorem Uw.same {H H':Hp} {v:V} {M:Int} {rs:List Rk} {bs:List Int} (s:zx H H') (h:Uw H v M rs bs):Uw H' v M rs bs:=by
 obtain⟨t,u,e,h,T⟩:=h
 exact⟨t,u,e,s _ _ h,T.same s⟩
def XE (K:PySem.W.Frag) (Cs:Nat→Addr):Sp:=fun vs H Q _=>∃ (l b:Addr) (rs:List Rk) (bs:List Int) (M:Int),vs=[.ref l,.int M,.ref b]∧kg Cs H l rs∧uQ rs∧z5 K H b (bs.map V.int)∧bs.length≤100∧∀ v H',zx H H'→Uw H' v M rs bs→Q v H'
def Xi (K:PySem.W.Frag) (Cs:Nat→Addr) (C cM cN:Addr):Sp:=fun vs H Q E=>∃ (B dx t b:Addr) (es:List Be) (v:V) (bs:List Int),vs=[.ref B,v,.ref b]∧Xo C H B dx t es∧es.length≤100∧z5 K H b (bs.map V.int)∧bs.length≤100 ∧
 ((∃ M,v = .int M∧0≤M∧M≤119999∧(wL es (M/12)=[]→∀ H',zx H H'→E (.ref cN) none H')∧∀ m rs,QZ (es.map yr) (M/12) m rs→∀ v H',zx H H'→Uw H' v M rs bs→Q v H')∨(Yu K H 119999 v∧E (.ref cM) none H))
def ZI:Sp:=fun vs H Q _=>∃ z,vs=[.int z]∧0≤z∧z≤9999∧Q .non H
def X6:Sp:=fun vs H Q _=>∃ l xs,vs=[.ref l]∧H l=some (.lst xs)∧xs.length≤8∧Q .non H
def YQ (Cs:Nat→Addr):Sp:=fun vs H Q _=>∃ l rs,vs=[.ref l]∧kg Cs H l rs∧uQ rs∧∀ H',zx H H'→Q .non H'
def re (i:Nat):Str:=(["amount","share","text","month","year","rule","book","noyear","day","entry","mark","person","many","close","line"]:List Str).getD i ""
def xK (K:PySem.W.Frag) (d:Nat→Addr):Sp:=fun vs H Q _=>∃ ea C i,vs=[.ref ea]∧gh K H ea C∧Oh K d C i∧(i=3∨i=7)∧∀ H',zx H H'→Q (.str (re i)) H'
def WN (K:PySem.W.Frag) (C:Addr):Sp:=fun vs H Q _=>∃ (B dx t b:Addr) (es:List Be) (v:V) (bs:List Int),vs=[.ref B,v,.ref b]∧Xo C H B dx t es∧es.length≤100∧z5 K H b (bs.map V.int)∧bs.length≤100 ∧
 ((∃ M,v = .int M∧0≤M∧M≤119999∧(wL es (M/12)=[]→∀ l H',zx H H'→H' l=some (.lst [.str "noyear"])→Q (.ref l) H')∧∀ m rs,QZ (es.map yr) (M/12) m rs→∀ v H',zx H H'→Uw H' v M rs bs→Q v H')∨(Yu K H 119999 v∧∀ l H',zx H H'→H' l=some (.lst [.str "month"])→Q (.ref l) H'))
def WJ (C:Addr):Sp:=fun vs H Q _=>∃ (B dx t o b:Addr) (es fs:List Be) (M:Int) (bs:List Int),vs=[.ref B,.ref o,.int M,.ref b]∧Xo C H B dx t es∧Rm H o fs∧fs.map yr=es.map yr∧es.length≤100∧H b=some (.lst (bs.map V.int))∧1≤bs.length∧bs.length≤50∧lh bs∧0≤M∧M≤119999∧∀ H',zx H H'→Q (.bl true) H'
theorem WE {es fs:List Be} (h:fs.map yr=es.map yr) (Y:Int):wL fs Y=wL es Y:=by
 unfold wL
 rw[← Jp,← Jp,h]
theorem RH {es:List Be} {m:Int} {rs:List Rk} (ok:∀ e∈es,uQ e.2.2) (h:(m,rs)∈es.map yr):uQ rs:=by
 obtain⟨e,he,z⟩:=bZ.mp h
 have:e.2.2=rs:=congrArg Prod.snd z
 rw[← this]
 exact ok e he
theorem Oa {es fs:List Be} (h:fs.map yr=es.map yr):fs.length=es.length:=by
 have:=congrArg List.length h
 rwa [bM,bM] at this
def tz (H:Hp) (v:V) (es:List Be) (M:Int) (bs:List Int):Prop:=(wL es (M/12)=[]∧∃ l,v = .ref l∧H l=some (.lst [.str "noyear"]))∨∃ m rs,QZ (es.map yr) (M/12) m rs∧Uw H v M rs bs
theorem tz.same {H H':Hp} {v:V} {es:List Be} {M:Int} {bs:List Int} (h:tz H v es M bs) (s:zx H H'):tz H' v es M bs:=by
 rcases h with ⟨h1,l,e,h2⟩ | ⟨m,rs,h1,h2⟩
 ·exact .inl ⟨h1,l,e,s _ _ h2⟩
 ·exact .inr ⟨m,rs,h1,h2.same s⟩
theorem UQ {bs:List Int} (h:1≤bs.length):atI (bs.map V.int) (-1)=some (.int (vY bs)):=by
 have ne:bs≠[]:=fun z=>by rw[z] at h;cases h
 have e:=(cQ ne).symm
 generalize bs.dropLast=l at e
 generalize bs.getLast ne=x at e
 subst e
 have hl:((l++[x]).map V.int).length=l.length+1:=by rw[bM,bP];rfl
 unfold atI lm vY
 rw[if_neg (by decide),if_pos (by rw[hl];omega)]
 show ((l++[x]).map V.int)[((-1:Int)+(((l++[x]).map V.int).length:Nat)).toNat]? = _
 rw[hl,show ((-1:Int)+((l.length+1:Nat):Nat)).toNat=l.length by omega,bR,bY (bK _),cq,List.getLast?_append]
 rfl
def OU (S:List Addr) (H:Hp) (v:V) (q:Int × List Int):Prop:=∃ t b,v = .ref t∧H t=some (.tup [.int q.1,.ref b])∧H b=some (.lst (q.2.map V.int))∧¬ b∈S
def Pe (q:Int × List Int):Prop:=0≤q.1∧q.1≤119999∧1≤q.2.length∧q.2.length≤50∧lh q.2
end Pg
namespace K14
open PySem PySem.NumText L2 Pg
seal PE PA PT PW PS jw PG um PI ud PO PK
section
variable {P:Program} {w:World} {K:PySem.W.Frag} {mg:Str→Option Value} {base:Heap} {f:Addr} {fd:FuncData} {d:Nat→Addr} {cR:Addr}
theorem bz (t:Addr):je "told" (.ref t) []=[((("told":Str)),V.ref t)]:=rfl
theorem PF {C:Addr} (F:qE K "__init__" "RuleBook.__init__" (zz (top 90) 0) f fd) (KC:uT K C) (nT:zU K C "told"):zJ P w K mg base zO 1 f fd ["self"] (Vw C):=by
 refine F.ok (N:=["self"]) ⟨rfl,rfl,rfl,by decide +kernel,rfl,by decide +kernel,by decide +kernel⟩ (fun vs H Q E h=>?_) (fun cdv A outer s H vs Q E hr h=>?_)
 ·obtain⟨L,dx,rfl,_⟩:=h
  rfl
 ·obtain⟨L,dx,rfl,hL,q⟩:=h
  refine⟨_,zi (yA (pv 0) VY rfl),?_⟩
  refine fun t H1 s1 n1 e1=>⟨_,rfl,L,C,dx,[],rfl,s1 _ _ hL,KC,nT,by decide,?_⟩
  rw[bz]
  have tL:t≠L:=(zF hL n1).symm
  refine q t _ n1 ⟨zm,?_,cV,(fun e he=>nomatch he),(fun e he=>nomatch he)⟩ fun b o hb bL=>?_
  ·rw[zq tL]
   exact e1
  ·rw[zq bL]
   exact s1 _ _ hb
theorem pB (F:qE K "need_year" "need_year" (top 49) f fd) (N1:kF mg "LAST_YEAR" 9999) (C1:qH P w K mg base zO 2 "is_number_within" ["thing","least","most"] (j8 K)):zJ P w K mg base zO 3 f fd ["thing"] ZI:=by
 obtain⟨tm,hm⟩:=N1
 refine F.ok (N:=["thing"]) ⟨rfl,rfl,rfl,by decide +kernel,rfl,by decide +kernel,by decide +kernel⟩ (fun vs H Q E h=>?_) (fun cdv A outer s H vs Q E hr h=>?_)
 ·obtain⟨z,rfl,_⟩:=h
  rfl
 ·obtain⟨z,rfl,h0,h1,q⟩:=h
  refine⟨_,zi (zT (qD (qz (zj C1 hr (by decide) zu (za (pv 0) (za ze (za (zZ (v:=.int 9999) rfl hm ⟨_,rfl⟩) zd)))))) qk zC),?_⟩
  refine⟨_,rfl,_,_,_,rfl,.inl ⟨z,rfl,_,rfl,?_⟩⟩
  rw[decide_eq_true (show (0:Int)≤z∧z≤9999 from ⟨h0,h1⟩)]
  exact qN q
theorem Lk (F:qE K "need_few" "need_few" (top 88) f fd) (G:jF mg) (N1:kF mg "MOST_RULES" 8):zJ P w K mg base zO 1 f fd ["thing"] X6:=by
 obtain⟨tm,hm⟩:=N1
 refine F.ok (N:=["thing"]) ⟨rfl,rfl,rfl,by decide +kernel,rfl,by decide +kernel,by decide +kernel⟩ (fun vs H Q E h=>?_) (fun cdv A outer s H vs Q E hr h=>?_)
 ·obtain⟨l,xs,rfl,_⟩:=h
  rfl
 ·obtain⟨l,xs,rfl,hl,few,q⟩:=h
  refine⟨_,zi (zT (PW.pt (vL (qD (qz (zt zG rfl G.isinstance zy (za (pv 0) (za (yg (v:=.ty "list") rfl G.list wU rfl) zd))))) (vt (zE jD (zt zR rfl G.len boot_len (za (pv 0) zd)) (zZ (v:=.int 8) rfl hm ⟨_,rfl⟩) (zD _))))) qk zC),?_⟩
  refine⟨_,rfl,_,_,_,_,true,rfl,rfl,.inl (.lst hl),rfl,true,rfl,qN ⟨_,rfl,l,_,rfl,.inl (z5.of hl),_,_,rfl,rfl,_,rfl,?_⟩⟩
  rw[decide_eq_false (by omega)]
  exact qN q
theorem gq {Cs:Nat→Addr} (F:qE K "need_unlike_names" "need_unlike_names" (top 89) f fd) (G:jF mg) (CL:∀ k,k<6→uT K (Cs k)) (NM:∀ k,k<6→zU K (Cs k) "name"):zJ P w K mg base zO 1 f fd ["rules"] (YQ Cs):=by
 have nc:(["rule"]:List Str).Nodup:=by decide +kernel
 refine F.ok (N:=["rules"]) ⟨rfl,rfl,rfl,by decide +kernel,rfl,by decide +kernel,by decide +kernel⟩ (fun vs H Q E h=>?_) (fun cdv A outer s H vs Q E hr h=>?_)
 ·obtain⟨l,rs,rfl,_⟩:=h
  rfl
 ·obtain⟨l,rs,rfl,⟨ys,hl,T⟩,ok,q⟩:=h
  have few:=ok.few
  refine' ⟨_,zi (zT (zE YC (Gn rfl rfl G.len rfl G.set (za ?comp zd)) (zt zR rfl G.len boot_len (za (pv 0) zd)) (zD _)) qk zC),?main⟩
  case comp =>
   refine' qb (Nc:=["rule"]) (cl:=[]) (src:=[none]) (wi:=vG K (zP 0)) (g:=zX 0) (tt:=qC) (te:=OB K (zP 0) "name")
    ⟨rfl,rfl,by decide +kernel,by decide +kernel,(fun x c z=>nomatch z),qu (by rfl),zQ qc,rfl⟩ rfl (yy (pv 0)) ?hb
   case hb =>
    intro fp C' s' H'
    exact⟨zS (i:=0) nc rfl (Or.inl rfl),qi,zN (pv 0) rfl⟩
  dsimp (config:={ proj:=false,iota:=false,beta:=false,eta:=false }) only [jd,j5]
  refine⟨_,rfl,l,rfl,⟨_,z5.of hl⟩,fun D hD=>jn (qT (z5.of hl)) T hD (by rw[sizeLine_eq];omega) (fun r=>V.str r.name) (fun r hm v H1 R s1 ro k=>?_) (fun H1 s1 e1=>?_)⟩
  ·obtain⟨oa,dx,fs,rfl,ho,nm,no⟩:=ro.obj (ok.gd r hm)
   have k6:=Mw r
   exact⟨_,rfl,oa,_,dx,fs,_,rfl,ho,CL _ k6,NM _ k6,nm,k _ (zx.refl _)⟩
  ·have yl:=T.len
   refine⟨D,rs.map Rk.name,rfl,z5.of (by rw[b6];exact e1),by rw[bM];omega,fun n nle nn=>?_⟩
   rw[bM] at nle nn
   have e:¬ n<rs.length:=fun z=>nn.mp z ok.nd
   refine⟨_,rfl,l,_,rfl,.inl (z5.of (s1 _ _ hl)),_,_,rfl,rfl,_,rfl,?_⟩
   rw[decide_eq_false (by omega)]
   exact qN (q H1 s1)
theorem Lz {d e k:Nat} {Cs:Nat→Addr} (h:d≤e):∀ vs H Q E,yH d k Cs vs H Q E→yH e k Cs vs H Q E:=by
 rintro vs H Q E ⟨v,r,rfl,h1,h2,h3,h4⟩
 exact⟨v,r,rfl,h1,h2,h3.le h,h4⟩
theorem X2 {CX:wf} {j d:Nat} {Cs:Nat→Addr} (R0:qO P w K mg base CX 1 (Cs 0) "row" ["self"] (jI 0 Cs)) (R1:qO P w K mg base CX 1 (Cs 1) "row" ["self"] (jI 1 Cs)) (R2:qO P w K mg base CX 1 (Cs 2) "row" ["self"] (jI 2 Cs)) (R3:qO P w K mg base CX 1 (Cs 3) "row" ["self"] (jI 3 Cs)) (R4:qO P w K mg base CX 1 (Cs 4) "row" ["self"] (yH 3 4 Cs)) (hd:d≤3) (hj:1≤j) (R5:qO P w K mg base CX j (Cs 5) "row" ["self"] (yH d 5 Cs)) :
  ∀ k,k<6→qO P w K mg base CX j (Cs k) "row" ["self"] (yH d k Cs) :=
 wV ((R0.imp (JD (by decide))).mono hj) ((R1.imp (JD (by decide))).mono hj) ((R2.imp (JD (by decide))).mono hj) ((R3.imp (JD (by decide))).mono hj) ((R4.imp (Lz hd)).mono hj) R5
theorem JL {Cs:Nat→Addr} {d j:Nat} (hd:d≤3) (F:qE K "row" "OnTop.row" (zz (top 76) 2) f fd) (G:jF mg) (RX:Qg K (Cs 5)) (MR:∀ k,k<6→qO P w K mg base zO j (Cs k) "row" ["self"] (yH d k Cs)):zJ P w K mg base zO (j+1) f fd ["self"] (yH (d+1) 5 Cs):=by
 refine F.ok (N:=["self"]) ⟨rfl,rfl,rfl,by decide +kernel,rfl,by decide +kernel,by decide +kernel⟩ (fun vs H Q E h=>?_) (fun cdv A outer s H vs Q E hr h=>?_)
 ·obtain⟨v,r,rfl,_⟩:=h
  rfl
 ·obtain⟨v,r,rfl,e,ro,gd,q⟩:=h
  obtain⟨d',n,p,x,r',ed,rfl,hn,hp,hw,g'⟩:=pS gd e
  cases ed
  cases ro with
  | pln kk _=>exact absurd kk (by show ¬ (5:Nat)<4;decide)
  | @ontop _ _ _ _ o dx u ho ri =>
   obtain⟨oi,dxi,fsi,rfl,hoi,_,noi⟩:=ri.obj g'
   have h1:=hn.ok.hi
   have h2:=j9 hp
   have h3:=uj hw
   have h4:=Zu g'
   have jr:=(yc (sep:=" ") (zs:=["ontop",n,toString p,x,"of",j6 r']) (m:=1700) (k:=6) (fun z hz=>by
     simp only[bN,bS,or_false] at hz
     rcases hz with rfl | rfl | rfl | rfl | rfl | rfl
     ·decide +kernel
     ·omega
     ·omega
     ·omega
     ·decide +kernel
     ·omega) (bK _) (by decide +kernel) rfl).1
   refine⟨_,zi (zp (yE PySem.F.plainAttrs_str PySem.F.slot_str_join PySem.F.type_str_join yV zA (za (zY (za zA (za (zN (pv 0) rfl) (za (z7 ql rfl G.str qG (za (zN (pv 0) rfl) zd)) (za (zN (pv 0) rfl) (za zA (za (uw (p:=fun k=>k<6) fun k hk=>ue (MR k hk) hr (bK _) zu (zN (pv 0) rfl)) zd))))))) zd))),?_⟩
   exact⟨rfl,_,rfl,o,_,dx,_,_,rfl,ho,RX.cls,RX.no "name" (by decide),rfl,_,rfl,o,_,dx,_,_,rfl,ho,RX.cls,RX.no "parts" (by decide),rfl,_,rfl,uG hp,_,rfl,o,_,dx,_,_,rfl,ho,RX.cls,RX.no "way" (by decide),rfl,r'.kd,Mw r',_,rfl,o,_,dx,_,_,rfl,ho,RX.cls,RX.no "within" (by decide),rfl,oi,dxi,fsi,rfl,hoi,noi "row" (by decide),_,r',rfl,rfl,ri,g',fun H1 s1=>⟨qa rfl,fun l H2 s2 n2 e2=>⟨_,["ontop",n,toString p,x,"of",j6 r'],l,rfl,rfl,z5.of e2,jr,q H2 (s1.trans s2)⟩⟩⟩
set_option maxHeartbeats 8000000 in
theorem Lq {Cs:Nat→Addr} {C:Addr} {j:Nat} (hj:4≤j) (F:qE K "put" "RuleBook.put" (zz (top 90) 1) f fd) (G:jF mg) (KC:uT K C) (nT:zU K C "told") (C1:qH P w K mg base zO 3 "need_year" ["thing"] ZI) (C2:qH P w K mg base zO 1 "need_few" ["thing"] X6) (C3:qH P w K mg base zO j "rule_of" ["text"] (vb Cs)) (C4:qH P w K mg base zO 1 "need_unlike_names" ["rules"] (YQ Cs)) (MR:∀ k,k<6→qO P w K mg base zO 4 (Cs k) "row" ["self"] (yH 3 k Cs)):zJ P w K mg base zO (j+1) f fd ["self","year","rows"] (XG C):=by
 have nd:(["self","year","rows","rules"]:List Str).Nodup:=by decide +kernel
 have nc1:(["row"]:List Str).Nodup:=by decide +kernel
 have nc2:(["rule"]:List Str).Nodup:=by decide +kernel
 refine F.ok (N:=["self","year","rows","rules"]) ⟨rfl,rfl,rfl,by decide +kernel,rfl,by decide +kernel,by decide +kernel⟩ (fun vs H Q E h=>?_) (fun cdv A outer s H vs Q E hr h=>?_)
 ·obtain⟨B,dx,t,l,es,Y,rs,rfl,_⟩:=h
  rfl
 ·obtain⟨B,dx,t,l,es,Y,rs,rfl,BK,Y0,Y1,hl,ok,el,q⟩:=h
  have hu:=Xj hr
  have few:=ok.few
  refine' ⟨_,(zh (qv (zj C1 hr (by omega) zu (za (pv 1) zd)))
    (zh (qv (zj C2 hr (by omega) zu (za (pv 2) zd)))
    (zh ?c1
    (zh (qv (zj C4 hr (by omega) zu (za (pv 3) zd)))
    (zi (gc hu (zN (pv 0) rfl) (pv 1) ?c2 rfl)))))),?main⟩
  case c1 =>
   refine' wc (i:=3) (Nc:=["row"]) (cl:=[]) (src:=[none]) (wi:=vG K (zP 2)) (g:=zX 0) (tt:=qC) (te:=fun σ H Q=>qf (zP 0) q8 σ H fun vs H1=>vb Cs vs H1 Q E0)
    nd rfl rfl ⟨rfl,rfl,by decide +kernel,by decide +kernel,(fun x c z=>nomatch z),qu (by rfl),zQ qc,rfl⟩ rfl (yy (pv 2)) ?hb
   case hb =>
    intro fp C' s' H'
    exact⟨zS (i:=0) nc1 rfl (Or.inl rfl),qi,zj C3 hr (bK _) zu (za (pv 0) zd)⟩
  case c2 =>
   refine' qb (Nc:=["rule"]) (cl:=[]) (src:=[none]) (wi:=vG K (zP 3)) (g:=zX 0) (tt:=qC) (te:=fun σ H Q=>∃ k,k<6∧RS (Cs k) "row" (yH 3 k Cs) E0 (zP 0) q8 σ H Q)
    ⟨rfl,rfl,by decide +kernel,by decide +kernel,(fun x c z=>nomatch z),qu (by rfl),zQ qc,rfl⟩ rfl (yy (pv 3)) ?hb
   case hb =>
    intro fp C' s' H'
    exact⟨zS (i:=0) nc2 rfl (Or.inl rfl),qi,uw (p:=fun k=>k<6) fun k hk=>ue (MR k hk) hr hj zu (pv 0)⟩
  dsimp (config:={ proj:=false,iota:=false,beta:=false,eta:=false }) only [jd,j5]
  refine⟨_,rfl,Y,rfl,Y0,Y1,_,rfl,l,_,rfl,hl,by unfold Yx;rw[bM];exact few,?_⟩
  refine⟨_,rfl,l,rfl,⟨_,z5.of hl⟩,fun D hD=>ZU (qT (z5.of hl)) (Qf rs) hD (by rw[sizeLine_eq];omega) (fun H' u r=>ug Cs H' r u) (fun kp h=>h.keep kp) (fun i r hr' v H1 R s1 e1 k=>?_) (fun ys H1 s1 e1 M=>?_)⟩
  ·subst e1
   exact⟨_,rfl,r,rfl,ok.gd r (Bv hr'),fun o H2 s2 ro=>k o H2 s2 ro⟩
  have T:=xz.items M fun H' s v r h=>h.same s
  refine⟨_,rfl,D,rs,rfl,⟨ys,e1,T⟩,ok,fun H2 s2=>?_⟩
  have e2:=s2 _ _ e1
  have T2:=T.same s2
  refine⟨_,rfl,D,rfl,⟨_,z5.of e2⟩,fun D2 hD2=>jn (qT (z5.of e2)) T2 hD2 (by rw[sizeLine_eq];omega) (fun r=>V.str (j6 r)) (fun r hm v H3 R s3 ro k=>?_) (fun H3 s3 e3=>?_)⟩
  ·obtain⟨oa,dxo,fs,rfl,ho,nm,no⟩:=ro.obj (ok.gd r hm)
   exact⟨r.kd,Mw r,_,rfl,oa,dxo,fs,rfl,ho,no "row" (by decide),_,r,rfl,rfl,ro,ok.gd r hm,fun H4 s4=>k _ s4⟩
  have S3:=s1.trans (s2.trans s3)
  have B3:=BK.fr fun b o h=>S3 _ _ h
  refine⟨_,rfl,B,C,dx,_,_,rfl,B3.ins,KC,nT,rfl,_,rfl,t,_,rfl,Gp.k (k:=Sum.inl Y) B3.dic (by unfold jU;rw[bM,sizeLine_eq];omega),?_⟩
  rw[Pq (a:=D2) (rs:=rs)]
  have D0:H D2=none:=(s1.trans s2).free hD2
  have nt:∀ b xs,H3 b=some (.lst xs)→b≠t:=fun b xs h=>yp h B3.dic (by intro z;cases z)
  refine q D2 _ D0 ⟨by rw[zq (yp B3.ins B3.dic (by intro z;cases z))];exact B3.ins,zm,JG B3.nd,fun e he=>?_,fun e he=>?_⟩ fun b o h n=>by rw[zq n];exact S3 _ _ h
  ·rcases vW he with rfl | he
   ·show upd H3 t _ D2=_
    rw[zq (nt _ _ e3)]
    exact e3
   ·rw[zq (nt _ _ (B3.row e he))]
    exact B3.row e he
  ·rcases vW he with rfl | he
   ·exact ok
   ·exact B3.ok e he
set_option maxHeartbeats 8000000 in
theorem Po {C cN:Addr} (F:qE K "rows" "RuleBook.rows" (zz (top 90) 2) f fd) (G:jF mg) (X:Er K mg "NoYear" cN) (KC:uT K C) (nT:zU K C "told") (C1:qH P w K mg base zO 3 "need_year" ["thing"] ZI):zJ P w K mg base (xq P w) 4 f fd ["self","year"] (Z4 C cN):=by
 have nd:(["self","year","ahead"]:List Str).Nodup:=by decide +kernel
 have nc:(["other","year"]:List Str).Nodup:=by decide +kernel
 refine F.okE (N:=["self","year","ahead"]) ⟨rfl,rfl,rfl,by decide +kernel,rfl,by decide +kernel,by decide +kernel⟩ (fun vs H Q E h=>?_) (fun cdv A outer s H vs Q E hr h=>?_)
 ·obtain⟨B,dx,t,es,Y,rfl,_⟩:=h
  rfl
 ·obtain⟨B,dx,t,es,Y,rfl,BK,Y0,Y1,el,qe,q⟩:=h
  have hu:=Xj hr
  refine' ⟨_,(zh (qv (zj C1 hr (by decide) zu (za (pv 1) zd)))
    (zh (pN ?c1)
    (zh (zT (zE qx (zt zR rfl G.len boot_len (za (pv 2) zd)) ze (zD _)) (zi (Vv wE rfl rfl X.at' X.ex (za zA zd))) zC)
    (zi (zp (z7 u8 rfl G.list wU (za (Ja hu (zN (pv 0) rfl) (zt (YJ rfl) rfl G.max PyProof.Rows.boot_max (za (pv 2) zd)) (fun _ _=>rfl)) zd))))))),?main⟩
  case c1 =>
   refine' wc (i:=2) (Nc:=["other","year"]) (cl:=[("year",s.heap.objs.size+1)]) (src:=[none,some 1]) (wi:=PZ (OB K (zP 0) "told")) (g:=zX 0) (tt:=VB (jB (Yw fun i j=>.bl (decide (i≤j))) (zP 0) (zP 1))) (te:=zP 0)
    nd rfl rfl ⟨rfl,rfl,by decide +kernel,by decide +kernel,ja (wG rfl),qu (by rfl),zQ (qt ⟨_,rfl,rfl,rfl,rfl⟩ qc),rfl⟩ rfl (XS (zN (pv 0) rfl)) ?hb
   case hb =>
    intro fp C' s' H'
    exact⟨zS (i:=0) nc rfl (Or.inl rfl),Zl (zE UA (pv 0) (pv 1) (zD _)),pv 0⟩
  dsimp (config:={ proj:=false,iota:=false,beta:=false,eta:=false }) only [jd,j5]
  have tB:B≠t:=yp BK.ins BK.dic (by intro z;cases z)
  refine⟨_,rfl,Y,rfl,Y0,Y1,t,jU es,BK.dic,fun o=>?_⟩
  refine⟨_,rfl,B,C,dx,_,_,rfl,by rw[zq tB];exact BK.ins,KC,nT,rfl,t,o,jU es,rfl,zm,fun D hD=>?_⟩
  have ek:(jU es).map (fun p=>kV p.1)=(es.map (·.1)).map V.int:=by
   unfold jU
   rw[b6,b6]
   rfl
  have wd:=Yj (H:=upd H t (.frz o (.dK (jU es)))) (d:=t) (o:=o) (kvs:=jU es) zm
  rw[ek] at wd
  refine Zf wd hD (by rw[bM,bM,sizeLine_eq];omega) (fun x=>match x with | .int y=>decide (y≤Y) | _=>false) id (fun x hx H' R _ r=>?_) (fun x hx _ H' R _ r=>⟨_,rfl,r⟩) ?_
  ·obtain⟨y,_,rfl⟩:=bZ.mp hx
   exact⟨_,rfl,_,rfl,_,_,rfl,rfl,_,rfl,r⟩
  have ea:(((es.map (·.1)).map V.int).filter fun x=>match x with | .int y=>decide (y≤Y) | _=>false).map id=(wL es Y).map V.int:=by
   rw[List.map_id,List.filter_map]
   rfl
  rw[ea]
  have Dt:D≠t:=fun z=>by rw[z,zm] at hD;cases hD
  have sf:zx (upd H t (.frz o (.dK (jU es)))) (upd (upd H t (.frz o (.dK (jU es)))) D (.lst ((wL es Y).map V.int))):=zx.upd hD
  refine⟨by rw[zq (Ne.symm Dt)];exact zm,?_⟩
  have S1:zx H (upd (upd (upd H t (.frz o (.dK (jU es)))) D (.lst ((wL es Y).map V.int))) t (.dK (jU es))):=Yy BK.dic sf
  have e1:(upd (upd (upd H t (.frz o (.dK (jU es)))) D (.lst ((wL es Y).map V.int))) t (.dK (jU es))) D=some (.lst ((wL es Y).map V.int)):=by rw[zq Dt,zm]
  generalize upd (upd (upd H t (.frz o (.dK (jU es)))) D (.lst ((wL es Y).map V.int))) t (.dK (jU es))=H1 at S1 e1
  have B1:=BK.fr fun b o h=>S1 _ _ h
  refine⟨_,rfl,D,_,rfl,.inl (z5.of e1),rfl,_,rfl,yv (fun e=>⟨by decide,qe ?_ H1 S1⟩) (fun e=>?_)⟩
  ·rw[ux,bM] at e
   exact cj.mp (by omega)
  have ne:wL es Y≠[]:=fun z=>e (by rw[z];exact decide_eq_true rfl)
  obtain⟨m,hm,top⟩:=OR ne
  obtain⟨en,he,em,pk⟩:=Uu hm top
  have gd:ZD H1 t (.int m) (some (.ref en.2.1)):=by
   rw[← em,← WB B1.nd he]
   exact ZD.k (k:=Sum.inl en.1) B1.dic
  refine⟨_,rfl,B,C,dx,_,_,rfl,B1.ins,KC,nT,rfl,_,rfl,D,_,m,rfl,z5.of e1,hm,top,t,_,rfl,gd,en.2.1,_,rfl,.inl (z5.of (B1.row en he)),fun b b0=>?_⟩
  exact q m en.2.2 pk (B1.ok en he) b _ (S1.trans (zx.upd b0)) (S1.free b0) zm
theorem GK {Cs:Nat→Addr} {C cN:Addr} {j:Nat} (hj:4≤j) (F:qE K "rules" "RuleBook.rules" (zz (top 90) 3) f fd) (M1:qO P w K mg base (xq P w) 4 C "rows" ["self","year"] (Z4 C cN)) (C1:qH P w K mg base zO j "rule_of" ["text"] (vb Cs)):zJ P w K mg base (xq P w) (j+1) f fd ["self","year"] (Yk Cs C cN):=by
 have nc:(["row"]:List Str).Nodup:=by decide +kernel
 refine F.okE (N:=["self","year"]) ⟨rfl,rfl,rfl,by decide +kernel,rfl,by decide +kernel,by decide +kernel⟩ (fun vs H Q E h=>?_) (fun cdv A outer s H vs Q E hr h=>?_)
 ·obtain⟨B,dx,t,es,Y,rfl,_⟩:=h
  rfl
 ·obtain⟨B,dx,t,es,Y,rfl,BK,Y0,Y1,el,qe,q⟩:=h
  refine' ⟨_,zi (zp ?comp),?main⟩
  case comp =>
   refine' qb (Nc:=["row"]) (cl:=[]) (src:=[none]) (wi:=vG K (RS C "rows" (Z4 C cN) E (zP 0) (qf (zP 1) q8))) (g:=zX 0) (tt:=qC) (te:=fun σ H Q=>qf (zP 0) q8 σ H fun vs H1=>vb Cs vs H1 Q E0)
    ⟨rfl,rfl,by decide +kernel,by decide +kernel,(fun x c z=>nomatch z),qu (by rfl),zQ qc,rfl⟩ rfl (yy (vk M1 hr hj X9 (pv 0) (za (pv 1) zd))) ?hb
   case hb =>
    intro fp C' s' H'
    exact⟨zS (i:=0) nc rfl (Or.inl rfl),qi,zj C1 hr (bK _) zu (za (pv 0) zd)⟩
  try (dsimp (config:={ proj:=false,iota:=false,beta:=false,eta:=false }) only [jd,j5])
  refine⟨_,rfl,B,dx,_,rfl,BK.ins,rfl,_,rfl,B,dx,t,es,Y,rfl,BK,Y0,Y1,el,qe,fun m rs pk ok l H1 s1 n1 e1=>?_⟩
  have few:=ok.few
  refine⟨l,rfl,⟨_,z5.of e1⟩,fun D hD=>ZU (qT (z5.of e1)) (Qf rs) hD (by rw[sizeLine_eq];omega) (fun H' u r=>ug Cs H' r u) (fun kp h=>h.keep kp) (fun i r hr' v H2 R s2 e2 k=>?_) (fun ys H2 s2 e2 M=>?_)⟩
  ·subst e2
   exact⟨_,rfl,r,rfl,ok.gd r (Bv hr'),fun o H3 s3 ro=>k o H3 s3 ro⟩
  ·exact q m rs pk ok D H2 (s1.trans s2) ⟨ys,e2,xz.items M fun H' s v r h=>h.same s⟩
theorem mI {Cs:Nat→Addr} {j:Nat} (F:qE K "statement_by" "statement_by" (top 54) f fd) (C1:qH P w K mg base zO j "month_row" ["rules","bases"] (Xd K Cs)):zJ P w K mg base zO (j+1) f fd ["rules","month","bases"] (XE K Cs):=by
 refine F.ok (N:=["rules","month","bases"]) ⟨rfl,rfl,rfl,by decide +kernel,rfl,by decide +kernel,by decide +kernel⟩ (fun vs H Q E h=>?_) (fun cdv A outer s H vs Q E hr h=>?_)
 ·obtain⟨l,b,rs,bs,M,rfl,_⟩:=h
  rfl
 ·obtain⟨l,b,rs,bs,M,rfl,ro,ok,hb,bl,q⟩:=h
  refine⟨_,zi (zp (zw OO (qZ (za (pv 1) zd)) (zj C1 hr (bK _) zu (za (pv 0) (za (pv 2) zd))))),?_⟩
  refine⟨_,rfl,qa rfl,fun t1 H1 s1 n1 e1=>⟨_,rfl,_,rfl,l,b,rs,bs,rfl,ro.same s1,ok,s1.seq hb,bl,fun v H2 s2 rw'=>?_⟩⟩
  obtain⟨t2,u,rfl,h2,du⟩:=rw'
  refine⟨t1,t2,_,_,rfl,rfl,qg.of (s2 _ _ e1),qg.of h2,(fun z=>nomatch z),by rw[sizeLine_eq];show 1+3≤16777216;decide,(fun z=>nomatch z),fun _ t3 H3 s3 n3 e3=>?_⟩
  exact q _ H3 (s1.trans (s2.trans s3)) ⟨t3,u,rfl,e3,du.same s3⟩
theorem LG {Cs:Nat→Addr} {C cM cN:Addr} {j:Nat} (hj:4≤j) (F:qE K "statement" "statement" (top 55) f fd) (M1:qO P w K mg base (xq P w) j C "rules" ["self","year"] (Yk Cs C cN)) (C1:qH P w K mg base (xq P w) 4 "year_of" ["month"] (ZH K cM)) (C2:qH P w K mg base zO j "statement_by" ["rules","month","bases"] (XE K Cs)):zJ P w K mg base (xq P w) (j+1) f fd ["book","month","bases"] (Xi K Cs C cM cN):=by
 refine F.okE (N:=["book","month","bases"]) ⟨rfl,rfl,rfl,by decide +kernel,rfl,by decide +kernel,by decide +kernel⟩ (fun vs H Q E h=>?_) (fun cdv A outer s H vs Q E hr h=>?_)
 ·obtain⟨B,dx,t,b,es,v,bs,rfl,_⟩:=h
  rfl
 ·obtain⟨B,dx,t,b,es,v,bs,rfl,BK,el,hb,bl,h⟩:=h
  refine⟨_,zi (zp (zj C2 hr (bK _) zu (za (vk M1 hr (bK _) X9 (pv 0) (za (zj C1 hr hj X9 (za (pv 1) zd)) zd)) (za (pv 1) (za (pv 2) zd))))),?_⟩
  rcases h with ⟨M,rfl,M0,M1',qe,q⟩ | ⟨nn,q⟩
  ·refine⟨_,rfl,B,dx,_,rfl,BK.ins,rfl,_,rfl,_,rfl,.inl ⟨M,rfl,M0,M1',B,dx,t,es,M/12,rfl,BK,by omega,by omega,el,qe,fun m rs pk ok l H1 s1 ro=>?_⟩⟩
   exact⟨_,rfl,_,rfl,l,b,rs,bs,M,rfl,ro,ok,s1.seq hb,bl,fun v H2 s2 st=>q m rs pk v H2 (s1.trans s2) st⟩
  ·exact⟨_,rfl,B,dx,_,rfl,BK.ins,rfl,_,rfl,_,rfl,.inr ⟨nn,q⟩⟩
end
end K14
namespace K14
open PySem PySem.NumText L2 Pg
seal PE PA PT PW PS jw PG um PI ud PO PK
section
variable {P:Program} {w:World} {K:PySem.W.Frag} {mg:Str→Option Value} {base:Heap} {f:Addr} {fd:FuncData} {d:Nat→Addr} {cR:Addr}
theorem lV (F:qE K "_law_mixed" "_law_mixed" (top 93) f fd):zJ P w K mg base zO 1 f fd ["_law_cell","_law_k"] yQ:=by
 have nd:(["_law_cell","_law_k","_law_number"]:List Str).Nodup:=by decide +kernel
 refine F.ok (N:=["_law_cell","_law_k","_law_number"]) ⟨rfl,rfl,rfl,by decide +kernel,rfl,by decide +kernel,by decide +kernel⟩ (fun vs H Q E h=>?_) (fun cdv A outer s H vs Q E hr h=>?_)
 ·obtain⟨c,k,rfl,_⟩:=h
  rfl
 ·obtain⟨c,k,rfl,q⟩:=h
  refine⟨_,(zh (zI (i:=2) nd rfl (Or.inl rfl) (zw qd (zw qj (zw qj (zw qJ (pv 0) ze) (zw qJ ze (pv 1))) ze) ze))
    (zi (zp (zw qd (zw qJ (zw qd (zw qJ (pv 2) (pv 2)) ze) (pv 2)) ze)))),?_⟩
  refine⟨_,rfl,_,_,rfl,rfl,.inr ⟨by decide,by decide⟩,_,rfl,_,_,rfl,rfl,.inl ⟨by decide,by decide⟩,_,_,rfl,rfl,_,_,rfl,rfl,_,_,rfl,rfl,(by show (0:Int)<1000003;decide),?_⟩
  have b0:0≤(c*48271+7919*k+11)%1000003:=b7 _ (by decide)
  have b1:(c*48271+7919*k+11)%1000003<1000003:=Bg _ (by decide)
  dsimp only
  generalize (c*48271+7919*k+11)%1000003=m at b0 b1
  exact⟨_,rfl,_,rfl,_,_,rfl,rfl,.inr ⟨by omega,by omega⟩,_,_,rfl,rfl,(by show (0:Int)<1000003;decide),_,rfl,_,_,rfl,rfl,.inr ⟨by omega,by omega⟩,_,_,rfl,rfl,(by show (0:Int)<1000003;decide),q _ (b7 _ (by decide)) (Bg _ (by decide))⟩
theorem mB (F:qE K "_law_amount" "_law_amount" (top 95) f fd) (C1:qH P w K mg base zO 1 "_law_mixed" ["_law_cell","_law_k"] yQ):zJ P w K mg base zO 2 f fd ["_law_cell","_law_k"] Vp:=by
 have nd:(["_law_cell","_law_k","_law_number","_law_more","_law_wide"]:List Str).Nodup:=by decide +kernel
 refine F.ok (N:=["_law_cell","_law_k","_law_number","_law_more","_law_wide"]) ⟨rfl,rfl,rfl,by decide +kernel,rfl,by decide +kernel,by decide +kernel⟩ (fun vs H Q E h=>?_) (fun cdv A outer s H vs Q E hr h=>?_)
 ·obtain⟨c,k,rfl,_⟩:=h
  rfl
 ·obtain⟨c,k,rfl,q⟩:=h
  refine⟨_,(zh (zI (i:=2) nd rfl (Or.inl rfl) (zj C1 hr (by decide) zu (za (pv 0) (za (pv 1) zd))))
    (zh (zI (i:=3) nd rfl (Or.inl rfl) (zw qK (pv 2) ze))
    (zh (zI (i:=4) nd rfl (Or.inl rfl) (zw qj (zw qJ (pv 2) ze) (zj C1 hr (by decide) zu (za (pv 0) (za (zw qj (pv 1) ze) zd)))))
    (zi (zp (zB zK (zY (za ze (za (zw qd (pv 3) ze) (za (zw qd (pv 3) ze) (za (zw qJ (zw qd (pv 3) ze) ze) (za (zw qJ (pv 3) ze) (za (zw qd (pv 4) (zw qj (zw xD ze ze) ze)) (za (zw xD ze ze) zd)))))))) (zw qd (pv 2) ze))))))),?_⟩
  refine⟨_,rfl,_,rfl,c,k,rfl,fun m m0 m1=>⟨_,rfl,_,_,rfl,rfl,⟨by decide,by decide⟩,_,rfl,_,_,rfl,rfl,.inr ⟨by decide,by decide⟩,_,rfl,_,rfl,_,_,rfl,rfl,c,_,rfl,fun n n0 n1=>⟨_,_,rfl,rfl,?_⟩⟩⟩
  have d0:0≤m/7:=Int.ediv_nonneg m0 (by decide)
  have d1:m/7≤142858:=by omega
  dsimp only
  generalize m/7=e at d0 d1
  have e0:0≤e%19:=b7 _ (by decide)
  have e1:e%19<19:=Bg _ (by decide)
  have p12:(10:Int) ^ (12:Int).toNat=1000000000000:=by decide
  refine⟨_,rfl,_,_,rfl,rfl,(by show (0:Int)<30;decide),_,rfl,_,_,rfl,rfl,(by show (0:Int)<40000;decide),_,rfl,_,_,rfl,rfl,(by show (0:Int)<19;decide),_,_,rfl,rfl,.inr ⟨by decide,by decide⟩,_,rfl,_,_,rfl,rfl,.inr ⟨by decide,by decide⟩,_,rfl,_,_,rfl,rfl,⟨by decide,by decide,by decide⟩,_,_,rfl,rfl,_,_,rfl,rfl,?_,_,_,rfl,rfl,⟨by decide,by decide,by decide⟩,qa rfl,fun l H1 s1 n1' e1'=>?_⟩
  ·show (0:Int)<10 ^ (12:Int).toNat+1
   rw[p12]
   decide
  have w0:0≤(m*1000003+n)%(10 ^ (12:Int).toNat+1):=b7 _ (by rw[p12];decide)
  have w1:(m*1000003+n)%(10 ^ (12:Int).toNat+1)<1000000000001:=by
   rw[p12]
   exact Bg _ (by decide)
  obtain⟨v,ev,mv⟩:=vq (xs:=[V.int 0,.int (e%30),.int (e%40000),.int (e%19*5000),.int (e*50),.int ((m*1000003+n)%(10 ^ (12:Int).toNat+1)),.int (10 ^ (12:Int).toNat)]) (i:=m%7) (b7 _ (by decide)) (Bg _ (by decide))
  obtain⟨a,rfl,ha⟩:∃ a,v = .int a∧JY a:=by
   have f0:0≤e%30:=b7 _ (by decide)
   have f1:e%30<30:=Bg _ (by decide)
   have g0:0≤e%40000:=b7 _ (by decide)
   have g1:e%40000<40000:=Bg _ (by decide)
   generalize (m*1000003+n)%(10 ^ (12:Int).toNat+1)=x at w0 w1 mv
   rw[p12] at mv
   simp only[bN,bS,or_false] at mv
   rcases mv with rfl | rfl | rfl | rfl | rfl | rfl | rfl
   all_goals exact⟨_,rfl,by omega,by omega⟩
  exact⟨_,rfl,_,_,rfl,rfl,(by show (0:Int)<7;decide),l,_,_,_,rfl,rfl,z5.of e1',ev,q a H1 ha s1⟩
theorem LX (F:qE K "_law_parts" "_law_parts" (top 98) f fd) (C1:qH P w K mg base zO 1 "_law_mixed" ["_law_cell","_law_k"] yQ):zJ P w K mg base zO 2 f fd ["_law_cell","_law_k"] kW:=by
 have nd:(["_law_cell","_law_k","_law_number"]:List Str).Nodup:=by decide +kernel
 refine F.ok (N:=["_law_cell","_law_k","_law_number"]) ⟨rfl,rfl,rfl,by decide +kernel,rfl,by decide +kernel,by decide +kernel⟩ (fun vs H Q E h=>?_) (fun cdv A outer s H vs Q E hr h=>?_)
 ·obtain⟨c,k,rfl,_⟩:=h
  rfl
 ·obtain⟨c,k,rfl,q⟩:=h
  refine⟨_,(zh (zI (i:=2) nd rfl (Or.inl rfl) (zj C1 hr (by decide) zu (za (pv 0) (za (pv 1) zd))))
    (zi (zp (zB zK (zY (za ze (za ze (za ze (za ze (za ze (za ze (za ze (za ze (za (zw qd (zw qK (pv 2) ze) ze) (za (zw qd (zw qK (pv 2) ze) ze) zd))))))))))) (zw qd (pv 2) ze))))),?_⟩
  refine⟨_,rfl,_,rfl,c,k,rfl,fun m m0 m1=>⟨_,rfl,_,_,rfl,rfl,⟨by decide,by decide⟩,_,_,rfl,rfl,(by show (0:Int)<20001;decide),_,rfl,_,_,rfl,rfl,⟨by decide,by decide⟩,_,_,rfl,rfl,(by show (0:Int)<300;decide),qa rfl,fun l H1 s1 n1 e1=>?_⟩⟩
  obtain⟨v,ev,mv⟩:=vq (xs:=[V.int 0,.int 1,.int 5000,.int 2500,.int 10000,.int 20000,.int 19999,.int 625,.int (m/10%20001),.int (m/10%300)]) (i:=m%10) (b7 _ (by decide)) (Bg _ (by decide))
  obtain⟨a,rfl,ha⟩:∃ a,v = .int a∧YZ a:=by
   simp only[bN,bS,or_false] at mv
   have f0:0≤m/10%20001:=b7 _ (by decide)
   have f1:m/10%20001<20001:=Bg _ (by decide)
   have g0:0≤m/10%300:=b7 _ (by decide)
   have g1:m/10%300<300:=Bg _ (by decide)
   rcases mv with rfl | rfl | rfl | rfl | rfl | rfl | rfl | rfl | rfl | rfl
   all_goals exact⟨_,rfl,by omega,by omega⟩
  exact⟨_,rfl,_,_,rfl,rfl,(by show (0:Int)<10;decide),l,_,_,_,rfl,rfl,z5.of e1,ev,q a H1 ha s1⟩
theorem Lp (F:qE K "_law_way" "_law_way" (top 99) f fd) (C1:qH P w K mg base zO 1 "_law_mixed" ["_law_cell","_law_k"] yQ):zJ P w K mg base zO 2 f fd ["_law_cell","_law_k"] Jv:=by
 refine F.ok (N:=["_law_cell","_law_k"]) ⟨rfl,rfl,rfl,by decide +kernel,rfl,by decide +kernel,by decide +kernel⟩ (fun vs H Q E h=>?_) (fun cdv A outer s H vs Q E hr h=>?_)
 ·obtain⟨c,k,rfl,_⟩:=h
  rfl
 ·obtain⟨c,k,rfl,q⟩:=h
  refine⟨_,(zi (zp (zB zK (zY (za zA (za zA (za zA (za zA zd))))) (zw qd (zw qK (zj C1 hr (by decide) zu (za (pv 0) (za (pv 1) zd))) ze) ze)))),?_⟩
  refine⟨qa rfl,fun l H1 s1 n1 e1=>⟨_,rfl,_,rfl,c,k,rfl,fun m m0 m1=>?_⟩⟩
  obtain⟨x,ev,hw⟩:=nJ (i:=m/5%4) (b7 _ (by decide)) (Bg _ (by decide))
  exact⟨_,_,rfl,rfl,⟨by decide,by decide⟩,_,_,rfl,rfl,(by show (0:Int)<4;decide),l,_,_,_,rfl,rfl,z5.of e1,ev,q x H1 hw s1⟩
theorem m6 (F:qE K "_law_bases" "_law_bases" (top 96) f fd) (G:jF mg) (C1:qH P w K mg base zO 2 "_law_amount" ["_law_cell","_law_k"] Vp):zJ P w K mg base zO 3 f fd ["_law_cell","_law_many"] Xg:=by
 have nd:(["_law_cell","_law_many","_law_found","_law_k","_law_amount_here"]:List Str).Nodup:=by decide +kernel
 refine F.ok (N:=["_law_cell","_law_many","_law_found","_law_k","_law_amount_here"]) ⟨rfl,rfl,rfl,by decide +kernel,rfl,by decide +kernel,by decide +kernel⟩ (fun vs H Q E h=>?_) (fun cdv A outer s H vs Q E hr h=>?_)
 ·obtain⟨c,n,rfl,_⟩:=h
  rfl
 ·obtain⟨c,n,rfl,nl,q⟩:=h
  refine⟨_,(zh (zI (i:=2) nd rfl (Or.inl rfl) (zY zd))
    (zh (uI PassesOwn.never rfl (yk rfl G.range (za (pv 1) zd)) (zS (i:=3) nd rfl (Or.inl rfl)) (zh (zI (i:=4) nd rfl (Or.inl rfl) (zj C1 hr (by decide) zu (za (pv 0) (za (zw qj ze (pv 3)) zd))))
    (ut (zT (zE qx (zw qd (pv 0) ze) ze (zD _)) (zi (zI (i:=4) nd rfl (Or.inl rfl) (zw qd (pv 4) ze))) zC)
    (zi (qv (yE PySem.F.plainAttrs_list PySem.F.slot_list_append PySem.F.type_list_append j7 (pv 2) (za (pv 4) zd)))))))
    (zi (zp (pv 2))))),?_⟩
  refine⟨qa rfl,fun l H1 s1 n1 e1=>⟨_,rfl,_,rfl,by omega,by omega,vv (fun i σ H'=>∃ x3 x4,∃ bs:List Int,N8 (σ = [some (.int c),some (.int (n:Nat)),some (.ref l),x3,x4]) (zx H H') (H' l=some (.lst (bs.map V.int))) (bs.length=i∧lh bs)) ⟨_,_,[],rfl,s1,e1,rfl,fun b h=>nomatch h⟩ ?_ ?_⟩⟩
  ·rintro i σ H2 hi ⟨x3,x4,bs,rfl,s2,e2,bl,bn⟩ E2 k2
   rw[BA] at hi
   refine⟨_,rfl,_,rfl,_,_,rfl,rfl,c,_,rfl,fun a H3 ha s3=>?_⟩
   refine wS (fun σ H'=>∃ a,σ = [some (.int c),some (.int (n:Nat)),some (.ref l),some (.int (0+(i:Nat))),some (.int a)]∧0≤a∧H'=H3) (fun En kk=>?_) ?_
   ·refine⟨_,rfl,_,_,rfl,rfl,(by show (0:Int)<4;decide),rfl,_,rfl,yv (fun _=>?_) (fun _=>?_)⟩
    ·exact⟨_,rfl,_,_,rfl,rfl,(by show (0:Int)<9;decide),kk _ _ ⟨_,rfl,b7 _ (by decide),rfl⟩⟩
    ·exact kk _ _ ⟨_,rfl,ha.1,rfl⟩
   ·rintro σ H4 ⟨a,rfl,a0,rfl⟩
    have e4:=s3 _ _ e2
    refine⟨_,rfl,.inl ⟨rfl,_,z5.of e4⟩,_,rfl,l,_,_,rfl,rfl,e4,?_,?_⟩
    ·rw[bM,bl,sizeLine_eq]
     omega
    ·refine k2 _ _ ⟨_,_,bs++[a],rfl,fun b o hb=>?_,?_,?_,fun b hb=>?_⟩
     ·rw[zq (zF hb n1)]
      exact s3 _ _ (s2 _ _ hb)
     ·rw[zm,Bc]
      rfl
     ·rw[bP,bl]
      rfl
     ·rcases Bt.mp hb with hb | hb
      ·exact bn b hb
      ·rw[Bf.mp hb]
       exact a0
  ·rintro σ H2 ⟨x3,x4,bs,rfl,s2,e2,bl,bn⟩
   rw[BA] at bl
   exact⟨_,rfl,q bs l H2 bl bn s2 n1 e2⟩
theorem lU (F:qE K "_law_rounded" "_law_rounded" (top 103) f fd) (G:jF mg):zJ P w K mg base zO 1 f fd ["_law_number","_law_way_here"] Xm:=by
 have nd:(["_law_number","_law_way_here","_law_whole_here","_law_rest"]:List Str).Nodup:=by decide +kernel
 refine F.ok (N:=["_law_number","_law_way_here","_law_whole_here","_law_rest"]) ⟨rfl,rfl,rfl,by decide +kernel,rfl,by decide +kernel,by decide +kernel⟩ (fun vs H Q E h=>?_) (fun cdv A outer s H vs Q E hr h=>?_)
 ·obtain⟨c,k,rfl,_⟩:=h
  rfl
 ·obtain⟨z,x,rfl,z0,q⟩:=h
  refine⟨_,(zh (zI (i:=2) nd rfl (Or.inl rfl) (zw qK (pv 0) ze))
    (zh (zI (i:=3) nd rfl (Or.inl rfl) (zw ua (pv 0) (zw qJ (pv 2) ze)))
    (zh (zT (zE qx (pv 1) zA (zD _)) (zi (zp (pv 2))) zC)
    (zh (zT (zE qx (pv 1) zA (zD _)) (zi (zp (zw qj (pv 2) (z7 wA rfl G.int vf (za (qB jD (pv 3) ze (zD _)) zd))))) zC)
    (zh (zT (zE qx (pv 1) zA (zD _)) (zi (zp (zw qj (pv 2) (z7 wA rfl G.int vf (za (qB Rs (pv 3) ze (zD _)) zd))))) zC)
    (zi (zp (zw qj (pv 2) (z7 wA rfl G.int vf (za (Mf (qB jD (pv 3) ze (zD _)) (yT (yI (qB qx (pv 3) ze (zD _)) (yT (qB qx (zw qd (pv 2) ze) ze (zD _)))))) zd)))))))))),?_⟩
  rw[← mL z0] at q
  unfold WP at q
  refine⟨_,rfl,_,_,rfl,rfl,⟨by decide,by decide⟩,_,rfl,_,rfl,_,_,rfl,rfl,.inr ⟨by decide,by decide⟩,_,_,rfl,rfl,?_⟩
  have er:z - z/10000*10000=z%10000:=by omega
  dsimp only
  rw[er]
  refine⟨_,rfl,rfl,_,rfl,yv (fun e=>?_) (fun e=>?_)⟩
  ·rw[kU] at e
   rw[if_pos e] at q
   exact⟨_,rfl,q⟩
  rw[kU] at e
  rw[if_neg e] at q
  refine⟨_,rfl,rfl,_,rfl,yv (fun e=>?_) (fun e=>?_)⟩
  ·rw[kU] at e
   rw[if_pos e] at q
   refine⟨_,rfl,_,rfl,_,_,rfl,rfl,.inr ⟨_,rfl,_,_,rfl,rfl,?_⟩⟩
   simpa only [decide_eq_true_eq] using q
  rw[kU] at e
  rw[if_neg e] at q
  refine⟨_,rfl,rfl,_,rfl,yv (fun e=>?_) (fun e=>?_)⟩
  ·rw[kU] at e
   rw[if_pos e] at q
   refine⟨_,rfl,_,rfl,_,_,rfl,rfl,.inr ⟨_,rfl,_,_,rfl,rfl,?_⟩⟩
   simpa only [decide_eq_true_eq] using q
  rw[kU] at e
  rw[if_neg e] at q
  refine⟨_,rfl,_,rfl,_,_,rfl,rfl,_,rfl,yv (fun e=>?_) (fun e=>?_)⟩
  ·have e:=of_decide_eq_true e
   rw[if_pos (.inl e)] at q
   exact .inr ⟨_,rfl,_,_,rfl,rfl,q⟩
  ·have e:¬ 5000<z%10000:=fun c=>e (decide_eq_true c)
   refine⟨_,rfl,rfl,_,rfl,yv (fun e2=>?_) (fun e2=>?_)⟩
   ·rw[ux] at e2
    refine⟨_,rfl,_,_,rfl,rfl,(by show (0:Int)<2;decide),rfl,.inr ⟨_,rfl,_,_,rfl,rfl,?_⟩⟩
    rw[NL]
    by_cases e3:z/10000%2=1
    ·rw[if_pos (.inr ⟨e2,e3⟩)] at q
     rw[decide_eq_true e3,if_pos rfl]
     exact q
    ·rw[if_neg (by omega)] at q
     rw[decide_eq_false e3,if_neg bV]
     exact q
   ·rw[ux] at e2
    rw[if_neg (by omega)] at q
    exact .inr ⟨_,rfl,_,_,rfl,rfl,q⟩
end
end K14
namespace K14
open PySem PySem.NumText L2 Pg
seal PE PA PT PW PS jw PG um PI ud PO PK
section
variable {P:Program} {w:World} {K:PySem.W.Frag} {mg:Str→Option Value} {base:Heap} {f:Addr} {fd:FuncData} {d:Nat→Addr} {cR:Addr}
set_option maxHeartbeats 8000000 in
theorem LO (F:qE K "_law_names" "_law_names" (top 97) f fd) (G:jF mg) (C1:qH P w K mg base zO 1 "_law_mixed" ["_law_cell","_law_k"] yQ):zJ P w K mg base zO 2 f fd ["_law_cell","_law_many"] Xk:=by
 have nd:(["_law_cell","_law_many","_law_letters","_law_some","_law_number","_law_frame","_law_at","_law_size","_law_signs","_law_words"]:List Str).Nodup:=by decide +kernel
 have nc6:(["_law_j","_law_some","_law_cell"]:List Str).Nodup:=by decide +kernel
 have nc4:(["_law_k","_law_letters","_law_number"]:List Str).Nodup:=by decide +kernel
 have nc3:(["_law_sign","_law_frame","_law_at","_law_size"]:List Str).Nodup:=by decide +kernel
 have nc2:(["_law_k","_law_frame"]:List Str).Nodup:=by decide +kernel
 have nc1:(["_law_k","_law_words","_law_number"]:List Str).Nodup:=by decide +kernel
 refine F.ok (N:=["_law_cell","_law_many","_law_letters","_law_some","_law_number","_law_frame","_law_at","_law_size","_law_signs","_law_words"]) ⟨rfl,rfl,rfl,by decide +kernel,rfl,by decide +kernel,by decide +kernel⟩ (fun vs H Q E h=>?_) (fun cdv A outer s H vs Q E hr h=>?_)
 ·obtain⟨c,n,rfl,_⟩:=h
  rfl
 ·obtain⟨c,n,rfl,n8,q⟩:=h
  refine' ⟨_,(zh (zI (i:=2) nd rfl (Or.inr rfl) zA)
    (zh (zI (i:=3) nd rfl (Or.inr rfl) zA)
    (zh (zI (i:=4) nd rfl (Or.inr rfl) (zj C1 hr (by decide) zu (za (pv 0) (za ze zd))))
    (zh (zI (i:=5) nd rfl (Or.inr rfl) (yE PySem.F.plainAttrs_str PySem.F.slot_str_join PySem.F.type_str_join yV zA (za ?comp_6 zd)))
    (zh (zI (i:=6) nd rfl (Or.inr rfl) (zw qd (zw qK (pv 4) ze) ze))
    (zh (zI (i:=7) nd rfl (Or.inr rfl) (zw qj (pv 6) (zw qd (zw qK (pv 4) ze) (zw ua ze (pv 6)))))
    (zh (zT (zE qx (zw qd (pv 4) ze) ze (zD _)) (zh ?comp_4
    (zi (zp ?comp_3))) zC)
    (zh (zT (zE qx (zw qd (pv 4) ze) ze (zD _)) (zi (zp ?comp_2)) zC)
    (zh (zI (i:=9) nd rfl (Or.inr rfl) (zY (za zA (za zA (za zA (za zA (za zA (za zA (za zA (za zA (za zA (za zA zd))))))))))))
    (zi (zp ?comp_1))))))))))),?main⟩
  case comp_6 =>
   refine' qb (Nc:=["_law_j","_law_some","_law_cell"]) (cl:=[("_law_some",s.heap.objs.size+3),("_law_cell",s.heap.objs.size+1)]) (src:=[none,some 3,some 0]) (wi:=Z9 (qf (tC (.int 7)) q8)) (g:=zX 0) (tt:=qC)
    (te:=jB nu (zP 1) (jB (rI (fun _ j=>0<j) fun i j=>.int (i%j)) (fun σ H Q=>qf (zP 2) (qf (jB (Yw fun i j=>.int (i+j)) (tC (.int 120)) (zP 0)) q8) σ H fun vs H1=>yQ vs H1 Q E0) (tC (.int 21))))
    ⟨rfl,rfl,by decide +kernel,by decide +kernel,ja (Uc rfl (wG rfl)),qu (by rfl),zQ (qt ⟨_,rfl,rfl,rfl,rfl⟩ (qt ⟨_,rfl,rfl,rfl,rfl⟩ qc)),rfl⟩ rfl (yk rfl G.range (za ze zd)) ?hb
   case hb =>
    intro fp C' s' H'
    exact⟨zS (i:=0) nc6 rfl (Or.inl rfl),qi,zB ph (pv 1) (zw qd (zj C1 hr (by decide) zu (za (pv 2) (za (zw qj ze (pv 0)) zd))) ze)⟩
  case comp_4 =>
   refine' wc (i:=8) (Nc:=["_law_k","_law_letters","_law_number"]) (cl:=[("_law_number",s.heap.objs.size+4),("_law_letters",s.heap.objs.size+2)]) (src:=[none,some 2,some 4]) (wi:=Z9 (qf (zP 1) q8)) (g:=zX 0) (tt:=qC)
    (te:=jB nu (zP 1) (jB (rI (fun _ j=>0<j) fun i j=>.int (i%j)) (jB (Yw fun i j=>.int (i+j)) (jB (rI Lj fun i j=>.int (i/j)) (zP 2) (tC (.int 200))) (jB (rI oI fun i j=>.int (i*j)) (tC (.int 3)) (zP 0))) (tC (.int 26)))) nd rfl rfl
    ⟨rfl,rfl,by decide +kernel,by decide +kernel,ja (Uc rfl (wG rfl)),qu (by rfl),zQ (qt ⟨_,rfl,rfl,rfl,rfl⟩ (qt ⟨_,rfl,rfl,rfl,rfl⟩ qc)),rfl⟩ rfl (yk rfl G.range (za (pv 1) zd)) ?hb
   case hb =>
    intro fp C' s' H'
    exact⟨zS (i:=0) nc4 rfl (Or.inl rfl),qi,zB ph (pv 1) (zw qd (zw qj (zw qK (pv 2) ze) (zw qJ ze (pv 0))) ze)⟩
  case comp_3 =>
   refine' qb (Nc:=["_law_sign","_law_frame","_law_at","_law_size"]) (cl:=[("_law_size",s.heap.objs.size+7),("_law_frame",s.heap.objs.size+5),("_law_at",s.heap.objs.size+6)]) (src:=[none,some 5,some 6,some 7]) (wi:=vG K (zP 8)) (g:=zX 0) (tt:=qC)
    (te:=jB (fun x y H Q=>∃ i j:Str,x = .str i∧y = .str j∧i.length+j.length≤sizeLine∧Q (.str (i++j)) H) (jB (fun x y H Q=>∃ i j:Str,x = .str i∧y = .str j∧i.length+j.length≤sizeLine∧Q (.str (i++j)) H) (rV LD (zP 1) Zh (YM (zP 2))) (zP 0)) (rV LD (zP 1) (YM (zP 2)) (YM (zP 3))))
    ⟨rfl,rfl,by decide +kernel,by decide +kernel,ja (Uc rfl (Uc rfl (wG rfl))),qu (by rfl),zQ (qt ⟨_,rfl,rfl,rfl,rfl⟩ (qt ⟨_,rfl,rfl,rfl,rfl⟩ (qt ⟨_,rfl,rfl,rfl,rfl⟩ qc))),rfl⟩ rfl (yy (pv 8)) ?hb
   case hb =>
    intro fp C' s' H'
    exact⟨zS (i:=0) nc3 rfl (Or.inl rfl),qi,zw qA (zw qA (jv xX (pv 1) uu (jm (pv 2))) (pv 0)) (jv xX (pv 1) (jm (pv 2)) (jm (pv 3)))⟩
  case comp_2 =>
   refine' qb (Nc:=["_law_k","_law_frame"]) (cl:=[("_law_frame",s.heap.objs.size+5)]) (src:=[none,some 5]) (wi:=Z9 (qf (zP 1) q8)) (g:=zX 0) (tt:=qC)
    (te:=rV LD (jB (fun x y H Q=>∃ i j:Str,x = .str i∧y = .str j∧i.length+j.length≤sizeLine∧Q (.str (i++j)) H) (tC (.str "q")) (zP 1)) Zh (YM (jB (Yw fun i j=>.int (i+j)) (tC (.int 1)) (zP 0))))
    ⟨rfl,rfl,by decide +kernel,by decide +kernel,ja (wG rfl),qu (by rfl),zQ (qt ⟨_,rfl,rfl,rfl,rfl⟩ qc),rfl⟩ rfl (yk rfl G.range (za (pv 1) zd)) ?hb
   case hb =>
    intro fp C' s' H'
    exact⟨zS (i:=0) nc2 rfl (Or.inl rfl),qi,jv xX (zw qA zA (pv 1)) uu (jm (zw qj ze (pv 0)))⟩
  case comp_1 =>
   refine' qb (Nc:=["_law_k","_law_words","_law_number"]) (cl:=[("_law_words",s.heap.objs.size+8),("_law_number",s.heap.objs.size+4)]) (src:=[none,some 9,some 4]) (wi:=Z9 (qf (zP 1) q8)) (g:=zX 0) (tt:=qC)
    (te:=jB (O8 K) (zP 1) (jB (rI (fun _ j=>0<j) fun i j=>.int (i%j)) (jB (Yw fun i j=>.int (i+j)) (jB (rI Lj fun i j=>.int (i/j)) (zP 2) (tC (.int 3))) (zP 0)) (tC (.int 10))))
    ⟨rfl,rfl,by decide +kernel,by decide +kernel,ja (Uc rfl (wG rfl)),qu (by rfl),zQ (qt ⟨_,rfl,rfl,rfl,rfl⟩ (qt ⟨_,rfl,rfl,rfl,rfl⟩ qc)),rfl⟩ rfl (yk rfl G.range (za (pv 1) zd)) ?hb
   case hb =>
    intro fp C' s' H'
    exact⟨zS (i:=0) nc1 rfl (Or.inl rfl),qi,zB zK (pv 1) (zw qd (zw qj (zw qK (pv 2) ze) (pv 0)) ze)⟩
  dsimp (config:={ proj:=false,iota:=false,beta:=false,eta:=false }) only [jd,j5]
  have rl:∀ m:Nat,((List.range m).map fun k=>V.int (0+((k:Nat):Int))).length=(List.range m).length:=fun m=>bM _
  refine⟨_,rfl,c,_,rfl,fun u u0 u1=>?_⟩
  refine⟨rfl,7,rfl,by decide,by decide,fun D hD=>?_⟩
  refine vR (vg (n:=7)) (rl 7) hD (by rw[Bm,sizeLine_eq];decide) (fun v _=>∃ d,v = .str ⟨#[d]⟩∧kN d=true) (fun i x v hx hv H1 R s1 r=>?_) (fun zs H1 s1 zl zr e1=>?_)
  ·rw[bR] at hv
   obtain⟨k,hk,rfl⟩:=bX.mp hv
   refine⟨_,rfl,_,rfl,_,rfl,_,_,rfl,rfl,c,_,rfl,fun m m0 m1=>?_⟩
   obtain⟨d,d1,d2⟩:=Rh (i:=m%21) (b7 _ (by decide)) (Bg _ (by decide))
   exact⟨_,_,rfl,rfl,(by show (0:Int)<21;decide),_,_,d,rfl,rfl,Wq (m:=21) (by decide +kernel) rfl,d1,r _ _ ⟨d,rfl,d2⟩ (zx.refl _)⟩
  obtain⟨fs,rfl,fa⟩:=pX (lS zr)
  have fl:fs.length=7:=by
   rw[bM,bM,Bm] at zl
   exact zl
  have jo:=(yc (sep:="") (zs:=fs.map fun c=>(⟨#[c]⟩:Str)) (m:=1) (k:=7) (fun z hz=>by obtain⟨_,_,rfl⟩:=bZ.mp hz;exact bK _) (by rw[bM,fl];exact bK _) (by decide +kernel) rfl).1
  refine⟨_,_,D,rfl,rfl,z5.of e1,jo,?_⟩
  have zc:=xw fs
  generalize Txt.join ("":Str) (fs.map fun c=>(⟨#[c]⟩:Str))=z at zc
  clear jo zl zr e1 hD
  have zl:z.length=7:=by rw[qF,zc,fl]
  have a0:0≤u/3%8:=b7 _ (by decide)
  have a1:u/3%8<8:=Bg _ (by decide)
  refine⟨_,rfl,_,_,rfl,rfl,⟨by decide,by decide⟩,_,_,rfl,rfl,(by show (0:Int)<8;decide),?_⟩
  dsimp only
  obtain⟨at',hat⟩:=BP a0
  rw[hat] at a0 a1 ⊢
  have b0:0≤u/24%(8 - (at':Int)):=b7 _ (by omega)
  have b1:u/24%(8 - (at':Int))<8 - (at':Int):=Bg _ (by omega)
  refine⟨_,rfl,_,rfl,_,_,rfl,rfl,⟨by decide,by decide⟩,_,rfl,_,_,rfl,rfl,_,_,rfl,rfl,(by show (0:Int)<8 - (at':Int);omega),_,_,rfl,rfl,?_⟩
  dsimp only
  obtain⟨sz,hsz⟩:∃ sz:Nat,(at':Int)+u/24%(8 - (at':Int))=sz:=⟨(at':Int).toNat+(u/24%(8 - (at':Int))).toNat,by omega⟩
  have sz1:at'≤sz:=by omega
  have sz2:sz≤7:=by omega
  rw[hsz]
  clear hsz b0 b1 hat a0
  refine⟨_,rfl,_,_,rfl,rfl,(by show (0:Int)<3;decide),rfl,_,rfl,yv (fun _=>?_) (fun _=>?_)⟩
  ·refine⟨_,rfl,_,rfl,by omega,by omega,fun D hD=>?_⟩
   rw[BA]
   refine vR (vg (n:=n)) (rl n) hD (by rw[Bm,sizeLine_eq];omega) (fun v k=>v = .str ⟨#[97+((u/200+3*(k:Nat))%26).toNat]⟩) (fun i x v hx hv H2 R s2 r=>?_) (fun zs H2 s2 zsl zr e2=>?_)
   ·rw[bR,hx] at hv
    cases hv
    have d1:=xy (i:=(u/200+3*(0+(x:Int)))%26) (b7 _ (by decide)) (Bg _ (by decide))
    exact⟨_,rfl,_,rfl,_,_,rfl,rfl,⟨by decide,by decide⟩,_,rfl,_,_,rfl,rfl,.inl ⟨by decide,by decide⟩,_,_,rfl,rfl,_,_,rfl,rfl,(by show (0:Int)<26;decide),_,_,_,rfl,rfl,VF,d1,r _ _ (by rw[cb]) (zx.refl _)⟩
   rw[Bm] at zsl
   refine⟨_,rfl,D,rfl,⟨_,z5.of e2⟩,fun D3 hD3=>?_⟩
   refine vR (xs:=List.range n) (qT (z5.of e2)) (by rw[zsl,Bm]) hD3 (by rw[Bm,sizeLine_eq];omega) (fun v k=>∃ y,v = .str y∧q9 y∧y.cps.toList[at']? = some (97+((u/200+3*(k:Nat))%26).toNat)) (fun i x v hx hv H3 R s3 r=>?_) (fun ws H3 s3 wl wr e3=>?_)
   ·obtain⟨x',hx',rfl⟩:=zr i v hv
    rw[hx] at hx'
    cases hx'
    obtain⟨d,hde⟩:∃ d,d=97+((u/200+3*(x:Nat))%26).toNat:=⟨_,rfl⟩
    have hd:UZ d=true:=by
     have h0:0≤(u/200+3*(x:Nat))%26:=b7 _ (by decide)
     have h1:(u/200+3*(x:Nat))%26<26:=Bg _ (by decide)
     unfold UZ
     rw[Bn]
     exact⟨decide_eq_true (by omega),decide_eq_true (by omega)⟩
    rw[← hde] at r ⊢
    have zf:z.length≤sizeLine:=Wq (m:=7) (by omega) rfl
    have sl:∀ lo hi,(Txt.slice z lo hi).length≤7:=fun lo hi=>Bj (Txt.slice_le z lo hi) (by omega)
    have o1:(⟨#[d]⟩:Str).length≤1:=bK _
    refine⟨_,rfl,_,rfl,_,rfl,_,rfl,zf,_,rfl,_,_,rfl,rfl,rX (sl _ _) o1 rfl,_,rfl,_,rfl,_,rfl,_,rfl,_,rfl,_,rfl,zf,_,_,rfl,rfl,rX (M5 (sl _ _) o1) (sl _ _) rfl,r _ _ ⟨_,rfl,Gi fa fl hd sz1 sz2 ?_,?_⟩ (zx.refl _)⟩
    ·rw[ya,ya,wx,lE _ _ _ (by rw[zc,fl];exact sz2) sz1,zc]
    ·rw[ya,ya,wx,zc]
     have tl:(fs.take at').length=at':=by rw[Bh];omega
     rw[By,bY (by rw[tl];exact bK _),tl,cq]
     rfl
   obtain⟨nms,rfl,hn,ht⟩:=ZY wr
   rw[bM,Bm] at wl
   refine q nms D3 H3 wl hn (Ql ht fun i j z hi hj h1 h2=>?_) (s1.trans (s2.trans s3)) (s1.free (s2.free hD3)) e3
   rw[wl] at hi hj
   rw[h1] at h2
   have h2:=Option.some.inj h2
   have a0:0≤(u/200+3*(i:Nat))%26:=b7 _ (by decide)
   have a1:0≤(u/200+3*(j:Nat))%26:=b7 _ (by decide)
   omega
  refine⟨_,rfl,_,_,rfl,rfl,(by show (0:Int)<3;decide),rfl,_,rfl,yv (fun _=>?_) (fun _=>?_)⟩
  ·refine⟨_,rfl,_,rfl,by omega,by omega,fun D hD=>?_⟩
   rw[BA]
   refine vR (vg (n:=n)) (rl n) hD (by rw[Bm,sizeLine_eq];omega) (fun v k=>∃ y,v = .str y∧q9 y∧y.cps.toList.length=min (k+1) 8) (fun i k v hx hv H2 R s2 r=>?_) (fun zs H2 s2 zsl zr e2=>?_)
   ·rw[bR,hx] at hv
    cases hv
    have q1:("q":Str).length=1:=by decide +kernel
    refine⟨_,rfl,_,_,rfl,rfl,Wq (m:=8) (by rw[q1,zl];decide) rfl,_,rfl,_,_,rfl,rfl,_,rfl,_,rfl,Wq (m:=8) (by rw[Zb,q1,zl];decide) rfl,r _ _ ⟨_,rfl,mq (k:=k) fa fl ?_,?_⟩ (zx.refl _)⟩
    ·rw[show (1:Int)+(0+(k:Int))=((k+1:Nat):Int) by omega,wx,ya,zc,show ("q":Str).cps.toList=[113] by decide +kernel]
     rfl
    ·rw[show (1:Int)+(0+(k:Int))=((k+1:Nat):Int) by omega,wx,ya,zc,show ("q":Str).cps.toList=[113] by decide +kernel,Bh]
     show min (k+1) (fs.length+1)=_
     rw[fl]
   obtain⟨nms,rfl,hn,ht⟩:=ZY zr
   rw[bM,Bm] at zsl
   refine q nms D H2 zsl hn (Ql ht fun i j z hi hj h1 h2=>?_) (s1.trans s2) (s1.free hD) e2
   omega
  refine⟨qa rfl,fun lw H2 s2 n2 e2=>?_⟩
  refine⟨_,rfl,_,rfl,by omega,by omega,fun D hD=>?_⟩
  rw[BA]
  refine vR (vg (n:=n)) (rl n) hD (by rw[Bm,sizeLine_eq];omega) (fun v k=>∃ y,v = .str y∧q9 y∧okNames[((u/3+(k:Nat))%10).toNat]? = some y) (fun i k v hx hv H3 R s3 r=>?_) (fun zs H3 s3 zsl zr e3=>?_)
  ·rw[bR,hx] at hv
   cases hv
   have i0:0≤(u/3+(0+(k:Int)))%10:=b7 _ (by decide)
   have i1:(u/3+(0+(k:Int)))%10<10:=Bg _ (by decide)
   obtain⟨y,hy⟩:∃ y,okNames[((u/3+(0+(k:Int)))%10).toNat]? = some y:=⟨_,bO (show _<10 by omega)⟩
   have ev:atI (okNames.map V.str) ((u/3+(0+(k:Int)))%10)=some (.str y):=WS i0 (by rw[bR,hy];rfl)
   have hm:=Bv hy
   exact⟨_,rfl,_,rfl,_,_,rfl,rfl,⟨by decide,by decide⟩,_,rfl,_,_,rfl,rfl,_,_,rfl,rfl,(by show (0:Int)<10;decide),lw,_,_,_,rfl,rfl,z5.of (s3 _ _ e2),ev,r _ _ ⟨y,rfl,Wn y hm,by rw[cb] at hy;exact hy⟩ (zx.refl _)⟩
  obtain⟨nms,rfl,hn,ht⟩:=ZY zr
  rw[bM,Bm] at zsl
  refine q nms D H3 zsl hn (Ql ht fun i j z hi hj h1 h2=>?_) (s1.trans (s2.trans s3)) (s1.free (s2.free hD)) e3
  rw[zsl] at hi hj
  have e:=nW h1 h2
  have a0:0≤(u/3+(i:Nat))%10:=b7 _ (by decide)
  have a1:0≤(u/3+(j:Nat))%10:=b7 _ (by decide)
  omega
end
end K14
namespace K14
open PySem PySem.NumText L2 Pg
seal PE PA PT PW PS jw PG um PI ud PO PK
section
variable {P:Program} {w:World} {K:PySem.W.Frag} {mg:Str→Option Value} {base:Heap} {f:Addr} {fd:FuncData} {d:Nat→Addr} {cR:Addr}
set_option maxHeartbeats 4000000 in
theorem Lr (F:qE K "_law_pairs" "_law_pairs" (top 100) f fd) (G:jF mg) (C1:qH P w K mg base zO 1 "_law_mixed" ["_law_cell","_law_k"] yQ) (C2:qH P w K mg base zO 2 "_law_parts" ["_law_cell","_law_k"] kW):zJ P w K mg base zO 3 f fd ["_law_cell"] XN:=by
 have nd:(["_law_cell","_law_number","_law_pairs_here","_law_k","_law_more","_law_step"]:List Str).Nodup:=by decide +kernel
 refine F.ok (N:=["_law_cell","_law_number","_law_pairs_here","_law_k","_law_more","_law_step"]) ⟨rfl,rfl,rfl,by decide +kernel,rfl,by decide +kernel,by decide +kernel⟩ (fun vs H Q E h=>?_) (fun cdv A outer s H vs Q E hr h=>?_)
 ·obtain⟨c,rfl,_⟩:=h
  rfl
 ·obtain⟨c,rfl,q⟩:=h
  refine⟨_,(zh (zI (i:=1) nd rfl (Or.inl rfl) (zj C1 hr (by decide) zu (za (pv 0) (za ze zd))))
    (zh (zI (i:=2) nd rfl (Or.inl rfl) (zY (za (qZ (za ze (za (zj C2 hr (by decide) zu (za (pv 0) (za ze zd))) zd))) zd)))
    (zh (uI PassesOwn.never rfl (yk rfl G.range (za (zB zK (zY (za ze (za ze (za ze (za ze (za ze (za (zw qd (zw qK (pv 1) ze) ze) zd))))))) (zw qd (pv 1) ze)) zd)) (zS (i:=3) nd rfl (Or.inl rfl)) (zh (zI (i:=4) nd rfl (Or.inl rfl) (zj C1 hr (by decide) zu (za (pv 0) (za (zw qj ze (pv 3)) zd))))
    (zh (zI (i:=5) nd rfl (Or.inl rfl) (zB zK (zY (za ze (za (zw qj ze (zw qd (zw qK (pv 4) ze) ze)) (za (zw qJ (pv 4) ze) (za (zw qj (zw qJ (zw qd (zw qK (pv 4) ze) ze) ze) ze) (za (zw qj ze (zw qJ (zw qK (pv 4) ze) ze)) zd)))))) (zw qd (pv 4) ze)))
    (zi (zT (zE UA (zw qj (zB zL (zB zK (pv 2) (uD j0 ze)) ze) (pv 5)) (zw xD ze ze) (zD _)) (zi (qv (yE PySem.F.plainAttrs_list PySem.F.slot_list_append PySem.F.type_list_append j7 (pv 2) (za (qZ (za (zw qj (zB zL (zB zK (pv 2) (uD j0 ze)) ze) (pv 5)) (za (zj C2 hr (by decide) zu (za (pv 0) (za (zw qj ze (pv 3)) zd))) zd))) zd)))) zC)))))
    (zi (zp (z7 yD rfl G.tuple qX (za (pv 2) zd))))))),?_⟩
  refine⟨_,rfl,c,_,rfl,fun m m0 m1=>⟨_,rfl,c,_,rfl,fun p H1 hp s1=>⟨qa rfl,fun t H2 s2 n2 e2=>⟨qa rfl,fun l H3 s3 n3 e3=>?_⟩⟩⟩⟩
  have T3:z4 H3 [V.ref t] ([((0:Int),p)].map cB):=z4.snoc z4.nil (s3 _ _ e2)
  have S3:=s1.trans (s2.trans s3)
  have l0:H l=none:=v5 (s1.trans s2) n3
  refine⟨_,rfl,_,_,rfl,rfl,⟨by decide,by decide⟩,_,_,rfl,rfl,(by show (0:Int)<12;decide),qa rfl,fun g H4 s4 n4 e4=>?_⟩
  obtain⟨v,ev,mv⟩:=vq (xs:=[V.int 0,.int 1,.int 2,.int 3,.int 11,.int (m/30%12)]) (i:=m%6) (b7 _ (by decide)) (Bg _ (by decide))
  obtain⟨n,rfl,h0,h1⟩:∃ n,v = .int n∧0≤n∧n≤11:=by
   simp only[bN,bS,or_false] at mv
   rcases mv with rfl | rfl | rfl | rfl | rfl | rfl
   all_goals exact⟨_,rfl,by omega,by omega⟩
  refine⟨_,rfl,_,_,rfl,rfl,(by show (0:Int)<6;decide),g,_,_,_,rfl,rfl,z5.of e4,ev,n,rfl,by omega,by omega,vv (fun i σ H'=>∃ x3 x4 x5,∃ ps ys,N8 (σ = [some (.int c),some (.int m),some (.ref l),x3,x4,x5]) (zx H H') (H' l=some (.lst ys)∧z4 H' ys (ps.map cB)) (Gq ps i)) ⟨_,_,_,_,_,rfl,S3.trans s4,⟨s4 _ _ e3,T3.same s4⟩,.one hp⟩ ?_ ?_⟩
  ·rintro i σ H5 hi ⟨x3,x4,x5,ps,ys,rfl,s5,⟨e5,T5⟩,bi⟩ E5 k5
   refine⟨_,rfl,_,rfl,_,_,rfl,rfl,c,_,rfl,fun a a0 a1=>?_⟩
   refine⟨_,rfl,_,_,rfl,rfl,⟨by decide,by decide⟩,_,_,rfl,rfl,(by show (0:Int)<20;decide),_,_,rfl,rfl,_,rfl,_,_,rfl,rfl,.inr ⟨by decide,by decide⟩,_,rfl,_,_,rfl,rfl,⟨by decide,by decide⟩,_,_,rfl,rfl,(by show (0:Int)<9;decide),_,_,rfl,rfl,.inr ⟨by decide,by decide⟩,_,_,rfl,rfl,_,rfl,_,_,rfl,rfl,⟨by decide,by decide⟩,_,_,rfl,rfl,.inr ⟨by decide,by decide⟩,_,_,rfl,rfl,qa rfl,fun g6 H6 s6 n6 e6=>?_⟩
   obtain⟨v6,ev6,mv6⟩:=LA (a:=V.int 1) (b:=.int (2+a/5%20)) (c:=.int (a*30)) (d:=.int (a/5%9*5000+1)) (e:=.int (1+a/5*200000)) (i:=a%5) (b7 _ (by decide)) (Bg _ (by decide))
   obtain⟨st,rfl,st1⟩:∃ st,v6 = .int st∧1≤st:=by
    rcases mv6 with ⟨h,rfl⟩ | ⟨h,rfl⟩ | ⟨h,rfl⟩ | ⟨h,rfl⟩ | ⟨h,rfl⟩
    all_goals exact⟨_,rfl,by omega⟩
   obtain⟨qs,z,rfl⟩:=bi.last
   have T6:=T5.same s6
   have e6':=s6 _ _ e5
   obtain⟨b,eb,hb⟩:=p7 T6
   refine⟨_,rfl,_,_,rfl,rfl,(by show (0:Int)<5;decide),g6,_,_,_,rfl,rfl,z5.of e6,ev6,?_⟩
   have p12:(10:Int) ^ (12:Int).toNat=1000000000000:=by decide
   refine⟨_,rfl,_,rfl,l,_,_,_,rfl,rfl,z5.of e6',eb,b,_,_,_,rfl,rfl,qg.of hb,rfl,_,rfl,_,_,rfl,rfl,_,_,rfl,rfl,⟨by decide,by decide,by decide⟩,_,_,rfl,rfl,_,rfl,yv (fun e=>?_) (fun e=>?_)⟩
   ·have e:=of_decide_eq_true e
    rw[p12] at e
    refine⟨_,rfl,.inl ⟨rfl,_,z5.of e6'⟩,_,rfl,_,rfl,l,_,_,_,rfl,rfl,z5.of e6',eb,b,_,_,_,rfl,rfl,qg.of hb,rfl,_,rfl,_,_,rfl,rfl,_,rfl,_,rfl,_,_,rfl,rfl,c,_,rfl,fun p2 H7 hp2 s7=>⟨qa rfl,fun t2 H8 s8 n8 e8=>?_⟩⟩
    have e8l:=s8 _ _ (s7 _ _ e6')
    have fw:=bi.few
    refine⟨l,_,_,rfl,rfl,e8l,?_,?_⟩
    ·rw[T5.len,bM,sizeLine_eq]
     have:i<n.toNat:=hi
     omega
    ·refine k5 _ _ ⟨_,_,_,qs++[z]++[(z.1+st,p2)],_,rfl,fun x o hx=>?_,⟨zm,?_⟩,bi.snoc st1 e hp2⟩
     ·rw[zq (zF hx l0)]
      exact s8 _ _ (s7 _ _ (s6 _ _ (s5 _ _ hx)))
     ·rw[Bc]
      exact Uz ((T6.same s7)) (s7 _ _ e6') s8 e8
   ·exact k5 _ _ ⟨_,_,_,_,_,rfl,s5.trans s6,⟨e6',T6⟩,bi.mono⟩
  ·rintro σ H5 ⟨x3,x4,x5,ps,ys,rfl,s5,⟨e5,T5⟩,bi⟩
   refine⟨_,rfl,l,_,rfl,.inl ⟨z5.of e5,fun u u0=>?_⟩⟩
   have su:zx H5 (upd H5 u (.tup ys)):=zx.upd u0
   exact q u ps _ (bi.done (by omega)) (s5.trans su) ⟨ys,zm,T5.same su⟩
theorem L7 (F:qE K "_law_plain" "_law_plain" (top 101) f fd) (C1:qH P w K mg base zO 2 "_law_amount" ["_law_cell","_law_k"] Vp) (C2:qH P w K mg base zO 2 "_law_parts" ["_law_cell","_law_k"] kW) (C3:qH P w K mg base zO 2 "_law_way" ["_law_cell","_law_k"] Jv) (C4:qH P w K mg base zO 3 "_law_pairs" ["_law_cell"] XN):zJ P w K mg base zO 4 f fd ["_law_cell","_law_name","_law_kind"] XO:=by
 refine F.ok (N:=["_law_cell","_law_name","_law_kind"]) ⟨rfl,rfl,rfl,by decide +kernel,rfl,by decide +kernel,by decide +kernel⟩ (fun vs H Q E h=>?_) (fun cdv A outer s H vs Q E hr h=>?_)
 ·obtain⟨c,z,k,rfl,_⟩:=h
  rfl
 ·obtain⟨c,z,k,rfl,hz,k0,k4,q⟩:=h
  refine⟨_,(zh (zT (zE qx (pv 2) ze (zD _)) (zi (zp (qZ (za zA (za (pv 1) (za (zj C1 hr (by decide) zu (za (pv 0) (za ze zd))) zd)))))) zC)
    (zh (zT (zE qx (pv 2) ze (zD _)) (zi (zp (qZ (za zA (za (pv 1) (za (zj C2 hr (by decide) zu (za (pv 0) (za ze zd))) (za (zj C3 hr (by decide) zu (za (pv 0) (za ze zd))) zd))))))) zC)
    (zh (zT (zE qx (pv 2) ze (zD _)) (zi (zp (qZ (za zA (za (pv 1) (za (zj C2 hr (by decide) zu (za (pv 0) (za ze zd))) (za (zj C1 hr (by decide) zu (za (pv 0) (za ze zd))) (za (zj C3 hr (by decide) zu (za (pv 0) (za ze zd))) zd)))))))) zC)
    (zh (zT (zE qx (pv 2) ze (zD _)) (zi (zp (qZ (za zA (za (pv 1) (za (zj C2 hr (by decide) zu (za (pv 0) (za ze zd))) (za (zj C1 hr (by decide) zu (za (pv 0) (za ze zd))) (za (zj C3 hr (by decide) zu (za (pv 0) (za ze zd))) zd)))))))) zC)
    (zi (zp (qZ (za zA (za (pv 1) (za (zj C4 hr (by decide) zu (za (pv 0) zd)) (za (zj C3 hr (by decide) zu (za (pv 0) (za ze zd))) zd))))))))))),?_⟩
  refine⟨_,rfl,rfl,_,rfl,yv (fun e=>?_) (fun e=>?_)⟩
  ·rw[ux] at e
   exact⟨_,rfl,_,rfl,c,_,rfl,fun a H1 ha s1=>⟨qa rfl,fun t H2 s2 n2 e2=>q _ (.flat z a) H2 (.pln (.flat hz ha)) rfl e.symm (s1.trans s2) (.pln (b8 rfl) ⟨t,rfl,e2⟩)⟩⟩
  rw[ux] at e
  refine⟨_,rfl,rfl,_,rfl,yv (fun e1=>?_) (fun e1=>?_)⟩
  ·rw[ux] at e1
   exact⟨_,rfl,_,rfl,c,_,rfl,fun p H1 hp s1=>⟨_,rfl,c,_,rfl,fun w H2 hw s2=>⟨qa rfl,fun t H3 s3 n3 e3=>q _ (.share z p w) H3 (.pln (.share hz hp hw)) rfl e1.symm (s1.trans (s2.trans s3)) (.pln (b8 rfl) ⟨t,rfl,e3⟩)⟩⟩⟩
  rw[ux] at e1
  refine⟨_,rfl,rfl,_,rfl,yv (fun e2=>?_) (fun e2=>?_)⟩
  ·rw[ux] at e2
   exact⟨_,rfl,_,rfl,c,_,rfl,fun p H1 hp s1=>⟨_,rfl,c,_,rfl,fun a H2 ha s2=>⟨_,rfl,c,_,rfl,fun w H3 hw s3=>⟨qa rfl,fun t H4 s4 n4 e4=>q _ (.capped z p a w) H4 (.pln (.capped hz hp ha hw)) rfl e2.symm (s1.trans (s2.trans (s3.trans s4))) (.pln (b8 rfl) ⟨t,rfl,e4⟩)⟩⟩⟩⟩
  rw[ux] at e2
  refine⟨_,rfl,rfl,_,rfl,yv (fun e3=>?_) (fun e3=>?_)⟩
  ·rw[ux] at e3
   exact⟨_,rfl,_,rfl,c,_,rfl,fun p H1 hp s1=>⟨_,rfl,c,_,rfl,fun a H2 ha s2=>⟨_,rfl,c,_,rfl,fun w H3 hw s3=>⟨qa rfl,fun t H4 s4 n4 e4=>q _ (.least z p a w) H4 (.pln (.least hz hp ha hw)) rfl e3.symm (s1.trans (s2.trans (s3.trans s4))) (.pln (b8 rfl) ⟨t,rfl,e4⟩)⟩⟩⟩⟩
  rw[ux] at e3
  exact⟨_,rfl,_,rfl,c,rfl,fun u ps H1 hok s1 bd=>⟨_,rfl,c,_,rfl,fun w H2 hw s2=>⟨qa rfl,fun t H3 s3 n3 e3'=>q _ (.bands z ps w) H3 (.bands hz hok hw) rfl (by show (4:Int)=k;omega) (s1.trans (s2.trans s3)) (.bands e3' ((bd.same s2).same s3))⟩⟩⟩
end
end K14
namespace K14
open PySem PySem.NumText L2 Pg
seal PE PA PT PW PS jw PG um PI ud PO PK
section
variable {P:Program} {w:World} {K:PySem.W.Frag} {mg:Str→Option Value} {base:Heap} {f:Addr} {fd:FuncData} {d:Nat→Addr} {cR:Addr}
set_option maxHeartbeats 4000000 in
theorem mt (F:qE K "_law_pieces" "_law_pieces" (top 104) f fd) (G:jF mg):zJ P w K mg base zO 1 f fd ["_law_pairs_here","_law_total"] Xh:=by
 have nd:(["_law_pairs_here","_law_total","_law_found","_law_k","_law_end"]:List Str).Nodup:=by decide +kernel
 refine F.ok (N:=["_law_pairs_here","_law_total","_law_found","_law_k","_law_end"]) ⟨rfl,rfl,rfl,by decide +kernel,rfl,by decide +kernel,by decide +kernel⟩ (fun vs H Q E h=>?_) (fun cdv A outer s H vs Q E hr h=>?_)
 ·obtain⟨u,ps,t,rfl,_⟩:=h
  rfl
 ·obtain⟨u,ps,t,rfl,⟨ys,hu,T⟩,ok,q⟩:=h
  refine⟨_,(zh (zI (i:=2) nd rfl (Or.inl rfl) (zY zd))
    (zh (uI PassesOwn.never rfl (yk rfl G.range (za (zt zR rfl G.len boot_len (za (pv 0) zd)) zd)) (zS (i:=3) nd rfl (Or.inl rfl)) (zh (zI (i:=4) nd rfl (Or.inl rfl) (pv 1))
    (ut (zT (zE YC (zw qj (pv 3) ze) (zt zR rfl G.len boot_len (za (pv 0) zd)) (zD _)) (zi (zI (i:=4) nd rfl (Or.inl rfl) (zt (wK rfl) rfl G.min PyProof.Rows.boot_min (za (pv 1) (za (zB zL (zB zL (pv 0) (zw qj (pv 3) ze)) ze) zd))))) zC)
    (zi (qv (yE PySem.F.plainAttrs_list PySem.F.slot_list_append PySem.F.type_list_append j7 (pv 2) (za (zt (wO rfl) rfl G.max PyProof.Rows.boot_max (za ze (za (zw ua (pv 4) (zB zL (zB zL (pv 0) (pv 3)) ze)) zd))) zd)))))))
    (zi (zp (pv 2))))),?_⟩
  have few:=ok.few
  have yl:ys.length=ps.length:=by rw[T.len,bM]
  refine⟨qa rfl,fun l H1 s1 n1 e1=>⟨_,rfl,u,_,rfl,.inr (qg.of (s1 _ _ hu)),_,rfl,by rw[yl];omega,by rw[yl];omega,?_⟩⟩
  rw[yl,BA]
  refine vv (fun i σ H'=>∃ x3 x4,N8 (σ = [some (.ref u),some (.int t),some (.ref l),x3,x4]) (zx H H') (H' l=some (.lst (((lr ps t).take i).map V.int))) True) ⟨_,_,rfl,s1,e1,trivial⟩ ?_ ?_
  ·rintro i σ H2 hi ⟨x3,x4,rfl,s2,e2,_⟩ E2 k2
   have hq:=bO hi
   have hu2:=s2 _ _ hu
   have T2:=T.same s2
   have z0:(0:Int)+(i:Nat)=(i:Nat):=cb _
   rw[z0]
   refine⟨_,rfl,?_⟩
   refine wS (fun σ H'=>σ = [some (.ref u),some (.int t),some (.ref l),some (.int (i:Nat)),some (.int (G9 (ps.drop (i+1)) t))]∧H'=H2) (fun En kk=>?_) ?_
   ·refine⟨_,rfl,_,_,rfl,rfl,_,rfl,u,_,rfl,.inr (qg.of hu2),_,_,rfl,rfl,_,rfl,yv (fun e=>?_) (fun e=>?_)⟩
    ·have e:=of_decide_eq_true e
     rw[yl] at e
     have hi1:i+1<ps.length:=by omega
     have hq1:=bO hi1
     obtain⟨b,eb,hb⟩:=Y9 T2 hq1
     refine⟨_,rfl,_,rfl,_,rfl,_,_,rfl,rfl,u,_,_,_,rfl,rfl,qg.of hu2,qV (j:=i+1) eb,b,_,_,_,rfl,rfl,qg.of hb,rfl,_,_,rfl,kk _ _ ⟨?_,rfl⟩⟩
     rw[VR,hq1]
     rfl
    ·have e:¬ ((i:Nat):Int)+1<(ys.length:Nat):=fun c=>e (decide_eq_true c)
     rw[yl] at e
     refine kk _ _ ⟨?_,rfl⟩
     rw[VR,BG (by omega)]
     rfl
   ·rintro σ H3 ⟨rfl,rfl⟩
    obtain⟨b,eb,hb⟩:=Y9 T2 hq
    refine⟨_,rfl,.inl ⟨rfl,_,z5.of e2⟩,_,rfl,_,rfl,_,rfl,u,_,_,_,rfl,rfl,qg.of hu2,qV eb,b,_,_,_,rfl,rfl,qg.of hb,rfl,_,_,rfl,rfl,_,_,rfl,l,_,_,rfl,rfl,e2,?_,?_⟩
    ·rw[bM,Bh,JC,sizeLine_eq]
     omega
    ·refine k2 _ _ ⟨_,_,rfl,fun x o hx=>?_,?_,trivial⟩
     ·rw[zq (zF hx n1)]
      exact s2 _ _ hx
     ·rw[zm,p9 hq,Bc]
      rfl
  ·rintro σ H2 ⟨x3,x4,rfl,s2,e2,_⟩
   rw[← JC ps t,BD] at e2
   exact⟨_,rfl,q l H2 s2 n1 e2⟩
theorem OC {j:Nat}:zJ P w K mg base zO j f fd ["_law_rule_here","_law_bases_here"] (kY K 0):=⟨fun _ _ _ _ h=>h.elim,fun _ _ _ _ _ _ _ _ _ _ _ _ _ h=>h.elim⟩
set_option maxHeartbeats 8000000 in
theorem Zm {d k:Nat} (F:qE K "_law_until" "_law_until" (top 105) f fd) (G:jF mg) (C1:qH P w K mg base zO 1 "_law_rounded" ["_law_number","_law_way_here"] Xm) (C2:qH P w K mg base zO 1 "_law_pieces" ["_law_pairs_here","_law_total"] Xh) (C3:qH P w K mg base zO (k+1) "_law_until" ["_law_rule_here","_law_bases_here"] (kY K d)):zJ P w K mg base zO (k+2) f fd ["_law_rule_here","_law_bases_here"] (kY K (d+1)):=by
 have nd:(["_law_rule_here","_law_bases_here","_law_total","_law_months","_law_pieces_here","_law_parts_here"]:List Str).Nodup:=by decide +kernel
 have nc:(["_law_base"]:List Str).Nodup:=by decide +kernel
 have np:(["_law_pair"]:List Str).Nodup:=by decide +kernel
 have nk:(["_law_k","_law_parts_here","_law_pieces_here"]:List Str).Nodup:=by decide +kernel
 refine F.ok (N:=["_law_rule_here","_law_bases_here","_law_total","_law_months","_law_pieces_here","_law_parts_here"]) ⟨rfl,rfl,rfl,by decide +kernel,rfl,by decide +kernel,by decide +kernel⟩ (fun vs H Q E h=>?_) (fun cdv A outer s H vs Q E hr h=>?_)
 ·obtain⟨v,r,b,bs,rfl,_⟩:=h
  rfl
 ·obtain⟨v,r,b,bs,rfl,rt,gd,hb,bl,bn,q⟩:=h
  have k1:1≤k+1:=Nat.le_add_left 1 k
  refine' ⟨_,(zh (zI (i:=2) nd rfl (Or.inl rfl) (zt (yN rfl) rfl G.sum jt (za (pv 1) zd)))
    (zh (zI (i:=3) nd rfl (Or.inl rfl) (zt zR rfl G.len boot_len (za ?comp_3 zd)))
    (zh (zT (zE qx (zB zL (pv 0) ze) zA (zD _)) (zi (zp (zw qJ (zB zL (pv 0) ze) (pv 3)))) zC)
    (zh (zT (zE qx (zB zL (pv 0) ze) zA (zD _)) (zi (zp (zj C1 hr k1 zu (za (zw qJ (pv 2) (zB zL (pv 0) ze)) (za (zB zL (pv 0) ze) zd))))) zC)
    (zh (zT (zE qx (zB zL (pv 0) ze) zA (zD _)) (zi (zp (zj C1 hr k1 zu (za (zw qJ (zt (wK rfl) rfl G.min PyProof.Rows.boot_min (za (pv 2) (za (zB zL (pv 0) ze) zd))) (zB zL (pv 0) ze)) (za (zB zL (pv 0) ze) zd))))) zC)
    (zh (zT (zE qx (zB zL (pv 0) ze) zA (zD _)) (zi (zp (zt (wO rfl) rfl G.max PyProof.Rows.boot_max (za (zj C1 hr k1 zu (za (zw qJ (pv 2) (zB zL (pv 0) ze)) (za (zB zL (pv 0) ze) zd))) (za (zw qJ (zB zL (pv 0) ze) (pv 3)) zd))))) zC)
    (zh (zT (zE qx (zB zL (pv 0) ze) zA (zD _)) (zh (zI (i:=4) nd rfl (Or.inr rfl) (zj C2 hr k1 zu (za (zB zL (pv 0) ze) (za (pv 2) zd))))
    (zh (zI (i:=5) nd rfl (Or.inr rfl) ?comp_2)
    (zi (zp (zj C1 hr k1 zu (za (zt (yN rfl) rfl G.sum jt (za ?comp_1 zd)) (za (zB zL (pv 0) ze) zd))))))) zC)
    (zi (zp (zj C1 hr k1 zu (za (zw qJ (zj C3 hr (bK _) zu (za (zB zL (pv 0) ze) (za (pv 1) zd))) (zB zL (pv 0) ze)) (za (zB zL (pv 0) ze) zd)))))))))))),?main⟩
  case comp_3 =>
   refine' qb (Nc:=["_law_base"]) (cl:=[]) (src:=[none]) (wi:=vG K (zP 1)) (g:=zX 0) (tt:=VB (jB (Yw fun i j=>.bl (decide (j<i))) (zP 0) (tC (.int 0)))) (te:=zP 0)
    ⟨rfl,rfl,by decide +kernel,by decide +kernel,(fun x c z=>nomatch z),qu (by rfl),zQ qc,rfl⟩ rfl (yy (pv 1)) ?hb
   case hb =>
    intro fp C' s' H'
    exact⟨zS (i:=0) nc rfl (Or.inl rfl),Zl (zE jD (pv 0) ze (zD _)),pv 0⟩
  case comp_2 =>
   refine' qb (Nc:=["_law_pair"]) (cl:=[]) (src:=[none]) (wi:=Z2 K (jB (kT K) (zP 0) (tC (.int 2)))) (g:=zX 0) (tt:=qC) (te:=jB (kT K) (zP 0) (tC (.int 1)))
    ⟨rfl,rfl,by decide +kernel,by decide +kernel,(fun x c z=>nomatch z),qu (by rfl),zQ qc,rfl⟩ rfl (jY (zB zL (pv 0) ze)) ?hb
   case hb =>
    intro fp C' s' H'
    exact⟨zS (i:=0) np rfl (Or.inl rfl),qi,zB zL (pv 0) ze⟩
  case comp_1 =>
   refine' qb (Nc:=["_law_k","_law_parts_here","_law_pieces_here"]) (cl:=[("_law_pieces_here",s.heap.objs.size+1),("_law_parts_here",s.heap.objs.size+2)]) (src:=[none,some 5,some 4]) (wi:=Z9 (qf (lY (N6 K) (qf (zP 5) q8)) q8)) (g:=zX 0) (tt:=qC) (te:=jB (rI oI fun i j=>.int (i*j)) (jB (O8 K) (zP 1) (zP 0)) (jB (O8 K) (zP 2) (zP 0)))
    ⟨rfl,rfl,by decide +kernel,by decide +kernel,ja (Uc rfl (wG rfl)),qu (by rfl),zQ (qt ⟨_,rfl,rfl,rfl,rfl⟩ (qt ⟨_,rfl,rfl,rfl,rfl⟩ qc)),rfl⟩ rfl (yk rfl G.range (za (zt zR rfl G.len boot_len (za (pv 5) zd)) zd)) ?hb
   case hb =>
    intro fp C' s' H'
    exact⟨zS (i:=0) nk rfl (Or.inl rfl),qi,zw qJ (zB zK (pv 1) (pv 0)) (zB zK (pv 2) (pv 0))⟩
  have sn:=pP bn
  dsimp (config:={ proj:=false,iota:=false,beta:=false,eta:=false }) only [jd,j5]
  refine⟨_,rfl,b,bs,rfl,hb,_,rfl,b,rfl,⟨_,hb⟩,fun D hD=>VV (qT hb) (YN bs) hD (by rw[sizeLine_eq];omega) (fun i=>decide (0<i)) V.int (fun i hi v H1 R s1 e1 r=>?_) (fun i hi v H1 R s1 e1 r=>?_) (fun H1 s1 e1=>?_)⟩
  ·subst e1
   exact⟨_,rfl,_,_,rfl,rfl,_,rfl,r _ (zx.refl _)⟩
  ·subst e1
   exact⟨_,rfl,r _ (zx.refl _)⟩
  ·refine⟨D,_,rfl,.inl (z5.of e1),?_⟩
   rw[bM]
   have rt:=rt.same s1
   cases gd with
   | pln pl =>
    rw[Qk pl] at q
    have q:=q H1 s1
    cases pl with
    | flat hn ha =>
     cases rt with
     | pln _ ra =>
      obtain⟨t,rfl,ht⟩:=ra
      have a0:=ha.1
      have a1:=ha.2
      exact⟨_,rfl,t,_,_,_,rfl,rfl,qg.of ht,rfl,rfl,_,rfl,vH ⟨_,rfl,t,_,_,_,rfl,rfl,qg.of ht,rfl,_,rfl,_,_,rfl,rfl,.inl ⟨by omega,by omega⟩,q⟩⟩
    | share hn hp hw =>
     cases rt with
     | pln _ ra =>
      obtain⟨t,rfl,ht⟩:=ra
      have p0:=hp.1
      have p1:=hp.2
      exact⟨_,rfl,t,_,_,_,rfl,rfl,qg.of ht,rfl,rfl,_,rfl,qY N9 ⟨_,rfl,t,_,_,_,rfl,rfl,qg.of ht,rfl,rfl,_,rfl,vH ⟨_,rfl,_,rfl,t,_,_,_,rfl,rfl,qg.of ht,rfl,_,_,rfl,rfl,.inr ⟨by omega,by omega⟩,_,rfl,t,_,_,_,rfl,rfl,qg.of ht,rfl,_,_,rfl,BE sn p0,q⟩⟩⟩
    | capped hn hp ha hw =>
     cases rt with
     | pln _ ra =>
      obtain⟨t,rfl,ht⟩:=ra
      have p0:=hp.1
      have p1:=hp.2
      have a0:=ha.1
      refine⟨_,rfl,t,_,_,_,rfl,rfl,qg.of ht,rfl,rfl,_,rfl,qY RM ⟨_,rfl,t,_,_,_,rfl,rfl,qg.of ht,rfl,rfl,_,rfl,qY rO ⟨_,rfl,t,_,_,_,rfl,rfl,qg.of ht,rfl,rfl,_,rfl,vH ⟨_,rfl,_,rfl,t,_,_,_,rfl,rfl,qg.of ht,rfl,_,_,rfl,_,rfl,t,_,_,_,rfl,rfl,qg.of ht,rfl,_,_,rfl,rfl,.inr ⟨by omega,by omega⟩,_,rfl,t,_,_,_,rfl,rfl,qg.of ht,rfl,_,_,rfl,BE ?_ p0,q⟩⟩⟩⟩
      split
      ·exact a0
      ·exact sn
    | least hn hp ha hw =>
     cases rt with
     | pln _ ra =>
      obtain⟨t,rfl,ht⟩:=ra
      have p0:=hp.1
      have p1:=hp.2
      have a0:=ha.1
      have a1:=ha.2
      exact⟨_,rfl,t,_,_,_,rfl,rfl,qg.of ht,rfl,rfl,_,rfl,qY Rc ⟨_,rfl,t,_,_,_,rfl,rfl,qg.of ht,rfl,rfl,_,rfl,qY RQ ⟨_,rfl,t,_,_,_,rfl,rfl,qg.of ht,rfl,rfl,_,rfl,qY RB ⟨_,rfl,t,_,_,_,rfl,rfl,qg.of ht,rfl,rfl,_,rfl,vH ⟨_,rfl,_,rfl,t,_,_,_,rfl,rfl,qg.of ht,rfl,_,_,rfl,rfl,.inr ⟨by omega,by omega⟩,_,rfl,t,_,_,_,rfl,rfl,qg.of ht,rfl,_,_,rfl,BE sn p0,_,rfl,t,_,_,_,rfl,rfl,qg.of ht,rfl,_,rfl,_,_,rfl,rfl,.inl ⟨by omega,by omega⟩,_,_,rfl,q⟩⟩⟩⟩⟩
   | @bands _ n x ps hn ok hw =>
    cases rt with
    | pln kk _=>exact absurd kk (by show ¬ (4:Nat)<4;decide)
    | @bands _ _ _ t u ht bd =>
     have few:=ok.few
     refine⟨_,rfl,t,_,_,_,rfl,rfl,qg.of ht,rfl,rfl,_,rfl,qY Re ⟨_,rfl,t,_,_,_,rfl,rfl,qg.of ht,rfl,rfl,_,rfl,qY rZ ⟨_,rfl,t,_,_,_,rfl,rfl,qg.of ht,rfl,rfl,_,rfl,qY NY ⟨_,rfl,t,_,_,_,rfl,rfl,qg.of ht,rfl,rfl,_,rfl,qY NV ⟨_,rfl,t,_,_,_,rfl,rfl,qg.of ht,rfl,rfl,_,rfl,vH ?_⟩⟩⟩⟩⟩
     refine⟨_,rfl,t,_,_,_,rfl,rfl,qg.of ht,rfl,_,rfl,u,ps,_,rfl,bd,ok,fun l H2 s2 n2 e2=>?_⟩
     have ht2:=s2 _ _ ht
     obtain⟨ys,hu,T⟩:=bd.same s2
     refine⟨_,rfl,t,_,_,_,rfl,rfl,qg.of ht2,rfl,u,rfl,⟨_,qg.of hu⟩,fun D2 hD2=>jn (yS (qg.of hu)) (jM T) hD2 (by rw[sizeLine_eq];omega) (fun p=>V.int p.2) (fun p hp v H3 R s3 e3 r=>?_) (fun H3 s3 e3=>?_)⟩
     ·obtain⟨a,rfl,ha⟩:=e3
      exact⟨_,rfl,a,_,_,_,rfl,rfl,qg.of ha,rfl,r H3 (zx.refl _)⟩
     have e3':H3 D2=some (.lst ((ps.map (·.2)).map V.int)):=by rw[e3,b6];rfl
     have e2':=s3 _ _ e2
     have l3:(ps.map (fun p=>V.int p.2)).length=ps.length:=bM _
     refine⟨_,rfl,D2,_,rfl,.inl (z5.of e3'),_,rfl,by rw[bM,bM];omega,by rw[bM,bM];omega,?_⟩
     rw[bM,bM,BA]
     refine fun D3 hD3=>jn vg (YA ps.length) hD3 (by rw[Bm,sizeLine_eq];omega) (fun j=>V.int ((ps.map (·.2)).getD j 0*(lr ps bs.sum).getD j 0)) (fun j hj v H4 R s4 e4 r=>?_) (fun H4 s4 e4=>?_)
     ·subst e4
      have hj:=cw.mp hj
      have hp:=(ok.ok _ (B7 hj)).2
      have eg:(ps.map (·.2)).getD j 0=ps[j].2:=by rw[Bx,bR,bO hj];rfl
      have h0:=hp.1
      have h1:=hp.2
      exact⟨_,rfl,_,rfl,D2,_,_,_,rfl,rfl,z5.of (s4 _ _ e3'),Oo (by rw[bM];exact hj),_,rfl,_,rfl,l,_,_,_,rfl,rfl,z5.of (s4 _ _ e2'),Oo (by rw[JC];exact hj),_,_,rfl,rfl,.inl ⟨by rw[eg];omega,by rw[eg];omega⟩,r H4 (zx.refl _)⟩
     ·have e4':H4 D3=some (.lst (((List.range ps.length).map fun j=>(ps.map (·.2)).getD j 0*(lr ps bs.sum).getD j 0).map V.int)):=by rw[e4,b6];rfl
      refine⟨D3,_,rfl,z5.of e4',_,rfl,t,_,_,_,rfl,rfl,qg.of (s4 _ _ (s3 _ _ ht2)),rfl,?_⟩
      rw[oA]
      exact⟨_,_,rfl,Mi (fun p hp=>(ok.ok p hp).2.1) _,q H4 (s1.trans (s2.trans (s3.trans s4)))⟩
   | @ontop d n x p r' hn hp hw gd =>
    cases rt with
    | pln kk _=>exact absurd kk (by show ¬ (5:Nat)<4;decide)
    | @ontop _ _ _ _ t y ht rti =>
     have p0:=hp.1
     have p1:=hp.2
     refine⟨_,rfl,t,_,_,_,rfl,rfl,qg.of ht,rfl,rfl,_,rfl,qY Te ⟨_,rfl,t,_,_,_,rfl,rfl,qg.of ht,rfl,rfl,_,rfl,qY TL ⟨_,rfl,t,_,_,_,rfl,rfl,qg.of ht,rfl,rfl,_,rfl,qY Tv ⟨_,rfl,t,_,_,_,rfl,rfl,qg.of ht,rfl,rfl,_,rfl,qY TC ⟨_,rfl,t,_,_,_,rfl,rfl,qg.of ht,rfl,rfl,_,rfl,qY RE ?_⟩⟩⟩⟩⟩
     refine⟨_,rfl,t,_,_,_,rfl,rfl,qg.of ht,rfl,_,rfl,_,r',b,bs,rfl,rti,gd,s1.seq hb,bl,bn,fun H2 s2=>?_⟩
     have ht2:=s2 _ _ ht
     exact⟨_,rfl,t,_,_,_,rfl,rfl,qg.of ht2,rfl,_,_,rfl,rfl,.inr ⟨by omega,by omega⟩,_,rfl,t,_,_,_,rfl,rfl,qg.of ht2,rfl,_,_,rfl,BE (lM gd bn) p0,q H2 (s1.trans s2)⟩
theorem lX {d k:Nat} (F:qE K "_law_of_month" "_law_of_month" (top 106) f fd) (C1:qH P w K mg base zO k "_law_until" ["_law_rule_here","_law_bases_here"] (kY K (d+1))):zJ P w K mg base zO (k+1) f fd ["_law_rule_here","_law_bases_here"] (JE K d):=by
 refine F.ok (N:=["_law_rule_here","_law_bases_here"]) ⟨rfl,rfl,rfl,by decide +kernel,rfl,by decide +kernel,by decide +kernel⟩ (fun vs H Q E h=>?_) (fun cdv A outer s H vs Q E hr h=>?_)
 ·obtain⟨v,r,b,bs,rfl,_⟩:=h
  rfl
 ·obtain⟨v,r,b,bs,rfl,rt,pl,hb,bl,bn,q⟩:=h
  have hu:=hr.units0
  refine⟨_,(zh (zT (zE (V4 hu) (pv 1) (zY zd) (zD _)) (zi (zp ze)) zC)
    (zi (zp (zw ua (zj C1 hr (bK _) zu (za (pv 0) (za (pv 1) zd))) (zj C1 hr (bK _) zu (za (pv 0) (za (jv uW (pv 1) uu (jm (uD j0 ze))) zd))))))),?_⟩
  refine⟨_,rfl,qa rfl,fun l H1 s1 n1 e1=>⟨b,l,_,rfl,rfl,s1.seq hb,z5.of e1,fun eN=>⟨true,rfl,y8 ?_⟩,fun nN=>⟨false,rfl,qN ?_⟩⟩⟩
  ·have e0:bs=[]:=List.map_eq_nil_iff.mp eN
   subst e0
   have e2:gL r []=0:=Int.sub_self _
   have q:=q H1 s1
   rw[e2] at q
   exact q
  ·refine⟨_,rfl,_,rfl,v,r,b,bs,rfl,rt.same s1,pl,s1.seq hb,bl,bn,fun H2 s2=>?_⟩
   have s12:=s1.trans s2
   refine⟨_,rfl,_,rfl,_,rfl,_,rfl,b,_,rfl,s12.seq hb,fun p p0=>?_⟩
   have s3:zx H2 (upd H2 p (.lst (vm (bs.map V.int) none (some (-1))))):=zx.upd p0
   exact⟨v,r,p,dl bs,rfl,(rt.same s12).same s3,pl,z5.of (by rw[← Op];exact zm),Bj (OJ bs) bl,fun b hb=>bn b (MH hb),fun H3 s4=>⟨_,_,rfl,rfl,q H3 (s12.trans (s3.trans s4))⟩⟩
end
end K14
namespace K14
open PySem PySem.NumText L2 Pg
seal PE PA PT PW PS jw PG um PI ud PO PK
section
variable {P:Program} {w:World} {K:PySem.W.Frag} {mg:Str→Option Value} {base:Heap} {f:Addr} {fd:FuncData} {d:Nat→Addr} {cR:Addr}
theorem pe {j:Nat}:zJ P w K mg base zO j f fd ["_law_rule_here"] (wo 0):=⟨fun _ _ _ _ h=>h.elim,fun _ _ _ _ _ _ _ _ _ _ _ _ _ h=>h.elim⟩
set_option maxHeartbeats 8000000 in
theorem Zq {d k:Nat} (F:qE K "_law_row" "_law_row" (top 107) f fd) (G:jF mg) (hd:d≤10) (C:qH P w K mg base zO k "_law_row" ["_law_rule_here"] (wo d)):zJ P w K mg base zO (k+1) f fd ["_law_rule_here"] (wo (d+1)):=by
 have nd:(["_law_rule_here","_law_told_here","_law_head"]:List Str).Nodup:=by decide +kernel
 have nc:(["_law_part"]:List Str).Nodup:=by decide +kernel
 have np:(["_law_pair"]:List Str).Nodup:=by decide +kernel
 refine F.ok (N:=["_law_rule_here","_law_told_here","_law_head"]) ⟨rfl,rfl,rfl,by decide +kernel,rfl,by decide +kernel,by decide +kernel⟩ (fun vs H Q E h=>?_) (fun cdv A outer s H vs Q E hr h=>?_)
 ·obtain⟨v,r,rfl,_⟩:=h
  rfl
 ·obtain⟨v,r,rfl,rt,gd,q⟩:=h
  refine' ⟨_,(zh (zT (zE qx (zB zL (pv 0) ze) zA (zD _)) (zh (zI (i:=1) nd rfl (Or.inl rfl) (yE PySem.F.plainAttrs_str PySem.F.slot_str_join PySem.F.type_str_join yV zA (za ?comp_4 zd)))
    (zi (zp (zw qA (zw qA (zw qA (zw qA (zw qA zA (zB zL (pv 0) ze)) zA) (pv 1)) zA) (zB zL (pv 0) ze))))) zC)
    (zh (zT (zE qx (zB zL (pv 0) ze) zA (zD _)) (zh (zI (i:=2) nd rfl (Or.inl rfl) (yE PySem.F.plainAttrs_str PySem.F.slot_str_join PySem.F.type_str_join yV zA (za (zY (za (zB zL (pv 0) ze) (za (zB zL (pv 0) ze) (za (z7 ql rfl G.str qG (za (zB zL (pv 0) ze) zd)) (za (zB zL (pv 0) ze) zd))))) zd)))
    (zi (zp (zw qA (zw qA (pv 2) zA) (zj C hr (bK _) zu (za (zB zL (pv 0) ze) zd)))))) zC)
    (zi (zp (yE PySem.F.plainAttrs_str PySem.F.slot_str_join PySem.F.type_str_join yV zA (za ?comp_2 zd)))))),?main⟩
  case comp_4 =>
   refine' qb (Nc:=["_law_pair"]) (cl:=[]) (src:=[none]) (wi:=Z2 K (jB (kT K) (zP 0) (tC (.int 2)))) (g:=zX 0) (tt:=qC) (te:=jB XC (jB XC (lY XM (qf (jB (kT K) (zP 0) (tC (.int 0))) q8)) (tC (.str ":"))) (lY XM (qf (jB (kT K) (zP 0) (tC (.int 1))) q8)))
    ⟨rfl,rfl,by decide +kernel,by decide +kernel,(fun x c z=>nomatch z),qu (by rfl),zQ qc,rfl⟩ rfl (jY (zB zL (pv 0) ze)) ?hb
   case hb =>
    intro fp C' s' H'
    exact⟨zS (i:=0) np rfl (Or.inl rfl),qi,zw qA (zw qA (z7 ql rfl G.str qG (za (zB zL (pv 0) ze) zd)) zA) (z7 ql rfl G.str qG (za (zB zL (pv 0) ze) zd))⟩
  case comp_2 =>
   refine' qb (Nc:=["_law_part"]) (cl:=[]) (src:=[none]) (wi:=Z2 K (zP 0)) (g:=zX 0) (tt:=qC) (te:=lY (fun xs H Q=>(∃ i,xs=[.int i]∧i.natAbs.log2<1920∧Q (.str (toString i)) H)∨∃ z,xs=[.str z]∧Q (.str z) H) (qf (zP 0) q8))
    ⟨rfl,rfl,by decide +kernel,by decide +kernel,(fun x c z=>nomatch z),qu (by rfl),zQ qc,rfl⟩ rfl (jY (pv 0)) ?hb
   case hb =>
    intro fp C' s' H'
    exact⟨zS (i:=0) nc rfl (Or.inl rfl),qi,z7 gu rfl G.str qG (za (pv 0) zd)⟩
  dsimp (config:={ proj:=false,iota:=false,beta:=false,eta:=false }) only [jd,j5]
  cases gd with
  | pln pl =>
   rw[ZA pl] at q
   obtain⟨z,l,el,zb,zo,ll⟩:=OE pl
   have jo:=ZK pl
   have pk:=GJ pl
   obtain⟨t,rfl,ht⟩:om H v r:=by
    cases rt with
    | pln _ ra=>exact ra
    | bands=>cases pl
    | ontop=>cases pl
   have h0:atI (jR r) ((0:Nat):Int)=some (.str z):=qV (by rw[el];rfl)
   refine⟨_,rfl,t,_,_,_,rfl,rfl,qg.of ht,h0,rfl,_,rfl,qY zb ⟨_,rfl,t,_,_,_,rfl,rfl,qg.of ht,h0,rfl,_,rfl,qY zo ⟨rfl,_,rfl,t,rfl,⟨_,qg.of ht⟩,fun D hD=>jn (yS (qg.of ht)) (xL (jR r)) hD (by rw[el,Bi,sizeLine_eq];omega) (fun x=>.str (Q9 x)) (fun x hx v H1 R s1 e1 k=>?_) (fun H1 s1 e1=>?_)⟩⟩⟩
   ·subst e1
    rcases pk v hx with ⟨i,rfl,hi⟩ | ⟨y,rfl⟩
    ·exact⟨_,rfl,.inl ⟨i,rfl,hi,k _ (zx.refl _)⟩⟩
    ·exact⟨_,rfl,.inr ⟨y,rfl,k _ (zx.refl _)⟩⟩
   ·exact⟨_,(jR r).map Q9,D,rfl,rfl,z5.of (by rw[b6];exact e1),jo,q H1 s1⟩
  | @bands _ n x ps hn ok hw =>
   cases rt with
   | pln kk _=>exact absurd kk (by show ¬ (4:Nat)<4;decide)
   | @bands _ _ _ t u ht bd =>
    obtain⟨ys,hu,T⟩:=bd
    have few:=ok.few
    refine⟨_,rfl,t,_,_,_,rfl,rfl,qg.of ht,rfl,rfl,_,rfl,vH ⟨rfl,_,rfl,t,_,_,_,rfl,rfl,qg.of ht,rfl,u,rfl,⟨_,qg.of hu⟩,fun D hD=>jn (yS (qg.of hu)) (jM T) hD (by rw[sizeLine_eq];omega) (fun p=>.str (yq p)) (fun p hp v H1 R s1 e1 r=>?_) (fun H1 s1 e1=>?_)⟩⟩
    ·obtain⟨a,rfl,ha⟩:=e1
     have hb:=ok.ok p hp
     have l1:=ub hb.1
     have l2:=j9 hb.2
     have l3:((toString p.1:Str) ++ ":").length=(toString p.1:Str).length+1:=Str.length_append ..
     exact⟨_,rfl,a,_,_,_,rfl,rfl,qg.of ha,rfl,_,rfl,kA hb.1,_,_,rfl,rfl,by rw[sizeLine_eq];show (toString p.1:Str).length+1≤_;omega,_,rfl,a,_,_,_,rfl,rfl,qg.of ha,rfl,_,rfl,uG hb.2,_,_,rfl,rfl,by rw[l3,sizeLine_eq];omega,r H1 (zx.refl _)⟩
    ·have jb:=jS ok
     have ht1:=s1 _ _ ht
     have h1:=hn.ok.hi
     have h2:=jb.2
     have h3:=uj hw
     have w6:("bands ":Str).length=6:=by decide +kernel
     have w1:(" ":Str).length=1:=by decide +kernel
     have q:=q H1 s1
     refine⟨_,ps.map yq,D,rfl,rfl,z5.of (by rw[e1,b6];rfl),jb.1,?_⟩
     refine⟨_,rfl,t,_,_,_,rfl,rfl,qg.of ht1,rfl,_,_,rfl,rfl,by rw[w6,sizeLine_eq];omega,_,_,rfl,rfl,by rw[Str.length_append,w6,w1,sizeLine_eq];omega,_,rfl,_,_,rfl,rfl,by rw[Str.length_append,Str.length_append,w6,w1,sizeLine_eq];show _+(jZ ps).length≤_;omega,_,_,rfl,rfl,by rw[Str.length_append,Str.length_append,Str.length_append,w6,w1,sizeLine_eq];show _+(jZ ps).length+1≤_;omega,_,rfl,t,_,_,_,rfl,rfl,qg.of ht1,rfl,_,_,rfl,rfl,by rw[Str.length_append,Str.length_append,Str.length_append,Str.length_append,w6,w1,sizeLine_eq];show _+(jZ ps).length+1+_≤_;omega,?_⟩
     have e:=UW n (jZ ps) x
     unfold jZ at e
     rw[e]
     exact q
  | @ontop d n x p r' hn hp hw gd =>
   cases rt with
   | pln kk _=>exact absurd kk (by show ¬ (5:Nat)<4;decide)
   | @ontop _ _ _ _ t y ht rti =>
    have h1:=hn.ok.hi
    have h2:=j9 hp
    have h3:=uj hw
    have h4:=Zu gd
    have jh:=yc (sep:=" ") (zs:=["ontop",n,toString p,x]) (m:=8) (k:=4) (fun z hz=>by
     simp only[bN,bS,or_false] at hz
     rcases hz with rfl | rfl | rfl | rfl
     ·decide +kernel
     ·omega
     ·omega
     ·omega) (bK _) (by decide +kernel) rfl
    have h5:=jh.2
    have w4:(" of ":Str).length=4:=by decide +kernel
    refine⟨_,rfl,t,_,_,_,rfl,rfl,qg.of ht,rfl,rfl,_,rfl,qY RE ⟨_,rfl,t,_,_,_,rfl,rfl,qg.of ht,rfl,rfl,_,rfl,vH ?_⟩⟩
    refine⟨rfl,_,rfl,t,_,_,_,rfl,rfl,qg.of ht,rfl,_,rfl,t,_,_,_,rfl,rfl,qg.of ht,rfl,_,rfl,t,_,_,_,rfl,rfl,qg.of ht,rfl,_,rfl,uG hp,_,rfl,t,_,_,_,rfl,rfl,qg.of ht,rfl,qa rfl,fun l H1 s1 n1 e1=>⟨_,["ontop",n,toString p,x],l,rfl,rfl,z5.of e1,jh.1,?_⟩⟩
    refine⟨_,rfl,_,_,rfl,rfl,by rw[w4,sizeLine_eq];omega,_,rfl,t,_,_,_,rfl,rfl,qg.of (s1 _ _ ht),rfl,_,r',rfl,rti.same s1,gd,fun H2 s2=>⟨_,_,rfl,rfl,by rw[Str.length_append,w4,sizeLine_eq];omega,?_⟩⟩
    rw[Zx]
    exact q H2 (s1.trans s2)
end
end K14
namespace K14
open PySem PySem.NumText L2 Pg
seal PE PA PT PW PS jw PG um PI ud PO PK
section
variable {P:Program} {w:World} {K:PySem.W.Frag} {mg:Str→Option Value} {base:Heap} {f:Addr} {fd:FuncData} {d:Nat→Addr} {cR:Addr}
theorem oX (F:qE K "_law_rule" "_law_rule" (top 102) f fd) (G:jF mg) (C1:qH P w K mg base zO 1 "_law_mixed" ["_law_cell","_law_k"] yQ) (C2:qH P w K mg base zO 4 "_law_plain" ["_law_cell","_law_name","_law_kind"] XO) (C3:qH P w K mg base zO 2 "_law_parts" ["_law_cell","_law_k"] kW) (C4:qH P w K mg base zO 2 "_law_way" ["_law_cell","_law_k"] Jv):zJ P w K mg base zO 5 f fd ["_law_cell","_law_name"] ZS:=by
 have nd:(["_law_cell","_law_name","_law_number","_law_found","_law_k"]:List Str).Nodup:=by decide +kernel
 refine F.ok (N:=["_law_cell","_law_name","_law_number","_law_found","_law_k"]) ⟨rfl,rfl,rfl,by decide +kernel,rfl,by decide +kernel,by decide +kernel⟩ (fun vs H Q E h=>?_) (fun cdv A outer s H vs Q E hr h=>?_)
 ·obtain⟨c,z,rfl,_⟩:=h
  rfl
 ·obtain⟨c,z,rfl,hz,q⟩:=h
  refine⟨_,(zh (zI (i:=2) nd rfl (Or.inl rfl) (zj C1 hr (by decide) zu (za (pv 0) (za ze zd))))
    (zh (zI (i:=3) nd rfl (Or.inl rfl) (zj C2 hr (by decide) zu (za (pv 0) (za (pv 1) (za (zw qd (pv 2) ze) zd)))))
    (zh (uI PassesOwn.never rfl (yk rfl G.range (za (zB zK (zY (za ze (za ze (za ze (za ze (za ze (za ze zd))))))) (zw qd (zw qK (pv 2) ze) ze)) zd)) (zS (i:=4) nd rfl (Or.inl rfl)) (zi (zI (i:=3) nd rfl (Or.inl rfl) (qZ (za zA (za (pv 1) (za (zj C3 hr (by decide) zu (za (pv 0) (za (zw qj ze (pv 4)) zd))) (za (zj C4 hr (by decide) zu (za (pv 0) (za (zw qj ze (pv 4)) zd))) (za (pv 3) zd)))))))))
    (zi (zp (pv 3)))))),?_⟩
  refine⟨_,rfl,c,_,rfl,fun m m0 m1=>⟨_,rfl,_,rfl,_,rfl,_,_,rfl,rfl,(by show (0:Int)<5;decide),c,z,_,rfl,hz,b7 _ (by decide),Bg _ (by decide),fun v r H1 gd rn _ s1 rt=>⟨qa rfl,fun g H2 s2 n2 e2=>?_⟩⟩⟩
  obtain⟨x,ev,mv⟩:=vq (xs:=[V.int 0,.int 0,.int 0,.int 1,.int 2,.int 3]) (i:=m/5%6) (b7 _ (by decide)) (Bg _ (by decide))
  obtain⟨n,rfl,h1⟩:∃ n:Nat,x = .int (n:Nat)∧n≤3:=by
   simp only[bN,bS,or_false] at mv
   rcases mv with rfl | rfl | rfl | rfl | rfl | rfl
   ·exact⟨0,rfl,by decide⟩
   ·exact⟨0,rfl,by decide⟩
   ·exact⟨0,rfl,by decide⟩
   ·exact⟨1,rfl,by decide⟩
   ·exact⟨2,rfl,by decide⟩
   ·exact⟨3,rfl,by decide⟩
  refine⟨_,rfl,_,_,rfl,rfl,⟨by decide,by decide⟩,_,_,rfl,rfl,(by show (0:Int)<6;decide),g,_,_,_,rfl,rfl,z5.of e2,ev,_,rfl,by omega,by omega,vv (fun i σ H'=>∃ v r x4,N8 (σ = [some (.int c),some (.str z),some (.int m),some v,x4]) (zx H H') (Gd i r∧r.name=z) (Zg H' r v)) ⟨v,r,_,rfl,s1.trans s2,⟨gd,rn⟩,rt.same s2⟩ ?_ ?_⟩
  ·rintro i σ H3 hi ⟨v,r,x4,rfl,s3,⟨gd,rn⟩,rt⟩ E3 k3
   exact⟨_,rfl,_,rfl,_,rfl,_,_,rfl,rfl,c,_,rfl,fun p H4 hp s4=>⟨_,rfl,_,rfl,_,_,rfl,rfl,c,_,rfl,fun w H5 hw s5=>⟨_,rfl,qa rfl,fun t H6 s6 n6 e6=>k3 _ _ ⟨_,.ontop z p w r,_,rfl,s3.trans (s4.trans (s5.trans s6)),⟨.ontop hz hp hw gd,rfl⟩,.ontop e6 (rt.same (s4.trans (s5.trans s6)))⟩⟩⟩⟩
  ·rintro σ H3 ⟨v,r,x4,rfl,s3,⟨gd,rn⟩,rt⟩
   rw[BA] at gd
   exact⟨_,rfl,q v r H3 (gd.le h1) rn s3 rt⟩
end
end K14
namespace K14
open PySem PySem.NumText L2 Pg
seal PE PA PT PW PS jw PG um PI ud PO PK
section
variable {P:Program} {w:World} {K:PySem.W.Frag} {mg:Str→Option Value} {base:Heap} {f:Addr} {fd:FuncData} {d:Nat→Addr} {cR:Addr}
theorem Va.up2 {H H1:Hp} {o:HO} {Q:VK} (r:Va H o Q) (s:zx H H1):Va H1 o Q:=fun p H2 s2 n e=>r p H2 (s.trans s2) (v5 s n) e
set_option maxHeartbeats 4000000 in
theorem GZ (F:qE K "_law_rules" "_law_rules" (top 108) f fd) (G:jF mg) (C1:qH P w K mg base zO 1 "_law_mixed" ["_law_cell","_law_k"] yQ) (C2:qH P w K mg base zO 5 "_law_rule" ["_law_cell","_law_name"] ZS):zJ P w K mg base zO 6 f fd ["_law_cell","_law_names_here","_law_most"] (YH K):=by
 have nd:(["_law_cell","_law_names_here","_law_most","_law_number","_law_many"]:List Str).Nodup:=by decide +kernel
 have nk:(["_law_k","_law_names_here","_law_cell"]:List Str).Nodup:=by decide +kernel
 refine F.ok (N:=["_law_cell","_law_names_here","_law_most","_law_number","_law_many"]) ⟨rfl,rfl,rfl,by decide +kernel,rfl,by decide +kernel,by decide +kernel⟩ (fun vs H Q E h=>?_) (fun cdv A outer s H vs Q E hr h=>?_)
 ·obtain⟨c,ln,nms,mo,rfl,_⟩:=h
  rfl
 ·obtain⟨c,ln,nms,mo,rfl,mo8,hl,n8,hn,nn,q⟩:=h
  refine' ⟨_,(zh (zI (i:=3) nd rfl (Or.inl rfl) (zj C1 hr (by decide) zu (za (pv 0) (za ze zd))))
    (zh (zI (i:=4) nd rfl (Or.inl rfl) (zB zK (zY (za ze (za ze (za ze (za ze (za (pv 2) (za (zw qd (zw qK (pv 3) ze) (zw qj (pv 2) ze)) zd))))))) (zw qd (pv 3) ze)))
    (zi (zp ?comp)))),?main⟩
  case comp =>
   refine' qb (Nc:=["_law_k","_law_names_here","_law_cell"]) (cl:=[("_law_names_here",s.heap.objs.size+2),("_law_cell",s.heap.objs.size+1)]) (src:=[none,some 1,some 0]) (wi:=Z9 (qf (zP 4) q8)) (g:=zX 0) (tt:=qC) (te:=fun σ H Q=>qf (jB (Yw fun i j=>.int (i+j)) (fun σ H Q=>qf (zP 2) (qf (jB (Yw fun i j=>.int (i+j)) (tC (.int 150)) (zP 0)) q8) σ H fun vs H1=>yQ vs H1 Q E0) (zP 0)) (qf (jB (O8 K) (zP 1) (zP 0)) q8) σ H fun vs H1=>ZS vs H1 Q E0)
    ⟨rfl,rfl,by decide +kernel,by decide +kernel,ja (Uc rfl (wG rfl)),qu (by rfl),zQ (qt ⟨_,rfl,rfl,rfl,rfl⟩ (qt ⟨_,rfl,rfl,rfl,rfl⟩ qc)),rfl⟩ rfl (yk rfl G.range (za (pv 4) zd)) ?hb
   case hb =>
    intro fp C' s' H'
    exact⟨zS (i:=0) nk rfl (Or.inl rfl),qi,zj C2 hr (by decide) zu (za (zw qj (zj C1 hr (by decide) zu (za (pv 2) (za (zw qj ze (pv 0)) zd))) (pv 0)) (za (zB zK (pv 1) (pv 0)) zd))⟩
  dsimp (config:={ proj:=false,iota:=false,beta:=false,eta:=false }) only [jd,j5]
  refine⟨_,rfl,c,_,rfl,fun m m0 m1=>⟨_,rfl,_,rfl,_,_,rfl,rfl,⟨by decide,by decide⟩,_,rfl,_,_,rfl,rfl,_,_,rfl,rfl,(by show (0:Int)<(mo:Nat)+1;omega),qa rfl,fun g H1 s1 n1 e1=>?_⟩⟩
  obtain⟨v,ev,mv⟩:=vq (xs:=[V.int 0,.int 1,.int 2,.int 3,.int (mo:Nat),.int (m/6%((mo:Nat)+1))]) (i:=m%6) (b7 _ (by decide)) (Bg _ (by decide))
  obtain⟨n,rfl,h8⟩:∃ n:Nat,v = .int (n:Nat)∧n≤8:=by
   simp only[bN,bS,or_false] at mv
   rcases mv with rfl | rfl | rfl | rfl | rfl | rfl
   ·exact⟨0,rfl,by decide⟩
   ·exact⟨1,rfl,by decide⟩
   ·exact⟨2,rfl,by decide⟩
   ·exact⟨3,rfl,by decide⟩
   ·exact⟨mo,rfl,mo8⟩
   ·obtain⟨k,hk⟩:=BP (show 0≤m/6%((mo:Nat)+1) from b7 _ (by omega))
    have:m/6%((mo:Nat)+1)<(mo:Nat)+1:=Bg _ (by omega)
    exact⟨k,by rw[hk],by omega⟩
  refine⟨_,rfl,_,_,rfl,rfl,(by show (0:Int)<6;decide),g,_,_,_,rfl,rfl,z5.of e1,ev,_,rfl,_,rfl,by omega,by omega,?_⟩
  rw[BA]
  refine fun D hD=>ZU vg (YA n) hD (by rw[Bm,sizeLine_eq];omega) (fun H' u k=>∃ r,Zg H' r u∧Gd 3 r∧nms[k]? = some r.name) (fun kp h=>by
   obtain⟨r,h1,h2⟩:=h
   exact⟨r,h1.keep kp,h2⟩) (fun i k hk v H2 R s2 e2 r=>?_) (fun zs H2 s2 e2 M=>?_)
  ·subst e2
   obtain⟨hk1,hk2⟩:=bU.mp hk
   rw[cW] at hk2
   subst hk2
   rw[Bm] at hk1
   have il:i<nms.length:=by omega
   exact⟨_,rfl,_,rfl,_,_,rfl,rfl,_,_,rfl,fun m' m0' m1'=>⟨_,rfl,_,_,rfl,rfl,_,rfl,_,rfl,ln,_,_,_,rfl,rfl,(s1.trans s2).seq hl,qV (j:=i) (v:=.str nms[i]) (by rw[bR,bO il];rfl),_,_,rfl,hn _ (B7 il),fun v r' H3 gd rn s3 rt=>r v H3 s3 ⟨r',rt,gd,by rw[rn,bO il]⟩⟩⟩
  ·obtain⟨rs,rl,hr'⟩:=Ua (P:=fun H u r=>Zg H r u) (q:=fun k r=>Gd 3 r∧nms[k]? = some r.name) M
   have zl:zs.length=n:=by rw[M.len,Bm]
   refine q D rs H2 ⟨fun r hm=>?_,?_,by omega⟩ (s1.trans s2) (v5 s1 hD) ⟨zs,e2,by omega,fun i y hy=>?_⟩
   ·obtain⟨i,hi⟩:=cp.mp hm
    exact (hr' i r hi).1.1
   ·have e:rs.map Rk.name=nms.take n:=by
     apply ck
     intro i
     rw[bR,List.getElem?_take]
     by_cases hi:i<n
     ·have h:=bO (show i<rs.length by omega)
      rw[if_pos hi,h,(hr' i _ h).1.2]
      rfl
     ·rw[if_neg hi,BG (by omega)]
      rfl
    rw[e]
    exact nn.sublist (Cw _ _)
   ·have hi:i<rs.length:=by have:=(bU.mp hy).1;omega
    have h:=bO hi
    obtain⟨u,hu,rt⟩:=(hr' i _ h).2
    rw[hy] at hu
    cases hu
    exact⟨_,h,fun H' s=>rt.same s⟩
set_option maxHeartbeats 4000000 in
theorem Ps {j:Nat} (F:qE K "_law_dues" "_law_dues" (top 109) f fd) (G:jF mg) (C1:qH P w K mg base zO j "_law_of_month" ["_law_rule_here","_law_bases_here"] (JE K 3)):zJ P w K mg base zO (j+1) f fd ["_law_rules_here","_law_bases_here"] (Ug K):=by
 have nc:(["_law_rule_here","_law_bases_here"]:List Str).Nodup:=by decide +kernel
 refine F.ok (N:=["_law_rules_here","_law_bases_here"]) ⟨rfl,rfl,rfl,by decide +kernel,rfl,by decide +kernel,by decide +kernel⟩ (fun vs H Q E h=>?_) (fun cdv A outer s H vs Q E hr h=>?_)
 ·obtain⟨l,b,rs,bs,rfl,_⟩:=h
  rfl
 ·obtain⟨l,b,rs,bs,rfl,⟨ys,hl,T⟩,ok,hb,bl,bn,q⟩:=h
  have few:=ok.few
  refine' ⟨_,(zi (zp (z7 yD rfl G.tuple qX (za (zt Qu rfl G.sorted PyProof.Rows.boot_sorted (za ?comp zd)) zd)))),?main⟩
  case comp =>
   refine' qb (Nc:=["_law_rule_here","_law_bases_here"]) (cl:=[("_law_bases_here",s.heap.objs.size+1)]) (src:=[none,some 1]) (wi:=vG K (zP 0)) (g:=zX 0) (tt:=qC) (te:=Um (qf (jB (kT K) (zP 0) (tC (.int 1))) (qf (fun σ H Q=>qf (zP 0) (qf (zP 1) q8) σ H fun vs H1=>JE K 3 vs H1 Q E0) q8)))
    ⟨rfl,rfl,by decide +kernel,by decide +kernel,ja (wG rfl),qu (by rfl),zQ (qt ⟨_,rfl,rfl,rfl,rfl⟩ qc),rfl⟩ rfl (yy (pv 0)) ?hb
   case hb =>
    intro fp C' s' H'
    exact⟨zS (i:=0) nc rfl (Or.inl rfl),qi,qZ (za (zB zL (pv 0) ze) (za (zj C1 hr (bK _) zu (za (pv 0) (za (pv 1) zd))) zd))⟩
  dsimp (config:={ proj:=false,iota:=false,beta:=false,eta:=false }) only [jd,j5]
  refine⟨_,rfl,l,rfl,⟨_,z5.of hl⟩,fun D hD=>uk (qT (z5.of hl)) T hD (by rw[sizeLine_eq];omega) (fun r=>cP (r.name,gL r bs)) (fun r hm v H1 R s1 rt k=>?_) (fun zs H1 s1 e1 T1=>?_)⟩
  ·have gd:=ok.gd r hm
   obtain⟨t,xs,rfl,ht,nm⟩:=rt.name gd
   exact⟨_,rfl,t,_,_,_,rfl,rfl,qg.of ht,nm,_,rfl,_,rfl,_,r,b,bs,rfl,rt,gd,s1.seq hb,bl,bn,fun H2 s2=>⟨qa rfl,Va.up2 k s2⟩⟩
  ·have T2:z4 H1 zs ((yB rs bs).map cP):=by
    unfold yB
    rw[b6]
    exact T1
   have nd:=OL ok bs
   have zl:zs.length=(yB rs bs).length:=by rw[T2.len,bM]
   have pl:(yB rs bs).length=rs.length:=by unfold yB;rw[bM]
   refine⟨D,zs,_,_,rfl,z5.of e1,by omega,X5 T2 nd,fun is pm up a H2 s2 n2 e2=>?_⟩
   obtain⟨pq,T3⟩:=Qc T2 pm
   have up:(is.map (G6 (yB rs bs))).Pairwise (fun a b=>¬ b.1.cps.toList<a.1.cps.toList):=CJ.mpr up
   rw[UY pq up nd] at T3
   refine⟨a,_,rfl,.inl ⟨z5.of e2,fun t t0=>?_⟩⟩
   have s3:zx H2 (upd H2 t (.tup (is.map fun i=>zs.getD i V.non))):=zx.upd t0
   exact q _ _ (s1.trans (s2.trans s3)) ⟨t,_,rfl,zm,(T3.same s2).same s3⟩
theorem Li (F:qE K "_law_net" "_law_net" (top 110) f fd) (G:jF mg):zJ P w K mg base zO 1 f fd ["_law_base","_law_dues_here"] XA:=by
 have nc:(["_law_name","_law_amount_here"]:List Str).Nodup:=by decide +kernel
 refine F.ok (N:=["_law_base","_law_dues_here"]) ⟨rfl,rfl,rfl,by decide +kernel,rfl,by decide +kernel,by decide +kernel⟩ (fun vs H Q E h=>?_) (fun cdv A outer s H vs Q E hr h=>?_)
 ·obtain⟨b,v,prs,rfl,_⟩:=h
  rfl
 ·obtain⟨b,v,prs,rfl,⟨t,ys,rfl,ht,T⟩,pl,q⟩:=h
  refine' ⟨_,(zi (zp (zw ua (pv 0) (zt (yN rfl) rfl G.sum jt (za ?comp zd))))),?main⟩
  case comp =>
   refine' qb (Nc:=["_law_name","_law_amount_here"]) (cl:=[]) (src:=[none,none]) (wi:=Z2 K (zP 1)) (g:=JT K 2 (jp (zX 0) (jp (zX 1) Jn))) (tt:=qC) (te:=zP 1)
    ⟨rfl,rfl,by decide +kernel,by decide +kernel,(fun x c z=>nomatch z),qu (by rfl),zQ (zQ qc),rfl⟩ rfl (jY (pv 1)) ?hb
   case hb =>
    intro fp C' s' H'
    exact⟨JF rfl (js (zS (i:=0) nc rfl (Or.inl rfl)) (js (zS (i:=1) nc rfl (Or.inl rfl)) Zd)),qi,pv 1⟩
  refine⟨_,rfl,_,rfl,t,rfl,⟨_,qg.of ht⟩,fun D2 hD2=>VQ (yS (qg.of ht)) T hD2 (by rw[sizeLine_eq];omega) (fun p=>V.int p.2) (fun p hp H2 R s2 r=>⟨_,rfl,r H2 (zx.refl _)⟩) (fun H2 s2 e2=>?_)⟩
  have e2':H2 D2=some (.lst ((prs.map (·.2)).map V.int)):=by rw[e2,b6];rfl
  exact⟨D2,_,rfl,z5.of e2',_,_,rfl,rfl,q H2 s2⟩
theorem gz (F:qE K "_law_dues_right" "_law_dues_right" (top 111) f fd) (G:jF mg) (C1:qH P w K mg base zO 1 "_law_whole" ["_law_found"] Qi):zJ P w K mg base zO 2 f fd ["_law_found","_law_due"] YK:=by
 have nd:(["_law_found","_law_due","_law_pair"]:List Str).Nodup:=by decide +kernel
 refine F.ok (N:=["_law_found","_law_due","_law_pair"]) ⟨rfl,rfl,rfl,by decide +kernel,rfl,by decide +kernel,by decide +kernel⟩ (fun vs H Q E h=>?_) (fun cdv A outer s H vs Q E hr h=>?_)
 ·obtain⟨u,v,prs,rfl,_⟩:=h
  rfl
 ·obtain⟨u,v,prs,rfl,du,dv,pl,q⟩:=h
  have un2:(A.deeper (PyProof.Rows.envOfC "_law_dues_right" (zV (top 111)) s.heap.objs.size f cdv)).units+2<cLine:=B5 (cH (by decide:2≤64) _) hr.units
  obtain⟨t,ys,rfl,ht,T⟩:=id du
  refine⟨_,(zh (zT (PW.pt (vL (qD (qz (zt zG rfl G.isinstance zy (za (pv 0) (za (yg (v:=.ty "tuple") rfl G.tuple qX rfl) zd))))) (vt (zE J8 (pv 0) (pv 1) (zD _))))) (zi (zp yP)) zC)
    (zh (uI PassesOwn.never rfl (jY (pv 0)) (zS (i:=2) nd rfl (Or.inl rfl)) (zi (zT (PW.pt (vL (qD (qz (zt zG rfl G.isinstance zy (za (pv 2) (za (yg (v:=.ty "tuple") rfl G.tuple qX rfl) zd))))) (vL (qD (qz (zt zG rfl G.isinstance zy (za (zB zL (pv 2) ze) (za (yg (v:=.ty "str") rfl G.str qG rfl) zd))))) (vt (qD (qz (zj C1 hr (by decide) zu (za (zB zL (pv 2) ze) zd)))))))) (zi (zp yP)) zC)))
    (zi (zp yP)))),?_⟩
  dsimp (config:={ proj:=false,iota:=false,beta:=false,eta:=false }) only [jd,j5]
  refine⟨_,rfl,_,_,_,_,true,rfl,rfl,.inl (.tup ht),rfl,true,rfl,qN ⟨_,rfl,_,rfl,2,_,rfl,Oc du,Oc dv,un2,_,rfl,qN ?_⟩⟩
  refine⟨_,rfl,t,rfl,⟨_,qg.of ht⟩,PY (xs:=ys) (fun i σ H'=>∃ x2,σ = [some (.ref t),some v,x2]∧H'=H) ⟨_,rfl,rfl⟩ (fun i σ H' _ z=>?_) ?_ ?_⟩
  ·obtain⟨_,_,rfl⟩:=z
   exact qg.of ht
  ·rintro i y σ H' hy ⟨x2,rfl,rfl⟩ E2 k2
   obtain⟨a,c,rfl,h1,h2⟩:=T.of_at hy
   rw[bR] at h1
   obtain⟨p,hp,rfl⟩:=bX.mp h1
   exact⟨_,rfl,_,_,_,_,true,rfl,rfl,.inl (.tup h2),rfl,true,rfl,qN ⟨_,rfl,a,_,_,_,rfl,rfl,qg.of h2,rfl,_,_,_,_,true,rfl,rfl,.inl (.str _),rfl,true,rfl,qN ⟨_,rfl,a,_,_,_,rfl,rfl,qg.of h2,rfl,_,rfl,true,rfl,qN (k2 _ _ ⟨_,rfl,rfl⟩)⟩⟩⟩
  ·rintro σ H' ⟨x2,rfl,rfl⟩
   exact q _ (zx.refl _)
end
end K14
namespace K14
open PySem PySem.NumText L2 Pg
seal PE PA PT PW PS jw PG um PI ud PO PK
section
variable {P:Program} {w:World} {K:PySem.W.Frag} {mg:Str→Option Value} {base:Heap} {f:Addr} {fd:FuncData} {d:Nat→Addr} {cR:Addr}
set_option maxHeartbeats 8000000 in
theorem nP (F:qE K "_law_word" "_law_word" (top 112) f fd) (G:jF mg) (D:bh mg d):Uk P w K mg base 1 f fd ["_law_e"] (xK K d):=by
 have nd:(["_law_e","_law_found","_law_words"]:List Str).Nodup:=by decide +kernel
 refine F.okQ (N:=["_law_e","_law_found","_law_words"]) ⟨rfl,rfl,rfl,by decide +kernel,rfl,by decide +kernel,by decide +kernel⟩ (fun vs H Q E h=>?_) (fun cdv A outer s H vs Q hr hq h=>?_)
 ·obtain⟨ea,C,i,rfl,_⟩:=h
  rfl
 ·obtain⟨ea,C,i,rfl,h0,kd,hi,q⟩:=h
  refine' ⟨_,(ut (zI (i:=1) nd rfl (Or.inl rfl) (zY (za (zt zG rfl G.isinstance zy (za (pv 0) (za (zZ (v:=.ref (d 0)) rfl D.g0 rfl) zd))) (za (zt zG rfl G.isinstance zy (za (pv 0) (za (zZ (v:=.ref (d 1)) rfl D.g1 rfl) zd))) (za (zt zG rfl G.isinstance zy (za (pv 0) (za (zZ (v:=.ref (d 2)) rfl D.g2 rfl) zd))) (za (zt zG rfl G.isinstance zy (za (pv 0) (za (zZ (v:=.ref (d 3)) rfl D.g3 rfl) zd))) zd))))))
    (ut (zI (i:=1) nd rfl (Or.inl rfl) (zw Zn (pv 1) (zY (za (zt zG rfl G.isinstance zy (za (pv 0) (za (zZ (v:=.ref (d 4)) rfl D.g4 rfl) zd))) (za (zt zG rfl G.isinstance zy (za (pv 0) (za (zZ (v:=.ref (d 5)) rfl D.g5 rfl) zd))) (za (zt zG rfl G.isinstance zy (za (pv 0) (za (zZ (v:=.ref (d 6)) rfl D.g6 rfl) zd))) (za (zt zG rfl G.isinstance zy (za (pv 0) (za (zZ (v:=.ref (d 7)) rfl D.g7 rfl) zd))) zd)))))))
    (ut (zI (i:=1) nd rfl (Or.inl rfl) (zw Zn (pv 1) (zY (za (zt zG rfl G.isinstance zy (za (pv 0) (za (zZ (v:=.ref (d 8)) rfl D.g8 rfl) zd))) (za (zt zG rfl G.isinstance zy (za (pv 0) (za (zZ (v:=.ref (d 9)) rfl D.g9 rfl) zd))) (za (zt zG rfl G.isinstance zy (za (pv 0) (za (zZ (v:=.ref (d 10)) rfl D.g10 rfl) zd))) (za (zt zG rfl G.isinstance zy (za (pv 0) (za (zZ (v:=.ref (d 11)) rfl D.g11 rfl) zd))) zd)))))))
    (ut (zI (i:=1) nd rfl (Or.inl rfl) (zw Zn (pv 1) (zY (za (zt zG rfl G.isinstance zy (za (pv 0) (za (zZ (v:=.ref (d 12)) rfl D.g12 rfl) zd))) (za (zt zG rfl G.isinstance zy (za (pv 0) (za (zZ (v:=.ref (d 13)) rfl D.g13 rfl) zd))) (za (zt zG rfl G.isinstance zy (za (pv 0) (za (zZ (v:=.ref (d 14)) rfl D.g14 rfl) zd))) zd))))))
    (zh (zI (i:=2) nd rfl (Or.inl rfl) (zY (za zA (za zA (za zA (za zA (za zA (za zA (za zA (za zA (za zA (za zA (za zA (za zA zd))))))))))))))
    (zh (zT (PW.pt (vL (zE XY (yE PySem.F.plainAttrs_list PySem.F.slot_list_count PySem.F.type_list_count Os (pv 1) (za yP zd)) ze (zD _)) (vt (qD (qz (zt zG rfl G.isinstance zy (za (pv 0) (za (yg (v:=.ty "ValueError") rfl G.ve lT rfl) zd)))))))) (zi (zp zA)) zC)
    (zi (zp (zB zK (zw Zn (pv 2) (zY (za zA (za zA (za zA zd))))) (yE PySem.F.plainAttrs_list PySem.F.slot_list_index PySem.F.type_list_index OG (pv 1) (za yP zd))))))))))),?main⟩
  refine wS (fun σ H'=>∃ l,σ = [some (.ref ea),some (.ref l),none]∧zx H H'∧H' l=some (.lst ([decide (i=0),decide (i=1),decide (i=2),decide (i=3)].map V.bl))) (fun Ek kk=>?_) ?_
  ·exact⟨_,rfl,_,_,_,_,_,rfl,rfl,h0.ty,kd.k0,_,rfl,_,_,_,_,_,rfl,rfl,h0.ty,kd.k1,_,rfl,_,_,_,_,_,rfl,rfl,h0.ty,kd.k2,_,rfl,_,_,_,_,_,rfl,rfl,h0.ty,kd.k3,qa rfl,fun l1 H1 s1 n1 e1=>kk _ _ ⟨l1,rfl,s1,e1⟩⟩
  rintro σ H1 ⟨l1,rfl,s1,e1⟩
  have h1:=h0.same s1
  refine wS (fun σ H'=>∃ l,σ = [some (.ref ea),some (.ref l),none]∧zx H H'∧H' l=some (.lst ([decide (i=0),decide (i=1),decide (i=2),decide (i=3),decide (i=4),decide (i=5),decide (i=6),decide (i=7)].map V.bl))) (fun Ek kk=>?_) ?_
  ·exact⟨_,rfl,_,rfl,_,_,_,_,_,rfl,rfl,h1.ty,kd.k4,_,rfl,_,_,_,_,_,rfl,rfl,h1.ty,kd.k5,_,rfl,_,_,_,_,_,rfl,rfl,h1.ty,kd.k6,_,rfl,_,_,_,_,_,rfl,rfl,h1.ty,kd.k7,qa rfl,fun l2 H2 s2 n2 e2=>⟨l1,l2,_,_,rfl,rfl,s2 _ _ e1,e2,by rw[sizeLine_eq];exact b8 rfl,fun l3 H3 s3 n3 e3=>kk _ _ ⟨l3,rfl,s1.trans (s2.trans s3),e3⟩⟩⟩
  rintro σ H3 ⟨l3,rfl,S3,e3⟩
  have h3:=h0.same S3
  refine wS (fun σ H'=>∃ l,σ = [some (.ref ea),some (.ref l),none]∧zx H H'∧H' l=some (.lst ([decide (i=0),decide (i=1),decide (i=2),decide (i=3),decide (i=4),decide (i=5),decide (i=6),decide (i=7),decide (i=8),decide (i=9),decide (i=10),decide (i=11)].map V.bl))) (fun Ek kk=>?_) ?_
  ·exact⟨_,rfl,_,rfl,_,_,_,_,_,rfl,rfl,h3.ty,kd.k8,_,rfl,_,_,_,_,_,rfl,rfl,h3.ty,kd.k9,_,rfl,_,_,_,_,_,rfl,rfl,h3.ty,kd.k10,_,rfl,_,_,_,_,_,rfl,rfl,h3.ty,kd.k11,qa rfl,fun l4 H4 s4 n4 e4=>⟨l3,l4,_,_,rfl,rfl,s4 _ _ e3,e4,by rw[sizeLine_eq];exact b8 rfl,fun l5 H5 s5 n5 e5=>kk _ _ ⟨l5,rfl,S3.trans (s4.trans s5),e5⟩⟩⟩
  rintro σ H5 ⟨l5,rfl,S5,e5⟩
  have h5:=h0.same S5
  refine wS (fun σ H'=>∃ l,σ = [some (.ref ea),some (.ref l),none]∧zx H H'∧H' l=some (.lst ([decide (i=0),decide (i=1),decide (i=2),decide (i=3),decide (i=4),decide (i=5),decide (i=6),decide (i=7),decide (i=8),decide (i=9),decide (i=10),decide (i=11),decide (i=12),decide (i=13),decide (i=14)].map V.bl))) (fun Ek kk=>?_) ?_
  ·exact⟨_,rfl,_,rfl,_,_,_,_,_,rfl,rfl,h5.ty,kd.k12,_,rfl,_,_,_,_,_,rfl,rfl,h5.ty,kd.k13,_,rfl,_,_,_,_,_,rfl,rfl,h5.ty,kd.k14,qa rfl,fun l6 H6 s6 n6 e6=>⟨l5,l6,_,_,rfl,rfl,s6 _ _ e5,e6,by rw[sizeLine_eq];exact b8 rfl,fun l7 H7 s7 n7 e7=>kk _ _ ⟨l7,rfl,S5.trans (s6.trans s7),e7⟩⟩⟩
  rintro σ H7 ⟨l7,rfl,S7,e7⟩
  refine⟨qa rfl,fun wl H8 s8 n8 e8=>?_⟩
  have e7':=s8 _ _ e7
  have h8:=(h0.same S7).same s8
  have S8:=S7.trans s8
  have c1:([decide (i=0),decide (i=1),decide (i=2),decide (i=3),decide (i=4),decide (i=5),decide (i=6),decide (i=7),decide (i=8),decide (i=9),decide (i=10),decide (i=11),decide (i=12),decide (i=13),decide (i=14)]).countP id=1:=by rcases hi with rfl | rfl <;> rfl
  refine⟨_,rfl,.inl ⟨rfl,_,z5.of e7'⟩,l7,_,rfl,rfl,e7',rfl,_,rfl,?_⟩
  rw[c1]
  refine qN ⟨_,rfl,_,_,_,_,_,rfl,rfl,h8.ty,kd.ve,_,rfl,qN ?_⟩
  refine⟨_,rfl,qa rfl,fun l9 H9 s9 n9 e9=>⟨wl,l9,_,_,rfl,rfl,s9 _ _ e8,e9,by decide,fun la Ha sa na ea'=>?_⟩⟩
  have e7a:=sa _ _ (s9 _ _ e7')
  refine⟨_,rfl,.inl ⟨rfl,_,z5.of e7a⟩,l7,_,i,rfl,rfl,e7a,?_,(fun m hm=>?_),la,_,_,_,rfl,rfl,z5.of ea',?_,q Ha (S8.trans (s9.trans sa))⟩
  ·rcases hi with rfl | rfl <;> rfl
  ·rcases hi with rfl | rfl
   ·match m,hm with
    | 0,_=>rfl
    | 1,_=>rfl
    | 2,_=>rfl
   ·match m,hm with
    | 0,_=>rfl
    | 1,_=>rfl
    | 2,_=>rfl
    | 3,_=>rfl
    | 4,_=>rfl
    | 5,_=>rfl
    | 6,_=>rfl
  ·rcases hi with rfl | rfl <;> rfl
theorem MN {Cs:Nat→Addr} {C:Addr} {j:Nat} (hj:1≤j) (F:qE K "_law_told" "_law_told" (top 113) f fd) (mgR:mg "RollError" = some (.ref cR)) (Z3:Rz K d cR 3) (Z7:Rz K d cR 7) (C1:qH P w K mg base (xq P w) j "statement" ["book","month","bases"] (Xi K Cs C (d 3) (d 7))) (Ck:NG P w K mg base 1 "_law_word" ["_law_e"] (xK K d)):zJ P w K mg base zO (j+1) f fd ["_law_book","_law_month","_law_bases_here"] (WN K C):=by
 have nd:(["_law_book","_law_month","_law_bases_here","_law_e"]:List Str).Nodup:=by decide +kernel
 refine F.ok (N:=["_law_book","_law_month","_law_bases_here","_law_e"]) ⟨rfl,rfl,rfl,by decide +kernel,rfl,by decide +kernel,by decide +kernel⟩ (fun vs H Q E h=>?_) (fun cdv A outer s H vs Q E hr h=>?_)
 ·obtain⟨B,dx,t,b,es,v,bs,rfl,_⟩:=h
  rfl
 ·obtain⟨B,dx,t,b,es,v,bs,rfl,BK,el,hb,bl,h⟩:=h
  refine⟨_,zi (nY (R:=fun cls _ H'=>∃ i,(i=3∨i=7)∧cls = .ref (d i)∧zx H H'∧∀ l H'',zx H H''→H'' l=some (.lst [.str (re i)])→Q (.ref l) H'') (i:=3) (th:=fun ea=>mR (Mg (qf (xI ((A.deeper (PyProof.Rows.envOfC "_law_told" (zV (top 113)) s.heap.objs.size f cdv)).mark (some (.ref ea))) (xK K d) (qf (zP 3) q8)) q8))) rfl rfl rfl mgR (fun cls o H' z=>by
    obtain⟨i,hi,rfl,_⟩:=z
    rcases hi with rfl | rfl
    ·exact Z3.ex
    ·exact Z7.ex) nd rfl rfl
   (fun pn=>zi (zp (zj C1 hr (bK _) Rx (za (pv 0) (za (pv 1) (za (pv 2) zd))))))
   (fun pn ea E=>zi (zp (zY (za (LE (j:=j) Ck ⟨hr.dp,hr.un⟩ hj (za (pv 3) zd)) zd))))),?_,?_⟩
  ·refine⟨_,rfl,_,rfl,_,rfl,B,dx,t,b,es,v,bs,rfl,BK,el,hb,bl,?_⟩
   rcases h with ⟨M,rfl,M0,M1,qe,q⟩ | ⟨nn,q⟩
   ·exact .inl ⟨M,rfl,M0,M1,fun e H' s'=>⟨7,.inr rfl,rfl,s',fun l H'' s'' e''=>qe e l H'' s'' e''⟩,q⟩
   ·exact .inr ⟨nn,3,.inl rfl,rfl,zx.refl _,q⟩
  ·rintro ea oe vs cls σ' H' ⟨i,hi,rfl,s1,q⟩ hne hcl hd1 hd2 h2 hlen
   have kd:Oh K d (d i) i:=by
    rcases hi with rfl | rfl
    ·exact Z3.kd
    ·exact Z7.kd
   exact⟨.ref ea,Cv (by rw[hlen];show 3<4;decide),.inr ⟨ea,oe,vs,_,rfl,zm,hd2,.inl h2⟩,ea,d i,i,rfl,⟨⟨oe,vs,zm,hcl,hd1,hd2⟩,kd.cls⟩,kd,hi,fun H2 s2=>⟨qa rfl,fun l H3 s3 n3 e3=>q l H3 ((s1.trans (zx.upd hne)).trans (s2.trans s3)) e3⟩⟩
set_option maxHeartbeats 8000000 in
theorem nZ {C:Addr} {j:Nat} (hj:22≤j) (F:qE K "_law_is_right" "_law_is_right" (top 114) f fd) (G:jF mg) (C1:qH P w K mg base zO j "_law_told" ["_law_book","_law_month","_law_bases_here"] (WN K C)) (C2:qH P w K mg base zO 22 "_law_dues" ["_law_rules_here","_law_bases_here"] (Ug K)) (C3:qH P w K mg base zO 2 "_law_dues_right" ["_law_found","_law_due"] YK) (C4:qH P w K mg base zO 1 "_law_net" ["_law_base","_law_dues_here"] XA) (C5:qH P w K mg base zO 1 "_law_whole" ["_law_found"] Qi):zJ P w K mg base zO (j+1) f fd ["_law_book","_law_own","_law_month","_law_bases_here"] (WJ C):=by
 have nd:(["_law_book","_law_own","_law_month","_law_bases_here","_law_handed","_law_found","_law_years","_law_due"]:List Str).Nodup:=by decide +kernel
 have nc:(["_law_year","_law_month"]:List Str).Nodup:=by decide +kernel
 refine F.ok (N:=["_law_book","_law_own","_law_month","_law_bases_here","_law_handed","_law_found","_law_years","_law_due"]) ⟨rfl,rfl,rfl,by decide +kernel,rfl,by decide +kernel,by decide +kernel⟩ (fun vs H Q E h=>?_) (fun cdv A outer s H vs Q E hr h=>?_)
 ·obtain⟨B,dx,t,o,b,es,fs,M,bs,rfl,_⟩:=h
  rfl
 ·obtain⟨B,dx,t,o,b,es,fs,M,bs,rfl,BK,OW,ey,el,hb,b1,b50,bn,M0,M1,q⟩:=h
  have hu:=Xj hr
  have un0:(A.deeper (PyProof.Rows.envOfC "_law_is_right" (zV (top 114)) s.heap.objs.size f cdv)).units<cLine:=B5 (BU _ 64) hr.units
  have un1:(A.deeper (PyProof.Rows.envOfC "_law_is_right" (zV (top 114)) s.heap.objs.size f cdv)).units+1<cLine:=B5 (cH (by decide:1≤64) _) hr.units
  refine' ⟨_,(zh (zI (i:=4) nd rfl (Or.inl rfl) (z7 u8 rfl G.list wU (za (pv 3) zd)))
    (zh (zI (i:=5) nd rfl (Or.inl rfl) (zj C1 hr (bK _) zu (za (pv 0) (za (pv 2) (za (pv 4) zd)))))
    (zh (pN ?c1)
    (zh (zT (zE J8 (pv 4) (pv 3) (zD _)) (zi (zp yP)) zC)
    (zh (zT (zE (V4 un0) (pv 6) (zY zd) (zD _)) (zi (zp (qB Nn (pv 5) (zY (za zA zd)) (zD _)))) zC)
    (zh (zI (i:=7) nd rfl (Or.inl rfl) (zj C2 hr hj zu (za (Ja hu (pv 1) (zt (YJ rfl) rfl G.max PyProof.Rows.boot_max (za (pv 6) zd)) (fun _ _=>rfl)) (za (pv 3) zd))))
    (zh (zT (PW.pt (vL (qD (qz (zt zG rfl G.isinstance zy (za (pv 5) (za (yg (v:=.ty "tuple") rfl G.tuple qX rfl) zd))))) (vL (zE XY (zt zR rfl G.len boot_len (za (pv 5) zd)) ze (zD _)) (vt (qD (qz (zj C3 hr (by omega) zu (za (zB zL (pv 5) ze) (za (pv 7) zd))))))))) (zi (zp yP)) zC)
    (zh (zT (zE J8 (zY (za (zB zL (pv 5) ze) (za (zB zL (pv 5) ze) (za (zB zL (pv 5) ze) zd)))) (zY (za (pv 2) (za (zB zK (pv 3) (uD j0 ze)) (za (zj C4 hr (by omega) zu (za (zB zK (pv 3) (uD j0 ze)) (za (pv 7) zd))) zd)))) (zD _)) (zi (zp yP)) zC)
    (zi (zp (yI (zj C5 hr (by omega) zu (za (zB zL (pv 5) ze) zd)) (yI (zj C5 hr (by omega) zu (za (zB zL (pv 5) ze) zd)) (yT (zj C5 hr (by omega) zu (za (zB zL (pv 5) ze) zd))))))))))))))),?main⟩
  case c1 =>
   refine' wc (i:=6) (Nc:=["_law_year","_law_month"]) (cl:=[("_law_month",s.heap.objs.size+1)]) (src:=[none,some 2]) (wi:=PZ (zP 1)) (g:=zX 0) (tt:=VB (jB (Yw fun i j=>.bl (decide (i≤j))) (zP 0) (jB (rI Lj fun i j=>.int (i/j)) (zP 1) (tC (.int 12))))) (te:=zP 0)
    nd rfl rfl ⟨rfl,rfl,by decide +kernel,by decide +kernel,ja (wG rfl),qu (by rfl),zQ (qt ⟨_,rfl,rfl,rfl,rfl⟩ qc),rfl⟩ rfl (XS (pv 1)) ?hb
   case hb =>
    intro fp C' s' H'
    exact⟨zS (i:=0) nc rfl (Or.inl rfl),Zl (zE UA (pv 0) (zw qK (pv 1) ze) (zD _)),pv 0⟩
  dsimp (config:={ proj:=false,iota:=false,beta:=false,eta:=false }) only [jd,j5]
  refine⟨_,rfl,b,_,rfl,.inl (z5.of hb),fun b2 b20=>?_⟩
  have s1:zx H (upd H b2 (.lst (bs.map V.int))):=zx.upd b20
  have e1:(upd H b2 (.lst (bs.map V.int))) b2=some (.lst (bs.map V.int)):=zm
  generalize upd H b2 (.lst (bs.map V.int))=H1 at s1 e1
  have B1:=BK.fr fun b o h=>s1 _ _ h
  dsimp only [zX]
  refine nB (fun R=>∀ v H',zx H1 H'→tz H' v es M bs→R v H') (fun R r=>?_) (fun v H2 s2 fr2=>?_)
  ·refine⟨_,rfl,_,rfl,_,rfl,B,dx,t,b2,es,_,bs,rfl,B1,el,z5.of e1,by omega,.inl ⟨M,rfl,M0,M1,fun e l H' s' e'=>r _ _ s' (.inl ⟨e,l,rfl,e'⟩),fun m rs pk v H' s' st=>r _ _ s' (.inr ⟨m,rs,pk,st⟩)⟩⟩
  have S2:=s1.trans s2
  have O2:=OW.same S2
  show _
  refine⟨o,jU fs,O2.dic,fun ob=>?_⟩
  have fl:fs.length≤100:=by rw[Oa ey];exact el
  have ek:(jU fs).map (fun p=>kV p.1)=(fs.map (·.1)).map V.int:=by
   unfold jU
   rw[b6,b6]
   rfl
  have wd:=Yj (H:=upd H2 o (.frz ob (.dK (jU fs)))) (d:=o) (o:=ob) (kvs:=jU fs) zm
  rw[ek] at wd
  refine⟨_,rfl,o,ob,jU fs,rfl,zm,fun D hD=>?_⟩
  refine Zf wd hD (by rw[bM,bM,sizeLine_eq];omega) (fun x=>match x with | .int y=>decide (y≤M/12) | _=>false) id (fun x hx H' R _ r=>?_) (fun x hx _ H' R _ r=>⟨_,rfl,r⟩) ?_
  ·obtain⟨y,_,rfl⟩:=bZ.mp hx
   exact⟨_,rfl,_,rfl,_,_,rfl,rfl,⟨by decide,by decide⟩,_,_,rfl,rfl,_,rfl,r⟩
  have ea:(((fs.map (·.1)).map V.int).filter fun x=>match x with | .int y=>decide (y≤M/12) | _=>false).map id=(wL fs (M/12)).map V.int:=by
   rw[List.map_id,List.filter_map]
   rfl
  rw[ea]
  have Dt:D≠o:=fun z=>by rw[z,zm] at hD;cases hD
  have sf:zx (upd H2 o (.frz ob (.dK (jU fs)))) (upd (upd H2 o (.frz ob (.dK (jU fs)))) D (.lst ((wL fs (M/12)).map V.int))):=zx.upd hD
  refine⟨by rw[zq (Ne.symm Dt)];exact zm,?_⟩
  have s3:zx H2 (upd (upd (upd H2 o (.frz ob (.dK (jU fs)))) D (.lst ((wL fs (M/12)).map V.int))) o (.dK (jU fs))):=Yy O2.dic sf
  have e3:(upd (upd (upd H2 o (.frz ob (.dK (jU fs)))) D (.lst ((wL fs (M/12)).map V.int))) o (.dK (jU fs))) D=some (.lst ((wL fs (M/12)).map V.int)):=by rw[zq Dt,zm]
  generalize upd (upd (upd H2 o (.frz ob (.dK (jU fs)))) D (.lst ((wL fs (M/12)).map V.int))) o (.dK (jU fs))=H3 at s3 e3
  rw[WE ey] at e3
  have S3:=S2.trans s3
  have fr3:=fr2.same s3
  refine⟨_,rfl,_,rfl,1,_,rfl,Is.flat (z5.of (s3 _ _ (s2 _ _ e1))) (Yn _),Is.flat (z5.of (S3 _ _ hb)) (Yn _),un1,_,rfl,qN ?_⟩
  refine⟨_,rfl,qa rfl,fun em H4 s4 em0 e4=>⟨D,em,_,rfl,rfl,z5.of (s4 _ _ e3),z5.of e4,fun eN=>⟨true,rfl,y8 ?_⟩,fun nN=>⟨false,rfl,qN ?_⟩⟩⟩
  ·have an:wL es (M/12)=[]:=List.map_eq_nil_iff.mp eN
   rcases fr3.same s4 with ⟨_,l,rfl,hl⟩ | ⟨m,rs,pk,_⟩
   ·exact⟨_,rfl,qa rfl,fun l2 H5 s5 n5 e5=>⟨1,_,rfl,Is.flat (z5.of (s5 _ _ hl)) rfl,Is.flat (z5.of e5) rfl,un1,q H5 (S3.trans (s4.trans s5))⟩⟩
   ·exact (LC an pk).elim
  have nn:wL es (M/12)≠[]:=fun z=>nN (by rw[z];rfl)
  have S4:=S3.trans s4
  obtain⟨m,hm,top⟩:=OR nn
  rw[← WE ey] at hm top
  obtain⟨en,he,em',pk⟩:=Uu hm top
  rw[WE ey] at hm top
  rw[ey] at pk
  have rsok:uQ en.2.2:=RH BK.ok pk.mem
  obtain⟨rs,st⟩:∃ rs,rs=en.2.2∧Uw H4 v M rs bs:=by
   rcases fr3.same s4 with ⟨z,_⟩ | ⟨m',rs,pk',st⟩
   ·exact absurd z nn
   ·exact⟨rs,pk'.one (by rw[Jp];exact BK.nd) pk,st⟩
  obtain⟨rfl,st⟩:=st
  have O4:=OW.same S4
  have gd:ZD H4 o (.int m) (some (.ref en.2.1)):=by
   rw[← em',← WB O4.nd he]
   exact ZD.k (k:=Sum.inl en.1) O4.dic
  refine⟨_,rfl,_,rfl,D,_,m,rfl,z5.of (s4 _ _ e3),hm,top,o,_,rfl,gd,_,rfl,en.2.1,b,en.2.2,bs,rfl,O4.rt en he,rsok,z5.of (S4 _ _ hb),by omega,bn,fun w H5 s5 du=>?_⟩
  have dl:=X8 rsok bs
  have S5:=S4.trans s5
  obtain⟨tt,u,rfl,ht,hdu⟩:=st.same s5
  refine⟨_,rfl,_,_,_,_,true,rfl,rfl,.inl (.tup ht),rfl,true,rfl,qN ⟨_,rfl,tt,_,rfl,.inr (qg.of ht),rfl,_,rfl,qN ⟨_,rfl,tt,_,_,_,rfl,rfl,qg.of ht,rfl,_,rfl,_,_,_,rfl,hdu,du,dl,fun H6 s6=>⟨true,rfl,qN ?_⟩⟩⟩⟩
  have ht6:=s6 _ _ ht
  have S6:=S5.trans s6
  refine⟨_,rfl,tt,_,_,_,rfl,rfl,qg.of ht6,rfl,_,rfl,tt,_,_,_,rfl,rfl,qg.of ht6,rfl,_,rfl,tt,_,_,_,rfl,rfl,qg.of ht6,rfl,qa rfl,fun l7 H7 s7 n7 e7=>?_⟩
  have S7:=S6.trans s7
  refine⟨_,rfl,_,rfl,_,rfl,b,_,_,_,rfl,rfl,z5.of (S7 _ _ hb),UQ b1,_,rfl,_,rfl,b,_,_,_,rfl,rfl,z5.of (S7 _ _ hb),UQ b1,_,rfl,_,w,_,rfl,du.same (s6.trans s7),dl,fun H8 s8=>⟨qa rfl,fun l9 H9 s9 n9 e9=>?_⟩⟩
  have S9:=S7.trans (s8.trans s9)
  have ht9:=s9 _ _ (s8 _ _ (s7 _ _ ht6))
  refine⟨1,_,rfl,Is.flat (z5.of (s9 _ _ (s8 _ _ e7))) rfl,Is.flat (z5.of e9) rfl,un1,_,rfl,qN ?_⟩
  exact⟨_,rfl,tt,_,_,_,rfl,rfl,qg.of ht9,rfl,_,rfl,_,rfl,y8 ⟨_,rfl,tt,_,_,_,rfl,rfl,qg.of ht9,rfl,_,rfl,_,rfl,y8 ⟨_,rfl,tt,_,_,_,rfl,rfl,qg.of ht9,rfl,_,rfl,q H9 S9⟩⟩⟩
end
end K14
namespace Pg
open PySem L2
theorem mE {H H':Hp} {ys:List V} {cs:List (List V)} (k:FT H H') (T:z4 H ys cs):z4 H' ys cs:=⟨T.len,fun i c h=>by
 obtain⟨a,h1,h2⟩:=T.at_ i c h
 exact⟨a,h1,k _ _ h2⟩⟩
theorem Zg.kt {H H':Hp} {r:Rk} {v:V} (k:FT H H') (h:Zg H r v):Zg H' r v:=by
 induction h with
 | pln e h =>
  obtain⟨t,rfl,h⟩:=h
  exact .pln e ⟨t,rfl,k _ _ h⟩
 | bands h b =>
  obtain⟨ys,e,t⟩:=b
  exact .bands (k _ _ h) ⟨ys,k _ _ e,mE k t⟩
 | ontop h _ ih=>exact .ontop (k _ _ h) ih
theorem JP {H H':Hp} {l:Addr} {rs:List Rk} (h:wv H l rs) (k:FT H H') (kl:∀ xs,H l=some (.lst xs)→H' l=some (.lst xs)):wv H' l rs:=by
 obtain⟨ys,e,T⟩:=h
 refine⟨ys,kl _ e,T.len,fun i y hy=>?_⟩
 obtain⟨r,h1,h2⟩:=T.at_ i y hy
 exact⟨r,h1,fun H'' s=>((h2 H (zx.refl _)).kt k).same s⟩
structure Wk (C B dx t o al:Addr) (fx:List (Addr × HO)) (H:Hp) (es fs:List Be) (vs:List V) (ds:List (Int × List Int)):Prop where
 bk:Xo C H B dx t es
 ow:Rm H o fs
 ey:fs.map yr=es.map yr
 al':H al=some (.lst vs)
 an:vs.length=ds.length
 ak:∀ (j:Nat) v q,vs[j]? = some v→ds[j]? = some q→OU [al] H v q∧Pe q
 no:∀ e∈fs,e.2.1≠al
 nr:∀ e∈es,e.2.1≠al
 f:∀ q∈fx,H q.1=some q.2∧q.1≠t∧q.1≠o∧q.1≠al
 ot:o≠t
section
variable {C B dx t o al:Addr} {fx:List (Addr × HO)} {H H1 H2 H4:Hp} {es fs:List Be} {vs:List V} {ds:List (Int × List Int)}
theorem OU.fr {S:List Addr} {v:V} {q:Int × List Int} (h:OU S H v q) (f:FT H H1) (k:∀ b xs,H b=some (.lst xs)→¬ b∈S→H1 b=some (.lst xs)):OU S H1 v q:=by
 obtain⟨a,b,e,h1,h2,h3⟩:=h
 exact⟨a,b,e,f _ _ h1,k _ _ h2 h3,h3⟩
theorem Wk.same (W:Wk C B dx t o al fx H es fs vs ds) (s:zx H H1):Wk C B dx t o al fx H1 es fs vs ds :=
 ⟨W.bk.fr fun b o h=>s _ _ h,W.ow.same s,W.ey,s _ _ W.al',W.an,fun j v q h1 h2=>⟨(W.ak j v q h1 h2).1.fr (FT.same s) fun b xs h _=>s _ _ h,(W.ak j v q h1 h2).2⟩,W.no,W.nr,fun q hq=>⟨s _ _ (W.f q hq).1,(W.f q hq).2⟩,W.ot⟩
theorem Wk.put {l a:Addr} {Y:Int} {rs:List Rk} (W:Wk C B dx t o al fx H es fs vs ds) (s1:zx H H1) (l0:H l=none) (r1:wv H1 l rs) (k4:∀ b ox,H1 b=some ox→b≠o→b≠t→H4 b=some ox) (o4:H4 o=some (.dK (jU (j3 fs Y l rs)))) (b4:Xo C H4 B dx t (j3 es Y a rs)) (a0:a≠al):Wk C B dx t o al fx H4 (j3 es Y a rs) (j3 fs Y l rs) vs ds:=by
 have W1:=W.same s1
 have nl:∀ b xs,H1 b=some (.lst xs)→H4 b=some (.lst xs):=fun b xs h=>k4 _ _ h (yp h W1.ow.dic (by intro z;cases z)) (yp h W1.bk.dic (by intro z;cases z))
 have ft:FT H1 H4:=fun b c h=>k4 _ _ h (yp h W1.ow.dic (by intro z;cases z)) (yp h W1.bk.dic (by intro z;cases z))
 refine⟨b4,⟨o4,JG W.ow.nd,fun e he=>?_⟩,by rw[Xq,Xq,W.ey],nl _ _ W1.al',W.an,fun j v q h1 h2=>⟨(W1.ak j v q h1 h2).1.fr ft fun b xs h _=>nl _ _ h,(W.ak j v q h1 h2).2⟩,fun e he=>?_,fun e he=>?_,fun q hq=>?_,W.ot⟩
 ·rcases vW he with rfl | he
  ·exact JP r1 ft fun xs h=>nl _ _ h
  ·exact JP (W1.ow.rt e he) ft fun xs h=>nl _ _ h
 ·rcases vW he with rfl | he
  ·exact fun z=>by
    have z:l=al:=z
    rw[z,W.al'] at l0
    cases l0
  ·exact W.no e he
 ·rcases vW he with rfl | he
  ·exact a0
  ·exact W.nr e he
 ·obtain⟨h1,h2,h3,h4⟩:=W1.f q hq
  exact⟨k4 _ _ h1 h3 h2,h2,h3,h4⟩
theorem Wk.ask {tp b:Addr} {M:Int} {bs:List Int} (W:Wk C B dx t o al fx H es fs vs ds) (s1:zx H H1) (b0:H b=none) (e1:H1 tp=some (.tup [.int M,.ref b])) (e2:H1 b=some (.lst (bs.map V.int))) (ok:Pe (M,bs)) (k2:∀ x ox,H1 x=some ox→x≠al→H2 x=some ox) (a2:H2 al=some (.lst (vs++[.ref tp]))):Wk C B dx t o al fx H2 es fs (vs++[.ref tp]) (ds++[(M,bs)]):=by
 have W1:=W.same s1
 have ft:FT H1 H2:=fun x c h=>k2 _ _ h (yp h W1.al' (by intro z;cases z))
 have bal:b≠al:=fun z=>by rw[z,W.al'] at b0;cases b0
 refine⟨⟨k2 _ _ W1.bk.ins (yp W1.bk.ins W1.al' (by intro z;cases z)),k2 _ _ W1.bk.dic (yp W1.bk.dic W1.al' (by intro z;cases z)),W.bk.nd,fun e he=>k2 _ _ (W1.bk.row e he) (W.nr e he),W.bk.ok⟩,⟨k2 _ _ W1.ow.dic (yp W1.ow.dic W1.al' (by intro z;cases z)),W.ow.nd,fun e he=>JP (W1.ow.rt e he) ft fun xs h=>k2 _ _ h (W.no e he)⟩,W.ey,a2,by rw[bP,bP,W.an];rfl,fun j v q h1 h2=>?_,W.no,W.nr,fun q hq=>?_,W.ot⟩
 ·have lk:∀ x xs,H1 x=some (.lst xs)→¬ x∈[al]→H2 x=some (.lst xs):=fun x xs h n=>k2 _ _ h fun z=>n (by rw[z];exact Bf.mpr rfl)
  by_cases hj:j<vs.length
  ·rw[Bl hj] at h1
   rw[Bl (by rw[← W.an];exact hj)] at h2
   exact⟨(W1.ak j v q h1 h2).1.fr ft lk,(W1.ak j v q h1 h2).2⟩
  ·rw[bY (BL hj)] at h1
   rw[bY (by rw[← W.an];exact BL hj),← W.an] at h2
   have ej:j - vs.length=0:=by
    cases z:j - vs.length with
    | zero=>rfl
    | succ n=>rw[z] at h1;cases h1
   rw[ej] at h1 h2
   cases h1
   cases h2
   have nb:¬ b∈[al]:=fun z=>bal (Bf.mp z)
   exact⟨⟨tp,b,rfl,ft _ _ e1,lk _ _ e2 nb,nb⟩,ok⟩
 ·obtain⟨h1,h2,h3,h4⟩:=W1.f q hq
  exact⟨k2 _ _ h1 h4,h2,h3,h4⟩
end
theorem nD (ns:List Int):∃ zs:List Int,vm (ns.map V.int) (some 3) (some 11)=zs.map V.int∧zs.length≤8:=by
 refine⟨(ns.drop (min 3 ns.length)).take (min 11 ns.length - min 3 ns.length),?_,?_⟩
 ·have e3:∀ n d,HT.uZ n d (some 3)=min 3 n:=fun n d=>HT.vn n d 3
  have e27:∀ n d,HT.uZ n d (some 11)=min 11 n:=fun n d=>HT.vn n d 11
  unfold vm
  rw[e3,e27,bM,List.map_take,List.map_drop]
 ·rw[Bh]
  omega
theorem MJ {K:PySem.W.Frag} {H:Hp} {a:Addr} {xs:List V} (h:z5 K H a xs):∃ ex:List (Addr × HO),(∀ q∈ex,H q.1=some q.2)∧∀ H':Hp,(∀ q∈ex,H' q.1=some q.2)→z5 K H' a xs:=by
 rcases h with (h | ⟨o,h⟩) | h
 ·refine⟨[(a,_)],fun q hq=>?_,fun H' k=>.inl (.inl (k _ Bb))⟩
  rw[Bf.mp hq]
  exact h
 ·refine⟨[(a,_)],fun q hq=>?_,fun H' k=>.inl (.inr ⟨o,k _ Bb⟩)⟩
  rw[Bf.mp hq]
  exact h
 ·exact⟨[],(fun q hq=>by cases hq),fun H' _=>.inr h⟩
theorem ME (l:List V) (x:V):atI (l++[x]) (-1)=some x:=by
 have hl:(l++[x]).length=l.length+1:=bP
 unfold atI lm
 rw[if_neg (by decide),if_pos (by rw[hl];omega)]
 show (l++[x])[((-1:Int)+((l++[x]).length:Nat)).toNat]? = _
 rw[hl,show ((-1:Int)+((l.length+1:Nat):Nat)).toNat=l.length by omega,bY (bK _),cq]
 rfl
theorem RG {K:PySem.W.Frag} {H:Hp} {l t:Addr} {x:Str} {v:V} (h1:H l=some (.lst [.int 5])) (h2:H t=some (.tup [.int 0])) (m:v∈[V.int (-1),.int 120000,.bl true,.non,.str x,.ref l,.bl false,.ref t]):Yu K H 119999 v:=by
 simp only[bN,bS,or_false] at m
 rcases m with rfl | rfl | rfl | rfl | rfl | rfl | rfl | rfl
 ·exact .inr ⟨_,rfl,by omega⟩
 ·exact .inr ⟨_,rfl,by omega⟩
 ·exact .inl (m7 _)
 ·exact .inl Ll
 ·exact .inl (NH _)
 ·exact .inl (ML h1)
 ·exact .inl (m7 _)
 ·exact .inl (nU h2)
end Pg
namespace K14
open PySem PySem.NumText L2 Pg
seal PE PA PT PW PS jw PG um PI ud PO PK
section
variable {P:Program} {w:World} {K:PySem.W.Frag} {mg:Str→Option Value} {base:Heap} {f:Addr} {fd:FuncData} {d:Nat→Addr} {cR:Addr}
set_option maxHeartbeats 32000000 in
theorem Mz {C:Addr} (F:qE K "law" "law" (top 115) f fd) (G:jF mg) (C_cell:qH P w K mg base zO 1 "_law_cell_at" ["_law_script","_law_k"] (XJ K)) (C_mx:qH P w K mg base zO 1 "_law_mixed" ["_law_cell","_law_k"] yQ) (C_nm:qH P w K mg base zO 2 "_law_names" ["_law_cell","_law_many"] Xk) (C_ru:qH P w K mg base zO 6 "_law_rules" ["_law_cell","_law_names_here","_law_most"] (YH K)) (C_ba:qH P w K mg base zO 3 "_law_bases" ["_law_cell","_law_many"] Xg) (C_row:qH P w K mg base zO 6 "_law_row" ["_law_rule_here"] (wo 4))
  (NB:vD P w K mg base zO 1 "RuleBook" C ["self"] (Vw C)) (M_put:qO P w K mg base zO 24 C "put" ["self","year","rows"] (XG C)) (C_td:qH P w K mg base zO 26 "_law_told" ["_law_book","_law_month","_law_bases_here"] (WN K C)) (C_is:qH P w K mg base zO 27 "_law_is_right" ["_law_book","_law_own","_law_month","_law_bases_here"] (WJ C)):zJ P w K mg base zO 28 f fd ["_law_script"] (Zi K):=by
 have nd:(["_law_script","_law_first","_law_names_here","_law_book","_law_own","_law_asked","_law_cell","_law_number","_law_year","_law_place","_law_odd"]:List Str).Nodup:=by decide +kernel
 have nc3:(["_law_rule_here"]:List Str).Nodup:=by decide +kernel
 have nc1:(["_law_month","_law_bases_here","_law_book","_law_own"]:List Str).Nodup:=by decide +kernel
 refine F.ok (N:=["_law_script","_law_first","_law_names_here","_law_book","_law_own","_law_asked","_law_cell","_law_number","_law_year","_law_place","_law_odd"]) ⟨rfl,rfl,rfl,by decide +kernel,rfl,by decide +kernel,by decide +kernel⟩ (fun vs H Q E h=>?_) (fun cdv A outer s H vs Q E hr h=>?_)
 ·obtain⟨a,ns,rfl,_⟩:=h
  rfl
 ·obtain⟨a,ns,rfl,hs,q⟩:=h
  have hu:=Xj hr
  have un1:(A.deeper (PyProof.Rows.envOfC "law" (zV (top 115)) s.heap.objs.size f cdv)).units+1<cLine:=B5 (cH (by decide:1≤64) _) hr.units
  refine' ⟨_,(zh (zI (i:=1) nd rfl (Or.inl rfl) (zB zK (zY (za ze (za ze (za (zw qd (zj C_mx hr (by decide) zu (za (zj C_cell hr (by decide) zu (za (pv 0) (za ze zd))) (za ze zd))) ze) zd)))) (zw qd (zj C_cell hr (by decide) zu (za (pv 0) (za ze zd))) ze)))
    (zh (zI (i:=2) nd rfl (Or.inl rfl) (zj C_nm hr (by decide) zu (za (zj C_cell hr (by decide) zu (za (pv 0) (za ze zd))) (za ze zd))))
    (zh (zI (i:=3) nd rfl (Or.inr rfl) (OA (j:=26) NB hr (by decide) zu))
    (zh (zI (i:=4) nd rfl (Or.inr rfl) VY)
    (zh (zI (i:=5) nd rfl (Or.inl rfl) (zY zd))
    (zh (uI PassesOwn.never rfl (yy (jv uW (pv 0) (jm ze) (jm ze))) (zS (i:=6) nd rfl (Or.inl rfl)) (zh (zI (i:=7) nd rfl (Or.inl rfl) (zj C_mx hr (by decide) zu (za (pv 6) (za ze zd))))
    (zh (zI (i:=8) nd rfl (Or.inl rfl) (zw qj (pv 1) (zw qd (zw qK (pv 7) ze) ze)))
    (zi (zT (zE qx (zw qd (pv 7) ze) ze (zD _)) (zh (gc hu (pv 4) (pv 8) (zj C_ru hr (by decide) zu (za (pv 6) (za (pv 2) (za ze zd)))) rfl)
    (zi (zT (zE mJ (vk M_put hr (by decide) zu (pv 3) (za (pv 8) (za ?comp_3 zd))) ON (zD _)) (zi (zp yP)) zC))) (zh (zI (i:=9) nd rfl (Or.inl rfl) (zw qd (zj C_mx hr (by decide) zu (za (pv 6) (za ze zd))) ze))
    (zh (qv (yE PySem.F.plainAttrs_list PySem.F.slot_list_append PySem.F.type_list_append j7 (pv 5) (za (qZ (za (zw qj (zw qJ ze (pv 8)) (pv 9)) (za (zj C_ba hr (by decide) zu (za (pv 6) (za (zw qj (pv 9) ze) zd))) zd))) zd)))
    (zi (zT (qD (qz (zj C_is hr (by decide) zu (za (pv 3) (za (pv 4) (za (zB zL (zB zK (pv 5) (uD j0 ze)) ze) (za (zB zL (zB zK (pv 5) (uD j0 ze)) ze) zd))))))) (zi (zp yP)) zC)))))))))
    (zh (zI (i:=10) nd rfl (Or.inl rfl) (zB zK (zY (za (uD j0 ze) (za ze (za yP (za ON (za zA (za (zY (za ze zd)) (za yP (za (qZ (za ze zd)) zd))))))))) (zw qd (zj C_cell hr (by decide) zu (za (pv 0) (za ze zd))) ze)))
    (zh (zT (zE J8 (zj C_td hr (by decide) zu (za (pv 3) (za (pv 10) (za (zY (za ze zd)) zd)))) (zY (za zA zd)) (zD _)) (zi (zp yP)) zC)
    (zi (zp (zt (vh rfl) rfl G.all vV (za ?comp_1 zd)))))))))))),?main⟩
  case comp_3 =>
   refine' qb (Nc:=["_law_rule_here"]) (cl:=[]) (src:=[none]) (wi:=vG K (Mh (zP 4) (zP 8))) (g:=zX 0) (tt:=qC) (te:=fun σ H Q=>qf (zP 0) q8 σ H fun vs H1=>wo 4 vs H1 Q E0)
    ⟨rfl,rfl,by decide +kernel,by decide +kernel,(fun x c z=>nomatch z),qu (by rfl),zQ qc,rfl⟩ rfl (yy (Ja hu (pv 4) (pv 8) (fun _ _=>rfl))) ?hb
   case hb =>
    intro fp C' s' H'
    exact⟨zS (i:=0) nc3 rfl (Or.inl rfl),qi,zj C_row hr (by decide) zu (za (pv 0) zd)⟩
  case comp_1 =>
   refine' qb (Nc:=["_law_month","_law_bases_here","_law_book","_law_own"]) (cl:=[("_law_own",s.heap.objs.size+2),("_law_book",s.heap.objs.size+1)]) (src:=[none,none,some 3,some 4]) (wi:=vG K (zP 5)) (g:=JT K 2 (jp (zX 0) (jp (zX 1) Jn))) (tt:=qC) (te:=fun σ H Q=>qf (zP 2) (qf (zP 3) (qf (zP 0) (qf (zP 1) q8))) σ H fun vs H1=>WJ C vs H1 Q E0)
    ⟨rfl,rfl,by decide +kernel,by decide +kernel,ja (Uc rfl (wG rfl)),qu (by rfl),zQ (zQ (qt ⟨_,rfl,rfl,rfl,rfl⟩ (qt ⟨_,rfl,rfl,rfl,rfl⟩ qc))),rfl⟩ rfl (yy (pv 5)) ?hb
   case hb =>
    intro fp C' s' H'
    exact⟨JF rfl (js (zS (i:=0) nc1 rfl (Or.inl rfl)) (js (zS (i:=1) nc1 rfl (Or.inl rfl)) Zd)),qi,zj C_is hr (by decide) zu (za (pv 2) (za (pv 3) (za (pv 0) (za (pv 1) zd))))⟩
  dsimp (config:={ proj:=false,iota:=false,beta:=false,eta:=false }) only [jd,j5]
  refine⟨_,rfl,a,0,ns,rfl,hs,by decide,_,1,rfl,fun m m0 m1=>⟨_,_,rfl,rfl,(by show (0:Int)<9990;decide),qa rfl,fun l0 H0 s0 n0 e0=>?_⟩⟩
  obtain⟨v,ev,mv⟩:=vq (xs:=[V.int 0,.int 9990,.int (m%9990)]) (i:=Qm ns 0%3) (b7 _ (by decide)) (Bg _ (by decide))
  obtain⟨fi,rfl,fi0,fi1⟩:∃ fi:Int,v = .int fi∧0≤fi∧fi≤9990:=by
   simp only[bN,bS,or_false] at mv
   rcases mv with rfl | rfl | rfl
   ·exact⟨_,rfl,by decide,by decide⟩
   ·exact⟨_,rfl,by decide,by decide⟩
   ·exact⟨_,rfl,by omega,by omega⟩
  refine⟨_,rfl,a,0,ns,rfl,s0.seq hs,by decide,_,_,rfl,rfl,(by show (0:Int)<3;decide),l0,_,_,_,rfl,rfl,z5.of e0,ev,?_⟩
  refine⟨_,rfl,a,1,ns,rfl,s0.seq hs,by decide,_,8,rfl,by decide,fun nms nl H1 nlen nok nnd s1 nl0 e1=>?_⟩
  have S1:=s0.trans s1
  refine fun B d0 B00 d00 dB0=>⟨B,d0,rfl,zm,fun t H2 t00 BK fr=>⟨rfl,?_⟩⟩
  have ups:zx H1 (upd (upd H1 d0 (.own B)) B (.ins C d0 [])):=fun b o hb=>by
   rw[zq (zF hb B00),zq (zF hb d00)]
   exact hb
  have s2:zx H1 H2:=fun b o hb=>fr b o (ups b o hb) (zF hb B00)
  have t01:H1 t=none:=ups.free t00
  clear ups fr t00 dB0 d00
  refine fun o H3 s3 o0 e3=>⟨qa rfl,fun al H4 s4 al0 e4=>?_⟩
  have S4:=S1.trans (s2.trans (s3.trans s4))
  refine⟨_,rfl,_,rfl,_,rfl,a,_,rfl,S4.seq hs,fun sl sl0=>?_⟩
  obtain⟨zs,hz,zl⟩:=nD ns
  rw[hz]
  have s5:zx H4 (upd H4 sl (.lst (zs.map V.int))):=zx.upd sl0
  have e5:(upd H4 sl (.lst (zs.map V.int))) sl=some (.lst (zs.map V.int)):=zm
  generalize upd H4 sl (.lst (zs.map V.int))=H5 at s5 e5
  obtain⟨ex,exh,exs'⟩:=MJ (S1.seq hs)
  have S25:zx H2 H5:=s3.trans (s4.trans s5)
  have ot:o≠t:=fun z=>by rw[z,BK.dic] at o0;cases o0
  have old:∀ b ox,H1 b=some ox→H5 b=some ox∧b≠t∧b≠o∧b≠al:=fun b ox h=>⟨S25 _ _ (s2 _ _ h),zF h t01,zF (s2 _ _ h) o0,zF (s3 _ _ (s2 _ _ h)) al0⟩
  have W5:Wk C B d0 t o al ((nl,.lst (nms.map V.str))::(sl,.lst (zs.map V.int))::ex) H5 [] [] [] []:=by
   refine⟨BK.fr fun b ox h=>S25 _ _ h,⟨s5 _ _ (s4 _ _ e3),cV,(fun e he=>nomatch he)⟩,rfl,s5 _ _ e4,rfl,(fun j v q h=>by cases h),(fun e he=>nomatch he),(fun e he=>nomatch he),fun q hq=>?_,ot⟩
   rcases bN.mp hq with rfl | hq
   ·exact old _ _ e1
   rcases bN.mp hq with rfl | hq
   ·exact⟨e5,(zF (s4 _ _ (s3 _ _ BK.dic)) sl0).symm,(zF (s4 _ _ e3) sl0).symm,(zF e4 sl0).symm⟩
   ·exact old _ _ (exh q hq)
  clear old S25 BK s2 s3 s4 s5 e3 e4 t01 o0 al0 sl0 e1 e0 s0 s1 S1 S4 B00 hz hs
  obtain⟨fx,hfx⟩:∃ fx:List (Addr × HO),fx=(nl,.lst (nms.map V.str))::(sl,.lst (zs.map V.int))::ex:=⟨_,rfl⟩
  rw[← hfx] at W5
  have fn:(nl,HO.lst (nms.map V.str))∈fx:=by rw[hfx];exact Bb
  have fs':(sl,HO.lst (zs.map V.int))∈fx:=by rw[hfx];exact Bk _ Bb
  have fe:∀ q∈ex,q∈fx:=fun q hq=>by rw[hfx];exact Bk _ (Bk _ hq)
  clear hfx
  refine⟨sl,rfl,⟨_,z5.of e5⟩,GV (K:=K) (a:=sl) (xs:=zs.map V.int) (fun i σ H'=>∃ x6 x7 x8 x9 es fs vs ds,σ = [some (.ref a),some (.int fi),some (.ref nl),some (.ref B),some (.ref o),some (.ref al),x6,x7,x8,x9,none]∧Wk C B d0 t o al fx H' es fs vs ds∧es.length≤i∧ds.length≤i) ⟨_,_,_,_,[],[],[],[],rfl,W5,bK _,bK _⟩ (fun i σ H' _ z=>?_) ?_ ?_⟩
  ·obtain⟨_,_,_,_,_,_,_,_,_,W,_⟩:=z
   exact z5.of (W.f _ fs').1
  ·rintro i x σ H6 hx ⟨x6,x7,x8,x9,es,fs,vs,ds,rfl,W6,el,dl⟩ E3 k3
   rw[bR] at hx
   obtain⟨c,hc,rfl⟩:=bX.mp hx
   have i8:i<8:=Bq (bU.mp hc).1 zl
   clear hc hx
   refine⟨_,rfl,c,6,rfl,fun m m0 m1=>?_⟩
   have y0:0≤m/3%10:=b7 _ (by decide)
   have y1:m/3%10<10:=Bg _ (by decide)
   refine⟨_,rfl,_,rfl,_,_,rfl,rfl,⟨by decide,by decide⟩,_,_,rfl,rfl,(by show (0:Int)<10;decide),_,_,rfl,rfl,?_⟩
   obtain⟨Y,hY,Y0,Y1⟩:∃ Y,fi+m/3%10=Y∧0≤Y∧Y≤9999:=⟨_,rfl,by omega,by omega⟩
   dsimp (config:={ proj:=false,iota:=false }) only
   rw[hY]
   refine⟨_,rfl,_,_,rfl,rfl,(by show (0:Int)<3;decide),rfl,_,rfl,yv (fun _=>?_) (fun _=>?_)⟩
   ·have nl6:=(W6.f _ fn).1
    refine⟨_,rfl,_,rfl,c,nl,nms,4,rfl,by decide,z5.of nl6,nlen,nok,nnd,fun l rs H7 ok s7 l0' r7=>?_⟩
    have W7:=W6.same s7
    refine⟨_,rfl,_,rfl,o,_,rfl,Gp.k (k:=Sum.inl Y) W7.ow.dic (by unfold jU;rw[bM,Oa W6.ey,sizeLine_eq];omega),?_⟩
    rw[Pq (a:=l) (rs:=rs)]
    have k8:∀ b ox,H7 b=some ox→b≠o→(upd H7 o (.dK (jU (j3 fs Y l rs)))) b=some ox:=fun b ox h n=>by rw[zq n];exact h
    have o8:(upd H7 o (.dK (jU (j3 fs Y l rs)))) o=some (.dK (jU (j3 fs Y l rs))):=zm
    generalize upd H7 o (.dK (jU (j3 fs Y l rs)))=H8 at k8 o8
    have B8:Xo C H8 B d0 t es:=⟨k8 _ _ W7.bk.ins (yp W7.bk.ins W7.ow.dic (by intro z;cases z)),k8 _ _ W7.bk.dic (Ne.symm W6.ot),W6.bk.nd,fun e he=>k8 _ _ (W7.bk.row e he) (yp (W7.bk.row e he) W7.ow.dic (by intro z;cases z)),W6.bk.ok⟩
    have ft8:FT H7 H8:=fun b cc h=>k8 _ _ h (yp h W7.ow.dic (by intro z;cases z))
    obtain⟨ys,hl8,T8⟩:=JP r7 ft8 fun xs h=>k8 _ _ h (yp h W7.ow.dic (by intro z;cases z))
    have few:=ok.few
    have me:((Y,l,rs):Be)∈j3 fs Y l rs:=by
     unfold j3
     cases qq:fs.any fun e=>decide (e.1=Y) with
     | true =>
      rw[if_pos rfl]
      obtain⟨e,he,z⟩:=List.any_eq_true.mp qq
      exact bZ.mpr ⟨e,he,by rw[if_pos (of_decide_eq_true z)]⟩
     | false =>
      rw[if_neg bV]
      exact Bt.mpr (.inr Bb)
    have gd:ZD H8 o (.int Y) (some (.ref l)):=by
     rw[← WB (JG W6.ow.nd) me]
     exact ZD.k (k:=Sum.inl Y) o8
    refine⟨_,rfl,B,d0,_,rfl,B8.ins,rfl,_,rfl,_,rfl,_,rfl,o,_,rfl,gd,l,rfl,⟨_,z5.of hl8⟩,fun D hD=>jn (qT (z5.of hl8)) T8 hD (by rw[sizeLine_eq];omega) (fun r=>V.str (j6 r)) (fun r hm v H9 R s9 rt9 k=>?_) (fun H9 s9 e9=>?_)⟩
    ·exact⟨_,rfl,_,r,rfl,rt9,ok.gd r hm,fun Ha sa=>k _ sa⟩
    have B9:=B8.fr fun b ox h=>s9 _ _ h
    refine⟨B,d0,t,D,es,Y,rs,rfl,B9,Y0,Y1,e9,ok,by omega,fun a4 Ha a40 Ba ka=>⟨rfl,_,rfl,qN ?_⟩⟩
    have al9:=s9 _ _ (k8 _ _ W7.al' (yp W7.al' W7.ow.dic (by intro z;cases z)))
    have pl:=Pd es Y a4 rs
    refine k3 _ _ ⟨_,_,_,_,_,_,vs,ds,rfl,W6.put s7 l0' r7 (fun b ox h n1 n2=>ka _ _ (s9 _ _ (k8 _ _ h n1)) n2) (ka _ _ (s9 _ _ o8) W6.ot) Ba (fun z=>by rw[z,al9] at a40;cases a40),by omega,by omega⟩
   ·have p0:0≤m:=m0
    refine⟨_,rfl,c,8,rfl,fun m' m0' m1'=>⟨_,_,rfl,rfl,(by show (0:Int)<12;decide),?_⟩⟩
    obtain⟨pl,hpl,pl12⟩:∃ pl:Nat,m'%12=(pl:Int)∧pl<12:=⟨(m'%12).toNat,by omega,by omega⟩
    dsimp (config:={ proj:=false,iota:=false }) only
    rw[hpl]
    refine⟨_,rfl,.inl ⟨rfl,_,z5.of W6.al'⟩,_,rfl,_,_,rfl,rfl,.inl ⟨by decide,by decide⟩,_,rfl,_,_,rfl,rfl,_,rfl,_,rfl,_,_,rfl,rfl,c,pl+1,rfl,by omega,fun bs b H7 bl bn s7 b0 e7=>⟨qa rfl,fun tp H8 s8 tp0 e8=>?_⟩⟩
    have s68:=s7.trans s8
    have W8:=W6.same s68
    have an:=W6.an
    refine⟨al,vs,_,rfl,rfl,W8.al',by rw[sizeLine_eq];omega,?_⟩
    have k9:∀ b ox,H8 b=some ox→b≠al→(upd H8 al (.lst (vs++[.ref tp]))) b=some ox:=fun b ox h n=>by rw[zq n];exact h
    have e9:(upd H8 al (.lst (vs++[.ref tp]))) al=some (.lst (vs++[.ref tp])):=zm
    generalize upd H8 al (.lst (vs++[.ref tp]))=H9 at k9 e9
    have ok:Pe (12*Y+(pl:Nat),bs):=⟨by show 0≤12*Y+(pl:Nat);omega,by show 12*Y+(pl:Nat)≤119999;omega,by show 1≤bs.length;omega,by show bs.length≤50;omega,bn⟩
    have W9:=W6.ask s68 b0 e8 (s8 _ _ e7) ok k9 e9
    have tp9:H9 tp=some (.tup [.int (12*Y+(pl:Nat)),.ref b]):=k9 _ _ e8 (yp e8 W8.al' (by intro z;cases z))
    have b9:H9 b=some (.lst (bs.map V.int)):=k9 _ _ (s8 _ _ e7) fun z=>by rw[z,W6.al'] at b0;cases b0
    have la:atI (vs++[V.ref tp]) (-1)=some (.ref tp):=ME _ _
    refine⟨_,rfl,_,rfl,_,rfl,_,rfl,al,_,_,_,rfl,rfl,z5.of e9,la,tp,_,_,_,rfl,rfl,qg.of tp9,rfl,_,rfl,_,rfl,al,_,_,_,rfl,rfl,z5.of e9,la,tp,_,_,_,rfl,rfl,qg.of tp9,rfl,B,d0,t,o,b,es,fs,_,bs,rfl,W9.bk,W9.ow,W9.ey,by omega,b9,ok.2.2.1,ok.2.2.2.1,bn,ok.1,ok.2.1,fun Ha sa=>⟨true,rfl,qN (k3 _ _ ⟨_,_,_,_,es,fs,_,_,rfl,W9.same sa,by omega,by rw[bP,Bu];omega⟩)⟩⟩
  ·rintro σ H6 ⟨x6,x7,x8,x9,es,fs,vs,ds,rfl,W6,el,dl⟩
   rw[bM] at el dl
   have sc:=exs' H6 fun q hq=>(W6.f q (fe q hq)).1
   refine⟨_,rfl,qa rfl,fun l7 H7 s7 n7 e7=>⟨qa rfl,fun t8 H8 s8 n8 e8=>⟨qa rfl,fun l9 H9 s9 n9 e9=>?_⟩⟩⟩
   obtain⟨v,ev,mv⟩:=vq (xs:=[V.int (-1),.int 120000,.bl true,.non,.str "2031-04",.ref l7,.bl false,.ref t8]) (i:=Qm ns 2%8) (b7 _ (by decide)) (Bg _ (by decide))
   have s69:=s7.trans (s8.trans s9)
   refine⟨_,rfl,a,2,ns,rfl,s69.seq sc,by decide,_,_,rfl,rfl,(by show (0:Int)<8;decide),l9,_,_,_,rfl,rfl,z5.of e9,ev,?_⟩
   have W9:=W6.same s69
   refine⟨_,rfl,_,rfl,qa rfl,fun la Ha sa na ea=>?_⟩
   have Wa:=W9.same sa
   have nv:Yu K Ha 119999 v:=RG (sa _ _ (s9 _ _ (s8 _ _ e7))) (sa _ _ (s9 _ _ e8)) mv
   refine⟨B,d0,t,la,es,v,[5],rfl,Wa.bk,by omega,z5.of ea,by decide,.inr ⟨nv,fun lb Hb sb eb=>⟨qa rfl,fun lc Hc sc' nc ec=>?_⟩⟩⟩
   have Wc:=Wa.same (sb.trans sc')
   refine⟨1,_,rfl,Is.flat (z5.of (sc' _ _ eb)) rfl,Is.flat (z5.of ec) rfl,un1,_,rfl,qN ?_⟩
   have an:=Wc.an
   have TA:qP Hc vs ds (fun H v q=>OU [al] H v q∧Pe q):=⟨an,fun i y e=>by
    have hi:i<ds.length:=by rw[← an];exact (bU.mp e).1
    exact⟨_,bO hi,fun H' s'=>⟨((Wc.ak i y _ e (bO hi)).1.fr (FT.same s') fun b xs h _=>s' _ _ h),(Wc.ak i y _ e (bO hi)).2⟩⟩⟩
   refine⟨_,rfl,al,rfl,⟨_,z5.of Wc.al'⟩,fun D hD=>o2 (P2:=fun H u1 u2 q=>u1 = .int q.1∧Pe q∧∃ b,u2 = .ref b∧H b=some (.lst (q.2.map V.int))) (qT (z5.of Wc.al')) TA (fun H v q h=>by
     obtain⟨⟨tt,b,e,h1,h2,_⟩,h3⟩:=h
     exact⟨tt,_,_,e,h1,rfl,h3,b,rfl,h2⟩) hD (by rw[sizeLine_eq];omega) (fun _=>.bl true) (fun qq hq u1 u2 Hd R sd h r=>?_) (fun Hd sd ed=>?_)⟩
   ·obtain⟨rfl,ok,b,rfl,hb⟩:=h
    have Wd:=Wc.same sd
    exact⟨_,rfl,_,rfl,_,rfl,_,rfl,B,d0,t,o,b,es,fs,_,qq.2,rfl,Wd.bk,Wd.ow,Wd.ey,by omega,hb,ok.2.2.1,ok.2.2.2.1,ok.2.2.2.2,ok.1,ok.2.1,fun He se=>r _ se⟩
   ·refine⟨D,ds.map fun _=>true,rfl,z5.of (by rw[b6];exact ed),?_⟩
    rw[Cc,show (ds.all (id ∘ fun _=>true))=true from Bp.mpr fun _ _=>rfl]
    exact q Hd
end
end K14
set_option maxHeartbeats 8000000
namespace K14
open PySem L2 Pg
theorem Mt {l:PySem.W.OpenLaw} {w:World} {K:PySem.W.Frag} {h:Heap} {mg:Str→Option Value} {fa:Addr} {c0 c1 c2 c3 c4 c5 c6 c7 c8 c9 c10 c11 c12 c13 c14 cR cRu cF cS cC cL cB cO cK:Addr} {t0 t1 t2 t3 t4 t5 t6 t7 t8 t9 t10 t11:Tok} {u0:Tok} {u1:Tok} (X:K.In h) (G:h.Ns mainGlobals mg) (hfa:mg "law" = some (.ref fa))
  (VH:qm K "is_number" (top 23))
  (uP:qm K "is_number_within" (top 24))
  (xJ:qm K "is_parts" (top 25))
  (pz:qm K "is_way" (top 26))
  (QX:qm K "need_amount" (top 27))
  (xM:qm K "need_way" (top 28))
  (ZF:qm K "half_goes_up" (top 29))
  (Gm:qm K "goes_up" (top 30))
  (gB:qm K "rounded" (top 31))
  (Wv:qm K "share_of" (top 32))
  (Vn:qm K "is_word_of" (top 37))
  (Gc:qm K "is_name" (top 38))
  (M4:qm K "rise" (top 39))
  (QR:qm K "are_figures" (top 41))
  (wT:qm K "is_number_text" (top 42))
  (QC:qm K "read_number" (top 43))
  (Jy:qm K "need_month" (top 48))
  (VP:qm K "need_year" (top 49))
  (gP:qm K "year_of" (top 50))
  (gJ:qm K "dues_of" (top 52))
  (UN:qm K "month_row" (top 53))
  (Zv:qm K "statement_by" (top 54))
  (Ui:qm K "statement" (top 55))
  (Zz:qm K "is_rule_name" (top 59))
  (wF:qm K "is_rule_amount" (top 60))
  (uJ:qm K "need_rule_amount" (top 61))
  (JM:qm K "need_share" (top 62))
  (uL:qm K "months_with_base" (top 63))
  (GM:qm K "is_band" (top 71))
  (Vu:qm K "are_bands" (top 72))
  (UJ:qm K "number_of" (top 79))
  (GX:qm K "band_of" (top 80))
  (WM:qm K "bands_of" (top 81))
  (JI:qm K "plain_rule" (top 82))
  (WW:qm K "is_ontop" (top 83))
  (yi:qm K "rule_of_words" (top 84))
  (GB:qm K "rule_of" (top 85))
  (xg:qm K "need_few" (top 88))
  (uA:qm K "need_unlike_names" (top 89))
  (Qa:qm K "_law_cell_at" (top 92))
  (Jo:qm K "_law_mixed" (top 93))
  (Vc:qm K "_law_whole" (top 94))
  (QM:qm K "_law_amount" (top 95))
  (Vh:qm K "_law_bases" (top 96))
  (Jt:qm K "_law_names" (top 97))
  (Jf:qm K "_law_parts" (top 98))
  (xk:qm K "_law_way" (top 99))
  (JX:qm K "_law_pairs" (top 100))
  (JH:qm K "_law_plain" (top 101))
  (Uq:qm K "_law_rule" (top 102))
  (Z5:qm K "_law_rounded" (top 103))
  (QT:qm K "_law_pieces" (top 104))
  (yO:qm K "_law_until" (top 105))
  (kI:qm K "_law_of_month" (top 106))
  (jP:qm K "_law_row" (top 107))
  (Vk:qm K "_law_rules" (top 108))
  (VD:qm K "_law_dues" (top 109))
  (Wu:qm K "_law_net" (top 110))
  (wa:qm K "_law_dues_right" (top 111))
  (UK:qm K "_law_word" (top 112))
  (VC:qm K "_law_told" (top 113))
  (kG:qm K "_law_is_right" (top 114))
  (rN:qm K "law" (top 115))
  (n0:PySem.W.nsIn K mainGlobals "BadAmount" = some (some (.ref c0)))
  (n1:PySem.W.nsIn K mainGlobals "BadShare" = some (some (.ref c1)))
  (n2:PySem.W.nsIn K mainGlobals "BadText" = some (some (.ref c2)))
  (n3:PySem.W.nsIn K mainGlobals "BadMonth" = some (some (.ref c3)))
  (n4:PySem.W.nsIn K mainGlobals "BadYear" = some (some (.ref c4)))
  (n5:PySem.W.nsIn K mainGlobals "BadRule" = some (some (.ref c5)))
  (n6:PySem.W.nsIn K mainGlobals "BadBook" = some (some (.ref c6)))
  (n7:PySem.W.nsIn K mainGlobals "NoYear" = some (some (.ref c7)))
  (n8:PySem.W.nsIn K mainGlobals "BadDay" = some (some (.ref c8)))
  (n9:PySem.W.nsIn K mainGlobals "BadEntry" = some (some (.ref c9)))
  (n10:PySem.W.nsIn K mainGlobals "NoMark" = some (some (.ref c10)))
  (n11:PySem.W.nsIn K mainGlobals "NoPerson" = some (some (.ref c11)))
  (n12:PySem.W.nsIn K mainGlobals "TooMany" = some (some (.ref c12)))
  (n13:PySem.W.nsIn K mainGlobals "BadClose" = some (some (.ref c13)))
  (n14:PySem.W.nsIn K mainGlobals "BadLine" = some (some (.ref c14)))
  (nR:PySem.W.nsIn K mainGlobals "RollError" = some (some (.ref cR)))
  (gc0:PySem.W.nsIn K mainGlobals "MOST_SIGNS" = some (some (.int 8 t0)))
  (gc1:PySem.W.nsIn K mainGlobals "MOST_PARTS" = some (some (.int 20000 t1)))
  (gc2:PySem.W.nsIn K mainGlobals "WHOLE" = some (some (.int 10000 t2)))
  (gc3:PySem.W.nsIn K mainGlobals "HALF" = some (some (.int 5000 t3)))
  (gc4:PySem.W.nsIn K mainGlobals "MOST_AMOUNT" = some (some (.int 1000000000000 t4)))
  (gc5:PySem.W.nsIn K mainGlobals "MOST_BANDS" = some (some (.int 12 t5)))
  (gc6:PySem.W.nsIn K mainGlobals "MOST_DEPTH" = some (some (.int 3 t6)))
  (gc7:PySem.W.nsIn K mainGlobals "MOST_FIGURES" = some (some (.int 13 t7)))
  (gc8:PySem.W.nsIn K mainGlobals "YEAR_MONTHS" = some (some (.int 12 t8)))
  (gc9:PySem.W.nsIn K mainGlobals "LAST_YEAR" = some (some (.int 9999 t9)))
  (My:PySem.W.nsIn K mainGlobals "LAST_MONTH" = some (some (.int 119999 t10)))
  (Mq:PySem.W.nsIn K mainGlobals "MOST_RULES" = some (some (.int 8 t11)))
  (s0:PySem.W.nsIn K mainGlobals "LETTERS" = some (some (.str "abcdefghijklmnopqrstuvwxyz" u0)))
  (s1:PySem.W.nsIn K mainGlobals "FIGURES" = some (some (.str "0123456789" u1)))
  (s2:Rv K "WAYS" ["down","up","near","even"])
  (s3:Rv K "NO_RULE_NAMES" ["base","net","month","sums"])
  (Vd:BnN K "isinstance")
  (rE:BnN K "int")
  (MX:BnN K "bool")
  (rK:BnN K "str")
  (rB:BnN K "len")
  (LN:BnN K "range")
  (Js:BnN K "ValueError")
  (M6:BnN K "list")
  (LH:BnN K "tuple")
  (Nj:BnN K "dict")
  (Rw:BnN K "set")
  (rF:BnN K "all")
  (rb:BnN K "any")
  (Rq:BnN K "sum")
  (P3:BnN K "sorted")
  (rT:BnN K "abs")
  (r9:BnN K "max")
  (RI:BnN K "min")
  (rC:BnN K "zip")
  (VI:BnN K "enumerate")
  (WR:BnN K "reversed")
  (x3:PySem.W.excIn K c3 Y4 "ValueError.__new__" = true)
  (e3:PySem.W.exmOne K (.ref c3) (.ref cR)=some true)
  (X3:XK.jQ K c3)
  (v3:PySem.W.kitOne K (.ref c3) (.type "ValueError")=some true)
  (Tr:PySem.W.kitOne K (.ref c3) (.ref c0)=some false)
  (tV:PySem.W.kitOne K (.ref c3) (.ref c1)=some false)
  (TN:PySem.W.kitOne K (.ref c3) (.ref c2)=some false)
  (TB:PySem.W.kitOne K (.ref c3) (.ref c3)=some true)
  (TW:PySem.W.kitOne K (.ref c3) (.ref c4)=some false)
  (TD:PySem.W.kitOne K (.ref c3) (.ref c5)=some false)
  (tS:PySem.W.kitOne K (.ref c3) (.ref c6)=some false)
  (tH:PySem.W.kitOne K (.ref c3) (.ref c7)=some false)
  (Ta:PySem.W.kitOne K (.ref c3) (.ref c8)=some false)
  (TY:PySem.W.kitOne K (.ref c3) (.ref c9)=some false)
  (RN:PySem.W.kitOne K (.ref c3) (.ref c10)=some false)
  (NP:PySem.W.kitOne K (.ref c3) (.ref c11)=some false)
  (NU:PySem.W.kitOne K (.ref c3) (.ref c12)=some false)
  (NO:PySem.W.kitOne K (.ref c3) (.ref c13)=some false)
  (Ro:PySem.W.kitOne K (.ref c3) (.ref c14)=some false)
  (x7:PySem.W.excIn K c7 Y4 "ValueError.__new__" = true)
  (e7:PySem.W.exmOne K (.ref c7) (.ref cR)=some true)
  (X7:XK.jQ K c7)
  (v7:PySem.W.kitOne K (.ref c7) (.type "ValueError")=some true)
  (TQ:PySem.W.kitOne K (.ref c7) (.ref c0)=some false)
  (Tj:PySem.W.kitOne K (.ref c7) (.ref c1)=some false)
  (Ti:PySem.W.kitOne K (.ref c7) (.ref c2)=some false)
  (Tg:PySem.W.kitOne K (.ref c7) (.ref c3)=some false)
  (Tx:PySem.W.kitOne K (.ref c7) (.ref c4)=some false)
  (tR:PySem.W.kitOne K (.ref c7) (.ref c5)=some false)
  (Ts:PySem.W.kitOne K (.ref c7) (.ref c6)=some false)
  (Th:PySem.W.kitOne K (.ref c7) (.ref c7)=some true)
  (TM:PySem.W.kitOne K (.ref c7) (.ref c8)=some false)
  (Tp:PySem.W.kitOne K (.ref c7) (.ref c9)=some false)
  (RF:PySem.W.kitOne K (.ref c7) (.ref c10)=some false)
  (r6:PySem.W.kitOne K (.ref c7) (.ref c11)=some false)
  (RA:PySem.W.kitOne K (.ref c7) (.ref c12)=some false)
  (Rn:PySem.W.kitOne K (.ref c7) (.ref c13)=some false)
  (NT:PySem.W.kitOne K (.ref c7) (.ref c14)=some false)
  (MZ:PySem.W.nsIn K mainGlobals "Rule" = some (some (.ref cRu)))
  (Lg:PySem.W.plainGet K cRu Str.empty=true)
  (mx:PySem.W.hasDictIn K cRu=true)
  (mf:PySem.W.plainOver K cRu=true)
  (mh:PySem.W.findIn K (.ref cRu) "__setattr__" = some (some (.builtin "object.__setattr__")))
  (kR:yf K cRu "__init__" "Rule.__init__" (zz (top 64) 0))
  (wQ:vc K cRu "__init__" = true)
  (MV:PySem.W.nsIn K mainGlobals "Flat" = some (some (.ref cF)))
  (L8:PySem.W.plainGet K cF Str.empty=true)
  (Lc:PySem.W.hasDictIn K cF=true)
  (lA:PySem.W.plainOver K cF=true)
  (LV:PySem.W.findIn K (.ref cF) "__setattr__" = some (some (.builtin "object.__setattr__")))
  (vZ:zU K cF "name")
  (QO:zU K cF "amount")
  (JZ:zU K cF "parts")
  (WI:zU K cF "way")
  (VA:zU K cF "most")
  (Ji:zU K cF "least")
  (kP:QE K cF "Flat.__init__" (zz (top 65) 0))
  (Jl:yf K cF "until" "Flat.until" (zz (top 65) 1))
  (V8:yf K cF "twin" "Flat.twin" (zz (top 65) 3))
  (Jm:yf K cF "depth" "Rule.depth" (zz (top 64) 4))
  (kE:yf K cF "of_month" "Rule.of_month" (zz (top 64) 5))
  (Wg:yf K cF "row" "Flat.row" (zz (top 65) 2))
  (Lh:PySem.W.nsIn K mainGlobals "Share" = some (some (.ref cS)))
  (pU:PySem.W.plainGet K cS Str.empty=true)
  (o7:PySem.W.hasDictIn K cS=true)
  (Oy:PySem.W.plainOver K cS=true)
  (Pw:PySem.W.findIn K (.ref cS) "__setattr__" = some (some (.builtin "object.__setattr__")))
  (vz:zU K cS "name")
  (ZP:zU K cS "amount")
  (Yb:zU K cS "parts")
  (VE:zU K cS "way")
  (JR:zU K cS "most")
  (QJ:zU K cS "least")
  (wP:QE K cS "Share.__init__" (zz (top 66) 0))
  (Yc:yf K cS "until" "Share.until" (zz (top 66) 1))
  (Jx:yf K cS "twin" "Share.twin" (zz (top 66) 3))
  (QW:yf K cS "depth" "Rule.depth" (zz (top 64) 4))
  (wR:yf K cS "of_month" "Rule.of_month" (zz (top 64) 5))
  (Ub:yf K cS "row" "Share.row" (zz (top 66) 2))
  (Of:PySem.W.nsIn K mainGlobals "Capped" = some (some (.ref cC)))
  (gy:PySem.W.plainGet K cC Str.empty=true)
  (Gh:PySem.W.hasDictIn K cC=true)
  (gO:PySem.W.plainOver K cC=true)
  (gU:PySem.W.findIn K (.ref cC) "__setattr__" = some (some (.builtin "object.__setattr__")))
  (j4:zU K cC "name")
  (kL:zU K cC "amount")
  (Z0:zU K cC "parts")
  (JQ:zU K cC "way")
  (QH:zU K cC "most")
  (ZL:zU K cC "least")
  (wu:QE K cC "Capped.__init__" (zz (top 67) 0))
  (ZX:yf K cC "until" "Capped.until" (zz (top 67) 1))
  (QQ:yf K cC "twin" "Capped.twin" (zz (top 67) 3))
  (Qe:yf K cC "depth" "Rule.depth" (zz (top 64) 4))
  (u9:yf K cC "of_month" "Rule.of_month" (zz (top 64) 5))
  (JV:yf K cC "row" "Capped.row" (zz (top 67) 2))
  (L9:PySem.W.nsIn K mainGlobals "Least" = some (some (.ref cL)))
  (oH:PySem.W.plainGet K cL Str.empty=true)
  (oq:PySem.W.hasDictIn K cL=true)
  (oS:PySem.W.plainOver K cL=true)
  (PH:PySem.W.findIn K (.ref cL) "__setattr__" = some (some (.builtin "object.__setattr__")))
  (vC:zU K cL "name")
  (Qy:zU K cL "amount")
  (QB:zU K cL "parts")
  (Us:zU K cL "way")
  (Jr:zU K cL "most")
  (QD:zU K cL "least")
  (wX:QE K cL "Least.__init__" (zz (top 68) 0))
  (Yg:yf K cL "until" "Least.until" (zz (top 68) 1))
  (Jb:yf K cL "twin" "Least.twin" (zz (top 68) 3))
  (Qz:yf K cL "depth" "Rule.depth" (zz (top 64) 4))
  (w9:yf K cL "of_month" "Rule.of_month" (zz (top 64) 5))
  (Vt:yf K cL "row" "Least.row" (zz (top 68) 2))
  (lG:PySem.W.nsIn K mainGlobals "Bands" = some (some (.ref cB)))
  (Oj:PySem.W.plainGet K cB Str.empty=true)
  (OP:PySem.W.hasDictIn K cB=true)
  (pW:PySem.W.plainOver K cB=true)
  (Pl:PySem.W.findIn K (.ref cB) "__setattr__" = some (some (.builtin "object.__setattr__")))
  (vx:zU K cB "name")
  (Yi:zU K cB "bands")
  (V3:zU K cB "way")
  (QG:zU K cB "parts")
  (ZV:zU K cB "within")
  (wY:QE K cB "Bands.__init__" (zz (top 73) 0))
  (QN:yf K cB "until" "Bands.until" (zz (top 73) 1))
  (Vo:yf K cB "twin" "Bands.twin" (zz (top 73) 3))
  (QY:yf K cB "depth" "Rule.depth" (zz (top 64) 4))
  (wy:yf K cB "of_month" "Rule.of_month" (zz (top 64) 5))
  (UO:yf K cB "row" "Bands.row" (zz (top 73) 2))
  (lW:PySem.W.nsIn K mainGlobals "OnTop" = some (some (.ref cO)))
  (oF:PySem.W.plainGet K cO Str.empty=true)
  (Ou:PySem.W.hasDictIn K cO=true)
  (pJ:PySem.W.plainOver K cO=true)
  (p6:PySem.W.findIn K (.ref cO) "__setattr__" = some (some (.builtin "object.__setattr__")))
  (vA:zU K cO "name")
  (Ye:zU K cO "bands")
  (VM:zU K cO "way")
  (QU:zU K cO "parts")
  (ZQ:zU K cO "within")
  (jc:QE K cO "OnTop.__init__" (zz (top 76) 0))
  (ji:yf K cO "until" "OnTop.until" (zz (top 76) 1))
  (vo:yf K cO "twin" "OnTop.twin" (zz (top 76) 3))
  (jj:yf K cO "depth" "OnTop.depth" (zz (top 76) 4))
  (wM:yf K cO "of_month" "Rule.of_month" (zz (top 64) 5))
  (jV:yf K cO "row" "OnTop.row" (zz (top 76) 2))
  (WL:PySem.W.nsIn K mainGlobals "RuleBook" = some (some (.ref cK)))
  (V1:PySem.W.plainGet K cK Str.empty=true)
  (UF:PySem.W.hasDictIn K cK=true)
  (V2:PySem.W.plainOver K cK=true)
  (V7:PySem.W.findIn K (.ref cK) "__setattr__" = some (some (.builtin "object.__setattr__")))
  (jA:zU K cK "told")
  (uy:QE K cK "RuleBook.__init__" (zz (top 90) 0))
  (ZB:yf K cK "put" "RuleBook.put" (zz (top 90) 1))
  (kH:yf K cK "rows" "RuleBook.rows" (zz (top 90) 2))
  (wZ:yf K cK "rules" "RuleBook.rules" (zz (top 90) 3))
  (ihn:PySem.W.specialIn K (.builtin "object.__class__") "__get__" = some (some (.builtin "getset_descriptor.__get__")))
  (itk:PySem.W.takesIn K (.builtin "object.__class__")=some true)
  (Tl:(!(Nat.beq cS cO))=true)
  (ia0:PySem.W.findIn K (.ref cF) "__class__" = some (some (.builtin "object.__class__")))
  (im0:PySem.W.mroIn K cF (.type "object")=some true)
  (ik0:PySem.W.kitOne K (.ref cF) (.ref cRu)=some true)
  (ia1:PySem.W.findIn K (.ref cS) "__class__" = some (some (.builtin "object.__class__")))
  (im1:PySem.W.mroIn K cS (.type "object")=some true)
  (ik1:PySem.W.kitOne K (.ref cS) (.ref cRu)=some true)
  (ia2:PySem.W.findIn K (.ref cC) "__class__" = some (some (.builtin "object.__class__")))
  (im2:PySem.W.mroIn K cC (.type "object")=some true)
  (ik2:PySem.W.kitOne K (.ref cC) (.ref cRu)=some true)
  (ia3:PySem.W.findIn K (.ref cL) "__class__" = some (some (.builtin "object.__class__")))
  (im3:PySem.W.mroIn K cL (.type "object")=some true)
  (ik3:PySem.W.kitOne K (.ref cL) (.ref cRu)=some true)
  (ia4:PySem.W.findIn K (.ref cB) "__class__" = some (some (.builtin "object.__class__")))
  (im4:PySem.W.mroIn K cB (.type "object")=some true)
  (ik4:PySem.W.kitOne K (.ref cB) (.ref cRu)=some true)
  (ia5:PySem.W.findIn K (.ref cO) "__class__" = some (some (.builtin "object.__class__")))
  (im5:PySem.W.mroIn K cO (.type "object")=some true)
  (ik5:PySem.W.kitOne K (.ref cO) (.ref cRu)=some true)
  : ∃ fd:FuncData,(∀ (s:Shared) (v:Value),BindsTo s fd ⟨[v],[]⟩ [("_law_script",v)])∧∀ base:Heap,K.In base→base.Ns mainGlobals mg→zJ l.prog w K mg base zO 28 fa fd ["_law_script"] (Zi K):=by
 obtain⟨d,rfl,rfl,rfl,rfl,rfl,rfl,rfl,rfl,rfl,rfl,rfl,rfl,rfl,rfl,rfl⟩:∃ d:Nat→Addr,d 0=c0∧d 1=c1∧d 2=c2∧d 3=c3∧d 4=c4∧d 5=c5∧d 6=c6∧d 7=c7∧d 8=c8∧d 9=c9∧d 10=c10∧d 11=c11∧d 12=c12∧d 13=c13∧d 14=c14:=⟨fun i=>[c0,c1,c2,c3,c4,c5,c6,c7,c8,c9,c10,c11,c12,c13,c14].getD i 0,rfl,rfl,rfl,rfl,rfl,rfl,rfl,rfl,rfl,rfl,rfl,rfl,rfl,rfl,rfl⟩
 obtain⟨fl,fdl,al,Fl⟩:=rN
 have e:=hfa.symm.trans (PySem.W.mg_of X G al)
 cases e
 have k3:Oh K d (d 3) 3:=⟨X3,v3,Tr,tV,TN,TB,TW,TD,tS,tH,Ta,TY,RN,NP,NU,NO,Ro⟩
 have k7:Oh K d (d 7) 7:=⟨X7,v7,TQ,Tj,Ti,Tg,Tx,tR,Ts,Th,TM,Tp,RF,r6,RA,Rn,NT⟩
 have Ni:ti K mg "WAYS" ["down","up","near","even"]:=s2.mg X G
 have kO:ti K mg "NO_RULE_NAMES" ["base","net","month","sums"]:=s3.mg X G
 have GL:jF mg:=⟨PySem.W.mg_none_of X G Vd,PySem.W.mg_none_of X G rE,PySem.W.mg_none_of X G MX,PySem.W.mg_none_of X G rK,PySem.W.mg_none_of X G rB,PySem.W.mg_none_of X G LN,PySem.W.mg_none_of X G Js,PySem.W.mg_none_of X G M6,PySem.W.mg_none_of X G LH,PySem.W.mg_none_of X G Nj,PySem.W.mg_none_of X G Rw,PySem.W.mg_none_of X G rF,PySem.W.mg_none_of X G rb,PySem.W.mg_none_of X G Rq,PySem.W.mg_none_of X G P3,PySem.W.mg_none_of X G rT,PySem.W.mg_none_of X G r9,PySem.W.mg_none_of X G RI,PySem.W.mg_none_of X G rC,PySem.W.mg_none_of X G VI,PySem.W.mg_none_of X G WR⟩
 have KD:bh mg d:=⟨PySem.W.mg_of X G n0,PySem.W.mg_of X G n1,PySem.W.mg_of X G n2,PySem.W.mg_of X G n3,PySem.W.mg_of X G n4,PySem.W.mg_of X G n5,PySem.W.mg_of X G n6,PySem.W.mg_of X G n7,PySem.W.mg_of X G n8,PySem.W.mg_of X G n9,PySem.W.mg_of X G n10,PySem.W.mg_of X G n11,PySem.W.mg_of X G n12,PySem.W.mg_of X G n13,PySem.W.mg_of X G n14⟩
 have mgR:mg "RollError" = some (.ref cR):=PySem.W.mg_of X G nR
 have ER3:Er K mg "BadMonth" (d 3):=⟨PySem.W.mg_of X G n3,x3⟩
 have RZ3:Rz K d cR 3:=⟨e3,k3⟩
 have ER7:Er K mg "NoYear" (d 7):=⟨PySem.W.mg_of X G n7,x7⟩
 have RZ7:Rz K d cR 7:=⟨e7,k7⟩
 have Vq:kF mg "MOST_SIGNS" 8:=⟨t0,PySem.W.mg_of X G gc0⟩
 have JS:kF mg "MOST_PARTS" 20000:=⟨t1,PySem.W.mg_of X G gc1⟩
 have mF:kF mg "WHOLE" 10000:=⟨t2,PySem.W.mg_of X G gc2⟩
 have Nl:kF mg "HALF" 5000:=⟨t3,PySem.W.mg_of X G gc3⟩
 have QF:kF mg "MOST_AMOUNT" 1000000000000:=⟨t4,PySem.W.mg_of X G gc4⟩
 have Y7:kF mg "MOST_BANDS" 12:=⟨t5,PySem.W.mg_of X G gc5⟩
 have ye:kF mg "MOST_DEPTH" 3:=⟨t6,PySem.W.mg_of X G gc6⟩
 have ZE:kF mg "MOST_FIGURES" 13:=⟨t7,PySem.W.mg_of X G gc7⟩
 have Q0:kF mg "YEAR_MONTHS" 12:=⟨t8,PySem.W.mg_of X G gc8⟩
 have VJ:kF mg "LAST_YEAR" 9999:=⟨t9,PySem.W.mg_of X G gc9⟩
 have Jh:kF mg "LAST_MONTH" 119999:=⟨t10,PySem.W.mg_of X G My⟩
 have JJ:kF mg "MOST_RULES" 8:=⟨t11,PySem.W.mg_of X G Mq⟩
 have GN:Pg.Txt mg "LETTERS" "abcdefghijklmnopqrstuvwxyz":=⟨_,PySem.W.mg_of X G s0⟩
 have gZ:Pg.Txt mg "FIGURES" "0123456789":=⟨_,PySem.W.mg_of X G s1⟩
 have bl:=Fl.binds (ps:=["_law_script"]) (fun _ _ _ _ _ _ us hl=>by obtain⟨a,rfl⟩:=zW hl;rfl)
 refine⟨fdl,fun s v=>?_,fun base _ _=>?_⟩
 ·obtain⟨oc,od,kV,doc,pm,an,cdv,ct,osl,rfl,lk,hcd⟩:=Fl.ex
  exact .of_eq rfl
 have tj:uT K cRu:=⟨Lg,mx,mf,mh⟩
 have Zc:mg "Rule" = some (.ref cRu):=PySem.W.mg_of X G MZ
 have jJ:uT K cF:=⟨L8,Lc,lA,LV⟩
 have m5:mg "Flat" = some (.ref cF):=PySem.W.mg_of X G MV
 have yZ:uT K cS:=⟨pU,o7,Oy,Pw⟩
 have oO:mg "Share" = some (.ref cS):=PySem.W.mg_of X G Lh
 have yx:uT K cC:=⟨gy,Gh,gO,gU⟩
 have GA:mg "Capped" = some (.ref cC):=PySem.W.mg_of X G Of
 have yX:uT K cL:=⟨oH,oq,oS,PH⟩
 have Oz:mg "Least" = some (.ref cL):=PySem.W.mg_of X G L9
 have yU:uT K cB:=⟨Oj,OP,pW,Pl⟩
 have OS:mg "Bands" = some (.ref cB):=PySem.W.mg_of X G lG
 have qw:uT K cO:=⟨oF,Ou,pJ,p6⟩
 have Qd:mg "OnTop" = some (.ref cO):=PySem.W.mg_of X G lW
 have yK:uT K cK:=⟨V1,UF,V2,V7⟩
 have VO:mg "RuleBook" = some (.ref cK):=PySem.W.mg_of X G WL
 obtain⟨Cs,rfl,rfl,rfl,rfl,rfl,rfl⟩:∃ Cs:Nat→Addr,Cs 0=cF∧Cs 1=cS∧Cs 2=cC∧Cs 3=cL∧Cs 4=cB∧Cs 5=cO:=⟨fun i=>[cF,cS,cC,cL,cB,cO].getD i 0,rfl,rfl,rfl,rfl,rfl,rfl⟩
 have RK:vM K Cs:=⟨Rb jJ yZ yx yX,Rb (R7 vZ QO JZ WI VA Ji) (R7 vz ZP Yb VE JR QJ) (R7 j4 kL Z0 JQ QH ZL) (R7 vC Qy QB Us Jr QD)⟩
 have RX4:Qg K (Cs 4):=⟨yU,rc vx Yi V3 QG ZV⟩
 have RX5:Qg K (Cs 5):=⟨qw,rc vA Ye VM QU ZQ⟩
 have RJ:Rf K Cs cRu:=⟨wV ia0 ia1 ia2 ia3 ia4 ia5,ihn,itk,wV im0 im1 im2 im3 im4 im5,wV ik0 ik1 ik2 ik3 ik4 ik5,wV jJ yZ yx yX yU qw,G5 Tl⟩
 have C1:=VH.cal (P:=l.prog) (w:=w) (base:=base) (ps:=["thing"]) X G (fun _ _ _ _ _ _ us hl=>by obtain⟨a,rfl⟩:=zW hl;rfl) fun f fd F=>Jk F GL
 have C2:=uP.cal (P:=l.prog) (w:=w) (base:=base) (ps:=["thing","least","most"]) X G (fun _ _ _ _ _ _ us hl=>by obtain⟨a,b,c,rfl⟩:=uC hl;rfl) fun f fd F=>GG F C1
 have C3:=xJ.cal (P:=l.prog) (w:=w) (base:=base) (ps:=["thing"]) X G (fun _ _ _ _ _ _ us hl=>by obtain⟨a,rfl⟩:=zW hl;rfl) fun f fd F=>Gg F JS C2
 have C4:=pz.cal (P:=l.prog) (w:=w) (base:=base) (ps:=["thing"]) X G (fun _ _ _ _ _ _ us hl=>by obtain⟨a,rfl⟩:=zW hl;rfl) fun f fd F=>L5 F GL Ni
 have C5:=QX.cal (P:=l.prog) (w:=w) (base:=base) (ps:=["thing"]) X G (fun _ _ _ _ _ _ us hl=>by obtain⟨a,rfl⟩:=zW hl;rfl) fun f fd F=>pH F C1
 have C6:=xM.cal (P:=l.prog) (w:=w) (base:=base) (ps:=["thing"]) X G (fun _ _ _ _ _ _ us hl=>by obtain⟨a,rfl⟩:=zW hl;rfl) fun f fd F=>GY F C4
 have C7:=ZF.cal (P:=l.prog) (w:=w) (base:=base) (ps:=["number","lesser","way"]) X G (fun _ _ _ _ _ _ us hl=>by obtain⟨a,b,c,rfl⟩:=uC hl;rfl) fun f fd F=>mT F
 have C8:=Gm.cal (P:=l.prog) (w:=w) (base:=base) (ps:=["number","lesser","rest","way"]) X G (fun _ _ _ _ _ _ us hl=>by obtain⟨a,b,c,d,rfl⟩:=XV hl;rfl) fun f fd F=>ma F Nl C7
 have C9:=gB.cal (P:=l.prog) (w:=w) (base:=base) (ps:=["number","way"]) X G (fun _ _ _ _ _ _ us hl=>by obtain⟨a,b,rfl⟩:=qh hl;rfl) fun f fd F=>m4 F mF C5 C6 C8
 have C10:=Wv.cal (P:=l.prog) (w:=w) (base:=base) (ps:=["amount","parts","way"]) X G (fun _ _ _ _ _ _ us hl=>by obtain⟨a,b,c,rfl⟩:=uC hl;rfl) fun f fd F=>gD F C5 C3 C9
 have C11:=Vn.cal (P:=l.prog) (w:=w) (base:=base) (ps:=["thing","signs"]) X G (fun _ _ _ _ _ _ us hl=>by obtain⟨a,b,rfl⟩:=qh hl;rfl) fun f fd F=>lF F GL Vq
 have C12:=Gc.cal (P:=l.prog) (w:=w) (base:=base) (ps:=["thing"]) X G (fun _ _ _ _ _ _ us hl=>by obtain⟨a,rfl⟩:=zW hl;rfl) fun f fd F=>lB F GN C11
 have C13:=Zz.cal (P:=l.prog) (w:=w) (base:=base) (ps:=["thing"]) X G (fun _ _ _ _ _ _ us hl=>by obtain⟨a,rfl⟩:=zW hl;rfl) fun f fd F=>gA F kO C12
 have C14:=wF.cal (P:=l.prog) (w:=w) (base:=base) (ps:=["thing"]) X G (fun _ _ _ _ _ _ us hl=>by obtain⟨a,rfl⟩:=zW hl;rfl) fun f fd F=>pE F QF C2
 have C15:=uJ.cal (P:=l.prog) (w:=w) (base:=base) (ps:=["thing"]) X G (fun _ _ _ _ _ _ us hl=>by obtain⟨a,rfl⟩:=zW hl;rfl) fun f fd F=>gC F C14
 have C16:=JM.cal (P:=l.prog) (w:=w) (base:=base) (ps:=["parts","way"]) X G (fun _ _ _ _ _ _ us hl=>by obtain⟨a,b,rfl⟩:=qh hl;rfl) fun f fd F=>gQ F C3 C4
 have C17:=uL.cal (P:=l.prog) (w:=w) (base:=base) (ps:=["bases"]) X G (fun _ _ _ _ _ _ us hl=>by obtain⟨a,rfl⟩:=zW hl;rfl) fun f fd F=>nE F GL
 have C18:=M4.cal (P:=l.prog) (w:=w) (base:=base) (ps:=["things"]) X G (fun _ _ _ _ _ _ us hl=>by obtain⟨a,rfl⟩:=zW hl;rfl) fun f fd F=>OZ F GL
 have C19:=GM.cal (P:=l.prog) (w:=w) (base:=base) (ps:=["thing"]) X G (fun _ _ _ _ _ _ us hl=>by obtain⟨a,rfl⟩:=zW hl;rfl) fun f fd F=>Ph F GL C14 C3
 have C20:=Vu.cal (P:=l.prog) (w:=w) (base:=base) (ps:=["thing"]) X G (fun _ _ _ _ _ _ us hl=>by obtain⟨a,rfl⟩:=zW hl;rfl) fun f fd F=>G1 F GL Y7 C19 C18
 have R0:=kR.calC (P:=l.prog) (w:=w) (mg:=mg) (base:=base) (ps:=["self","name"]) wQ Zc (fun _ _ _ _ _ _ us hl=>by obtain⟨a,b,rfl⟩:=qh hl;rfl) fun f fd F=>gx F C13
 have R1:=R0.imp (pF RK)
 have I0:=kP.cal (P:=l.prog) (w:=w) (mg:=mg) (base:=base) (ps:=["self","name","amount"]) m5 (fun _ _ _ _ _ _ us hl=>by obtain⟨a,b,c,rfl⟩:=uC hl;rfl) fun f fd F=>GR F RK R1 C15
 have I1:=wP.cal (P:=l.prog) (w:=w) (mg:=mg) (base:=base) (ps:=["self","name","parts","way"]) oO (fun _ _ _ _ _ _ us hl=>by obtain⟨a,b,c,d,rfl⟩:=XV hl;rfl) fun f fd F=>Gv F RK R1 C16
 have I2:=wu.cal (P:=l.prog) (w:=w) (mg:=mg) (base:=base) (ps:=["self","name","parts","most","way"]) GA (fun _ _ _ _ _ _ us hl=>by obtain⟨a,b,c,d,e,rfl⟩:=VZ hl;rfl) fun f fd F=>gS F RK R1 C16 C15
 have I3:=wX.cal (P:=l.prog) (w:=w) (mg:=mg) (base:=base) (ps:=["self","name","parts","least","way"]) Oz (fun _ _ _ _ _ _ us hl=>by obtain⟨a,b,c,d,e,rfl⟩:=VZ hl;rfl) fun f fd F=>GD F RK R1 C16 C15
 have I4:=wY.cal (P:=l.prog) (w:=w) (mg:=mg) (base:=base) (ps:=["self","name","rows","way"]) OS (fun _ _ _ _ _ _ us hl=>by obtain⟨a,b,c,d,rfl⟩:=XV hl;rfl) fun f fd F=>pO F GL RX4 R0 C20 C4
 have E0:=Jm.cal (P:=l.prog) (w:=w) (mg:=mg) (base:=base) (ps:=["self"]) jJ (fun _ _ _ _ _ _ us hl=>by obtain⟨a,rfl⟩:=zW hl;rfl) fun f fd F=>wk (Cs:=Cs) (d:=3) (k:=0) (by decide) F
 have E1:=QW.cal (P:=l.prog) (w:=w) (mg:=mg) (base:=base) (ps:=["self"]) yZ (fun _ _ _ _ _ _ us hl=>by obtain⟨a,rfl⟩:=zW hl;rfl) fun f fd F=>wk (Cs:=Cs) (d:=3) (k:=1) (by decide) F
 have E2:=Qe.cal (P:=l.prog) (w:=w) (mg:=mg) (base:=base) (ps:=["self"]) yx (fun _ _ _ _ _ _ us hl=>by obtain⟨a,rfl⟩:=zW hl;rfl) fun f fd F=>wk (Cs:=Cs) (d:=3) (k:=2) (by decide) F
 have E3:=Qz.cal (P:=l.prog) (w:=w) (mg:=mg) (base:=base) (ps:=["self"]) yX (fun _ _ _ _ _ _ us hl=>by obtain⟨a,rfl⟩:=zW hl;rfl) fun f fd F=>wk (Cs:=Cs) (d:=3) (k:=3) (by decide) F
 have E4:=QY.cal (P:=l.prog) (w:=w) (mg:=mg) (base:=base) (ps:=["self"]) yU (fun _ _ _ _ _ _ us hl=>by obtain⟨a,rfl⟩:=zW hl;rfl) fun f fd F=>wk (Cs:=Cs) (d:=3) (k:=4) (by decide) F
 have E50:=jj.cal (P:=l.prog) (w:=w) (mg:=mg) (base:=base) (ps:=["self"]) qw (fun _ _ _ _ _ _ us hl=>by obtain⟨a,rfl⟩:=zW hl;rfl) fun f fd F=>Pf (Cs:=Cs) (j:=1)
 have ME0:=G8 E0 E1 E2 E3 E4 (d:=0) (by decide) (by decide) E50
 have E51:=jj.cal (P:=l.prog) (w:=w) (mg:=mg) (base:=base) (ps:=["self"]) qw (fun _ _ _ _ _ _ us hl=>by obtain⟨a,rfl⟩:=zW hl;rfl) fun f fd F=>Y8 F RX5 ME0
 have ME1:=G8 E0 E1 E2 E3 E4 (d:=1) (by decide) (by decide) E51
 have E52:=jj.cal (P:=l.prog) (w:=w) (mg:=mg) (base:=base) (ps:=["self"]) qw (fun _ _ _ _ _ _ us hl=>by obtain⟨a,rfl⟩:=zW hl;rfl) fun f fd F=>Y8 F RX5 ME1
 have ME2:=G8 E0 E1 E2 E3 E4 (d:=2) (by decide) (by decide) E52
 have E53:=jj.cal (P:=l.prog) (w:=w) (mg:=mg) (base:=base) (ps:=["self"]) qw (fun _ _ _ _ _ _ us hl=>by obtain⟨a,rfl⟩:=zW hl;rfl) fun f fd F=>Y8 F RX5 ME2
 have T0:=V8.cal (P:=l.prog) (w:=w) (mg:=mg) (base:=base) (ps:=["self"]) jJ (fun _ _ _ _ _ _ us hl=>by obtain⟨a,rfl⟩:=zW hl;rfl) fun f fd F=>O7 (d:=3) F RK I0
 have T1:=Jx.cal (P:=l.prog) (w:=w) (mg:=mg) (base:=base) (ps:=["self"]) yZ (fun _ _ _ _ _ _ us hl=>by obtain⟨a,rfl⟩:=zW hl;rfl) fun f fd F=>PN (d:=3) F RK I1
 have T2:=QQ.cal (P:=l.prog) (w:=w) (mg:=mg) (base:=base) (ps:=["self"]) yx (fun _ _ _ _ _ _ us hl=>by obtain⟨a,rfl⟩:=zW hl;rfl) fun f fd F=>PL (d:=3) F RK I2
 have T3:=Jb.cal (P:=l.prog) (w:=w) (mg:=mg) (base:=base) (ps:=["self"]) yX (fun _ _ _ _ _ _ us hl=>by obtain⟨a,rfl⟩:=zW hl;rfl) fun f fd F=>Pm (d:=3) F RK I3
 have T4:=Vo.cal (P:=l.prog) (w:=w) (mg:=mg) (base:=base) (ps:=["self"]) yU (fun _ _ _ _ _ _ us hl=>by obtain⟨a,rfl⟩:=zW hl;rfl) fun f fd F=>Og (d:=3) F RX4 I4
 have T50:=vo.cal (P:=l.prog) (w:=w) (mg:=mg) (base:=base) (ps:=["self"]) qw (fun _ _ _ _ _ _ us hl=>by obtain⟨a,rfl⟩:=zW hl;rfl) fun f fd F=>Gf (Cs:=Cs) (j:=8)
 have MT0:=OM T0 T1 T2 T3 T4 (d:=0) (by decide) (by decide) T50
 have I50:=jc.cal (P:=l.prog) (w:=w) (mg:=mg) (base:=base) (ps:=["self","name","parts","way","rule"]) Qd (fun _ _ _ _ _ _ us hl=>by obtain⟨a,b,c,d,e,rfl⟩:=VZ hl;rfl) fun f fd F=>Qv F GL RX5 RJ Zc ye (by decide) (by decide) R0 C16 MT0 (E51.mono (by decide))
 have T51:=vo.cal (P:=l.prog) (w:=w) (mg:=mg) (base:=base) (ps:=["self"]) qw (fun _ _ _ _ _ _ us hl=>by obtain⟨a,rfl⟩:=zW hl;rfl) fun f fd F=>Uo F RX5 I50
 have MT1:=OM T0 T1 T2 T3 T4 (d:=1) (by decide) (by decide) T51
 have I51:=jc.cal (P:=l.prog) (w:=w) (mg:=mg) (base:=base) (ps:=["self","name","parts","way","rule"]) Qd (fun _ _ _ _ _ _ us hl=>by obtain⟨a,b,c,d,e,rfl⟩:=VZ hl;rfl) fun f fd F=>Qv F GL RX5 RJ Zc ye (by decide) (by decide) R0 C16 MT1 (E52.mono (by decide))
 have T52:=vo.cal (P:=l.prog) (w:=w) (mg:=mg) (base:=base) (ps:=["self"]) qw (fun _ _ _ _ _ _ us hl=>by obtain⟨a,rfl⟩:=zW hl;rfl) fun f fd F=>Uo F RX5 I51
 have MT2:=OM T0 T1 T2 T3 T4 (d:=2) (by decide) (by decide) T52
 have I52:=jc.cal (P:=l.prog) (w:=w) (mg:=mg) (base:=base) (ps:=["self","name","parts","way","rule"]) Qd (fun _ _ _ _ _ _ us hl=>by obtain⟨a,b,c,d,e,rfl⟩:=VZ hl;rfl) fun f fd F=>Qv F GL RX5 RJ Zc ye (by decide) (by decide) R0 C16 MT2 (E53.mono (by decide))
 have I5:=I52.mono (k:=16) (by decide)
 have U0:=Jl.cal (P:=l.prog) (w:=w) (mg:=mg) (base:=base) (ps:=["self","bases"]) jJ (fun _ _ _ _ _ _ us hl=>by obtain⟨a,b,rfl⟩:=qh hl;rfl) fun f fd F=>mH F RK C17
 have U1:=Yc.cal (P:=l.prog) (w:=w) (mg:=mg) (base:=base) (ps:=["self","bases"]) yZ (fun _ _ _ _ _ _ us hl=>by obtain⟨a,b,rfl⟩:=qh hl;rfl) fun f fd F=>L4 F GL RK C10
 have U2:=ZX.cal (P:=l.prog) (w:=w) (mg:=mg) (base:=base) (ps:=["self","bases"]) yx (fun _ _ _ _ _ _ us hl=>by obtain⟨a,b,rfl⟩:=qh hl;rfl) fun f fd F=>Lo F GL RK C10
 have U3:=Yg.cal (P:=l.prog) (w:=w) (mg:=mg) (base:=base) (ps:=["self","bases"]) yX (fun _ _ _ _ _ _ us hl=>by obtain⟨a,b,rfl⟩:=qh hl;rfl) fun f fd F=>mG F GL RK C10 C17
 have U4:=QN.cal (P:=l.prog) (w:=w) (mg:=mg) (base:=base) (ps:=["self","bases"]) yU (fun _ _ _ _ _ _ us hl=>by obtain⟨a,b,rfl⟩:=qh hl;rfl) fun f fd F=>lQ (d:=3) F GL RX4 C9
 have U50:=ji.cal (P:=l.prog) (w:=w) (mg:=mg) (base:=base) (ps:=["self","bases"]) qw (fun _ _ _ _ _ _ us hl=>by obtain⟨a,b,rfl⟩:=qh hl;rfl) fun f fd F=>oG (Cs:=Cs) (j:=5)
 have MU0:=XU U0 U1 U2 U3 U4 (d:=0) (by decide) (by decide) U50
 have U51:=ji.cal (P:=l.prog) (w:=w) (mg:=mg) (base:=base) (ps:=["self","bases"]) qw (fun _ _ _ _ _ _ us hl=>by obtain⟨a,b,rfl⟩:=qh hl;rfl) fun f fd F=>Jd F RX5 (by decide) MU0 C10
 have MU1:=XU U0 U1 U2 U3 U4 (d:=1) (by decide) (by decide) U51
 have U52:=ji.cal (P:=l.prog) (w:=w) (mg:=mg) (base:=base) (ps:=["self","bases"]) qw (fun _ _ _ _ _ _ us hl=>by obtain⟨a,b,rfl⟩:=qh hl;rfl) fun f fd F=>Jd F RX5 (by decide) MU1 C10
 have MU2:=XU U0 U1 U2 U3 U4 (d:=2) (by decide) (by decide) U52
 have U53:=ji.cal (P:=l.prog) (w:=w) (mg:=mg) (base:=base) (ps:=["self","bases"]) qw (fun _ _ _ _ _ _ us hl=>by obtain⟨a,b,rfl⟩:=qh hl;rfl) fun f fd F=>Jd F RX5 (by decide) MU2 C10
 have MU:=XU U0 U1 U2 U3 U4 (d:=3) (j:=10) (by decide) (by decide) (U53.mono (by decide))
 have O0:=kE.cal (P:=l.prog) (w:=w) (mg:=mg) (base:=base) (ps:=["self","bases"]) jJ (fun _ _ _ _ _ _ us hl=>by obtain⟨a,b,rfl⟩:=qh hl;rfl) fun f fd F=>uv F (MU 0 (by decide))
 have O1:=wR.cal (P:=l.prog) (w:=w) (mg:=mg) (base:=base) (ps:=["self","bases"]) yZ (fun _ _ _ _ _ _ us hl=>by obtain⟨a,b,rfl⟩:=qh hl;rfl) fun f fd F=>uv F (MU 1 (by decide))
 have O2:=u9.cal (P:=l.prog) (w:=w) (mg:=mg) (base:=base) (ps:=["self","bases"]) yx (fun _ _ _ _ _ _ us hl=>by obtain⟨a,b,rfl⟩:=qh hl;rfl) fun f fd F=>uv F (MU 2 (by decide))
 have O3:=w9.cal (P:=l.prog) (w:=w) (mg:=mg) (base:=base) (ps:=["self","bases"]) yX (fun _ _ _ _ _ _ us hl=>by obtain⟨a,b,rfl⟩:=qh hl;rfl) fun f fd F=>uv F (MU 3 (by decide))
 have O4:=wy.cal (P:=l.prog) (w:=w) (mg:=mg) (base:=base) (ps:=["self","bases"]) yU (fun _ _ _ _ _ _ us hl=>by obtain⟨a,b,rfl⟩:=qh hl;rfl) fun f fd F=>uv F (MU 4 (by decide))
 have O5:=wM.cal (P:=l.prog) (w:=w) (mg:=mg) (base:=base) (ps:=["self","bases"]) qw (fun _ _ _ _ _ _ us hl=>by obtain⟨a,b,rfl⟩:=qh hl;rfl) fun f fd F=>uv F (MU 5 (by decide))
 have Q1:=QR.cal (P:=l.prog) (w:=w) (base:=base) (ps:=["text"]) X G (fun _ _ _ _ _ _ us hl=>by obtain⟨a,rfl⟩:=zW hl;rfl) fun f fd F=>Qn F GL gZ
 have Q2:=wT.cal (P:=l.prog) (w:=w) (base:=base) (ps:=["text"]) X G (fun _ _ _ _ _ _ us hl=>by obtain⟨a,rfl⟩:=zW hl;rfl) fun f fd F=>mw F Q1
 have Q3:=QC.cal (P:=l.prog) (w:=w) (base:=base) (ps:=["text","most_figures"]) X G (fun _ _ _ _ _ _ us hl=>by obtain⟨a,b,rfl⟩:=qh hl;rfl) fun f fd F=>PQ F GL Q2
 have Q4:=UJ.cal (P:=l.prog) (w:=w) (base:=base) (ps:=["word"]) X G (fun _ _ _ _ _ _ us hl=>by obtain⟨a,rfl⟩:=zW hl;rfl) fun f fd F=>OQ F ZE Q3
 have Q5:=GX.cal (P:=l.prog) (w:=w) (base:=base) (ps:=["text"]) X G (fun _ _ _ _ _ _ us hl=>by obtain⟨a,rfl⟩:=zW hl;rfl) fun f fd F=>Gz F GL Q4
 have Q6:=WM.cal (P:=l.prog) (w:=w) (base:=base) (ps:=["word"]) X G (fun _ _ _ _ _ _ us hl=>by obtain⟨a,rfl⟩:=zW hl;rfl) fun f fd F=>WF F GL Q5
 have Q7:=JI.cal (P:=l.prog) (w:=w) (base:=base) (ps:=["words"]) X G (fun _ _ _ _ _ _ us hl=>by obtain⟨a,rfl⟩:=zW hl;rfl) fun f fd F=>gE F GL Q4 Q6 I0 I1 I2 I3 I4
 have Q8:=WW.cal (P:=l.prog) (w:=w) (base:=base) (ps:=["words"]) X G (fun _ _ _ _ _ _ us hl=>by obtain⟨a,rfl⟩:=zW hl;rfl) fun f fd F=>mZ F GL
 have W0:=yi.cal (P:=l.prog) (w:=w) (base:=base) (ps:=["words","depth"]) X G (fun _ _ _ _ _ _ us hl=>by obtain⟨a,b,rfl⟩:=qh hl;rfl) fun f fd F=>G0 (Cs:=Cs) (j:=18)
 have W1:=yi.cal (P:=l.prog) (w:=w) (base:=base) (ps:=["words","depth"]) X G (fun _ _ _ _ _ _ us hl=>by obtain⟨a,b,rfl⟩:=qh hl;rfl) fun f fd F=>uX (by decide) F ye Q8 Q7 Q4 W0 I5
 have W2:=yi.cal (P:=l.prog) (w:=w) (base:=base) (ps:=["words","depth"]) X G (fun _ _ _ _ _ _ us hl=>by obtain⟨a,b,rfl⟩:=qh hl;rfl) fun f fd F=>uX (by decide) F ye Q8 Q7 Q4 W1 I5
 have W3:=yi.cal (P:=l.prog) (w:=w) (base:=base) (ps:=["words","depth"]) X G (fun _ _ _ _ _ _ us hl=>by obtain⟨a,b,rfl⟩:=qh hl;rfl) fun f fd F=>uX (by decide) F ye Q8 Q7 Q4 W2 I5
 have W4:=yi.cal (P:=l.prog) (w:=w) (base:=base) (ps:=["words","depth"]) X G (fun _ _ _ _ _ _ us hl=>by obtain⟨a,b,rfl⟩:=qh hl;rfl) fun f fd F=>uX (by decide) F ye Q8 Q7 Q4 W3 I5
 have pM:=GB.cal (P:=l.prog) (w:=w) (base:=base) (ps:=["text"]) X G (fun _ _ _ _ _ _ us hl=>by obtain⟨a,rfl⟩:=zW hl;rfl) fun f fd F=>gN F GL W4
 have RW0:=Wg.cal (P:=l.prog) (w:=w) (mg:=mg) (base:=base) (ps:=["self"]) jJ (fun _ _ _ _ _ _ us hl=>by obtain⟨a,rfl⟩:=zW hl;rfl) fun f fd F=>lI F GL RK
 have RW1:=Ub.cal (P:=l.prog) (w:=w) (mg:=mg) (base:=base) (ps:=["self"]) yZ (fun _ _ _ _ _ _ us hl=>by obtain⟨a,rfl⟩:=zW hl;rfl) fun f fd F=>L6 F GL RK
 have RW2:=JV.cal (P:=l.prog) (w:=w) (mg:=mg) (base:=base) (ps:=["self"]) yx (fun _ _ _ _ _ _ us hl=>by obtain⟨a,rfl⟩:=zW hl;rfl) fun f fd F=>Lu F GL RK
 have RW3:=Vt.cal (P:=l.prog) (w:=w) (mg:=mg) (base:=base) (ps:=["self"]) yX (fun _ _ _ _ _ _ us hl=>by obtain⟨a,rfl⟩:=zW hl;rfl) fun f fd F=>mn F GL RK
 have RW4:=UO.cal (P:=l.prog) (w:=w) (mg:=mg) (base:=base) (ps:=["self"]) yU (fun _ _ _ _ _ _ us hl=>by obtain⟨a,rfl⟩:=zW hl;rfl) fun f fd F=>lx (d:=3) F GL RX4
 have Tf:=jV.cal (P:=l.prog) (w:=w) (mg:=mg) (base:=base) (ps:=["self"]) qw (fun _ _ _ _ _ _ us hl=>by obtain⟨a,rfl⟩:=zW hl;rfl) fun f fd F=>oK (Cs:=Cs) (j:=1)
 have MR0:=X2 RW0 RW1 RW2 RW3 RW4 (d:=0) (by decide) (by decide) Tf
 have tI:=jV.cal (P:=l.prog) (w:=w) (mg:=mg) (base:=base) (ps:=["self"]) qw (fun _ _ _ _ _ _ us hl=>by obtain⟨a,rfl⟩:=zW hl;rfl) fun f fd F=>JL (by decide) F GL RX5 MR0
 have MR1:=X2 RW0 RW1 RW2 RW3 RW4 (d:=1) (by decide) (by decide) tI
 have Tq:=jV.cal (P:=l.prog) (w:=w) (mg:=mg) (base:=base) (ps:=["self"]) qw (fun _ _ _ _ _ _ us hl=>by obtain⟨a,rfl⟩:=zW hl;rfl) fun f fd F=>JL (by decide) F GL RX5 MR1
 have MR2:=X2 RW0 RW1 RW2 RW3 RW4 (d:=2) (by decide) (by decide) Tq
 have TU:=jV.cal (P:=l.prog) (w:=w) (mg:=mg) (base:=base) (ps:=["self"]) qw (fun _ _ _ _ _ _ us hl=>by obtain⟨a,rfl⟩:=zW hl;rfl) fun f fd F=>JL (by decide) F GL RX5 MR2
 have MR:=X2 RW0 RW1 RW2 RW3 RW4 (d:=3) (j:=4) (by decide) (by decide) TU
 have Nm:=Jy.cal (P:=l.prog) (w:=w) (base:=base) (ps:=["thing"]) X G (fun _ _ _ _ _ _ us hl=>by obtain⟨a,rfl⟩:=zW hl;rfl) fun f fd F=>QK F ER3 Jh C2
 have Yo:=gP.cal (P:=l.prog) (w:=w) (base:=base) (ps:=["month"]) X G (fun _ _ _ _ _ _ us hl=>by obtain⟨a,rfl⟩:=zW hl;rfl) fun f fd F=>xh F Q0 Nm
 have Ny:=VP.cal (P:=l.prog) (w:=w) (base:=base) (ps:=["thing"]) X G (fun _ _ _ _ _ _ us hl=>by obtain⟨a,rfl⟩:=zW hl;rfl) fun f fd F=>pB F VJ C2
 have Fw:=xg.cal (P:=l.prog) (w:=w) (base:=base) (ps:=["thing"]) X G (fun _ _ _ _ _ _ us hl=>by obtain⟨a,rfl⟩:=zW hl;rfl) fun f fd F=>Lk F GL JJ
 have Un:=uA.cal (P:=l.prog) (w:=w) (base:=base) (ps:=["rules"]) X G (fun _ _ _ _ _ _ us hl=>by obtain⟨a,rfl⟩:=zW hl;rfl) fun f fd F=>gq F GL (wV jJ yZ yx yX yU qw) (wV vZ vz j4 vC vx vA)
 have B_i:=uy.cal (P:=l.prog) (w:=w) (mg:=mg) (base:=base) (ps:=["self"]) VO (fun _ _ _ _ _ _ us hl=>by obtain⟨a,rfl⟩:=zW hl;rfl) fun f fd F=>PF F yK jA
 have B_p:=ZB.cal (P:=l.prog) (w:=w) (mg:=mg) (base:=base) (ps:=["self","year","rows"]) yK (fun _ _ _ _ _ _ us hl=>by obtain⟨a,b,c,rfl⟩:=uC hl;rfl) fun f fd F=>Lq (by decide) F GL yK jA Ny Fw pM Un MR
 have B_r:=kH.cal (P:=l.prog) (w:=w) (mg:=mg) (base:=base) (ps:=["self","year"]) yK (fun _ _ _ _ _ _ us hl=>by obtain⟨a,b,rfl⟩:=qh hl;rfl) fun f fd F=>Po F GL ER7 yK jA Ny
 have B_l:=wZ.cal (P:=l.prog) (w:=w) (mg:=mg) (base:=base) (ps:=["self","year"]) yK (fun _ _ _ _ _ _ us hl=>by obtain⟨a,b,rfl⟩:=qh hl;rfl) fun f fd F=>GK (by decide) F B_r pM
 have Du:=gJ.cal (P:=l.prog) (w:=w) (base:=base) (ps:=["rules","bases"]) X G (fun _ _ _ _ _ _ us hl=>by obtain⟨a,b,rfl⟩:=qh hl;rfl) fun f fd F=>pA F GL (wV jJ yZ yx yX yU qw) (wV vZ vz j4 vC vx vA) (wV O0 O1 O2 O3 O4 O5)
 have Mr:=UN.cal (P:=l.prog) (w:=w) (base:=base) (ps:=["rules","bases"]) X G (fun _ _ _ _ _ _ us hl=>by obtain⟨a,b,rfl⟩:=qh hl;rfl) fun f fd F=>lZ F GL Du
 have Sb:=Zv.cal (P:=l.prog) (w:=w) (base:=base) (ps:=["rules","month","bases"]) X G (fun _ _ _ _ _ _ us hl=>by obtain⟨a,b,c,rfl⟩:=uC hl;rfl) fun f fd F=>mI F Mr
 have StB:=Sb.mono (k:=24) (by decide)
 have St:=Ui.cal (P:=l.prog) (w:=w) (base:=base) (ps:=["book","month","bases"]) X G (fun _ _ _ _ _ _ us hl=>by obtain⟨a,b,c,rfl⟩:=uC hl;rfl) fun f fd F=>LG (by decide) F B_l Yo StB
 have D1:=Qa.cal (P:=l.prog) (w:=w) (base:=base) (ps:=["_law_script","_law_k"]) X G (fun _ _ _ _ _ _ us hl=>by obtain⟨a,b,rfl⟩:=qh hl;rfl) fun f fd F=>xF F GL
 have D2:=Jo.cal (P:=l.prog) (w:=w) (base:=base) (ps:=["_law_cell","_law_k"]) X G (fun _ _ _ _ _ _ us hl=>by obtain⟨a,b,rfl⟩:=qh hl;rfl) fun f fd F=>lV F
 have D3:=Vc.cal (P:=l.prog) (w:=w) (base:=base) (ps:=["_law_found"]) X G (fun _ _ _ _ _ _ us hl=>by obtain⟨a,rfl⟩:=zW hl;rfl) fun f fd F=>Pz F GL
 have D4:=QM.cal (P:=l.prog) (w:=w) (base:=base) (ps:=["_law_cell","_law_k"]) X G (fun _ _ _ _ _ _ us hl=>by obtain⟨a,b,rfl⟩:=qh hl;rfl) fun f fd F=>mB F D2
 have D5:=Vh.cal (P:=l.prog) (w:=w) (base:=base) (ps:=["_law_cell","_law_many"]) X G (fun _ _ _ _ _ _ us hl=>by obtain⟨a,b,rfl⟩:=qh hl;rfl) fun f fd F=>m6 F GL D4
 have D6:=Jt.cal (P:=l.prog) (w:=w) (base:=base) (ps:=["_law_cell","_law_many"]) X G (fun _ _ _ _ _ _ us hl=>by obtain⟨a,b,rfl⟩:=qh hl;rfl) fun f fd F=>LO F GL D2
 have D7:=Jf.cal (P:=l.prog) (w:=w) (base:=base) (ps:=["_law_cell","_law_k"]) X G (fun _ _ _ _ _ _ us hl=>by obtain⟨a,b,rfl⟩:=qh hl;rfl) fun f fd F=>LX F D2
 have D8:=xk.cal (P:=l.prog) (w:=w) (base:=base) (ps:=["_law_cell","_law_k"]) X G (fun _ _ _ _ _ _ us hl=>by obtain⟨a,b,rfl⟩:=qh hl;rfl) fun f fd F=>Lp F D2
 have D9:=JX.cal (P:=l.prog) (w:=w) (base:=base) (ps:=["_law_cell"]) X G (fun _ _ _ _ _ _ us hl=>by obtain⟨a,rfl⟩:=zW hl;rfl) fun f fd F=>Lr F GL D2 D7
 have D10:=JH.cal (P:=l.prog) (w:=w) (base:=base) (ps:=["_law_cell","_law_name","_law_kind"]) X G (fun _ _ _ _ _ _ us hl=>by obtain⟨a,b,c,rfl⟩:=uC hl;rfl) fun f fd F=>L7 F D4 D7 D8 D9
 have D11:=Uq.cal (P:=l.prog) (w:=w) (base:=base) (ps:=["_law_cell","_law_name"]) X G (fun _ _ _ _ _ _ us hl=>by obtain⟨a,b,rfl⟩:=qh hl;rfl) fun f fd F=>oX F GL D2 D10 D7 D8
 have D12:=Z5.cal (P:=l.prog) (w:=w) (base:=base) (ps:=["_law_number","_law_way_here"]) X G (fun _ _ _ _ _ _ us hl=>by obtain⟨a,b,rfl⟩:=qh hl;rfl) fun f fd F=>lU F GL
 have D13:=QT.cal (P:=l.prog) (w:=w) (base:=base) (ps:=["_law_pairs_here","_law_total"]) X G (fun _ _ _ _ _ _ us hl=>by obtain⟨a,b,rfl⟩:=qh hl;rfl) fun f fd F=>mt F GL
 have A0:=yO.cal (P:=l.prog) (w:=w) (base:=base) (ps:=["_law_rule_here","_law_bases_here"]) X G (fun _ _ _ _ _ _ us hl=>by obtain⟨a,b,rfl⟩:=qh hl;rfl) fun f fd F=>OC (j:=2)
 have A1:=yO.cal (P:=l.prog) (w:=w) (base:=base) (ps:=["_law_rule_here","_law_bases_here"]) X G (fun _ _ _ _ _ _ us hl=>by obtain⟨a,b,rfl⟩:=qh hl;rfl) fun f fd F=>Zm F GL D12 D13 A0
 have A2:=yO.cal (P:=l.prog) (w:=w) (base:=base) (ps:=["_law_rule_here","_law_bases_here"]) X G (fun _ _ _ _ _ _ us hl=>by obtain⟨a,b,rfl⟩:=qh hl;rfl) fun f fd F=>Zm F GL D12 D13 A1
 have A3:=yO.cal (P:=l.prog) (w:=w) (base:=base) (ps:=["_law_rule_here","_law_bases_here"]) X G (fun _ _ _ _ _ _ us hl=>by obtain⟨a,b,rfl⟩:=qh hl;rfl) fun f fd F=>Zm F GL D12 D13 A2
 have A4:=yO.cal (P:=l.prog) (w:=w) (base:=base) (ps:=["_law_rule_here","_law_bases_here"]) X G (fun _ _ _ _ _ _ us hl=>by obtain⟨a,b,rfl⟩:=qh hl;rfl) fun f fd F=>Zm F GL D12 D13 A3
 have D14:=kI.cal (P:=l.prog) (w:=w) (base:=base) (ps:=["_law_rule_here","_law_bases_here"]) X G (fun _ _ _ _ _ _ us hl=>by obtain⟨a,b,rfl⟩:=qh hl;rfl) fun f fd F=>lX (d:=3) F A4
 have MS:=Vk.cal (P:=l.prog) (w:=w) (base:=base) (ps:=["_law_cell","_law_names_here","_law_most"]) X G (fun _ _ _ _ _ _ us hl=>by obtain⟨a,b,c,rfl⟩:=uC hl;rfl) fun f fd F=>GZ F GL D2 D11
 have DuL:=VD.cal (P:=l.prog) (w:=w) (base:=base) (ps:=["_law_rules_here","_law_bases_here"]) X G (fun _ _ _ _ _ _ us hl=>by obtain⟨a,b,rfl⟩:=qh hl;rfl) fun f fd F=>Ps F GL D14
 have rL:=DuL.mono (k:=22) (by decide)
 have B0:=jP.cal (P:=l.prog) (w:=w) (base:=base) (ps:=["_law_rule_here"]) X G (fun _ _ _ _ _ _ us hl=>by obtain⟨a,rfl⟩:=zW hl;rfl) fun f fd F=>pe (j:=2)
 have B1:=jP.cal (P:=l.prog) (w:=w) (base:=base) (ps:=["_law_rule_here"]) X G (fun _ _ _ _ _ _ us hl=>by obtain⟨a,rfl⟩:=zW hl;rfl) fun f fd F=>Zq F GL (by decide) B0
 have B2:=jP.cal (P:=l.prog) (w:=w) (base:=base) (ps:=["_law_rule_here"]) X G (fun _ _ _ _ _ _ us hl=>by obtain⟨a,rfl⟩:=zW hl;rfl) fun f fd F=>Zq F GL (by decide) B1
 have B3:=jP.cal (P:=l.prog) (w:=w) (base:=base) (ps:=["_law_rule_here"]) X G (fun _ _ _ _ _ _ us hl=>by obtain⟨a,rfl⟩:=zW hl;rfl) fun f fd F=>Zq F GL (by decide) B2
 have B4:=jP.cal (P:=l.prog) (w:=w) (base:=base) (ps:=["_law_rule_here"]) X G (fun _ _ _ _ _ _ us hl=>by obtain⟨a,rfl⟩:=zW hl;rfl) fun f fd F=>Zq F GL (by decide) B3
 have D15:=Wu.cal (P:=l.prog) (w:=w) (base:=base) (ps:=["_law_base","_law_dues_here"]) X G (fun _ _ _ _ _ _ us hl=>by obtain⟨a,b,rfl⟩:=qh hl;rfl) fun f fd F=>Li F GL
 have DR:=wa.cal (P:=l.prog) (w:=w) (base:=base) (ps:=["_law_found","_law_due"]) X G (fun _ _ _ _ _ _ us hl=>by obtain⟨a,b,rfl⟩:=qh hl;rfl) fun f fd F=>gz F GL D3
 have Wd:=UK.calQ (P:=l.prog) (w:=w) (base:=base) (ps:=["_law_e"]) X G (fun _ _ _ _ _ _ us hl=>by obtain⟨a,rfl⟩:=zW hl;rfl) fun f fd F=>nP F GL KD
 have Td:=VC.cal (P:=l.prog) (w:=w) (base:=base) (ps:=["_law_book","_law_month","_law_bases_here"]) X G (fun _ _ _ _ _ _ us hl=>by obtain⟨a,b,c,rfl⟩:=uC hl;rfl) fun f fd F=>MN (by decide) F mgR RZ3 RZ7 St Wd
 have Ir:=kG.cal (P:=l.prog) (w:=w) (base:=base) (ps:=["_law_book","_law_own","_law_month","_law_bases_here"]) X G (fun _ _ _ _ _ _ us hl=>by obtain⟨a,b,c,d,rfl⟩:=XV hl;rfl) fun f fd F=>nZ (by decide) F GL Td rL DR D15 D3
 exact Mz Fl GL D1 D2 D6 MS D5 B4 B_i B_p Td Ir
theorem TK {l:PySem.W.OpenLaw} {q:Program} {loose:List Str} {XP:(Str→Option Value)→Heap→Prop} {YP:World→Heap→Prop} {d:DefRec} {K:Params→PySem.W.Frag} (hn:l.most=some 63) (hdf:d.params.defaults=[])
  (hY:∀ (w:World) (h:Heap),YP w h→(K w.params).In h)
  (F:∀ (w:World) (mg:Str→Option Value) (fa:Addr) (h:Heap),(K w.params).In h→h.Ns mainGlobals mg→mg d.name=some (.ref fa) →
   ∃ fd:FuncData,(∀ (s:Shared) (u:Value),BindsTo s fd ⟨[u],[]⟩ [("_law_script",u)])∧∀ base:Heap,(K w.params).In base→base.Ns mainGlobals mg→zJ l.prog w (K w.params) mg base zO 28 fa fd ["_law_script"] (Zi (K w.params))) :
  PySem.W.WalkO q loose XP YP l.row.toRowW d [] (fun f vs=>PySem.call f vs) :=
 L2.LR (n:=63) (k:=28) (x:="_law_script") (CX:=fun _=>zO) (sp:=fun w=>(Zi (K w.params))) hn (by decide) hdf ⟨rfl,by decide,by decide⟩ hY F (fun _ _ a ns hl _ hS=>⟨a,ns,rfl,hS,fun _=>rfl⟩) fun _ _ _ _ _ z=>z
end K14
set_option maxHeartbeats 0
namespace K14
open PySem PySem.W PySem.Calls PyProof.Rows L2
theorem rR:(defOf hQ "law").isSome=true:=by kernel_rfl
def hD:DefRec:=((defOf hQ "law").get rR).1
theorem rQ:WalkO hQ [] (XL hQ []) (uU nF pC) (PySem.Challenge.rw_coinroll_k14_statements).row.toRowW hD [] (fun f vs=>PySem.call f vs):=by
 refine LW fun K e=>?_
 have hF:hFs.map (fun x=>jg K (nsIn K mainGlobals x.1))=hFs.map (fun x=>y9 x.1 x.1 (top x.2)):=congrArg Prod.fst e
 have hM:hMs.map (fun x=>jg K (findIn K (.ref x.1) x.2.1))=hMs.map (fun x=>y9 x.2.1 x.2.2.1 (zz (top x.2.2.2.1) x.2.2.2.2)):=congrArg (fun z=>z.2.1) e
 have hB:(Lx K).all id=true:=congrArg (fun z=>z.2.2) e
 obtain⟨t0,gc0⟩:=jz (zg hB 16 rfl)
 obtain⟨t1,gc1⟩:=jz (zg hB 17 rfl)
 obtain⟨t2,gc2⟩:=jz (zg hB 18 rfl)
 obtain⟨t3,gc3⟩:=jz (zg hB 19 rfl)
 obtain⟨t4,gc4⟩:=jz (zg hB 20 rfl)
 obtain⟨t5,gc5⟩:=jz (zg hB 21 rfl)
 obtain⟨t6,gc6⟩:=jz (zg hB 22 rfl)
 obtain⟨t7,gc7⟩:=jz (zg hB 23 rfl)
 obtain⟨t8,gc8⟩:=jz (zg hB 24 rfl)
 obtain⟨t9,gc9⟩:=jz (zg hB 25 rfl)
 obtain⟨t10,My⟩:=jz (zg hB 26 rfl)
 obtain⟨t11,Mq⟩:=jz (zg hB 27 rfl)
 obtain⟨u0,s0⟩:=xN (zg hB 28 rfl)
 obtain⟨u1,s1⟩:=xN (zg hB 29 rfl)
 refine TK (l:=PySem.Challenge.rw_coinroll_k14_statements) (K:=fun _=>K) rfl (by kernel_rfl) (fun w h Y=>Y) ?_
 intro w mg fa h KX G hmg
 exact Mt KX G hmg (zv (zk hF 0 rfl)) (zv (zk hF 1 rfl)) (zv (zk hF 2 rfl)) (zv (zk hF 3 rfl)) (zv (zk hF 4 rfl)) (zv (zk hF 5 rfl)) (zv (zk hF 6 rfl)) (zv (zk hF 7 rfl)) (zv (zk hF 8 rfl)) (zv (zk hF 9 rfl)) (zv (zk hF 10 rfl)) (zv (zk hF 11 rfl)) (zv (zk hF 12 rfl)) (zv (zk hF 13 rfl)) (zv (zk hF 14 rfl)) (zv (zk hF 15 rfl)) (zv (zk hF 16 rfl)) (zv (zk hF 17 rfl)) (zv (zk hF 18 rfl)) (zv (zk hF 19 rfl)) (zv (zk hF 20 rfl)) (zv (zk hF 21 rfl)) (zv (zk hF 22 rfl)) (zv (zk hF 23 rfl)) (zv (zk hF 24 rfl)) (zv (zk hF 25 rfl)) (zv (zk hF 26 rfl)) (zv (zk hF 27 rfl)) (zv (zk hF 28 rfl)) (zv (zk hF 29 rfl)) (zv (zk hF 30 rfl)) (zv (zk hF 31 rfl)) (zv (zk hF 32 rfl)) (zv (zk hF 33 rfl)) (zv (zk hF 34 rfl)) (zv (zk hF 35 rfl)) (zv (zk hF 36 rfl)) (zv (zk hF 37 rfl)) (zv (zk hF 38 rfl)) (zv (zk hF 39 rfl)) (zv (zk hF 40 rfl)) (zv (zk hF 41 rfl)) (zv (zk hF 42 rfl)) (zv (zk hF 43 rfl)) (zv (zk hF 44 rfl)) (zv (zk hF 45 rfl)) (zv (zk hF 46 rfl)) (zv (zk hF 47 rfl)) (zv (zk hF 48 rfl)) (zv (zk hF 49 rfl)) (zv (zk hF 50 rfl)) (zv (zk hF 51 rfl)) (zv (zk hF 52 rfl)) (zv (zk hF 53 rfl)) (zv (zk hF 54 rfl)) (zv (zk hF 55 rfl)) (zv (zk hF 56 rfl)) (zv (zk hF 57 rfl)) (zv (zk hF 58 rfl)) (zv (zk hF 59 rfl)) (zv (zk hF 60 rfl)) (zv (zk hF 61 rfl)) (zv (zk hF 62 rfl)) (qL (zg hB 0 rfl)) (qL (zg hB 1 rfl)) (qL (zg hB 2 rfl)) (qL (zg hB 3 rfl)) (qL (zg hB 4 rfl)) (qL (zg hB 5 rfl)) (qL (zg hB 6 rfl)) (qL (zg hB 7 rfl)) (qL (zg hB 8 rfl)) (qL (zg hB 9 rfl)) (qL (zg hB 10 rfl)) (qL (zg hB 11 rfl)) (qL (zg hB 12 rfl)) (qL (zg hB 13 rfl)) (qL (zg hB 14 rfl)) (qL (zg hB 15 rfl)) gc0 gc1 gc2 gc3 gc4 gc5 gc6 gc7 gc8 gc9 My Mq s0 s1 (VT (zg hB 30 rfl)) (VT (zg hB 31 rfl)) (z8 (zg hB 32 rfl)) (z8 (zg hB 33 rfl)) (z8 (zg hB 34 rfl)) (z8 (zg hB 35 rfl)) (z8 (zg hB 36 rfl)) (z8 (zg hB 37 rfl)) (z8 (zg hB 38 rfl)) (z8 (zg hB 39 rfl)) (z8 (zg hB 40 rfl)) (z8 (zg hB 41 rfl)) (z8 (zg hB 42 rfl)) (z8 (zg hB 43 rfl)) (z8 (zg hB 44 rfl)) (z8 (zg hB 45 rfl)) (z8 (zg hB 46 rfl)) (z8 (zg hB 47 rfl)) (z8 (zg hB 48 rfl)) (z8 (zg hB 49 rfl)) (z8 (zg hB 50 rfl)) (z8 (zg hB 51 rfl)) (z8 (zg hB 52 rfl)) (zg hB 53 rfl) (qI (zg hB 54 rfl)) (Ur (zg hB 55 rfl)) (qI (zg hB 56 rfl)) (qI (zg hB 57 rfl)) (qI (zg hB 58 rfl)) (qI (zg hB 59 rfl)) (qI (zg hB 60 rfl)) (qI (zg hB 61 rfl)) (qI (zg hB 62 rfl)) (qI (zg hB 63 rfl)) (qI (zg hB 64 rfl)) (qI (zg hB 65 rfl)) (qI (zg hB 66 rfl)) (qI (zg hB 67 rfl)) (qI (zg hB 68 rfl)) (qI (zg hB 69 rfl)) (qI (zg hB 70 rfl)) (qI (zg hB 71 rfl)) (zg hB 72 rfl) (qI (zg hB 73 rfl)) (Ur (zg hB 74 rfl)) (qI (zg hB 75 rfl)) (qI (zg hB 76 rfl)) (qI (zg hB 77 rfl)) (qI (zg hB 78 rfl)) (qI (zg hB 79 rfl)) (qI (zg hB 80 rfl)) (qI (zg hB 81 rfl)) (qI (zg hB 82 rfl)) (qI (zg hB 83 rfl)) (qI (zg hB 84 rfl)) (qI (zg hB 85 rfl)) (qI (zg hB 86 rfl)) (qI (zg hB 87 rfl)) (qI (zg hB 88 rfl)) (qI (zg hB 89 rfl)) (qI (zg hB 90 rfl)) (qL (zg hB 91 rfl)) (zg hB 92 rfl) (zg hB 93 rfl) (zg hB 94 rfl) (yn (zg hB 95 rfl)) (zM (zk hM 0 rfl)) (zg hB 96 rfl) (qL (zg hB 97 rfl)) (zg hB 98 rfl) (zg hB 99 rfl) (zg hB 100 rfl) (yn (zg hB 101 rfl)) (z8 (zg hB 102 rfl)) (z8 (zg hB 103 rfl)) (z8 (zg hB 104 rfl)) (z8 (zg hB 105 rfl)) (z8 (zg hB 106 rfl)) (z8 (zg hB 107 rfl)) (jf (zk hM 1 rfl) (zg hB 108 rfl)) (zM (zk hM 2 rfl)) (zM (zk hM 3 rfl)) (zM (zk hM 4 rfl)) (zM (zk hM 5 rfl)) (zM (zk hM 6 rfl)) (qL (zg hB 109 rfl)) (zg hB 110 rfl) (zg hB 111 rfl) (zg hB 112 rfl) (yn (zg hB 113 rfl)) (z8 (zg hB 114 rfl)) (z8 (zg hB 115 rfl)) (z8 (zg hB 116 rfl)) (z8 (zg hB 117 rfl)) (z8 (zg hB 118 rfl)) (z8 (zg hB 119 rfl)) (jf (zk hM 7 rfl) (zg hB 120 rfl)) (zM (zk hM 8 rfl)) (zM (zk hM 9 rfl)) (zM (zk hM 10 rfl)) (zM (zk hM 11 rfl)) (zM (zk hM 12 rfl)) (qL (zg hB 121 rfl)) (zg hB 122 rfl) (zg hB 123 rfl) (zg hB 124 rfl) (yn (zg hB 125 rfl)) (z8 (zg hB 126 rfl)) (z8 (zg hB 127 rfl)) (z8 (zg hB 128 rfl)) (z8 (zg hB 129 rfl)) (z8 (zg hB 130 rfl)) (z8 (zg hB 131 rfl)) (jf (zk hM 13 rfl) (zg hB 132 rfl)) (zM (zk hM 14 rfl)) (zM (zk hM 15 rfl)) (zM (zk hM 16 rfl)) (zM (zk hM 17 rfl)) (zM (zk hM 18 rfl)) (qL (zg hB 133 rfl)) (zg hB 134 rfl) (zg hB 135 rfl) (zg hB 136 rfl) (yn (zg hB 137 rfl)) (z8 (zg hB 138 rfl)) (z8 (zg hB 139 rfl)) (z8 (zg hB 140 rfl)) (z8 (zg hB 141 rfl)) (z8 (zg hB 142 rfl)) (z8 (zg hB 143 rfl)) (jf (zk hM 19 rfl) (zg hB 144 rfl)) (zM (zk hM 20 rfl)) (zM (zk hM 21 rfl)) (zM (zk hM 22 rfl)) (zM (zk hM 23 rfl)) (zM (zk hM 24 rfl)) (qL (zg hB 145 rfl)) (zg hB 146 rfl) (zg hB 147 rfl) (zg hB 148 rfl) (yn (zg hB 149 rfl)) (z8 (zg hB 150 rfl)) (z8 (zg hB 151 rfl)) (z8 (zg hB 152 rfl)) (z8 (zg hB 153 rfl)) (z8 (zg hB 154 rfl)) (jf (zk hM 25 rfl) (zg hB 155 rfl)) (zM (zk hM 26 rfl)) (zM (zk hM 27 rfl)) (zM (zk hM 28 rfl)) (zM (zk hM 29 rfl)) (zM (zk hM 30 rfl)) (qL (zg hB 156 rfl)) (zg hB 157 rfl) (zg hB 158 rfl) (zg hB 159 rfl) (yn (zg hB 160 rfl)) (z8 (zg hB 161 rfl)) (z8 (zg hB 162 rfl)) (z8 (zg hB 163 rfl)) (z8 (zg hB 164 rfl)) (z8 (zg hB 165 rfl)) (jf (zk hM 31 rfl) (zg hB 166 rfl)) (zM (zk hM 32 rfl)) (zM (zk hM 33 rfl)) (zM (zk hM 34 rfl)) (zM (zk hM 35 rfl)) (zM (zk hM 36 rfl)) (qL (zg hB 167 rfl)) (zg hB 168 rfl) (zg hB 169 rfl) (zg hB 170 rfl) (yn (zg hB 171 rfl)) (z8 (zg hB 172 rfl)) (jf (zk hM 37 rfl) (zg hB 173 rfl)) (zM (zk hM 38 rfl)) (zM (zk hM 39 rfl)) (zM (zk hM 40 rfl)) (yn (zg hB 174 rfl)) (qI (zg hB 175 rfl)) (zg hB 176 rfl) (yn (zg hB 177 rfl)) (qI (zg hB 178 rfl)) (qI (zg hB 179 rfl)) (yn (zg hB 180 rfl)) (qI (zg hB 181 rfl)) (qI (zg hB 182 rfl)) (yn (zg hB 183 rfl)) (qI (zg hB 184 rfl)) (qI (zg hB 185 rfl)) (yn (zg hB 186 rfl)) (qI (zg hB 187 rfl)) (qI (zg hB 188 rfl)) (yn (zg hB 189 rfl)) (qI (zg hB 190 rfl)) (qI (zg hB 191 rfl)) (yn (zg hB 192 rfl)) (qI (zg hB 193 rfl)) (qI (zg hB 194 rfl))
end K14
open PySem PySem.W PyProof.Rows
set_option maxRecDepth 100000 in
set_option maxHeartbeats 0 in
theorem PySem.Challenge.cw_coinroll_k14_statements_holds : PySem.Challenge.rw_coinroll_k14_statements.Holds := by
 w_on;o_law
 refine' holds_open (q:=K14.hQ) (d:=K14.hD) (kwd:=[]) K14.Rj ?a1 ?a2 ?a3 XL.keeps ?a4 ?a5 ?a6 ?a7 ?a8 ?a9 ?b1 ?b2 ?b3 K14.rQ
 case a1=>exact fun w s e=>L2.pT w s e
 case a2=>exact L2.Xa
 case a3=>exact fun s e=>xl_of s (BJ.mp e).1
 case a4=>exact L2.ly K14.rR (by kernel_rfl)
 case a5=>kernel_rfl
 case a6=>kernel_rfl
 case a7=>exact fun s e=>recFacts_of (BJ.mp e).2
 case a8=>rfl
 case a9=>assumption
 case b1=>decide +kernel
 case b2=>exact⟨rfl,rfl,rfl,rfl,rfl,by decide +kernel⟩
 case b3=>w_witness2
#print axioms PySem.Challenge.cw_coinroll_k14_statements_holds
