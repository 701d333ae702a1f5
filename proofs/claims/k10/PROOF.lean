import PyProof.Rows.All
import Wide.All
import OpenK.AllK
import Wide.FinOn
import Lean
import PyProof.EqAt
import PyProof.EqKinds
import PyProof.TupleCall
import PyProof.NeKinds
import PyProof.SumWalkG
import PyProof.EnumMake
import KE.KIntText
import PyProof.StrLawsIn
import PyProof.StrCalls2
import PyProof.Rows.SortRuns
import KE.KSortTup
import KE.KSortKey
import PyProof.StrCalls
import PyProof.ListRange
import KE.IntTextLaws
import KE.IntTextText
import PyProof.Rows.FStr
import PyProof.SetKind
import PyProof.Rows.SetFrom
import PyProof.Walks
import KE.KItemsList
import KE.KDictOf
import PyProof.AttrMissHeap
import PyProof.AutoListH
import PyProof.Rows.ZipGen
import PyProof.Rows.EnumRows
import PyProof.EnumFor
import PyProof.WalksMore
import PyProof.TupleIter
import KE.KRevIter
import PyProof.CollectIter
import PyProof.JoinWalk
import PyProof.Rows.FactsT2
import PyProof.SeqI3
import PyProof.DictWalks
import PyProof.CollectWalk
import PyProof.Rows.SortWalk
import KE.KDictSum
import PyProof.StrLawsChain
import PySem.Challenge.RW_coinroll_k10_rows_read
set_option Elab.async false
set_option linter.all false
set_option genSizeOf false
set_option compiler.extract_closed false
set_option maxRecDepth 100000
noncomputable section
abbrev BFr:=PySem.W.Frag
abbrev BnR (K:BFr) (x:PySem.Str) (c:PySem.Addr):Prop:=PySem.W.nsIn K PySem.mainGlobals x=some (some (.ref c))
abbrev BnI (K:BFr) (x:PySem.Str) (i:Int) (t:PySem.Tok):Prop:=PySem.W.nsIn K PySem.mainGlobals x=some (some (.int i t))
abbrev BfS (K:BFr) (c:PySem.Addr):Prop:=PySem.W.findIn K (.ref c) "__setattr__"=some (some (.builtin "object.__setattr__"))
abbrev BfC (K:BFr) (c:PySem.Addr):Prop:=PySem.W.findIn K (.ref c) "__class__"=some (some (.builtin "object.__class__"))
abbrev BkO (K:BFr) (a b:PySem.Addr) (x:Bool):Prop:=PySem.W.kitOne K (.ref a) (.ref b)=some x
abbrev Bmg_o:=@PySem.W.mg_of
abbrev Bmg_n:=@PySem.W.mg_none_of
set_option hygiene false in
local macro_rules | `(tactic| walk_at "0") => `(tactic| exact fun _ _ _ _ _ _ us hl=>by obtain⟨a,rfl⟩:=zV hl;rfl)
set_option hygiene false in
local macro_rules | `(tactic| walk_at "1") => `(tactic| exact fun _ _ _ _ _ _ us hl=>by obtain⟨a,b,c,rfl⟩:=JG hl;rfl)
set_option hygiene false in
local macro_rules | `(tactic| walk_at "2") => `(tactic| exact fun _ _ _ _ _ _ us hl=>by obtain⟨a,b,c,d,rfl⟩:=WO hl;rfl)
set_option hygiene false in
local macro_rules | `(tactic| walk_at "3") => `(tactic| exact fun _ _ _ _ _ _ us hl=>by obtain⟨a,b,rfl⟩:=qo hl;rfl)
set_option hygiene false in
local macro_rules | `(tactic| walk_at "4") => `(tactic| exact fun _ _ _ _ _ _ us hl=>by obtain⟨a,b,c,d,e,rfl⟩:=ZL hl;rfl)
set_option hygiene false in
local macro_rules | `(tactic| walk_at "s") => `(tactic| exact ⟨rfl,rfl,rfl,by decide +kernel,rfl,by decide +kernel,by decide +kernel⟩)
set_option hygiene false in
local macro_rules | `(tactic| walk_at "c0") => `(tactic| exact ⟨rfl,rfl,by decide +kernel,by decide +kernel,(fun x c z=>nomatch z),qT (by rfl),qa qu,rfl⟩)
set_option hygiene false in
local macro_rules | `(tactic| walk_at "c1") => `(tactic| exact ⟨rfl,rfl,by decide +kernel,by decide +kernel,uR (oK rfl (UF rfl)),qT (by rfl),qa (yh ⟨_,rfl,rfl,rfl,rfl⟩ (yh ⟨_,rfl,rfl,rfl,rfl⟩ qu)),rfl⟩)
set_option hygiene false in
local macro_rules | `(tactic| walk_at "c2") => `(tactic| exact ⟨rfl,rfl,by decide +kernel,by decide +kernel,uR (UF rfl),qT (by rfl),qa (yh ⟨_,rfl,rfl,rfl,rfl⟩ qu),rfl⟩)
set_option hygiene false in
local macro_rules | `(tactic| walk_at "d3") => `(tactic| dsimp (config:={ proj:=false,iota:=false,beta:=false,eta:=false }) only [Ze,JF])
abbrev BnN (K:BFr) (x:PySem.Str):Prop:=PySem.W.nsIn K PySem.mainGlobals x=some none
abbrev cN:=@List.length_map
abbrev cP:=@Nat.le_refl
abbrev cQ:=@Bool.and_eq_true
abbrev cU:=@List.mem_cons
abbrev cV:=@PySem.Heap.lt_size
abbrev cW:=@List.getElem?_map
abbrev cX:=@List.not_mem_nil
abbrev cY:=@Nat.le_of_ble_eq_true
abbrev cZ:=@Nat.le_trans
abbrev Ca:=@List.getElem?_eq_getElem
abbrev Cb:=@List.length_append
abbrev Cc:=@Nat.ne_of_lt
abbrev Cd:=@List.mem_cons_of_mem
abbrev Ce:=@List.mem_cons_self
abbrev Cf:=@PySem.Heap.get?_push_of_some
abbrev Cg:=@Int.emod_nonneg
abbrev Ci:=@List.map_append
abbrev Cj:=@Bool.true_and
abbrev Cm:=@Bool.false_ne_true
abbrev Cn:=@List.all_eq_true
abbrev Co:=@List.mem_singleton
abbrev Cp:=@List.mem_map
abbrev Cq:=@PySem.Heap.get?_push_size
abbrev Cr:=@Int.emod_lt_of_pos
abbrev Cu:=@Option.map_eq_some_iff
abbrev Cv:=@List.getElem?_eq_some_iff
abbrev Cw:=@Nat.zero_le
abbrev Cy:=@List.size_toArray
abbrev Cz:=@List.length_take
abbrev CC:=@List.mem_append_right
abbrev CD:=@Int.toNat_natCast
abbrev CF:=@List.map_cons
abbrev CG:=@List.length_range
abbrev CH:=@List.map_map
abbrev CI:=@List.length_cons
abbrev CJ:=@Nat.lt_of_lt_of_le
abbrev CK:=@List.append_nil
abbrev CM:=@List.mem_append
abbrev CN:=@Array.length_toList
abbrev CO:=@PySem.Heap.get?_update_other
abbrev CP:=@List.getD_eq_getElem?_getD
abbrev CQ:=@Bool.false_and
abbrev CS:=@List.mem_of_getElem?
abbrev CU:=@List.length_singleton
abbrev CV:=@Bool.and_false
abbrev CW:=@List.mem_append_left
abbrev CY:=@Bool.eq_false_iff
abbrev CZ:=@Bool.false_or
abbrev dc:=@Nat.le_of_not_lt
abbrev de:=@PySem.Heap.get?_update_self
abbrev dh:=@List.getElem?_eq_none
abbrev dj:=@List.take_of_length_le
abbrev dk:=@Int.mul_nonneg
abbrev dm:=@Bool.and_true
abbrev dq:=@Array.getElem?_eq_some_iff
abbrev du:=@List.contains_iff_mem
abbrev dv:=@List.take_add_one
abbrev dw:=@Bool.and_eq_true_iff
abbrev dz:=@Bool.not_eq_true'
abbrev dA:=@Nat.min_eq_left
abbrev dB:=@Array.getElem?_eq_getElem
abbrev dD:=@Bool.eq_iff_iff
abbrev dF:=@List.all_map
abbrev dG:=@List.take_length
abbrev dH:=@Nat.le_add_right
abbrev dI:=@Bool.false_eq_true
abbrev dJ:=@List.map_nil
abbrev dM:=@List.all_cons
abbrev dN:=@Nat.lt_succ_self
abbrev dO:=@Option.isSome_iff_exists
abbrev dP:=@List.getElem?_append_right
abbrev dQ:=@List.length_nil
abbrev dR:=@Int.zero_add
abbrev dS:=@Bool.or_eq_true
abbrev dU:=@PySem.Heap.size_push
abbrev dW:=@Nat.le_of_eq
abbrev dX:=@List.length_drop
abbrev dY:=@List.any_cons
abbrev dZ:=@List.find?_cons
abbrev d4:=@Int.eq_ofNat_of_zero_le
abbrev d5:=@List.foldl_cons
abbrev d6:=@List.set_set
abbrev d7:=@List.filter_append
abbrev d8:=@Nat.lt_of_le_of_lt
abbrev d9:=@List.cons_ne_nil
abbrev Da:=@List.append_assoc
abbrev Dc:=@Nat.lt_irrefl
abbrev Dd:=@Nat.le_of_lt
abbrev De:=@List.filterMap_cons
abbrev Df:=@PySem.Heap.get?_none_of_le
abbrev Dg:=@Nat.ne_of_gt
abbrev Dh:=@List.getElem?_append_left
abbrev Di:=@Int.natCast_nonneg
abbrev Dj:=@Nat.min_eq_right
abbrev Dk:=@List.ext_getElem?
abbrev Dl:=@List.mem_of_mem_take
abbrev Dm:=@Int.le_refl
abbrev Dn:=@Array.getElem?_toList
abbrev Do:=@Bool.not_true
abbrev Dp:=@List.pairwise_cons
abbrev Dq:=@List.length_tail
abbrev Dr:=@Array.toList_inj
abbrev Ds:=@List.mem_range
abbrev Du:=@List.nodup_cons
abbrev Dv:=@List.of_mem_zip
abbrev Dw:=@List.flatten_cons
abbrev Dx:=@List.getElem_mem
abbrev Dy:=@Nat.lt_trans
abbrev Dz:=@Nat.lt_succ_of_lt
abbrev DA:=@Array.getElem?_eq_none
abbrev DB:=@Nat.not_lt_zero
abbrev DC:=@Nat.sub_self
abbrev DD:=@List.pairwise_iff_getElem
abbrev DE:=@List.length_eq_zero_iff
abbrev DF:=@List.filter_eq_self
abbrev DG:=@Int.add_zero
abbrev DH:=@List.map_id'
abbrev DJ:=@List.filter_eq_nil_iff
abbrev DK:=@Array.toList_push
abbrev DM:=@List.all_append
abbrev DN:=@List.take_append_drop
abbrev DO:=@List.getElem?_set_self
abbrev DP:=@List.mem_filterMap
abbrev DQ:=@List.replicate_succ
abbrev DR:=@List.getElem_toArray
abbrev DU:=@List.map_take
abbrev DV:=@Nat.succ_le_succ
abbrev DW:=@List.drop_zero
abbrev DX:=@Nat.not_lt_of_le
abbrev DY:=@List.map_replicate
abbrev DZ:=@List.dropLast_concat_getLast
abbrev ee:=@Nat.le_add_left
abbrev ej:=@Bool.not_false
abbrev en:=@Bool.or_eq_false_iff
abbrev eG:=@Option.bind_eq_some_iff
abbrev eH:=@List.getElem?_take_of_lt
abbrev eI:=@List.range_succ_eq_map
abbrev eJ:=@List.length_eraseIdx_of_lt
abbrev eK:=@List.pairwise_singleton
abbrev eL:=@List.nodup_iff_pairwise_ne
namespace L2
open PySem PySem.W PySem.Calls PyProof.Rows
noncomputable def xH (tb:String→Option Builtin) (p:Program) (w:World) (n₀:Nat) (ann:Option Value):Nat→SharedT→Thread→Option SharedT
 | 0,_,_=>none
 | n+1,s,t=>match through t with
  | true=>some s
  | false=>match stepOk n₀ ann t with
   | false=>none
   | true=>match stepT (denote tb) p w s t with
    | some (s',t')=>xH tb p w n₀ ann n s' t'
    | none=>none
theorem RC {tb:String→Option Builtin} {p:Program} {w:World} {n₀:Nat} {ann:Option Value} (n:Nat):∀ {s s':SharedT} {t:Thread},xH tb p w n₀ ann n s t=some s'→topRun tb p w n₀ ann n s.abs t=some s'.abs:=by
 induction n with
 | zero=>intro s s' t h;cases h
 | succ n ih =>
  intro s s' t h
  unfold xH at h
  unfold topRun
  cases ht:through t with
  | true=>rw[ht] at h;cases h;rfl
  | false =>
   rw[ht] at h
   cases hk:stepOk n₀ ann t with
   | false=>rw[hk] at h;cases h
   | true =>
    rw[hk] at h
    cases hs:stepT (denote tb) p w s t with
    | none=>rw[hs] at h;cases h
    | some r =>
     obtain⟨s₂,t₂⟩:=r
     rw[hs] at h
     rw[stepT_spec hs]
     exact ih h
noncomputable def Oz:List Obj→BT→Nat→Option BT
 | [],t,_=>some t
 | o::l,t,n=>match ((t.ins n o).get n).isSome with
  | true=>Oz l (t.ins n o) (n+1)
  | false=>none
theorem Me {life:Life} (l:List Obj):∀ {t t':BT} {n:Nat},Oz l t n=some t'→(absHeap t' (n+l.length) life).objs.toList=(absHeap t n life).objs.toList++l:=by
 induction l with
 | nil=>intro t t' n h;cases h;rw[CK];rfl
 | cons o l ih =>
  intro t t' n h
  unfold Oz at h
  cases e:((t.ins n o).get n).isSome with
  | false=>rw[e] at h;cases h
  | true =>
   rw[e] at h
   have:=ih h
   rw[CI,show n+(l.length+1)=n+1+l.length by omega,this,absHeap_ins e]
   show ((absHeap t n life).objs.push o).toList++l=_
   rw[DK,Da]
   rfl
noncomputable def Oo {β:Type} (p:Program) (m:Nat) (ann:Option Value) (M:Nat) (see:Shared→β) (w:World) (os:OsState):Option β :=
 (Oz (boot_heap w.params).objs.toList .nil 0).bind fun t=>(xH treeTable p w m ann M ⟨t,m,(boot_heap w.params).life,Array.mk [],boot_drawn,boot_toks,os⟩ (topStub p)).map fun s=>see s.abs
theorem Gz {p q:Program} {loose:List Str} {Xt:Shared→Bool} {α:Type} {Yf:Shared→α} {Ya:World→α} {N M m:Nat} {g0:Bool} {ann:Option Value}
  (e:opening p=plainProg p.main.scope.names) (hN:Nat.ble 600 N=true) (f:∀ s,fenceModules? p s=some s) (le:Nat.ble M N=true) (size:∀ w:World,((boot_heap w.params).isNs mainGlobals,(boot_heap w.params).objs.toList.length,(boot_heap w.params).nsMap mainGlobals "__annotations__")=(true,m,ann)) (h:∀ (w:World) (os:OsState),Oo p m ann M (fun s=>((staticsOk (importedModules p.main.body) (boot_heap w.params) s.heap&&namesBound p s.heap&&gensDone s&&laidKept (boot_heap w.params) s.heap),openSeen q loose (importedModules p.main.body) Xt g0 s,Yf s)) w os=some (true,openGood q loose,Ya w)) :
  LeftO p q loose Xt Yf Ya N g0:=fun w=>by
 obtain⟨⟨hp,gs,d,k,os⟩,e1,e2⟩:=Cu.mp (boot_open e hN f w)
 obtain⟨rfl,rfl,rfl,rfl⟩:hp=boot_heap w.params∧gs=Array.mk []∧d=boot_drawn∧k=boot_toks:=by
  have a:=congrArg Prod.fst e2
  have b:=congrArg (fun x=>x.2.1) e2
  have c:=congrArg (fun x=>x.2.2.1) e2
  have d:=congrArg (fun x=>x.2.2.2) e2
  exact⟨a,b,c,d⟩
 have sz:=size w
 have z1:(boot_heap w.params).isNs mainGlobals=true:=congrArg Prod.fst sz
 have z2:(boot_heap w.params).objs.toList.length=m:=congrArg (fun x=>x.2.1) sz
 have z3:(boot_heap w.params).nsMap mainGlobals "__annotations__" = ann:=congrArg (fun x=>x.2.2) sz
 have h:=h w os
 unfold Oo at h
 obtain⟨t,ht,h⟩:=eG.mp h
 obtain⟨s,hs,h⟩:=Cu.mp h
 have ab:SharedT.abs ⟨t,m,(boot_heap w.params).life,Array.mk [],boot_drawn,boot_toks,os⟩=⟨boot_heap w.params,Array.mk [],boot_drawn,boot_toks,os⟩:=by
  have g:=Me (life:=(boot_heap w.params).life) _ ht
  rw[Nat.zero_add,z2] at g
  have g':(absHeap t m (boot_heap w.params).life).objs.toList=(boot_heap w.params).objs.toList:=g
  have g2:absHeap t m (boot_heap w.params).life=boot_heap w.params:=by
   show Heap.mk (absHeap t m (boot_heap w.params).life).objs (boot_heap w.params).life=Heap.mk (boot_heap w.params).objs (boot_heap w.params).life
   exact congrArg (Heap.mk · _) (Dr.mp g')
  show Shared.mk (absHeap t m (boot_heap w.params).life) _ _ _ _=_
  rw[g2]
 have r:=RC M hs
 rw[ab] at r
 have r:=topRun_mono (N - M) _ _ _ _ r
 rw[show M+(N - M)=N by have:=cY le;omega] at r
 have l1:=congrArg Prod.fst h
 have l2:=congrArg Prod.snd h
 dsimp only at l1 l2
 have t:topFrom treeTable p w N ⟨boot_heap w.params,Array.mk [],boot_drawn,boot_toks,os⟩=some s.abs:=by
  unfold topFrom
  have c:((boot_heap w.params).isNs mainGlobals&&(Array.mk ([]:List GenState)).size==0)=true:=by rw[z1];rfl
  show (match (boot_heap w.params).isNs mainGlobals&&(Array.mk ([]:List GenState)).size==0 with | true=>_ | false=>none)=_
  rw[c]
  show (topRun treeTable p w (boot_heap w.params).objs.size ((boot_heap w.params).nsMap mainGlobals "__annotations__") N _ _).bind _=_
  rw[show (boot_heap w.params).objs.size=m from z2,z3,r]
  show (match _ with | true=>_ | false=>none)=_
  rw[l1]
 unfold openEnds
 rw[e1]
 show (topFrom treeTable p w N _).map _=_
 rw[t]
 exact congrArg some l2
end L2
namespace L2
open PySem PySem.Spec PyProof.Rows
noncomputable def zH (s:Stmt) (j:Nat):Stmt:=match s with
 | .ClassDef _ _ _ body _ _ _ _ _ _ _=>body.getD j (.Pass ⟨0,0,0,0⟩)
 | _=>.Pass ⟨0,0,0,0⟩
noncomputable def jM (s:Stmt):Arguments:=match s with
 | .FunctionDef _ a _ _ _ _ _ _ _ _=>a
 | _=>{ posonlyargs:=[],args:=[],vararg:=none,kwonlyargs:=[],kw_defaults:=[],kwarg:=none,defaults:=[] }
noncomputable def yN (s:Stmt):List Stmt:=match s with
 | .FunctionDef _ _ b _ _ _ _ _ _ _=>b
 | _=>[]
noncomputable def zW (s:Stmt):Scope:=match s with
 | .FunctionDef _ _ _ _ _ _ sc _ _ _=>sc
 | _=>{ kind:=.function,names:=[],isGenerator:=false,isCoroutine:=false }
end L2
namespace L2
open PySem PySem.W PySem.Calls PyProof.Rows
noncomputable def jz (as:List Addr) (h:Heap):Frag:=as.filterMap fun a=>(h.get? a).map fun o=>(a,o)
structure Xn where
 name:Str
 qual:Str
 params:Arguments
 body:FuncBody
 scope:Scope
 globals:Addr
 closure:List (Str × Addr)
 defaults:Value
 builtins:Addr
 ok:Bool
noncomputable def jG (K:Frag) (v:Option (Option Value)):Option Xn:=match v with
 | some (some (.ref f))=>match K.lookup f with
  | some ⟨_,_,.func fd,_⟩=>some ⟨fd.name,fd.qualname,fd.params,fd.body,fd.scope,fd.globals,fd.closure,fd.defaults,fd.builtins,codeIn K fd.code fd.qualname&&keepIn K (.ref f)&&isFn K (.ref f)⟩
  | _=>none
 | _=>none
noncomputable def jF (x qual:Str) (st:Stmt):Option Xn:=some ⟨x,qual,jM st,.stmts (yN st),zW st,mainGlobals,[],.none,builtinsNs,true⟩
abbrev ZM:List Value:=[.type "ValueError",.type "Exception",.type "BaseException",.type "object"]
noncomputable def qS (v:Option (Option Value)):Bool:=match v with
 | some none=>true
 | _=>false
noncomputable def isInt (z:Int) (v:Option (Option Value)):Bool:=match v with
 | some (some (.int y _))=>decide (y=z)
 | _=>false
noncomputable def UN (z:Str) (v:Option (Option Value)):Bool:=match v with
 | some (some (.str y _))=>decide (y=z)
 | _=>false
noncomputable def yI (z:Addr) (v:Option (Option Value)):Bool:=match v with
 | some (some (.ref y))=>Nat.beq y z
 | _=>false
noncomputable def jB (z:String) (v:Option (Option Value)):Bool:=match v with
 | some (some (.builtin y))=>decide (y=z)
 | _=>false
noncomputable def jN (b:Bool) (v:Option Bool):Bool:=match v with
 | some c=>c==b
 | none=>false
noncomputable def Qc (K:Frag) (D:Addr):Bool:=(clsIn K D).isSome&&jB "BaseException.__getattribute__" (findIn K (.ref D) "__getattribute__")&&qS (findIn K (.ref D) "__getattr__")&&jB "object.__class__" (findIn K (.ref D) "__class__")&&jB "getset_descriptor.__get__" (specialIn K (.builtin "object.__class__") "__get__")&&jN true (takesIn K (.builtin "object.__class__"))&&jN true (mroIn K D (.type "object"))&&jN true (mroIn K D (.type "BaseException"))
noncomputable def Qh:List Value→List Str→Bool
 | [],[]=>true
 | v::r,z::q=>UN z (some (some v))&&Qh r q
 | _,_=>false
noncomputable def Qe (K:Frag) (x:Str) (zs:List Str):Bool:=match nsIn K mainGlobals x with
 | some (some (.ref a))=>match K.lookup a with
  | some ⟨.type n,_,.seq its _,_⟩=>decide (n = "tuple")&&Nat.ble its.size 1000&&Qh its.toList zs
  | _=>false
 | _=>false
noncomputable def ui (K:BFr) (C:Addr) (m:Str):Bool :=
 (match PySem.W.specialIn K (.ref C) "__getattribute__" with | some (some (.builtin b))=>b == "type.__getattribute__" | _=>false)&&PySem.W.readsIn K C (.type "type") &&
 (match PySem.W.findIn K (.ref C) m,PySem.W.findCls K (.ref C) (.type "type") m with | some (some (.ref f)),some (.val (.ref g))=>Nat.beq f g | _,_=>false)
end L2
namespace L2
open PySem PySem.W
noncomputable def xP (s:SharedT) (a:Addr):Option Obj:=match Nat.blt a s.n with
 | true=>alive ((s.tree.get a).getD default)
 | false=>none
theorem Gp (s:SharedT) (a:Addr):xP s a=s.abs.heap.get? a:=by
 unfold xP
 show _=(absHeap s.tree s.n s.life).get? a
 cases h:Nat.blt a s.n with
 | true =>
  have h:a<s.n:=Nat.blt_eq.mp h
  unfold Heap.get?
  rw[absHeap_at,if_pos h]
  generalize (s.tree.get a).getD default=o
  obtain⟨c,d,dt,sl⟩:=o
  cases dt <;> rfl
 | false =>
  have h:¬ a<s.n:=fun c=>by rw[Nat.blt_eq.mpr c] at h;cases h
  exact (abs_get_none h).symm
noncomputable def jQ (as:List Addr) (s:SharedT):Frag:=as.filterMap fun a=>(xP s a).map fun o=>(a,o)
theorem uW (as:List Addr) (s:SharedT):jz as s.abs.heap=jQ as s:=by
 unfold jz jQ
 congr 1
 funext a
 rw[Gp]
end L2
set_option maxHeartbeats 4000000
namespace K10
open PySem
noncomputable def zX (i:Nat):Stmt:=PySem.Challenge.pw_coinroll_k10_rows_read.main.body.getD i (.Pass ⟨0,0,0,0⟩)
end K10
set_option maxHeartbeats 0
namespace K10
open PySem PySem.W PySem.Calls PyProof.Rows L2
noncomputable def hQ:Program:=PySem.W.view PySem.Challenge.pw_coinroll_k10_rows_read [1,2,3,4,5,6,7,8,9,10,11,12,13,14,15,16,18,19,20,21,22,23,24,25,26,27,28,29,30,31,33,34,35,36,37,38,40,41,42,43,44,45,46,47,48,49,50,51,53,54,55,56,58,59,61,62,63,65,66,67,68,69,70,71,72,74,75,76,77,78,79,80,81,82,83,84,85,86,87,88,89,90,91,92,93,94,95,96,97,98,99,100]
noncomputable def G0:List Addr:=[2,3,15,22,23,24,25,28,35,36,37,40,47,48,49,52,59,60,61,64,71,72,73,76,83,84,85,88,95,96,97,100,107,108,109,112,119,120,121,124,131,132,133,136,143,144,145,148,155,156,157,160,167,168,169,172,179,180,181,184,191,192,193,196,203,204,205,208,209,211,212,214,215,216,218,219,221,222,223,225,226,228,229,230,232,233,235,236,237,239,240,242,243,244,246,247,249,250,251,253,254,256,257,258,260,261,263,264,265,267,268,270,271,272,274,275,277,278,279,282,283,284,286,287,289,290,291,294,295,296,297,299,300,302,303,304,306,307,309,310,311,313,314,316,317,318,320,321,323,324,325,328,329,337,339,340,342,343,344,346,347,349,350,351,353,354,356,357,358,360,361,363,364,365,367,368,370,371,372,374,375,377,378,379,380,381,382,383,386,393,395,396,398,399,400,402,403,405,406,407,409,410,412,413,414,416,417,419,420,421,422,423,426,433,435,436,438,439,440,442,443,445,446,447,449,450,452,453,454,456,457,459,460,461,462,463,466,473,475,476,478,479,480,482,483,485,486,487,489,490,492,493,494,496,497,499,500,501,502,503,506,513,515,516,518,519,520,522,523,525,526,527,529,530,532,533,534,536,537,539,540,541,542,543,546,548,549,551,552,553,556,557,558,565,568,569,570,572,573,575,576,577,580,581,582,584,585,587,588,589,590,591,594,601,603,604,606,607,608,610,611,613,614,615,617,618,620,621,622,624,625,627,628,629,631,632,634,635,636,637,638,641,644,645,646,648,649,651,652,653,655,656,658,659,660,662,663,665,666,667,669,670,672,673,674,677,678,679,681,682,684,685,686,688,689,691,692,693,695,696,698,699,700,702,703,705,706,707,709,710,712,713,714,716,717,719,720,721,723,724,726,727,728,730,731,733,734,735,737,738,740,741,742,745,746,747,749,750,752,753,754,756,757,759,760,761,763,764,766,767,768,770,771,773,774,775,777,778,780,781,782,784,785,787,788,789,791,792,794,795,796,799,800,801,803,804,806,807,808,811,812,813,816,817,818,821,822,823,826,827,828,830,831,833,834,835,838,839,840,842,843,845,846,847,850,851,852,854,855,857,858,859,861,862,864,865,866,868,869,871,872,873,875,876,878,879]
noncomputable def hFs:List (Str × Nat):=[(("is_number":Str),22),(("is_number_within":Str),23),(("is_parts":Str),24),(("is_way":Str),25),(("need_amount":Str),26),(("need_way":Str),27),(("half_goes_up":Str),28),(("goes_up":Str),29),(("rounded":Str),30),(("share_of":Str),31),(("is_word_of":Str),36),(("is_name":Str),37),(("rise":Str),38),(("is_rule_name":Str),42),(("is_rule_amount":Str),43),(("need_rule_amount":Str),44),(("need_share":Str),45),(("months_with_base":Str),46),(("is_band":Str),54),(("are_bands":Str),55),(("are_figures":Str),61),(("is_number_text":Str),62),(("read_number":Str),63),(("number_of":Str),66),(("band_of":Str),67),(("bands_of":Str),68),(("plain_rule":Str),69),(("is_ontop":Str),70),(("rule_of_words":Str),71),(("rule_of":Str),72),(("_law_cell_at":Str),74),(("_law_mixed":Str),75),(("_law_whole":Str),76),(("_law_amount":Str),77),(("_law_bases":Str),78),(("_law_names":Str),79),(("_law_parts":Str),80),(("_law_way":Str),81),(("_law_pairs":Str),82),(("_law_plain":Str),83),(("_law_rule":Str),84),(("_law_rounded":Str),85),(("_law_pieces":Str),86),(("_law_until":Str),87),(("_law_of_month":Str),88),(("_law_row":Str),89),(("_law_is_name":Str),90),(("_law_number":Str),91),(("_law_pairs_in":Str),92),(("_law_things_in":Str),93),(("_law_by_words":Str),94),(("_law_read":Str),95),(("_law_bent":Str),96),(("_law_word":Str),97),(("_law_told":Str),98),(("_law_is_right":Str),99),(("law":Str),100)]
noncomputable def hMs:List (Addr × Str × Str × Nat × Nat):=[(381,("__init__":Str),("Rule.__init__":Str),47,0),(423,("__init__":Str),("Flat.__init__":Str),48,0),(423,("until":Str),("Flat.until":Str),48,1),(423,("twin":Str),("Flat.twin":Str),48,3),(423,("depth":Str),("Rule.depth":Str),47,4),(423,("of_month":Str),("Rule.of_month":Str),47,5),(423,("row":Str),("Flat.row":Str),48,2),(463,("__init__":Str),("Share.__init__":Str),49,0),(463,("until":Str),("Share.until":Str),49,1),(463,("twin":Str),("Share.twin":Str),49,3),(463,("depth":Str),("Rule.depth":Str),47,4),(463,("of_month":Str),("Rule.of_month":Str),47,5),(463,("row":Str),("Share.row":Str),49,2),(503,("__init__":Str),("Capped.__init__":Str),50,0),(503,("until":Str),("Capped.until":Str),50,1),(503,("twin":Str),("Capped.twin":Str),50,3),(503,("depth":Str),("Rule.depth":Str),47,4),(503,("of_month":Str),("Rule.of_month":Str),47,5),(503,("row":Str),("Capped.row":Str),50,2),(543,("__init__":Str),("Least.__init__":Str),51,0),(543,("until":Str),("Least.until":Str),51,1),(543,("twin":Str),("Least.twin":Str),51,3),(543,("depth":Str),("Rule.depth":Str),47,4),(543,("of_month":Str),("Rule.of_month":Str),47,5),(543,("row":Str),("Least.row":Str),51,2),(591,("__init__":Str),("Bands.__init__":Str),56,0),(591,("until":Str),("Bands.until":Str),56,1),(591,("twin":Str),("Bands.twin":Str),56,3),(591,("depth":Str),("Rule.depth":Str),47,4),(591,("of_month":Str),("Rule.of_month":Str),47,5),(591,("row":Str),("Bands.row":Str),56,2),(638,("__init__":Str),("OnTop.__init__":Str),59,0),(638,("until":Str),("OnTop.until":Str),59,1),(638,("twin":Str),("OnTop.twin":Str),59,3),(638,("depth":Str),("OnTop.depth":Str),59,4),(638,("of_month":Str),("Rule.of_month":Str),47,5),(638,("row":Str),("OnTop.row":Str),59,2)]
noncomputable def MJ (K:Frag):List Bool:=[yI 37 (nsIn K mainGlobals "BadAmount"),yI 49 (nsIn K mainGlobals "BadShare"),yI 61 (nsIn K mainGlobals "BadText"),yI 73 (nsIn K mainGlobals "BadMonth"),yI 85 (nsIn K mainGlobals "BadYear"),yI 97 (nsIn K mainGlobals "BadRule"),yI 109 (nsIn K mainGlobals "BadBook"),yI 121 (nsIn K mainGlobals "NoYear"),yI 133 (nsIn K mainGlobals "BadDay"),yI 145 (nsIn K mainGlobals "BadEntry"),yI 157 (nsIn K mainGlobals "NoMark"),yI 169 (nsIn K mainGlobals "NoPerson"),yI 181 (nsIn K mainGlobals "TooMany"),yI 193 (nsIn K mainGlobals "BadClose"),yI 205 (nsIn K mainGlobals "BadLine"),yI 24 (nsIn K mainGlobals "RollError"),isInt 8 (nsIn K mainGlobals "MOST_SIGNS"),isInt 20000 (nsIn K mainGlobals "MOST_PARTS"),isInt 10000 (nsIn K mainGlobals "WHOLE"),isInt 5000 (nsIn K mainGlobals "HALF"),isInt 1000000000000 (nsIn K mainGlobals "MOST_AMOUNT"),isInt 12 (nsIn K mainGlobals "MOST_BANDS"),isInt 3 (nsIn K mainGlobals "MOST_DEPTH"),isInt 13 (nsIn K mainGlobals "MOST_FIGURES"),UN "abcdefghijklmnopqrstuvwxyz" (nsIn K mainGlobals "LETTERS"),UN "0123456789" (nsIn K mainGlobals "FIGURES"),Qe K "WAYS" ["down","up","near","even"],Qe K "NO_RULE_NAMES" ["base","net","month","sums"],qS (nsIn K mainGlobals "isinstance"),qS (nsIn K mainGlobals "int"),qS (nsIn K mainGlobals "bool"),qS (nsIn K mainGlobals "str"),qS (nsIn K mainGlobals "len"),qS (nsIn K mainGlobals "range"),qS (nsIn K mainGlobals "ValueError"),qS (nsIn K mainGlobals "list"),qS (nsIn K mainGlobals "tuple"),qS (nsIn K mainGlobals "dict"),qS (nsIn K mainGlobals "set"),qS (nsIn K mainGlobals "all"),qS (nsIn K mainGlobals "any"),qS (nsIn K mainGlobals "sum"),qS (nsIn K mainGlobals "sorted"),qS (nsIn K mainGlobals "abs"),qS (nsIn K mainGlobals "max"),qS (nsIn K mainGlobals "min"),qS (nsIn K mainGlobals "zip"),qS (nsIn K mainGlobals "enumerate"),qS (nsIn K mainGlobals "reversed"),excIn K 61 ZM "ValueError.__new__",jN true (exmOne K (.ref 61) (.ref 24)),Qc K 61,jN true (kitOne K (.ref 61) (.type "ValueError")),jN false (kitOne K (.ref 61) (.ref 37)),jN false (kitOne K (.ref 61) (.ref 49)),jN true (kitOne K (.ref 61) (.ref 61)),jN false (kitOne K (.ref 61) (.ref 73)),jN false (kitOne K (.ref 61) (.ref 85)),jN false (kitOne K (.ref 61) (.ref 97)),jN false (kitOne K (.ref 61) (.ref 109)),jN false (kitOne K (.ref 61) (.ref 121)),jN false (kitOne K (.ref 61) (.ref 133)),jN false (kitOne K (.ref 61) (.ref 145)),jN false (kitOne K (.ref 61) (.ref 157)),jN false (kitOne K (.ref 61) (.ref 169)),jN false (kitOne K (.ref 61) (.ref 181)),jN false (kitOne K (.ref 61) (.ref 193)),jN false (kitOne K (.ref 61) (.ref 205)),excIn K 97 ZM "ValueError.__new__",jN true (exmOne K (.ref 97) (.ref 24)),Qc K 97,jN true (kitOne K (.ref 97) (.type "ValueError")),jN false (kitOne K (.ref 97) (.ref 37)),jN false (kitOne K (.ref 97) (.ref 49)),jN false (kitOne K (.ref 97) (.ref 61)),jN false (kitOne K (.ref 97) (.ref 73)),jN false (kitOne K (.ref 97) (.ref 85)),jN true (kitOne K (.ref 97) (.ref 97)),jN false (kitOne K (.ref 97) (.ref 109)),jN false (kitOne K (.ref 97) (.ref 121)),jN false (kitOne K (.ref 97) (.ref 133)),jN false (kitOne K (.ref 97) (.ref 145)),jN false (kitOne K (.ref 97) (.ref 157)),jN false (kitOne K (.ref 97) (.ref 169)),jN false (kitOne K (.ref 97) (.ref 181)),jN false (kitOne K (.ref 97) (.ref 193)),jN false (kitOne K (.ref 97) (.ref 205)),yI 381 (nsIn K mainGlobals "Rule"),plainGet K 381 Str.empty,hasDictIn K 381,plainOver K 381,jB "object.__setattr__" (findIn K (.ref 381) "__setattr__"),ui K 381 "__init__",yI 423 (nsIn K mainGlobals "Flat"),plainGet K 423 Str.empty,hasDictIn K 423,plainOver K 423,jB "object.__setattr__" (findIn K (.ref 423) "__setattr__"),qS (findIn K (.ref 423) "name"),qS (findIn K (.ref 423) "amount"),qS (findIn K (.ref 423) "parts"),qS (findIn K (.ref 423) "way"),qS (findIn K (.ref 423) "most"),qS (findIn K (.ref 423) "least"),makesIn K 423&&keepIn K (.ref 423),yI 463 (nsIn K mainGlobals "Share"),plainGet K 463 Str.empty,hasDictIn K 463,plainOver K 463,jB "object.__setattr__" (findIn K (.ref 463) "__setattr__"),qS (findIn K (.ref 463) "name"),qS (findIn K (.ref 463) "amount"),qS (findIn K (.ref 463) "parts"),qS (findIn K (.ref 463) "way"),qS (findIn K (.ref 463) "most"),qS (findIn K (.ref 463) "least"),makesIn K 463&&keepIn K (.ref 463),yI 503 (nsIn K mainGlobals "Capped"),plainGet K 503 Str.empty,hasDictIn K 503,plainOver K 503,jB "object.__setattr__" (findIn K (.ref 503) "__setattr__"),qS (findIn K (.ref 503) "name"),qS (findIn K (.ref 503) "amount"),qS (findIn K (.ref 503) "parts"),qS (findIn K (.ref 503) "way"),qS (findIn K (.ref 503) "most"),qS (findIn K (.ref 503) "least"),makesIn K 503&&keepIn K (.ref 503),yI 543 (nsIn K mainGlobals "Least"),plainGet K 543 Str.empty,hasDictIn K 543,plainOver K 543,jB "object.__setattr__" (findIn K (.ref 543) "__setattr__"),qS (findIn K (.ref 543) "name"),qS (findIn K (.ref 543) "amount"),qS (findIn K (.ref 543) "parts"),qS (findIn K (.ref 543) "way"),qS (findIn K (.ref 543) "most"),qS (findIn K (.ref 543) "least"),makesIn K 543&&keepIn K (.ref 543),yI 591 (nsIn K mainGlobals "Bands"),plainGet K 591 Str.empty,hasDictIn K 591,plainOver K 591,jB "object.__setattr__" (findIn K (.ref 591) "__setattr__"),qS (findIn K (.ref 591) "name"),qS (findIn K (.ref 591) "bands"),qS (findIn K (.ref 591) "way"),qS (findIn K (.ref 591) "parts"),qS (findIn K (.ref 591) "within"),makesIn K 591&&keepIn K (.ref 591),yI 638 (nsIn K mainGlobals "OnTop"),plainGet K 638 Str.empty,hasDictIn K 638,plainOver K 638,jB "object.__setattr__" (findIn K (.ref 638) "__setattr__"),qS (findIn K (.ref 638) "name"),qS (findIn K (.ref 638) "bands"),qS (findIn K (.ref 638) "way"),qS (findIn K (.ref 638) "parts"),qS (findIn K (.ref 638) "within"),makesIn K 638&&keepIn K (.ref 638),jN true (exmOne K (.ref 61) (.ref 61)),jN false (exmOne K (.ref 97) (.ref 61)),jB "getset_descriptor.__get__" (specialIn K (.builtin "object.__class__") "__get__"),jN true (takesIn K (.builtin "object.__class__")),(!(Nat.beq 463 638)),jB "object.__class__" (findIn K (.ref 423) "__class__"),jN true (mroIn K 423 (.type "object")),jN true (kitOne K (.ref 423) (.ref 381)),jB "object.__class__" (findIn K (.ref 463) "__class__"),jN true (mroIn K 463 (.type "object")),jN true (kitOne K (.ref 463) (.ref 381)),jB "object.__class__" (findIn K (.ref 503) "__class__"),jN true (mroIn K 503 (.type "object")),jN true (kitOne K (.ref 503) (.ref 381)),jB "object.__class__" (findIn K (.ref 543) "__class__"),jN true (mroIn K 543 (.type "object")),jN true (kitOne K (.ref 543) (.ref 381)),jB "object.__class__" (findIn K (.ref 591) "__class__"),jN true (mroIn K 591 (.type "object")),jN true (kitOne K (.ref 591) (.ref 381)),jB "object.__class__" (findIn K (.ref 638) "__class__"),jN true (mroIn K 638 (.type "object")),jN true (kitOne K (.ref 638) (.ref 381))]
noncomputable def NP (K:Frag):=(hFs.map (fun x=>jG K (nsIn K mainGlobals x.1)),hMs.map (fun x=>jG K (findIn K (.ref x.1) x.2.1)),(MJ K).all id)
noncomputable def pR:=(hFs.map (fun x=>jF x.1 x.1 (zX x.2)),hMs.map (fun x=>jF x.2.1 x.2.2.1 (zH (zX x.2.2.2.1) x.2.2.2.2)),true)
noncomputable def bc (s:Shared):Bool:=xlAt hQ [] s&&recOk [] s
noncomputable def R7 (w:World) (s:Shared):=((staticsOk (importedModules PySem.Challenge.pw_coinroll_k10_rows_read.main.body) (boot_heap w.params) s.heap&&namesBound PySem.Challenge.pw_coinroll_k10_rows_read s.heap&&gensDone s&&laidKept (boot_heap w.params) s.heap),openSeen hQ [] (importedModules PySem.Challenge.pw_coinroll_k10_rows_read.main.body) bc true s,NP (jz G0 s.heap))
noncomputable def B6 (K:Frag):List Bool:=MJ K
noncomputable def hX (w:World) (os:OsState):Option SharedT:=(Oz (boot_heap w.params).objs.toList .nil 0).bind fun t=>(xH treeTable PySem.Challenge.pw_coinroll_k10_rows_read w 11 (some (.ref 6)) 7737 ⟨t,11,(boot_heap w.params).life,Array.mk [],boot_drawn,boot_toks,os⟩ (topStub PySem.Challenge.pw_coinroll_k10_rows_read))
noncomputable def Ph (w:World) (os:OsState):=(hX w os).map fun s=>(staticsOk (importedModules PySem.Challenge.pw_coinroll_k10_rows_read.main.body) (boot_heap w.params) s.abs.heap)&&((namesBound PySem.Challenge.pw_coinroll_k10_rows_read s.abs.heap&&gensDone s.abs&&laidKept (boot_heap w.params) s.abs.heap))
noncomputable def OV (_:World) (_:OsState):=some (true)
theorem xD:Ph=Ph:=rfl
theorem Rv:OV=OV:=rfl
noncomputable def PV (w:World) (os:OsState):=(hX w os).map fun s=>seen ((recsOf hQ).map (·.name)) (ownsOf hQ) [] { s.abs with gens:=#[] }
noncomputable def PQ (_:World) (_:OsState):=some (expectedOf hQ)
theorem Xc:PV=PV:=rfl
theorem xW:PQ=PQ:=rfl
noncomputable def O8 (w:World) (os:OsState):=(hX w os).map fun s=>s.abs.heap.bltView
noncomputable def PD (_:World) (_:OsState):=some (bltViewBooted)
theorem Xi:O8=O8:=rfl
theorem rA:PD=PD:=rfl
noncomputable def Oj (w:World) (os:OsState):=(hX w os).map fun s=>(s.abs.heap.keysOk (looseW hQ []) ((recsOf hQ).map (·.name)) ((litsOf hQ).map (·.1)) ((clssOf hQ (looseW hQ [])).map (·.name)))&&((s.abs.heap.accountedOkI (importedModules PySem.Challenge.pw_coinroll_k10_rows_read.main.body))&&((s.abs.heap.isNs mainGlobals&&s.abs.heap.isNs builtinsNs&&tablesOk hQ s.abs.heap&&bc s.abs&&(if true=true then s.abs.gens.size==0 else !leftWithCleanup s.abs.gens))))
noncomputable def OR (_:World) (_:OsState):=some (true)
theorem xF:Oj=Oj:=rfl
theorem Ra:OR=OR:=rfl
noncomputable def PM (w:World) (os:OsState):=(hX w os).map fun s=>(tabsOk hQ s.abs,pinSeenD hQ (drecsOf hQ) s.abs,plainSeenD hQ [] s.abs,clsSeenW hQ [] s.abs)
noncomputable def OH (_:World) (_:OsState):=some ((true,pinGoodD (drecsOf hQ),plainGoodD hQ [],clsGoodW hQ []))
theorem XJ:PM=PM:=rfl
theorem XA:OH=OH:=rfl
noncomputable def Oq (w:World) (os:OsState):=(hX w os).map fun s=>((plainsOf hQ (looseW hQ [])).take 10).map fun c=>s.abs.heap.plainShapeAt c.withCmp
noncomputable def lg (_:World) (_:OsState):=some (((plainsOf hQ (looseW hQ [])).take 10).map fun c=>some c.withCmp.plainShape)
theorem xK:Oq=Oq:=rfl
theorem Xk:lg=lg:=rfl
noncomputable def O9 (w:World) (os:OsState):=(hX w os).map fun s=>((plainsOf hQ (looseW hQ [])).drop 10).map fun c=>s.abs.heap.plainShapeAt c.withCmp
noncomputable def lX (_:World) (_:OsState):=some (((plainsOf hQ (looseW hQ [])).drop 10).map fun c=>some c.withCmp.plainShape)
theorem xT:O9=O9:=rfl
theorem xo:lX=lX:=rfl
noncomputable def xJ (w:World) (os:OsState):=(hX w os).map fun s=>(wdefsOf hQ).map fun d=>shapeAtK s.abs.heap d.1.name
noncomputable def W7 (_:World) (_:OsState):=some ((wdefsOf hQ).map fun d=>some d.1.shape)
theorem U7:xJ=xJ:=rfl
theorem Uc:W7=W7:=rfl
noncomputable def XD (w:World) (os:OsState):=(hX w os).map fun s=>((wdefsOf hQ).all fun d=>s.abs.heap.restOk (hQ.nameAt false d.1.name) d.1.name&&dfltAt s.abs.heap d)&&(wlitsOf hQ).all (constAt s.abs.heap)
noncomputable def Xm (_:World) (_:OsState):=some (true)
theorem Ui:XD=XD:=rfl
theorem Ng:Xm=Xm:=rfl
noncomputable def xB (w:World) (os:OsState):=(hX w os).map fun s=>((hFs.drop 0).take 80).map (fun x=>jG (jQ G0 s) (nsIn (jQ G0 s) mainGlobals x.1))
noncomputable def Xa (_:World) (_:OsState):=some (((hFs.drop 0).take 80).map (fun x=>jF x.1 x.1 (zX x.2)))
theorem UI:xB=xB:=rfl
theorem Wr:Xa=Xa:=rfl
noncomputable def Xf (w:World) (os:OsState):=(hX w os).map fun s=>hMs.map (fun x=>jG (jQ G0 s) (findIn (jQ G0 s) (.ref x.1) x.2.1))
noncomputable def xb (_:World) (_:OsState):=some (hMs.map (fun x=>jF x.2.1 x.2.2.1 (zH (zX x.2.2.2.1) x.2.2.2.2)))
theorem Wa:Xf=Xf:=rfl
theorem UO:xb=xb:=rfl
noncomputable def Xg (w:World) (os:OsState):=(hX w os).map fun s=>(B6 (jQ G0 s)).all id
noncomputable def xC (_:World) (_:OsState):=some (true)
theorem UY:Xg=Xg:=rfl
theorem Nf:xC=xC:=rfl
end K10
noncomputable def PySem.W.Fast.tw9406380692708738437:PySem.Program:=by
 refine' (?g:(s:PySem.Program)→PySem.Challenge.pw_coinroll_k10_rows_read=s→PySem.Program) _ ?pf
 case g=>exact fun s _=>s
 case pf =>
  unfold PySem.Challenge.pw_coinroll_k10_rows_read
  simp only[PySem.Str.ofString_eq_byList,PySem.Str.ofStringByList,String.reduceToList,CF,↓Char.isValue,Char.reduceToNat,dJ]
  rfl
theorem PySem.W.Fast.te9406380692708738437:PySem.Challenge.pw_coinroll_k10_rows_read=PySem.W.Fast.tw9406380692708738437:=by kernel_rfl
lay_quick L2.xH K10.zX
name_quick hRunQ0 for K10.Ph by K10.xD
name_quick hRunQ2 for K10.PV by K10.Xc
name_quick hEndQ2 for K10.PQ by K10.xW
name_quick hRunQ3 for K10.O8 by K10.Xi
name_quick hRunQ4 for K10.Oj by K10.xF
name_quick hRunQ7 for K10.PM by K10.XJ
name_quick hEndQ7 for K10.OH by K10.XA
name_quick hRunQ8 for K10.Oq by K10.xK
name_quick hEndQ8 for K10.lg by K10.Xk
name_quick hRunQ9 for K10.O9 by K10.xT
name_quick hEndQ9 for K10.lX by K10.xo
name_quick hRunQ10 for K10.xJ by K10.U7
name_quick hEndQ10 for K10.W7 by K10.Uc
name_quick hRunQ11 for K10.XD by K10.Ui
name_quick hRunQ12 for K10.xB by K10.UI
name_quick hEndQ12 for K10.Xa by K10.Wr
name_quick hRunQ13 for K10.Xf by K10.Wa
name_quick hEndQ13 for K10.xb by K10.UO
name_quick hRunQ14 for K10.Xg by K10.UY
namespace K10
open PySem PySem.W PySem.Calls PyProof.Rows L2
theorem Rx:Fast.hRunQ0=OV:=by kernel_rfl
theorem RH:Fast.hRunQ2=Fast.hEndQ2:=by kernel_rfl
theorem rS:Fast.hRunQ3=PD:=by kernel_rfl
theorem Rc:Fast.hRunQ4=OR:=by kernel_rfl
theorem rW:Fast.hRunQ7=Fast.hEndQ7:=by kernel_rfl
theorem RB:Fast.hRunQ8=Fast.hEndQ8:=by kernel_rfl
theorem NQ:Fast.hRunQ9=Fast.hEndQ9:=by kernel_rfl
theorem mI:Fast.hRunQ10=Fast.hEndQ10:=by kernel_rfl
theorem LK:Fast.hRunQ11=Xm:=by kernel_rfl
theorem M7:Fast.hRunQ12=Fast.hEndQ12:=by kernel_rfl
theorem LF:Fast.hRunQ13=Fast.hEndQ13:=by kernel_rfl
theorem Lx:Fast.hRunQ14=xC:=by kernel_rfl
theorem TV:LeftO PySem.Challenge.pw_coinroll_k10_rows_read hQ [] bc (fun s=>NP (jz G0 s.heap)) (fun _=>pR) 7737:=by
 refine Gz (M:=7737) (m:=11) (ann:=some (.ref 6)) (by kernel_rfl) (by kernel_rfl) (fun s=>by kernel_rfl) (by kernel_rfl) (fun w=>by kernel_rfl) fun w os=>?_
 obtain⟨s,es,e0⟩:=Cu.mp (show (hX w os).map _=some _ from congrFun (congrFun (Fast.hRunQ0_eq.trans Rx) w) os)
 obtain⟨s2,es2,e2⟩:=Cu.mp (show (hX w os).map _=some _ from congrFun (congrFun (Fast.hRunQ2_eq.trans (RH.trans Fast.hEndQ2_eq.symm)) w) os)
 obtain rfl:s=s2:=Option.some.inj (es.symm.trans es2)
 obtain⟨s3,es3,e3⟩:=Cu.mp (show (hX w os).map _=some _ from congrFun (congrFun (Fast.hRunQ3_eq.trans rS) w) os)
 obtain rfl:s=s3:=Option.some.inj (es.symm.trans es3)
 obtain⟨s4,es4,e4⟩:=Cu.mp (show (hX w os).map _=some _ from congrFun (congrFun (Fast.hRunQ4_eq.trans Rc) w) os)
 obtain rfl:s=s4:=Option.some.inj (es.symm.trans es4)
 obtain⟨s7,es7,e7⟩:=Cu.mp (show (hX w os).map _=some _ from congrFun (congrFun (Fast.hRunQ7_eq.trans (rW.trans Fast.hEndQ7_eq.symm)) w) os)
 obtain rfl:s=s7:=Option.some.inj (es.symm.trans es7)
 obtain⟨s8,es8,e8⟩:=Cu.mp (show (hX w os).map _=some _ from congrFun (congrFun (Fast.hRunQ8_eq.trans (RB.trans Fast.hEndQ8_eq.symm)) w) os)
 obtain rfl:s=s8:=Option.some.inj (es.symm.trans es8)
 obtain⟨s9,es9,e9⟩:=Cu.mp (show (hX w os).map _=some _ from congrFun (congrFun (Fast.hRunQ9_eq.trans (NQ.trans Fast.hEndQ9_eq.symm)) w) os)
 obtain rfl:s=s9:=Option.some.inj (es.symm.trans es9)
 obtain⟨s10,es10,e10⟩:=Cu.mp (show (hX w os).map _=some _ from congrFun (congrFun (Fast.hRunQ10_eq.trans (mI.trans Fast.hEndQ10_eq.symm)) w) os)
 obtain rfl:s=s10:=Option.some.inj (es.symm.trans es10)
 obtain⟨s11,es11,e11⟩:=Cu.mp (show (hX w os).map _=some _ from congrFun (congrFun (Fast.hRunQ11_eq.trans LK) w) os)
 obtain rfl:s=s11:=Option.some.inj (es.symm.trans es11)
 obtain⟨s12,es12,e12⟩:=Cu.mp (show (hX w os).map _=some _ from congrFun (congrFun (Fast.hRunQ12_eq.trans (M7.trans Fast.hEndQ12_eq.symm)) w) os)
 obtain rfl:s=s12:=Option.some.inj (es.symm.trans es12)
 obtain⟨s13,es13,e13⟩:=Cu.mp (show (hX w os).map _=some _ from congrFun (congrFun (Fast.hRunQ13_eq.trans (LF.trans Fast.hEndQ13_eq.symm)) w) os)
 obtain rfl:s=s13:=Option.some.inj (es.symm.trans es13)
 obtain⟨s14,es14,e14⟩:=Cu.mp (show (hX w os).map _=some _ from congrFun (congrFun (Fast.hRunQ14_eq.trans Lx) w) os)
 obtain rfl:s=s14:=Option.some.inj (es.symm.trans es14)
 obtain⟨e0,e1⟩:=dw.mp e0
 obtain⟨e4,e5⟩:=dw.mp e4
 obtain⟨e5,e6⟩:=dw.mp e5
 have ey:(MJ (jz G0 s.abs.heap)).all id=true:=by
  rw[uW]
  show (B6 (jQ G0 s)).all id=true
  try simp only[DM,cQ]
  exact e14
 have el:R7 w s.abs=(true,openGood hQ [],pR):=by
  have a1:(staticsOk (importedModules PySem.Challenge.pw_coinroll_k10_rows_read.main.body) (boot_heap w.params) s.abs.heap&&namesBound PySem.Challenge.pw_coinroll_k10_rows_read s.abs.heap&&gensDone s.abs&&laidKept (boot_heap w.params) s.abs.heap)=true:=by
   have e1:=e1
   simp only[cQ] at e1 ⊢
   exact⟨⟨⟨e0,e1.1.1⟩,e1.1.2⟩,e1.2⟩
  have ab:(s.abs.heap.keysOk (looseW hQ []) ((recsOf hQ).map (·.name)) ((litsOf hQ).map (·.1)) ((clssOf hQ (looseW hQ [])).map (·.name))&&s.abs.heap.accountedOkI (importedModules PySem.Challenge.pw_coinroll_k10_rows_read.main.body)&&s.abs.heap.isNs mainGlobals&&s.abs.heap.isNs builtinsNs&&tablesOk hQ s.abs.heap&&bc s.abs&&(if true=true then s.abs.gens.size==0 else !leftWithCleanup s.abs.gens))=true:=by
   have e6:=e6
   simp only[cQ] at e6 ⊢
   obtain⟨⟨⟨⟨g1,g2⟩,g3⟩,g4⟩,g5⟩:=e6
   exact⟨⟨⟨⟨⟨⟨e4,e5⟩,g1⟩,g2⟩,g3⟩,g4⟩,g5⟩
  have e8:=congr (congrArg HAppend.hAppend e8) e9
  rw[← Ci,← Ci,DN] at e8
  have a2:openSeen hQ [] (importedModules PySem.Challenge.pw_coinroll_k10_rows_read.main.body) bc true s.abs=openGood hQ []:=congr (congrArg Prod.mk e2) (congr (congrArg Prod.mk e3) (congr (congrArg Prod.mk ab) (congr (congrArg Prod.mk (congrArg Prod.fst e7)) (congr (congrArg Prod.mk (congrArg (fun z=>z.2.1) e7)) (congr (congrArg Prod.mk e8) (congr (congrArg Prod.mk (congrArg (fun z=>z.2.2.1) e7)) (congr (congrArg Prod.mk (congr (congrArg Prod.mk e10) e11)) (congrArg (fun z=>z.2.2.2) e7))))))))
  have e12:((hFs.drop 0).take 80).map (fun x=>jG (jz G0 s.abs.heap) (nsIn (jz G0 s.abs.heap) mainGlobals x.1))=((hFs.drop 0).take 80).map (fun x=>jF x.1 x.1 (zX x.2)):=by rw[uW];exact e12
  have e13:hMs.map (fun x=>jG (jz G0 s.abs.heap) (findIn (jz G0 s.abs.heap) (.ref x.1) x.2.1))=hMs.map (fun x=>jF x.2.1 x.2.2.1 (zH (zX x.2.2.2.1) x.2.2.2.2)):=by rw[uW];exact e13
  have ef:=e12
  try simp only[← Ci] at ef
  rw[show (hFs.drop 0).take 80=hFs by kernel_rfl] at ef
  exact congr (congrArg Prod.mk a1) (congr (congrArg Prod.mk a2) (congr (congrArg Prod.mk ef) (congr (congrArg Prod.mk e13) ey)))
 unfold Oo
 obtain⟨t,ht,hs⟩:=eG.mp es
 rw[ht]
 show (xH _ _ w _ _ _ _ _).map _=_
 rw[hs]
 exact congrArg some el
end K10
namespace L2
open PySem PySem.Spec PyProof.Rows
noncomputable def P6:Expr→Bool
 | .Starred _ _=>true
 | _=>false
theorem z7 {e:Expr} {es:List Expr} {env:Env} (h:P6 e=false):starEach (e::es) env=(false,eval e env)::starEach es env:=by
 cases e <;> first | rfl | cases h
theorem yC {env:Env} {pos:Pos}:∀ {es:List Expr},es.all (fun e=>!P6 e)=true→(backTo pos (starEach es env)).any (·.1)=false
 | [],_=>rfl
 | e::es,h=>by
  rw[dM,cQ,dz] at h
  rw[z7 h.1]
  show (false || (backTo pos (starEach es env)).any (·.1))=false
  rw[CZ]
  exact yC h.2
abbrev jZ:=Sum Int Str
noncomputable def JC:jZ→Value→Bool
 | .inl k,v=>Value.isInt k v
 | .inr x,v=>Value.isStrOf x v
noncomputable def bG (w:World):jZ→Int
 | .inl k=>hashInt k
 | .inr x=>hashStr w x
theorem yj:∀ {k:jZ} {v:Value},JC k v=true→(∃ i t,k=Sum.inl i∧v=Value.int i t)∨(∃ x t,k=Sum.inr x∧v=Value.str x t)
 | .inl i,v,h=>by
  obtain⟨t,e⟩:=Value.isInt_shape (k:=i) (v:=v) h
  exact .inl ⟨i,t,rfl,e⟩
 | .inr x,v,h=>by
  obtain⟨t,e⟩:=Value.isStrOf_shape (x:=x) (v:=v) h
  exact .inr ⟨x,t,rfl,e⟩
theorem Gh (i:Int) (t:Tok):JC (.inl i) (.int i t)=true:=by simp[JC,Value.isInt]
theorem ot (x:Str) (t:Tok):JC (.inr x) (.str x t)=true:=by simp[JC,Value.isStrOf]
theorem ND (a b:Int):decide ((Sum.inl a:jZ)=Sum.inl b)=(a==b):=by
 by_cases e:a=b
 ·subst e;simp
 ·have h:¬ (Sum.inl a:jZ)=Sum.inl b:=fun q=>e (Sum.inl.inj q)
  rw[decide_eq_false h]
  exact (beq_eq_false_iff_ne.mpr e).symm
theorem rQ (a b:Str):decide ((Sum.inr a:jZ)=Sum.inr b)=decide (a=b):=by
 by_cases e:a=b
 ·subst e;simp
 ·have h:¬ (Sum.inr a:jZ)=Sum.inr b:=fun q=>e (Sum.inr.inj q)
  rw[decide_eq_false h,decide_eq_false e]
theorem rM (a:Int) (b:Str):decide ((Sum.inl a:jZ)=Sum.inr b)=false:=decide_eq_false (fun q=>nomatch q)
theorem NH (a:Str) (b:Int):decide ((Sum.inr a:jZ)=Sum.inl b)=false:=decide_eq_false (fun q=>nomatch q)
noncomputable def ym (prog:Program) (w:World):PySem.KeyKind prog w jZ where
 is:=JC
 hash:=bG w
 inj:=fun v a b ha hb=>by
  rcases yj ha with ⟨i,t,rfl,rfl⟩ | ⟨x,t,rfl,rfl⟩
  ·rcases yj hb with ⟨j,u,rfl,e⟩ | ⟨y,u,rfl,e⟩
   ·injection e with e1 _;rw[e1]
   ·exact nomatch e
  ·rcases yj hb with ⟨j,u,rfl,e⟩ | ⟨y,u,rfl,e⟩
   ·exact nomatch e
   ·injection e with e1 _;rw[e1]
 byValue:=fun k v h=>by
  rcases yj h with ⟨i,t,rfl,rfl⟩ | ⟨x,t,rfl,rfl⟩ <;> rfl
 pyHash:=fun hv h=>by
  rcases yj hv with ⟨i,t,rfl,rfl⟩ | ⟨x,t,rfl,rfl⟩
  ·exact wpAny_pyHash_int h
  ·exact wpAny_pyHash_str h
 eqBool:=fun hu hv h=>by
  rcases yj hu with ⟨i,t,rfl,rfl⟩ | ⟨x,t,rfl,rfl⟩
  ·rcases yj hv with ⟨j,u,rfl,rfl⟩ | ⟨y,u,rfl,rfl⟩
   ·rw[ND] at h;exact wpAny_eqBool_int h
   ·rw[rM] at h;exact SeqAt.EqAt.int_str i t y u _ _ _ _ h
  ·rcases yj hv with ⟨j,u,rfl,rfl⟩ | ⟨y,u,rfl,rfl⟩
   ·rw[NH] at h;exact SeqAt.EqAt.str_int x t j u _ _ _ _ h
   ·rw[rQ] at h;exact wpAny_eqBool_str h
 «strs»:=fun k x t v h=>by
  rcases yj h with ⟨i,u,rfl,e⟩ | ⟨y,u,rfl,e⟩
  ·exact nomatch e
  ·injection e with e1 _
   subst e1
   cases v <;> rfl
theorem Us (prog:Program) (w:World) (i:Int) (t:Tok):(ym prog w).is (.inl i) (.int i t)=true:=Gh i t
theorem V4 (prog:Program) (w:World) (x:Str) (t:Tok):(ym prog w).is (.inr x) (.str x t)=true:=ot x t
inductive V where
 | non | bl (b:Bool) | int (i:Int) | str (x:Str) | byt (b:Array UInt8) | flt (b:UInt64) | ref (a:Addr) | ty (n:String)
 deriving DecidableEq
noncomputable def qG:V→Value→Prop
 | .non,u=>u=Value.none
 | .bl b,u=>u=Value.bool b
 | .int i,u=>∃ t,u=Value.int i t
 | .str x,u=>∃ t,u=Value.str x t
 | .byt b,u=>∃ t,u=Value.bytes b t
 | .flt b,u=>∃ t,u=Value.float b t
 | .ref a,u=>u=Value.ref a
 | .ty n,u=>u=Value.type n
abbrev qt:List V→List Value→Prop:=Paired qG
theorem qt.length {xs:List V} {us:List Value} (r:qt xs us):xs.length=us.length:=Paired.length r
theorem qt.get:∀ {xs:List V} {us:List Value} {i:Nat} {x:V},qt xs us→xs[i]? = some x→∃ u,us[i]? = some u∧qG x u
 | _,_,_,_,.nil,e=>by simp at e
 | _,_,0,_,.cons r _,e=>by simp at e;subst e;exact⟨_,rfl,r⟩
 | _,_,i+1,x,.cons _ t,e=>by
  obtain⟨u,h1,h2⟩:=qt.get (i:=i) (x:=x) t (by simpa using e)
  exact⟨u,by simpa using h1,h2⟩
theorem qt.append:∀ {xs ys:List V} {us ws:List Value},qt xs us→qt ys ws→qt (xs++ys) (us++ws)
 | _,_,_,_,.nil,s=>s
 | _,_,_,_,.cons r t,s=>.cons r (qt.append t s)
theorem qt.take:∀ {xs:List V} {us:List Value} (n:Nat),qt xs us→qt (xs.take n) (us.take n)
 | _,_,0,_=>.nil
 | _,_,_+1,.nil=>.nil
 | _,_,n+1,.cons r t=>.cons r (qt.take n t)
theorem qt.drop:∀ {xs:List V} {us:List Value} (n:Nat),qt xs us→qt (xs.drop n) (us.drop n)
 | _,_,0,r=>r
 | _,_,_+1,.nil=>.nil
 | _,_,n+1,.cons _ t=>qt.drop n t
noncomputable def kN:Option V→Option Value→Prop
 | some v,some u=>qG v u
 | none,none=>True
 | _,_=>False
noncomputable def KV {κ:Type}:List (κ × V)→List (κ × Value)→Prop:=Paired fun (p:κ × V) (q:κ × Value)=>p.1=q.1∧qG p.2 q.2
noncomputable def kV:jZ→V
 | .inl i=>.int i
 | .inr x=>.str x
inductive HO where
 | lst (xs:List V)
 | tup (xs:List V)
 | dK (kvs:List (jZ × V)) | dT (kvs:List (List jZ × V))
 | set (S:Int→Bool) (n:Nat)
 | ins (C dx:Addr) (fs:List (Str × V))
 | own (x:Addr)
 | xd (fs:List (Str × V))
 | met (f x:Addr)
 | rng (lo hi:Int)
 | frz (o:Obj) (u:HO)
 | tbl (ps:Array Value)
 | ext (φ:Heap→Prop)
abbrev Hp:=Addr→Option HO
noncomputable def upd (H:Hp) (a:Addr) (o:HO):Hp:=fun b=>if b=a then some o else H b
theorem zq {H:Hp} {a:Addr} {o:HO}:upd H a o a=some o:=by unfold upd;rw[if_pos rfl]
theorem zG {H:Hp} {a b:Addr} {o:HO} (h:b≠a):upd H a o b=H b:=by unfold upd;rw[if_neg h]
theorem X1 {H:Hp} {a:Addr} {o u:HO}:upd (upd H a o) a u=upd H a u:=by
 funext b;unfold upd;split <;> rfl
theorem vQ {H:Hp} {a b:Addr} {o u:HO} (h:H a=some o) (h':H b=some u) (d:o≠u):a≠b:=by
 intro e;subst e;rw[h] at h';exact d (Option.some.inj h')
theorem zP {H:Hp} {a b:Addr} {o:HO} (h:H a=some o) (h':H b=none):a≠b:=by
 intro e;subst e;rw[h] at h';cases h'
section
variable (P:Program) (w:World)
noncomputable def yi (H:Hp) (h:Heap) (a:Addr):HO→Prop
 | .lst xs=>xs.length≤sizeLine∧∃ (its:List Value) (n:Nat),qt xs its∧h.get? a=some { cls:=.type "list",data:=.seq its.toArray n }
 | .tup xs=>xs.length≤sizeLine∧∃ its:List Value,qt xs its∧IsTup h a its.toArray
 | .dK kvs=>kvs.length≤sizeLine∧(a==sysModules)=false∧∃ vs,KV kvs vs∧h.DictOf (ym P w) a vs
 | .dT kvs=>kvs.length≤sizeLine∧(a==sysModules)=false∧∃ xs:List (List jZ × Addr × Value),
   Paired (fun (p:List jZ × V) (q:List jZ × Addr × Value)=>p.1=q.1∧H q.2.1=some (.tup (p.1.map kV))∧qG p.2 q.2.2) kvs xs ∧
   ∃ o es ep,h.get? a=some o∧o.ExactDict∧o.data = .dict es ep∧es.toList=xs.map (entryOfKey (tupleKind (ym P w)))∧(xs.map (·.1)).Nodup
 | .set S n=>h.SetOf (intKind P w) a S n
 | .ins C dx fs=>H dx=some (.own a)∧fs.length≤1000∧dx≠a∧h.get? a=some (PySem.W.instObj C dx) ∧
   ∃ mA,h.Ns1 dx mA∧(∀ f,kN (fs.lookup f) (mA f))∧PySem.Within mA (fs.map (·.1))
 | .own _=>∃ o,h.get? a=some o
 | .xd fs=>∃ mA,h.Ns1 a mA∧∀ f,kN (fs.lookup f) (mA f)
 | .rng lo hi=>∃ t u v,h.get? a=some { cls:=.type "range",data:=.fields #[.int lo t,.int hi u,.int 1 v] }
 | .frz o u=>h.get? a=some o∧yi H h a u
 | .tbl ps=>h.get? a=some { cls:=.none,data:=.fields ps }
 | .met f x=>h.get? a=some (PySem.W.methodObj (.ref f) (.ref x))
 | .ext φ=>φ h∧(∃ o,h.get? a=some o)∧∀ h1 h2:Heap,φ h1→(∀ o,h1.get? a=some o→h2.get? a=some o)→φ h2
noncomputable def kc (H:Hp) (h:Heap):Prop:=∀ a o,H a=some o→yi P w H h a o
end
section
variable {P:Program} {w:World} {H H':Hp} {h h':Heap} {a:Addr} {o:HO}
theorem yi.lt (x:yi P w H h a o):a<h.objs.size:=by
 cases o with
 | lst xs=>obtain⟨_,_,_,_,e⟩:=x;exact cV e
 | tup xs=>obtain⟨_,_,_,p⟩:=x;exact p.lt
 | dK kvs=>obtain⟨_,_,_,_,o,_,_,e,_⟩:=x;exact cV e
 | dT kvs=>obtain⟨_,_,_,_,o,_,_,e,_⟩:=x;exact cV e
 | set S n=>obtain⟨o,_,_,_,e,_⟩:=x;exact cV e
 | ins C dx fs=>obtain⟨_,_,_,e,_⟩:=x;exact cV e
 | own y=>obtain⟨_,e⟩:=x;exact cV e
 | xd fs=>obtain⟨_,⟨_,_,_,e,_⟩,_⟩:=x;exact cV e
 | rng lo hi=>obtain⟨_,_,_,e⟩:=x;exact cV e
 | frz ob u=>obtain⟨e,_⟩:=x;exact cV e
 | tbl ps=>exact cV (show h.get? a=some _ from x)
 | met f y=>exact cV (show h.get? a=some _ from x)
 | ext φ=>obtain⟨_,⟨_,e⟩,_⟩:=x;exact cV e
theorem Paired.mapP {α β:Type} {F G:α→β→Prop}:∀ {l₁:List α} {l₂:List β},Paired F l₁ l₂→(∀ a b,F a b→G a b)→Paired G l₁ l₂
 | _,_,.nil,_=>.nil
 | _,_,.cons r t,f=>.cons (f _ _ r) (Paired.mapP t f)
theorem yi.stay (x:yi P w H h a o) (k:∀ b u,(b=a∨H b=some (.own a))→h.get? b=some u→h'.get? b=some u) (ho:∀ b,H b=some (.own a)→H' b=some (.own a)) (ht:∀ b xs,H b=some (.tup xs)→H' b=some (.tup xs)):yi P w H' h' a o:=by
 induction o with
 | lst xs=>obtain⟨z,its,n,r,e⟩:=x;exact⟨z,its,n,r,k _ _ (.inl rfl) e⟩
 | tup xs=>obtain⟨z,its,r,ob,e,c⟩:=x;exact⟨z,its,r,ob,k _ _ (.inl rfl) e,c⟩
 | dK kvs=>obtain⟨z,y,vs,r,ob,es,ep,e,c⟩:=x;exact⟨z,y,vs,r,ob,es,ep,k _ _ (.inl rfl) e,c⟩
 | dT kvs =>
  obtain⟨z,y,xs,r,ob,es,ep,e,c⟩:=x
  exact⟨z,y,xs,Paired.mapP r fun p q z=>⟨z.1,ht _ _ z.2.1,z.2.2⟩,ob,es,ep,k _ _ (.inl rfl) e,c⟩
 | set S n=>obtain⟨ob,es,ep,t,e,c⟩:=x;exact⟨ob,es,ep,t,k _ _ (.inl rfl) e,c⟩
 | ins C dx fs =>
  obtain⟨d,z,ne,e,mA,⟨od,es,ep,e2,c⟩,r⟩:=x
  exact⟨ho _ d,z,ne,k _ _ (.inl rfl) e,mA,⟨od,es,ep,k _ _ (.inr d) e2,c⟩,r⟩
 | own y=>obtain⟨ob,e⟩:=x;exact⟨ob,k _ _ (.inl rfl) e⟩
 | xd fs=>obtain⟨mA,⟨od,es,ep,e,c⟩,r⟩:=x;exact⟨mA,⟨od,es,ep,k _ _ (.inl rfl) e,c⟩,r⟩
 | rng lo hi=>obtain⟨t,u,v,e⟩:=x;exact⟨t,u,v,k _ _ (.inl rfl) e⟩
 | frz ob u ih=>obtain⟨e,q⟩:=x;exact⟨k _ _ (.inl rfl) e,ih q⟩
 | tbl ps =>
  have e:h.get? a=some { cls:=.none,data:=.fields ps }:=x
  show h'.get? a=some { cls:=.none,data:=.fields ps }
  exact k a _ (.inl rfl) e
 | met f y =>
  have e:h.get? a=some (PySem.W.methodObj (.ref f) (.ref y)):=x
  show h'.get? a=some (PySem.W.methodObj (.ref f) (.ref y))
  exact k a _ (.inl rfl) e
 | ext φ=>obtain⟨p,⟨o,e⟩,st⟩:=x;exact⟨st _ _ p fun o q=>k _ _ (.inl rfl) q,⟨o,k _ _ (.inl rfl) e⟩,st⟩
theorem kc.lt (x:kc P w H h) (e:H a=some o):a<h.objs.size:=(x a o e).lt
theorem kc.fresh (x:kc P w H h) (e:h.objs.size≤a):H a=none:=by
 cases q:H a with
 | none=>rfl
 | some u=>exact absurd (CJ (x.lt q) e) (Dc _)
theorem kc.kept (x:kc P w H h) (k:∀ b u,h.get? b=some u→h'.get? b=some u):kc P w H h':=fun a o e =>
 (x a o e).stay (fun b u _ q=>k b u q) (fun _ q=>q) fun _ _ q=>q
theorem kc.laid (x:kc P w H h) (k:∀ b u,h.get? b=some u→h'.get? b=some u) (hp:h.objs.size≤a) (new:yi P w (upd H a o) h' a o):kc P w (upd H a o) h':=fun b u e=>by
 have hn:=x.fresh hp
 by_cases hb:b=a
 ·subst hb;rw[zq] at e;cases e;exact new
 ·rw[zG hb] at e
  exact (x b u e).stay (fun c v _ q=>k c v q) (fun c q=>by rw[zG (zP q hn)];exact q) fun c xs q=>by rw[zG (zP q hn)];exact q
end
noncomputable def Rd (H:Hp) (a:Addr) (u:HO):Prop:=H a=some u∨∃ o,H a=some (.frz o u)
theorem Rd.ok {P:Program} {w:World} {H:Hp} {h:Heap} {a:Addr} {u:HO} (r:Rd H a u) (x:kc P w H h):yi P w H h a u:=by
 rcases r with r | ⟨o,r⟩
 ·exact x a u r
 ·obtain⟨_,q⟩:=x a _ r
  exact q
noncomputable def TL:Option HO→Prop
 | some (.lst _)=>True
 | some (.dK _)=>True
 | some (.dT _)=>True
 | some (.set _ _)=>True
 | some (.ins _ _ _)=>True
 | some (.ext _)=>True
 | _=>False
section
variable {P:Program} {w:World} {H:Hp} {h h':Heap} {x e:Addr} {o':HO}
theorem kc.write (ok:kc P w H h) (mu:TL (H x)) (he:e=x∨H e=some (.own x)) (k:∀ b u,b≠e→h.get? b=some u→h'.get? b=some u) (heo:∃ u,h'.get? e=some u) (new:yi P w (upd H x o') h' x o'):kc P w (upd H x o') h':=fun b u q=>by
 have nown:∀ c y,H c=some (.own y)→c≠x:=fun c y r z=>by subst z;rw[r] at mu;exact mu
 have ntup:∀ c xs,H c=some (.tup xs)→c≠x:=fun c xs r z=>by subst z;rw[r] at mu;exact mu
 by_cases hb:b=x
 ·subst hb;rw[zq] at q;cases q;exact new
 ·rw[zG hb] at q
  by_cases hbe:b=e
  ·have q':H b=some (.own x):=by
    rcases he with z | z
    ·exact absurd (hbe.trans z) hb
    ·rw[hbe];exact z
   rw[q] at q';cases q'
   obtain⟨v,hv⟩:=heo
   exact⟨v,by rw[hbe];exact hv⟩
  ·refine (ok b u q).stay (fun c v hc r=>k c v ?_ r) (fun c r=>by rw[zG (nown c b r)];exact r) fun c xs r=>by rw[zG (ntup c xs r)];exact r
   rcases hc with rfl | hc
   ·exact hbe
   ·rintro rfl
    rcases he with z | z
    ·exact nown c b hc z
    ·rw[hc] at z;cases z;exact hb rfl
end
structure Un (fs ex:List Addr) (H H':Hp) (h h':Heap):Prop where
 keep:∀ b o,h.get? b=some o→H b=none→b∉fs→b∉ex→h'.get? b=some o
 slot:∀ b o,h.get? b=some o→H b=none→b∈fs→b∉ex→∃ sl,h'.get? b=some { o with slots:=sl }
 free:∀ b o,h.get? b=some o→H b=none→b∉ex→H' b=none
 there:∀ b o,h.get? b=some o→b∉ex→∃ o',h'.get? b=some o'
 tups:∀ b xs,H b=some (.tup xs)→H' b=some (.tup xs)
 frzs:∀ b o u,H b=some (.frz o u)→H' b=some (.frz o u)
 tbls:∀ b ps,H b=some (.tbl ps)→∃ more,H' b=some (.tbl (ps++more))
section
variable {fs fs' ex ex':List Addr} {H H1 H2:Hp} {h h1 h2 h':Heap} {a x e:Addr} {o:HO}
theorem Un.any (u:Un fs ex H H1 h h1) {b:Addr} {ob:Obj} (q:h.get? b=some ob) (n:H b=none) (hx:b∉ex):∃ sl,h1.get? b=some { ob with slots:=sl }:=by
 by_cases hb:b∈fs
 ·exact u.slot b ob q n hb hx
 ·exact⟨ob.slots,u.keep b ob q n hb hx⟩
theorem Un.kept (k:∀ b u,h.get? b=some u→h'.get? b=some u):Un fs ex H H h h' :=
 ⟨fun b ob q _ _ _=>k b ob q,fun b ob q _ _ _=>⟨ob.slots,k b ob q⟩,fun _ _ _ n _=>n,fun b ob q _=>⟨ob,k b ob q⟩,fun _ _ q=>q,fun _ _ _ q=>q,fun _ ps q=>⟨#[],by rw[q];simp⟩⟩
theorem Un.refl:Un fs ex H H h h:=Un.kept fun _ _ q=>q
theorem Un.laid (k:∀ b u,h.get? b=some u→h'.get? b=some u) (hp:h.objs.size≤a) (hn:H a=none):Un fs ex H (upd H a o) h h' where
 keep:=fun b u q _ _ _=>k b u q
 slot:=fun b u q _ _ _=>⟨u.slots,k b u q⟩
 free:=fun b u q n _=>by rw[zG (Cc (CJ (cV q) hp))];exact n
 there:=fun b u q _=>⟨u,k b u q⟩
 tups:=fun b xs q=>by rw[zG (zP q hn)];exact q
 frzs:=fun b u xs q=>by rw[zG (zP q hn)];exact q
 tbls:=fun b ps q=>⟨#[],by rw[zG (zP q hn),q];simp⟩
theorem Un.write (mu:TL (H x)) (he:e=x∨H e=some (.own x)) (k:∀ b u,b≠e→h.get? b=some u→h'.get? b=some u) (heo:∃ u,h'.get? e=some u):Un fs ex H (upd H x o) h h':=by
 have hx:∀ b,H b=none→b≠x:=fun b n z=>by subst z;rw[n] at mu;exact mu
 have hb:∀ b,H b=none→b≠e:=fun b n z=>by
  subst z
  rcases he with r | r
  ·exact hx b n r
  ·rw[n] at r;cases r
 have hm:∀ b u,H b=some u→¬ TL (some u)→b≠x:=fun b u q nm z=>by subst z;rw[q] at mu;exact nm mu
 refine⟨fun b u q n _ _=>k b u (hb b n) q,fun b u q n _ _=>⟨u.slots,k b u (hb b n) q⟩,fun b u q n _=>by rw[zG (hx b n)];exact n,fun b u q _=>?_,
  fun b xs q=>by rw[zG (hm b _ q fun z=>z)];exact q,fun b u xs q=>by rw[zG (hm b _ q fun z=>z)];exact q,fun b ps q=>⟨#[],by rw[zG (hm b _ q fun z=>z),q];simp⟩⟩
 by_cases hbe:b=e
 ·subst hbe;exact heo
 ·exact⟨u,k b u hbe q⟩
end
noncomputable def bu (h:Heap) (H:Hp):List Addr:=(List.range h.objs.size).filter fun a=>(H a).isSome
noncomputable def Vb (h:Heap) (H:Hp):Heap:=PySem.W.hideAll h (bu h H)
theorem GP (h:Heap) (H:Hp):(Vb h H).objs.size=h.objs.size:=PySem.W.hideAll_size _ _
theorem pX {h:Heap} {H:Hp} {b:Addr} {o:Obj} (e:h.get? b=some o) (n:H b=none):(Vb h H).get? b=some o :=
 PySem.W.hideAll_get _ e fun hm=>by
  have q:(H b).isSome=true:=(List.mem_filter.mp hm).2
  rw[n] at q;simp at q
theorem Mj {h:Heap} {H:Hp} {b:Addr} {o:Obj} (e:(Vb h H).get? b=some o):h.get? b=some o∧H b=none:=by
 have e':h.get? b=some o:=PySem.W.of_hideAll (bu h H) e
 refine⟨e',?_⟩
 cases q:H b with
 | none=>rfl
 | some x =>
  have hm:b∈bu h H:=List.mem_filter.mpr ⟨Ds.mpr (cV e'),by simp[q]⟩
  have z:(Vb h H).get? b=none:=PySem.W.hideAll_none (bu h H) hm
  rw[z] at e;cases e
noncomputable def Ly (g h:Heap) (L:Addr):List (Addr × Obj):=(List.range h.objs.size).filterMap fun a=>if a=L∨(g.get? a).isSome=true then none else (h.get? a).map fun o=>(a,o)
noncomputable def yE (g h:Heap) (L d:Addr):List (Addr × Obj):=(Ly g h L).filter fun p=>decide (p.1≠d)
structure Mod (K:BFr) (mg:Str→Option Value) (base:Heap):Prop where
 kin:K.In base
 glob:base.Ns mainGlobals mg
 blt:∃ mb,base.Ns builtinsNs mb∧∀ x:Str,x≠"__name__"→mb x=bootBuiltins x
 nolimit:base.NoLimit
structure Cx where
 prog:Program
 w:World
 K:BFr
 mg:Str→Option Value
 base:Heap
 A:Around
 N:List Str
 s₀:Shared
 H₀:Hp
 env:Env
 outer:List Env
 stack:List Env
 ex:List Addr
 fn:Str→Bool
 calm:Bool
 pn:List (Addr × Obj)
 xe:Value→Shared→Prop
noncomputable def GT (l:List Env):List Addr:=l.filterMap (·.frame)
abbrev Cx.fs (X:Cx):List Addr:=GT X.outer
noncomputable def b8 (sc:Scope) (x:Str):Prop:=sc.names.lookup x=some .local∨sc.names.lookup x=some .cell∨sc.names.lookup x=some .free
noncomputable def bC (sc:Scope) (x:Str):Prop:=sc.names.lookup x=some .local∨sc.names.lookup x=some .cell
noncomputable def Bu (env:Env) (h:Heap) (m:Str→Option Value) (x:Str) (u:Value):Prop :=
 (env.kindOf x=some .local∧m x=some u)∨((env.kindOf x=some .cell∨env.kindOf x=some .free)∧∃ c,env.cells.lookup x=some c∧h.IsCell c (some u))
structure Cx.Ok (X:Cx):Prop where
 mod:Mod X.K X.mg X.base
 kind:X.env.scope.kind = .function
 glob:X.env.globals=mainGlobals
 blt:X.env.builtins=builtinsNs
 above:X.s₀.heap.objs.size≤X.env.locals
 inj:∀ x y c,X.env.cells.lookup x=some c→X.env.cells.lookup y=some c→x=y
 has:∀ x,(X.env.kindOf x=some .cell∨X.env.kindOf x=some .free)→∃ c,X.env.cells.lookup x=some c
 cab:∀ x c,X.fn x=true→X.env.cells.lookup x=some c→X.s₀.heap.objs.size≤c
 hd:X.calm=true→X.A.handled=none
 frames:X.A.frames=some X.stack
 stk:X.stack=X.outer∨(X.stack=X.env::X.outer∧X.env.frame=some X.env.locals)
 exf:∀ b∈X.ex,b≠X.env.locals∧∀ x c,X.env.cells.lookup x=some c→c≠b
 bs:∀ b o,X.base.get? b=some o→X.s₀.heap.get? b=some o∧X.H₀ b=none
 bsz:X.base.objs.size≤X.s₀.heap.objs.size
 noex:∀ b o,X.base.get? b=some o→b∉X.ex
 exfs:∀ b∈X.ex,b∉X.fs
 funs:X.s₀.heap.FunFrames X.base X.outer
 frf:∀ b∈X.fs,X.H₀ b=none
structure zN (X:Cx) (pins:List (Addr × Obj)) (σ:List (Option V)) (H:Hp) (s:Shared):Prop where
 ok:X.Ok
 os:s.os=X.s₀.os
 bare:AllBare s.gens
 base:Un X.fs X.ex X.H₀ H X.s₀.heap s.heap
 loc:∃ m,s.heap.Ns X.env.locals m∧∀ (i:Nat) (x:Str) (v:V),X.N[i]? = some x→σ[i]? = some (some v)→b8 X.env.scope x→∃ u,qG v u∧Bu X.env s.heap m x u
 cell:∀ x c,X.env.cells.lookup x=some c→∃ v,s.heap.IsCell c v
 free:H X.env.locals=none
 freeC:∀ x c,X.env.cells.lookup x=some c→H c=none
 pin:∀ p∈X.pn++pins,s.heap.get? p.1=some p.2∧H p.1=none∧p.1≠X.env.locals∧p.1∉X.fs∧∀ v,p.2.data≠.cell v
 hok:kc X.prog X.w H s.heap
 len:σ.length=X.N.length
section
variable {X:Cx} {pins:List (Addr × Obj)} {σ:List (Option V)} {H H':Hp} {s:Shared} {h':Heap}
theorem Cx.Ok.nofr (ok:X.Ok) {b:Addr} {o:Obj} (e:X.base.get? b=some o):b∉X.fs:=fun hb=>by
 have:=(ok.funs.mem hb).1
 rw[e] at this;cases this
theorem zN.bs (I:zN X pins σ H s):∀ b o,X.base.get? b=some o→s.heap.get? b=some o∧H b=none:=fun b o e =>
 ⟨I.base.keep b o (I.ok.bs b o e).1 (I.ok.bs b o e).2 (I.ok.nofr e) (I.ok.noex b o e),I.base.free b o (I.ok.bs b o e).1 (I.ok.bs b o e).2 (I.ok.noex b o e)⟩
theorem zN.bk (I:zN X pins σ H s):∀ b o,X.base.get? b=some o→s.heap.get? b=some o:=fun b o e=>(I.bs b o e).1
theorem zN.mod (I:zN X pins σ H s):Mod X.K X.mg X.base:=I.ok.mod
theorem zN.kIn (I:zN X pins σ H s):X.K.In s.heap:=I.ok.mod.kin.keeps I.bk
theorem zN.lt (I:zN X pins σ H s):X.env.locals<s.heap.objs.size:=let ⟨_,hn,_⟩:=I.loc;hn.lt
theorem zN.sz (I:zN X pins σ H s):X.s₀.heap.objs.size≤s.heap.objs.size:=cZ I.ok.above (Dd I.lt)
theorem zN.nofs (I:zN X pins σ H s) {a:Addr} (h:s.heap.objs.size≤a):a∉X.fs:=fun hb=>by
 obtain⟨_,o,ho,_⟩:=I.ok.funs.mem hb
 exact absurd (CJ (cV ho) (cZ I.sz h)) (Dc _)
theorem zN.cne (I:zN X pins σ H s):∀ x c,X.env.cells.lookup x=some c→c≠X.env.locals:=fun x c e z=>by
 obtain⟨v,o,ho,hd⟩:=I.cell x c e
 obtain⟨m,⟨o',es,ep,ho',hd',_⟩,_⟩:=I.loc
 rw[z,ho'] at ho;cases ho;rw[hd'] at hd;cases hd
theorem zN.funs (I:zN X pins σ H s):s.heap.FunFrames X.base X.outer:=by
 have all:∀ (l:List Env),(∀ b∈GT l,b∈X.fs)→X.s₀.heap.FunFrames X.base l→s.heap.FunFrames X.base l:=by
  intro l
  induction l with
  | nil=>intro _ _;trivial
  | cons env r ih =>
   intro hs hl
   obtain⟨hk,⟨L,o,hf,hn,ho,hd⟩,hr⟩:=hl
   have hL:L∈X.fs:=hs L (by unfold GT;rw[De,hf];exact Ce)
   obtain⟨sl,e⟩:=I.base.slot L o ho (I.ok.frf L hL) hL fun z=>I.ok.exfs L z hL
   exact⟨hk,⟨L,_,hf,hn,e,hd⟩,ih (fun b hb=>hs b (by unfold GT;rw[De,hf];exact Cd _ hb)) hr⟩
 exact all X.outer (fun _ hb=>hb) I.ok.funs
theorem zN.stack (I:zN X pins σ H s):s.heap.FunFrames X.base X.stack:=by
 rcases I.ok.stk with e | ⟨e,hf⟩
 ·rw[e];exact I.funs
 ·rw[e]
  obtain⟨m,hn,_⟩:=I.loc
  refine .cons (by rw[I.ok.kind];decide) hf hn ?_ I.funs
  exact Df (cZ I.ok.bsz I.ok.above)
theorem zN.stkSub (I:zN X pins σ H s):∀ b∈GT X.stack,b∈X.env.locals::X.fs:=fun b hb=>by
 rcases I.ok.stk with e | ⟨e,hf⟩
 ·rw[e] at hb;exact Cd _ hb
 ·rw[e] at hb
  unfold GT at hb
  rw[De,hf] at hb
  exact hb
theorem zN.stkFree (I:zN X pins σ H s):∀ b∈GT X.stack,H b=none:=fun b hb=>by
 rcases cU.mp (I.stkSub b hb) with e | hb
 ·rw[e];exact I.free
 ·obtain⟨_,o,ho,_⟩:=I.ok.funs.mem hb
  exact I.base.free b o ho (I.ok.frf b hb) fun z=>I.ok.exfs b z hb
theorem zN.step {g':Array GenState} {t':Nat} {d':Drawn} {ch:List Addr} (I:zN X pins σ H s) (hch:∀ b∈ch,(b∈X.ex∨X.s₀.heap.get? b=none)∧b≠X.env.locals∧(∀ x c,X.env.cells.lookup x=some c→c≠b)∧∀ p∈X.pn++pins,p.1≠b) (keep:∀ b o,b≠X.env.locals→b∉X.fs→b∉ch→s.heap.get? b=some o→H b=none→h'.get? b=some o) (slot:∀ b o,b≠X.env.locals→b∈X.fs→b∉ch→s.heap.get? b=some o→H b=none→∃ sl,h'.get? b=some { o with slots:=sl }) (free:∀ b o,b∉ch→s.heap.get? b=some o→H b=none→H' b=none) (there:∀ b o,b∉ch→s.heap.get? b=some o→∃ o',h'.get? b=some o') (tups:∀ b xs,H b=some (.tup xs)→H' b=some (.tup xs)) (frzs:∀ b o u,H b=some (.frz o u)→H' b=some (.frz o u)) (tbls:∀ b ps,H b=some (.tbl ps)→∃ more,H' b=some (.tbl (ps++more))) (ns:∀ m,s.heap.Ns X.env.locals m→h'.Ns X.env.locals m) (hok:kc X.prog X.w H' h') (hg:AllBare g') :
  zN X pins σ H' { s with heap:=h',gens:=g',drawn:=d',toks:=t' }:=by
 have neL:∀ b o,X.s₀.heap.get? b=some o→b≠X.env.locals:=fun b o e=>Cc (CJ (cV e) I.ok.above)
 have neC:∀ b o,X.s₀.heap.get? b=some o→b∉X.ex→b∉ch:=fun b o e hx hb=>by
  rcases (hch b hb).1 with z | z
  ·exact hx z
  ·rw[z] at e;cases e
 have cellK:∀ x c,X.env.cells.lookup x=some c→∀ v,s.heap.IsCell c v→h'.IsCell c v:=fun x c e v ⟨o,ho,hd⟩=>by
  have nch:c∉ch:=fun z=>(hch c z).2.2.1 x c e rfl
  by_cases hc:c∈X.fs
  ·obtain⟨sl,q⟩:=slot c o (I.cne x c e) hc nch ho (I.freeC x c e)
   exact⟨_,q,hd⟩
  ·exact⟨o,keep c o (I.cne x c e) hc nch ho (I.freeC x c e),hd⟩
 refine⟨I.ok,I.os,hg,⟨fun b o e n hb hx=>?_,fun b o e n hb hx=>?_,fun b o e n hx=>?_,fun b o e hx=>?_,fun b xs e=>tups b xs (I.base.tups b xs e),fun b o xs e=>frzs b o xs (I.base.frzs b o xs e),fun b ps e=>?_⟩,?_,fun x c e=>?_,?_,fun x c e=>?_,fun p hp=>?_,hok,I.len⟩
 ·exact keep b o (neL b o e) hb (neC b o e hx) (I.base.keep b o e n hb hx) (I.base.free b o e n hx)
 ·obtain⟨sl,e1⟩:=I.base.slot b o e n hb hx
  obtain⟨sl',e2⟩:=slot b _ (neL b o e) hb (neC b o e hx) e1 (I.base.free b o e n hx)
  exact⟨sl',e2⟩
 ·obtain⟨o',e1⟩:=I.base.there b o e hx
  exact free b o' (neC b o e hx) e1 (I.base.free b o e n hx)
 ·obtain⟨o',e1⟩:=I.base.there b o e hx
  exact there b o' (neC b o e hx) e1
 ·obtain⟨m1,e1⟩:=I.base.tbls b ps e
  obtain⟨m2,e2⟩:=tbls b _ e1
  exact⟨m1++m2,by rw[e2,Array.append_assoc]⟩
 ·obtain⟨m,hn,hl⟩:=I.loc
  refine⟨m,ns m hn,fun i x v e1 e2 e3=>?_⟩
  obtain⟨u,r,l⟩:=hl i x v e1 e2 e3
  refine⟨u,r,?_⟩
  rcases l with l | ⟨k,c,e,z⟩
  ·exact .inl l
  ·exact .inr ⟨k,c,e,cellK x c e _ z⟩
 ·obtain⟨v,z⟩:=I.cell x c e
  exact⟨v,cellK x c e v z⟩
 ·obtain⟨m,⟨o,_,_,ho,_⟩,_⟩:=I.loc
  exact free _ o (fun z=>(hch _ z).2.1 rfl) ho I.free
 ·obtain⟨v,o,ho,hd⟩:=I.cell x c e
  exact free c o (fun z=>(hch c z).2.2.1 x c e rfl) ho (I.freeC x c e)
 ·obtain⟨e,n,ne,nf,d⟩:=I.pin p hp
  have nch:p.1∉ch:=fun z=>(hch p.1 z).2.2.2 p hp rfl
  exact⟨keep p.1 p.2 ne nf nch e n,free p.1 p.2 nch e n,ne,nf,d⟩
theorem zN.un {t':Nat} (I:zN X pins σ H s) (u:Un X.fs [] H H' s.heap h') (hok:kc X.prog X.w H' h'):zN X pins σ H' { s with heap:=h',toks:=t' }:=by
 obtain⟨m,⟨o,es,ep,ho,r⟩,_⟩:=id I.loc
 obtain⟨sl,hL⟩:=u.any ho I.free (by simp)
 exact I.step (g':=s.gens) (d':=s.drawn) (ch:=[]) (fun _ z=>nomatch z) (fun b o _ hb _ e n=>u.keep b o e n hb (by simp)) (fun b o _ hb _ e n=>u.slot b o e n hb (by simp)) (fun b o _ e n=>u.free b o e n (by simp)) (fun b o _ e=>u.there b o e (by simp)) u.tups u.frzs u.tbls (fun m' hm=>by
  obtain⟨o',es',ep',ho',r'⟩:=hm
  rw[ho] at ho';cases ho'
  exact⟨_,es',ep',hL,r'⟩) hok I.bare
theorem zN.call {g':Array GenState} {t':Nat} {d':Drawn} {ch:List Addr} (I:zN X pins σ H s) (u:Un (GT X.stack) ch H H' s.heap h') (hok:kc X.prog X.w H' h') (hg:AllBare g') (hch:∀ b∈ch,(b∈X.ex∨X.s₀.heap.get? b=none)∧b≠X.env.locals∧(∀ x c,X.env.cells.lookup x=some c→c≠b)∧∀ p∈X.pn++pins,p.1≠b) :
  zN X pins σ H' { s with heap:=h',gens:=g',drawn:=d',toks:=t' }:=by
 obtain⟨m,⟨o,es,ep,ho,r⟩,_⟩:=id I.loc
 obtain⟨sl,hL⟩:=u.any ho I.free fun z=>(hch _ z).2.1 rfl
 exact I.step (ch:=ch) hch (fun b o hL hb hc e n=>u.keep b o e n (fun z=>(cU.mp (I.stkSub b z)).elim hL hb) hc) (fun b o _ _ hc e n=>u.any e n hc) (fun b o hc e n=>u.free b o e n hc) (fun b o hc e=>u.there b o e hc) u.tups u.frzs u.tbls (fun m' hm=>by
  obtain⟨o',es',ep',ho',r'⟩:=hm
  rw[ho] at ho';cases ho'
  exact⟨_,es',ep',hL,r'⟩) hok hg
theorem zN.turned {t':Nat} {it:Addr} (I:zN X pins σ H s) (k:∀ b o,b≠it→s.heap.get? b=some o→h'.get? b=some o) (hn:H it=none) (hL:it≠X.env.locals) (h1:it∈X.ex∨X.s₀.heap.get? it=none) (h2:∀ x c,X.env.cells.lookup x=some c→c≠it) (h3:∀ p∈X.pn++pins,p.1≠it):zN X pins σ H { s with heap:=h',toks:=t' }:=by
 have nit:∀ b u,H b=some u→b≠it:=fun b u e z=>by rw[z,hn] at e;cases e
 refine I.step (g':=s.gens) (d':=s.drawn) (ch:=[it]) (fun b hb=>?_) (fun b o _ _ hc e _=>k b o (fun z=>hc (by simp[z])) e) (fun b o _ _ hc e _=>⟨o.slots,k b o (fun z=>hc (by simp[z])) e⟩) (fun _ _ _ _ n=>n)
  (fun b o hc e=>⟨o,k b o (fun z=>hc (by simp[z])) e⟩) (fun _ _ e=>e) (fun _ _ _ e=>e) (fun b ps e=>⟨#[],by rw[e];simp⟩) (fun m hm=>?_) (fun b u e=>?_) I.bare
 ·have e:b=it:=by simpa using hb
  subst e
  exact⟨h1,hL,h2,h3⟩
 ·obtain⟨o,es,ep,ho,r⟩:=hm
  exact⟨o,es,ep,k _ o (Ne.symm hL) ho,r⟩
 ·refine (I.hok b u e).stay (fun c v hc q=>k c v ?_ q) (fun _ q=>q) fun _ _ q=>q
  rcases hc with z | z
  ·rw[z];exact nit b u e
  ·exact nit c _ z
theorem zN.tok (I:zN X pins σ H s) (t:Nat):zN X pins σ H { s with toks:=t }:=I.un (h':=s.heap) (t':=t) Un.refl I.hok
theorem zN.kept {t':Nat} (I:zN X pins σ H s) (k:∀ b u,s.heap.get? b=some u→h'.get? b=some u):zN X pins σ H { s with heap:=h',toks:=t' }:=I.un (Un.kept k) (I.hok.kept k)
theorem zN.laid {a:Addr} {o:HO} {t':Nat} (I:zN X pins σ H s) (k:∀ b u,s.heap.get? b=some u→h'.get? b=some u) (hp:s.heap.objs.size≤a) (new:yi X.prog X.w (upd H a o) h' a o) :
  zN X pins σ (upd H a o) { s with heap:=h',toks:=t' }:=I.un (Un.laid k hp (I.hok.fresh hp)) (I.hok.laid k hp new)
theorem zN.write {x e:Addr} {o:HO} {t':Nat} (I:zN X pins σ H s) (mu:TL (H x)) (he:e=x∨H e=some (.own x)) (k:∀ b u,b≠e→s.heap.get? b=some u→h'.get? b=some u) (heo:∃ u,h'.get? e=some u) (new:yi X.prog X.w (upd H x o) h' x o):zN X pins σ (upd H x o) { s with heap:=h',toks:=t' }:=I.un (Un.write mu he k heo) (I.hok.write mu he k heo new)
theorem zN.pins_of {pins':List (Addr × Obj)} (I:zN X pins σ H s) (h:∀ p∈pins',s.heap.get? p.1=some p.2∧H p.1=none∧p.1≠X.env.locals∧p.1∉X.fs∧∀ v,p.2.data≠.cell v):zN X pins' σ H s :=
 ⟨I.ok,I.os,I.bare,I.base,I.loc,I.cell,I.free,I.freeC,fun p hp=>(CM.mp hp).elim (fun z=>I.pin p (CW _ z)) (h p),I.hok,I.len⟩
theorem Ud {N:List Str} (hN:N.Nodup) {i j:Nat} {x:Str} (a:N[i]? = some x) (b:N[j]? = some x):i=j:=by
 obtain⟨h1,e1⟩:=Cv.mp a
 obtain⟨h2,e2⟩:=Cv.mp b
 exact (List.getElem_inj hN).mp (e1.trans e2.symm)
theorem JM {M:Model} {A:Around} {E:Value→Shared→Prop} {i:Nat} {x:Str} {v:V} {u:Value} {Q:Unit→Shared→Prop} (I:zN X pins σ H s) (hN:X.N.Nodup) (hi:X.N[i]? = some x) (hx:bC X.env.scope x) (r:qG v u) (h:∀ s',zN X pins (σ.set i (some v)) H s'→(∃ a,Heap.SameBut a s.heap s'.heap∧(a=X.env.locals∨X.env.cells.lookup x=some a))→Q () s') (hf:X.fn x=true∨X.env.scope.names.lookup x=some .local:=by first | exact .inl rfl | exact .inr rfl | assumption):wpAny M A (storeName X.env x u) Q E s:=by
 obtain⟨m,hn,hl⟩:=id I.loc
 have hcls:(X.env.scope.kind == .class || (X.env.scope.kind == .module&&X.env.locals != X.env.globals))=false:=by rw[I.ok.kind];rfl
 have hiσ:i < σ.length:=by rw[I.len];exact (Cv.mp hi).1
 have cne:=I.cne
 have tracked:∀ {a:Addr} {h':Heap},(∃ o,s.heap.get? a=some o∧H a=none)→Heap.SameBut a s.heap h'→kc X.prog X.w H h':=fun {a h'} ha hs b ob e=>by
  obtain⟨_,_,hfree⟩:=ha
  refine (I.hok b ob e).stay (fun c w' hc q=>(hs.2 c ?_).trans q) (fun _ q=>q) fun _ _ q=>q
  rintro rfl
  rcases hc with rfl | hc
  ·rw[hfree] at e;cases e
  ·rw[hfree] at hc;cases hc
 rcases hx with hk | hk
 ·refine wpAny_storeName_local hk hn (fun h' hn' hs=>?_) hcls
  obtain⟨oL,_,_,hoL,_⟩:=id hn
  refine h _ ⟨I.ok,I.os,I.bare,⟨fun b o e n hb hx=>?_,fun b o e n hb hx=>?_,I.base.free,fun b o e hx=>?_,I.base.tups,I.base.frzs,I.base.tbls⟩,⟨_,hn',fun j y v' e1 e2 e3=>?_⟩,fun y c e=>?_,I.free,I.freeC,fun p hp=>?_,tracked ⟨oL,hoL,I.free⟩ hs,by simpa using I.len⟩ ⟨_,hs,.inl rfl⟩
  ·exact (hs.2 b (Cc (CJ (cV e) I.ok.above))).trans (I.base.keep b o e n hb hx)
  ·obtain⟨sl,e1⟩:=I.base.slot b o e n hb hx
   exact⟨sl,(hs.2 b (Cc (CJ (cV e) I.ok.above))).trans e1⟩
  ·obtain⟨o',e1⟩:=I.base.there b o e hx
   exact⟨o',(hs.2 b (Cc (CJ (cV e) I.ok.above))).trans e1⟩
  ·by_cases hj:j=i
   ·subst hj
    rw[hi] at e1;cases e1
    rw[DO hiσ] at e2
    cases e2
    exact⟨u,r,.inl ⟨hk,by simp⟩⟩
   ·rw[List.getElem?_set_ne (Ne.symm hj)] at e2
    obtain⟨u',r',q⟩:=hl j y v' e1 e2 e3
    refine⟨u',r',?_⟩
    rcases q with ⟨k,e⟩ | ⟨k,c,e,z⟩
    ·refine .inl ⟨k,?_⟩
     have:y≠x:=fun e=>hj (Ud hN e1 (e ▸ hi))
     simp[this,e]
    ·exact .inr ⟨k,c,e,z.sameBut hs (cne y c e)⟩
  ·obtain⟨w',z⟩:=I.cell y c e
   exact⟨w',z.sameBut hs (cne y c e)⟩
  ·obtain⟨e,n,ne,nf,d⟩:=I.pin p hp
   exact⟨(hs.2 p.1 ne).trans e,n,ne,nf,d⟩
 ·have hfn:X.fn x=true:=by
   rcases hf with z | z
   ·exact z
   ·rw[z] at hk;cases hk
  obtain⟨c,hc⟩:=I.ok.has x (.inl hk)
  obtain⟨w',z⟩:=I.cell x c hc
  refine wpAny_storeName_cell I.ok.kind hk hc z (fun h' hc' hs=>?_)
  obtain⟨oc,hoc,hocd⟩:=id z
  refine h { s with heap:=h' } ⟨I.ok,I.os,I.bare,⟨fun b o e n hb hx=>?_,fun b o e n hb hx=>?_,I.base.free,fun b o e hx=>?_,I.base.tups,I.base.frzs,I.base.tbls⟩,⟨m,hn.sameBut hs (Ne.symm (cne x c hc)),fun j y v' e1 e2 e3=>?_⟩,fun y c' e=>?_,I.free,I.freeC,fun p hp=>?_,tracked ⟨oc,hoc,I.freeC x c hc⟩ hs,by simpa using I.len⟩ ⟨c,hs,.inr hc⟩
  ·exact (hs.2 b (Cc (CJ (cV e) (I.ok.cab x c hfn hc)))).trans (I.base.keep b o e n hb hx)
  ·obtain⟨sl,e1⟩:=I.base.slot b o e n hb hx
   exact⟨sl,(hs.2 b (Cc (CJ (cV e) (I.ok.cab x c hfn hc)))).trans e1⟩
  ·obtain⟨o',e1⟩:=I.base.there b o e hx
   exact⟨o',(hs.2 b (Cc (CJ (cV e) (I.ok.cab x c hfn hc)))).trans e1⟩
  ·by_cases hj:j=i
   ·subst hj
    rw[hi] at e1;cases e1
    rw[DO hiσ] at e2
    cases e2
    exact⟨u,r,.inr ⟨.inl hk,c,hc,hc'⟩⟩
   ·rw[List.getElem?_set_ne (Ne.symm hj)] at e2
    obtain⟨u',r',q⟩:=hl j y v' e1 e2 e3
    refine⟨u',r',?_⟩
    rcases q with q | ⟨k,c',e,z'⟩
    ·exact .inl q
    ·refine .inr ⟨k,c',e,z'.sameBut hs ?_⟩
     rintro rfl
     exact hj (Ud hN e1 (I.ok.inj _ _ _ e hc ▸ hi))
  ·by_cases hcc:c'=c
   ·subst hcc;exact⟨_,hc'⟩
   ·obtain⟨w2,z2⟩:=I.cell y c' e
    exact⟨w2,z2.sameBut hs hcc⟩
  ·obtain⟨e,n,ne,nf,d⟩:=I.pin p hp
   refine⟨(hs.2 p.1 ?_).trans e,n,ne,nf,d⟩
   intro q
   rw[q,hoc] at e
   have q':oc=p.2:=Option.some.inj e
   exact d w' (by rw[← q'];exact hocd)
theorem Qw {M:Model} {A:Around} {E:Value→Shared→Prop} {i:Nat} {x:Str} {v:V} {u:Value} {Q:Unit→Shared→Prop} (I:zN X pins σ H s) (hN:X.N.Nodup) (hi:X.N[i]? = some x) (hx:bC X.env.scope x) (r:qG v u) (h:∀ s',zN X pins (σ.set i (some v)) H s'→Q () s') (hf:X.fn x=true∨X.env.scope.names.lookup x=some .local:=by first | exact .inl rfl | exact .inr rfl | assumption):wpAny M A (storeName X.env x u) Q E s :=
 JM I hN hi hx r (fun s' I' _=>h s' I') hf
theorem zN.call' {s':Shared} {ch:List Addr} (I:zN X pins σ H s) (ho:s'.os=s.os) (u:Un (GT X.stack) ch H H' s.heap s'.heap) (hok:kc X.prog X.w H' s'.heap) (hg:AllBare s'.gens) (hch:∀ b∈ch,(b∈X.ex∨X.s₀.heap.get? b=none)∧b≠X.env.locals∧(∀ x c,X.env.cells.lookup x=some c→c≠b)∧∀ p∈X.pn++pins,p.1≠b):zN X pins σ H' s':=by
 obtain⟨h',g',d',t',o'⟩:=s'
 have e:o'=s.os:=ho
 subst e
 exact I.call (g':=g') (t':=t') (d':=d') u hok hg hch
end
abbrev XK:=Value→Option Addr→Hp→Prop
abbrev St:=List (Option V)
abbrev VK:=V→Hp→Prop
abbrev TE:=St→Hp→VK→Prop
abbrev TT:=St→Hp→(Bool→Hp→Prop)→Prop
abbrev TA:=St→Hp→(List V→Hp→Prop)→Prop
structure uK where
 nx:St→Hp→Prop
 rt:VK
 bk:St→Hp→Prop:=fun _ _=>False
 ct:St→Hp→Prop:=fun _ _=>False
abbrev TS:=uK→St→Hp→Prop
noncomputable def EP (X:Cx) (pins:List (Addr × Obj)) (σ:St) (Q:VK) (u:Value) (s':Shared):Prop:=∃ v H',zN X pins σ H' s'∧qG v u∧Q v H'
noncomputable def TP (X:Cx) (pins:List (Addr × Obj)) (σ:St) (Q:Bool→Hp→Prop) (b:Bool) (s':Shared):Prop:=∃ H',zN X pins σ H' s'∧Q b H'
noncomputable def AP (X:Cx) (pins:List (Addr × Obj)) (σ:St) (Q:List V→Hp→Prop) (us:List Value) (s':Shared):Prop:=∃ vs H',zN X pins σ H' s'∧qt vs us∧Q vs H'
noncomputable def SP (X:Cx) (pins:List (Addr × Obj)) (D:uK) (f:Flow) (s':Shared):Prop :=
 match f with
 | .next=>∃ σ' H',zN X pins σ' H' s'∧D.nx σ' H'
 | .brk=>∃ σ' H',zN X pins σ' H' s'∧D.bk σ' H'
 | .cont=>∃ σ' H',zN X pins σ' H' s'∧D.ct σ' H'
 | .ret u=>∃ v σ' H',zN X pins σ' H' s'∧qG v u∧D.rt v H'
noncomputable def PE (X:Cx) (e:Expr) (t:TE):Prop :=
 ∀ (pins:List (Addr × Obj)) (s:Shared) (σ:St) (H:Hp) (Q:VK),zN X pins σ H s→t σ H Q→wpAny (model X.prog X.w) X.A (eval e X.env) (EP X pins σ Q) X.xe s
noncomputable def PT (X:Cx) (e:Expr) (t:TT):Prop :=
 ∀ (pins:List (Addr × Obj)) (s:Shared) (σ:St) (H:Hp) (Q:Bool→Hp→Prop),zN X pins σ H s→t σ H Q→wpAny (model X.prog X.w) X.A (isTrue e X.env (eval e X.env)) (TP X pins σ Q) X.xe s
noncomputable def PW (X:Cx) (e:Expr) (t:TT):Prop :=
 ∀ (whole:Sem Value) (pins:List (Addr × Obj)) (s:Shared) (σ:St) (H:Hp) (Q:Bool→Hp→Prop),zN X pins σ H s→t σ H Q→wpAny (model X.prog X.w) X.A (isTrue e X.env whole) (TP X pins σ Q) X.xe s
theorem PW.pt {X:Cx} {e:Expr} {t:TT} (h:PW X e t):PT X e t:=h _
noncomputable def PA (X:Cx) (es:List Expr) (t:TA):Prop :=
 ∀ (pos:Pos) (pins:List (Addr × Obj)) (s:Shared) (σ:St) (H:Hp) (Q:List V→Hp→Prop),zN X pins σ H s→t σ H Q→wpAny (model X.prog X.w) X.A (spliced (backTo pos (starEach es X.env))) (AP X pins σ Q) X.xe s
noncomputable def PS (X:Cx) (st:Stmt) (t:TS):Prop :=
 ∀ (pins:List (Addr × Obj)) (s:Shared) (σ:St) (H:Hp) (D:uK),zN X pins σ H s→t D σ H→wpAny (model X.prog X.w) X.A (exec st X.env) (SP X pins D) X.xe s
noncomputable def y8 (X:Cx) (st:List Stmt) (t:TS):Prop :=
 ∀ (pins:List (Addr × Obj)) (s:Shared) (σ:St) (H:Hp) (D:uK),zN X pins σ H s→t D σ H→wpAny (model X.prog X.w) X.A (execs st X.env) (SP X pins D) X.xe s
theorem q0 {α:Type} {t:Sem α} {Q Q':α→Shared→Prop} {M:Model} {A:Around} {E:Value→Shared→Prop} {s:Shared} (h:wpAny M A t Q E s) (hQ:∀ a s,Q a s→Q' a s):wpAny M A t Q' E s:=wpAny_mono h hQ fun _ _ x=>x
section
variable {X:Cx}
theorem cM {a b:Expr} {ta tb:TE} (ha:PE X a ta) (hb:PE X b tb) {pins:List (Addr × Obj)} {s:Shared} {σ:St} {H:Hp} {R:V→V→Hp→Prop} (I:zN X pins σ H s) (h:ta σ H fun x H1=>tb σ H1 fun y H2=>R x y H2)
  {α:Type} {Q:α→Shared→Prop} {f:Value→Value→Sem α}
  (hf:∀ v u s2 x y H2,zN X pins σ H2 s2→qG x v→qG y u→R x y H2→wpAny (model X.prog X.w) X.A (f v u) Q X.xe s2) :
  wpAny (model X.prog X.w) X.A (eval a X.env) (fun v s₁=>wpAny (model X.prog X.w) X.A (eval b X.env) (fun u s₂=>wpAny (model X.prog X.w) X.A (f v u) Q X.xe s₂) X.xe s₁) X.xe s:=by
 refine q0 (ha pins s σ H _ I h) fun v s1 ⟨x,H1,I1,r1,q1⟩=>?_
 refine q0 (hb pins s1 σ H1 _ I1 q1) fun u s2 ⟨y,H2,I2,r2,q2⟩=>?_
 exact hf v u s2 x y H2 I2 r1 r2 q2
noncomputable def qd (i:Nat):TE:=fun σ H Q=>∃ v,σ[i]? = some (some v)∧Q v H
noncomputable def tC (v:V):TE:=fun _ H Q=>Q v H
theorem rG {i:Nat} {x:Str} {pos:Pos} (hN:X.N[i]? = some x) (hv:b8 X.env.scope x) (hd:(x==("__debug__":Str))=false:=by decide) (hcd:(x==("__classdict__":Str))=false:=by decide):PE X (.Name x pos) (qd i):=by
 intro pins s σ H Q I h
 obtain⟨v,e,h⟩:=h
 obtain⟨m,hn,hl⟩:=I.loc
 obtain⟨u,r,l⟩:=hl i x v hN e hv
 have fin:EP X pins σ Q u s:=⟨v,H,I,r,h⟩
 rcases l with ⟨hk,hm⟩ | ⟨hk,c,hc,hcell⟩
 ·exact wpAny_Name (wpAny_loadName_local I.ok.kind hk hn hm fin) hd
 ·rcases hk with hk | hk
  ·exact wpAny_Name (wpAny_loadName_cell I.ok.kind hk hc hcell fin) hd
  ·exact wpAny_Name (wpAny_loadName_free I.ok.kind hk hc hcell fin hcd) hd
theorem ze {i j pos}:PE X (.Constant (.int i) j pos) (tC (.int i)):=fun _ _ _ H _ I h=>wpAny_Constant_int ⟨.int i,H,I.tok _,⟨_,rfl⟩,h⟩
theorem jj {b j pos}:PE X (.Constant (.bool b) j pos) (tC (.bl b)):=fun _ _ _ H _ I h=>Constant_bool ⟨.bl b,H,I,rfl,h⟩
theorem jv {j pos}:PE X (.Constant .none j pos) (tC .non):=fun _ _ _ H _ I h=>Constant_none ⟨.non,H,I,rfl,h⟩
theorem zj {x j pos}:PE X (.Constant (.str x) j pos) (tC (.str x)):=fun _ _ _ H _ I h=>Calls.Constant_str ⟨.str x,H,I.tok _,⟨_,rfl⟩,h⟩
noncomputable def Gl (X:Cx) (x:Str):Prop:=X.env.kindOf x=some .globalImplicit
theorem vT {E:Value→Shared→Prop} {pins:List (Addr × Obj)} {s:Shared} {σ:St} {H:Hp} {x:Str} {u:Value} {pos:Pos} {Q:Value→Shared→Prop} (I:zN X pins σ H s) (hg:Gl X x) (hm:X.mg x=some u) (h:Q u s) (hd:(x==("__debug__":Str))=false:=by decide):wpAny (model X.prog X.w) X.A (eval (.Name x pos) X.env) Q E s :=
 Calls.Name_function_global I.ok.kind hg (Calls.loadGlobal_global (by rw[I.ok.glob];exact I.mod.glob.keeps I.bk) hm h) hd
theorem uT {E:Value→Shared→Prop} {pins:List (Addr × Obj)} {s:Shared} {σ:St} {H:Hp} {x:Str} {u:Value} {pos:Pos} {Q:Value→Shared→Prop} (I:zN X pins σ H s) (hg:Gl X x) (hm:X.mg x=none) (hv:bootBuiltins x=some u) (h:Q u s) (hn:x≠"__name__":=by decide) (hd:(x==("__debug__":Str))=false:=by decide):wpAny (model X.prog X.w) X.A (eval (.Name x pos) X.env) Q E s:=by
 obtain⟨mb,h1,h2⟩:=I.mod.blt
 exact Calls.Name_function_global I.ok.kind hg (Calls.loadGlobal_builtin (by rw[I.ok.glob];exact I.mod.glob.keeps I.bk) hm (by rw[I.ok.blt];exact h1.keeps I.bk) ((h2 x hn).trans hv) h) hd
theorem zZ {x:Str} {v:V} {u:Value} {pos:Pos} (hg:Gl X x) (hm:X.mg x=some u) (r:qG v u) (hd:(x==("__debug__":Str))=false:=by decide):PE X (.Name x pos) (tC v) :=
 fun _ _ _ H _ I h=>vT I hg hm ⟨v,H,I,r,h⟩ hd
theorem yw {x:Str} {v:V} {u:Value} {pos:Pos} (hg:Gl X x) (hm:X.mg x=none) (hv:bootBuiltins x=some u) (r:qG v u) (hn:x≠"__name__":=by decide) (hd:(x==("__debug__":Str))=false:=by decide):PE X (.Name x pos) (tC v) :=
 fun _ _ _ H _ I h=>uT I hg hm hv ⟨v,H,I,r,h⟩ hn hd
variable {a b:Expr} {ta tb:TE} {pos:Pos}
noncomputable def PC (X:Cx) (op:CmpOp) (a b:Expr) (t:TE):Prop :=
 ∀ (pins:List (Addr × Obj)) (s:Shared) (σ:St) (H:Hp) (Q:VK),zN X pins σ H s→t σ H Q →
  wpAny (model X.prog X.w) X.A (eval a X.env) (fun v s₁=>wpAny (model X.prog X.w) X.A (eval b X.env) (fun u s₂=>wpAny (model X.prog X.w) X.A (compareOp op v u) (EP X pins σ Q) X.xe s₂) X.xe s₁) X.xe s
noncomputable def tB (t:TE):TT:=fun σ H Q=>t σ H fun x H1=>∃ c,x = .bl c∧Q c H1
theorem BM {op:CmpOp} {t:TE} (h:PC X op a b t) (h1:behindInMarks op b=false:=by first | exact nobehind _ (by decide) (by decide) | rfl):PT X (.Compare a [op] [b] pos) (tB t):=by
 intro pins s σ H Q I hw
 refine wpAny_isTrue_Compare1 (q0 (h pins s σ H _ I hw) fun v s1 h1=>q0 h1 fun u s2 h2=>q0 h2 fun c s3 ⟨x,H1,I1,r1,q1⟩=>?_) h1
 obtain⟨d,rfl,q⟩:=q1
 cases r1
 exact wpAny_truthy_bool ⟨H1,I1,q⟩
theorem qy {e:Expr} {t:TE} (h:PE X e t) (he:∀ whole,isTrue e X.env whole=(do let v ← whole;standAt e.pos;holding [v] (truthy v)):=by intro _;rfl):PT X e (tB t):=by
 intro pins s σ H Q I hw
 refine isTrue_plain (q0 (h pins s σ H _ I hw) fun v s1 ⟨x,H1,I1,r1,q1⟩=>?_) (he _)
 obtain⟨d,rfl,q⟩:=q1
 cases r1
 exact wpAny_truthy_bool ⟨H1,I1,q⟩
variable {tA tB':TT} {yE:List Expr}
noncomputable def Be (t u:TT):TT:=fun σ H Q=>t σ H fun c H1=>if c=true then u σ H1 Q else Q false H1
noncomputable def cq (t u:TT):TT:=fun σ H Q=>t σ H fun c H1=>if c=true then Q true H1 else u σ H1 Q
noncomputable def BJ (t:TT):TT:=fun σ H Q=>t σ H fun c H1=>Q (!c) H1
theorem wc (ha:PT X a tA):PW X (.BoolOp .And [a] pos) tA:=by
 intro wh pins s σ H Q I h
 refine isTrue_and (q0 (ha pins s σ H Q I h) fun c s1 e=>?_)
 cases c with
 | true=>exact isTrue_and_nil e
 | false=>exact e
theorem yU (ha:PT X a tA):PW X (.BoolOp .Or [a] pos) tA:=by
 intro wh pins s σ H Q I h
 refine isTrue_or (q0 (ha pins s σ H Q I h) fun c s1 e=>?_)
 cases c with
 | false=>exact isTrue_or_nil e
 | true=>exact e
theorem Zx (ha:PT X a tA) (hb:PW X (.BoolOp .And (b::yE) pos) tB'):PW X (.BoolOp .And (a::b::yE) pos) (Be tA tB'):=by
 intro wh pins s σ H Q I h
 refine isTrue_and (q0 (ha pins s σ H _ I h) fun c s1 ⟨H1,I1,q1⟩=>?_)
 cases c with
 | true=>exact hb wh pins s1 σ H1 Q I1 q1
 | false=>exact⟨H1,I1,q1⟩
theorem yM (ha:PT X a tA) (hb:PW X (.BoolOp .Or (b::yE) pos) tB'):PW X (.BoolOp .Or (a::b::yE) pos) (cq tA tB'):=by
 intro wh pins s σ H Q I h
 refine isTrue_or (q0 (ha pins s σ H _ I h) fun c s1 ⟨H1,I1,q1⟩=>?_)
 cases c with
 | true=>exact⟨H1,I1,q1⟩
 | false=>exact hb wh pins s1 σ H1 Q I1 q1
theorem qz (ha:PT X a tA):PT X (.UnaryOp .Not a pos) (BJ tA):=by
 intro pins s σ H Q I h
 exact isTrue_not (ha pins s σ H (fun c H1=>Q (!c) H1) I h)
noncomputable def Tb (ta tb:TE):TE:=fun σ H Q=>ta σ H fun x H1=>∃ c,x = .bl c∧if c=true then tb σ H1 Q else Q (.bl false) H1
noncomputable def BR (ta tb:TE):TE:=fun σ H Q=>ta σ H fun x H1=>∃ c,x = .bl c∧if c=true then Q (.bl true) H1 else tb σ H1 Q
noncomputable def tF (ta:TE):TE:=fun σ H Q=>ta σ H fun x H1=>∃ c,x = .bl c∧Q (.bl (!c)) H1
theorem yL {op} {t:TE} (h:PE X a t):PE X (.BoolOp op [a] pos) t:=fun pins s σ H Q I hw=>BoolOp_one (h pins s σ H Q I hw)
theorem yK (ha:PE X a ta) (hb:PE X (.BoolOp .And (b::yE) pos) tb):PE X (.BoolOp .And (a::b::yE) pos) (Tb ta tb):=by
 intro pins s σ H Q I h
 refine BoolOp_and (q0 (ha pins s σ H _ I h) fun v s1 ⟨x,H1,I1,r1,q1⟩=>?_)
 obtain⟨c,rfl,q1⟩:=q1
 cases r1
 refine wpAny_truthy_bool ?_
 cases c with
 | true=>exact hb pins s1 σ H1 Q I1 q1
 | false=>exact⟨.bl false,H1,I1,rfl,q1⟩
theorem Nk (ha:PE X a ta) (hb:PE X (.BoolOp .Or (b::yE) pos) tb):PE X (.BoolOp .Or (a::b::yE) pos) (BR ta tb):=by
 intro pins s σ H Q I h
 refine BoolOp_or (q0 (ha pins s σ H _ I h) fun v s1 ⟨x,H1,I1,r1,q1⟩=>?_)
 obtain⟨c,rfl,q1⟩:=q1
 cases r1
 refine wpAny_truthy_bool ?_
 cases c with
 | false=>exact hb pins s1 σ H1 Q I1 q1
 | true=>exact⟨.bl true,H1,I1,rfl,q1⟩
theorem Xr (ha:PE X a ta):PE X (.UnaryOp .Not a pos) (tF ta):=by
 intro pins s σ H Q I h
 refine UnaryOp_ (q0 (ha pins s σ H _ I h) fun v s1 ⟨x,H1,I1,r1,q1⟩=>?_)
 obtain⟨c,rfl,q1⟩:=q1
 cases r1
 exact not_of (wpAny_truthy_bool ⟨.bl (!c),H1,I1,rfl,q1⟩)
end
noncomputable def zY (K:BFr) (H:Hp) (a:Addr) (xs:List V):Prop :=
 Rd H a (.lst xs) ∨
  ∃ (o:Obj) (its:Array Value) (n:Nat),K.lookup a=some o∧o.cls = .type "list"∧o.dict=none∧o.data = .seq its n∧its.size≤sizeLine∧qt xs its.toList
noncomputable def qw (K:BFr) (H:Hp) (a:Addr) (xs:List V):Prop :=
 Rd H a (.tup xs) ∨
  ∃ (o:Obj) (its:Array Value) (n:Nat),K.lookup a=some o∧o.cls = .type "tuple"∧o.data = .seq its n∧its.size≤sizeLine∧qt xs its.toList
noncomputable def bX:Value→Option V
 | .none=>some .non
 | .bool b=>some (.bl b)
 | .int i _=>some (.int i)
 | .str x _=>some (.str x)
 | .bytes b _=>some (.byt b)
 | .float b _=>some (.flt b)
 | .ref a=>some (.ref a)
 | .type n=>some (.ty n)
 | _=>none
theorem qG.abs {x:V} {u:Value} (r:qG x u):bX u=some x:=by
 cases x with
 | non=>cases r;rfl
 | bl _=>cases r;rfl
 | int _=>obtain⟨t,rfl⟩:=r;rfl
 | str _=>obtain⟨t,rfl⟩:=r;rfl
 | byt _=>obtain⟨t,rfl⟩:=r;rfl
 | flt _=>obtain⟨t,rfl⟩:=r;rfl
 | ref _=>cases r;rfl
 | ty _=>cases r;rfl
theorem qG.inj {x y:V} {u:Value} (r:qG x u) (q:qG y u):x=y:=Option.some.inj (r.abs.symm.trans q.abs)
theorem qt.inj:∀ {xs ys:List V} {us:List Value},qt xs us→qt ys us→xs=ys
 | _,_,_,.nil,.nil=>rfl
 | _,_,_,.cons r t,.cons r' t'=>by rw[r.inj r',qt.inj t t']
section
variable {X:Cx} {pins:List (Addr × Obj)} {σ:St} {H:Hp} {s:Shared} {a:Addr} {xs ys:List V}
theorem zY.of {K:BFr} (h:H a=some (.lst xs)):zY K H a xs:=.inl (.inl h)
theorem qw.of {K:BFr} (h:H a=some (.tup xs)):qw K H a xs:=.inl (.inl h)
theorem zN.list (I:zN X pins σ H s) (h:zY X.K H a xs):∃ its:List Value,qt xs its∧PlainL s.heap a its.toArray∧xs.length≤sizeLine:=by
 rcases h with h | ⟨o,its,n,hk,hc,hd,hs,hz,r⟩
 ·obtain⟨z,its,n,r,e⟩:=h.ok I.hok
  exact⟨its,r,⟨_,n,e,rfl,rfl,rfl⟩,z⟩
 ·refine⟨its.toList,r,⟨o,n,I.kIn a o hk,hc,hd,by simpa using hs⟩,?_⟩
  have e:=r.length
  simp only[CN] at e
  omega
theorem zN.tuple (I:zN X pins σ H s) (h:qw X.K H a xs):∃ its:List Value,qt xs its∧IsTup s.heap a its.toArray∧xs.length≤sizeLine:=by
 rcases h with h | ⟨o,its,n,hk,hc,hs,hz,r⟩
 ·obtain⟨z,its,r,p⟩:=h.ok I.hok
  exact⟨its,r,p,z⟩
 ·refine⟨its.toList,r,⟨o,I.kIn a o hk,hc,n,by simpa using hs⟩,?_⟩
  have e:=r.length
  simp only[CN] at e
  omega
theorem zN.list_inj (I:zN X pins σ H s) (h:zY X.K H a xs) (h':zY X.K H a ys):xs=ys:=by
 obtain⟨its,r,⟨o,n,e,_,_,d⟩,_⟩:=I.list h
 obtain⟨its',r',⟨o',n',e',_,_,d'⟩,_⟩:=I.list h'
 rw[e] at e';cases e'
 rw[d] at d'
 injection d' with d1 _
 have:its=its':=by simpa using congrArg Array.toList d1
 subst this
 exact r.inj r'
theorem zN.tuple_inj (I:zN X pins σ H s) (h:qw X.K H a xs) (h':qw X.K H a ys):xs=ys:=by
 obtain⟨its,r,⟨o,e,_,n,d⟩,_⟩:=I.tuple h
 obtain⟨its',r',⟨o',e',_,n',d'⟩,_⟩:=I.tuple h'
 rw[e] at e';cases e'
 rw[d] at d'
 injection d' with d1 _
 have:its=its':=by simpa using congrArg Array.toList d1
 subst this
 exact r.inj r'
end
abbrev Cx.wish (X:Cx) (E:Value→Shared→Prop):Cx:={ X with xe:=E }
abbrev Cx.nox (X:Cx):Cx:=X.wish fun _ _=>False
theorem Cx.Ok.wish {X:Cx} (ok:X.Ok) (E:Value→Shared→Prop):(X.wish E).Ok :=
 ⟨ok.mod,ok.kind,ok.glob,ok.blt,ok.above,ok.inj,ok.has,ok.cab,ok.hd,ok.frames,ok.stk,ok.exf,ok.bs,ok.bsz,ok.noex,ok.exfs,ok.funs,ok.frf⟩
theorem Cx.Ok.unwish {X:Cx} {E:Value→Shared→Prop} (ok:(X.wish E).Ok):X.Ok :=
 ⟨ok.mod,ok.kind,ok.glob,ok.blt,ok.above,ok.inj,ok.has,ok.cab,ok.hd,ok.frames,ok.stk,ok.exf,ok.bs,ok.bsz,ok.noex,ok.exfs,ok.funs,ok.frf⟩
section
variable {X:Cx} {pins:List (Addr × Obj)} {σ:St} {H:Hp} {s:Shared} {E:Value→Shared→Prop}
theorem zN.wish (I:zN X pins σ H s) (E:Value→Shared→Prop):zN (X.wish E) pins σ H s:=⟨I.ok.wish E,I.os,I.bare,I.base,I.loc,I.cell,I.free,I.freeC,I.pin,I.hok,I.len⟩
theorem zN.unwish (I:zN (X.wish E) pins σ H s):zN X pins σ H s:=⟨I.ok.unwish,I.os,I.bare,I.base,I.loc,I.cell,I.free,I.freeC,I.pin,I.hok,I.len⟩
theorem SP.unwish {D:uK} {f:Flow} {s':Shared} (h:SP (X.wish E) pins D f s'):SP X pins D f s':=by
 cases f with
 | next=>obtain⟨σ',H',I,q⟩:=h;exact⟨σ',H',I.unwish,q⟩
 | brk=>obtain⟨σ',H',I,q⟩:=h;exact⟨σ',H',I.unwish,q⟩
 | cont=>obtain⟨σ',H',I,q⟩:=h;exact⟨σ',H',I.unwish,q⟩
 | ret u=>obtain⟨v,σ',H',I,r,q⟩:=h;exact⟨v,σ',H',I.unwish,r,q⟩
theorem y8.nox {st:List Stmt} {t:TS} (h:y8 X.nox st t):y8 X st t:=fun pins s σ H D I hw =>
 wpAny_mono (h pins s σ H D (I.wish _) hw) (fun _ _ q=>q.unwish) fun _ _ z=>False.elim z
end
section
variable {X:Cx} {st:Stmt} {yE:List Stmt} {t u:TS} {e:Expr} {te:TE} {pos:Pos}
noncomputable def gf:TS:=fun D σ H=>D.nx σ H
noncomputable def tP (t u:TS):TS:=fun D σ H=>t { D with nx:=u D } σ H
theorem zB:y8 X [] gf:=fun _ _ σ H _ I h=>wpAny_execs_nil ⟨σ,H,I,h⟩
theorem zg (h1:PS X st t) (h2:y8 X yE u):y8 X (st::yE) (tP t u):=by
 intro pins s σ H D I h
 refine wpAny_execs_cons (q0 (h1 pins s σ H { D with nx:=u D } I h) fun f s1 q=>?_)
 cases f with
 | next =>
  obtain⟨σ',H',I',q⟩:=q
  exact h2 pins s1 σ' H' D I' q
 | ret v=>exact q
 | brk=>exact q
 | cont=>exact q
theorem zh (h1:PS X st t):y8 X [st] t:=by
 intro pins s σ H D I h
 refine wpAny_execs_cons (q0 (h1 pins s σ H D I h) fun f s1 q=>?_)
 cases f with
 | next=>exact wpAny_execs_nil q
 | ret v=>exact q
 | brk=>exact q
 | cont=>exact q
theorem zN.quiet {pins:List (Addr × Obj)} {σ:St} {H:Hp} {s:Shared} (I:zN X pins σ H s):interactive X.env=false:=by simp[interactive,I.ok.kind]
noncomputable def To (te:TE):TS:=fun D σ H=>te σ H fun _ H1=>D.nx σ H1
theorem qb (he:PE X e te) (hs:swapsWith e none pos.line X.env=pure false:=by rfl):PS X (.Expr e pos) (To te):=by
 intro pins s σ H D I h
 exact wpAny_Expr_any (q0 (he pins s σ H _ I h) fun v s1 ⟨x,H1,I1,r1,q1⟩=>⟨σ,H1,I1,q1⟩) I.quiet hs
noncomputable def Mx (te:TE):TS:=fun D σ H=>te σ H D.rt
theorem zm (he:PE X e te):PS X (.Return (some e) pos) (Mx te):=by
 intro pins s σ H D I h
 exact wpAny_Return_some (q0 (he pins s σ H _ I h) fun v s1 ⟨x,H1,I1,r1,q1⟩=>⟨x,σ,H1,I1,r1,q1⟩)
noncomputable def TQ (c:TT) (t u:TS):TS:=fun D σ H=>c σ H fun b H1=>if b=true then t D σ H1 else u D σ H1
theorem zK {c:Expr} {a b:List Stmt} {tc:TT} (hc:PT X c tc) (ha:y8 X a t) (hb:y8 X b u):PS X (.If c a b pos) (TQ tc t u):=by
 intro pins s σ H D I h
 refine wpAny_If (q0 (hc pins s σ H _ I h) fun d s1 ⟨H1,I1,q1⟩=>?_)
 cases d with
 | true=>exact ha pins s1 σ H1 D I1 q1
 | false=>exact hb pins s1 σ H1 D I1 q1
noncomputable def Nx:TS:=fun _ _ _=>False
theorem qJ {sts:List Stmt}:y8 X sts Nx:=fun _ _ _ _ _ _ h=>h.elim
end
abbrev TG:=V→St→Hp→(St→Hp→Prop)→Prop
abbrev Ri:=List V→St→Hp→(St→Hp→Prop)→Prop
noncomputable def PG (X:Cx) (target:Expr) (t:TG):Prop :=
 ∀ (pins:List (Addr × Obj)) (s:Shared) (σ:St) (H:Hp) (v:V) (u:Value) (Q:St→Hp→Prop),zN X pins σ H s→qG v u→t v σ H Q →
  wpAny (model X.prog X.w) X.A (assign target X.env u) (fun _ s'=>∃ σ' H',zN X pins σ' H' s'∧Q σ' H') X.xe s
noncomputable def vz (X:Cx) (ts:List Expr) (t:Ri):Prop :=
 ∀ (pins:List (Addr × Obj)) (s:Shared) (σ:St) (H:Hp) (vs:List V) (us:List Value) (Q:St→Hp→Prop),zN X pins σ H s→qt vs us→t vs σ H Q →
  wpAny (model X.prog X.w) X.A (assignInOrder ((assignEach ts X.env).map (·.2)) us) (fun _ s'=>∃ σ' H',zN X pins σ' H' s'∧Q σ' H') X.xe s
section
variable {X:Cx} {pos:Pos}
noncomputable def qx (i:Nat):TG:=fun v σ H Q=>Q (σ.set i (some v)) H
theorem z5 {i:Nat} {x:Str} (hN:X.N.Nodup) (hi:X.N[i]? = some x) (hx:bC X.env.scope x) (hf:X.fn x=true∨X.env.scope.names.lookup x=some .local:=by first | exact .inl rfl | exact .inr rfl | assumption):PG X (.Name x pos) (qx i):=by
 intro pins s σ H v u Q I r h
 exact wpAny_assign_Name (Qw I hN hi hx r (fun s' I'=>⟨_,H,I',h⟩) hf)
noncomputable def Mu:Ri:=fun vs σ H Q=>vs=[]∧Q σ H
noncomputable def QX (t:TG) (u:Ri):Ri:=fun vs σ H Q=>∃ v r,vs=v::r∧t v σ H fun σ' H'=>u r σ' H' Q
theorem X8:vz X [] Mu:=by
 intro pins s σ H vs us Q I r h
 obtain⟨e,h⟩:=h
 subst e
 cases r
 exact assignInOrder_nil ⟨σ,H,I,h⟩
theorem kJ {e:Expr} {es:List Expr} {t:TG} {u:Ri} (h1:PG X e t) (h2:vz X es u) (hs:(assignEach (e::es) X.env).map (·.2)=assign e X.env::(assignEach es X.env).map (·.2):=by rfl):vz X (e::es) (QX t u):=by
 intro pins s σ H vs us Q I r h
 obtain⟨v,vr,e1,h⟩:=h
 subst e1
 cases r with
 | cons r rr =>
  rw[hs]
  refine assignInOrder_cons (q0 (h1 pins s σ H _ _ _ I r h) fun _ s1 ⟨σ1,H1,I1,q1⟩=>?_)
  exact h2 pins s1 σ1 H1 _ _ Q I1 rr q1
noncomputable def Lv (K:BFr) (n:Nat) (t:Ri):TG:=fun v σ H Q=>∃ a xs,v = .ref a∧qw K H a xs∧xs.length=n∧t xs σ H Q
theorem On {es:List Expr} {k:Nat} {t:Ri} {n:Nat} (hc:X.calm=true) (h:vz X es t) (hn:(assignEach es X.env).length=n:=by rfl) (hst:(assignEach es X.env).findIdx? (·.1)=none:=by rfl):PG X (.Tuple es k pos) (Lv X.K n t):=by
 intro pins s σ H v u Q I r hw
 obtain⟨a,xs,e1,hq,hl,hw⟩:=hw
 subst e1
 cases r
 obtain⟨its,rv,ht,hz⟩:=I.tuple hq
 refine assign_Tuple_tuple (I.ok.hd hc) ht (by simp[hn,← hl,rv.length]) hst fun h' hx=>?_
 have I1:zN X pins σ H { s with heap:=h' }:=I.kept (t':=s.toks) fun b o e=>hx b o (Cc (cV e)) e
 exact h pins _ σ H xs _ Q I1 (by simpa using rv) hw
noncomputable def TB (te:TE) (g:TG):TS:=fun D σ H=>te σ H fun x H1=>g x σ H1 D.nx
theorem zI {i:Nat} {x:Str} {e:Expr} {te:TE} {pos':Pos} (hN:X.N.Nodup) (hi:X.N[i]? = some x) (hx:bC X.env.scope x) (he:PE X e te) (hs:swapsWith e (some (.Name x pos')) pos.line X.env=pure false:=by rfl) (hf:X.fn x=true∨X.env.scope.names.lookup x=some .local:=by first | exact .inl rfl | exact .inr rfl | assumption) :
  PS X (.Assign [.Name x pos'] e pos) (TB te (qx i)):=by
 intro pins s σ H D I h
 refine wpAny_Assign_Name (q0 (he pins s σ H _ I h) fun v s1 ⟨y,H1,I1,r1,q1⟩=>?_) hs
 exact Qw I1 hN hi hx r1 (fun s2 I2=>⟨_,H1,I2,q1⟩) hf
end
section
variable {X:Cx} {pos:Pos}
end
structure It where
 go:Nat→Hp→Prop
 yld:Nat→Hp→V→Hp→Prop
 stop:Nat→Hp→Prop
noncomputable def yv (X:Cx) (pins:List (Addr × Obj)) (H:Hp) (b:Addr):Prop :=
 H b=none∧b≠X.env.locals∧b∉X.fs∧(b∈X.ex∨X.s₀.heap.get? b=none)∧(∀ x c,X.env.cells.lookup x=some c→c≠b)∧∀ p∈X.pn++pins,p.1≠b
theorem zN.fpOk {X:Cx} {pins:List (Addr × Obj)} {σ:St} {H H':Hp} {s:Shared} {b:Addr} (I:zN X pins σ H s) (hb:s.heap.objs.size≤b) (hn:H' b=none):yv X pins H' b:=by
 refine⟨hn,Dg (CJ I.lt hb),I.nofs hb,.inr (Df (cZ I.sz hb)),fun x c e z=>?_,fun p hp z=>?_⟩
 ·obtain⟨v,q⟩:=I.cell x c e
  exact absurd (CJ q.lt (by rw[z];exact hb)) (Dc _)
 ·exact absurd (CJ (cV (I.pin p hp).1) (by rw[z];exact hb)) (Dc _)
structure U9 (P:Program) (w:World) (K:BFr) (tg:Expr) (J:It) (fp:List Addr) (it:Addr) (tn:Nat→Heap→Prop):Prop where
 mem:it∈fp
 obj:∀ i h,tn i h→∀ b∈fp,∃ o,h.get? b=some o∧∀ v,o.data≠.cell v
 keep:∀ i h h',tn i h→(∀ b∈fp,∀ o,h.get? b=some o→h'.get? b=some o)→tn i h'
 item:∀ (X:Cx),X.prog=P→X.w=w→X.K=K→X.calm=true→∀ (i:Nat) (pins:List (Addr × Obj)) (s:Shared) (σ:St) (H:Hp) (E:Value→Shared→Prop),zN X pins σ H s→(∀ b∈fp,yv X pins H b)→tn i s.heap→J.go i H →
  wpAny (model P w) X.A (pyNext (.ref it)) (fun r s1=>∃ u,r=some u ∧
   wpAny (model P w) X.A (letOwnedTupleGo tg (.ref it) u) (fun _ s2=>∃ x H',zN X pins σ H' s2∧qG x u∧J.yld i H x H'∧tn (i+1) s2.heap∧∀ b∈fp,H' b=none) E s1) E s
 done:∀ (X:Cx),X.prog=P→X.w=w→X.K=K→X.calm=true→∀ (i:Nat) (pins:List (Addr × Obj)) (s:Shared) (σ:St) (H:Hp) (E:Value→Shared→Prop),zN X pins σ H s→(∀ b∈fp,yv X pins H b)→tn i s.heap→J.stop i H →
  wpAny (model P w) X.A (pyNext (.ref it)) (fun r s1=>r=none∧zN X pins σ H s1) E s
 self:∀ (A:Around) (i:Nat) (s:Shared) (Q:Value→Shared→Prop) (E:Value→Shared→Prop),tn i s.heap→Q (.ref it) s→wpAny (model P w) A (pyIter (.ref it)) Q E s
abbrev TI:=St→Hp→(It→Hp→Prop)→Prop
noncomputable def cp (X:Cx) (pins:List (Addr × Obj)) (σ:St) (tg:Expr) (R:It→Hp→Prop) (itv:Value) (s2:Shared):Prop :=
 ∃ (it:Addr) (fp:List Addr) (tn:Nat→Heap→Prop) (J:It) (H':Hp),itv = .ref it∧zN X pins σ H' s2∧U9 X.prog X.w X.K tg J fp it tn∧tn 0 s2.heap∧(∀ b∈fp,yv X pins H' b)∧R J H'
noncomputable def PI (X:Cx) (tg iter:Expr) (wi:TI):Prop :=
 ∀ (pins:List (Addr × Obj)) (s:Shared) (σ:St) (H:Hp) (R:It→Hp→Prop),zN X pins σ H s→wi σ H R →
  wpAny (model X.prog X.w) X.A (eval iter X.env) (fun v s1=>wpAny (model X.prog X.w) X.A (pyIter v) (cp X pins σ tg R) X.xe s1) X.xe s
theorem V8 {M:Model} {A:Around} {E:Value→Shared→Prop} {s:Shared} {tg:Expr} {it:Addr} {u:Value} {o:Obj} {n:String} {vs:Array Value} {Q:Unit→Shared→Prop} (ho:s.heap.get? it=some o) (hc:o.cls = .type n) (hd:o.data = .fields vs) (hn:["enumerate","zip","dict_itemiterator","dict_reverseitemiterator","odict_iterator","itertools.zip_longest","itertools.pairwise"].contains n=false) (hQ:Q () s):wpAny M A (letOwnedTupleGo tg (.ref it) u) Q E s:=by
 unfold letOwnedTupleGo
 cases tg <;> first
  | exact wpAny_pure hQ
  | (cases u <;> first
    | exact wpAny_pure hQ
    | (refine wpAny_bind (wpAny_load ho ?_)
       rw[hc,hd]
       show wpAny M A (if (["enumerate","zip","dict_itemiterator","dict_reverseitemiterator","odict_iterator","itertools.zip_longest","itertools.pairwise"].contains n&&vs[0]? == some (rawInt _))=true then _ else _) Q E s
       rw[if_neg (by intro h;rw[hn,CQ] at h;cases h)]
       exact wpAny_pure hQ))
noncomputable def Nn (K:BFr) (a:Addr):It :=
 ⟨fun i H=>∃ xs x,zY K H a xs∧xs[i]? = some x,fun i H x H'=>H'=H∧∀ xs,zY K H a xs→xs[i]? = some x,fun i H=>∃ xs,zY K H a xs∧xs.length≤i⟩
noncomputable def BN (K:BFr) (a:Addr):It :=
 ⟨fun i H=>∃ xs x,qw K H a xs∧xs[i]? = some x,fun i H x H'=>H'=H∧∀ xs,qw K H a xs→xs[i]? = some x,fun i H=>∃ xs,qw K H a xs∧xs.length≤i⟩
noncomputable def Nm (lo:Int) (n:Nat):It:=⟨fun i _=>i<n,fun i H x H'=>H'=H∧x = .int (lo+i),fun i _=>n≤i⟩
theorem GZ {P:Program} {w:World} {K:BFr} {tg:Expr} (a it:Addr):U9 P w K tg (Nn K a) [it] it (fun i h=>h.IsListIter it a i) where
 mem:=by simp
 obj:=fun i h st b hb=>by
  have e:b=it:=by simpa using hb
  subst e
  obtain⟨o,e,c,d⟩:=st
  exact⟨o,e,fun v z=>by rw[d] at z;cases z⟩
 keep:=fun i h h' st k=>st.at fun o e=>k it (by simp) o e
 item:=by
  intro X hP hw hK hc i pins s σ H E I hf st hg
  subst hP hw hK
  obtain⟨xs,x,hq,hx⟩:=hg
  obtain⟨its,rv,p,hz⟩:=I.list hq
  obtain⟨u,hu,ru⟩:=rv.get hx
  obtain⟨f0,f1,f2,f3,f4,f5⟩:=hf it (by simp)
  refine wpAny_pyNext_list_item st p.isList (x:=u) (by simpa using hu) fun h' st' sb=>?_
  have I1:zN X pins σ H { s with heap:=h' }:=I.turned (t':=s.toks) (fun b o hb e=>(sb.2 b hb).trans e) f0 f1 f3 f4 f5
  obtain⟨o,e,c,d⟩:=id st'
  exact⟨u,rfl,V8 (s:={ s with heap:=h' }) e c d (by decide) ⟨x,H,I1,ru,⟨rfl,fun ys hy=>by rw[I.list_inj hy hq];exact hx⟩,st',fun b hb=>(hf b hb).1⟩⟩
 done:=by
  intro X hP hw hK hc i pins s σ H E I hf st hg
  subst hP hw hK
  obtain⟨xs,hq,hx⟩:=hg
  obtain⟨its,rv,p,hz⟩:=I.list hq
  obtain⟨f0,f1,f2,f3,f4,f5⟩:=hf it (by simp)
  have hl:=rv.length
  exact wpAny_pyNext_list_end (I.ok.hd hc) st p.isList (by simp;omega) fun h' eb=>⟨rfl,I.turned (t':=s.toks) (fun b o hb e=>eb b o hb e) f0 f1 f3 f4 f5⟩
 self:=fun _ _ _ _ _ st h=>wpAny_pyIter_listiter st h
theorem XQ {P:Program} {w:World} {K:BFr} {tg:Expr} (a it:Addr):U9 P w K tg (BN K a) [it] it (fun i h=>h.IsTupleIter it a i) where
 mem:=by simp
 obj:=fun i h st b hb=>by
  have e:b=it:=by simpa using hb
  subst e
  obtain⟨o,e,c,d⟩:=st
  exact⟨o,e,fun v z=>by rw[d] at z;cases z⟩
 keep:=fun i h h' st k=>st.at fun o e=>k it (by simp) o e
 item:=by
  intro X hP hw hK hc i pins s σ H E I hf st hg
  subst hP hw hK
  obtain⟨xs,x,hq,hx⟩:=hg
  obtain⟨its,rv,p,hz⟩:=I.tuple hq
  obtain⟨u,hu,ru⟩:=rv.get hx
  obtain⟨f0,f1,f2,f3,f4,f5⟩:=hf it (by simp)
  refine wpAny_pyNext_tuple_item st (show s.heap.IsTuple a its.toArray from p) (x:=u) (by simpa using hu) fun h' st' sb=>?_
  have I1:zN X pins σ H { s with heap:=h' }:=I.turned (t':=s.toks) (fun b o hb e=>(sb.2 b hb).trans e) f0 f1 f3 f4 f5
  obtain⟨o,e,c,d⟩:=id st'
  exact⟨u,rfl,V8 (s:={ s with heap:=h' }) e c d (by decide) ⟨x,H,I1,ru,⟨rfl,fun ys hy=>by rw[I.tuple_inj hy hq];exact hx⟩,st',fun b hb=>(hf b hb).1⟩⟩
 done:=by
  intro X hP hw hK hc i pins s σ H E I hf st hg
  subst hP hw hK
  obtain⟨xs,hq,hx⟩:=hg
  obtain⟨its,rv,p,hz⟩:=I.tuple hq
  obtain⟨f0,f1,f2,f3,f4,f5⟩:=hf it (by simp)
  have hl:=rv.length
  exact wpAny_pyNext_tuple_end (I.ok.hd hc) st (show s.heap.IsTuple a its.toArray from p) (by simp;omega) fun h' eb=>⟨rfl,I.turned (t':=s.toks) (fun b o hb e=>eb b o hb e) f0 f1 f3 f4 f5⟩
 self:=fun _ _ _ _ _ st h=>wpAny_pyIter_tupleiter st h
theorem Xw {P:Program} {w:World} {K:BFr} {tg:Expr} (it:Addr) (lo:Int) (n:Nat):U9 P w K tg (Nm lo n) [it] it (fun i h=>IsRangeIter h it (lo+(i:Nat)*1) ((n:Int) - (i:Nat)) 1) where
 mem:=by simp
 obj:=fun i h st b hb=>by
  have e:b=it:=by simpa using hb
  subst e
  exact⟨_,st,fun v z=>by
   have z':Data.fields _=Data.cell v:=z
   cases z'⟩
 keep:=fun i h h' st k=>k it (by simp) _ st
 item:=by
  intro X hP hw hK hc i pins s σ H E I hf st hg
  subst hP hw hK
  obtain⟨f0,f1,f2,f3,f4,f5⟩:=hf it (by simp)
  have W:=Walks.range (prog:=X.prog) (w:=X.w) (I.ok.hd hc) it lo 1 n
  refine W.item i s _ _ hg st fun v h' tk hv st' kk=>?_
  obtain⟨t,rfl⟩:=hv
  have I1:zN X pins σ H { s with heap:=h',toks:=tk }:=I.turned (fun b o hb e=>kk b o (by simpa using hb) e) f0 f1 f3 f4 f5
  refine⟨_,rfl,V8 (s:={ s with heap:=h',toks:=tk }) (n:="range_iterator") st' rfl rfl (by decide) ⟨.int (lo+i),H,I1,⟨t,?_⟩,⟨rfl,rfl⟩,st',fun b hb=>(hf b hb).1⟩⟩
  rw[Int.mul_one]
 done:=by
  intro X hP hw hK hc i pins s σ H E I hf st hg
  subst hP hw hK
  obtain⟨f0,f1,f2,f3,f4,f5⟩:=hf it (by simp)
  exact wpAny_pyNext_range_end (I.ok.hd hc) st (by have:n≤i:=hg;omega) fun h' eb=>⟨rfl,I.turned (t':=s.toks) (fun b o hb e=>eb b o hb e) f0 f1 f3 f4 f5⟩
 self:=fun _ _ _ _ _ st h=>wpAny_pyIter_rangeiter st h
section
variable {X:Cx} {tg:Expr}
noncomputable def Jw (K:BFr) (tl:TE):TI:=fun σ H R=>tl σ H fun x H1=>∃ a,x = .ref a∧(∃ xs,zY K H1 a xs)∧R (Nn K a) H1
noncomputable def YC (K:BFr) (tl:TE):TI:=fun σ H R=>tl σ H fun x H1=>∃ a,x = .ref a∧(∃ xs,qw K H1 a xs)∧R (BN K a) H1
theorem j7 {l:Expr} {tl:TE} (hl:PE X l tl):PI X tg l (Jw X.K tl):=by
 intro pins s σ H R I h
 refine q0 (hl pins s σ H _ I h) fun v s1 ⟨x,H1,I1,r1,q1⟩=>?_
 obtain⟨a,e,⟨xs,hq⟩,q⟩:=q1
 subst e
 cases r1
 obtain⟨its,rv,p,hz⟩:=I1.list hq
 refine wpAny_pyIter_list p.isList ?_
 refine⟨s1.heap.objs.size,[s1.heap.objs.size],_,_,H1,rfl,I1.kept (t':=s1.toks) fun b o e=>Cf _ e,GZ a _,⟨_,Cq _ rfl,rfl,rfl⟩,fun b hb=>?_,q⟩
 have e:b=s1.heap.objs.size:=by simpa using hb
 subst e
 exact I1.fpOk (cP _) (I1.hok.fresh (cP _))
theorem uu {l:Expr} {tl:TE} (hl:PE X l tl):PI X tg l (YC X.K tl):=by
 intro pins s σ H R I h
 refine q0 (hl pins s σ H _ I h) fun v s1 ⟨x,H1,I1,r1,q1⟩=>?_
 obtain⟨a,e,⟨xs,hq⟩,q⟩:=q1
 subst e
 cases r1
 obtain⟨its,rv,p,hz⟩:=I1.tuple hq
 refine wpAny_pyIter_tuple (show s1.heap.IsTuple a its.toArray from p) ?_
 refine⟨s1.heap.objs.size,[s1.heap.objs.size],_,_,H1,rfl,I1.kept (t':=s1.toks) fun b o e=>Cf _ e,XQ a _,⟨_,Cq _ rfl,rfl,rfl⟩,fun b hb=>?_,q⟩
 have e:b=s1.heap.objs.size:=by simpa using hb
 subst e
 exact I1.fpOk (cP _) (I1.hok.fresh (cP _))
theorem OJ {pins:List (Addr × Obj)} {σ:St} {H:Hp} {s:Shared} {R:It→Hp→Prop} {E:Value→Shared→Prop} {lo hi:Int} {t u v:Tok} {tk:Nat} (I:zN X pins σ H s) (h1:-(2 ^ 62)≤lo) (h2:lo<2 ^ 62) (h3:-(2 ^ 62)≤hi) (h4:hi<2 ^ 62) (q:R (Nm lo (hi - lo).toNat) H):wpAny (model X.prog X.w) X.A (pyIter (.ref s.heap.objs.size)) (cp X pins σ tg R) E { s with heap:=s.heap.push { cls:=.type "range",data:=.fields #[.int lo t,.int hi u,.int 1 v] },toks:=tk }:=by
 refine wpAny_pyIter_range (IsRange.new ..) (small_one h1 h2 h3 h4) ?_
 have I1:zN X pins σ H { s with heap:=s.heap.push { cls:=.type "range",data:=.fields #[.int lo t,.int hi u,.int 1 v] },toks:=tk }:=I.kept fun b o e=>Cf _ e
 refine⟨(s.heap.push { cls:=.type "range",data:=.fields #[.int lo t,.int hi u,.int 1 v] }).objs.size,[(s.heap.push { cls:=.type "range",data:=.fields #[.int lo t,.int hi u,.int 1 v] }).objs.size],_,_,H,rfl,
  I1.kept (t':=tk) fun b o e=>Cf _ e,Xw _ lo (hi - lo).toNat,?_,fun b hb=>?_,q⟩
 ·have e1:lo+((0:Nat):Int)*1=lo:=by simp
  have e2:(((hi - lo).toNat:Nat):Int) - ((0:Nat):Int)=Builtin.Range.rangeSize lo hi 1:=by rw[rangeSize_one];split <;> omega
  show IsRangeIter _ _ (lo+((0:Nat):Int)*1) ((((hi - lo).toNat:Nat):Int) - ((0:Nat):Int)) 1
  rw[e1,e2]
  exact Cq _ rfl
 ·have e:b=(s.heap.push { cls:=.type "range",data:=.fields #[.int lo t,.int hi u,.int 1 v] }).objs.size:=by simpa using hb
  subst e
  exact I1.fpOk (cP _) (I1.hok.fresh (cP _))
noncomputable def Ju (ta:TA):TI:=fun σ H R=>ta σ H fun vs H1=>∃ j:Int,vs=[.int j]∧-(2 ^ 62)≤j∧j<2 ^ 62∧R (Nm 0 j.toNat) H1
theorem yg {a:Expr} {ta:TA} {p pos:Pos} (hg:Gl X "range") (hm:X.mg "range" = none) (ha:PA X [a] ta) (hs:starEach [a] X.env=[(false,eval a X.env)]:=by rfl):PI X tg (.Call (.Name "range" p) [a] [] pos) (Ju ta):=by
 intro pins s σ H R I h
 refine Call_ (uT I hg hm boot_range (PyProof.Rows.callWith_type1 (q0 (ha pos pins s σ H _ I h) fun us s1 ⟨vs,H1,I1,r1,q1⟩=>?_) hs rfl))
 obtain⟨j,e,q1,q2,q⟩:=q1
 subst e
 cases r1 with
 | cons r rr =>
  cases rr
  obtain⟨t,rfl⟩:=r
  exact call_range_1 (OJ I1 (by omega) (by omega) q1 q2 (by simpa using q))
noncomputable def Bx (wi:TI) (g:TG) (tb:TS):TS:=fun D σ H=>wi σ H fun J H1=>∃ W:Nat→Nat→St→Hp→Prop,(∃ m,W 0 m σ H1)∧∀ i m σ H,W i m σ H →
 (J.stop i H∧D.nx σ H)∨(J.go i H∧∃ N:St→Hp→Prop,(∀ σ' H',N σ' H'→∃ m',m'<m∧W (i+1) m' σ' H')∧∀ x H',J.yld i H x H'→g x σ H' fun σ2 H2=>tb { D with nx:=N,ct:=N,bk:=D.nx } σ2 H2)
noncomputable def uy (fp:List Addr) (h:Heap):List (Addr × Obj):=fp.filterMap fun b=>(h.get? b).map fun o=>(b,o)
theorem vh {fp:List Addr} {h:Heap} {b:Addr} {o:Obj} (hb:b∈fp) (e:h.get? b=some o):(b,o)∈uy fp h:=DP.mpr ⟨b,hb,by rw[e];rfl⟩
theorem Y9 {fp:List Addr} {h:Heap} {p:Addr × Obj} (hp:p∈uy fp h):p.1∈fp∧h.get? p.1=some p.2:=by
 obtain⟨b,hb,e⟩:=DP.mp hp
 cases q:h.get? b with
 | none=>rw[q] at e;cases e
 | some o =>
  rw[q] at e
  have e':(b,o)=p:=Option.some.inj e
  subst e'
  exact⟨hb,q⟩
theorem zN.pinned {pins:List (Addr × Obj)} {σ:St} {H:Hp} {s:Shared} {fp:List Addr} (I:zN X pins σ H s) (hf:∀ b∈fp,yv X pins H b) (ho:∀ b∈fp,∃ o,s.heap.get? b=some o∧∀ v,o.data≠.cell v):zN X (pins++uy fp s.heap) σ H s :=
 I.pins_of fun p hp=>(CM.mp hp).elim (fun z=>I.pin p (CC _ z)) fun z=>by
  obtain⟨hb,e⟩:=Y9 z
  obtain⟨f0,f1,f2,_⟩:=hf p.1 hb
  obtain⟨o,e',d⟩:=ho p.1 hb
  rw[e] at e';cases e'
  exact⟨e,f0,f1,f2,d⟩
theorem zN.unpinned {pins pl:List (Addr × Obj)} {σ:St} {H:Hp} {s:Shared} (I:zN X (pins++pl) σ H s):zN X pins σ H s:=I.pins_of fun p hp=>I.pin p (CC _ (CW _ hp))
theorem vW {iter:Expr} {body:List Stmt} {wi:TI} {g:TG} {tb:TS} {pos:Pos} (hp:PassesOwn (model X.prog X.w) X.A X.env X.xe) (hc:X.calm=true) (hi:PI X tg iter wi) (hg:PG X tg g) (hb:y8 X body tb) (hs:∀ x,foldedSetIterable iter X.env x=pure x:=by intro _;rfl):PS X (.For tg iter body [] pos) (Bx wi g tb):=by
 intro pins s σ H D I h
 refine wpAny_For (q0 (hi pins s σ H _ I h) fun v s1 h1=>q0 h1 fun itv s2 h2=>?_) hs
 obtain⟨it,fp,tn,J,H2,e,I2,T,st2,f2,W,⟨m0,w0⟩,turn⟩:=h2
 subst e
 have stat:∀ {H':Hp},(∀ b∈fp,H' b=none)→∀ b∈fp,yv X pins H' b:=fun hn b hb=>⟨hn b hb,(f2 b hb).2⟩
 refine codeAny_forLoop_any (fun n s'=>∃ i σ' H',zN X pins σ' H' s'∧tn i s'.heap∧(∀ b∈fp,H' b=none)∧W i n σ' H') ?_ m0 ⟨0,σ,H2,I2,st2,fun b hb=>(f2 b hb).1,w0⟩
 rintro n s3 ⟨i,σ3,H3,I3,st3,fr3,w3⟩
 rcases turn i n σ3 H3 w3 with ⟨stop,qn⟩ | ⟨go,N,hN,step⟩
 ·refine wpAny_passesOwn hp (q0 (T.done X rfl rfl rfl hc i pins s3 σ3 H3 X.xe I3 (stat fr3) st3 stop) fun r s4 ⟨hr,I4⟩=>?_)
  subst hr
  exact wpAny_execs_nil ⟨σ3,H3,I4,qn⟩
 ·refine wpAny_passesOwn hp (q0 (T.item X rfl rfl rfl hc i pins s3 σ3 H3 X.xe I3 (stat fr3) st3 go) fun r s4 ⟨u,hr,h4⟩=>?_)
  subst hr
  refine wpAny_passesOwn hp (q0 h4 fun _ s5 ⟨x,H5,I5,r5,y5,st5,fr5⟩=>?_)
  have I5':=I5.pinned (stat fr5) (T.obj _ _ st5)
  refine wpAny_passesOwn hp (q0 (hg _ s5 σ3 H5 x u _ I5' r5 (step x H5 y5)) fun _ s6 ⟨σ6,H6,I6,q6⟩=>?_)
  refine wpAny_passesOwn hp (q0 (hb _ s6 σ6 H6 _ I6 q6) fun f s7 q7=>?_)
  have again:∀ {σ7:St} {H7:Hp},zN X (pins++uy fp s5.heap) σ7 H7 s7→N σ7 H7→∃ m,m<n∧∃ i σ' H',zN X pins σ' H' s7∧tn i s7.heap∧(∀ b∈fp,H' b=none)∧W i m σ' H':=fun {σ7 H7} I7 n7=>by
   obtain⟨m',hm,w7⟩:=hN σ7 H7 n7
   refine⟨m',hm,i+1,σ7,H7,I7.unpinned,T.keep _ _ _ st5 fun b hb o e=>(I7.pin (b,o) (CC _ (CC _ (vh hb e)))).1,fun b hb=>?_,w7⟩
   obtain⟨o,e,d⟩:=T.obj _ _ st5 b hb
   exact (I7.pin (b,o) (CC _ (CC _ (vh hb e)))).2.1
  cases f with
  | next=>obtain⟨σ7,H7,I7,n7⟩:=q7;exact again I7 n7
  | cont=>obtain⟨σ7,H7,I7,n7⟩:=q7;exact again I7 n7
  | brk=>obtain⟨σ7,H7,I7,q7⟩:=q7;exact⟨σ7,H7,I7.unpinned,q7⟩
  | ret v=>obtain⟨x7,σ7,H7,I7,r7,q7⟩:=q7;exact⟨x7,σ7,H7,I7.unpinned,r7,q7⟩
end
theorem WG {K:BFr} {a:Addr} {xs:List V} {g:TG} {tb:TS} {D:uK} {σ:St} {H:Hp} (Pv:Nat→St→Hp→Prop) (h0:Pv 0 σ H) (hl:∀ i σ H,i≤xs.length→Pv i σ H→zY K H a xs) (hs:∀ i x σ H,xs[i]? = some x→Pv i σ H→g x σ H fun σ2 H2=>tb { D with nx:=Pv (i+1),ct:=Pv (i+1),bk:=D.nx } σ2 H2) (hd:∀ σ H,Pv xs.length σ H→D.nx σ H) :
  ∃ W:Nat→Nat→St→Hp→Prop,(∃ m,W 0 m σ H)∧∀ i m σ H,W i m σ H →
   ((Nn K a).stop i H∧D.nx σ H)∨((Nn K a).go i H∧∃ N:St→Hp→Prop,(∀ σ' H',N σ' H'→∃ m',m'<m∧W (i+1) m' σ' H')∧∀ x H',(Nn K a).yld i H x H'→g x σ H' fun σ2 H2=>tb { D with nx:=N,ct:=N,bk:=D.nx } σ2 H2):=by
 refine⟨fun i m σ H=>m=xs.length - i∧i≤xs.length∧Pv i σ H,⟨xs.length,by simp,Cw _,h0⟩,?_⟩
 rintro i m σ H ⟨rfl,hi,p⟩
 have q:=hl i σ H hi p
 by_cases hlt:i<xs.length
 ·refine .inr ⟨⟨xs,xs[i],q,by simp[hlt]⟩,Pv (i+1),fun σ' H' p'=>⟨xs.length - (i+1),by omega,rfl,hlt,p'⟩,fun x H' y=>?_⟩
  obtain⟨e,y⟩:=y
  subst e
  exact hs i x σ _ (y xs q) p
 ·have e:i=xs.length:=by omega
  subst e
  exact .inl ⟨⟨xs,q,cP _⟩,hd σ H p⟩
theorem Gw {lo:Int} {n:Nat} {g:TG} {tb:TS} {D:uK} {σ:St} {H:Hp} (Pv:Nat→St→Hp→Prop) (h0:Pv 0 σ H) (hs:∀ i σ H,i<n→Pv i σ H→g (.int (lo+i)) σ H fun σ2 H2=>tb { D with nx:=Pv (i+1),ct:=Pv (i+1),bk:=D.nx } σ2 H2) (hd:∀ σ H,Pv n σ H→D.nx σ H) :
  ∃ W:Nat→Nat→St→Hp→Prop,(∃ m,W 0 m σ H)∧∀ i m σ H,W i m σ H →
   ((Nm lo n).stop i H∧D.nx σ H)∨((Nm lo n).go i H∧∃ N:St→Hp→Prop,(∀ σ' H',N σ' H'→∃ m',m'<m∧W (i+1) m' σ' H')∧∀ x H',(Nm lo n).yld i H x H'→g x σ H' fun σ2 H2=>tb { D with nx:=N,ct:=N,bk:=D.nx } σ2 H2):=by
 refine⟨fun i m σ H=>m=n - i∧i≤n∧Pv i σ H,⟨n,by simp,Cw _,h0⟩,?_⟩
 rintro i m σ H ⟨rfl,hi,p⟩
 by_cases hlt:i<n
 ·refine .inr ⟨hlt,Pv (i+1),fun σ' H' p'=>⟨n - (i+1),by omega,rfl,hlt,p'⟩,fun x H' y=>?_⟩
  obtain⟨e,y⟩:=y
  subst e y
  exact hs i σ _ hlt p
 ·have e:i=n:=by omega
  subst e
  exact .inl ⟨cP _,hd σ H p⟩
abbrev R2:=V→V→Hp→VK→Prop
noncomputable def wF (X:Cx) (f:Value→Value→Sem Value) (r:R2):Prop :=
 ∀ (pins:List (Addr × Obj)) (s:Shared) (σ:St) (H:Hp) (x y:V) (v u:Value) (Q:VK),zN X pins σ H s→qG x v→qG y u→r x y H Q →
  wpAny (model X.prog X.w) X.A (f v u) (EP X pins σ Q) X.xe s
noncomputable def Bo (X:Cx) (f:Value→Sem Value) (r:V→Hp→VK→Prop):Prop :=
 ∀ (pins:List (Addr × Obj)) (s:Shared) (σ:St) (H:Hp) (x:V) (v:Value) (Q:VK),zN X pins σ H s→qG x v→r x H Q →
  wpAny (model X.prog X.w) X.A (f v) (EP X pins σ Q) X.xe s
noncomputable def vH (X:Cx) (f:Value) (r:List V→Hp→VK→Prop):Prop :=
 ∀ (pins:List (Addr × Obj)) (s:Shared) (σ:St) (H:Hp) (xs:List V) (us:List Value) (Q:VK),zN X pins σ H s→qt xs us→r xs H Q →
  wpAny (model X.prog X.w) X.A (call f us) (EP X pins σ Q) X.xe s
noncomputable def jV (r:R2) (ta tb:TE):TE:=fun σ H Q=>ta σ H fun x H1=>tb σ H1 fun y H2=>r x y H2 Q
noncomputable def cG (r:V→Hp→VK→Prop) (ta:TE):TE:=fun σ H Q=>ta σ H fun x H1=>r x H1 Q
noncomputable def rI (C:Int→Int→Prop) (g:Int→Int→V):R2:=fun x y H Q=>∃ i j,x = .int i∧y = .int j∧C i j∧Q (g i j) H
noncomputable def WS (g:Int→Int→V):R2:=fun x y H Q=>∃ i j,x = .int i∧y = .int j∧Q (g i j) H
noncomputable def rU (g:Int→V):V→Hp→VK→Prop:=fun x H Q=>∃ i,x = .int i∧Q (g i) H
section
variable {X:Cx} {a b c:Expr} {ta tb tc:TE} {pos:Pos}
theorem rZ (ha:PE X a ta) (hb:PE X b tb) {pins:List (Addr × Obj)} {s:Shared} {σ:St} {H:Hp} {R:V→V→Hp→Prop} (I:zN X pins σ H s) (h:ta σ H fun x H1=>tb σ H1 fun y H2=>R x y H2) {Q:Value→Shared→Prop} {f:Value→Value→Sem Value}
  (hf:∀ v u s2 x y H2,zN X pins σ H2 s2→qG x v→qG y u→R x y H2→wpAny (model X.prog X.w) X.A (f v u) Q X.xe s2) :
  wpAny (model X.prog X.w) X.A (eval a X.env) (fun v s₁=>wpAny (model X.prog X.w) X.A (eval b X.env) (fun u s₂=>wpAny (model X.prog X.w) X.A (f v u) Q X.xe s₂) X.xe s₁) X.xe s:=by
 refine q0 (ha pins s σ H _ I h) fun v s1 ⟨x,H1,I1,r1,q1⟩=>?_
 refine q0 (hb pins s1 σ H1 _ I1 q1) fun u s2 ⟨y,H2,I2,r2,q2⟩=>?_
 exact hf v u s2 x y H2 I2 r1 r2 q2
theorem zt {op:Operator} {r:R2} (ho:wF X (binaryOp op) r) (ha:PE X a ta) (hb:PE X b tb):PE X (.BinOp a op b pos) (jV r ta tb):=by
 intro pins s σ H Q I h
 exact wpAny_BinOp (rZ ha hb I h fun v u s2 x y H2 I2 rx ry q=>ho pins s2 σ H2 x y v u Q I2 rx ry q)
theorem WQ {op:UnaryOp} {r:V→Hp→VK→Prop} (ho:Bo X (unaryOp op) r) (ha:PE X a ta):PE X (.UnaryOp op a pos) (cG r ta):=by
 intro pins s σ H Q I h
 exact UnaryOp_ (q0 (ha pins s σ H _ I h) fun v s1 ⟨x,H1,I1,r1,q1⟩=>ho pins s1 σ H1 x v Q I1 r1 q1)
theorem bh {f:Value→Value→Sem Value} {C:Int→Int→Prop} {g:Int→Int→Int}
  (rule:∀ (i j:Int) (t u:Tok) (s:Shared) (Q:Value→Shared→Prop) (E:Value→Shared→Prop),C i j→Q (.int (g i j) s.toks) { s with toks:=s.toks+1 }→wpAny (model X.prog X.w) X.A (f (.int i t) (.int j u)) Q E s) :
  wF X f (rI C fun i j=>.int (g i j)):=by
 intro pins s σ H x y v u Q I rx ry h
 obtain⟨i,j,rfl,rfl,hc,q⟩:=h
 obtain⟨t,rfl⟩:=rx
 obtain⟨t',rfl⟩:=ry
 exact rule i j t t' s _ _ hc ⟨.int (g i j),H,I.tok _,⟨_,rfl⟩,q⟩
theorem Tr {f:Value→Value→Sem Value} {g:Int→Int→Int}
  (rule:∀ (i j:Int) (t u:Tok) (s:Shared) (Q:Value→Shared→Prop) (E:Value→Shared→Prop),Q (.int (g i j) s.toks) { s with toks:=s.toks+1 }→wpAny (model X.prog X.w) X.A (f (.int i t) (.int j u)) Q E s) :
  wF X f (WS fun i j=>.int (g i j)):=by
 intro pins s σ H x y v u Q I rx ry h
 obtain⟨i,j,rfl,rfl,q⟩:=h
 obtain⟨t,rfl⟩:=rx
 obtain⟨t',rfl⟩:=ry
 exact rule i j t t' s _ _ ⟨.int (g i j),H,I.tok _,⟨_,rfl⟩,q⟩
theorem mW {f:Value→Value→Sem Value} {g:Int→Int→Bool}
  (rule:∀ (i j:Int) (t u:Tok) (s:Shared) (Q:Value→Shared→Prop) (E:Value→Shared→Prop),Q (.bool (g i j)) s→wpAny (model X.prog X.w) X.A (f (.int i t) (.int j u)) Q E s) :
  wF X f (WS fun i j=>.bl (g i j)):=by
 intro pins s σ H x y v u Q I rx ry h
 obtain⟨i,j,rfl,rfl,q⟩:=h
 obtain⟨t,rfl⟩:=rx
 obtain⟨t',rfl⟩:=ry
 exact rule i j t t' s _ _ ⟨.bl (g i j),H,I,rfl,q⟩
noncomputable def rT (i j:Int):Prop:=0<j∧j<1073741824
noncomputable def b7 (i j:Int):Prop:=0≤j∧j≤1000000∧i.natAbs<2 ^ 64
noncomputable def OI (i j:Int):Prop:=(-(2 ^ 64)<i∧i<2 ^ 64)∨(-(2 ^ 64)<j∧j<2 ^ 64)
theorem OI.ok {i j:Int} (h:OI i j):IntMulOk i j:=by
 rcases h with ⟨h1,h2⟩ | ⟨h1,h2⟩
 ·exact .of_left (intBits_le_64 h1 h2)
 ·exact .of_right (intBits_le_64 h1 h2)
theorem qk:wF X (binaryOp .Add) (WS fun i j=>.int (i+j)):=Tr fun _ _ _ _ _ _ _ q=>add_int q
theorem Zj:wF X (binaryOp .Sub) (WS fun i j=>.int (i - j)):=Tr fun _ _ _ _ _ _ _ q=>sub_int q
theorem ya:wF X (binaryOp .Mult) (rI OI fun i j=>.int (i*j)):=bh fun _ _ _ _ _ _ _ hc q=>mul_int q hc.ok
theorem qW:wF X (binaryOp .FloorDiv) (rI rT fun i j=>.int (i/j)):=bh fun i j _ _ _ _ _ hc q=>by
 have h1:(0:Int)<j:=hc.1
 have h2:j<1073741824:=hc.2
 exact floordiv_int (by omega) (by rw[Int.fdiv_eq_ediv_of_nonneg i (by omega)];exact q) (.inl (PyProof.noPylong_small (by omega)))
theorem z9:wF X (binaryOp .Mod) (rI (fun _ j=>0<j) fun i j=>.int (i%j)):=bh fun i j _ _ _ _ _ hc q=>by
 have h1:(0:Int)<j:=hc
 exact mod_int' (by omega) (by rw[Int.fmod_eq_emod_of_nonneg i (by omega)];exact q)
theorem Zl:wF X (binaryOp .Pow) (rI b7 fun i j=>.int (i ^ j.toNat)):=bh fun _ _ _ _ _ _ _ hc q=>pow_int_small hc.1 hc.2.1 hc.2.2 q
theorem cz {f:Value→Sem Value} {g:Int→Int}
  (rule:∀ (i:Int) (t:Tok) (s:Shared) (Q:Value→Shared→Prop) (E:Value→Shared→Prop),Q (.int (g i) s.toks) { s with toks:=s.toks+1 }→wpAny (model X.prog X.w) X.A (f (.int i t)) Q E s) :
  Bo X f (rU fun i=>.int (g i)):=by
 intro pins s σ H x v Q I rx h
 obtain⟨i,rfl,q⟩:=h
 obtain⟨t,rfl⟩:=rx
 exact rule i t s _ _ ⟨.int (g i),H,I.tok _,⟨_,rfl⟩,q⟩
theorem QG:Bo X (unaryOp .USub) (rU fun i=>.int (-i)):=cz fun _ _ _ _ _ q=>neg_int q
end
noncomputable def tO:V→V→Bool
 | .non,.non=>true | .non,.int _=>true | .int _,.non=>true | .non,.bl _=>true | .bl _,.non=>true | .non,.str _=>true | .str _,.non=>true
 | .int _,.int _=>true | .bl _,.bl _=>true | .str _,.str _=>true | .byt _,.byt _=>true
 | .int _,.str _=>true | .str _,.int _=>true | .bl _,.str _=>true | .str _,.bl _=>true
 | _,_=>false
noncomputable def cD:R2:=fun x y H Q=>tO x y=true∧Q (.bl (decide (x=y))) H
noncomputable def cw:R2:=fun x y H Q=>tO x y=true∧Q (.bl (!decide (x=y))) H
theorem XY {i j:Int}:decide (V.int i=V.int j)=(i==j):=by
 rw[dD]
 simp
theorem OC {i j:Bool}:decide (V.bl i=V.bl j)=(i==j):=by
 rw[dD]
 simp
theorem gY {i j:Str}:decide (V.str i=V.str j)=(i==j):=by
 rw[dD]
 simp
theorem X3 {i j:Array UInt8}:decide (V.byt i=V.byt j)=(i.toList==j.toList):=by
 rw[dD]
 cases i
 cases j
 simp
section
variable {X:Cx} {a b c:Expr} {ta tb tc:TE} {pos:Pos}
theorem qA {pins:List (Addr × Obj)} {σ:St} {H:Hp} {s:Shared} {Q:VK} {k k':Bool} (I:zN X pins σ H s) (q:Q (.bl k) H) (e:k=k'):EP X pins σ Q (.bool k') s:=by
 subst e
 exact⟨.bl k,H,I,rfl,q⟩
theorem qh:wF X (compareOp .Eq) cD:=by
 intro pins s σ H x y v u Q I rx ry h
 obtain⟨hs,q⟩:=h
 cases x with
 | non =>
  cases rx
  cases y with
  | non=>cases ry;exact PySem.EqNone.eq_none_none (qA I q (by simp))
  | bl j=>cases ry;exact PySem.EqNone.eq_none_bool (qA I q (by simp))
  | int j=>obtain⟨t',rfl⟩:=ry;exact PySem.EqNone.eq_none_int (qA I q (by simp))
  | str j=>obtain⟨t',rfl⟩:=ry;exact PySem.EqNone.eq_none_str (qA I q (by simp))
  | _=>exact absurd (show false=true from hs) Cm
 | bl i =>
  cases rx
  cases y with
  | non=>cases ry;exact PySem.EqNone.eq_bool_none (qA I q (by simp))
  | bl j=>cases ry;exact eq_bool (qA I q OC)
  | str j=>obtain⟨t',rfl⟩:=ry;exact PySem.EqMixed.eq_bool_str (qA I q (by simp))
  | _=>exact absurd (show false=true from hs) Cm
 | int i =>
  obtain⟨t,rfl⟩:=rx
  cases y with
  | non=>cases ry;exact PySem.EqNone.eq_int_none (qA I q (by simp))
  | int j=>obtain⟨t',rfl⟩:=ry;exact eq_int (qA I q XY)
  | str j=>obtain⟨t',rfl⟩:=ry;exact PySem.EqMixed.eq_int_str (qA I q (by simp))
  | _=>exact absurd (show false=true from hs) Cm
 | str i =>
  obtain⟨t,rfl⟩:=rx
  cases y with
  | non=>cases ry;exact PySem.EqNone.eq_str_none (qA I q (by simp))
  | bl j=>cases ry;exact PySem.EqMixed.eq_str_bool (qA I q (by simp))
  | int j=>obtain⟨t',rfl⟩:=ry;exact PySem.EqMixed.eq_str_int (qA I q (by simp))
  | str j=>obtain⟨t',rfl⟩:=ry;exact eq_str (qA I q gY)
  | _=>exact absurd (show false=true from hs) Cm
 | byt i =>
  obtain⟨t,rfl⟩:=rx
  cases y with
  | byt j=>obtain⟨t',rfl⟩:=ry;exact PySem.W.eq_bytes (qA I q X3)
  | _=>exact absurd (show false=true from hs) Cm
 | _=>cases y <;> exact absurd (show false=true from hs) Cm
theorem vP:wF X (compareOp .NotEq) cw:=by
 intro pins s σ H x y v u Q I rx ry h
 obtain⟨hs,q⟩:=h
 cases x with
 | non =>
  cases rx
  cases y with
  | non=>cases ry;exact PySem.EqNone.ne_none_none (qA I q (by simp))
  | bl j=>cases ry;exact PySem.EqNone.ne_none_bool (qA I q (by simp))
  | int j=>obtain⟨t',rfl⟩:=ry;exact PySem.EqNone.ne_none_int (qA I q (by simp))
  | str j=>obtain⟨t',rfl⟩:=ry;exact PySem.EqNone.ne_none_str (qA I q (by simp))
  | _=>exact absurd (show false=true from hs) Cm
 | bl i =>
  cases rx
  cases y with
  | non=>cases ry;exact PySem.EqNone.ne_bool_none (qA I q (by simp))
  | bl j=>cases ry;exact ne_bool (qA I q (congrArg not OC))
  | str j=>obtain⟨t',rfl⟩:=ry;exact PySem.EqMixed.ne_bool_str (qA I q (by simp))
  | _=>exact absurd (show false=true from hs) Cm
 | int i =>
  obtain⟨t,rfl⟩:=rx
  cases y with
  | non=>cases ry;exact PySem.EqNone.ne_int_none (qA I q (by simp))
  | int j=>obtain⟨t',rfl⟩:=ry;exact ne_int (qA I q (congrArg not XY))
  | str j=>obtain⟨t',rfl⟩:=ry;exact PySem.EqMixed.ne_int_str (qA I q (by simp))
  | _=>exact absurd (show false=true from hs) Cm
 | str i =>
  obtain⟨t,rfl⟩:=rx
  cases y with
  | non=>cases ry;exact PySem.EqNone.ne_str_none (qA I q (by simp))
  | bl j=>cases ry;exact PySem.EqMixed.ne_str_bool (qA I q (by simp))
  | int j=>obtain⟨t',rfl⟩:=ry;exact PySem.EqMixed.ne_str_int (qA I q (by simp))
  | str j=>obtain⟨t',rfl⟩:=ry;exact ne_str (qA I q (congrArg not gY))
  | _=>exact absurd (show false=true from hs) Cm
 | byt i =>
  obtain⟨t,rfl⟩:=rx
  cases y with
  | byt j=>obtain⟨t',rfl⟩:=ry;exact PySem.W.ne_bytes (qA I q (congrArg not X3))
  | _=>exact absurd (show false=true from hs) Cm
 | _=>cases y <;> exact absurd (show false=true from hs) Cm
theorem uY:wF X (compareOp .Lt) (WS fun i j=>.bl (decide (i<j))):=mW fun _ _ _ _ _ _ _ q=>lt_int q
theorem Wg:wF X (compareOp .LtE) (WS fun i j=>.bl (decide (i≤j))):=mW fun _ _ _ _ _ _ _ q=>le_int q
theorem y6:wF X (compareOp .Gt) (WS fun i j=>.bl (decide (j<i))):=mW fun _ _ _ _ _ _ _ q=>gt_int q
theorem tI:wF X (compareOp .GtE) (WS fun i j=>.bl (decide (j≤i))):=mW fun _ _ _ _ _ _ _ q=>ge_int q
theorem Zc:wF X (compareOp .In) (fun x y H Q=>∃ i j,x = .str i∧y = .str j∧Q (.bl (!(Builtin.Str.occurrences j i 0 j.length 1).isEmpty)) H):=by
 intro pins s σ H x y v u Q I rx ry h
 obtain⟨i,j,rfl,rfl,q⟩:=h
 obtain⟨t,rfl⟩:=rx
 obtain⟨t',rfl⟩:=ry
 exact in_str (qA I q rfl)
theorem NI:wF X (compareOp .Is) (fun x y H Q=>y = .non∧Q (.bl (decide (x = .non))) H):=by
 intro pins s σ H x y v u Q I rx ry h
 obtain⟨rfl,q⟩:=h
 cases ry
 refine is_none_gen (qA I q ?_)
 cases x <;> first
  | (cases rx;rfl)
  | (obtain⟨t,rfl⟩:=rx;rfl)
theorem kU:wF X (compareOp .NotIn) (fun x y H Q=>∃ i j,x = .str i∧y = .str j∧Q (.bl (!(!(Builtin.Str.occurrences j i 0 j.length 1).isEmpty))) H):=by
 intro pins s σ H x y v u Q I rx ry h
 obtain⟨i,j,rfl,rfl,q⟩:=h
 obtain⟨t,rfl⟩:=rx
 obtain⟨t',rfl⟩:=ry
 exact notIn_str (qA I q rfl)
theorem zD (b:Expr) {op:CmpOp} (h:op≠.In:=by decide) (h2:op≠.NotIn:=by decide):behindInMarks op b=false:=by
 have e1:(op==CmpOp.In)=false:=by cases op <;> first | rfl | exact absurd rfl h
 have e2:(op==CmpOp.NotIn)=false:=by cases op <;> first | rfl | exact absurd rfl h2
 cases b <;> simp[behindInMarks,e1,e2]
theorem qj {op:CmpOp} {r:R2} (ho:wF X (compareOp op) r) (ha:PE X a ta) (hb:PE X b tb) (hm:behindInMarks op b=false):PE X (.Compare a [op] [b] pos) (jV r ta tb):=by
 intro pins s σ H Q I h
 exact wpAny_Compare1 (rZ ha hb I h fun v u s2 x y H2 I2 rx ry q=>ho pins s2 σ H2 x y v u Q I2 rx ry q) hm
noncomputable def QC (t:TE):TT:=fun σ H Q=>t σ H fun x H'=>∃ k,x = .bl k∧Q k H'
theorem zw {op:CmpOp} {r:R2} (ho:wF X (compareOp op) r) (ha:PE X a ta) (hb:PE X b tb) (hm:behindInMarks op b=false):PT X (.Compare a [op] [b] pos) (QC (jV r ta tb)):=by
 intro pins s σ H Q I h
 refine wpAny_isTrue_Compare1 (q0 (ha pins s σ H _ I h) fun v s1 ⟨x,H1,I1,r1,q1⟩=>q0 (hb pins s1 σ H1 _ I1 q1) fun u s2 ⟨y,H2,I2,r2,q2⟩ =>
  q0 (ho pins s2 σ H2 x y v u _ I2 r1 r2 q2) fun c s3 ⟨z,H3,I3,r3,k,e,q3⟩=>?_) hm
 subst e
 cases r3
 exact wpAny_truthy_bool ⟨H3,I3,q3⟩
noncomputable def Rf (r r':R2) (ta tb tc:TE):TE:=fun σ H Q=>ta σ H fun x H1=>tb σ H1 fun y H2=>r x y H2 fun z H3=>∃ k,z = .bl k ∧
 (if k=true then tc σ H3 fun w' H4=>r' y w' H4 Q else Q (.bl false) H3)
theorem Lk {op op':CmpOp} {r r':R2} (ho:wF X (compareOp op) r) (ho':wF X (compareOp op') r') (ha:PE X a ta) (hb:PE X b tb) (hc:PE X c tc) (hm:lastMarks [op,op'] [b,c]=false:=by with_unfolding_all rfl):PT X (.Compare a [op,op'] [b,c] pos) (QC (Rf r r' ta tb tc)):=by
 intro pins s σ H Q I h
 refine isTrue_chain (q0 (ha pins s σ H _ I h) fun v s1 ⟨x,H1,I1,r1,q1⟩=>test_link (q0 (hb pins s1 σ H1 _ I1 q1) fun u s2 ⟨y,H2,I2,r2,q2⟩ =>
  q0 (ho pins s2 σ H2 x y v u _ I2 r1 r2 q2) fun d s3 ⟨z,H3,I3,r3,k,e,q3⟩=>?_)) hm
 subst e
 cases r3
 refine wpAny_truthy_bool ?_
 cases k with
 | false =>
  obtain⟨k',e',q'⟩:=q3
  cases e'
  exact ite_ff ⟨H3,I3,q'⟩
 | true =>
  refine ite_tt (test_last (q0 (hc pins s3 σ H3 _ I3 q3) fun w' s4 ⟨z',H4,I4,r4,q4⟩=>q0 (ho' pins s4 σ H4 y z' u w' _ I4 r2 r4 q4) fun d' s5 ⟨z2,H5,I5,r5,k2,e2,q5⟩=>?_))
  subst e2
  cases r5
  exact wpAny_truthy_bool ⟨H5,I5,q5⟩
theorem ka:(sizeLine:Nat)<2 ^ 63:=by rw[sizeLine_eq];decide
theorem zM:wF X (binaryOp .Add) (fun x y H Q=>∃ i j,x = .str i∧y = .str j∧i.length+j.length≤sizeLine∧Q (.str (i++j)) H):=by
 intro pins s σ H x y v u Q I rx ry h
 obtain⟨i,j,rfl,rfl,hz,q⟩:=h
 obtain⟨t,rfl⟩:=rx
 obtain⟨t',rfl⟩:=ry
 exact add_str (fun t' tk=>⟨.str (i++j),H,I.tok _,⟨_,rfl⟩,q⟩) hz
theorem wQ {x:V} {us:List Value} (r:qt [x] us):∃ u,us=[u]∧qG x u:=by
 cases r with
 | cons r1 r2=>cases r2;exact⟨_,rfl,r1⟩
theorem Od {x y:V} {us:List Value} (r:qt [x,y] us):∃ u w',us=[u,w']∧qG x u∧qG y w':=by
 cases r with
 | cons r1 r2 =>
  cases r2 with
  | cons r3 r4=>cases r4;exact⟨_,_,rfl,r1,r3⟩
theorem Zi (hc:X.calm=true):vH X (.builtin "max") (fun xs H Q=>∃ i j,xs=[.int i,.int j]∧Q (.int (if j > i then j else i)) H):=by
 intro pins s σ H xs us Q I r h
 obtain⟨i,j,rfl,q⟩:=h
 obtain⟨u,w',rfl,⟨t,rfl⟩,⟨t',rfl⟩⟩:=Od r
 refine max_two_ints (I.ok.hd hc) fun h' tk k=>⟨_,H,I.kept k,?_,q⟩
 by_cases hj:j > i
 ·rw[if_pos hj,if_pos hj];exact⟨_,rfl⟩
 ·rw[if_neg hj,if_neg hj];exact⟨_,rfl⟩
theorem Zk (hc:X.calm=true):vH X (.builtin "min") (fun xs H Q=>∃ i j,xs=[.int i,.int j]∧Q (.int (if j<i then j else i)) H):=by
 intro pins s σ H xs us Q I r h
 obtain⟨i,j,rfl,q⟩:=h
 obtain⟨u,w',rfl,⟨t,rfl⟩,⟨t',rfl⟩⟩:=Od r
 refine min_two_ints (I.ok.hd hc) fun h' tk k=>⟨_,H,I.kept k,?_,q⟩
 by_cases hj:j<i
 ·rw[if_pos hj,if_pos hj];exact⟨_,rfl⟩
 ·rw[if_neg hj,if_neg hj];exact⟨_,rfl⟩
theorem Zv:vH X (.type "int") (fun xs H Q=>(∃ i,xs=[.int i]∧Q (.int i) H)∨∃ k,xs=[.bl k]∧Q (.int (if k then 1 else 0)) H):=by
 intro pins s σ H xs us Q I r h
 rcases h with ⟨i,rfl,q⟩ | ⟨k,rfl,q⟩
 ·obtain⟨u,rfl,t,rfl⟩:=wQ r
  exact call_int_int ⟨.int i,H,I,⟨_,rfl⟩,q⟩
 ·obtain⟨u,rfl,r1⟩:=wQ r
  cases r1
  exact call_int_bool ⟨.int (if k then 1 else 0),H,I.tok _,⟨_,rfl⟩,q⟩
theorem qm:vH X (.type "str") (fun xs H Q=>∃ i,xs=[.int i]∧i.natAbs.log2<1920∧Q (.str (toString i)) H):=by
 intro pins s σ H xs us Q I r h
 obtain⟨i,rfl,hz,q⟩:=h
 obtain⟨u,rfl,t,rfl⟩:=wQ r
 exact PySem.P.str_of_int hz ⟨.str _,H,I.tok _,⟨_,rfl⟩,q⟩
end
structure WU (h:Heap) (x dx C:Addr) (mA:Str→Option Value):Prop where
 obj:h.get? x=some (PySem.W.instObj C dx)
 ns:h.Ns1 dx mA
 ne:dx≠x
theorem Gg {h:Heap} {dx:Addr} {mA:Str→Option Value} (n:h.Ns1 dx mA):∃ od,h.get? dx=some od∧∀ name,PySem.W.lookIn name od=some (mA name):=by
 obtain⟨o,es,ep,ho,hd,hk,_,hm⟩:=n
 refine⟨o,ho,fun name=>?_⟩
 have e:=hm name
 unfold nsFind findBy at e
 rw[← Array.find?_toList] at e
 unfold PySem.W.lookIn
 rw[hd]
 dsimp only
 split
 ·rename_i y q
  rw[q] at e
  exact congrArg some e
 ·rename_i q
  rw[q] at e
  have a:es.toList.any (·.refKey)=false:=by
   rw[List.any_eq_false]
   intro y hy
   obtain⟨z,t,hkey⟩:=hk y (Array.mem_toList_iff.mp hy)
   simp[DictEntry.refKey,hkey]
  have a':¬ es.toList.any (·.refKey)=true:=by rw[a];exact Cm
  rw[if_neg a']
  exact congrArg some e
theorem WU.look {h:Heap} {x dx C:Addr} {mA:Str→Option Value} (I:WU h x dx C mA):∃ od,PySem.W.InstAt h x (PySem.W.instObj C dx) C (some od)∧∀ name,PySem.W.lookIn name od=some (mA name) :=
 let ⟨od,ho,hl⟩:=Gg I.ns
 ⟨od,⟨I.obj,rfl,rfl,ho⟩,hl⟩
section
variable {prog:Program} {w:World} {A:Around} {E:Value→Shared→Prop} {s:Shared} {K:BFr} {x dx C f:Addr} {mA:Str→Option Value} {name:Str} {v:Value}
theorem LY {expr:Bool} {Q:Value→Shared→Prop} (X:K.In s.heap) (I:WU s.heap x dx C mA) (hg:PySem.W.plainGet K C name=true) (hh:PySem.W.hasDictIn K C=true) (ha:PySem.W.findIn K (.ref C) name=some none) (hv:mA name=some v) (hv':PySem.W.handedIn v=true) (h:Q v { s with toks:=s.toks+1 }) :
  wpAny (model prog w) A (getAttr (.ref x) name expr) Q E s:=by
 obtain⟨od,J,hl⟩:=I.look
 exact PySem.W.get_value X J (PySem.W.plainGet_of hg).1 (PySem.W.findObj_own hh ha rfl (by rw[hl,hv])) hv' h
theorem pQ {pl:Sem Bool} {Q:Value × List Value→Shared→Prop} (X:K.In s.heap) (I:WU s.heap x dx C mA) (hg:PySem.W.plainGet K C name=true) (hf:PySem.W.findIn K (.ref C) name=some (some (.ref f))) (ht:PySem.W.isFn K (.ref f)=true) (hv:mA name=none) (h:Q (.ref f,[.ref x]) s) :
  wpAny (model prog w) A (getMethod (.ref x) name pl) Q E s:=by
 obtain⟨od,J,hl⟩:=I.look
 exact PySem.W.method_fn X J (PySem.W.plainGet_of hg).1 (PySem.W.plainGet_of hg).2 hf (beq_iff_eq.mp ht) (by show (PySem.W.lookIn name od).map (·.isSome)=some false;rw[hl,hv];rfl) h
theorem Mg {ns:List Str} {Q:Unit→Shared→Prop} (X:K.In s.heap) (I:WU s.heap x dx C mA) (hs:BfS K C) (hp:PySem.W.plainOver K C=true) (ht:PySem.W.takerIn K C name=some none) (hh:PySem.W.hasDictIn K C=true) (hw:PySem.Within mA ns) (hsz:ns.length≤sizeLine) (h:∀ h',WU h' x dx C (fun y=>if y=name then some v else mA y)→Heap.SameBut dx s.heap h'→Q () { s with heap:=h',toks:=s.toks+2 }) :
  wpAny (model prog w) A (setAttr (.ref x) name v) Q E s:=by
 obtain⟨od,J,hl⟩:=I.look
 refine PySem.W.set_plain X J hs (PySem.W.osa_open (s:={ s with toks:=s.toks+1 }) (r:=none) X J hp ht fun b=>?_)
 obtain⟨cd,hc,hd'⟩:=PySem.W.any_some hh
 have hx:s.heap.get? x=some ⟨.ref C,some dx,.plain,#[]⟩:=I.obj
 refine wpAny_bind (wpAny_pure (wpAny_bind (wpAny_bind (wpAny_loadPart hx (wpAny_bind (PySem.W.Looks.here (s:={ s with toks:=s.toks+1 }) (PySem.W.looks_clsIn X hc) ?_))))))
 rw[hd']
 refine wpAny_pure (a:=some dx) (wpAny_bind (wpAny_pure (wpAny_bind ?_)))
 refine wpAny_nsSet1 (s:={ s with toks:=s.toks+1 }) I.ns fun h' hn2 hs2=>?_
 obtain⟨oD,esD,epD,hoD,hdD,hcD⟩:=hn2.count (PySem.Within.cons name v hw)
 refine wpAny_bind (wpAny_lookBehind hoD (by rw[hdD];exact pastItsLine_dict (cZ hcD (by rw[CI];omega))) ?_)
 exact wpAny_pure (h _ ⟨(hs2.2 _ (Ne.symm I.ne)).trans I.obj,hn2,I.ne⟩ hs2)
theorem pq {R:Result→Shared→Prop} {vs:List Value} {kw:List (Str × Value)} (X:K.In s.heap) (hm:PySem.W.makesIn K C=true) (hi:PySem.W.findIn K (.ref C) "__init__" = some (some (.ref f))) (hf:PySem.W.typeIn K (.ref f)=some (.type "function")) (h:codeAny (model prog w) (A.under (.builtin "type.__call__" ⟨.ref C::vs,kw⟩)) (.call (.ref f) ⟨.ref (s.heap.objs.size+1)::vs,kw⟩) (PySem.W.InitBack (s.heap.objs.size+1) R)
   { s with heap:=(s.heap.push PySem.W.emptyDict).push (PySem.W.instObj C s.heap.objs.size) }) :
  codeAny (model prog w) A (.call (.ref C) ⟨vs,kw⟩) R s:=by
 obtain⟨hh,g,d,t,os⟩:=s
 exact PySem.W.make_core (PySem.W.makes_of X hm) (PySem.W.looks_findIn X hi) (fun self=>PySem.W.bind_fn X self hf) (.inl rfl) h
end
noncomputable def jJ (f:Str) (v:V):List (Str × V)→List (Str × V)
 | []=>[(f,v)]
 | (g,x)::r=>if g=f then (g,v)::r else (g,x)::jJ f v r
theorem ZP (f g:Str) (v:V):∀ fs:List (Str × V),(jJ f v fs).lookup g=if g=f then some v else fs.lookup g
 | []=>by
  show List.lookup g [(f,v)]=_
  by_cases h:g=f
  ·have hb:(g==f)=true:=beq_iff_eq.mpr h
   simp only[List.lookup,hb,if_pos h]
  ·have hb:(g==f)=false:=beq_eq_false_iff_ne.mpr h
   simp only[List.lookup,hb,if_neg h]
 | (k,x)::r=>by
  have ih:=ZP f g v r
  rw[show jJ f v ((k,x)::r)=(if k=f then (k,v)::r else (k,x)::jJ f v r) from rfl]
  by_cases hk:k=f
  ·rw[if_pos hk]
   by_cases h:g=k
   ·have hb:(g==k)=true:=beq_iff_eq.mpr h
    simp only[List.lookup,hb,if_pos (h.trans hk)]
   ·have hb:(g==k)=false:=beq_eq_false_iff_ne.mpr h
    simp only[List.lookup,hb,if_neg (fun e:g=f=>h (e.trans hk.symm))]
  ·rw[if_neg hk]
   by_cases h:g=k
   ·have hb:(g==k)=true:=beq_iff_eq.mpr h
    simp only[List.lookup,hb,if_neg (fun e:g=f=>hk (h.symm.trans e))]
   ·have hb:(g==k)=false:=beq_eq_false_iff_ne.mpr h
    simp only[List.lookup,hb]
    exact ih
theorem Zp (f:Str) (v:V):∀ fs:List (Str × V),f∈(jJ f v fs).map (·.1)∧∀ g,g∈fs.map (·.1)→g∈(jJ f v fs).map (·.1)
 | []=>⟨by simp[jJ],fun g h=>by simp at h⟩
 | (k,x)::r=>by
  obtain⟨i1,i2⟩:=Zp f v r
  rw[show jJ f v ((k,x)::r)=(if k=f then (k,v)::r else (k,x)::jJ f v r) from rfl]
  by_cases hk:k=f
  ·rw[if_pos hk]
   subst hk
   exact⟨by simp,fun g h=>by simpa using h⟩
  ·rw[if_neg hk]
   refine⟨?_,fun g h=>?_⟩
   ·rw[CF]
    exact Cd _ i1
   ·rw[CF] at h ⊢
    rcases cU.mp h with e | e
    ·exact cU.mpr (.inl e)
    ·exact Cd _ (i2 g e)
theorem ZG (f:Str) (v:V):∀ fs:List (Str × V),(jJ f v fs).length≤fs.length+1
 | []=>by simp[jJ]
 | (k,x)::r=>by
  have ih:=ZG f v r
  rw[show jJ f v ((k,x)::r)=(if k=f then (k,v)::r else (k,x)::jJ f v r) from rfl]
  by_cases hk:k=f
  ·rw[if_pos hk,CI,CI];omega
  ·rw[if_neg hk,CI,CI];omega
theorem kN.some_of {v:V} {o:Option Value} (r:kN (some v) o):∃ u,o=some u∧qG v u:=by
 cases o with
 | none=>exact (show False from r).elim
 | some u=>exact⟨u,rfl,r⟩
theorem kN.none_of {o:Option Value} (r:kN none o):o=none:=by
 cases o with
 | none=>rfl
 | some u=>exact (show False from r).elim
theorem GR {v:V} {u:Value} (r:qG v u):PySem.W.handedIn u=true:=by
 cases v with
 | non=>cases (show u=Value.none from r);rfl
 | bl b=>cases (show u=Value.bool b from r);rfl
 | int i=>obtain⟨t,e⟩:=(show ∃ t,u=Value.int i t from r);cases e;rfl
 | str x=>obtain⟨t,e⟩:=(show ∃ t,u=Value.str x t from r);cases e;rfl
 | byt b=>obtain⟨t,e⟩:=(show ∃ t,u=Value.bytes b t from r);cases e;rfl
 | flt b=>obtain⟨t,e⟩:=(show ∃ t,u=Value.float b t from r);cases e;rfl
 | ref a=>cases (show u=Value.ref a from r);rfl
 | ty n=>cases (show u=Value.type n from r);rfl
section
variable {P:Program} {w:World} {H H':Hp} {h h':Heap} {a C dx:Addr} {fs fs':List (Str × V)}
theorem Z4 (hok:kc P w H h) (e:H a=some (.ins C dx fs)):∃ mA,WU h a dx C mA∧(∀ f,kN (fs.lookup f) (mA f))∧PySem.Within mA (fs.map (·.1))∧fs.length≤1000∧H dx=some (.own a):=by
 obtain⟨d,z,ne,ob,mA,n,r,q⟩:=(show yi P w H h a (.ins C dx fs) from hok a _ e)
 exact⟨mA,⟨ob,n,ne⟩,r,q,z,d⟩
end
structure ZQ (K:BFr) (C:Addr):Prop where
 pg:PySem.W.plainGet K C Str.empty=true
 hd:PySem.W.hasDictIn K C=true
 po:PySem.W.plainOver K C=true
 sa:BfS K C
theorem ZQ.get {K:BFr} {C:Addr} (c:ZQ K C) (f:Str):PySem.W.plainGet K C f=true:=c.pg
noncomputable def qc (K:BFr) (C:Addr) (f:Str):Prop:=PySem.W.findIn K (.ref C) f=some none
theorem qc.taker {K:BFr} {C:Addr} {f:Str} (n:qc K C f):PySem.W.takerIn K C f=some none:=by
 unfold PySem.W.takerIn
 rw[show PySem.W.findIn K (.ref C) f=some none from n]
 rfl
structure Xp (K:BFr) (C:Addr) (m:Str) (f:Addr):Prop where
 at_:PySem.W.findIn K (.ref C) m=some (some (.ref f))
 fn:PySem.W.isFn K (.ref f)=true
 kp:PySem.W.keepIn K (.ref f)=true
section
variable {X:Cx} {pins:List (Addr × Obj)} {σ:St} {H:Hp} {s:Shared} {a C dx:Addr} {fs:List (Str × V)} {f:Str} {v:V} {A:Around} {E:Value→Shared→Prop}
theorem xM {b:Bool} {Q:Value→Shared→Prop} (I:zN X pins σ H s) (e:H a=some (.ins C dx fs)) (c:ZQ X.K C) (n:qc X.K C f) (l:fs.lookup f=some v) (h:∀ u s',zN X pins σ H s'→qG v u→Q u s'):wpAny (model X.prog X.w) A (getAttr (.ref a) f b) Q E s:=by
 obtain⟨mA,O,r,_,_,_⟩:=Z4 I.hok e
 obtain⟨u,hu,ru⟩:=kN.some_of (v:=v) (o:=mA f) (by rw[← l];exact r f)
 exact LY I.kIn O (c.get f) c.hd n hu (GR ru) (h u _ (I.tok _) ru)
theorem w9 {m:Str} {g:Addr} {pl:Sem Bool} {Q:Value × List Value→Shared→Prop} (I:zN X pins σ H s) (e:H a=some (.ins C dx fs)) (c:ZQ X.K C) (k:Xp X.K C m g) (l:fs.lookup m=none) (h:Q (.ref g,[.ref a]) s):wpAny (model X.prog X.w) A (getMethod (.ref a) m pl) Q E s:=by
 obtain⟨mA,O,r,_,_,_⟩:=Z4 I.hok e
 have hn:mA m=none:=kN.none_of (by rw[← l];exact r m)
 exact pQ I.kIn O (c.get m) k.at_ k.fn hn h
theorem XI {y:V} {u:Value} {Q:Unit→Shared→Prop} (I:zN X pins σ H s) (e:H a=some (.ins C dx fs)) (c:ZQ X.K C) (n:qc X.K C f) (hl:fs.length<1000) (ry:qG y u) (h:∀ s',zN X pins σ (upd H a (.ins C dx (jJ f y fs))) s'→Q () s'):wpAny (model X.prog X.w) A (setAttr (.ref a) f u) Q E s:=by
 obtain⟨mA,O,r,wi,_,ho⟩:=Z4 I.hok e
 have hz:(fs.map (·.1)).length≤sizeLine:=by rw[cN,sizeLine_eq];omega
 refine Mg I.kIn O c.sa c.po n.taker c.hd wi hz fun h' O' sb=>h _ ?_
 have hd:∃ o,h'.get? dx=some o:=let ⟨o,_,_,e',_⟩:=O'.ns;⟨o,e'⟩
 refine I.write (x:=a) (e:=dx) (by rw[e];exact True.intro) (.inr ho) (fun b q hb z=>(sb.2 b hb).trans z) hd ?_
 refine⟨by rw[zG O.ne];exact ho,?_,O.ne,O'.obj,_,O'.ns,fun g=>?_,fun g hg=>?_⟩
 ·have:=ZG f y fs;omega
 ·show kN ((jJ f y fs).lookup g) (if g=f then some u else mA g)
  rw[ZP]
  by_cases q:g=f
  ·rw[if_pos q,if_pos q];exact ry
  ·rw[if_neg q,if_neg q];exact r g
 ·by_cases q:g=f
  ·rw[q];exact (Zp f y fs).1
  ·refine (Zp f y fs).2 g (wi g fun z=>hg ?_)
   show (if g=f then some u else mA g)=none
   rw[if_neg q];exact z
theorem zN.made (I:zN X pins σ H s):zN X pins σ (upd (upd H s.heap.objs.size (.own (s.heap.objs.size+1))) (s.heap.objs.size+1) (.ins C s.heap.objs.size []))
  { s with heap:=(s.heap.push PySem.W.emptyDict).push (PySem.W.instObj C s.heap.objs.size) }:=by
 have e1:(s.heap.push PySem.W.emptyDict).get? s.heap.objs.size=some PySem.W.emptyDict:=Cq s.heap rfl
 have e2:((s.heap.push PySem.W.emptyDict).push (PySem.W.instObj C s.heap.objs.size)).get? (s.heap.objs.size+1)=some (PySem.W.instObj C s.heap.objs.size):=by
  have:=Cq (s.heap.push PySem.W.emptyDict) (o:=PySem.W.instObj C s.heap.objs.size) rfl
  rwa [dU] at this
 have e3:(s.heap.push PySem.W.emptyDict).Ns s.heap.objs.size (fun _=>none):=⟨PySem.W.emptyDict,#[],_,e1,rfl,(fun e he=>absurd he (by simp)),fun _=>rfl⟩
 have I1:=I.laid (a:=s.heap.objs.size) (o:=.own (s.heap.objs.size+1)) (h':=s.heap.push PySem.W.emptyDict) (t':=s.toks) (fun b u q=>Cf _ q) (cP _) ⟨_,e1⟩
 refine I1.laid (a:=s.heap.objs.size+1) (o:=.ins C s.heap.objs.size []) (t':=s.toks) (fun b u q=>Cf _ q) (dW (dU _ _)) ?_
 have ne:s.heap.objs.size≠s.heap.objs.size+1:=Cc (dN _)
 refine⟨by rw[zG ne,zq],Cw _,ne,e2,fun _=>none,(Heap.Ns1.of_empty e3).at fun o q=>Cf _ q,fun _=>True.intro,fun y hy=>absurd rfl hy⟩
theorem M8 {prog:Program} {w:World} {env:Env} {e:Expr} {f:Str} {pos:Pos} {s:Shared} {Q:Value→Shared→Prop} (hb:attributeBase e f env (eval e env)=eval e env) (h:wpAny (model prog w) A (eval e env) (fun o s₁=>wpAny (model prog w) A (getAttr o f true) Q E s₁) E s):wpAny (model prog w) A (eval (.Attribute e f pos) env) Q E s :=
 Attribute_any_ h (by rw[arm_eval_Attribute,hb])
end
noncomputable def TX (K:BFr) (ta:TE) (f:Str):TE:=fun σ H Q=>ta σ H fun x H1=>∃ a C dx fs v,x = .ref a∧H1 a=some (.ins C dx fs)∧ZQ K C∧qc K C f∧fs.lookup f=some v∧Q v H1
noncomputable def bV (K:BFr) (ta tv:TE) (f:Str):TS:=fun D σ H=>tv σ H fun y H1=>ta σ H1 fun x H2=>∃ a C dx fs,x = .ref a∧H2 a=some (.ins C dx fs)∧ZQ K C∧qc K C f∧fs.length<1000 ∧
 D.nx σ (upd H2 a (.ins C dx (jJ f y fs)))
section
variable {X:Cx} {o e value:Expr} {f:Str} {pos pos' tpos:Pos} {ta tv:TE}
theorem zR (he:PE X e ta) (hb:attributeBase e f X.env (eval e X.env)=eval e X.env):PE X (.Attribute e f pos) (TX X.K ta f):=by
 intro pins s σ H Q I h
 refine M8 hb (q0 (he pins s σ H _ I h) fun u s1 ⟨x,H1,I1,rx,a,C,dx,fs,v,ex,ea,c,n,l,q⟩=>?_)
 subst ex
 obtain rfl:u=Value.ref a:=rx
 exact xM I1 ea c n l fun u' s2 I2 ru=>⟨v,H1,I2,ru,q⟩
theorem yz (ha:PE X o ta) (hv:PE X value tv) (hs:swapsWith value (some (.Attribute o f pos')) pos.line X.env=pure false):PS X (.Assign [.Attribute o f pos'] value pos) (bV X.K ta tv f):=by
 intro pins s σ H D I h
 refine plainObj_wpAny_Assign_Attribute (q0 (hv pins s σ H _ I h) fun u s1 ⟨y,H1,I1,ry,q⟩=>q0 (ha pins s1 σ H1 _ I1 q) fun ov s2 ⟨x,H2,I2,rx,a,C,dx,fs,ex,ea,c,n,l,q2⟩=>?_) hs
 subst ex
 obtain rfl:ov=Value.ref a:=rx
 exact XI I2 ea c n l ry fun s3 I3=>⟨σ,_,I3,q2⟩
theorem nW {pl:Sem Bool} {m:Str} {apos:Pos} {args:List Expr} {pins:List (Addr × Obj)} {s:Shared} {σ:St} {H:Hp} {Q:Value→Shared→Prop} {te:TE} (he:PE X e te) (I:zN X pins σ H s) (h:te σ H fun x H1=>∃ a C dx fs g,x = .ref a∧H1 a=some (.ins C dx fs)∧ZQ X.K C∧Xp X.K C m g∧fs.lookup m=none ∧
   ∀ s1,zN X pins σ H1 s1→wpAny (model X.prog X.w) X.A (callWith pos (.ref g) [.ref a] (backTo pos (starEach args X.env)) (backToKw pos (keywordEach [] X.env))) Q X.xe s1) (ht:eval (.Call (.Attribute e m apos) args [] pos) X.env=(do
   let ov ← eval e X.env
   standAt apos.atName
   let (f,first) ← holding [ov] (getMethod ov m pl)
   callWith pos f first (backTo pos (starEach args X.env)) (backToKw pos (keywordEach [] X.env)))) :
  wpAny (model X.prog X.w) X.A (eval (.Call (.Attribute e m apos) args [] pos) X.env) Q X.xe s:=by
 refine PySem.W.methodCall_KW (pl:=pl) (q0 (he pins s σ H _ I h) fun u s1 ⟨x,H1,I1,rx,a,C,dx,fs,g,ex,ea,c,k,l,q⟩=>?_) ht
 subst ex
 obtain rfl:u=Value.ref a:=rx
 exact w9 I1 ea c k l (q s1 I1)
end
section
variable {X:Cx} {pins:List (Addr × Obj)} {σ:St} {H:Hp} {s:Shared} {A:Around} {E:Value→Shared→Prop} {Q:Value→Shared→Prop} {c:Value} {b:Bool}
inductive vi (K:BFr) (H:Hp):V→Value→Prop where
 | non:vi K H .non (.type "NoneType")
 | bl (x:Bool):vi K H (.bl x) (.type "bool")
 | int (i:Int):vi K H (.int i) (.type "int")
 | str (x:Str):vi K H (.str x) (.type "str")
 | flt (x:UInt64):vi K H (.flt x) (.type "float")
 | lst {a:Addr} {xs:List V} (e:H a=some (.lst xs)):vi K H (.ref a) (.type "list")
 | frz {a:Addr} {o:Obj} {xs:List V} (e:H a=some (.frz o (.lst xs))):vi K H (.ref a) (.type "list")
 | tup {a:Addr} {xs:List V} (e:H a=some (.tup xs)):vi K H (.ref a) (.type "tuple")
 | dK {a:Addr} {kvs:List (jZ × V)} (e:H a=some (.dK kvs)):vi K H (.ref a) (.type "dict")
 | dT {a:Addr} {kvs:List (List jZ × V)} (e:H a=some (.dT kvs)):vi K H (.ref a) (.type "dict")
 | ins {a C dx:Addr} {fs:List (Str × V)} (e:H a=some (.ins C dx fs)) (cl:ZQ K C) (ha:BfC K C) (hn:PySem.W.specialIn K (.builtin "object.__class__") "__get__" = some (some (.builtin "getset_descriptor.__get__"))) (htk:PySem.W.takesIn K (.builtin "object.__class__")=some true) (hm:PySem.W.mroIn K C (.type "object")=some true):vi K H (.ref a) (.ref C)
theorem GN {x:V} {u t:Value} (I:zN X pins σ H s) (rx:qG x u) (ty:vi X.K H x t) (e:PySem.W.kitOne X.K t c=some b) (h:∀ tk,Q (.bool b) { s with toks:=tk }) :
  wpAny (model X.prog X.w) A (call (.builtin "isinstance") [u,c]) Q E s:=by
 cases ty with
 | non=>cases (show u=Value.none from rx);exact PySem.W.kia_one PySem.W.kitx_none I.kIn True.intro e (fun z=>nomatch z) h
 | bl y=>cases (show u=Value.bool y from rx);exact PySem.W.kia_one PySem.W.kitx_bool I.kIn True.intro e (fun z=>nomatch z) h
 | int i=>obtain⟨t,q⟩:=(show ∃ t,u=Value.int i t from rx);cases q;exact PySem.W.kia_one PySem.W.kitx_int I.kIn True.intro e (fun z=>nomatch z) h
 | str y=>obtain⟨t,q⟩:=(show ∃ t,u=Value.str y t from rx);cases q;exact PySem.W.kia_one PySem.W.kitx_str I.kIn True.intro e (fun z=>nomatch z) h
 | flt y=>obtain⟨t,q⟩:=(show ∃ t,u=Value.float y t from rx);cases q;exact PySem.W.kia_one PySem.W.kitx_float I.kIn True.intro e (fun z=>nomatch z) h
 | @lst a xs ea =>
  cases (show u=Value.ref a from rx)
  obtain⟨_,_,n,_,h1⟩:=(show yi X.prog X.w H s.heap a (.lst xs) from I.hok a _ ea)
  exact PySem.W.kia_one PySem.W.kitx_list I.kIn ⟨_,h1,rfl⟩ e (fun z=>nomatch z) h
 | @frz a ob xs ea =>
  cases (show u=Value.ref a from rx)
  obtain⟨_,_,_,n,_,h1⟩:=(show yi X.prog X.w H s.heap a (.frz ob (.lst xs)) from I.hok a _ ea)
  exact PySem.W.kia_one PySem.W.kitx_list I.kIn ⟨_,h1,rfl⟩ e (fun z=>nomatch z) h
 | @tup a xs ea =>
  cases (show u=Value.ref a from rx)
  obtain⟨_,_,_,p⟩:=(show yi X.prog X.w H s.heap a (.tup xs) from I.hok a _ ea)
  obtain⟨o,h1,h2,_⟩:=p
  exact PySem.W.kia_one PySem.W.kitx_tuple I.kIn ⟨o,h1,h2⟩ e (fun z=>nomatch z) h
 | @dK a kvs ea =>
  cases (show u=Value.ref a from rx)
  obtain⟨_,_,vs,_,p⟩:=(show yi X.prog X.w H s.heap a (.dK kvs) from I.hok a _ ea)
  obtain⟨o,es,ep,h1,h2,_⟩:=p
  exact PySem.W.kia_one PySem.W.kitx_dict I.kIn ⟨o,h1,h2.1⟩ e (fun z=>nomatch z) h
 | @dT a kvs ea =>
  cases (show u=Value.ref a from rx)
  obtain⟨_,_,xs,_,o,es,ep,h1,h2,_⟩:=(show yi X.prog X.w H s.heap a (.dT kvs) from I.hok a _ ea)
  exact PySem.W.kia_one PySem.W.kitx_dict I.kIn ⟨o,h1,h2.1⟩ e (fun z=>nomatch z) h
 | @ins a C dx fs ea cl ha hn htk hm =>
  cases (show u=Value.ref a from rx)
  obtain⟨mA,O,_⟩:=Z4 I.hok ea
  obtain⟨od,J,_⟩:=O.look
  exact PySem.W.kia_one (PySem.W.kitx_own (cl.get _) cl.hd ha hn htk hm) I.kIn J e (fun z=>nomatch z) h
end
structure yO (k:Nat) (A:Around):Prop where
 hd:A.handled=none
 dp:A.depth+3*k+5<recursionLimit
 un:A.units+16*k+200<cLine
theorem yO.mono {j k:Nat} {A:Around} (r:yO k A) (h:j≤k):yO j A:=⟨r.hd,by have:=r.dp;omega,by have:=r.un;omega⟩
theorem yO.deeper {k:Nat} {A:Around} (r:yO (k+1) A) (env:Env):yO k (A.deeper env) :=
 ⟨r.hd,by have:=r.dp;show A.depth+1+3*k+5<_;omega,by have:=r.un;show A.units+3+16*k+200<_;omega⟩
theorem W5 {A:Around} {C:Addr} {us:List Value} {kw:List (Str × Value)}:(A.under (.builtin "type.__call__" ⟨.ref C::us,kw⟩)).depth=A.depth+1:=by
 first | rfl | simp[Around.under,Code.weight,Code.isCreation,Code.isGuard,Code.isCaller,Code.frames,Code.isFrame,guardIds]
theorem Xy {A:Around} {C:Addr} {us:List Value} {kw:List (Str × Value)}:(A.under (.builtin "type.__call__" ⟨.ref C::us,kw⟩)).units=A.units+1:=by
 first | rfl | simp[Around.under,Code.cUnits,Code.frames,Code.isFrame]
theorem yO.make {k:Nat} {A:Around} (r:yO (k+1) A) (C:Addr) (us:List Value) (kw:List (Str × Value)):yO k (A.under (.builtin "type.__call__" ⟨.ref C::us,kw⟩)) :=
 ⟨r.hd,by have:=r.dp;rw[W5];omega,by have:=r.un;rw[Xy];omega⟩
theorem yO.depth {k:Nat} {A:Around} (r:yO k A):A.depth<recursionLimit:=by have:=r.dp;omega
theorem yO.units {k:Nat} {A:Around} (r:yO k A):A.units+64<cLine:=by have:=r.un;omega
theorem yO.units0 {k:Nat} {A:Around} (r:yO k A):A.units<cLine:=by have:=r.un;omega
noncomputable def jy:TA:=fun _ H Q=>Q [] H
noncomputable def qX (ta:TE) (tr:TA):TA:=fun σ H Q=>ta σ H fun x H1=>tr σ H1 fun xs H2=>Q (x::xs) H2
section
variable {X:Cx} {e:Expr} {es:List Expr} {te:TE} {t:TA} {pos:Pos}
theorem zd:PA X [] jy:=fun _ _ _ _ H Q I h=>Calls.spliced_nil ⟨[],H,I,.nil,h⟩
theorem za (ha:PE X e te) (hr:PA X es t) (hs:starEach (e::es) X.env=(false,eval e X.env)::starEach es X.env:=by exact z7 rfl):PA X (e::es) (qX te t):=by
 intro pos pins s σ H Q I h
 rw[hs]
 show wpAny _ _ (spliced ((false,eval e X.env)::backTo pos (starEach es X.env))) _ _ s
 refine Calls.spliced_cons (q0 (ha pins s σ H _ I h) fun u s1 ⟨x,H1,I1,r1,q1⟩=>?_)
 exact q0 (hr pos pins s1 σ H1 _ I1 q1) fun us s2 ⟨xs,H2,I2,r2,q2⟩=>⟨x::xs,H2,I2,.cons r1 r2,q2⟩
end
abbrev Sp:=List V→Hp→VK→XK→Prop
abbrev ki:=List Env→Hp→Shared→XK→Value→Shared→Prop
structure Ul (P:Program) (w:World) (K:BFr) (mg:Str→Option Value) (base:Heap) (A:Around) (outer:List Env) (s:Shared) (H:Hp):Prop where
 frames:A.frames=some outer
 mod:Mod K mg base
 bs:∀ b o,base.get? b=some o→s.heap.get? b=some o∧H b=none
 bsz:base.objs.size≤s.heap.objs.size
 funs:s.heap.FunFrames base outer
 frf:∀ b∈GT outer,H b=none
 hok:kc P w H s.heap
 bare:AllBare s.gens
noncomputable def CE (outer:List Env) (P:Program) (w:World) (H:Hp) (s:Shared) (Q:VK) (u:Value) (s':Shared):Prop :=
 ∃ v H',s'.os=s.os∧AllBare s'.gens∧Un (GT outer) [] H H' s.heap s'.heap∧kc P w H' s'.heap∧qG v u∧Q v H'
noncomputable def CR (CX:ki) (outer:List Env) (P:Program) (w:World) (H:Hp) (s:Shared) (Q:VK) (E:XK) (r:Result) (s':Shared):Prop :=
 match r with
 | .ok (.ret u)=>CE outer P w H s Q u s'
 | .ok _=>False
 | .error e=>CX outer H s E e s'
structure zL (P:Program) (w:World) (K:BFr) (mg:Str→Option Value) (base:Heap) (CX:ki) (k:Nat) (f:Addr) (fd:FuncData) (ps:List Str) (sp:Sp):Prop where
 len:∀ vs H Q E,sp vs H Q E→vs.length=ps.length
 run:∀ (A:Around) (outer:List Env) (s:Shared) (H:Hp) (args:Args) (us:List Value) (vs:List V) (Q:VK) (E:XK),yO k A→Ul P w K mg base A outer s H→BindsTo s fd args (ps.zip us)→qt vs us→sp vs H Q E →
  codeAny (model P w) A (.call (.ref f) args) (CR CX outer P w H s Q E) s
theorem zL.mono {P:Program} {w:World} {K:BFr} {mg:Str→Option Value} {base:Heap} {CX:ki} {j k:Nat} {f:Addr} {fd:FuncData} {ps:List Str} {sp:Sp} (F:zL P w K mg base CX j f fd ps sp) (h:j≤k) :
  zL P w K mg base CX k f fd ps sp:=⟨F.len,fun A outer s H args us vs Q E hr=>F.run A outer s H args us vs Q E (hr.mono h)⟩
theorem zL.imp {P:Program} {w:World} {K:BFr} {mg:Str→Option Value} {base:Heap} {CX:ki} {k:Nat} {f:Addr} {fd:FuncData} {ps:List Str} {sp sp':Sp} (F:zL P w K mg base CX k f fd ps sp) (h:∀ vs H Q E,sp' vs H Q E→sp vs H Q E):zL P w K mg base CX k f fd ps sp' :=
 ⟨fun vs H Q E q=>F.len vs H Q E (h _ _ _ _ q),fun A outer s H args us vs Q E hr he hb hv hs=>F.run A outer s H args us vs Q E hr he hb hv (h _ _ _ _ hs)⟩
theorem Ul.make {P:Program} {w:World} {K:BFr} {mg:Str→Option Value} {base:Heap} {A:Around} {outer:List Env} {s:Shared} {H:Hp} (e:Ul P w K mg base A outer s H) (C:Addr) (us:List Value) (kw:List (Str × Value)) :
  Ul P w K mg base (A.under (.builtin "type.__call__" ⟨.ref C::us,kw⟩)) outer s H:=⟨by first | exact e.frames | (simpa [Around.under,Code.envs,Code.isFrame,pushEnvs] using e.frames),e.mod,e.bs,e.bsz,e.funs,e.frf,e.hok,e.bare⟩
section
variable {X:Cx} {pins:List (Addr × Obj)} {σ:St} {H:Hp} {s s':Shared}
theorem zN.env0 (I:zN X pins σ H s):Ul X.prog X.w X.K X.mg X.base X.A X.stack s H :=
 ⟨I.ok.frames,I.ok.mod,I.bs,cZ I.ok.bsz I.sz,I.stack,I.stkFree,I.hok,I.bare⟩
theorem zN.after {Q:VK} {u:Value} (I:zN X pins σ H s) (h:CE X.stack X.prog X.w H s Q u s'):EP X pins σ Q u s':=by
 obtain⟨v,H',os,bare,un,hok,r,q⟩:=h
 obtain⟨hh,g,d,t,os'⟩:=s'
 obtain rfl:os'=s.os:=os
 exact⟨v,H',I.call (h':=hh) (g':=g) (d':=d) (t':=t) (ch:=[]) un hok bare (fun b z=>absurd z (by simp)),r,q⟩
end
noncomputable def Nd (sp:Sp) (dvs:List V) (E:XK) (t:TA):TE:=fun σ H Q=>t σ H fun vs H1=>sp (vs++dvs) H1 Q E
noncomputable def gM (C:Addr) (m:Str) (sp:Sp) (dvs:List V) (E:XK) (ta:TE) (t:TA):TE:=fun σ H Q=>ta σ H fun x H1=>∃ a dx fs,x = .ref a∧H1 a=some (.ins C dx fs)∧fs.lookup m=none ∧
 t σ H1 fun vs H2=>sp (x::(vs++dvs)) H2 Q E
noncomputable def Na (C:Addr) (sp:Sp) (dvs:List V) (E:XK) (t:TA):TE:=fun σ H Q=>t σ H fun vs H1=>∀ x dx,H1 x=none→H1 dx=none→dx≠x →
 sp (.ref x::(vs++dvs)) (upd (upd H1 dx (.own x)) x (.ins C dx [])) (fun v H2=>v = .non∧Q (.ref x) H2) E
noncomputable def vp (K:BFr) (fd:FuncData) (ps:List Str) (ds:List Value):Prop :=
 ∀ (s:Shared) (us:List Value),K.In s.heap→(us++ds).length=ps.length→BindsTo s fd ⟨us,[]⟩ (ps.zip (us++ds))
theorem vp.all {K:BFr} {fd:FuncData} {ps:List Str} (h:∀ us:List Value,us.length=ps.length→bindArgs fd ⟨us,[]⟩=pure (ps.zip us)):vp K fd ps []:=fun s us _ hl=>by
 rw[CK] at hl ⊢
 exact .of_eq (h us hl)
noncomputable def yZ (CX:ki) (X:Cx) (E:XK):Prop:=∀ (pins:List (Addr × Obj)) (σ:St) (H:Hp) (s:Shared) (e:Value) (s':Shared),zN X pins σ H s→CX X.stack H s E e s'→X.xe e s'
section
variable {X:Cx} {CX:ki} {k:Nat} {f C:Addr} {fd:FuncData} {ps:List Str} {sp:Sp} {dvs:List V} {ds:List Value} {E:XK} {x m:Str} {p pos apos:Pos} {e o:Expr} {es:List Expr} {ta:TE} {t:TA}
theorem VD {pins:List (Addr × Obj)} {σ:St} {H:Hp} {s:Shared} {Q:VK} {us:List Value} {vs:List V} (F:zL X.prog X.w X.K X.mg X.base CX k f fd ps sp) (hr:yO k X.A) (hb:vp X.K fd ps ds) (hd:qt dvs ds) (hx:yZ CX X E) (I:zN X pins σ H s) (r:qt vs us) (h:sp (vs++dvs) H Q E):wpAny (model X.prog X.w) X.A (call (.ref f) us) (EP X pins σ Q) X.xe s:=by
 have r2:qt (vs++dvs) (us++ds):=r.append hd
 have hl:(us++ds).length=ps.length:=by rw[← r2.length];exact F.len _ _ _ _ h
 refine wpAny_call (codeAny_mono (F.run X.A X.stack s H ⟨us,[]⟩ (us++ds) (vs++dvs) Q E hr I.env0 (hb s us I.kIn hl) r2 h) fun r s' hq=>?_)
 cases r with
 | error e=>exact hx pins σ H s e s' I hq
 | ok fl =>
  cases fl with
  | ret u=>exact I.after hq
  | next=>exact False.elim hq
  | brk=>exact False.elim hq
  | cont=>exact False.elim hq
theorem L3 (F:zL X.prog X.w X.K X.mg X.base CX k f fd ps sp) (hr:yO k X.A) (hg:Gl X x) (hm:X.mg x=some (.ref f)) (hk:PySem.W.keepIn X.K (.ref f)=true) (hb:vp X.K fd ps ds) (hd:qt dvs ds) (hx:yZ CX X E) (ha:PA X (e::es) t) (hdb:(x==("__debug__":Str))=false:=by decide) (he:starEach (e::es) X.env=(false,eval e X.env)::starEach es X.env:=by exact z7 rfl) (hpl:(backTo pos (starEach es X.env)).any (·.1)=false:=by exact yC rfl) :
  PE X (.Call (.Name x p) (e::es) [] pos) (Nd sp dvs E t):=by
 intro pins s σ H Q I h
 refine wpAny_Call_Name_kw (vT I hg hm ?_ hdb)
 refine PySem.W.callWith_K (h₀:=X.base) I.ok.mod.kin hk (q0 (ha pos pins s σ H _ I h) fun us s1 ⟨vs,H1,I1,r,q⟩=>⟨I1.kIn,?_⟩) he hpl
 exact VD F hr hb hd hx I1 r q
theorem Ls {pl:Sem Bool} (he:PE X o ta) (c:ZQ X.K C) (hm:Xp X.K C m f) (F:zL X.prog X.w X.K X.mg X.base CX k f fd ps sp) (hr:yO k X.A) (hb:vp X.K fd ps ds) (hd:qt dvs ds) (hx:yZ CX X E) (ha:PA X (e::es) t) (hst:starEach (e::es) X.env=(false,eval e X.env)::starEach es X.env:=by exact z7 rfl) (hpl:(backTo pos (starEach es X.env)).any (·.1)=false:=by exact yC rfl) (ht:eval (.Call (.Attribute o m apos) (e::es) [] pos) X.env=(do
   let ov ← eval o X.env
   standAt apos.atName
   let (f,first) ← holding [ov] (getMethod ov m pl)
   callWith pos f first (backTo pos (starEach (e::es) X.env)) (backToKw pos (keywordEach [] X.env))):=by rfl) :
  PE X (.Call (.Attribute o m apos) (e::es) [] pos) (gM C m sp dvs E ta t):=by
 intro pins s σ H Q I h
 refine PySem.W.methodCall_KW (pl:=pl) (q0 (he pins s σ H _ I h) fun u s1 ⟨x,H1,I1,rx,a,dx,fs,ex,ea,l,q⟩=>?_) ht
 subst ex
 obtain rfl:u=Value.ref a:=rx
 refine w9 I1 ea c hm l ?_
 refine PySem.W.callWith_K (first:=[.ref a]) (h₀:=X.base) I.ok.mod.kin hm.kp (q0 (ha pos pins s1 σ H1 _ I1 q) fun us s2 ⟨vs,H2,I2,r,q2⟩=>⟨I2.kIn,?_⟩) hst hpl
 exact VD (us:=.ref a::us) (vs:=.ref a::vs) F hr hb hd hx I2 (.cons rfl r) q2
theorem pY {pl:Sem Bool} (he:PE X o ta) (c:ZQ X.K C) (hm:Xp X.K C m f) (F:zL X.prog X.w X.K X.mg X.base CX k f fd ps sp) (hr:yO k X.A) (hb:vp X.K fd ps ds) (hd:qt dvs ds) (hx:yZ CX X E) (ht:eval (.Call (.Attribute o m apos) [] [] pos) X.env=(do
   let ov ← eval o X.env
   standAt apos.atName
   let (f,first) ← holding [ov] (getMethod ov m pl)
   callWith pos f first (backTo pos (starEach [] X.env)) (backToKw pos (keywordEach [] X.env))):=by rfl) :
  PE X (.Call (.Attribute o m apos) [] [] pos) (gM C m sp dvs E ta jy):=by
 intro pins s σ H Q I h
 refine PySem.W.methodCall_KW (pl:=pl) (q0 (he pins s σ H _ I h) fun u s1 ⟨x,H1,I1,rx,a,dx,fs,ex,ea,l,q⟩=>?_) ht
 subst ex
 obtain rfl:u=Value.ref a:=rx
 refine w9 I1 ea c hm l ?_
 exact PySem.W.callWith_K0 (first:=[.ref a]) I1.kIn hm.kp (VD (us:=[.ref a]) (vs:=[.ref a]) F hr hb hd hx I1 (.cons rfl .nil) q)
structure Mk (K:BFr) (C f:Addr):Prop where
 makes:PySem.W.makesIn K C=true
 init:PySem.W.findIn K (.ref C) "__init__" = some (some (.ref f))
 fn:PySem.W.isFn K (.ref f)=true
 kp:PySem.W.keepIn K (.ref C)=true
theorem Oy {pins:List (Addr × Obj)} {σ:St} {H:Hp} {s:Shared} {Q:VK} {us:List Value} {vs:List V} (M:Mk X.K C f) (F:zL X.prog X.w X.K X.mg X.base CX k f fd ps sp) (hr:yO (k+1) X.A) (hb:vp X.K fd ps ds) (hd:qt dvs ds) (hx:yZ CX X E) (I:zN X pins σ H s) (r:qt vs us) (h:∀ x dx,H x=none→H dx=none→dx≠x→sp (.ref x::(vs++dvs)) (upd (upd H dx (.own x)) x (.ins C dx [])) (fun v H2=>v = .non∧Q (.ref x) H2) E) :
  wpAny (model X.prog X.w) X.A (call (.ref C) us) (EP X pins σ Q) X.xe s:=by
 have hq:=h (s.heap.objs.size+1) s.heap.objs.size (I.hok.fresh (Nat.le_succ _)) (I.hok.fresh (cP _)) (Cc (dN _))
 have I2:=zN.made (C:=C) I
 have r2:qt (V.ref (s.heap.objs.size+1)::(vs++dvs)) (Value.ref (s.heap.objs.size+1)::(us++ds)):=.cons rfl (r.append hd)
 have hl:(Value.ref (s.heap.objs.size+1)::us++ds).length=ps.length:=by
  have e:=r2.length
  rw[F.len _ _ _ _ hq] at e
  exact e.symm
 refine wpAny_call (pq (f:=f) I.kIn M.makes M.init (beq_iff_eq.mp M.fn) (codeAny_mono (F.run _ X.stack _ _ ⟨Value.ref (s.heap.objs.size+1)::us,[]⟩ (Value.ref (s.heap.objs.size+1)::(us++ds)) _ _ E (hr.make C us [])
  (I2.env0.make C us []) (hb _ (Value.ref (s.heap.objs.size+1)::us) I2.kIn hl) r2 hq) fun r s' hq'=>?_))
 cases r with
 | error e=>exact hx pins σ _ _ e s' I2 hq'
 | ok fl =>
  cases fl with
  | ret u =>
   obtain⟨v,H',I3,rv,ev,q3⟩:=I2.after hq'
   subst ev
   exact⟨rv,⟨V.ref (s.heap.objs.size+1),H',I3,rfl,q3⟩⟩
  | next=>exact False.elim hq'
  | brk=>exact False.elim hq'
  | cont=>exact False.elim hq'
theorem LI (M:Mk X.K C f) (F:zL X.prog X.w X.K X.mg X.base CX k f fd ps sp) (hr:yO (k+1) X.A) (hg:Gl X x) (hm:X.mg x=some (.ref C)) (hb:vp X.K fd ps ds) (hd:qt dvs ds) (hx:yZ CX X E) (ha:PA X (e::es) t) (hdb:(x==("__debug__":Str))=false:=by decide) (he:starEach (e::es) X.env=(false,eval e X.env)::starEach es X.env:=by exact z7 rfl) (hpl:(backTo pos (starEach es X.env)).any (·.1)=false:=by exact yC rfl) :
  PE X (.Call (.Name x p) (e::es) [] pos) (Na C sp dvs E t):=by
 intro pins s σ H Q I h
 refine wpAny_Call_Name_kw (vT I hg hm ?_ hdb)
 refine PySem.W.callWith_K (h₀:=X.base) I.ok.mod.kin M.kp (q0 (ha pos pins s σ H _ I h) fun us s1 ⟨vs,H1,I1,r,q⟩=>⟨I1.kIn,?_⟩) he hpl
 exact Oy M F hr hb hd hx I1 r q
end
noncomputable def PK (X:Cx) (kws:List Keyword) (t:TA):Prop :=
 ∀ (pos:Pos) (pins:List (Addr × Obj)) (s:Shared) (σ:St) (H:Hp) (Q:List V→Hp→Prop),zN X pins σ H s→t σ H Q→wpAny (model X.prog X.w) X.A (evalAll ((backToKw pos (keywordEach kws X.env)).map (·.2))) (AP X pins σ Q) X.xe s
section
variable {X:Cx} {CX:ki} {k:Nat} {f C:Addr} {fd:FuncData} {ps ks:List Str} {sp:Sp} {E:XK} {x m:Str} {p pos apos kpos:Pos} {e o:Expr} {es:List Expr} {kws:List Keyword} {te ta:TE} {t tk:TA} {nm:Option Str}
variable {g:List Value→List Value→List Value} {gV:List V→List V→List V}
end
structure u9 (N P:List Str) (sc:Scope):Prop where
 kind:sc.kind = .function
 co:sc.isCoroutine=false
 gen:sc.isGenerator=false
 nd:N.Nodup
 pre:N.take P.length=P
 par:∀ x∈P,sc.names.lookup x=some .local∨sc.names.lookup x=some .cell
 nofree:∀ y∈sc.names,y.2≠.free
theorem JN {kindOf:Str→Option NameKind} {x:Str}:∀ {binds:List (Str × Value)} {m:Str→Option Value},(∀ v,(x,v)∉binds)→bindL kindOf binds m x=m x
 | [],_,_=>rfl
 | (n,v)::r,m,h=>by
  unfold bindL
  rw[JN fun w hw=>h w (Cd _ hw)]
  split
  ·have:x≠n:=by rintro rfl;exact h v Ce
   simp[this]
  ·rfl
theorem Jm {kindOf:Str→Option NameKind} {x:Str}:∀ {binds:List (Str × Value)} {m:Str→Option Value},(∀ v,(x,v)∉binds)→bindC kindOf binds m x=m x
 | [],_,_=>rfl
 | (n,v)::r,m,h=>by
  unfold bindC
  rw[Jm fun w hw=>h w (Cd _ hw)]
  split
  ·rfl
  ·have:x≠n:=by rintro rfl;exact h v Ce
   simp[this]
theorem JI {kindOf:Str→Option NameKind} {x:Str} {v:Value}:∀ {P:List Str} {vs:List Value} {i:Nat} {m:Str→Option Value},P.Nodup→P[i]? = some x→vs[i]? = some v→kindOf x=some .local →
  bindL kindOf (P.zip vs) m x=some v
 | [],_,_,_,_,h,_,_=>by simp at h
 | _::_,[],_,_,_,_,h,_=>by simp at h
 | p::P,w::vs,0,m,nd,h1,h2,hk=>by
  simp at h1 h2;subst h1;subst h2
  show bindL kindOf ((p,w)::P.zip vs) m p=_
  unfold bindL
  rw[JN fun v hv=>(Du.mp nd).1 (Dv hv).1,if_pos hk]
  simp
 | p::P,w::vs,i+1,m,nd,h1,h2,hk=>by
  show bindL kindOf ((p,w)::P.zip vs) m x=_
  unfold bindL
  exact JI (i:=i) (Du.mp nd).2 (by simpa using h1) (by simpa using h2) hk
theorem Je {kindOf:Str→Option NameKind} {x:Str} {v:Value}:∀ {P:List Str} {vs:List Value} {i:Nat} {m:Str→Option Value},P.Nodup→P[i]? = some x→vs[i]? = some v→kindOf x≠some .local →
  bindC kindOf (P.zip vs) m x=some v
 | [],_,_,_,_,h,_,_=>by simp at h
 | _::_,[],_,_,_,_,h,_=>by simp at h
 | p::P,w::vs,0,m,nd,h1,h2,hk=>by
  simp at h1 h2;subst h1;subst h2
  show bindC kindOf ((p,w)::P.zip vs) m p=_
  unfold bindC
  rw[Jm fun v hv=>(Du.mp nd).1 (Dv hv).1,if_neg hk]
  simp
 | p::P,w::vs,i+1,m,nd,h1,h2,hk=>by
  show bindC kindOf ((p,w)::P.zip vs) m x=_
  unfold bindC
  exact Je (i:=i) (Du.mp nd).2 (by simpa using h1) (by simpa using h2) hk
noncomputable def vX (N:List Str) (vs:List V):St:=vs.map some++List.replicate (N.length - vs.length) none
noncomputable def kh (CX:ki) (P:Program) (w:World) (K:BFr) (mg:Str→Option Value) (base:Heap) (N:List Str) (qual:Str) (scope:Scope) (f:Addr) (cd:Value) (A:Around) (outer:List Env) (s:Shared) (H:Hp) (E:XK):Cx where
 prog:=P
 w:=w
 K:=K
 mg:=mg
 base:=base
 A:=A.deeper (envOfC qual scope s.heap.objs.size f cd)
 N:=N
 s₀:=s
 H₀:=H
 env:=envOfC qual scope s.heap.objs.size f cd
 outer:=outer
 stack:=envOfC qual scope s.heap.objs.size f cd::outer
 ex:=[]
 calm:=true
 fn:=fun _=>true
 pn:=[]
 xe:=fun e s'=>wpAny (model P w) (A.deeper (envOfC qual scope s.heap.objs.size f cd)) (leaving (envOfC qual scope s.heap.objs.size f cd) e) (fun _ s''=>CX outer H s E e s'') (fun e' s''=>CX outer H s E e' s'') s'
theorem Uq {sc:Scope} {n:Nat} {x:Str} (h:sc.names.lookup x=some .cell):∃ c,(cellsFrom n sc.names []).lookup x=some c:=by
 have q:=PySem.W.cellsFrom_some sc.names n [] (.inl h)
 exact dO.mp q
theorem Jt {CX:ki} {P:Program} {w:World} {K:BFr} {mg:Str→Option Value} {base:Heap} {N ps:List Str} {qual:Str} {scope:Scope} {f:Addr} {cd:Value} {A:Around} {outer:List Env} {s s1:Shared} {H:Hp} {E:XK} {us:List Value} {vs:List V}
  (S:u9 N ps scope) (hd:A.handled=none) (e0:Ul P w K mg base A outer s H) (hl:vs.length=ps.length) (r:qt vs us) (x:InCallC s s.heap.objs.size (bindL (envOfC qual scope s.heap.objs.size f cd).kindOf (ps.zip us) fun _=>none) (cellsFrom (s.heap.objs.size+1) scope.names []) (bindC (envOfC qual scope s.heap.objs.size f cd).kindOf (ps.zip us) fun _=>none) s1) :
  zN (kh CX P w K mg base N qual scope f cd A outer s H E) [] (vX N vs) H s1:=by
 have hpl:ps.length≤N.length:=by have:=congrArg List.length S.pre;rw[Cz] at this;omega
 obtain⟨h1,tk,rfl,hk⟩:=x.done
 have noA:∀ b:Addr,b∉(kh CX P w K mg base N qual scope f cd A outer s H E).ex:=fun b z=>absurd (show b∈([]:List Addr) from z) (by simp)
 refine⟨⟨e0.mod,S.kind,rfl,rfl,cP _,fun y z c h1 h2=>?_,fun y hy=>?_,fun y c _ h=>?_,fun _=>hd,Around.frames_deeper e0.frames,.inr ⟨rfl,rfl⟩,fun b z=>absurd z (noA b),e0.bs,e0.bsz,fun b _ _=>noA b,fun b z=>absurd z (noA b),e0.funs,e0.frf⟩,
  rfl,e0.bare,Un.kept hk,⟨_,x.toInCall.ns,fun i y v h1 h2 h3=>?_⟩,fun y c h=>⟨_,x.cell y c h⟩,e0.hok.fresh (cP _),fun y c h=>?_,fun p hp=>absurd (show p∈([]:List (Addr × Obj)) from hp) (by simp),e0.hok.kept hk,?_⟩
 ·exact name_of_addr x.apart (PySem.mem_of_lookup h1) (PySem.mem_of_lookup h2)
 ·have hy:scope.names.lookup y=some .cell∨scope.names.lookup y=some .free:=hy
  rcases hy with hy | hy
  ·exact Uq hy
  ·exact absurd rfl (S.nofree _ (PySem.mem_of_lookup hy))
 ·exact Dd (x.above y c (PySem.mem_of_lookup h))
 ·have hi:i<vs.length:=by
   unfold vX at h2
   by_cases hi:i<vs.length
   ·exact hi
   ·rw[dP (by simpa using hi)] at h2
    rw[List.getElem?_replicate] at h2
    split at h2 <;> cases h2
  have ha:vs[i]? = some v:=by
   unfold vX at h2
   rw[Dh (by simpa using hi),cW] at h2
   cases e:vs[i]? with
   | none=>rw[e] at h2;cases h2
   | some a=>rw[e] at h2;cases h2;rfl
  obtain⟨u,hu,rv⟩:=r.get ha
  have hp:ps[i]? = some y:=by
   rw[← S.pre,eH (by omega)];exact h1
  have ndP:ps.Nodup:=by rw[← S.pre];exact S.nd.sublist (List.take_sublist _ _)
  refine⟨u,rv,?_⟩
  rcases S.par y (CS hp) with k | k
  ·exact .inl ⟨k,JI ndP hp hu k⟩
  ·obtain⟨c,e⟩:=Uq (n:=s.heap.objs.size+1) k
   refine .inr ⟨.inl k,c,e,?_⟩
   have q:=x.cell y c e
   rw[Je ndP hp hu (by show scope.names.lookup y≠_;rw[k];decide)] at q
   exact q
 ·exact e0.hok.fresh (Dd (x.above y c (PySem.mem_of_lookup h)))
 ·unfold vX
  show _=N.length
  rw[Cb,cN,List.length_replicate]
  omega
theorem P3 {CX:ki} {P:Program} {w:World} {K:BFr} {mg:Str→Option Value} {base:Heap} {k:Nat} {f:Addr} {name qual:Str} {params:Arguments} {body:List Stmt} {scope:Scope} {dV kV doc pm cdv ct oc:Value} {an od:Option Addr}
  {osl:Array (Option Value)} {N ps:List Str} {sp:Sp} (lk:K.lookup f=some ⟨oc,od,.func (PySem.W.fnOf name qual params body scope dV kV doc pm an cdv ct),osl⟩) (hcd:PySem.W.codeIn K cdv qual=true) (S:u9 N ps scope) (len:∀ vs H Q E,sp vs H Q E→vs.length=ps.length) (hbody:∀ (A:Around) (outer:List Env) (s:Shared) (H:Hp) (vs:List V) (Q:VK) (E:XK),yO k (A.deeper (envOfC qual scope s.heap.objs.size f cdv))→sp vs H Q E →
   ∃ t,y8 (kh CX P w K mg base N qual scope f cdv A outer s H E) body t∧t { nx:=fun _ H'=>Q .non H',rt:=Q } (vX N vs) H) :
  zL P w K mg base CX (k+1) f (PySem.W.fnOf name qual params body scope dV kV doc pm an cdv ct) ps sp:=by
 refine⟨len,fun A outer s H args us vs Q E hr e0 hb r hsp=>?_⟩
 have hl:=len _ _ _ _ hsp
 have KX:K.In s.heap:=e0.mod.kin.keeps fun b o e=>(e0.bs b o e).1
 have lim:s.heap.NoLimit:=e0.mod.nolimit.keeps fun b o e=>(e0.bs b o e).1
 have hkind:∀ y∈ps.zip us,scope.names.lookup y.1=some .local∨(scope.names.lookup y.1=some .cell∧((cellsFrom (s.heap.objs.size+1) scope.names []).lookup y.1).isSome=true):=fun⟨n,v⟩ hy=>by
  rcases S.par n (Dv hy).1 with q | q
  ·exact .inl q
  ·exact .inr ⟨q,PySem.W.cellsFrom_some _ _ _ (.inl q)⟩
 refine codeAny_call_function hr.depth (KX _ _ lk) rfl S.co S.gen rfl (PySem.W.codeRec_of KX hcd) (hb _ _ _ _ ?_)
 refine wpAny_newFunctionEnv_cells S.kind hkind fun env he s1 x=>?_
 subst he
 refine⟨lim.keeps x.toInCall.keep,codeAny_func ?_⟩
 obtain⟨t,ht,hq⟩:=hbody A outer s H vs Q E (hr.deeper _) hsp
 have I:zN (kh CX P w K mg base N qual scope f cdv A outer s H E) [] (vX N vs) H s1:=Jt S hr.hd e0 hl r x
 refine wpAny_mono (ht [] s1 (vX N vs) H _ I hq) (fun fl s' hs=>?_) fun e s' hs=>hs
 have fin:∀ {σ':St} {H':Hp} {v:V} {u:Value},zN (kh CX P w K mg base N qual scope f cdv A outer s H E) [] σ' H' s'→qG v u→Q v H'→CE outer P w H s Q u s' :=
  fun {σ' H' v u} J rv q=>⟨v,H',J.os,J.bare,J.base,J.hok,rv,q⟩
 cases fl with
 | ret u =>
  obtain⟨v,σ',H',J,rv,q⟩:=hs
  exact fin J rv q
 | next =>
  obtain⟨σ',H',J,q⟩:=hs
  exact fin (v:=V.non) (u:=Value.none) J rfl q
 | brk =>
  obtain⟨_,_,_,q⟩:=hs
  exact False.elim q
 | cont =>
  obtain⟨_,_,_,q⟩:=hs
  exact False.elim q
section
variable {X:Cx} {x:Str} {p pos:Pos} {e:Expr} {es:List Expr} {t:TA} {id T:String} {r:List V→Hp→VK→Prop}
noncomputable def nK (r:List V→Hp→VK→Prop) (t:TA):TE:=fun σ H Q=>t σ H fun vs H1=>r vs H1 Q
theorem zv (hc:vH X (.builtin id) r) (hg:Gl X x) (hm:X.mg x=none) (hv:bootBuiltins x=some (.builtin id)) (ha:PA X (e::es) t) (hn:x≠"__name__":=by decide) (hdb:(x==("__debug__":Str))=false:=by decide) (he:starEach (e::es) X.env=(false,eval e X.env)::starEach es X.env:=by exact z7 rfl) (hpl:(backTo pos (starEach es X.env)).any (·.1)=false:=by exact yC rfl):PE X (.Call (.Name x p) (e::es) [] pos) (nK r t):=by
 intro pins s σ H Q I h
 refine wpAny_Call_Name_kw (uT I hg hm hv ?_ hn hdb)
 exact PyProof.Rows.callWith_builtin1 (q0 (ha pos pins s σ H _ I h) fun us s1 ⟨vs,H1,I1,r1,q1⟩=>hc pins s1 σ H1 vs us Q I1 r1 q1) he hpl
theorem z8 (hc:vH X (.type T) r) (hg:Gl X x) (hm:X.mg x=none) (hv:bootBuiltins x=some (.type T)) (ha:PA X (e::es) t) (hn:x≠"__name__":=by decide) (hdb:(x==("__debug__":Str))=false:=by decide) (he:starEach (e::es) X.env=(false,eval e X.env)::starEach es X.env:=by exact z7 rfl) (hpl:(backTo pos (starEach es X.env)).any (·.1)=false:=by exact yC rfl):PE X (.Call (.Name x p) (e::es) [] pos) (nK r t):=by
 intro pins s σ H Q I h
 refine wpAny_Call_Name_kw (uT I hg hm hv ?_ hn hdb)
 exact PyProof.Rows.callWith_type1 (q0 (ha pos pins s σ H _ I h) fun us s1 ⟨vs,H1,I1,r1,q1⟩=>hc pins s1 σ H1 vs us Q I1 r1 q1) he hpl
end
end L2
namespace HT
open PySem PyProof.Rows
section
open PySem.SeqAt
open PySem.AutoSeq1 (wpAny_loadPart')
open PySem.MeetsSeq PySem.MeetsSeq2 PySem.MeetsSeq3
end
section
variable {prog:Program} {w:World} {A:Around} {E:Value→Shared→Prop} {s:Shared}
noncomputable def Zo (n d:Nat):Option Int→Nat
 | none=>d
 | some v=>if v<0 then (v+(n:Int)).toNat else min v.toNat n
theorem kg (n d:Nat):Zo n d none=d:=rfl
theorem u7 (n d k:Nat):Zo n d (some (k:Int))=min k n:=by
 show (if (k:Int)<0 then ((k:Int)+(n:Int)).toNat else min (k:Int).toNat n)=min k n
 rw[if_neg (by omega),CD]
theorem NO (n d:Nat) (hd:d≤n) (o:Option Int):Zo n d o≤n:=by
 cases o with
 | none=>exact hd
 | some v =>
  show (if v<0 then (v+(n:Int)).toNat else min v.toNat n)≤n
  by_cases hv:v<0
  ·rw[if_pos hv];omega
  ·rw[if_neg hv];exact Nat.min_le_right _ _
end
end HT
namespace L2
open PySem PySem.Spec PyProof.Rows
abbrev TO:=St→Hp→(Option Int→Hp→Prop)→Prop
noncomputable def PO (X:Cx) (e:Option Expr) (t:TO):Prop :=
 ∀ (pins:List (Addr × Obj)) (s:Shared) (σ:St) (H:Hp) (Q:Option Int→Hp→Prop),zN X pins σ H s→t σ H Q →
  wpAny (model X.prog X.w) X.A (evalPart e X.env) (fun u s'=>∃ o H',zN X pins σ H' s'∧IsPart u o∧Q o H') X.xe s
noncomputable def ku:TO:=fun _ H Q=>Q none H
noncomputable def Qi (t:TE):TO:=fun σ H Q=>t σ H fun x H1=>∃ i,x = .int i∧Q (some i) H1
section
variable {X:Cx} {e:Expr} {te:TE} {lo hi:Option Expr} {tl th:TO} {pos p2:Pos}
theorem qL:PO X none ku:=by
 intro pins s σ H Q I h
 rw[evalPart_none]
 exact wpAny_pure ⟨none,H,I,.none,h⟩
theorem qC (h:PE X e te):PO X (some e) (Qi te):=by
 intro pins s σ H Q I hw
 rw[evalPart_some]
 refine q0 (h pins s σ H _ I hw) fun u s1 ⟨x,H1,I1,r1,q1⟩=>?_
 obtain⟨i,rfl,q⟩:=q1
 obtain⟨t,rfl⟩:=r1
 exact⟨some i,H1,I1,.int i t,q⟩
noncomputable def b6 (X:Cx) (r:V→Option Int→Option Int→Hp→VK→Prop):Prop :=
 ∀ (pins:List (Addr × Obj)) (s:Shared) (σ:St) (H:Hp) (x:V) (v vl vu:Value) (lo hi:Option Int) (sl:Addr) (Q:VK),zN X pins σ H s→qG x v→s.heap.IsSliceOf sl vl vu .none→IsPart vl lo→IsPart vu hi→r x lo hi H Q →
  ∃ T id,typeLookup (.type T) "__getitem__" = pure (some (.builtin id))∧s.TypeIs v T∧wpAny (model X.prog X.w) X.A (getItem v (.ref sl)) (EP X pins σ Q) X.xe s
noncomputable def RP (r:V→Option Int→Option Int→Hp→VK→Prop) (te:TE) (tl th:TO):TE:=fun σ H Q=>te σ H fun x H1=>tl σ H1 fun l H2=>th σ H2 fun u H3=>r x l u H3 Q
theorem qp {r:V→Option Int→Option Int→Hp→VK→Prop} (hr:b6 X r) (he:PE X e te) (hl:PO X lo tl) (hu:PO X hi th):PE X (.Subscript e (.Slice lo hi none p2) pos) (RP r te tl th):=by
 intro pins s σ H Q I h
 refine Subscript_ (q0 (he pins s σ H _ I h) fun v s1 ⟨x,H1,I1,r1,q1⟩=>?_)
 refine wpAny_Slice (q0 (hl pins s1 σ H1 _ I1 q1) fun vl s2 ⟨l,H2,I2,pl,q2⟩=>q0 (hu pins s2 σ H2 _ I2 q2) fun vu s3 ⟨u,H3,I3,pu,q3⟩=>?_)
 rw[evalPart_none]
 refine wpAny_pure ?_
 have I4:zN X pins σ H3 { s3 with heap:=s3.heap.push { cls:=.type "slice",data:=.fields #[vl,vu,.none] } }:=I3.kept (t':=s3.toks) fun b ob q=>Cf _ q
 obtain⟨T,id,hT,ht,hg⟩:=hr pins { s3 with heap:=s3.heap.push { cls:=.type "slice",data:=.fields #[vl,vu,.none] } } σ H3 x v vl vu l u s3.heap.objs.size Q I4 r1 (Heap.IsSliceOf.new ..) pl pu q3
 show wpAny (model X.prog X.w) X.A (subscriptTail e (.Slice lo hi none p2) v (.ref s3.heap.objs.size)) (EP X pins σ Q) X.xe { s3 with heap:=s3.heap.push { cls:=.type "slice",data:=.fields #[vl,vu,.none] } }
 exact tail_any (ops:=[.ref s3.heap.objs.size,v]) ht hT hg (by with_unfolding_all rfl)
noncomputable def yX (xs:List V) (lo hi:Option Int):List V:=(xs.drop (HT.Zo xs.length 0 lo)).take (HT.Zo xs.length xs.length hi - HT.Zo xs.length 0 lo)
theorem uU (xs:List V) (lo hi:Option Int):(yX xs lo hi).length≤xs.length:=by
 unfold yX
 rw[Cz,dX]
 omega
end
noncomputable def nJ (n:Nat) (i:Int):Option Nat:=if 0≤i then (if i<n then some i.toNat else none) else if -(n:Int)≤i then some (i+n).toNat else none
noncomputable def ZI {α:Type} (xs:List α) (i:Int):Option α:=(nJ xs.length i).bind fun j=>xs[j]?
theorem LV {n:Nat} {i:Int} {j:Nat} (h:nJ n i=some j):seqIndex? i n=some j∧j<n∧-(n:Int)≤i∧i<n:=by
 unfold nJ at h
 by_cases h0:0≤i
 ·rw[if_pos h0] at h
  by_cases h1:i<n
  ·rw[if_pos h1] at h
   have e:i.toNat=j:=Option.some.inj h
   exact⟨by rw[seqIndex_of h0 h1,e],by omega,by omega,h1⟩
  ·rw[if_neg h1] at h;cases h
 ·rw[if_neg h0] at h
  by_cases h1:-(n:Int)≤i
  ·rw[if_pos h1] at h
   have e:(i+n).toNat=j:=Option.some.inj h
   exact⟨by rw[seqIndex_neg (by omega) h1,e],by omega,h1,by omega⟩
  ·rw[if_neg h1] at h;cases h
theorem Ve {α:Type} {xs:List α} {i:Int} {v:α} (h:ZI xs i=some v):∃ j,seqIndex? i xs.length=some j∧xs[j]? = some v∧j<xs.length∧-(xs.length:Int)≤i∧i<xs.length:=by
 unfold ZI at h
 cases e:nJ xs.length i with
 | none=>rw[e] at h;cases h
 | some j =>
  rw[e] at h
  obtain⟨h1,h2,h3,h4⟩:=LV e
  exact⟨j,h1,h,h2,h3,h4⟩
theorem qB {α:Type} {xs:List α} {j:Nat} {v:α} (h:xs[j]? = some v):ZI xs (j:Int)=some v:=by
 have hj:j<xs.length:=(Cv.mp h).1
 have e:nJ xs.length (j:Int)=some j:=by
  unfold nJ
  rw[if_pos (by omega),if_pos (by omega)];simp
 unfold ZI;rw[e];exact h
theorem Ws {α:Type} (xs:List α) (v:α):ZI (xs++[v]) (-1)=some v:=by
 have hl:(xs++[v]).length=xs.length+1:=by simp
 have e:nJ (xs++[v]).length (-1)=some xs.length:=by
  unfold nJ
  rw[hl,if_neg (by decide),if_pos (by omega)]
  congr 1
  omega
 unfold ZI
 rw[e]
 show (xs++[v])[xs.length]? = some v
 simp
noncomputable def gS (b:Expr):Prop:=∀ o i,subscripted b false o i=operate [o,i] (getItem o i)
noncomputable def T8 (X:Cx) (r:R2):Prop :=
 ∀ (value slice:Expr) (pins:List (Addr × Obj)) (s:Shared) (σ:St) (H:Hp) (x y:V) (v u:Value) (Q:VK),zN X pins σ H s→qG x v→qG y u→r x y H Q →
  subscripted slice false v u=operate [v,u] (getItem v u)→wpAny (model X.prog X.w) X.A (subscriptTail value slice v u) (EP X pins σ Q) X.xe s
noncomputable def bD (X:Cx) (id:String) (r:V→List V→Hp→VK→Prop):Prop :=
 ∀ (pins:List (Addr × Obj)) (s:Shared) (σ:St) (H:Hp) (x:V) (xs:List V) (v:Value) (us:List Value) (Q:VK),zN X pins σ H s→qG x v→qt xs us→r x xs H Q →
  wpAny (model X.prog X.w) X.A (call (.builtin id) (v::us)) (EP X pins σ Q) X.xe s
section
variable {X:Cx} {a b:Expr} {ta tb:TE} {pos:Pos}
theorem bf {r:R2} (hr:T8 X r) (ha:PE X a ta) (hb:PE X b tb) (hs:gS b):PE X (.Subscript a b pos) (jV r ta tb):=by
 intro pins s σ H Q I h
 exact Subscript_ (rZ ha hb I h fun v u s2 x y H2 I2 rx ry q=>hr a b pins s2 σ H2 x y v u Q I2 rx ry q (hs _ _))
noncomputable def MS (K:BFr):R2:=fun x y H Q=>∃ p xs i v,x = .ref p∧y = .int i∧zY K H p xs∧ZI xs i=some v∧Q v H
noncomputable def Zz (K:BFr):R2:=fun x y H Q=>∃ p xs i v,x = .ref p∧y = .int i∧qw K H p xs∧ZI xs i=some v∧Q v H
noncomputable def Nz:R2:=fun x y H Q=>∃ z i c,x = .str z∧y = .int i∧z.length≤sizeLine∧ZI z.cps.toList i=some c∧Q (.str ⟨#[c]⟩) H
theorem zA:T8 X (MS X.K):=by
 intro value slice pins s σ H x y v u Q I rx ry h hs
 obtain⟨p,xs,i,z,rfl,rfl,hq,he,q⟩:=h
 cases rx
 obtain⟨t,rfl⟩:=ry
 obtain⟨its,r,pl,hz⟩:=I.list hq
 obtain⟨j,h1,h2,h3,h4,h5⟩:=Ve he
 obtain⟨w,ew,rw'⟩:=r.get h2
 have hl:=r.length
 have hn:=ka
 have fin:EP X pins σ Q w s:=⟨z,H,I,rw',q⟩
 by_cases h0:0≤i
 ·have hj:i.toNat=j:=by
   rw[seqIndex_of h0 h5] at h1
   exact Option.some.inj h1
  exact item_listR pl.isList h0 (by omega) (by rw[hj];simpa using ew) fin hs
 ·have hj:(i+(its.toArray.size:Int)).toNat=j:=by
   rw[seqIndex_neg (by omega) h4] at h1
   rw[Cy,← hl]
   exact Option.some.inj h1
  exact subscriptTail_builtinR (x:=w) pl.isList.typeIs slot_list_getitem.lookup
   (wpAny_getItem_list_neg (Q:=fun r s'=>r=w∧EP X pins σ Q r s') pl.isList (by omega) (by rw[Cy] <;> omega) (by omega) (by rw[hj];simpa using ew) ⟨rfl,fin⟩) hs
theorem zT:T8 X (Zz X.K):=by
 intro value slice pins s σ H x y v u Q I rx ry h hs
 obtain⟨p,xs,i,z,rfl,rfl,hq,he,q⟩:=h
 cases rx
 obtain⟨t,rfl⟩:=ry
 obtain⟨its,r,pl,hz⟩:=I.tuple hq
 obtain⟨j,h1,h2,h3,h4,h5⟩:=Ve he
 obtain⟨w,ew,rw'⟩:=r.get h2
 have hl:=r.length
 have hn:=ka
 have fin:EP X pins σ Q w s:=⟨z,H,I,rw',q⟩
 exact subscriptTail_builtinR (x:=w) pl.typeIs slot_tuple_getitem.lookup
  (getItem_tuple (j:=j) (Q:=fun r s'=>r=w∧EP X pins σ Q r s') pl (by omega) (by omega) (by rw[Cy,← hl];exact h1) (by simpa using ew) ⟨rfl,fin⟩) hs
theorem xh:T8 X Nz:=by
 intro value slice pins s σ H x y v u Q I rx ry h hs
 obtain⟨z,i,c,rfl,rfl,hz,he,q⟩:=h
 obtain⟨t,rfl⟩:=rx
 obtain⟨t',rfl⟩:=ry
 obtain⟨j,h1,h2,h3,h4,h5⟩:=Ve he
 have hl:z.cps.toList.length=z.length:=by simp[Str.length]
 rw[hl] at h1 h4 h5
 have hn:=ka
 exact tail_any (typeIs_str s z t) slot_str_getitem.lookup (getItem_str (c:=c) (by
  have e1:decide (i < -(2 ^ 63:Int))=false:=decide_eq_false (by omega)
  have e2:decide (i ≥ 2 ^ 63)=false:=decide_eq_false (by omega)
  rw[e1,e2,Bool.or_false]) (by rw[h1];simpa using h2) ⟨.str ⟨#[c]⟩,H,I.tok _,⟨_,rfl⟩,q⟩) hs
theorem Vi (lo hi:Option Int) (n:Nat):(sliceBounds lo hi none n).1=((HT.Zo n 0 lo:Nat):Int)∧(sliceBounds lo hi none n).2.1=((HT.Zo n n hi:Nat):Int)∧(sliceBounds lo hi none n).2.2=1:=by
 refine⟨?_,?_,rfl⟩
 ·cases lo with
  | none=>simp[sliceBounds,HT.Zo]
  | some i =>
   simp only[sliceBounds,HT.Zo,Option.getD_none,show (1:Int) > 0 by decide,if_true]
   by_cases h:i<0
   ·simp only[h,if_true] <;> omega
   ·simp only[h,if_false] <;> omega
 ·cases hi with
  | none=>simp[sliceBounds,HT.Zo]
  | some i =>
   simp only[sliceBounds,HT.Zo,Option.getD_none,show (1:Int) > 0 by decide,if_true]
   by_cases h:i<0
   ·simp only[h,if_true] <;> omega
   ·simp only[h,if_false] <;> omega
theorem YV (its:List Value) (lo hi:Option Int):slicePick its.toArray lo hi none=((its.drop (HT.Zo its.length 0 lo)).take (HT.Zo its.length its.length hi - HT.Zo its.length 0 lo)).toArray:=by
 obtain⟨h1,h2,h3⟩:=Vi lo hi its.toArray.size
 unfold slicePick
 rw[h1,h2,h3]
 simp only[sliceRange_one,pick_run,Cy] <;> rfl
noncomputable def RA (K:BFr):V→Option Int→Option Int→Hp→VK→Prop:=fun x lo hi H Q=>∃ a xs,x = .ref a∧zY K H a xs∧∀ p,H p=none→Q (.ref p) (upd H p (.lst (yX xs lo hi)))
theorem yn:b6 X (RA X.K):=by
 intro pins s σ H x v vl vu lo hi sl Q I rx hs pl pu h
 obtain⟨a,xs,rfl,hx,q⟩:=h
 cases rx
 obtain⟨its,r,ht,hz⟩:=I.list hx
 have hlen:=r.length
 refine⟨"list",_,slot_list_getitem.lookup,ht.isList.typeIs,?_⟩
 refine wpAny_getItem_list_slice ht.isList hs pl pu .none (by simp) ?_ (by rw[Cy] <;> omega)
 rw[YV,← hlen]
 refine⟨.ref s.heap.objs.size,_,I.laid (t':=s.toks) (o:=.lst (yX xs lo hi)) (fun b ob q=>Cf _ q) (cP _) ?_,rfl,q _ (I.hok.fresh (cP _))⟩
 exact⟨cZ (uU xs lo hi) hz,_,0,(r.drop (HT.Zo xs.length 0 lo)).take (HT.Zo xs.length xs.length hi - HT.Zo xs.length 0 lo),Cq _ rfl⟩
noncomputable def j0:V→Bool
 | .non=>true
 | .bl _=>true
 | .int _=>true
 | .str _=>true
 | _=>false
noncomputable def GO:V→V→Bool
 | .non,.non=>true
 | .bl a,.bl b=>a==b
 | .bl a,.int b=>(if a then 1 else 0)==b
 | .int a,.bl b=>a==(if b then 1 else 0)
 | .int a,.int b=>a==b
 | .str a,.str b=>a==b
 | _,_=>false
theorem Po {A:Around} {s:Shared} {y x:V} {u v:Value} (ry:qG y u) (rx:qG x v) (fy:j0 y=true) (fx:j0 x=true):SeqAt.EqAt A s u v (GO y x):=by
 cases y with
 | non =>
  cases ry
  cases x with
  | non=>cases rx;exact SeqAt.EqAt.same _
  | bl b=>cases rx;exact SeqAt.EqAt.none_bool b
  | int b=>obtain⟨t,rfl⟩:=rx;exact SeqAt.EqAt.none_int b t
  | str b=>obtain⟨t,rfl⟩:=rx;exact SeqAt.EqAt.none_str b t
  | _=>exact absurd (show false=true from fx) Cm
 | bl a =>
  cases ry
  cases x with
  | non=>cases rx;exact SeqAt.EqAt.bool_none a
  | bl b=>cases rx;exact SeqAt.EqAt.bool_bool a b
  | int b=>obtain⟨t,rfl⟩:=rx;exact SeqAt.EqAt.bool_int a b t
  | str b=>obtain⟨t,rfl⟩:=rx;exact SeqAt.EqAt.bool_str a b t
  | _=>exact absurd (show false=true from fx) Cm
 | int a =>
  obtain⟨t',rfl⟩:=ry
  cases x with
  | non=>cases rx;exact SeqAt.EqAt.int_none a t'
  | bl b=>cases rx;exact SeqAt.EqAt.int_bool a t' b
  | int b=>obtain⟨t,rfl⟩:=rx;exact SeqAt.EqAt.int_int a t' b t
  | str b=>obtain⟨t,rfl⟩:=rx;exact SeqAt.EqAt.int_str a t' b t
  | _=>exact absurd (show false=true from fx) Cm
 | str a =>
  obtain⟨t',rfl⟩:=ry
  cases x with
  | non=>cases rx;exact SeqAt.EqAt.str_none a t'
  | bl b=>cases rx;exact SeqAt.EqAt.str_bool a t' b
  | int b=>obtain⟨t,rfl⟩:=rx;exact SeqAt.EqAt.str_int a t' b t
  | str b=>obtain⟨t,rfl⟩:=rx;exact SeqAt.EqAt.str_str a t' b t
  | _=>exact absurd (show false=true from fx) Cm
 | _=>exact absurd (show false=true from fy) Cm
noncomputable def xg (x:V) (u:Value):Bool:=match u with
 | .none=>GO .non x
 | .bool b=>GO (.bl b) x
 | .int i _=>GO (.int i) x
 | .str z _=>GO (.str z) x
 | _=>false
theorem Px {x y:V} {u:Value} (r:qG y u) (f:j0 y=true):xg x u=GO y x:=by
 cases y with
 | non=>cases r;rfl
 | bl b=>cases r;rfl
 | int i=>obtain⟨t,rfl⟩:=r;rfl
 | str z=>obtain⟨t,rfl⟩:=r;rfl
 | _=>exact absurd (show false=true from f) Cm
theorem kl {x:V}:∀ {xs:List V} {us:List Value},qt xs us→xs.all j0=true→us.any (xg x)=xs.any fun y=>GO y x
 | _,_,.nil,_=>rfl
 | y::xs,u::us,.cons r t,f=>by
  rw[dM,cQ] at f
  rw[dY,dY,Px r f.1,kl t f.2]
theorem uX {A:Around} {s:Shared} {x:V} {v:Value} (rx:qG x v) (fx:j0 x=true):∀ {xs:List V} {us:List Value},qt xs us→xs.all j0=true→∀ u∈us,SeqAt.EqAt A s u v (xg x u)
 | _,_,.nil,_=>fun u hu=>by cases hu
 | y::xs,u::us,.cons r t,f=>fun u' hu=>by
  rw[dM,cQ] at f
  rcases cU.mp hu with rfl | hu
  ·rw[Px r f.1];exact Po r rx f.1 fx
  ·exact uX rx fx t f.2 u' hu
noncomputable def MI (x:V) (xs:List V):Bool:=xs.any fun y=>GO y x
noncomputable def BE (K:BFr) (neg:Bool):R2:=fun x y H Q=>∃ p xs,y = .ref p∧(zY K H p xs∨qw K H p xs)∧j0 x=true∧xs.all j0=true∧Q (.bl (if neg then !MI x xs else MI x xs)) H
theorem v8:wF X (compareOp .In) (BE X.K false):=by
 intro pins s σ H x y v u Q I rx ry h
 obtain⟨p,xs,rfl,hq,fx,fs,q⟩:=h
 cases ry
 rcases hq with hq | hq
 ·obtain⟨its,r,pl,hz⟩:=I.list hq
  refine SeqAt.in_listAt (xg x) pl.isList (fun w hw=>uX rx fx r fs w (by simpa using hw)) ⟨.bl _,H,I,rfl,?_⟩
  rw[show its.toArray.any (xg x)=its.any (xg x) by simp,kl r fs]
  exact q
 ·obtain⟨its,r,pl,hz⟩:=I.tuple hq
  refine SeqAt.in_tupleAt (xg x) pl (fun w hw=>uX rx fx r fs w (by simpa using hw)) ⟨.bl _,H,I,rfl,?_⟩
  rw[show its.toArray.any (xg x)=its.any (xg x) by simp,kl r fs]
  exact q
theorem uz:wF X (compareOp .NotIn) (BE X.K true):=by
 intro pins s σ H x y v u Q I rx ry h
 obtain⟨p,xs,rfl,hq,fx,fs,q⟩:=h
 cases ry
 rcases hq with hq | hq
 ·obtain⟨its,r,pl,hz⟩:=I.list hq
  refine SeqAt.notIn_listAt (xg x) pl.isList (fun w hw=>uX rx fx r fs w (by simpa using hw)) ⟨.bl _,H,I,rfl,?_⟩
  rw[show its.toArray.any (xg x)=its.any (xg x) by simp,kl r fs]
  exact q
 ·obtain⟨its,r,pl,hz⟩:=I.tuple hq
  refine SeqAt.notIn_tupleAt (xg x) pl (fun w hw=>uX rx fx r fs w (by simpa using hw)) ⟨.bl _,H,I,rfl,?_⟩
  rw[show its.toArray.any (xg x)=its.any (xg x) by simp,kl r fs]
  exact q
theorem zO:vH X (.builtin "len") (fun xs H Q=>∃ p ys,xs=[.ref p]∧(zY X.K H p ys∨qw X.K H p ys)∧Q (.int ys.length) H):=by
 intro pins s σ H xs us Q I r h
 obtain⟨p,ys,rfl,hq,q⟩:=h
 obtain⟨u,rfl,rx⟩:=wQ r
 cases rx
 have hn:=ka
 rcases hq with hq | hq
 ·obtain⟨its,r',pl,hz⟩:=I.list hq
  have hlen:=r'.length
  exact Calls.call_len_list pl.isList (by simp only[Cy] <;> omega) ⟨.int ys.length,H,I.tok _,⟨s.toks+1,by rw[Cy,hlen]⟩,q⟩
 ·obtain⟨its,r',pl,hz⟩:=I.tuple hq
  have hlen:=r'.length
  exact len_tuple pl (by simp only[Cy] <;> omega) ⟨.int ys.length,H,I.tok _,⟨s.toks+1,by rw[Cy,hlen]⟩,q⟩
theorem qU:vH X (.builtin "len") (fun xs H Q=>∃ z,xs=[.str z]∧z.length≤sizeLine∧Q (.int z.length) H):=by
 intro pins s σ H xs us Q I r h
 obtain⟨z,rfl,hz,q⟩:=h
 obtain⟨u,rfl,t,rfl⟩:=wQ r
 have hn:=ka
 exact len_str (by omega) ⟨.int z.length,H,I.tok _,⟨_,rfl⟩,q⟩
theorem y9:vH X (.type "tuple") (fun xs H Q=>∃ p ys,xs=[.ref p]∧((zY X.K H p ys∧∀ l,H l=none→Q (.ref l) (upd H l (.tup ys)))∨(qw X.K H p ys∧Q (.ref p) H))):=by
 intro pins s σ H xs us Q I r h
 obtain⟨p,ys,rfl,h⟩:=h
 obtain⟨u,rfl,rx⟩:=wQ r
 cases rx
 rcases h with ⟨hq,q⟩ | ⟨hq,q⟩
 ·obtain⟨its,r',pl,hz⟩:=I.list hq
  have hlen:=r'.length
  refine call_tuple_list pl.isList (fun h' kp=>?_) (by simp only[Cy] <;> omega)
  have I1:zN X pins σ H { s with heap:=h' }:=I.kept (t':=s.toks) kp
  have I2:zN X pins σ (upd H h'.objs.size (.tup ys)) { s with heap:=h'.push { cls:=.type "tuple",data:=.seq its.toArray } } :=
   I1.laid (t':=s.toks) (fun b o e=>Cf _ e) (cP _) (show yi X.prog X.w _ _ _ (.tup ys) from ⟨hz,its,r',IsTup.new _ _⟩)
  exact⟨.ref h'.objs.size,_,I2,rfl,q _ (I1.hok.fresh (cP _))⟩
 ·obtain⟨its,r',pl,hz⟩:=I.tuple hq
  exact call_tuple_same pl ⟨.ref p,H,I,rfl,q⟩
noncomputable def B7 (K:BFr) (T:String) (x:V) (H:Hp):Prop:=match x with
 | .str _=>T = "str"
 | .int _=>T = "int"
 | .ref p=>(T = "list"∧∃ xs,zY K H p xs)∨(T = "tuple"∧∃ o,K.lookup p=some o∧o.cls = .type "tuple"∧o.dict=none) ∨
   (T = "dict"∧((∃ kvs,H p=some (.dK kvs))∨∃ kvs,H p=some (.dT kvs)))∨(T = "set"∧∃ S n,H p=some (.set S n))
 | _=>False
theorem NJ {pins:List (Addr × Obj)} {σ:St} {H:Hp} {s:Shared} {T:String} {x:V} {v:Value} (I:zN X pins σ H s) (r:qG x v) (ty:B7 X.K T x H) :
  s.TypeIs v T∧∀ a,v = .ref a→∃ ob,s.heap.get? a=some ob∧ob.dict=none:=by
 cases x with
 | str z =>
  obtain⟨t,rfl⟩:=r
  cases (show T = "str" from ty)
  exact⟨typeIs_str s z t,fun _ e=>nomatch e⟩
 | int i =>
  obtain⟨t,rfl⟩:=r
  cases (show T = "int" from ty)
  exact⟨typeIs_int s i t,fun _ e=>nomatch e⟩
 | ref p =>
  cases r
  rcases ty with ⟨rfl,xs,hq⟩ | ⟨rfl,o,hk,hc,hd⟩ | ⟨rfl,hk⟩ | ⟨rfl,S,n,hk⟩
  ·obtain⟨its,_,pl,_⟩:=I.list hq
   refine⟨pl.isList.typeIs,fun a e=>?_⟩
   cases e
   obtain⟨o,n,e,c,hd,_⟩:=pl
   exact⟨o,e,hd⟩
  ·refine⟨⟨o,I.kIn p o hk,hc⟩,fun a e=>?_⟩
   cases e
   exact⟨o,I.kIn _ o hk,hd⟩
  ·have z:∃ o,s.heap.get? p=some o∧o.ExactDict:=by
    rcases hk with ⟨kvs,hk⟩ | ⟨kvs,hk⟩
    ·obtain⟨_,_,_,_,o,_,_,e,ex,_⟩:=I.hok p _ hk
     exact⟨o,e,ex⟩
    ·obtain⟨_,_,_,_,o,_,_,e,ex,_⟩:=I.hok p _ hk
     exact⟨o,e,ex⟩
   obtain⟨o,e,ex⟩:=z
   refine⟨⟨o,e,ex.1⟩,fun a e2=>?_⟩
   cases e2
   exact⟨o,e,ex.2.1⟩
  ·obtain⟨o,_,_,_,e,ex,_⟩:=I.hok p _ hk
   refine⟨⟨o,e,ex.1⟩,fun a e2=>?_⟩
   cases e2
   exact⟨o,e,ex.2.1⟩
 | _=>exact False.elim ty
noncomputable def cn (K:BFr) (T:String) (r:V→List V→Hp→VK→Prop) (to:TE) (t:TA):TE:=fun σ H Q=>to σ H fun x H1=>B7 K T x H1∧t σ H1 fun xs H2=>r x xs H2 Q
variable {o e:Expr} {es:List Expr} {to:TE} {t:TA} {name:Str} {apos cpos:Pos} {T id:String} {r:V→List V→Hp→VK→Prop}
theorem qY (pa:PlainAttrs T) (slot:Slot T name id) (hty:typeOf (.builtin id)=pure (.type "method_descriptor")) (hm:bD X id r) (ho:PE X o to) (ha:PA X (e::es) t) (hbase:attributeBase o name X.env (eval o X.env)=eval o X.env:=by rfl) (hfew:((backTo cpos (starEach (e::es) X.env)).all (fun x=>!x.1)&&(backToKw cpos (keywordEach [] X.env)).all (fun x=>x.1.isSome)
   && decide ((e::es).length+([]:List Keyword).length+(if ([]:List Keyword).isEmpty then 0 else 1)<30))=true:=by rfl) (hline:(apos.endLine==cpos.line)=true:=by rfl) (hs:starEach (e::es) X.env=(false,eval e X.env)::starEach es X.env:=by exact z7 rfl) (hplain:(backTo cpos (starEach es X.env)).any (·.1)=false:=by rfl) :
  PE X (.Call (.Attribute o name apos) (e::es) [] cpos) (cn X.K T r to t):=by
 intro pins s σ H Q I h
 refine wpAny_Call_method_late hbase hfew hline rfl (q0 (ho pins s σ H _ I h) fun v s1 ⟨x,H1,I1,r1,ty,q1⟩=>?_)
 obtain⟨h1,h2⟩:=NJ I1 r1 ty
 refine⟨T,id,pa,slot,hty,h1,h2,?_⟩
 have hA:=ha cpos pins s1 σ H1 _ I1 q1
 rw[hs] at hA ⊢
 refine Calls.callWith_builtin (by show (false || (backTo cpos (starEach es X.env)).any (·.1))=false;rw[hplain] <;> rfl) (Calls.evalArgs_plain ?_)
 exact q0 hA fun us s2 ⟨vs,H2,I2,r2,q2⟩=>hm pins s2 σ H2 x vs v us Q I2 r1 r2 q2
end
noncomputable def Bd (X:Cx) (id:String) (r:V→List V→Hp→VK→Prop):Prop :=
 ∀ (pins:List (Addr × Obj)) (s:Shared) (σ:St) (H:Hp) (x:V) (xs:List V) (v:Value) (us:List Value) (Q:VK),zN X pins σ H s→qG x v→qt xs us→r x xs H Q →
  wpAny (model X.prog X.w) X.A (call (.builtin id) (v::us)) (EP X pins σ Q) X.xe s
theorem qt.one:∀ {x:V} {us:List Value},qt [x] us→∃ u,us=[u]∧qG x u
 | _,_,.cons r .nil=>⟨_,rfl,r⟩
theorem qt.dropLast {xs:List V} {us:List Value} (h:qt xs us):qt xs.dropLast us.dropLast:=by
 induction h with
 | nil=>exact .nil
 | cons r t ih =>
  cases t with
  | nil=>exact .nil
  | cons q t'=>exact .cons r ih
theorem Rr {α:Type} (l:List α):l.eraseIdx (l.length - 1)=l.dropLast:=by
 induction l with
 | nil=>rfl
 | cons a r ih =>
  cases r with
  | nil=>rfl
  | cons b r =>
   have e:(a::b::r).length - 1=((b::r).length - 1)+1:=by
    have h1:(a::b::r).length=r.length+2:=rfl
    have h2:(b::r).length=r.length+1:=rfl
    omega
   rw[e,List.eraseIdx_cons_succ,ih]
   all_goals rfl
section
variable {X:Cx} {pins:List (Addr × Obj)} {σ:St} {H:Hp} {s:Shared} {l b:Addr} {xs ys zs:List V}
theorem zN.lset {its its':List Value} {n:Nat} {f:Array Value→Array Value} {t':Nat} (I:zN X pins σ H s) (hH:H l=some (.lst xs)) (e:s.heap.get? l=some { cls:=.type "list",data:=.seq its.toArray n }) (hf:f its.toArray=its'.toArray) (hv:qt ys its') (hz:ys.length≤sizeLine) :
  zN X pins σ (upd H l (.lst ys)) { s with heap:=s.heap.update l (Obj.mapSeq f),toks:=t' }:=by
 have q:=PySem.IsL.update e f
 rw[hf] at q
 refine I.write (x:=l) (e:=l) (by rw[hH];exact trivial) (.inl rfl) (fun b' u hb hu=>(CO s.heap (Obj.mapSeq f) (Ne.symm hb)).trans hu) ⟨_,q⟩ ?_
 exact⟨hz,its',_,hv,q⟩
theorem zN.lnew {its:List Value} {t':Nat} (I:zN X pins σ H s) (hv:qt ys its) (hz:ys.length≤sizeLine) :
  zN X pins σ (upd H s.heap.objs.size (.lst ys)) { s with heap:=s.heap.push { cls:=.type "list",data:=.seq its.toArray },toks:=t' } :=
 I.laid (fun _ _ q=>Cf _ q) (cP _) ⟨hz,its,0,hv,Cq _ rfl⟩
theorem zN.fresh (I:zN X pins σ H s):H s.heap.objs.size=none:=I.hok.fresh (cP _)
theorem zN.lstM (I:zN X pins σ H s) (hH:H l=some (.lst xs)):xs.length≤sizeLine∧∃ (its:List Value) (n:Nat),qt xs its∧xs.length=its.length∧s.heap.get? l=some { cls:=.type "list",data:=.seq its.toArray n }:=by
 obtain⟨z,its,n,r,e⟩:=I.hok l _ hH
 exact⟨z,its,n,r,r.length,e⟩
theorem t9 {n:Nat} (h:n≤sizeLine):Builtin.List.listTooLong n=false:=by
 unfold Builtin.List.listTooLong
 exact decide_eq_false (by omega)
end
section
variable {X:Cx}
noncomputable def LB:V→List V→Hp→VK→Prop:=fun x vs H Q=>∃ l xs y,x = .ref l∧vs=[y]∧H l=some (.lst xs)∧xs.length<sizeLine∧Q .non (upd H l (.lst (xs++[y])))
theorem jm:Bd X "list.append" LB:=by
 intro pins s σ H x vs v us Q I rx rv h
 obtain⟨l,xs,y,rfl,rfl,hH,hz,q⟩:=h
 cases rx
 obtain⟨u,rfl,ru⟩:=rv.one
 obtain⟨z,its,n,r,hl,e⟩:=I.lstM hH
 refine call_meets F.slot_list_append ⟨_,e,rfl⟩ F.entry_list_append (F.args_list_append_2 _ _) (PySem.list_append l its.toArray n u (by rw[Cy];omega)) ⟨e,?_⟩
 refine⟨.non,_,I.lset (its':=its++[u]) hH e (by simp) (r.append (.cons ru .nil)) ?_,rfl,q⟩
 rw[Cb,CU]
 omega
noncomputable def bJ:R2:=fun x y H Q=>∃ l b xs zs,x = .ref l∧y = .ref b∧H l=some (.lst xs)∧H b=some (.lst zs)∧xs.length+zs.length≤sizeLine∧∀ p,H p=none→Q (.ref p) (upd H p (.lst (xs++zs)))
theorem NU:wF X (binaryOp .Add) bJ:=by
 intro pins s σ H x y v u Q I rx ry h
 obtain⟨l,b,xs,zs,rfl,rfl,hH,hB,hz,q⟩:=h
 cases rx
 cases ry
 obtain⟨z,its,n,r,hl,e⟩:=I.lstM hH
 obtain⟨z2,its2,n2,r2,hl2,e2⟩:=I.lstM hB
 refine PySem.P.add_list e e2 ?_ (by rw[Cy,Cy];omega)
 have ea:its.toArray++its2.toArray=(its++its2).toArray:=by simp
 rw[ea]
 exact⟨.ref _,_,I.lnew (t':=s.toks) (r.append r2) (by rw[Cb];omega),rfl,q _ I.fresh⟩
theorem LJ {α:Type} (xs:List α) (k:Nat):(List.replicate k xs).flatten.length=k*xs.length:=by
 induction k with
 | zero=>simp
 | succ k ih=>rw[DQ,Dw,Cb,ih,Nat.succ_mul,Nat.add_comm]
end
section
variable {prog:Program} {w:World} {A:Around} {E:Value→Shared→Prop} {s:Shared}
end
section
variable {X:Cx}
end
end L2
namespace Att
open PySem PySem.W PySem.Calls PyProof.Rows
theorem ZW {P:Params} {h:Heap}:∀ (ns:List Int) (vs:List Value),WellAll P h vs (ns.map WData.int)→IntsAre vs ns:=by
 intro ns
 induction ns with
 | nil =>
  intro vs w
  rw[dJ] at w
  cases w
  exact .nil
 | cons n ns ih =>
  intro vs w
  rw[CF] at w
  cases w with
  | cons a b =>
   cases a
   exact .cons _ _ (ih _ b)
theorem G4 {l:OpenLaw} {n:Nat} (hn:l.most=some n) {P:Params} {h:Heap} {args:List WData} {vals:List Value}
  (hpre:l.row.toRowW.claim.pre args=true) (hwl:WellAll P h vals args) :
  ∃ a vs ns,vals=[Value.ref a]∧args=[WData.list (ns.map WData.int)]∧h.get? a=some { cls:=.type "list",data:=.seq vs.toArray }∧IntsAre vs ns∧ns.length≤n:=by
 have hsh:WShape.hasAll [] args [.list .int]=true:=(pre_splitW hpre).1
 have hc:l.pre.holds [] { args:=args } = true:=(pre_splitW hpre).2
 obtain⟨d,r,rfl,h1,h2⟩:=hasAllW_cons hsh
 obtain rfl:=hasAllW_nil h2
 obtain⟨xs,rfl,h3⟩:=hasW_list h1
 obtain⟨ns,rfl⟩:=items_int h3
 have hlen:ns.length≤n:=by
  unfold OpenLaw.pre at hc
  have h4:(WTm.not (.lt (.lit (.int (n:Int))) (.len (.arg 0)))).holds [] { args:=[.list (ns.map .int)] } = true:=by
   have h4:=(holds_andW hc).1
   rw[hn] at h4
   exact h4
  have h5:=condW_of h4 (w_not (w_lt w_lit (w_len_list (w_arg rfl))))
  rw[cN] at h5
  refine dc fun q=>?_
  have q':(n:Int)<((ns.length:Nat):Int):=by omega
  first
   | (rw[decide_eq_true q'] at h5;exact absurd h5 (by decide))
   | (simp at h5;omega)
 cases hwl with
 | cons w1 w2 =>
  cases w2
  cases w1 with
  | list ho hall=>exact⟨_,_,ns,rfl,rfl,ho,ZW ns _ hall,hlen⟩
theorem GC (l:OpenLaw) (args:List WData):l.row.toRowW.claim.post args (.bool true) args=true :=
 postW_of (r:=l.row.toRowW) (X:=(true==true))
  (show WShape.has [] (.bool true) .bool=true by first | rfl | decide | simp[WShape.has,WShape.arms,WShape.armsAll])
  (show (WTm.eq .res (.lit (.bool true))).value [] { args:=args,res:=some (.bool true),after:=args } = some (.bool (true==true)) from w_eq_bool (w_res rfl) w_lit) rfl
theorem Wv {l:OpenLaw} {n:Nat} {q:Program} {loose:List Str} {XP:(Str→Option Value)→Heap→Prop} {YP:World→Heap→Prop} {d:DefRec}
  (hn:l.most=some n) (hdf:d.params.defaults=[]) (call:∀ (w:World) (s₀ s₁:Shared) (mg mb:Str→Option Value) (fa:Addr) (o:Obj) (pm cd doc:Value) (a:Addr) (vs:List Value) (ns:List Int),
   Ground q loose [] XP w s₀ mg mb s₁.heap→YP w s₁.heap →
   s₁.heap.get? fa=some o→o.data = .func (docDef d.name d.params d.body d.scope pm cd doc)→s₁.heap.CodeRec cd d.name→mg d.name=some (.ref fa) →
   s₁.heap.get? a=some { cls:=.type "list",data:=.seq vs.toArray }→IntsAre vs ns→ns.length≤n→s₁.gens = #[] →
   codeAny (model l.prog w) callerA (.call (.ref fa) ⟨[.ref a],[]⟩) (fun r s'=>r = .ok (.ret (.bool true))∧OldK s₁.heap s'.heap∧s'.os=s₁.os∧AllBare s'.gens) s₁) :
  WalkO q loose XP YP l.row.toRowW d [] (fun f vs=>PySem.call f vs):=by
 intro w s₀ s₁ mg mb G Y fa o pm cd doc dV kV ho hd hcd hD hmg hg args vals as hpre hlay hrd hwl hlo
 obtain rfl:dV = .none:=Dflts.none hD hdf
 obtain rfl:kV = .none:=Dflts.noKw hD
 obtain⟨a,vs,ns,rfl,rfl,hobj,hints,hlen⟩:=G4 hn hpre hwl
 refine enter_call (codeAny_mono (call w s₀ s₁ mg mb fa o pm cd doc a vs ns G Y ho (fd_plain hd) hcd hmg hobj hints hlen hg) fun r s' hq=>?_)
 obtain⟨rfl,h2,h3,h4⟩:=hq
 exact⟨.inl ⟨.bool true,.bool true,[],rfl,fun _=>rfl,.bool true,GC l _,fun _=>⟨List.Pairwise.nil,fun _ hm=>(nomatch hm)⟩⟩,h2,h3,h4⟩
section
variable {prog:Program} {w:World} {A:Around} {E:Value→Shared→Prop} {s:Shared} {K:Frag}
end
end Att
namespace L2
open PySem PySem.Spec PyProof.Rows
theorem JL:∀ {vs:List Value} {ns:List Int},IntsAre vs ns→qt (ns.map V.int) vs
 | _,_,.nil=>.nil
 | _,_,.cons n t h=>.cons ⟨t,rfl⟩ (JL h)
noncomputable def Nu (H:Hp):Prop:=∀ b,H b=none∨∃ o xs,H b=some (.frz o (.lst xs))
theorem lA {P:Program} {w:World} {K:BFr} {mg mb:Str→Option Value} {CX:ki} {k:Nat} {fa a:Addr} {fd:FuncData} {x:Str} {sp:Sp} {s₁:Shared} {vs:List Value} {ns:List Int}
  (KX:K.In s₁.heap) (hns:s₁.heap.Ns mainGlobals mg) (hb:s₁.heap.Ns builtinsNs mb) (hbb:∀ x:Str,x≠"__name__"→mb x=bootBuiltins x) (hlim:s₁.heap.NoLimit) (hg:s₁.gens = #[]) (ha:s₁.heap.get? a=some { cls:=.type "list",data:=.seq vs.toArray }) (hi:IntsAre vs ns) (hl:ns.length≤sizeLine) (hr:yO k callerA) (F:∀ base:Heap,K.In base→base.Ns mainGlobals mg→zL P w K mg base CX k fa fd [x] sp) (hbind:∀ (s:Shared) (u:Value),BindsTo s fd ⟨[u],[]⟩ [(x,u)]) (hsp:∀ H:Hp,Nu H→zY K H a (ns.map V.int)→sp [.ref a] H (fun v _=>v = .bl true) fun _ _ _=>False) (hCX:∀ H e s',CX [] H s₁ (fun _ _ _=>False) e s'→False) :
  codeAny (model P w) callerA (.call (.ref fa) ⟨[.ref a],[]⟩) (fun r s'=>r = .ok (.ret (.bool true))∧OldK s₁.heap s'.heap∧s'.os=s₁.os∧AllBare s'.gens) s₁:=by
 have rv:=JL hi
 have lenV:=hi.length
 have core:∀ H:Hp,Nu H→zY K H a (ns.map V.int)→kc P w H s₁.heap→(∀ b,H b≠none→b=a)→(H a≠none→K.lookup a=none) →
   codeAny (model P w) callerA (.call (.ref fa) ⟨[.ref a],[]⟩) (fun r s'=>r = .ok (.ret (.bool true))∧OldK s₁.heap s'.heap∧s'.os=s₁.os∧AllBare s'.gens) s₁:=by
  intro H hO hS hok hA hK
  have base_of:∀ {b:Addr} {o:Obj},s₁.heap.get? b=some o→H b=none→(Vb s₁.heap H).get? b=some o:=fun e n=>pX e n
  have noA:∀ {b:Addr} {o:Obj} {es:Array DictEntry} {ep:Nat},s₁.heap.get? b=some o→o.data = .dict es ep→H b=none:=fun {b o es ep} e d=>by
   cases q:H b with
   | none=>rfl
   | some u =>
    have e':b=a:=hA b (by rw[q];simp)
    subst e'
    rw[ha] at e;cases e
    have d':Data.seq vs.toArray _=Data.dict es ep:=d
    cases d'
  have nsK:∀ {b:Addr} {m:Str→Option Value},s₁.heap.Ns b m→(Vb s₁.heap H).Ns b m:=fun {b m} ⟨o,es,ep,e,d,r⟩=>⟨o,es,ep,base_of e (noA e d),d,r⟩
  have hKb:K.In (Vb s₁.heap H):=fun b o e=>base_of (KX b o e) (by
   cases q:H b with
   | none=>rfl
   | some u =>
    have e':b=a:=hA b (by rw[q];simp)
    subst e'
    rw[hK (by rw[q];simp)] at e;cases e)
  have hM:Mod K mg (Vb s₁.heap H):=⟨hKb,nsK hns,⟨mb,nsK hb,hbb⟩,let ⟨mc,h1,h2⟩:=hlim;⟨mc,nsK h1,h2⟩⟩
  have e0:Ul P w K mg (Vb s₁.heap H) callerA [] s₁ H:=⟨rfl,hM,fun b o e=>Mj e,dW (GP _ _),trivial,fun b hb=>absurd (show b∈([]:List Addr) from hb) (by simp),hok,.of_eq hg⟩
  refine codeAny_mono ((F _ hKb (nsK hns)).run callerA [] s₁ H ⟨[.ref a],[]⟩ [.ref a] [.ref a] _ _ hr e0 (hbind s₁ (.ref a)) (.cons rfl .nil) (hsp H hO hS)) fun r s' h=>?_
  cases r with
  | error e=>exact (hCX H e s' h).elim
  | ok fl =>
   cases fl with
   | next=>exact False.elim h
   | brk=>exact False.elim h
   | cont=>exact False.elim h
   | ret u =>
    obtain⟨v,H',os,bare,un,hok',r',q⟩:=h
    have q':v = .bl true:=q
    subst q'
    obtain rfl:u=Value.bool true:=r'
    refine⟨rfl,OldK.of_keep fun b o e=>?_,os,bare⟩
    cases q:H b with
    | none=>exact un.keep b o e q (by intro z;exact absurd (show b∈([]:List Addr) from z) (by simp)) (by simp)
    | some u =>
     rcases hO b with z | ⟨ob,xs,z⟩
     ·rw[q] at z;cases z
     ·have z2:=un.frzs b ob _ z
      obtain⟨e1,_⟩:=hok b _ z
      obtain⟨e2,_⟩:=hok' b _ z2
      rw[e] at e1;cases e1
      exact e2
 cases hk:K.lookup a with
 | some o =>
  have e:=KX a o hk
  rw[ha] at e
  cases e
  refine core (fun _=>none) (fun _=>.inl rfl) (.inr ⟨_,vs.toArray,_,hk,rfl,rfl,rfl,by rw[Cy,lenV];exact hl,by simpa using rv⟩) (fun b u z=>by have z':(none:Option HO)=some u:=z;cases z') (fun b z=>absurd rfl z) fun z=>absurd rfl z
 | none =>
  refine core (fun b=>if b=a then some (.frz { cls:=.type "list",data:=.seq vs.toArray } (.lst (ns.map V.int))) else none) (fun b=>?_) (.inl (.inr ⟨{ cls:=.type "list",data:=.seq vs.toArray },if_pos rfl⟩)) (fun b u z=>?_) (fun b z=>?_) fun _=>hk
  ·by_cases hb:b=a
   ·exact .inr ⟨_,_,if_pos hb⟩
   ·exact .inl (if_neg hb)
  ·by_cases hb:b=a
   ·have z':=(if_pos hb).symm.trans z
    cases z'
    subst hb
    exact⟨ha,by rw[cN];exact hl,vs,_,rv,ha⟩
   ·have z':=(if_neg hb).symm.trans z
    cases z'
  ·by_cases hb:b=a
   ·exact hb
   ·exact absurd (if_neg hb) z
theorem MH {l:PySem.W.OpenLaw} {n k:Nat} {q:Program} {loose:List Str} {XP:(Str→Option Value)→Heap→Prop} {YP:World→Heap→Prop} {d:DefRec} {K:Params→BFr} {CX:World→ki} {sp:World→Sp} {x:Str}
  (hn:l.most=some n) (hn2:n≤sizeLine) (hdf:d.params.defaults=[]) (hr:yO k callerA) (hY:∀ (w:World) (h:Heap),YP w h→(K w.params).In h) (F:∀ (w:World) (mg:Str→Option Value) (fa:Addr) (h:Heap),(K w.params).In h→h.Ns mainGlobals mg→mg d.name=some (.ref fa) →
   ∃ fd:FuncData,(∀ (s:Shared) (u:Value),BindsTo s fd ⟨[u],[]⟩ [(x,u)]) ∧
    ∀ base:Heap,(K w.params).In base→base.Ns mainGlobals mg→zL l.prog w (K w.params) mg base (CX w) k fa fd [x] (sp w)) (hsp:∀ (w:World) (H:Hp) (a:Addr) (ns:List Int),ns.length≤n→Nu H→zY (K w.params) H a (ns.map V.int)→sp w [.ref a] H (fun v _=>v = .bl true) fun _ _ _=>False) (hCX:∀ (w:World) (H:Hp) (s:Shared) (e:Value) (s':Shared),CX w [] H s (fun _ _ _=>False) e s'→False) :
  PySem.W.WalkO q loose XP YP l.row.toRowW d [] (fun f vs=>PySem.call f vs):=by
 refine Att.Wv hn hdf fun w s₀ s₁ mg mb fa o pm cd doc a vs ns G Y ho hd hcd hmg hobj hints hlen hg=>?_
 have KX:=hY w _ Y
 obtain⟨fd,hb,hF⟩:=F w mg fa _ KX G.T.g hmg
 exact lA KX G.T.g G.T.b G.T.builtins G.T.nolimit hg hobj hints (cZ hlen hn2) hr hF hb (fun H hO hS=>hsp w H a ns hlen hO hS) fun H e s'=>hCX w H s₁ e s'
abbrev zQ:ki:=fun _ _ _ _ _ _=>False
abbrev E0:XK:=fun _ _ _=>False
theorem zx {X:Cx}:yZ zQ X E0:=fun _ _ _ _ _ _ _ h=>h.elim
structure qM (K:BFr) (x qual:Str) (st:Stmt) (f:Addr) (fd:FuncData):Prop where
 ex:∃ (oc:Value) (od:Option Addr) (kV doc pm:Value) (an:Option Addr) (cdv ct:Value) (osl:Array (Option Value)),
  fd=PySem.W.fnOf x qual (jM st) (yN st) (zW st) .none kV doc pm an cdv ct∧K.lookup f=some ⟨oc,od,.func fd,osl⟩∧PySem.W.codeIn K cdv qual=true
 kp:PySem.W.keepIn K (.ref f)=true
section
variable {P:Program} {w:World} {K:BFr} {mg:Str→Option Value} {base:Heap}
theorem qM.ok {x qual:Str} {st:Stmt} {f:Addr} {fd:FuncData} {N ps:List Str} {k:Nat} {sp:Sp} (F:qM K x qual st f fd) (S:u9 N ps (zW st)) (len:∀ vs H Q E,sp vs H Q E→vs.length=ps.length) (hbody:∀ (cdv:Value) (A:Around) (outer:List Env) (s:Shared) (H:Hp) (vs:List V) (Q:VK) (E:XK),yO k (A.deeper (envOfC qual (zW st) s.heap.objs.size f cdv))→sp vs H Q E →
   ∃ t,y8 (kh zQ P w K mg base N qual (zW st) f cdv A outer s H E).nox (yN st) t∧t { nx:=fun _ H'=>Q .non H',rt:=Q } (vX N vs) H):zL P w K mg base zQ (k+1) f fd ps sp:=by
 obtain⟨oc,od,kV,doc,pm,an,cdv,ct,osl,rfl,lk,hcd⟩:=F.ex
 refine P3 lk hcd S len fun A outer s H vs Q E hr hsp=>?_
 obtain⟨t,h,q⟩:=hbody cdv A outer s H vs Q E hr hsp
 exact⟨t,h.nox,q⟩
theorem qM.binds {x qual:Str} {st:Stmt} {f:Addr} {fd:FuncData} {ps:List Str} (F:qM K x qual st f fd) (h:∀ (kV doc pm:Value) (an:Option Addr) (cdv ct:Value) (us:List Value),us.length=ps.length→bindArgs (PySem.W.fnOf x qual (jM st) (yN st) (zW st) .none kV doc pm an cdv ct) ⟨us,[]⟩=pure (ps.zip us)):vp K fd ps []:=by
 obtain⟨oc,od,kV,doc,pm,an,cdv,ct,osl,rfl,lk,hcd⟩:=F.ex
 exact .all (h kV doc pm an cdv ct)
theorem Rl {x qual:Str} {st:Stmt} {f:Addr} {oc:Value} {od an:Option Addr} {osl:Array (Option Value)} {kV doc pm cdv ct:Value} (l:K.lookup f=some ⟨oc,od,.func (PySem.W.fnOf x qual (jM st) (yN st) (zW st) .none kV doc pm an cdv ct),osl⟩) (c:PySem.W.codeIn K cdv qual=true) (k:PySem.W.keepIn K (.ref f)=true):qM K x qual st f (PySem.W.fnOf x qual (jM st) (yN st) (zW st) .none kV doc pm an cdv ct):=⟨⟨oc,od,kV,doc,pm,an,cdv,ct,osl,rfl,l,c⟩,k⟩
end
section
variable {X:Cx}
theorem pv (i:Nat) {x:Str} {pos:Pos} (hN:X.N[i]? = some x:=by rfl) (hv:b8 X.env.scope x:=by first | exact Or.inl rfl | exact Or.inr (Or.inl rfl) | exact Or.inr (Or.inr rfl)) (hd:(x==("__debug__":Str))=false:=by decide) (hcd:(x==("__classdict__":Str))=false:=by decide):PE X (.Name x pos) (qd i):=rG hN hv hd hcd
end
theorem qN {A B:Prop} (h:B):if false=true then A else B:=by
 rw[if_neg Cm]
 exact h
theorem qZ {A B:Prop} (h:A):if true=true then A else B:=by
 rw[if_pos rfl]
 exact h
theorem qi {c A B:Prop} [Decidable c] (h1:c→A) (h2:¬ c→B):if c then A else B:=by
 by_cases h:c
 ·rw[if_pos h]
  exact h1 h
 ·rw[if_neg h]
  exact h2 h
noncomputable def zu (H H':Hp):Prop:=∀ b o,H b=some o→H' b=some o
theorem zu.refl (H:Hp):zu H H:=fun _ _ h=>h
theorem zu.trans {H H1 H2:Hp} (a:zu H H1) (b:zu H1 H2):zu H H2:=fun c o h=>b c o (a c o h)
theorem zu.free {H H':Hp} (e:zu H H') {l:Addr} (h:H' l=Option.none):H l=Option.none:=by
 cases q:H l with
 | none=>rfl
 | some o =>
  rw[e l o q] at h
  cases h
theorem zu.seq {K:BFr} {H H':Hp} {a:Addr} {xs:List V} (e:zu H H') (h:zY K H a xs):zY K H' a xs:=by
 rcases h with (h | ⟨o,h⟩) | h
 ·exact .inl (.inl (e _ _ h))
 ·exact .inl (.inr ⟨o,e _ _ h⟩)
 ·exact .inr h
end L2
namespace XK
open PySem PySem.W PySem.Spec PySem.Calls PyProof.Rows
section
variable {prog:Program} {w:World} {A:Around} {E:Value→Shared→Prop} {s:Shared} {K:Frag} {x D:Addr} {ox:Obj}
structure vk (K:Frag) (D:Addr):Prop where
 cls:(clsIn K D).isSome=true
 ga:findIn K (.ref D) "__getattribute__" = some (some (.builtin "BaseException.__getattribute__"))
 hook:findIn K (.ref D) "__getattr__" = some none
 ca:findIn K (.ref D) "__class__" = some (some (.builtin "object.__class__"))
 get:specialIn K (.builtin "object.__class__") "__get__" = some (some (.builtin "getset_descriptor.__get__"))
 tk:takesIn K (.builtin "object.__class__")=some true
 ob:mroIn K D (.type "object")=some true
 bx:mroIn K D (.type "BaseException")=some true
theorem Te (c:vk K D):findObj K D none "__class__" = some (.bind (.builtin "getset_descriptor.__get__") (.builtin "object.__class__")):=by
 obtain⟨cd,hc⟩:=dO.mp c.cls
 unfold findObj
 rw[hc,Option.bind_some,c.ca,Option.bind_some]
 simp[c.get,c.tk]
theorem p6 {nameV:Value} {M:Model} {Q:Unit→Shared→Prop} (X:K.In s.heap) (c:vk K D) (I:InstAt s.heap x ox D none) (h:Q () s) :
  wpAny M A (checkBuiltinCall "BaseException.__getattribute__" ⟨[.ref x,nameV],[]⟩) Q E s:=by
 have hk:builtinKind "BaseException.__getattribute__" = some .slot:=by decide +kernel
 have hsplit:splitId "BaseException.__getattribute__" = some ("BaseException","__getattribute__"):=by decide +kernel
 have ha:=F.args_bexc_ga (.ref x) nameV
 have L0:=I.type (M:=M)
 have L1:=looks_mroIn (M:=M) X c.bx
 obtain⟨hh,g,d,t,os⟩:=s
 simp only[checkBuiltinCall,hk,hsplit]
 unfold isInstance
 repeat (first | exact h | refine wpAny_bind (L0.at ?_) | refine wpAny_bind (L1.at ?_) | refine L0.at ?_ | refine L1.at ?_ | wp_step)
theorem Pm {tk:Tok} {Q:Fin→Shared→Prop} (X:K.In s.heap) (c:vk K D) (I:InstAt s.heap x ox D none) (h:Q (.done (.ret (.ref D))) s) :
  wpAny (model prog w) A (Builtin.«object.__getattribute__» ⟨[.ref x,.str "__class__" tk],[]⟩) Q E s:=by
 have L0:=I.type (M:=model prog w)
 have L1:=looks_find (M:=model prog w) X I (Te c)
 obtain⟨hh,g,d,t,os⟩:=s
 unfold Builtin.«object.__getattribute__»
 repeat (first | refine wpAny_bind (L0.at ?_) | refine wpAny_bind (L1.at ?_) | wp_step)
 exact class_get X I c.ob (wpAny_pure h)
theorem Mv {Q:Option Value→Shared→Prop} (X:K.In s.heap) (c:vk K D) (I:InstAt s.heap x ox D none) (h:Q (some (.ref D)) { s with toks:=s.toks+1 }) :
  wpAny (model prog w) A (getAttr? (.ref x) "__class__") Q E s:=by
 have L0:=I.type (M:=model prog w)
 have L1:=looks_findIn (M:=model prog w) X c.ga
 have L2:=looks_findIn (M:=model prog w) X c.hook
 have f3:=PySem.F.attr_ValueError.ga.bind (.ref x)
 have hx2:(Value.builtin "BaseException.__getattribute__" == Value.builtin "object.__getattribute__")=false:=by decide +kernel
 have hx1:(onTheHeap (Value.ref D)&&Value.builtin "BaseException.__getattribute__" == Value.builtin "object.__getattribute__")=false:=by rw[hx2];rfl
 obtain⟨hh,g,d,t,os⟩:=s
 unfold getAttr? getAttrBy? getAttrBy
 refine wpAny_bind (wpAny_mkText (wpAny_bind (wpAny_attempt (wpAny_holding (wpAny_bind (L0.at (wpAny_bind (L1.at ?_))))))))
 dsimp only
 rw[hx1,if_neg Cm]
 unfold getAttrByItsOwn hookBefore
 rw[show onTheHeap (Value.ref D)=true from rfl,if_pos rfl]
 refine wpAny_bind (L2.at ?_)
 refine wpAny_bind (wpAny_attempt (wpAny_holding ?_))
 unfold callGetattribute
 rw[CQ,if_neg Cm]
 unfold boundAndCalled
 rw[f3]
 refine wpAny_bind (wpAny_pure ?_)
 refine wpAny_call (codeAny_call_builtin PySem.F.attr_ValueError.ga.plain F.entry_bexc_ga (p6 (s:=⟨hh,g,d,t+1,os⟩) X c I (Pm (s:=⟨hh,g,d,t+1,os⟩) X c I ?_)))
 repeat (first | exact h | wp_step)
theorem lS (c:vk K D):KitX K (.ref x) (.ref D) (fun h=>InstAt h x ox D none) where
 ty:=fun _ _ _ I=>I.type
 it:=fun M h X _=>by
  obtain⟨cd,hc⟩:=dO.mp c.cls
  unfold clsIn at hc
  split at hc
  ·rename_i ho
   intro A' Q' E' s' k q
   unfold isType loadHead
   exact wpAny_bind (wpAny_loadPart (k _ _ (X _ _ ho)) (wpAny_pure q))
  ·cases hc
 ne:=fun h tp dd its n sl X htp=>by
  obtain⟨cd,hc⟩:=dO.mp c.cls
  refine CY.mpr fun q=>?_
  obtain rfl:D=tp:=Value.ref.inj (beq_iff_eq.mp q)
  unfold clsIn at hc
  split at hc
  ·rename_i ho
   cases (X _ _ ho).symm.trans htp
  ·cases hc
 ca:=fun X I k=>Mv X c I k
end
end XK
namespace L2
open PySem PySem.Spec PyProof.Rows
section
variable {M:Model} {A:Around} {E:Value→Shared→Prop} {s:Shared}
structure m4 (fl:List Addr) (e:Addr) (oe:Obj) (mark:Value) (h h':Heap) (T:Addr):Prop where
 keep:∀ b o,b≠e→b∉fl→h.get? b=some o→h'.get? b=some o
 slot:∀ b o,b≠e→h.get? b=some o→∃ sl,h'.get? b=some { o with slots:=sl }
 new:h.objs.size≤T
 recd:h'.get? e=some (oe.mapFields (·.setIfInBounds 1 (.ref T)))
 head:∃ oT ts,h'.get? T=some oT∧oT.data = .fields ts∧ts[3]? = some mark
theorem lT {base:Heap} {env:Env} {outer:List Env} {L e:Addr} {oe:Obj} {vs:Array Value} {head:Value} {b:Bool} {Q:Unit→Shared→Prop}
  (hfr:A.frames=some (env::outer)) (hl:s.heap.FunFrames base (env::outer)) (hf:env.frame=some L) (he:s.heap.get? e=some oe) (hd:oe.data = .fields vs) (hz:1<vs.size) (k:∀ h' T,m4 ((env::outer).filterMap (·.frame)) e oe (rawInt L) s.heap h' T→Q () { s with heap:=h' }) :
  wpAny M A (do setField (.ref e) 1 (← EntryCells.newEntry head (← frameOf env) .none (rawInt L) .none (← entryPlaceOf L b))) Q E s:=by
 have off:e∉(env::outer).filterMap (·.frame):=fun hm=>by
  obtain⟨_,o,ho,nf⟩:=hl.mem hm
  rw[he] at ho
  cases ho
  exact nf vs hd
 refine wpAny_bind (wpAny_frameOf_fun hfr hl hf fun g so=>?_)
 refine wpAny_bind (wpAny_entryPlaceOf fun pl place=>?_)
 refine wpAny_bind ?_
 unfold EntryCells.newEntry newFields
 refine wpAny_newObj_type ?_ (place.sizeOk5 _ _ _ _ _)
 have g1:g.get? e=some oe:=(so.2.1 e off).trans he
 have g2:=Cf (h:=g) { cls:=.type "traceback",dict:=none,data:=.fields ([head,.ref L,.none,rawInt L,.none]++(if pl.isEmpty then List.replicate 6 Value.none else pl)).toArray } g1
 have ne:g.objs.size≠e:=Dg (cV g1)
 refine wpAny_setField g2 hd hz (k _ g.objs.size ?_)
 have oth:∀ c o,c≠e→g.get? c=some o→((g.push { cls:=.type "traceback",dict:=none,data:=.fields ([head,.ref L,.none,rawInt L,.none]++(if pl.isEmpty then List.replicate 6 Value.none else pl)).toArray }).update e (Obj.mapFields (·.setIfInBounds 1 (Value.ref g.objs.size)))).get? c=some o:=fun c o hc q=>by
  rw[CO _ _ (Ne.symm hc)]
  exact Cf _ q
 refine⟨fun c o hc hm q=>oth c o hc ((so.2.1 c hm).trans q),fun c o hc q=>?_,by rw[so.1];exact cP _,?_,?_⟩
 ·obtain⟨sl,z⟩:=so.2.2 c o q
  exact⟨sl,oth c _ hc z⟩
 ·exact de _ g2 (Obj.isFreed_of_fields (Obj.data_mapFields hd _))
 ·refine⟨_,_,(CO _ _ (Ne.symm ne)).trans (Cq g rfl),rfl,?_⟩
  simp
end
abbrev CT:=Hp→Array Value→Prop
noncomputable def C0:CT:=fun _ vs=>vs[2]? = some .none
noncomputable def kW:CT:=fun H vs=>vs[2]? = some .none∨∃ eb ob ws u,vs[2]? = some (.ref eb)∧H eb=some (.frz ob u)∧ob.data = .fields ws∧ws[2]? = some .none
class YX (C:CT):Prop where
 keep:∀ {H:Hp} {vs:Array Value} {v:Value},C H vs→C H (vs.setIfInBounds 1 v)
 zero:∀ {H:Hp} {vs:Array Value},vs[2]? = some .none→C H vs
 ctx:∀ {H:Hp} {vs:Array Value},C H vs→kW H vs
theorem P4 {vs:Array Value} {v:Value} {n:Value} (h:vs[2]? = some n):(vs.setIfInBounds 1 v)[2]? = some n:=by
 rw[Array.getElem?_setIfInBounds_ne (by decide)]
 exact h
noncomputable instance:YX C0:=⟨P4,id,.inl⟩
noncomputable instance:YX kW:=⟨fun h=>h.imp P4 fun⟨eb,ob,ws,u,f1,f2⟩=>⟨eb,ob,ws,u,P4 f1,f2⟩,.inl,id⟩
noncomputable def wD (C:CT) (X:Cx) (pins:List (Addr × Obj)) (H:Hp) (ea:Addr) (cls fl:Value) (h:Heap):Prop :=
 yv X pins H ea∧∃ oe vs,h.get? ea=some oe∧(oe.cls=cls∧oe.dict=none)∧oe.data = .fields vs∧C H vs ∧
  ((vs[1]? = some .none∧fl = .none)∨∃ T oT ts,vs[1]? = some (.ref T)∧T≠ea∧yv X pins H T∧h.get? T=some oT∧oT.data = .fields ts∧ts[3]? = some fl)
section
variable {X:Cx} {pins:List (Addr × Obj)} {σ:St} {H:Hp} {s:Shared} {ea:Addr} {cls fl:Value} {M:Model} {A:Around} {E:Value→Shared→Prop} {Q:Unit→Shared→Prop} {C:CT} [ct:YX C]
theorem zN.flown (I:zN X pins σ H s) {b:Addr} (f:yv X pins H b) {h':Heap} (k:∀ c o,c≠b→s.heap.get? c=some o→h'.get? c=some o):zN X pins σ H { s with heap:=h' } :=
 I.turned (t':=s.toks) k f.1 f.2.1 f.2.2.2.1 f.2.2.2.2.1 f.2.2.2.2.2
theorem yi.some {P:Program} {w:World} {h:Heap} {a:Addr} {o:HO} (x:yi P w H h a o):∃ u,h.get? a=some u:=by
 cases o with
 | lst xs=>obtain⟨_,_,_,_,e⟩:=x;exact⟨_,e⟩
 | tup xs=>obtain⟨_,_,_,u,e,_⟩:=x;exact⟨_,e⟩
 | dK kvs=>obtain⟨_,_,_,_,u,_,_,e,_⟩:=x;exact⟨u,e⟩
 | dT kvs=>obtain⟨_,_,_,_,u,_,_,e,_⟩:=x;exact⟨u,e⟩
 | set S n=>obtain⟨u,_,_,_,e,_⟩:=x;exact⟨u,e⟩
 | ins C dx fs=>obtain⟨_,_,_,e,_⟩:=x;exact⟨_,e⟩
 | own y=>exact x
 | xd fs=>obtain⟨_,⟨u,_,_,e,_⟩,_⟩:=x;exact⟨u,e⟩
 | rng lo hi=>obtain⟨_,_,_,e⟩:=x;exact⟨_,e⟩
 | frz ob u=>obtain⟨e,_⟩:=x;exact⟨_,e⟩
 | tbl ps=>exact⟨_,x⟩
 | met f y=>exact⟨_,x⟩
 | ext φ=>exact x.2.1
theorem zN.none_of (I:zN X pins σ H s) {b:Addr} (hb:s.heap.get? b=none):H b=none:=by
 cases q:H b with
 | none=>rfl
 | some o =>
  obtain⟨u,e⟩:=(I.hok b o q).some
  rw[hb] at e
  cases e
theorem zN.fpNone {H':Hp} (I:zN X pins σ H s) {b:Addr} (hb:s.heap.get? b=none) (hn:H' b=none):yv X pins H' b:=by
 refine⟨hn,fun z=>?_,fun z=>?_,?_,fun x c e z=>?_,fun p hp z=>?_⟩
 ·obtain⟨m,⟨o,_,_,e,_⟩,_⟩:=I.loc
  rw[← z,hb] at e
  cases e
 ·obtain⟨_,o,e,_⟩:=I.funs.mem z
  rw[hb] at e
  cases e
 ·by_cases hx:b∈X.ex
  ·exact .inl hx
  ·refine .inr ?_
   cases q:X.s₀.heap.get? b with
   | none=>rfl
   | some o =>
    obtain⟨o',e⟩:=I.base.there b o q hx
    rw[hb] at e
    cases e
 ·obtain⟨v,o,e',_⟩:=I.cell x c e
  rw[z,hb] at e'
  cases e'
 ·have e:=(I.pin p hp).1
  rw[z,hb] at e
  cases e
theorem wa (I:zN X pins σ H s) (F:wD C X pins H ea cls fl s.heap) (k:∀ s',zN X pins σ H s'→wD C X pins H ea cls .none s'.heap→Q () s') :
  wpAny M A (setFlight (.ref ea) none) Q E s:=by
 obtain⟨f0,oe,vs,he,hc,hd,h2,hh⟩:=F
 unfold setFlight
 rcases hh with ⟨h1,rfl⟩ | ⟨T,oT,ts,h1,hne,fT,hT,hdT,h3⟩
 ·refine wpAny_bind (wpAny_field he hd h1 ?_)
  rw[if_neg (by decide)]
  exact wpAny_pure (k s I ⟨f0,oe,vs,he,hc,hd,h2,.inl ⟨h1,rfl⟩⟩)
 ·have hz:3<ts.size:=(dq.mp h3).1
  refine wpAny_bind (wpAny_field he hd h1 ?_)
  rw[if_pos (show (Value.ref T != Value.none)=true by simp)]
  have oth:∀ c,c≠T→(s.heap.update T (Obj.mapFields (·.setIfInBounds 3 ((none:Option Addr).elim Value.none fun f=>rawInt f)))).get? c=s.heap.get? c:=fun c hc=>CO _ _ (Ne.symm hc)
  have hT':=de (Obj.mapFields (·.setIfInBounds 3 ((none:Option Addr).elim Value.none fun f=>rawInt f))) hT (Obj.isFreed_of_fields (Obj.data_mapFields hdT _))
  refine wpAny_setField hT hdT hz (k _ (I.flown fT fun c o hc q=>(oth c hc).trans q) ⟨f0,oe,vs,(oth ea (Ne.symm hne)).trans he,hc,hd,h2,.inr ⟨T,_,_,h1,hne,fT,hT',Obj.data_mapFields hdT _,?_⟩⟩)
  simp[hz]
theorem QK (f:Array Value→Array Value) (o:Obj):(Obj.mapFields f o).dict=o.dict:=by
 obtain⟨c,d,dt,sl⟩:=o
 cases dt <;> rfl
theorem JA (I:zN X pins σ H s) (hs:X.stack=X.env::X.outer) (hf:X.env.frame=some X.env.locals) (hfr:A.frames=some X.stack) {oe:Obj} {vs:Array Value} {head:Value} {b:Bool}
  (f0:yv X pins H ea) (he:s.heap.get? ea=some oe) (hc:oe.cls=cls∧oe.dict=none) (hd:oe.data = .fields vs) (h2:C H vs) (hz:1<vs.size) (k:∀ s',zN X pins σ H s'→wD C X pins H ea cls (rawInt X.env.locals) s'.heap→Q () s') :
  wpAny M A (do setField (.ref ea) 1 (← EntryCells.newEntry head (← frameOf X.env) .none (rawInt X.env.locals) .none (← entryPlaceOf X.env.locals b))) Q E s:=by
 have stk:s.heap.FunFrames X.base (X.env::X.outer):=by
  have q:=I.stack
  rw[hs] at q
  exact q
 have fm:∀ b,b∈(X.env::X.outer).filterMap (·.frame)↔b=X.env.locals∨b∈X.fs:=fun b=>by
  rw[De,hf]
  exact cU
 have fre:∀ b∈(X.env::X.outer).filterMap (·.frame),H b=none:=fun b hb=>I.stkFree b (by rw[hs];exact hb)
 refine lT (hfr.trans (congrArg some hs)) stk hf he hd hz fun h' T W=>?_
 have nT:ea≠T:=Cc (CJ (cV he) W.new)
 have I':zN X pins σ H { s with heap:=h' }:=by
  refine I.step (g':=s.gens) (d':=s.drawn) (t':=s.toks) (ch:=[ea]) (fun b hb=>?_) (fun b o hL hb hc q _=>?_) (fun b o _ _ hc q _=>W.slot b o (fun z=>hc (by simp[z])) q) (fun _ _ _ _ n=>n)
   (fun b o hc q=>?_) (fun _ _ q=>q) (fun _ _ _ q=>q) (fun _ ps q=>⟨#[],by rw[q];simp⟩) (fun m hm=>?_) (fun b u q=>?_) I.bare
  ·obtain rfl:b=ea:=by simpa using hb
   exact⟨f0.2.2.2.1,f0.2.1,f0.2.2.2.2.1,f0.2.2.2.2.2⟩
  ·exact W.keep b o (fun z=>hc (by simp[z])) (fun z=>((fm b).mp z).elim hL hb) q
  ·obtain⟨sl,z⟩:=W.slot b o (fun z=>hc (by simp[z])) q
   exact⟨_,z⟩
  ·obtain⟨o,es,ep,ho,r⟩:=hm
   obtain⟨sl,z⟩:=W.slot _ o (Ne.symm f0.2.1) ho
   exact⟨_,es,ep,z,r⟩
  ·refine (I.hok b u q).stay (fun c v hc z=>?_) (fun _ z=>z) fun _ _ z=>z
   have nc:H c≠none:=by
    rcases hc with rfl | hc
    ·rw[q];simp
    ·rw[hc];simp
   exact W.keep c v (fun e=>nc (by rw[e];exact f0.1)) (fun e=>nc (fre c e)) z
 obtain⟨oT,ts,hT,hdT,h3⟩:=W.head
 refine k _ I' ⟨f0,_,_,W.recd,⟨(Obj.cls_mapFields _ _).trans hc.1,(QK _ _).trans hc.2⟩,Obj.data_mapFields hd _,?_,.inr ⟨T,oT,ts,?_,Ne.symm nT,?_,hT,hdT,h3⟩⟩
 ·exact ct.keep h2
 ·simp[hz]
 ·exact I.fpOk W.new (I.hok.fresh W.new)
theorem kO (I:zN X pins σ H s) (F:wD C X pins H ea cls fl s.heap) (hs:X.stack=X.env::X.outer) (hf:X.env.frame=some X.env.locals) (hfr:A.frames=some X.stack) (k:∀ s',zN X pins σ H s'→wD C X pins H ea cls (rawInt X.env.locals) s'.heap→Q () s'):wpAny M A (noteFrame (.ref ea) X.env) Q E s:=by
 obtain⟨f0,oe,vs,he,hc,hd,h2,hh⟩:=F
 unfold noteFrame
 simp only[hf]
 rcases hh with ⟨h1,_⟩ | ⟨T,oT,ts,h1,hne,fT,hT,hdT,h3⟩
 ·refine wpAny_bind (wpAny_field he hd h1 ?_)
  rw[if_neg (by decide)]
  exact JA I hs hf hfr f0 he hc hd h2 (dq.mp h1).1 k
 ·have hz:3<ts.size:=(dq.mp h3).1
  refine wpAny_bind (wpAny_field he hd h1 ?_)
  rw[if_pos (show (Value.ref T != Value.none)=true by simp)]
  refine wpAny_bind (wpAny_field hT hdT h3 ?_)
  by_cases me:(fl==rawInt X.env.locals)=true
  ·rw[if_pos me]
   exact wpAny_pure (k s I ⟨f0,oe,vs,he,hc,hd,h2,.inr ⟨T,oT,ts,h1,hne,fT,hT,hdT,by rw[← eq_of_beq me];exact h3⟩⟩)
  rw[if_neg me]
  have oth:∀ c,c≠T→(s.heap.update T (Obj.mapFields (·.setIfInBounds 3 Value.none))).get? c=s.heap.get? c:=fun c hc=>CO _ _ (Ne.symm hc)
  refine wpAny_bind (wpAny_setField hT hdT hz ?_)
  exact JA (I.flown fT fun c o hc q=>(oth c hc).trans q) hs hf hfr f0 ((oth ea (Ne.symm hne)).trans he) hc hd h2 (dq.mp h1).1 k
end
noncomputable def RQ (C:CT) (P:Program) (w:World):ki:=fun outer H s E e s'=>∃ (ea:Addr) (cls:Value) (H':Hp),e = .ref ea∧s'.os=s.os∧AllBare s'.gens∧Un (GT outer) [] H H' s.heap s'.heap∧kc P w H' s'.heap ∧
 (s.heap.get? ea=none∧H' ea=none∧∃ oe vs,s'.heap.get? ea=some oe∧(oe.cls=cls∧oe.dict=none)∧oe.data = .fields vs∧C H' vs ∧
  ((vs[1]? = some .none)∨∃ T oT ts,vs[1]? = some (.ref T)∧T≠ea∧s.heap.get? T=none∧H' T=none∧s'.heap.get? T=some oT∧oT.data = .fields ts∧ts[3]? = some .none))∧E cls none H'
abbrev j4:=RQ C0
abbrev Ts:=RQ kW
noncomputable def jw (C:CT) (X:Cx) (E:XK):Prop:=∀ (pins:List (Addr × Obj)) (σ:St) (H:Hp) (s:Shared) (ea:Addr) (cls fl:Value),zN X pins σ H s→wD C X pins H ea cls fl s.heap→E cls none H→X.xe (.ref ea) s
theorem vS {C:CT} {P:Program} {w:World} {X:Cx} {E:XK} (hP:X.prog=P) (hw:X.w=w) (t:jw C X E):yZ (RQ C P w) X E:=by
 subst hP hw
 intro pins σ H s e s' I c
 obtain⟨ea,cls,H',rfl,os,bare,un,hok,⟨n0,f0,oe,vs,he,hc,hd,h2,hh⟩,q⟩:=c
 have I':zN X pins σ H' s':=I.call' (ch:=[]) os un hok bare fun b z=>absurd z (by simp)
 refine t pins σ H' s' ea cls .none I' ⟨I.fpNone n0 f0,oe,vs,he,hc,hd,h2,?_⟩ q
 rcases hh with h1 | ⟨T,oT,ts,h1,ne,nT,fT,hT,hdT,h3⟩
 ·exact .inl ⟨h1,rfl⟩
 ·exact .inr ⟨T,oT,ts,h1,ne,I.fpNone nT fT,hT,hdT,h3⟩
theorem qQ {C:CT} [ct:YX C] {P:Program} {w:World} {K:BFr} {mg:Str→Option Value} {base:Heap} {N:List Str} {qual:Str} {scope:Scope} {f:Addr} {cd:Value} {A:Around} {outer:List Env} {s:Shared} {H:Hp} {E:XK} :
  jw C (kh (RQ C P w) P w K mg base N qual scope f cd A outer s H E) E:=by
 intro pins σ H' s' ea cls fl I F q
 show wpAny _ _ (leaving _ _) _ _ _
 unfold leaving
 refine wpAny_bind (kO I F rfl rfl I.ok.frames fun s1 I1 F1=>?_)
 refine wa I1 F1 fun s2 I2 F2=>?_
 obtain⟨f0,oe,vs,he,hc,hd,h2,hh⟩:=F2
 have ge:∀ {b:Addr},yv (kh (RQ C P w) P w K mg base N qual scope f cd A outer s H E) pins H' b→s.heap.get? b=none:=fun {b} z=>by
  rcases z.2.2.2.1 with z | z
  ·exact absurd (show b∈([]:List Addr) from z) (by simp)
  ·exact z
 refine⟨ea,cls,H',rfl,I2.os,I2.bare,I2.base,I2.hok,⟨ge f0,f0.1,oe,vs,he,hc,hd,h2,?_⟩,q⟩
 rcases hh with ⟨h1,_⟩ | ⟨T,oT,ts,h1,ne,fT,hT,hdT,h3⟩
 ·exact .inl h1
 ·exact .inr ⟨T,oT,ts,h1,ne,ge fT,fT.1,hT,hdT,h3⟩
theorem gJ {K:BFr} {h:Heap} {C:Addr} {bmB:List Value} {newId:String} (X:K.In h) (q:PySem.W.excIn K C bmB newId=true) :
  ∃ bm N nm qn bs hd sn sub ab col dd k0 k1 k2 k3 k5 mN,h.get? C=some (excClassObj nm qn C N bs bm hd sn sub ab col dd k0 k1 k2 k3 k5 newId)∧h.Ns N mN∧mN "__init__" = none∧OwnTail h bmB bm:=by
 unfold PySem.W.excIn at q
 split at q
 case h_2=>cases q
 case h_1 dd cd sl lk =>
  split at q
  case h_2=>cases q
  case h_1 C' bm k0 k1 k2 k3 n k5 em es =>
   simp only[cQ,beq_iff_eq,dz] at q
   obtain⟨⟨⟨⟨⟨e1,e2⟩,e3⟩,e4⟩,e5⟩,e6⟩:=q
   subst e1 e2
   obtain⟨c1,c2,c3,c4,c5,c6,c7,c8,c9,c10,c11⟩:=cd
   dsimp only at em e3 e5 e6
   subst em e3
   obtain⟨ls⟩:=sl
   dsimp only at es
   subst es
   exact⟨bm,c4,c1,c5,c2,c6,c7,c8,c9,c10,dd,k0,k1,k2,k3,k5,_,X _ _ lk,.of_isNs (PySem.W.isNs_of_in X e5),PySem.W.nsMap_none_of_in X e5 e6,PySem.W.tail_of_in X e4⟩
section
variable {X:Cx} {E:XK} {x:Str} {C:Addr} {Ct:CT} [ct:YX Ct] {e₀:Expr} {yE:List Expr} {t:TA} {np cpos pos:Pos}
noncomputable def RE (E:XK) (C:Addr) (t:TA):TS:=fun _ σ H=>t σ H fun vs H1=>vs.length≤sizeLine∧E (.ref C) none H1
theorem yq (hE:jw Ct X E) (hc:X.calm=true) (hg:Gl X x) (hm:X.mg x=some (.ref C)) (hx:PySem.W.excIn X.K C ZM "ValueError.__new__" = true) (ha:PA X (e₀ :: yE) t) (he:starEach (e₀ :: yE) X.env=(false,eval e₀ X.env)::starEach yE X.env:=by exact z7 rfl) (hpl:(backTo cpos (starEach yE X.env)).any (·.1)=false:=by exact yC rfl) (hdb:(x==("__debug__":Str))=false:=by decide) :
  PS X (.Raise (some (.Call (.Name x np) (e₀ :: yE) [] cpos)) none pos) (RE E C t):=by
 intro pins s σ H D I h
 obtain⟨bm,N,nm,qn,bs,hd,sn,sub,ab,col,dd,k0,k1,k2,k3,k5,mN,oC,oN,ni,T⟩:=gJ I.ok.mod.kin hx
 have FB:=PySem.F.excBase_ValueError
 refine wpAny_Raise_call_subT (C:=C) (nm:=nm) (q:=qn) (N:=N) (bs:=bs) (bm:=bm) (hdct:=hd) (sn:=sn) (sub:=sub) (ab:=ab) (col:=col) (dd:=dd) (k0:=k0) (k1:=k1) (k2:=k2) (k3:=k3) (k5:=k5) (mN:=mN)
  FB (T.hasType FB.hasBase) (I.ok.hd hc) (by rw[he];show (false || (backTo cpos (starEach yE X.env)).any (·.1))=false;rw[hpl];rfl) ni (vT I hg hm ⟨rfl,?_⟩ hdb)
 have q:=ha cpos pins s σ H _ I h
 rw[he] at q ⊢
 refine Calls.evalArgs_plain (q0 q fun us s2 ⟨vs,H1,I1,r,hl,w⟩=>⟨rfl,by show us.length≤sizeLine;rw[← r.length];exact hl,I1.bk _ _ oC,oN.keeps I1.bk,T.keeps I1.bk,fun h' e made=>?_⟩)
 obtain⟨t0,there,_,_⟩:=made.there
 exact hE pins σ H1 _ e (.ref C) .none (I1.kept (t':=s2.toks) made.keeps) ⟨I1.fpNone made.new (I1.none_of made.new),_,_,there,⟨rfl,rfl⟩,rfl,ct.zero rfl,.inl ⟨rfl,rfl⟩⟩ w
end
abbrev Cx.tr (X:Cx) (pn:List (Addr × Obj)) (E:Value→Shared→Prop):Cx:={ X with pn:=pn,xe:=E }
abbrev Cx.hdl (X:Cx) (pn:List (Addr × Obj)) (ea:Addr) (E:Value→Shared→Prop):Cx:={ X with pn:=pn,xe:=E,A:=X.A.mark (some (.ref ea)),calm:=false }
noncomputable def UB (ea:Addr) (oe:Obj):HO:=.frz oe (.ext fun h=>∃ o,h.get? ea=some o)
section
variable {X:Cx} {pn pins:List (Addr × Obj)} {σ:St} {H:Hp} {s:Shared} {E:Value→Shared→Prop} {ea:Addr}
theorem Cx.Ok.tr (ok:X.Ok):(X.tr pn E).Ok :=
 ⟨ok.mod,ok.kind,ok.glob,ok.blt,ok.above,ok.inj,ok.has,ok.cab,ok.hd,ok.frames,ok.stk,ok.exf,ok.bs,ok.bsz,ok.noex,ok.exfs,ok.funs,ok.frf⟩
theorem Cx.Ok.hdl (ok:X.Ok):(X.hdl pn ea E).Ok :=
 ⟨ok.mod,ok.kind,ok.glob,ok.blt,ok.above,ok.inj,ok.has,ok.cab,(fun z=>nomatch z),ok.frames,ok.stk,ok.exf,ok.bs,ok.bsz,ok.noex,ok.exfs,ok.funs,ok.frf⟩
theorem zN.tr (I:zN X pins σ H s):zN (X.tr (X.pn++pins) E) [] σ H s :=
 ⟨I.ok.tr,I.os,I.bare,I.base,I.loc,I.cell,I.free,I.freeC,fun p hp=>I.pin p (by simpa using hp),I.hok,I.len⟩
theorem zN.toHdl {E':Value→Shared→Prop} (I:zN (X.tr pn E') [] σ H s) (ok:X.Ok):zN (X.hdl pn ea E) [] σ H s :=
 ⟨ok.hdl,I.os,I.bare,I.base,I.loc,I.cell,I.free,I.freeC,I.pin,I.hok,I.len⟩
theorem zN.ofHdl (I:zN (X.hdl (X.pn++pins) ea E) [] σ H s) (ok:X.Ok):zN X pins σ H s :=
 ⟨ok,I.os,I.bare,I.base,I.loc,I.cell,I.free,I.freeC,fun p hp=>I.pin p (by simpa using hp),I.hok,I.len⟩
theorem zN.ofTr (I:zN (X.tr (X.pn++pins) E) [] σ H s) (ok:X.Ok):zN X pins σ H s :=
 ⟨ok,I.os,I.bare,I.base,I.loc,I.cell,I.free,I.freeC,fun p hp=>I.pin p (by simpa using hp),I.hok,I.len⟩
theorem wD.toHdl {C:CT} {E':Value→Shared→Prop} {cls fl:Value} {h:Heap} {eb:Addr} (F:wD C (X.tr pn E') [] H ea cls fl h):wD C (X.hdl pn eb E) [] H ea cls fl h:=F
theorem zN.hold (I:zN X pins σ H s) (f:yv X pins H ea) {oe:Obj} (he:s.heap.get? ea=some oe):zN X pins σ (upd H ea (UB ea oe)) s:=by
 have off:∀ b u,H b=some u→b≠ea:=fun b u q z=>by rw[z,f.1] at q;cases q
 refine I.step (h':=s.heap) (g':=s.gens) (d':=s.drawn) (t':=s.toks) (ch:=[ea]) (fun b hb=>?_) (fun _ _ _ _ _ q _=>q) (fun b o _ _ _ q _=>⟨o.slots,q⟩) (fun b o hc _ n=>?_) (fun b o _ q=>⟨o,q⟩)
  (fun b xs q=>by rw[zG (off b _ q)];exact q) (fun b o u q=>by rw[zG (off b _ q)];exact q) (fun b ps q=>⟨#[],by rw[zG (off b _ q),q];simp⟩) (fun _ z=>z) (fun b u q=>?_) I.bare
 ·obtain rfl:b=ea:=by simpa using hb
  exact⟨f.2.2.2.1,f.2.1,f.2.2.2.2.1,f.2.2.2.2.2⟩
 ·rw[zG (fun z=>hc (by simp[z]))]
  exact n
 ·by_cases hb:b=ea
  ·subst hb
   rw[zq] at q
   cases q
   exact⟨he,⟨_,he⟩,⟨_,he⟩,fun h1 h2 ⟨o,e⟩ k=>⟨o,k o e⟩⟩
  ·rw[zG hb] at q
   exact (I.hok b u q).stay (fun _ _ _ z=>z) (fun c z=>by rw[zG (off c _ z)];exact z) fun c xs z=>by rw[zG (off c _ z)];exact z
theorem zN.relocal {h':Heap} {m':Str→Option Value} {t':Nat} (I:zN X pins σ H s) (hn:h'.Ns X.env.locals m') (hs:Heap.SameBut X.env.locals s.heap h') :
  zN X pins (X.N.map fun _=>none) H { s with heap:=h',toks:=t' }:=by
 have nl:∀ b o,X.s₀.heap.get? b=some o→b≠X.env.locals:=fun b o e=>Cc (CJ (cV e) I.ok.above)
 refine⟨I.ok,I.os,I.bare,⟨fun b o e n hb hx=>?_,fun b o e n hb hx=>?_,I.base.free,fun b o e hx=>?_,I.base.tups,I.base.frzs,I.base.tbls⟩,⟨m',hn,fun i x v e1 e2 _=>?_⟩,fun x c e=>?_,I.free,I.freeC,fun p hp=>?_,fun b u q=>?_,by simp⟩
 ·exact (hs.2 b (nl b o e)).trans (I.base.keep b o e n hb hx)
 ·obtain⟨sl,q⟩:=I.base.slot b o e n hb hx
  exact⟨sl,(hs.2 b (nl b o e)).trans q⟩
 ·obtain⟨o',q⟩:=I.base.there b o e hx
  exact⟨o',(hs.2 b (nl b o e)).trans q⟩
 ·rw[cW,e1] at e2
  cases e2
 ·obtain⟨v,z⟩:=I.cell x c e
  exact⟨v,z.sameBut hs (I.cne x c e)⟩
 ·obtain⟨e,n,ne,nf,d⟩:=I.pin p hp
  exact⟨(hs.2 p.1 ne).trans e,n,ne,nf,d⟩
 ·refine (I.hok b u q).stay (fun c v hc z=>(hs.2 c ?_).trans z) (fun _ z=>z) fun _ _ z=>z
  rintro rfl
  rcases hc with hc | hc
  ·rw[← hc,I.free] at q;cases q
  ·rw[I.free] at hc;cases hc
end
noncomputable def Lj (C:CT) (X:Cx) (pn:List (Addr × Obj)) (R:XK):Value→Shared→Prop:=fun e s=>∃ (ea:Addr) (cls fl:Value) (σ:St) (H:Hp),e = .ref ea∧zN (X.tr pn fun _ _=>True) [] σ H s∧wD C (X.tr pn fun _ _=>True) [] H ea cls fl s.heap∧R cls none H
abbrev Th:=Lj C0
theorem QJ {C:CT} {X:Cx} {pn:List (Addr × Obj)} {R:XK}:jw C (X.tr pn (Lj C X pn R)) R:=by
 intro pins σ H s ea cls fl I F q
 refine⟨ea,cls,fl,σ,H,rfl,⟨⟨I.ok.mod,I.ok.kind,I.ok.glob,I.ok.blt,I.ok.above,I.ok.inj,I.ok.has,I.ok.cab,I.ok.hd,I.ok.frames,I.ok.stk,I.ok.exf,I.ok.bs,I.ok.bsz,I.ok.noex,I.ok.exfs,I.ok.funs,I.ok.frf⟩,I.os,I.bare,I.base,I.loc,I.cell,I.free,I.freeC,fun p hp=>I.pin p ?_,I.hok,I.len⟩,?_,q⟩
 ·rw[CK] at hp
  exact CW _ hp
 ·have cut:∀ {b:Addr},yv (X.tr pn (Lj C X pn R)) pins H b→yv (X.tr pn fun _ _=>True) [] H b:=fun {b} f=>⟨f.1,f.2.1,f.2.2.1,f.2.2.2.1,f.2.2.2.2.1,fun p hp=>f.2.2.2.2.2 p (by rw[CK] at hp;exact CW _ hp)⟩
  obtain⟨f0,oe,vs,he,hc,hd,h2,hh⟩:=F
  refine⟨cut f0,oe,vs,he,hc,hd,h2,?_⟩
  rcases hh with z | ⟨T,oT,ts,h1,ne,fT,hT,hdT,h3⟩
  ·exact .inl z
  ·exact .inr ⟨T,oT,ts,h1,ne,cut fT,hT,hdT,h3⟩
noncomputable def TH (N:List Str) (D:uK):uK:={ nx:=fun _ H=>D.nx (N.map fun _=>none) H,rt:=D.rt,bk:=fun _ H=>D.bk (N.map fun _=>none) H,ct:=fun _ H=>D.ct (N.map fun _=>none) H }
noncomputable def tJ (C:CT) (R:XK) (N:List Str) (i:Nat) (tb:TS) (th:Addr→TS):TS:=fun D σ H=>tb D σ H∧∀ (ea:Addr) (oe:Obj) (vs:Array Value) (cls:Value) (σ':St) (H':Hp),R cls none H'→H' ea=none→oe.cls=cls→oe.dict=none →
 oe.data = .fields vs→C H' vs→σ'.length=N.length→th ea (TH N D) (σ'.set i (some (.ref ea))) (upd H' ea (UB ea oe))
theorem mO {C:CT} [ct:YX C] {X:Cx} {x n:Str} {i:Nat} {c:Addr} {R:XK} {tb:TS} {th:Addr→TS} {body suite:List Stmt} {b₀:Stmt} {np hpos pos:Pos} (hs:X.stack=X.env::X.outer) (hf:X.env.frame=some X.env.locals) (hg:Gl X x) (hm:X.mg x=some (.ref c)) (hR:∀ cls o H,R cls o H→PySem.W.exmOne X.K cls (.ref c)=some true) (hN:X.N.Nodup) (hi:X.N[i]? = some n) (hn:X.env.scope.names.lookup n=some .local) (hb:∀ pn,y8 (X.tr pn (Lj C X pn R)) body tb) (hh:∀ pn ea E,y8 (X.hdl pn ea E) (b₀ :: suite) (th ea)) (hdb:(x==("__debug__":Str))=false:=by decide) :
  PS X (.Try body [.ExceptHandler (some (.Name x np)) (some n) (b₀ :: suite) hpos] [] [] pos) (tJ C R X.N i tb th):=by
 intro pins s σ H D I h
 obtain⟨h1,h2⟩:=h
 have ok:=I.ok
 have cls0:(X.env.scope.kind == .class || (X.env.scope.kind == .module&&X.env.locals != X.env.globals))=false:=by rw[ok.kind];rfl
 refine wpAny_Try_except (wpAny_mono (hb (X.pn++pins) [] s σ H D I.tr h1) (fun f s1 q=>?_) fun e s1 q=>?_)
 ·cases f with
  | next =>
   obtain⟨σ',H',I',q⟩:=q
   exact wpAny_execs_nil ⟨σ',H',I'.ofTr ok,q⟩
  | brk=>obtain⟨σ',H',I',q⟩:=q;exact⟨σ',H',I'.ofTr ok,q⟩
  | cont=>obtain⟨σ',H',I',q⟩:=q;exact⟨σ',H',I'.ofTr ok,q⟩
  | ret u=>obtain⟨v,σ',H',I',r,q⟩:=q;exact⟨v,σ',H',I'.ofTr ok,r,q⟩
 ·obtain⟨ea,cls,fl,σ1,H1,rfl,I1,F1,r1⟩:=q
  refine kO (X:=X.tr (X.pn++pins) fun _ _=>True) I1 F1 hs hf I1.ok.frames fun s2 I2 F2=>?_
  refine wa I2 F2 fun s3 I3 F3=>?_
  have J3:zN (X.hdl (X.pn++pins) ea fun _ _=>True) [] σ1 H1 s3:=I3.toHdl ok
  obtain⟨_,oe3,_,he3,hc3,_⟩:=id F3
  refine wpAny_handleBy_cons (codeAny_handlers_test (vT J3 hg hm ?_ hdb)) (by intro q;cases q)
  have LT:PySem.W.Looks (model X.prog X.w) s3.heap (typeOf (.ref ea)) cls:=by
   rw[← hc3.1]
   exact (PySem.W.Looks.ld he3).andThen .now
  refine (PySem.W.exm_one J3.kIn LT (hR cls none H1 r1)).here ?_
  refine codeAny_handlers_suite_as ?_
  refine wa J3 F3.toHdl fun s4 J4 F4=>?_
  obtain⟨f4,oe,vs,he,hc,hd,h2',_⟩:=F4
  have J5:=J4.hold f4 he
  refine Qw (X:=X.hdl (X.pn++pins) ea fun _ _=>True) J5 hN hi (.inl hn) (v:=.ref ea) rfl (fun s6 J6=>?_) (.inr hn)
  have len:σ1.length=X.N.length:=I1.len
  have J6':∀ E,zN (X.hdl (X.pn++pins) ea E) [] (σ1.set i (some (.ref ea))) (upd H1 ea (UB ea oe)) s6:=fun E=>⟨ok.hdl,J6.os,J6.bare,J6.base,J6.loc,J6.cell,J6.free,J6.freeC,J6.pin,J6.hok,J6.len⟩
  refine wpAny_mono (hh (X.pn++pins) ea _ [] s6 _ _ (TH X.N D) (J6' _) (h2 ea oe vs cls σ1 H1 r1 f4.1 hc.1 hc.2 hd h2' len)) (fun f s7 q=>?_) fun _ _ z=>z
  have go:∀ {σ7:St} {H7:Hp} {E7:Value→Shared→Prop},zN (X.hdl (X.pn++pins) ea E7) [] σ7 H7 s7→(∀ s8,zN X pins (X.N.map fun _=>none) H7 s8→SP X pins D f s8) →
    wpAny (model X.prog X.w) X.A (do bindName X.env n .none;unbindBehindTheSuite X.env n hpos) (fun _ s8=>SP X pins D f s8) X.xe s7:=fun {σ7 H7 E7} J k=>by
   obtain⟨m,hns,_⟩:=J.loc
   exact wpAny_nameGoes hn hns cls0 fun h' m' hn' hs'=>k _ ((J.ofHdl ok).relocal hn' hs')
  cases f with
  | next=>obtain⟨σ',H',I',q⟩:=q;exact go I' fun s8 I8=>⟨_,_,I8,q⟩
  | brk=>obtain⟨σ',H',I',q⟩:=q;exact go I' fun s8 I8=>⟨_,_,I8,q⟩
  | cont=>obtain⟨σ',H',I',q⟩:=q;exact go I' fun s8 I8=>⟨_,_,I8,q⟩
  | ret u=>obtain⟨v,σ',H',I',r,q⟩:=q;exact go I' fun s8 I8=>⟨v,_,_,I8,r,q⟩
theorem YW:entryFor table "proto.unchain" = some Builtin.«proto.unchain»:=entryFor_of_tree (by kernel_rfl)
section
variable {prog:Program} {w:World} {A:Around} {E:Value→Shared→Prop} {s:Shared}
theorem JV {v slow:Value} {ea:Addr} {t:Bool} {oe:Obj} {vs:Array Value} {R:Result→Shared→Prop} (e2:s.heap.get? ea=some oe) (e3:oe.data = .fields vs) (e4:vs[2]? = some .none) (k:R (.ok (.ret .none)) s):codeAny (model prog w) A (.builtin "proto.unchain" ⟨[v,.ref ea,slow,.bool t],[]⟩) R s:=by
 refine codeAny_builtin YW ?_
 unfold Builtin.«proto.unchain»
 refine wpAny_bind (wpAny_field e2 e3 e4 ?_)
 rw[if_pos (by decide)]
 refine wpAny_bind (wpAny_pure (wpAny_pure ?_))
 exact k
end
noncomputable def BU (A:Around) (H:Hp):Prop:=A.handled=none∨∃ ea oe vs u,A.handled=some (.ref ea)∧H ea=some (.frz oe u)∧oe.data = .fields vs∧kW H vs
theorem kW.put {H:Hp} {vs:Array Value} {a:Addr} {o:HO} (c:kW H vs) (n:H a=none):kW (upd H a o) vs:=by
 rcases c with c | ⟨eb,ob,ws,u,f1,f2,f3,f4⟩
 ·exact .inl c
 ·exact .inr ⟨eb,ob,ws,u,f1,by rw[zG fun z=>by rw[z,n] at f2;cases f2];exact f2,f3,f4⟩
section
variable {X:Cx} {pins:List (Addr × Obj)} {σ:St} {H:Hp} {s:Shared}
end
noncomputable def j8 (X:Cx) (ifs:List Expr) (t:TT):Prop :=
 ∀ (pins:List (Addr × Obj)) (s:Shared) (σ:St) (H:Hp) (Q:Bool→Hp→Prop),zN X pins σ H s→t σ H Q →
  wpAny (model X.prog X.w) X.A (forIn ifs true fun c r=>if r=true then do let ok ← isTrue c X.env (eval c X.env);pure (ForInStep.yield ok) else pure (ForInStep.yield r)) (TP X pins σ Q) X.xe s
noncomputable def yb:TT:=fun _ H Q=>Q true H
theorem qP {X:Cx}:j8 X [] yb:=fun _ _ _ H _ I h=>wpAny_tests_nil ⟨H,I,h⟩
theorem kZ {X:Cx} {c:Expr} {t:TT} (h:PT X c t):j8 X [c] t:=fun pins s σ H Q I q=>wpAny_tests_one (h pins s σ H Q I q)
theorem G3 {prog:Program} {w:World} {A:Around} {R:Result→Shared→Prop} {s:Shared} {elt tgt iter:Expr} {ifs:List Expr} {scope:Scope} {pos:Pos} {it acc:Value} {env:Env} {EX:Value→Shared→Prop} (hx:∀ x s',EX x s'→notedBy (model prog w) A env (fun e s'=>R (.error e) s') x s') (J:Nat→Shared→Prop) (turn:∀ n s,J n s→wpAny (model prog w) A (pyNext it) (fun r s1=>match r with
   | none=>R (.ok .next) s1
   | some v=>wpAny (model prog w) A (letOwnedTupleGo tgt it v) (fun _ s2=>wpAny (model prog w) A (assign tgt env v) (fun _ s3 =>
     wpAny (model prog w) A (forIn ifs true fun c r=>if r=true then do let ok ← isTrue c env (eval c env);pure (ForInStep.yield ok) else pure (ForInStep.yield r)) (fun ok s4 =>
      if ok=true then wpAny (model prog w) A (eval elt env) (fun x s5=>wpAny (model prog w) A (call (.builtin "list.append") [acc,x]) (fun _ s6=>∃ m,m<n∧J m s6) EX s5) EX s4
      else ∃ m,m<n∧J m s4) EX s3) EX s2) EX s1) EX s) (n:Nat) (h:J n s):codeAny (model prog w) A (.compLoop (.ListComp elt [⟨tgt,iter,ifs,0⟩] scope pos) 0 it acc env) R s:=by
 refine codeAny_loop rfl J (fun n s hJ=>?_) n h
 show wpAny _ A ((compTurn (.ListComp elt [⟨tgt,iter,ifs,0⟩] scope pos) 0 it acc env).onRaise (fun x=>do noteFrame x env;theTreesLotGoes x)) _ _ s
 refine wpAny_noted (wpAny_mono (E:=EX) ?_ (fun _ _ z=>z) hx)
 rw[compTurn_list]
 refine wpAny_bind (wpAny_standAt (wpAny_bind (q0 (turn n s hJ) fun r s1 h1=>?_)))
 cases r with
 | none=>exact wpAny_pure h1
 | some v =>
  refine wpAny_bind (q0 h1 fun _ s2 h2=>wpAny_bind (q0 h2 fun _ s3 h3=>wpAny_bind (q0 h3 fun ok s4 h4=>?_)))
  cases ok with
  | false=>exact wpAny_pure ⟨rfl,h4⟩
  | true=>exact wpAny_bind (wpAny_bind (q0 h4 fun x s5 h5=>wpAny_bind (q0 h5 fun _ s6 h6=>wpAny_pure (wpAny_pure ⟨rfl,h6⟩))))
noncomputable def o7 (src:List (Option Nat)) (σ:St):St:=src.map fun o=>o.bind fun j=>(σ[j]?).join
section
variable {X:Cx} {elt iter tgt:Expr} {ifs:List Expr} {scope:Scope} {cl:List (Str × Addr)} {Nc:List Str} {src:List (Option Nat)} {g:TG} {tt:TT} {te:TE}
structure VC (X:Cx) (Nc:List Str) (scope:Scope) (cl:List (Str × Addr)) (src:List (Option Nat)):Prop where
 clos:closureFor scope X.env=pure cl
 kind:scope.kind = .function
 cell:∀ y∈scope.names,y.2≠.cell
 names:∀ y∈scope.names,y.2 = .local→scope.names.lookup y.1=some .local
 sub:∀ x c,cl.lookup x=some c→X.env.cells.lookup x=some c
 has:∀ x,((relabel scope X.env).names.lookup x=some .cell∨(relabel scope X.env).names.lookup x=some .free)→∃ c,cl.lookup x=some c
 frm:∀ (i j:Nat),src[i]? = some (some j)→∃ x,Nc[i]? = some x∧X.N[j]? = some x∧X.env.scope.names.lookup x=some .cell∧(relabel scope X.env).names.lookup x=some .cell
 len:src.length=Nc.length
end
structure ZC (k:Nat) (A:Around):Prop where
 dp:A.depth+3*k+5<recursionLimit
 un:A.units+16*k+200<cLine
theorem ZC.mono {j k:Nat} {A:Around} (r:ZC k A) (h:j≤k):ZC j A:=⟨by have:=r.dp;omega,by have:=r.un;omega⟩
structure UJ (P:Program) (w:World) (K:BFr) (mg:Str→Option Value) (base:Heap) (k:Nat) (f:Addr) (fd:FuncData) (ps:List Str) (sp:Sp):Prop where
 len:∀ vs H Q E,sp vs H Q E→vs.length=ps.length
 run:∀ (A:Around) (outer:List Env) (s:Shared) (H:Hp) (args:Args) (us:List Value) (vs:List V) (Q:VK),ZC k A→BU A H→Ul P w K mg base A outer s H→BindsTo s fd args (ps.zip us)→qt vs us→sp vs H Q E0 →
  codeAny (model P w) A (.call (.ref f) args) (CR zQ outer P w H s Q E0) s
noncomputable def Bc (P:Program) (w:World) (K:BFr) (mg:Str→Option Value) (base:Heap) (N:List Str) (qual:Str) (scope:Scope) (f:Addr) (cd:Value) (A:Around) (outer:List Env) (s:Shared) (H:Hp):Cx :=
 { kh zQ P w K mg base N qual scope f cd A outer s H E0 with calm:=false,xe:=fun _ _=>False }
section
variable {P:Program} {w:World} {K:BFr} {mg:Str→Option Value} {base:Heap}
theorem qM.okQ {x qual:Str} {st:Stmt} {f:Addr} {fd:FuncData} {N ps:List Str} {k:Nat} {sp:Sp} (F:qM K x qual st f fd) (S:u9 N ps (zW st)) (len:∀ vs H Q E,sp vs H Q E→vs.length=ps.length) (hbody:∀ (cdv:Value) (A:Around) (outer:List Env) (s:Shared) (H:Hp) (vs:List V) (Q:VK),ZC k (A.deeper (envOfC qual (zW st) s.heap.objs.size f cdv))→BU (A.deeper (envOfC qual (zW st) s.heap.objs.size f cdv)) H→sp vs H Q E0 →
   ∃ t,y8 (Bc P w K mg base N qual (zW st) f cdv A outer s H) (yN st) t∧t { nx:=fun _ H'=>Q .non H',rt:=Q } (vX N vs) H):UJ P w K mg base (k+1) f fd ps sp:=by
 obtain⟨oc,od,kV,doc,pm,an,cdv,ct,osl,rfl,lk,hcd⟩:=F.ex
 refine⟨len,fun A outer s H args us vs Q hr hh e0 hb r hsp=>?_⟩
 have hl:=len _ _ _ _ hsp
 have KX:K.In s.heap:=e0.mod.kin.keeps fun b o e=>(e0.bs b o e).1
 have lim:s.heap.NoLimit:=e0.mod.nolimit.keeps fun b o e=>(e0.bs b o e).1
 have dpt:A.depth<recursionLimit:=by have:=hr.dp;omega
 have kinds:∀ y∈ps.zip us,(zW st).names.lookup y.1=some .local∨((zW st).names.lookup y.1=some .cell∧((cellsFrom (s.heap.objs.size+1) (zW st).names []).lookup y.1).isSome=true):=fun⟨n,v⟩ hy=>by
  rcases S.par n (Dv hy).1 with q | q
  ·exact .inl q
  ·exact .inr ⟨q,PySem.W.cellsFrom_some _ _ _ (.inl q)⟩
 refine codeAny_call_function dpt (KX _ _ lk) rfl S.co S.gen rfl (PySem.W.codeRec_of KX hcd) (hb _ _ _ _ ?_)
 refine wpAny_newFunctionEnv_cells S.kind kinds fun env he s1 x=>?_
 subst he
 refine⟨lim.keeps x.toInCall.keep,codeAny_func ?_⟩
 have rq:ZC k (A.deeper (envOfC qual (zW st) s.heap.objs.size f cdv)):=⟨by have:=hr.dp;show A.depth+1+3*k+5<_;omega,by have:=hr.un;show A.units+3+16*k+200<_;omega⟩
 obtain⟨t,ht,hq⟩:=hbody cdv A outer s H vs Q rq hh hsp
 have J:=Jt (CX:=zQ) (E:=E0) (A:={ A with handled:=none }) S rfl ⟨e0.frames,e0.mod,e0.bs,e0.bsz,e0.funs,e0.frf,e0.hok,e0.bare⟩ hl r x
 have I:zN (Bc P w K mg base N qual (zW st) f cdv A outer s H) [] (vX N vs) H s1 :=
  ⟨⟨J.ok.mod,J.ok.kind,J.ok.glob,J.ok.blt,J.ok.above,J.ok.inj,J.ok.has,J.ok.cab,(fun z=>nomatch z),Around.frames_deeper e0.frames,J.ok.stk,J.ok.exf,J.ok.bs,J.ok.bsz,J.ok.noex,J.ok.exfs,J.ok.funs,J.ok.frf⟩,J.os,J.bare,J.base,J.loc,J.cell,J.free,J.freeC,J.pin,J.hok,J.len⟩
 refine wpAny_mono (ht [] s1 (vX N vs) H _ I hq) (fun fl s' hs=>?_) fun e s' hs=>False.elim hs
 have fin:∀ {σ':St} {H':Hp} {v:V} {u:Value},zN (Bc P w K mg base N qual (zW st) f cdv A outer s H) [] σ' H' s'→qG v u→Q v H'→CE outer P w H s Q u s' :=
  fun {σ' H' v u} J rv q=>⟨v,H',J.os,J.bare,J.base,J.hok,rv,q⟩
 cases fl with
 | ret u =>
  obtain⟨v,σ',H',J,rv,q⟩:=hs
  exact fin J rv q
 | next =>
  obtain⟨σ',H',J,q⟩:=hs
  exact fin (v:=V.non) (u:=Value.none) J rfl q
 | brk=>obtain⟨_,_,_,z⟩:=hs;exact False.elim z
 | cont=>obtain⟨_,_,_,z⟩:=hs;exact False.elim z
theorem qM.okE {x qual:Str} {st:Stmt} {f:Addr} {fd:FuncData} {N ps:List Str} {k:Nat} {sp:Sp} (F:qM K x qual st f fd) (S:u9 N ps (zW st)) (len:∀ vs H Q E,sp vs H Q E→vs.length=ps.length) (hbody:∀ (cdv:Value) (A:Around) (outer:List Env) (s:Shared) (H:Hp) (vs:List V) (Q:VK) (E:XK),yO k (A.deeper (envOfC qual (zW st) s.heap.objs.size f cdv))→sp vs H Q E →
   ∃ t,y8 (kh (j4 P w) P w K mg base N qual (zW st) f cdv A outer s H E) (yN st) t∧t { nx:=fun _ H'=>Q .non H',rt:=Q } (vX N vs) H):zL P w K mg base (j4 P w) (k+1) f fd ps sp:=by
 obtain⟨oc,od,kV,doc,pm,an,cdv,ct,osl,rfl,lk,hcd⟩:=F.ex
 exact P3 lk hcd S len fun A outer s H vs Q E hr hsp=>hbody cdv A outer s H vs Q E hr hsp
theorem qO {N:List Str} {qual:Str} {scope:Scope} {f:Addr} {cd:Value} {A:Around} {outer:List Env} {s:Shared} {H:Hp} {E:XK}:yZ (j4 P w) (kh (j4 P w) P w K mg base N qual scope f cd A outer s H E) E:=vS rfl rfl qQ
end
theorem tH {X:Cx} {pn:List (Addr × Obj)} {R:XK}:yZ (j4 X.prog X.w) (X.tr pn (Th X pn R)) R:=vS rfl rfl QJ
section
variable {X:Cx} {k:Nat} {f:Addr} {fd:FuncData} {ps:List Str} {sp:Sp} {x:Str} {p pos:Pos} {e:Expr} {es:List Expr} {t:TA}
noncomputable def xy (A:Around) (sp:Sp) (t:TA):TE:=fun σ H Q=>t σ H fun vs H1=>BU A H1∧sp vs H1 Q E0
theorem lY (F:UJ X.prog X.w X.K X.mg X.base k f fd ps sp) (hr:ZC k X.A) (hg:Gl X x) (hm:X.mg x=some (.ref f)) (hk:PySem.W.keepIn X.K (.ref f)=true) (hb:vp X.K fd ps []) (ha:PA X (e::es) t) (hdb:(x==("__debug__":Str))=false:=by decide) (he:starEach (e::es) X.env=(false,eval e X.env)::starEach es X.env:=by exact z7 rfl) (hpl:(backTo pos (starEach es X.env)).any (·.1)=false:=by exact yC rfl) :
  PE X (.Call (.Name x p) (e::es) [] pos) (xy X.A sp t):=by
 intro pins s σ H Q I h
 refine wpAny_Call_Name_kw (vT I hg hm ?_ hdb)
 refine PySem.W.callWith_K (h₀:=X.base) I.ok.mod.kin hk (q0 (ha pos pins s σ H _ I h) fun us s1 ⟨vs,H1,I1,r,hd,q⟩=>⟨I1.kIn,?_⟩) he hpl
 have hl:us.length=ps.length:=by rw[← r.length];exact F.len _ _ _ _ q
 have B:BindsTo s1 fd ⟨us,[]⟩ (ps.zip us):=by
  have z:=hb s1 us I1.kIn (by rw[CK];exact hl)
  rw[CK] at z
  exact z
 refine wpAny_call (codeAny_mono (F.run X.A X.stack s1 H1 ⟨us,[]⟩ us vs Q hr hd I1.env0 B r q) fun r s' hq=>?_)
 cases r with
 | error e=>exact False.elim hq
 | ok fl =>
  cases fl with
  | ret u=>exact I1.after hq
  | next=>exact False.elim hq
  | brk=>exact False.elim hq
  | cont=>exact False.elim hq
end
noncomputable def BY:V→Option Value
 | .ref a=>some (.ref a)
 | .ty n=>some (.type n)
 | _=>none
noncomputable def B9 (K:BFr) (H:Hp) (x:V) (t:Value):Prop :=
 vi K H x t∨∃ a oe C vs,x = .ref a∧t = .ref C∧H a=some (UB a oe)∧oe.cls = .ref C∧oe.dict=none∧oe.data = .fields vs∧XK.vk K C
section
variable {X:Cx}
theorem zJ:vH X (.builtin "isinstance") (fun xs H Q=>∃ x c cv t b,xs=[x,c]∧BY c=some cv∧B9 X.K H x t∧PySem.W.kitOne X.K t cv=some b∧Q (.bl b) H):=by
 intro pins s σ H xs us Q I r h
 obtain⟨x,c,cv,t,b,rfl,hc,ty,hk,q⟩:=h
 obtain⟨u,v,rfl,ru,rv⟩:=Od r
 obtain rfl:v=cv:=by
  cases c with
  | ref a=>cases hc;exact rv
  | ty n=>cases hc;exact rv
  | _=>cases hc
 rcases ty with ty | ⟨a,oe,C,vs,rfl,rfl,ha,e1,e2,e3,ec⟩
 ·exact GN I ru ty hk fun tk=>⟨.bl b,H,I.tok tk,rfl,q⟩
 ·cases ru
  have g:=(I.hok a _ ha).1
  have inst:PySem.W.InstAt s.heap a oe C none:=⟨g,e1,by unfold PySem.W.notCls;rw[e3],by rw[e2];trivial⟩
  exact PySem.W.kia_one (XK.lS (ox:=oe) ec) I.kIn inst hk (fun z=>nomatch z) fun tk=>⟨.bl b,H,I.tok tk,rfl,q⟩
noncomputable def Qk (xs ys:List V):Bool:=xs.length==ys.length&&(List.range xs.length).all fun j=>GO (xs.getD j .non) (ys.getD j .non)
noncomputable def Bz (K:BFr) (neg:Bool):R2:=fun x y H Q=>∃ a b xs ys,x = .ref a∧y = .ref b∧zY K H a xs∧zY K H b ys∧xs.all j0=true∧ys.all j0=true∧Q (.bl (if neg then !Qk xs ys else Qk xs ys)) H
theorem P2 {xs:List V} (h:xs.all j0=true) {j:Nat} (hj:j<xs.length):j0 (xs.getD j .non)=true:=by
 rw[CP,Ca hj,Option.getD_some]
 exact Cn.mp h _ (Dx hj)
theorem gT {xs:List V} {us:List Value} (r:qt xs us) {j:Nat} (hj:j<us.length):qG (xs.getD j .non) us[j]:=by
 have hl:=r.length
 have hx:xs[j]? = some (xs.getD j .non):=by
  rw[CP,Ca (by omega),Option.getD_some]
 obtain⟨u,e,q⟩:=r.get hx
 rw[Ca hj] at e
 cases e
 exact q
theorem rR (hu:X.A.units<cLine):wF X (compareOp .NotEq) (Bz X.K true):=by
 intro pins s σ H x y v u Q I rx ry h
 obtain⟨a,b,xs,ys,rfl,rfl,h1,h2,f1,f2,q⟩:=h
 cases rx
 cases ry
 obtain⟨us,r1,p1,_⟩:=I.list h1
 obtain⟨ws,r2,p2,_⟩:=I.list h2
 have l1:=r1.length
 have l2:=r2.length
 by_cases hl:xs.length=ys.length
 ·refine SeqAt.RcNeAt.lists p1.isList p2.isList (by simp;omega) hu (e:=fun j=>GO (xs.getD j .non) (ys.getD j .non)) (fun j h1 h2=>?_) _ _ _ _ ?_
  ·simp at h1 h2
   simp only[DR]
   exact Po (gT r1 h1) (gT r2 h2) (P2 f1 (by omega)) (P2 f2 (by omega))
  ·refine⟨.bl _,H,I,rfl,?_⟩
   have e:Qk xs ys=(List.range us.toArray.size).all fun j=>GO (xs.getD j .non) (ys.getD j .non):=by
    unfold Qk
    rw[beq_iff_eq.mpr hl,Cj,Cy,← l1]
   rw[← e]
   exact q
 ·refine SeqAt.RcNeAt.lists_lengths p1.isList p2.isList (by simp;omega) hu _ _ _ _ ⟨.bl true,H,I,rfl,?_⟩
  have e:Qk xs ys=false:=by
   unfold Qk
   rw[beq_eq_false_iff_ne.mpr hl,CQ]
  have q':=q
  rw[if_pos rfl,e] at q'
  exact q'
end
noncomputable def qR (P:Program) (w:World) (K:BFr) (mg:Str→Option Value) (base:Heap) (CX:ki) (k:Nat) (x:Str) (ps:List Str) (sp:Sp):Prop :=
 ∃ f fd,mg x=some (.ref f)∧PySem.W.keepIn K (.ref f)=true∧vp K fd ps []∧zL P w K mg base CX k f fd ps sp
noncomputable def Rp (P:Program) (w:World) (K:BFr) (mg:Str→Option Value) (base:Heap) (k:Nat) (x:Str) (ps:List Str) (sp:Sp):Prop :=
 ∃ f fd,mg x=some (.ref f)∧PySem.W.keepIn K (.ref f)=true∧vp K fd ps []∧UJ P w K mg base k f fd ps sp
section
variable {X:Cx} {CX:ki} {j k:Nat} {ps:List Str} {sp:Sp} {x:Str} {p pos:Pos} {e:Expr} {es:List Expr} {t:TA} {E:XK}
theorem zk (C:qR X.prog X.w X.K X.mg X.base CX k x ps sp) (hr:yO j X.A) (hj:k≤j) (hx:yZ CX X E) (ha:PA X (e::es) t) (hg:Gl X x:=by rfl) (hdb:(x==("__debug__":Str))=false:=by decide) (he:starEach (e::es) X.env=(false,eval e X.env)::starEach es X.env:=by exact z7 rfl) (hpl:(backTo pos (starEach es X.env)).any (·.1)=false:=by exact yC rfl) :
  PE X (.Call (.Name x p) (e::es) [] pos) (fun σ H Q=>t σ H fun vs H1=>sp vs H1 Q E):=by
 obtain⟨f,fd,hm,hk,hb,F⟩:=C
 intro pins s σ H Q I h
 refine L3 (dvs:=[]) F (hr.mono hj) hg hm hk hb .nil hx ha hdb he hpl pins s σ H Q I ?_
 unfold Nd
 simp only[CK]
 exact h
theorem nh (C:Rp X.prog X.w X.K X.mg X.base k x ps sp) (hr:ZC j X.A) (hj:k≤j) (ha:PA X (e::es) t) (hg:Gl X x:=by rfl) (hdb:(x==("__debug__":Str))=false:=by decide) (he:starEach (e::es) X.env=(false,eval e X.env)::starEach es X.env:=by exact z7 rfl) (hpl:(backTo pos (starEach es X.env)).any (·.1)=false:=by exact yC rfl) :
  PE X (.Call (.Name x p) (e::es) [] pos) (xy X.A sp t):=by
 obtain⟨f,fd,hm,hk,hb,F⟩:=C
 exact lY F (hr.mono hj) hg hm hk hb ha hdb he hpl
end
theorem zE:bootBuiltins "isinstance" = some (.builtin "isinstance"):=by kernel_rfl
theorem uj:bootBuiltins "sum" = some (.builtin "sum"):=by kernel_rfl
theorem jt:bootBuiltins "int" = some (.type "int"):=by kernel_rfl
theorem Jh:bootBuiltins "bool" = some (.type "bool"):=by kernel_rfl
theorem qK:bootBuiltins "str" = some (.type "str"):=by kernel_rfl
theorem oy:bootBuiltins "list" = some (.type "list"):=by kernel_rfl
theorem yy:bootBuiltins "tuple" = some (.type "tuple"):=by kernel_rfl
theorem ML:bootBuiltins "ValueError" = some (.type "ValueError"):=by kernel_rfl
noncomputable def UZ:List (String × Bool × Bool × Bool × Bool):=[("NoneType",false,false,false,false),("bool",true,true,false,false),("int",true,false,false,false),("str",false,false,true,false),("list",false,false,false,true),("tuple",false,false,false,false),("dict",false,false,false,false)]
theorem Qg {K:BFr}:∀ r∈UZ,PySem.W.kitOne K (.type r.1) (.type "int")=some r.2.1∧PySem.W.kitOne K (.type r.1) (.type "bool")=some r.2.2.1∧PySem.W.kitOne K (.type r.1) (.type "str")=some r.2.2.2.1∧PySem.W.kitOne K (.type r.1) (.type "list")=some r.2.2.2.2:=by
 intro r hr
 simp only[UZ,cU,cX,or_false] at hr
 rcases hr with rfl | rfl | rfl | rfl | rfl | rfl | rfl <;> exact⟨by rfl,by rfl,by rfl,by rfl⟩
noncomputable def JH (K:BFr) (H:Hp) (v:V):Prop:=∃ r∈UZ,vi K H v (.type r.1)∧r.1≠"int"
noncomputable def vG (K:BFr) (H:Hp) (v:V):Prop:=∃ r∈UZ,vi K H v (.type r.1)∧r.1≠"str"
section
variable {κ:Type} [DecidableEq κ]
noncomputable def QQ (kvs:List (κ × V)) (k:κ):Option V:=(kvs.find? fun kv=>decide (kv.1=k)).map (·.2)
noncomputable def Uo (kvs:List (κ × V)) (k:κ) (v:V):List (κ × V) :=
 if (kvs.any fun kv=>decide (kv.1=k))=true then kvs.map (fun kv=>if kv.1=k then (kv.1,v) else kv) else kvs++[(k,v)]
theorem UG {p:κ × V} {r:List (κ × V)} {k:κ} (e:p.1=k):QQ (p::r) k=some p.2:=by simp[QQ,dZ,e]
theorem Uz {p:κ × V} {r:List (κ × V)} {k:κ} (e:¬ p.1=k):QQ (p::r) k=QQ r k:=by simp[QQ,dZ,e]
theorem WD (kvs:List (κ × V)) (k:κ) (v:V):(Uo kvs k v).length≤kvs.length+1:=by
 unfold Uo
 split
 ·rw[cN];omega
 ·rw[Cb,CI,dQ];omega
theorem kN.getD {o:Option V} {u:Option Value} {d:V} {d':Value} (r:kN o u) (rd:qG d d'):qG (o.getD d) (u.getD d'):=by
 cases o with
 | none=>cases u with
  | none=>exact rd
  | some _=>exact (show False from r).elim
 | some _=>cases u with
  | none=>exact (show False from r).elim
  | some _=>exact r
theorem KV.val {kvs:List (κ × V)} {vs:List (κ × Value)} (r:KV kvs vs) (k:κ):kN (QQ kvs k) (valueAt vs k):=by
 unfold KV at r
 induction r with
 | nil=>exact True.intro
 | @cons p q ps qs h t ih =>
  obtain⟨h1,h2⟩:=h
  by_cases e:p.1=k
  ·have e':q.1=k:=h1.symm.trans e
   have b:valueAt (q::qs) k=some q.2:=by simp[valueAt,dZ,e']
   rw[UG e,b];exact h2
  ·have e':¬ q.1=k:=fun z=>e (h1.trans z)
   have b:valueAt (q::qs) k=valueAt qs k:=by simp[valueAt,dZ,e']
   rw[Uz e,b];exact ih
theorem KV.any {kvs:List (κ × V)} {vs:List (κ × Value)} (r:KV kvs vs) (k:κ):(kvs.any fun kv=>decide (kv.1=k))=vs.any fun kv=>decide (kv.1=k):=by
 unfold KV at r
 induction r with
 | nil=>rfl
 | cons h t ih=>rw[dY,dY,ih,h.1]
theorem KV.repl {kvs:List (κ × V)} {vs:List (κ × Value)} (r:KV kvs vs) (k:κ) {y:V} {u:Value} (ry:qG y u) :
  KV (kvs.map fun kv=>if kv.1=k then (kv.1,y) else kv) (vs.map fun kv=>if kv.1=k then (kv.1,u) else kv):=by
 unfold KV at r ⊢
 induction r with
 | nil=>exact .nil
 | @cons p q ps qs h t ih =>
  rw[CF,CF]
  refine .cons ?_ ih
  obtain⟨h1,h2⟩:=h
  by_cases e:p.1=k
  ·rw[if_pos e,if_pos (h1.symm.trans e)];exact⟨h1,ry⟩
  ·rw[if_neg e,if_neg (fun z=>e (h1.trans z))];exact⟨h1,h2⟩
theorem KV.put {kvs:List (κ × V)} {vs:List (κ × Value)} (r:KV kvs vs) (k:κ) {y:V} {u:Value} (ry:qG y u):KV (Uo kvs k y) (stored vs k u):=by
 unfold Uo stored
 rw[r.any k]
 by_cases e:(vs.any fun kv=>decide (kv.1=k))=true
 ·rw[if_pos e,if_pos e];exact r.repl k ry
 ·rw[if_neg e,if_neg e];exact Paired.snoc r ⟨rfl,ry⟩
end
theorem Oa {P:Program} {w:World} {k:jZ} {u:Value} (r:qG (kV k) u):(ym P w).is k u=true:=by
 cases k with
 | inl i=>obtain⟨t,e⟩:=(show ∃ t,u=Value.int i t from r);subst e;exact Us P w i t
 | inr x=>obtain⟨t,e⟩:=(show ∃ t,u=Value.str x t from r);subst e;exact V4 P w x t
theorem Ji {P:Program} {w:World}:∀ {ks:List jZ} {us:List Value},qt (ks.map kV) us→ItemsAre (ym P w) ks us
 | [],_,r=>by rw[dJ] at r;cases r;exact .nil
 | k::ks,_,r=>by
  rw[CF] at r
  cases r with
  | cons h t=>exact .cons (Oa h) (Ji t)
abbrev KT (H:Hp):List (List jZ × V)→List (List jZ × Addr × Value)→Prop:=Paired fun p q=>p.1=q.1∧H q.2.1=some (.tup (p.1.map kV))∧qG p.2 q.2.2
theorem KT.val {H:Hp} {kvs:List (List jZ × V)} {xs:List (List jZ × Addr × Value)} (r:KT H kvs xs) (k:List jZ):kN (QQ kvs k) ((atKey xs k).map (·.2)):=by
 induction r with
 | nil=>exact True.intro
 | @cons p q ps qs h t ih =>
  obtain⟨h1,_,h2⟩:=h
  by_cases e:p.1=k
  ·have e':q.1=k:=h1.symm.trans e
   have b:atKey (q::qs) k=some q.2:=by simp[atKey,dZ,e']
   rw[UG e,b];exact h2
  ·have e':¬ q.1=k:=fun z=>e (h1.trans z)
   have b:atKey (q::qs) k=atKey qs k:=by simp[atKey,dZ,e']
   rw[Uz e,b];exact ih
section
variable {P:Program} {w:World} {H:Hp} {h:Heap} {a:Addr}
theorem nQ {u:HO} (ok:kc P w H h) (e:Rd H a u):yi P w H h a u:=e.ok ok
theorem lM {kvs:List (jZ × V)} (ok:kc P w H h) (e:Rd H a (.dK kvs)):kvs.length≤sizeLine∧(a==sysModules)=false∧∃ vs,KV kvs vs∧h.DictOf (ym P w) a vs :=
 show yi P w H h a (.dK kvs) from nQ ok e
theorem bb {kvs:List (jZ × V)} (ok:kc P w H h) (e:H a=some (.dK kvs)):kvs.length≤sizeLine∧(a==sysModules)=false∧∃ vs,KV kvs vs∧h.DictOf (ym P w) a vs:=lM ok (.inl e)
theorem Ox {ks:List jZ} (ok:kc P w H h) (e:H a=some (.tup (ks.map kV))):(tupleKind (ym P w)).is h ks a:=by
 obtain⟨_,its,r,o,h1,h2,n,h3⟩:=(show yi P w H h a (.tup (ks.map kV)) from ok a _ e)
 exact⟨o,its.toArray,n,h1,h2,h3,by simpa using Ji r⟩
theorem nH {kvs:List (List jZ × V)} (ok:kc P w H h) (e:Rd H a (.dT kvs)):kvs.length≤sizeLine∧(a==sysModules)=false ∧
  ∃ xs,KT H kvs xs∧h.DictOfH (tupleKind (ym P w)) a xs:=by
 obtain⟨z,y,xs,r,o,es,ep,h1,h2,h3,h4,h5⟩:=(show yi P w H h a (.dT kvs) from nQ ok e)
 refine⟨z,y,xs,r,o,es,ep,h1,h2,h3,h4,fun x hx=>?_,h5⟩
 have all:∀ {l:List (List jZ × V)} {m:List (List jZ × Addr × Value)},KT H l m→∀ x∈m,(tupleKind (ym P w)).is h x.1 x.2.1:=by
  intro l m q
  induction q with
  | nil=>intro x hx;exact nomatch hx
  | @cons p q ps qs hq t ih =>
   intro x hx
   rcases cU.mp hx with e | hx
   ·subst e
    exact Ox ok (by rw[← hq.1];exact hq.2.1)
   ·exact ih x hx
 exact all r x hx
end
noncomputable def tY (H:Hp) (a:Addr) (y:V) (r:Option V):Prop :=
 (∃ kvs k,Rd H a (.dK kvs)∧y=kV k∧r=QQ kvs k)∨∃ kvs k b,Rd H a (.dT kvs)∧y = .ref b∧H b=some (.tup (k.map kV))∧r=QQ kvs k
section
variable {X:Cx} {pins:List (Addr × Obj)} {σ:St} {H:Hp} {s:Shared} {a:Addr} {y v:V} {u r:Value} {o:Option V} {A:Around} {E:Value→Shared→Prop}
theorem zN.big (I:zN X pins σ H s):sysModules<s.heap.objs.size:=by
 have h:mainGlobals<s.heap.objs.size:=(I.mod.glob.keeps I.bk).lt
 exact Dy (by decide) h
theorem LA {h':Heap} {t':Nat} {ob:HO} (I:zN X pins σ H s) (mu:TL (H a)) (hs:Heap.SameBut a s.heap h') (he:∃ q,h'.get? a=some q) (new:yi X.prog X.w (upd H a ob) h' a ob) :
  zN X pins σ (upd H a ob) { s with heap:=h',toks:=t' } :=
 I.write (x:=a) (e:=a) mu (.inl rfl) (fun b q hb z=>(hs.2 b hb).trans z) he new
theorem NF {P:Program} {w:World} {H':Hp} {h':Heap} {kvs:List (jZ × V)} {vs:List (jZ × Value)} (z:kvs.length≤sizeLine) (hd:(a==sysModules)=false) (rel:KV kvs vs) (dd:h'.DictOf (ym P w) a vs) :
  yi P w H' h' a (.dK kvs):=⟨z,hd,vs,rel,dd⟩
end
section
variable {X:Cx} {pins:List (Addr × Obj)} {σ:St} {H:Hp} {s:Shared} {a:Addr} {kvs:List (jZ × V)} {k:jZ} {u:Value} {A:Around} {E:Value→Shared→Prop}
end
section
variable {X:Cx} {o i e value:Expr} {pos pos' tpos:Pos} {td ty tv:TE}
end
theorem Ut {P:Program} {w:World} {H:Hp} (h:Heap) (hb:sysModules<h.objs.size):yi P w H (h.push { cls:=.type "dict",data:=.dict #[] }) h.objs.size (.dK []) :=
 ⟨Cw _,beq_eq_false_iff_ne.mpr (Ne.symm (Cc hb)),[],.nil,Heap.DictOf.new h⟩
noncomputable def rO:TE:=fun _ H Q=>∀ p,H p=none→Q (.ref p) (upd H p (.dK []))
section
variable {X:Cx} {pos:Pos}
theorem PZ:PE X (.Dict [] [] pos) rO:=fun pins s σ H Q I h =>
 wpAny_Dict_empty ⟨.ref s.heap.objs.size,_,I.laid (a:=s.heap.objs.size) (o:=.dK []) (t':=s.toks) (fun _ _ q=>Cf _ q) (cP _) (Ut s.heap I.big),rfl,h _ (I.hok.fresh (cP _))⟩
end
noncomputable def xV:List (TE × TE)→St→Hp→(List (V × V)→Hp→Prop)→Prop
 | [],_,H,Q=>Q [] H
 | (tk,tv)::r,σ,H,Q=>tk σ H fun x H1=>tv σ H1 fun y H2=>xV r σ H2 fun ps H3=>Q ((x,y)::ps) H3
abbrev VV:List (V × V)→List (Value × Value)→Prop:=Paired fun p q=>qG p.1 q.1∧qG p.2 q.2
noncomputable def bj (X:Cx) (pos:Pos) (keys:List (Option Expr)) (values:List Expr) (trs:List (TE × TE)):Prop :=
 ∀ (pins:List (Addr × Obj)) (s:Shared) (σ:St) (H:Hp) (Q:List (V × V)→Hp→Prop),zN X pins σ H s→xV trs σ H Q →
  wpAny (model X.prog X.w) X.A (evalPairs (pairTrees keys values X.env pos)) (fun vs s'=>∃ ps H',zN X pins σ H' s'∧VV ps vs∧Q ps H') X.xe s
theorem MP {X:Cx} {pos:Pos}:bj X pos [] [] []:=fun pins s σ H Q I h=>pairTrees_nil_walk ⟨[],H,I,.nil,h⟩
theorem uh {X:Cx} {pos:Pos} {k v:Expr} {ks:List (Option Expr)} {vs:List Expr} {tk tv:TE} {trs:List (TE × TE)} (hk:PE X k tk) (hv:PE X v tv) (hr:bj X pos ks vs trs) :
  bj X pos (some k::ks) (v::vs) ((tk,tv)::trs):=fun pins s σ H Q I h =>
 pairTrees_cons_walk (q0 (hk pins s σ H _ I h) fun u s1 ⟨x,H1,I1,rx,q1⟩=>q0 (hv pins s1 σ H1 _ I1 q1) fun w2 s2 ⟨y,H2,I2,ry,q2⟩ =>
  q0 (hr pins s2 σ H2 _ I2 q2) fun ws s3 ⟨ps,H3,I3,rel,q3⟩=>⟨(x,y)::ps,H3,I3,.cons ⟨rx,ry⟩ rel,q3⟩)
noncomputable def ur (kvs more:List (jZ × V)):List (jZ × V):=more.foldl (fun acc kv=>Uo acc kv.1 kv.2) kvs
theorem KV.merge:∀ {more:List (jZ × V)} {rs:List (jZ × Value)} {kvs:List (jZ × V)} {vs:List (jZ × Value)},KV more rs→KV kvs vs→KV (ur kvs more) (merged vs rs):=by
 intro more rs kvs vs r
 unfold KV at r
 induction r generalizing kvs vs with
 | nil=>intro q;exact q
 | @cons p q ps qs h t ih =>
  intro r0
  have e:KV (Uo kvs p.1 p.2) (stored vs q.1 q.2):=by
   have:=r0.put p.1 h.2
   rw[← h.1];exact this
  exact ih e
theorem wM:∀ (more kvs:List (jZ × V)),(ur kvs more).length≤kvs.length+more.length
 | [],kvs=>by show kvs.length≤kvs.length+0;omega
 | p::r,kvs=>by
  have h1:=wM r (Uo kvs p.1 p.2)
  have h2:=WD kvs p.1 p.2
  show (ur (Uo kvs p.1 p.2) r).length≤_
  rw[CI];omega
theorem QU {P:Program} {w:World}:∀ {kvs:List (jZ × V)} {ws:List (Value × Value)},VV (kvs.map fun kv=>(kV kv.1,kv.2)) ws→∃ rs,Carries (ym P w) ws rs∧KV kvs rs
 | [],_,r=>by rw[dJ] at r;cases r;exact⟨[],True.intro,.nil⟩
 | p::kvs,_,r=>by
  rw[CF] at r
  cases r with
  | @cons a b as bs h t =>
   obtain⟨rs,c,q⟩:=QU (P:=P) (w:=w) t
   obtain⟨b1,b2⟩:=b
   exact⟨(p.1,b2)::rs,⟨Oa h.1,rfl,c⟩,.cons ⟨rfl,h.2⟩ q⟩
noncomputable def tZ (trs:List (TE × TE)):TE:=fun σ H Q=>∀ p,H p=none→xV trs σ (upd H p (.dK [])) fun ps H2=>H2 p=some (.dK [])∧∃ kvs:List (jZ × V),ps=kvs.map (fun kv=>(kV kv.1,kv.2))∧kvs.length≤15∧Q (.ref p) (upd H2 p (.dK (ur [] kvs)))
theorem mq {X:Cx} {pos:Pos} {keys:List (Option Expr)} {values:List Expr} {trs:List (TE × TE)} (h:bj X pos keys values trs) (hall:keys.all (·.isSome)=true) (hl:keys.length=values.length) (h0:keys≠[]) (h15:keys.length≤15):PE X (.Dict keys values pos) (tZ trs):=by
 intro pins s σ H Q I q
 have hn:=I.hok.fresh (cP s.heap.objs.size)
 have I1:=I.laid (a:=s.heap.objs.size) (o:=.dK []) (h':=s.heap.push { cls:=.type "dict",data:=.dict #[] }) (t':=s.toks) (fun _ _ q=>Cf _ q) (cP _) (Ut s.heap I.big)
 refine wpAny_Dict_walk (knd:=ym X.prog X.w) hall hl h0 h15 (q0 (h pins _ σ _ _ I1 (q _ hn)) fun ws s2 ⟨ps,H2,I2,rel,e,kvs,ep,lk,q2⟩=>?_)
 subst ep
 obtain⟨rs,c,rk⟩:=QU (P:=X.prog) (w:=X.w) rel
 obtain⟨z,hd,vs0,r0,dd⟩:=bb I2.hok e
 cases r0
 refine⟨rs,c,dd,fun h' dd' hs=>⟨.ref s.heap.objs.size,_,?_,rfl,q2⟩⟩
 have hz:(ur [] kvs).length≤sizeLine:=by
  have h1:=wM kvs []
  rw[dQ] at h1
  rw[sizeLine_eq];omega
 have he:∃ q,h'.get? s.heap.objs.size=some q:=let ⟨q,_,_,hq,_⟩:=dd';⟨q,hq⟩
 exact LA I2 (by rw[e];exact True.intro) hs he (NF hz hd (rk.merge .nil) dd')
structure M1 (X:Cx) (o:Expr) (m:Str) (apos:Pos) (e:Expr) (cpos:Pos):Prop where
 base:attributeBase o m X.env (eval o X.env)=eval o X.env
 few:((backTo cpos (starEach [e] X.env)).all (fun x=>!x.1)&&(backToKw cpos (keywordEach [] X.env)).all (fun x=>x.1.isSome)
  && decide (([e]:List Expr).length+([]:List Keyword).length+(if ([]:List Keyword).isEmpty then 0 else 1)<30))=true
 line:(apos.endLine==cpos.line)=true
 trees:backTo cpos (starEach [e] X.env)=[(false,eval e X.env)]
structure M2 (X:Cx) (o:Expr) (m:Str) (apos:Pos) (e f:Expr) (cpos:Pos):Prop where
 base:attributeBase o m X.env (eval o X.env)=eval o X.env
 few:((backTo cpos (starEach [e,f] X.env)).all (fun x=>!x.1)&&(backToKw cpos (keywordEach [] X.env)).all (fun x=>x.1.isSome)
  && decide (([e,f]:List Expr).length+([]:List Keyword).length+(if ([]:List Keyword).isEmpty then 0 else 1)<30))=true
 line:(apos.endLine==cpos.line)=true
 trees:backTo cpos (starEach [e,f] X.env)=[(false,eval e X.env),(false,eval f X.env)]
noncomputable def cj (H:Hp) (a:Addr):Prop:=(∃ kvs,Rd H a (.dK kvs))∨∃ kvs,Rd H a (.dT kvs)
theorem rK {X:Cx} {pins:List (Addr × Obj)} {σ:St} {H:Hp} {s:Shared} {a:Addr} (I:zN X pins σ H s) (d:cj H a) :
  s.TypeIs (.ref a) "dict"∧(∀ b,Value.ref a = .ref b→∃ ob,s.heap.get? b=some ob∧ob.dict=none)∧(a==sysModules)=false:=by
 rcases d with ⟨kvs,e⟩ | ⟨kvs,e⟩
 ·obtain⟨_,hd,vs,_,dd⟩:=lM I.hok e
  refine⟨dd.typeIs,fun b q=>?_,hd⟩
  cases q
  obtain⟨ob,_,_,h1,h2,_⟩:=dd
  exact⟨ob,h1,h2.2.1⟩
 ·obtain⟨_,hd,xs,_,dd⟩:=nH I.hok e
  refine⟨dd.typeIs,fun b q=>?_,hd⟩
  cases q
  obtain⟨ob,_,_,h1,h2,_⟩:=dd
  exact⟨ob,h1,h2.2.1⟩
section
variable {X:Cx} {pins:List (Addr × Obj)} {σ:St} {H:Hp} {s:Shared} {a:Addr} {y d:V} {u r:Value} {o:Option V} {A:Around} {E:Value→Shared→Prop}
theorem rY {Q:Value→Shared→Prop} (hu:A.units+1<cLine) (I:zN X pins σ H s) (g:tY H a y o) (ry:qG y u) (rd:qG d r) (h:∀ w' s',zN X pins σ H s'→qG (o.getD d) w'→Q w' s') :
  wpAny (model X.prog X.w) A (call (.builtin "dict.get") [.ref a,u,r]) Q E s:=by
 rcases g with ⟨kvs,k,e,ey,l⟩ | ⟨kvs,k,b,e,ey,eb,l⟩
 ·subst ey
  obtain⟨z,hd,vs,rel,dd⟩:=lM I.hok e
  refine call_meetsIn PySem.F.slot_dict_get dd.typeIs PySem.F.entry_dict_get (PySem.F.args_dict_get_3 _ _ _) (meets_dict_get_default (ym X.prog X.w) a (Oa ry) hd r) ⟨_,dd.mapOf,h _ _ (I.tok _) ?_⟩
  rw[l]
  exact (rel.val k).getD rd
 ·subst ey
  cases (show u=Value.ref b from ry)
  obtain⟨z,hd,xs,rel,dd⟩:=nH I.hok e
  refine call_meetsIn PySem.F.slot_dict_get dd.typeIs PySem.F.entry_dict_get (PySem.F.args_dict_get_3 _ _ _) (meetsH_dict_get_default (tupleKind (ym X.prog X.w)) a b hd r) ⟨tupleKind_room_in1 hu,k,xs,Ox I.hok eb,dd,h _ _ (I.tok _) ?_⟩
  rw[l]
  exact (rel.val k).getD rd
end
noncomputable def N7 (td ty tx:TE):TE:=fun σ H Q=>td σ H fun x H1=>∃ a,x = .ref a∧cj H1 a∧ty σ H1 fun y H2=>tx σ H2 fun z H3=>∃ o,tY H3 a y o∧Q (o.getD z) H3
section
variable {X:Cx} {o e f:Expr} {apos cpos:Pos} {td ty tx:TE}
theorem lB (hu:X.A.units+1<cLine) (ho:PE X o td) (he:PE X e ty) (hf:PE X f tx) (m:M2 X o "get" apos e f cpos):PE X (.Call (.Attribute o "get" apos) [e,f] [] cpos) (N7 td ty tx):=by
 intro pins s σ H Q I h
 refine wpAny_Call_method m.base m.few m.line PySem.F.plainAttrs_dict PySem.F.slot_dict_get PySem.F.type_dict_get (q0 (ho pins s σ H _ I h) fun u s1 ⟨x,H1,I1,rx,a,ex,d,q1⟩=>?_)
 subst ex
 obtain rfl:u=Value.ref a:=rx
 obtain⟨t1,t2,_⟩:=rK I1 d
 refine⟨t1,t2,?_⟩
 rw[m.trees]
 refine Calls.callWith_builtin rfl (Calls.evalArgs_plain (Calls.spliced_cons (q0 (he pins s1 σ H1 _ I1 q1) fun iv s2 ⟨y,H2,I2,ry,q2⟩ =>
  Calls.spliced_cons (q0 (hf pins s2 σ H2 _ I2 q2) fun fv s3 ⟨z,H3,I3,rz,ov,g,q3⟩=>Calls.spliced_nil ?_))))
 exact rY hu I3 g ry rz fun w' s4 I4 rw'=>⟨_,H3,I4,rw',q3⟩
end
section
variable {X:Cx} {pins:List (Addr × Obj)} {σ:St} {H:Hp} {s:Shared} {a:Addr} {kvs:List (jZ × V)} {A:Around} {E:Value→Shared→Prop}
end
section
variable {X:Cx} {pins:List (Addr × Obj)} {σ:St} {H:Hp} {s:Shared} {a:Addr} {y:V} {u:Value} {A:Around} {E:Value→Shared→Prop}
end
section
variable {X:Cx}
end
section
variable {κ:Type} [DecidableEq κ]
end
theorem zu.upd {H:Hp} {p:Addr} {o:HO} (hp:H p=none):zu H (L2.upd H p o):=fun b u e=>by
 rw[zG (zP e hp)]
 exact e
theorem zu.tup {K:BFr} {H H':Hp} {a:Addr} {xs:List V} (e:zu H H') (h:qw K H a xs):qw K H' a xs:=by
 rcases h with (h | ⟨o,h⟩) | h
 ·exact .inl (.inl (e _ _ h))
 ·exact .inl (.inr ⟨o,e _ _ h⟩)
 ·exact .inr h
theorem vi.same {K:BFr} {H H':Hp} {v:V} {t:Value} (e:zu H H') (h:vi K H v t):vi K H' v t:=by
 cases h with
 | non=>exact .non
 | bl x=>exact .bl x
 | int i=>exact .int i
 | str x=>exact .str x
 | flt x=>exact .flt x
 | lst q=>exact .lst (e _ _ q)
 | frz q=>exact .frz (e _ _ q)
 | tup q=>exact .tup (e _ _ q)
 | dK q=>exact .dK (e _ _ q)
 | dT q=>exact .dT (e _ _ q)
 | ins q c1 c2 c3 c4 c5=>exact .ins (e _ _ q) c1 c2 c3 c4 c5
theorem JH.same {K:BFr} {H H':Hp} {v:V} (e:zu H H') (h:JH K H v):JH K H' v:=by
 obtain⟨r,h1,h2,h3⟩:=h
 exact⟨r,h1,h2.same e,h3⟩
section
variable {K:BFr} {H:Hp}
theorem ng:vG K H .non:=⟨("NoneType",false,false,false,false),by decide,.non,by decide⟩
theorem Tv (b:Bool):vG K H (.bl b):=⟨("bool",true,true,false,false),by decide,.bl b,by decide⟩
theorem Rm (i:Int):vG K H (.int i):=⟨("int",true,false,false,false),by decide,.int i,by decide⟩
theorem Ru {a:Addr} {xs:List V} (e:H a=some (.lst xs)):vG K H (.ref a):=⟨("list",false,false,false,true),by decide,.lst e,by decide⟩
theorem Ny {a:Addr} {xs:List V} (e:H a=some (.tup xs)):vG K H (.ref a):=⟨("tuple",false,false,false,false),by decide,.tup e,by decide⟩
theorem ba {a:Addr} {kvs:List (jZ × V)} (e:H a=some (.dK kvs)):vG K H (.ref a):=⟨("dict",false,false,false,false),by decide,.dK e,by decide⟩
end
noncomputable def tR:Expr→Bool
 | .Slice _ _ _ _=>true
 | _=>false
theorem Pr {b:Expr} (h:tR b=false):gS b:=fun o i=>by
 cases b <;> first | rfl | cases h
theorem zC {X:Cx} {a b:Expr} {ta tb:TE} {pos:Pos} {r:R2} (hr:T8 X r) (ha:PE X a ta) (hb:PE X b tb) (hs:tR b=false:=by rfl):PE X (.Subscript a b pos) (jV r ta tb):=bf hr ha hb (Pr hs)
theorem XN {α:Type} {xs:List α} {i:Int} {v:α} (h0:0≤i) (h:xs[i.toNat]? = some v):ZI xs i=some v:=by
 have e:=qB h
 rwa [Int.toNat_of_nonneg h0] at e
theorem vj {α:Type} {xs:List α} {i:Int} (h0:0≤i) (h1:i<xs.length):∃ v,ZI xs i=some v∧v∈xs:=by
 have hl:i.toNat<xs.length:=by omega
 exact⟨xs[i.toNat],XN h0 (Ca hl),Dx hl⟩
theorem ZT {a b:Str}:(decide (V.str a=V.str b)=true)↔a=b:=by rw[decide_eq_true_iff];exact⟨fun h=>V.str.inj h,fun h=>congrArg V.str h⟩
theorem kE {a b:Int}:(decide (V.int a=V.int b)=true)↔a=b:=by rw[decide_eq_true_iff];exact⟨fun h=>V.int.inj h,fun h=>congrArg V.int h⟩
theorem T9 (a b:Int):decide (V.int a=V.int b)=decide (a=b):=dD.mpr (kE.trans decide_eq_true_iff.symm)
noncomputable def ZD (ns:List Int) (k:Int):Int:=ns.getD k.toNat 0
theorem L5 {ns:List Int} {k:Int} (h0:0≤k) (h:k<((ns.map V.int).length:Nat)):ZI (ns.map V.int) k=some (.int (ZD ns k)):=by
 rw[cN] at h
 have hl:k.toNat<ns.length:=by omega
 refine XN h0 ?_
 unfold ZD
 rw[cW,Ca hl,CP,Ca hl]
 rfl
theorem pO {ns:List Int} {k:Int} (h:¬ k<((ns.map V.int).length:Nat)):ZD ns k=0:=by
 rw[cN] at h
 unfold ZD
 rw[CP,dh (by omega)]
 rfl
theorem z6 {n:Nat} (h:Nat.ble n 1000=true):n≤sizeLine:=cZ (cY h) (by decide)
noncomputable def LL (H:Hp) (o:HO) (Q:VK):Prop:=∀ p H',zu H H'→H p=none→H' p=some o→Q (.ref p) H'
theorem LL.at {H:Hp} {o:HO} {Q:VK} (h:LL H o Q) {p:Addr} (hp:H p=none):Q (.ref p) (upd H p o):=h p _ (zu.upd hp) hp zq
noncomputable def lL (t:TA):TE:=fun σ H Q=>t σ H fun xs H1=>xs.length≤sizeLine∧LL H1 (.tup xs) Q
noncomputable def nS (t:TA):TE:=fun σ H Q=>t σ H fun xs H1=>xs.length≤sizeLine∧LL H1 (.lst xs) Q
section
variable {X:Cx} {es:List Expr} {t:TA} {pos:Pos}
theorem yA {x1} (h:PA X es t):PE X (.Tuple es x1 pos) (lL t):=by
 intro pins s σ H Q I hq
 refine wpAny_Tuple_spliced (q0 (h pos pins s σ H _ I hq) fun us s1 ⟨xs,H1,I1,r,z,q⟩=>⟨by rw[← r.length];exact z,?_⟩)
 have hf:H1 s1.heap.objs.size=none:=I1.hok.fresh (cP _)
 refine⟨.ref s1.heap.objs.size,upd H1 s1.heap.objs.size (.tup xs),I1.laid (t':=s1.toks) (fun b u e=>Cf _ e) (cP _) ?_,rfl,q.at hf⟩
 exact⟨z,us,r,⟨_,Cq _ rfl,rfl,_,rfl⟩⟩
theorem zU (h:PA X es t):PE X (.List es pos) (nS t):=by
 intro pins s σ H Q I hq
 refine wpAny_List_spliced (q0 (h pos pins s σ H _ I hq) fun us s1 ⟨xs,H1,I1,r,z,q⟩=>⟨by rw[← r.length];exact z,?_⟩)
 have hf:H1 s1.heap.objs.size=none:=I1.hok.fresh (cP _)
 refine⟨.ref s1.heap.objs.size,upd H1 s1.heap.objs.size (.lst xs),I1.laid (t':=s1.toks) (fun b u e=>Cf _ e) (cP _) ?_,rfl,q.at hf⟩
 exact⟨z,us,0,r,Cq _ rfl⟩
noncomputable def r9:TE:=fun _ H Q=>LL H (.dK []) Q
theorem lr:PE X (.Dict [] [] pos) r9:=fun pins s σ H Q I h=>PZ pins s σ H Q I fun p hp=>h.at hp
noncomputable def tS:R2:=fun x y H Q=>∃ l b xs zs,x = .ref l∧y = .ref b∧H l=some (.lst xs)∧H b=some (.lst zs)∧xs.length+zs.length≤sizeLine∧LL H (.lst (xs++zs)) Q
theorem je:wF X (binaryOp .Add) tS:=fun pins s σ H x y v u Q I rx ry ⟨l,b,xs,zs,e1,e2,h1,h2,hz,q⟩=>NU pins s σ H x y v u Q I rx ry ⟨l,b,xs,zs,e1,e2,h1,h2,hz,fun p hp=>q.at hp⟩
end
structure GB (K:BFr) (H:Hp) (ea C:Addr):Prop where
 ex:∃ oe vs,H ea=some (UB ea oe)∧oe.cls = .ref C∧oe.dict=none∧oe.data = .fields vs
 cls:XK.vk K C
theorem GB.same {K:BFr} {H H':Hp} {ea C:Addr} (h:GB K H ea C) (s:zu H H'):GB K H' ea C:=by
 obtain⟨⟨oe,vs,e,r⟩,c⟩:=h
 exact⟨⟨oe,vs,s _ _ e,r⟩,c⟩
theorem GB.ty {K:BFr} {H:Hp} {ea C:Addr} (h:GB K H ea C):B9 K H (.ref ea) (.ref C):=by
 obtain⟨⟨oe,vs,e,e1,e2,e3⟩,c⟩:=h
 exact .inr ⟨ea,oe,C,vs,rfl,rfl,e,e1,e2,e3,c⟩
section
variable {X:Cx}
theorem zN.walked {pins:List (Addr × Obj)} {σ:St} {H:Hp} {s:Shared} (I:zN X pins σ H s) {u:Obj} {h':Heap} {tk:Nat} (hk:∀ b o,b∉[s.heap.objs.size]→(s.heap.push u).get? b=some o→h'.get? b=some o) :
  zN X pins σ H { s with heap:=h',toks:=tk } :=
 I.kept (t':=tk) fun b o e=>hk b o (by simp;exact Cc (cV e)) (Cf _ e)
theorem GV {α:Type} (bs:List α) (d:α) (p:α→Bool):(List.range bs.length).all (fun i=>p (bs.getD i d))=bs.all p:=by
 induction bs with
 | nil=>rfl
 | cons b r ih =>
  rw[CI,eI,dM,dF,dM]
  congr 1
theorem rX {bs:List Bool} {its:List Value} (rv:qt (bs.map V.bl) its) {i:Nat} {v:Value} (e:its.toArray[i]? = some v):v = .bool (bs.getD i false):=by
 have hl:=rv.length
 rw[cN] at hl
 have hi:i<its.length:=by
  have:=(dq.mp e).1
  simpa using this
 have hx:(bs.map V.bl)[i]? = some (V.bl (bs.getD i false)):=by
  rw[cW,Ca (by omega),CP,Ca (by omega)]
  rfl
 obtain⟨u,e1,e2⟩:=rv.get hx
 have e3:its[i]? = some v:=by simpa using e
 rw[e1] at e3
 cases e3
 exact e2
theorem jD (hc:X.calm=true):vH X (.builtin "all") (fun xs H Q=>∃ (a:Addr) (bs:List Bool),xs=[.ref a]∧zY X.K H a (bs.map V.bl)∧Q (.bl (bs.all id)) H):=by
 intro pins s σ H xs us Q I r h
 obtain⟨a,bs,rfl,hS,q⟩:=h
 obtain⟨u,rfl,ru⟩:=wQ r
 cases ru
 obtain⟨its,rv,pl,hz⟩:=I.list hS
 have hl:its.length=bs.length:=by rw[← rv.length,cN]
 have hlt:a≠s.heap.objs.size:=by obtain⟨o,e,_⟩:=pl.isList;exact Cc (cV e)
 refine call_all_walk (wpAny_pyIter_list pl.isList ?_)
 refine⟨s.heap.objs.size,_,_,_,_,_,fun i=>bs.getD i false,rfl,Walks.list (A:=X.A.in1) (I.ok.hd hc) _ a hlt its.toArray,⟨⟨_,Cq _ rfl,rfl,rfl⟩,pl.isList.push _⟩,fun i v s' Q' E' hP hQ=>?_,fun h' tk hk=>?_⟩
 ·rw[rX rv hP]
  exact wpAny_truthy_bool hQ
 ·refine⟨.bl _,H,I.walked hk,rfl,?_⟩
  have e:(List.range its.toArray.size).all (fun i=>bs.getD i false)=bs.all id:=by
   rw[Cy,hl]
   exact GV bs false id
  rw[e]
  exact q
theorem L6 {ns:List Int} {its:List Value} (rv:qt (ns.map V.int) its) {i:Nat} {v:Value} (e:its.toArray[i]? = some v):∃ t,v = .int (ns.getD i 0) t:=by
 have hl:=rv.length
 rw[cN] at hl
 have hi:i<its.length:=by
  have:=(dq.mp e).1
  simpa using this
 have hx:(ns.map V.int)[i]? = some (V.int (ns.getD i 0)):=by
  rw[cW,Ca (by omega),CP,Ca (by omega)]
  rfl
 obtain⟨u,e1,e2⟩:=rv.get hx
 have e3:its[i]? = some v:=by simpa using e
 rw[e1] at e3
 cases e3
 exact e2
theorem ZH (l:List Int):∀ j,preSum (fun i=>l.getD i 0) j=(l.take j).sum
 | 0=>by simp[preSum]
 | j+1=>by
  rw[preSum,ZH l j]
  by_cases h:j<l.length
  ·have e:l.take (j+1)=l.take j++[l[j]]:=by rw[List.take_succ,Ca h];rfl
   rw[e,List.sum_append,CP,Ca h]
   simp
  ·rw[dj (by omega),dj (by omega),CP,dh (by omega)]
   simp
theorem vc (hc:X.calm=true):vH X (.builtin "sum") (fun xs H Q=>∃ (a:Addr) (ns:List Int),xs=[.ref a]∧zY X.K H a (ns.map V.int)∧Q (.int ns.sum) H):=by
 intro pins s σ H xs us Q I r h
 obtain⟨a,ns,rfl,hS,q⟩:=h
 obtain⟨u,rfl,ru⟩:=wQ r
 cases ru
 obtain⟨its,rv,pl,hz⟩:=I.list hS
 have hl:its.length=ns.length:=by rw[← rv.length,cN]
 have hlt':a<s.heap.objs.size:=by obtain⟨o,e,_⟩:=pl.isList;exact cV e
 have hlt:a≠s.heap.objs.size:=Cc hlt'
 refine call_sum_walkG (wpAny_pyIter_list pl.isList ?_)
 refine⟨s.heap.objs.size,_,_,_,_,_,fun i=>ns.getD i 0,rfl,Walks.list (A:=X.A.in1) (I.ok.hd hc) _ a hlt its.toArray,⟨⟨_,Cq _ rfl,rfl,rfl⟩,pl.isList.push _⟩,fun b hb=>?_,fun i v hP=>L6 rv hP,fun h' tk t' hk=>?_⟩
 ·show b<(s.heap.push _).objs.size
  rw[dU]
  rcases cU.mp hb with rfl | hb
  ·exact dN _
  ·rw[Co.mp hb]
   exact Dz hlt'
 ·refine⟨.int _,H,I.walked hk,⟨t',rfl⟩,?_⟩
  have e:preSum (fun i=>ns.getD i 0) its.toArray.size=ns.sum:=by
   rw[Cy,hl,ZH,dj (cP _)]
  rw[e]
  exact q
end
noncomputable def GQ (l:List Nat) (lo hi:Option Int):List Nat:=(l.drop (HT.Zo l.length 0 lo)).take (HT.Zo l.length l.length hi - HT.Zo l.length 0 lo)
theorem Z8 (n d:Nat) (v:Int):max 0 (min (if v<0 then v+(n:Int) else v) (n:Int))=((HT.Zo n d (some v):Nat):Int):=by
 show _=(((if v<0 then (v+(n:Int)).toNat else min v.toNat n):Nat):Int)
 by_cases hv:v<0
 ·have le:=Int.add_le_add_right (Int.le_of_lt hv) (n:Int)
  rw[dR] at le
  rw[if_pos hv,if_pos hv,Int.min_eq_left le,Int.ofNat_toNat,Int.max_comm]
 ·obtain⟨m,rfl⟩:=d4 (Int.not_lt.mp hv)
  rw[if_neg hv,if_neg hv,CD,Int.max_eq_right (Int.le_min.mpr ⟨Di m,Di n⟩)]
  rcases Nat.le_total m n with c | c
  ·rw[dA c,Int.min_eq_left (Int.ofNat_le.mpr c)]
  ·rw[Dj c,Int.min_eq_right (Int.ofNat_le.mpr c)]
theorem PH (lo hi:Option Int) (n:Nat):Builtin.Str.strSliceIndices lo hi 1 n=sliceRange ((HT.Zo n 0 lo:Nat):Int) ((HT.Zo n n hi:Nat):Int) 1:=by
 unfold Builtin.Str.strSliceIndices
 simp only[show (1:Int) > 0 by decide,if_true]
 cases lo with
 | none =>
  cases hi with
  | none=>rfl
  | some j=>simp only[Z8 n n j];rfl
 | some i =>
  cases hi with
  | none=>simp only[Z8 n 0 i];rfl
  | some j=>simp only[Z8 n 0 i,Z8 n n j]
theorem ZO (z:Str) (lo hi:Option Int):(Txt.slice z lo hi).cps.toList=GQ z.cps.toList lo hi:=by
 have len:z.length=z.cps.toList.length:=CN.symm
 have ix:=(PH lo hi z.length).trans (sliceRange_one _ _)
 have key:(Builtin.Str.strSliceIndices lo hi 1 z.length).filterMap (z.cps[·]?)=GQ z.cps.toList lo hi:=by
  rw[ix,pick_run,len]
  rfl
 unfold Txt.slice
 split
 ·rename_i h
  have h:(Builtin.Str.strSliceIndices lo hi 1 z.length).length=z.length:=by simpa using h
  rw[ix,cN,CG,len] at h
  have a2:=HT.NO z.cps.toList.length z.cps.toList.length (cP _) hi
  have hl:(GQ z.cps.toList lo hi).length=z.cps.toList.length:=by
   unfold GQ
   rw[Cz,dX,h]
   exact dA (cZ (dW h.symm) (Nat.sub_le_sub_right a2 _))
  exact (((List.take_sublist _ _).trans (List.drop_sublist _ _)).eq_of_length hl).symm
 ·exact key
noncomputable def mP:V→Option Int→Option Int→Hp→VK→Prop:=fun x lo hi H Q=>∃ z,x = .str z∧z.length≤sizeLine∧Q (.str (Txt.slice z lo hi)) H
theorem Jc {v:Value} {o:Option Int} (p:IsPart v o):∃ l:Option (Int × Tok),v=partValue l∧o=l.map (·.1):=by
 cases p with
 | none=>exact⟨none,rfl,rfl⟩
 | int i t=>exact⟨some (i,t),rfl,rfl⟩
theorem um {X:Cx}:b6 X mP:=by
 intro pins s σ H x v vl vu lo hi sl Q I rx hs pl pu h
 obtain⟨z,rfl,hz,q⟩:=h
 obtain⟨t,rfl⟩:=rx
 obtain⟨l,rfl,rfl⟩:=Jc pl
 obtain⟨u,rfl,rfl⟩:=Jc pu
 refine⟨"str",_,F.slot_str_getitem.lookup,typeIs_str _ _ _,wpAny_getItem_str_slice (l:=l) (u:=u) (st:=none) hs rfl ?_⟩
 exact post_val_or_str ⟨cZ (Txt.slice_le z _ _) hz,fun t' k=>⟨.str _,H,I.tok k,⟨t',rfl⟩,q⟩⟩
noncomputable def qH (xe:Value→Shared→Prop) (X:Cx) (Nc:List Str) (scope:Scope) (cl:List (Str × Addr)) (C:Addr) (fp:List Addr) (s:Shared) (H:Hp):Cx :=
 { X with N:=Nc,s₀:=s,H₀:=H,env:=compEnvC scope cl C X.env,outer:=X.stack,ex:=fp,fn:=fun _=>false,pn:=[],xe:=xe }
abbrev we:=qH fun _ _=>False
noncomputable def jx (J:It) (D:Addr) (g:TG) (tt:TT) (te:TE) (fin:List V→Hp→Prop) (σ:St) (H:Hp):Prop :=
 ∃ W:Nat→Nat→List V→St→Hp→Prop,(∃ m,W 0 m [] σ H)∧(∀ i m ys σ H,W i m ys σ H→H D=some (.lst ys)) ∧
  ∀ i m ys σ H,W i m ys σ H→(J.stop i H∧fin ys H) ∨
   (J.go i H∧∃ N:List V→St→Hp→Prop,(∀ ys' σ' H',N ys' σ' H'→∃ m',m'<m∧W (i+1) m' ys' σ' H') ∧
    ∀ x H',J.yld i H x H'→g x σ H' fun σ1 H1=>tt σ1 H1 fun b H2=>if b=true then te σ1 H2 fun y H3=>H3 D=some (.lst ys)∧ys.length<sizeLine∧N (ys++[y]) σ1 (upd H3 D (.lst (ys++[y]))) else N ys σ1 H2)
noncomputable def WT (src:List (Option Nat)) (wi:TI) (g:TG) (tt:TT) (te:TE):TE:=fun σ H Q=>wi σ H fun J H1=>∀ D,H1 D=none→jx J D g tt te (fun ys H2=>Q (.ref D) H2) (o7 src σ) (upd H1 D (.lst []))
section
variable {X:Cx} {elt iter tgt:Expr} {ifs:List Expr} {scope:Scope} {cl:List (Str × Addr)} {Nc:List Str} {src:List (Option Nat)} {g:TG} {tt:TT} {te:TE}
theorem uS {xe:Value→Shared→Prop} {pins:List (Addr × Obj)} {σ:St} {H:Hp} {s:Shared} {D it:Addr} {fp:List Addr} {tn:Nat→Heap→Prop} {J:It} {R:Addr→Result→Shared→Prop} {fin:List V→Hp→Prop} {pos:Pos} {E:Value→Shared→Prop}
  (c:VC X Nc scope cl src) (hcalm:X.calm=true) (I:zN X pins σ H s) (T:U9 X.prog X.w X.K tgt J fp it tn) (st0:tn 0 s.heap) (f:∀ b∈fp,yv X pins H b) (hb:PG (qH xe X Nc scope cl s.heap.objs.size fp s H) tgt g∧j8 (qH xe X Nc scope cl s.heap.objs.size fp s H) ifs tt∧PE (qH xe X Nc scope cl s.heap.objs.size fp s H) elt te) (h:jx J D g tt te fin (o7 src σ) H) (hx:∀ x s',xe x s'→notedBy (model X.prog X.w) X.A (compEnvC scope cl s.heap.objs.size X.env) (fun e s'=>R s.heap.objs.size (.error e) s') x s') (kend:∀ C ys σ' H' s',H C=none→zN (qH xe X Nc scope cl C fp s H) [] σ' H' s'→H' D=some (.lst ys)→fin ys H'→R C (.ok .next) s') :
  wpAny (model X.prog X.w) X.A (newFunctionEnv scope X.env.globals cl [] X.env.qual none .none (some X.env)) (fun cenv s4 =>
   codeAny (model X.prog X.w) X.A (.compStart (.ListComp elt [⟨tgt,iter,ifs,0⟩] scope pos) 0 (.ref it) (.ref D) { cenv with scope:=relabel scope X.env }) (R cenv.locals) s4) E s:=by
 obtain⟨W,⟨m0,w0⟩,wi,wt⟩:=h
 refine wpAny_newFunctionEnv c.cell (by intro y hy;simp at hy) (fun h1 hn1 hs1=>?_) c.kind
 have hC0:H s.heap.objs.size=none:=I.hok.fresh (cP _)
 have old:∀ b o,s.heap.get? b=some o→h1.get? b=some o:=fun b o e=>hs1.extBut b o (Cc (cV e)) (Cf _ e)
 have fplt:∀ b∈fp,b<s.heap.objs.size:=fun b hb=>by
  obtain⟨o,e,_⟩:=T.obj 0 _ st0 b hb
  exact cV e
 have inStk:∀ b∈fp,b∉GT X.stack:=fun b hb z=>(cU.mp (I.stkSub b z)).elim (f b hb).2.1 (f b hb).2.2.1
 have Yok:(qH xe X Nc scope cl s.heap.objs.size fp s H).Ok:=by
  refine⟨I.ok.mod,c.kind,I.ok.glob,I.ok.blt,cP _,fun x y b h1 h2=>I.ok.inj x y b (c.sub x b h1) (c.sub y b h2),fun x hx=>c.has x hx,(fun x b h1 _=>nomatch h1),I.ok.hd,I.ok.frames,.inl rfl,fun b hb=>?_,fun b o e=>I.bs b o e,cZ I.ok.bsz I.sz,fun b o e hb=>?_,fun b hb=>?_,I.stack,I.stkFree⟩
  ·exact⟨Cc (fplt b hb),fun x b' e=>(f b hb).2.2.2.2.1 x b' (c.sub x b' e)⟩
  ·have e0:=(I.ok.bs b o e).1
   rcases (f b hb).2.2.2.1 with z | z
   ·exact I.ok.noex b o e z
   ·rw[z] at e0;cases e0
  ·exact inStk b hb
 have J0:zN (qH xe X Nc scope cl s.heap.objs.size fp s H) [] (o7 src σ) H { s with heap:=h1,toks:=s.toks+([]:List (Str × Value)).length }:=by
  refine⟨Yok,rfl,I.bare,Un.kept old,⟨_,hn1,fun i x v e1 e2 e3=>?_⟩,fun x b e=>?_,hC0,fun x b e=>I.freeC x b (c.sub x b e),fun p hp=>absurd (show p∈([]:List (Addr × Obj)) from hp) (by simp),I.hok.kept old,?_⟩
  ·unfold o7 at e2
   rw[cW] at e2
   cases q:src[i]? with
   | none=>rw[q] at e2;cases e2
   | some oj =>
    rw[q] at e2
    cases oj with
    | none=>cases e2
    | some j =>
     obtain⟨y,y1,y2,y3,y4⟩:=c.frm i j q
     obtain rfl:y=x:=Option.some.inj (y1.symm.trans e1)
     have e2':(σ[j]?).join=some v:=Option.some.inj e2
     have e2s:σ[j]? = some (some v):=by
      cases z:σ[j]? with
      | none=>rw[z] at e2';cases e2'
      | some ov=>rw[z] at e2';exact congrArg some e2'
     obtain⟨m,hn,hl⟩:=I.loc
     obtain⟨u,r,l⟩:=hl j y v y2 e2s (.inr (.inl y3))
     refine⟨u,r,.inr ⟨.inl y4,?_⟩⟩
     rcases l with ⟨k1,_⟩ | ⟨_,b,k2,k3⟩
     ·exact absurd (k1.symm.trans y3) (by intro z;cases z)
     ·obtain⟨b',k4⟩:=c.has y (.inl y4)
      have k5:=c.sub y b' k4
      rw[k2] at k5
      cases k5
      obtain⟨o,ho,hd⟩:=k3
      exact⟨b,k4,o,old b o ho,hd⟩
  ·obtain⟨v,o,ho,hd⟩:=I.cell x b (c.sub x b e)
   exact⟨v,o,old b o ho,hd⟩
  ·unfold o7
   rw[cN]
   exact c.len
 have st1:tn 0 h1:=T.keep _ _ _ st0 fun b _ o e=>old b o e
 obtain⟨bg,bi,be⟩:=hb
 have fpY:∀ {H2:Hp},(∀ b∈fp,H2 b=none)→∀ b∈fp,yv (qH xe X Nc scope cl s.heap.objs.size fp s H) [] H2 b:=fun {H2} n b hb =>
  ⟨n b hb,Cc (fplt b hb),inStk b hb,.inl hb,fun x b' e=>(f b hb).2.2.2.2.1 x b' (c.sub x b' e),fun p hp=>absurd (show p∈([]:List (Addr × Obj)) from hp) (by simp)⟩
 have loop:codeAny (model X.prog X.w) X.A (.compLoop (.ListComp elt [⟨tgt,iter,ifs,0⟩] scope pos) 0 (.ref it) (.ref D) (compEnvC scope cl s.heap.objs.size X.env)) (R s.heap.objs.size) { s with heap:=h1,toks:=s.toks+([]:List (Str × Value)).length }:=by
  refine G3 (EX:=xe) hx (fun n s'=>∃ i ys σ' H',zN (qH xe X Nc scope cl s.heap.objs.size fp s H) [] σ' H' s'∧tn i s'.heap∧(∀ b∈fp,H' b=none)∧W i n ys σ' H') ?_ m0 ⟨0,[],_,H,J0,st1,fun b hb=>(f b hb).1,w0⟩
  rintro n s2 ⟨i,ys,σ2,H2,J2,st2,fr2,w2⟩
  have q2:=wi i n ys σ2 H2 w2
  rcases wt i n ys σ2 H2 w2 with ⟨stop,qn⟩ | ⟨go,N,hN,step⟩
  ·refine q0 (T.done (qH xe X Nc scope cl s.heap.objs.size fp s H) rfl rfl rfl hcalm i [] s2 σ2 H2 _ J2 (fpY fr2) st2 stop) fun r s4 ⟨hr,I4⟩=>?_
   subst hr
   exact kend _ ys σ2 H2 _ hC0 I4 q2 qn
  ·refine q0 (T.item (qH xe X Nc scope cl s.heap.objs.size fp s H) rfl rfl rfl hcalm i [] s2 σ2 H2 _ J2 (fpY fr2) st2 go) fun r s4 ⟨u,hr,h4⟩=>?_
   subst hr
   refine q0 h4 fun _ s5 ⟨x,H5,I5,r5,y5,st5,fr5⟩=>?_
   have I5':=I5.pinned (fpY fr5) (T.obj _ _ st5)
   have back:∀ {σ7:St} {H7:Hp} {s7:Shared},zN (qH xe X Nc scope cl s.heap.objs.size fp s H) ([]++uy fp s5.heap) σ7 H7 s7→zN (qH xe X Nc scope cl s.heap.objs.size fp s H) [] σ7 H7 s7∧tn (i+1) s7.heap∧∀ b∈fp,H7 b=none:=fun {σ7 H7 s7} I7=>by
    refine⟨I7.unpinned,T.keep _ _ _ st5 fun b hb o e=>(I7.pin (b,o) (CC _ (CC _ (vh hb e)))).1,fun b hb=>?_⟩
    obtain⟨o,e,d⟩:=T.obj _ _ st5 b hb
    exact (I7.pin (b,o) (CC _ (CC _ (vh hb e)))).2.1
   refine q0 (bg _ s5 σ2 H5 x u _ I5' r5 (step x H5 y5)) fun _ s6 ⟨σ6,H6,I6,q6⟩=>?_
   refine q0 (bi _ s6 σ6 H6 _ I6 q6) fun b s7 ⟨H7,I7,q7⟩=>?_
   cases b with
   | false =>
    obtain⟨m',hm,w7⟩:=hN _ _ _ q7
    obtain⟨J7,st7,fr7⟩:=back I7
    exact⟨m',hm,i+1,ys,σ6,H7,J7,st7,fr7,w7⟩
   | true =>
    refine q0 (be _ s7 σ6 H7 _ I7 q7) fun y s8 ⟨vy,H8,I8,ry,hD8,hl8,n8⟩=>?_
    refine q0 (jm (X:=qH xe X Nc scope cl s.heap.objs.size fp s H) _ s8 σ6 H8 (.ref D) [vy] (.ref D) [y] (fun _ H'=>H'=upd H8 D (.lst (ys++[vy]))) I8 rfl (.cons ry .nil) ⟨D,ys,vy,rfl,rfl,hD8,hl8,rfl⟩) fun _ s9 ⟨_,H9,I9,_,e9⟩=>?_
    subst e9
    obtain⟨m',hm,w8⟩:=hN _ _ _ n8
    obtain⟨J9,st9,fr9⟩:=back I9
    exact⟨m',hm,i+1,ys++[vy],σ6,_,J9,st9,fr9,w8⟩
 exact codeAny_compStart_list loop (T.self _ 0 _ _ _ st1 loop)
theorem uC {xe:Value→Shared→Prop} {pins:List (Addr × Obj)} {σ σ':St} {H H':Hp} {s s':Shared} {C:Addr} {fp:List Addr} {h':Heap} (I:zN X pins σ H s) (f:∀ b∈fp,yv X pins H b) (J:zN (qH xe X Nc scope cl C fp s H) [] σ' H' s') (hs:Heap.SameBut C s'.heap h') :
  zN X pins σ H' { s' with heap:=h' }:=by
 have nC:∀ b o,s.heap.get? b=some o→b≠C:=fun b o e=>Cc (CJ (cV e) J.ok.above)
 have B:=J.base
 refine I.call' (s':={ s' with heap:=h' }) (ch:=fp) J.os ⟨fun b o e n hb hx=>(hs.2 b (nC b o e)).trans (B.keep b o e n hb hx),fun b o e n hb hx=>?_,B.free,fun b o e hx=>?_,B.tups,B.frzs,B.tbls⟩ (fun b u q=>?_) J.bare fun b hb=>?_
 ·obtain⟨sl,z⟩:=B.slot b o e n hb hx
  exact⟨sl,(hs.2 b (nC b o e)).trans z⟩
 ·obtain⟨o',z⟩:=B.there b o e hx
  exact⟨o',(hs.2 b (nC b o e)).trans z⟩
 ·have hC:H' C=none:=J.free
  refine (J.hok b u q).stay (fun c v hc z=>(hs.2 c ?_).trans z) (fun _ z=>z) fun _ _ z=>z
  rintro rfl
  rcases hc with hc | hc
  ·rw[← hc,hC] at q;cases q
  ·rw[hC] at hc;cases hc
 ·exact⟨(f b hb).2.2.2.1,(f b hb).2.1,(f b hb).2.2.2.2.1,(f b hb).2.2.2.2.2⟩
theorem qv {wi:TI} {pos:Pos} (c:VC X Nc scope cl src) (hcalm:X.calm=true) (hi:PI X tgt iter wi) (hb:∀ fp C s' H',PG (we X Nc scope cl C fp s' H') tgt g∧j8 (we X Nc scope cl C fp s' H') ifs tt∧PE (we X Nc scope cl C fp s' H') elt te) (hs:∀ x,foldedSetIterable iter X.env x=pure x:=by intro _;rfl):PE X (.ListComp elt [⟨tgt,iter,ifs,0⟩] scope pos) (WT src wi g tt te):=by
 intro pins s σ H Q I h
 rw[eval_ListComp]
 refine wpAny_comprehension_free (use:=none) rfl hs c.clos c.kind c.names (q0 (hi pins s σ H _ I h) fun v s1 h1=>q0 h1 fun itv s2 h2=>?_)
 obtain⟨it,fp,tn,J,H2,e,I2,T,st2,f2,hT⟩:=h2
 subst e
 refine wpAny_newObj_type ?_ (by size_fits)
 have old:∀ b o,s2.heap.get? b=some o→(s2.heap.push { cls:=.type "list",data:=.seq ([]:List Value).toArray }).get? b=some o:=fun b o e=>Cf _ e
 have I3:=I2.laid (a:=s2.heap.objs.size) (o:=.lst []) (t':=s2.toks) (h':=s2.heap.push { cls:=.type "list",data:=.seq ([]:List Value).toArray }) old (cP _) ⟨Cw _,[],0,.nil,Cq _ rfl⟩
 have ne:∀ b∈fp,b≠s2.heap.objs.size:=fun b hb=>by
  obtain⟨o,e,_⟩:=T.obj 0 _ st2 b hb
  exact Cc (cV e)
 have f3:∀ b∈fp,yv X pins (upd H2 s2.heap.objs.size (.lst [])) b:=fun b hb=>⟨by rw[zG (ne b hb)];exact (f2 b hb).1,(f2 b hb).2⟩
 refine uS (it:=it) (R:=fun C=>compPost (model X.prog X.w) X.A X.xe none (EP X pins σ Q) _ C) c hcalm I3 T (T.keep _ _ _ st2 fun b _ o e=>old b o e) f3 (hb fp _ _ _) (hT _ (I2.hok.fresh (cP _))) (fun _ _ z=>z.elim) fun C ys σ' H' s' hC J' hD q=>?_
 obtain⟨m,hn,_⟩:=id J'.loc
 exact⟨m,hn,fun h' hs'=>⟨.ref _,H',uC I3 f3 J' hs',rfl,q⟩⟩
end
section
variable {K:BFr} {a D:Addr} {xs:List V} {g:TG} {tt:TT} {te:TE} {fin:List V→Hp→Prop} {σ:St} {H:Hp}
noncomputable def Yp (D:Addr) (g:TG) (tt:TT) (te:TE) (x:V) (ys:List V) (N:List V→St→Hp→Prop) (σ:St) (H:Hp):Prop :=
 g x σ H fun σ1 H1=>tt σ1 H1 fun b H2=>if b=true then te σ1 H2 fun y H3=>H3 D=some (.lst ys)∧ys.length<sizeLine∧N (ys++[y]) σ1 (upd H3 D (.lst (ys++[y]))) else N ys σ1 H2
theorem Xe (Pv:Nat→List V→St→Hp→Prop) (h0:Pv 0 [] σ H) (hl:∀ i ys σ H,i≤xs.length→Pv i ys σ H→zY K H a xs∧H D=some (.lst ys)) (hs:∀ i x ys σ H,xs[i]? = some x→Pv i ys σ H→Yp D g tt te x ys (Pv (i+1)) σ H) (hd:∀ ys σ H,Pv xs.length ys σ H→fin ys H):jx (Nn K a) D g tt te fin σ H:=by
 refine⟨fun i m ys σ H=>m=xs.length - i∧i≤xs.length∧Pv i ys σ H,⟨xs.length,by simp,Cw _,h0⟩,fun i m ys σ H ⟨_,hi,p⟩=>(hl i ys σ H hi p).2,?_⟩
 rintro i m ys σ H ⟨rfl,hi,p⟩
 have q:=(hl i ys σ H hi p).1
 by_cases hlt:i<xs.length
 ·refine .inr ⟨⟨xs,xs[i],q,by simp[hlt]⟩,Pv (i+1),fun ys' σ' H' p'=>⟨xs.length - (i+1),by omega,rfl,hlt,p'⟩,fun x H' y=>?_⟩
  obtain⟨e,y⟩:=y
  subst e
  exact hs i x ys σ _ (y xs q) p
 ·have e:i=xs.length:=by omega
  subst e
  exact .inl ⟨⟨xs,q,cP _⟩,hd ys σ H p⟩
end
noncomputable def bB (z:Str):It:=⟨fun i _=>i<z.cps.size,fun i H x H'=>H'=H∧∃ c,z.cps[i]? = some c∧x = .str ⟨#[c]⟩,fun i _=>z.cps.size≤i⟩
theorem VS (z:Str):strIterType z = "str_ascii_iterator"∨strIterType z = "str_iterator":=by
 unfold strIterType
 split
 ·exact .inl rfl
 ·exact .inr rfl
theorem lN {P:Program} {w:World} {K:BFr} {tg:Expr} (z:Str) (t:Tok) (it:Addr):U9 P w K tg (bB z) [it] it (fun i h=>h.IsStrIter it (strIterType z) z t i) where
 mem:=by simp
 obj:=fun i h st b hb=>by
  have e:b=it:=by simpa using hb
  subst e
  obtain⟨o,e,c,d⟩:=st
  exact⟨o,e,fun v q=>by rw[d] at q;cases q⟩
 keep:=fun i h h' st k=>by
  obtain⟨o,e,r⟩:=st
  exact⟨o,k it (by simp) o e,r⟩
 item:=by
  intro X hP hw hK hc i pins s σ H E I hf st hg
  subst hP hw hK
  have hg':i<z.cps.size:=hg
  have hx:z.cps[i]? = some z.cps[i]:=dB hg'
  obtain⟨f0,f1,f2,f3,f4,f5⟩:=hf it (by simp)
  have fin:∀ h':Heap,h'.IsStrIter it (strIterType z) z t (i+1)→Heap.SameBut it s.heap h'→∃ u,some (Value.str ⟨#[z.cps[i]]⟩ s.toks)=some u ∧
    wpAny (model X.prog X.w) X.A (letOwnedTupleGo tg (.ref it) u) (fun _ s2=>∃ x H',zN X pins σ H' s2∧qG x u∧(bB z).yld i H x H'∧s2.heap.IsStrIter it (strIterType z) z t (i+1)∧∀ b∈[it],H' b=none) E { s with heap:=h',toks:=s.toks+1 }:=fun h' st' sb=>by
   have I1:zN X pins σ H { s with heap:=h',toks:=s.toks+1 }:=I.turned (t':=s.toks+1) (fun b o hb e=>(sb.2 b hb).trans e) f0 f1 f3 f4 f5
   obtain⟨o,e,c,d⟩:=id st'
   refine⟨_,rfl,V8 (s:={ s with heap:=h',toks:=s.toks+1 }) e c d ?_ ⟨.str ⟨#[z.cps[i]]⟩,H,I1,⟨_,rfl⟩,⟨rfl,_,hx,rfl⟩,st',fun b hb=>(hf b hb).1⟩⟩
   rcases VS z with q | q <;> rw[q] <;> decide
  rcases VS z with q | q
  ·rw[q] at st fin ⊢
   exact wpAny_pyNext_ascii_item st hx fun h' st' sb=>fin h' st' sb
  ·rw[q] at st fin ⊢
   exact wpAny_pyNext_wide_item st hx fun h' st' sb=>fin h' st' sb
 done:=by
  intro X hP hw hK hc i pins s σ H E I hf st hg
  subst hP hw hK
  have hg':z.cps.size≤i:=hg
  have hx:z.cps[i]? = none:=DA hg'
  obtain⟨f0,f1,f2,f3,f4,f5⟩:=hf it (by simp)
  have fin:∀ h':Heap,Heap.ExtBut it s.heap h'→(none:Option Value)=none∧zN X pins σ H { s with heap:=h' }:=fun h' eb=>⟨rfl,I.turned (t':=s.toks) (fun b o hb e=>eb b o hb e) f0 f1 f3 f4 f5⟩
  rcases VS z with q | q
  ·rw[q] at st
   exact wpAny_pyNext_ascii_end (I.ok.hd hc) st hx fin
  ·rw[q] at st
   exact wpAny_pyNext_wide_end (I.ok.hd hc) st hx fin
 self:=fun _ _ _ _ _ st h=>by
  rcases VS z with q | q
  ·rw[q] at st
   exact wpAny_pyIter_striter_ascii st h
  ·rw[q] at st
   exact wpAny_pyIter_striter_wide st h
noncomputable def oJ (tl:TE):TI:=fun σ H R=>tl σ H fun x H1=>∃ z,x = .str z∧R (bB z) H1
theorem Qv {X:Cx} {tg l:Expr} {tl:TE} (hl:PE X l tl):PI X tg l (oJ tl):=by
 intro pins s σ H R I h
 refine q0 (hl pins s σ H _ I h) fun v s1 ⟨x,H1,I1,r1,q1⟩=>?_
 obtain⟨z,e,q⟩:=q1
 subst e
 obtain⟨t,rfl⟩:=r1
 refine wpAny_pyIter_strU ?_
 refine⟨s1.heap.objs.size,[s1.heap.objs.size],_,_,H1,rfl,I1.kept (t':=s1.toks) fun b o e=>Cf _ e,lN z t _,⟨_,Cq _ rfl,rfl,rfl⟩,fun b hb=>?_,q⟩
 have e:b=s1.heap.objs.size:=by simpa using hb
 subst e
 exact I1.fpOk (cP _) (I1.hok.fresh (cP _))
noncomputable def cf (c:Nat):V:=.str ⟨#[c]⟩
section
variable {D:Addr} {g:TG} {tt:TT} {te:TE} {fin:List V→Hp→Prop} {σ:St} {H:Hp} {z:Str}
end
section
variable {X:Cx}
theorem gn (x:Str) (c:Nat):(!(Builtin.Str.occurrences x ⟨#[c]⟩ 0 x.length 1).isEmpty)=x.cps.toList.contains c:=by
 rw[dD,StrLaws.found_iff,du]
 constructor
 ·rintro ⟨i,h⟩
  exact CS ((StrLaws.subAt_one x c i).mp h)
 ·intro h
  obtain⟨i,hi⟩:=List.getElem?_of_mem h
  exact⟨i,(StrLaws.subAt_one x c i).mpr hi⟩
noncomputable def jI (z:Str) (n:Int):Str:=⟨(List.replicate n.toNat z.cps.toList).flatten.toArray⟩
theorem Jy (a:Array Nat):∀ (k:Nat) (acc:Array Nat),((List.replicate k a).foldl (· ++ ·) acc).toList=acc.toList++(List.replicate k a.toList).flatten
 | 0,acc=>by simp
 | k+1,acc=>by
  rw[DQ,d5,Jy a k,DQ,Dw,Array.toList_append,Da]
theorem XF:wF X (binaryOp .Mult) (fun x y H Q=>∃ z n,x = .str z∧y = .int n∧-(2 ^ 63)≤n∧n<2 ^ 63∧z.length*n.toNat≤sizeLine∧Q (.str (jI z n)) H):=by
 intro pins s σ H x y v u Q I rx ry h
 obtain⟨z,n,rfl,rfl,h1,h2,hz,q⟩:=h
 obtain⟨t,rfl⟩:=rx
 obtain⟨t',rfl⟩:=ry
 have lenz:z.length=z.cps.size:=rfl
 have e1:n<1→jI z n=Str.empty:=fun hn=>by
  unfold jI
  rw[show n.toNat=0 by omega]
  rfl
 have e2:(n==1 || z.length==0)=true→¬ n<1→jI z n=z:=fun hc hn=>by
  unfold jI
  rw[dS,beq_iff_eq,beq_iff_eq] at hc
  rcases hc with rfl | hc
  ·simp
  ·have:z.cps = #[]:=Array.eq_empty_of_size_eq_zero hc
   obtain⟨c⟩:=z
   simp at this
   subst this
   simp
 refine PySem.P.mul_str (by rw[decide_eq_false (by omega),decide_eq_false (by omega)];rfl) (fun hn hc=>?_) (fun hn hc=>?_) ?_
 ·intro hgt
  have hb:(z.length:Int)*n≤2 ^ 63 - 1:=by
   have hs:(sizeLine:Int)≤2 ^ 63 - 1:=by have:=ka;omega
   have:((z.length*n.toNat:Nat):Int)≤(sizeLine:Int):=by exact_mod_cast hz
   rw[Int.natCast_mul,Int.toNat_of_nonneg (by omega)] at this
   omega
  have:=(Int.le_ediv_iff_mul_le (by omega:(0:Int)<n)).mpr hb
  omega
 ·unfold Builtin.Str.tooLong
  exact decide_eq_false (by omega)
 ·by_cases hn:n<1
  ·rw[if_pos hn]
   rw[e1 hn] at q
   exact⟨by decide,.str _,H,I.tok _,⟨_,rfl⟩,q⟩
  ·rw[if_neg hn]
   by_cases hc:(n==1 || z.length==0)=true
   ·rw[if_pos hc]
    rw[e2 hc hn] at q
    exact⟨.str z,H,I,⟨t,rfl⟩,q⟩
   ·rw[if_neg hc]
    have e3:(⟨(List.replicate n.toNat z.cps).foldl (· ++ ·) #[]⟩:Str)=jI z n:=by
     unfold jI
     congr 1
     apply Dr.mp
     rw[Jy]
     simp
    rw[e3]
    refine⟨?_,.str _,H,I.tok _,⟨_,rfl⟩,q⟩
    show (jI z n).cps.size≤sizeLine
    unfold jI
    rw[Cy,LJ,Nat.mul_comm]
    simpa [lenz] using hz
theorem jK:vH X (.type "int") (fun xs H Q=>∃ z n,xs=[.str z]∧PySem.intText? z=some n∧z.length≤640∧Q (.int n) H):=by
 intro pins s σ H xs us Q I r h
 obtain⟨z,n,rfl,hn,hl,q⟩:=h
 obtain⟨u,rfl,ru⟩:=wQ r
 obtain⟨t,rfl⟩:=ru
 exact PySem.W.KIN.call_text hn hl ⟨.int n,H,I.tok _,⟨_,rfl⟩,q⟩
end
open Builtin.Str (occurrences partsBetween)
theorem Jv:∀ {zs:List Str} {its:List Value},qt (zs.map V.str) its→∃ l:List (Str × Tok),l.map (·.1)=zs∧its=strValues l
 | [],_,.nil=>⟨[],rfl,rfl⟩
 | z::zs,_,.cons ⟨t,e⟩ r=>by
  obtain⟨l,e1,e2⟩:=Jv r
  subst e e2
  exact⟨(z,t)::l,by rw[CF,e1],rfl⟩
theorem Jo:∀ (l:List (Str × Tok)),qt ((l.map (·.1)).map V.str) (strValues l)
 | []=>.nil
 | p::r=>.cons ⟨p.2,rfl⟩ (Jo r)
section
variable {X:Cx}
theorem yB:bD X "str.join" (fun x vs H Q=>∃ sep zs a,x = .str sep∧vs=[.ref a]∧zY X.K H a (zs.map V.str)∧JoinOk sep zs=true∧Q (.str (Txt.join sep zs)) H):=by
 intro pins s σ H x xs v us Q I rx rv h
 obtain⟨sep,zs,a,rfl,rfl,hS,hj,q⟩:=h
 obtain⟨t,rfl⟩:=rx
 obtain⟨u,rfl,ru⟩:=qt.one rv
 cases ru
 obtain⟨its,r,pl,hz⟩:=I.list hS
 obtain⟨l,e1,rfl⟩:=Jv r
 exact SC.join pl.isList e1 hj fun t' k=>⟨.str _,H,I.tok k,⟨t',rfl⟩,q⟩
theorem jT:bD X "str.split" (fun x vs H Q=>∃ z y,x = .str z∧vs=[.str y]∧(y.length==0)=false∧z.length≤sizeLine∧(partsBetween z (occurrences z y 0 z.length (z.length+1)) y.length).length≤sizeLine∧LL H (.lst ((Txt.split z y).map V.str)) Q):=by
 intro pins s σ H x xs v us Q I rx rv h
 obtain⟨z,y,rfl,rfl,hy,h1,h2,q⟩:=h
 obtain⟨t,rfl⟩:=rx
 obtain⟨u,rfl,ru⟩:=qt.one rv
 obtain⟨tu,rfl⟩:=ru
 have fin:∀ (l:List (Str × Tok)) (k:Nat),l.map (·.1)=Txt.split z y→(Txt.split z y).length≤sizeLine→EP X pins σ Q (.ref s.heap.objs.size) { s with toks:=k,heap:=s.heap.push { cls:=.type "list",data:=.seq (strValues l).toArray } }:=fun l k e hl=>by
  refine⟨.ref _,upd H s.heap.objs.size (.lst ((Txt.split z y).map V.str)),I.laid (t':=k) (fun b o e=>Cf _ e) (cP _) ⟨by rw[cN];exact hl,strValues l,0,by rw[← e];exact Jo l,Cq _ rfl⟩,rfl,q.at (I.hok.fresh (cP _))⟩
 have one:∀ e:Txt.split z y=[z],(Txt.split z y).length≤sizeLine:=fun e=>by rw[e];exact z6 rfl
 cases c1:(decide (z.length<y.length) || decide (Builtin.Str.strKind z<Builtin.Str.strKind y))
 ·cases hf:(occurrences z y 0 z.length (z.length+1)).isEmpty
  ·refine call_meets F.slot_str_split (typeIs_str _ _ _) F.entry_str_split (F.args_str_split_2 _ _) (meets_str_split_sep z y t tu c1 hy hf h1 h2) ?_
   show wants _ _ _ { s with toks:=_,heap:=s.heap.push { cls:=.type "list",data:=.seq (strsFrom s.toks (partsBetween z (occurrences z y 0 z.length (z.length+1)) y.length)).toArray } }
   rw[strsFrom_eq]
   have e:Txt.split z y=partsBetween z (occurrences z y 0 z.length (z.length+1)) y.length:=(if_neg (ne_true_of_eq_false c1)).trans (if_neg (ne_true_of_eq_false hf))
   exact fin (numbered s.toks _) _ ((numbered_texts _ _).trans e.symm) (by rw[e];exact h2)
  ·have e:Txt.split z y=[z]:=(if_neg (ne_true_of_eq_false c1)).trans (if_pos hf)
   exact call_meets F.slot_str_split (typeIs_str _ _ _) F.entry_str_split (F.args_str_split_2 _ _) (meets_str_split_not_found z y t tu c1 hy hf) (fin [(z,t)] s.toks e.symm (one e))
 ·have e:Txt.split z y=[z]:=if_pos c1
  exact call_meets F.slot_str_split (typeIs_str _ _ _) F.entry_str_split (F.args_str_split_2 _ _) (meets_str_split_cannot_occur z y t tu c1) (fin [(z,t)] s.toks e.symm (one e))
end
end L2
namespace L2
open PySem PySem.Spec PyProof.Rows
inductive Dt where
 | v (x:V)
 | l (xs:List Dt)
 | t (xs:List Dt)
inductive Is (K:BFr) (H:Hp):Nat→V→Dt→Prop where
 | v {n:Nat} {x:V}:j0 x=true→Is K H n x (.v x)
 | l {n:Nat} {a:Addr} {xs:List V} {ds:List Dt}:zY K H a xs→xs.length=ds.length→(∀ (j:Nat) x d,xs[j]? = some x→ds[j]? = some d→Is K H n x d)→Is K H (n+1) (.ref a) (.l ds)
 | t {n:Nat} {a:Addr} {xs:List V} {ds:List Dt}:qw K H a xs→xs.length=ds.length→(∀ (j:Nat) x d,xs[j]? = some x→ds[j]? = some d→Is K H n x d)→Is K H (n+1) (.ref a) (.t ds)
section
variable {X:Cx} {pins:List (Addr × Obj)} {σ:St} {H:Hp} {s:Shared}
end
section
variable {X:Cx}
end
end L2
set_option maxHeartbeats 1000000
namespace SG
open PySem PyProof.Rows
class Rk where
 num:Value→Int
 knd:SortKind
variable [Rk]
noncomputable def K (xs:Array Keyed) (i:Nat):Int:=match xs[i]? with
 | some q=>Rk.num q.1
 | none=>0
section
variable {prog:Program} {w:World} {A:Around} {E:Value→Shared→Prop} {s:Shared} {b₀:Array Keyed}
end
end SG
namespace SG
open PySem PyProof.Rows
variable [Rk]
abbrev ky (p:Keyed):Int:=Rk.num p.1
noncomputable def put (x:Keyed) (l:List Keyed):List Keyed:=l.takeWhile (fun y=>decide (ky y≤ky x))++x::l.dropWhile (fun y=>decide (ky y≤ky x))
abbrev Up (l:List Keyed):Prop:=l.Pairwise fun a b=>ky a≤ky b
end SG
namespace SG
open PySem PyProof.Rows
variable [Rk]
section
variable {prog:Program} {w:World} {A:Around} {E:Value→Shared→Prop} {s:Shared} {b₀:Array Keyed}
end
end SG
namespace SG
open PySem PyProof.Rows
variable [Rk]
section
variable {prog:Program} {w:World} {A:Around} {E:Value→Shared→Prop} {s:Shared} {b₀:Array Keyed}
end
end SG
namespace SS
open PySem PyProof.Rows
@[reducible] noncomputable def rk:SG.Rk:=⟨numOf,oneType'⟩
local instance:SG.Rk:=rk
abbrev ky (p:Keyed):Int:=numOf p.1
abbrev put (x:Keyed) (l:List Keyed):List Keyed:=@SG.put rk x l
abbrev Up (l:List Keyed):Prop:=@SG.Up rk l
end SS
namespace L2
open PySem PySem.Spec PyProof.Rows
section
variable {X:Cx} {A:Around} {p:Str} {Nr:List Str} {scope:Scope} {cl:List (Str × Addr)} {src:List (Option Nat)} {pins:List (Addr × Obj)} {σ:St} {H:Hp} {s:Shared} {f c':Addr} {name qual:Str} {params:Arguments} {body:Expr} {pm ctv u:Value} {v:V} {te:TE} {Q:VK}
end
end L2
namespace SS
open PySem PyProof.Rows
end SS
namespace SG
open PySem PyProof.Rows
variable [Rk]
end SG
namespace SS
open PySem PyProof.Rows
end SS
namespace L2
open PySem PySem.Spec PyProof.Rows
section
variable {X:Cx} {A:Around} {E:Value→Shared→Prop} {pins:List (Addr × Obj)} {σ:St} {H:Hp} {s:Shared} {a kS:Addr} {e e1:Nat} {keys:Array Value} {vs:List Value} {kz:List Int} {P:PySem.Fin→Shared→Prop}
theorem zN.adopt {xs:List V} {us:List Value} {n:Nat} (I:zN X pins σ H s) (f:yv X pins H a) (ha:s.heap.get? a=some (seqObj "list" us.toArray n)) (r:qt xs us) (hz:xs.length≤sizeLine):zN X pins σ (upd H a (.lst xs)) s:=by
 have ne:∀ b o,H b=some o→b≠a:=fun b o q=>zP q f.1
 refine⟨I.ok,I.os,I.bare,⟨I.base.keep,I.base.slot,fun b o q n hx=>?_,I.base.there,fun b ys q=>?_,fun b o u q=>?_,fun b ps q=>?_⟩,I.loc,I.cell,?_,fun x c q=>?_,fun p hp=>?_,fun b o q=>?_,I.len⟩
 ·have nb:b≠a:=fun z=>by
   subst z
   rcases f.2.2.2.1 with z | z
   ·exact hx z
   ·rw[z] at q;cases q
  rw[zG nb]
  exact I.base.free b o q n hx
 ·have z:=I.base.tups b ys q
  rw[zG (ne _ _ z)];exact z
 ·have z:=I.base.frzs b o u q
  rw[zG (ne _ _ z)];exact z
 ·obtain⟨m,z⟩:=I.base.tbls b ps q
  exact⟨m,by rw[zG (ne _ _ z)];exact z⟩
 ·rw[zG (Ne.symm f.2.1)];exact I.free
 ·rw[zG (f.2.2.2.2.1 x c q)];exact I.freeC x c q
 ·obtain⟨p1,p2,p3,p4,p5⟩:=I.pin p hp
  exact⟨p1,by rw[zG (f.2.2.2.2.2 p hp)];exact p2,p3,p4,p5⟩
 ·by_cases nb:b=a
  ·subst nb
   rw[zq] at q
   cases q
   exact⟨hz,us,n,r,ha⟩
  ·rw[zG nb] at q
   refine (I.hok b o q).stay (fun c u _ z=>z) (fun c z=>?_) fun c ys z=>?_
   ·rw[zG (ne _ _ z)];exact z
   ·rw[zG (ne _ _ z)];exact z
end
section
variable {X:Cx} {A:Around} {E:Value→Shared→Prop} {pins:List (Addr × Obj)} {σ:St} {H:Hp} {s:Shared} {r q:Addr} {xs:List V} {k:Nat→Int} {Q:VK}
end
open PySem.W
section
variable {X:Cx} {p:Str} {Nr:List Str} {scope:Scope} {cl:List (Str × Addr)} {src:List (Option Nat)} {pins:List (Addr × Obj)} {σ:St} {H:Hp} {s:Shared} {c P:Addr} {params:Arguments} {body:Expr} {pos:Pos} {E:Value→Shared→Prop}
end
end L2
namespace L2
open PySem PySem.Spec PyProof.Rows
noncomputable def qI (K:BFr) (x:Str) (st:Stmt):Prop:=∃ f fd,PySem.W.nsIn K mainGlobals x=some (some (.ref f))∧qM K x x st f fd
section
variable {P:Program} {w:World} {K:BFr} {mg:Str→Option Value} {base:Heap} {x:Str} {st:Stmt} {CX:ki} {k:Nat} {ps:List Str} {sp:Sp} {h0:Heap}
theorem qI.cal (h:qI K x st) (X:K.In h0) (G:h0.Ns mainGlobals mg) (hb:∀ (kV doc pm:Value) (an:Option Addr) (cdv ct:Value) (us:List Value),us.length=ps.length→bindArgs (PySem.W.fnOf x x (jM st) (yN st) (zW st) .none kV doc pm an cdv ct) ⟨us,[]⟩=pure (ps.zip us)) (ok:∀ f fd,qM K x x st f fd→zL P w K mg base CX k f fd ps sp):qR P w K mg base CX k x ps sp:=by
 obtain⟨f,fd,a,F⟩:=h
 exact⟨f,fd,Bmg_o X G a,F.kp,F.binds hb,ok f fd F⟩
theorem qI.calQ (h:qI K x st) (X:K.In h0) (G:h0.Ns mainGlobals mg) (hb:∀ (kV doc pm:Value) (an:Option Addr) (cdv ct:Value) (us:List Value),us.length=ps.length→bindArgs (PySem.W.fnOf x x (jM st) (yN st) (zW st) .none kV doc pm an cdv ct) ⟨us,[]⟩=pure (ps.zip us)) (ok:∀ f fd,qM K x x st f fd→UJ P w K mg base k f fd ps sp):Rp P w K mg base k x ps sp:=by
 obtain⟨f,fd,a,F⟩:=h
 exact⟨f,fd,Bmg_o X G a,F.kp,F.binds hb,ok f fd F⟩
end
theorem zV {α:Type} {us:List α} (h:us.length=1):∃ a,us=[a]:=by
 match us,h with
 | [a],_=>exact⟨a,rfl⟩
theorem qo {α:Type} {us:List α} (h:us.length=2):∃ a b,us=[a,b]:=by
 match us,h with
 | [a,b],_=>exact⟨a,b,rfl⟩
theorem JG {α:Type} {us:List α} (h:us.length=3):∃ a b c,us=[a,b,c]:=by
 match us,h with
 | [a,b,c],_=>exact⟨a,b,c,rfl⟩
theorem WO {α:Type} {us:List α} (h:us.length=4):∃ a b c d,us=[a,b,c,d]:=by
 match us,h with
 | [a,b,c,d],_=>exact⟨a,b,c,d,rfl⟩
theorem ZL {α:Type} {us:List α} (h:us.length=5):∃ a b c d e,us=[a,b,c,d,e]:=by
 match us,h with
 | [a,b,c,d,e],_=>exact⟨a,b,c,d,e,rfl⟩
open PySem.W
end L2
namespace SS
end SS
namespace L2
open PySem PySem.Spec PyProof.Rows PySem.W
section
variable {prog:Program} {w:World} {A:Around} {E:Value→Shared→Prop} {s:Shared}
end
section
variable {X:Cx} {A:Around} {E:Value→Shared→Prop} {pins:List (Addr × Obj)} {σ:St} {H:Hp} {s:Shared} {a:Addr} {its:List Value} {ts:List V} {nsOf:Nat→List Int} {rk:Nat→Int} {P:PySem.Fin→Shared→Prop}
open Classical in
end
end L2
namespace L2
open PySem PySem.Spec PyProof.Rows
section
variable {X:Cx}
theorem YK:bD X "str.startswith" (fun x vs H Q=>∃ z y,x = .str z∧vs=[.str y]∧Q (.bl (Txt.startswith z y)) H):=by
 intro pins s σ H x xs v us Q I rx rv h
 obtain⟨z,y,rfl,rfl,q⟩:=h
 obtain⟨t,rfl⟩:=rx
 obtain⟨u,rfl,ru⟩:=qt.one rv
 obtain⟨tu,rfl⟩:=ru
 exact SC.startswith ⟨.bl _,H,I,rfl,q⟩
end
open PySem.W
section
variable {X:Cx} {p:Str} {Nr:List Str} {scope:Scope} {cl:List (Str × Addr)} {src:List (Option Nat)} {c P:Addr} {params:Arguments} {body a:Expr} {pos lpos kpos p1 p2 p3:Pos} {ta:TA} {te:TE}
end
end L2
namespace L2
open PySem PySem.Spec PyProof.Rows
theorem vA:bootBuiltins "all" = some (.builtin "all"):=by kernel_rfl
theorem qT {l:List (Str × NameKind)} {cl:List (Str × Addr)} (h:l.all (fun y=>match y.2 with | .cell | .free=>(cl.lookup y.1).isSome | _=>true)=true) (x:Str) (z:l.lookup x=some .cell∨l.lookup x=some .free):∃ c,cl.lookup x=some c:=by
 rcases z with z | z
 ·have:=Cn.mp h _ (PySem.mem_of_lookup z)
  exact dO.mp this
 ·have:=Cn.mp h _ (PySem.mem_of_lookup z)
  exact dO.mp this
theorem uR {cl cs:List (Str × Addr)} (h:∀ q∈cl,cs.lookup q.1=some q.2) (x:Str) (c:Addr) (z:cl.lookup x=some c):cs.lookup x=some c:=h _ (PySem.mem_of_lookup z)
theorem qu {C:Nat→Nat→Prop} (i j:Nat) (z:([]:List (Option Nat))[i]? = some (some j)):C i j:=by simp at z
theorem qa {l:List (Option Nat)} {C:Nat→Nat→Prop} (h:∀ i j,l[i]? = some (some j)→C (i+1) j) (i j:Nat) (z:(none::l)[i]? = some (some j)):C i j:=by
 cases i with
 | zero=>simp at z
 | succ i=>exact h i j (by simpa using z)
theorem yh {l:List (Option Nat)} {k:Nat} {C:Nat→Nat→Prop} (h0:C 0 k) (h:∀ i j,l[i]? = some (some j)→C (i+1) j) (i j:Nat) (z:(some k::l)[i]? = some (some j)):C i j:=by
 cases i with
 | zero =>
  have:some k=some j:=by simpa using z
  cases this
  exact h0
 | succ i=>exact h i j (by simpa using z)
section
variable {X:Cx} {a b c:Expr} {ta:TA} {te:TE} {p1 p2 p3 pos:Pos}
end
section
variable {X:Cx} {elt iter tgt:Expr} {ifs:List Expr} {scope:Scope} {cl:List (Str × Addr)} {Nc:List Str} {src:List (Option Nat)} {g:TG} {tt:TT} {te:TE}
theorem Z7 {i:Nat} {x:Str} {wi:TI} {pos pos' cpos:Pos} (hN:X.N.Nodup) (hx:X.N[i]? = some x) (hl:X.env.scope.names.lookup x=some .local) (c:VC X Nc scope cl src) (hcalm:X.calm=true) (hi:PI X tgt iter wi) (hb:∀ fp C s' H',PG (we X Nc scope cl C fp s' H') tgt g∧j8 (we X Nc scope cl C fp s' H') ifs tt∧PE (we X Nc scope cl C fp s' H') elt te) (hsw:swapsWith (.ListComp elt [⟨tgt,iter,ifs,0⟩] scope cpos) (some (.Name x pos')) pos.line X.env=pure true:=by rfl) (hs:∀ x,foldedSetIterable iter X.env x=pure x:=by intro _;rfl):PS X (.Assign [.Name x pos'] (.ListComp elt [⟨tgt,iter,ifs,0⟩] scope cpos) pos) (TB (WT src wi g tt te) (qx i)):=by
 intro pins s σ H D I h
 rw[exec_Assign_Name_used _ _ _ _ hsw]
 refine wpAny_bind (wpAny_standAt (wpAny_bind ?_))
 show wpAny _ X.A (do let _ ← comprehension (.ListComp elt [⟨tgt,iter,ifs,0⟩] scope cpos) scope X.env _ (newList []) false (eval iter X.env) (some (assign (.Name x pos') X.env))) _ _ s
 refine wpAny_bind (wpAny_mono (wpAny_comprehension_free (use:=some (assign (.Name x pos') X.env)) (Q:=fun _ s'=>∃ σ' H',zN X pins σ' H' s'∧D.nx σ' H') rfl hs c.clos c.kind c.names (q0 (hi pins s σ H _ I h) fun v s1 h1=>q0 h1 fun itv s2 h2=>?_)) (fun _ s' hq=>wpAny_pure (wpAny_pure hq)) fun _ _ z=>z)
 obtain⟨it,fp,tn,J,H2,e,I2,T,st2,f2,hT⟩:=h2
 subst e
 refine wpAny_newObj_type ?_ (by size_fits)
 have old:∀ b o,s2.heap.get? b=some o→(s2.heap.push { cls:=.type "list",data:=.seq ([]:List Value).toArray }).get? b=some o:=fun b o e=>Cf _ e
 have I3:=I2.laid (a:=s2.heap.objs.size) (o:=.lst []) (t':=s2.toks) (h':=s2.heap.push { cls:=.type "list",data:=.seq ([]:List Value).toArray }) old (cP _) ⟨Cw _,[],0,.nil,Cq _ rfl⟩
 have ne:∀ b∈fp,b≠s2.heap.objs.size:=fun b hb=>by
  obtain⟨o,e,_⟩:=T.obj 0 _ st2 b hb
  exact Cc (cV e)
 have f3:∀ b∈fp,yv X pins (upd H2 s2.heap.objs.size (.lst [])) b:=fun b hb=>⟨by rw[zG (ne b hb)];exact (f2 b hb).1,(f2 b hb).2⟩
 refine uS (it:=it) (R:=fun C=>compPost (model X.prog X.w) X.A X.xe (some (assign (.Name x pos') X.env)) (fun _ s'=>∃ σ' H',zN X pins σ' H' s'∧D.nx σ' H') _ C) c hcalm I3 T (T.keep _ _ _ st2 fun b _ o e=>old b o e) f3 (hb fp _ _ _) (hT _ (I2.hok.fresh (cP _))) (fun _ _ z=>z.elim) fun C ys σ' H' s' hC J' hD q=>?_
 obtain⟨m,hn,_⟩:=id J'.loc
 have B:zN X pins σ H' s':=uC I3 f3 J' ⟨rfl,fun _ _=>rfl⟩
 have Cge:∀ b o,(s2.heap.push { cls:=.type "list",data:=.seq ([]:List Value).toArray }).get? b=some o→b≠C:=fun b o e=>Cc (CJ (cV e) J'.ok.above)
 have CL:C≠X.env.locals:=fun z=>by
  obtain⟨m3,⟨o,_,_,ho,_⟩,_⟩:=I3.loc
  exact Cge _ o ho z.symm
 refine wpAny_assign_Name (JM B hN hx (.inl hl) (v:=.ref s2.heap.objs.size) rfl (fun s5 I5 hsb=>?_) (.inr hl))
 obtain⟨a,sb,ha⟩:=hsb
 have aL:a≠C:=by
  rcases ha with rfl | ha
  ·exact CL.symm
  ·obtain⟨v,o,ho,_⟩:=I3.cell x a ha
   exact Cge _ o ho
 refine⟨m,hn.sameBut sb aL.symm,fun h' hs'=>⟨_,H',I5.turned (t':=s5.toks) (fun b o n e=>(hs'.2 b n).trans e) J'.free CL ?_ (fun y b e z=>?_) (fun p hp z=>?_),q⟩⟩
 ·exact .inr (Df (cZ I3.sz J'.ok.above))
 ·obtain⟨v,o,ho,_⟩:=I3.cell y b e
  exact Cge _ o ho z
 ·exact Cge _ _ (I3.pin p hp).1 z
end
end L2
namespace L2
open PySem
end L2
namespace Pg
open PySem L2
structure jW (mg:Str→Option Value):Prop where
 isinstance:mg "isinstance" = none
 int:mg "int" = none
 bool:mg "bool" = none
 str:mg "str" = none
 len:mg "len" = none
 range:mg "range" = none
 ve:mg "ValueError" = none
 list:mg "list" = none
 tuple:mg "tuple" = none
 dict:mg "dict" = none
 set:mg "set" = none
 all:mg "all" = none
 any:mg "any" = none
 sum:mg "sum" = none
 sorted:mg "sorted" = none
 abs:mg "abs" = none
 max:mg "max" = none
 min:mg "min" = none
 zip:mg "zip" = none
 enumerate:mg "enumerate" = none
 reversed:mg "reversed" = none
structure Er (K:BFr) (mg:Str→Option Value) (x:Str) (c:Addr):Prop where
 at':mg x=some (.ref c)
 ex:PySem.W.excIn K c ZM "ValueError.__new__" = true
noncomputable def Yh (mg:Str→Option Value) (x:Str) (n:Int):Prop:=∃ t,mg x=some (.int n t)
noncomputable def Txt (mg:Str→Option Value) (x:Str) (z:Str):Prop:=∃ t,mg x=some (.str z t)
structure cm (mg:Str→Option Value) (d:Nat→Addr):Prop where
 g0:mg "BadAmount" = some (.ref (d 0))
 g1:mg "BadShare" = some (.ref (d 1))
 g2:mg "BadText" = some (.ref (d 2))
 g3:mg "BadMonth" = some (.ref (d 3))
 g4:mg "BadYear" = some (.ref (d 4))
 g5:mg "BadRule" = some (.ref (d 5))
 g6:mg "BadBook" = some (.ref (d 6))
 g7:mg "NoYear" = some (.ref (d 7))
 g8:mg "BadDay" = some (.ref (d 8))
 g9:mg "BadEntry" = some (.ref (d 9))
 g10:mg "NoMark" = some (.ref (d 10))
 g11:mg "NoPerson" = some (.ref (d 11))
 g12:mg "TooMany" = some (.ref (d 12))
 g13:mg "BadClose" = some (.ref (d 13))
 g14:mg "BadLine" = some (.ref (d 14))
structure Mm (K:BFr) (d:Nat→Addr) (C:Addr) (i:Nat):Prop where
 cls:XK.vk K C
 ve:PySem.W.kitOne K (.ref C) (.type "ValueError")=some true
 k0:PySem.W.kitOne K (.ref C) (.ref (d 0))=some (decide (i=0))
 k1:PySem.W.kitOne K (.ref C) (.ref (d 1))=some (decide (i=1))
 k2:PySem.W.kitOne K (.ref C) (.ref (d 2))=some (decide (i=2))
 k3:PySem.W.kitOne K (.ref C) (.ref (d 3))=some (decide (i=3))
 k4:PySem.W.kitOne K (.ref C) (.ref (d 4))=some (decide (i=4))
 k5:PySem.W.kitOne K (.ref C) (.ref (d 5))=some (decide (i=5))
 k6:PySem.W.kitOne K (.ref C) (.ref (d 6))=some (decide (i=6))
 k7:PySem.W.kitOne K (.ref C) (.ref (d 7))=some (decide (i=7))
 k8:PySem.W.kitOne K (.ref C) (.ref (d 8))=some (decide (i=8))
 k9:PySem.W.kitOne K (.ref C) (.ref (d 9))=some (decide (i=9))
 k10:PySem.W.kitOne K (.ref C) (.ref (d 10))=some (decide (i=10))
 k11:PySem.W.kitOne K (.ref C) (.ref (d 11))=some (decide (i=11))
 k12:PySem.W.kitOne K (.ref C) (.ref (d 12))=some (decide (i=12))
 k13:PySem.W.kitOne K (.ref C) (.ref (d 13))=some (decide (i=13))
 k14:PySem.W.kitOne K (.ref C) (.ref (d 14))=some (decide (i=14))
structure Rz (K:BFr) (d:Nat→Addr) (cR:Addr) (i:Nat):Prop where
 ex:PySem.W.exmOne K (.ref (d i)) (.ref cR)=some true
 kd:Mm K d (d i) i
noncomputable def uB (K:BFr):Sp:=fun vs H Q _=>∃ v,vs=[v]∧((∃ z,v = .int z∧Q (.bl true) H)∨(JH K H v∧Q (.bl false) H))
noncomputable def vb (K:BFr):Sp:=fun vs H Q _=>∃ v a b,vs=[v,.int a,.int b]∧((∃ z,v = .int z∧Q (.bl (decide (a≤z∧z≤b))) H)∨(JH K H v∧Q (.bl false) H))
noncomputable def gb (K:BFr):Sp:=fun vs H Q _=>∃ a k ns,vs=[.ref a,.int k]∧zY K H a (ns.map V.int)∧0≤k∧Q (.int (ZD ns k)) H
noncomputable def Ue:Sp:=fun vs H Q _=>∃ z,vs=[.int z]∧Q (.bl true) H
noncomputable def Z6 (K:BFr):Sp:=fun vs H Q _=>∃ (a:Addr) (ns:List Int),vs=[.ref a]∧zY K H a (ns.map V.int)∧∀ H',Q (.bl true) H'
theorem MX (zs:List Int):Qk (zs.map V.int) (zs.map V.int)=true:=by
 unfold Qk
 rw[cQ]
 refine⟨by simp,Cn.mpr fun j hj=>?_⟩
 have hj':j<zs.length:=by simpa using hj
 rw[CP,cW,Ca hj']
 show GO (.int _) (.int _)=true
 simp[GO]
theorem UF {cs:List (Str × Addr)} {k:Str} {a:Addr} (h:cs.lookup k=some a):∀ q∈[(k,a)],cs.lookup q.1=some q.2:=fun q hq=>by rw[Co.mp hq];exact h
theorem oK {cs cl:List (Str × Addr)} {k:Str} {a:Addr} (h:cs.lookup k=some a) (t:∀ q∈cl,cs.lookup q.1=some q.2):∀ q∈(k,a)::cl,cs.lookup q.1=some q.2:=fun q hq=>by
 rcases cU.mp hq with rfl | hq
 ·exact h
 ·exact t q hq
end Pg
namespace L2
open PySem PySem.Spec PyProof.Rows
noncomputable def q8 (P:Program) (w:World) (K:BFr) (mg:Str→Option Value) (base:Heap) (CX:ki) (k:Nat) (C:Addr) (m:Str) (ps:List Str) (sp:Sp):Prop :=
 ZQ K C∧∃ f fd,Xp K C m f∧vp K fd ps []∧zL P w K mg base CX k f fd ps sp
noncomputable def vn (P:Program) (w:World) (K:BFr) (mg:Str→Option Value) (base:Heap) (CX:ki) (k:Nat) (x:Str) (C:Addr) (ps:List Str) (sp:Sp):Prop :=
 mg x=some (.ref C)∧∃ f fd,Mk K C f∧vp K fd ps []∧zL P w K mg base CX k f fd ps sp
section
variable {X:Cx} {CX:ki} {j k:Nat} {C:Addr} {ps:List Str} {sp:Sp} {x m:Str} {p apos pos:Pos} {o e:Expr} {es:List Expr} {ta:TE} {t:TA} {E:XK}
noncomputable def B8 (C:Addr) (m:Str) (sp:Sp) (E:XK) (ta:TE) (t:TA):TE:=fun σ H Q=>ta σ H fun x H1=>∃ a dx fs,x = .ref a∧H1 a=some (.ins C dx fs)∧fs.lookup m=none∧t σ H1 fun vs H2=>sp (x::vs) H2 Q E
theorem kC {pl:Sem Bool} (M:q8 X.prog X.w X.K X.mg X.base CX k C m ps sp) (hr:yO j X.A) (hj:k≤j) (hx:yZ CX X E) (he:PE X o ta) (ha:PA X (e::es) t) (hst:starEach (e::es) X.env=(false,eval e X.env)::starEach es X.env:=by exact z7 rfl) (hpl:(backTo pos (starEach es X.env)).any (·.1)=false:=by exact yC rfl) (ht:eval (.Call (.Attribute o m apos) (e::es) [] pos) X.env=(do
   let ov ← eval o X.env
   standAt apos.atName
   let (f,first) ← holding [ov] (getMethod ov m pl)
   callWith pos f first (backTo pos (starEach (e::es) X.env)) (backToKw pos (keywordEach [] X.env))):=by rfl) :
  PE X (.Call (.Attribute o m apos) (e::es) [] pos) (B8 C m sp E ta t):=by
 obtain⟨c,f,fd,hm,hb,F⟩:=M
 intro pins s σ H Q I h
 refine Ls (dvs:=[]) he c hm F (hr.mono hj) hb .nil hx ha hst hpl ht pins s σ H Q I ?_
 unfold gM
 simp only[CK]
 exact h
theorem vo {pl:Sem Bool} (M:q8 X.prog X.w X.K X.mg X.base CX k C m ps sp) (hr:yO j X.A) (hj:k≤j) (hx:yZ CX X E) (he:PE X o ta) (ht:eval (.Call (.Attribute o m apos) [] [] pos) X.env=(do
   let ov ← eval o X.env
   standAt apos.atName
   let (f,first) ← holding [ov] (getMethod ov m pl)
   callWith pos f first (backTo pos (starEach [] X.env)) (backToKw pos (keywordEach [] X.env))):=by rfl) :
  PE X (.Call (.Attribute o m apos) [] [] pos) (B8 C m sp E ta jy):=by
 obtain⟨c,f,fd,hm,hb,F⟩:=M
 intro pins s σ H Q I h
 refine pY (dvs:=[]) he c hm F (hr.mono hj) hb .nil hx ht pins s σ H Q I ?_
 unfold gM
 simp only[CK]
 exact h
noncomputable def cK (C:Addr) (sp:Sp) (E:XK) (t:TA):TE:=fun σ H Q=>t σ H fun vs H1=>∀ x dx,H1 x=none→H1 dx=none→dx≠x →
 sp (.ref x::vs) (upd (upd H1 dx (.own x)) x (.ins C dx [])) (fun v H2=>v = .non∧Q (.ref x) H2) E
end
noncomputable def yQ (K:BFr) (C:Addr) (m qual:Str) (st:Stmt):Prop:=∃ f fd,Xp K C m f∧qM K m qual st f fd
noncomputable def Vk (K:BFr) (C:Addr) (qual:Str) (st:Stmt):Prop:=∃ f fd,Mk K C f∧qM K "__init__" qual st f fd
section
variable {P:Program} {w:World} {K:BFr} {mg:Str→Option Value} {base:Heap} {C:Addr} {x m qual:Str} {st:Stmt} {CX:ki} {k:Nat} {ps:List Str} {sp:Sp}
theorem yQ.cal (h:yQ K C m qual st) (cl:ZQ K C) (hb:∀ (kV doc pm:Value) (an:Option Addr) (cdv ct:Value) (us:List Value),us.length=ps.length→bindArgs (PySem.W.fnOf m qual (jM st) (yN st) (zW st) .none kV doc pm an cdv ct) ⟨us,[]⟩=pure (ps.zip us)) (ok:∀ f fd,qM K m qual st f fd→zL P w K mg base CX k f fd ps sp):q8 P w K mg base CX k C m ps sp:=by
 obtain⟨f,fd,M,F⟩:=h
 exact⟨cl,f,fd,M,F.binds hb,ok f fd F⟩
theorem Vk.cal (h:Vk K C qual st) (hm:mg x=some (.ref C)) (hb:∀ (kV doc pm:Value) (an:Option Addr) (cdv ct:Value) (us:List Value),us.length=ps.length→bindArgs (PySem.W.fnOf "__init__" qual (jM st) (yN st) (zW st) .none kV doc pm an cdv ct) ⟨us,[]⟩=pure (ps.zip us)) (ok:∀ f fd,qM K "__init__" qual st f fd→zL P w K mg base CX k f fd ps sp):vn P w K mg base CX k x C ps sp:=by
 obtain⟨f,fd,M,F⟩:=h
 exact⟨hm,f,fd,M,F.binds hb,ok f fd F⟩
end
end L2
namespace L2
open PySem PySem.W PySem.Calls PyProof.Rows
theorem Mq (as:List Addr) (h:Heap):(jz as h).In h:=by
 intro a o e
 induction as with
 | nil=>cases e
 | cons b r ih =>
  unfold jz at e
  rw[De] at e
  cases q:h.get? b with
  | none=>rw[q] at e;exact ih e
  | some o' =>
   rw[q] at e
   by_cases c:a=b
   ·subst c
    have e:List.lookup a ((a,o')::jz r h)=some o:=e
    rw[List.lookup_cons_self] at e
    cases e
    exact q
   ·have e:List.lookup a ((b,o')::jz r h)=some o:=e
    rw[List.lookup_cons,show (a==b)=false from beq_eq_false_iff_ne.mpr c] at e
    exact ih e
section
variable {K:Frag} {v:Option (Option Value)} {x qual m:Str} {st:Stmt} {C a:Addr}
theorem Vg (h:jG K v=jF x qual st):∃ f fd,v=some (some (.ref f))∧qM K x qual st f fd∧isFn K (.ref f)=true∧keepIn K (.ref f)=true:=by
 unfold jG jF at h
 split at h
 ·rename_i f
  split at h
  ·rename_i oc od fd osl e
   obtain⟨nm,qn,pr,bd,sc,gl,cl,df,kV,doc,pm,an,cdv,ct,bl⟩:=fd
   simp only[Option.some.injEq,Xn.mk.injEq,cQ] at h
   obtain⟨rfl,rfl,rfl,rfl,rfl,rfl,rfl,rfl,rfl,⟨h1,h2⟩,h3⟩:=h
   exact⟨f,_,rfl,Rl e h1 h2,h3,h2⟩
  ·cases h
 ·cases h
theorem zF (h:jG K (nsIn K mainGlobals x)=jF x x st):qI K x st:=by
 obtain⟨f,fd,h1,h2,_,_⟩:=Vg h
 exact⟨f,fd,h1,h2⟩
theorem zS (h:jG K (findIn K (.ref C) m)=jF m qual st):yQ K C m qual st:=by
 obtain⟨f,fd,h1,h2,h3,h4⟩:=Vg h
 exact⟨f,fd,⟨h1,h3,h4⟩,h2⟩
theorem vd (h:jG K (findIn K (.ref C) "__init__")=jF "__init__" qual st) (g:(makesIn K C&&keepIn K (.ref C))=true):Vk K C qual st:=by
 obtain⟨f,fd,h1,h2,h3,_⟩:=Vg h
 obtain⟨g1,g2⟩:=dw.mp g
 exact⟨f,fd,⟨g1,h1,h3,g2⟩,h2⟩
theorem qf (h:qS v=true):v=some none:=by
 unfold qS at h
 split at h
 ·rfl
 ·cases h
theorem u6 {z:Int} (h:isInt z v=true):∃ t,v=some (some (.int z t)):=by
 unfold isInt at h
 split at h
 ·rw[of_decide_eq_true h];exact⟨_,rfl⟩
 ·cases h
theorem xc {z:Str} (h:UN z v=true):∃ t,v=some (some (.str z t)):=by
 unfold UN at h
 split at h
 ·rw[of_decide_eq_true h];exact⟨_,rfl⟩
 ·cases h
theorem yc (h:yI a v=true):v=some (some (.ref a)):=by
 unfold yI at h
 split at h
 ·rw[Nat.eq_of_beq_eq_true h]
 ·cases h
theorem yR {z:String} (h:jB z v=true):v=some (some (.builtin z)):=by
 unfold jB at h
 split at h
 ·rw[of_decide_eq_true h]
 ·cases h
theorem qV {b:Bool} {v:Option Bool} (h:jN b v=true):v=some b:=by
 unfold jN at h
 split at h
 ·rw[eq_of_beq h]
 ·cases h
theorem Wh {D:Addr} (h:Qc K D=true):XK.vk K D:=by
 unfold Qc at h
 simp only[cQ] at h
 obtain⟨⟨⟨⟨⟨⟨⟨h1,h2⟩,h3⟩,h4⟩,h5⟩,h6⟩,h7⟩,h8⟩:=h
 exact⟨h1,yR h2,qf h3,yR h4,yR h5,qV h6,qV h7,qV h8⟩
end
theorem zi {bs:List Bool} (h:bs.all id=true) {b:Bool} (i:Nat) (e:bs[i]? = some b):b=true:=Cn.mp h b (CS e)
theorem zy {α β:Type} {l:List α} {f g:α→β} (h:l.map f=l.map g) {x:α} (i:Nat) (e:l[i]? = some x):f x=g x:=by
 have:(l.map f)[i]? = (l.map g)[i]?:=by rw[h]
 rw[cW,cW,e] at this
 exact Option.some.inj this
noncomputable def kF {α:Type} (facts:Frag→α) (good:α) (_:World) (h:Heap):Prop:=∃ K:Frag,K.In h∧facts K=good
theorem OL {α:Type} {facts:Frag→α} {good:α} {as:List Addr} (w:World) (s:Shared) (e:facts (jz as s.heap)=good):kF facts good w s.heap:=⟨_,Mq as s.heap,e⟩
theorem xG {α:Type} {facts:Frag→α} {good:α} (w:World) (h h':Heap) (y:kF facts good w h) (k:∀ b o,h.get? b=some o→h'.get? b=some o):kF facts good w h':=by
 obtain⟨K,X,e⟩:=y
 exact⟨K,X.keeps k,e⟩
theorem m8 {q:Program} {loose:List Str} {XP:(Str→Option Value)→Heap→Prop} {α:Type} {facts:Frag→α} {good:α} {r:RowW} {d:DefRec} {kwd:List (Str × Expr)} {run:Value→List Value→Sem Value}
  (h:∀ K:Frag,facts K=good→WalkO q loose XP (fun _ h=>K.In h) r d kwd run):WalkO q loose XP (kF facts good) r d kwd run:=by
 intro w s₀ s₁ mg mb G Y
 obtain⟨K,X,e⟩:=Y
 exact h K e w s₀ s₁ mg mb G X
theorem mX {q:Program} {n:Str} (h:(defOf q n).isSome=true) (k:((defOf q n).map (·.2.isEmpty))=some true):defOf q n=some (((defOf q n).get h).1,[]):=by
 obtain⟨⟨d,kwd⟩,e⟩:=dO.mp h
 have e2:(defOf q n).get h=(d,kwd):=Option.get_of_eq_some h e
 rw[e2,e]
 rw[e] at k
 have:kwd.isEmpty=true:=Option.some.inj k
 rw[List.isEmpty_iff.mp this]
end L2
namespace L2
open PySem PySem.Spec PyProof.Rows
structure Nb (K:BFr) (C:Addr) (m:Str) (f:Addr):Prop where
 ga:PySem.W.specialIn K (.ref C) "__getattribute__" = some (some (.builtin "type.__getattribute__"))
 rd:PySem.W.readsIn K C (.type "type")=true
 at_:PySem.W.findCls K (.ref C) (.type "type") m=some (.val (.ref f))
 kp:PySem.W.keepIn K (.ref f)=true
noncomputable def uQ (P:Program) (w:World) (K:BFr) (mg:Str→Option Value) (base:Heap) (CX:ki) (k:Nat) (x m:Str) (ps:List Str) (sp:Sp):Prop :=
 ∃ C f fd,mg x=some (.ref C)∧Nb K C m f∧vp K fd ps []∧zL P w K mg base CX k f fd ps sp
section
variable {X:Cx} {CX:ki} {j k:Nat} {C:Addr} {ps:List Str} {sp:Sp} {x m:Str} {p apos pos:Pos} {o e:Expr} {es:List Expr} {ta:TE} {t:TA} {E:XK}
noncomputable def cx (sp:Sp) (E:XK) (t:TA):TE:=fun σ H Q=>t σ H fun vs H2=>sp vs H2 Q E
theorem jg {pl:Sem Bool} (M:uQ X.prog X.w X.K X.mg X.base CX k x m ps sp) (hr:yO j X.A) (hj:k≤j) (hx:yZ CX X E) (ha:PA X (e::es) t) (hg:Gl X x:=by rfl) (hdb:(x==("__debug__":Str))=false:=by decide) (hst:starEach (e::es) X.env=(false,eval e X.env)::starEach es X.env:=by exact z7 rfl) (hpl:(backTo pos (starEach es X.env)).any (·.1)=false:=by exact yC rfl) (ht:eval (.Call (.Attribute (.Name x p) m apos) (e::es) [] pos) X.env=(do
   let ov ← eval (.Name x p) X.env
   standAt apos.atName
   let (f,first) ← holding [ov] (getMethod ov m pl)
   callWith pos f first (backTo pos (starEach (e::es) X.env)) (backToKw pos (keywordEach [] X.env))):=by rfl) :
  PE X (.Call (.Attribute (.Name x p) m apos) (e::es) [] pos) (cx sp E t):=by
 obtain⟨C,f,fd,hm,c,hb,F⟩:=M
 intro pins s σ H Q I h
 refine PySem.W.methodCall_KW (pl:=pl) (q0 (zZ (v:=.ref C) hg hm rfl hdb pins s σ H (fun v H1=>v = .ref C∧H1=H) I ⟨rfl,rfl⟩) fun u s1 ⟨y,H1,I1,rx,e1,e2⟩=>?_) ht
 subst e1 e2
 obtain rfl:u=Value.ref C:=rx
 refine PySem.W.method_cls I1.kIn c.ga (PySem.W.cls_value I1.kIn c.rd c.at_ rfl ?_)
 have I2:=I1.tok (s1.toks+1)
 refine PySem.W.callWith_K (first:=[]) (h₀:=X.base) I.ok.mod.kin c.kp (q0 (ha pos pins _ σ H1 _ I2 h) fun us s2 ⟨vs,H2,I3,r,q2⟩=>⟨I3.kIn,?_⟩) hst hpl
 exact VD (dvs:=[]) (us:=us) (vs:=vs) F (hr.mono hj) hb .nil hx I3 r (by rw[CK];exact q2)
theorem yd (M:vn X.prog X.w X.K X.mg X.base CX k x C ps sp) (hr:yO (j+1) X.A) (hj:k≤j) (hx:yZ CX X E) (ha:PA X (e::es) t) (hg:Gl X x:=by rfl) (hdb:(x==("__debug__":Str))=false:=by decide) (hst:starEach (e::es) X.env=(false,eval e X.env)::starEach es X.env:=by exact z7 rfl) (hpl:(backTo pos (starEach es X.env)).any (·.1)=false:=by exact yC rfl) :
  PE X (.Call (.Name x p) (e::es) [] pos) (cK C sp E t):=by
 obtain⟨hm,f,fd,M,hb,F⟩:=M
 intro pins s σ H Q I h
 refine LI (dvs:=[]) M (F.mono hj) hr hg hm hb .nil hx ha hdb hst hpl pins s σ H Q I ?_
 unfold Na
 simp only[CK]
 exact h
theorem vM {α:Type} {p:α→Prop} {e:Expr} {T:α→TE} (h:∀ i,p i→PE X e (T i)):PE X e (fun σ H Q=>∃ i,p i∧T i σ H Q):=fun pins s σ H Q I ⟨i,hp,g⟩=>h i hp pins s σ H Q I g
theorem oP:vH X (.type "str") (fun xs H Q=>(∃ i,xs=[.int i]∧i.natAbs.log2<1920∧Q (.str (toString i)) H)∨∃ z,xs=[.str z]∧Q (.str z) H):=by
 intro pins s σ H xs us Q I r h
 rcases h with h | ⟨z,rfl,q⟩
 ·exact qm pins s σ H xs us Q I r h
 ·obtain⟨u,rfl,t,rfl⟩:=wQ r
  exact PySem.P.str_of_str ⟨.str _,H,I,⟨_,rfl⟩,q⟩
end
section
variable {P:Program} {w:World} {K:BFr} {mg:Str→Option Value} {base:Heap} {C:Addr} {x m qual:Str} {st:Stmt} {CX:ki} {k:Nat} {ps:List Str} {sp:Sp}
theorem RM {f:Addr} (h:ui K C m=true) (M:Xp K C m f):Nb K C m f:=by
 unfold ui at h
 obtain⟨h,h3⟩:=dw.mp h
 obtain⟨h1,h2⟩:=dw.mp h
 refine⟨?_,h2,?_,M.kp⟩
 ·split at h1
  ·rename_i b e
   rw[e,beq_iff_eq.mp h1]
  ·cases h1
 ·rw[M.at_] at h3
  split at h3
  ·rename_i f' g e1 e2
   cases e1
   rw[e2,Nat.eq_of_beq_eq_true h3]
  ·cases h3
theorem yQ.calC (h:yQ K C m qual st) (see:ui K C m=true) (hm:mg x=some (.ref C)) (hb:∀ (kV doc pm:Value) (an:Option Addr) (cdv ct:Value) (us:List Value),us.length=ps.length→bindArgs (PySem.W.fnOf m qual (jM st) (yN st) (zW st) .none kV doc pm an cdv ct) ⟨us,[]⟩=pure (ps.zip us)) (ok:∀ f fd,qM K m qual st f fd→zL P w K mg base CX k f fd ps sp):uQ P w K mg base CX k x m ps sp:=by
 obtain⟨f,fd,M,F⟩:=h
 exact⟨C,f,fd,hm,RM see M,F.binds hb,ok f fd F⟩
end
end L2
namespace L2
open PySem PySem.W PyProof.Rows
noncomputable def Tq (K:Frag) (x:Str) (zs:List Str):Prop:=∃ a,nsIn K mainGlobals x=some (some (.ref a))∧∀ H,qw K H a (zs.map V.str)
theorem Yd:∀ {its:List Value} {zs:List Str},Qh its zs=true→qt (zs.map V.str) its
 | [],[],_=>.nil
 | v::r,z::q,h=>by
  unfold Qh at h
  obtain⟨h1,h2⟩:=dw.mp h
  obtain⟨t,e⟩:=xc h1
  cases e
  exact .cons ⟨t,rfl⟩ (Yd h2)
 | [],z::q,h=>by cases h
 | v::r,[],h=>by cases h
theorem WA {K:Frag} {x:Str} {zs:List Str} (h:Qe K x zs=true):Tq K x zs:=by
 unfold Qe at h
 split at h
 ·rename_i a e
  split at h
  ·rename_i n od its k sl e2
   rw[cQ,cQ] at h
   obtain⟨⟨h1,h2⟩,h3⟩:=h
   refine⟨a,e,fun H=>.inr ⟨_,its,k,e2,?_,rfl,z6 h2,Yd h3⟩⟩
   rw[of_decide_eq_true h1]
  ·cases h
 ·cases h
theorem Tq.mg {K:Frag} {x:Str} {zs:List Str} {h:Heap} {mg:Str→Option Value} (T:Tq K x zs) (X:K.In h) (G:h.Ns mainGlobals mg):∃ a,mg x=some (.ref a)∧∀ H,qw K H a (zs.map V.str):=by
 obtain⟨a,e,t⟩:=T
 exact⟨a,mg_of X G e,t⟩
end L2
set_option maxHeartbeats 4000000
namespace K10
open PySem PySem.NumText L2 Pg
seal PE PA PT PW PS y8 PG vz PI j8 PO PK
section
variable {P:Program} {w:World} {K:BFr} {mg:Str→Option Value} {base:Heap} {f:Addr} {fd:FuncData} {d:Nat→Addr} {cR:Addr}
theorem VG (F:qM K "is_number" "is_number" (zX 22) f fd) (G:jW mg):zL P w K mg base zQ 1 f fd ["thing"] (uB K):=by
 refine F.ok (N:=["thing"]) (by walk_at"s") (fun vs H Q E h=>?_) (fun cdv A outer s H vs Q E hr h=>?_)
 ·obtain⟨v,rfl,_⟩:=h
  rfl
 ·obtain⟨v,rfl,h⟩:=h
  refine⟨_,zh (zm (yK (zv zJ rfl G.isinstance zE (za (pv 0) (za (yw (v:=.ty "int") rfl G.int jt rfl) zd)))
   (yL (Xr (zv zJ rfl G.isinstance zE (za (pv 0) (za (yw (v:=.ty "bool") rfl G.bool Jh rfl) zd))))))),?_⟩
  rcases h with ⟨z,rfl,q⟩ | ⟨⟨r,hr',ty,ne⟩,q⟩
  ·refine⟨_,rfl,_,_,_,_,true,rfl,rfl,.inl (.int z),rfl,true,rfl,qZ ?_⟩
   exact⟨_,rfl,_,_,_,_,false,rfl,rfl,.inl (.int z),rfl,false,rfl,q⟩
  ·obtain⟨k1,k2,_⟩:=Qg (K:=K) r hr'
   refine⟨_,rfl,_,_,_,_,r.2.1,rfl,rfl,.inl ty,k1,r.2.1,rfl,?_⟩
   cases e:r.2.1 with
   | false=>exact qN q
   | true =>
    refine qZ ⟨_,rfl,_,_,_,_,r.2.2.1,rfl,rfl,.inl ty,k2,r.2.2.1,rfl,?_⟩
    have:r.2.2.1=true:=by
     simp only[UZ,cU,cX,or_false] at hr'
     rcases hr' with rfl | rfl | rfl | rfl | rfl | rfl | rfl <;> first | rfl | (exact absurd rfl ne) | (cases e)
    rw[this]
    exact q
theorem oo (F:qM K "is_number_within" "is_number_within" (zX 23) f fd) (C1:qR P w K mg base zQ 1 "is_number" ["thing"] (uB K)):zL P w K mg base zQ 2 f fd ["thing","least","most"] (vb K):=by
 refine F.ok (N:=["thing","least","most"]) (by walk_at"s") (fun vs H Q E h=>?_) (fun cdv A outer s H vs Q E hr h=>?_)
 ·obtain⟨v,a,b,rfl,_⟩:=h
  rfl
 ·obtain⟨v,a,b,rfl,h⟩:=h
  refine⟨_,zh (zm (yK (zk C1 hr (by decide) zx (za (pv 0) zd)) (yK (qj Wg (pv 1) (pv 0) (zD _)) (yL (qj Wg (pv 0) (pv 2) (zD _)))))),?_⟩
  rcases h with ⟨z,rfl,q⟩ | ⟨nn,q⟩
  ·refine⟨_,rfl,_,rfl,.inl ⟨z,rfl,true,rfl,qZ ⟨_,rfl,_,rfl,_,_,rfl,rfl,_,rfl,?_⟩⟩⟩
   refine qi (fun e=>⟨_,rfl,_,rfl,_,_,rfl,rfl,?_⟩) (fun e=>?_)
   ·have e1:a≤z:=of_decide_eq_true e
    show Q (.bl (decide (z≤b))) H
    rw[show decide (z≤b)=decide (a≤z∧z≤b) by simp[e1]]
    exact q
   ·have e1:¬ a≤z:=fun c=>e (decide_eq_true c)
    show Q (.bl false) H
    rw[show false=decide (a≤z∧z≤b) by simp[e1]]
    exact q
  ·exact⟨_,rfl,_,rfl,.inr ⟨nn,false,rfl,qN q⟩⟩
end
end K10
namespace Pg
open PySem PySem.NumText L2
noncomputable def RU (z:Int):Str:=toString z
noncomputable def dg (n:Nat):List Nat:=(Nat.toDigits 10 n).map Char.toNat
theorem uD (n:Nat):(RU (n:Nat)).cps.toList=dg n:=PySem.W.KIN.signs_num n
theorem Ge (n:Nat):AllDigits (dg n):=by
 intro c hc
 obtain⟨ch,hch,e⟩:=Cp.mp hc
 have r:=PyProof.Rows.digit_range (Nat.isDigit_of_mem_toDigits (by decide) (by decide) hch)
 rw[← e]
 exact r
theorem xf (n:Nat):1≤(dg n).length:=by unfold dg;rw[cN];exact PySem.toDigits_len_ge 10 n
theorem G5 {k n:Nat} (hk:1≤k) (hn:n<10 ^ k):(dg n).length≤k:=by unfold dg;rw[cN];exact PySem.toDigits_len_pow (by decide) hk hn
theorem xZ {a b:Str} (h:a.cps.toList=b.cps.toList):a=b:=by
 obtain⟨a⟩:=a
 obtain⟨b⟩:=b
 have:a=b:=Dr.mp h
 rw[this]
theorem wy {z:Int} (h0:0≤z) (h1:z<2 ^ 64):z.natAbs.log2<1920:=by
 by_cases h:z.natAbs=0
 ·rw[h];decide
 ·exact Dy ((Nat.log2_lt h).mpr (show z.natAbs<2 ^ 64 by omega)) (by decide)
theorem yp (a b:Str):(a++b).cps.toList=a.cps.toList++b.cps.toList:=by
 show (a.cps++b.cps).toList=_
 simp
theorem qg (z:Str):z.length=z.cps.toList.length:=by show z.cps.size=_;simp
theorem qe (a b:Str):(a++b).length=a.length+b.length:=by rw[qg,yp,Cb,← qg,← qg]
theorem NB {a b:Str} {m n:Nat} (h1:a.length≤m) (h2:b.length≤n):(a++b).length≤m+n:=by rw[qe];exact Nat.add_le_add h1 h2
theorem uq {n m:Nat} (h:n≤m) (k:Nat.ble m 1000000=true):n≤sizeLine:=cZ h (cZ (cY k) (by rw[sizeLine_eq];decide))
theorem tE {a b m n:Nat} (h1:a≤m) (h2:b≤n) (k:Nat.ble (m+n) 1000000=true):a+b≤sizeLine:=uq (Nat.add_le_add h1 h2) k
noncomputable def Yo (c:Nat):Bool:=decide (48≤c)&&decide (c≤57)
noncomputable def wV (l:List Nat):Bool:=!l.isEmpty&&l.all Yo
theorem uP {l:List Nat} (h:wV l=true):AllDigits l∧l≠[]:=by
 unfold wV at h
 rw[cQ] at h
 refine⟨fun c hc=>?_,fun e=>by rw[e] at h;simp at h⟩
 have:=Cn.mp h.2 c hc
 unfold Yo at this
 rw[cQ] at this
 exact⟨of_decide_eq_true this.1,of_decide_eq_true this.2⟩
theorem Of (c:Nat):(!(Builtin.Str.occurrences ("0123456789":Str) ⟨#[c]⟩ 0 ("0123456789":Str).length 1).isEmpty)=Yo c:=by
 rw[gn]
 have e:("0123456789":Str).cps.toList=[48,49,50,51,52,53,54,55,56,57]:=by decide +kernel
 rw[e]
 by_cases h:c<58
 ·have all:∀ c<58,[48,49,50,51,52,53,54,55,56,57].contains c=Yo c:=by decide +kernel
  exact all c h
 ·have e1:Yo c=false:=by
   unfold Yo
   rw[decide_eq_false (p:=c≤57) (fun z=>h (Nat.lt_succ_of_le z)),CV]
  rw[e1,CY]
  intro z
  have all:∀ x∈[48,49,50,51,52,53,54,55,56,57],x<58:=by decide +kernel
  exact h (all c (du.mp z))
noncomputable def gk:Sp:=fun vs H Q _=>∃ z,vs=[.str z]∧z.length≤100000∧∀ H',zu H H'→Q (.bl (wV z.cps.toList)) H'
end Pg
namespace L2
open PySem PySem.Spec PyProof.Rows
abbrev TJ:=St→Hp→(List Str→Hp→Prop)→Prop
section
variable {X:Cx} {e:Expr} {es:List Expr} {te:TE} {t:TJ} {pos:Pos}
end
end L2
namespace Pg
open PySem L2
theorem gG {n:Nat} (h:10≤n):dg n=dg (n/10)++[48+n%10]:=by
 unfold dg
 rw[Nat.toDigits_of_base_le (by decide) h,Ci,List.map_singleton]
 congr 2
 have:n%10<10:=Nat.mod_lt _ (by decide)
 generalize n%10=d at this
 match d,this with
 | 0,_=>rfl
 | 1,_=>rfl
 | 2,_=>rfl
 | 3,_=>rfl
 | 4,_=>rfl
 | 5,_=>rfl
 | 6,_=>rfl
 | 7,_=>rfl
 | 8,_=>rfl
 | 9,_=>rfl
 | d+10,h=>omega
theorem xi {n:Nat} (h:n<10):dg n=[48+n]:=by
 match n,h with
 | 0,_=>rfl
 | 1,_=>rfl
 | 2,_=>rfl
 | 3,_=>rfl
 | 4,_=>rfl
 | 5,_=>rfl
 | 6,_=>rfl
 | 7,_=>rfl
 | 8,_=>rfl
 | 9,_=>rfl
 | d+10,h=>omega
theorem U8 (sep z:Str):Txt.join sep [z]=z:=rfl
theorem vf (sep z:Str) {zs:List Str} (h:zs≠[]):Txt.join sep (zs++[z])=Txt.join sep zs++sep++z:=by
 cases zs with
 | nil=>exact absurd rfl h
 | cons a r =>
  unfold Txt.join Builtin.Str.glued
  show Str.mk ((r++[z]).foldl _ _)=Str.mk (_++_++_)
  rw[List.foldl_append]
  rfl
theorem QR {z:Int} {k:Nat} (h0:0≤z) (hk:1≤k) (h1:z.toNat<10 ^ k):(RU z).length≤k:=by
 obtain⟨n,rfl⟩:=d4 h0
 rw[qg,uD]
 exact G5 hk (by simpa using h1)
end Pg
namespace L2
open PySem PySem.Spec PyProof.Rows
structure QM (J:It) (H:Hp) (xs:List V):Prop where
 go:∀ i x H',xs[i]? = some x→zu H H'→J.go i H'∧∀ y H'',J.yld i H' y H''→H''=H'∧y=x
 stop:∀ H',zu H H'→J.stop xs.length H'
theorem vg {K:BFr} {a:Addr} {xs:List V} {H:Hp} (h:zY K H a xs):QM (Nn K a) H xs :=
 ⟨fun i x H' e s=>⟨⟨xs,x,s.seq h,e⟩,fun y H'' ⟨e1,e2⟩=>⟨e1,Option.some.inj ((e2 xs (s.seq h)).symm.trans e)⟩⟩,fun H' s=>⟨xs,s.seq h,cP _⟩⟩
theorem ju {K:BFr} {a:Addr} {xs:List V} {H:Hp} (h:qw K H a xs):QM (BN K a) H xs :=
 ⟨fun i x H' e s=>⟨⟨xs,x,s.tup h,e⟩,fun y H'' ⟨e1,e2⟩=>⟨e1,Option.some.inj ((e2 xs (s.tup h)).symm.trans e)⟩⟩,fun H' s=>⟨xs,s.tup h,cP _⟩⟩
theorem uV {lo:Int} {n:Nat} {H:Hp}:QM (Nm lo n) H ((List.range n).map fun k=>V.int (lo+(k:Nat))):=by
 refine⟨fun i x H' e s=>?_,fun H' s=>by rw[cN,CG];exact cP n⟩
 rw[cW] at e
 obtain⟨k,hk,rfl⟩:=Cu.mp e
 obtain⟨h1,h2⟩:=Cv.mp hk
 simp at h1 h2
 exact⟨by show i<n;omega,fun y H'' ⟨e1,e2⟩=>⟨e1,by rw[e2,← h2]⟩⟩
theorem uM {z:Str} {H:Hp}:QM (bB z) H (z.cps.toList.map cf):=by
 refine⟨fun i x H' e s=>?_,fun H' s=>by rw[cN,CN];exact cP _⟩
 rw[cW] at e
 obtain⟨c,hc,rfl⟩:=Cu.mp e
 have hc':z.cps[i]? = some c:=by simpa using hc
 exact⟨(dq.mp hc').1,fun y H'' ⟨e1,c',h1,e2⟩=>⟨e1,by rw[e2,Option.some.inj (h1.symm.trans hc')];rfl⟩⟩
section
variable {J:It} {D:Addr} {g:TG} {tt:TT} {te:TE} {fin:List V→Hp→Prop} {σ:St} {H:Hp} {xs:List V}
theorem va (W:QM J H xs) (hD:H D=none) (jS:Nat→List V→Hp→Prop) (Sg:St→Prop) (s0:Sg σ) (g0:jS 0 [] (upd H D (.lst []))) (hs:∀ i x ys σ' H',xs[i]? = some x→Sg σ'→zu H H'→H' D=some (.lst ys)→ys.length≤i→jS i ys H'→Yp D g tt te x ys (fun ys' σ2 H2=>Sg σ2∧zu H H2∧H2 D=some (.lst ys')∧ys'.length≤i+1∧jS (i+1) ys' H2) σ' H') (hf:∀ ys H',zu H H'→H' D=some (.lst ys)→ys.length≤xs.length→jS xs.length ys H'→fin ys H'):jx J D g tt te fin σ (upd H D (.lst [])):=by
 refine⟨fun i m ys σ' H'=>m=xs.length - i∧i≤xs.length∧Sg σ'∧zu H H'∧H' D=some (.lst ys)∧ys.length≤i∧jS i ys H',⟨xs.length,by simp,Cw _,s0,zu.upd hD,zq,cP _,g0⟩,fun i m ys σ H ⟨_,_,_,_,h,_⟩=>h,?_⟩
 rintro i m ys σ' H' ⟨rfl,hi,h1,h2,h3,h4,h5⟩
 by_cases hlt:i<xs.length
 ·have hx:xs[i]? = some xs[i]:=Ca hlt
  obtain⟨w1,w2⟩:=W.go i _ H' hx h2
  refine .inr ⟨w1,fun ys' σ2 H2=>Sg σ2∧zu H H2∧H2 D=some (.lst ys')∧ys'.length≤i+1∧jS (i+1) ys' H2,fun ys' σ2 H2 p=>⟨xs.length - (i+1),by omega,rfl,hlt,p⟩,fun y H'' hy=>?_⟩
  obtain⟨e1,e2⟩:=w2 y H'' hy
  subst e1 e2
  exact hs i _ ys σ' _ hx h1 h2 h3 h4 h5
 ·have e:i=xs.length:=by omega
  subst e
  exact .inl ⟨W.stop H' h2,hf ys H' h2 h3 h4 h5⟩
theorem wB (W:QM J H xs) (hD:H D=none) (hz:xs.length<sizeLine) (p:V→Bool) (φ:V→V) (ht:∀ x∈xs,∀ H' R,zu H H'→R (p x) H'→tt (σ.set 0 (some x)) H' R) (he:∀ x∈xs,p x=true→∀ H' R,zu H H'→R (φ x) H'→te (σ.set 0 (some x)) H' R) (hf:fin ((xs.filter p).map φ) (upd H D (.lst ((xs.filter p).map φ)))):jx J D (qx 0) tt te fin σ (upd H D (.lst [])):=by
 refine va W hD (fun i ys H'=>ys=((xs.take i).filter p).map φ∧H'=upd H D (.lst ys)) (fun σ'=>∀ x,σ'.set 0 (some x) = σ.set 0 (some x)) (fun _=>rfl) ⟨rfl,rfl⟩ ?_ ?_
 ·rintro i x ys σ' H' hx hσ s hd hl ⟨rfl,rfl⟩
  have hi:i<xs.length:=(Cv.mp hx).1
  have hm:=CS hx
  have tk:xs.take (i+1)=xs.take i++[x]:=by rw[dv,hx];rfl
  have hσ2:∀ y,(σ'.set 0 (some x)).set 0 (some y) = σ.set 0 (some y):=fun y=>by rw[d6];exact hσ y
  show tt (σ'.set 0 (some x)) _ _
  rw[hσ x]
  refine ht x hm _ _ s ?_
  rw[hσ x] at hσ2
  cases hp:p x with
  | true =>
   refine qZ (he x hm hp _ _ s ⟨hd,by omega,hσ2,?_,zq,?_,?_,X1⟩)
   ·rw[X1];exact zu.upd hD
   ·rw[Cb,CU];omega
   ·rw[tk,d7,Ci];simp[hp]
  | false =>
   refine qN ⟨hσ2,s,hd,by omega,?_,rfl⟩
   rw[tk,d7,Ci];simp[hp]
 ·rintro ys H' s hd hl ⟨rfl,rfl⟩
  rw[dG]
  exact hf
end
end L2
namespace L2
end L2
set_option maxHeartbeats 1000000
namespace SS
end SS
namespace L2
open PySem PySem.Spec PyProof.Rows PySem.W
section
variable {prog:Program} {w:World} {A:Around} {s:Shared}
end
section
variable {X:Cx} {A:Around} {E:Value→Shared→Prop} {pins:List (Addr × Obj)} {σ:St} {H:Hp} {s:Shared} {a:Addr} {its:List Value} {ts:List V} {nm:Nat→Str} {am:Nat→Int} {P:PySem.Fin→Shared→Prop}
end
end L2
namespace L2
open PySem PySem.Spec PyProof.Rows
structure qq (H:Hp) (ys:List V) (cs:List (List V)):Prop where
 len:ys.length=cs.length
 at_:∀ (i:Nat) (c:List V),cs[i]? = some c→∃ a,ys[i]? = some (V.ref a)∧H a=some (.tup c)
section
variable {H H':Hp} {ys:List V} {cs:List (List V)}
theorem qq.nil:qq H [] []:=⟨rfl,fun i c e=>by cases e⟩
theorem qq.mono (T:qq H ys cs) (k:∀ b c,H b=some (.tup c)→H' b=some (.tup c)):qq H' ys cs:=⟨T.len,fun i c e=>by
 obtain⟨a,h1,h2⟩:=T.at_ i c e
 exact⟨a,h1,k _ _ h2⟩⟩
theorem qq.same (T:qq H ys cs) (s:zu H H'):qq H' ys cs:=T.mono fun _ _ h=>s _ _ h
theorem qq.upd {p:Addr} {o:HO} (T:qq H ys cs) (n:∀ c,H p≠some (.tup c)):qq (upd H p o) ys cs:=T.mono fun b c h=>by
 rw[zG (show b≠p from fun e=>n c (by rw[← e];exact h))]
 exact h
theorem qq.snoc {a:Addr} {c:List V} (T:qq H ys cs) (h:H a=some (.tup c)):qq H (ys++[.ref a]) (cs++[c]):=by
 refine⟨by rw[Cb,Cb,T.len];rfl,fun i d e=>?_⟩
 by_cases hi:i<cs.length
 ·rw[Dh hi] at e
  rw[Dh (by rw[T.len];exact hi)]
  exact T.at_ i d e
 ·have hi:=dc hi
  rw[dP hi] at e
  rw[dP (by rw[T.len];exact hi),T.len]
  cases q:i - cs.length with
  | zero =>
   rw[q] at e
   cases e
   exact⟨a,rfl,h⟩
  | succ n =>
   rw[q] at e
   cases e
theorem qq.of_at (T:qq H ys cs) {i:Nat} {y:V} (h:ys[i]? = some y):∃ a c,y = .ref a∧cs[i]? = some c∧H a=some (.tup c):=by
 have hi:i<cs.length:=by rw[← T.len];exact (Cv.mp h).1
 obtain⟨a,h1,h2⟩:=T.at_ i _ (Ca hi)
 rw[h] at h1
 exact⟨a,_,Option.some.inj h1,Ca hi,h2⟩
end
section
variable {J:It} {D a:Addr} {g:TG} {tt:TT} {te:TE} {fin:List V→Hp→Prop} {σ:St} {H:Hp} {xs:List V} {K:BFr}
theorem OF (W:QM J H xs) (hD:H D=none) (hz:xs.length<sizeLine) (p:V→Bool) (φ:V→V) (ht:∀ x∈xs,∀ H' R,zu H H'→(∀ H'',zu H' H''→R (p x) H'')→tt (σ.set 0 (some x)) H' R) (he:∀ x∈xs,p x=true→∀ H' R,zu H H'→(∀ H'',zu H' H''→R (φ x) H'')→te (σ.set 0 (some x)) H' R) (hf:∀ H',zu H H'→H' D=some (.lst ((xs.filter p).map φ))→fin ((xs.filter p).map φ) H'):jx J D (qx 0) tt te fin σ (upd H D (.lst [])):=by
 refine va W hD (fun i ys H'=>ys=((xs.take i).filter p).map φ) (fun σ'=>∀ x,σ'.set 0 (some x) = σ.set 0 (some x)) (fun _=>rfl) rfl ?_ ?_
 ·rintro i x ys σ' H' hx hσ s hd hl rfl
  have hi:i<xs.length:=(Cv.mp hx).1
  have hm:=CS hx
  have tk:xs.take (i+1)=xs.take i++[x]:=by rw[dv,hx];rfl
  have hσ2:∀ y,(σ'.set 0 (some x)).set 0 (some y) = σ.set 0 (some y):=fun y=>by rw[d6];exact hσ y
  show tt (σ'.set 0 (some x)) _ _
  rw[hσ x]
  refine ht x hm _ _ s fun H2 s2=>?_
  rw[hσ x] at hσ2
  cases hp:p x with
  | true =>
   refine qZ (he x hm hp _ _ (s.trans s2) fun H3 s3=>⟨s3 _ _ (s2 _ _ hd),by omega,hσ2,fun b o z=>?_,zq,?_,?_⟩)
   ·rw[zG (zP z hD)]
    exact s3 _ _ (s2 _ _ (s _ _ z))
   ·rw[Cb,CU];omega
   ·rw[tk,d7,Ci];simp[hp]
  | false =>
   refine qN ⟨hσ2,s.trans s2,s2 _ _ hd,by omega,?_⟩
   rw[tk,d7,Ci];simp[hp]
 ·rintro ys H' s hd hl rfl
  rw[dG] at hd ⊢
  exact hf H' s hd
end
end L2
namespace ST
open PySem
noncomputable def YF (xs:Array Nat):Prop:=∀ i j,i<j→j<xs.size→xs.getD i 0<xs.getD j 0
theorem lW {xs:Array Nat} {i:Nat} (h:i<xs.size) (d e:Nat):xs.getD i d=xs.getD i e:=by
 simp[Array.getD,h]
theorem VA {xs:Array Nat} (hr:YF xs) (j:Nat):∀ (fuel lo hi:Nat),hi - lo≤fuel→lo≤hi→hi≤xs.size→(∀ i,i<lo→xs.getD i 0<j)→(∀ i,hi≤i→i<xs.size→j≤xs.getD i 0) →
  (SetTable.below.go xs j fuel lo hi≤xs.size∧(∀ i,i<SetTable.below.go xs j fuel lo hi→xs.getD i 0<j)∧∀ i,SetTable.below.go xs j fuel lo hi≤i→i<xs.size→j≤xs.getD i 0)
 | 0,lo,hi,hf,hl,hs,h1,h2=>by
  have e:lo=hi:=by omega
  subst e
  exact⟨hs,h1,h2⟩
 | fuel+1,lo,hi,hf,hl,hs,h1,h2=>by
  unfold SetTable.below.go
  by_cases hlt:lo<hi
  ·rw[if_pos hlt]
   have hm:(lo+hi)/2<hi:=by omega
   have hm2:lo≤(lo+hi)/2:=by omega
   have hms:(lo+hi)/2<xs.size:=by omega
   show (if xs.getD ((lo+hi)/2) j<j then _ else _)≤_∧_
   simp only
   rw[lW hms j 0]
   by_cases hc:xs.getD ((lo+hi)/2) 0<j
   ·rw[if_pos hc]
    refine VA hr j fuel _ hi (by omega) (by omega) hs (fun i hi'=>?_) h2
    by_cases e:i=(lo+hi)/2
    ·rw[e];exact hc
    ·exact Dy (hr i _ (by omega) hms) hc
   ·rw[if_neg hc]
    refine VA hr j fuel lo _ (by omega) hm2 (by omega) h1 (fun i hi' his=>?_)
    by_cases e:i=(lo+hi)/2
    ·rw[e];exact dc hc
    ·exact cZ (dc hc) (Dd (hr _ i (by omega) his))
  ·rw[if_neg hlt]
   have e:lo=hi:=by omega
   subst e
   exact⟨hs,h1,h2⟩
theorem wZ {xs:Array Nat} (hr:YF xs) (j:Nat):SetTable.below xs j≤xs.size∧(∀ i,i<SetTable.below xs j→xs.getD i 0<j)∧∀ i,SetTable.below xs j≤i→i<xs.size→j≤xs.getD i 0 :=
 VA hr j xs.size 0 xs.size (by omega) (by omega) (cP _) (fun i h=>absurd h (DB i)) (fun i h1 h2=>absurd h2 (Nat.not_lt.mpr h1))
theorem Xu {xs:Array Nat} (hr:YF xs) {i:Nat} (hi:i<xs.size):SetTable.below xs (xs.getD i 0+1)=i+1:=by
 obtain⟨h1,h2,h3⟩:=wZ hr (xs.getD i 0+1)
 apply Nat.le_antisymm
 ·apply dc
  intro c
  have:=h2 (i+1) c
  have:=hr i (i+1) (by omega) (by omega)
  omega
 ·apply dc
  intro c
  have:=h3 i (by omega) hi
  omega
theorem xm {xs:Array Nat} (hr:YF xs):SetTable.below xs 0=0:=by
 obtain⟨h1,h2,h3⟩:=wZ hr 0
 apply Nat.eq_zero_of_not_pos
 intro c
 exact absurd (h2 0 c) (DB _)
theorem ZF {xs:Array Nat} {p x k:Nat} (hp:p≤xs.size):(SetTable.insertAt xs p x).getD k 0=if k<p then xs.getD k 0 else if k=p then x else xs.getD (k - 1) 0:=by
 unfold SetTable.insertAt
 have e:∀ (ys:Array Nat) (k:Nat),ys.getD k 0=(ys.toList[k]?).getD 0:=fun ys k=>by simp[Array.getD_eq_getD_getElem?]
 rw[e,e,e]
 have l:((xs.extract 0 p).push x++xs.extract p xs.size).toList=xs.toList.take p++x::xs.toList.drop p:=by
  simp[Array.toList_extract]
  rw[dj (by simp:_≤_)]
 rw[l]
 by_cases h1:k<p
 ·rw[if_pos h1,Dh (by rw[Cz,CN];omega),eH h1]
 ·rw[if_neg h1,dP (by rw[Cz,CN];omega),Cz,CN,dA hp]
  by_cases h2:k=p
  ·rw[if_pos h2,h2,DC];rfl
  ·rw[if_neg h2]
   obtain⟨m,hm⟩:∃ m,k - p=m+1:=⟨k - p - 1,by omega⟩
   rw[hm,List.getElem?_cons_succ,List.getElem?_drop]
   congr 2
   omega
theorem WB {xs:Array Nat} {p x:Nat} (hp:p≤xs.size):(SetTable.insertAt xs p x).size=xs.size+1:=by
 unfold SetTable.insertAt
 simp
 omega
theorem lh {xs:Array Nat} (hr:YF xs) {j:Nat} (hj:xs[SetTable.below xs j]?≠some j):YF (SetTable.insertAt xs (SetTable.below xs j) j):=by
 obtain⟨h1,h2,h3⟩:=wZ hr j
 have h4:∀ i,SetTable.below xs j≤i→i<xs.size→j<xs.getD i 0:=fun i a b=>by
  refine Nat.lt_of_le_of_ne (h3 i a b) fun e=>?_
  by_cases q:i=SetTable.below xs j
  ·apply hj
   rw[← q,dB b]
   have:xs.getD i 0=xs[i]:=by simp[Array.getD,b]
   rw[← this,← e]
  ·have:=hr (SetTable.below xs j) i (by omega) b
   have:=h3 (SetTable.below xs j) (cP _) (by omega)
   omega
 intro a b hab hb
 rw[WB h1] at hb
 rw[ZF h1,ZF h1]
 by_cases c1:b<SetTable.below xs j
 ·rw[if_pos (by omega:a<SetTable.below xs j),if_pos c1]
  exact hr a b hab (by omega)
 ·rw[if_neg c1]
  by_cases c2:b=SetTable.below xs j
  ·rw[if_pos c2,if_pos (by omega:a<SetTable.below xs j)]
   exact h2 a (by omega)
  ·rw[if_neg c2]
   by_cases c3:a<SetTable.below xs j
   ·rw[if_pos c3]
    exact Dy (h2 a c3) (h4 (b - 1) (by omega) (by omega))
   ·rw[if_neg c3]
    by_cases c4:a=SetTable.below xs j
    ·rw[if_pos c4]
     exact h4 (b - 1) (by omega) (by omega)
    ·rw[if_neg c4]
     exact hr (a - 1) (b - 1) (by omega) (by omega)
theorem Xo (n:Nat):YF (Array.range n):=by
 intro i j hij hj
 have hj':j<n:=by simpa using hj
 have hi':i<n:=by omega
 simp[Array.getD,hj',hi',hij]
theorem Zn {l:List Nat} (h:l.Pairwise (· < ·)):YF l.toArray:=by
 intro i j hij hj
 have hj':j<l.length:=by simpa using hj
 have hi':i<l.length:=by omega
 have:=DD.mp h i j hi' hj' hij
 simpa [Array.getD,hi',hj'] using this
theorem Gf {mask finger moves:Nat} {led plain:Bool} {hashes:Array Int} {t:SetTable} {order:Array Nat} (h:SetTable.laid mask finger moves led plain hashes=some (t,order)):YF t.place∧t.led=led∧t.plain=plain:=by
 unfold SetTable.laid at h
 cases e:SetTable.layClean mask hashes with
 | none =>
  rw[e] at h
  cases h
 | some owner =>
  rw[e] at h
  cases h
  refine⟨Zn ?_,rfl,rfl⟩
  rw[List.map_filterMap]
  refine List.Pairwise.filterMap _ (R:=(· < ·)) ?_ List.pairwise_lt_range
  intro a b hab x hx y hy
  simp only[Option.map_map,Option.mem_def,Cu] at hx hy
  obtain⟨_,_,rfl⟩:=hx
  obtain⟨_,_,rfl⟩:=hy
  exact hab
noncomputable def Yl (t:SetTable) (j:Nat):Prop:=t.place[SetTable.below t.place j]?≠some j
theorem gX {t:SetTable} {j:Nat} (h:∀ i,t.slot j≠.live i):Yl t j:=by
 intro e
 unfold SetTable.slot at h
 simp only at h
 rw[if_pos (by rw[e];simp)] at h
 exact h _ rfl
theorem wY {t:SetTable} {f:Nat→Int} {h:Int}:∀ (fuel:Nat) (p:SetTable.Probe),(∀ d,p.dummy=some d→Yl t d)→∀ j d,SetTable.probe.go t f h fuel p=some (.empty j d)→Yl t j∧∀ e,d=some e→Yl t e
 | 0,p,_,j,d,q=>by
  unfold SetTable.probe.go at q
  cases q
 | fuel+1,p,hp,j,d,q=>by
  unfold SetTable.probe.go at q
  cases hs:t.slot p.j with
  | empty =>
   rw[hs] at q
   simp only[Option.some.injEq,SetTable.Met.empty.injEq] at q
   obtain⟨e1,e2⟩:=q
   subst e1 e2
   exact⟨gX fun i=>by rw[hs];simp,hp⟩
  | dummy =>
   rw[hs] at q
   refine wY fuel _ (fun e he=>?_) j d q
   have:(SetTable.advance t { p with dummy:=some p.j }).dummy=some p.j:=by
    unfold SetTable.advance
    split <;> rfl
   rw[this] at he
   cases he
   exact gX fun i=>by rw[hs];simp
  | live i =>
   rw[hs] at q
   simp only at q
   split at q
   ·cases q
   ·refine wY fuel _ (fun e he=>?_) j d q
    have:(SetTable.advance t p).dummy=p.dummy:=by
     unfold SetTable.advance
     split <;> rfl
    rw[this] at he
    exact hp e he
theorem LQ {t:SetTable} {h:Int} {s:Nat} {wd:Bool} (q:t.freeSlot h=some (s,wd)):Yl t s:=by
 unfold SetTable.freeSlot at q
 cases e:t.probe (fun _=>h+1) h (t.probeStart h) with
 | none=>rw[e] at q;cases q
 | some m =>
  rw[e] at q
  cases m with
  | candidate j i n=>cases q
  | empty j d =>
   have hp:=wY _ _ (by intro d hd;cases hd) j d e
   simp only[Option.some.injEq,Prod.mk.injEq] at q
   obtain⟨q1,_⟩:=q
   cases d with
   | none=>rw[← q1];exact hp.1
   | some d=>rw[← q1];exact hp.2 d rfl
structure jS (b:Bool) (t:SetTable):Prop where
 led:t.led=b
 rise:YF t.place
theorem uv {b:Bool} {t:SetTable} (g:jS b t) (n:Nat):jS b (t.standIn n):=⟨g.led,Xo n⟩
theorem x9 {b:Bool} {t:SetTable} (g:jS b t) (p:Bool):jS b { t with plain:=p }:=⟨g.led,g.rise⟩
theorem OP {b:Bool} {t:SetTable} (g:jS b t) (es:Array (Int × Value)) (h:Int) (x:Value):jS b (layNew t es h x).2.1:=by
 unfold layNew
 cases e:t.freeSlot h with
 | none=>exact uv g _
 | some q =>
  obtain⟨s,wd⟩:=q
  have gp:jS b (t.put s).1:=⟨g.led,lh g.rise (LQ e)⟩
  show jS b ((t.put s).1.orStandIn _)
  unfold SetTable.orStandIn
  split
  ·exact gp
  ·exact uv gp _
theorem xa {b:Bool} {t:SetTable} (g:jS b t) (es:Array (Int × Value)) (n:Nat):jS b (relayAll t es n).2.1:=by
 unfold relayAll
 cases e:t.relaid (es.map (·.1)) n with
 | none=>exact uv g _
 | some q =>
  obtain⟨t',order⟩:=q
  simp only
  split
  ·obtain⟨r1,r2,_⟩:=Gf e
   exact⟨r2.trans g.led,r1⟩
  ·exact uv g _
theorem Xb (b:Bool):jS b (SetTable.fresh 0 0 b):=⟨rfl,fun i j _ h=>absurd h (DB _)⟩
open PySem.Spec
section
variable {prog:Program} {w:World} {K:Type} [DecidableEq K] [BEq K] [LawfulBEq K] {knd:KeyKind prog w K} {A:Around} {E:Value→Shared→Prop} {s:Shared}
structure At (knd:KeyKind prog w K) (b:Bool) (h:Heap) (a:Addr) (es:Array (Int × Value)):Prop where
 ex:∃ o ep t,h.get? a=some o∧o.ExactSet∧o.data = .set es ep t∧t.fits es.size=true∧jS b t
 el:ElemsOf knd es.toList
theorem UU {b:Bool} {h:Heap} {a:Addr} {o:Obj} {es es':Array (Int × Value)} {ep:Nat} {t t':SetTable} (og:h.get? a=some o) (hx:o.ExactSet) (dg:o.data = .set es ep t) (el:ElemsOf knd es'.toList) (fg:t'.fits es'.size=true) (g:jS b t') :
  (h.update a (Obj.putSet es' t')).get? a=some { o with data:=.set es' (ep+1) t' }∧At knd b (h.update a (Obj.putSet es' t')) a es':=by
 have e:(h.update a (Obj.putSet es' t')).get? a=some { o with data:=.set es' (ep+1) t' }:=by
  rw[← putSet_of es' t' dg]
  exact de _ og (by rw[putSet_of es' t' dg];rfl)
 exact⟨e,⟨_,_,_,e,hx,rfl,fg,g⟩,el⟩
noncomputable def nY (knd:KeyKind prog w K) (k:K) (x:Value) (es es':Array (Int × Value)):Prop :=
 ((∃ e∈es.toList,knd.is k e.2=true)∧es'=es)∨((∀ e∈es.toList,knd.is k e.2=false)∧es'.toList.Perm (es.toList++[(knd.hash k,x)]))
theorem Pz {b:Bool} {a:Addr} {es:Array (Int × Value)} {k:K} {x:Value} {Q:Bool→Shared→Prop} (hk:knd.is k x=true) (hx:x.scannable=true) (hA:At knd b s.heap a es) (hb:es.size+1<scanBound) (h:∀ h' es' r,Heap.SameBut a s.heap h'→At knd b h' a es'→nY knd k x es es'→Q r { s with heap:=h' }):wpAny (model prog w) A (setAddHashed a x (knd.hash k)) Q E s:=by
 obtain⟨⟨o,ep,t,og,hex,dg,fg,g⟩,el⟩:=hA
 unfold setAddHashed
 unfold setAddHashedIn
 refine wpAny_holding (wpAny_bind (wpAny_setState_of og dg fg ?_))
 dsimp only
 rw[byScan_of hx (Nat.lt_of_succ_lt hb) el]
 simp only[↓reduceIte]
 unfold setAddByScan
 refine wpAny_bind (wpAny_bind (wpAny_rule (wpAny_bind (wpAny_setScan_of hk og dg fg el ?_))))
 cases met:List.findIdx? (fun u=>knd.is k u.2) es.toList with
 | some j =>
  dsimp only
  obtain⟨j1,j2,_⟩:=List.findIdx?_eq_some_iff_getElem.mp met
  refine wpAny_pure (wpAny_pure ?_)
  have z:=h s.heap es false (Heap.SameBut.refl a s.heap) ⟨⟨o,ep,t,og,hex,dg,fg,g⟩,el⟩ (.inl ⟨⟨_,Dx j1,j2⟩,rfl⟩)
  exact z
 | none =>
  dsimp only
  have none_is:∀ e∈es.toList,knd.is k e.2=false:=fun e he=>by
   have z:=List.findIdx?_eq_none_iff.mp met e he
   simpa using z
  have gw:∀ (c:Bool) {s₁:Shared} {R:Unit→Shared→Prop},R () s₁→wpAny (model prog w) A (match c with | true=>rule "set.scan.the-table-gave-way" | false=>pure ()) R E s₁:=fun c s₁ R q=>by
   cases c
   ·exact wpAny_pure q
   ·exact wpAny_rule q
  have pm:=layNew_perm t es (knd.hash k) x
  have ft:=layNew_fits t es (knd.hash k) x
  have gl:=OP g es (knd.hash k) x
  obtain⟨L,hL⟩:∃ L,layNew t es (knd.hash k) x=L:=⟨_,rfl⟩
  rw[hL] at pm ft gl ⊢
  obtain⟨es1,t1,wd,gv⟩:=L
  dsimp only at pm ft gl ⊢
  rw[DK] at pm
  have el1:ElemsOf knd es1.toList:=(el.push hk hx).perm pm
  have sz1:es1.size=es.size+1:=by rw[← CN,pm.length_eq,Cb,CN];rfl
  have tail:∀ tb:SetTable,tb.fits es1.size=true→jS b tb→∀ R:Option Bool→Shared→Prop,(∀ h' es',Heap.SameBut a s.heap h'→At knd b h' a es'→es'.toList.Perm es1.toList→R (some true) { s with heap:=h' }) →
    wpAny (model prog w) A (do
     storeSet a es1 tb
     if (!wd&&tb.tooFull)=true then do
       (match (relayAll tb es1 (SetTable.grown es1.size)).2.2 with | true=>rule "set.scan.the-table-gave-way" | false=>pure ())
       storeSet a (relayAll tb es1 (SetTable.grown es1.size)).1 (relayAll tb es1 (SetTable.grown es1.size)).2.1
       pure (some true)
      else pure (some true)) R E s:=fun tb f2 g2 R q=>by
   have fit1:es1.size≤sizeLine:=fits_of_scanBound (by rw[sz1];exact hb)
   refine wpAny_bind (wpAny_storeSet_of og dg ?_ fit1)
   obtain⟨o1,A1⟩:=UU (knd:=knd) og hex dg el1 f2 g2
   have sb1:=Heap.SameBut.update s.heap a (Obj.putSet es1 tb)
   split
   ·have rp:=relayAll_perm tb es1 (SetTable.grown es1.size)
    have rf:=relayAll_fits tb es1 (SetTable.grown es1.size)
    have rg:=xa g2 es1 (SetTable.grown es1.size)
    have rs:(relayAll tb es1 (SetTable.grown es1.size)).1.size=es1.size:=by rw[← CN,rp.length_eq,CN]
    refine wpAny_bind (gw _ ?_)
    refine wpAny_bind (wpAny_storeSet_of o1 rfl ?_ (by rw[rs];exact fit1))
    obtain⟨_,A2⟩:=UU (knd:=knd) o1 hex rfl (el1.perm rp) rf rg
    exact wpAny_pure (q _ _ (sb1.trans (Heap.SameBut.update _ a _)) A2 rp)
   ·exact wpAny_pure (q _ _ sb1 A1 (List.Perm.refl _))
  have fin:∀ h' es',Heap.SameBut a s.heap h'→At knd b h' a es'→es'.toList.Perm es1.toList→Q true { s with heap:=h' }:=fun h' es' sb A2 p=>h h' es' true sb A2 (.inr ⟨none_is,p.trans pm⟩)
  refine wpAny_bind (gw _ ?_)
  split
  ·refine wpAny_bind ?_
   rw[hashByValue_scannable 8 hx]
   refine wpAny_pure ?_
   refine tail _ ?_ ?_ _ fun h' es' sb A2 p=>?_
   ·split
    ·exact ft
    ·exact SetTable.fits_plain_off ft
   ·split
    ·exact gl
    ·exact x9 gl _
   ·dsimp only
    exact wpAny_pure (fin h' es' sb A2 p)
  ·refine wpAny_bind (wpAny_pure ?_)
   simp only[↓reduceIte]
   refine tail _ ft gl _ fun h' es' sb A2 p=>?_
   dsimp only
   exact wpAny_pure (fin h' es' sb A2 p)
end
noncomputable def y0 (w:World):Bool:=w.params.followText "set-order"
section
variable {prog:Program} {w:World} {A:Around} {E:Value→Shared→Prop} {s:Shared}
abbrev jY (w:World):Obj:={ cls:=.type "set",dict:=none,data:=.set #[] 0 (.fresh 0 0 (!y0 w)) }
theorem OX (v:Value) {Q:Value→Shared→Prop} (h:Q (.ref s.heap.objs.size) { s with heap:=s.heap.push (jY w) }) :
  codeAny (model prog w) A (.call (.builtin "set.__new__") ⟨[.type "set",v],[]⟩) (wants Q E) s:=by
 refine codeAny_of_tree ?_
 show wpAny _ A.in1 (checkBuiltinCall "set.__new__" ⟨[.type "set",v],[]⟩ >>= fun _=>again (.builtin "set.__new__" ⟨[.type "set",v],[]⟩)) _ _ s
 refine wpAny_bind (wpAny_of_eq (F.newCall_set_1 v) (wpAny_pure ⟨plainId_quiet F.plain_set_new _,codeAny_builtin F.entry_set_new ?_⟩))
 rw[Around.under_plainId F.plain_set_new _]
 unfold Builtin.«set.__new__»
 unfold Builtin.Frozenset.newClass
 have sub:=sub_set_self
 obtain⟨hp,g,d,tk,os⟩:=s
 dsimp only
 wp_walk
 refine wpAny_askSetting (wpAny_pure ?_)
 dsimp only
 simp only[newObj]
 refine wpAny_bind (wpAny_alloc (wpAny_pure ?_))
 exact wpAny_pure h
end
open PyProof.Rows
section
variable {prog:Program} {w:World} {K:Type} [DecidableEq K] [BEq K] [LawfulBEq K] {knd:KeyKind prog w K} {A:Around} {E:Value→Shared→Prop} {s:Shared}
structure UQ (kf:Value→K) (es:Array (Int × Value)) (l:List K):Prop where
 nd:(es.toList.map fun e=>kf e.2).Nodup
 mem:∀ k,k∈es.toList.map (fun e=>kf e.2)↔k∈l
 len:es.size≤l.length
theorem Gv (kf:Value→K):UQ kf #[] []:=⟨List.nodup_nil,fun k=>Iff.rfl,cP _⟩
theorem Og {kf:Value→K} (hkf:∀ k v,knd.is k v=true→kf v=k) {es es':Array (Int × Value)} {l:List K} {k:K} {x:Value} (el:ElemsOf knd es.toList) (hk:knd.is k x=true) (c:UQ kf es l) (a:nY knd k x es es'):UQ kf es' (l++[k]):=by
 rcases a with ⟨⟨e,he,h1⟩,rfl⟩ | ⟨no,pm⟩
 ·refine⟨c.nd,fun q=>?_,by rw[Cb];exact Nat.le_add_right_of_le c.len⟩
  rw[c.mem,CM,Co]
  refine⟨.inl,fun z=>z.elim id fun z=>?_⟩
  rw[z,← c.mem]
  exact Cp.mpr ⟨e,he,hkf _ _ h1⟩
 ·have pk:(es'.toList.map fun e=>kf e.2).Perm ((es.toList.map fun e=>kf e.2)++[k]):=by
   have:=pm.map fun e=>kf e.2
   rw[Ci] at this
   simpa [hkf k x hk] using this
  have nk:¬ k∈es.toList.map fun e=>kf e.2:=fun m=>by
   obtain⟨e,he,e1⟩:=Cp.mp m
   obtain⟨⟨k',h1,_⟩,_⟩:=el e he
   have e2:=hkf _ _ h1
   have:=no e he
   rw[← e1,e2,h1] at this
   cases this
  refine⟨pk.nodup_iff.mpr ?_,fun q=>?_,?_⟩
  ·rw[List.nodup_append]
   refine⟨c.nd,by simp,fun a ha b hb z=>?_⟩
   rw[Co.mp hb] at z
   exact nk (z ▸ ha)
  ·rw[pk.mem_iff,CM,CM,c.mem]
  ·rw[← CN,pm.length_eq,Cb,Cb,CN]
   exact Nat.add_le_add_right c.len _
theorem gy {b:Bool} {h h':Heap} {a:Addr} {es:Array (Int × Value)} (x:At knd b h a es) (k:∀ o,h.get? a=some o→h'.get? a=some o):At knd b h' a es:=by
 obtain⟨⟨o,ep,t,e,r⟩,el⟩:=x
 exact⟨⟨o,ep,t,k o e,r⟩,el⟩
theorem G9 {b:Bool} {I:Addr} {fp wr:List Addr} {n:Nat} {P:Nat→Value→Prop} {St:Nat→Heap→Prop} (W:Walks prog w A.in1 I fp wr n P St) (S:Addr) (hS:S∉fp) {kf:Value→K} (hkf:∀ k v,knd.is k v=true→kf v=k) (key:Nat→K) (hv:∀ i v,P i v→knd.is (key i) v=true∧v.scannable=true) (hb:n+1<scanBound) {R:Result→Shared→Prop} :
  ∀ (m i:Nat) (s:Shared) (es:Array (Int × Value)),n - i=m→i≤n→St i s.heap→At knd b s.heap S es→UQ kf es ((List.range i).map key) →
   (∀ h' tk es',(∀ c o,c∉wr→c≠S→s.heap.get? c=some o→h'.get? c=some o)→At knd b h' S es'→UQ kf es' ((List.range n).map key)→R (.ok (.ret .none)) { s with heap:=h',toks:=tk }) →
   codeAny (model prog w) A (.builtin "set.update.loop" ⟨[.ref S,.ref I],[]⟩) R s:=by
 have hSw:S∉wr:=fun z=>hS (W.sub _ z)
 intro m
 induction m with
 | zero =>
  intro i s es hm hi st hA hK hR
  obtain rfl:i=n:=by omega
  refine codeAny_builtin F.entry_set_update_loop ?_
  rw[Around.under_plainId F.plain_set_update_loop _]
  refine wpAny_bind (W.done s _ _ st fun h' tk keep=>?_)
  exact wpAny_pure (hR h' tk es (fun c o c1 _ e=>keep c o c1 e) (gy hA fun o e=>keep _ o hSw e) hK)
 | succ m ih =>
  intro i s es hm hi st hA hK hR
  have lt:i<n:=by omega
  refine codeAny_builtin F.entry_set_update_loop ?_
  rw[Around.under_plainId F.plain_set_update_loop _]
  refine wpAny_bind (W.item i s _ _ lt st fun v h' tk hP st' keep=>?_)
  obtain⟨v1,v2⟩:=hv i v hP
  have hA':At knd b h' S es:=gy hA fun o e=>keep _ o hSw e
  refine wpAny_bind (wpAny_holding ?_)
  unfold setAdd
  refine wpAny_holding (wpAny_bind (knd.pyHash v1 ?_))
  have room:es.size+1<scanBound:=by
   have:=hK.len
   rw[cN,CG] at this
   omega
  refine Pz (knd:=knd) (s:={ s with heap:=h',toks:=tk+1 }) v1 v2 hA' room fun h2 es2 r sb A2 ad=>?_
  have K2:UQ kf es2 ((List.range (i+1)).map key):=by
   rw[List.range_succ,Ci]
   exact Og hkf hA.el v1 hK ad
  refine wpAny_pure ⟨plainId_quiet F.plain_set_update_loop _,ih (i+1) _ es2 (by omega) lt (W.frame _ _ _ st' fun c hc o e=>?_) A2 K2 fun h3 tk3 es3 keep3 A3 K3=>?_⟩
  ·exact (sb.2 c fun z=>hS (z ▸ hc)).trans e
  ·exact hR h3 tk3 es3 (fun c o c1 c2 e=>keep3 c o c1 c2 ((sb.2 c c2).trans (keep c o c1 e))) A3 K3
end
section
variable {prog:Program} {w:World} {K:Type} [DecidableEq K] [BEq K] [LawfulBEq K] {knd:KeyKind prog w K} {A:Around} {E:Value→Shared→Prop} {s:Shared}
structure ti (knd:KeyKind prog w K) (kf:Value→K) (l:List K) (h₀ h:Heap):Prop where
 ex:∃ es,At knd (!y0 w) h h₀.objs.size es∧UQ kf es l
 keep:∀ c o,c<h₀.objs.size→h₀.get? c=some o→h.get? c=some o
theorem OO {h:Heap} {a:Addr} (e:h.get? a=some (jY w)):At knd (!y0 w) h a #[] :=
 ⟨⟨_,_,_,e,⟨rfl,rfl,rfl⟩,rfl,rfl,Xb _⟩,fun _ m=>by cases m⟩
theorem oS {l:Addr} {items:Array Value} (hh:A.handled=none) (hl:s.heap.IsList l items) {kf:Value→K} (hkf:∀ k v,knd.is k v=true→kf v=k) {ks:List K}
  (hv:∀ (i:Nat) (v:Value),items[i]? = some v→∃ k,ks[i]? = some k∧knd.is k v=true∧v.scannable=true) (hn:ks.length=items.size) (hb:items.size+1<scanBound) [Inhabited K] :
  codeAny (model prog w) A (.call (.builtin "set.__init__") ⟨[.ref s.heap.objs.size,.ref l],[]⟩)
   (wants (fun r s'=>r = .none∧∃ h tk,s' = { s with heap:=h,toks:=tk }∧ti knd kf ks s.heap h) E) { s with heap:=s.heap.push (jY w) }:=by
 have e0:(s.heap.push (jY w)).get? s.heap.objs.size=some (jY w):=Cq _ rfl
 refine codeAny_call_builtin F.called_set.init.plain F.entry_set_init (check_set_init_1 ⟨_,e0,rfl⟩ ?_)
 have lt:l<s.heap.objs.size:=by
  obtain⟨o,e,_⟩:=hl
  exact cV e
 have hl1:(s.heap.push (jY w)).IsList l items:=hl.push _
 have sz:(s.heap.push (jY w)).objs.size=s.heap.objs.size+1:=dU _ _
 obtain⟨⟨cl,di,da,sl⟩,og,oc,nl,od⟩:=id hl1
 dsimp only at oc od
 cases oc
 cases od
 have q1:=F.sub_list_set
 have q2:=F.sub_list_frozenset
 have q3:(Value.type "list" == Value.type "dict")=false:=rfl
 unfold Builtin.«set.__init__»
 unfold noKeywords
 unfold Builtin.Frozenset.updateFrom
 generalize z:pyIter=it
 wp_walk
 subst z
 refine wpAny_pyIter_list hl1 (wpAny_bind (wpAny_runValue ?_))
 have nI:l≠(s.heap.push (jY w)).objs.size:=by rw[sz];exact Cc (Dz lt)
 refine G9 (knd:=knd) (b:=!y0 w) (Walks.list (by simp[hh]) _ l nI items) s.heap.objs.size ?_ hkf (fun i=>ks.getD i default) (fun i v e=>?_) hb _ 0 _ #[] rfl (Cw _)
  ⟨⟨_,Cq _ rfl,rfl,rfl⟩,hl1.push _⟩ (OO (Cf _ e0)) (Gv _) fun h tk es keep A1 K1=>?_
 ·rw[sz]
  intro m
  rcases cU.mp m with m | m
  ·exact Cc (dN _) m
  ·exact Dg lt (Co.mp m)
 ·obtain⟨k,k1,k2⟩:=hv i v e
  have:ks.getD i default=k:=by rw[CP,k1];rfl
  exact this ▸ k2
 ·have ek:(List.range items.size).map (fun i=>ks.getD i default)=ks:=by
   apply Dk
   intro i
   rw[cW]
   by_cases c:i<items.size
   ·rw[List.getElem?_range c,Option.map_some,CP,Ca (hn ▸ c)];rfl
   ·rw[dh (by simpa using c),dh (by omega)];rfl
  rw[ek] at K1
  refine wpAny_pure (wpAny_pure ⟨rfl,h,tk,rfl,⟨es,A1,K1⟩,fun c o c1 c2=>?_⟩)
  refine keep c o ?_ (Cc c1) (Cf _ (Cf _ c2))
  rw[sz]
  intro m
  exact Cc (Dz c1) (Co.mp m)
end
section
variable {prog:Program} {w:World} {K:Type} [DecidableEq K] [BEq K] [LawfulBEq K] [Inhabited K] {knd:KeyKind prog w K} {A:Around} {E:Value→Shared→Prop} {s:Shared}
set_option maxHeartbeats 3200000 in
theorem oz {l:Addr} {items:Array Value} (hh:A.handled=none) (hl:s.heap.IsList l items) {kf:Value→K} (hkf:∀ k v,knd.is k v=true→kf v=k) {ks:List K}
  (hv:∀ (i:Nat) (v:Value),items[i]? = some v→∃ k,ks[i]? = some k∧knd.is k v=true∧v.scannable=true) (hn:ks.length=items.size) (hb:items.size+1<scanBound) {Q:Value→Shared→Prop}
  (q:∀ h tk,ti knd kf ks s.heap h→Q (.ref s.heap.objs.size) { s with heap:=h,toks:=tk }):wpAny (model prog w) A (call (.type "set") [.ref l]) Q E s:=by
 obtain⟨_,_,m⟩:=F.called_set.mro
 have md:=F.called_set.made
 have sb:=F.called_set.sub
 have nt:=F.called_set.notType
 have cc:=F.called_set.canCreate
 have tc:=F.typeCall_set_1 (.ref l)
 refine wpAny_call (codeAny_of_tree (show wpAny _ _ (callAny (.type "set") _) _ _ _ from ?_))
 refine wpAny_pure ⟨Code.quiet_builtin _ (by decide +kernel),codeAny_builtin F.entry_type_call ?_⟩
 rw[Around.under_plain (weight_type_call_type "set" _ _) rfl]
 repeat' (first | assumption | wp_step)
 refine codeAny_mono (OX (.ref l) (E:=E) (Q:=fun v t=>v = .ref s.heap.objs.size∧t = { s with heap:=s.heap.push (jY w) }) ⟨rfl,rfl⟩) fun r t hr=>?_
 match r,hr with
 | .error e,hr=>exact hr
 | .ok (.ret v),hr =>
  obtain⟨e1,e2⟩:=hr
  subst e1 e2
  have e0:(s.heap.push (jY w)).get? s.heap.objs.size=some (jY w):=Cq _ rfl
  have ty:Shared.TypeIs { s with heap:=s.heap.push (jY w) } (.ref s.heap.objs.size) "set":=⟨_,e0,rfl⟩
  have i1:=F.called_set.init.lookup
  have i2:=F.called_set.init.bind (.ref s.heap.objs.size)
  repeat' (first | assumption | wp_step)
  refine codeAny_mono (oS (knd:=knd) (E:=E) (by simp[hh]) hl hkf hv hn hb) fun r2 t2 hr2=>?_
  match r2,hr2 with
  | .error e,hr2=>exact hr2
  | .ok (.ret v2),hr2 =>
   obtain⟨f1,h,tk,f2,L⟩:=hr2
   subst f1 f2
   repeat' (first | assumption | wp_step)
   exact q h tk L
end
end ST
namespace L2
open PySem PySem.Spec PyProof.Rows
section
variable {X:Cx} {pins:List (Addr × Obj)} {σ:St} {H:Hp} {s:Shared} {a:Expr} {ta:TA} {p1 p2 p3 pos:Pos}
end
open PySem.W
section
variable {X:Cx} {pins:List (Addr × Obj)} {σ:St} {H:Hp} {s:Shared} {a:Addr}
theorem zN.adoptO {o:HO} (I:zN X pins σ H s) (f:yv X pins H a) (new:yi X.prog X.w (upd H a o) s.heap a o):zN X pins σ (upd H a o) s:=by
 have ne:∀ b o,H b=some o→b≠a:=fun b o q=>zP q f.1
 refine⟨I.ok,I.os,I.bare,⟨I.base.keep,I.base.slot,fun b o q n hx=>?_,I.base.there,fun b ys q=>?_,fun b o u q=>?_,fun b ps q=>?_⟩,I.loc,I.cell,?_,fun x c q=>?_,fun p hp=>?_,fun b o q=>?_,I.len⟩
 ·have nb:b≠a:=fun z=>by
   subst z
   rcases f.2.2.2.1 with z | z
   ·exact hx z
   ·rw[z] at q;cases q
  rw[zG nb]
  exact I.base.free b o q n hx
 ·have z:=I.base.tups b ys q
  rw[zG (ne _ _ z)];exact z
 ·have z:=I.base.frzs b o u q
  rw[zG (ne _ _ z)];exact z
 ·obtain⟨m,z⟩:=I.base.tbls b ps q
  exact⟨m,by rw[zG (ne _ _ z)];exact z⟩
 ·rw[zG (Ne.symm f.2.1)];exact I.free
 ·rw[zG (f.2.2.2.2.1 x c q)];exact I.freeC x c q
 ·obtain⟨p1,p2,p3,p4,p5⟩:=I.pin p hp
  exact⟨p1,by rw[zG (f.2.2.2.2.2 p hp)];exact p2,p3,p4,p5⟩
 ·by_cases nb:b=a
  ·subst nb
   rw[zq] at q
   cases q
   exact new
  ·rw[zG nb] at q
   refine (I.hok b o q).stay (fun c u _ z=>z) (fun c z=>?_) fun c ys z=>?_
   ·rw[zG (ne _ _ z)];exact z
   ·rw[zG (ne _ _ z)];exact z
end
section
variable {X:Cx}
end
end L2
namespace Pg
open PySem L2
noncomputable def Zg (c:Nat):Bool:=decide (97≤c)&&decide (c≤122)
theorem wL:("abcdefghijklmnopqrstuvwxyz":Str).cps.toList=List.range' 97 26:=by decide +kernel
theorem LC {c:Nat}:c∈List.range' 97 26↔Zg c=true:=by
 rw[List.mem_range'_1]
 unfold Zg
 rw[cQ,decide_eq_true_iff,decide_eq_true_iff]
 omega
theorem Zs (c:Nat):(!(Builtin.Str.occurrences ("abcdefghijklmnopqrstuvwxyz":Str) ⟨#[c]⟩ 0 ("abcdefghijklmnopqrstuvwxyz":Str).length 1).isEmpty)=Zg c:=by
 rw[gn,wL,dD,du,LC]
structure Vm (z:Str):Prop where
 lo:1≤z.length
 hi:z.length≤8
 all:z.cps.toList.all Zg=true
noncomputable def gx:Sp:=fun vs H Q _=>∃ z,vs=[.str z,.str "abcdefghijklmnopqrstuvwxyz"]∧Vm z∧∀ H',zu H H'→Q (.bl true) H'
noncomputable def X9:Sp:=fun vs H Q _=>∃ z,vs=[.str z]∧Vm z∧∀ H',zu H H'→Q (.bl true) H'
theorem GW (cs:List Nat) (acc:Array Nat):((cs.map fun c=>(⟨#[c]⟩:Str)).foldl (fun acc p=>acc++("":Str).cps++p.cps) acc).toList=acc.toList++cs:=by
 induction cs generalizing acc with
 | nil=>simp
 | cons c r ih =>
  rw[CF,d5,ih]
  have:("":Str).cps = #[]:=by decide +kernel
  rw[this]
  simp
theorem xA (cs:List Nat):(Txt.join ("":Str) (cs.map fun c=>(⟨#[c]⟩:Str))).cps.toList=cs:=by
 unfold Txt.join Builtin.Str.glued
 cases cs with
 | nil=>rfl
 | cons c r =>
  show (((r.map fun c=>(⟨#[c]⟩:Str)).foldl (fun acc p=>acc++("":Str).cps++p.cps) #[c])).toList=c::r
  rw[GW]
  rfl
theorem Wx:("abcdefghijklmnopqrstuvwxyz":Str).length≤sizeLine:=uq (m:=26) (by decide +kernel) rfl
noncomputable def vK (z:Str):Bool:=decide (1≤z.length)&&decide (z.length≤8)&&z.cps.toList.all Zg
theorem US {z:Str} (h:vK z=true):Vm z:=by
 unfold vK at h
 rw[cQ,cQ] at h
 exact⟨of_decide_eq_true h.1.1,of_decide_eq_true h.1.2,h.2⟩
end Pg
namespace DL
open PySem PySem.Spec PyProof.Rows
section
variable {prog:Program} {w:World} {A:Around} {E:Value→Shared→Prop} {s:Shared}
variable {K:Type} [DecidableEq K] {knd:KeyKind prog w K}
end
end DL
namespace L2
open PySem PySem.Spec PyProof.Rows
section
variable {X:Cx}
end
section
variable {X:Cx}
end
end L2
namespace Pg
open PySem L2
section
variable {C:Addr} {S S':List Addr} {H H' H1:Hp}
end
structure Tn where
 L:Addr
 dx:Addr
 t:Addr
 m:Addr
 o:Addr
 pd:Addr
 ml:Addr
 hl:Addr
 tl:Addr
 nl:Addr
 L2:Addr
 dx2:Addr
 t2:Addr
 m2:Addr
 nms:List Str
noncomputable def Tn.us (A:Tn):List Addr:=[A.hl,A.tl,A.ml,A.pd,A.o,A.m2,A.t2,A.L2,A.m,A.t,A.L,A.nl]
noncomputable def Tn.S (A:Tn):List Addr:=[A.L,A.t,A.m,A.o,A.pd,A.ml,A.hl,A.tl]
section
variable {C:Addr} {S:List Addr} {H H':Hp} {A:Tn} {RY told':List (Str × Int)} {n n':Nat}
end
end Pg
namespace L2
open PySem PySem.Spec PyProof.Rows
section
variable {X:Cx} {pins:List (Addr × Obj)} {σ:St} {H:Hp} {s:Shared}
theorem zN.turnedS {t':Nat} {h':Heap} {fp:List Addr} (I:zN X pins σ H s) (k:∀ b o,¬ b∈fp→s.heap.get? b=some o→h'.get? b=some o) (hf:∀ b∈fp,yv X pins H b):zN X pins σ H { s with heap:=h',toks:=t' }:=by
 have nit:∀ b u,H b=some u→¬ b∈fp:=fun b u e z=>by rw[(hf b z).1] at e;cases e
 refine I.step (g':=s.gens) (d':=s.drawn) (ch:=fp) (fun b hb=>?_) (fun b o _ _ hc e _=>k b o hc e) (fun b o _ _ hc e _=>⟨o.slots,k b o hc e⟩) (fun _ _ _ _ n=>n)
  (fun b o hc e=>⟨o,k b o hc e⟩) (fun _ _ e=>e) (fun _ _ _ e=>e) (fun b ps e=>⟨#[],by rw[e];simp⟩) (fun m hm=>?_) (fun b u e=>?_) I.bare
 ·obtain⟨_,h2,_,h4,h5,h6⟩:=hf b hb
  exact⟨h4,h2,h5,h6⟩
 ·obtain⟨o,es,ep,ho,r⟩:=hm
  exact⟨o,es,ep,k _ o (fun z=>(hf _ z).2.1 rfl) ho,r⟩
 ·refine (I.hok b u e).stay (fun c v hc q=>k c v ?_ q) (fun _ q=>q) fun _ _ q=>q
  rcases hc with z | z
  ·rw[z];exact nit b u e
  ·exact nit c _ z
theorem zN.pair {h':Heap} {t':Nat} {v w:V} {x y:Value} (I:zN X pins σ H s) (J:zN X pins σ H { s with heap:=h',toks:=t' }) (hv:qG v x) (hw:qG w y) (hp:IsPair h' s.heap.objs.size x y) :
  zN X pins σ (upd H s.heap.objs.size (.tup [v,w])) { s with heap:=h',toks:=t' } :=
 J.adoptO (o:=.tup [v,w]) (I.fpOk (cP _) (I.hok.fresh (cP _))) ⟨z6 rfl,[x,y],.cons hv (.cons hw .nil),_,hp,rfl,_,rfl⟩
end
noncomputable def bP (K:BFr) (a b:Addr):It :=
 ⟨fun i H=>∃ xs ys x y,zY K H a xs∧zY K H b ys∧xs[i]? = some x∧ys[i]? = some y,
  fun i H z H'=>∃ p x y,z = .ref p∧H p=none∧H'=upd H p (.tup [x,y])∧∀ xs ys,zY K H a xs→zY K H b ys→xs[i]? = some x∧ys[i]? = some y,
  fun i H=>∃ xs ys,zY K H a xs∧zY K H b ys∧(xs.length≤i∨ys.length≤i)⟩
theorem Pi {P:Program} {w:World} {K:BFr} {es:List Expr} {n:Nat} {pos:Pos} {z TI TO i1 i2 a b:Addr} (D:ZipApart z TI TO i1 i2 a b) :
  U9 P w K (.Tuple es n pos) (bP K a b) [z,TI,TO,i1,i2] z (fun i h=>IsZip h z TI TO .none∧IsPair h TI (.ref i1) (.ref i2)∧(∃ u v,IsPair h TO u v)∧h.IsListIter i1 a i∧h.IsListIter i2 b i) where
 mem:=by simp
 obj:=fun i h st c hc=>by
  obtain⟨h1,h2,⟨u,v,h3⟩,h4,h5⟩:=st
  simp only[cU,cX,or_false] at hc
  rcases hc with rfl | rfl | rfl | rfl | rfl
  ·exact⟨_,h1,fun v q=>nomatch q⟩
  ·exact⟨_,h2,fun v q=>nomatch q⟩
  ·exact⟨_,h3,fun v q=>nomatch q⟩
  ·obtain⟨o,e,c,d⟩:=h4
   exact⟨o,e,fun v q=>by rw[d] at q;cases q⟩
  ·obtain⟨o,e,c,d⟩:=h5
   exact⟨o,e,fun v q=>by rw[d] at q;cases q⟩
 keep:=fun i h h' st k=>by
  obtain⟨h1,h2,⟨u,v,h3⟩,h4,h5⟩:=st
  exact⟨k z (by simp) _ h1,k TI (by simp) _ h2,⟨u,v,k TO (by simp) _ h3⟩,h4.at fun o e=>k i1 (by simp) o e,h5.at fun o e=>k i2 (by simp) o e⟩
 item:=by
  intro X hP hw hK hc i pins s σ H E I hf st hg
  subst hP hw hK
  obtain⟨h1,h2,⟨u,v,h3⟩,h4,h5⟩:=st
  obtain⟨xs,ys,x,y,q1,q2,hx,hy⟩:=hg
  obtain⟨its,rv,p,hz⟩:=I.list q1
  obtain⟨jts,rw',p',hz'⟩:=I.list q2
  obtain⟨x',hx',rx⟩:=rv.get hx
  obtain⟨y',hy',ry⟩:=rw'.get hy
  have lt:∀ c∈[z,TI,TO,i1,i2],c<s.heap.objs.size:=fun c hc=>by
   obtain⟨o4,e4,_⟩:=h4
   obtain⟨o5,e5,_⟩:=h5
   simp only[cU,cX,or_false] at hc
   rcases hc with rfl | rfl | rfl | rfl | rfl
   ·exact cV h1
   ·exact cV h2
   ·exact cV h3
   ·exact cV e4
   ·exact cV e5
  refine wpAny_pyNext_zip_item D h1 h2 h3 h4 h5 p.isList p'.isList (x:=x') (y:=y') (by simpa using hx') (by simpa using hy') fun h' k1 k2 k3 k4 k5 k6 k7=>?_
  refine⟨_,rfl,wpAny_letOwnedTupleGo_zip k1 fun h2' m1 sb=>?_⟩
  have sb:Heap.SameBut z h' h2':=sb
  have kk:∀ c o,¬ c∈[z,TI,TO,i1,i2]→s.heap.get? c=some o→h2'.get? c=some o:=fun c o hc e=>by
   simp only[cU,cX,or_false,not_or] at hc
   exact sb.extBut _ _ hc.1 (k7 c o hc.1 hc.2.2.1 hc.2.2.2.1 hc.2.2.2.2 e)
  have nz:s.heap.objs.size≠z:=Dg (lt z (by simp))
  have J:zN X pins σ H { s with heap:=h2',toks:=s.toks }:=I.turnedS kk hf
  refine⟨.ref s.heap.objs.size,_,I.pair J rx ry (sb.extBut _ _ nz k5),rfl,⟨_,x,y,rfl,I.hok.fresh (cP _),rfl,fun xs' ys' r1 r2=>?_⟩,⟨m1,?_,⟨_,_,sb.extBut _ _ D.TOz k2⟩,k3.extBut sb.extBut D.i1z,k4.extBut sb.extBut D.i2z⟩,fun c hc=>?_⟩
  ·rw[I.list_inj r1 q1,I.list_inj r2 q2]
   exact⟨hx,hy⟩
  ·exact sb.extBut _ _ D.TIz (k7 _ _ D.TIz D.TITO D.TIi1 D.TIi2 h2)
  ·rw[zG (Cc (lt c hc))]
   exact (hf c hc).1
 done:=by
  intro X hP hw hK hc i pins s σ H E I hf st hg
  subst hP hw hK
  obtain⟨h1,h2,⟨u,v,h3⟩,h4,h5⟩:=st
  obtain⟨xs,ys,q1,q2,hl⟩:=hg
  obtain⟨its,rv,p,hz⟩:=I.list q1
  obtain⟨jts,rw',p',hz'⟩:=I.list q2
  have l1:=rv.length
  have l2:=rw'.length
  refine wpAny_pyNext_zip_end (I.ok.hd hc) D h1 h2 h3 h4 h5 p.isList p'.isList ?_ fun h' k=>⟨rfl,I.turnedS (t':=s.toks) (fun c o hc e=>?_) hf⟩
  ·rcases hl with hl | hl
   ·exact .inl (by simp;omega)
   ·exact .inr (by simp;omega)
  ·simp only[cU,cX,or_false,not_or] at hc
   exact k c o hc.1 hc.2.2.1 hc.2.2.2.1 hc.2.2.2.2 e
 self:=fun _ _ _ _ _ st h=>wpAny_pyIter_zip st.1 h
noncomputable def NG (K:BFr) (ta:TA):TI:=fun σ H R=>ta σ H fun vs H1=>∃ a b,vs=[.ref a,.ref b]∧(∃ xs,zY K H1 a xs)∧(∃ ys,zY K H1 b ys)∧R (bP K a b) H1
section
variable {X:Cx} {es:List Expr} {n:Nat} {tpos:Pos}
theorem PX {a b:Expr} {ta:TA} {p pos:Pos} (hg:Gl X "zip") (hm:X.mg "zip" = none) (ha:PA X [a,b] ta) (hs:starEach [a,b] X.env=[(false,eval a X.env),(false,eval b X.env)]:=by rfl) (hs2:starEach [b] X.env=[(false,eval b X.env)]:=by rfl) :
  PI X (.Tuple es n tpos) (.Call (.Name "zip" p) [a,b] [] pos) (NG X.K ta):=by
 intro pins s σ H R I h
 refine Call_ (uT I hg hm boot_zip (PyProof.Rows.callWith_type1 (q0 (ha pos pins s σ H _ I h) fun us s1 ⟨vs,H1,I1,r1,q1⟩=>?_) (by rw[hs,hs2]) (by rw[hs2];rfl)))
 obtain⟨l1,l2,e,⟨xs,h1⟩,⟨ys,h2⟩,q⟩:=q1
 subst e
 cases r1 with
 | cons r rr =>
  cases rr with
  | cons r' rr =>
   cases rr
   cases r
   cases r'
   obtain⟨its,rv,p,hz⟩:=I1.list h1
   obtain⟨jts,rw',p',hz'⟩:=I1.list h2
   have a1:l1<s1.heap.objs.size:=by obtain⟨_,e,_⟩:=p.isList;exact cV e
   have a2:l2<s1.heap.objs.size:=by obtain⟨_,e,_⟩:=p'.isList;exact cV e
   refine call_zip_2 p.isList p'.isList fun h' k1 k2 k3 k4 k5 k6 k7=>?_
   refine wpAny_pyIter_zip k1 ?_
   refine⟨_,_,_,_,H1,rfl,I1.kept (t':=s1.toks) k7,Pi (zipApart_new a1 a2),⟨k1,k2,⟨_,_,k3⟩,k4,k5⟩,fun c hc=>?_,q⟩
   have hc:s1.heap.objs.size≤c:=by
    simp only[cU,cX,or_false] at hc
    rcases hc with rfl | rfl | rfl | rfl | rfl
    ·exact dH _ _
    ·exact dH _ _
    ·exact dH _ _
    ·exact cP _
    ·exact dH _ _
   exact I1.fpOk hc (I1.hok.fresh hc)
end
open PySem.W
end L2
namespace DT
open PySem PySem.Spec PyProof.Rows
section
variable {prog:Program} {w:World} {A:Around} {E:Value→Shared→Prop} {s:Shared}
variable {K:Type} [DecidableEq K] {knd:KeyKind prog w K}
end
end DT
namespace L2
open PySem PySem.Spec PyProof.Rows
section
variable {X:Cx}
end
section
variable {X:Cx} {a b:Expr} {yE:List Expr} {ta tb:TE} {pos:Pos}
end
noncomputable def NV (K:BFr):R2:=fun x y H Q=>∃ a b xs,x = .ref a∧y = .ref b∧zY K H a xs∧zY K H b []∧(xs=[]→Q (.bl false) H)∧(xs≠[]→Q (.bl true) H)
theorem Wk {X:Cx} (hu:X.A.units<cLine):wF X (compareOp .NotEq) (NV X.K):=by
 intro pins s σ H x y v u Q I rx ry h
 obtain⟨a,b,xs,rfl,rfl,h1,h2,q1,q2⟩:=h
 cases rx
 cases ry
 obtain⟨us,r1,p1,_⟩:=I.list h1
 obtain⟨ws,r2,p2,_⟩:=I.list h2
 have l1:=r1.length
 have l2:=r2.length
 rw[dQ] at l2
 by_cases hl:xs=[]
 ·subst hl
  rw[dQ] at l1
  refine SeqAt.RcNeAt.lists p1.isList p2.isList (by simp;omega) hu (e:=fun _=>true) (fun j h1 h2=>?_) _ _ _ _ ⟨.bl false,H,I,?_,q1 rfl⟩
  ·simp at h1
   omega
  ·have:us=[]:=DE.mp l1.symm
   subst this
   rfl
 ·have:0<xs.length:=List.length_pos_iff.mpr hl
  exact SeqAt.RcNeAt.lists_lengths p1.isList p2.isList (by simp;omega) hu _ _ _ _ ⟨.bl true,H,I,rfl,q2 hl⟩
open Builtin Builtin.Str
section
variable {prog:Program} {w:World} {A:Around} {E:Value→Shared→Prop} {s:Shared} {J l:Addr} {items:Array Value}
end
section
variable {X:Cx} {a:Expr} {ta:TA} {p1 p2 p3 apos cpos:Pos} {sep:Str} {kn:Nat}
end
end L2
namespace L2
open PySem PySem.Spec PyProof.Rows
section
variable {X:Cx}
end
theorem Rh {σ:St} {H:Hp} {A B:Hp→Prop} (h:A H):yb σ H fun b H2=>if b=true then A H2 else B H2:=by
 show if true=true then A H else B H
 exact qZ h
structure j6 {α:Type} (H:Hp) (ys:List V) (xs:List α) (P:Hp→V→α→Prop):Prop where
 len:ys.length=xs.length
 at_:∀ (i:Nat) (y:V),ys[i]? = some y→∃ x,xs[i]? = some x∧∀ H',zu H H'→P H' y x
section
variable {J:It} {D:Addr} {te:TE} {fin:List V→Hp→Prop} {σ:St} {H:Hp} {ys:List V} {α:Type} {xs:List α} {P:Hp→V→α→Prop}
theorem jL (W:QM J H ys) (T:j6 H ys xs P) (hD:H D=none) (hz:xs.length<sizeLine) (φ:α→V) (he:∀ x∈xs,∀ v H' R,zu H H'→P H' v x→(∀ H'',zu H' H''→R (φ x) H'')→te (σ.set 0 (some v)) H' R) (hf:∀ H',zu H H'→H' D=some (.lst (xs.map φ))→fin (xs.map φ) H'):jx J D (qx 0) yb te fin σ (upd H D (.lst [])):=by
 refine va W hD (fun i zs H'=>zs=(xs.take i).map φ) (fun σ'=>∀ x,σ'.set 0 (some x) = σ.set 0 (some x)) (fun _=>rfl) rfl ?_ ?_
 ·rintro i y zs σ' H' hy hσ s hd hl rfl
  obtain⟨x,hx,hP⟩:=T.at_ i y hy
  have tk:xs.take (i+1)=xs.take i++[x]:=by rw[dv,hx];rfl
  have hi:i<xs.length:=(Cv.mp hx).1
  have hσ2:∀ z,(σ'.set 0 (some y)).set 0 (some z) = σ.set 0 (some z):=fun z=>by rw[d6];exact hσ z
  unfold Yp qx
  dsimp only
  refine Rh ?_
  rw[hσ y] at hσ2 ⊢
  refine he x (CS hx) y _ _ s (hP _ s) fun H3 s3=>⟨s3 _ _ hd,by omega,hσ2,fun b o z=>?_,zq,?_,?_⟩
  ·rw[zG (zP z hD)]
   exact s3 _ _ (s _ _ z)
  ·rw[Cb,CU];omega
  ·rw[tk,Ci];rfl
 ·rintro zs H' s hd hl rfl
  rw[T.len,dG] at hd ⊢
  exact hf H' s hd
theorem WC {tt:TT} (W:QM J H ys) (T:j6 H ys xs P) (hD:H D=none) (hz:xs.length<sizeLine) (p:α→Bool) (φ:α→V) (ht:∀ x∈xs,∀ v H' R,zu H H'→P H' v x→(∀ H'',zu H' H''→R (p x) H'')→tt (σ.set 0 (some v)) H' R) (he:∀ x∈xs,∀ v H' R,zu H H'→P H' v x→(∀ H'',zu H' H''→R (φ x) H'')→te (σ.set 0 (some v)) H' R) (hf:∀ H',zu H H'→H' D=some (.lst ((xs.filter p).map φ))→fin ((xs.filter p).map φ) H'):jx J D (qx 0) tt te fin σ (upd H D (.lst [])):=by
 refine va W hD (fun i zs H'=>zs=((xs.take i).filter p).map φ) (fun σ'=>∀ x,σ'.set 0 (some x) = σ.set 0 (some x)) (fun _=>rfl) rfl ?_ ?_
 ·rintro i y zs σ' H' hy hσ s hd hl rfl
  obtain⟨x,hx,hP⟩:=T.at_ i y hy
  have tk:xs.take (i+1)=xs.take i++[x]:=by rw[dv,hx];rfl
  have hi:i<xs.length:=(Cv.mp hx).1
  have hm:=CS hx
  have hσ2:∀ z,(σ'.set 0 (some y)).set 0 (some z) = σ.set 0 (some z):=fun z=>by rw[d6];exact hσ z
  unfold Yp qx
  dsimp only
  rw[hσ y] at hσ2 ⊢
  refine ht x hm y _ _ s (hP _ s) fun H2 s2=>?_
  cases q:p x with
  | true =>
   refine qZ (he x hm y _ _ (s.trans s2) (hP _ (s.trans s2)) fun H3 s3=>⟨s3 _ _ (s2 _ _ hd),by omega,hσ2,fun b o z=>?_,zq,?_,?_⟩)
   ·rw[zG (zP z hD)]
    exact s3 _ _ (s2 _ _ (s _ _ z))
   ·rw[Cb,CU];omega
   ·rw[tk,d7,Ci];simp[q]
  | false =>
   refine qN ⟨hσ2,s.trans s2,s2 _ _ hd,by omega,?_⟩
   rw[tk,d7,Ci];simp[q]
 ·rintro zs H' s hd hl rfl
  rw[T.len,dG] at hd ⊢
  exact hf H' s hd
theorem u5 (W:QM J H ys) (hl:ys.length=xs.length) (hD:H D=none) (hz:xs.length<sizeLine) (S:V→α→Prop) (he:∀ (i:Nat) x v,xs[i]? = some x→ys[i]? = some v→∀ H' R,zu H H'→(∀ u H'',S u x→zu H' H''→R u H'')→te (σ.set 0 (some v)) H' R) (hf:∀ zs H',zu H H'→zs.length=xs.length→(∀ (i:Nat) u,zs[i]? = some u→∃ x,xs[i]? = some x∧S u x)→H' D=some (.lst zs)→fin zs H'):jx J D (qx 0) yb te fin σ (upd H D (.lst [])):=by
 refine va W hD (fun i zs H'=>zs.length=i∧∀ (j:Nat) u,zs[j]? = some u→∃ x,xs[j]? = some x∧S u x) (fun σ'=>∀ x,σ'.set 0 (some x) = σ.set 0 (some x)) (fun _=>rfl) ⟨rfl,fun j u e=>by cases e⟩ ?_ ?_
 ·rintro i y zs σ' H' hy hσ s hd hl' ⟨g1,g2⟩
  have hi:i<xs.length:=by rw[← hl];exact (Cv.mp hy).1
  have hx:=Ca hi
  have hσ2:∀ z,(σ'.set 0 (some y)).set 0 (some z) = σ.set 0 (some z):=fun z=>by rw[d6];exact hσ z
  unfold Yp qx
  dsimp only
  refine Rh ?_
  rw[hσ y] at hσ2 ⊢
  refine he i _ y hx hy _ _ s fun u H3 hu s3=>⟨s3 _ _ hd,by omega,hσ2,fun b o z=>?_,zq,?_,?_,fun j w e=>?_⟩
  ·rw[zG (zP z hD)]
   exact s3 _ _ (s _ _ z)
  ·rw[Cb,CU];omega
  ·rw[Cb,CU,g1]
  ·by_cases hj:j<zs.length
   ·rw[Dh hj] at e
    exact g2 j w e
   ·rw[dP (dc hj)] at e
    cases q:j - zs.length with
    | zero =>
     rw[q] at e
     cases e
     have:j=i:=by omega
     subst this
     exact⟨_,hx,hu⟩
    | succ n =>
     rw[q] at e
     cases e
 ·rintro zs H' s hd _ ⟨g1,g2⟩
  exact hf zs H' s (g1.trans hl) g2 hd
end
section
variable {X:Cx} {elt iter tgt:Expr} {ifs:List Expr} {scope:Scope} {cl:List (Str × Addr)} {Nc:List Str} {src:List (Option Nat)} {g:TG} {tt:TT} {te:TE} {x0:Str}
end
end L2
namespace Pg
open PySem L2
section
variable {H H':Hp} {ys:List V} {tab:List (List Str)}
end
section
variable {tab:List (List Str)} {n:Nat}
end
theorem xx (sep:Str) (m:Nat):∀ (zs:List Str) (acc:Nat),(∀ z∈zs,z.length≤m)→zs.foldl (fun a z=>a+z.length+sep.length) acc≤acc+zs.length*(m+sep.length):=by
 intro zs
 induction zs with
 | nil=>intro acc _;simp
 | cons z r ih =>
  intro acc h
  rw[d5]
  have h1:=ih (acc+z.length+sep.length) fun z hz=>h z (Cd _ hz)
  have h2:=h z Ce
  rw[CI,Nat.succ_mul]
  omega
theorem P5 {sep:Str} {m:Nat} (hs:sep.length≤2):∀ (k:Nat) (zs:List Str),zs.length=k→(∀ z∈zs,z.length≤m)→(Txt.join sep zs).length≤k*(m+2):=by
 intro k
 induction k with
 | zero =>
  intro zs e _
  rw[DE.mp e]
  exact Cw _
 | succ k ih =>
  intro zs e h
  rcases List.eq_nil_or_concat zs with rfl | ⟨r,z,rfl⟩
  ·cases e
  ·rw[List.concat_eq_append] at e h ⊢
   have er:r.length=k:=by rw[Cb,CU] at e;omega
   have hz:=h z (CC _ Ce)
   have hr:=ih r er fun z hz=>h z (CW _ hz)
   rw[Nat.succ_mul]
   by_cases c:r=[]
   ·subst c
    rw[List.nil_append,U8]
    omega
   ·rw[vf _ _ c,qe,qe]
    omega
theorem yx {sep:Str} {zs:List Str} {m k:Nat} (h:∀ z∈zs,z.length≤m) (hk:zs.length≤k) (hs:sep.length≤2) (hz:Nat.ble (k*(m+2)) 1000000=true):JoinOk sep zs=true∧(Txt.join sep zs).length≤k*(m+2):=by
 have h1:=xx sep m zs 0 h
 have h2:zs.length*(m+sep.length)≤k*(m+2):=Nat.mul_le_mul hk (Nat.add_le_add_left hs _)
 have h3:=cY hz
 constructor
 ·unfold JoinOk Builtin.Str.tooLong
  rw[List.foldl_toArray,dz,decide_eq_false_iff_not,sizeLine_eq]
  omega
 ·exact cZ (P5 hs _ zs rfl h) (Nat.mul_le_mul_right _ hk)
noncomputable def Yi:Sp:=fun vs H Q _=>∃ i,vs=[.int i]∧Q .non H
theorem oY {H:Hp} (n:Nat):j6 H ((List.range n).map fun k=>V.int (0+(k:Nat))) (List.range n) (fun _ v k=>v = .int (k:Nat)) :=
 ⟨cN _,fun i y h=>by
  rw[cW] at h
  obtain⟨z,h1,rfl⟩:=Cu.mp h
  exact⟨z,h1,fun _ _=>by rw[dR]⟩⟩
end Pg
set_option maxHeartbeats 4000000
namespace K10
open PySem PySem.NumText L2 Pg
seal PE PA PT PW PS y8 PG vz PI j8 PO PK
section
variable {P:Program} {w:World} {K:BFr} {mg:Str→Option Value} {base:Heap} {f:Addr} {fd:FuncData} {d:Nat→Addr} {cR:Addr}
theorem lP (F:qM K "need_amount" "need_amount" (zX 26) f fd) (C1:qR P w K mg base zQ 1 "is_number" ["thing"] (uB K)):zL P w K mg base zQ 2 f fd ["thing"] Yi:=by
 refine F.ok (N:=["thing"]) (by walk_at"s") (fun vs H Q E h=>?_) (fun cdv A outer s H vs Q E hr h=>?_)
 ·obtain⟨i,rfl,_⟩:=h
  rfl
 ·obtain⟨i,rfl,q⟩:=h
  refine⟨_,zh (zK (qz (qy (zk C1 hr (by decide) zx (za (pv 0) zd)))) qJ zB),?_⟩
  exact⟨_,rfl,_,rfl,.inl ⟨i,rfl,true,rfl,qN q⟩⟩
end
end K10
namespace Pg
open PySem L2
section
variable {K:BFr} {ea C:Addr} {σ:St}
end
end Pg
namespace L2
open PySem PySem.Spec PyProof.Rows
section
variable {X:Cx} {pins:List (Addr × Obj)} {σ:St} {H:Hp} {s:Shared} {d:Addr} {kvs:List (jZ × V)}
end
section
variable {X:Cx}
noncomputable def br:Value→Bool
 | .bool b=>b
 | _=>false
theorem lO {bs:List Bool} {its:List Value} (r:qt (bs.map V.bl) its):its=bs.map Value.bool:=by
 induction bs generalizing its with
 | nil=>cases r;rfl
 | cons b l ih =>
  cases r with
  | cons a c=>rw[CF,← ih c,show _=Value.bool b from a]
theorem PB {A:Around} {s:Shared} {bs:List Bool}:∀ y,y∈(bs.map Value.bool).toArray→SeqAt.EqAt A s y (.bool true) (br y):=fun y hy=>by
 obtain⟨b,_,rfl⟩:=Cp.mp (List.mem_toArray.mp hy)
 have:=SeqAt.EqAt.bool_bool (A:=A) (s:=s) b true
 rw[show (b==true)=b by cases b <;> rfl] at this
 exact this
theorem pM:Bd X "list.count" (fun x vs H Q=>∃ (l:Addr) (bs:List Bool),x = .ref l∧vs=[.bl true]∧H l=some (.lst (bs.map V.bl))∧Q (.int (bs.countP id:Nat)) H):=by
 intro pins s σ H x vs v us Q I rx rv h
 obtain⟨l,bs,rfl,rfl,hH,q⟩:=h
 cases rx
 obtain⟨u,rfl,ru⟩:=rv.one
 cases (show u=Value.bool true from ru)
 obtain⟨z,its,n,r,hl,e⟩:=I.lstM hH
 cases lO r
 refine call_meets F.slot_list_count ⟨_,e,rfl⟩ F.entry_list_count (F.args_list_count_2 _ _) (SeqAt.list_countAt l _ n none #[] (.bool true) br) ⟨e,PB,?_⟩
 have ec:((bs.map Value.bool).toArray.toList).countP br=bs.countP id:=by
  rw[List.toList_toArray,List.countP_map]
  rfl
 rw[ec]
 exact⟨.int _,H,I.tok _,⟨_,rfl⟩,q⟩
theorem P8:Bd X "list.index" (fun x vs H Q=>∃ (l:Addr) (bs:List Bool) (j:Nat),x = .ref l∧vs=[.bl true]∧H l=some (.lst (bs.map V.bl))∧bs[j]? = some true∧(∀ m,m<j→bs[m]? = some false)∧Q (.int (j:Nat)) H):=by
 intro pins s σ H x vs v us Q I rx rv h
 obtain⟨l,bs,j,rfl,rfl,hH,hj,hm,q⟩:=h
 cases rx
 obtain⟨u,rfl,ru⟩:=rv.one
 cases (show u=Value.bool true from ru)
 obtain⟨z,its,n,r,hl,e⟩:=I.lstM hH
 cases lO r
 have jl:=(Cv.mp hj).1
 have l63:=ka
 rw[cN] at z
 refine call_meets F.slot_list_index ⟨_,e,rfl⟩ F.entry_list_index (F.args_list_index_2 _ _) (SeqAt.list_indexAt l _ n none #[] (.bool true) br j (by simpa using jl) (by omega) ?_ ?_) ⟨e,PB,.int _,H,I.tok _,⟨_,rfl⟩,q⟩
 ·have:=(Cv.mp hj).2
  simp only[DR,List.getElem_map]
  rw[this]
  rfl
 ·intro m hm1 hm2
  have:=(Cv.mp (hm m hm2)).2
  simp only[DR,List.getElem_map]
  rw[this]
  rfl
end
inductive tq (a b c d:Prop):Prop where
 | mk (h1:a) (h2:b) (h3:c) (h4:d):tq a b c d
section
variable {J:It} {D:Addr} {tt:TT} {te:TE} {fin:List V→Hp→Prop} {σ:St} {H:Hp} {ys:List V} {α:Type} {xs:List α} {P:Hp→V→α→Prop} {K:BFr}
theorem UE {H' H3:Hp} {zs:List V} {cs:List (List V)} {t:Addr} {c:List V} (G:qq H' zs cs) (hd:H' D=some (.lst zs)) (s3:zu H' H3) (e3:H3 t=some (.tup c)):qq (upd H3 D (.lst (zs++[.ref t]))) (zs++[.ref t]) (cs++[c]):=by
 refine qq.snoc ((G.same s3).upd fun c z=>?_) ?_
 ·rw[s3 _ _ hd] at z
  cases z
 ·rw[zG (vQ e3 (s3 _ _ hd) (by intro z;cases z))]
  exact e3
theorem GG (W:QM J H ys) (T:j6 H ys xs P) (hD:H D=none) (hz:xs.length<sizeLine) (ψ:α→List V) (he:∀ x∈xs,∀ v H' R,zu H H'→P H' v x→LL H' (.tup (ψ x)) R→te (σ.set 0 (some v)) H' R) (hf:∀ zs H',zu H H'→H' D=some (.lst zs)→qq H' zs (xs.map ψ)→fin zs H'):jx J D (qx 0) yb te fin σ (upd H D (.lst [])):=by
 refine va W hD (fun i zs H'=>qq H' zs ((xs.take i).map ψ)) (fun σ'=>∀ x,σ'.set 0 (some x) = σ.set 0 (some x)) (fun _=>rfl) qq.nil ?_ ?_
 ·rintro i y zs σ' H' hy hσ s hd hl G
  obtain⟨x,hx,hP⟩:=T.at_ i y hy
  have tk:xs.take (i+1)=xs.take i++[x]:=by rw[dv,hx];rfl
  have hi:i<xs.length:=(Cv.mp hx).1
  have hσ2:∀ z,(σ'.set 0 (some y)).set 0 (some z) = σ.set 0 (some z):=fun z=>by rw[d6];exact hσ z
  unfold Yp qx
  dsimp only
  refine Rh ?_
  rw[hσ y] at hσ2 ⊢
  refine he x (CS hx) y _ _ s (hP _ s) fun t H3 s3 n3 e3=>⟨s3 _ _ hd,by omega,hσ2,fun b o z=>?_,zq,?_,?_⟩
  ·rw[zG (zP z hD)]
   exact s3 _ _ (s _ _ z)
  ·rw[Cb,CU];omega
  ·rw[tk,Ci]
   exact UE G hd s3 e3
 ·rintro zs H' s hd hl G
  rw[T.len,dG] at G
  exact hf zs H' s hd G
end
section
variable {K:BFr} {a b:Addr} {xs ys:List V} {g:TG} {tb:TS} {D:uK} {σ:St} {H:Hp} {lo:Int} {n:Nat}
abbrev NK (J:It) (g:TG) (tb:TS) (D:uK) (σ:St) (H:Hp):Prop:=∃ W:Nat→Nat→St→Hp→Prop,(∃ m,W 0 m σ H)∧∀ i m σ H,W i m σ H →
   (J.stop i H∧D.nx σ H)∨(J.go i H∧∃ N:St→Hp→Prop,(∀ σ' H',N σ' H'→∃ m',m'<m∧W (i+1) m' σ' H')∧∀ x H',J.yld i H x H'→g x σ H' fun σ2 H2=>tb { D with nx:=N,ct:=N,bk:=D.nx } σ2 H2)
theorem GI (Pv:Nat→St→Hp→Prop) (h0:Pv 0 σ H) (hl:∀ i σ H,i≤xs.length→Pv i σ H→zY K H a xs) (hs:∀ i x σ H,xs[i]? = some x→Pv i σ H→∀ E:uK,(∀ σ' H',Pv (i+1) σ' H'→E.nx σ' H')→g x σ H fun σ2 H2=>tb E σ2 H2) (hd:∀ σ H,Pv xs.length σ H→D.nx σ H):NK (Nn K a) g tb D σ H :=
 WG Pv h0 hl (fun i x σ H hx p=>hs i x σ H hx p _ fun _ _ h=>h) hd
theorem ji (Pv:Nat→St→Hp→Prop) (h0:Pv 0 σ H) (hs:∀ (i:Nat) σ H,i<n→Pv i σ H→∀ E:uK,(∀ σ' H',Pv (i+1) σ' H'→E.nx σ' H')→g (.int (lo+i)) σ H fun σ2 H2=>tb E σ2 H2) (hd:∀ σ H,Pv n σ H→D.nx σ H):NK (Nm lo n) g tb D σ H :=
 Gw Pv h0 (fun i σ H hx p=>hs i σ H hx p _ fun _ _ h=>h) hd
end
noncomputable def R6 (t u:TS):TS:=fun D σ H=>∃ P:St→Hp→Prop,t { D with nx:=P } σ H∧∀ σ' H',P σ' H'→u D σ' H'
theorem jf {X:Cx} {st:Stmt} {yE:List Stmt} {t u:TS} (h1:PS X st t) (h2:y8 X yE u):y8 X (st::yE) (R6 t u):=by
 intro pins s σ H D I h
 obtain⟨P,h,k⟩:=h
 refine wpAny_execs_cons (q0 (h1 pins s σ H { D with nx:=P } I h) fun f s1 q=>?_)
 cases f with
 | next =>
  obtain⟨σ',H',I',q⟩:=q
  exact h2 pins s1 σ' H' D I' (k _ _ q)
 | ret v=>exact q
 | brk=>exact q
 | cont=>exact q
noncomputable def rj (K:BFr):R2:=fun x y H Q=>∃ a b xs,x = .ref a∧y = .ref b∧zY K H a xs∧zY K H b []∧(xs=[]→Q (.bl true) H)∧(xs≠[]→Q (.bl false) H)
theorem Uj {X:Cx} (hu:X.A.units<cLine):wF X (compareOp .Eq) (rj X.K):=by
 intro pins s σ H x y v u Q I rx ry h
 obtain⟨a,b,xs,rfl,rfl,h1,h2,q1,q2⟩:=h
 cases rx
 cases ry
 obtain⟨us,r1,p1,_⟩:=I.list h1
 obtain⟨ws,r2,p2,_⟩:=I.list h2
 have l1:=r1.length
 have l2:=r2.length
 rw[dQ] at l2
 by_cases hl:xs=[]
 ·subst hl
  rw[dQ] at l1
  refine SeqAt.eq_listAt p1.isList p2.isList (by simp;omega) hu (e:=fun _=>true) (fun j h1 h2=>?_) ?_
  ·simp at h1
   omega
  ·have:us=[]:=DE.mp l1.symm
   subst this
   exact⟨.bl true,H,I,rfl,q1 rfl⟩
 ·have:0<xs.length:=List.length_pos_iff.mpr hl
  exact SeqAt.eq_list_lengthsAt p1.isList p2.isList (by simp;omega) hu ⟨.bl false,H,I,rfl,q2 hl⟩
theorem jX {t u:TS} {D:uK} {σ:St} {H:Hp} (P0:St→Hp→Prop) (h1:∀ E:uK,(∀ σ' H',P0 σ' H'→E.nx σ' H')→t E σ H) (h2:∀ σ' H',P0 σ' H'→u D σ' H'):R6 t u D σ H:=⟨P0,h1 _ fun _ _ h=>h,h2⟩
theorem JX {c:TT} {t u r:TS} {D:uK} {σ:St} {H:Hp} (C:(Bool→Hp→Prop)→Prop) (h1:∀ Q,C Q→c σ H Q) (h2:C fun b H1=>if b=true then t { D with nx:=r D } σ H1 else u { D with nx:=r D } σ H1):tP (TQ c t u) r D σ H:=h1 _ h2
theorem Ze {CX:ki} {P:Program} {w:World} {K:BFr} {mg:Str→Option Value} {base:Heap} {N:List Str} {qual:Str} {scope:Scope} {f:Addr} {cd:Value} {A:Around} {outer:List Env} {s:Shared} {H:Hp} {E:XK}:(kh CX P w K mg base N qual scope f cd A outer s H E).K=K:=rfl
theorem JF {X:Cx}:X.nox.K=X.K:=rfl
section
variable {X:Cx}
end
end L2
namespace Pg
open PySem L2
noncomputable def UH (K:BFr):Sp:=fun vs H Q _=>∃ v,vs=[v,.str "abcdefghijklmnopqrstuvwxyz"]∧((∃ z,v = .str z∧z.length≤100000∧∀ H',zu H H'→Q (.bl (vK z)) H')∨(vG K H v∧Q (.bl false) H))
noncomputable def Ug (K:BFr):Sp:=fun vs H Q _=>∃ v,vs=[v]∧((∃ z,v = .str z∧z.length≤100000∧∀ H',zu H H'→Q (.bl (vK z)) H')∨(vG K H v∧Q (.bl false) H))
end Pg
namespace K10
open PySem PySem.NumText L2 Pg
seal PE PA PT PW PS y8 PG vz PI j8 PO PK
section
variable {P:Program} {w:World} {K:BFr} {mg:Str→Option Value} {base:Heap} {f:Addr} {fd:FuncData} {d:Nat→Addr} {cR:Addr}
theorem Ol (F:qM K "is_word_of" "is_word_of" (zX 36) f fd) (G:jW mg) (N1:Yh mg "MOST_SIGNS" 8):zL P w K mg base zQ 1 f fd ["thing","signs"] (UH K):=by
 obtain⟨tm,hm⟩:=N1
 have nc:(["sign","signs"]:List Str).Nodup:=by decide +kernel
 refine F.ok (N:=["thing","signs"]) (by walk_at"s") (fun vs H Q E h=>?_) (fun cdv A outer s H vs Q E hr h=>?_)
 ·obtain⟨z,rfl,_⟩:=h
  rfl
 ·obtain⟨v,rfl,h⟩:=h
  refine' ⟨_,(zg (zK (qz (qy (zv zJ rfl G.isinstance zE (za (pv 0) (za (yw (v:=.ty "str") rfl G.str qK rfl) zd))))) (zh (zm jj)) zB)
    (zg (zK (PW.pt (yM (zw uY (zv qU rfl G.len boot_len (za (pv 0) zd)) ze (zD _)) (yU (zw y6 (zv qU rfl G.len boot_len (za (pv 0) zd)) (zZ (v:=.int 8) rfl hm ⟨_,rfl⟩) (zD _))))) (zh (zm jj)) zB)
    (zh (zm (zv (jD rfl) rfl G.all vA (za ?comp zd)))))),?main⟩
  case comp =>
   refine' qv (Nc:=["sign","signs"]) (cl:=[("signs",s.heap.objs.size+1)]) (src:=[none,some 1]) (wi:=oJ (qd 0)) (g:=qx 0) (tt:=yb) (te:=jV (fun x y H Q=>∃ i j,x = .str i∧y = .str j∧Q (.bl (!(Builtin.Str.occurrences j i 0 j.length 1).isEmpty)) H) (qd 0) (qd 1)) (by walk_at"c2") rfl (Qv (pv 0)) ?hb
   case hb =>
    intro fp C' s' H'
    exact⟨z5 (i:=0) nc rfl (Or.inl rfl),qP,qj Zc (pv 0) (pv 1) (by rfl)⟩
  rcases h with ⟨z,rfl,zl,q⟩ | ⟨⟨r,hr',ty,ne⟩,q⟩
  ·have fit:z.length≤sizeLine:=by rw[sizeLine_eq];omega
   refine⟨_,rfl,_,_,_,_,true,rfl,rfl,.inl (.str z),rfl,true,rfl,qN ?_⟩
   refine⟨_,rfl,z,rfl,fit,_,_,rfl,rfl,_,rfl,qi (fun e=>qZ ?_) (fun e=>⟨_,rfl,z,rfl,fit,_,_,rfl,rfl,_,rfl,qi (fun e2=>?_) (fun e2=>?_)⟩)⟩
   ·have e:=of_decide_eq_true e
    have nb:vK z=false:=by unfold vK;rw[decide_eq_false (show ¬ 1≤z.length by omega)];rfl
    rw[nb] at q
    exact q H (zu.refl _)
   ·have e2:=of_decide_eq_true e2
    have nb:vK z=false:=by unfold vK;rw[decide_eq_false (show ¬ z.length≤8 by omega),CV];rfl
    rw[nb] at q
    exact q H (zu.refl _)
   ·have l1:1≤z.length:=by
     have e:¬ ((z.length:Nat):Int)<1:=fun c=>e (decide_eq_true c)
     omega
    have l8:z.length≤8:=by
     have e2:¬ (8:Int)<((z.length:Nat):Int):=fun c=>e2 (decide_eq_true c)
     omega
    refine⟨_,rfl,z,rfl,fun D hD=>?_⟩
    refine wB (uM (z:=z)) hD (by rw[cN,← qg,sizeLine_eq];omega) (fun _=>true) (fun x=>match x with | .str y=>.bl (Zg (y.cps.getD 0 0)) | v=>v) (fun x _ H' R _ r=>r) (fun x hx _ H' R _ r=>?_) ?_
    ·obtain⟨c,_,rfl⟩:=Cp.mp hx
     refine⟨_,rfl,_,rfl,_,_,rfl,rfl,?_⟩
     rw[Zs]
     exact r
    ·rw[DF.mpr fun _ _=>rfl,CH]
     refine⟨D,z.cps.toList.map Zg,rfl,zY.of (by rw[CH];exact zq),?_⟩
     have e2:(z.cps.toList.map Zg).all id=vK z:=by
      unfold vK
      rw[dF,decide_eq_true l1,decide_eq_true l8]
      rfl
     rw[e2]
     exact q _ (zu.upd hD)
  ·obtain⟨_,_,k3,_⟩:=Qg (K:=K) r hr'
   have e:r.2.2.2.1=false:=by
    simp only[UZ,cU,cX,or_false] at hr'
    rcases hr' with rfl | rfl | rfl | rfl | rfl | rfl | rfl <;> first | rfl | (exact absurd rfl ne)
   rw[e] at k3
   exact⟨_,rfl,_,_,_,_,false,rfl,rfl,.inl ty,k3,false,rfl,qZ q⟩
theorem PY (F:qM K "is_name" "is_name" (zX 37) f fd) (N1:Txt mg "LETTERS" "abcdefghijklmnopqrstuvwxyz") (C1:qR P w K mg base zQ 1 "is_word_of" ["thing","signs"] (UH K)):zL P w K mg base zQ 2 f fd ["thing"] (Ug K):=by
 obtain⟨tm,hm⟩:=N1
 refine F.ok (N:=["thing"]) (by walk_at"s") (fun vs H Q E h=>?_) (fun cdv A outer s H vs Q E hr h=>?_)
 ·obtain⟨z,rfl,_⟩:=h
  rfl
 ·obtain⟨v,rfl,h⟩:=h
  exact⟨_,zh (zm (zk C1 hr (by decide) zx (za (pv 0) (za (zZ (v:=.str "abcdefghijklmnopqrstuvwxyz") rfl hm ⟨_,rfl⟩) zd)))),_,rfl,v,rfl,h⟩
theorem MW (F:qM K "is_word_of" "is_word_of" (zX 36) f fd) (G:jW mg) (N1:Yh mg "MOST_SIGNS" 8):zL P w K mg base zQ 1 f fd ["thing","signs"] gx:=by
 obtain⟨tm,hm⟩:=N1
 have nc:(["sign","signs"]:List Str).Nodup:=by decide +kernel
 refine F.ok (N:=["thing","signs"]) (by walk_at"s") (fun vs H Q E h=>?_) (fun cdv A outer s H vs Q E hr h=>?_)
 ·obtain⟨z,rfl,_⟩:=h
  rfl
 ·obtain⟨z,rfl,hz,q⟩:=h
  have l1:=hz.lo
  have l8:=hz.hi
  have fit:z.length≤sizeLine:=uq l8 rfl
  refine' ⟨_,(zg (zK (qz (qy (zv zJ rfl G.isinstance zE (za (pv 0) (za (yw (v:=.ty "str") rfl G.str qK rfl) zd))))) (zh (zm jj)) zB)
    (zg (zK (PW.pt (yM (zw uY (zv qU rfl G.len boot_len (za (pv 0) zd)) ze (zD _)) (yU (zw y6 (zv qU rfl G.len boot_len (za (pv 0) zd)) (zZ (v:=.int 8) rfl hm ⟨_,rfl⟩) (zD _))))) (zh (zm jj)) zB)
    (zh (zm (zv (jD rfl) rfl G.all vA (za ?comp zd)))))),?main⟩
  case comp =>
   refine' qv (Nc:=["sign","signs"]) (cl:=[("signs",s.heap.objs.size+1)]) (src:=[none,some 1]) (wi:=oJ (qd 0)) (g:=qx 0) (tt:=yb) (te:=jV (fun x y H Q=>∃ i j,x = .str i∧y = .str j∧Q (.bl (!(Builtin.Str.occurrences j i 0 j.length 1).isEmpty)) H) (qd 0) (qd 1)) (by walk_at"c2") rfl (Qv (pv 0)) ?hb
   case hb =>
    intro fp C' s' H'
    exact⟨z5 (i:=0) nc rfl (Or.inl rfl),qP,qj Zc (pv 0) (pv 1) (by rfl)⟩
  refine⟨_,rfl,_,_,_,_,true,rfl,rfl,.inl (.str z),rfl,true,rfl,qN ?_⟩
  refine⟨_,rfl,z,rfl,fit,_,_,rfl,rfl,_,rfl,qi (fun e=>absurd (of_decide_eq_true e) (by omega)) (fun _=>⟨_,rfl,z,rfl,fit,_,_,rfl,rfl,_,rfl,qi (fun e=>absurd (of_decide_eq_true e) (by omega)) (fun _=>?_)⟩)⟩
  refine⟨_,rfl,z,rfl,fun D hD=>?_⟩
  refine wB (uM (z:=z)) hD (by rw[cN,← qg,sizeLine_eq];omega) (fun _=>true) (fun x=>match x with | .str y=>.bl (Zg (y.cps.getD 0 0)) | v=>v) (fun x _ H' R _ r=>r) (fun x hx _ H' R _ r=>?_) ?_
  ·obtain⟨c,_,rfl⟩:=Cp.mp hx
   refine⟨_,rfl,_,rfl,_,_,rfl,rfl,?_⟩
   rw[Zs]
   exact r
  ·rw[DF.mpr fun _ _=>rfl,CH]
   refine⟨D,z.cps.toList.map Zg,rfl,zY.of (by rw[CH];exact zq),?_⟩
   have e2:(z.cps.toList.map Zg).all id=true:=by
    rw[dF]
    exact hz.all
   rw[e2]
   exact q _ (zu.upd hD)
theorem nG (F:qM K "is_name" "is_name" (zX 37) f fd) (N1:Txt mg "LETTERS" "abcdefghijklmnopqrstuvwxyz") (C1:qR P w K mg base zQ 1 "is_word_of" ["thing","signs"] gx):zL P w K mg base zQ 2 f fd ["thing"] X9:=by
 obtain⟨tm,hm⟩:=N1
 refine F.ok (N:=["thing"]) (by walk_at"s") (fun vs H Q E h=>?_) (fun cdv A outer s H vs Q E hr h=>?_)
 ·obtain⟨z,rfl,_⟩:=h
  rfl
 ·obtain⟨z,rfl,hz,q⟩:=h
  exact⟨_,zh (zm (zk C1 hr (by decide) zx (za (pv 0) (za (zZ (v:=.str "abcdefghijklmnopqrstuvwxyz") rfl hm ⟨_,rfl⟩) zd)))),_,rfl,z,rfl,hz,q⟩
theorem XE (F:qM K "_law_cell_at" "_law_cell_at" (zX 74) f fd) (G:jW mg):zL P w K mg base zQ 1 f fd ["_law_script","_law_k"] (gb K):=by
 refine F.ok (N:=["_law_script","_law_k"]) (by walk_at"s") (fun vs H Q E h=>?_) (fun cdv A outer s H vs Q E hr h=>?_)
 ·obtain⟨a,k,ns,rfl,_⟩:=h
  rfl
 ·obtain⟨a,k,ns,rfl,hs,hk,q⟩:=h
  refine⟨_,(zg (zK (zw uY (pv 1) (zv zO rfl G.len PySem.boot_len (za (pv 0) zd)) (zD _)) (zh (zm (zC zA (pv 0) (pv 1)))) zB)
    (zh (zm ze))),?_⟩
  refine⟨_,rfl,_,rfl,a,_,rfl,.inl hs,_,_,rfl,rfl,_,rfl,qi (fun e=>?_) (fun e=>?_)⟩
  ·exact⟨_,rfl,_,rfl,a,_,_,_,rfl,rfl,hs,L5 hk (of_decide_eq_true e),q⟩
  ·rw[pO fun c=>e (decide_eq_true c)] at q
   exact q
theorem pH (F:qM K "_law_whole" "_law_whole" (zX 76) f fd) (G:jW mg):zL P w K mg base zQ 1 f fd ["_law_found"] Ue:=by
 refine F.ok (N:=["_law_found"]) (by walk_at"s") (fun vs H Q E h=>?_) (fun cdv A outer s H vs Q E hr h=>?_)
 ·obtain⟨v,rfl,_⟩:=h
  rfl
 ·obtain⟨z,rfl,q⟩:=h
  refine⟨_,zh (zm (yK (zv zJ rfl G.isinstance zE (za (pv 0) (za (yw (v:=.ty "int") rfl G.int jt rfl) zd)))
   (yL (Xr (zv zJ rfl G.isinstance zE (za (pv 0) (za (yw (v:=.ty "bool") rfl G.bool Jh rfl) zd))))))),?_⟩
  refine⟨_,rfl,_,_,_,_,true,rfl,rfl,.inl (.int z),rfl,true,rfl,qZ ?_⟩
  exact⟨_,rfl,_,_,_,_,false,rfl,rfl,.inl (.int z),rfl,false,rfl,q⟩
end
end K10
namespace Pg
open PySem L2
noncomputable def KT (H H':Hp):Prop:=∀ b c,(H b=some (.tup c)→H' b=some (.tup c))∧∀ o,H b=some (.frz o (.tup c))→H' b=some (.frz o (.tup c))
theorem Jp {H:Hp} (ts:List Int):j6 H (ts.map V.int) ts (fun _ v o=>v = .int o) :=
 ⟨cN _,fun i y h=>by
  rw[cW] at h
  obtain⟨z,h1,rfl⟩:=Cu.mp h
  exact⟨z,h1,fun _ _=>rfl⟩⟩
theorem xk {i:Int} (h0:0≤i) (h1:i<26):ZI ("abcdefghijklmnopqrstuvwxyz":Str).cps.toList i=some (97+i.toNat):=by
 obtain⟨n,rfl⟩:=d4 h0
 rw[wL]
 refine qB ?_
 rw[List.getElem?_range' (by omega)]
 rw[CD]
 congr 1
 omega
noncomputable def wayL:List Str:=["down","up","near","even"]
noncomputable def RO (K:BFr) (mg:Str→Option Value) (x:Str) (zs:List Str):Prop:=∃ a,mg x=some (.ref a)∧∀ H,qw K H a (zs.map V.str)
noncomputable def Qn (z l:Int) (x:Str):Bool:=if x = "near" then decide (0<z) else decide (l%2=1)
noncomputable def Vc (z l r:Int) (x:Str):Bool:=if x = "down" then false else if x = "up" then decide (0<r) else if r=5000 then Qn z l x else decide (5000<r)
noncomputable def WR (z:Int) (x:Str):Int:=if Vc z (z/10000) (z%10000) x=true then z/10000+1 else z/10000
theorem vt (x:Str) (zs:List Str):MI (.str x) (zs.map V.str)=zs.contains x:=by
 unfold MI
 rw[List.any_map,List.contains_eq_any_beq]
 congr 1
 funext y
 show (y==x)=(x==y)
 exact Bool.beq_comm ..
noncomputable def wg:Sp:=fun vs H Q _=>∃ z,vs=[.int z]∧0≤z∧z≤20000∧Q (.bl true) H
noncomputable def Z5:Sp:=fun vs H Q _=>∃ x,vs=[.str x]∧wayL.contains x=true∧Q (.bl true) H
noncomputable def JO:Sp:=fun vs H Q _=>∃ x,vs=[.str x]∧wayL.contains x=true∧Q .non H
noncomputable def X7:Sp:=fun vs H Q _=>∃ z l x,vs=[.int z,.int l,.str x]∧Q (.bl (Qn z l x)) H
noncomputable def gP:Sp:=fun vs H Q _=>∃ z l r x,vs=[.int z,.int l,.int r,.str x]∧Q (.bl (Vc z l r x)) H
noncomputable def Vx:Sp:=fun vs H Q _=>∃ z x,vs=[.int z,.str x]∧wayL.contains x=true∧Q (.int (WR z x)) H
noncomputable def ub:Sp:=fun vs H Q _=>∃ z n x,vs=[.int z,.int n,.str x]∧0≤n∧n≤20000∧wayL.contains x=true∧Q (.int (WR (z*n) x)) H
noncomputable def Xh (z:Int) (x:Str):Int:=if x = "down" then z/10000 else if x = "up" then z/10000+(if 0<z%10000 then 1 else 0) else if x = "near" then z/10000+(if 5000≤z%10000 then 1 else 0) else z/10000+(if 5000<z%10000∨(z%10000=5000∧z/10000%2=1) then 1 else 0)
theorem L8 {z:Int} {x:Str} (h:0≤z):Xh z x=WR z x:=by
 unfold Xh WR Vc Qn
 by_cases h1:x = "down"
 ·rw[if_pos h1,if_pos h1,if_neg Cm]
 rw[if_neg h1,if_neg h1]
 by_cases h2:x = "up"
 ·rw[if_pos h2,if_pos h2]
  by_cases c:0<z%10000
  ·rw[if_pos c,if_pos (decide_eq_true c)]
  ·rw[if_neg c,if_neg fun k=>c (of_decide_eq_true k),DG]
 rw[if_neg h2,if_neg h2]
 by_cases h3:x = "near"
 ·rw[if_pos h3,if_pos h3]
  by_cases c:z%10000=5000
  ·rw[if_pos c,if_pos (by omega),if_pos (decide_eq_true (by omega))]
  ·rw[if_neg c]
   by_cases e:5000<z%10000
   ·rw[if_pos (by omega),if_pos (decide_eq_true e)]
   ·rw[if_neg (by omega),if_neg fun k=>e (of_decide_eq_true k),DG]
 ·rw[if_neg h3,if_neg h3]
  by_cases c:z%10000=5000
  ·rw[if_pos c]
   by_cases e:z/10000%2=1
   ·rw[if_pos (.inr ⟨c,e⟩),if_pos (decide_eq_true e)]
   ·rw[if_neg (by omega),if_neg fun k=>e (of_decide_eq_true k),DG]
  ·rw[if_neg c]
   by_cases e:5000<z%10000
   ·rw[if_pos (.inl e),if_pos (decide_eq_true e)]
   ·rw[if_neg (by omega),if_neg fun k=>e (of_decide_eq_true k),DG]
inductive Rk where
 | flat (n:Str) (a:Int)
 | share (n:Str) (p:Int) (w:Str)
 | capped (n:Str) (p m:Int) (w:Str)
 | least (n:Str) (p l:Int) (w:Str)
 | bands (n:Str) (ps:List (Int × Int)) (w:Str)
 | ontop (n:Str) (p:Int) (w:Str) (r:Rk)
noncomputable def Rk.name:Rk→Str
 | .flat n _=>n
 | .share n _ _=>n
 | .capped n _ _ _=>n
 | .least n _ _ _=>n
 | .bands n _ _=>n
 | .ontop n _ _ _=>n
noncomputable def Rk.kd:Rk→Nat
 | .flat ..=>0
 | .share ..=>1
 | .capped ..=>2
 | .least ..=>3
 | .bands ..=>4
 | .ontop ..=>5
noncomputable def noNames:List Str:=["base","net","month","sums"]
structure yu (z:Str):Prop where
 ok:Vm z
 no:noNames.contains z=false
noncomputable def Vz (p:Int):Prop:=0≤p∧p≤20000
noncomputable def XC (a:Int):Prop:=0≤a∧a≤1000000000000
noncomputable def JU (w:Str):Prop:=wayL.contains w=true
inductive V3:Rk→Prop where
 | flat {n:Str} {a:Int}:yu n→XC a→V3 (.flat n a)
 | share {n:Str} {p:Int} {w:Str}:yu n→Vz p→JU w→V3 (.share n p w)
 | capped {n:Str} {p m:Int} {w:Str}:yu n→Vz p→XC m→JU w→V3 (.capped n p m w)
 | least {n:Str} {p l:Int} {w:Str}:yu n→Vz p→XC l→JU w→V3 (.least n p l w)
noncomputable def pos (bs:List Int):Int:=((bs.filter fun b=>decide (0<b)).length:Nat)
noncomputable def N9 (r:Rk) (bs:List Int):Int:=match r with
 | .flat _ a=>a*pos bs
 | .share _ p w=>WR (bs.sum*p) w
 | .capped _ p m w=>WR ((if m<bs.sum then m else bs.sum)*p) w
 | .least _ p l w=>if l*pos bs > WR (bs.sum*p) w then l*pos bs else WR (bs.sum*p) w
 | _=>0
noncomputable def vw (r:Rk):List V:=match r with
 | .flat n a=>[.str "flat",.str n,.int a]
 | .share n p w=>[.str "share",.str n,.int p,.str w]
 | .capped n p m w=>[.str "capped",.str n,.int p,.int m,.str w]
 | .least n p l w=>[.str "least",.str n,.int p,.int l,.str w]
 | _=>[]
noncomputable def YR:V→Str
 | .str z=>z
 | .int i=>toString i
 | _=>Str.empty
noncomputable def XR (r:Rk):Str:=Txt.join " " ((vw r).map YR)
noncomputable def Ob (H:Hp) (v:V) (r:Rk):Prop:=∃ t,v = .ref t∧H t=some (.tup (vw r))
theorem Ob.same {H H':Hp} {v:V} {r:Rk} (s:zu H H') (h:Ob H v r):Ob H' v r:=by
 obtain⟨t,e,h⟩:=h
 exact⟨t,e,s _ _ h⟩
noncomputable def Nt (r:Rk):List (Str × V):=match r with
 | .flat n a=>[("name",.str n),("amount",.int a)]
 | .share n p w=>[("name",.str n),("parts",.int p),("way",.str w)]
 | .capped n p m w=>[("name",.str n),("parts",.int p),("most",.int m),("way",.str w)]
 | .least n p l w=>[("name",.str n),("parts",.int p),("least",.int l),("way",.str w)]
 | _=>[]
noncomputable def xq (Cs:Nat→Addr) (H:Hp) (v:V) (r:Rk):Prop:=∃ o dx,v = .ref o∧H o=some (.ins (Cs r.kd) dx (Nt r))
theorem xq.same {Cs:Nat→Addr} {H H':Hp} {v:V} {r:Rk} (s:zu H H') (h:xq Cs H v r):xq Cs H' v r:=by
 obtain⟨t,dx,e,h⟩:=h
 exact⟨t,dx,e,s _ _ h⟩
structure vC (K:BFr) (Cs:Nat→Addr):Prop where
 cls:∀ i,i<4→ZQ K (Cs i)
 no:∀ i,i<4→∀ x∈(["name","amount","parts","way","most","least"]:List Str),qc K (Cs i) x
noncomputable def JK:Sp:=fun vs H Q _=>∃ z,vs=[.str z]∧yu z∧∀ H',zu H H'→Q (.bl true) H'
noncomputable def Qt:Sp:=fun vs H Q _=>∃ z,vs=[.int z]∧XC z∧Q (.bl true) H
noncomputable def wC:Sp:=fun vs H Q _=>∃ z,vs=[.int z]∧XC z∧Q .non H
noncomputable def ud:Sp:=fun vs H Q _=>∃ p w,vs=[.int p,.str w]∧Vz p∧JU w∧Q .non H
noncomputable def xj (K:BFr):Sp:=fun vs H Q _=>∃ b bs,vs=[.ref b]∧zY K H b (bs.map V.int)∧bs.length≤100∧∀ H',zu H H'→Q (.int (pos bs)) H'
noncomputable def uO (Cs:Nat→Addr):Sp:=fun vs H Q _=>∃ i o dx z,vs=[.ref o,.str z]∧i<4∧H o=some (.ins (Cs i) dx [])∧yu z∧∀ H',(∀ b x,H b=some x→b≠o→H' b=some x)→H' o=some (.ins (Cs i) dx [("name",.str z)])→Q .non H'
noncomputable def tL (r:Rk):List V:=(vw r).drop 1
noncomputable def yH (k:Nat) (Cs:Nat→Addr):Sp:=fun vs H Q _=>∃ o dx r,vs = .ref o::tL r∧r.kd=k∧V3 r∧H o=some (.ins (Cs k) dx [])∧∀ H',(∀ b x,H b=some x→b≠o→H' b=some x)→H' o=some (.ins (Cs k) dx (Nt r))→Q .non H'
noncomputable def uw (K:BFr) (k:Nat) (Cs:Nat→Addr):Sp:=fun vs H Q _=>∃ v r b bs,vs=[v,.ref b]∧r.kd=k∧xq Cs H v r∧V3 r∧zY K H b (bs.map V.int)∧bs.length≤100∧∀ H',zu H H'→Q (.int (N9 r bs)) H'
noncomputable def dl (bs:List Int):List Int:=(bs.drop (HT.Zo bs.length 0 none)).take (HT.Zo bs.length bs.length (some (-1)) - HT.Zo bs.length 0 none)
theorem pZ (bs:List Int):yX (bs.map V.int) none (some (-1))=(dl bs).map V.int:=by
 unfold yX dl
 rw[cN,DU,List.map_drop]
theorem Oh (bs:List Int):(dl bs).length≤bs.length:=by
 unfold dl
 rw[Cz,dX]
 omega
theorem NY {bs:List Int} {b:Int} (h:b∈dl bs):b∈bs:=List.mem_of_mem_drop (Dl h)
noncomputable def j3 (k:Nat) (Cs:Nat→Addr):Sp:=fun vs H Q _=>∃ v r,vs=[v]∧r.kd=k∧xq Cs H v r∧V3 r∧∀ H',zu H H'→Q (.str (XR r)) H'
theorem Ua {r:Rk} (h:V3 r):∀ z∈(vw r).map YR,z.length≤20:=by
 have nl:∀ {z:Str},yu z→z.length≤20:=fun h=>cZ h.ok.hi (by decide)
 have il:∀ {i:Int},0≤i→i≤1000000000000→(YR (.int i)).length≤20:=fun h0 h1=>cZ (QR (k:=13) h0 (by decide) (by omega)) (by decide)
 have wl:∀ {w:Str},JU w→w.length≤20:=fun {w} h=>by
  have h:=du.mp h
  unfold wayL at h
  simp only[cU,cX,or_false] at h
  rcases h with rfl | rfl | rfl | rfl <;> decide +kernel
 intro z hz
 obtain⟨v,hv,rfl⟩:=Cp.mp hz
 cases h with
 | flat hn ha =>
  simp only[vw,cU,cX,or_false] at hv
  rcases hv with rfl | rfl | rfl
  ·decide +kernel
  ·exact nl hn
  ·exact il ha.1 ha.2
 | share hn hp hw =>
  simp only[vw,cU,cX,or_false] at hv
  rcases hv with rfl | rfl | rfl | rfl
  ·decide +kernel
  ·exact nl hn
  ·exact il hp.1 (Int.le_trans hp.2 (by decide))
  ·exact wl hw
 | capped hn hp ha hw =>
  simp only[vw,cU,cX,or_false] at hv
  rcases hv with rfl | rfl | rfl | rfl | rfl
  ·decide +kernel
  ·exact nl hn
  ·exact il hp.1 (Int.le_trans hp.2 (by decide))
  ·exact il ha.1 ha.2
  ·exact wl hw
 | least hn hp ha hw =>
  simp only[vw,cU,cX,or_false] at hv
  rcases hv with rfl | rfl | rfl | rfl | rfl
  ·decide +kernel
  ·exact nl hn
  ·exact il hp.1 (Int.le_trans hp.2 (by decide))
  ·exact il ha.1 ha.2
  ·exact wl hw
theorem Qx {r:Rk} (h:V3 r):JoinOk " " ((vw r).map YR)=true:=(yx (m:=20) (k:=5) (Ua h) (by cases h <;> exact cY rfl) (by decide +kernel) rfl).1
theorem wH {p:Int} (h:Vz p):p.natAbs.log2<1920:=wy h.1 (by have:=h.2;omega)
theorem ZK {p:Int} (h:XC p):p.natAbs.log2<1920:=wy h.1 (by have:=h.2;omega)
theorem cy (n:Str):jJ "name" (.str n) []=[((("name":Str)),V.str n)]:=rfl
theorem Nq (n x:Str) (v:V) (h:("name":Str)≠x):jJ x v [(("name":Str),V.str n)]=[(("name":Str),V.str n),(x,v)]:=by
 unfold jJ
 rw[if_neg h]
 rfl
theorem RN (n x y:Str) (u v:V) (h:("name":Str)≠x) (h2:y≠x):jJ x v [(("name":Str),V.str n),(y,u)]=[(("name":Str),V.str n),(y,u),(x,v)]:=by
 unfold jJ
 rw[if_neg h]
 unfold jJ
 rw[if_neg h2]
 rfl
theorem bp (n x y z:Str) (u v w:V) (h:("name":Str)≠x) (h2:y≠x) (h3:z≠x):jJ x v [(("name":Str),V.str n),(y,u),(z,w)]=[(("name":Str),V.str n),(y,u),(z,w),(x,v)]:=by
 unfold jJ
 rw[if_neg h]
 unfold jJ
 rw[if_neg h2]
 unfold jJ
 rw[if_neg h3]
 rfl
end Pg
namespace K10
open PySem PySem.NumText L2 Pg
seal PE PA PT PW PS y8 PG vz PI j8 PO PK
section
variable {P:Program} {w:World} {K:BFr} {mg:Str→Option Value} {base:Heap} {f:Addr} {fd:FuncData} {d:Nat→Addr} {cR:Addr}
theorem Gx (F:qM K "is_parts" "is_parts" (zX 24) f fd) (N1:Yh mg "MOST_PARTS" 20000) (C1:qR P w K mg base zQ 2 "is_number_within" ["thing","least","most"] (vb K)):zL P w K mg base zQ 3 f fd ["thing"] wg:=by
 obtain⟨t,em⟩:=N1
 refine F.ok (N:=["thing"]) (by walk_at"s") (fun vs H Q E h=>?_) (fun cdv A outer s H vs Q E hr h=>?_)
 ·obtain⟨z,rfl,_⟩:=h
  rfl
 ·obtain⟨z,rfl,h0,h1,q⟩:=h
  refine⟨_,zh (zm (zk C1 hr (by decide) zx (za (pv 0) (za ze (za (zZ (v:=.int 20000) rfl em ⟨t,rfl⟩) zd))))),_,rfl,_,0,20000,rfl,.inl ⟨z,rfl,?_⟩⟩
  rw[decide_eq_true (⟨h0,h1⟩:(0:Int)≤z∧z≤20000)]
  exact q
theorem mJ (F:qM K "is_way" "is_way" (zX 25) f fd) (G:jW mg) (W:RO K mg "WAYS" wayL):zL P w K mg base zQ 1 f fd ["thing"] Z5:=by
 obtain⟨aw,ew,tw⟩:=W
 refine F.ok (N:=["thing"]) (by walk_at"s") (fun vs H Q E h=>?_) (fun cdv A outer s H vs Q E hr h=>?_)
 ·obtain⟨x,rfl,_⟩:=h
  rfl
 ·obtain⟨x,rfl,hx,q⟩:=h
  refine⟨_,zh (zm (yK (zv zJ rfl G.isinstance zE (za (pv 0) (za (yw (v:=.ty "str") rfl G.str qK rfl) zd)))
   (yL (qj v8 (pv 0) (zZ (v:=.ref aw) rfl ew rfl) (by rfl))))),?_⟩
  refine⟨_,rfl,_,_,_,_,true,rfl,rfl,.inl (.str x),rfl,true,rfl,qZ ⟨_,rfl,aw,_,rfl,.inr (tw H),rfl,rfl,?_⟩⟩
  rw[if_neg Cm,vt,hx]
  exact q
theorem oE (F:qM K "need_way" "need_way" (zX 27) f fd) (C1:qR P w K mg base zQ 1 "is_way" ["thing"] Z5):zL P w K mg base zQ 2 f fd ["thing"] JO:=by
 refine F.ok (N:=["thing"]) (by walk_at"s") (fun vs H Q E h=>?_) (fun cdv A outer s H vs Q E hr h=>?_)
 ·obtain⟨x,rfl,_⟩:=h
  rfl
 ·obtain⟨x,rfl,hx,q⟩:=h
  exact⟨_,zh (zK (qz (qy (zk C1 hr (by decide) zx (za (pv 0) zd)))) qJ zB),_,rfl,x,rfl,hx,true,rfl,qN q⟩
theorem Mz (F:qM K "half_goes_up" "half_goes_up" (zX 28) f fd):zL P w K mg base zQ 1 f fd ["number","lesser","way"] X7:=by
 refine F.ok (N:=["number","lesser","way"]) (by walk_at"s") (fun vs H Q E h=>?_) (fun cdv A outer s H vs Q E hr h=>?_)
 ·obtain⟨z,l,x,rfl,_⟩:=h
  rfl
 ·obtain⟨z,l,x,rfl,q⟩:=h
  refine⟨_,(zg (zK (zw qh (pv 2) zj (zD _)) (zh (zm (qj y6 (pv 0) ze (zD _)))) zB)
    (zh (zm (qj qh (zt z9 (pv 1) ze) ze (zD _))))),?_⟩
  refine⟨_,rfl,rfl,_,rfl,qi (fun e=>?_) (fun e=>?_)⟩
  ·rw[ZT] at e
   refine⟨_,rfl,_,_,rfl,rfl,?_⟩
   unfold Qn at q
   rw[if_pos e] at q
   exact q
  ·rw[ZT] at e
   refine⟨_,rfl,_,_,rfl,rfl,(by show (0:Int)<2;decide),rfl,?_⟩
   unfold Qn at q
   rw[if_neg e] at q
   rw[show (decide (V.int (l%2)=V.int 1))=decide (l%2=1) from dD.mpr (kE.trans decide_eq_true_iff.symm)]
   exact q
theorem LD (F:qM K "goes_up" "goes_up" (zX 29) f fd) (N1:Yh mg "HALF" 5000) (C1:qR P w K mg base zQ 1 "half_goes_up" ["number","lesser","way"] X7):zL P w K mg base zQ 2 f fd ["number","lesser","rest","way"] gP:=by
 obtain⟨t,eh⟩:=N1
 refine F.ok (N:=["number","lesser","rest","way"]) (by walk_at"s") (fun vs H Q E h=>?_) (fun cdv A outer s H vs Q E hr h=>?_)
 ·obtain⟨z,l,r,x,rfl,_⟩:=h
  rfl
 ·obtain⟨z,l,r,x,rfl,q⟩:=h
  refine⟨_,(zg (zK (zw qh (pv 3) zj (zD _)) (zh (zm jj)) zB)
    (zg (zK (zw qh (pv 3) zj (zD _)) (zh (zm (qj y6 (pv 2) ze (zD _)))) zB)
    (zg (zK (zw qh (pv 2) (zZ (v:=.int 5000) rfl eh ⟨t,rfl⟩) (zD _)) (zh (zm (zk C1 hr (by decide) zx (za (pv 0) (za (pv 1) (za (pv 3) zd)))))) zB)
    (zh (zm (qj y6 (pv 2) (zZ (v:=.int 5000) rfl eh ⟨t,rfl⟩) (zD _))))))),?_⟩
  unfold Vc at q
  refine⟨_,rfl,rfl,_,rfl,qi (fun e=>?_) (fun e=>?_)⟩
  ·rw[ZT] at e
   rw[if_pos e] at q
   exact q
  rw[ZT] at e
  rw[if_neg e] at q
  refine⟨_,rfl,rfl,_,rfl,qi (fun e=>?_) (fun e=>?_)⟩
  ·rw[ZT] at e
   rw[if_pos e] at q
   exact⟨_,rfl,_,_,rfl,rfl,q⟩
  rw[ZT] at e
  rw[if_neg e] at q
  refine⟨_,rfl,rfl,_,rfl,qi (fun e=>?_) (fun e=>?_)⟩
  ·rw[kE] at e
   rw[if_pos e] at q
   exact⟨_,rfl,_,rfl,_,rfl,_,_,_,rfl,q⟩
  ·rw[kE] at e
   rw[if_neg e] at q
   exact⟨_,rfl,_,_,rfl,rfl,q⟩
theorem nq (F:qM K "rounded" "rounded" (zX 30) f fd) (N1:Yh mg "WHOLE" 10000) (C1:qR P w K mg base zQ 2 "need_amount" ["thing"] Yi) (C2:qR P w K mg base zQ 2 "need_way" ["thing"] JO) (C3:qR P w K mg base zQ 2 "goes_up" ["number","lesser","rest","way"] gP):zL P w K mg base zQ 3 f fd ["number","way"] Vx:=by
 obtain⟨t,eh⟩:=N1
 have nd:(["number","way","lesser","rest"]:List Str).Nodup:=by decide +kernel
 refine F.ok (N:=["number","way","lesser","rest"]) (by walk_at"s") (fun vs H Q E h=>?_) (fun cdv A outer s H vs Q E hr h=>?_)
 ·obtain⟨z,x,rfl,_⟩:=h
  rfl
 ·obtain⟨z,x,rfl,hx,q⟩:=h
  refine⟨_,(zg (qb (zk C1 hr (by decide) zx (za (pv 0) zd)))
    (zg (qb (zk C2 hr (by decide) zx (za (pv 1) zd)))
    (zg (zI (i:=2) nd rfl (Or.inl rfl) (zt qW (pv 0) (zZ (v:=.int 10000) rfl eh ⟨t,rfl⟩)))
    (zg (zI (i:=3) nd rfl (Or.inl rfl) (zt z9 (pv 0) (zZ (v:=.int 10000) rfl eh ⟨t,rfl⟩)))
    (zg (zK (qy (zk C3 hr (by decide) zx (za (pv 0) (za (pv 2) (za (pv 3) (za (pv 1) zd)))))) (zh (zm (zt qk (pv 2) ze))) zB)
    (zh (zm (pv 2)))))))),?_⟩
  refine⟨_,rfl,z,rfl,_,rfl,x,rfl,hx,_,rfl,_,_,rfl,rfl,⟨by decide,by decide⟩,_,rfl,_,_,rfl,rfl,(by show (0:Int)<10000;decide),?_⟩
  unfold WR at q
  refine⟨_,rfl,_,rfl,_,rfl,_,rfl,z,_,_,x,rfl,_,rfl,qi (fun e=>?_) (fun e=>?_)⟩
  ·rw[if_pos e] at q
   exact⟨_,rfl,_,_,rfl,rfl,q⟩
  ·rw[if_neg e] at q
   exact⟨_,rfl,q⟩
theorem oQ (F:qM K "share_of" "share_of" (zX 31) f fd) (C1:qR P w K mg base zQ 2 "need_amount" ["thing"] Yi) (C2:qR P w K mg base zQ 3 "is_parts" ["thing"] wg) (C3:qR P w K mg base zQ 3 "rounded" ["number","way"] Vx):zL P w K mg base zQ 4 f fd ["amount","parts","way"] ub:=by
 refine F.ok (N:=["amount","parts","way"]) (by walk_at"s") (fun vs H Q E h=>?_) (fun cdv A outer s H vs Q E hr h=>?_)
 ·obtain⟨z,n,x,rfl,_⟩:=h
  rfl
 ·obtain⟨z,n,x,rfl,n0,n1,hx,q⟩:=h
  exact⟨_,(zg (qb (zk C1 hr (by decide) zx (za (pv 0) zd)))
    (zg (zK (qz (qy (zk C2 hr (by decide) zx (za (pv 1) zd)))) qJ zB)
    (zh (zm (zk C3 hr (by decide) zx (za (zt ya (pv 0) (pv 1)) (za (pv 2) zd))))))),
   _,rfl,z,rfl,_,rfl,n,rfl,n0,n1,true,rfl,qN ⟨_,rfl,_,rfl,_,_,rfl,rfl,.inr ⟨by omega,by omega⟩,_,rfl,_,x,rfl,hx,q⟩⟩
theorem Gj (F:qM K "is_rule_name" "is_rule_name" (zX 42) f fd) (W:RO K mg "NO_RULE_NAMES" noNames) (C1:qR P w K mg base zQ 2 "is_name" ["thing"] X9):zL P w K mg base zQ 3 f fd ["thing"] JK:=by
 obtain⟨aw,ew,tw⟩:=W
 refine F.ok (N:=["thing"]) (by walk_at"s") (fun vs H Q E h=>?_) (fun cdv A outer s H vs Q E hr h=>?_)
 ·obtain⟨z,rfl,_⟩:=h
  rfl
 ·obtain⟨z,rfl,hz,q⟩:=h
  refine⟨_,zh (zm (yK (zk C1 hr (by decide) zx (za (pv 0) zd)) (yL (qj uz (pv 0) (zZ (v:=.ref aw) rfl ew rfl) (by rfl))))),?_⟩
  refine⟨_,rfl,z,rfl,hz.ok,fun H1 s1=>⟨true,rfl,qZ ⟨_,rfl,aw,_,rfl,.inr (tw H1),rfl,rfl,?_⟩⟩⟩
  rw[if_pos rfl,vt,hz.no]
  exact q H1 s1
theorem Oc (F:qM K "is_rule_amount" "is_rule_amount" (zX 43) f fd) (N1:Yh mg "MOST_AMOUNT" 1000000000000) (C1:qR P w K mg base zQ 2 "is_number_within" ["thing","least","most"] (vb K)):zL P w K mg base zQ 3 f fd ["thing"] Qt:=by
 obtain⟨t,em⟩:=N1
 refine F.ok (N:=["thing"]) (by walk_at"s") (fun vs H Q E h=>?_) (fun cdv A outer s H vs Q E hr h=>?_)
 ·obtain⟨z,rfl,_⟩:=h
  rfl
 ·obtain⟨z,rfl,h0,q⟩:=h
  refine⟨_,zh (zm (zk C1 hr (by decide) zx (za (pv 0) (za ze (za (zZ (v:=.int 1000000000000) rfl em ⟨t,rfl⟩) zd))))),_,rfl,_,0,1000000000000,rfl,.inl ⟨z,rfl,?_⟩⟩
  rw[show decide ((0:Int)≤z∧z≤1000000000000)=true from decide_eq_true h0]
  exact q
theorem GS (F:qM K "need_rule_amount" "need_rule_amount" (zX 44) f fd) (C1:qR P w K mg base zQ 3 "is_rule_amount" ["thing"] Qt):zL P w K mg base zQ 4 f fd ["thing"] wC:=by
 refine F.ok (N:=["thing"]) (by walk_at"s") (fun vs H Q E h=>?_) (fun cdv A outer s H vs Q E hr h=>?_)
 ·obtain⟨x,rfl,_⟩:=h
  rfl
 ·obtain⟨x,rfl,hx,q⟩:=h
  exact⟨_,zh (zK (qz (qy (zk C1 hr (by decide) zx (za (pv 0) zd)))) qJ zB),_,rfl,x,rfl,hx,true,rfl,qN q⟩
theorem Gc (F:qM K "need_share" "need_share" (zX 45) f fd) (C1:qR P w K mg base zQ 3 "is_parts" ["thing"] wg) (C2:qR P w K mg base zQ 1 "is_way" ["thing"] Z5):zL P w K mg base zQ 4 f fd ["parts","way"] ud:=by
 refine F.ok (N:=["parts","way"]) (by walk_at"s") (fun vs H Q E h=>?_) (fun cdv A outer s H vs Q E hr h=>?_)
 ·obtain⟨p,x,rfl,_⟩:=h
  rfl
 ·obtain⟨p,x,rfl,hp,hx,q⟩:=h
  exact⟨_,zg (zK (qz (qy (zk C1 hr (by decide) zx (za (pv 0) zd)))) qJ zB) (zh (zK (qz (qy (zk C2 hr (by decide) zx (za (pv 1) zd)))) qJ zB)),_,rfl,p,rfl,hp.1,hp.2,true,rfl,qN ⟨_,rfl,x,rfl,hx,true,rfl,qN q⟩⟩
theorem rV (F:qM K "months_with_base" "months_with_base" (zX 46) f fd) (G:jW mg):zL P w K mg base zQ 1 f fd ["bases"] (xj K):=by
 have nc:(["base"]:List Str).Nodup:=by decide +kernel
 refine F.ok (N:=["bases"]) (by walk_at"s") (fun vs H Q E h=>?_) (fun cdv A outer s H vs Q E hr h=>?_)
 ·obtain⟨b,bs,rfl,_⟩:=h
  rfl
 ·obtain⟨b,bs,rfl,hb,bl,q⟩:=h
  refine' ⟨_,zh (zm (zv zO rfl G.len boot_len (za ?comp zd))),?main⟩
  case comp =>
   refine' qv (Nc:=["base"]) (cl:=[]) (src:=[none]) (wi:=Jw K (qd 0)) (g:=qx 0) (tt:=QC (jV (WS fun i j=>.bl (decide (j<i))) (qd 0) (tC (.int 0)))) (te:=qd 0)
    (by walk_at"c0") rfl (j7 (pv 0)) ?hb
   case hb =>
    intro fp C' s' H'
    exact⟨z5 (i:=0) nc rfl (Or.inl rfl),kZ (zw y6 (pv 0) ze (zD _)),pv 0⟩
  refine⟨_,rfl,b,rfl,⟨_,hb⟩,fun D hD=>WC (vg hb) (Jp bs) hD (by rw[sizeLine_eq];omega) (fun i=>decide (0<i)) V.int (fun i hi v H1 R s1 e1 r=>?_) (fun i hi v H1 R s1 e1 r=>?_) (fun H1 s1 e1=>?_)⟩
  ·subst e1
   exact⟨_,rfl,_,_,rfl,rfl,_,rfl,r _ (zu.refl _)⟩
  ·subst e1
   exact⟨_,rfl,r _ (zu.refl _)⟩
  ·refine⟨D,_,rfl,.inl (zY.of e1),?_⟩
   rw[cN]
   exact q H1 s1
theorem GF {Cs:Nat→Addr} (F:qM K "__init__" "Flat.__init__" (zH (zX 48) 0) f fd) (RK:vC K Cs) (CR:uQ P w K mg base zQ 4 "Rule" "__init__" ["self","name"] (uO Cs)) (C1:qR P w K mg base zQ 4 "need_rule_amount" ["thing"] wC):zL P w K mg base zQ 5 f fd ["self","name","amount"] (yH 0 Cs):=by
 refine F.ok (N:=["self","name","amount"]) (by walk_at"s") (fun vs H Q E h=>?_) (fun cdv A outer s H vs Q E hr h=>?_)
 ·obtain⟨o,dx,r,rfl,hk,pl,_⟩:=h
  cases pl <;> first | rfl | cases hk
 ·obtain⟨o,dx,r,rfl,hk,pl,ho,q⟩:=h
  cases pl with
  | flat hn ha =>
   refine⟨_,zg (qb (jg CR hr (by decide) zx (za (pv 0) (za (pv 1) zd)))) (zg (qb (zk C1 hr (by decide) zx (za (pv 2) zd))) (zh (yz (pv 0) (pv 2) rfl))),?_⟩
   refine⟨_,rfl,_,rfl,0,o,dx,_,rfl,by decide,ho,hn,fun H1 f1 e1=>⟨_,rfl,_,rfl,ha,_,rfl,_,rfl,o,_,dx,_,rfl,e1,RK.cls 0 (by decide),RK.no 0 (by decide) "amount" (by decide),by show 1<1000;decide,?_⟩⟩
   rw[Nq _ _ _ (by decide +kernel)]
   exact q _ (fun b x hb ne=>by rw[zG ne];exact f1 _ _ hb ne) zq
  | share hn hp hw=>cases hk
  | capped hn hp ha hw=>cases hk
  | least hn hp ha hw=>cases hk
theorem Gn {Cs:Nat→Addr} (F:qM K "__init__" "Share.__init__" (zH (zX 49) 0) f fd) (RK:vC K Cs) (CR:uQ P w K mg base zQ 4 "Rule" "__init__" ["self","name"] (uO Cs)) (C1:qR P w K mg base zQ 4 "need_share" ["parts","way"] ud):zL P w K mg base zQ 5 f fd ["self","name","parts","way"] (yH 1 Cs):=by
 refine F.ok (N:=["self","name","parts","way"]) (by walk_at"s") (fun vs H Q E h=>?_) (fun cdv A outer s H vs Q E hr h=>?_)
 ·obtain⟨o,dx,r,rfl,hk,pl,_⟩:=h
  cases pl <;> first | rfl | cases hk
 ·obtain⟨o,dx,r,rfl,hk,pl,ho,q⟩:=h
  cases pl with
  | share hn hp hw =>
   refine⟨_,zg (qb (jg CR hr (by decide) zx (za (pv 0) (za (pv 1) zd)))) (zg (qb (zk C1 hr (by decide) zx (za (pv 2) (za (pv 3) zd)))) (zg (yz (pv 0) (pv 2) rfl) (zh (yz (pv 0) (pv 3) rfl)))),?_⟩
   refine⟨_,rfl,_,rfl,1,o,dx,_,rfl,by decide,ho,hn,fun H1 f1 e1=>⟨_,rfl,_,rfl,_,_,rfl,hp,hw,_,rfl,_,rfl,o,_,dx,_,rfl,e1,RK.cls 1 (by decide),RK.no 1 (by decide) "parts" (by decide),by show 1<1000;decide,?_⟩⟩
   rw[Nq _ _ _ (by decide +kernel)]
   refine⟨_,rfl,_,rfl,o,_,dx,_,rfl,zq,RK.cls 1 (by decide),RK.no 1 (by decide) "way" (by decide),by show 2<1000;decide,?_⟩
   rw[RN _ _ _ _ _ (by decide +kernel) (by decide +kernel)]
   exact q _ (fun b x hb ne=>by rw[zG ne,zG ne];exact f1 _ _ hb ne) zq
  | flat hn ha=>cases hk
  | capped hn hp ha hw=>cases hk
  | least hn hp ha hw=>cases hk
theorem oV {Cs:Nat→Addr} (F:qM K "__init__" "Capped.__init__" (zH (zX 50) 0) f fd) (RK:vC K Cs) (CR:uQ P w K mg base zQ 4 "Rule" "__init__" ["self","name"] (uO Cs)) (C1:qR P w K mg base zQ 4 "need_share" ["parts","way"] ud) (C2:qR P w K mg base zQ 4 "need_rule_amount" ["thing"] wC):zL P w K mg base zQ 5 f fd ["self","name","parts","most","way"] (yH 2 Cs):=by
 refine F.ok (N:=["self","name","parts","most","way"]) (by walk_at"s") (fun vs H Q E h=>?_) (fun cdv A outer s H vs Q E hr h=>?_)
 ·obtain⟨o,dx,r,rfl,hk,pl,_⟩:=h
  cases pl <;> first | rfl | cases hk
 ·obtain⟨o,dx,r,rfl,hk,pl,ho,q⟩:=h
  cases pl with
  | capped hn hp ha hw =>
   refine⟨_,zg (qb (jg CR hr (by decide) zx (za (pv 0) (za (pv 1) zd)))) (zg (qb (zk C1 hr (by decide) zx (za (pv 2) (za (pv 4) zd)))) (zg (qb (zk C2 hr (by decide) zx (za (pv 3) zd))) (zg (yz (pv 0) (pv 2) rfl) (zg (yz (pv 0) (pv 3) rfl) (zh (yz (pv 0) (pv 4) rfl)))))),?_⟩
   refine⟨_,rfl,_,rfl,2,o,dx,_,rfl,by decide,ho,hn,fun H1 f1 e1=>⟨_,rfl,_,rfl,_,_,rfl,hp,hw,_,rfl,_,rfl,ha,_,rfl,_,rfl,o,_,dx,_,rfl,e1,RK.cls 2 (by decide),RK.no 2 (by decide) "parts" (by decide),by show 1<1000;decide,?_⟩⟩
   rw[Nq _ _ _ (by decide +kernel)]
   refine⟨_,rfl,_,rfl,o,_,dx,_,rfl,zq,RK.cls 2 (by decide),RK.no 2 (by decide) "most" (by decide),by show 2<1000;decide,?_⟩
   rw[RN _ _ _ _ _ (by decide +kernel) (by decide +kernel)]
   refine⟨_,rfl,_,rfl,o,_,dx,_,rfl,zq,RK.cls 2 (by decide),RK.no 2 (by decide) "way" (by decide),by show 3<1000;decide,?_⟩
   rw[bp _ _ _ _ _ _ _ (by decide +kernel) (by decide +kernel) (by decide +kernel)]
   exact q _ (fun b x hb ne=>by rw[zG ne,zG ne,zG ne];exact f1 _ _ hb ne) zq
  | flat hn ha=>cases hk
  | share hn hp hw=>cases hk
  | least hn hp ha hw=>cases hk
theorem oI {Cs:Nat→Addr} (F:qM K "__init__" "Least.__init__" (zH (zX 51) 0) f fd) (RK:vC K Cs) (CR:uQ P w K mg base zQ 4 "Rule" "__init__" ["self","name"] (uO Cs)) (C1:qR P w K mg base zQ 4 "need_share" ["parts","way"] ud) (C2:qR P w K mg base zQ 4 "need_rule_amount" ["thing"] wC):zL P w K mg base zQ 5 f fd ["self","name","parts","least","way"] (yH 3 Cs):=by
 refine F.ok (N:=["self","name","parts","least","way"]) (by walk_at"s") (fun vs H Q E h=>?_) (fun cdv A outer s H vs Q E hr h=>?_)
 ·obtain⟨o,dx,r,rfl,hk,pl,_⟩:=h
  cases pl <;> first | rfl | cases hk
 ·obtain⟨o,dx,r,rfl,hk,pl,ho,q⟩:=h
  cases pl with
  | least hn hp ha hw =>
   refine⟨_,zg (qb (jg CR hr (by decide) zx (za (pv 0) (za (pv 1) zd)))) (zg (qb (zk C1 hr (by decide) zx (za (pv 2) (za (pv 4) zd)))) (zg (qb (zk C2 hr (by decide) zx (za (pv 3) zd))) (zg (yz (pv 0) (pv 2) rfl) (zg (yz (pv 0) (pv 3) rfl) (zh (yz (pv 0) (pv 4) rfl)))))),?_⟩
   refine⟨_,rfl,_,rfl,3,o,dx,_,rfl,by decide,ho,hn,fun H1 f1 e1=>⟨_,rfl,_,rfl,_,_,rfl,hp,hw,_,rfl,_,rfl,ha,_,rfl,_,rfl,o,_,dx,_,rfl,e1,RK.cls 3 (by decide),RK.no 3 (by decide) "parts" (by decide),by show 1<1000;decide,?_⟩⟩
   rw[Nq _ _ _ (by decide +kernel)]
   refine⟨_,rfl,_,rfl,o,_,dx,_,rfl,zq,RK.cls 3 (by decide),RK.no 3 (by decide) "least" (by decide),by show 2<1000;decide,?_⟩
   rw[RN _ _ _ _ _ (by decide +kernel) (by decide +kernel)]
   refine⟨_,rfl,_,rfl,o,_,dx,_,rfl,zq,RK.cls 3 (by decide),RK.no 3 (by decide) "way" (by decide),by show 3<1000;decide,?_⟩
   rw[bp _ _ _ _ _ _ _ (by decide +kernel) (by decide +kernel) (by decide +kernel)]
   exact q _ (fun b x hb ne=>by rw[zG ne,zG ne,zG ne];exact f1 _ _ hb ne) zq
  | flat hn ha=>cases hk
  | share hn hp hw=>cases hk
  | capped hn hp ha hw=>cases hk
theorem LX {Cs:Nat→Addr} (F:qM K "until" "Flat.until" (zH (zX 48) 1) f fd) (RK:vC K Cs) (C1:qR P w K mg base zQ 1 "months_with_base" ["bases"] (xj K)):zL P w K mg base zQ 5 f fd ["self","bases"] (uw K 0 Cs):=by
 refine F.ok (N:=["self","bases"]) (by walk_at"s") (fun vs H Q E h=>?_) (fun cdv A outer s H vs Q E hr h=>?_)
 ·obtain⟨v,r,b,bs,rfl,_⟩:=h
  rfl
 ·obtain⟨v,r,b,bs,rfl,hk,⟨o,dx,rfl,ho⟩,pl,hb,bl,q⟩:=h
  cases pl with
  | flat hn ha =>
   refine⟨_,zh (zm (zt ya (zR (pv 0) rfl) (zk C1 hr (by decide) zx (za (pv 1) zd)))),?_⟩
   have a1:=ha.2
   have a0:=ha.1
   exact⟨_,rfl,o,_,dx,_,_,rfl,ho,RK.cls 0 (by decide),RK.no 0 (by decide) "amount" (by decide),rfl,_,rfl,b,bs,rfl,hb,bl,fun H1 s1=>⟨_,_,rfl,rfl,.inl ⟨by omega,by omega⟩,q H1 s1⟩⟩
  | share hn hp hw=>cases hk
  | capped hn hp ha hw=>cases hk
  | least hn hp ha hw=>cases hk
theorem mf {Cs:Nat→Addr} (F:qM K "until" "Share.until" (zH (zX 49) 1) f fd) (G:jW mg) (RK:vC K Cs) (C1:qR P w K mg base zQ 4 "share_of" ["amount","parts","way"] ub):zL P w K mg base zQ 5 f fd ["self","bases"] (uw K 1 Cs):=by
 refine F.ok (N:=["self","bases"]) (by walk_at"s") (fun vs H Q E h=>?_) (fun cdv A outer s H vs Q E hr h=>?_)
 ·obtain⟨v,r,b,bs,rfl,_⟩:=h
  rfl
 ·obtain⟨v,r,b,bs,rfl,hk,⟨o,dx,rfl,ho⟩,pl,hb,bl,q⟩:=h
  cases pl with
  | share hn hp hw =>
   refine⟨_,zh (zm (zk C1 hr (by decide) zx (za (zv (vc rfl) rfl G.sum uj (za (pv 1) zd)) (za (zR (pv 0) rfl) (za (zR (pv 0) rfl) zd))))),?_⟩
   exact⟨_,rfl,b,bs,rfl,hb,_,rfl,o,_,dx,_,_,rfl,ho,RK.cls 1 (by decide),RK.no 1 (by decide) "parts" (by decide),rfl,_,rfl,o,_,dx,_,_,rfl,ho,RK.cls 1 (by decide),RK.no 1 (by decide) "way" (by decide),rfl,_,_,_,rfl,hp.1,hp.2,hw,q H (zu.refl _)⟩
  | flat hn ha=>cases hk
  | capped hn hp ha hw=>cases hk
  | least hn hp ha hw=>cases hk
theorem ma {Cs:Nat→Addr} (F:qM K "until" "Capped.until" (zH (zX 50) 1) f fd) (G:jW mg) (RK:vC K Cs) (C1:qR P w K mg base zQ 4 "share_of" ["amount","parts","way"] ub):zL P w K mg base zQ 5 f fd ["self","bases"] (uw K 2 Cs):=by
 refine F.ok (N:=["self","bases"]) (by walk_at"s") (fun vs H Q E h=>?_) (fun cdv A outer s H vs Q E hr h=>?_)
 ·obtain⟨v,r,b,bs,rfl,_⟩:=h
  rfl
 ·obtain⟨v,r,b,bs,rfl,hk,⟨o,dx,rfl,ho⟩,pl,hb,bl,q⟩:=h
  cases pl with
  | capped hn hp ha hw =>
   refine⟨_,zh (zm (zk C1 hr (by decide) zx (za (zv (Zk rfl) rfl G.min PyProof.Rows.boot_min (za (zv (vc rfl) rfl G.sum uj (za (pv 1) zd)) (za (zR (pv 0) rfl) zd))) (za (zR (pv 0) rfl) (za (zR (pv 0) rfl) zd))))),?_⟩
   exact⟨_,rfl,b,bs,rfl,hb,_,rfl,o,_,dx,_,_,rfl,ho,RK.cls 2 (by decide),RK.no 2 (by decide) "most" (by decide),rfl,_,_,rfl,_,rfl,o,_,dx,_,_,rfl,ho,RK.cls 2 (by decide),RK.no 2 (by decide) "parts" (by decide),rfl,_,rfl,o,_,dx,_,_,rfl,ho,RK.cls 2 (by decide),RK.no 2 (by decide) "way" (by decide),rfl,_,_,_,rfl,hp.1,hp.2,hw,q H (zu.refl _)⟩
  | flat hn ha=>cases hk
  | share hn hp hw=>cases hk
  | least hn hp ha hw=>cases hk
theorem m7 {Cs:Nat→Addr} (F:qM K "until" "Least.until" (zH (zX 51) 1) f fd) (G:jW mg) (RK:vC K Cs) (C1:qR P w K mg base zQ 4 "share_of" ["amount","parts","way"] ub) (C2:qR P w K mg base zQ 1 "months_with_base" ["bases"] (xj K)):zL P w K mg base zQ 5 f fd ["self","bases"] (uw K 3 Cs):=by
 have nd:(["self","bases","share"]:List Str).Nodup:=by decide +kernel
 refine F.ok (N:=["self","bases","share"]) (by walk_at"s") (fun vs H Q E h=>?_) (fun cdv A outer s H vs Q E hr h=>?_)
 ·obtain⟨v,r,b,bs,rfl,_⟩:=h
  rfl
 ·obtain⟨v,r,b,bs,rfl,hk,⟨o,dx,rfl,ho⟩,pl,hb,bl,q⟩:=h
  cases pl with
  | least hn hp ha hw =>
   have a1:=ha.2
   have a0:=ha.1
   refine⟨_,zg (zI (i:=2) nd rfl (Or.inl rfl) (zk C1 hr (by decide) zx (za (zv (vc rfl) rfl G.sum uj (za (pv 1) zd)) (za (zR (pv 0) rfl) (za (zR (pv 0) rfl) zd)))))
    (zh (zm (zv (Zi rfl) rfl G.max PyProof.Rows.boot_max (za (pv 2) (za (zt ya (zR (pv 0) rfl) (zk C2 hr (by decide) zx (za (pv 1) zd))) zd))))),?_⟩
   exact⟨_,rfl,b,bs,rfl,hb,_,rfl,o,_,dx,_,_,rfl,ho,RK.cls 3 (by decide),RK.no 3 (by decide) "parts" (by decide),rfl,_,rfl,o,_,dx,_,_,rfl,ho,RK.cls 3 (by decide),RK.no 3 (by decide) "way" (by decide),rfl,_,_,_,rfl,hp.1,hp.2,hw,
    _,rfl,_,rfl,o,_,dx,_,_,rfl,ho,RK.cls 3 (by decide),RK.no 3 (by decide) "least" (by decide),rfl,_,rfl,b,bs,rfl,hb,bl,fun H1 s1=>⟨_,_,rfl,rfl,.inl ⟨by omega,by omega⟩,_,_,rfl,q H1 s1⟩⟩
  | flat hn ha=>cases hk
  | share hn hp hw=>cases hk
  | capped hn hp ha hw=>cases hk
theorem m9 {Cs:Nat→Addr} (F:qM K "row" "Flat.row" (zH (zX 48) 2) f fd) (G:jW mg) (RK:vC K Cs):zL P w K mg base zQ 1 f fd ["self"] (j3 0 Cs):=by
 refine F.ok (N:=["self"]) (by walk_at"s") (fun vs H Q E h=>?_) (fun cdv A outer s H vs Q E hr h=>?_)
 ·obtain⟨v,r,rfl,_⟩:=h
  rfl
 ·obtain⟨v,r,rfl,hk,⟨o,dx,rfl,ho⟩,pl,q⟩:=h
  have jo:=Qx pl
  cases pl with
  | flat hn ha =>
   refine⟨_,zh (zm (qY PySem.F.plainAttrs_str PySem.F.slot_str_join PySem.F.type_str_join yB zj (za (zU (za zj (za (zR (pv 0) rfl) (za (z8 qm rfl G.str qK (za (zR (pv 0) rfl) zd)) zd)))) zd))),?_⟩
   exact⟨rfl,_,rfl,o,_,dx,_,_,rfl,ho,RK.cls 0 (by decide),RK.no 0 (by decide) "name" (by decide),rfl,_,rfl,o,_,dx,_,_,rfl,ho,RK.cls 0 (by decide),RK.no 0 (by decide) "amount" (by decide),rfl,_,rfl,ZK ha,z6 rfl,fun l H1 s1 n1 e1=>⟨_,(vw (Rk.flat _ _)).map YR,l,rfl,rfl,zY.of e1,jo,q H1 s1⟩⟩
  | share hn hp hw=>cases hk
  | capped hn hp ha hw=>cases hk
  | least hn hp ha hw=>cases hk
theorem L4 {Cs:Nat→Addr} (F:qM K "row" "Share.row" (zH (zX 49) 2) f fd) (G:jW mg) (RK:vC K Cs):zL P w K mg base zQ 1 f fd ["self"] (j3 1 Cs):=by
 refine F.ok (N:=["self"]) (by walk_at"s") (fun vs H Q E h=>?_) (fun cdv A outer s H vs Q E hr h=>?_)
 ·obtain⟨v,r,rfl,_⟩:=h
  rfl
 ·obtain⟨v,r,rfl,hk,⟨o,dx,rfl,ho⟩,pl,q⟩:=h
  have jo:=Qx pl
  cases pl with
  | share hn hp hw =>
   refine⟨_,zh (zm (qY PySem.F.plainAttrs_str PySem.F.slot_str_join PySem.F.type_str_join yB zj (za (zU (za zj (za (zR (pv 0) rfl) (za (z8 qm rfl G.str qK (za (zR (pv 0) rfl) zd)) (za (zR (pv 0) rfl) zd))))) zd))),?_⟩
   exact⟨rfl,_,rfl,o,_,dx,_,_,rfl,ho,RK.cls 1 (by decide),RK.no 1 (by decide) "name" (by decide),rfl,_,rfl,o,_,dx,_,_,rfl,ho,RK.cls 1 (by decide),RK.no 1 (by decide) "parts" (by decide),rfl,_,rfl,wH hp,_,rfl,o,_,dx,_,_,rfl,ho,RK.cls 1 (by decide),RK.no 1 (by decide) "way" (by decide),rfl,z6 rfl,fun l H1 s1 n1 e1=>⟨_,(vw (Rk.share _ _ _)).map YR,l,rfl,rfl,zY.of e1,jo,q H1 s1⟩⟩
  | flat hn ha=>cases hk
  | capped hn hp ha hw=>cases hk
  | least hn hp ha hw=>cases hk
theorem mD {Cs:Nat→Addr} (F:qM K "row" "Capped.row" (zH (zX 50) 2) f fd) (G:jW mg) (RK:vC K Cs):zL P w K mg base zQ 1 f fd ["self"] (j3 2 Cs):=by
 refine F.ok (N:=["self"]) (by walk_at"s") (fun vs H Q E h=>?_) (fun cdv A outer s H vs Q E hr h=>?_)
 ·obtain⟨v,r,rfl,_⟩:=h
  rfl
 ·obtain⟨v,r,rfl,hk,⟨o,dx,rfl,ho⟩,pl,q⟩:=h
  have jo:=Qx pl
  cases pl with
  | capped hn hp ha hw =>
   refine⟨_,zh (zm (qY PySem.F.plainAttrs_str PySem.F.slot_str_join PySem.F.type_str_join yB zj (za (zU (za zj (za (zR (pv 0) rfl) (za (z8 qm rfl G.str qK (za (zR (pv 0) rfl) zd)) (za (z8 qm rfl G.str qK (za (zR (pv 0) rfl) zd)) (za (zR (pv 0) rfl) zd)))))) zd))),?_⟩
   exact⟨rfl,_,rfl,o,_,dx,_,_,rfl,ho,RK.cls 2 (by decide),RK.no 2 (by decide) "name" (by decide),rfl,_,rfl,o,_,dx,_,_,rfl,ho,RK.cls 2 (by decide),RK.no 2 (by decide) "parts" (by decide),rfl,_,rfl,wH hp,_,rfl,o,_,dx,_,_,rfl,ho,RK.cls 2 (by decide),RK.no 2 (by decide) "most" (by decide),rfl,_,rfl,ZK ha,_,rfl,o,_,dx,_,_,rfl,ho,RK.cls 2 (by decide),RK.no 2 (by decide) "way" (by decide),rfl,z6 rfl,fun l H1 s1 n1 e1=>⟨_,(vw (Rk.capped _ _ _ _)).map YR,l,rfl,rfl,zY.of e1,jo,q H1 s1⟩⟩
  | flat hn ha=>cases hk
  | share hn hp hw=>cases hk
  | least hn hp ha hw=>cases hk
theorem nr {Cs:Nat→Addr} (F:qM K "row" "Least.row" (zH (zX 51) 2) f fd) (G:jW mg) (RK:vC K Cs):zL P w K mg base zQ 1 f fd ["self"] (j3 3 Cs):=by
 refine F.ok (N:=["self"]) (by walk_at"s") (fun vs H Q E h=>?_) (fun cdv A outer s H vs Q E hr h=>?_)
 ·obtain⟨v,r,rfl,_⟩:=h
  rfl
 ·obtain⟨v,r,rfl,hk,⟨o,dx,rfl,ho⟩,pl,q⟩:=h
  have jo:=Qx pl
  cases pl with
  | least hn hp ha hw =>
   refine⟨_,zh (zm (qY PySem.F.plainAttrs_str PySem.F.slot_str_join PySem.F.type_str_join yB zj (za (zU (za zj (za (zR (pv 0) rfl) (za (z8 qm rfl G.str qK (za (zR (pv 0) rfl) zd)) (za (z8 qm rfl G.str qK (za (zR (pv 0) rfl) zd)) (za (zR (pv 0) rfl) zd)))))) zd))),?_⟩
   exact⟨rfl,_,rfl,o,_,dx,_,_,rfl,ho,RK.cls 3 (by decide),RK.no 3 (by decide) "name" (by decide),rfl,_,rfl,o,_,dx,_,_,rfl,ho,RK.cls 3 (by decide),RK.no 3 (by decide) "parts" (by decide),rfl,_,rfl,wH hp,_,rfl,o,_,dx,_,_,rfl,ho,RK.cls 3 (by decide),RK.no 3 (by decide) "least" (by decide),rfl,_,rfl,ZK ha,_,rfl,o,_,dx,_,_,rfl,ho,RK.cls 3 (by decide),RK.no 3 (by decide) "way" (by decide),rfl,z6 rfl,fun l H1 s1 n1 e1=>⟨_,(vw (Rk.least _ _ _ _)).map YR,l,rfl,rfl,zY.of e1,jo,q H1 s1⟩⟩
  | flat hn ha=>cases hk
  | share hn hp hw=>cases hk
  | capped hn hp ha hw=>cases hk
end
end K10
namespace Pg
open PySem L2
noncomputable def j9:Sp:=fun vs H Q _=>∃ c k,vs=[.int c,.int k]∧∀ m,0≤m→m<1000003→Q (.int m) H
noncomputable def Vy:Sp:=fun vs H Q _=>∃ c k,vs=[.int c,.int k]∧∀ a H',XC a→zu H H'→Q (.int a) H'
noncomputable def kq:Sp:=fun vs H Q _=>∃ c k,vs=[.int c,.int k]∧∀ a H',Vz a→zu H H'→Q (.int a) H'
noncomputable def V2:Sp:=fun vs H Q _=>∃ c k,vs=[.int c,.int k]∧∀ w H',JU w→zu H H'→Q (.str w) H'
noncomputable def Lo (bs:List Int):Prop:=∀ b∈bs,0≤b
noncomputable def gi:Sp:=fun vs H Q _=>∃ (c:Int) (n:Nat),vs=[.int c,.int (n:Nat)]∧n≤50∧∀ (bs:List Int) l H',bs.length=n→Lo bs→zu H H'→H l=none→H' l=some (.lst (bs.map V.int))→Q (.ref l) H'
noncomputable def gW:Sp:=fun vs H Q _=>∃ z w,vs=[.int z,.str w]∧0≤z∧Q (.int (WR z w)) H
theorem ZN {z:Str} {A B:Prop} (h:A):if decide (V.str z=V.str z)=true then A else B:=by
 rw[if_pos (decide_eq_true rfl)]
 exact h
theorem jq {x y:Str} {A B:Prop} (n:x≠y) (h:B):if decide (V.str x=V.str y)=true then A else B:=by
 rw[if_neg fun k=>n (V.str.inj (of_decide_eq_true k))]
 exact h
theorem BA:("share":Str)≠"flat":=by decide +kernel
theorem bO:("capped":Str)≠"flat":=by decide +kernel
theorem Bs:("capped":Str)≠"share":=by decide +kernel
theorem bH:("least":Str)≠"flat":=by decide +kernel
theorem BG:("least":Str)≠"share":=by decide +kernel
theorem BO:("least":Str)≠"capped":=by decide +kernel
theorem o6 {bs:List Int} (h:Lo bs):0≤bs.sum:=by
 induction bs with
 | nil=>exact Dm _
 | cons a r ih =>
  rw[List.sum_cons]
  exact Int.add_nonneg (h a Ce) (ih fun b hb=>h b (Cd _ hb))
theorem Rj {i:Int} (h0:0≤i) (h1:i<4):∃ w,ZI [V.str "down",.str "up",.str "near",.str "even"] i=some (.str w)∧JU w:=by
 obtain⟨v,ev,mv⟩:=vj (xs:=[V.str "down",.str "up",.str "near",.str "even"]) (i:=i) h0 h1
 simp only[cU,cX,or_false] at mv
 rcases mv with rfl | rfl | rfl | rfl
 ·exact⟨_,ev,by unfold JU;decide +kernel⟩
 ·exact⟨_,ev,by unfold JU;decide +kernel⟩
 ·exact⟨_,ev,by unfold JU;decide +kernel⟩
 ·exact⟨_,ev,by unfold JU;decide +kernel⟩
theorem xX {H:Hp} (xs:List V):j6 H xs xs (fun _ v x=>v=x):=⟨rfl,fun i y h=>⟨y,h,fun _ _=>rfl⟩⟩
theorem GE {r:Rk} (h:V3 r):∀ v∈vw r,(∃ i,v = .int i∧i.natAbs.log2<1920)∨∃ z,v = .str z:=by
 intro v hv
 cases h with
 | flat hn ha =>
  simp only[vw,cU,cX,or_false] at hv
  rcases hv with rfl | rfl | rfl
  ·exact .inr ⟨_,rfl⟩
  ·exact .inr ⟨_,rfl⟩
  ·exact .inl ⟨_,rfl,ZK ha⟩
 | share hn hp hw =>
  simp only[vw,cU,cX,or_false] at hv
  rcases hv with rfl | rfl | rfl | rfl
  ·exact .inr ⟨_,rfl⟩
  ·exact .inr ⟨_,rfl⟩
  ·exact .inl ⟨_,rfl,wH hp⟩
  ·exact .inr ⟨_,rfl⟩
 | capped hn hp ha hw =>
  simp only[vw,cU,cX,or_false] at hv
  rcases hv with rfl | rfl | rfl | rfl | rfl
  ·exact .inr ⟨_,rfl⟩
  ·exact .inr ⟨_,rfl⟩
  ·exact .inl ⟨_,rfl,wH hp⟩
  ·exact .inl ⟨_,rfl,ZK ha⟩
  ·exact .inr ⟨_,rfl⟩
 | least hn hp ha hw =>
  simp only[vw,cU,cX,or_false] at hv
  rcases hv with rfl | rfl | rfl | rfl | rfl
  ·exact .inr ⟨_,rfl⟩
  ·exact .inr ⟨_,rfl⟩
  ·exact .inl ⟨_,rfl,wH hp⟩
  ·exact .inl ⟨_,rfl,ZK ha⟩
  ·exact .inr ⟨_,rfl⟩
theorem lF {r:Rk} (h:V3 r):∃ z l,vw r = .str z::l∧z≠"bands"∧z≠"ontop"∧l.length≤4:=by
 cases h with
 | flat hn ha=>exact⟨_,_,rfl,by decide +kernel,by decide +kernel,cY rfl⟩
 | share hn hp hw=>exact⟨_,_,rfl,by decide +kernel,by decide +kernel,cY rfl⟩
 | capped hn hp ha hw=>exact⟨_,_,rfl,by decide +kernel,by decide +kernel,cY rfl⟩
 | least hn hp ha hw=>exact⟨_,_,rfl,by decide +kernel,by decide +kernel,cY rfl⟩
theorem MA {r:Rk} (h:V3 r):(Nt r).lookup ("name":Str)=some (.str r.name):=by cases h <;> rfl
theorem NS {r:Rk} (h:V3 r):ZI (vw r) 1=some (.str r.name):=by cases h <;> rfl
theorem qD {H H':Hp} {o dx C:Addr} (o0:H o=none) (d0:H dx=none) (fr:∀ b x,(upd (upd H dx (.own o)) o (.ins C dx [])) b=some x→b≠o→H' b=some x):zu H H':=fun b x hb=>by
 have bo:=zP hb o0
 refine fr b x ?_ bo
 rw[zG bo,zG (zP hb d0)]
 exact hb
theorem P9 {bs:List Int} {k:Nat} (h:k<bs.length):ZI (bs.map V.int) ((k:Nat):Int)=some (.int (bs.getD k 0)):=qB (by rw[cW,Ca h,CP,Ca h];rfl)
open PySem.NumText
noncomputable def wh (u:List Nat):List Nat:=u.take (u.length - 3)
noncomputable def vN (l:List Nat):Bool:=wV l&&(decide (l=[48]) || !decide (l.head? = some 48))
noncomputable def gr:Sp:=fun vs H Q _=>∃ z,vs=[.str z]∧z.length≤1000∧∀ H',zu H H'→Q (.bl (vN z.cps.toList)) H'
theorem XB (z y:Str):decide (V.str z=V.str y)=decide (z.cps.toList=y.cps.toList):=decide_eq_decide.mpr ⟨fun h=>by injection h with h;rw[h],fun h=>by rw[xZ h]⟩
theorem xw (z:Str) (c:Nat):Txt.startswith z ⟨#[c]⟩=decide (z.cps.toList.head? = some c):=by
 unfold Txt.startswith Builtin.Str.subAt
 obtain⟨⟨l⟩⟩:=z
 show (decide (0+1≤l.length)&&((Array.mk l).extract 0 (0+1) == #[c]))=decide (l.head? = some c)
 cases l with
 | nil=>rfl
 | cons a l =>
  have e:(Array.mk (a::l)).extract 0 (0+1) = #[a]:=by
   apply Array.ext'
   simp
  rw[e,decide_eq_true (by rw[CI];omega),Cj]
  by_cases h:a=c
  ·subst h
   simp
  ·rw[decide_eq_false (by intro q;exact h (Option.some.inj q))]
   simp[h]
theorem UR:("0":Str)=⟨#[48]⟩:=by decide +kernel
end Pg
namespace Pg
open PySem L2
noncomputable def smC:List Nat:=[97,99,100,102,103,104,105,106,107,108,111,112,113,114,116,117,118,119,120,121,122]
noncomputable def Z0 (c:Nat):Bool:=smC.contains c
theorem px:("acdfghijklopqrtuvwxyz":Str).cps.toList=smC:=by decide +kernel
theorem Tp {i:Int} (h0:0≤i) (h1:i<21):∃ c,ZI ("acdfghijklopqrtuvwxyz":Str).cps.toList i=some c∧Z0 c=true:=by
 rw[px]
 obtain⟨c,e,m⟩:=vj (xs:=smC) h0 h1
 exact⟨c,e,du.mpr m⟩
theorem XH {c:Nat} (h:Z0 c=true):Zg c=true:=by
 have m:=du.mp h
 have all:smC.all Zg=true:=by decide +kernel
 exact Cn.mp all c m
theorem QH {z:Str} (h1:1≤z.cps.toList.length) (h2:z.cps.toList.length≤8) (h3:z.cps.toList.all Zg=true) (h4:∀ w∈noNames,z.cps.toList≠w.cps.toList):yu z:=by
 refine⟨⟨by rw[qg];exact h1,by rw[qg];exact h2,h3⟩,?_⟩
 cases e:noNames.contains z with
 | false=>rfl
 | true=>exact absurd rfl (h4 z (du.mp e))
theorem Ry:∀ w∈noNames,2≤w.cps.toList.countP (fun c=>!Z0 c):=by
 have all:(noNames.all fun w=>decide (2≤w.cps.toList.countP (fun c=>!Z0 c)))=true:=by decide +kernel
 exact fun w h=>of_decide_eq_true (Cn.mp all w h)
theorem BK:∀ w∈noNames,w.cps.toList.head?≠some 113:=by
 have all:(noNames.all fun w=>decide (w.cps.toList.head?≠some 113))=true:=by decide +kernel
 exact fun w h=>of_decide_eq_true (Cn.mp all w h)
theorem QS {l:List Nat} (h:∀ c∈l,Z0 c=true):l.countP (fun c=>!Z0 c)=0:=by
 rw[List.countP_eq_zero]
 intro c hc
 rw[h c hc]
 decide
theorem Ga {z:Str} {fs:List Nat} {c k m:Nat} (hf:∀ c∈fs,Z0 c=true) (hl:fs.length=7) (hc:Zg c=true) (hk:k≤m) (hm:m≤7) (e:z.cps.toList=fs.take k++[c]++(fs.drop k).take (m - k)):yu z:=by
 have ha:∀ x∈fs.take k,Z0 x=true:=fun x hx=>hf x (Dl hx)
 have hb:∀ x∈(fs.drop k).take (m - k),Z0 x=true:=fun x hx=>hf x (List.mem_of_mem_drop (Dl hx))
 have len:z.cps.toList.length=m+1:=by
  rw[e,Cb,Cb,Cz,Cz,dX,hl,CU]
  omega
 refine QH (by omega) (by omega) ?_ fun w hw ew=>?_
 ·rw[e,DM,DM,cQ,cQ]
  refine⟨⟨Cn.mpr fun x hx=>XH (ha x hx),?_⟩,Cn.mpr fun x hx=>XH (hb x hx)⟩
  show (Zg c&&true)=true
  rw[hc]
  rfl
 ·have t:=Ry w hw
  rw[← ew,e,List.countP_append,List.countP_append,QS ha,QS hb] at t
  have:[c].countP (fun c=>!Z0 c)≤1:=List.countP_le_length
  omega
theorem MF {z:Str} {fs:List Nat} {k:Nat} (hf:∀ c∈fs,Z0 c=true) (hl:fs.length=7) (e:z.cps.toList=113::fs.take k):yu z:=by
 refine QH ?_ ?_ ?_ fun w hw ew=>?_
 ·rw[e]
  exact DV (Cw _)
 ·rw[e,CI,Cz,hl]
  omega
 ·rw[e,dM,cQ]
  exact⟨by decide +kernel,Cn.mpr fun x hx=>XH (hf x (Dl hx))⟩
 ·have t:=BK w hw
  rw[← ew,e] at t
  exact t rfl
noncomputable def okNames:List Str:=["bases","nets","months","sum","ne","basis","bet","sumsum","netnet","mont"]
theorem xY:∀ z∈okNames,yu z:=by
 have all:(okNames.all fun z=>decide (1≤z.cps.toList.length)&&decide (z.cps.toList.length≤8)&&z.cps.toList.all Zg&&noNames.all fun w=>decide (z.cps.toList≠w.cps.toList))=true:=by decide +kernel
 intro z hz
 have h:=Cn.mp all z hz
 rw[cQ,cQ,cQ] at h
 exact QH (of_decide_eq_true h.1.1.1) (of_decide_eq_true h.1.1.2) h.1.2 fun w hw=>of_decide_eq_true (Cn.mp h.2 w hw)
theorem ko (z:Str) (k:Nat):(Txt.slice z none (some ((k:Nat):Int))).cps.toList=z.cps.toList.take k:=by
 rw[ZO]
 unfold GQ
 rw[HT.u7,HT.kg,DW,Nat.sub_zero]
 by_cases h:k≤z.cps.toList.length
 ·rw[dA h]
 ·rw[Dj (by omega),dj (cP _),dj (by omega)]
theorem mr (z:Str) (k m:Nat) (h:m≤z.cps.toList.length) (hk:k≤m):(Txt.slice z (some ((k:Nat):Int)) (some ((m:Nat):Int))).cps.toList=(z.cps.toList.drop k).take (m - k):=by
 rw[ZO]
 unfold GQ
 rw[HT.u7,HT.u7,dA h,dA (cZ hk h)]
theorem Lf {p:Str→Prop}:∀ {zs:List V},(∀ u∈zs,∃ z,u = .str z∧p z)→∃ nms:List Str,zs=nms.map V.str∧∀ z∈nms,p z:=by
 intro zs
 induction zs with
 | nil=>exact fun _=>⟨[],rfl,fun z h=>nomatch h⟩
 | cons u r ih =>
  intro h
  obtain⟨z,rfl,hz⟩:=h u Ce
  obtain⟨nms,e,hn⟩:=ih fun v hv=>h v (Cd _ hv)
  refine⟨z::nms,by rw[e];rfl,fun y hy=>?_⟩
  rcases cU.mp hy with rfl | hy
  ·exact hz
  ·exact hn y hy
theorem Pj {p:Nat→Prop}:∀ {zs:List V},(∀ u∈zs,∃ c,u = .str ⟨#[c]⟩∧p c)→∃ cs:List Nat,zs=(cs.map fun c=>(⟨#[c]⟩:Str)).map V.str∧∀ c∈cs,p c:=by
 intro zs
 induction zs with
 | nil=>exact fun _=>⟨[],rfl,fun z h=>nomatch h⟩
 | cons u r ih =>
  intro h
  obtain⟨z,rfl,hz⟩:=h u Ce
  obtain⟨nms,e,hn⟩:=ih fun v hv=>h v (Cd _ hv)
  refine⟨z::nms,by rw[e];rfl,fun y hy=>?_⟩
  rcases cU.mp hy with rfl | hy
  ·exact hz
  ·exact hn y hy
theorem ny {α:Type} {zs:List V} {xs:List α} {p:V→Prop} (h:∀ (i:Nat) u,zs[i]? = some u→∃ x,xs[i]? = some x∧p u):∀ u∈zs,p u:=fun u hu=>by
 obtain⟨i,hi⟩:=List.mem_iff_getElem?.mp hu
 obtain⟨_,_,hp⟩:=h i u hi
 exact hp
theorem RV {p:Nat→Prop} (h0:p 0) (h1:p 1) (h2:p 2) (h3:p 3):∀ i,i<4→p i
 | 0,_=>h0
 | 1,_=>h1
 | 2,_=>h2
 | 3,_=>h3
theorem Rt {nms:List Str} (h:nms.length=2):∃ a b,nms=[a,b]:=by
 match nms,h with
 | [a,b],_=>exact⟨a,b,rfl⟩
theorem bt {p:Str→Prop} (h1:p "name") (h2:p "amount") (h3:p "parts") (h4:p "way") (h5:p "most") (h6:p "least"):∀ x∈(["name","amount","parts","way","most","least"]:List Str),p x:=by
 intro x hx
 simp only[cU,cX,or_false] at hx
 rcases hx with rfl | rfl | rfl | rfl | rfl | rfl <;> assumption
end Pg
namespace ST
open PySem PySem.Spec PyProof.Rows
noncomputable def own:List Char:="set_iterator".toList.reverse
theorem gq:Manifest.owners.lookup (String.ofList own.reverse)=some Manifest.sig_set_iterator:=by kernel_rfl
theorem next_slot:Slot "set_iterator" "__next__" "set_iterator.__next__":=by
 refine Slot.of (owner:="set_iterator") (n:="__next__") ?_ ?_ ?_ ?_ (.inl ?_) ?_
 ·rw[typeLookup_type,builtinLookup_eq_fast]
  kernel_rfl
 ·decide +kernel
 ·decide +kernel
 ·decide +kernel
 ·decide +kernel
 ·rw[isSubtype_type]
  kernel_rfl
theorem Js:Slot "set_iterator" "__iter__" "set_iterator.__iter__":=by
 refine Slot.of (owner:="set_iterator") (n:="__iter__") ?_ ?_ ?_ ?_ (.inl ?_) ?_
 ·rw[typeLookup_type,builtinLookup_eq_fast]
  kernel_rfl
 ·decide +kernel
 ·decide +kernel
 ·decide +kernel
 ·decide +kernel
 ·rw[isSubtype_type]
  kernel_rfl
theorem Yr:entryFor table "set_iterator.__next__" = some Builtin.«set_iterator.__next__»:=entryFor_of_tree (by kernel_rfl)
theorem xu:entryFor table "set_iterator.__iter__" = some Builtin.«dict_keyiterator.__iter__»:=entryFor_alias (id':="dict_keyiterator.__iter__") (by kernel_rfl) rfl (by decide +kernel) (by kernel_rfl)
theorem oX:entryFor table "set.__iter__" = some Builtin.«frozenset.__iter__»:=entryFor_alias (id':="frozenset.__iter__") (by kernel_rfl) rfl (by decide +kernel) (by kernel_rfl)
theorem JP (a:Value):argsOk "set_iterator.__next__" ⟨[a],[]⟩:=by
 unfold argsOk
 rw[signature?_of (id:="set_iterator.__next__") (n:="__next__".toList.reverse) (o:=own) (by kernel_rfl) gq]
 kernel_rfl
theorem G2 (a:Value):argsOk "set_iterator.__iter__" ⟨[a],[]⟩:=by
 unfold argsOk
 rw[signature?_of (id:="set_iterator.__iter__") (n:="__iter__".toList.reverse) (o:=own) (by kernel_rfl) gq]
 kernel_rfl
section
variable {prog:Program} {w:World} {A:Around} {E:Value→Shared→Prop} {s:Shared}
theorem GJ {src:Source} {n:Nat} {Q:Nat→Shared→Prop} (hn:0<n) (h:∀ i d,i<n→Q i { s with drawn:=d }):wpAny (model prog w) A (choose src n) Q E s :=
 fun Γ p hΓ=>⟨Dg hn,h _ _ (Nat.mod_lt _ hn)⟩
theorem Yq {α:Type} {l:List α} {i:Nat} (h:i<l.length):(l[i]::l.eraseIdx i).Perm l:=by
 induction l generalizing i with
 | nil=>exact absurd h (DB _)
 | cons a l ih =>
  cases i with
  | zero=>exact .refl _
  | succ i =>
   have h':i<l.length:=Nat.lt_of_succ_lt_succ h
   show (l[i]::a::l.eraseIdx i).Perm (a::l)
   exact (List.Perm.swap _ _ _).trans (.cons a (ih h'))
theorem LN {α:Type} (n:Nat) (xs:List α) {s:Shared} {Q:List α→Shared→Prop} (e:n=xs.length) (h:∀ ys d,ys.Perm xs→Q ys { s with drawn:=d }):wpAny (model prog w) A (drawOrder n xs) Q E s:=by
 induction n generalizing xs s Q with
 | zero =>
  cases xs with
  | nil=>exact wpAny_pure (h [] s.drawn (.refl _))
  | cons x xs=>exact absurd e (Cc (Nat.succ_pos _))
 | succ n ih =>
  cases xs with
  | nil=>exact absurd e (Nat.succ_ne_zero _)
  | cons x xs =>
   unfold drawOrder
   refine wpAny_bind (GJ (by simp) fun i d hi=>?_)
   rw[Ca hi]
   have ep:=Yq hi
   refine wpAny_bind (ih _ ?_ fun ys d' hp=>wpAny_pure (h _ d' ((List.Perm.cons _ hp).trans ep)))
   rw[eJ hi]
   omega
theorem gC {α:Type} (next:Nat→Nat):∀ (n k:Nat) (l:List α) (out:Array α),n=l.length→(pickOrder.go next n k l out).toList.Perm (out.toList++l)
 | 0,k,[],out,_=>by
  unfold pickOrder.go
  simp
 | n+1,k,x::l,out,e=>by
  unfold pickOrder.go
  have hi:next k%(x::l).length<(x::l).length:=Nat.mod_lt _ (by simp)
  rw[Ca hi]
  have ep:=Yq hi
  refine (gC next n (k+1) _ _ ?_).trans ?_
  ·rw[eJ hi]
   omega
  ·rw[DK,Da]
   exact List.Perm.append_left _ ep
theorem JB {α:Type} (next:Nat→Nat) (xs:Array α):(pickOrder next xs).toList.Perm xs.toList:=by
 have:=gC next xs.size 0 xs.toList #[] (by simp)
 rw[List.nil_append] at this
 exact this
end
section
variable {prog:Program} {w:World} {A:Around} {E:Value→Shared→Prop} {s:Shared}
noncomputable def Uw (first:Value) (i n ep:Nat) (S:Addr):Obj:={ cls:=.type "set_iterator",dict:=none,data:=.fields #[first,rawInt i,.ref S,rawInt n,rawInt ep],slots:=#[] }
noncomputable def Qf (es:Array (Int × Value)) (t:SetTable):Bool:=!t.plain&&decide (es.size > 1)
noncomputable def Zd (t:SetTable) (i:Nat):Nat:=if i=0 then 0 else t.place.getD (i - 1) 0+1
theorem Xv {b:Bool} {t:SetTable} (g:jS b t) {i:Nat} (hi:i≤t.place.size):SetTable.below t.place (Zd t i)=i:=by
 unfold Zd
 cases i with
 | zero=>exact xm g.rise
 | succ i=>exact Xu g.rise hi
inductive vO (w:World) (es:Array (Int × Value)) (ep:Nat) (t:SetTable) (S T:Addr) (ord:List Value) (h:Heap) (i:Nat):Value→Prop
 | text (k:Nat):y0 w=true→ord=(pickOrder (w.params.setOrder S ep) es).toList.map (·.2)→vO w es ep t S T ord h i (rawInt k)
 | table:y0 w=false→Qf es t=false→jS true t→ord=es.toList.map (·.2)→vO w es ep t S T ord h i (rawInt (Zd t i))
 | drawn (ps:List Nat):y0 w=false→h.get? T=some (seqObj "tuple" (ps.map fun (p:Nat)=>rawInt p).toArray 0)→ps.Perm (List.range es.size)→ord=ps.map (fun p=>(es.getD p (0,.none)).2)→vO w es ep t S T ord h i (.ref T)
theorem QP {Q:Bool→Shared→Prop} (h:Q (y0 w) s):wpAny (model prog w) A setsByText Q E s:=by
 unfold setsByText
 exact wpAny_bind (wpAny_askSetting (wpAny_pure h))
theorem UW {S:Addr} {o:Obj} {es:Array (Int × Value)} {ep:Nat} {t:SetTable} {T:Addr} {ord:List Value} {h:Heap} {i:Nat} {first:Int} {Q:Option (Value × Nat)→Shared→Prop} (og:s.heap.get? S=some o) (dg:o.data = .set es ep t) (fg:t.fits es.size=true) (hi:i≤es.size) (F:vO w es ep t S T ord h i (.int first 0)) (q:∀ k:Nat,(∀ h',(∀ v,ord[i]? = some v→vO w es ep t S T ord h' (i+1) (rawInt k)))→Q (ord[i]?.map fun v=>(v,k)) s):wpAny (model prog w) A (setNext S first.toNat i ep) Q E s:=by
 unfold setNext
 refine wpAny_bind (wpAny_setState_of og dg fg ?_)
 refine wpAny_bind (QP ?_)
 generalize hv:Value.int first 0=v at F
 cases F with
 | text k e1 e2 =>
  cases hv
  rw[e1]
  simp only[↓reduceIte,bne_self_eq_false,dI]
  unfold setWalk
  refine wpAny_bind (wpAny_bind (wpAny_setState_of og dg fg (wpAny_bind (QP ?_))))
  rw[e1]
  simp only[↓reduceIte]
  refine wpAny_bind (wpAny_askSetting (wpAny_pure (wpAny_pure ?_)))
  have:=q k fun h' v _=>.text k e1 e2
  rw[e2,cW,Dn,Option.map_map] at this
  exact this
 | table e1 e2 g e3 =>
  have f1:first=Zd t i:=by
   cases hv
   rfl
  subst f1
  have ts:t.place.size=es.size:=by
   have:=fg
   simp only[SetTable.fits,cQ,beq_iff_eq] at this
   exact this.1
  rw[e1]
  simp only[dI,↓reduceIte,CD]
  show wpAny _ _ (if Qf es t=true then _ else _) _ _ _
  rw[e2]
  simp only[dI,↓reduceIte]
  show wpAny _ _ ((if (!t.led && !es.isEmpty)=true then unsupported "set:maker-not-led" else pure ()) >>= _) _ _ _
  rw[g.led]
  simp only[Do,CQ,dI,↓reduceIte]
  refine wpAny_bind (wpAny_pure (wpAny_pure ?_))
  rw[Xv g (ts ▸ hi)]
  by_cases c:i<es.size
  ·have c':i<t.place.size:=ts ▸ c
   rw[dB c,dB c']
   have ov:ord[i]? = some es[i].2:=by
    rw[e3,cW,Dn,dB c]
    rfl
   have sl:Zd t (i+1)=t.place[i]+1:=by
    unfold Zd
    simp[Array.getD,c']
   have:=q (t.place[i]+1) fun h' v _=>sl ▸ vO.table e1 e2 g e3
   rw[ov] at this
   exact this
  ·rw[DA (dc c)]
   have ov:ord[i]? = none:=by
    rw[e3,cW,Dn,DA (dc c)]
    rfl
   have:=q 0 fun h' v z=>by
    rw[ov] at z
    cases z
   rw[ov] at this
   exact this
 | drawn ps e1 e2 e3 e4=>cases hv
end
section
variable {prog:Program} {w:World} {A:Around} {E:Value→Shared→Prop} {s:Shared}
structure It (w:World) (es:Array (Int × Value)) (ep:Nat) (t:SetTable) (S T I:Addr) (ord:List Value) (i:Nat) (h:Heap):Prop where
 it:∃ first,h.get? I=some (Uw first i es.size ep S)∧vO w es ep t S T ord h i first
 set:∃ o,h.get? S=some o∧o.data = .set es ep t
 fits:t.fits es.size=true
theorem vO.keep {es:Array (Int × Value)} {ep:Nat} {t:SetTable} {S T:Addr} {ord:List Value} {h h':Heap} {i:Nat} {v:Value} (F:vO w es ep t S T ord h i v) (k:∀ o,h.get? T=some o→h'.get? T=some o):vO w es ep t S T ord h' i v:=by
 cases F with
 | text k e1 e2=>exact .text k e1 e2
 | table e1 e2 g e3=>exact .table e1 e2 g e3
 | drawn ps e1 e2 e3 e4=>exact .drawn ps e1 (k _ e2) e3 e4
theorem vO.len {es:Array (Int × Value)} {ep:Nat} {t:SetTable} {S T:Addr} {ord:List Value} {h:Heap} {i:Nat} {v:Value} (F:vO w es ep t S T ord h i v):ord.length=es.size:=by
 cases F with
 | text k e1 e2 =>
  rw[e2,cN,(JB _ _).length_eq]
  simp
 | table e1 e2 g e3 =>
  rw[e3]
  simp
 | drawn ps e1 e2 e3 e4 =>
  rw[e4,cN,e3.length_eq,CG]
theorem oM {es:Array (Int × Value)} {ep:Nat} {t:SetTable} {S T I:Addr} {ord:List Value} {i:Nat} {v:Value} {Q:Option Value→Shared→Prop} (J:It w es ep t S T I ord i s.heap) (hS:S≠I) (hT:T≠I) (hv:ord[i]? = some v) (q:∀ h',Heap.SameBut I s.heap h'→It w es ep t S T I ord (i+1) h'→Q (some v) { s with heap:=h' }):wpAny (model prog w) A (pyNext (.ref I)) Q E s:=by
 obtain⟨⟨first,ho,F⟩,⟨o,og,dg⟩,fg⟩:=J
 have ty:s.TypeIs (.ref I) "set_iterator":=⟨_,ho,rfl⟩
 have li:i<es.size:=by
  rw[← F.len]
  exact (Cv.mp hv).1
 unfold pyNext
 refine wpAny_bind (wpAny_attempt (wpAny_callSpecial?_slot (name:=Str.ofString "__next__") ty next_slot (wpAny_call_entry next_slot ty Yr ?_ (JP _))))
 unfold Builtin.«set_iterator.__next__»
 refine wpAny_bind (wpAny_pure (wpAny_bind (wpAny_fieldsOf ho rfl ?_)))
 dsimp only [rawInt]
 unfold setEntries
 refine wpAny_bind (wpAny_bind (wpAny_setState_of og dg fg (wpAny_pure ?_)))
 simp only[bne_self_eq_false,dI,↓reduceIte]
 have fin:∀ (h1:Heap) (x1:Value),Heap.SameBut I s.heap h1→h1.get? I=some (Uw x1 (i+1) es.size ep S)→(∀ h',(∀ o,s.heap.get? T=some o→h'.get? T=some o)→vO w es ep t S T ord h' (i+1) x1)→Q (some v) { s with heap:=h1 }:=fun h1 x1 sb e1 F1 =>
  q h1 sb ⟨⟨x1,e1,F1 h1 fun o z=>(sb.2 T hT).trans z⟩,⟨o,(sb.2 S hS).trans og,dg⟩,fg⟩
 have num:∀ f:Int,first = .int f 0→wpAny (model prog w) A.in1 (setNext S f.toNat ((i:Nat):Int).toNat ((ep:Nat):Int).toNat >>= fun r=>match r with
    | some (x,next)=>do
     setField (Value.ref I) 0 (Value.int (next:Nat) 0)
     setField (Value.ref I) 1 (Value.int ((i:Nat)+1) 0)
     ret x
    | none=>do
     setField (Value.ref I) 2 Value.none
     let e ← newExc (Value.type "StopIteration") []
     raiseNew e)
   (fun fin s'=>∃ v,fin=Fin.done (Flow.ret v)∧wpAny (model prog w) A (pure (some v)) Q E s') (fun e s'=>wpAny (model prog w) A (do let b ← isInstance e (Value.type "StopIteration");if b=true then pure none else throw e) Q E s') s:=by
  intro f ef
  subst ef
  rw[CD,CD]
  refine wpAny_bind (UW og dg fg (Dd li) F fun k F1=>?_)
  rw[hv]
  refine wpAny_bind (wpAny_setField_rec ho (by simp) fun h1 e1 s1=>?_)
  refine wpAny_bind (wpAny_setField_rec e1 (by simp) fun h2 e2 s2=>?_)
  exact wpAny_pure ⟨v,rfl,wpAny_pure (fin h2 (rawInt k) (s1.trans s2) e2 fun h' _=>F1 h' v hv)⟩
 cases F with
 | text k e1 e2=>exact num k rfl
 | table e1 e2 g e3=>exact num _ rfl
 | drawn ps e1 e2 e3 e4 =>
  have pv:∃ p,ps[i]? = some p∧p<es.size∧v=(es.getD p (0,.none)).2:=by
   rw[e4,cW,Cu] at hv
   obtain⟨p,p1,p2⟩:=hv
   exact⟨p,p1,Ds.mp (e3.mem_iff.mp (CS p1)),p2.symm⟩
  obtain⟨p,p1,p2,p3⟩:=pv
  show wpAny _ _ (seqItems? (.ref T) >>= _) _ _ _
  refine wpAny_bind (wpAny_seqItems e2 rfl ?_)
  have pe:(ps.map fun (p:Nat)=>rawInt p).toArray[((i:Nat):Int).toNat]? = some (.int (p:Nat) 0):=by
   rw[CD,List.getElem?_toArray,cW,p1]
   rfl
  dsimp only
  rw[pe]
  dsimp only
  rw[CD,CD]
  unfold setNextDrawn
  refine wpAny_bind (wpAny_bind (wpAny_setState_of og dg fg ?_))
  simp only[bne_self_eq_false,dI,↓reduceIte]
  rw[dB p2]
  refine wpAny_pure ?_
  refine wpAny_bind (wpAny_setField_rec ho (by simp) fun h1 e5 s1=>?_)
  have vv:es[p].2=v:=by
   rw[p3]
   simp[Array.getD,p2]
  exact wpAny_pure ⟨v,vv ▸ rfl,wpAny_pure (fin h1 (.ref T) s1 e5 fun h' k=>.drawn ps e1 (k _ e2) e3 e4)⟩
end
section
variable {prog:Program} {w:World} {A:Around} {E:Value→Shared→Prop} {s:Shared}
theorem Jb (hh:A.handled=none) {h0:Heap} {I:Addr} {Q:Option Value→Shared→Prop} (q:∀ h',Heap.ExtBut I h0 h'→Q none { s with heap:=h' }) {h1:Heap} (x:Heap.ExtBut I h0 h1) :
  wpAny (model prog w) A.in1 (newExc (Value.type "StopIteration") [] >>= fun e=>(raiseNew e:Sem PySem.Fin))
   (fun fin s'=>∃ v,fin=Fin.done (Flow.ret v)∧wpAny (model prog w) A (pure (some v)) Q E s') (fun e s'=>wpAny (model prog w) A (do let b ← isInstance e (Value.type "StopIteration");if b=true then pure none else throw e) Q E s') { s with heap:=h1 }:=by
 simp only[newExc,newTuple]
 refine wpAny_bind (wpAny_bind (wpAny_newObj_type ?_ (by size_fits)))
 refine wpAny_bind (m:=firstArgMember _ _) (wpAny_of_eq (a:=Value.none) rfl ?_)
 refine wpAny_newObj_type ?_ (by size_fits)
 simp only[raiseNew]
 refine wpAny_bind (wpAny_handled ?_)
 rw[show A.in1.handled=none from hh]
 refine wpAny_bind (wpAny_pure (wpAny_throw ?_))
 refine wpAny_bind (wpAny_isInstance (T:="StopIteration") (b:=true) ⟨_,Cq _ rfl,rfl⟩ isSubtype_stop ?_)
 exact wpAny_pure (q _ ((x.push _).push _))
theorem Ot (hh:A.handled=none) {es:Array (Int × Value)} {ep:Nat} {t:SetTable} {S T I:Addr} {ord:List Value} {Q:Option Value→Shared→Prop} (J:It w es ep t S T I ord es.size s.heap) (q:∀ h',Heap.ExtBut I s.heap h'→Q none { s with heap:=h' }):wpAny (model prog w) A (pyNext (.ref I)) Q E s:=by
 obtain⟨⟨first,ho,F⟩,⟨o,og,dg⟩,fg⟩:=J
 have ty:s.TypeIs (.ref I) "set_iterator":=⟨_,ho,rfl⟩
 have hv:ord[es.size]? = none:=dh (dW F.len)
 unfold pyNext
 refine wpAny_bind (wpAny_attempt (wpAny_callSpecial?_slot (name:=Str.ofString "__next__") ty next_slot (wpAny_call_entry next_slot ty Yr ?_ (JP _))))
 unfold Builtin.«set_iterator.__next__»
 refine wpAny_bind (wpAny_pure (wpAny_bind (wpAny_fieldsOf ho rfl ?_)))
 dsimp only [rawInt]
 unfold setEntries
 refine wpAny_bind (wpAny_bind (wpAny_setState_of og dg fg (wpAny_pure ?_)))
 simp only[bne_self_eq_false,dI,↓reduceIte]
 have num:∀ f:Int,first = .int f 0→wpAny (model prog w) A.in1 (setNext S f.toNat ((es.size:Nat):Int).toNat ((ep:Nat):Int).toNat >>= fun r=>match r with
    | some (x,next)=>do
     setField (Value.ref I) 0 (Value.int (next:Nat) 0)
     setField (Value.ref I) 1 (Value.int ((es.size:Nat)+1) 0)
     ret x
    | none=>do
     setField (Value.ref I) 2 Value.none
     let e ← newExc (Value.type "StopIteration") []
     raiseNew e)
   (fun fin s'=>∃ v,fin=Fin.done (Flow.ret v)∧wpAny (model prog w) A (pure (some v)) Q E s') (fun e s'=>wpAny (model prog w) A (do let b ← isInstance e (Value.type "StopIteration");if b=true then pure none else throw e) Q E s') s:=by
  intro f ef
  subst ef
  rw[CD,CD]
  refine wpAny_bind (UW og dg fg (cP _) F fun k F1=>?_)
  rw[hv]
  refine wpAny_bind (wpAny_setField_rec ho (by simp) fun h1 e1 s1=>?_)
  exact Jb hh q s1.extBut
 cases F with
 | text k e1 e2=>exact num k rfl
 | table e1 e2 g e3=>exact num _ rfl
 | drawn ps e1 e2 e3 e4 =>
  have pn:ps[es.size]? = none:=dh (by rw[e3.length_eq,CG];exact cP _)
  show wpAny _ _ (seqItems? (.ref T) >>= _) _ _ _
  refine wpAny_bind (wpAny_seqItems e2 rfl ?_)
  have pe:(ps.map fun (p:Nat)=>rawInt p).toArray[((es.size:Nat):Int).toNat]? = none:=by
   rw[CD,List.getElem?_toArray,cW,pn]
   rfl
  dsimp only
  rw[pe]
  dsimp only
  refine wpAny_bind (wpAny_setField_rec ho (by simp) fun h1 e5 s1=>?_)
  refine wpAny_bind (wpAny_setField_rec e5 (by simp) fun h2 e6 s2=>?_)
  exact Jb hh q (s1.trans s2).extBut
theorem GH {es:Array (Int × Value)} {ep:Nat} {t:SetTable} {S T I:Addr} {ord:List Value} {i:Nat} {Q:Value→Shared→Prop} (J:It w es ep t S T I ord i s.heap) (q:Q (.ref I) s):wpAny (model prog w) A (pyIter (.ref I)) Q E s:=by
 obtain⟨⟨first,ho,F⟩,_,_⟩:=J
 have ty:s.TypeIs (.ref I) "set_iterator":=⟨_,ho,rfl⟩
 refine wpAny_pyIter_slot ty Js (wpAny_call_entry Js ty xu ?_ (G2 _))
 exact wpAny_pure ⟨_,rfl,"set_iterator",_,ty,next_slot.lookup,q⟩
theorem p7 (hh:A.handled=none) {es:Array (Int × Value)} {ep:Nat} {t:SetTable} {S T I:Addr} {ord:List Value} (hS:S≠I) (hT:T≠I) (hl:ord.length=es.size) :
  Walks prog w A I [I,S,T] [I] es.size (fun i v=>ord[i]? = some v) (It w es ep t S T I ord) where
 sub:=fun b hb=>by
  rw[Co.mp hb]
  exact Ce
 frame:=fun i h h' J k=>by
  obtain⟨⟨first,ho,F⟩,⟨o,og,dg⟩,fg⟩:=J
  exact⟨⟨first,k I (by simp) _ ho,F.keep fun o e=>k T (by simp) _ e⟩,⟨o,k S (by simp) _ og,dg⟩,fg⟩
 item:=fun i s Q E hi J q=>by
  have hv:ord[i]? = some (ord[i]'(hl ▸ hi)):=Ca _
  refine oM J hS hT hv fun h' sb J'=>?_
  exact q _ h' s.toks hv J' fun b o hb e=>(sb.2 b fun z=>hb (Co.mpr z)).trans e
 done:=fun s Q E J q=>Ot hh J fun h' x=>q h' s.toks fun b o hb e=>x b o (fun z=>hb (Co.mpr z)) e
 self:=fun i s Q E J q=>GH J q
end
section
variable {prog:Program} {w:World} {A:Around} {E:Value→Shared→Prop} {s:Shared}
theorem pB {S:Addr} {o:Obj} {es:Array (Int × Value)} {ep:Nat} {t:SetTable} {Q:Value→Shared→Prop} (og:s.heap.get? S=some o) (hx:o.ExactSet) (dg:o.data = .set es ep t) (fg:t.fits es.size=true) (g:jS (!y0 w) t) (hz:es.size≤sizeLine) (q:∀ h' d T I ord,(∀ b o,s.heap.get? b=some o→h'.get? b=some o)→s.heap.get? I=none→S≠I→T≠I→It w es ep t S T I ord 0 h'→ord.Perm (es.toList.map (·.2))→(T=S∨s.heap.get? T=none)→Q (.ref I) { s with heap:=h',drawn:=d }):wpAny (model prog w) A (pyIter (.ref S)) Q E s:=by
 have ty:s.TypeIs (.ref S) "set":=⟨_,og,hx.1⟩
 have lt:S<s.heap.objs.size:=cV og
 refine wpAny_pyIter_slot ty F.slot_set_iter (wpAny_call_entry F.slot_set_iter ty oX ?_ (F.args_set_iter_1 _))
 unfold Builtin.«frozenset.__iter__»
 refine wpAny_bind (m:=Builtin.Frozenset.slot0 "__iter__" ⟨[.ref S],[]⟩) (wpAny_of_eq (a:=S) rfl ?_)
 unfold Builtin.Frozenset.sizeOf setEntries
 refine wpAny_bind (wpAny_bind (wpAny_bind (wpAny_setState_of og dg fg (wpAny_pure (wpAny_pure ?_)))))
 unfold setDrawn
 refine wpAny_bind (wpAny_bind (wpAny_setState_of og dg fg (wpAny_bind (QP (wpAny_pure ?_)))))
 show wpAny _ _ (if (!y0 w&&Qf es t)=true then _ else _) _ _ _
 unfold setEpoch
 have make:∀ (h1:Heap) (d:Drawn) (first:Value) (T:Addr) (ord:List Value),(∀ b o,s.heap.get? b=some o→h1.get? b=some o)→T≠h1.objs.size→(∀ h',(∀ o,h1.get? T=some o→h'.get? T=some o)→vO w es ep t S T ord h' 0 first)→ord.Perm (es.toList.map (·.2))→(T=S∨s.heap.get? T=none) →
   wpAny (model prog w) A.in1 ((do return (← setState S).2.1) >>= fun e=>newFields "set_iterator" [first,rawInt 0,.ref S,rawInt es.size,rawInt e] >>= fun r=>ret r)
    (fun fin s'=>∃ v,fin=Fin.done (Flow.ret v)∧∃ T' f,s'.TypeIs v T'∧typeLookup (.type T') (Str.ofString "__next__")=pure (some f)∧Q v s') E { s with heap:=h1,drawn:=d }:=by
  intro h1 d first T ord keep nT F1 pm hT
  refine wpAny_bind (wpAny_bind (wpAny_setState_of (keep _ _ og) dg fg (wpAny_pure ?_)))
  refine wpAny_bind (wpAny_newObj_type ?_)
  have gI:(h1.push (Uw first 0 es.size ep S)).get? h1.objs.size=some (Uw first 0 es.size ep S):=Cq _ rfl
  refine wpAny_pure ⟨_,rfl,"set_iterator",_,⟨_,gI,rfl⟩,next_slot.lookup,?_⟩
  refine q (h1.push (Uw first 0 es.size ep S)) d T h1.objs.size ord (fun b o e=>Cf _ (keep b o e)) ?_ ?_ nT ⟨⟨first,gI,F1 _ fun o e=>Cf _ e⟩,⟨o,Cf _ (keep _ _ og),dg⟩,fg⟩ pm hT
  ·cases e:s.heap.get? h1.objs.size with
   | none=>rfl
   | some o'=>exact absurd (cV (keep _ _ e)) (Dc _)
  ·exact Cc (cV (keep _ _ og))
 dsimp only
 cases hd:(!y0 w&&Qf es t) with
 | true =>
  rw[cQ,dz] at hd
  rw[if_pos rfl]
  refine wpAny_bind (LN _ _ CG.symm fun ps d pm=>?_)
  have pz:ps.length≤sizeLine:=by rw[pm.length_eq,CG];exact hz
  refine wpAny_bind (wpAny_newTuple ?_ (by rw[cN];exact pz))
  refine make _ d (.ref s.heap.objs.size) s.heap.objs.size (ps.map fun p=>(es.getD p (0,.none)).2) (fun b o e=>Cf _ e) ?_ (fun h' k=>.drawn ps hd.1 (k _ (Cq _ rfl)) pm rfl) ?_ (.inr (Df (cP _)))
  ·rw[dU]
   exact Cc (dN _)
  ·refine (pm.map _).trans (List.Perm.of_eq ?_)
   apply Dk
   intro i
   rw[cW,cW]
   by_cases c:i<es.size
   ·rw[List.getElem?_range c,Dn,dB c]
    simp[Array.getD,c]
   ·rw[dh (by simpa using c),dh (by simpa using c)]
    rfl
 | false =>
  rw[if_neg Cm]
  refine wpAny_bind (wpAny_pure ?_)
  by_cases hb:y0 w=true
  ·exact make s.heap s.drawn (rawInt 0) S _ (fun _ _ e=>e) (Cc lt) (fun h' k=>.text 0 hb rfl) ((JB _ _).map _) (.inl rfl)
  ·have hb:y0 w=false:=by simpa using hb
   rw[hb] at hd g
   exact make s.heap s.drawn (rawInt 0) S _ (fun _ _ e=>e) (Cc lt) (fun h' k=>.table hb (by simpa using hd) g rfl) (.refl _) (.inl rfl)
end
section
variable {prog:Program} {w:World} {A:Around} {E:Value→Shared→Prop} {s:Shared}
theorem lE {S:Addr} {o:Obj} {Q:Bool→Shared→Prop} (og:s.heap.get? S=some o) (hx:o.ExactSet) (q:Q false s):wpAny (model prog w) A (Builtin.List.listLengthHint (.ref S)) Q E s:=by
 have ty:s.TypeIs (.ref S) "set":=⟨_,og,hx.1⟩
 unfold Builtin.List.listLengthHint
 refine wpAny_bind (wpAny_specialOf ty F.slot_set_len.lookup ?_)
 generalize hid:("set.__len__":String)=id0
 wp_delta
 rw[show splitId id0=some ("set","__len__") from by subst hid;decide +kernel]
 subst hid
 refine wpAny_bind (wpAny_isInstance (T:="set") (b:=true) ty sub_set_self ?_)
 refine wpAny_ite_split (fun no=>absurd no (by decide)) fun _=>?_
 refine wpAny_ite_split (fun _=>?_) fun no=>absurd (by decide +kernel) no
 exact wpAny_bind (wpAny_typeOf ty (wpAny_pure q))
theorem xQ (hh:A.handled=none) {S D:Addr} {o:Obj} {es:Array (Int × Value)} {ep:Nat} {t:SetTable} {c₀:Nat} {res:Value} {R:Result→Shared→Prop} (og:s.heap.get? S=some o) (hx:o.ExactSet) (dg:o.data = .set es ep t) (fg:t.fits es.size=true) (g:jS (!y0 w) t) (hz:es.size≤sizeLine) (hD:s.heap.get? D=some { cls:=.type "list",data:=.seq #[] c₀ }) (hR:∀ h' d tk acc c,(∀ b o,b≠D→s.heap.get? b=some o→h'.get? b=some o)→h'.get? D=some { cls:=.type "list",dict:=none,data:=.seq acc c,slots:=#[] }→acc.toList.Perm (es.toList.map (·.2))→R (.ok (.ret res)) { s with heap:=h',drawn:=d,toks:=tk }) :
  wpAny (model prog w) A.in1 (Builtin.List.listExtendWith (.ref D) (.ref S) res)
   (fun fin s'=>match fin with | .done f=>R (.ok f) s' | .again c'=>c'.quiet=true∧codeAny (model prog w) A c' R s') (fun e s'=>R (.error e) s') s:=by
 have DS:D≠S:=fun e=>by
  rw[e,og] at hD
  cases hD
  cases dg
 unfold Builtin.List.listExtendWith
 refine wpAny_bind (wpAny_typeOf (T:="set") ⟨_,og,hx.1⟩ ?_)
 have n1:Builtin.List.listSameRef (.ref D) (.ref S)=false:=by simp[Builtin.List.listSameRef,DS]
 have n2:(Value.type "set" == Value.type "list")=false:=by decide
 have n3:(Value.type "set" == Value.type "tuple")=false:=by decide
 simp only[n1,n2,n3,Bool.or_false,dI,if_false]
 refine wpAny_bind (pB og hx dg fg g hz fun h1 d T I ord keep nI SI TI J pm tT=>?_)
 have g1:h1.get? D=some { cls:=.type "list",data:=.seq #[] c₀ }:=keep _ _ hD
 have DI:D≠I:=fun e=>by rw[e,nI] at hD;cases hD
 have DT:D≠T:=fun e=>by
  rcases tT with rfl | z
  ·exact DS e
  ·rw[e,z] at hD;cases hD
 refine wpAny_bind (wpAny_holding (lE (keep _ _ og) hx ?_))
 refine wpAny_ite_split (fun _=>?_) fun no=>absurd (by decide +kernel) no
 refine wpAny_bind (wpAny_rule (wpAny_bind ?_))
 show wpAny _ _ (updateSeq D (·.push .none) >>= fun _=>updateSeq D (·.pop)) _ _ _
 refine wpAny_bind (wpAny_updateSeq g1 rfl ?_)
 have g2:=de (Obj.mapSeq (·.push Value.none)) g1 rfl
 refine wpAny_updateSeq (hz:=by seq_fits) g2 rfl ?_
 have g3:=de (Obj.mapSeq (·.pop)) g2 rfl
 have W:=(p7 (prog:=prog) (w:=w) (A:=A.in1) (by simp[hh]) (ep:=ep) (t:=t) SI TI (by
  obtain⟨⟨first,_,F⟩,_⟩:=J
  exact F.len):Walks prog w A.in1 I [I,S,T] [I] es.size (fun i v=>ord[i]? = some v) (It w es ep t S T I ord))
 have up:∀ b o,b≠D→h1.get? b=some o→((h1.update D (Obj.mapSeq (·.push Value.none))).update D (Obj.mapSeq (·.pop))).get? b=some o:=fun b o hb e =>
  (CO _ _ (Ne.symm hb)).trans ((CO _ _ (Ne.symm hb)).trans e)
 refine wpAny_pure ⟨plainId_quiet F.plain_extend_loop _,codeAny_extend_loopS W.toS hz D ?_ res es.size 0 _ #[] _ rfl (Cw _) (W.frame _ _ _ J fun b hb o e=>up b o ?_ e) g3 (ItemsOf.nil _) fun s' acc c hm hD' hacc=>?_⟩
 ·intro m
  simp only[cU,cX,or_false] at m
  rcases m with m | m | m
  ·exact DI m
  ·exact DS m
  ·exact DT m
 ·intro z
  subst z
  simp only[cU,cX,or_false] at hb
  rcases hb with m | m | m
  ·exact DI m
  ·exact DS m
  ·exact DT m
 ·rw[Moved.eq_with hm]
  refine hR s'.heap d s'.toks acc c (fun b o hb e=>hm.heap b o (fun m=>?_) (up b o hb (keep b o e))) hD' ?_
  ·rcases cU.mp m with m | m
   ·exact hb m
   ·rw[Co.mp m,nI] at e;cases e
  ·have:acc.toList=ord:=by
    apply Dk
    intro i
    rw[Dn]
    have al:=hacc.1
    have ol:ord.length=es.size:=by
     obtain⟨⟨first,_,F⟩,_⟩:=J
     exact F.len
    by_cases c:i<es.size
    ·have ca:i<acc.size:=by rw[al];exact c
     rw[dB ca]
     exact (hacc.2 i _ (dB ca)).symm
    ·rw[DA (by rw[al];exact dc c),dh (by rw[ol];exact dc c)]
   rw[this]
   exact pm
end
section
variable {prog:Program} {w:World} {A:Around} {E:Value→Shared→Prop} {s:Shared}
noncomputable def Tg (w:World) (s:Shared) (es:Array (Int × Value)) (r:Result) (s':Shared):Prop:=∃ h' d tk acc c,r = .ok (.ret (.ref s.heap.objs.size))∧s' = { s with heap:=h',drawn:=d,toks:=tk }∧(∀ b o,s.heap.get? b=some o→h'.get? b=some o)∧h'.get? s.heap.objs.size=some { cls:=.type "list",dict:=none,data:=.seq acc c,slots:=#[] }∧acc.toList.Perm (es.toList.map (·.2))
theorem UP (hh:A.handled=none) {S:Addr} {o:Obj} {es:Array (Int × Value)} {ep:Nat} {t:SetTable} {R:List Value→Shared→Prop} (og:s.heap.get? S=some o) (hx:o.ExactSet) (dg:o.data = .set es ep t) (fg:t.fits es.size=true) (g:jS (!y0 w) t) (hz:es.size≤sizeLine) (hR:∀ h' d tk vs,vs.Perm (es.toList.map (·.2))→(∀ b o,s.heap.get? b=some o→h'.get? b=some o)→R vs { s with heap:=h',drawn:=d,toks:=tk }):wpAny (model prog w) A (collect (.ref S)) R E s:=by
 have go:codeAny (model prog w) A (.builtin "proto.collect" ⟨[.ref S],[]⟩) (Tg w s es) s:=by
  refine codeAny_builtin F.entry_proto_collect ?_
  rw[Around.under_plainId F.plain_proto_collect _]
  show wpAny _ A.in1 (newList [] >>= fun l=>again (.builtin "list.__iadd__" ⟨[l,.ref S],[]⟩)) _ _ s
  refine wpAny_bind (wpAny_newObj_type (wpAny_pure ⟨plainId_quiet F.plain_list_iadd _,codeAny_builtin F.entry_list_iadd ?_⟩))
  rw[Around.under_plainId F.plain_list_iadd _]
  show wpAny _ A.in1 (Builtin.List.listExtendWith (.ref s.heap.objs.size) (.ref S) (.ref s.heap.objs.size)) _ _ _
  refine xQ (c₀:=0) (R:=Tg w s es) (s:={ s with heap:=s.heap.push { cls:=.type "list",data:=.seq ([]:List Value).toArray } }) hh (Cf _ og) hx dg fg g hz (Cq _ rfl) fun h' d tk acc c keep hD pm=>?_
  exact⟨h',d,tk,acc,c,rfl,rfl,fun b o e=>keep b o (Cc (cV e)) (Cf _ e),hD,pm⟩
 unfold collect
 refine wpAny_bind (wpAny_runValue (codeAny_mono go fun r s' q=>?_))
 obtain⟨h',d,tk,acc,c,e1,e2,keep,hD,pm⟩:=q
 subst e1 e2
 show wpAny _ A (load s.heap.objs.size >>= _) _ _ _
 exact wpAny_bind (wpAny_load hD (wpAny_pure (hR h' d tk acc.toList pm keep)))
theorem LR {es:Array (Int × Value)} (el:ElemsOf (intKind prog w) es.toList) {vs:List Value} (pm:vs.Perm (es.toList.map (·.2))):IntsAre vs (vs.map numOf):=by
 refine intsAre_map vs fun v hv=>?_
 obtain⟨e,he,rfl⟩:=Cp.mp (pm.mem_iff.mp hv)
 obtain⟨⟨k,h1,_⟩,_⟩:=el e he
 cases hv:e.2 with
 | int n t=>exact⟨n,t,rfl⟩
 | _=>rw[hv] at h1;cases h1
theorem WV (hh:A.handled=none) {S:Addr} {es:Array (Int × Value)} {zs:List Int} {Q:Value→Shared→Prop} (hA:At (intKind prog w) (!y0 w) s.heap S es) (hK:UQ numOf es zs) (h64:zs.length<64) (q:∀ (h1 h':Heap) d tk out c ys,(∀ b o,s.heap.get? b=some o→h1.get? b=some o)→(∀ b o,h1.get? b=some o→h'.get? b=some o)→h'.get? h1.objs.size=some (seqObj "list" out c)→IntsAre out.toList ys→ys.Pairwise (· < ·)→(∀ z,z∈ys↔z∈zs)→ys.length≤zs.length→Q (.ref h1.objs.size) { s with heap:=h',drawn:=d,toks:=tk }) :
  wpAny (model prog w) A (call (.builtin "sorted") [.ref S]) Q E s:=by
 obtain⟨⟨o,ep,t,og,hx,dg,fg,g⟩,el⟩:=hA
 have le:es.size<64:=d8 hK.len h64
 have hz:es.size≤sizeLine:=by rw[sizeLine_eq];omega
 refine Calls.call_function_entry kind_sorted plain_sorted entry_sorted (args_sorted1 _) ?_
 unfold Builtin.«sorted»
 refine wpAny_bind (m:=checkCount "sorted" 1 1 _) (wpAny_pure (wpAny_bind (UP (by simp[hh]) og hx dg fg g hz fun h1 d tk vs pm keep=>?_)))
 have vl:vs.length<64:=by rw[pm.length_eq,cN,CN];exact le
 have vI:=LR el pm
 refine wpAny_bind (wpAny_newList ?_ (by rw[sizeLine_eq];omega))
 have hD:(h1.push (seqObj "list" vs.toArray 0)).get? h1.objs.size=some (seqObj "list" vs.toArray 0):=Cq _ rfl
 refine wpAny_bind (wpAny_holding (wpAny_call_entry slot_list_sort ⟨_,hD,rfl⟩ entry_list_sort (list_sort_tree hD vI vl fun out ys a1 a2 a3=>⟨_,rfl,?_⟩) (args_list_sort _)))
 obtain⟨c,hc⟩:=sortedHeap_at (out:=out) hD
 have pz:(vs.map numOf).Perm (es.toList.map fun e=>numOf e.2):=by
  have:=pm.map numOf
  rwa [CH] at this
 have py:=a2.trans pz
 refine wpAny_pure ⟨_,rfl,q h1 _ d tk out c ys keep (fun b o e=>?_) hc a1 ?_ (fun z=>?_) ?_⟩
 ·have lt:=cV e
  rw[sortedHeap_old (Cc lt) (by rw[dU];exact Dz lt)]
  exact Cf _ e
 ·have nd:ys.Nodup:=py.nodup_iff.mpr hK.nd
  exact (a3.and nd).imp fun h=>Int.lt_iff_le_and_ne.mpr h
 ·rw[py.mem_iff]
  exact hK.mem z
 ·rw[py.length_eq,cN,CN]
  exact hK.len
end
end ST
namespace L2
open PySem PySem.Spec PyProof.Rows
section
variable {X:Cx} {pins:List (Addr × Obj)} {σ:St} {H:Hp} {s:Shared} {a:Expr} {ta:TA} {p1 p2 p3 pos:Pos}
theorem zN.drew (I:zN X pins σ H s) (d:Drawn):zN X pins σ H { s with drawn:=d }:=⟨I.ok,I.os,I.bare,I.base,I.loc,I.cell,I.free,I.freeC,I.pin,I.hok,I.len⟩
noncomputable def PR (K:BFr) (ta:TA):TE:=fun σ H Q=>ta σ H fun vs H1=>∃ (l:Addr) (zs:List Int),vs=[.ref l]∧zY K H1 l (zs.map V.int)∧zs.length<64 ∧
 ∀ ys:List Int,ys.Pairwise (· < ·)→(∀ z,z∈ys↔z∈zs)→∀ D,H1 D=none→Q (.ref D) (upd H1 D (.lst (ys.map V.int)))
theorem G6:∀ {us:List Value} {ys:List Int},IntsAre us ys→qt (ys.map V.int) us:=by
 intro us ys h
 induction h with
 | nil=>exact .nil
 | cons n t _ ih=>exact .cons ⟨t,rfl⟩ ih
theorem xr (hcalm:X.calm=true) (hg1:Gl X "sorted") (hm1:X.mg "sorted" = none) (hg2:Gl X "set") (hm2:X.mg "set" = none) (ha:PA X [a] ta) (hs:starEach [a] X.env=[(false,eval a X.env)]:=by rfl) (hs1:starEach [.Call (.Name "set" p2) [a] [] p3] X.env=[(false,eval (.Call (.Name "set" p2) [a] [] p3) X.env)]:=by rfl) :
  PE X (.Call (.Name "sorted" p1) [.Call (.Name "set" p2) [a] [] p3] [] pos) (PR X.K ta):=by
 intro pins s σ H Q I h
 refine Call_ (uT I hg1 hm1 boot_sorted (PyProof.Rows.callWith_builtin1 ?_ hs1 rfl))
 rw[hs1]
 show wpAny _ _ (spliced ((false,eval (.Call (.Name "set" p2) [a] [] p3) X.env)::[])) _ _ s
 refine Calls.spliced_cons ?_
 refine Call_ (uT I hg2 hm2 boot_set (PyProof.Rows.callWith_type1 (q0 (ha p3 pins s σ H _ I h) fun us s1 z=>?_) hs rfl))
 obtain⟨vs,H1,I1,r1,l,zs,e,hS,h64,q⟩:=z
 subst e
 cases r1 with
 | cons r rr =>
  cases rr
  cases r
  obtain⟨its,rv,pl,hz⟩:=I1.list hS
  have il:=rv.length
  rw[cN] at il
  have hh:=I1.ok.hd hcalm
  refine ST.oz (knd:=intKind X.prog X.w) (kf:=numOf) (ks:=zs) hh pl.isList (fun k v hv=>?_) (fun i v hi=>?_) ?_ ?_ fun h1 tk1 L=>Calls.spliced_nil ?_
  ·obtain⟨t,rfl⟩:=Value.isInt_shape hv
   rfl
  ·have hi':i<zs.length:=by
    rw[il]
    have:=(dq.mp hi).1
    simpa using this
   obtain⟨u,hu,⟨t,rt⟩⟩:=rv.get (i:=i) (x:=.int zs[i]) (by rw[cW,Ca hi'];rfl)
   have:v = .int zs[i] t:=by
    have h1:its[i]? = some v:=by simpa using hi
    rw[hu,rt] at h1
    exact (Option.some.inj h1).symm
   subst this
   exact⟨_,Ca hi',intKind_is _ _ _ _,rfl⟩
  ·simpa using il
  ·rw[Cy,← il]
   unfold scanBound
   omega
  ·have J1:zN X pins σ H1 { s1 with heap:=h1,toks:=tk1 }:=I1.kept fun b o e=>L.keep b o (cV e) e
   obtain⟨⟨es,A1,K1⟩,_⟩:=L
   refine ST.WV (s:={ s1 with heap:=h1,toks:=tk1 }) hh A1 K1 h64 fun h2 h3 d tk out c ys k1 k2 hD a1 a2 a3 a4=>?_
   have J2:zN X pins σ H1 { s1 with heap:=h2,toks:=tk1 }:=J1.kept k1
   have hn:H1 h2.objs.size=none:=J2.hok.fresh (cP _)
   have fa:yv X pins H1 h2.objs.size:=J2.fpOk (cP _) hn
   have J3:zN X pins σ H1 { s1 with heap:=h3,toks:=tk }:=J2.kept k2
   have rv:=G6 a1
   refine⟨.ref h2.objs.size,_,(J3.drew d).adopt fa (by simpa using hD) rv ?_,rfl,q ys a2 a3 _ hn⟩
   rw[cN]
   rw[sizeLine_eq]
   omega
end
section
variable {X:Cx} {A:Around} {E:Value→Shared→Prop} {pins:List (Addr × Obj)} {σ:St} {H:Hp} {s:Shared} {r:Addr} {Q:VK} {OK:List Str→Prop}
end
section
variable {X:Cx} {a:Expr} {ta:TA} {p1 p2 p3 pos:Pos}
end
section
variable {X:Cx} {tg a:Expr} {ta:TA} {p pos:Pos}
end
end L2
namespace PySem
namespace F
theorem Jr:Manifest.owners.lookup (String.ofList ['d','e','s','r','e','v','e','r'].reverse)=some Manifest.sig_reversed:=by kernel_rfl
theorem Yw:Slot "reversed" "__init__" "object.__init__" :=
 .of (owner:="object") (n:="__init__") (by rw[typeLookup_type,builtinLookup_eq_fast];kernel_rfl) (by decide +kernel) (by decide +kernel) (by decide +kernel)
  (by first | exact .inl (by decide +kernel) | exact .inr (by decide +kernel)) (by rw[isSubtype_type];kernel_rfl)
theorem ja:Slot "reversed" "__next__" "reversed.__next__" :=
 .of (owner:="reversed") (n:="__next__") (by rw[typeLookup_type,builtinLookup_eq_fast];kernel_rfl) (by decide +kernel) (by decide +kernel) (by decide +kernel)
  (by first | exact .inl (by decide +kernel) | exact .inr (by decide +kernel)) (by rw[isSubtype_type];kernel_rfl)
theorem uL:entryFor table "reversed.__next__" = some Builtin.«reversed.__next__»:=entryFor_of_tree (by kernel_rfl)
theorem uG (a:Value):argsOk "reversed.__next__" ⟨[a],[]⟩:=by
 unfold argsOk;rw[signature?_of (id:="reversed.__next__") (n:=['_','_','t','x','e','n','_','_']) (o:=['d','e','s','r','e','v','e','r']) (by kernel_rfl) Jr];kernel_rfl
theorem wK:Slot "reversed" "__iter__" "reversed.__iter__" :=
 .of (owner:="reversed") (n:="__iter__") (by rw[typeLookup_type,builtinLookup_eq_fast];kernel_rfl) (by decide +kernel) (by decide +kernel) (by decide +kernel)
  (by first | exact .inl (by decide +kernel) | exact .inr (by decide +kernel)) (by rw[isSubtype_type];kernel_rfl)
theorem ZV (a:Value):argsOk "reversed.__iter__" ⟨[a],[]⟩:=by
 unfold argsOk;rw[signature?_of (id:="reversed.__iter__") (n:=['_','_','r','e','t','i','_','_']) (o:=['d','e','s','r','e','v','e','r']) (by kernel_rfl) Jr];kernel_rfl
theorem QI:entryFor table "reversed.__iter__" = some Builtin.«dict_keyiterator.__iter__» :=
 entryFor_alias (id':="dict_keyiterator.__iter__") (by kernel_rfl) (by first | rfl | decide +kernel | (unfold String.splitOn;simp +decide [String.splitOnAux])) (by decide +kernel) (by kernel_rfl)
theorem xS:TypeCalled "reversed" "reversed.__new__" "object.__init__" :=
 ⟨by decide +kernel,by decide +kernel,⟨_,_,mro_reversed⟩,madeBy_type mro_reversed lookup_reversed_new (by decide +kernel),by decide +kernel,by rw[isSubtype_type];kernel_rfl,Yw⟩
theorem V7:typeLookup (.type "tuple") "__reversed__" = pure none:=by rw[typeLookup_type,builtinLookup_eq_fast];kernel_rfl
end F
end PySem
namespace L2
open PySem PySem.Spec PyProof.Rows
noncomputable def Xl (l:Addr) (i:Int):Obj:={ cls:=.type "reversed",data:=.fields #[.ref l,rawInt i] }
noncomputable def u3 (h:Heap) (a l:Addr) (i:Int):Prop:=∃ o,h.get? a=some o∧o.cls = .type "reversed"∧o.data = .fields #[.ref l,rawInt i]
theorem u3.typeIs {s:Shared} {a l:Addr} {i:Int} (x:u3 s.heap a l i):s.TypeIs (.ref a) "reversed":=let ⟨o,ho,hc,_⟩:=x;⟨o,ho,hc⟩
theorem u3.at {h h':Heap} {a l:Addr} {i:Int} (x:u3 h a l i) (e:∀ o,h.get? a=some o→h'.get? a=some o):u3 h' a l i:=let ⟨o,ho,r⟩:=x;⟨o,e _ ho,r⟩
section
variable {prog:Program} {w:World} {A:Around} {E:Value→Shared→Prop} {s:Shared}
theorem YE (t:Addr) (items:Array Value) (hfit:(items.size:Int)<2 ^ 63) :
  Meets (Builtin.«reversed.__new__» ⟨[.type "reversed",.ref t],[]⟩) (fun _ R s=>IsTup s.heap t items∧∀ tk,R (.ok (.ret (.ref s.heap.objs.size))) { s with heap:=s.heap.push (Xl t ((items.size:Int) - 1)),toks:=tk }) :=
 .of_wp fun prog w A R s h=>by
  obtain⟨ht,h⟩:=h
  unfold Builtin.«reversed.__new__»
  refine wpAny_bind (wpAny_of_eq (newClass_reversed _) ?_)
  try dsimp only
  refine wpAny_bind (wpAny_of_eq (a:=()) (by first | rfl | kernel_rfl) ?_)
  refine wpAny_bind (wpAny_of_eq (a:=()) (by first | rfl | kernel_rfl) ?_)
  try dsimp only
  refine wpAny_bind (wpAny_specialOf ht.typeIs F.V7 ?_)
  try dsimp only
  refine wpAny_bind (wpAny_bind (wpAny_isInstance ht.typeIs F.sub_tuple_dict ?_))
  rw[if_neg Cm]
  refine wpAny_bind (wpAny_specialOf ht.typeIs F.slot_tuple_getitem.lookup ?_)
  try dsimp only
  rw[if_pos (by decide +kernel)]
  refine wpAny_pure ?_
  try dsimp only
  rw[if_neg (by decide)]
  refine wpAny_bind (len_tuple ht hfit ?_)
  try dsimp only
  refine wpAny_bind (wpAny_of_eq (a:=some (items.size:Int)) rfl ?_)
  try dsimp only
  refine wpAny_bind (m:=newObj (.type "reversed") (.fields #[.ref t,rawInt ((items.size:Int) - 1)])) (wpAny_newObj_type ?_)
  exact wpAny_pure ⟨_,rfl,h _⟩
theorem o8 {t:Addr} {items:Array Value} {Q:Value→Shared→Prop} (ht:IsTup s.heap t items) (hfit:(items.size:Int)<2 ^ 63) (h:∀ tk,Q (.ref s.heap.objs.size) { s with heap:=s.heap.push (Xl t ((items.size:Int) - 1)),toks:=tk }):wpAny (model prog w) A (call (.type "reversed") [.ref t]) Q E s:=by
 refine callType_new F.xS (by decide) (F.typeCall_reversed_1 _) (F.newCall_reversed_1 _) (fun obj=>F.args_object_init_2 obj _) F.entry_reversed_new (YE t items hfit) ⟨ht,fun tk=>?_⟩
 exact⟨⟨_,Cq _ rfl,rfl⟩,h tk⟩
theorem YS {it t:Addr} {i:Nat} {items:Array Value} {x:Value} {Q:Option Value→Shared→Prop} (hit:u3 s.heap it t (i:Int)) (ht:IsTup s.heap t items) (hx:items[i]? = some x) (hfit:(items.size:Int)<2 ^ 63) (hQ:∀ h' tk,u3 h' it t ((i:Int) - 1)→Heap.SameBut it s.heap h'→Q (some x) { s with heap:=h',toks:=tk }):wpAny (model prog w) A (pyNext (.ref it)) Q E s:=by
 obtain⟨o,ho,hc,hd⟩:=id hit
 have hi:i<items.size:=(dq.mp hx).1
 unfold pyNext
 refine wpAny_bind (wpAny_attempt (wpAny_callSpecial?_slot (name:=Str.ofString "__next__") hit.typeIs F.ja
  (wpAny_call_entry F.ja hit.typeIs F.uL ?_ (F.uG _))))
 unfold Builtin.«reversed.__next__»
 refine wpAny_bind (wpAny_of_eq (a:=(Value.ref it,[])) rfl ?_)
 try dsimp only
 refine wpAny_bind (wpAny_field ho hd (x:=.ref t) rfl ?_)
 refine wpAny_bind (wpAny_field ho hd (x:=rawInt (i:Int)) rfl ?_)
 show wpAny _ _ (if (i:Int)<0 then _ else _) _ _ s
 rw[if_neg (by omega)]
 refine wpAny_bind (wpAny_specialOf ht.typeIs F.slot_tuple_getitem.lookup ?_)
 try dsimp only
 rw[if_neg (by simp)]
 refine wpAny_bind (wpAny_mkInt ?_)
 refine wpAny_bind (wpAny_attempt (getItem_tuple (s:={ s with toks:=s.toks+1 }) ht (by omega) (by omega) (j:=i) (x:=x) ?_ hx ?_))
 ·exact PySem.seqIndex_of (by omega) (by omega)
 try dsimp only
 refine wpAny_bind (wpAny_field ho hd (x:=rawInt (i:Int)) rfl ?_)
 show wpAny _ _ (setField (.ref it) 1 (rawInt ((i:Int) - 1)) >>= _) _ _ _
 refine wpAny_bind (wpAny_setField ho hd (by simp) ?_)
 first
 | refine wpAny_pure ⟨x,rfl,wpAny_pure (hQ _ _ ?_ (Heap.SameBut.update ..))⟩
 | refine wpAny_bind (wpAny_pure (wpAny_pure ⟨x,rfl,wpAny_pure (hQ _ _ ?_ (Heap.SameBut.update ..))⟩))
 exact⟨_,de _ ho (Obj.isFreed_of_fields (Obj.data_mapFields hd _)),(Obj.cls_mapFields ..).trans hc,by
  rw[Obj.data_mapFields hd];simp⟩
theorem JW {it t:Addr} {Q:Option Value→Shared→Prop} (hh:A.handled=none) (hit:u3 s.heap it t (-1)) (hQ:∀ h',Heap.ExtBut it s.heap h'→Q none { s with heap:=h' }):wpAny (model prog w) A (pyNext (.ref it)) Q E s:=by
 obtain⟨o,ho,hc,hd⟩:=id hit
 unfold pyNext
 refine wpAny_bind (wpAny_attempt (wpAny_callSpecial?_slot (name:=Str.ofString "__next__") hit.typeIs F.ja
  (wpAny_call_entry F.ja hit.typeIs F.uL ?_ (F.uG _))))
 unfold Builtin.«reversed.__next__»
 refine wpAny_bind (wpAny_of_eq (a:=(Value.ref it,[])) rfl ?_)
 try dsimp only
 refine wpAny_bind (wpAny_field ho hd (x:=.ref t) rfl ?_)
 refine wpAny_bind (wpAny_field ho hd (x:=rawInt (-1)) rfl ?_)
 show wpAny _ _ (if (-1:Int)<0 then _ else _) _ _ s
 rw[if_pos (by decide)]
 refine wpAny_bind (wpAny_rule ?_)
 refine wpAny_bind (wpAny_bind (wpAny_setField ho hd (by simp) ?_))
 have hd2:(o.mapFields fun fs=>fs.set! 1 (rawInt (-1))).data = .fields #[.ref t,rawInt (-1)]:=by rw[Obj.data_mapFields hd];rfl
 refine wpAny_setField (de _ ho (Obj.isFreed_of_fields (Obj.data_mapFields hd _))) hd2 (by simp) ?_
 first
 | show wpAny _ _ (newExc (.type "StopIteration") [] >>= _) _ _ _
 | (refine wpAny_bind ?_;show wpAny _ _ (newExc (.type "StopIteration") [] >>= _) _ _ _)
 refine wpAny_bind ?_
 simp only[newExc,newTuple]
 refine wpAny_bind (wpAny_newObj_type ?_ (by size_fits))
 refine wpAny_bind (m:=firstArgMember _ _) (wpAny_of_eq (a:=Value.none) (by first | rfl | (simp only[firstArgMember];rfl)) ?_)
 refine wpAny_newObj_type ?_ (by size_fits)
 simp only[raiseNew]
 refine wpAny_bind (wpAny_handled ?_)
 first | rw[show A.in1.handled=none from hh] | rw[hh]
 refine wpAny_bind (wpAny_pure (wpAny_throw ?_))
 refine wpAny_bind (wpAny_isInstance (T:="StopIteration") (b:=true) ⟨_,Cq _ rfl,rfl⟩ isSubtype_stop ?_)
 exact wpAny_pure (hQ _ (((((Heap.SameBut.update ..).extBut.trans (Heap.SameBut.update ..).extBut)).push _).push _))
theorem Wi {it t:Addr} {i:Int} {Q:Value→Shared→Prop} (hit:u3 s.heap it t i) (h:Q (.ref it) s):wpAny (model prog w) A (pyIter (.ref it)) Q E s:=by
 refine wpAny_pyIter_slot hit.typeIs F.wK (wpAny_call_entry F.wK hit.typeIs F.QI ?_ (F.ZV _))
 show wpAny _ _ (ret (.ref it)) _ _ s
 exact wpAny_pure ⟨_,rfl,"reversed",_,hit.typeIs,F.ja.lookup,h⟩
end
noncomputable def Rn (K:BFr) (a:Addr) (n:Nat):It :=
 ⟨fun i H=>i<n∧∃ xs,qw K H a xs∧xs.length=n,fun i H x H'=>H'=H∧∀ xs,qw K H a xs→xs[n - 1 - i]? = some x,fun i _=>i=n⟩
theorem Ou {P:Program} {w:World} {K:BFr} {tg:Expr} (a it:Addr) (n:Nat):U9 P w K tg (Rn K a n) [it] it (fun i h=>u3 h it a ((n:Int) - 1 - (i:Nat))) where
 mem:=by simp
 obj:=fun i h st b hb=>by
  have e:b=it:=by simpa using hb
  subst e
  obtain⟨o,e,c,d⟩:=st
  exact⟨o,e,fun v z=>by rw[d] at z;cases z⟩
 keep:=fun i h h' st k=>st.at fun o e=>k it (by simp) o e
 item:=by
  intro X hP hw hK hc i pins s σ H E I hf st hg
  subst hP hw hK
  obtain⟨hi,xs,hq,hn⟩:=hg
  obtain⟨its,rv,p,hz⟩:=I.tuple hq
  have hl:=rv.length
  rw[sizeLine_eq] at hz
  obtain⟨x,hx⟩:∃ x,xs[n - 1 - i]? = some x:=⟨_,Ca (show n - 1 - i<xs.length by omega)⟩
  obtain⟨u,hu,ru⟩:=rv.get hx
  obtain⟨f0,f1,f2,f3,f4,f5⟩:=hf it (by simp)
  have e1:((n:Int) - 1 - (i:Nat))=((n - 1 - i:Nat):Int):=by omega
  have st:=st
  rw[e1] at st
  refine YS st p (x:=u) (by simpa using hu) (by rw[Cy];omega) fun h' tk st' sb=>?_
  have I1:zN X pins σ H { s with heap:=h',toks:=tk }:=I.turned (t':=tk) (fun b o hb e=>(sb.2 b hb).trans e) f0 f1 f3 f4 f5
  obtain⟨o,e,c,d⟩:=id st'
  have e2:((n - 1 - i:Nat):Int) - 1=((n:Int) - 1 - ((i+1:Nat):Int)):=by omega
  rw[e2] at st'
  exact⟨u,rfl,V8 (s:={ s with heap:=h',toks:=tk }) e c d (by decide) ⟨x,H,I1,ru,⟨rfl,fun ys hy=>by rw[I.tuple_inj hy hq];exact hx⟩,st',fun b hb=>(hf b hb).1⟩⟩
 done:=by
  intro X hP hw hK hc i pins s σ H E I hf st hg
  subst hP hw hK
  have hg:i=n:=hg
  subst hg
  obtain⟨f0,f1,f2,f3,f4,f5⟩:=hf it (by simp)
  have st:=st
  rw[show ((i:Int) - 1 - (i:Nat)) = -1 by omega] at st
  exact JW (I.ok.hd hc) st fun h' eb=>⟨rfl,I.turned (t':=s.toks) (fun b o hb e=>eb b o hb e) f0 f1 f3 f4 f5⟩
 self:=fun _ _ _ _ _ st h=>Wi st h
noncomputable def T7 (K:BFr) (ta:TA):TI:=fun σ H R=>ta σ H fun vs H1=>∃ a xs,vs=[.ref a]∧qw K H1 a xs∧R (Rn K a xs.length) H1
section
variable {X:Cx} {tg a:Expr} {ta:TA} {p pos:Pos}
theorem rm (hg:Gl X "reversed") (hm:X.mg "reversed" = none) (ha:PA X [a] ta) (hs:starEach [a] X.env=[(false,eval a X.env)]:=by rfl) :
  PI X tg (.Call (.Name "reversed" p) [a] [] pos) (T7 X.K ta):=by
 intro pins s σ H R I h
 refine Call_ (uT I hg hm boot_reversed (PyProof.Rows.callWith_type1 (q0 (ha pos pins s σ H _ I h) fun us s1 ⟨vs,H1,I1,r1,q1⟩=>?_) hs rfl))
 obtain⟨l,xs,e,h1,q⟩:=q1
 subst e
 cases r1 with
 | cons r rr =>
  cases rr
  cases r
  obtain⟨its,rv,pl,hz⟩:=I1.tuple h1
  have hl:=rv.length
  rw[sizeLine_eq] at hz
  refine o8 pl (by rw[Cy];omega) fun tk=>?_
  have hd:u3 (s1.heap.push (Xl l ((its.toArray.size:Int) - 1))) s1.heap.objs.size l ((xs.length:Int) - 1):=⟨_,Cq _ rfl,rfl,by
   show Data.fields #[.ref l,rawInt ((its.toArray.size:Int) - 1)]=_
   rw[Cy,hl]⟩
  refine Wi hd ?_
  refine⟨s1.heap.objs.size,[s1.heap.objs.size],_,_,H1,rfl,I1.kept (t':=tk) fun b o e=>Cf _ e,Ou l _ xs.length,?_,fun b hb=>?_,q⟩
  ·rw[Int.natCast_zero,Int.sub_zero]
   exact hd
  have e:b=s1.heap.objs.size:=by simpa using hb
  subst e
  exact I1.fpOk (cP _) (I1.hok.fresh (cP _))
end
theorem pN {K:BFr} {a:Addr} {xs:List V} {g:TG} {tb:TS} {D:uK} {σ:St} {H:Hp} (Pv:Nat→St→Hp→Prop) (h0:Pv 0 σ H) (hl:∀ i σ H,i≤xs.length→Pv i σ H→qw K H a xs) (hs:∀ i x σ H,i<xs.length→xs[xs.length - 1 - i]? = some x→Pv i σ H→∀ E:uK,(∀ σ' H',Pv (i+1) σ' H'→E.nx σ' H')→E.rt=D.rt→g x σ H fun σ2 H2=>tb E σ2 H2) (hd:∀ σ H,Pv xs.length σ H→D.nx σ H):NK (Rn K a xs.length) g tb D σ H:=by
 refine⟨fun i m σ H=>m=xs.length - i∧i≤xs.length∧Pv i σ H,⟨xs.length,by simp,Cw _,h0⟩,?_⟩
 rintro i m σ H ⟨rfl,hi,p⟩
 have q:=hl i σ H hi p
 by_cases hlt:i<xs.length
 ·refine .inr ⟨⟨hlt,xs,q,rfl⟩,Pv (i+1),fun σ' H' p'=>⟨xs.length - (i+1),by omega,rfl,hlt,p'⟩,fun x H' y=>?_⟩
  obtain⟨rfl,y⟩:=y
  exact hs i x σ _ hlt (y xs q) p _ (fun _ _ h=>h) rfl
 ·have e:i=xs.length:=by omega
  subst e
  exact .inl ⟨rfl,hd σ H p⟩
end L2
namespace Pg
open PySem L2
noncomputable def By (a b:Int):Int:=if b > a then b else a
noncomputable def LU (a b:Int):Int:=if b<a then b else a
noncomputable def pJ (r:List (Int × Int)) (t:Int):Int:=match r with
 | []=>t
 | q::_=>LU t q.1
noncomputable def pc (b:Int) (r:List (Int × Int)) (t:Int):Int:=By 0 (pJ r t - b)
noncomputable def Lq:List (Int × Int)→Int→List Int
 | [],_=>[]
 | q::r,t=>pc q.1 r t::Lq r t
noncomputable def VB:List (Int × Int)→Int→Int
 | [],_=>0
 | q::r,t=>q.2*pc q.1 r t+VB r t
noncomputable def Up (ps:List (Int × Int)):Prop:=ps.Pairwise fun x y=>x.1<y.1
noncomputable def tD (q s:Int × Int):Int × Int:=if s.1 > q.1 then (q.1,s.2+(s.1 - q.1)*q.2) else s
theorem NC (r:List (Int × Int)) (t:Int):pJ r t≤t:=by
 cases r with
 | nil=>exact Dm _
 | cons q r =>
  show LU t q.1≤t
  unfold LU
  split <;> omega
theorem RR (b:Int) (r:List (Int × Int)) (t:Int):0≤pc b r t:=by
 unfold pc By
 split <;> omega
theorem pE {ps:List (Int × Int)} (h:Up ps) (t:Int):ps.foldr tD (t,0)=(pJ ps t,VB ps t):=by
 induction ps with
 | nil=>rfl
 | cons q r ih =>
  have h2:=Dp.mp h
  rw[List.foldr_cons,ih h2.2]
  have le:=NC r t
  show (if pJ r t > q.1 then (q.1,VB r t+(pJ r t - q.1)*q.2) else (pJ r t,VB r t))=(LU t q.1,q.2*pc q.1 r t+VB r t)
  unfold pc By LU
  by_cases c:pJ r t > q.1
  ·rw[if_pos c,if_pos (show q.1<t by omega),if_pos (by omega),Int.mul_comm q.2,Int.add_comm]
  ·rw[if_neg c,if_neg (show ¬ pJ r t - q.1 > 0 by omega),Int.mul_zero,dR]
   refine Prod.ext ?_ rfl
   show pJ r t=if q.1<t then q.1 else t
   cases r with
   | nil =>
    have c:¬ t > q.1:=c
    rw[if_neg (by omega)]
    rfl
   | cons q' r' =>
    have lt:=h2.1 q' Ce
    have c:¬ LU t q'.1 > q.1:=c
    show LU t q'.1=_
    unfold LU at c ⊢
    by_cases d:q'.1<t
    ·rw[if_pos d] at c
     omega
    ·rw[if_neg d] at c ⊢
     rw[if_neg (by omega)]
theorem nL {ps:List (Int × Int)} (h:∀ q∈ps,0≤q.2) (t:Int):0≤VB ps t:=by
 induction ps with
 | nil=>exact Dm _
 | cons q r ih=>exact Int.add_nonneg (dk (h q Ce) (RR _ _ _)) (ih fun p hp=>h p (Cd _ hp))
theorem J8 (ps:List (Int × Int)) (t:Int):(Lq ps t).length=ps.length:=by
 induction ps with
 | nil=>rfl
 | cons q r ih=>exact congrArg Nat.succ ih
theorem NR {ps:List (Int × Int)} {t:Int} {k:Nat} {q:Int × Int} (h:ps[k]? = some q):(Lq ps t)[k]? = some (pc q.1 (ps.drop (k+1)) t):=by
 induction ps generalizing k with
 | nil=>cases h
 | cons p r ih =>
  cases k with
  | zero =>
   cases h
   rfl
  | succ k=>exact ih (k:=k) h
theorem PF {ps:List (Int × Int)} {t:Int} {k:Nat} {q:Int × Int} (h:ps[k]? = some q):(Lq ps t).take (k+1)=(Lq ps t).take k++[pc q.1 (ps.drop (k+1)) t]:=by
 rw[dv,NR h]
 rfl
theorem Lb (ps:List (Int × Int)) (t:Int):((List.range ps.length).map fun k=>(ps.map (·.2)).getD k 0*(Lq ps t).getD k 0).sum=VB ps t:=by
 induction ps with
 | nil=>rfl
 | cons q r ih =>
  rw[CI,eI,CF,List.sum_cons,CH]
  show q.2*pc q.1 r t+_=q.2*pc q.1 r t+VB r t
  rw[← ih]
  rfl
theorem Wo {ps:List (Int × Int)} {t:Int} {k:Nat}:pJ (ps.drop k) t=match ps[k]? with | none=>t | some q=>LU t q.1:=by
 induction ps generalizing k with
 | nil=>cases k <;> rfl
 | cons q r ih =>
  cases k with
  | zero=>rfl
  | succ k=>exact ih
noncomputable def cB (q:Int × Int):List V:=[.int q.1,.int q.2]
noncomputable def uf (H:Hp) (u:Addr) (ps:List (Int × Int)):Prop:=∃ ys,H u=some (.tup ys)∧qq H ys (ps.map cB)
theorem uf.same {H H':Hp} {u:Addr} {ps:List (Int × Int)} (s:zu H H') (h:uf H u ps):uf H' u ps:=by
 obtain⟨ys,e,t⟩:=h
 exact⟨ys,s _ _ e,t.same s⟩
structure V0 (ps:List (Int × Int)):Prop where
 few:ps.length≤12
 hd:∃ p r,ps=((0:Int),p)::r
 ok:∀ q∈ps,XC q.1∧Vz q.2
 up:Up ps
inductive Gd:Nat→Rk→Prop where
 | pln {d:Nat} {r:Rk}:V3 r→Gd d r
 | bands {d:Nat} {n w:Str} {ps:List (Int × Int)}:yu n→V0 ps→JU w→Gd d (.bands n ps w)
 | ontop {d:Nat} {n w:Str} {p:Int} {r:Rk}:yu n→Vz p→JU w→Gd d r→Gd (d+1) (.ontop n p w r)
theorem Gd.mono {d:Nat} {r:Rk} (h:Gd d r):Gd (d+1) r:=by
 induction h with
 | pln h=>exact .pln h
 | bands h1 h2 h3=>exact .bands h1 h2 h3
 | ontop h1 h2 h3 _ ih=>exact .ontop h1 h2 h3 ih
inductive wG (Cs:Nat→Addr) (H:Hp):Rk→V→Prop where
 | pln {r:Rk} {v:V}:r.kd<4→xq Cs H v r→wG Cs H r v
 | bands {n w:Str} {ps:List (Int × Int)} {o dx u:Addr}:H o=some (.ins (Cs 4) dx [("name",.str n),("bands",.ref u),("way",.str w)])→uf H u ps→wG Cs H (.bands n ps w) (.ref o)
 | ontop {n w:Str} {p:Int} {r:Rk} {o dx:Addr} {x:V}:H o=some (.ins (Cs 5) dx [("name",.str n),("parts",.int p),("way",.str w),("within",x)])→wG Cs H r x→wG Cs H (.ontop n p w r) (.ref o)
theorem wG.same {Cs:Nat→Addr} {H H':Hp} {r:Rk} {v:V} (s:zu H H') (h:wG Cs H r v):wG Cs H' r v:=by
 induction h with
 | pln k h=>exact .pln k (h.same s)
 | bands h b=>exact .bands (s _ _ h) (b.same s)
 | ontop h _ ih=>exact .ontop (s _ _ h) ih
inductive Vu (H:Hp):Rk→V→Prop where
 | pln {r:Rk} {v:V}:r.kd<4→Ob H v r→Vu H r v
 | bands {n w:Str} {ps:List (Int × Int)} {t u:Addr}:H t=some (.tup [.str "bands",.str n,.ref u,.str w])→uf H u ps→Vu H (.bands n ps w) (.ref t)
 | ontop {n w:Str} {p:Int} {r:Rk} {t:Addr} {x:V}:H t=some (.tup [.str "ontop",.str n,.int p,.str w,x])→Vu H r x→Vu H (.ontop n p w r) (.ref t)
theorem Vu.same {H H':Hp} {r:Rk} {v:V} (s:zu H H') (h:Vu H r v):Vu H' r v:=by
 induction h with
 | pln k h=>exact .pln k (h.same s)
 | bands h b=>exact .bands (s _ _ h) (b.same s)
 | ontop h _ ih=>exact .ontop (s _ _ h) ih
noncomputable def Xj:Rk→List Int→Int
 | .bands _ ps w,bs=>WR (VB ps bs.sum) w
 | .ontop _ p w r,bs=>WR (Xj r bs*p) w
 | .flat n a,bs=>N9 (.flat n a) bs
 | .share n p w,bs=>N9 (.share n p w) bs
 | .capped n p m w,bs=>N9 (.capped n p m w) bs
 | .least n p l w,bs=>N9 (.least n p l w) bs
noncomputable def NL (r:Rk) (bs:List Int):Int:=Xj r bs - Xj r (dl bs)
noncomputable def ue (q:Int × Int):Str:=(toString q.1:Str) ++ ":" ++ (toString q.2:Str)
noncomputable def Zt (ps:List (Int × Int)):Str:=Txt.join "," (ps.map ue)
noncomputable def gA:List V→Hp→VK→Prop:=fun xs H Q=>∃ i,xs=[.int i]∧i.natAbs.log2<1920∧Q (.str (toString i)) H
noncomputable def gu:R2:=fun x y H Q=>∃ i j,x = .str i∧y = .str j∧i.length+j.length≤sizeLine∧Q (.str (i++j)) H
noncomputable def ZR:Rk→Str
 | .bands n ps w=>Txt.join " " ["bands",n,Zt ps,w]
 | .ontop n p w r=>Txt.join " " ["ontop",n,toString p,w,"of",ZR r]
 | .flat n a=>XR (.flat n a)
 | .share n p w=>XR (.share n p w)
 | .capped n p m w=>XR (.capped n p m w)
 | .least n p l w=>XR (.least n p l w)
theorem Qy {r:Rk} (h:V3 r):Xj r=N9 r:=by cases h <;> rfl
theorem QN {r:Rk} (h:V3 r):ZR r=XR r:=by cases h <;> rfl
theorem QV {z:Int} {w:Str} (h:0≤z):0≤WR z w:=by
 unfold WR
 split <;> omega
theorem Lh (bs:List Int):0≤pos bs:=Di _
theorem NN {r:Rk} (h:V3 r) {bs:List Int} (b:Lo bs):0≤N9 r bs:=by
 have sn:=o6 b
 cases h with
 | flat hn ha=>exact dk ha.1 (Lh _)
 | share hn hp hw=>exact QV (dk sn hp.1)
 | capped hn hp ha hw =>
  refine QV (dk ?_ hp.1)
  have:=ha.1
  split <;> omega
 | @least n p l w hn hp ha hw =>
  have h2:=dk ha.1 (Lh bs)
  show 0≤if l*pos bs > WR (bs.sum*p) w then l*pos bs else WR (bs.sum*p) w
  split
  ·exact h2
  ·exact QV (dk sn hp.1)
theorem My {d:Nat} {r:Rk} (h:Gd d r) {bs:List Int} (b:Lo bs):0≤Xj r bs:=by
 induction h with
 | pln h=>rw[Qy h];exact NN h b
 | bands h1 h2 h3=>exact QV (nL (fun q hq=>(h2.ok q hq).2.1) _)
 | ontop h1 h2 h3 _ ih=>exact QV (dk ih h2.1)
structure Zu (K:BFr) (C:Addr):Prop where
 cls:ZQ K C
 no:∀ x∈(["name","bands","way","parts","within"]:List Str),qc K C x
noncomputable def Wj (K:BFr):Sp:=fun vs H Q _=>∃ (l:Addr) (zs:List Int),vs=[.ref l]∧zY K H l (zs.map V.int)∧zs.length≤50∧zs.Pairwise (fun x y:Int=>x<y)∧∀ H',zu H H'→Q (.bl true) H'
noncomputable def Ql:Sp:=fun vs H Q _=>∃ a q,vs=[.ref a]∧H a=some (.tup (cB q))∧XC q.1∧Vz q.2∧Q (.bl true) H
noncomputable def JD:Sp:=fun vs H Q _=>∃ u ps,vs=[.ref u]∧uf H u ps∧V0 ps∧∀ H',zu H H'→Q (.bl true) H'
noncomputable def wq (K:BFr):Sp:=fun vs H Q _=>∃ C o dx z,vs=[.ref o,.str z]∧ZQ K C∧qc K C "name"∧H o=some (.ins C dx [])∧yu z∧∀ H',(∀ b x,H b=some x→b≠o→H' b=some x)→H' o=some (.ins C dx [("name",.str z)])→Q .non H'
noncomputable def QE (C:Addr):Sp:=fun vs H Q _=>∃ o dx n u ps w,vs=[.ref o,.str n,.ref u,.str w]∧yu n∧V0 ps∧JU w∧uf H u ps∧H o=some (.ins C dx []) ∧
 ∀ H' u',(∀ b x,H b=some x→b≠o→H' b=some x)→H' o=some (.ins C dx [("name",.str n),("bands",.ref u'),("way",.str w)])→uf H' u' ps→Q .non H'
noncomputable def jd (K:BFr) (d k:Nat) (Cs:Nat→Addr):Sp:=fun vs H Q _=>∃ v r b bs,vs=[v,.ref b]∧r.kd=k∧wG Cs H r v∧Gd d r∧zY K H b (bs.map V.int)∧bs.length≤100∧∀ H',zu H H'→Q (.int (Xj r bs)) H'
noncomputable def XU (K:BFr) (d k:Nat) (Cs:Nat→Addr):Sp:=fun vs H Q _=>∃ v r b bs,vs=[v,.ref b]∧r.kd=k∧wG Cs H r v∧Gd d r∧zY K H b (bs.map V.int)∧bs.length≤100∧∀ H',zu H H'→Q (.int (NL r bs)) H'
noncomputable def jA (d k:Nat) (Cs:Nat→Addr):Sp:=fun vs H Q _=>∃ v r,vs=[v]∧r.kd=k∧wG Cs H r v∧Gd d r∧∀ H',zu H H'→Q (.str (ZR r)) H'
noncomputable def gB:Sp:=fun vs H Q _=>∃ u ps t,vs=[.ref u,.int t]∧uf H u ps∧V0 ps∧∀ l H',zu H H'→H l=none→H' l=some (.lst ((Lq ps t).map V.int))→Q (.ref l) H'
noncomputable def X0:Sp:=fun vs H Q _=>∃ c,vs=[.int c]∧∀ u ps H',V0 ps→zu H H'→uf H' u ps→Q (.ref u) H'
noncomputable def Vl:Sp:=fun vs H Q _=>∃ c z k,vs=[.int c,.str z,.int k]∧yu z∧0≤k∧k<5∧∀ v r H',Gd 0 r→r.name=z→(r.kd:Int)=k→zu H H'→Vu H' r v→Q v H'
noncomputable def kr (K:BFr):Nat→Sp
 | 0=>fun _ _ _ _=>False
 | d+1=>fun vs H Q _=>∃ v r b bs,vs=[v,.ref b]∧Vu H r v∧Gd d r∧zY K H b (bs.map V.int)∧bs.length≤100∧Lo bs∧∀ H',zu H H'→Q (.int (Xj r bs)) H'
noncomputable def gU (K:BFr) (d:Nat):Sp:=fun vs H Q _=>∃ v r b bs,vs=[v,.ref b]∧Vu H r v∧Gd d r∧zY K H b (bs.map V.int)∧bs.length≤100∧Lo bs∧∀ H',zu H H'→Q (.int (NL r bs)) H'
noncomputable def Qb:Nat→Sp
 | 0=>fun _ _ _ _=>False
 | d+1=>fun vs H Q _=>∃ v r,vs=[v]∧Vu H r v∧Gd d r∧∀ H',zu H H'→Q (.str (ZR r)) H'
theorem wG.obj {Cs:Nat→Addr} {H:Hp} {r:Rk} {v:V} {d:Nat} (h:wG Cs H r v) (g:Gd d r):∃ o dx fs,v = .ref o∧H o=some (.ins (Cs r.kd) dx fs)∧fs.lookup ("name":Str)=some (.str r.name) ∧
  ∀ x∈(["until","of_month","row","twin","depth"]:List Str),fs.lookup x=none:=by
 cases h with
 | pln k h =>
  obtain⟨o,dx,rfl,h⟩:=h
  cases g with
  | pln p =>
   refine⟨o,dx,_,rfl,h,MA p,fun x hx=>?_⟩
   simp only[cU,cX,or_false] at hx
   cases p <;> rcases hx with rfl | rfl | rfl | rfl | rfl <;> rfl
  | bands=>exact absurd k (by show ¬ (_:Nat)<4;exact DX (cY rfl))
  | ontop=>exact absurd k (by show ¬ (_:Nat)<4;exact DX (cY rfl))
 | bands h b =>
  refine⟨_,_,_,rfl,h,rfl,fun x hx=>?_⟩
  simp only[cU,cX,or_false] at hx
  rcases hx with rfl | rfl | rfl | rfl | rfl <;> rfl
 | ontop h b =>
  refine⟨_,_,_,rfl,h,rfl,fun x hx=>?_⟩
  simp only[cU,cX,or_false] at hx
  rcases hx with rfl | rfl | rfl | rfl | rfl <;> rfl
theorem jE {H:Hp} {ys:List V} {ps:List (Int × Int)} (T:qq H ys (ps.map cB)):j6 H ys ps (fun H' v q=>∃ a,v = .ref a∧H' a=some (.tup (cB q))):=by
 refine⟨by rw[T.len,cN],fun i y e=>?_⟩
 obtain⟨a,c,rfl,h1,h2⟩:=T.of_at e
 rw[cW] at h1
 obtain⟨q,hq,rfl⟩:=Cu.mp h1
 exact⟨q,hq,fun H' s=>⟨a,rfl,s _ _ h2⟩⟩
theorem Vj {H:Hp} {ys:List V} {ps:List (Int × Int)} (T:qq H ys (ps.map cB)) {i:Nat} {q:Int × Int} (h:ps[i]? = some q):∃ a,ys[i]? = some (.ref a)∧H a=some (.tup (cB q)) :=
 T.at_ i _ (by rw[cW,h];rfl)
theorem Wy (n:Nat):(List.replicate n true).all id=true:=by
 rw[Cn]
 intro x hx
 exact (List.mem_replicate.mp hx).2
theorem V6 (zs:List Int):yX (zs.map V.int) (some 1) none=zs.tail.map V.int:=by
 unfold yX
 rw[show (1:Int)=((1:Nat):Int) from rfl,HT.u7,HT.kg,cN]
 cases zs with
 | nil=>rfl
 | cons z r =>
  rw[dA (show 1≤(z::r).length from DV (Cw _))]
  show ((r.map V.int)).take (r.length+1 - 1)=r.map V.int
  rw[dj (by rw[cN];omega)]
theorem tQ {zs:List Int} (h:zs.Pairwise fun x y:Int=>x<y) {i:Nat} {a b:Int} (ha:zs[i]? = some a) (hb:zs.tail[i]? = some b):a<b:=by
 rw[List.getElem?_tail] at hb
 obtain⟨h1,rfl⟩:=Cv.mp ha
 obtain⟨h2,rfl⟩:=Cv.mp hb
 exact DD.mp h i (i+1) h1 h2 (dN _)
theorem o9 (xs ys:List V):List.zipWith (fun _ _=>V.bl true) xs ys=(List.replicate (min xs.length ys.length) true).map V.bl:=by
 rw[DY]
 apply List.ext_getElem
 ·rw[List.length_zipWith,List.length_replicate]
 ·intro i h1 h2
  rw[List.getElem_zipWith,List.getElem_replicate]
theorem pU {α:Type} (xs:List α):xs.map (fun _=>V.bl true)=(List.replicate xs.length true).map V.bl:=by
 rw[DY]
 induction xs with
 | nil=>rfl
 | cons x r ih=>exact congrArg (V.bl true :: ·) ih
theorem Qo {i:Int} (h:XC i):(toString i:Str).length≤13:=QR (k:=13) h.1 (by decide) (by have:=h.2;have:=h.1;omega)
theorem vm {i:Int} (h:Vz i):(toString i:Str).length≤5:=QR (k:=5) h.1 (by decide) (by have:=h.2;have:=h.1;omega)
theorem oA {q:Int × Int} (h:XC q.1) (k:Vz q.2):(ue q).length≤19:=by
 have l1:=Qo h
 have l2:=vm k
 have l3:((toString q.1:Str) ++ ":" ++ (toString q.2:Str)).length=(toString q.1:Str).length+1+(toString q.2:Str).length:=by rw[Str.length_append,Str.length_append];rfl
 unfold ue
 omega
theorem uA {ps:List (Int × Int)} (ok:V0 ps):JoinOk "," (ps.map ue)=true∧(Zt ps).length≤252:=yx (m:=19) (k:=12) (fun z hz=>by
 obtain⟨q,hq,rfl⟩:=Cp.mp hz
 exact oA (ok.ok q hq).1 (ok.ok q hq).2) (by rw[cN];exact ok.few) (by decide +kernel) rfl
theorem wj {w:Str} (h:JU w):w.length≤4:=by
 have h:=du.mp h
 unfold wayL at h
 simp only[cU,cX,or_false] at h
 rcases h with rfl | rfl | rfl | rfl <;> decide +kernel
theorem JY {n w:Str} {ps:List (Int × Int)} (hn:yu n) (ok:V0 ps) (hw:JU w):JoinOk " " ["bands",n,Zt ps,w]=true:=by
 refine (yx (m:=252) (k:=4) (fun z hz=>?_) (cP _) (by decide +kernel) rfl).1
 have h1:=hn.ok.hi
 have h2:=(uA ok).2
 have h3:=wj hw
 simp only[cU,cX,or_false] at hz
 rcases hz with rfl | rfl | rfl | rfl
 ·decide +kernel
 ·omega
 ·omega
 ·omega
theorem qE {xs:List V} {v:V} (h:xs.head? = some v):ZI xs 0=some v:=by
 cases xs with
 | nil=>cases h
 | cons x r =>
  cases h
  exact qB (j:=0) rfl
end Pg
namespace L2
open PySem PySem.Spec PyProof.Rows
theorem Jn {K:BFr} {D a b:Addr} {te:TE} {fin:List V→Hp→Prop} {σ:St} {H:Hp} {xs ys:List V} (ha:zY K H a xs) (hb:zY K H b ys) (hD:H D=none) (hz:ys.length<sizeLine) (hxy:ys.length≤xs.length) (φ:V→V→V) (he:∀ (i:Nat) x y,xs[i]? = some x→ys[i]? = some y→∀ H' R,zu H H'→(∀ H'',zu H' H''→R (φ x y) H'')→te ((σ.set 0 (some x)).set 1 (some y)) H' R) (hf:∀ H',zu H H'→H' D=some (.lst (List.zipWith φ xs ys))→fin (List.zipWith φ xs ys) H') :
  jx (bP K a b) D (Lv K 2 (QX (qx 0) (QX (qx 1) Mu))) yb te fin σ (upd H D (.lst [])):=by
 refine⟨fun i m zs σ' H'=>m=ys.length - i∧i≤ys.length∧(∀ x y,(σ'.set 0 x).set 1 y=(σ.set 0 x).set 1 y)∧zu H H'∧H' D=some (.lst zs)∧zs=List.zipWith φ (xs.take i) (ys.take i),⟨ys.length,by simp,Cw _,fun _ _=>rfl,zu.upd hD,zq,rfl⟩,fun i m zs σ H ⟨_,_,_,_,h,_⟩=>h,?_⟩
 rintro i m zs σ' H' ⟨rfl,hi,hσ,s,hd,rfl⟩
 by_cases hlt:i<ys.length
 ·have hx:=Ca (show i<xs.length by omega)
  have hy:=Ca hlt
  have tx:xs.take (i+1)=xs.take i++[xs[i]]:=by rw[dv,hx];rfl
  have ty:ys.take (i+1)=ys.take i++[ys[i]]:=by rw[dv,hy];rfl
  refine .inr ⟨⟨xs,ys,_,_,s.seq ha,s.seq hb,hx,hy⟩,fun zs' σ2 H2=>(∀ x y,(σ2.set 0 x).set 1 y=(σ.set 0 x).set 1 y)∧zu H H2∧H2 D=some (.lst zs')∧zs'=List.zipWith φ (xs.take (i+1)) (ys.take (i+1)),fun zs' σ2 H2 p=>⟨ys.length - (i+1),by omega,rfl,hlt,p⟩,fun v H'' hy'=>?_⟩
  obtain⟨c,x,y,e1,e2,e3,e4⟩:=hy'
  obtain⟨e5,e6⟩:=e4 xs ys (s.seq ha) (s.seq hb)
  subst e1 e3
  rw[hx] at e5
  rw[hy] at e6
  cases e5
  cases e6
  refine⟨c,_,rfl,qw.of zq,rfl,_,_,rfl,_,_,rfl,rfl,?_⟩
  have s2:zu H' (upd H' c (.tup [xs[i],ys[i]])):=zu.upd e2
  unfold yb
  dsimp only
  refine qZ ?_
  show te ((σ'.set 0 _).set 1 _) _ _
  rw[hσ]
  refine he i _ _ hx hy _ _ (s.trans s2) fun H3 s3=>⟨s3 _ _ (s2 _ _ hd),?_,?_,?_,zq,?_⟩
  ·rw[List.length_zipWith,Cz,Cz];omega
  ·intro x y
   rcases σ with _ | ⟨_,_ | ⟨_,_⟩⟩ <;> rfl
  ·intro b o z
   rw[zG (zP z hD)]
   exact s3 _ _ (s2 _ _ (s _ _ z))
  ·rw[tx,ty,List.zipWith_append (by rw[Cz,Cz];omega)]
   rfl
 ·have e:i=ys.length:=by omega
  subst e
  refine .inl ⟨⟨xs,ys,s.seq ha,s.seq hb,.inr (cP _)⟩,?_⟩
  have e3:List.zipWith φ (xs.take ys.length) ys=List.zipWith φ xs ys:=by
   apply Dk
   intro j
   rw[List.getElem?_zipWith,List.getElem?_zipWith,List.getElem?_take]
   by_cases h:j<ys.length
   ·rw[if_pos h]
   ·rw[if_neg h,dh (l:=ys) (by omega)]
    cases xs[j]? <;> rfl
  rw[dG,e3] at hd ⊢
  exact hf H' s hd
end L2
namespace K10
open PySem PySem.NumText L2 Pg
seal PE PA PT PW PS y8 PG vz PI j8 PO PK
section
variable {P:Program} {w:World} {K:BFr} {mg:Str→Option Value} {base:Heap} {f:Addr} {fd:FuncData} {d:Nat→Addr} {cR:Addr}
theorem lz (F:qM K "rise" "rise" (zX 38) f fd) (G:jW mg):zL P w K mg base zQ 1 f fd ["things"] (Wj K):=by
 have nc:(["thing","after"]:List Str).Nodup:=by decide +kernel
 refine F.ok (N:=["things"]) (by walk_at"s") (fun vs H Q E h=>?_) (fun cdv A outer s H vs Q E hr h=>?_)
 ·obtain⟨l,zs,rfl,_⟩:=h
  rfl
 ·obtain⟨l,zs,rfl,hl,zl,up,q⟩:=h
  refine' ⟨_,zh (zm (zv (jD rfl) rfl G.all vA (za ?comp zd))),?main⟩
  case comp =>
   refine' qv (Nc:=["thing","after"]) (cl:=[]) (src:=[none,none]) (wi:=NG K (qX (qd 0) (qX (RP (RA K) (qd 0) (Qi (tC (.int 1))) ku) jy))) (g:=Lv K 2 (QX (qx 0) (QX (qx 1) Mu))) (tt:=yb) (te:=jV (WS fun i j=>.bl (decide (i<j))) (qd 0) (qd 1))
    ⟨rfl,rfl,by decide +kernel,by decide +kernel,(fun x c z=>nomatch z),qT (by rfl),qa (qa qu),rfl⟩ rfl (PX rfl G.zip (za (pv 0) (za (qp yn (pv 0) (qC ze) qL) zd))) ?hb
   case hb =>
    intro fp C' s' H'
    exact⟨On rfl (kJ (z5 (i:=0) nc rfl (Or.inl rfl)) (kJ (z5 (i:=1) nc rfl (Or.inl rfl)) X8)),qP,qj uY (pv 0) (pv 1) (zD _)⟩
  refine⟨_,rfl,_,rfl,_,rfl,l,_,rfl,hl,fun p p0=>?_⟩
  have s1:zu H (upd H p (.lst (yX (zs.map V.int) (some 1) none))):=zu.upd p0
  have e1:(upd H p (.lst (yX (zs.map V.int) (some 1) none))) p=some (.lst (zs.tail.map V.int)):=by rw[zq,V6]
  refine⟨l,p,rfl,⟨_,s1.seq hl⟩,⟨_,zY.of e1⟩,fun D hD=>Jn (s1.seq hl) (zY.of e1) hD (by rw[cN,Dq,sizeLine_eq];omega) (by rw[cN,cN,Dq];omega) (fun _ _=>V.bl true) (fun i x y hx hy H1 R s2 r=>?_) (fun H1 s2 e2=>?_)⟩
  ·rw[cW] at hx hy
   obtain⟨a,ha,rfl⟩:=Cu.mp hx
   obtain⟨b,hb,rfl⟩:=Cu.mp hy
   refine⟨_,rfl,_,rfl,a,b,rfl,rfl,?_⟩
   show R (V.bl (decide (a<b))) H1
   rw[decide_eq_true (tQ up ha hb)]
   exact r H1 (zu.refl _)
  ·refine⟨D,List.replicate (zs.length - 1) true,rfl,zY.of ?_,?_⟩
   ·rw[e2,o9,cN,cN,Dq,Dj (by omega)]
   ·rw[Pg.Wy]
    exact q H1 (s1.trans s2)
theorem Pc (F:qM K "is_band" "is_band" (zX 54) f fd) (G:jW mg) (C1:qR P w K mg base zQ 3 "is_rule_amount" ["thing"] Qt) (C2:qR P w K mg base zQ 3 "is_parts" ["thing"] wg):zL P w K mg base zQ 4 f fd ["thing"] Ql:=by
 refine F.ok (N:=["thing"]) (by walk_at"s") (fun vs H Q E h=>?_) (fun cdv A outer s H vs Q E hr h=>?_)
 ·obtain⟨a,p,rfl,_⟩:=h
  rfl
 ·obtain⟨a,p,rfl,ha,h1,h2,q⟩:=h
  refine⟨_,(zg (zK (PW.pt (yM (qz (qy (zv zJ rfl G.isinstance zE (za (pv 0) (za (yw (v:=.ty "tuple") rfl G.tuple yy rfl) zd))))) (yU (zw vP (zv zO rfl G.len boot_len (za (pv 0) zd)) ze (zD _))))) (zh (zm jj)) zB)
    (zh (zm (yK (zk C1 hr (by decide) zx (za (zC zT (pv 0) ze) zd)) (yL (zk C2 hr (by decide) zx (za (zC zT (pv 0) ze) zd))))))),?_⟩
  refine⟨_,rfl,_,_,_,_,true,rfl,rfl,.inl (.tup ha),rfl,true,rfl,qN ⟨_,rfl,a,_,rfl,.inr (qw.of ha),rfl,_,rfl,qN ?_⟩⟩
  refine⟨_,rfl,a,_,_,_,rfl,rfl,qw.of ha,rfl,_,rfl,h1,true,rfl,qZ ⟨_,rfl,a,_,_,_,rfl,rfl,qw.of ha,rfl,_,rfl,h2.1,h2.2,q⟩⟩
theorem oh (F:qM K "are_bands" "are_bands" (zX 55) f fd) (G:jW mg) (N1:Yh mg "MOST_BANDS" 12) (C1:qR P w K mg base zQ 4 "is_band" ["thing"] Ql) (C2:qR P w K mg base zQ 1 "rise" ["things"] (Wj K)):zL P w K mg base zQ 5 f fd ["thing"] JD:=by
 obtain⟨tk,em⟩:=N1
 have nd:(["thing","borders"]:List Str).Nodup:=by decide +kernel
 have nc:(["row"]:List Str).Nodup:=by decide +kernel
 refine F.ok (N:=["thing","borders"]) (by walk_at"s") (fun vs H Q E h=>?_) (fun cdv A outer s H vs Q E hr h=>?_)
 ·obtain⟨u,ps,rfl,_⟩:=h
  rfl
 ·obtain⟨u,ps,rfl,⟨ys,hu,T⟩,ok,q⟩:=h
  refine' ⟨_,(zg (zK (PW.pt (yM (qz (qy (zv zJ rfl G.isinstance zE (za (pv 0) (za (yw (v:=.ty "tuple") rfl G.tuple yy rfl) zd))))) (yM (zw uY (zv zO rfl G.len boot_len (za (pv 0) zd)) ze (zD _)) (yU (zw y6 (zv zO rfl G.len boot_len (za (pv 0) zd)) (zZ (v:=.int 12) rfl em ⟨tk,rfl⟩) (zD _)))))) (zh (zm jj)) zB)
    (zg (zK (qz (qy (zv (jD rfl) rfl G.all vA (za ?comp_2 zd)))) (zh (zm jj)) zB)
    (zg ?st_1
    (zh (zm (yK (qj qh (zC zA (pv 1) ze) ze (zD _)) (yL (zk C2 hr (by decide) zx (za (pv 1) zd))))))))),?main⟩
  case comp_2 =>
   refine' qv (Nc:=["row"]) (cl:=[]) (src:=[none]) (wi:=YC K (qd 0)) (g:=qx 0) (tt:=yb) (te:=fun σ H Q=>qX (qd 0) jy σ H fun vs H1=>Ql vs H1 Q E0)
    (by walk_at"c0") rfl (uu (pv 0)) ?hb
   case hb =>
    intro fp C' s' H'
    exact⟨z5 (i:=0) nc rfl (Or.inl rfl),qP,zk C1 hr (by decide) zx (za (pv 0) zd)⟩
  case st_1 =>
   refine' Z7 (i:=1) (Nc:=["row"]) (cl:=[]) (src:=[none]) (wi:=YC K (qd 0)) (g:=qx 0) (tt:=yb) (te:=jV (Zz K) (qd 0) (tC (.int 0))) nd rfl rfl
    (by walk_at"c0") rfl (uu (pv 0)) ?hb
   case hb =>
    intro fp C' s' H'
    exact⟨z5 (i:=0) nc rfl (Or.inl rfl),qP,zC zT (pv 0) ze⟩
  have few:=ok.few
  have yl:ys.length=ps.length:=by rw[T.len,cN]
  obtain⟨p0,r0,ep⟩:=ok.hd
  have ne:1≤ps.length:=by rw[ep];exact DV (Cw _)
  have hs:ps.length<sizeLine:=by rw[sizeLine_eq];omega
  refine⟨_,rfl,_,_,_,_,true,rfl,rfl,.inl (.tup hu),rfl,true,rfl,qN ⟨_,rfl,u,_,rfl,.inr (qw.of hu),_,_,rfl,rfl,_,rfl,qi (fun e=>?_) (fun _=>?_)⟩⟩
  ·have:=of_decide_eq_true e
   omega
  refine⟨_,rfl,u,_,rfl,.inr (qw.of hu),_,_,rfl,rfl,_,rfl,qi (fun e=>?_) (fun _=>?_)⟩
  ·have:=of_decide_eq_true e
   omega
  refine⟨_,rfl,u,rfl,⟨_,qw.of hu⟩,fun D hD=>jL (ju (qw.of hu)) (jE T) hD hs (fun _=>V.bl true) (fun p hp v H1 R s1 e1 r=>?_) (fun H1 s1 e1=>?_)⟩
  ·obtain⟨a,rfl,ha⟩:=e1
   exact⟨_,rfl,a,p,rfl,ha,(ok.ok p hp).1,(ok.ok p hp).2,r H1 (zu.refl _)⟩
  refine⟨D,List.replicate ps.length true,rfl,zY.of (by rw[e1,pU]),?_⟩
  rw[Pg.Wy]
  refine⟨true,rfl,qN ⟨_,rfl,u,rfl,⟨_,qw.of (s1 _ _ hu)⟩,fun D2 hD2=>jL (ju (qw.of (s1 _ _ hu))) (jE (T.same s1)) hD2 hs (fun p=>V.int p.1) (fun p hp v H2 R s2 e2 r=>?_) (fun H2 s2 e2=>?_)⟩⟩
  ·obtain⟨a,rfl,ha⟩:=e2
   exact⟨_,rfl,a,_,_,_,rfl,rfl,qw.of ha,rfl,r H2 (zu.refl _)⟩
  have e2':H2 D2=some (.lst ((ps.map (·.1)).map V.int)):=by rw[e2,CH];rfl
  refine⟨_,rfl,D2,_,_,.int 0,rfl,rfl,zY.of e2',qE (by rw[ep];rfl),rfl,true,rfl,qZ ⟨_,rfl,D2,_,rfl,zY.of e2',by rw[cN];omega,?_,fun H3 s3=>q H3 (s1.trans (s2.trans s3))⟩⟩
  exact List.pairwise_map.mpr ok.up
theorem oq (F:qM K "__init__" "Rule.__init__" (zH (zX 47) 0) f fd) (C1:qR P w K mg base zQ 3 "is_rule_name" ["thing"] JK):zL P w K mg base zQ 4 f fd ["self","name"] (wq K):=by
 refine F.ok (N:=["self","name"]) (by walk_at"s") (fun vs H Q E h=>?_) (fun cdv A outer s H vs Q E hr h=>?_)
 ·obtain⟨i,o,dx,z,rfl,_⟩:=h
  rfl
 ·obtain⟨C,o,dx,z,rfl,cl,no,ho,hz,q⟩:=h
  refine⟨_,zg (zK (qz (qy (zk C1 hr (by decide) zx (za (pv 1) zd)))) qJ zB) (zh (yz (pv 0) (pv 1) rfl)),?_⟩
  refine⟨_,rfl,z,rfl,hz,fun H1 s1=>⟨true,rfl,qN ⟨_,rfl,_,rfl,o,_,dx,[],rfl,s1 _ _ ho,cl,no,by decide,?_⟩⟩⟩
  rw[cy]
  exact q _ (fun b x hb ne=>by rw[zG ne];exact s1 _ _ hb) zq
theorem Py {C:Addr} (F:qM K "__init__" "Bands.__init__" (zH (zX 56) 0) f fd) (G:jW mg) (RX:Zu K C) (CR:uQ P w K mg base zQ 4 "Rule" "__init__" ["self","name"] (wq K)) (C1:qR P w K mg base zQ 5 "are_bands" ["thing"] JD) (C2:qR P w K mg base zQ 1 "is_way" ["thing"] Z5):zL P w K mg base zQ 6 f fd ["self","name","rows","way"] (QE C):=by
 have nc:(["row"]:List Str).Nodup:=by decide +kernel
 refine F.ok (N:=["self","name","rows","way"]) (by walk_at"s") (fun vs H Q E h=>?_) (fun cdv A outer s H vs Q E hr h=>?_)
 ·obtain⟨o,dx,n,u,ps,x,rfl,_⟩:=h
  rfl
 ·obtain⟨o,dx,n,u,ps,x,rfl,hn,ok,hw,bd,ho,q⟩:=h
  refine' ⟨_,zg (qb (jg CR hr (by decide) zx (za (pv 0) (za (pv 1) zd)))) (zg (zK (qz (qy (zk C1 hr (by decide) zx (za (pv 2) zd)))) qJ zB) (zg (zK (qz (qy (zk C2 hr (by decide) zx (za (pv 3) zd)))) qJ zB) (zg (yz (pv 0) (z8 y9 rfl G.tuple yy (za ?comp zd)) rfl) (zh (yz (pv 0) (pv 3) rfl))))),?main⟩
  case comp =>
   refine' qv (Nc:=["row"]) (cl:=[]) (src:=[none]) (wi:=YC K (qd 2)) (g:=qx 0) (tt:=yb) (te:=lL (qX (jV (Zz K) (qd 0) (tC (.int 0))) (qX (jV (Zz K) (qd 0) (tC (.int 1))) jy)))
    (by walk_at"c0") rfl (uu (pv 2)) ?hb
   case hb =>
    intro fp C' s' H'
    exact⟨z5 (i:=0) nc rfl (Or.inl rfl),qP,yA (za (zC zT (pv 0) ze) (za (zC zT (pv 0) ze) zd))⟩
  obtain⟨ys,hu,T⟩:=bd
  have few:=ok.few
  have uo:u≠o:=vQ hu ho (by intro z;cases z)
  have nt:∀ c,H o≠some (.tup c):=fun c z=>by rw[ho] at z;cases z
  refine⟨_,rfl,_,rfl,C,o,dx,_,rfl,RX.cls,RX.no "name" (by decide),ho,hn,fun H1 f1 e1=>?_⟩
  have hu1:=f1 _ _ hu uo
  have T1:qq H1 ys (ps.map cB):=T.mono fun b c h=>f1 _ _ h (vQ h ho (by intro z;cases z))
  refine⟨_,rfl,u,ps,rfl,⟨ys,hu1,T1⟩,ok,fun H2 s2=>⟨true,rfl,qN ⟨_,rfl,x,rfl,hw,true,rfl,qN ?_⟩⟩⟩
  have hu2:=s2 _ _ hu1
  have T2:=T1.same s2
  refine⟨_,rfl,u,rfl,⟨_,qw.of hu2⟩,fun D hD=>GG (ju (qw.of hu2)) (jE T2) hD (by rw[sizeLine_eq];omega) cB (fun p hp v H3 R s3 e3 r=>?_) (fun zs H3 s3 e3 T3=>?_)⟩
  ·obtain⟨a,rfl,ha⟩:=e3
   exact⟨_,rfl,a,_,_,_,rfl,rfl,qw.of ha,rfl,_,rfl,a,_,_,_,rfl,rfl,qw.of ha,rfl,z6 rfl,r⟩
  refine⟨D,zs,rfl,.inl ⟨zY.of e3,fun l l0=>?_⟩⟩
  have s4:zu H3 (upd H3 l (.tup zs)):=zu.upd l0
  have e4:(upd H3 l (.tup zs)) l=some (.tup zs):=zq
  generalize upd H3 l (.tup zs)=H4 at s4 e4
  have s24:=s2.trans (s3.trans s4)
  have eo:=s24 _ _ e1
  refine⟨_,rfl,o,_,dx,_,rfl,eo,RX.cls,RX.no "bands" (by decide),by show 1<1000;decide,?_⟩
  rw[Nq _ _ _ (by decide +kernel)]
  refine⟨_,rfl,_,rfl,o,_,dx,_,rfl,zq,RX.cls,RX.no "way" (by decide),by show 2<1000;decide,?_⟩
  rw[RN _ _ _ _ _ (by decide +kernel) (by decide +kernel)]
  have lo:l≠o:=vQ e4 eo (by intro z;cases z)
  have nt4:∀ c,H4 o≠some (.tup c):=fun c z=>by rw[eo] at z;cases z
  refine q _ l (fun b y hb ne=>by rw[zG ne,zG ne];exact s24 _ _ (f1 _ _ hb ne)) zq ⟨zs,by rw[zG lo,zG lo];exact e4,((T3.same s4).upd nt4).upd fun c z=>?_⟩
  rw[zq] at z
  cases z
set_option maxHeartbeats 4000000 in
theorem mZ {Cs:Nat→Addr} {d:Nat} (F:qM K "until" "Bands.until" (zH (zX 56) 1) f fd) (G:jW mg) (RX:Zu K (Cs 4)) (C1:qR P w K mg base zQ 3 "rounded" ["number","way"] Vx):zL P w K mg base zQ 4 f fd ["self","bases"] (jd K d 4 Cs):=by
 have nd:(["self","bases","left","together","band"]:List Str).Nodup:=by decide +kernel
 refine F.ok (N:=["self","bases","left","together","band"]) (by walk_at"s") (fun vs H Q E h=>?_) (fun cdv A outer s H vs Q E hr h=>?_)
 ·obtain⟨v,r,b,bs,rfl,_⟩:=h
  rfl
 ·obtain⟨v,r,b,bs,rfl,hk,ro,gd,hb,bl,q⟩:=h
  cases gd with
  | pln p=>cases p <;> cases hk
  | ontop=>cases hk
  | @bands _ n x ps hn ok hw =>
   cases ro with
   | pln k _=>exact absurd k (by show ¬ (4:Nat)<4;decide)
   | @bands _ _ _ o dx u ho bd =>
    obtain⟨ys,hu,T⟩:=bd
    have yl:ys.length=ps.length:=by rw[T.len,cN]
    refine⟨_,zg (zI (i:=2) nd rfl (Or.inl rfl) (zv (vc rfl) rfl G.sum uj (za (pv 1) zd))) (zg (zI (i:=3) nd rfl (Or.inl rfl) ze) (zg (vW PassesOwn.never rfl (rm rfl G.reversed (za (zR (pv 0) rfl) zd)) (z5 (i:=4) nd rfl (Or.inl rfl))
     (zh (zK (zw y6 (pv 2) (zC zT (pv 4) ze) (zD _)) (zg (zI (i:=3) nd rfl (Or.inl rfl) (zt qk (pv 3) (zt ya (zt Zj (pv 2) (zC zT (pv 4) ze)) (zC zT (pv 4) ze)))) (zh (zI (i:=2) nd rfl (Or.inl rfl) (zC zT (pv 4) ze)))) zB)))
     (zh (zm (zk C1 hr (by decide) zx (za (pv 3) (za (zR (pv 0) rfl) zd))))))),?_⟩
    refine⟨_,rfl,b,bs,rfl,hb,_,rfl,o,_,dx,_,_,rfl,ho,RX.cls,RX.no "bands" (by decide),rfl,u,ys,rfl,qw.of hu,pN (fun i σ H'=>∃ x4,σ = [some (.ref o),some (.ref b),some (.int ((ps.drop (ps.length - i)).foldr tD (bs.sum,0)).1),some (.int ((ps.drop (ps.length - i)).foldr tD (bs.sum,0)).2),x4]∧H'=H) ?_ ?_ ?_ ?_⟩
    ·refine⟨none,?_,rfl⟩
     rw[Nat.sub_zero,List.drop_length]
     rfl
    ·rintro i σ H' hi ⟨x4,rfl,rfl⟩
     exact qw.of hu
    ·rintro i y σ H' hi hy ⟨x4,rfl,rfl⟩ E2 k2 _
     rw[yl] at hi hy
     have hq:=Ca (show ps.length - 1 - i<ps.length by omega)
     obtain⟨a,ea,ha⟩:=Vj T hq
     rw[hy] at ea
     cases ea
     have dr:ps.drop (ps.length - (i+1))=ps[ps.length - 1 - i]::ps.drop (ps.length - i):=by
      rw[show ps.length - (i+1)=ps.length - 1 - i by omega,List.drop_eq_getElem_cons (show ps.length - 1 - i<ps.length by omega),show ps.length - 1 - i+1=ps.length - i by omega]
     have pt:=(ok.ok _ (CS hq)).2
     have p0:=pt.1
     have p1:=pt.2
     rw[dr,List.foldr_cons] at k2
     generalize ps[ps.length - 1 - i]=g at ha k2 p0 p1
     generalize (ps.drop (ps.length - i)).foldr tD (bs.sum,0)=z at k2
     unfold tD at k2
     refine⟨_,rfl,_,rfl,a,_,_,_,rfl,rfl,qw.of ha,rfl,_,_,rfl,rfl,_,rfl,qi (fun e=>?_) (fun e=>?_)⟩
     ·have e:=of_decide_eq_true e
      rw[if_pos e] at k2
      exact⟨_,rfl,_,rfl,_,rfl,a,_,_,_,rfl,rfl,qw.of ha,rfl,_,_,rfl,rfl,_,rfl,a,_,_,_,rfl,rfl,qw.of ha,rfl,_,_,rfl,rfl,.inr ⟨by omega,by omega⟩,_,_,rfl,rfl,_,rfl,a,_,_,_,rfl,rfl,qw.of ha,rfl,k2 _ _ ⟨_,rfl,rfl⟩⟩
     ·rw[if_neg fun c=>e (decide_eq_true c)] at k2
      exact k2 _ _ ⟨_,rfl,rfl⟩
    ·rintro σ H' ⟨x4,rfl,rfl⟩
     have e:=pE ok.up bs.sum
     rw[yl,DC,DW,e]
     exact⟨_,rfl,_,rfl,o,_,dx,_,_,rfl,ho,RX.cls,RX.no "way" (by decide),rfl,_,_,rfl,hw,q _ (zu.refl _)⟩
theorem mH {Cs:Nat→Addr} {d:Nat} (F:qM K "row" "Bands.row" (zH (zX 56) 2) f fd) (G:jW mg) (RX:Zu K (Cs 4)):zL P w K mg base zQ 1 f fd ["self"] (jA d 4 Cs):=by
 have nd:(["self","pairs"]:List Str).Nodup:=by decide +kernel
 have nc:(["band"]:List Str).Nodup:=by decide +kernel
 refine F.ok (N:=["self","pairs"]) (by walk_at"s") (fun vs H Q E h=>?_) (fun cdv A outer s H vs Q E hr h=>?_)
 ·obtain⟨v,r,rfl,_⟩:=h
  rfl
 ·obtain⟨v,r,rfl,hk,ro,gd,q⟩:=h
  cases gd with
  | pln p=>cases p <;> cases hk
  | ontop=>cases hk
  | @bands _ n x ps hn ok hw =>
   cases ro with
   | pln k _=>exact absurd k (by show ¬ (4:Nat)<4;decide)
   | @bands _ _ _ o dx u ho bd =>
    obtain⟨ys,hu,T⟩:=bd
    have few:=ok.few
    refine' ⟨_,zg (zI (i:=1) nd rfl (Or.inl rfl) (qY PySem.F.plainAttrs_str PySem.F.slot_str_join PySem.F.type_str_join yB zj (za ?comp zd))) (zh (zm (qY PySem.F.plainAttrs_str PySem.F.slot_str_join PySem.F.type_str_join yB zj (za (zU (za zj (za (zR (pv 0) rfl) (za (pv 1) (za (zR (pv 0) rfl) zd))))) zd)))),?main⟩
    case comp =>
     refine' qv (Nc:=["band"]) (cl:=[]) (src:=[none]) (wi:=YC K (TX K (qd 0) "bands")) (g:=qx 0) (tt:=yb) (te:=jV gu (jV gu (nK gA (qX (jV (Zz K) (qd 0) (tC (.int 0))) jy)) (tC (.str ":"))) (nK gA (qX (jV (Zz K) (qd 0) (tC (.int 1))) jy)))
      (by walk_at"c0") rfl (uu (zR (pv 0) rfl)) ?hb
     case hb =>
      intro fp C' s' H'
      exact⟨z5 (i:=0) nc rfl (Or.inl rfl),qP,zt zM (zt zM (z8 qm rfl G.str qK (za (zC zT (pv 0) ze) zd)) zj) (z8 qm rfl G.str qK (za (zC zT (pv 0) ze) zd))⟩
    refine⟨rfl,_,rfl,o,_,dx,_,_,rfl,ho,RX.cls,RX.no "bands" (by decide),rfl,u,rfl,⟨_,qw.of hu⟩,fun D hD=>jL (ju (qw.of hu)) (jE T) hD (by rw[sizeLine_eq];omega) (fun p=>.str (ue p)) (fun p hp v H1 R s1 e1 r=>?_) (fun H1 s1 e1=>?_)⟩
    ·obtain⟨a,rfl,ha⟩:=e1
     have hb:=ok.ok p hp
     have l1:=Qo hb.1
     have l2:=vm hb.2
     have l3:((toString p.1:Str) ++ ":").length=(toString p.1:Str).length+1:=Str.length_append ..
     exact⟨_,rfl,a,_,_,_,rfl,rfl,qw.of ha,rfl,_,rfl,ZK hb.1,_,_,rfl,rfl,by rw[sizeLine_eq];show (toString p.1:Str).length+1≤_;omega,_,rfl,a,_,_,_,rfl,rfl,qw.of ha,rfl,_,rfl,wH hb.2,_,_,rfl,rfl,by rw[l3,sizeLine_eq];omega,r H1 (zu.refl _)⟩
    ·have jb:=uA ok
     have jr:=JY hn ok hw
     have ho1:=s1 _ _ ho
     refine⟨_,ps.map ue,D,rfl,rfl,zY.of (by rw[e1,CH];rfl),jb.1,rfl,_,rfl,o,_,dx,_,_,rfl,ho1,RX.cls,RX.no "name" (by decide),rfl,_,rfl,_,rfl,o,_,dx,_,_,rfl,ho1,RX.cls,RX.no "way" (by decide),rfl,z6 rfl,fun l H2 s2 n2 e2=>⟨_,["bands",n,Zt ps,x],l,rfl,rfl,zY.of e2,jr,q H2 (s1.trans s2)⟩⟩
theorem wo {Cs:Nat→Addr} {k d j:Nat} (F:qM K "of_month" "Rule.of_month" (zH (zX 47) 5) f fd) (M:q8 P w K mg base zQ j (Cs k) "until" ["self","bases"] (jd K d k Cs)):zL P w K mg base zQ (j+1) f fd ["self","bases"] (XU K d k Cs):=by
 refine F.ok (N:=["self","bases"]) (by walk_at"s") (fun vs H Q E h=>?_) (fun cdv A outer s H vs Q E hr h=>?_)
 ·obtain⟨v,r,b,bs,rfl,_⟩:=h
  rfl
 ·obtain⟨v,r,b,bs,rfl,hk,ro,gd,hb,bl,q⟩:=h
  obtain⟨o,dx,fs,rfl,ho,_,no⟩:=ro.obj gd
  have no:=no "until" (by decide)
  rw[hk] at ho
  refine⟨_,zh (zm (zt Zj (kC M hr (cP _) zx (pv 0) (za (pv 1) zd)) (kC M hr (cP _) zx (pv 0) (za (qp yn (pv 1) qL (qC (WQ QG ze))) zd)))),?_⟩
  refine⟨_,rfl,o,dx,_,rfl,ho,no,_,rfl,_,r,b,bs,rfl,hk,ro,gd,hb,bl,fun H1 s1=>?_⟩
  refine⟨_,rfl,o,dx,_,rfl,s1 _ _ ho,no,_,rfl,_,rfl,_,rfl,b,_,rfl,s1.seq hb,fun p p0=>?_⟩
  have s2:zu H1 (upd H1 p (.lst (yX (bs.map V.int) none (some (-1))))):=zu.upd p0
  refine⟨_,r,p,dl bs,rfl,hk,(ro.same s1).same s2,gd,zY.of (by rw[← pZ];exact zq),cZ (Oh bs) bl,fun H2 s3=>⟨_,_,rfl,rfl,q H2 (s1.trans (s2.trans s3))⟩⟩
end
end K10
set_option maxHeartbeats 1000000
namespace L2
open PySem PySem.Spec PyProof.Rows PySem.W
section
variable {X:Cx} {A:Around} {E:Value→Shared→Prop} {pins:List (Addr × Obj)} {σ:St} {H:Hp} {s:Shared} {a kS:Addr} {e e1:Nat} {keys:Array Value} {vs:List Value} {m:Nat→Int} {nm:Nat→Str} {P:PySem.Fin→Shared→Prop}
end
section
variable {X:Cx} {p:Str} {scope:Scope} {c P:Addr} {params:Arguments} {body a:Expr} {pos lpos kpos p1:Pos} {ta te:TE}
end
end L2
namespace L2
open PySem PySem.Spec PyProof.Rows
end L2
namespace Pg
open PySem L2
noncomputable def cH (a b:Str):Bool:=decide (¬ b.cps.toList<a.cps.toList)
noncomputable def bY (ks:List Str):List Str:=ks.mergeSort cH
theorem G1 (xs ys:List Int):Qk (xs.map V.int) (ys.map V.int)=decide (xs=ys):=by
 by_cases e:xs=ys
 ·subst e
  rw[MX,decide_eq_true rfl]
 ·rw[decide_eq_false e]
  cases q:Qk (xs.map V.int) (ys.map V.int) with
  | false=>rfl
  | true =>
   refine absurd ?_ e
   unfold Qk at q
   rw[cQ,cN,cN] at q
   have hl:xs.length=ys.length:=eq_of_beq q.1
   apply List.ext_getElem hl
   intro i h1 h2
   have:=Cn.mp q.2 i (Ds.mpr h1)
   rw[CP,CP,cW,cW,Ca h1,Ca h2] at this
   exact eq_of_beq this
theorem ly {xs:List V} {k:Nat}:yX xs (some (k:Int)) none=xs.drop k:=by
 unfold yX
 rw[HT.kg,HT.u7,← dX,dG]
 by_cases h:k≤xs.length
 ·rw[dA h]
 ·rw[Dj (by omega),List.drop_length,List.drop_eq_nil_of_le (by omega)]
section
variable {α:Type} {H:Hp} {ys zs:List V} {xs us:List α} {P:Hp→V→α→Prop}
end
end Pg
namespace L2
open PySem PySem.Spec PyProof.Rows
noncomputable def FT (H H':Hp):Prop:=∀ b c,H b=some (.tup c)→H' b=some (.tup c)
noncomputable def Up {α:Type} (P:Hp→V→α→Prop):Prop:=∀ H H' v x,FT H H'→P H v x→P H' v x
section
variable {α β:Type} {J:It} {D:Addr} {tt:TT} {te:TE} {fin:List V→Hp→Prop} {σ:St} {H H':Hp} {ys zs:List V} {xs:List α} {P:Hp→V→α→Prop} {K:BFr}
end
end L2
namespace Pg
open PySem L2
inductive En where
 | wage (p:Str) (m r a:Int)
 | extra (p:Str) (m a:Int)
noncomputable def cE:En→List V
 | .wage p m r a=>[.str "wage",.str p,.int m,.int r,.int a]
 | .extra p m a=>[.str "extra",.str p,.int m,.int a]
structure Pt where
 d:Int
 k:Str
 t:Option En
noncomputable def BQ (l:List Str):List Str:=l.foldr (fun x r=>if x∈r then r else x::r) []
noncomputable def RY (z:Str) (ps:List Pt):List (Int × Option En):=(ps.filter fun p=>decide (p.k=z)).map fun p=>(p.d,p.t)
noncomputable def cI (l:List (Int × Option En)) (D:Int):Option En:=(l.reverse.find? fun q=>decide (q.1≤D)).bind (·.2)
noncomputable def cJ (ps:List Pt):List Str:=bY (BQ (ps.map (·.k)))
noncomputable def kn (ps:List Pt) (D:Int):List (Str × En):=(cJ ps).filterMap fun z=>(cI (RY z ps) D).map fun e=>(z,e)
noncomputable def own (J t:Addr) (ms:List (Str × Addr)):List Addr:=J::t::ms.map (·.2)
noncomputable def dE (e:En):Dt:=.t ((cE e).map Dt.v)
noncomputable def cA (q:Str × En):Dt:=.t [.v (.str q.1),dE q.2]
inductive Fd where
 | k (ks:List (Str × En))
 | n (ss:List Str)
noncomputable def Fd.dt:Fd→List Dt
 | .k ks=>ks.map cA
 | .n ss=>ss.map fun z=>.v (.str z)
section
variable {C:Addr} {H H':Hp} {J dx t:Addr} {ms:List (Str × Addr)} {ld:Int} {ps:List Pt}
end
theorem kI {H H':Hp} {l:Addr} (s:zu H H') (h:H' l=none):H l=none:=by
 cases e:H l with
 | none=>rfl
 | some o=>rw[s _ _ e] at h;cases h
noncomputable def R9 (K:BFr):List V→Hp→VK→Prop:=fun xs H Q=>∃ p ys,xs=[.ref p]∧(zY K H p ys∨qw K H p ys)∧Q (.int ys.length) H
structure oW (ps:List (Int × Int)) (n:Nat):Prop where
 few:ps.length≤n+1
 hd:∃ p r,ps=((0:Int),p)::r
 ok:∀ q∈ps,XC q.1∧Vz q.2
 up:Up ps
theorem oW.done {ps:List (Int × Int)} {n:Nat} (h:oW ps n) (hn:n≤11):V0 ps:=⟨by have:=h.few;omega,h.hd,h.ok,h.up⟩
theorem oW.one {p:Int} (h:Vz p):oW [((0:Int),p)] 0:=⟨cP _,⟨p,[],rfl⟩,fun q hq=>by
 rw[Co.mp hq]
 exact⟨⟨Dm _,by show (0:Int)≤1000000000000;decide⟩,h⟩,eK _ _⟩
theorem oW.mono {ps:List (Int × Int)} {n:Nat} (h:oW ps n):oW ps (n+1):=⟨Nat.le_succ_of_le h.few,h.hd,h.ok,h.up⟩
theorem oW.last {ps:List (Int × Int)} {n:Nat} (h:oW ps n):∃ qs q,ps=qs++[q]:=by
 obtain⟨p,r,e⟩:=h.hd
 refine⟨ps.dropLast,ps.getLast (by rw[e];exact d9 _ _),(DZ _).symm⟩
theorem Mn {qs:List (Int × Int)} {q:Int × Int} (h:Up (qs++[q])):∀ x∈qs++[q],x.1≤q.1:=fun x hx=>by
 rcases CM.mp hx with hx | hx
 ·exact Int.le_of_lt ((List.pairwise_append.mp h).2.2 x hx q (Co.mpr rfl))
 ·rw[Co.mp hx]
  exact Dm _
theorem oW.snoc {qs:List (Int × Int)} {q:Int × Int} {n:Nat} {s p:Int} (h:oW (qs++[q]) n) (s1:1≤s) (b:q.1+s≤1000000000000) (hp:Vz p):oW (qs++[q]++[(q.1+s,p)]) (n+1):=by
 refine⟨?_,?_,fun x hx=>?_,?_⟩
 ·have:=h.few
  rw[Cb,CU]
  omega
 ·obtain⟨p0,r,e⟩:=h.hd
  exact⟨p0,r++[(q.1+s,p)],by rw[e];rfl⟩
 ·rcases CM.mp hx with hx | hx
  ·exact h.ok x hx
  ·rw[Co.mp hx]
   have:=(h.ok q (CC _ (Co.mpr rfl))).1.1
   exact⟨⟨by show 0≤q.1+s;omega,b⟩,hp⟩
 ·refine List.pairwise_append.mpr ⟨h.up,eK _ _,fun x hx y hy=>?_⟩
  rw[Co.mp hy]
  have:=Mn h.up x hx
  show x.1<q.1+s
  omega
theorem pK {H:Hp} {ys:List V} {qs:List (Int × Int)} {q:Int × Int} (T:qq H ys ((qs++[q]).map cB)):∃ a,ZI ys (-1)=some (.ref a)∧H a=some (.tup (cB q)):=by
 have yl:ys.length=qs.length+1:=by rw[T.len,cN,Cb,CU]
 obtain⟨a,e,h⟩:=Vj T (i:=qs.length) (q:=q) (by rw[dP (cP _),DC];rfl)
 have ne:ys≠[]:=fun z=>by rw[z] at yl;cases yl
 refine⟨a,?_,h⟩
 have e2:=DZ ne
 rw[← e2,Ws,List.getLast_eq_getElem]
 rw[Ca (by omega)] at e
 have e3:=Option.some.inj e
 rw[← e3]
 congr 2
 omega
theorem MC {a b c d e:V} {i:Int} (h0:0≤i) (h1:i<5):∃ v,ZI [a,b,c,d,e] i=some v∧(i=0∧v=a∨i=1∧v=b∨i=2∧v=c∨i=3∧v=d∨i=4∧v=e):=by
 obtain⟨n,rfl⟩:=d4 h0
 match n,h1 with
 | 0,_=>exact⟨a,qB rfl,.inl ⟨rfl,rfl⟩⟩
 | 1,_=>exact⟨b,qB rfl,.inr (.inl ⟨rfl,rfl⟩)⟩
 | 2,_=>exact⟨c,qB rfl,.inr (.inr (.inl ⟨rfl,rfl⟩))⟩
 | 3,_=>exact⟨d,qB rfl,.inr (.inr (.inr (.inl ⟨rfl,rfl⟩)))⟩
 | 4,_=>exact⟨e,qB rfl,.inr (.inr (.inr (.inr ⟨rfl,rfl⟩)))⟩
 | k+5,h=>exact absurd h (by omega)
theorem Bv:("bands":Str)≠"flat":=by decide +kernel
theorem Bn:("bands":Str)≠"share":=by decide +kernel
theorem bR:("bands":Str)≠"capped":=by decide +kernel
theorem BW:("bands":Str)≠"least":=by decide +kernel
theorem BZ:("ontop":Str)≠"flat":=by decide +kernel
theorem Bp:("ontop":Str)≠"share":=by decide +kernel
theorem BL:("ontop":Str)≠"capped":=by decide +kernel
theorem bQ:("ontop":Str)≠"least":=by decide +kernel
theorem TC:("ontop":Str)≠"bands":=by decide +kernel
theorem Uu (n b w:Str):("bands ":Str)++n ++ " " ++ b ++ " " ++ w=Txt.join " " ["bands",n,b,w]:=by
 rw[show ([("bands":Str),n,b,w]:List Str)=[("bands":Str),n,b]++[w] from rfl,vf " " w (d9 _ _),show ([("bands":Str),n,b]:List Str)=[("bands":Str),n]++[b] from rfl,vf " " b (d9 _ _),show ([("bands":Str),n]:List Str)=[("bands":Str)]++[n] from rfl,vf " " n (d9 _ _),U8]
 rw[show (("bands ":Str)) = "bands" ++ " " by decide +kernel]
theorem Qm (n p w r:Str):Txt.join " " ["ontop",n,p,w] ++ " of " ++ r=Txt.join " " ["ontop",n,p,w,"of",r]:=by
 rw[show ([("ontop":Str),n,p,w,"of",r]:List Str)=[("ontop":Str),n,p,w,"of"]++[r] from rfl,vf " " r (d9 _ _),show ([("ontop":Str),n,p,w,"of"]:List Str)=[("ontop":Str),n,p,w]++[("of":Str)] from rfl,vf " " "of" (d9 _ _)]
 rw[Str.append_assoc,Str.append_assoc,Str.append_assoc,show (" of ":Str) = " " ++ ("of" ++ " ") by decide +kernel,Str.append_assoc,Str.append_assoc,Str.append_assoc]
theorem uZ {d:Nat} {r:Rk} (h:Gd d r):(ZR r).length≤1016+200*d:=by
 induction h with
 | @pln d r h =>
  rw[QN h]
  have:=(yx (sep:=" ") (m:=20) (k:=5) (Ua h) (by cases h <;> exact cY rfl) (by decide +kernel) rfl).2
  unfold XR
  omega
 | @bands d n w ps h1 h2 h3 =>
  have:=(yx (sep:=" ") (zs:=["bands",n,Zt ps,w]) (m:=252) (k:=4) (fun z hz=>?_) (cP _) (by decide +kernel) rfl).2
  ·show (Txt.join " " ["bands",n,Zt ps,w]).length≤_
   omega
  ·have k1:=h1.ok.hi
   have k2:=(uA h2).2
   have k3:=wj h3
   simp only[cU,cX,or_false] at hz
   rcases hz with rfl | rfl | rfl | rfl
   ·decide +kernel
   ·omega
   ·omega
   ·omega
 | @ontop d n w p r h1 h2 h3 _ ih =>
  show (Txt.join " " ["ontop",n,toString p,w,"of",ZR r]).length≤_
  rw[← Qm,Str.length_append,Str.length_append]
  have k:=(yx (sep:=" ") (zs:=["ontop",n,toString p,w]) (m:=8) (k:=4) (fun z hz=>?_) (cP _) (by decide +kernel) rfl).2
  ·have:(" of ":Str).length=4:=by decide +kernel
   omega
  ·have k1:=h1.ok.hi
   have k2:=vm h2
   have k3:=wj h3
   simp only[cU,cX,or_false] at hz
   rcases hz with rfl | rfl | rfl | rfl
   ·decide +kernel
   ·omega
   ·omega
   ·omega
end Pg
namespace L2
open PySem PySem.Spec PyProof.Rows
section
variable {J:It} {D:Addr} {te:TE} {fin:List V→Hp→Prop} {σ:St} {H:Hp} {ys:List V} {α:Type} {xs:List α} {P:Hp→V→α→Prop}
end
end L2
namespace Pg
open PySem L2
theorem bz {x:V} {c:Int} (mv:x∈[V.int 0,.int 1,.int 2,.int 3,.int 5,.int 12,.int 12,.int (c/56%13)]) (f0:0≤c/56%13) (f1:c/56%13<13):∃ n:Nat,x = .int (n:Nat)∧n≤50:=by
 simp only[cU,cX,or_false] at mv
 rcases mv with rfl | rfl | rfl | rfl | rfl | rfl | rfl | rfl
 ·exact⟨0,rfl,by decide⟩
 ·exact⟨1,rfl,by decide⟩
 ·exact⟨2,rfl,by decide⟩
 ·exact⟨3,rfl,by decide⟩
 ·exact⟨5,rfl,by decide⟩
 ·exact⟨12,rfl,by decide⟩
 ·exact⟨12,rfl,by decide⟩
 ·obtain⟨k,hk⟩:=d4 f0
  exact⟨k,by rw[hk],by omega⟩
theorem TU {p:Str→Prop} (h1:p "name") (h2:p "bands") (h3:p "way") (h4:p "parts") (h5:p "within"):∀ x∈(["name","bands","way","parts","within"]:List Str),p x:=by
 intro x hx
 simp only[cU,cX,or_false] at hx
 rcases hx with rfl | rfl | rfl | rfl | rfl <;> assumption
end Pg
namespace L2
open PySem
section
variable {P:Program} {w:World} {K:BFr} {mg:Str→Option Value} {base:Heap} {CX:ki} {j k:Nat} {C:Addr} {x m:Str} {ps:List Str} {sp sp':Sp}
theorem q8.mono (M:q8 P w K mg base CX j C m ps sp) (h:j≤k):q8 P w K mg base CX k C m ps sp:=by
 obtain⟨c,f,fd,a,b,F⟩:=M
 exact⟨c,f,fd,a,b,F.mono h⟩
theorem q8.imp (M:q8 P w K mg base CX k C m ps sp) (h:∀ vs H Q E,sp' vs H Q E→sp vs H Q E):q8 P w K mg base CX k C m ps sp':=by
 obtain⟨c,f,fd,a,b,F⟩:=M
 exact⟨c,f,fd,a,b,F.imp h⟩
theorem uQ.imp (M:uQ P w K mg base CX k x m ps sp) (h:∀ vs H Q E,sp' vs H Q E→sp vs H Q E):uQ P w K mg base CX k x m ps sp':=by
 obtain⟨C,f,fd,a,b,c,F⟩:=M
 exact⟨C,f,fd,a,b,c,F.imp h⟩
end
end L2
namespace Pg
open PySem L2
noncomputable def Ms:Rk→Int
 | .ontop _ _ _ r=>Ms r+1
 | _=>0
theorem Nw {d:Nat} {r:Rk} (h:Gd d r):Ms r≤d:=by
 induction h with
 | pln h=>cases h <;> exact Di _
 | bands=>exact Di _
 | ontop _ _ _ _ ih =>
  show Ms _+1≤_
  omega
theorem P1 {r:Rk} (h:r.kd<5):Ms r=0:=by
 cases r with
 | ontop=>exact absurd h (DX (cY rfl))
 | _=>rfl
structure NM (K:BFr) (Cs:Nat→Addr) (cR:Addr):Prop where
 ha:∀ i,i<6→PySem.W.findIn K (.ref (Cs i)) "__class__" = some (some (.builtin "object.__class__"))
 hn:PySem.W.specialIn K (.builtin "object.__class__") "__get__" = some (some (.builtin "getset_descriptor.__get__"))
 htk:PySem.W.takesIn K (.builtin "object.__class__")=some true
 hm:∀ i,i<6→PySem.W.mroIn K (Cs i) (.type "object")=some true
 kt:∀ i,i<6→PySem.W.kitOne K (.ref (Cs i)) (.ref cR)=some true
 cls:∀ i,i<6→ZQ K (Cs i)
 ne:Cs 1≠Cs 5
theorem Lm (r:Rk):r.kd<6:=by cases r <;> exact cY rfl
theorem Gd.pl {d:Nat} {r:Rk} (h:Gd d r) (k:r.kd<4):V3 r:=by
 cases h with
 | pln p=>exact p
 | bands=>exact absurd k (by show ¬ (4:Nat)<4;decide)
 | ontop=>exact absurd k (by show ¬ (5:Nat)<4;decide)
theorem wG.pl {Cs:Nat→Addr} {H:Hp} {r:Rk} {v:V} (h:wG Cs H r v) (k:r.kd<4):xq Cs H v r:=by
 cases h with
 | pln _ p=>exact p
 | bands=>exact absurd k (by show ¬ (4:Nat)<4;decide)
 | ontop=>exact absurd k (by show ¬ (5:Nat)<4;decide)
theorem wG.frame {Cs:Nat→Addr} {H H':Hp} {r:Rk} {v:V} {o C dx:Addr} {d:Nat} (h:wG Cs H r v) (g:Gd d r) (ho:H o=some (.ins C dx [])) (fr:∀ b y,H b=some y→b≠o→H' b=some y):wG Cs H' r v:=by
 induction h generalizing d with
 | pln k h =>
  obtain⟨t,dy,rfl,h⟩:=h
  refine .pln k ⟨t,dy,rfl,fr _ _ h fun e=>?_⟩
  subst e
  rw[h] at ho
  cases g.pl k <;> exact nomatch ho
 | bands h b =>
  obtain⟨ys,hu,T⟩:=b
  have nt:∀ b c,H b=some (.tup c)→H' b=some (.tup c):=fun b c h=>fr _ _ h (vQ h ho (by intro z;cases z))
  exact .bands (fr _ _ h fun e=>by subst e;rw[h] at ho;cases ho) ⟨ys,nt _ _ hu,T.mono nt⟩
 | ontop h _ ih =>
  cases g with
  | pln p=>cases p
  | ontop _ _ _ g=>exact .ontop (fr _ _ h fun e=>by subst e;rw[h] at ho;cases ho) (ih g)
theorem wG.frame3 {Cs:Nat→Addr} {H H':Hp} {r:Rk} {v:V} {o dx:Addr} {d:Nat} {n w:Str} {p:Int} (ne:Cs 1≠Cs 5) (h:wG Cs H r v) (g:Gd d r) (ho:H o=some (.ins (Cs 5) dx [("name",.str n),("parts",.int p),("way",.str w)])) (fr:∀ b y,H b=some y→b≠o→H' b=some y):wG Cs H' r v:=by
 induction h generalizing d with
 | pln k h =>
  obtain⟨t,dy,rfl,h⟩:=h
  refine .pln k ⟨t,dy,rfl,fr _ _ h fun e=>?_⟩
  subst e
  rw[h] at ho
  have ho:=Option.some.inj ho
  cases g.pl k with
  | flat=>exact nomatch (HO.ins.inj ho).2.2
  | share=>exact ne (HO.ins.inj ho).1
  | capped=>exact nomatch (HO.ins.inj ho).2.2
  | least=>exact nomatch (HO.ins.inj ho).2.2
 | bands h b =>
  obtain⟨ys,hu,T⟩:=b
  have nt:∀ b c,H b=some (.tup c)→H' b=some (.tup c):=fun b c h=>fr _ _ h (vQ h ho (by intro z;cases z))
  refine .bands (fr _ _ h fun e=>?_) ⟨ys,nt _ _ hu,T.mono nt⟩
  subst e
  rw[h] at ho
  have k:=(HO.ins.inj (Option.some.inj ho)).2.2
  have k2:=congrArg (fun l=>(l.map Prod.fst)[1]?) k
  exact absurd (show ("bands":Str) = "parts" from Option.some.inj k2) (by decide +kernel)
 | ontop h _ ih =>
  cases g with
  | pln p=>cases p
  | ontop _ _ _ g =>
   refine .ontop (fr _ _ h fun e=>?_) (ih g)
   subst e
   rw[h] at ho
   exact nomatch (HO.ins.inj (Option.some.inj ho)).2.2
noncomputable def yD (d k:Nat) (Cs:Nat→Addr):Sp:=fun vs H Q _=>∃ v r,vs=[v]∧r.kd=k∧wG Cs H r v∧Gd d r∧Q (.int (Ms r)) H
noncomputable def ye (d k:Nat) (Cs:Nat→Addr):Sp:=fun vs H Q _=>∃ v r,vs=[v]∧r.kd=k∧wG Cs H r v∧Gd d r∧∀ o H',zu H H'→wG Cs H' r o→Q o H'
noncomputable def QO (d:Nat) (Cs:Nat→Addr):Sp:=fun vs H Q _=>∃ o dx n p x u r,vs=[.ref o,.str n,.int p,.str x,u]∧yu n∧Vz p∧JU x∧wG Cs H r u∧Gd d r∧H o=some (.ins (Cs 5) dx []) ∧
 ∀ H' u',(∀ b y,H b=some y→b≠o→H' b=some y)→H' o=some (.ins (Cs 5) dx [("name",.str n),("parts",.int p),("way",.str x),("within",u')])→wG Cs H' r u'→Q .non H'
noncomputable def UM:Sp:=fun vs H Q _=>∃ c z,vs=[.int c,.str z]∧yu z∧∀ v r H',Gd 3 r→r.name=z→zu H H'→Vu H' r v→Q v H'
theorem Lr {d:Nat} {r:Rk} (h:Gd d r) (k:r.kd=5):∃ d' n p x r',d=d'+1∧r = .ontop n p x r'∧yu n∧Vz p∧JU x∧Gd d' r':=by
 cases h with
 | pln p=>cases p <;> cases k
 | bands=>cases k
 | ontop h1 h2 h3 h4=>exact⟨_,_,_,_,_,rfl,rfl,h1,h2,h3,h4⟩
theorem Vp {K:BFr} {d k:Nat} {Cs:Nat→Addr} (hk:k<4):∀ vs H Q E,jd K d k Cs vs H Q E→uw K k Cs vs H Q E:=by
 rintro vs H Q E ⟨v,r,b,bs,rfl,e,ro,g,hb,bl,q⟩
 have pl:=g.pl (by omega)
 exact⟨v,r,b,bs,rfl,e,ro.pl (by omega),pl,hb,bl,by rw[Qy pl] at q;exact q⟩
theorem pG {K:BFr} {Cs:Nat→Addr} (RK:vC K Cs):∀ vs H Q E,uO Cs vs H Q E→wq K vs H Q E:=by
 rintro vs H Q E ⟨i,o,dx,z,rfl,hi,ho,hz,q⟩
 exact⟨Cs i,o,dx,z,rfl,RK.cls i hi,RK.no i hi "name" (by decide),ho,hz,q⟩
theorem VR {d k:Nat} {Cs:Nat→Addr} (hk:k<4):∀ vs H Q E,jA d k Cs vs H Q E→j3 k Cs vs H Q E:=by
 rintro vs H Q E ⟨v,r,rfl,e,ro,g,q⟩
 have pl:=g.pl (by omega)
 exact⟨v,r,rfl,e,ro.pl (by omega),pl,by rw[QN pl] at q;exact q⟩
theorem Yc {p:Nat→Prop} (h0:p 0) (h1:p 1) (h2:p 2) (h3:p 3) (h4:p 4) (h5:p 5):∀ i,i<6→p i
 | 0,_=>h0
 | 1,_=>h1
 | 2,_=>h2
 | 3,_=>h3
 | 4,_=>h4
 | 5,_=>h5
theorem zu.made {H:Hp} {o dx C:Addr} (o0:H o=none) (d0:H dx=none):zu H (upd (upd H dx (.own o)) o (.ins C dx [])):=fun b x hb=>by
 rw[zG (zP hb o0),zG (zP hb d0)]
 exact hb
end Pg
set_option maxHeartbeats 4000000
namespace K10
open PySem PySem.NumText L2 Pg
seal PE PA PT PW PS y8 PG vz PI j8 PO PK
section
variable {P:Program} {w:World} {K:BFr} {mg:Str→Option Value} {base:Heap} {f:Addr} {fd:FuncData} {d:Nat→Addr} {cR:Addr}
theorem kL {Cs:Nat→Addr} {d k:Nat} (hk:k<5) (F:qM K "depth" "Rule.depth" (zH (zX 47) 4) f fd):zL P w K mg base zQ 1 f fd ["self"] (yD d k Cs):=by
 refine F.ok (N:=["self"]) (by walk_at"s") (fun vs H Q E h=>?_) (fun cdv A outer s H vs Q E hr h=>?_)
 ·obtain⟨v,r,rfl,_⟩:=h
  rfl
 ·obtain⟨v,r,rfl,e,ro,gd,q⟩:=h
  refine⟨_,zh (zm ze),?_⟩
  rw[P1 (by omega)] at q
  exact q
theorem Z9 {Cs:Nat→Addr} {d j:Nat} (F:qM K "depth" "OnTop.depth" (zH (zX 59) 4) f fd) (RX:Zu K (Cs 5)) (MD:∀ k,k<6→q8 P w K mg base zQ j (Cs k) "depth" ["self"] (yD d k Cs)):zL P w K mg base zQ (j+1) f fd ["self"] (yD (d+1) 5 Cs):=by
 refine F.ok (N:=["self"]) (by walk_at"s") (fun vs H Q E h=>?_) (fun cdv A outer s H vs Q E hr h=>?_)
 ·obtain⟨v,r,rfl,_⟩:=h
  rfl
 ·obtain⟨v,r,rfl,e,ro,gd,q⟩:=h
  obtain⟨d',n,p,x,r',ed,rfl,hn,hp,hw,g'⟩:=Lr gd e
  cases ed
  cases ro with
  | pln kk _=>exact absurd kk (by show ¬ (5:Nat)<4;decide)
  | @ontop _ _ _ _ o dx u ho ri =>
   obtain⟨oi,dxi,fsi,rfl,hoi,_,noi⟩:=ri.obj g'
   refine⟨_,zh (zm (zt qk (vM (p:=fun k=>k<6) fun k hk=>vo (MD k hk) hr (cP _) zx (zR (pv 0) rfl)) ze)),?_⟩
   exact⟨r'.kd,Lm r',_,rfl,o,_,dx,_,_,rfl,ho,RX.cls,RX.no "within" (by decide),rfl,oi,dxi,fsi,rfl,hoi,noi "depth" (by decide),_,r',rfl,rfl,ri,g',_,_,rfl,rfl,q⟩
theorem Om {Cs:Nat→Addr} {j:Nat}:zL P w K mg base zQ j f fd ["self"] (yD 0 5 Cs):=⟨fun vs H Q E ⟨v,r,h,e,ro,g,_⟩=>by rw[h];rfl,fun _ _ _ _ _ _ _ _ _ _ _ _ _ ⟨v,r,h,e,ro,g,_⟩=>by obtain⟨_,_,_,_,_,z,_⟩:=Lr g e;cases z⟩
theorem pP {Cs:Nat→Addr} {j:Nat}:zL P w K mg base zQ j f fd ["self","bases"] (jd K 0 5 Cs):=⟨fun vs H Q E ⟨v,r,b,bs,h,_⟩=>by rw[h];rfl,fun _ _ _ _ _ _ _ _ _ _ _ _ _ ⟨v,r,b,bs,h,e,ro,g,_⟩=>by obtain⟨_,_,_,_,_,z,_⟩:=Lr g e;cases z⟩
theorem Os {Cs:Nat→Addr} {j:Nat}:zL P w K mg base zQ j f fd ["self"] (jA 0 5 Cs):=⟨fun vs H Q E ⟨v,r,h,_⟩=>by rw[h];rfl,fun _ _ _ _ _ _ _ _ _ _ _ _ _ ⟨v,r,h,e,ro,g,_⟩=>by obtain⟨_,_,_,_,_,z,_⟩:=Lr g e;cases z⟩
theorem Gi {Cs:Nat→Addr} {j:Nat}:zL P w K mg base zQ j f fd ["self"] (ye 0 5 Cs):=⟨fun vs H Q E ⟨v,r,h,_⟩=>by rw[h];rfl,fun _ _ _ _ _ _ _ _ _ _ _ _ _ ⟨v,r,h,e,ro,g,_⟩=>by obtain⟨_,_,_,_,_,z,_⟩:=Lr g e;cases z⟩
theorem Vt {Cs:Nat→Addr} {d j:Nat} (F:qM K "until" "OnTop.until" (zH (zX 59) 1) f fd) (RX:Zu K (Cs 5)) (hj:4≤j) (MU:∀ k,k<6→q8 P w K mg base zQ j (Cs k) "until" ["self","bases"] (jd K d k Cs)) (C1:qR P w K mg base zQ 4 "share_of" ["amount","parts","way"] ub):zL P w K mg base zQ (j+1) f fd ["self","bases"] (jd K (d+1) 5 Cs):=by
 refine F.ok (N:=["self","bases"]) (by walk_at"s") (fun vs H Q E h=>?_) (fun cdv A outer s H vs Q E hr h=>?_)
 ·obtain⟨v,r,b,bs,rfl,_⟩:=h
  rfl
 ·obtain⟨v,r,b,bs,rfl,e,ro,gd,hb,bl,q⟩:=h
  obtain⟨d',n,p,x,r',ed,rfl,hn,hp,hw,g'⟩:=Lr gd e
  cases ed
  cases ro with
  | pln kk _=>exact absurd kk (by show ¬ (5:Nat)<4;decide)
  | @ontop _ _ _ _ o dx u ho ri =>
   obtain⟨oi,dxi,fsi,rfl,hoi,_,noi⟩:=ri.obj g'
   refine⟨_,zh (zm (zk C1 hr hj zx (za (vM (p:=fun k=>k<6) fun k hk=>kC (MU k hk) hr (cP _) zx (zR (pv 0) rfl) (za (pv 1) zd)) (za (zR (pv 0) rfl) (za (zR (pv 0) rfl) zd))))),?_⟩
   refine⟨r'.kd,Lm r',_,rfl,o,_,dx,_,_,rfl,ho,RX.cls,RX.no "within" (by decide),rfl,oi,dxi,fsi,rfl,hoi,noi "until" (by decide),_,rfl,_,r',b,bs,rfl,rfl,ri,g',hb,bl,fun H1 s1=>?_⟩
   have ho1:=s1 _ _ ho
   exact⟨_,rfl,o,_,dx,_,_,rfl,ho1,RX.cls,RX.no "parts" (by decide),rfl,_,rfl,o,_,dx,_,_,rfl,ho1,RX.cls,RX.no "way" (by decide),rfl,_,_,_,rfl,hp.1,hp.2,hw,q H1 s1⟩
theorem La {Cs:Nat→Addr} {d:Nat} (F:qM K "twin" "Flat.twin" (zH (zX 48) 3) f fd) (RK:vC K Cs) (N0:vn P w K mg base zQ 5 "Flat" (Cs 0) ["self","name","amount"] (yH 0 Cs)):zL P w K mg base zQ 7 f fd ["self"] (ye d 0 Cs):=by
 refine F.ok (N:=["self"]) (by walk_at"s") (fun vs H Q E h=>?_) (fun cdv A outer s H vs Q E hr h=>?_)
 ·obtain⟨v,r,rfl,_⟩:=h
  rfl
 ·obtain⟨v,r,rfl,e,ro,gd,q⟩:=h
  have pl:=gd.pl (by omega)
  have pl0:=pl
  obtain⟨o,dx,rfl,ho⟩:=ro.pl (by omega)
  cases pl with
  | @flat n a hn ha =>
   refine⟨_,zh (zm (yd (j:=5) N0 hr (by decide) zx (za (zR (pv 0) rfl) (za (zR (pv 0) rfl) zd)))),?_⟩
   exact⟨_,rfl,o,_,dx,_,_,rfl,ho,RK.cls 0 (by decide),RK.no 0 (by decide) "name" (by decide),rfl,_,rfl,o,_,dx,_,_,rfl,ho,RK.cls 0 (by decide),RK.no 0 (by decide) "amount" (by decide),rfl,fun o dx o0 d0 ne=>⟨o,dx,.flat n a,rfl,rfl,pl0,zq,fun H' fr e=>⟨rfl,q _ H' (qD o0 d0 fr) (.pln (cY rfl) ⟨o,dx,rfl,e⟩)⟩⟩⟩
  | share=>cases e
  | capped=>cases e
  | least=>cases e
theorem pj {Cs:Nat→Addr} {d:Nat} (F:qM K "twin" "Share.twin" (zH (zX 49) 3) f fd) (RK:vC K Cs) (N0:vn P w K mg base zQ 5 "Share" (Cs 1) ["self","name","parts","way"] (yH 1 Cs)):zL P w K mg base zQ 7 f fd ["self"] (ye d 1 Cs):=by
 refine F.ok (N:=["self"]) (by walk_at"s") (fun vs H Q E h=>?_) (fun cdv A outer s H vs Q E hr h=>?_)
 ·obtain⟨v,r,rfl,_⟩:=h
  rfl
 ·obtain⟨v,r,rfl,e,ro,gd,q⟩:=h
  have pl:=gd.pl (by omega)
  have pl0:=pl
  obtain⟨o,dx,rfl,ho⟩:=ro.pl (by omega)
  cases pl with
  | @share n p x hn hp hw =>
   refine⟨_,zh (zm (yd (j:=5) N0 hr (by decide) zx (za (zR (pv 0) rfl) (za (zR (pv 0) rfl) (za (zR (pv 0) rfl) zd))))),?_⟩
   exact⟨_,rfl,o,_,dx,_,_,rfl,ho,RK.cls 1 (by decide),RK.no 1 (by decide) "name" (by decide),rfl,_,rfl,o,_,dx,_,_,rfl,ho,RK.cls 1 (by decide),RK.no 1 (by decide) "parts" (by decide),rfl,_,rfl,o,_,dx,_,_,rfl,ho,RK.cls 1 (by decide),RK.no 1 (by decide) "way" (by decide),rfl,fun o dx o0 d0 ne=>⟨o,dx,.share n p x,rfl,rfl,pl0,zq,fun H' fr e=>⟨rfl,q _ H' (qD o0 d0 fr) (.pln (cY rfl) ⟨o,dx,rfl,e⟩)⟩⟩⟩
  | flat=>cases e
  | capped=>cases e
  | least=>cases e
theorem PU {Cs:Nat→Addr} {d:Nat} (F:qM K "twin" "Capped.twin" (zH (zX 50) 3) f fd) (RK:vC K Cs) (N0:vn P w K mg base zQ 5 "Capped" (Cs 2) ["self","name","parts","most","way"] (yH 2 Cs)):zL P w K mg base zQ 7 f fd ["self"] (ye d 2 Cs):=by
 refine F.ok (N:=["self"]) (by walk_at"s") (fun vs H Q E h=>?_) (fun cdv A outer s H vs Q E hr h=>?_)
 ·obtain⟨v,r,rfl,_⟩:=h
  rfl
 ·obtain⟨v,r,rfl,e,ro,gd,q⟩:=h
  have pl:=gd.pl (by omega)
  have pl0:=pl
  obtain⟨o,dx,rfl,ho⟩:=ro.pl (by omega)
  cases pl with
  | @capped n p m x hn hp ha hw =>
   refine⟨_,zh (zm (yd (j:=5) N0 hr (by decide) zx (za (zR (pv 0) rfl) (za (zR (pv 0) rfl) (za (zR (pv 0) rfl) (za (zR (pv 0) rfl) zd)))))),?_⟩
   exact⟨_,rfl,o,_,dx,_,_,rfl,ho,RK.cls 2 (by decide),RK.no 2 (by decide) "name" (by decide),rfl,_,rfl,o,_,dx,_,_,rfl,ho,RK.cls 2 (by decide),RK.no 2 (by decide) "parts" (by decide),rfl,_,rfl,o,_,dx,_,_,rfl,ho,RK.cls 2 (by decide),RK.no 2 (by decide) "most" (by decide),rfl,_,rfl,o,_,dx,_,_,rfl,ho,RK.cls 2 (by decide),RK.no 2 (by decide) "way" (by decide),rfl,fun o dx o0 d0 ne=>⟨o,dx,.capped n p m x,rfl,rfl,pl0,zq,fun H' fr e=>⟨rfl,q _ H' (qD o0 d0 fr) (.pln (cY rfl) ⟨o,dx,rfl,e⟩)⟩⟩⟩
  | flat=>cases e
  | share=>cases e
  | least=>cases e
theorem pV {Cs:Nat→Addr} {d:Nat} (F:qM K "twin" "Least.twin" (zH (zX 51) 3) f fd) (RK:vC K Cs) (N0:vn P w K mg base zQ 5 "Least" (Cs 3) ["self","name","parts","least","way"] (yH 3 Cs)):zL P w K mg base zQ 7 f fd ["self"] (ye d 3 Cs):=by
 refine F.ok (N:=["self"]) (by walk_at"s") (fun vs H Q E h=>?_) (fun cdv A outer s H vs Q E hr h=>?_)
 ·obtain⟨v,r,rfl,_⟩:=h
  rfl
 ·obtain⟨v,r,rfl,e,ro,gd,q⟩:=h
  have pl:=gd.pl (by omega)
  have pl0:=pl
  obtain⟨o,dx,rfl,ho⟩:=ro.pl (by omega)
  cases pl with
  | @least n p m x hn hp ha hw =>
   refine⟨_,zh (zm (yd (j:=5) N0 hr (by decide) zx (za (zR (pv 0) rfl) (za (zR (pv 0) rfl) (za (zR (pv 0) rfl) (za (zR (pv 0) rfl) zd)))))),?_⟩
   exact⟨_,rfl,o,_,dx,_,_,rfl,ho,RK.cls 3 (by decide),RK.no 3 (by decide) "name" (by decide),rfl,_,rfl,o,_,dx,_,_,rfl,ho,RK.cls 3 (by decide),RK.no 3 (by decide) "parts" (by decide),rfl,_,rfl,o,_,dx,_,_,rfl,ho,RK.cls 3 (by decide),RK.no 3 (by decide) "least" (by decide),rfl,_,rfl,o,_,dx,_,_,rfl,ho,RK.cls 3 (by decide),RK.no 3 (by decide) "way" (by decide),rfl,fun o dx o0 d0 ne=>⟨o,dx,.least n p m x,rfl,rfl,pl0,zq,fun H' fr e=>⟨rfl,q _ H' (qD o0 d0 fr) (.pln (cY rfl) ⟨o,dx,rfl,e⟩)⟩⟩⟩
  | flat=>cases e
  | share=>cases e
  | capped=>cases e
theorem Ll {Cs:Nat→Addr} {d:Nat} (F:qM K "twin" "Bands.twin" (zH (zX 56) 3) f fd) (RX:Zu K (Cs 4)) (N0:vn P w K mg base zQ 6 "Bands" (Cs 4) ["self","name","rows","way"] (QE (Cs 4))):zL P w K mg base zQ 8 f fd ["self"] (ye d 4 Cs):=by
 refine F.ok (N:=["self"]) (by walk_at"s") (fun vs H Q E h=>?_) (fun cdv A outer s H vs Q E hr h=>?_)
 ·obtain⟨v,r,rfl,_⟩:=h
  rfl
 ·obtain⟨v,r,rfl,e,ro,gd,q⟩:=h
  cases gd with
  | pln p=>cases p <;> cases e
  | ontop=>cases e
  | @bands _ n x ps hn ok hw =>
   cases ro with
   | pln kk _=>exact absurd kk (by show ¬ (4:Nat)<4;decide)
   | @bands _ _ _ o dx u ho bd =>
    refine⟨_,zh (zm (yd (j:=6) N0 hr (by decide) zx (za (zR (pv 0) rfl) (za (zR (pv 0) rfl) (za (zR (pv 0) rfl) zd))))),?_⟩
    refine⟨_,rfl,o,_,dx,_,_,rfl,ho,RX.cls,RX.no "name" (by decide),rfl,_,rfl,o,_,dx,_,_,rfl,ho,RX.cls,RX.no "bands" (by decide),rfl,_,rfl,o,_,dx,_,_,rfl,ho,RX.cls,RX.no "way" (by decide),rfl,fun o dx o0 dx0 ne=>⟨o,dx,n,u,ps,x,rfl,hn,ok,hw,?_,zq,fun H' u' fr ho' bd'=>⟨rfl,q _ H' (qD o0 dx0 fr) (.bands ho' bd')⟩⟩⟩
    obtain⟨ys,hu,T⟩:=bd
    have nt:∀ {b c},H b=some (.tup c)→(upd (upd H dx (.own o)) o (.ins (Cs 4) dx [])) b=some (.tup c):=fun {b c} h=>by rw[zG (zP h o0),zG (zP h dx0)];exact h
    exact⟨ys,nt hu,T.mono fun b c h=>nt h⟩
theorem QY {Cs:Nat→Addr} {d j:Nat} (F:qM K "twin" "OnTop.twin" (zH (zX 59) 3) f fd) (RX:Zu K (Cs 5)) (N0:vn P w K mg base zQ j "OnTop" (Cs 5) ["self","name","parts","way","rule"] (QO d Cs)):zL P w K mg base zQ (j+2) f fd ["self"] (ye (d+1) 5 Cs):=by
 refine F.ok (N:=["self"]) (by walk_at"s") (fun vs H Q E h=>?_) (fun cdv A outer s H vs Q E hr h=>?_)
 ·obtain⟨v,r,rfl,_⟩:=h
  rfl
 ·obtain⟨v,r,rfl,e,ro,gd,q⟩:=h
  obtain⟨d',n,p,x,r',ed,rfl,hn,hp,hw,g'⟩:=Lr gd e
  cases ed
  cases ro with
  | pln kk _=>exact absurd kk (by show ¬ (5:Nat)<4;decide)
  | @ontop _ _ _ _ o dx u ho ri =>
   refine⟨_,zh (zm (yd (j:=j) N0 hr (cP _) zx (za (zR (pv 0) rfl) (za (zR (pv 0) rfl) (za (zR (pv 0) rfl) (za (zR (pv 0) rfl) zd)))))),?_⟩
   exact⟨_,rfl,o,_,dx,_,_,rfl,ho,RX.cls,RX.no "name" (by decide),rfl,_,rfl,o,_,dx,_,_,rfl,ho,RX.cls,RX.no "parts" (by decide),rfl,_,rfl,o,_,dx,_,_,rfl,ho,RX.cls,RX.no "way" (by decide),rfl,_,rfl,o,_,dx,_,_,rfl,ho,RX.cls,RX.no "within" (by decide),rfl,fun o dx o0 dx0 ne=>⟨o,dx,n,p,x,u,r',rfl,hn,hp,hw,ri.same (zu.made o0 dx0),g',zq,fun H' u' fr ho' ri'=>⟨rfl,q _ H' (qD o0 dx0 fr) (.ontop ho' ri')⟩⟩⟩
set_option maxHeartbeats 4000000 in
theorem QW {Cs:Nat→Addr} {cRu:Addr} {d j:Nat} (F:qM K "__init__" "OnTop.__init__" (zH (zX 59) 0) f fd) (G:jW mg) (RX:Zu K (Cs 5)) (RJ:NM K Cs cRu) (gR:mg "Rule" = some (.ref cRu)) (N1:Yh mg "MOST_DEPTH" 3) (hd:d≤2) (hj:4≤j) (CR:uQ P w K mg base zQ 4 "Rule" "__init__" ["self","name"] (wq K)) (C1:qR P w K mg base zQ 4 "need_share" ["parts","way"] ud) (MT:∀ k,k<6→q8 P w K mg base zQ j (Cs k) "twin" ["self"] (ye d k Cs)) (MD:q8 P w K mg base zQ j (Cs 5) "depth" ["self"] (yD (d+1) 5 Cs)):zL P w K mg base zQ (j+1) f fd ["self","name","parts","way","rule"] (QO d Cs):=by
 obtain⟨tk,em⟩:=N1
 refine F.ok (N:=["self","name","parts","way","rule"]) (by walk_at"s") (fun vs H Q E h=>?_) (fun cdv A outer s H vs Q E hr h=>?_)
 ·obtain⟨o,dx,n,p,x,u,r,rfl,_⟩:=h
  rfl
 ·obtain⟨o,dx,n,p,x,u,r,rfl,hn,hp,hw,ri,gd,ho,q⟩:=h
  refine⟨_,zg (qb (jg CR hr hj zx (za (pv 0) (za (pv 1) zd)))) (zg (qb (zk C1 hr hj zx (za (pv 2) (za (pv 3) zd)))) (zg (zK (qz (qy (zv zJ rfl G.isinstance zE (za (pv 4) (za (zZ (v:=.ref cRu) rfl gR rfl) zd))))) qJ zB)
   (zg (yz (pv 0) (pv 2) rfl) (zg (yz (pv 0) (pv 3) rfl) (zg (yz (pv 0) (vM (p:=fun k=>k<6) fun k hk=>vo (MT k hk) hr (cP _) zx (pv 4)) rfl)
   (zh (zK (zw y6 (vo MD hr (cP _) zx (pv 0)) (zZ (v:=.int 3) rfl em ⟨tk,rfl⟩) (zD _)) qJ zB))))))),?_⟩
  refine⟨_,rfl,_,rfl,_,o,dx,_,rfl,RX.cls,RX.no "name" (by decide),ho,hn,fun H1 f1 e1=>⟨_,rfl,_,rfl,_,_,rfl,hp,hw,?_⟩⟩
  have r1:=ri.frame gd ho f1
  obtain⟨oi,dxi,fsi,rfl,hoi,_,noi⟩:=r1.obj gd
  have k6:=Lm r
  refine⟨_,rfl,_,_,_,_,true,rfl,rfl,.inl (.ins hoi (RJ.cls _ k6) (RJ.ha _ k6) RJ.hn RJ.htk (RJ.hm _ k6)),RJ.kt _ k6,true,rfl,qN ?_⟩
  refine⟨_,rfl,_,rfl,o,_,dx,_,rfl,e1,RX.cls,RX.no "parts" (by decide),by show 1<1000;decide,?_⟩
  rw[Nq _ _ _ (by decide +kernel)]
  refine⟨_,rfl,_,rfl,o,_,dx,_,rfl,zq,RX.cls,RX.no "way" (by decide),by show 2<1000;decide,?_⟩
  rw[RN _ _ _ _ _ (by decide +kernel) (by decide +kernel)]
  have f2:∀ b y,H b=some y→b≠o→(upd (upd H1 o (.ins (Cs 5) dx [("name",.str n),("parts",.int p)])) o (.ins (Cs 5) dx [("name",.str n),("parts",.int p),("way",.str x)])) b=some y:=fun b y hb ne=>by rw[zG ne,zG ne];exact f1 _ _ hb ne
  have e2:(upd (upd H1 o (.ins (Cs 5) dx [("name",.str n),("parts",.int p)])) o (.ins (Cs 5) dx [("name",.str n),("parts",.int p),("way",.str x)])) o=some (.ins (Cs 5) dx [("name",.str n),("parts",.int p),("way",.str x)]):=zq
  generalize upd (upd H1 o (.ins (Cs 5) dx [("name",.str n),("parts",.int p)])) o (.ins (Cs 5) dx [("name",.str n),("parts",.int p),("way",.str x)])=H2 at f2 e2
  have r2:=ri.frame gd ho f2
  obtain⟨oi2,dxi2,fsi2,eoi,hoi2,_,noi2⟩:=r2.obj gd
  cases eoi
  refine⟨r.kd,k6,_,rfl,oi,dxi2,fsi2,rfl,hoi2,noi2 "twin" (by decide),_,r,rfl,rfl,r2,gd,fun u' H3 s3 r3=>?_⟩
  have e3:=s3 _ _ e2
  refine⟨_,rfl,o,_,dx,_,rfl,e3,RX.cls,RX.no "within" (by decide),by show 3<1000;decide,?_⟩
  rw[bp _ _ _ _ _ _ _ (by decide +kernel) (by decide +kernel) (by decide +kernel)]
  have f4:∀ b y,H3 b=some y→b≠o→(upd H3 o (.ins (Cs 5) dx [("name",.str n),("parts",.int p),("way",.str x),("within",u')])) b=some y:=fun b y hb ne=>by rw[zG ne];exact hb
  have e4:(upd H3 o (.ins (Cs 5) dx [("name",.str n),("parts",.int p),("way",.str x),("within",u')])) o=some (.ins (Cs 5) dx [("name",.str n),("parts",.int p),("way",.str x),("within",u')]):=zq
  generalize upd H3 o (.ins (Cs 5) dx [("name",.str n),("parts",.int p),("way",.str x),("within",u')])=H4 at f4 e4
  have r4:=r3.frame3 RJ.ne gd e3 f4
  have g4:Gd (d+1) (.ontop n p x r):=.ontop hn hp hw gd
  refine⟨_,rfl,o,dx,_,rfl,e4,rfl,_,_,rfl,rfl,.ontop e4 r4,g4,_,_,rfl,rfl,_,rfl,qi (fun e=>?_) (fun _=>?_)⟩
  ·have e:=of_decide_eq_true e
   have:=Nw g4
   omega
  ·exact q H4 u' (fun b y hb ne=>f4 _ _ (s3 _ _ (f2 _ _ hb ne)) ne) e4 r4
theorem Qp (F:qM K "are_figures" "are_figures" (zX 61) f fd) (G:jW mg) (N1:Txt mg "FIGURES" "0123456789"):zL P w K mg base zQ 1 f fd ["text"] gk:=by
 obtain⟨tm,hm⟩:=N1
 have nc:(["sign"]:List Str).Nodup:=by decide +kernel
 refine F.ok (N:=["text"]) (by walk_at"s") (fun vs H Q E h=>?_) (fun cdv A outer s H vs Q E hr h=>?_)
 ·obtain⟨z,rfl,_⟩:=h
  rfl
 ·obtain⟨z,rfl,hz,q⟩:=h
  have ls:100001≤sizeLine:=by rw[sizeLine_eq];decide
  refine' ⟨_,zh (zm (yK (qj y6 (zv qU rfl G.len boot_len (za (pv 0) zd)) ze (zD _)) (yL (zv (jD rfl) rfl G.all vA (za ?comp zd))))),?main⟩
  case comp =>
   refine' qv (Nc:=["sign"]) (cl:=[]) (src:=[none]) (wi:=oJ (qd 0)) (g:=qx 0) (tt:=yb) (te:=jV (fun x y H Q=>∃ i j,x = .str i∧y = .str j∧Q (.bl (!(Builtin.Str.occurrences j i 0 j.length 1).isEmpty)) H) (qd 0) (tC (.str "0123456789"))) (by walk_at"c0") rfl (Qv (pv 0)) ?hb
   case hb =>
    intro fp C' s' H'
    exact⟨z5 (i:=0) nc rfl (Or.inl rfl),qP,qj Zc (pv 0) (zZ (v:=.str "0123456789") rfl hm ⟨_,rfl⟩) (by rfl)⟩
  refine⟨_,rfl,z,rfl,by omega,_,_,rfl,rfl,_,rfl,qi (fun e=>?_) (fun e=>?_)⟩
  ·have e:0<z.length:=by have:=of_decide_eq_true e;omega
   have ne:z.cps.toList≠[]:=fun y=>by rw[qg,y] at e;exact absurd e (by decide)
   refine⟨_,rfl,z,rfl,fun D hD=>?_⟩
   refine wB (uM (z:=z)) hD (by rw[cN,← qg];omega) (fun _=>true) (fun x=>match x with | .str y=>.bl (Yo (y.cps.getD 0 0)) | v=>v) (fun x _ H' R _ r=>r) (fun x hx _ H' R _ r=>?_) ?_
   ·obtain⟨c,_,rfl⟩:=Cp.mp hx
    refine⟨_,rfl,_,_,rfl,rfl,?_⟩
    rw[Of]
    exact r
   ·rw[DF.mpr fun _ _=>rfl,CH]
    refine⟨D,z.cps.toList.map Yo,rfl,zY.of (by rw[CH];exact zq),?_⟩
    have e2:wV z.cps.toList=(z.cps.toList.map Yo).all id:=by
     unfold wV
     rw[dF]
     cases h:z.cps.toList with
     | nil=>exact absurd h ne
     | cons a l=>rfl
    rw[← e2]
    exact q _ (zu.upd hD)
  ·have e0:z.cps.toList=[]:=DE.mp (by
    rw[← qg]
    have:¬ (0:Int)<(z.length:Nat):=fun c=>e (decide_eq_true c)
    omega)
   have q':=q H (zu.refl _)
   rw[e0] at q'
   exact q'
theorem mK (F:qM K "is_number_text" "is_number_text" (zX 62) f fd) (C1:qR P w K mg base zQ 1 "are_figures" ["text"] gk):zL P w K mg base zQ 2 f fd ["text"] gr:=by
 refine F.ok (N:=["text"]) (by walk_at"s") (fun vs H Q E h=>?_) (fun cdv A outer s H vs Q E hr h=>?_)
 ·obtain⟨z,rfl,_⟩:=h
  rfl
 ·obtain⟨z,rfl,hz,q⟩:=h
  refine⟨_,(zh (zm (yK (zk C1 hr (by decide) zx (za (pv 0) zd)) (yL (Nk (qj qh (pv 0) zj (zD _)) (yL (Xr (qY PySem.F.plainAttrs_str PySem.F.slot_str_startswith PySem.F.type_str_startswith YK (pv 0) (za zj zd))))))))),?_⟩
  refine⟨_,rfl,z,rfl,by omega,fun H1 s1=>⟨_,rfl,?_⟩⟩
  have q':=q H1 s1
  unfold vN at q'
  cases e:wV z.cps.toList with
  | false =>
   rw[e] at q'
   exact qN q'
  | true =>
   rw[e,Cj] at q'
   refine qZ ⟨_,rfl,rfl,_,rfl,?_⟩
   have e0:("0":Str).cps.toList=[48]:=by rw[UR]
   rw[XB,e0]
   by_cases c:z.cps.toList=[48]
   ·rw[decide_eq_true c] at q' ⊢
    exact qZ q'
   ·rw[decide_eq_false c,CZ] at q'
    rw[decide_eq_false c]
    refine qN ⟨_,rfl,rfl,_,_,rfl,rfl,_,rfl,?_⟩
    rw[UR,xw]
    exact q'
end
end K10
namespace Pg
open PySem L2
theorem pW (bs:List Int) (k:Nat):yX (bs.map V.int) none (some ((k:Nat):Int))=(bs.take k).map V.int:=by
 unfold yX
 rw[HT.kg,DW,HT.u7,Nat.sub_zero,cN,← DU]
 congr 1
 by_cases h:k≤bs.length
 ·rw[dA h]
 ·rw[Dj (by omega),dj (cP _),dj (by omega)]
theorem UD {bs:List Int} (h:Lo bs) (k:Nat):Lo (bs.take k):=fun b hb=>h b (Dl hb)
theorem Gd.le {d e:Nat} {r:Rk} (h:Gd d r) (le:d≤e):Gd e r:=by
 induction le with
 | refl=>exact h
 | step _ ih=>exact ih.mono
end Pg
namespace L2
open PySem PySem.StrLaws Builtin Builtin.Str
theorem xU (c:Nat):∀ (ws:List Str) (acc:Array Nat),(ws.foldl (fun acc p=>acc++(⟨#[c]⟩:Str).cps++p.cps) acc).toList=acc.toList++((ws.map fun p=>p.cps.toList).map fun v=>c::v).flatten:=by
 intro ws
 induction ws with
 | nil=>intro acc;exact (CK _).symm
 | cons p r ih =>
  intro acc
  rw[d5,ih]
  simp
theorem yT (c:Nat) (w:Str) (ws:List Str):(Txt.join ⟨#[c]⟩ (w::ws)).cps.toList=w.cps.toList++((ws.map fun p=>p.cps.toList).map fun v=>c::v).flatten:=xU c ws w.cps
theorem Gs {a b:List Str} (h:a.map (fun z=>z.cps.toList)=b.map (fun z=>z.cps.toList)):a=b:=by
 induction a generalizing b with
 | nil =>
  cases b with
  | nil=>rfl
  | cons=>cases h
 | cons x r ih =>
  cases b with
  | nil=>cases h
  | cons y s =>
   have h1:=List.cons.inj h
   have e:x=y:=by
    obtain⟨x⟩:=x
    obtain⟨y⟩:=y
    exact congrArg Str.mk (Dr.mp h1.1)
   rw[e,ih h1.2]
end L2
namespace L2
open PySem PySem.Spec PyProof.Rows
end L2
namespace Pg
open PySem PySem.NumText L2 Builtin Builtin.Str
theorem lC {n:Nat} (h:n≠0):∃ c r,dg n=c::r∧c≠48:=by
 induction n using Nat.strongRecOn with
 | ind n ih =>
  by_cases h10:n<10
  ·exact⟨48+n,[],xi h10,by omega⟩
  ·obtain⟨c,r,e,ne⟩:=ih (n/10) (by omega) (by omega)
   exact⟨c,r++[48+n%10],by rw[gG (by omega),e];rfl,ne⟩
theorem NT (n:Nat):wV (dg n)=true:=by
 have h:=Ge n
 have l:=xf n
 unfold wV
 rw[cQ]
 constructor
 ·cases e:dg n with
  | nil=>rw[e] at l;exact absurd l (by decide)
  | cons=>rfl
 ·rw[Cn]
  intro c hc
  have:=h c hc
  unfold Yo
  rw[decide_eq_true this.1,decide_eq_true this.2]
  rfl
theorem NZ (n:Nat):vN (dg n)=true:=by
 unfold vN
 rw[NT,Cj]
 by_cases h:n=0
 ·subst h
  rfl
 ·obtain⟨c,r,e,ne⟩:=lC h
  rw[e]
  have:decide ((c::r).head? = some 48)=false:=decide_eq_false fun z=>ne (Option.some.inj z)
  rw[this]
  exact Bool.or_true _
theorem bq:(" ":Str)=⟨#[32]⟩:=by decide +kernel
theorem cb:(":":Str)=⟨#[58]⟩:=by decide +kernel
theorem bE:(",":Str)=⟨#[44]⟩:=by decide +kernel
noncomputable def wW:Rk→List Str
 | .bands n ps w=>[("bands":Str),n,Zt ps,w]
 | .ontop n p w r=>[("ontop":Str),n,(toString p:Str),w,("of":Str)]++wW r
 | .flat n a=>[("flat":Str),n,(toString a:Str)]
 | .share n p w=>[("share":Str),n,(toString p:Str),w]
 | .capped n p m w=>[("capped":Str),n,(toString p:Str),(toString m:Str),w]
 | .least n p l w=>[("least":Str),n,(toString p:Str),(toString l:Str),w]
theorem W6 (r:Rk):∃ w ws,wW r=w::ws∧w.length ≥ 1:=by
 cases r <;> exact⟨_,_,rfl,by decide +kernel⟩
theorem pF (c:Nat) (x y:Str) (xs ys:List Str):Txt.join ⟨#[c]⟩ (x::xs++[Txt.join ⟨#[c]⟩ (y::ys)])=Txt.join ⟨#[c]⟩ (x::xs++y::ys):=by
 apply xZ
 rw[List.cons_append,List.cons_append,yT,yT,Ci,Ci,Ci,Ci,List.flatten_append,List.flatten_append,CF,dJ,yT]
 simp
theorem xp (r:Rk):ZR r=Txt.join " " (wW r):=by
 induction r with
 | ontop n p w r ih =>
  obtain⟨v,vs,e,_⟩:=W6 r
  show Txt.join " " [("ontop":Str),n,(toString p:Str),w,("of":Str),ZR r]=Txt.join " " ([("ontop":Str),n,(toString p:Str),w,("of":Str)]++wW r)
  rw[ih,e,bq]
  exact pF 32 ("ontop":Str) v [n,(toString p:Str),w,("of":Str)] vs
 | _=>rfl
theorem xO (q:Int × Int):ue q=Txt.join ⟨#[58]⟩ [(toString q.1:Str),(toString q.2:Str)]:=by
 apply xZ
 rw[yT]
 unfold ue
 rw[yp,yp]
 simp
 rfl
noncomputable def RG:V→List V→Hp→VK→Prop:=fun x vs H Q=>∃ z y,x = .str z∧vs=[.str y]∧(y.length==0)=false∧z.length≤sizeLine∧(partsBetween z (occurrences z y 0 z.length (z.length+1)) y.length).length≤sizeLine∧LL H (.lst ((Txt.split z y).map V.str)) Q
end Pg
namespace Pg
open PySem L2
noncomputable def gH:Sp:=fun vs H Q _=>∃ (c:Int) (n:Nat),vs=[.int c,.int (n:Nat)]∧n≤8∧∀ (nms:List Str) l H',nms.length=n→(∀ z∈nms,yu z)→nms.Nodup→zu H H'→H l=none→H' l=some (.lst (nms.map V.str))→Q (.ref l) H'
theorem QD {n:Nat} {p:Str→Prop} {t:Nat→Str→Prop} {zs:List V} (h:∀ (i:Nat) u,zs[i]? = some u→∃ k,(List.range n)[i]? = some k∧∃ z,u = .str z∧p z∧t k z):∃ nms:List Str,zs=nms.map V.str∧(∀ z∈nms,p z)∧∀ (i:Nat) z,nms[i]? = some z→t i z:=by
 have h':∀ u∈zs,∃ z,u = .str z∧p z:=fun u hu=>by
  obtain⟨i,hi⟩:=List.mem_iff_getElem?.mp hu
  obtain⟨k,_,z,e,hp,_⟩:=h i u hi
  exact⟨z,e,hp⟩
 obtain⟨nms,rfl,hn⟩:=Lf h'
 refine⟨nms,rfl,hn,fun i z hz=>?_⟩
 obtain⟨k,hk,z',e,_,ht⟩:=h i (.str z) (by rw[cW,hz];rfl)
 cases e
 obtain⟨hk1,hk2⟩:=Cv.mp hk
 rw[List.getElem_range] at hk2
 subst hk2
 exact ht
theorem Qu {nms:List Str} {t:Nat→Str→Prop} (h:∀ (i:Nat) z,nms[i]? = some z→t i z) (inj:∀ i j z,i<nms.length→j<nms.length→t i z→t j z→i=j):nms.Nodup:=by
 rw[eL,DD]
 intro i j hi hj lt e
 have h1:=h i _ (Ca hi)
 have h2:=h j _ (Ca hj)
 rw[e] at h1
 have:=inj i j _ hi hj h1 h2
 omega
theorem RI {i j:Nat} {z:Str} (h1:okNames[i]? = some z) (h2:okNames[j]? = some z):i=j:=by
 have nd:okNames.Nodup:=by decide +kernel
 obtain⟨a,e1⟩:=Cv.mp h1
 obtain⟨b,e2⟩:=Cv.mp h2
 have pw:=DD.mp (eL.mp nd)
 rcases Nat.lt_trichotomy i j with lt | e | lt
 ·exact absurd (e1.trans e2.symm) (pw i j a b lt)
 ·exact e
 ·exact absurd (e2.trans e1.symm) (pw j i b a lt)
theorem Vu.name {H:Hp} {r:Rk} {v:V} {d:Nat} (h:Vu H r v) (g:Gd d r):∃ t l,v = .ref t∧H t=some (.tup l)∧ZI l 1=some (.str r.name):=by
 cases h with
 | pln k h =>
  obtain⟨t,rfl,h⟩:=h
  exact⟨t,_,rfl,h,NS (g.pl k)⟩
 | bands h b=>exact⟨_,_,rfl,h,rfl⟩
 | ontop h b=>exact⟨_,_,rfl,h,rfl⟩
end Pg
namespace L2
open PySem PySem.Spec PyProof.Rows
section
variable {X:Cx} {pins:List (Addr × Obj)} {σ:St} {H:Hp} {s:Shared}
end
section
variable {X:Cx}
end
end L2
namespace Pg
open PySem L2
end Pg
namespace L2
open PySem
theorem vn.mono {P:Program} {w:World} {K:BFr} {mg:Str→Option Value} {base:Heap} {CX:ki} {j k:Nat} {C:Addr} {x:Str} {ps:List Str} {sp:Sp} (M:vn P w K mg base CX j x C ps sp) (h:j≤k):vn P w K mg base CX k x C ps sp:=by
 obtain⟨a,f,fd,b,c,F⟩:=M
 exact⟨a,f,fd,b,c,F.mono h⟩
end L2
namespace Pg
open PySem L2
theorem oH {a b:Nat} (h:(!(Nat.beq a b))=true):a≠b:=fun e=>by
 subst e
 rw[Nat.beq_refl] at h
 cases h
section
variable {P:Program} {w:World} {K:BFr} {mg:Str→Option Value} {base:Heap} {CX:ki} {j d:Nat} {Cs:Nat→Addr}
theorem MV {K:BFr} {d e k:Nat} {Cs:Nat→Addr} (h:d≤e):∀ vs H Q E,jd K d k Cs vs H Q E→jd K e k Cs vs H Q E:=by
 rintro vs H Q E ⟨v,r,b,bs,rfl,h1,h2,h3,h4⟩
 exact⟨v,r,b,bs,rfl,h1,h2,h3.le h,h4⟩
theorem kQ {d e k:Nat} {Cs:Nat→Addr} (h:d≤e):∀ vs H Q E,yD d k Cs vs H Q E→yD e k Cs vs H Q E:=by
 rintro vs H Q E ⟨v,r,rfl,h1,h2,h3,h4⟩
 exact⟨v,r,rfl,h1,h2,h3.le h,h4⟩
theorem kP {d e k:Nat} {Cs:Nat→Addr} (h:d≤e):∀ vs H Q E,ye d k Cs vs H Q E→ye e k Cs vs H Q E:=by
 rintro vs H Q E ⟨v,r,rfl,h1,h2,h3,h4⟩
 exact⟨v,r,rfl,h1,h2,h3.le h,h4⟩
theorem gh (U0:q8 P w K mg base CX 5 (Cs 0) "until" ["self","bases"] (uw K 0 Cs)) (U1:q8 P w K mg base CX 5 (Cs 1) "until" ["self","bases"] (uw K 1 Cs)) (U2:q8 P w K mg base CX 5 (Cs 2) "until" ["self","bases"] (uw K 2 Cs)) (U3:q8 P w K mg base CX 5 (Cs 3) "until" ["self","bases"] (uw K 3 Cs)) (U4:q8 P w K mg base CX 4 (Cs 4) "until" ["self","bases"] (jd K 3 4 Cs)) (hd:d≤3) (hj:5≤j) (U5:q8 P w K mg base CX j (Cs 5) "until" ["self","bases"] (jd K d 5 Cs)) :
  ∀ k,k<6→q8 P w K mg base CX j (Cs k) "until" ["self","bases"] (jd K d k Cs) :=
 Yc ((U0.imp (Vp (by decide))).mono hj) ((U1.imp (Vp (by decide))).mono hj) ((U2.imp (Vp (by decide))).mono hj) ((U3.imp (Vp (by decide))).mono hj) ((U4.imp (MV hd)).mono (by omega)) U5
theorem gK (D0:q8 P w K mg base CX 1 (Cs 0) "depth" ["self"] (yD 3 0 Cs)) (D1:q8 P w K mg base CX 1 (Cs 1) "depth" ["self"] (yD 3 1 Cs)) (D2:q8 P w K mg base CX 1 (Cs 2) "depth" ["self"] (yD 3 2 Cs)) (D3:q8 P w K mg base CX 1 (Cs 3) "depth" ["self"] (yD 3 3 Cs)) (D4:q8 P w K mg base CX 1 (Cs 4) "depth" ["self"] (yD 3 4 Cs)) (hd:d≤3) (hj:1≤j) (D5:q8 P w K mg base CX j (Cs 5) "depth" ["self"] (yD d 5 Cs)) :
  ∀ k,k<6→q8 P w K mg base CX j (Cs k) "depth" ["self"] (yD d k Cs) :=
 Yc ((D0.imp (kQ hd)).mono hj) ((D1.imp (kQ hd)).mono hj) ((D2.imp (kQ hd)).mono hj) ((D3.imp (kQ hd)).mono hj) ((D4.imp (kQ hd)).mono hj) D5
theorem XW (T0:q8 P w K mg base CX 7 (Cs 0) "twin" ["self"] (ye 3 0 Cs)) (T1:q8 P w K mg base CX 7 (Cs 1) "twin" ["self"] (ye 3 1 Cs)) (T2:q8 P w K mg base CX 7 (Cs 2) "twin" ["self"] (ye 3 2 Cs)) (T3:q8 P w K mg base CX 7 (Cs 3) "twin" ["self"] (ye 3 3 Cs)) (T4:q8 P w K mg base CX 8 (Cs 4) "twin" ["self"] (ye 3 4 Cs)) (hd:d≤3) (hj:8≤j) (T5:q8 P w K mg base CX j (Cs 5) "twin" ["self"] (ye d 5 Cs)) :
  ∀ k,k<6→q8 P w K mg base CX j (Cs k) "twin" ["self"] (ye d k Cs) :=
 Yc ((T0.imp (kP hd)).mono (by omega)) ((T1.imp (kP hd)).mono (by omega)) ((T2.imp (kP hd)).mono (by omega)) ((T3.imp (kP hd)).mono (by omega)) ((T4.imp (kP hd)).mono hj) T5
end
end Pg
namespace L2
open PySem PySem.Spec PyProof.Rows
section
variable {X:Cx} {pins:List (Addr × Obj)} {σ:St} {H:Hp} {s:Shared} {d:Addr} {kvs:List (jZ × V)} {o:Obj}
end
end L2
namespace Pg
open PySem L2
end Pg
namespace K10
open PySem PySem.NumText L2 Pg
seal PE PA PT PW PS y8 PG vz PI j8 PO PK
section
variable {P:Program} {w:World} {K:BFr} {mg:Str→Option Value} {base:Heap} {f:Addr} {fd:FuncData} {d:Nat→Addr} {cR:Addr}
theorem Mf {d e k:Nat} {Cs:Nat→Addr} (h:d≤e):∀ vs H Q E,jA d k Cs vs H Q E→jA e k Cs vs H Q E:=by
 rintro vs H Q E ⟨v,r,rfl,h1,h2,h3,h4⟩
 exact⟨v,r,rfl,h1,h2,h3.le h,h4⟩
theorem gF {CX:ki} {j d:Nat} {Cs:Nat→Addr} (R0:q8 P w K mg base CX 1 (Cs 0) "row" ["self"] (j3 0 Cs)) (R1:q8 P w K mg base CX 1 (Cs 1) "row" ["self"] (j3 1 Cs)) (R2:q8 P w K mg base CX 1 (Cs 2) "row" ["self"] (j3 2 Cs)) (R3:q8 P w K mg base CX 1 (Cs 3) "row" ["self"] (j3 3 Cs)) (R4:q8 P w K mg base CX 1 (Cs 4) "row" ["self"] (jA 3 4 Cs)) (hd:d≤3) (hj:1≤j) (R5:q8 P w K mg base CX j (Cs 5) "row" ["self"] (jA d 5 Cs)) :
  ∀ k,k<6→q8 P w K mg base CX j (Cs k) "row" ["self"] (jA d k Cs) :=
 Yc ((R0.imp (VR (by decide))).mono hj) ((R1.imp (VR (by decide))).mono hj) ((R2.imp (VR (by decide))).mono hj) ((R3.imp (VR (by decide))).mono hj) ((R4.imp (Mf hd)).mono hj) R5
theorem VY {Cs:Nat→Addr} {d j:Nat} (hd:d≤3) (F:qM K "row" "OnTop.row" (zH (zX 59) 2) f fd) (G:jW mg) (RX:Zu K (Cs 5)) (MR:∀ k,k<6→q8 P w K mg base zQ j (Cs k) "row" ["self"] (jA d k Cs)):zL P w K mg base zQ (j+1) f fd ["self"] (jA (d+1) 5 Cs):=by
 refine F.ok (N:=["self"]) (by walk_at"s") (fun vs H Q E h=>?_) (fun cdv A outer s H vs Q E hr h=>?_)
 ·obtain⟨v,r,rfl,_⟩:=h
  rfl
 ·obtain⟨v,r,rfl,e,ro,gd,q⟩:=h
  obtain⟨d',n,p,x,r',ed,rfl,hn,hp,hw,g'⟩:=Lr gd e
  cases ed
  cases ro with
  | pln kk _=>exact absurd kk (by show ¬ (5:Nat)<4;decide)
  | @ontop _ _ _ _ o dx u ho ri =>
   obtain⟨oi,dxi,fsi,rfl,hoi,_,noi⟩:=ri.obj g'
   have h1:=hn.ok.hi
   have h2:=vm hp
   have h3:=wj hw
   have h4:=uZ g'
   have jr:=(yx (sep:=" ") (zs:=["ontop",n,toString p,x,"of",ZR r']) (m:=1700) (k:=6) (fun z hz=>by
     simp only[cU,cX,or_false] at hz
     rcases hz with rfl | rfl | rfl | rfl | rfl | rfl
     ·decide +kernel
     ·omega
     ·omega
     ·omega
     ·decide +kernel
     ·omega) (cP _) (by decide +kernel) rfl).1
   refine⟨_,zh (zm (qY PySem.F.plainAttrs_str PySem.F.slot_str_join PySem.F.type_str_join yB zj (za (zU (za zj (za (zR (pv 0) rfl) (za (z8 qm rfl G.str qK (za (zR (pv 0) rfl) zd)) (za (zR (pv 0) rfl) (za zj (za (vM (p:=fun k=>k<6) fun k hk=>vo (MR k hk) hr (cP _) zx (zR (pv 0) rfl)) zd))))))) zd))),?_⟩
   exact⟨rfl,_,rfl,o,_,dx,_,_,rfl,ho,RX.cls,RX.no "name" (by decide),rfl,_,rfl,o,_,dx,_,_,rfl,ho,RX.cls,RX.no "parts" (by decide),rfl,_,rfl,wH hp,_,rfl,o,_,dx,_,_,rfl,ho,RX.cls,RX.no "way" (by decide),rfl,r'.kd,Lm r',_,rfl,o,_,dx,_,_,rfl,ho,RX.cls,RX.no "within" (by decide),rfl,oi,dxi,fsi,rfl,hoi,noi "row" (by decide),_,r',rfl,rfl,ri,g',fun H1 s1=>⟨z6 rfl,fun l H2 s2 n2 e2=>⟨_,["ontop",n,toString p,x,"of",ZR r'],l,rfl,rfl,zY.of e2,jr,q H2 (s1.trans s2)⟩⟩⟩
theorem mM (F:qM K "_law_mixed" "_law_mixed" (zX 75) f fd):zL P w K mg base zQ 1 f fd ["_law_cell","_law_k"] j9:=by
 have nd:(["_law_cell","_law_k","_law_number_here"]:List Str).Nodup:=by decide +kernel
 refine F.ok (N:=["_law_cell","_law_k","_law_number_here"]) (by walk_at"s") (fun vs H Q E h=>?_) (fun cdv A outer s H vs Q E hr h=>?_)
 ·obtain⟨c,k,rfl,_⟩:=h
  rfl
 ·obtain⟨c,k,rfl,q⟩:=h
  refine⟨_,(zg (zI (i:=2) nd rfl (Or.inl rfl) (zt z9 (zt qk (zt qk (zt ya (pv 0) ze) (zt ya ze (pv 1))) ze) ze))
    (zh (zm (zt z9 (zt ya (zt z9 (zt ya (pv 2) (pv 2)) ze) (pv 2)) ze)))),?_⟩
  refine⟨_,rfl,_,_,rfl,rfl,.inr ⟨by decide,by decide⟩,_,rfl,_,_,rfl,rfl,.inl ⟨by decide,by decide⟩,_,_,rfl,rfl,_,_,rfl,rfl,_,_,rfl,rfl,(by show (0:Int)<1000003;decide),?_⟩
  have b0:0≤(c*48271+7919*k+11)%1000003:=Cg _ (by decide)
  have b1:(c*48271+7919*k+11)%1000003<1000003:=Cr _ (by decide)
  dsimp only
  generalize (c*48271+7919*k+11)%1000003=m at b0 b1
  exact⟨_,rfl,_,rfl,_,_,rfl,rfl,.inr ⟨by omega,by omega⟩,_,_,rfl,rfl,(by show (0:Int)<1000003;decide),_,rfl,_,_,rfl,rfl,.inr ⟨by omega,by omega⟩,_,_,rfl,rfl,(by show (0:Int)<1000003;decide),q _ (Cg _ (by decide)) (Cr _ (by decide))⟩
theorem mV (F:qM K "_law_amount" "_law_amount" (zX 77) f fd) (C1:qR P w K mg base zQ 1 "_law_mixed" ["_law_cell","_law_k"] j9):zL P w K mg base zQ 2 f fd ["_law_cell","_law_k"] Vy:=by
 have nd:(["_law_cell","_law_k","_law_number_here","_law_more","_law_wide"]:List Str).Nodup:=by decide +kernel
 refine F.ok (N:=["_law_cell","_law_k","_law_number_here","_law_more","_law_wide"]) (by walk_at"s") (fun vs H Q E h=>?_) (fun cdv A outer s H vs Q E hr h=>?_)
 ·obtain⟨c,k,rfl,_⟩:=h
  rfl
 ·obtain⟨c,k,rfl,q⟩:=h
  refine⟨_,(zg (zI (i:=2) nd rfl (Or.inl rfl) (zk C1 hr (by decide) zx (za (pv 0) (za (pv 1) zd))))
    (zg (zI (i:=3) nd rfl (Or.inl rfl) (zt qW (pv 2) ze))
    (zg (zI (i:=4) nd rfl (Or.inl rfl) (zt qk (zt ya (pv 2) ze) (zk C1 hr (by decide) zx (za (pv 0) (za (zt qk (pv 1) ze) zd)))))
    (zh (zm (zC zA (zU (za ze (za (zt z9 (pv 3) ze) (za (zt z9 (pv 3) ze) (za (zt ya (zt z9 (pv 3) ze) ze) (za (zt ya (pv 3) ze) (za (zt z9 (pv 4) (zt qk (zt Zl ze ze) ze)) (za (zt Zl ze ze) zd)))))))) (zt z9 (pv 2) ze))))))),?_⟩
  refine⟨_,rfl,_,rfl,c,k,rfl,fun m m0 m1=>⟨_,rfl,_,_,rfl,rfl,⟨by decide,by decide⟩,_,rfl,_,_,rfl,rfl,.inr ⟨by decide,by decide⟩,_,rfl,_,rfl,_,_,rfl,rfl,c,_,rfl,fun n n0 n1=>⟨_,_,rfl,rfl,?_⟩⟩⟩
  have d0:0≤m/7:=Int.ediv_nonneg m0 (by decide)
  have d1:m/7≤142858:=by omega
  dsimp only
  generalize m/7=e at d0 d1
  have e0:0≤e%19:=Cg _ (by decide)
  have e1:e%19<19:=Cr _ (by decide)
  have p12:(10:Int) ^ (12:Int).toNat=1000000000000:=by decide
  refine⟨_,rfl,_,_,rfl,rfl,(by show (0:Int)<30;decide),_,rfl,_,_,rfl,rfl,(by show (0:Int)<40000;decide),_,rfl,_,_,rfl,rfl,(by show (0:Int)<19;decide),_,_,rfl,rfl,.inr ⟨by decide,by decide⟩,_,rfl,_,_,rfl,rfl,.inr ⟨by decide,by decide⟩,_,rfl,_,_,rfl,rfl,⟨by decide,by decide,by decide⟩,_,_,rfl,rfl,_,_,rfl,rfl,?_,_,_,rfl,rfl,⟨by decide,by decide,by decide⟩,z6 rfl,fun l H1 s1 n1' e1'=>?_⟩
  ·show (0:Int)<10 ^ (12:Int).toNat+1
   rw[p12]
   decide
  have w0:0≤(m*1000003+n)%(10 ^ (12:Int).toNat+1):=Cg _ (by rw[p12];decide)
  have w1:(m*1000003+n)%(10 ^ (12:Int).toNat+1)<1000000000001:=by
   rw[p12]
   exact Cr _ (by decide)
  obtain⟨v,ev,mv⟩:=vj (xs:=[V.int 0,.int (e%30),.int (e%40000),.int (e%19*5000),.int (e*50),.int ((m*1000003+n)%(10 ^ (12:Int).toNat+1)),.int (10 ^ (12:Int).toNat)]) (i:=m%7) (Cg _ (by decide)) (Cr _ (by decide))
  obtain⟨a,rfl,ha⟩:∃ a,v = .int a∧XC a:=by
   have f0:0≤e%30:=Cg _ (by decide)
   have f1:e%30<30:=Cr _ (by decide)
   have g0:0≤e%40000:=Cg _ (by decide)
   have g1:e%40000<40000:=Cr _ (by decide)
   generalize (m*1000003+n)%(10 ^ (12:Int).toNat+1)=x at w0 w1 mv
   rw[p12] at mv
   simp only[cU,cX,or_false] at mv
   rcases mv with rfl | rfl | rfl | rfl | rfl | rfl | rfl
   all_goals exact⟨_,rfl,by omega,by omega⟩
  exact⟨_,rfl,_,_,rfl,rfl,(by show (0:Int)<7;decide),l,_,_,_,rfl,rfl,zY.of e1',ev,q a H1 ha s1⟩
theorem Lw (F:qM K "_law_parts" "_law_parts" (zX 80) f fd) (C1:qR P w K mg base zQ 1 "_law_mixed" ["_law_cell","_law_k"] j9):zL P w K mg base zQ 2 f fd ["_law_cell","_law_k"] kq:=by
 have nd:(["_law_cell","_law_k","_law_number_here"]:List Str).Nodup:=by decide +kernel
 refine F.ok (N:=["_law_cell","_law_k","_law_number_here"]) (by walk_at"s") (fun vs H Q E h=>?_) (fun cdv A outer s H vs Q E hr h=>?_)
 ·obtain⟨c,k,rfl,_⟩:=h
  rfl
 ·obtain⟨c,k,rfl,q⟩:=h
  refine⟨_,(zg (zI (i:=2) nd rfl (Or.inl rfl) (zk C1 hr (by decide) zx (za (pv 0) (za (pv 1) zd))))
    (zh (zm (zC zA (zU (za ze (za ze (za ze (za ze (za ze (za ze (za ze (za ze (za (zt z9 (zt qW (pv 2) ze) ze) (za (zt z9 (zt qW (pv 2) ze) ze) zd))))))))))) (zt z9 (pv 2) ze))))),?_⟩
  refine⟨_,rfl,_,rfl,c,k,rfl,fun m m0 m1=>⟨_,rfl,_,_,rfl,rfl,⟨by decide,by decide⟩,_,_,rfl,rfl,(by show (0:Int)<20001;decide),_,rfl,_,_,rfl,rfl,⟨by decide,by decide⟩,_,_,rfl,rfl,(by show (0:Int)<300;decide),z6 rfl,fun l H1 s1 n1 e1=>?_⟩⟩
  obtain⟨v,ev,mv⟩:=vj (xs:=[V.int 0,.int 1,.int 5000,.int 2500,.int 10000,.int 20000,.int 19999,.int 625,.int (m/10%20001),.int (m/10%300)]) (i:=m%10) (Cg _ (by decide)) (Cr _ (by decide))
  obtain⟨a,rfl,ha⟩:∃ a,v = .int a∧Vz a:=by
   simp only[cU,cX,or_false] at mv
   have f0:0≤m/10%20001:=Cg _ (by decide)
   have f1:m/10%20001<20001:=Cr _ (by decide)
   have g0:0≤m/10%300:=Cg _ (by decide)
   have g1:m/10%300<300:=Cr _ (by decide)
   rcases mv with rfl | rfl | rfl | rfl | rfl | rfl | rfl | rfl | rfl | rfl
   all_goals exact⟨_,rfl,by omega,by omega⟩
  exact⟨_,rfl,_,_,rfl,rfl,(by show (0:Int)<10;decide),l,_,_,_,rfl,rfl,zY.of e1,ev,q a H1 ha s1⟩
theorem Ma (F:qM K "_law_way" "_law_way" (zX 81) f fd) (C1:qR P w K mg base zQ 1 "_law_mixed" ["_law_cell","_law_k"] j9):zL P w K mg base zQ 2 f fd ["_law_cell","_law_k"] V2:=by
 refine F.ok (N:=["_law_cell","_law_k"]) (by walk_at"s") (fun vs H Q E h=>?_) (fun cdv A outer s H vs Q E hr h=>?_)
 ·obtain⟨c,k,rfl,_⟩:=h
  rfl
 ·obtain⟨c,k,rfl,q⟩:=h
  refine⟨_,(zh (zm (zC zA (zU (za zj (za zj (za zj (za zj zd))))) (zt z9 (zt qW (zk C1 hr (by decide) zx (za (pv 0) (za (pv 1) zd))) ze) ze)))),?_⟩
  refine⟨z6 rfl,fun l H1 s1 n1 e1=>⟨_,rfl,_,rfl,c,k,rfl,fun m m0 m1=>?_⟩⟩
  obtain⟨x,ev,hw⟩:=Rj (i:=m/5%4) (Cg _ (by decide)) (Cr _ (by decide))
  exact⟨_,_,rfl,rfl,⟨by decide,by decide⟩,_,_,rfl,rfl,(by show (0:Int)<4;decide),l,_,_,_,rfl,rfl,zY.of e1,ev,q x H1 hw s1⟩
theorem Mp (F:qM K "_law_bases" "_law_bases" (zX 78) f fd) (G:jW mg) (C1:qR P w K mg base zQ 2 "_law_amount" ["_law_cell","_law_k"] Vy):zL P w K mg base zQ 3 f fd ["_law_cell","_law_many"] gi:=by
 have nd:(["_law_cell","_law_many","_law_found","_law_k","_law_amount_here"]:List Str).Nodup:=by decide +kernel
 refine F.ok (N:=["_law_cell","_law_many","_law_found","_law_k","_law_amount_here"]) (by walk_at"s") (fun vs H Q E h=>?_) (fun cdv A outer s H vs Q E hr h=>?_)
 ·obtain⟨c,n,rfl,_⟩:=h
  rfl
 ·obtain⟨c,n,rfl,nl,q⟩:=h
  refine⟨_,(zg (zI (i:=2) nd rfl (Or.inl rfl) (zU zd))
    (zg (vW PassesOwn.never rfl (yg rfl G.range (za (pv 1) zd)) (z5 (i:=3) nd rfl (Or.inl rfl)) (zg (zI (i:=4) nd rfl (Or.inl rfl) (zk C1 hr (by decide) zx (za (pv 0) (za (zt qk ze (pv 3)) zd))))
    (jf (zK (zw qh (zt z9 (pv 0) ze) ze (zD _)) (zh (zI (i:=4) nd rfl (Or.inl rfl) (zt z9 (pv 4) ze))) zB)
    (zh (qb (qY PySem.F.plainAttrs_list PySem.F.slot_list_append PySem.F.type_list_append jm (pv 2) (za (pv 4) zd)))))))
    (zh (zm (pv 2))))),?_⟩
  refine⟨z6 rfl,fun l H1 s1 n1 e1=>⟨_,rfl,_,rfl,by omega,by omega,ji (fun i σ H'=>∃ x3 x4,∃ bs:List Int,tq (σ = [some (.int c),some (.int (n:Nat)),some (.ref l),x3,x4]) (zu H H') (H' l=some (.lst (bs.map V.int))) (bs.length=i∧Lo bs)) ⟨_,_,[],rfl,s1,e1,rfl,fun b h=>nomatch h⟩ ?_ ?_⟩⟩
  ·rintro i σ H2 hi ⟨x3,x4,bs,rfl,s2,e2,bl,bn⟩ E2 k2
   rw[CD] at hi
   refine⟨_,rfl,_,rfl,_,_,rfl,rfl,c,_,rfl,fun a H3 ha s3=>?_⟩
   refine jX (fun σ H'=>∃ a,σ = [some (.int c),some (.int (n:Nat)),some (.ref l),some (.int (0+(i:Nat))),some (.int a)]∧0≤a∧H'=H3) (fun En kk=>?_) ?_
   ·refine⟨_,rfl,_,_,rfl,rfl,(by show (0:Int)<4;decide),rfl,_,rfl,qi (fun _=>?_) (fun _=>?_)⟩
    ·exact⟨_,rfl,_,_,rfl,rfl,(by show (0:Int)<9;decide),kk _ _ ⟨_,rfl,Cg _ (by decide),rfl⟩⟩
    ·exact kk _ _ ⟨_,rfl,ha.1,rfl⟩
   ·rintro σ H4 ⟨a,rfl,a0,rfl⟩
    have e4:=s3 _ _ e2
    refine⟨_,rfl,.inl ⟨rfl,_,zY.of e4⟩,_,rfl,l,_,_,rfl,rfl,e4,?_,?_⟩
    ·rw[cN,bl,sizeLine_eq]
     omega
    ·refine k2 _ _ ⟨_,_,bs++[a],rfl,fun b o hb=>?_,?_,?_,fun b hb=>?_⟩
     ·rw[zG (zP hb n1)]
      exact s3 _ _ (s2 _ _ hb)
     ·rw[zq,Ci]
      rfl
     ·rw[Cb,bl]
      rfl
     ·rcases CM.mp hb with hb | hb
      ·exact bn b hb
      ·rw[Co.mp hb]
       exact a0
  ·rintro σ H2 ⟨x3,x4,bs,rfl,s2,e2,bl,bn⟩
   rw[CD] at bl
   exact⟨_,rfl,q bs l H2 bl bn s2 n1 e2⟩
theorem MK (F:qM K "_law_rounded" "_law_rounded" (zX 85) f fd) (G:jW mg):zL P w K mg base zQ 1 f fd ["_law_number_here","_law_way_here"] gW:=by
 have nd:(["_law_number_here","_law_way_here","_law_whole_here","_law_rest"]:List Str).Nodup:=by decide +kernel
 refine F.ok (N:=["_law_number_here","_law_way_here","_law_whole_here","_law_rest"]) (by walk_at"s") (fun vs H Q E h=>?_) (fun cdv A outer s H vs Q E hr h=>?_)
 ·obtain⟨c,k,rfl,_⟩:=h
  rfl
 ·obtain⟨z,x,rfl,z0,q⟩:=h
  refine⟨_,(zg (zI (i:=2) nd rfl (Or.inl rfl) (zt qW (pv 0) ze))
    (zg (zI (i:=3) nd rfl (Or.inl rfl) (zt Zj (pv 0) (zt ya (pv 2) ze)))
    (zg (zK (zw qh (pv 1) zj (zD _)) (zh (zm (pv 2))) zB)
    (zg (zK (zw qh (pv 1) zj (zD _)) (zh (zm (zt qk (pv 2) (z8 Zv rfl G.int jt (za (qj y6 (pv 3) ze (zD _)) zd))))) zB)
    (zg (zK (zw qh (pv 1) zj (zD _)) (zh (zm (zt qk (pv 2) (z8 Zv rfl G.int jt (za (qj tI (pv 3) ze (zD _)) zd))))) zB)
    (zh (zm (zt qk (pv 2) (z8 Zv rfl G.int jt (za (Nk (qj y6 (pv 3) ze (zD _)) (yL (yK (qj qh (pv 3) ze (zD _)) (yL (qj qh (zt z9 (pv 2) ze) ze (zD _)))))) zd)))))))))),?_⟩
  rw[← L8 z0] at q
  unfold Xh at q
  refine⟨_,rfl,_,_,rfl,rfl,⟨by decide,by decide⟩,_,rfl,_,rfl,_,_,rfl,rfl,.inr ⟨by decide,by decide⟩,_,_,rfl,rfl,?_⟩
  have er:z - z/10000*10000=z%10000:=by omega
  dsimp only
  rw[er]
  refine⟨_,rfl,rfl,_,rfl,qi (fun e=>?_) (fun e=>?_)⟩
  ·rw[ZT] at e
   rw[if_pos e] at q
   exact⟨_,rfl,q⟩
  rw[ZT] at e
  rw[if_neg e] at q
  refine⟨_,rfl,rfl,_,rfl,qi (fun e=>?_) (fun e=>?_)⟩
  ·rw[ZT] at e
   rw[if_pos e] at q
   refine⟨_,rfl,_,rfl,_,_,rfl,rfl,.inr ⟨_,rfl,_,_,rfl,rfl,?_⟩⟩
   simpa only [decide_eq_true_eq] using q
  rw[ZT] at e
  rw[if_neg e] at q
  refine⟨_,rfl,rfl,_,rfl,qi (fun e=>?_) (fun e=>?_)⟩
  ·rw[ZT] at e
   rw[if_pos e] at q
   refine⟨_,rfl,_,rfl,_,_,rfl,rfl,.inr ⟨_,rfl,_,_,rfl,rfl,?_⟩⟩
   simpa only [decide_eq_true_eq] using q
  rw[ZT] at e
  rw[if_neg e] at q
  refine⟨_,rfl,_,rfl,_,_,rfl,rfl,_,rfl,qi (fun e=>?_) (fun e=>?_)⟩
  ·have e:=of_decide_eq_true e
   rw[if_pos (.inl e)] at q
   exact .inr ⟨_,rfl,_,_,rfl,rfl,q⟩
  ·have e:¬ 5000<z%10000:=fun c=>e (decide_eq_true c)
   refine⟨_,rfl,rfl,_,rfl,qi (fun e2=>?_) (fun e2=>?_)⟩
   ·rw[kE] at e2
    refine⟨_,rfl,_,_,rfl,rfl,(by show (0:Int)<2;decide),rfl,.inr ⟨_,rfl,_,_,rfl,rfl,?_⟩⟩
    rw[T9]
    by_cases e3:z/10000%2=1
    ·rw[if_pos (.inr ⟨e2,e3⟩)] at q
     rw[decide_eq_true e3,if_pos rfl]
     exact q
    ·rw[if_neg (by omega)] at q
     rw[decide_eq_false e3,if_neg Cm]
     exact q
   ·rw[kE] at e2
    rw[if_neg (by omega)] at q
    exact .inr ⟨_,rfl,_,_,rfl,rfl,q⟩
set_option maxHeartbeats 8000000 in
theorem Lz (F:qM K "_law_names" "_law_names" (zX 79) f fd) (G:jW mg) (C1:qR P w K mg base zQ 1 "_law_mixed" ["_law_cell","_law_k"] j9):zL P w K mg base zQ 2 f fd ["_law_cell","_law_many"] gH:=by
 have nd:(["_law_cell","_law_many","_law_letters","_law_some","_law_number_here","_law_frame","_law_at","_law_size","_law_signs","_law_words"]:List Str).Nodup:=by decide +kernel
 have nc6:(["_law_j","_law_some","_law_cell"]:List Str).Nodup:=by decide +kernel
 have nc4:(["_law_k","_law_letters","_law_number_here"]:List Str).Nodup:=by decide +kernel
 have nc3:(["_law_sign","_law_frame","_law_at","_law_size"]:List Str).Nodup:=by decide +kernel
 have nc2:(["_law_k","_law_frame"]:List Str).Nodup:=by decide +kernel
 have nc1:(["_law_k","_law_words","_law_number_here"]:List Str).Nodup:=by decide +kernel
 refine F.ok (N:=["_law_cell","_law_many","_law_letters","_law_some","_law_number_here","_law_frame","_law_at","_law_size","_law_signs","_law_words"]) (by walk_at"s") (fun vs H Q E h=>?_) (fun cdv A outer s H vs Q E hr h=>?_)
 ·obtain⟨c,n,rfl,_⟩:=h
  rfl
 ·obtain⟨c,n,rfl,n8,q⟩:=h
  refine' ⟨_,(zg (zI (i:=2) nd rfl (Or.inr rfl) zj)
    (zg (zI (i:=3) nd rfl (Or.inr rfl) zj)
    (zg (zI (i:=4) nd rfl (Or.inr rfl) (zk C1 hr (by decide) zx (za (pv 0) (za ze zd))))
    (zg (zI (i:=5) nd rfl (Or.inr rfl) (qY PySem.F.plainAttrs_str PySem.F.slot_str_join PySem.F.type_str_join yB zj (za ?comp_6 zd)))
    (zg (zI (i:=6) nd rfl (Or.inr rfl) (zt z9 (zt qW (pv 4) ze) ze))
    (zg (zI (i:=7) nd rfl (Or.inr rfl) (zt qk (pv 6) (zt z9 (zt qW (pv 4) ze) (zt Zj ze (pv 6)))))
    (zg (zK (zw qh (zt z9 (pv 4) ze) ze (zD _)) (zg ?comp_4
    (zh (zm ?comp_3))) zB)
    (zg (zK (zw qh (zt z9 (pv 4) ze) ze (zD _)) (zh (zm ?comp_2)) zB)
    (zg (zI (i:=9) nd rfl (Or.inr rfl) (zU (za zj (za zj (za zj (za zj (za zj (za zj (za zj (za zj (za zj (za zj zd))))))))))))
    (zh (zm ?comp_1))))))))))),?main⟩
  case comp_6 =>
   refine' qv (Nc:=["_law_j","_law_some","_law_cell"]) (cl:=[("_law_some",s.heap.objs.size+3),("_law_cell",s.heap.objs.size+1)]) (src:=[none,some 3,some 0]) (wi:=Ju (qX (tC (.int 7)) jy)) (g:=qx 0) (tt:=yb) (te:=jV Nz (qd 1) (jV (rI (fun _ j=>0<j) fun i j=>.int (i%j)) (fun σ H Q=>qX (qd 2) (qX (jV (WS fun i j=>.int (i+j)) (tC (.int 120)) (qd 0)) jy) σ H fun vs H1=>j9 vs H1 Q E0) (tC (.int 21))))
    (by walk_at"c1") rfl (yg rfl G.range (za ze zd)) ?hb
   case hb =>
    intro fp C' s' H'
    exact⟨z5 (i:=0) nc6 rfl (Or.inl rfl),qP,zC xh (pv 1) (zt z9 (zk C1 hr (by decide) zx (za (pv 2) (za (zt qk ze (pv 0)) zd))) ze)⟩
  case comp_4 =>
   refine' Z7 (i:=8) (Nc:=["_law_k","_law_letters","_law_number_here"]) (cl:=[("_law_number_here",s.heap.objs.size+4),("_law_letters",s.heap.objs.size+2)]) (src:=[none,some 2,some 4]) (wi:=Ju (qX (qd 1) jy)) (g:=qx 0) (tt:=yb) (te:=jV Nz (qd 1) (jV (rI (fun _ j=>0<j) fun i j=>.int (i%j)) (jV (WS fun i j=>.int (i+j)) (jV (rI rT fun i j=>.int (i/j)) (qd 2) (tC (.int 200))) (jV (rI OI fun i j=>.int (i*j)) (tC (.int 3)) (qd 0))) (tC (.int 26)))) nd rfl rfl
    (by walk_at"c1") rfl (yg rfl G.range (za (pv 1) zd)) ?hb
   case hb =>
    intro fp C' s' H'
    exact⟨z5 (i:=0) nc4 rfl (Or.inl rfl),qP,zC xh (pv 1) (zt z9 (zt qk (zt qW (pv 2) ze) (zt ya ze (pv 0))) ze)⟩
  case comp_3 =>
   refine' qv (Nc:=["_law_sign","_law_frame","_law_at","_law_size"]) (cl:=[("_law_size",s.heap.objs.size+7),("_law_frame",s.heap.objs.size+5),("_law_at",s.heap.objs.size+6)]) (src:=[none,some 5,some 6,some 7]) (wi:=Jw K (qd 8)) (g:=qx 0) (tt:=yb) (te:=jV (fun x y H Q=>∃ i j:Str,x = .str i∧y = .str j∧i.length+j.length≤sizeLine∧Q (.str (i++j)) H) (jV (fun x y H Q=>∃ i j:Str,x = .str i∧y = .str j∧i.length+j.length≤sizeLine∧Q (.str (i++j)) H) (RP mP (qd 1) ku (Qi (qd 2))) (qd 0)) (RP mP (qd 1) (Qi (qd 2)) (Qi (qd 3))))
    ⟨rfl,rfl,by decide +kernel,by decide +kernel,uR (oK rfl (oK rfl (UF rfl))),qT (by rfl),qa (yh ⟨_,rfl,rfl,rfl,rfl⟩ (yh ⟨_,rfl,rfl,rfl,rfl⟩ (yh ⟨_,rfl,rfl,rfl,rfl⟩ qu))),rfl⟩ rfl (j7 (pv 8)) ?hb
   case hb =>
    intro fp C' s' H'
    exact⟨z5 (i:=0) nc3 rfl (Or.inl rfl),qP,zt zM (zt zM (qp um (pv 1) qL (qC (pv 2))) (pv 0)) (qp um (pv 1) (qC (pv 2)) (qC (pv 3)))⟩
  case comp_2 =>
   refine' qv (Nc:=["_law_k","_law_frame"]) (cl:=[("_law_frame",s.heap.objs.size+5)]) (src:=[none,some 5]) (wi:=Ju (qX (qd 1) jy)) (g:=qx 0) (tt:=yb) (te:=RP mP (jV (fun x y H Q=>∃ i j:Str,x = .str i∧y = .str j∧i.length+j.length≤sizeLine∧Q (.str (i++j)) H) (tC (.str "q")) (qd 1)) ku (Qi (jV (WS fun i j=>.int (i+j)) (tC (.int 1)) (qd 0))))
    (by walk_at"c2") rfl (yg rfl G.range (za (pv 1) zd)) ?hb
   case hb =>
    intro fp C' s' H'
    exact⟨z5 (i:=0) nc2 rfl (Or.inl rfl),qP,qp um (zt zM zj (pv 1)) qL (qC (zt qk ze (pv 0)))⟩
  case comp_1 =>
   refine' qv (Nc:=["_law_k","_law_words","_law_number_here"]) (cl:=[("_law_words",s.heap.objs.size+8),("_law_number_here",s.heap.objs.size+4)]) (src:=[none,some 9,some 4]) (wi:=Ju (qX (qd 1) jy)) (g:=qx 0) (tt:=yb) (te:=jV (MS K) (qd 1) (jV (rI (fun _ j=>0<j) fun i j=>.int (i%j)) (jV (WS fun i j=>.int (i+j)) (jV (rI rT fun i j=>.int (i/j)) (qd 2) (tC (.int 3))) (qd 0)) (tC (.int 10))))
    (by walk_at"c1") rfl (yg rfl G.range (za (pv 1) zd)) ?hb
   case hb =>
    intro fp C' s' H'
    exact⟨z5 (i:=0) nc1 rfl (Or.inl rfl),qP,zC zA (pv 1) (zt z9 (zt qk (zt qW (pv 2) ze) (pv 0)) ze)⟩
  walk_at"d3"
  have rl:∀ m:Nat,((List.range m).map fun k=>V.int (0+((k:Nat):Int))).length=(List.range m).length:=fun m=>cN _
  refine⟨_,rfl,c,_,rfl,fun u u0 u1=>?_⟩
  refine⟨rfl,7,rfl,by decide,by decide,fun D hD=>?_⟩
  refine u5 (uV (n:=7)) (rl 7) hD (by rw[CG,sizeLine_eq];decide) (fun v _=>∃ d,v = .str ⟨#[d]⟩∧Z0 d=true) (fun i x v hx hv H1 R s1 r=>?_) (fun zs H1 s1 zl zr e1=>?_)
  ·rw[cW] at hv
   obtain⟨k,hk,rfl⟩:=Cu.mp hv
   refine⟨_,rfl,_,rfl,_,rfl,_,_,rfl,rfl,c,_,rfl,fun m m0 m1=>?_⟩
   obtain⟨d,d1,d2⟩:=Tp (i:=m%21) (Cg _ (by decide)) (Cr _ (by decide))
   exact⟨_,_,rfl,rfl,(by show (0:Int)<21;decide),_,_,d,rfl,rfl,uq (m:=21) (by decide +kernel) rfl,d1,r _ _ ⟨d,rfl,d2⟩ (zu.refl _)⟩
  obtain⟨fs,rfl,fa⟩:=Pj (ny zr)
  have fl:fs.length=7:=by
   rw[cN,cN,CG] at zl
   exact zl
  have jo:=(yx (sep:="") (zs:=fs.map fun c=>(⟨#[c]⟩:Str)) (m:=1) (k:=7) (fun z hz=>by obtain⟨_,_,rfl⟩:=Cp.mp hz;exact cP _) (by rw[cN,fl];exact cP _) (by decide +kernel) rfl).1
  refine⟨_,_,D,rfl,rfl,zY.of e1,jo,?_⟩
  have zc:=xA fs
  generalize Txt.join ("":Str) (fs.map fun c=>(⟨#[c]⟩:Str))=z at zc
  clear jo zl zr e1 hD
  have zl:z.length=7:=by rw[qg,zc,fl]
  have a0:0≤u/3%8:=Cg _ (by decide)
  have a1:u/3%8<8:=Cr _ (by decide)
  refine⟨_,rfl,_,_,rfl,rfl,⟨by decide,by decide⟩,_,_,rfl,rfl,(by show (0:Int)<8;decide),?_⟩
  dsimp only
  obtain⟨at',hat⟩:=d4 a0
  rw[hat] at a0 a1 ⊢
  have b0:0≤u/24%(8 - (at':Int)):=Cg _ (by omega)
  have b1:u/24%(8 - (at':Int))<8 - (at':Int):=Cr _ (by omega)
  refine⟨_,rfl,_,rfl,_,_,rfl,rfl,⟨by decide,by decide⟩,_,rfl,_,_,rfl,rfl,_,_,rfl,rfl,(by show (0:Int)<8 - (at':Int);omega),_,_,rfl,rfl,?_⟩
  dsimp only
  obtain⟨sz,hsz⟩:∃ sz:Nat,(at':Int)+u/24%(8 - (at':Int))=sz:=⟨(at':Int).toNat+(u/24%(8 - (at':Int))).toNat,by omega⟩
  have sz1:at'≤sz:=by omega
  have sz2:sz≤7:=by omega
  rw[hsz]
  clear hsz b0 b1 hat a0
  refine⟨_,rfl,_,_,rfl,rfl,(by show (0:Int)<3;decide),rfl,_,rfl,qi (fun _=>?_) (fun _=>?_)⟩
  ·refine⟨_,rfl,_,rfl,by omega,by omega,fun D hD=>?_⟩
   rw[CD]
   refine u5 (uV (n:=n)) (rl n) hD (by rw[CG,sizeLine_eq];omega) (fun v k=>v = .str ⟨#[97+((u/200+3*(k:Nat))%26).toNat]⟩) (fun i x v hx hv H2 R s2 r=>?_) (fun zs H2 s2 zsl zr e2=>?_)
   ·rw[cW,hx] at hv
    cases hv
    have d1:=xk (i:=(u/200+3*(0+(x:Int)))%26) (Cg _ (by decide)) (Cr _ (by decide))
    exact⟨_,rfl,_,rfl,_,_,rfl,rfl,⟨by decide,by decide⟩,_,rfl,_,_,rfl,rfl,.inl ⟨by decide,by decide⟩,_,_,rfl,rfl,_,_,rfl,rfl,(by show (0:Int)<26;decide),_,_,_,rfl,rfl,Wx,d1,r _ _ (by rw[dR]) (zu.refl _)⟩
   rw[CG] at zsl
   refine⟨_,rfl,D,rfl,⟨_,zY.of e2⟩,fun D3 hD3=>?_⟩
   refine u5 (xs:=List.range n) (vg (zY.of e2)) (by rw[zsl,CG]) hD3 (by rw[CG,sizeLine_eq];omega) (fun v k=>∃ y,v = .str y∧yu y∧y.cps.toList[at']? = some (97+((u/200+3*(k:Nat))%26).toNat)) (fun i x v hx hv H3 R s3 r=>?_) (fun ws H3 s3 wl wr e3=>?_)
   ·obtain⟨x',hx',rfl⟩:=zr i v hv
    rw[hx] at hx'
    cases hx'
    obtain⟨d,hde⟩:∃ d,d=97+((u/200+3*(x:Nat))%26).toNat:=⟨_,rfl⟩
    have hd:Zg d=true:=by
     have h0:0≤(u/200+3*(x:Nat))%26:=Cg _ (by decide)
     have h1:(u/200+3*(x:Nat))%26<26:=Cr _ (by decide)
     unfold Zg
     rw[cQ]
     exact⟨decide_eq_true (by omega),decide_eq_true (by omega)⟩
    rw[← hde] at r ⊢
    have zf:z.length≤sizeLine:=uq (m:=7) (by omega) rfl
    have sl:∀ lo hi,(Txt.slice z lo hi).length≤7:=fun lo hi=>cZ (Txt.slice_le z lo hi) (by omega)
    have o1:(⟨#[d]⟩:Str).length≤1:=cP _
    refine⟨_,rfl,_,rfl,_,rfl,_,rfl,zf,_,rfl,_,_,rfl,rfl,tE (sl _ _) o1 rfl,_,rfl,_,rfl,_,rfl,_,rfl,_,rfl,_,rfl,zf,_,_,rfl,rfl,tE (NB (sl _ _) o1) (sl _ _) rfl,r _ _ ⟨_,rfl,Ga fa fl hd sz1 sz2 ?_,?_⟩ (zu.refl _)⟩
    ·rw[yp,yp,ko,mr _ _ _ (by rw[zc,fl];exact sz2) sz1,zc]
    ·rw[yp,yp,ko,zc]
     have tl:(fs.take at').length=at':=by rw[Cz];omega
     rw[Da,dP (by rw[tl];exact cP _),tl,DC]
     rfl
   obtain⟨nms,rfl,hn,ht⟩:=QD wr
   rw[cN,CG] at wl
   refine q nms D3 H3 wl hn (Qu ht fun i j z hi hj h1 h2=>?_) (s1.trans (s2.trans s3)) (s1.free (s2.free hD3)) e3
   rw[wl] at hi hj
   rw[h1] at h2
   have h2:=Option.some.inj h2
   have a0:0≤(u/200+3*(i:Nat))%26:=Cg _ (by decide)
   have a1:0≤(u/200+3*(j:Nat))%26:=Cg _ (by decide)
   omega
  refine⟨_,rfl,_,_,rfl,rfl,(by show (0:Int)<3;decide),rfl,_,rfl,qi (fun _=>?_) (fun _=>?_)⟩
  ·refine⟨_,rfl,_,rfl,by omega,by omega,fun D hD=>?_⟩
   rw[CD]
   refine u5 (uV (n:=n)) (rl n) hD (by rw[CG,sizeLine_eq];omega) (fun v k=>∃ y,v = .str y∧yu y∧y.cps.toList.length=min (k+1) 8) (fun i k v hx hv H2 R s2 r=>?_) (fun zs H2 s2 zsl zr e2=>?_)
   ·rw[cW,hx] at hv
    cases hv
    have q1:("q":Str).length=1:=by decide +kernel
    refine⟨_,rfl,_,_,rfl,rfl,uq (m:=8) (by rw[q1,zl];decide) rfl,_,rfl,_,_,rfl,rfl,_,rfl,_,rfl,uq (m:=8) (by rw[qe,q1,zl];decide) rfl,r _ _ ⟨_,rfl,MF (k:=k) fa fl ?_,?_⟩ (zu.refl _)⟩
    ·rw[show (1:Int)+(0+(k:Int))=((k+1:Nat):Int) by omega,ko,yp,zc,show ("q":Str).cps.toList=[113] by decide +kernel]
     rfl
    ·rw[show (1:Int)+(0+(k:Int))=((k+1:Nat):Int) by omega,ko,yp,zc,show ("q":Str).cps.toList=[113] by decide +kernel,Cz]
     show min (k+1) (fs.length+1)=_
     rw[fl]
   obtain⟨nms,rfl,hn,ht⟩:=QD zr
   rw[cN,CG] at zsl
   refine q nms D H2 zsl hn (Qu ht fun i j z hi hj h1 h2=>?_) (s1.trans s2) (s1.free hD) e2
   omega
  refine⟨z6 rfl,fun lw H2 s2 n2 e2=>?_⟩
  refine⟨_,rfl,_,rfl,by omega,by omega,fun D hD=>?_⟩
  rw[CD]
  refine u5 (uV (n:=n)) (rl n) hD (by rw[CG,sizeLine_eq];omega) (fun v k=>∃ y,v = .str y∧yu y∧okNames[((u/3+(k:Nat))%10).toNat]? = some y) (fun i k v hx hv H3 R s3 r=>?_) (fun zs H3 s3 zsl zr e3=>?_)
  ·rw[cW,hx] at hv
   cases hv
   have i0:0≤(u/3+(0+(k:Int)))%10:=Cg _ (by decide)
   have i1:(u/3+(0+(k:Int)))%10<10:=Cr _ (by decide)
   obtain⟨y,hy⟩:∃ y,okNames[((u/3+(0+(k:Int)))%10).toNat]? = some y:=⟨_,Ca (show _<10 by omega)⟩
   have ev:ZI (okNames.map V.str) ((u/3+(0+(k:Int)))%10)=some (.str y):=XN i0 (by rw[cW,hy];rfl)
   have hm:=CS hy
   exact⟨_,rfl,_,rfl,_,_,rfl,rfl,⟨by decide,by decide⟩,_,rfl,_,_,rfl,rfl,_,_,rfl,rfl,(by show (0:Int)<10;decide),lw,_,_,_,rfl,rfl,zY.of (s3 _ _ e2),ev,r _ _ ⟨y,rfl,xY y hm,by rw[dR] at hy;exact hy⟩ (zu.refl _)⟩
  obtain⟨nms,rfl,hn,ht⟩:=QD zr
  rw[cN,CG] at zsl
  refine q nms D H3 zsl hn (Qu ht fun i j z hi hj h1 h2=>?_) (s1.trans (s2.trans s3)) (s1.free (s2.free hD)) e3
  rw[zsl] at hi hj
  have e:=RI h1 h2
  have a0:0≤(u/3+(i:Nat))%10:=Cg _ (by decide)
  have a1:0≤(u/3+(j:Nat))%10:=Cg _ (by decide)
  omega
set_option maxHeartbeats 4000000 in
theorem mm (F:qM K "_law_pairs" "_law_pairs" (zX 82) f fd) (G:jW mg) (C1:qR P w K mg base zQ 1 "_law_mixed" ["_law_cell","_law_k"] j9) (C2:qR P w K mg base zQ 2 "_law_parts" ["_law_cell","_law_k"] kq):zL P w K mg base zQ 3 f fd ["_law_cell"] X0:=by
 have nd:(["_law_cell","_law_number_here","_law_pairs_here","_law_k","_law_more","_law_step"]:List Str).Nodup:=by decide +kernel
 refine F.ok (N:=["_law_cell","_law_number_here","_law_pairs_here","_law_k","_law_more","_law_step"]) (by walk_at"s") (fun vs H Q E h=>?_) (fun cdv A outer s H vs Q E hr h=>?_)
 ·obtain⟨c,rfl,_⟩:=h
  rfl
 ·obtain⟨c,rfl,q⟩:=h
  refine⟨_,(zg (zI (i:=1) nd rfl (Or.inl rfl) (zk C1 hr (by decide) zx (za (pv 0) (za ze zd))))
    (zg (zI (i:=2) nd rfl (Or.inl rfl) (zU (za (yA (za ze (za (zk C2 hr (by decide) zx (za (pv 0) (za ze zd))) zd))) zd)))
    (zg (vW PassesOwn.never rfl (yg rfl G.range (za (zC zA (zU (za ze (za ze (za ze (za ze (za ze (za (zt z9 (zt qW (pv 1) ze) ze) zd))))))) (zt z9 (pv 1) ze)) zd)) (z5 (i:=3) nd rfl (Or.inl rfl)) (zg (zI (i:=4) nd rfl (Or.inl rfl) (zk C1 hr (by decide) zx (za (pv 0) (za (zt qk ze (pv 3)) zd))))
    (zg (zI (i:=5) nd rfl (Or.inl rfl) (zC zA (zU (za ze (za (zt qk ze (zt z9 (zt qW (pv 4) ze) ze)) (za (zt ya (pv 4) ze) (za (zt qk (zt ya (zt z9 (zt qW (pv 4) ze) ze) ze) ze) (za (zt qk ze (zt ya (zt qW (pv 4) ze) ze)) zd)))))) (zt z9 (pv 4) ze)))
    (zh (zK (zw Wg (zt qk (zC zT (zC zA (pv 2) (WQ QG ze)) ze) (pv 5)) (zt Zl ze ze) (zD _)) (zh (qb (qY PySem.F.plainAttrs_list PySem.F.slot_list_append PySem.F.type_list_append jm (pv 2) (za (yA (za (zt qk (zC zT (zC zA (pv 2) (WQ QG ze)) ze) (pv 5)) (za (zk C2 hr (by decide) zx (za (pv 0) (za (zt qk ze (pv 3)) zd))) zd))) zd)))) zB)))))
    (zh (zm (z8 y9 rfl G.tuple yy (za (pv 2) zd))))))),?_⟩
  refine⟨_,rfl,c,_,rfl,fun m m0 m1=>⟨_,rfl,c,_,rfl,fun p H1 hp s1=>⟨z6 rfl,fun t H2 s2 n2 e2=>⟨z6 rfl,fun l H3 s3 n3 e3=>?_⟩⟩⟩⟩
  have T3:qq H3 [V.ref t] ([((0:Int),p)].map cB):=qq.snoc qq.nil (s3 _ _ e2)
  have S3:=s1.trans (s2.trans s3)
  have l0:H l=none:=kI (s1.trans s2) n3
  refine⟨_,rfl,_,_,rfl,rfl,⟨by decide,by decide⟩,_,_,rfl,rfl,(by show (0:Int)<12;decide),z6 rfl,fun g H4 s4 n4 e4=>?_⟩
  obtain⟨v,ev,mv⟩:=vj (xs:=[V.int 0,.int 1,.int 2,.int 3,.int 11,.int (m/30%12)]) (i:=m%6) (Cg _ (by decide)) (Cr _ (by decide))
  obtain⟨n,rfl,h0,h1⟩:∃ n,v = .int n∧0≤n∧n≤11:=by
   simp only[cU,cX,or_false] at mv
   rcases mv with rfl | rfl | rfl | rfl | rfl | rfl
   all_goals exact⟨_,rfl,by omega,by omega⟩
  refine⟨_,rfl,_,_,rfl,rfl,(by show (0:Int)<6;decide),g,_,_,_,rfl,rfl,zY.of e4,ev,n,rfl,by omega,by omega,ji (fun i σ H'=>∃ x3 x4 x5,∃ ps ys,tq (σ = [some (.int c),some (.int m),some (.ref l),x3,x4,x5]) (zu H H') (H' l=some (.lst ys)∧qq H' ys (ps.map cB)) (oW ps i)) ⟨_,_,_,_,_,rfl,S3.trans s4,⟨s4 _ _ e3,T3.same s4⟩,.one hp⟩ ?_ ?_⟩
  ·rintro i σ H5 hi ⟨x3,x4,x5,ps,ys,rfl,s5,⟨e5,T5⟩,bi⟩ E5 k5
   refine⟨_,rfl,_,rfl,_,_,rfl,rfl,c,_,rfl,fun a a0 a1=>?_⟩
   refine⟨_,rfl,_,_,rfl,rfl,⟨by decide,by decide⟩,_,_,rfl,rfl,(by show (0:Int)<20;decide),_,_,rfl,rfl,_,rfl,_,_,rfl,rfl,.inr ⟨by decide,by decide⟩,_,rfl,_,_,rfl,rfl,⟨by decide,by decide⟩,_,_,rfl,rfl,(by show (0:Int)<9;decide),_,_,rfl,rfl,.inr ⟨by decide,by decide⟩,_,_,rfl,rfl,_,rfl,_,_,rfl,rfl,⟨by decide,by decide⟩,_,_,rfl,rfl,.inr ⟨by decide,by decide⟩,_,_,rfl,rfl,z6 rfl,fun g6 H6 s6 n6 e6=>?_⟩
   obtain⟨v6,ev6,mv6⟩:=MC (a:=V.int 1) (b:=.int (2+a/5%20)) (c:=.int (a*30)) (d:=.int (a/5%9*5000+1)) (e:=.int (1+a/5*200000)) (i:=a%5) (Cg _ (by decide)) (Cr _ (by decide))
   obtain⟨st,rfl,st1⟩:∃ st,v6 = .int st∧1≤st:=by
    rcases mv6 with ⟨h,rfl⟩ | ⟨h,rfl⟩ | ⟨h,rfl⟩ | ⟨h,rfl⟩ | ⟨h,rfl⟩
    all_goals exact⟨_,rfl,by omega⟩
   obtain⟨qs,z,rfl⟩:=bi.last
   have T6:=T5.same s6
   have e6':=s6 _ _ e5
   obtain⟨b,eb,hb⟩:=pK T6
   refine⟨_,rfl,_,_,rfl,rfl,(by show (0:Int)<5;decide),g6,_,_,_,rfl,rfl,zY.of e6,ev6,?_⟩
   have p12:(10:Int) ^ (12:Int).toNat=1000000000000:=by decide
   refine⟨_,rfl,_,rfl,l,_,_,_,rfl,rfl,zY.of e6',eb,b,_,_,_,rfl,rfl,qw.of hb,rfl,_,rfl,_,_,rfl,rfl,_,_,rfl,rfl,⟨by decide,by decide,by decide⟩,_,_,rfl,rfl,_,rfl,qi (fun e=>?_) (fun e=>?_)⟩
   ·have e:=of_decide_eq_true e
    rw[p12] at e
    refine⟨_,rfl,.inl ⟨rfl,_,zY.of e6'⟩,_,rfl,_,rfl,l,_,_,_,rfl,rfl,zY.of e6',eb,b,_,_,_,rfl,rfl,qw.of hb,rfl,_,rfl,_,_,rfl,rfl,_,rfl,_,rfl,_,_,rfl,rfl,c,_,rfl,fun p2 H7 hp2 s7=>⟨z6 rfl,fun t2 H8 s8 n8 e8=>?_⟩⟩
    have e8l:=s8 _ _ (s7 _ _ e6')
    have fw:=bi.few
    refine⟨l,_,_,rfl,rfl,e8l,?_,?_⟩
    ·rw[T5.len,cN,sizeLine_eq]
     have:i<n.toNat:=hi
     omega
    ·refine k5 _ _ ⟨_,_,_,qs++[z]++[(z.1+st,p2)],_,rfl,fun x o hx=>?_,⟨zq,?_⟩,bi.snoc st1 e hp2⟩
     ·rw[zG (zP hx l0)]
      exact s8 _ _ (s7 _ _ (s6 _ _ (s5 _ _ hx)))
     ·rw[Ci]
      exact UE ((T6.same s7)) (s7 _ _ e6') s8 e8
   ·exact k5 _ _ ⟨_,_,_,_,_,rfl,s5.trans s6,⟨e6',T6⟩,bi.mono⟩
  ·rintro σ H5 ⟨x3,x4,x5,ps,ys,rfl,s5,⟨e5,T5⟩,bi⟩
   refine⟨_,rfl,l,_,rfl,.inl ⟨zY.of e5,fun u u0=>?_⟩⟩
   have su:zu H5 (upd H5 u (.tup ys)):=zu.upd u0
   exact q u ps _ (bi.done (by omega)) (s5.trans su) ⟨ys,zq,T5.same su⟩
theorem LZ (F:qM K "_law_plain" "_law_plain" (zX 83) f fd) (C1:qR P w K mg base zQ 2 "_law_amount" ["_law_cell","_law_k"] Vy) (C2:qR P w K mg base zQ 2 "_law_parts" ["_law_cell","_law_k"] kq) (C3:qR P w K mg base zQ 2 "_law_way" ["_law_cell","_law_k"] V2) (C4:qR P w K mg base zQ 3 "_law_pairs" ["_law_cell"] X0):zL P w K mg base zQ 4 f fd ["_law_cell","_law_name","_law_kind"] Vl:=by
 refine F.ok (N:=["_law_cell","_law_name","_law_kind"]) (by walk_at"s") (fun vs H Q E h=>?_) (fun cdv A outer s H vs Q E hr h=>?_)
 ·obtain⟨c,z,k,rfl,_⟩:=h
  rfl
 ·obtain⟨c,z,k,rfl,hz,k0,k4,q⟩:=h
  refine⟨_,(zg (zK (zw qh (pv 2) ze (zD _)) (zh (zm (yA (za zj (za (pv 1) (za (zk C1 hr (by decide) zx (za (pv 0) (za ze zd))) zd)))))) zB)
    (zg (zK (zw qh (pv 2) ze (zD _)) (zh (zm (yA (za zj (za (pv 1) (za (zk C2 hr (by decide) zx (za (pv 0) (za ze zd))) (za (zk C3 hr (by decide) zx (za (pv 0) (za ze zd))) zd))))))) zB)
    (zg (zK (zw qh (pv 2) ze (zD _)) (zh (zm (yA (za zj (za (pv 1) (za (zk C2 hr (by decide) zx (za (pv 0) (za ze zd))) (za (zk C1 hr (by decide) zx (za (pv 0) (za ze zd))) (za (zk C3 hr (by decide) zx (za (pv 0) (za ze zd))) zd)))))))) zB)
    (zg (zK (zw qh (pv 2) ze (zD _)) (zh (zm (yA (za zj (za (pv 1) (za (zk C2 hr (by decide) zx (za (pv 0) (za ze zd))) (za (zk C1 hr (by decide) zx (za (pv 0) (za ze zd))) (za (zk C3 hr (by decide) zx (za (pv 0) (za ze zd))) zd)))))))) zB)
    (zh (zm (yA (za zj (za (pv 1) (za (zk C4 hr (by decide) zx (za (pv 0) zd)) (za (zk C3 hr (by decide) zx (za (pv 0) (za ze zd))) zd))))))))))),?_⟩
  refine⟨_,rfl,rfl,_,rfl,qi (fun e=>?_) (fun e=>?_)⟩
  ·rw[kE] at e
   exact⟨_,rfl,_,rfl,c,_,rfl,fun a H1 ha s1=>⟨z6 rfl,fun t H2 s2 n2 e2=>q _ (.flat z a) H2 (.pln (.flat hz ha)) rfl e.symm (s1.trans s2) (.pln (cY rfl) ⟨t,rfl,e2⟩)⟩⟩
  rw[kE] at e
  refine⟨_,rfl,rfl,_,rfl,qi (fun e1=>?_) (fun e1=>?_)⟩
  ·rw[kE] at e1
   exact⟨_,rfl,_,rfl,c,_,rfl,fun p H1 hp s1=>⟨_,rfl,c,_,rfl,fun w H2 hw s2=>⟨z6 rfl,fun t H3 s3 n3 e3=>q _ (.share z p w) H3 (.pln (.share hz hp hw)) rfl e1.symm (s1.trans (s2.trans s3)) (.pln (cY rfl) ⟨t,rfl,e3⟩)⟩⟩⟩
  rw[kE] at e1
  refine⟨_,rfl,rfl,_,rfl,qi (fun e2=>?_) (fun e2=>?_)⟩
  ·rw[kE] at e2
   exact⟨_,rfl,_,rfl,c,_,rfl,fun p H1 hp s1=>⟨_,rfl,c,_,rfl,fun a H2 ha s2=>⟨_,rfl,c,_,rfl,fun w H3 hw s3=>⟨z6 rfl,fun t H4 s4 n4 e4=>q _ (.capped z p a w) H4 (.pln (.capped hz hp ha hw)) rfl e2.symm (s1.trans (s2.trans (s3.trans s4))) (.pln (cY rfl) ⟨t,rfl,e4⟩)⟩⟩⟩⟩
  rw[kE] at e2
  refine⟨_,rfl,rfl,_,rfl,qi (fun e3=>?_) (fun e3=>?_)⟩
  ·rw[kE] at e3
   exact⟨_,rfl,_,rfl,c,_,rfl,fun p H1 hp s1=>⟨_,rfl,c,_,rfl,fun a H2 ha s2=>⟨_,rfl,c,_,rfl,fun w H3 hw s3=>⟨z6 rfl,fun t H4 s4 n4 e4=>q _ (.least z p a w) H4 (.pln (.least hz hp ha hw)) rfl e3.symm (s1.trans (s2.trans (s3.trans s4))) (.pln (cY rfl) ⟨t,rfl,e4⟩)⟩⟩⟩⟩
  rw[kE] at e3
  exact⟨_,rfl,_,rfl,c,rfl,fun u ps H1 hok s1 bd=>⟨_,rfl,c,_,rfl,fun w H2 hw s2=>⟨z6 rfl,fun t H3 s3 n3 e3'=>q _ (.bands z ps w) H3 (.bands hz hok hw) rfl (by show (4:Int)=k;omega) (s1.trans (s2.trans s3)) (.bands e3' ((bd.same s2).same s3))⟩⟩⟩
set_option maxHeartbeats 4000000 in
theorem L7 (F:qM K "_law_pieces" "_law_pieces" (zX 86) f fd) (G:jW mg):zL P w K mg base zQ 1 f fd ["_law_pairs_here","_law_total"] gB:=by
 have nd:(["_law_pairs_here","_law_total","_law_found","_law_k","_law_end"]:List Str).Nodup:=by decide +kernel
 refine F.ok (N:=["_law_pairs_here","_law_total","_law_found","_law_k","_law_end"]) (by walk_at"s") (fun vs H Q E h=>?_) (fun cdv A outer s H vs Q E hr h=>?_)
 ·obtain⟨u,ps,t,rfl,_⟩:=h
  rfl
 ·obtain⟨u,ps,t,rfl,⟨ys,hu,T⟩,ok,q⟩:=h
  refine⟨_,(zg (zI (i:=2) nd rfl (Or.inl rfl) (zU zd))
    (zg (vW PassesOwn.never rfl (yg rfl G.range (za (zv zO rfl G.len boot_len (za (pv 0) zd)) zd)) (z5 (i:=3) nd rfl (Or.inl rfl)) (zg (zI (i:=4) nd rfl (Or.inl rfl) (pv 1))
    (jf (zK (zw uY (zt qk (pv 3) ze) (zv zO rfl G.len boot_len (za (pv 0) zd)) (zD _)) (zh (zI (i:=4) nd rfl (Or.inl rfl) (zv (Zk rfl) rfl G.min PyProof.Rows.boot_min (za (pv 1) (za (zC zT (zC zT (pv 0) (zt qk (pv 3) ze)) ze) zd))))) zB)
    (zh (qb (qY PySem.F.plainAttrs_list PySem.F.slot_list_append PySem.F.type_list_append jm (pv 2) (za (zv (Zi rfl) rfl G.max PyProof.Rows.boot_max (za ze (za (zt Zj (pv 4) (zC zT (zC zT (pv 0) (pv 3)) ze)) zd))) zd)))))))
    (zh (zm (pv 2))))),?_⟩
  have few:=ok.few
  have yl:ys.length=ps.length:=by rw[T.len,cN]
  refine⟨z6 rfl,fun l H1 s1 n1 e1=>⟨_,rfl,u,_,rfl,.inr (qw.of (s1 _ _ hu)),_,rfl,by rw[yl];omega,by rw[yl];omega,?_⟩⟩
  rw[yl,CD]
  refine ji (fun i σ H'=>∃ x3 x4,tq (σ = [some (.ref u),some (.int t),some (.ref l),x3,x4]) (zu H H') (H' l=some (.lst (((Lq ps t).take i).map V.int))) True) ⟨_,_,rfl,s1,e1,trivial⟩ ?_ ?_
  ·rintro i σ H2 hi ⟨x3,x4,rfl,s2,e2,_⟩ E2 k2
   have hq:=Ca hi
   have hu2:=s2 _ _ hu
   have T2:=T.same s2
   have z0:(0:Int)+(i:Nat)=(i:Nat):=dR _
   rw[z0]
   refine⟨_,rfl,?_⟩
   refine jX (fun σ H'=>σ = [some (.ref u),some (.int t),some (.ref l),some (.int (i:Nat)),some (.int (pJ (ps.drop (i+1)) t))]∧H'=H2) (fun En kk=>?_) ?_
   ·refine⟨_,rfl,_,_,rfl,rfl,_,rfl,u,_,rfl,.inr (qw.of hu2),_,_,rfl,rfl,_,rfl,qi (fun e=>?_) (fun e=>?_)⟩
    ·have e:=of_decide_eq_true e
     rw[yl] at e
     have hi1:i+1<ps.length:=by omega
     have hq1:=Ca hi1
     obtain⟨b,eb,hb⟩:=Vj T2 hq1
     refine⟨_,rfl,_,rfl,_,rfl,_,_,rfl,rfl,u,_,_,_,rfl,rfl,qw.of hu2,qB (j:=i+1) eb,b,_,_,_,rfl,rfl,qw.of hb,rfl,_,_,rfl,kk _ _ ⟨?_,rfl⟩⟩
     rw[Wo,hq1]
     rfl
    ·have e:¬ ((i:Nat):Int)+1<(ys.length:Nat):=fun c=>e (decide_eq_true c)
     rw[yl] at e
     refine kk _ _ ⟨?_,rfl⟩
     rw[Wo,dh (by omega)]
     rfl
   ·rintro σ H3 ⟨rfl,rfl⟩
    obtain⟨b,eb,hb⟩:=Vj T2 hq
    refine⟨_,rfl,.inl ⟨rfl,_,zY.of e2⟩,_,rfl,_,rfl,_,rfl,u,_,_,_,rfl,rfl,qw.of hu2,qB eb,b,_,_,_,rfl,rfl,qw.of hb,rfl,_,_,rfl,rfl,_,_,rfl,l,_,_,rfl,rfl,e2,?_,?_⟩
    ·rw[cN,Cz,J8,sizeLine_eq]
     omega
    ·refine k2 _ _ ⟨_,_,rfl,fun x o hx=>?_,?_,trivial⟩
     ·rw[zG (zP hx n1)]
      exact s2 _ _ hx
     ·rw[zq,PF hq,Ci]
      rfl
  ·rintro σ H2 ⟨x3,x4,rfl,s2,e2,_⟩
   rw[← J8 ps t,dG] at e2
   exact⟨_,rfl,q l H2 s2 n1 e2⟩
theorem ON {j:Nat}:zL P w K mg base zQ j f fd ["_law_rule_here","_law_bases_here"] (kr K 0):=⟨fun _ _ _ _ h=>h.elim,fun _ _ _ _ _ _ _ _ _ _ _ _ _ h=>h.elim⟩
set_option maxHeartbeats 8000000 in
theorem Z3 {d k:Nat} (F:qM K "_law_until" "_law_until" (zX 87) f fd) (G:jW mg) (C1:qR P w K mg base zQ 1 "_law_rounded" ["_law_number_here","_law_way_here"] gW) (C2:qR P w K mg base zQ 1 "_law_pieces" ["_law_pairs_here","_law_total"] gB) (C3:qR P w K mg base zQ (k+1) "_law_until" ["_law_rule_here","_law_bases_here"] (kr K d)):zL P w K mg base zQ (k+2) f fd ["_law_rule_here","_law_bases_here"] (kr K (d+1)):=by
 have nd:(["_law_rule_here","_law_bases_here","_law_total","_law_months","_law_pieces_here","_law_parts_here"]:List Str).Nodup:=by decide +kernel
 have nc:(["_law_base"]:List Str).Nodup:=by decide +kernel
 have np:(["_law_pair"]:List Str).Nodup:=by decide +kernel
 have nk:(["_law_k","_law_parts_here","_law_pieces_here"]:List Str).Nodup:=by decide +kernel
 refine F.ok (N:=["_law_rule_here","_law_bases_here","_law_total","_law_months","_law_pieces_here","_law_parts_here"]) (by walk_at"s") (fun vs H Q E h=>?_) (fun cdv A outer s H vs Q E hr h=>?_)
 ·obtain⟨v,r,b,bs,rfl,_⟩:=h
  rfl
 ·obtain⟨v,r,b,bs,rfl,rt,gd,hb,bl,bn,q⟩:=h
  have k1:1≤k+1:=ee 1 k
  refine' ⟨_,(zg (zI (i:=2) nd rfl (Or.inl rfl) (zv (vc rfl) rfl G.sum uj (za (pv 1) zd)))
    (zg (zI (i:=3) nd rfl (Or.inl rfl) (zv zO rfl G.len boot_len (za ?comp_3 zd)))
    (zg (zK (zw qh (zC zT (pv 0) ze) zj (zD _)) (zh (zm (zt ya (zC zT (pv 0) ze) (pv 3)))) zB)
    (zg (zK (zw qh (zC zT (pv 0) ze) zj (zD _)) (zh (zm (zk C1 hr k1 zx (za (zt ya (pv 2) (zC zT (pv 0) ze)) (za (zC zT (pv 0) ze) zd))))) zB)
    (zg (zK (zw qh (zC zT (pv 0) ze) zj (zD _)) (zh (zm (zk C1 hr k1 zx (za (zt ya (zv (Zk rfl) rfl G.min PyProof.Rows.boot_min (za (pv 2) (za (zC zT (pv 0) ze) zd))) (zC zT (pv 0) ze)) (za (zC zT (pv 0) ze) zd))))) zB)
    (zg (zK (zw qh (zC zT (pv 0) ze) zj (zD _)) (zh (zm (zv (Zi rfl) rfl G.max PyProof.Rows.boot_max (za (zk C1 hr k1 zx (za (zt ya (pv 2) (zC zT (pv 0) ze)) (za (zC zT (pv 0) ze) zd))) (za (zt ya (zC zT (pv 0) ze) (pv 3)) zd))))) zB)
    (zg (zK (zw qh (zC zT (pv 0) ze) zj (zD _)) (zg (zI (i:=4) nd rfl (Or.inr rfl) (zk C2 hr k1 zx (za (zC zT (pv 0) ze) (za (pv 2) zd))))
    (zg (zI (i:=5) nd rfl (Or.inr rfl) ?comp_2)
    (zh (zm (zk C1 hr k1 zx (za (zv (vc rfl) rfl G.sum uj (za ?comp_1 zd)) (za (zC zT (pv 0) ze) zd))))))) zB)
    (zh (zm (zk C1 hr k1 zx (za (zt ya (zk C3 hr (cP _) zx (za (zC zT (pv 0) ze) (za (pv 1) zd))) (zC zT (pv 0) ze)) (za (zC zT (pv 0) ze) zd)))))))))))),?main⟩
  case comp_3 =>
   refine' qv (Nc:=["_law_base"]) (cl:=[]) (src:=[none]) (wi:=Jw K (qd 1)) (g:=qx 0) (tt:=QC (jV (WS fun i j=>.bl (decide (j<i))) (qd 0) (tC (.int 0)))) (te:=qd 0)
    (by walk_at"c0") rfl (j7 (pv 1)) ?hb
   case hb =>
    intro fp C' s' H'
    exact⟨z5 (i:=0) nc rfl (Or.inl rfl),kZ (zw y6 (pv 0) ze (zD _)),pv 0⟩
  case comp_2 =>
   refine' qv (Nc:=["_law_pair"]) (cl:=[]) (src:=[none]) (wi:=YC K (jV (Zz K) (qd 0) (tC (.int 2)))) (g:=qx 0) (tt:=yb) (te:=jV (Zz K) (qd 0) (tC (.int 1)))
    (by walk_at"c0") rfl (uu (zC zT (pv 0) ze)) ?hb
   case hb =>
    intro fp C' s' H'
    exact⟨z5 (i:=0) np rfl (Or.inl rfl),qP,zC zT (pv 0) ze⟩
  case comp_1 =>
   refine' qv (Nc:=["_law_k","_law_parts_here","_law_pieces_here"]) (cl:=[("_law_pieces_here",s.heap.objs.size+1),("_law_parts_here",s.heap.objs.size+2)]) (src:=[none,some 5,some 4]) (wi:=Ju (qX (nK (R9 K) (qX (qd 5) jy)) jy)) (g:=qx 0) (tt:=yb) (te:=jV (rI OI fun i j=>.int (i*j)) (jV (MS K) (qd 1) (qd 0)) (jV (MS K) (qd 2) (qd 0)))
    (by walk_at"c1") rfl (yg rfl G.range (za (zv zO rfl G.len boot_len (za (pv 5) zd)) zd)) ?hb
   case hb =>
    intro fp C' s' H'
    exact⟨z5 (i:=0) nk rfl (Or.inl rfl),qP,zt ya (zC zA (pv 1) (pv 0)) (zC zA (pv 2) (pv 0))⟩
  have sn:=o6 bn
  walk_at"d3"
  refine⟨_,rfl,b,bs,rfl,hb,_,rfl,b,rfl,⟨_,hb⟩,fun D hD=>WC (vg hb) (Jp bs) hD (by rw[sizeLine_eq];omega) (fun i=>decide (0<i)) V.int (fun i hi v H1 R s1 e1 r=>?_) (fun i hi v H1 R s1 e1 r=>?_) (fun H1 s1 e1=>?_)⟩
  ·subst e1
   exact⟨_,rfl,_,_,rfl,rfl,_,rfl,r _ (zu.refl _)⟩
  ·subst e1
   exact⟨_,rfl,r _ (zu.refl _)⟩
  ·refine⟨D,_,rfl,.inl (zY.of e1),?_⟩
   rw[cN]
   have rt:=rt.same s1
   cases gd with
   | pln pl =>
    rw[Qy pl] at q
    have q:=q H1 s1
    cases pl with
    | flat hn ha =>
     cases rt with
     | pln _ ra =>
      obtain⟨t,rfl,ht⟩:=ra
      have a0:=ha.1
      have a1:=ha.2
      exact⟨_,rfl,t,_,_,_,rfl,rfl,qw.of ht,rfl,rfl,_,rfl,ZN ⟨_,rfl,t,_,_,_,rfl,rfl,qw.of ht,rfl,_,rfl,_,_,rfl,rfl,.inl ⟨by omega,by omega⟩,q⟩⟩
    | share hn hp hw =>
     cases rt with
     | pln _ ra =>
      obtain⟨t,rfl,ht⟩:=ra
      have p0:=hp.1
      have p1:=hp.2
      exact⟨_,rfl,t,_,_,_,rfl,rfl,qw.of ht,rfl,rfl,_,rfl,jq BA ⟨_,rfl,t,_,_,_,rfl,rfl,qw.of ht,rfl,rfl,_,rfl,ZN ⟨_,rfl,_,rfl,t,_,_,_,rfl,rfl,qw.of ht,rfl,_,_,rfl,rfl,.inr ⟨by omega,by omega⟩,_,rfl,t,_,_,_,rfl,rfl,qw.of ht,rfl,_,_,rfl,dk sn p0,q⟩⟩⟩
    | capped hn hp ha hw =>
     cases rt with
     | pln _ ra =>
      obtain⟨t,rfl,ht⟩:=ra
      have p0:=hp.1
      have p1:=hp.2
      have a0:=ha.1
      refine⟨_,rfl,t,_,_,_,rfl,rfl,qw.of ht,rfl,rfl,_,rfl,jq bO ⟨_,rfl,t,_,_,_,rfl,rfl,qw.of ht,rfl,rfl,_,rfl,jq Bs ⟨_,rfl,t,_,_,_,rfl,rfl,qw.of ht,rfl,rfl,_,rfl,ZN ⟨_,rfl,_,rfl,t,_,_,_,rfl,rfl,qw.of ht,rfl,_,_,rfl,_,rfl,t,_,_,_,rfl,rfl,qw.of ht,rfl,_,_,rfl,rfl,.inr ⟨by omega,by omega⟩,_,rfl,t,_,_,_,rfl,rfl,qw.of ht,rfl,_,_,rfl,dk ?_ p0,q⟩⟩⟩⟩
      split
      ·exact a0
      ·exact sn
    | least hn hp ha hw =>
     cases rt with
     | pln _ ra =>
      obtain⟨t,rfl,ht⟩:=ra
      have p0:=hp.1
      have p1:=hp.2
      have a0:=ha.1
      have a1:=ha.2
      exact⟨_,rfl,t,_,_,_,rfl,rfl,qw.of ht,rfl,rfl,_,rfl,jq bH ⟨_,rfl,t,_,_,_,rfl,rfl,qw.of ht,rfl,rfl,_,rfl,jq BG ⟨_,rfl,t,_,_,_,rfl,rfl,qw.of ht,rfl,rfl,_,rfl,jq BO ⟨_,rfl,t,_,_,_,rfl,rfl,qw.of ht,rfl,rfl,_,rfl,ZN ⟨_,rfl,_,rfl,t,_,_,_,rfl,rfl,qw.of ht,rfl,_,_,rfl,rfl,.inr ⟨by omega,by omega⟩,_,rfl,t,_,_,_,rfl,rfl,qw.of ht,rfl,_,_,rfl,dk sn p0,_,rfl,t,_,_,_,rfl,rfl,qw.of ht,rfl,_,rfl,_,_,rfl,rfl,.inl ⟨by omega,by omega⟩,_,_,rfl,q⟩⟩⟩⟩⟩
   | @bands _ n x ps hn ok hw =>
    cases rt with
    | pln kk _=>exact absurd kk (by show ¬ (4:Nat)<4;decide)
    | @bands _ _ _ t u ht bd =>
     have few:=ok.few
     refine⟨_,rfl,t,_,_,_,rfl,rfl,qw.of ht,rfl,rfl,_,rfl,jq Bv ⟨_,rfl,t,_,_,_,rfl,rfl,qw.of ht,rfl,rfl,_,rfl,jq Bn ⟨_,rfl,t,_,_,_,rfl,rfl,qw.of ht,rfl,rfl,_,rfl,jq bR ⟨_,rfl,t,_,_,_,rfl,rfl,qw.of ht,rfl,rfl,_,rfl,jq BW ⟨_,rfl,t,_,_,_,rfl,rfl,qw.of ht,rfl,rfl,_,rfl,ZN ?_⟩⟩⟩⟩⟩
     refine⟨_,rfl,t,_,_,_,rfl,rfl,qw.of ht,rfl,_,rfl,u,ps,_,rfl,bd,ok,fun l H2 s2 n2 e2=>?_⟩
     have ht2:=s2 _ _ ht
     obtain⟨ys,hu,T⟩:=bd.same s2
     refine⟨_,rfl,t,_,_,_,rfl,rfl,qw.of ht2,rfl,u,rfl,⟨_,qw.of hu⟩,fun D2 hD2=>jL (ju (qw.of hu)) (jE T) hD2 (by rw[sizeLine_eq];omega) (fun p=>V.int p.2) (fun p hp v H3 R s3 e3 r=>?_) (fun H3 s3 e3=>?_)⟩
     ·obtain⟨a,rfl,ha⟩:=e3
      exact⟨_,rfl,a,_,_,_,rfl,rfl,qw.of ha,rfl,r H3 (zu.refl _)⟩
     have e3':H3 D2=some (.lst ((ps.map (·.2)).map V.int)):=by rw[e3,CH];rfl
     have e2':=s3 _ _ e2
     have l3:(ps.map (fun p=>V.int p.2)).length=ps.length:=cN _
     refine⟨_,rfl,D2,_,rfl,.inl (zY.of e3'),_,rfl,by rw[cN,cN];omega,by rw[cN,cN];omega,?_⟩
     rw[cN,cN,CD]
     refine fun D3 hD3=>jL uV (oY ps.length) hD3 (by rw[CG,sizeLine_eq];omega) (fun j=>V.int ((ps.map (·.2)).getD j 0*(Lq ps bs.sum).getD j 0)) (fun j hj v H4 R s4 e4 r=>?_) (fun H4 s4 e4=>?_)
     ·subst e4
      have hj:=Ds.mp hj
      have hp:=(ok.ok _ (Dx hj)).2
      have eg:(ps.map (·.2)).getD j 0=ps[j].2:=by rw[CP,cW,Ca hj];rfl
      have h0:=hp.1
      have h1:=hp.2
      exact⟨_,rfl,_,rfl,D2,_,_,_,rfl,rfl,zY.of (s4 _ _ e3'),P9 (by rw[cN];exact hj),_,rfl,_,rfl,l,_,_,_,rfl,rfl,zY.of (s4 _ _ e2'),P9 (by rw[J8];exact hj),_,_,rfl,rfl,.inl ⟨by rw[eg];omega,by rw[eg];omega⟩,r H4 (zu.refl _)⟩
     ·have e4':H4 D3=some (.lst (((List.range ps.length).map fun j=>(ps.map (·.2)).getD j 0*(Lq ps bs.sum).getD j 0).map V.int)):=by rw[e4,CH];rfl
      refine⟨D3,_,rfl,zY.of e4',_,rfl,t,_,_,_,rfl,rfl,qw.of (s4 _ _ (s3 _ _ ht2)),rfl,?_⟩
      rw[Lb]
      exact⟨_,_,rfl,nL (fun p hp=>(ok.ok p hp).2.1) _,q H4 (s1.trans (s2.trans (s3.trans s4)))⟩
   | @ontop d n x p r' hn hp hw gd =>
    cases rt with
    | pln kk _=>exact absurd kk (by show ¬ (5:Nat)<4;decide)
    | @ontop _ _ _ _ t y ht rti =>
     have p0:=hp.1
     have p1:=hp.2
     refine⟨_,rfl,t,_,_,_,rfl,rfl,qw.of ht,rfl,rfl,_,rfl,jq BZ ⟨_,rfl,t,_,_,_,rfl,rfl,qw.of ht,rfl,rfl,_,rfl,jq Bp ⟨_,rfl,t,_,_,_,rfl,rfl,qw.of ht,rfl,rfl,_,rfl,jq BL ⟨_,rfl,t,_,_,_,rfl,rfl,qw.of ht,rfl,rfl,_,rfl,jq bQ ⟨_,rfl,t,_,_,_,rfl,rfl,qw.of ht,rfl,rfl,_,rfl,jq TC ?_⟩⟩⟩⟩⟩
     refine⟨_,rfl,t,_,_,_,rfl,rfl,qw.of ht,rfl,_,rfl,_,r',b,bs,rfl,rti,gd,s1.seq hb,bl,bn,fun H2 s2=>?_⟩
     have ht2:=s2 _ _ ht
     exact⟨_,rfl,t,_,_,_,rfl,rfl,qw.of ht2,rfl,_,_,rfl,rfl,.inr ⟨by omega,by omega⟩,_,rfl,t,_,_,_,rfl,rfl,qw.of ht2,rfl,_,_,rfl,dk (My gd bn) p0,q H2 (s1.trans s2)⟩
theorem my {d k:Nat} (F:qM K "_law_of_month" "_law_of_month" (zX 88) f fd) (C1:qR P w K mg base zQ k "_law_until" ["_law_rule_here","_law_bases_here"] (kr K (d+1))):zL P w K mg base zQ (k+1) f fd ["_law_rule_here","_law_bases_here"] (gU K d):=by
 refine F.ok (N:=["_law_rule_here","_law_bases_here"]) (by walk_at"s") (fun vs H Q E h=>?_) (fun cdv A outer s H vs Q E hr h=>?_)
 ·obtain⟨v,r,b,bs,rfl,_⟩:=h
  rfl
 ·obtain⟨v,r,b,bs,rfl,rt,pl,hb,bl,bn,q⟩:=h
  have hu:=hr.units0
  refine⟨_,(zg (zK (zw (Uj hu) (pv 1) (zU zd) (zD _)) (zh (zm ze)) zB)
    (zh (zm (zt Zj (zk C1 hr (cP _) zx (za (pv 0) (za (pv 1) zd))) (zk C1 hr (cP _) zx (za (pv 0) (za (qp yn (pv 1) qL (qC (WQ QG ze))) zd))))))),?_⟩
  refine⟨_,rfl,z6 rfl,fun l H1 s1 n1 e1=>⟨b,l,_,rfl,rfl,s1.seq hb,zY.of e1,fun eN=>⟨true,rfl,qZ ?_⟩,fun nN=>⟨false,rfl,qN ?_⟩⟩⟩
  ·have e0:bs=[]:=List.map_eq_nil_iff.mp eN
   subst e0
   have e2:NL r []=0:=Int.sub_self _
   have q:=q H1 s1
   rw[e2] at q
   exact q
  ·refine⟨_,rfl,_,rfl,v,r,b,bs,rfl,rt.same s1,pl,s1.seq hb,bl,bn,fun H2 s2=>?_⟩
   have s12:=s1.trans s2
   refine⟨_,rfl,_,rfl,_,rfl,_,rfl,b,_,rfl,s12.seq hb,fun p p0=>?_⟩
   have s3:zu H2 (upd H2 p (.lst (yX (bs.map V.int) none (some (-1))))):=zu.upd p0
   exact⟨v,r,p,dl bs,rfl,(rt.same s12).same s3,pl,zY.of (by rw[← pZ];exact zq),cZ (Oh bs) bl,fun b hb=>bn b (NY hb),fun H3 s4=>⟨_,_,rfl,rfl,q H3 (s12.trans (s3.trans s4))⟩⟩
theorem Pa {j:Nat}:zL P w K mg base zQ j f fd ["_law_rule_here"] (Qb 0):=⟨fun _ _ _ _ h=>h.elim,fun _ _ _ _ _ _ _ _ _ _ _ _ _ h=>h.elim⟩
set_option maxHeartbeats 8000000 in
theorem Z2 {d k:Nat} (F:qM K "_law_row" "_law_row" (zX 89) f fd) (G:jW mg) (hd:d≤10) (C:qR P w K mg base zQ k "_law_row" ["_law_rule_here"] (Qb d)):zL P w K mg base zQ (k+1) f fd ["_law_rule_here"] (Qb (d+1)):=by
 have nd:(["_law_rule_here","_law_told_here","_law_head"]:List Str).Nodup:=by decide +kernel
 have nc:(["_law_part"]:List Str).Nodup:=by decide +kernel
 have np:(["_law_pair"]:List Str).Nodup:=by decide +kernel
 refine F.ok (N:=["_law_rule_here","_law_told_here","_law_head"]) (by walk_at"s") (fun vs H Q E h=>?_) (fun cdv A outer s H vs Q E hr h=>?_)
 ·obtain⟨v,r,rfl,_⟩:=h
  rfl
 ·obtain⟨v,r,rfl,rt,gd,q⟩:=h
  refine' ⟨_,(zg (zK (zw qh (zC zT (pv 0) ze) zj (zD _)) (zg (zI (i:=1) nd rfl (Or.inl rfl) (qY PySem.F.plainAttrs_str PySem.F.slot_str_join PySem.F.type_str_join yB zj (za ?comp_4 zd)))
    (zh (zm (zt zM (zt zM (zt zM (zt zM (zt zM zj (zC zT (pv 0) ze)) zj) (pv 1)) zj) (zC zT (pv 0) ze))))) zB)
    (zg (zK (zw qh (zC zT (pv 0) ze) zj (zD _)) (zg (zI (i:=2) nd rfl (Or.inl rfl) (qY PySem.F.plainAttrs_str PySem.F.slot_str_join PySem.F.type_str_join yB zj (za (zU (za (zC zT (pv 0) ze) (za (zC zT (pv 0) ze) (za (z8 qm rfl G.str qK (za (zC zT (pv 0) ze) zd)) (za (zC zT (pv 0) ze) zd))))) zd)))
    (zh (zm (zt zM (zt zM (pv 2) zj) (zk C hr (cP _) zx (za (zC zT (pv 0) ze) zd)))))) zB)
    (zh (zm (qY PySem.F.plainAttrs_str PySem.F.slot_str_join PySem.F.type_str_join yB zj (za ?comp_2 zd)))))),?main⟩
  case comp_4 =>
   refine' qv (Nc:=["_law_pair"]) (cl:=[]) (src:=[none]) (wi:=YC K (jV (Zz K) (qd 0) (tC (.int 2)))) (g:=qx 0) (tt:=yb) (te:=jV gu (jV gu (nK gA (qX (jV (Zz K) (qd 0) (tC (.int 0))) jy)) (tC (.str ":"))) (nK gA (qX (jV (Zz K) (qd 0) (tC (.int 1))) jy)))
    (by walk_at"c0") rfl (uu (zC zT (pv 0) ze)) ?hb
   case hb =>
    intro fp C' s' H'
    exact⟨z5 (i:=0) np rfl (Or.inl rfl),qP,zt zM (zt zM (z8 qm rfl G.str qK (za (zC zT (pv 0) ze) zd)) zj) (z8 qm rfl G.str qK (za (zC zT (pv 0) ze) zd))⟩
  case comp_2 =>
   refine' qv (Nc:=["_law_part"]) (cl:=[]) (src:=[none]) (wi:=YC K (qd 0)) (g:=qx 0) (tt:=yb) (te:=nK (fun xs H Q=>(∃ i,xs=[.int i]∧i.natAbs.log2<1920∧Q (.str (toString i)) H)∨∃ z,xs=[.str z]∧Q (.str z) H) (qX (qd 0) jy))
    (by walk_at"c0") rfl (uu (pv 0)) ?hb
   case hb =>
    intro fp C' s' H'
    exact⟨z5 (i:=0) nc rfl (Or.inl rfl),qP,z8 oP rfl G.str qK (za (pv 0) zd)⟩
  walk_at"d3"
  cases gd with
  | pln pl =>
   rw[QN pl] at q
   obtain⟨z,l,el,zb,zo,ll⟩:=lF pl
   have jo:=Qx pl
   have pk:=GE pl
   obtain⟨t,rfl,ht⟩:Ob H v r:=by
    cases rt with
    | pln _ ra=>exact ra
    | bands=>cases pl
    | ontop=>cases pl
   have h0:ZI (vw r) ((0:Nat):Int)=some (.str z):=qB (by rw[el];rfl)
   refine⟨_,rfl,t,_,_,_,rfl,rfl,qw.of ht,h0,rfl,_,rfl,jq zb ⟨_,rfl,t,_,_,_,rfl,rfl,qw.of ht,h0,rfl,_,rfl,jq zo ⟨rfl,_,rfl,t,rfl,⟨_,qw.of ht⟩,fun D hD=>jL (ju (qw.of ht)) (xX (vw r)) hD (by rw[el,CI,sizeLine_eq];omega) (fun x=>.str (YR x)) (fun x hx v H1 R s1 e1 k=>?_) (fun H1 s1 e1=>?_)⟩⟩⟩
   ·subst e1
    rcases pk v hx with ⟨i,rfl,hi⟩ | ⟨y,rfl⟩
    ·exact⟨_,rfl,.inl ⟨i,rfl,hi,k _ (zu.refl _)⟩⟩
    ·exact⟨_,rfl,.inr ⟨y,rfl,k _ (zu.refl _)⟩⟩
   ·exact⟨_,(vw r).map YR,D,rfl,rfl,zY.of (by rw[CH];exact e1),jo,q H1 s1⟩
  | @bands _ n x ps hn ok hw =>
   cases rt with
   | pln kk _=>exact absurd kk (by show ¬ (4:Nat)<4;decide)
   | @bands _ _ _ t u ht bd =>
    obtain⟨ys,hu,T⟩:=bd
    have few:=ok.few
    refine⟨_,rfl,t,_,_,_,rfl,rfl,qw.of ht,rfl,rfl,_,rfl,ZN ⟨rfl,_,rfl,t,_,_,_,rfl,rfl,qw.of ht,rfl,u,rfl,⟨_,qw.of hu⟩,fun D hD=>jL (ju (qw.of hu)) (jE T) hD (by rw[sizeLine_eq];omega) (fun p=>.str (ue p)) (fun p hp v H1 R s1 e1 r=>?_) (fun H1 s1 e1=>?_)⟩⟩
    ·obtain⟨a,rfl,ha⟩:=e1
     have hb:=ok.ok p hp
     have l1:=Qo hb.1
     have l2:=vm hb.2
     have l3:((toString p.1:Str) ++ ":").length=(toString p.1:Str).length+1:=Str.length_append ..
     exact⟨_,rfl,a,_,_,_,rfl,rfl,qw.of ha,rfl,_,rfl,ZK hb.1,_,_,rfl,rfl,by rw[sizeLine_eq];show (toString p.1:Str).length+1≤_;omega,_,rfl,a,_,_,_,rfl,rfl,qw.of ha,rfl,_,rfl,wH hb.2,_,_,rfl,rfl,by rw[l3,sizeLine_eq];omega,r H1 (zu.refl _)⟩
    ·have jb:=uA ok
     have ht1:=s1 _ _ ht
     have h1:=hn.ok.hi
     have h2:=jb.2
     have h3:=wj hw
     have w6:("bands ":Str).length=6:=by decide +kernel
     have w1:(" ":Str).length=1:=by decide +kernel
     have q:=q H1 s1
     refine⟨_,ps.map ue,D,rfl,rfl,zY.of (by rw[e1,CH];rfl),jb.1,?_⟩
     refine⟨_,rfl,t,_,_,_,rfl,rfl,qw.of ht1,rfl,_,_,rfl,rfl,by rw[w6,sizeLine_eq];omega,_,_,rfl,rfl,by rw[Str.length_append,w6,w1,sizeLine_eq];omega,_,rfl,_,_,rfl,rfl,by rw[Str.length_append,Str.length_append,w6,w1,sizeLine_eq];show _+(Zt ps).length≤_;omega,_,_,rfl,rfl,by rw[Str.length_append,Str.length_append,Str.length_append,w6,w1,sizeLine_eq];show _+(Zt ps).length+1≤_;omega,_,rfl,t,_,_,_,rfl,rfl,qw.of ht1,rfl,_,_,rfl,rfl,by rw[Str.length_append,Str.length_append,Str.length_append,Str.length_append,w6,w1,sizeLine_eq];show _+(Zt ps).length+1+_≤_;omega,?_⟩
     have e:=Uu n (Zt ps) x
     unfold Zt at e
     rw[e]
     exact q
  | @ontop d n x p r' hn hp hw gd =>
   cases rt with
   | pln kk _=>exact absurd kk (by show ¬ (5:Nat)<4;decide)
   | @ontop _ _ _ _ t y ht rti =>
    have h1:=hn.ok.hi
    have h2:=vm hp
    have h3:=wj hw
    have h4:=uZ gd
    have jh:=yx (sep:=" ") (zs:=["ontop",n,toString p,x]) (m:=8) (k:=4) (fun z hz=>by
     simp only[cU,cX,or_false] at hz
     rcases hz with rfl | rfl | rfl | rfl
     ·decide +kernel
     ·omega
     ·omega
     ·omega) (cP _) (by decide +kernel) rfl
    have h5:=jh.2
    have w4:(" of ":Str).length=4:=by decide +kernel
    refine⟨_,rfl,t,_,_,_,rfl,rfl,qw.of ht,rfl,rfl,_,rfl,jq TC ⟨_,rfl,t,_,_,_,rfl,rfl,qw.of ht,rfl,rfl,_,rfl,ZN ?_⟩⟩
    refine⟨rfl,_,rfl,t,_,_,_,rfl,rfl,qw.of ht,rfl,_,rfl,t,_,_,_,rfl,rfl,qw.of ht,rfl,_,rfl,t,_,_,_,rfl,rfl,qw.of ht,rfl,_,rfl,wH hp,_,rfl,t,_,_,_,rfl,rfl,qw.of ht,rfl,z6 rfl,fun l H1 s1 n1 e1=>⟨_,["ontop",n,toString p,x],l,rfl,rfl,zY.of e1,jh.1,?_⟩⟩
    refine⟨_,rfl,_,_,rfl,rfl,by rw[w4,sizeLine_eq];omega,_,rfl,t,_,_,_,rfl,rfl,qw.of (s1 _ _ ht),rfl,_,r',rfl,rti.same s1,gd,fun H2 s2=>⟨_,_,rfl,rfl,by rw[Str.length_append,w4,sizeLine_eq];omega,?_⟩⟩
    rw[Qm]
    exact q H2 (s1.trans s2)
theorem lI (F:qM K "_law_rule" "_law_rule" (zX 84) f fd) (G:jW mg) (C1:qR P w K mg base zQ 1 "_law_mixed" ["_law_cell","_law_k"] j9) (C2:qR P w K mg base zQ 4 "_law_plain" ["_law_cell","_law_name","_law_kind"] Vl) (C3:qR P w K mg base zQ 2 "_law_parts" ["_law_cell","_law_k"] kq) (C4:qR P w K mg base zQ 2 "_law_way" ["_law_cell","_law_k"] V2):zL P w K mg base zQ 5 f fd ["_law_cell","_law_name"] UM:=by
 have nd:(["_law_cell","_law_name","_law_number_here","_law_found","_law_k"]:List Str).Nodup:=by decide +kernel
 refine F.ok (N:=["_law_cell","_law_name","_law_number_here","_law_found","_law_k"]) (by walk_at"s") (fun vs H Q E h=>?_) (fun cdv A outer s H vs Q E hr h=>?_)
 ·obtain⟨c,z,rfl,_⟩:=h
  rfl
 ·obtain⟨c,z,rfl,hz,q⟩:=h
  refine⟨_,(zg (zI (i:=2) nd rfl (Or.inl rfl) (zk C1 hr (by decide) zx (za (pv 0) (za ze zd))))
    (zg (zI (i:=3) nd rfl (Or.inl rfl) (zk C2 hr (by decide) zx (za (pv 0) (za (pv 1) (za (zt z9 (pv 2) ze) zd)))))
    (zg (vW PassesOwn.never rfl (yg rfl G.range (za (zC zA (zU (za ze (za ze (za ze (za ze (za ze (za ze zd))))))) (zt z9 (zt qW (pv 2) ze) ze)) zd)) (z5 (i:=4) nd rfl (Or.inl rfl)) (zh (zI (i:=3) nd rfl (Or.inl rfl) (yA (za zj (za (pv 1) (za (zk C3 hr (by decide) zx (za (pv 0) (za (zt qk ze (pv 4)) zd))) (za (zk C4 hr (by decide) zx (za (pv 0) (za (zt qk ze (pv 4)) zd))) (za (pv 3) zd)))))))))
    (zh (zm (pv 3)))))),?_⟩
  refine⟨_,rfl,c,_,rfl,fun m m0 m1=>⟨_,rfl,_,rfl,_,rfl,_,_,rfl,rfl,(by show (0:Int)<5;decide),c,z,_,rfl,hz,Cg _ (by decide),Cr _ (by decide),fun v r H1 gd rn _ s1 rt=>⟨z6 rfl,fun g H2 s2 n2 e2=>?_⟩⟩⟩
  obtain⟨x,ev,mv⟩:=vj (xs:=[V.int 0,.int 0,.int 0,.int 1,.int 2,.int 3]) (i:=m/5%6) (Cg _ (by decide)) (Cr _ (by decide))
  obtain⟨n,rfl,h1⟩:∃ n:Nat,x = .int (n:Nat)∧n≤3:=by
   simp only[cU,cX,or_false] at mv
   rcases mv with rfl | rfl | rfl | rfl | rfl | rfl
   ·exact⟨0,rfl,by decide⟩
   ·exact⟨0,rfl,by decide⟩
   ·exact⟨0,rfl,by decide⟩
   ·exact⟨1,rfl,by decide⟩
   ·exact⟨2,rfl,by decide⟩
   ·exact⟨3,rfl,by decide⟩
  refine⟨_,rfl,_,_,rfl,rfl,⟨by decide,by decide⟩,_,_,rfl,rfl,(by show (0:Int)<6;decide),g,_,_,_,rfl,rfl,zY.of e2,ev,_,rfl,by omega,by omega,ji (fun i σ H'=>∃ v r x4,tq (σ = [some (.int c),some (.str z),some (.int m),some v,x4]) (zu H H') (Gd i r∧r.name=z) (Vu H' r v)) ⟨v,r,_,rfl,s1.trans s2,⟨gd,rn⟩,rt.same s2⟩ ?_ ?_⟩
  ·rintro i σ H3 hi ⟨v,r,x4,rfl,s3,⟨gd,rn⟩,rt⟩ E3 k3
   exact⟨_,rfl,_,rfl,_,rfl,_,_,rfl,rfl,c,_,rfl,fun p H4 hp s4=>⟨_,rfl,_,rfl,_,_,rfl,rfl,c,_,rfl,fun w H5 hw s5=>⟨_,rfl,z6 rfl,fun t H6 s6 n6 e6=>k3 _ _ ⟨_,.ontop z p w r,_,rfl,s3.trans (s4.trans (s5.trans s6)),⟨.ontop hz hp hw gd,rfl⟩,.ontop e6 (rt.same (s4.trans (s5.trans s6)))⟩⟩⟩⟩
  ·rintro σ H3 ⟨v,r,x4,rfl,s3,⟨gd,rn⟩,rt⟩
   rw[CD] at gd
   exact⟨_,rfl,q v r H3 (gd.le h1) rn s3 rt⟩
end
end K10
namespace Pg
open PySem L2
noncomputable def yP (z:Str):Bool:=vK z && !noNames.contains z
noncomputable def o3 (K:BFr) (H:Hp) (v:V) (b:Bool):Prop:=(∃ z,v = .str z∧z.length≤100000∧b=yP z)∨(vG K H v∧b=false)
noncomputable def Yv (K:BFr) (H:Hp) (m:Int) (v:V) (b:Bool):Prop:=(∃ z,v = .int z∧b=decide (0≤z∧z≤m))∨(JH K H v∧b=false)
noncomputable def Gu (K:BFr) (H:Hp) (v:V) (b:Bool):Prop:=(∃ z,v = .str z∧b=wayL.contains z)∨(vG K H v∧b=false)
section
variable {K:BFr} {H H':Hp} {v:V} {b:Bool} {m:Int} {o C dx:Addr} {fs:List (Str × V)}
theorem Yv.same (s:zu H H') (h:Yv K H m v b):Yv K H' m v b:=h.imp id fun h=>⟨h.1.same s,h.2⟩
theorem TyB.fr {t:String} (ho:H o=some (.ins C dx fs)) (f:∀ b x,H b=some x→b≠o→H' b=some x) (h:vi K H v (.type t)):vi K H' v (.type t):=by
 cases h with
 | non=>exact .non
 | bl x=>exact .bl x
 | int i=>exact .int i
 | str x=>exact .str x
 | flt x=>exact .flt x
 | lst e=>exact .lst (f _ _ e (vQ e ho (by intro z;cases z)))
 | frz e=>exact .frz (f _ _ e (vQ e ho (by intro z;cases z)))
 | tup e=>exact .tup (f _ _ e (vQ e ho (by intro z;cases z)))
 | dK e=>exact .dK (f _ _ e (vQ e ho (by intro z;cases z)))
 | dT e=>exact .dT (f _ _ e (vQ e ho (by intro z;cases z)))
theorem Yv.fr (ho:H o=some (.ins C dx fs)) (f:∀ b x,H b=some x→b≠o→H' b=some x) (h:Yv K H m v b):Yv K H' m v b:=by
 rcases h with h | ⟨⟨r,hr,ty,ne⟩,e⟩
 ·exact .inl h
 ·exact .inr ⟨⟨r,hr,TyB.fr ho f ty,ne⟩,e⟩
theorem Gu.fr (ho:H o=some (.ins C dx fs)) (f:∀ b x,H b=some x→b≠o→H' b=some x) (h:Gu K H v b):Gu K H' v b:=by
 rcases h with h | ⟨⟨r,hr,ty,ne⟩,e⟩
 ·exact .inl h
 ·exact .inr ⟨⟨r,hr,TyB.fr ho f ty,ne⟩,e⟩
end
inductive oF (K:BFr) (H:Hp):V→Option (Int × Int)→Prop where
 | pair {t:Addr} {p:Int × Int}:H t=some (.tup (cB p))→XC p.1→Vz p.2→oF K H (.ref t) (some p)
 | other {v:V} {t:String}:vi K H v (.type t)→PySem.W.kitOne K (.type t) (.type "tuple")=some false→oF K H v none
 | size {t:Addr} {xs:List V}:H t=some (.tup xs)→xs.length≠2→oF K H (.ref t) none
 | odd {t:Addr} {x y:V} {b1 b2:Bool}:H t=some (.tup [x,y])→Yv K H 1000000000000 x b1→Yv K H 20000 y b2→(b1&&b2)=false→oF K H (.ref t) none
theorem oF.same {K:BFr} {H H':Hp} {v:V} {p:Option (Int × Int)} (s:zu H H') (h:oF K H v p):oF K H' v p:=by
 cases h with
 | pair a b c=>exact .pair (s _ _ a) b c
 | other a b=>exact .other (a.same s) b
 | size a b=>exact .size (s _ _ a) b
 | odd a b c d=>exact .odd (s _ _ a) (b.same s) (c.same s) d
theorem oF.fr {K:BFr} {H H':Hp} {v:V} {p:Option (Int × Int)} {o C dx:Addr} {fs:List (Str × V)} (ho:H o=some (.ins C dx fs)) (f:∀ b x,H b=some x→b≠o→H' b=some x) (h:oF K H v p):oF K H' v p:=by
 have ft:∀ b c,H b=some (.tup c)→H' b=some (.tup c):=fun b c h=>f _ _ h (vQ h ho (by intro z;cases z))
 cases h with
 | pair a b c=>exact .pair (ft _ _ a) b c
 | other a b=>exact .other (TyB.fr ho f a) b
 | size a b=>exact .size (ft _ _ a) b
 | odd a b c d=>exact .odd (ft _ _ a) (b.fr ho f) (c.fr ho f) d
noncomputable def vV:List Int→Bool
 | a::b::l=>decide (a<b)&&vV (b::l)
 | _=>true
noncomputable def Jq (os:List (Option (Int × Int))):Bool:=decide (1≤os.length∧os.length≤12)&&(os.all Option.isSome&&(decide ((os.filterMap fun o=>o.map (·.1)).head? = some 0)&&vV (os.filterMap fun o=>o.map (·.1))))
inductive Nj (K:BFr) (H:Hp):V→Bool→Prop where
 | other {v:V} {t:String}:vi K H v (.type t)→PySem.W.kitOne K (.type t) (.type "tuple")=some false→Nj K H v false
 | rows {t:Addr} {xs:List V} {os:List (Option (Int × Int))}:H t=some (.tup xs)→xs.length=os.length→xs.length≤100000→(∀ (j:Nat) x o,xs[j]? = some x→os[j]? = some o→oF K H x o)→Nj K H (.ref t) (Jq os)
theorem Nj.fr {K:BFr} {H H':Hp} {v:V} {b:Bool} {o C dx:Addr} {fs:List (Str × V)} (ho:H o=some (.ins C dx fs)) (f:∀ b x,H b=some x→b≠o→H' b=some x) (h:Nj K H v b):Nj K H' v b:=by
 cases h with
 | other a b=>exact .other (TyB.fr ho f a) b
 | rows a b c d=>exact .rows (f _ _ a (vQ a ho (by intro z;cases z))) b c fun j x o' h1 h2=>(d j x o' h1 h2).fr ho f
noncomputable def b9 (K:BFr) (H:Hp):Nat→List V→Prop
 | 0,[v1,v2]=>∃ b1 b2,o3 K H v1 b1∧Yv K H 1000000000000 v2 b2∧(b1&&b2)=false
 | 1,[v1,v2,v3]=>∃ b1 b2 b3,o3 K H v1 b1∧Yv K H 20000 v2 b2∧Gu K H v3 b3∧(b1&&(b2&&b3))=false
 | 2,[v1,v2,v3,v4]=>∃ b1 b2 b3 b4,o3 K H v1 b1∧Yv K H 20000 v2 b2∧Yv K H 1000000000000 v3 b3∧Gu K H v4 b4∧(b1&&((b2&&b4)&&b3))=false
 | 3,[v1,v2,v3,v4]=>∃ b1 b2 b3 b4,o3 K H v1 b1∧Yv K H 20000 v2 b2∧Yv K H 1000000000000 v3 b3∧Gu K H v4 b4∧(b1&&((b2&&b4)&&b3))=false
 | 4,[v1,v2,v3]=>∃ b1 b2 b3,o3 K H v1 b1∧Nj K H v2 b2∧Gu K H v3 b3∧(b1&&(b2&&b3))=false
 | _,_=>False
noncomputable def JT (K:BFr):Sp:=fun vs H Q _=>∃ v b,vs=[v]∧o3 K H v b∧∀ H',zu H H'→Q (.bl b) H'
noncomputable def wU (K:BFr) (m:Int):Sp:=fun vs H Q _=>∃ v b,vs=[v]∧Yv K H m v b∧Q (.bl b) H
noncomputable def Vn (K:BFr):Sp:=fun vs H Q _=>∃ v b,vs=[v]∧Gu K H v b∧Q (.bl b) H
noncomputable def wm (K:BFr) (c:Addr):Sp:=fun vs H Q E=>∃ v b,vs=[v]∧Yv K H 1000000000000 v b∧(b=true→Q .non H)∧(b=false→E (.ref c) none H)
noncomputable def vY (K:BFr) (c:Addr):Sp:=fun vs H Q E=>∃ v u b1 b2,vs=[v,u]∧Yv K H 20000 v b1∧Gu K H u b2∧((b1&&b2)=true→Q .non H)∧((b1&&b2)=false→E (.ref c) none H)
noncomputable def jH (K:BFr) (c:Addr):Sp:=fun vs H Q E=>∃ C o dx v b,vs=[.ref o,v]∧ZQ K C∧qc K C "name"∧H o=some (.ins C dx [])∧o3 K H v b∧(b=true→∀ H',(∀ b x,H b=some x→b≠o→H' b=some x)→H' o=some (.ins C dx [("name",v)])→Q .non H')∧(b=false→∀ H',zu H H'→E (.ref c) none H')
noncomputable def Yg (K:BFr):Sp:=fun vs H Q _=>∃ v p,vs=[v]∧oF K H v p∧Q (.bl p.isSome) H
noncomputable def Wl (K:BFr):Sp:=fun vs H Q _=>∃ (l:Addr) (zs:List Int),vs=[.ref l]∧zY K H l (zs.map V.int)∧zs.length≤50∧∀ H',zu H H'→Q (.bl (vV zs)) H'
noncomputable def Jg (K:BFr):Sp:=fun vs H Q _=>∃ v b,vs=[v]∧Nj K H v b∧∀ H',zu H H'→Q (.bl b) H'
noncomputable def yJ (K:BFr) (k:Nat) (Cs:Nat→Addr) (c:Addr):Sp:=fun vs H Q E=>∃ o dx args,vs = .ref o::args∧H o=some (.ins (Cs k) dx [])∧b9 K H k args∧∀ H',(∀ b x,H b=some x→b≠o→H' b=some x)→E (.ref c) none H'
theorem mE:∀ zs:List Int,vV zs=((zs.zip zs.tail).all fun p=>decide (p.1<p.2))
 | []=>rfl
 | [_]=>rfl
 | a::b::l=>by
  show (decide (a<b)&&vV (b::l))=_
  rw[mE (b::l)]
  rfl
theorem GK (v:V):jJ "name" v []=[((("name":Str)),v)]:=rfl
noncomputable def ck:V→V→V
 | .int a,.int b=>.bl (decide (a<b))
 | _,_=>.non
theorem NA (zs ys:List Int):List.zipWith ck (zs.map V.int) (ys.map V.int)=(List.zipWith (fun a b=>decide (a<b)) zs ys).map V.bl:=by
 rw[List.zipWith_map,List.map_zipWith]
 rfl
theorem Pe:∀ zs:List Int,(List.zipWith (fun a b=>decide (a<b)) zs zs.tail).all id=vV zs
 | []=>rfl
 | [_]=>rfl
 | a::b::l=>by
  show (decide (a<b)&&(List.zipWith (fun a b=>decide (a<b)) (b::l) (b::l).tail).all id)=_
  rw[Pe (b::l)]
  rfl
theorem Jj {os:List (Option (Int × Int))} (h:os.all Option.isSome=true):∃ ps:List (Int × Int),os=ps.map some:=by
 induction os with
 | nil=>exact⟨[],rfl⟩
 | cons o r ih =>
  rw[dM,cQ] at h
  obtain⟨ps,rfl⟩:=ih h.2
  cases o with
  | none=>cases h.1
  | some p=>exact⟨p::ps,rfl⟩
theorem Yt (ps:List (Int × Int)):((ps.map some).filterMap fun o=>o.map (·.1))=ps.map (·.1):=by
 induction ps with
 | nil=>rfl
 | cons p r ih=>exact congrArg (List.cons p.1) ih
inductive bA (K:BFr) (cRu:Addr) (Cs:Nat→Addr) (H:Hp):V→Bool→Prop where
 | other {v:V} {t:String}:vi K H v (.type t)→PySem.W.kitOne K (.type t) (.ref cRu)=some false→bA K cRu Cs H v false
 | deep {v:V} {n w:Str} {p:Int} {r:Rk}:wG Cs H (.ontop n p w r) v→Gd 3 (.ontop n p w r)→Ms (.ontop n p w r)=3→bA K cRu Cs H v false
 | good {v:V} {r:Rk}:wG Cs H r v→Gd 2 r→bA K cRu Cs H v true
noncomputable def JQ (K:BFr) (cRu:Addr) (Cs:Nat→Addr) (c:Addr):Sp:=fun vs H Q E=>∃ o dx v1 v2 v3 v4 b1 b2 b3 b4,vs=[.ref o,v1,v2,v3,v4]∧H o=some (.ins (Cs 5) dx [])∧o3 K H v1 b1∧Yv K H 20000 v2 b2∧Gu K H v3 b3∧bA K cRu Cs H v4 b4∧(b1&&((b2&&b3)&&b4))=false∧∀ H',(∀ b x,H b=some x→b≠o→H' b=some x)→E (.ref c) none H'
theorem o3.true {K:BFr} {H:Hp} {v:V} (h:o3 K H v true):∃ z,v = .str z∧yu z:=by
 rcases h with ⟨z,e,_,h⟩ | ⟨_,h⟩
 ·unfold yP at h
  have h:=h.symm
  rw[cQ] at h
  refine⟨z,e,US h.1,?_⟩
  have h2:=h.2
  cases q:noNames.contains z with
  | false=>rfl
  | true=>rw[q] at h2;cases h2
 ·cases h
theorem Yv.true {K:BFr} {H:Hp} {m:Int} {v:V} (h:Yv K H m v true):∃ z,v = .int z∧0≤z∧z≤m:=by
 rcases h with ⟨z,e,h⟩ | ⟨_,h⟩
 ·exact⟨z,e,of_decide_eq_true h.symm⟩
 ·cases h
theorem Gu.true {K:BFr} {H:Hp} {v:V} (h:Gu K H v true):∃ z,v = .str z∧JU z:=by
 rcases h with ⟨z,e,h⟩ | ⟨_,h⟩
 ·exact⟨z,e,h.symm⟩
 ·cases h
end Pg
namespace K10
open PySem PySem.NumText L2 Pg
seal PE PA PT PW PS y8 PG vz PI j8 PO PK
section
variable {P:Program} {w:World} {K:BFr} {mg:Str→Option Value} {base:Heap} {f:Addr} {fd:FuncData} {d:Nat→Addr} {cR:Addr}
theorem G7 (F:qM K "is_rule_name" "is_rule_name" (zX 42) f fd) (W:RO K mg "NO_RULE_NAMES" noNames) (C1:qR P w K mg base zQ 2 "is_name" ["thing"] (Ug K)):zL P w K mg base zQ 3 f fd ["thing"] (JT K):=by
 obtain⟨aw,ew,tw⟩:=W
 refine F.ok (N:=["thing"]) (by walk_at"s") (fun vs H Q E h=>?_) (fun cdv A outer s H vs Q E hr h=>?_)
 ·obtain⟨v,b,rfl,_⟩:=h
  rfl
 ·obtain⟨v,b,rfl,hv,q⟩:=h
  refine⟨_,zh (zm (yK (zk C1 hr (by decide) zx (za (pv 0) zd)) (yL (qj uz (pv 0) (zZ (v:=.ref aw) rfl ew rfl) (by rfl))))),?_⟩
  rcases hv with ⟨z,rfl,zl,rfl⟩ | ⟨ns,rfl⟩
  ·refine⟨_,rfl,_,rfl,.inl ⟨z,rfl,zl,fun H1 s1=>⟨_,rfl,?_⟩⟩⟩
   have q1:=q H1 s1
   unfold yP at q1
   cases e:vK z with
   | false =>
    rw[e] at q1
    exact qN q1
   | true =>
    rw[e,Cj] at q1
    refine qZ ⟨_,rfl,aw,_,rfl,.inr (tw H1),rfl,rfl,?_⟩
    rw[if_pos rfl,vt]
    exact q1
  ·exact⟨_,rfl,v,rfl,.inr ⟨ns,false,rfl,qN (q H (zu.refl _))⟩⟩
theorem LM (F:qM K "is_way" "is_way" (zX 25) f fd) (G:jW mg) (W:RO K mg "WAYS" wayL):zL P w K mg base zQ 1 f fd ["thing"] (Vn K):=by
 obtain⟨aw,ew,tw⟩:=W
 refine F.ok (N:=["thing"]) (by walk_at"s") (fun vs H Q E h=>?_) (fun cdv A outer s H vs Q E hr h=>?_)
 ·obtain⟨v,b,rfl,_⟩:=h
  rfl
 ·obtain⟨v,b,rfl,hv,q⟩:=h
  refine⟨_,zh (zm (yK (zv zJ rfl G.isinstance zE (za (pv 0) (za (yw (v:=.ty "str") rfl G.str qK rfl) zd)))
   (yL (qj v8 (pv 0) (zZ (v:=.ref aw) rfl ew rfl) (by rfl))))),?_⟩
  rcases hv with ⟨x,rfl,rfl⟩ | ⟨⟨r,hr',ty,ne⟩,rfl⟩
  ·refine⟨_,rfl,_,_,_,_,true,rfl,rfl,.inl (.str x),rfl,true,rfl,qZ ⟨_,rfl,aw,_,rfl,.inr (tw H),rfl,rfl,?_⟩⟩
   rw[if_neg Cm,vt]
   exact q
  ·obtain⟨_,_,k3,_⟩:=Qg (K:=K) r hr'
   have e:r.2.2.2.1=false:=by
    simp only[UZ,cU,cX,or_false] at hr'
    rcases hr' with rfl | rfl | rfl | rfl | rfl | rfl | rfl <;> first | rfl | exact absurd rfl ne
   rw[e] at k3
   exact⟨_,rfl,_,_,_,_,false,rfl,rfl,.inl ty,k3,false,rfl,qN q⟩
theorem N8 {x:Str} {m:Int} {t:Tok} (em:mg x=some (.int m t)) (hn:Yh mg x m) (F:qM K "is_parts" "is_parts" (zX 24) f fd) (hx:x = "MOST_PARTS") (C1:qR P w K mg base zQ 2 "is_number_within" ["thing","least","most"] (vb K)):zL P w K mg base zQ 3 f fd ["thing"] (wU K m):=by
 subst hx
 refine F.ok (N:=["thing"]) (by walk_at"s") (fun vs H Q E h=>?_) (fun cdv A outer s H vs Q E hr h=>?_)
 ·obtain⟨v,b,rfl,_⟩:=h
  rfl
 ·obtain⟨v,b,rfl,hv,q⟩:=h
  refine⟨_,zh (zm (zk C1 hr (by decide) zx (za (pv 0) (za ze (za (zZ (v:=.int m) rfl em ⟨t,rfl⟩) zd))))),_,rfl,v,0,m,rfl,?_⟩
  rcases hv with ⟨z,rfl,rfl⟩ | ⟨ns,rfl⟩
  ·exact .inl ⟨z,rfl,q⟩
  ·exact .inr ⟨ns,q⟩
theorem ou (F:qM K "is_parts" "is_parts" (zX 24) f fd) (N1:Yh mg "MOST_PARTS" 20000) (C1:qR P w K mg base zQ 2 "is_number_within" ["thing","least","most"] (vb K)):zL P w K mg base zQ 3 f fd ["thing"] (wU K 20000):=by
 obtain⟨t,em⟩:=N1
 exact N8 em ⟨t,em⟩ F rfl C1
theorem lq (F:qM K "is_rule_amount" "is_rule_amount" (zX 43) f fd) (N1:Yh mg "MOST_AMOUNT" 1000000000000) (C1:qR P w K mg base zQ 2 "is_number_within" ["thing","least","most"] (vb K)):zL P w K mg base zQ 3 f fd ["thing"] (wU K 1000000000000):=by
 obtain⟨t,em⟩:=N1
 refine F.ok (N:=["thing"]) (by walk_at"s") (fun vs H Q E h=>?_) (fun cdv A outer s H vs Q E hr h=>?_)
 ·obtain⟨v,b,rfl,_⟩:=h
  rfl
 ·obtain⟨v,b,rfl,hv,q⟩:=h
  refine⟨_,zh (zm (zk C1 hr (by decide) zx (za (pv 0) (za ze (za (zZ (v:=.int 1000000000000) rfl em ⟨t,rfl⟩) zd))))),_,rfl,v,0,1000000000000,rfl,?_⟩
  rcases hv with ⟨z,rfl,rfl⟩ | ⟨ns,rfl⟩
  ·exact .inl ⟨z,rfl,q⟩
  ·exact .inr ⟨ns,q⟩
theorem oR {cB:Addr} (F:qM K "need_rule_amount" "need_rule_amount" (zX 44) f fd) (X:Er K mg "BadRule" cB) (C1:qR P w K mg base zQ 3 "is_rule_amount" ["thing"] (wU K 1000000000000)):zL P w K mg base (j4 P w) 4 f fd ["thing"] (wm K cB):=by
 refine F.okE (N:=["thing"]) (by walk_at"s") (fun vs H Q E h=>?_) (fun cdv A outer s H vs Q E hr h=>?_)
 ·obtain⟨v,b,rfl,_⟩:=h
  rfl
 ·obtain⟨v,b,rfl,hv,q1,q2⟩:=h
  refine⟨_,zh (zK (qz (qy (zk C1 hr (by decide) zx (za (pv 0) zd)))) (zh (yq qQ rfl rfl X.at' X.ex (za zj zd))) zB),_,rfl,v,b,rfl,hv,b,rfl,?_⟩
  cases b with
  | true=>exact qN (q1 rfl)
  | false=>exact qZ ⟨by decide,q2 rfl⟩
theorem Gy {cB:Addr} (F:qM K "need_share" "need_share" (zX 45) f fd) (X:Er K mg "BadRule" cB) (C1:qR P w K mg base zQ 3 "is_parts" ["thing"] (wU K 20000)) (C2:qR P w K mg base zQ 1 "is_way" ["thing"] (Vn K)):zL P w K mg base (j4 P w) 4 f fd ["parts","way"] (vY K cB):=by
 refine F.okE (N:=["parts","way"]) (by walk_at"s") (fun vs H Q E h=>?_) (fun cdv A outer s H vs Q E hr h=>?_)
 ·obtain⟨v,u,b1,b2,rfl,_⟩:=h
  rfl
 ·obtain⟨v,u,b1,b2,rfl,h1,h2,q1,q2⟩:=h
  refine⟨_,zg (zK (qz (qy (zk C1 hr (by decide) zx (za (pv 0) zd)))) (zh (yq qQ rfl rfl X.at' X.ex (za zj zd))) zB) (zh (zK (qz (qy (zk C2 hr (by decide) zx (za (pv 1) zd)))) (zh (yq qQ rfl rfl X.at' X.ex (za zj zd))) zB)),_,rfl,v,b1,rfl,h1,b1,rfl,?_⟩
  cases b1 with
  | false=>exact qZ ⟨by decide,q2 rfl⟩
  | true =>
   refine qN ⟨_,rfl,u,b2,rfl,h2,b2,rfl,?_⟩
   cases b2 with
   | true=>exact qN (q1 rfl)
   | false=>exact qZ ⟨by decide,q2 rfl⟩
theorem Gr {cB:Addr} (F:qM K "__init__" "Rule.__init__" (zH (zX 47) 0) f fd) (X:Er K mg "BadRule" cB) (C1:qR P w K mg base zQ 3 "is_rule_name" ["thing"] (JT K)):zL P w K mg base (j4 P w) 4 f fd ["self","name"] (jH K cB):=by
 refine F.okE (N:=["self","name"]) (by walk_at"s") (fun vs H Q E h=>?_) (fun cdv A outer s H vs Q E hr h=>?_)
 ·obtain⟨C,o,dx,v,b,rfl,_⟩:=h
  rfl
 ·obtain⟨C,o,dx,v,b,rfl,cl,no,ho,hv,q1,q2⟩:=h
  refine⟨_,zg (zK (qz (qy (zk C1 hr (by decide) zx (za (pv 1) zd)))) (zh (yq qQ rfl rfl X.at' X.ex (za zj zd))) zB) (zh (yz (pv 0) (pv 1) rfl)),?_⟩
  refine⟨_,rfl,v,b,rfl,hv,fun H1 s1=>⟨b,rfl,?_⟩⟩
  cases b with
  | false=>exact qZ ⟨by decide,q2 rfl H1 s1⟩
  | true =>
   refine qN ⟨_,rfl,_,rfl,o,_,dx,[],rfl,s1 _ _ ho,cl,no,by decide,?_⟩
   rw[GK]
   exact q1 rfl _ (fun b x hb ne=>by rw[zG ne];exact s1 _ _ hb) zq
theorem xR {Cs:Nat→Addr} {cB:Addr} (F:qM K "__init__" "Flat.__init__" (zH (zX 48) 0) f fd) (RK:vC K Cs) (CR:uQ P w K mg base (j4 P w) 4 "Rule" "__init__" ["self","name"] (jH K cB)) (C1:qR P w K mg base (j4 P w) 4 "need_rule_amount" ["thing"] (wm K cB)):zL P w K mg base (j4 P w) 5 f fd ["self","name","amount"] (yJ K 0 Cs cB):=by
 refine F.okE (N:=["self","name","amount"]) (by walk_at"s") (fun vs H Q E h=>?_) (fun cdv A outer s H vs Q E hr h=>?_)
 ·obtain⟨o,dx,args,rfl,ho,bad,q⟩:=h
  match args,bad with
  | [v1,v2],_=>rfl
 ·obtain⟨o,dx,args,rfl,ho,bad,q⟩:=h
  match args,bad with
  | [v1,v2],⟨b1,b2,h1,h2,no⟩ =>
   refine⟨_,zg (qb (jg CR hr (by decide) qO (za (pv 0) (za (pv 1) zd)))) (zg (qb (zk C1 hr (by decide) qO (za (pv 2) zd))) qJ),?_⟩
   refine⟨_,rfl,_,rfl,_,o,dx,v1,b1,rfl,RK.cls 0 (by decide),RK.no 0 (by decide) "name" (by decide),ho,h1,fun e1 H1 f1 e=>?_,fun e1 H1 s1=>q H1 fun b x h _=>s1 _ _ h⟩
   rw[e1,Cj] at no
   exact⟨_,rfl,v2,b2,rfl,h2.fr ho f1,(fun e2=>by rw[e2] at no;cases no),fun _=>q H1 f1⟩
theorem Xd {Cs:Nat→Addr} {cB:Addr} (F:qM K "__init__" "Share.__init__" (zH (zX 49) 0) f fd) (RK:vC K Cs) (CR:uQ P w K mg base (j4 P w) 4 "Rule" "__init__" ["self","name"] (jH K cB)) (C1:qR P w K mg base (j4 P w) 4 "need_share" ["parts","way"] (vY K cB)):zL P w K mg base (j4 P w) 5 f fd ["self","name","parts","way"] (yJ K 1 Cs cB):=by
 refine F.okE (N:=["self","name","parts","way"]) (by walk_at"s") (fun vs H Q E h=>?_) (fun cdv A outer s H vs Q E hr h=>?_)
 ·obtain⟨o,dx,args,rfl,ho,bad,q⟩:=h
  match args,bad with
  | [v1,v2,v3],_=>rfl
 ·obtain⟨o,dx,args,rfl,ho,bad,q⟩:=h
  match args,bad with
  | [v1,v2,v3],⟨b1,b2,b3,h1,h2,h3,no⟩ =>
   refine⟨_,zg (qb (jg CR hr (by decide) qO (za (pv 0) (za (pv 1) zd)))) (zg (qb (zk C1 hr (by decide) qO (za (pv 2) (za (pv 3) zd)))) qJ),?_⟩
   refine⟨_,rfl,_,rfl,_,o,dx,v1,b1,rfl,RK.cls 1 (by decide),RK.no 1 (by decide) "name" (by decide),ho,h1,fun e1 H1 f1 e=>?_,fun e1 H1 s1=>q H1 fun b x h _=>s1 _ _ h⟩
   rw[e1,Cj] at no
   exact⟨_,rfl,_,rfl,v2,v3,b2,b3,rfl,h2.fr ho f1,h3.fr ho f1,(fun e2=>by rw[e2] at no;cases no),fun _=>q H1 f1⟩
theorem xv {Cs:Nat→Addr} {cB:Addr} (F:qM K "__init__" "Capped.__init__" (zH (zX 50) 0) f fd) (RK:vC K Cs) (CR:uQ P w K mg base (j4 P w) 4 "Rule" "__init__" ["self","name"] (jH K cB)) (C1:qR P w K mg base (j4 P w) 4 "need_share" ["parts","way"] (vY K cB)) (C2:qR P w K mg base (j4 P w) 4 "need_rule_amount" ["thing"] (wm K cB)):zL P w K mg base (j4 P w) 5 f fd ["self","name","parts","most","way"] (yJ K 2 Cs cB):=by
 refine F.okE (N:=["self","name","parts","most","way"]) (by walk_at"s") (fun vs H Q E h=>?_) (fun cdv A outer s H vs Q E hr h=>?_)
 ·obtain⟨o,dx,args,rfl,ho,bad,q⟩:=h
  match args,bad with
  | [v1,v2,v3,v4],_=>rfl
 ·obtain⟨o,dx,args,rfl,ho,bad,q⟩:=h
  match args,bad with
  | [v1,v2,v3,v4],⟨b1,b2,b3,b4,h1,h2,h3,h4,no⟩ =>
   refine⟨_,zg (qb (jg CR hr (by decide) qO (za (pv 0) (za (pv 1) zd)))) (zg (qb (zk C1 hr (by decide) qO (za (pv 2) (za (pv 4) zd)))) (zg (qb (zk C2 hr (by decide) qO (za (pv 3) zd))) qJ)),?_⟩
   refine⟨_,rfl,_,rfl,_,o,dx,v1,b1,rfl,RK.cls 2 (by decide),RK.no 2 (by decide) "name" (by decide),ho,h1,fun e1 H1 f1 e=>?_,fun e1 H1 s1=>q H1 fun b x h _=>s1 _ _ h⟩
   rw[e1,Cj] at no
   refine⟨_,rfl,_,rfl,v2,v4,b2,b4,rfl,h2.fr ho f1,h4.fr ho f1,fun e2=>?_,fun _=>q H1 f1⟩
   rw[e2,Cj] at no
   exact⟨_,rfl,v3,b3,rfl,h3.fr ho f1,(fun e3=>by rw[e3] at no;cases no),fun _=>q H1 f1⟩
theorem WZ {Cs:Nat→Addr} {cB:Addr} (F:qM K "__init__" "Least.__init__" (zH (zX 51) 0) f fd) (RK:vC K Cs) (CR:uQ P w K mg base (j4 P w) 4 "Rule" "__init__" ["self","name"] (jH K cB)) (C1:qR P w K mg base (j4 P w) 4 "need_share" ["parts","way"] (vY K cB)) (C2:qR P w K mg base (j4 P w) 4 "need_rule_amount" ["thing"] (wm K cB)):zL P w K mg base (j4 P w) 5 f fd ["self","name","parts","least","way"] (yJ K 3 Cs cB):=by
 refine F.okE (N:=["self","name","parts","least","way"]) (by walk_at"s") (fun vs H Q E h=>?_) (fun cdv A outer s H vs Q E hr h=>?_)
 ·obtain⟨o,dx,args,rfl,ho,bad,q⟩:=h
  match args,bad with
  | [v1,v2,v3,v4],_=>rfl
 ·obtain⟨o,dx,args,rfl,ho,bad,q⟩:=h
  match args,bad with
  | [v1,v2,v3,v4],⟨b1,b2,b3,b4,h1,h2,h3,h4,no⟩ =>
   refine⟨_,zg (qb (jg CR hr (by decide) qO (za (pv 0) (za (pv 1) zd)))) (zg (qb (zk C1 hr (by decide) qO (za (pv 2) (za (pv 4) zd)))) (zg (qb (zk C2 hr (by decide) qO (za (pv 3) zd))) qJ)),?_⟩
   refine⟨_,rfl,_,rfl,_,o,dx,v1,b1,rfl,RK.cls 3 (by decide),RK.no 3 (by decide) "name" (by decide),ho,h1,fun e1 H1 f1 e=>?_,fun e1 H1 s1=>q H1 fun b x h _=>s1 _ _ h⟩
   rw[e1,Cj] at no
   refine⟨_,rfl,_,rfl,v2,v4,b2,b4,rfl,h2.fr ho f1,h4.fr ho f1,fun e2=>?_,fun _=>q H1 f1⟩
   rw[e2,Cj] at no
   exact⟨_,rfl,v3,b3,rfl,h3.fr ho f1,(fun e3=>by rw[e3] at no;cases no),fun _=>q H1 f1⟩
theorem lU (F:qM K "is_band" "is_band" (zX 54) f fd) (G:jW mg) (C1:qR P w K mg base zQ 3 "is_rule_amount" ["thing"] (wU K 1000000000000)) (C2:qR P w K mg base zQ 3 "is_parts" ["thing"] (wU K 20000)):zL P w K mg base zQ 4 f fd ["thing"] (Yg K):=by
 refine F.ok (N:=["thing"]) (by walk_at"s") (fun vs H Q E h=>?_) (fun cdv A outer s H vs Q E hr h=>?_)
 ·obtain⟨v,p,rfl,_⟩:=h
  rfl
 ·obtain⟨v,p,rfl,hv,q⟩:=h
  refine⟨_,(zg (zK (PW.pt (yM (qz (qy (zv zJ rfl G.isinstance zE (za (pv 0) (za (yw (v:=.ty "tuple") rfl G.tuple yy rfl) zd))))) (yU (zw vP (zv zO rfl G.len boot_len (za (pv 0) zd)) ze (zD _))))) (zh (zm jj)) zB)
    (zh (zm (yK (zk C1 hr (by decide) zx (za (zC zT (pv 0) ze) zd)) (yL (zk C2 hr (by decide) zx (za (zC zT (pv 0) ze) zd))))))),?_⟩
  cases hv with
  | other ty kt=>exact⟨_,rfl,_,_,_,_,false,rfl,rfl,.inl ty,kt,false,rfl,qZ (qZ q)⟩
  | @size t xs ha ne =>
   refine⟨_,rfl,_,_,_,_,true,rfl,rfl,.inl (.tup ha),rfl,true,rfl,qN ⟨_,rfl,t,_,rfl,.inr (qw.of ha),rfl,_,rfl,qi (fun _=>q) (fun e=>?_)⟩⟩
   exact (e (by rw[dz,decide_eq_false fun z=>ne (by injection z with z;omega)])).elim
  | @pair t p ha h1 h2 =>
   refine⟨_,rfl,_,_,_,_,true,rfl,rfl,.inl (.tup ha),rfl,true,rfl,qN ⟨_,rfl,t,_,rfl,.inr (qw.of ha),rfl,_,rfl,qN ?_⟩⟩
   have d1:decide (0≤p.1∧p.1≤1000000000000)=true:=decide_eq_true h1
   have d2:decide (0≤p.2∧p.2≤20000)=true:=decide_eq_true h2
   exact⟨_,rfl,t,_,_,_,rfl,rfl,qw.of ha,rfl,_,true,rfl,.inl ⟨p.1,rfl,d1.symm⟩,true,rfl,qZ ⟨_,rfl,t,_,_,_,rfl,rfl,qw.of ha,rfl,_,true,rfl,.inl ⟨p.2,rfl,d2.symm⟩,q⟩⟩
  | @odd t x y b1 b2 ha h1 h2 no =>
   refine⟨_,rfl,_,_,_,_,true,rfl,rfl,.inl (.tup ha),rfl,true,rfl,qN ⟨_,rfl,t,_,rfl,.inr (qw.of ha),rfl,_,rfl,qN ?_⟩⟩
   refine⟨_,rfl,t,_,_,_,rfl,rfl,qw.of ha,rfl,x,b1,rfl,h1,b1,rfl,?_⟩
   cases b1 with
   | false=>exact qN q
   | true =>
    rw[Cj] at no
    subst no
    exact qZ ⟨_,rfl,t,_,_,_,rfl,rfl,qw.of ha,rfl,y,false,rfl,h2,q⟩
theorem OQ (F:qM K "rise" "rise" (zX 38) f fd) (G:jW mg):zL P w K mg base zQ 1 f fd ["things"] (Wl K):=by
 have nc:(["thing","after"]:List Str).Nodup:=by decide +kernel
 refine F.ok (N:=["things"]) (by walk_at"s") (fun vs H Q E h=>?_) (fun cdv A outer s H vs Q E hr h=>?_)
 ·obtain⟨l,zs,rfl,_⟩:=h
  rfl
 ·obtain⟨l,zs,rfl,hl,zl,q⟩:=h
  refine' ⟨_,zh (zm (zv (jD rfl) rfl G.all vA (za ?comp zd))),?main⟩
  case comp =>
   refine' qv (Nc:=["thing","after"]) (cl:=[]) (src:=[none,none]) (wi:=NG K (qX (qd 0) (qX (RP (RA K) (qd 0) (Qi (tC (.int 1))) ku) jy))) (g:=Lv K 2 (QX (qx 0) (QX (qx 1) Mu))) (tt:=yb) (te:=jV (WS fun i j=>.bl (decide (i<j))) (qd 0) (qd 1))
    ⟨rfl,rfl,by decide +kernel,by decide +kernel,(fun x c z=>nomatch z),qT (by rfl),qa (qa qu),rfl⟩ rfl (PX rfl G.zip (za (pv 0) (za (qp yn (pv 0) (qC ze) qL) zd))) ?hb
   case hb =>
    intro fp C' s' H'
    exact⟨On rfl (kJ (z5 (i:=0) nc rfl (Or.inl rfl)) (kJ (z5 (i:=1) nc rfl (Or.inl rfl)) X8)),qP,qj uY (pv 0) (pv 1) (zD _)⟩
  refine⟨_,rfl,_,rfl,_,rfl,l,_,rfl,hl,fun p p0=>?_⟩
  have s1:zu H (upd H p (.lst (yX (zs.map V.int) (some 1) none))):=zu.upd p0
  have e1:(upd H p (.lst (yX (zs.map V.int) (some 1) none))) p=some (.lst (zs.tail.map V.int)):=by rw[zq,V6]
  refine⟨l,p,rfl,⟨_,s1.seq hl⟩,⟨_,zY.of e1⟩,fun D hD=>Jn (s1.seq hl) (zY.of e1) hD (by rw[cN,Dq,sizeLine_eq];omega) (by rw[cN,cN,Dq];omega) ck (fun i x y hx hy H1 R s2 r=>?_) (fun H1 s2 e2=>?_)⟩
  ·rw[cW] at hx hy
   obtain⟨a,ha,rfl⟩:=Cu.mp hx
   obtain⟨b,hb,rfl⟩:=Cu.mp hy
   exact⟨_,rfl,_,rfl,a,b,rfl,rfl,r H1 (zu.refl _)⟩
  ·rw[NA] at e2
   refine⟨D,_,rfl,zY.of e2,?_⟩
   rw[Pe]
   exact q H1 (s1.trans s2)
set_option maxHeartbeats 4000000 in
theorem oU (F:qM K "are_bands" "are_bands" (zX 55) f fd) (G:jW mg) (N1:Yh mg "MOST_BANDS" 12) (C1:qR P w K mg base zQ 4 "is_band" ["thing"] (Yg K)) (C2:qR P w K mg base zQ 1 "rise" ["things"] (Wl K)):zL P w K mg base zQ 5 f fd ["thing"] (Jg K):=by
 obtain⟨tk,em⟩:=N1
 have nd:(["thing","borders"]:List Str).Nodup:=by decide +kernel
 have nc:(["row"]:List Str).Nodup:=by decide +kernel
 refine F.ok (N:=["thing","borders"]) (by walk_at"s") (fun vs H Q E h=>?_) (fun cdv A outer s H vs Q E hr h=>?_)
 ·obtain⟨v,b,rfl,_⟩:=h
  rfl
 ·obtain⟨v,b,rfl,hv,q⟩:=h
  refine' ⟨_,(zg (zK (PW.pt (yM (qz (qy (zv zJ rfl G.isinstance zE (za (pv 0) (za (yw (v:=.ty "tuple") rfl G.tuple yy rfl) zd))))) (yM (zw uY (zv zO rfl G.len boot_len (za (pv 0) zd)) ze (zD _)) (yU (zw y6 (zv zO rfl G.len boot_len (za (pv 0) zd)) (zZ (v:=.int 12) rfl em ⟨tk,rfl⟩) (zD _)))))) (zh (zm jj)) zB)
    (zg (zK (qz (qy (zv (jD rfl) rfl G.all vA (za ?comp_2 zd)))) (zh (zm jj)) zB)
    (zg ?st_1
    (zh (zm (yK (qj qh (zC zA (pv 1) ze) ze (zD _)) (yL (zk C2 hr (by decide) zx (za (pv 1) zd))))))))),?main⟩
  case comp_2 =>
   refine' qv (Nc:=["row"]) (cl:=[]) (src:=[none]) (wi:=YC K (qd 0)) (g:=qx 0) (tt:=yb) (te:=fun σ H Q=>qX (qd 0) jy σ H fun vs H1=>Yg K vs H1 Q E0)
    (by walk_at"c0") rfl (uu (pv 0)) ?hb
   case hb =>
    intro fp C' s' H'
    exact⟨z5 (i:=0) nc rfl (Or.inl rfl),qP,zk C1 hr (by decide) zx (za (pv 0) zd)⟩
  case st_1 =>
   refine' Z7 (i:=1) (Nc:=["row"]) (cl:=[]) (src:=[none]) (wi:=YC K (qd 0)) (g:=qx 0) (tt:=yb) (te:=jV (Zz K) (qd 0) (tC (.int 0))) nd rfl rfl
    (by walk_at"c0") rfl (uu (pv 0)) ?hb
   case hb =>
    intro fp C' s' H'
    exact⟨z5 (i:=0) nc rfl (Or.inl rfl),qP,zC zT (pv 0) ze⟩
  cases hv with
  | other ty kt=>exact⟨_,rfl,_,_,_,_,false,rfl,rfl,.inl ty,kt,false,rfl,qZ (qZ (q H (zu.refl _)))⟩
  | @rows u xs os hu xl x20 rw' =>
   have bd:Jq os=(decide (1≤os.length∧os.length≤12)&&(os.all Option.isSome&&(decide ((os.filterMap fun o=>o.map (·.1)).head? = some 0)&&vV (os.filterMap fun o=>o.map (·.1))))):=rfl
   have hs:os.length<sizeLine:=by rw[sizeLine_eq];omega
   refine⟨_,rfl,_,_,_,_,true,rfl,rfl,.inl (.tup hu),rfl,true,rfl,qN ⟨_,rfl,u,_,rfl,.inr (qw.of hu),_,_,rfl,rfl,_,rfl,qi (fun e=>qZ ?_) (fun e1=>?_)⟩⟩
   ·have e:=of_decide_eq_true e
    rw[bd,decide_eq_false (by omega),CQ] at q
    exact q H (zu.refl _)
   refine⟨_,rfl,u,_,rfl,.inr (qw.of hu),_,_,rfl,rfl,_,rfl,qi (fun e=>?_) (fun e2=>?_)⟩
   ·have e:=of_decide_eq_true e
    rw[bd,decide_eq_false (by omega),CQ] at q
    exact q H (zu.refl _)
   have l1:1≤os.length:=by
    have:¬ ((xs.length:Nat):Int)<1:=fun c=>e1 (decide_eq_true c)
    omega
   have l2:os.length≤12:=by
    have:¬ (12:Int)<((xs.length:Nat):Int):=fun c=>e2 (decide_eq_true c)
    omega
   rw[decide_eq_true (show 1≤os.length∧os.length≤12 from ⟨l1,l2⟩),Cj] at bd
   have T:j6 H xs os (fun H v o=>oF K H v o):=⟨xl,fun i y e=>by
    have hi:i<os.length:=by rw[← xl];exact (Cv.mp e).1
    exact⟨_,Ca hi,fun H' s=>(rw' i y _ e (Ca hi)).same s⟩⟩
   refine⟨_,rfl,u,rfl,⟨_,qw.of hu⟩,fun D hD=>jL (ju (qw.of hu)) T hD hs (fun o=>V.bl o.isSome) (fun o ho v H1 R s1 e1 r=>⟨_,rfl,v,o,rfl,e1,r H1 (zu.refl _)⟩) (fun H1 s1 e1=>?_)⟩
   refine⟨D,os.map Option.isSome,rfl,zY.of (by rw[e1,CH];rfl),_,rfl,?_⟩
   have ea:(os.map Option.isSome).all id=os.all Option.isSome:=by rw[dF];rfl
   rw[ea]
   cases al:os.all Option.isSome with
   | false =>
    rw[al,CQ] at bd
    rw[bd] at q
    exact qZ (q H1 s1)
   | true =>
    rw[al,Cj] at bd
    refine qN ?_
    obtain⟨ps,rfl⟩:=Jj al
    rw[Yt] at bd
    rw[cN] at xl hs l1
    have T1:j6 H1 xs ps (fun H v p=>∃ a,v = .ref a∧H a=some (.tup (cB p))):=⟨xl,fun i y e=>by
     have hi:i<ps.length:=by rw[← xl];exact (Cv.mp e).1
     refine⟨_,Ca hi,fun H' s=>?_⟩
     have:=(rw' i y (some ps[i]) e (by rw[cW,Ca hi];rfl)).same (s1.trans s)
     cases this with
     | pair a b c=>exact⟨_,rfl,a⟩⟩
    refine⟨_,rfl,u,rfl,⟨_,qw.of (s1 _ _ hu)⟩,fun D2 hD2=>jL (ju (qw.of (s1 _ _ hu))) T1 hD2 hs (fun p=>V.int p.1) (fun p hp v H2 R s2 e2 r=>?_) (fun H2 s2 e2=>?_)⟩
    ·obtain⟨a,rfl,ha⟩:=e2
     exact⟨_,rfl,a,_,_,_,rfl,rfl,qw.of ha,rfl,r H2 (zu.refl _)⟩
    have e2':H2 D2=some (.lst ((ps.map (·.1)).map V.int)):=by rw[e2,CH];rfl
    cases ps with
    | nil=>cases l1
    | cons p0 pr =>
     refine⟨_,rfl,D2,_,_,.int p0.1,rfl,rfl,zY.of e2',qE rfl,rfl,_,rfl,?_⟩
     rw[bd] at q
     by_cases c:p0.1=0
     ·rw[show decide (((p0::pr).map (·.1)).head? = some 0)=true from decide_eq_true (by rw[← c];rfl),Cj] at q
      rw[show decide (V.int p0.1=V.int 0)=true from decide_eq_true (by rw[c])]
      exact qZ ⟨_,rfl,D2,_,rfl,zY.of e2',(by rw[cN];have h12:=l2;have hx:=xl;simp only[cN] at *;omega),fun H3 s3=>q H3 (s1.trans (s2.trans s3))⟩
     ·rw[show decide (((p0::pr).map (·.1)).head? = some 0)=false from decide_eq_false (fun z=>c (Option.some.inj z)),CQ] at q
      rw[show decide (V.int p0.1=V.int 0)=false from decide_eq_false (fun z=>c (by injection z))]
      exact qN (q H2 (s1.trans s2))
theorem oB {Cs:Nat→Addr} {cB:Addr} (F:qM K "__init__" "Bands.__init__" (zH (zX 56) 0) f fd) (X:Er K mg "BadRule" cB) (RX:Zu K (Cs 4)) (CR:uQ P w K mg base (j4 P w) 4 "Rule" "__init__" ["self","name"] (jH K cB)) (C1:qR P w K mg base zQ 5 "are_bands" ["thing"] (Jg K)) (C2:qR P w K mg base zQ 1 "is_way" ["thing"] (Vn K)):zL P w K mg base (j4 P w) 6 f fd ["self","name","rows","way"] (yJ K 4 Cs cB):=by
 refine F.okE (N:=["self","name","rows","way"]) (by walk_at"s") (fun vs H Q E h=>?_) (fun cdv A outer s H vs Q E hr h=>?_)
 ·obtain⟨o,dx,args,rfl,ho,bad,q⟩:=h
  match args,bad with
  | [v1,v2,v3],_=>rfl
 ·obtain⟨o,dx,args,rfl,ho,bad,q⟩:=h
  match args,bad with
  | [v1,v2,v3],⟨b1,b2,b3,h1,h2,h3,no⟩ =>
   refine⟨_,zg (qb (jg CR hr (by decide) qO (za (pv 0) (za (pv 1) zd)))) (zg (zK (qz (qy (zk C1 hr (by decide) zx (za (pv 2) zd)))) (zh (yq qQ rfl rfl X.at' X.ex (za zj zd))) zB) (zg (zK (qz (qy (zk C2 hr (by decide) zx (za (pv 3) zd)))) (zh (yq qQ rfl rfl X.at' X.ex (za zj zd))) zB) qJ)),?_⟩
   refine⟨_,rfl,_,rfl,_,o,dx,v1,b1,rfl,RX.cls,RX.no "name" (by decide),ho,h1,fun e1 H1 f1 e=>?_,fun e1 H1 s1=>q H1 fun b x h _=>s1 _ _ h⟩
   rw[e1,Cj] at no
   refine⟨_,rfl,v2,b2,rfl,h2.fr ho f1,fun H2 s2=>⟨b2,rfl,?_⟩⟩
   have f2:∀ b x,H b=some x→b≠o→H2 b=some x:=fun b x h n=>s2 _ _ (f1 _ _ h n)
   cases b2 with
   | false=>exact qZ ⟨by decide,q H2 f2⟩
   | true =>
    rw[Cj] at no
    subst no
    exact qN ⟨_,rfl,v3,false,rfl,h3.fr ho f2,false,rfl,qZ ⟨by decide,q H2 f2⟩⟩
set_option maxHeartbeats 4000000 in
theorem G8 {Cs:Nat→Addr} {cRu cB:Addr} {j:Nat} (F:qM K "__init__" "OnTop.__init__" (zH (zX 59) 0) f fd) (G:jW mg) (X:Er K mg "BadRule" cB) (RX:Zu K (Cs 5)) (RJ:NM K Cs cRu) (gR:mg "Rule" = some (.ref cRu)) (N1:Yh mg "MOST_DEPTH" 3) (hj:4≤j) (CR:uQ P w K mg base (j4 P w) 4 "Rule" "__init__" ["self","name"] (jH K cB)) (C1:qR P w K mg base (j4 P w) 4 "need_share" ["parts","way"] (vY K cB)) (MT:∀ k,k<6→q8 P w K mg base zQ j (Cs k) "twin" ["self"] (ye 3 k Cs)) (MD:q8 P w K mg base zQ j (Cs 5) "depth" ["self"] (yD 4 5 Cs)):zL P w K mg base (j4 P w) (j+1) f fd ["self","name","parts","way","rule"] (JQ K cRu Cs cB):=by
 obtain⟨tk,em⟩:=N1
 refine F.okE (N:=["self","name","parts","way","rule"]) (by walk_at"s") (fun vs H Q E h=>?_) (fun cdv A outer s H vs Q E hr h=>?_)
 ·obtain⟨o,dx,v1,v2,v3,v4,b1,b2,b3,b4,rfl,_⟩:=h
  rfl
 ·obtain⟨o,dx,v1,v2,v3,v4,b1,b2,b3,b4,rfl,ho,h1,h2,h3,h4,no,q⟩:=h
  refine⟨_,zg (qb (jg CR hr hj qO (za (pv 0) (za (pv 1) zd)))) (zg (qb (zk C1 hr hj qO (za (pv 2) (za (pv 3) zd)))) (zg (zK (qz (qy (zv zJ rfl G.isinstance zE (za (pv 4) (za (zZ (v:=.ref cRu) rfl gR rfl) zd))))) (zh (yq qQ rfl rfl X.at' X.ex (za zj zd))) zB)
   (zg (yz (pv 0) (pv 2) rfl) (zg (yz (pv 0) (pv 3) rfl) (zg (yz (pv 0) (vM (p:=fun k=>k<6) fun k hk=>vo (MT k hk) hr (cP _) zx (pv 4)) rfl)
   (zh (zK (zw y6 (vo MD hr (cP _) zx (pv 0)) (zZ (v:=.int 3) rfl em ⟨tk,rfl⟩) (zD _)) (zh (yq qQ rfl rfl X.at' X.ex (za zj zd))) qJ))))))),?_⟩
  refine⟨_,rfl,_,rfl,_,o,dx,v1,b1,rfl,RX.cls,RX.no "name" (by decide),ho,h1,fun t1 H1 f1 e1=>?_,fun _ H1 s1=>q H1 fun b x h _=>s1 _ _ h⟩
  subst t1
  rw[Cj] at no
  refine⟨_,rfl,_,rfl,v2,v3,b2,b3,rfl,h2.fr ho f1,h3.fr ho f1,fun t2=>?_,fun _=>q H1 f1⟩
  rw[t2,Cj] at no
  rw[cQ] at t2
  obtain⟨rfl,rfl⟩:=t2
  obtain⟨n,rfl,hn⟩:=h1.true
  obtain⟨p,rfl,hp⟩:=h2.true
  obtain⟨x,rfl,hw⟩:=h3.true
  cases h4 with
  | good=>cases no
  | other ty kt=>exact⟨_,rfl,_,_,_,_,false,rfl,rfl,.inl (TyB.fr ho f1 ty),kt,false,rfl,qZ ⟨by decide,q H1 f1⟩⟩
  | @deep n' w' p' r' ri gd dp =>
   obtain⟨r,hr3⟩:∃ r,r=Rk.ontop n' p' w' r':=⟨_,rfl⟩
   rw[← hr3] at ri gd dp
   have r1:=ri.frame gd ho f1
   obtain⟨oi,dxi,fsi,rfl,hoi,_,noi⟩:=r1.obj gd
   have k6:=Lm r
   refine⟨_,rfl,_,_,_,_,true,rfl,rfl,.inl (.ins hoi (RJ.cls _ k6) (RJ.ha _ k6) RJ.hn RJ.htk (RJ.hm _ k6)),RJ.kt _ k6,true,rfl,qN ?_⟩
   refine⟨_,rfl,_,rfl,o,_,dx,_,rfl,e1,RX.cls,RX.no "parts" (by decide),by show 1<1000;decide,?_⟩
   rw[Nq _ _ _ (by decide +kernel)]
   refine⟨_,rfl,_,rfl,o,_,dx,_,rfl,zq,RX.cls,RX.no "way" (by decide),by show 2<1000;decide,?_⟩
   rw[RN _ _ _ _ _ (by decide +kernel) (by decide +kernel)]
   have f2:∀ b y,H b=some y→b≠o→(upd (upd H1 o (.ins (Cs 5) dx [("name",.str n),("parts",.int p)])) o (.ins (Cs 5) dx [("name",.str n),("parts",.int p),("way",.str x)])) b=some y:=fun b y hb ne=>by rw[zG ne,zG ne];exact f1 _ _ hb ne
   have e2:(upd (upd H1 o (.ins (Cs 5) dx [("name",.str n),("parts",.int p)])) o (.ins (Cs 5) dx [("name",.str n),("parts",.int p),("way",.str x)])) o=some (.ins (Cs 5) dx [("name",.str n),("parts",.int p),("way",.str x)]):=zq
   generalize upd (upd H1 o (.ins (Cs 5) dx [("name",.str n),("parts",.int p)])) o (.ins (Cs 5) dx [("name",.str n),("parts",.int p),("way",.str x)])=H2 at f2 e2
   have r2:=ri.frame gd ho f2
   obtain⟨oi2,dxi2,fsi2,eoi,hoi2,_,noi2⟩:=r2.obj gd
   cases eoi
   refine⟨r.kd,k6,_,rfl,oi,dxi2,fsi2,rfl,hoi2,noi2 "twin" (by decide),_,r,rfl,rfl,r2,gd,fun u' H3 s3 r3=>?_⟩
   have e3:=s3 _ _ e2
   refine⟨_,rfl,o,_,dx,_,rfl,e3,RX.cls,RX.no "within" (by decide),by show 3<1000;decide,?_⟩
   rw[bp _ _ _ _ _ _ _ (by decide +kernel) (by decide +kernel) (by decide +kernel)]
   have f4:∀ b y,H3 b=some y→b≠o→(upd H3 o (.ins (Cs 5) dx [("name",.str n),("parts",.int p),("way",.str x),("within",u')])) b=some y:=fun b y hb ne=>by rw[zG ne];exact hb
   have e4:(upd H3 o (.ins (Cs 5) dx [("name",.str n),("parts",.int p),("way",.str x),("within",u')])) o=some (.ins (Cs 5) dx [("name",.str n),("parts",.int p),("way",.str x),("within",u')]):=zq
   generalize upd H3 o (.ins (Cs 5) dx [("name",.str n),("parts",.int p),("way",.str x),("within",u')])=H4 at f4 e4
   have r4:=r3.frame3 RJ.ne gd e3 f4
   have g4:Gd (3+1) (.ontop n p x r):=.ontop hn hp hw gd
   refine⟨_,rfl,o,dx,_,rfl,e4,rfl,_,_,rfl,rfl,.ontop e4 r4,g4,_,_,rfl,rfl,_,rfl,qi (fun _=>⟨by decide,q H4 fun b y hb ne=>f4 _ _ (s3 _ _ (f2 _ _ hb ne)) ne⟩) (fun e=>?_)⟩
   refine e (decide_eq_true ?_)
   show Ms (.ontop n p x r) > 3
   have:Ms (.ontop n p x r)=Ms r+1:=rfl
   omega
end
end K10
namespace Pg
open PySem PySem.NumText L2 Builtin Builtin.Str
theorem MQ (l:List Nat) (h:AllDigits l) (acc:Nat):l.foldl (fun acc c=>acc*10+(c - 48)) acc<(acc+1)*10 ^ l.length:=by
 induction l generalizing acc with
 | nil=>rw[List.foldl_nil,dQ,Nat.pow_zero,Nat.mul_one];exact dN _
 | cons c l ih =>
  have hc:=h c Ce
  have:=ih (fun d hd=>h d (Cd _ hd)) (acc*10+(c - 48))
  rw[d5,CI,Nat.pow_succ,Nat.mul_comm (10 ^ l.length),← Nat.mul_assoc]
  exact CJ this (Nat.mul_le_mul_right _ (by omega))
theorem RT {l:List Nat} (h:AllDigits l):digitsVal l<10 ^ l.length:=by
 have:=MQ l h 0
 rwa [Nat.zero_add,Nat.one_mul] at this
theorem wu {a b:Str} (h:a.cps.toList=b.cps.toList):a=b:=by
 have:=Gs (a:=[a]) (b:=[b]) (by rw[CF,CF,h])
 exact (List.cons.inj this).1
end Pg
namespace Pg
open PySem L2 PySem.NumText
theorem Gq (z:Str) (n:Int):(jI z n).length=n.toNat*z.length:=by
 rw[qg]
 unfold jI
 rw[qg z]
 show ((List.replicate n.toNat z.cps.toList).flatten).length=_
 rw[List.length_flatten,DY,List.sum_replicate_nat]
open Builtin Builtin.Str
theorem xN (x:Str) (i j:Nat):(strSub x i j).length≤x.length:=by
 unfold strSub
 show (x.cps.extract i j).size≤x.cps.size
 rw[Array.size_extract]
 omega
noncomputable def q9 (m:Nat) (z:Str):Option Int:=if z.length≤m∧vN z.cps.toList=true then some ((digitsVal z.cps.toList:Nat):Int) else none
noncomputable def OA (cT:Addr):Sp:=fun vs H Q E=>∃ (z:Str) (m:Nat),vs=[.str z,.int (m:Nat)]∧m≤100∧z.length≤100000∧∀ H',zu H H'→(∀ r,q9 m z=some r→Q (.int r) H')∧(q9 m z=none→E (.ref cT) none H')
noncomputable def Qd (cT:Addr):Sp:=fun vs H Q E=>∃ z:Str,vs=[.str z]∧z.length≤100000∧∀ H',zu H H'→(∀ r,q9 13 z=some r→Q (.int r) H')∧(q9 13 z=none→E (.ref cT) none H')
theorem yo (z y:Str):(Txt.split z y).length≤z.length+2∧(∀ w∈Txt.split z y,w.length≤z.length)∧∃ w ws,Txt.split z y=w::ws:=by
 have pb:∀ cuts:List Nat,∀ w∈partsBetween z cuts y.length,w.length≤z.length:=fun cuts w hw=>by
  unfold partsBetween at hw
  obtain⟨p,_,rfl⟩:=Cp.mp hw
  exact xN _ _ _
 unfold Txt.split
 split
 ·exact⟨by rw[CU];omega,fun w hw=>by rw[Co.mp hw];exact cP _,z,[],rfl⟩
 ·split
  ·exact⟨by rw[CU];omega,fun w hw=>by rw[Co.mp hw];exact cP _,z,[],rfl⟩
  ·refine⟨?_,pb _,?_⟩
   ·rw[length_partsBetween]
    have:=StrLaws.occ_length_le z y 0 z.length (z.length+1)
    omega
   ·cases e:partsBetween z (occurrences z y 0 z.length (z.length+1)) y.length with
    | nil =>
     have:=length_partsBetween z (occurrences z y 0 z.length (z.length+1)) y.length
     rw[e] at this
     cases this
    | cons w ws=>exact⟨w,ws,rfl⟩
theorem yS {z:Str} (y:Str) (h:z.length≤50000):(partsBetween z (occurrences z y 0 z.length (z.length+1)) y.length).length≤sizeLine:=by
 rw[length_partsBetween,sizeLine_eq]
 have:=StrLaws.occ_length_le z y 0 z.length (z.length+1)
 omega
noncomputable def OE (a b:Option Int):Option (Int × Int):=match a,b with
 | some a,some b=>some (a,b)
 | _,_=>none
noncomputable def yt (z:Str):Option (Int × Int):=match Txt.split z ":" with
 | [a,b]=>OE (q9 13 a) (q9 13 b)
 | _=>none
noncomputable def Yj (cT cB:Addr):Sp:=fun vs H Q E=>∃ z:Str,vs=[.str z]∧z.length≤50000∧∀ H',zu H H'→(∀ p t,yt z=some p→H' t=some (.tup [.int p.1,.int p.2])→Q (.ref t) H')∧(yt z=none→E (.ref cT) none H'∧E (.ref cB) none H')
noncomputable def yY (ws:List Str):Option (List (Int × Int)):=if (ws.map yt).all Option.isSome=true then some ((ws.map yt).filterMap id) else none
theorem Jx {ws:List Str} {qs:List (Int × Int)} (h:ws.map yt=qs.map some):yY ws=some qs:=by
 unfold yY
 rw[h,if_pos (by rw[dF];exact Cn.mpr fun _ _=>rfl),List.filterMap_map]
 congr 1
 exact List.filterMap_some
theorem JE {ws:List Str} {w:Str} (h:w∈ws) (n:yt w=none):yY ws=none:=by
 unfold yY
 rw[if_neg fun c=>by
  have:=Cn.mp c _ (Cp.mpr ⟨w,h,rfl⟩)
  rw[n] at this
  cases this]
noncomputable def Ja (cT cB:Addr):Sp:=fun vs H Q E=>∃ z:Str,vs=[.str z]∧z.length≤50000∧∀ H',zu H H'→(∀ ps u,yY (Txt.split z ",")=some ps→uf H' u ps→Q (.ref u) H')∧(yY (Txt.split z ",")=none→E (.ref cT) none H'∧E (.ref cB) none H')
end Pg
namespace K10
open PySem PySem.NumText L2 Pg
seal PE PA PT PW PS y8 PG vz PI j8 PO PK
section
variable {P:Program} {w:World} {K:BFr} {mg:Str→Option Value} {base:Heap} {f:Addr} {fd:FuncData} {d:Nat→Addr} {cR:Addr}
theorem r8 {cT:Addr} (F:qM K "read_number" "read_number" (zX 63) f fd) (G:jW mg) (X:Er K mg "BadText" cT) (C1:qR P w K mg base zQ 2 "is_number_text" ["text"] gr):zL P w K mg base (j4 P w) 3 f fd ["text","most_figures"] (OA cT):=by
 refine F.okE (N:=["text","most_figures"]) (by walk_at"s") (fun vs H Q E h=>?_) (fun cdv A outer s H vs Q E hr h=>?_)
 ·obtain⟨z,m,rfl,_⟩:=h
  rfl
 ·obtain⟨z,m,rfl,hm,hz,q⟩:=h
  have fit:z.length≤sizeLine:=uq hz rfl
  refine⟨_,zg (zK (PW.pt (yM (zw y6 (zv qU rfl G.len boot_len (za (pv 0) zd)) (pv 1) (zD _)) (yU (qz (qy (zk C1 hr (by decide) zx (za (pv 0) zd))))))) (zh (yq qQ rfl rfl X.at' X.ex (za zj zd))) zB) (zh (zm (z8 jK rfl G.int jt (za (pv 0) zd)))),?_⟩
  refine⟨_,rfl,z,rfl,fit,_,rfl,_,_,rfl,rfl,_,rfl,qi (fun e=>qZ ⟨by decide,(q H (zu.refl _)).2 ?_⟩) (fun e=>?_)⟩
  ·have e:((m:Nat):Int)<((z.length:Nat):Int):=of_decide_eq_true e
   unfold q9
   rw[if_neg fun h=>by have:=h.1;omega]
  have l2:z.length≤m:=by
   have e:¬ ((m:Nat):Int)<((z.length:Nat):Int):=fun c=>e (decide_eq_true c)
   omega
  refine⟨_,rfl,z,rfl,by omega,fun H1 s1=>?_⟩
  obtain⟨q1,q2⟩:=q H1 s1
  cases eb:vN z.cps.toList with
  | false =>
   refine⟨false,rfl,qZ ⟨by decide,q2 ?_⟩⟩
   unfold q9
   rw[if_neg fun h=>by rw[eb] at h;exact Cm h.2]
  | true =>
   have fg:wV z.cps.toList=true:=by
    unfold vN at eb
    rw[cQ] at eb
    exact eb.1
   obtain⟨d1,d2⟩:=uP fg
   refine⟨true,rfl,qN ⟨_,rfl,z,_,rfl,intText_digits d1 d2 (by omega),by omega,q1 _ ?_⟩⟩
   unfold q9
   rw[if_pos ⟨l2,eb⟩]
theorem Mh {cT:Addr} (F:qM K "number_of" "number_of" (zX 66) f fd) (N1:Yh mg "MOST_FIGURES" 13) (C1:qR P w K mg base (j4 P w) 3 "read_number" ["text","most_figures"] (OA cT)):zL P w K mg base (j4 P w) 4 f fd ["word"] (Qd cT):=by
 obtain⟨tk,em⟩:=N1
 refine F.okE (N:=["word"]) (by walk_at"s") (fun vs H Q E h=>?_) (fun cdv A outer s H vs Q E hr h=>?_)
 ·obtain⟨z,rfl,_⟩:=h
  rfl
 ·obtain⟨z,rfl,hz,q⟩:=h
  exact⟨_,zh (zm (zk C1 hr (by decide) qO (za (pv 0) (za (zZ (v:=.int 13) rfl em ⟨tk,rfl⟩) zd)))),_,rfl,z,13,rfl,by decide,hz,q⟩
set_option maxHeartbeats 4000000 in
theorem lJ {cT cB:Addr} (F:qM K "band_of" "band_of" (zX 67) f fd) (G:jW mg) (X:Er K mg "BadRule" cB) (C1:qR P w K mg base (j4 P w) 4 "number_of" ["word"] (Qd cT)):zL P w K mg base (j4 P w) 5 f fd ["text"] (Yj cT cB):=by
 have nd:(["text","ends"]:List Str).Nodup:=by decide +kernel
 refine F.okE (N:=["text","ends"]) (by walk_at"s") (fun vs H Q E h=>?_) (fun cdv A outer s H vs Q E hr h=>?_)
 ·obtain⟨z,rfl,_⟩:=h
  rfl
 ·obtain⟨z,rfl,hz,q⟩:=h
  have zf:z.length≤sizeLine:=uq hz rfl
  refine⟨_,zg (zI (i:=1) nd rfl (Or.inl rfl) (qY PySem.F.plainAttrs_str PySem.F.slot_str_split PySem.F.type_str_split jT (pv 0) (za zj zd))) (zg (zK (zw vP (zv zO rfl G.len boot_len (za (pv 1) zd)) ze (zD _)) (zh (yq qQ rfl rfl X.at' X.ex (za zj zd))) zB)
   (zh (zm (yA (za (zk C1 hr (by decide) qO (za (zC zA (pv 1) ze) zd)) (za (zk C1 hr (by decide) qO (za (zC zA (pv 1) ze) zd)) zd)))))),?_⟩
  obtain⟨sl,sn,w0,wr,ew⟩:=yo z ":"
  refine⟨_,rfl,rfl,_,_,rfl,rfl,rfl,zf,yS _ hz,fun l H1 s1 n1 e1=>?_⟩
  by_cases h2:(Txt.split z ":").length=2
  ·obtain⟨a,b,eb⟩:∃ a b,Txt.split z ":" = [a,b]:=by
    match Txt.split z ":",h2 with
    | [a,b],_=>exact⟨a,b,rfl⟩
   rw[eb] at e1 sn
   have bo:yt z=OE (q9 13 a) (q9 13 b):=by unfold yt;rw[eb]
   have la:a.length≤100000:=cZ (sn a (by simp)) (by omega)
   have lb:b.length≤100000:=cZ (sn b (by simp)) (by omega)
   have e1:H1 l=some (.lst [.str a,.str b]):=e1
   refine⟨_,rfl,l,_,rfl,.inl (zY.of e1),rfl,_,rfl,qN ?_⟩
   refine⟨_,rfl,l,_,_,_,rfl,rfl,zY.of e1,rfl,a,rfl,la,fun H2 s2=>⟨fun x ex=>?_,fun ex=>((q H2 (s1.trans s2)).2 (by rw[bo,ex];rfl)).1⟩⟩
   refine⟨_,rfl,l,_,_,_,rfl,rfl,zY.of (s2 _ _ e1),rfl,b,rfl,lb,fun H3 s3=>⟨fun y ey=>?_,fun ey=>((q H3 (s1.trans (s2.trans s3))).2 (by rw[bo,ex,ey];rfl)).1⟩⟩
   exact⟨z6 rfl,fun t H4 s4 n4 e4=>(q H4 (s1.trans (s2.trans (s3.trans s4)))).1 (x,y) t (by rw[bo,ex,ey];rfl) e4⟩
  ·have bo:yt z=none:=by
    unfold yt
    split
    ·rename_i a b eb
     exact absurd (by rw[eb];rfl) h2
    ·rfl
   refine⟨_,rfl,l,_,rfl,.inl (zY.of e1),rfl,_,rfl,qi (fun _=>⟨by decide,((q H1 s1).2 bo).2⟩) (fun e=>?_)⟩
   refine absurd ?_ e
   rw[cN,decide_eq_false fun z=>h2 (by injection z with z;omega)]
   rfl
end
end K10
namespace L2
open PySem PySem.Spec PyProof.Rows
section
variable {prog:Program} {w:World} {A:Around} {E:Value→Shared→Prop} {s:Shared}
theorem Pf {α:Type} {Q:α→Shared→Prop} {a ea:Addr} {oa oe:Obj} {ws vs:Array Value} (e1:A.handled=some (.ref ea)) (e2:s.heap.get? ea=some oe) (e3:oe.data = .fields vs) (e4:vs[2]? = some .none) (ne:ea≠a) (ha:s.heap.get? a=some oa) (hd:oa.data = .fields ws) (hz:2<ws.size) (k:E (.ref a) { s with heap:=s.heap.update a (Obj.mapFields (·.setIfInBounds 2 (.ref ea))) }):wpAny (model prog w) A (raiseNew (.ref a):Sem α) Q E s:=by
 unfold raiseNew
 refine wpAny_bind (wpAny_handled ?_)
 rw[e1]
 dsimp only
 rw[if_pos (show (Value.ref ea != Value.ref a)=true by simp[ne])]
 refine wpAny_bind (wpAny_holding (wpAny_runValue (JV e2 e3 e4 ?_)))
 refine wpAny_bind ?_
 unfold updateField
 refine wpAny_bind (wpAny_load ha ?_)
 rw[hd]
 dsimp only
 rw[if_pos hz]
 exact wpAny_update ha (wpAny_throw k)
variable {env:Env} {nm q:Str} {C N:Addr} {bs bm bmB:List Value} {hdct:Bool} {sn:List Str} {sub:List Value} {ab:Bool} {col:Option Bool} {dd:Option Addr} {k0 k1 k2 k3 k5:Option Value} {newId:String}
theorem xn {x c:Sem Value} {ea:Addr} {Q:Flow→Shared→Prop} (hbase:bm.contains (.type "BaseException")=true) (e1:A.handled=some (.ref ea)) (hc:∀ s' (Q':Value→Shared→Prop),Q' .none s'→wpAny (model prog w) A c Q' E s') (h:wpAny (model prog w) A x (fun v s₁=>∃ e t,v = .ref e∧s₁.heap.get? C=some (excClassObj nm q C N bs bm hdct sn sub ab col dd k0 k1 k2 k3 k5 newId)∧s₁.heap.get? e=some { cls:=.ref C,data:=.fields #[.ref t,.none,.none,.none,.bool false,.none] } ∧
   ea≠e∧(∃ oe vs,s₁.heap.get? ea=some oe∧oe.data = .fields vs∧vs[2]? = some .none) ∧
   (∀ h',(∀ b o,b≠e→s₁.heap.get? b=some o→h'.get? b=some o)→h'.get? e=some { cls:=.ref C,data:=.fields #[.ref t,.none,.ref ea,.none,.bool true,.none] }→E (.ref e) { s₁ with heap:=h' })) E s) :
  wpAny (model prog w) A (raiseStmt env (some x) (some c)) Q E s:=by
 have hcB:(Value.ref C::bm).contains (.type "BaseException")=true:=by rw[List.contains_cons,hbase,Bool.or_true]
 unfold raiseStmt
 refine wpAny_bind (wpAny_mono h (fun v s₁ h₁=>?_) fun _ _ x=>x)
 obtain⟨e,t,rfl,hC,he,ne,⟨oe,vs,g2,g3,g4⟩,hE⟩:=h₁
 obtain⟨hp,g,d,tk,os⟩:=s₁
 refine wpAny_bind (wpAny_holding (hc _ _ (wpAny_bind (wpAny_pure ?_))))
 dsimp only
 repeat (first | with_reducible refine wpAny_loadPart_at he ?_ | with_reducible refine wpAny_loadPart_at hC ?_ | (with_reducible refine wpAny_isSubtype_exc hC ?_;rw[hcB]) | wp_step)
 have nCe:e≠C:=fun z=>by
  rw[z] at he
  rw[show hp.get? C=_ from hC] at he
  cases he
 have hC2:((hp.update e (Obj.mapFields fun x=>x.setIfInBounds 3 Value.none)).update e (Obj.mapFields fun x=>x.setIfInBounds 4 (Value.bool true))).get? C=some (excClassObj nm q C N bs bm hdct sn sub ab col dd k0 k1 k2 k3 k5 newId):=(CO _ _ nCe).trans ((CO _ _ nCe).trans hC)
 have he1:=de (Obj.mapFields fun x=>x.setIfInBounds 3 Value.none) (show hp.get? e=_ from he) rfl
 have he2:=de (Obj.mapFields fun x=>x.setIfInBounds 4 (Value.bool true)) he1 rfl
 have g2':((hp.update e (Obj.mapFields fun x=>x.setIfInBounds 3 Value.none)).update e (Obj.mapFields fun x=>x.setIfInBounds 4 (Value.bool true))).get? ea=some oe:=(CO _ _ (Ne.symm ne)).trans ((CO _ _ (Ne.symm ne)).trans g2)
 have oth:∀ b o,b≠e→hp.get? b=some o→((hp.update e (Obj.mapFields fun x=>x.setIfInBounds 3 Value.none)).update e (Obj.mapFields fun x=>x.setIfInBounds 4 (Value.bool true))).get? b=some o:=fun b o hb z=>(CO _ _ (Ne.symm hb)).trans ((CO _ _ (Ne.symm hb)).trans z)
 have he2:((hp.update e (Obj.mapFields fun x=>x.setIfInBounds 3 Value.none)).update e (Obj.mapFields fun x=>x.setIfInBounds 4 (Value.bool true))).get? e=some { cls:=.ref C,data:=.fields #[.ref t,.none,.none,.none,.bool true,.none] }:=he2
 generalize (hp.update e (Obj.mapFields fun x=>x.setIfInBounds 3 Value.none)).update e (Obj.mapFields fun x=>x.setIfInBounds 4 (Value.bool true))=h3 at hC2 he2 g2' oth
 refine wpAny_loadPart_at hC2 (wpAny_pure ?_)
 rw[if_pos (by rfl)]
 refine wpAny_pure (wpAny_bind ?_)
 unfold setFlight
 refine wpAny_bind (wpAny_field (x:=.none) he2 rfl rfl ?_)
 rw[if_neg (by decide)]
 refine wpAny_pure (Pf e1 g2' g3 g4 ne he2 rfl (by show 2<6;decide) (hE _ (fun b o hb z=>(CO _ _ (Ne.symm hb)).trans (oth b o hb z)) ?_))
 exact de _ he2 rfl
end
section
variable {X:Cx} {pins:List (Addr × Obj)} {σ:St} {H:Hp} {s:Shared} {ea:Addr} {cls fl:Value} {M:Model} {A:Around} {E:Value→Shared→Prop} {Q:Unit→Shared→Prop} {C:CT} [ct:YX C]
noncomputable def Qj (C:CT) (X:Cx) (pins:List (Addr × Obj)) (H:Hp) (ea:Addr) (cls fl:Value) (h:Heap):Prop:=yv X pins H ea∧∃ oe vs,h.get? ea=some oe∧(oe.cls=cls∧oe.dict=none)∧oe.data = .fields vs∧C H vs ∧
 ∃ T oT ts,vs[1]? = some (.ref T)∧T≠ea∧yv X pins H T∧h.get? T=some oT∧oT.data = .fields ts∧ts[3]? = some fl
omit ct in
theorem Qj.fly {h:Heap} (F:Qj C X pins H ea cls fl h):wD C X pins H ea cls fl h:=by
 obtain⟨f0,oe,vs,he,hc,hd,h2,hh⟩:=F
 exact⟨f0,oe,vs,he,hc,hd,h2,.inr hh⟩
omit ct in
theorem wD.head {h:Heap} {L:Addr} (F:wD C X pins H ea cls (rawInt L) h):Qj C X pins H ea cls (rawInt L) h:=by
 obtain⟨f0,oe,vs,he,hc,hd,h2,hh⟩:=F
 rcases hh with ⟨_,z⟩ | hh
 ·exact absurd z (by simp[rawInt])
 ·exact⟨f0,oe,vs,he,hc,hd,h2,hh⟩
omit ct in
theorem Z1 {fr:Option Addr} (I:zN X pins σ H s) (F:Qj C X pins H ea cls fl s.heap) (k:∀ s',zN X pins σ H s'→Qj C X pins H ea cls (fr.elim .none fun f=>rawInt f) s'.heap→Q () s'):wpAny M A (setFlight (.ref ea) fr) Q E s:=by
 obtain⟨f0,oe,vs,he,hc,hd,h2,T,oT,ts,h1,hne,fT,hT,hdT,h3⟩:=F
 have hz:3<ts.size:=(dq.mp h3).1
 unfold setFlight
 refine wpAny_bind (wpAny_field he hd h1 ?_)
 rw[if_pos (show (Value.ref T != Value.none)=true by simp)]
 have oth:∀ c,c≠T→(s.heap.update T (Obj.mapFields (·.setIfInBounds 3 (fr.elim Value.none fun f=>rawInt f)))).get? c=s.heap.get? c:=fun c hc=>CO _ _ (Ne.symm hc)
 have hT':=de (Obj.mapFields (·.setIfInBounds 3 (fr.elim Value.none fun f=>rawInt f))) hT (Obj.isFreed_of_fields (Obj.data_mapFields hdT _))
 refine wpAny_setField hT hdT hz (k _ (I.flown fT fun c o hc q=>(oth c hc).trans q) ⟨f0,oe,vs,(oth ea (Ne.symm hne)).trans he,hc,hd,h2,T,_,_,h1,hne,fT,hT',Obj.data_mapFields hdT _,?_⟩)
 simp[hz]
omit ct in
theorem mB (I:zN X pins σ H s) (F:Qj C X pins H ea cls fl s.heap) (hf:X.env.frame=some X.env.locals) (k:∀ s',zN X pins σ H s'→Qj C X pins H ea cls (rawInt X.env.locals) s'.heap→E (.ref ea) s'):cameBackBy M A X.env E (.ref ea) s:=by
 obtain⟨_,oe,vs,he,_,hd,_,T,oT,ts,h1,_⟩:=id F
 unfold cameBackBy
 refine wpAny_bind (wpAny_field he hd h1 ?_)
 rw[if_neg (show ¬ ((Value.ref T==Value.none)=true) by simp)]
 rw[hf]
 exact Z1 I F k
omit ct in
theorem mY {α:Type} {Q:α→Shared→Prop} {what:String} (I:zN X pins σ H s) (F:Qj C X pins H ea cls fl s.heap) (hf:X.env.frame=some X.env.locals) (k:∀ s',zN X pins σ H s'→Qj C X pins H ea cls (rawInt X.env.locals) s'.heap→E (.ref ea) s'):wpAny M A (PySem.passOn what (.ref ea) X.env:Sem α) Q E s:=by
 obtain⟨_,oe,vs,he,_,hd,_,T,oT,ts,h1,_⟩:=id F
 unfold PySem.passOn
 refine wpAny_bind (wpAny_field he hd h1 ?_)
 rw[if_neg (show ¬ ((Value.ref T==Value.none)=true) by simp)]
 rw[hf]
 exact wpAny_bind (Z1 I F fun s' I' F'=>wpAny_throw (k s' I' F'))
end
abbrev gm:=jw
theorem WY {C:CT} [ct:YX C] {P:Program} {w:World} {K:BFr} {mg:Str→Option Value} {base:Heap} {N:List Str} {qual:Str} {scope:Scope} {f:Addr} {cd:Value} {A:Around} {outer:List Env} {s:Shared} {H:Hp} {E:XK} :
  gm C (kh (RQ C P w) P w K mg base N qual scope f cd A outer s H E) E:=qQ
noncomputable def VM (E:XK) (C ea:Addr) (t:TA):TS:=fun _ σ H=>t σ H fun vs H1=>vs.length≤sizeLine∧(∃ oe u ws,H1 ea=some (.frz oe u)∧oe.data = .fields ws∧ws[2]? = some .none)∧E (.ref C) none H1
theorem Gk {X:Cx} {E:XK} {x:Str} {C ea:Addr} {e₀:Expr} {yE:List Expr} {t:TA} {j:Nat} {np cpos npos pos:Pos} (hE:jw kW X E) (hh:X.A.handled=some (.ref ea)) (hg:Gl X x) (hm:X.mg x=some (.ref C)) (hx:PySem.W.excIn X.K C ZM "ValueError.__new__" = true) (ha:PA X (e₀ :: yE) t) (he:starEach (e₀ :: yE) X.env=(false,eval e₀ X.env)::starEach yE X.env:=by exact z7 rfl) (hpl:(backTo cpos (starEach yE X.env)).any (·.1)=false:=by exact yC rfl) (hdb:(x==("__debug__":Str))=false:=by decide) :
  PS X (.Raise (some (.Call (.Name x np) (e₀ :: yE) [] cpos)) (some (.Constant .none j npos)) pos) (VM E C ea t):=by
 intro pins s σ H D I h
 obtain⟨bm,N,nm,qn,bs,hd,sn,sub,ab,col,dd,k0,k1,k2,k3,k5,mN,oC,oN,ni,T⟩:=gJ I.ok.mod.kin hx
 have FB:=PySem.F.excBase_ValueError
 rw[arm_exec_Raise]
 refine wpAny_bind (wpAny_standAt ?_)
 refine xn (C:=C) (nm:=nm) (q:=qn) (N:=N) (bs:=bs) (bm:=bm) (hdct:=hd) (sn:=sn) (sub:=sub) (ab:=ab) (col:=col) (dd:=dd) (k0:=k0) (k1:=k1) (k2:=k2) (k3:=k3) (k5:=k5) (newId:="ValueError.__new__") (T.hasType FB.hasBase) hh (fun s' Q' q=>?_) ?_
 ·exact wpAny_bind (Constant_none (wpAny_bind (wpAny_standAt (wpAny_pure q))))
 refine wpAny_bind (wpAny_mono (wpAny_Call_ofName (vT I hg hm ?_ hdb)) (fun v s₃ h₃=>wpAny_bind (wpAny_standAt (wpAny_pure h₃))) fun _ _ x=>x)
 unfold callWith
 have q:=ha cpos pins s σ H _ I h
 rw[he] at q ⊢
 refine wpAny_bind (wpAny_holding (Calls.evalArgs_plain (q0 q fun us s2 ⟨vs,H1,I1,r,hl,⟨oe,u,ws,f1,f2,f3⟩,w⟩=>?_)))
 refine wpAny_bind (wpAny_standAt ?_)
 have hpl2:((backTo cpos ((false,eval e₀ X.env)::starEach yE X.env)).any (·.1))=false:=by show (false || (backTo cpos (starEach yE X.env)).any (·.1))=false;rw[hpl];rfl
 simp only[hpl2]
 obtain⟨hp,g,d,tk,os⟩:=s2
 have oC1:=I1.bk _ _ oC
 refine wpAny_bind (wpAny_keeperOf_exc oC1 ?_)
 refine wpAny_bind (wpAny_call_exc_subT (hrest:=by show us.length≤sizeLine;rw[← r.length];exact hl) FB (T.keeps I1.bk) oC1 (oN.keeps I1.bk) ni fun h' e made=>wpAny_bind (wpAny_holding (wpAny_point (wpAny_pure ?_))))
 obtain⟨t0,there,_,_⟩:=made.there
 have hea:=(I1.hok ea _ f1).1
 have nee:ea≠e:=fun z=>by
  have:=made.new
  rw[← z] at this
  rw[show hp.get? ea=_ from hea] at this
  cases this
 refine⟨e,t0,rfl,made.keeps _ _ oC1,there,nee,⟨oe,ws,made.keeps _ _ hea,f2,f3⟩,fun h2 k2 e2=>?_⟩
 have kp:∀ b o,hp.get? b=some o→h2.get? b=some o:=fun b o z=>k2 b o (fun c=>by rw[c,made.new] at z;cases z) (made.keeps _ _ z)
 refine hE pins σ H1 _ e (.ref C) .none (I1.kept (t':=tk) kp) ⟨I1.fpNone made.new (I1.none_of made.new),_,_,e2,⟨rfl,rfl⟩,rfl,.inr ⟨ea,oe,ws,u,rfl,f1,f2,f3⟩,.inl ⟨rfl,rfl⟩⟩ w
noncomputable def Tu (K:BFr) (c:Addr) (R E:XK) (C:Addr) (tb:TS) (t:TA):TS:=fun D σ H=>tb D σ H∧∀ (ea:Addr) (oe:Obj) (vs:Array Value) (cls:Value) (σ':St) (H':Hp),R cls none H'→H' ea=none→oe.data = .fields vs→vs[2]? = some .none →
 (PySem.W.exmOne K cls (.ref c)=some true∧VM E C ea t D σ' (upd H' ea (UB ea oe)))∨(PySem.W.exmOne K cls (.ref c)=some false∧E cls none H')
set_option maxHeartbeats 4000000 in
theorem ME {X:Cx} {x y:Str} {c C:Addr} {R E:XK} {tb:TS} {t:TA} {body:List Stmt} {e₀:Expr} {yE:List Expr} {j:Nat} {np np2 cpos npos rpos hpos pos:Pos} (hE:gm kW X E) (hs:X.stack=X.env::X.outer) (hf:X.env.frame=some X.env.locals) (hg:Gl X x) (hm:X.mg x=some (.ref c)) (hg2:Gl X y) (hm2:X.mg y=some (.ref C)) (hx:PySem.W.excIn X.K C ZM "ValueError.__new__" = true) (hb:∀ pn,y8 (X.tr pn (Th X pn R)) body tb) (ha:∀ pn ea E,PA (X.hdl pn ea E) (e₀ :: yE) t) (he:starEach (e₀ :: yE) X.env=(false,eval e₀ X.env)::starEach yE X.env:=by exact z7 rfl) (hpl:(backTo cpos (starEach yE X.env)).any (·.1)=false:=by exact yC rfl) (hdb:(x==("__debug__":Str))=false:=by decide) (hdb2:(y==("__debug__":Str))=false:=by decide) :
  PS X (.Try body [.ExceptHandler (some (.Name x np)) none [.Raise (some (.Call (.Name y np2) (e₀ :: yE) [] cpos)) (some (.Constant .none j npos)) rpos] hpos] [] [] pos) (Tu X.K c R E C tb t):=by
 intro pins s σ H D I h
 obtain⟨h1,h2⟩:=h
 have ok:=I.ok
 refine wpAny_Try_except (wpAny_mono (hb (X.pn++pins) [] s σ H D I.tr h1) (fun f s1 q=>?_) fun e s1 q=>?_)
 ·cases f with
  | next =>
   obtain⟨σ',H',I',q⟩:=q
   exact wpAny_execs_nil ⟨σ',H',I'.ofTr ok,q⟩
  | brk=>obtain⟨σ',H',I',q⟩:=q;exact⟨σ',H',I'.ofTr ok,q⟩
  | cont=>obtain⟨σ',H',I',q⟩:=q;exact⟨σ',H',I'.ofTr ok,q⟩
  | ret u=>obtain⟨v,σ',H',I',r,q⟩:=q;exact⟨v,σ',H',I'.ofTr ok,r,q⟩
 ·obtain⟨ea,cls,fl,σ1,H1,rfl,I1,F1,r1⟩:=q
  refine kO (X:=X.tr (X.pn++pins) fun _ _=>True) I1 F1 hs hf I1.ok.frames fun s2 I2 F2=>?_
  refine Z1 (fr:=none) I2 F2.head fun s3 I3 F3h=>?_
  have F3:=F3h.fly
  have J3:zN (X.hdl (X.pn++pins) ea fun _ _=>True) [] σ1 H1 s3:=I3.toHdl ok
  obtain⟨f3,oe3,vs3,he3,hc3,hd3,hv3,_⟩:=id F3
  refine wpAny_handleBy_cons (codeAny_handlers_test (vT J3 hg hm ?_ hdb)) (by intro q;cases q)
  have LT:PySem.W.Looks (model X.prog X.w) s3.heap (typeOf (.ref ea)) cls:=by
   rw[← hc3.1]
   exact (PySem.W.Looks.ld he3).andThen .now
  rcases h2 ea oe3 vs3 cls σ1 H1 r1 f3.1 hd3 hv3 with ⟨hR,_⟩ | ⟨hR,hp⟩
  ·refine (PySem.W.exm_one J3.kIn LT hR).here ?_
   refine codeAny_handlers_suite ?_
   refine wa J3 F3.toHdl fun s4 J4 F4=>?_
   obtain⟨f4,oe,vs,he4,hc,hd,h2',_⟩:=F4
   obtain⟨_,w5⟩ | ⟨z,_⟩:=h2 ea oe vs cls σ1 H1 r1 f3.1 hd h2'
   case inr=>rw[hR] at z;cases z
   have J5:zN (X.hdl (X.pn++pins) ea fun _ _=>True) [] σ1 (upd H1 ea (UB ea oe)) s4:=J4.hold f4 he4
   have J5':∀ E,zN (X.hdl (X.pn++pins) ea E) [] σ1 (upd H1 ea (UB ea oe)) s4:=fun E=>⟨ok.hdl,J5.os,J5.bare,J5.base,J5.loc,J5.cell,J5.free,J5.freeC,J5.pin,J5.hok,J5.len⟩
   have key:∀ (EE:Value→Shared→Prop),jw kW (X.hdl (X.pn++pins) ea EE) E→y8 (X.hdl (X.pn++pins) ea EE) [.Raise (some (.Call (.Name y np2) (e₀ :: yE) [] cpos)) (some (.Constant .none j npos)) rpos] (VM E C ea t):=fun EE hT=>zh (Gk (X:=X.hdl (X.pn++pins) ea EE) hT rfl hg2 hm2 hx (ha _ ea EE) he hpl hdb2)
   refine wpAny_mono (key _ ?_ [] s4 σ1 _ D (J5' _) ?_) (fun f s5 q=>?_) fun _ _ z=>z
   ·intro pins2 σ2 H2 s5 e2 cls2 fl2 I5 F5 q5
    have I6:zN X pins σ2 H2 s5:=⟨ok,I5.os,I5.bare,I5.base,I5.loc,I5.cell,I5.free,I5.freeC,fun p hp=>I5.pin p (CW _ hp),I5.hok,I5.len⟩
    have cut:∀ {b:Addr} {EE:Value→Shared→Prop},yv (X.hdl (X.pn++pins) ea EE) pins2 H2 b→yv X pins H2 b:=fun {b EE} f=>⟨f.1,f.2.1,f.2.2.1,f.2.2.2.1,f.2.2.2.2.1,fun p hp=>f.2.2.2.2.2 p (CW _ hp)⟩
    have F6:wD kW X pins H2 e2 cls2 fl2 s5.heap:=by
     obtain⟨f0,oe,vs,he,hc,hd,h2,hh⟩:=F5
     refine⟨cut f0,oe,vs,he,hc,hd,h2,?_⟩
     rcases hh with z | ⟨T,oT,ts,h1,ne,fT,hT,hdT,h3⟩
     ·exact .inl z
     ·exact .inr ⟨T,oT,ts,h1,ne,cut fT,hT,hdT,h3⟩
    exact kO (A:=X.A.mark (some (.ref ea))) I6 F6 hs hf ok.frames fun s7 I7 F7=>mB I7 F7.head hf fun s8 I8 F8=>hE pins σ2 H2 s8 e2 cls2 _ I8 F8.fly q5
   ·exact w5
   ·cases f with
    | next=>obtain⟨σ',H',I',q⟩:=q;exact⟨σ',H',I'.ofHdl ok,q⟩
    | brk=>obtain⟨σ',H',I',q⟩:=q;exact⟨σ',H',I'.ofHdl ok,q⟩
    | cont=>obtain⟨σ',H',I',q⟩:=q;exact⟨σ',H',I'.ofHdl ok,q⟩
    | ret u=>obtain⟨v,σ',H',I',r,q⟩:=q;exact⟨v,σ',H',I'.ofHdl ok,r,q⟩
  ·refine (PySem.W.exm_one J3.kIn LT hR).here ?_
   refine wpAny_handleBy_nil ?_
   have I4:zN X pins σ1 H1 s3:=I3.ofTr ok
   have F4:Qj kW X pins H1 ea cls .none s3.heap:=by
    obtain⟨f0,oe,vs,he,hc,hd,h2,T,oT,ts,h1,hne,fT,hT,hdT,h3⟩:=F3h
    have cut:∀ {b:Addr},yv (X.tr (X.pn++pins) fun _ _=>True) [] H1 b→yv X pins H1 b:=fun {b} f=>⟨f.1,f.2.1,f.2.2.1,f.2.2.2.1,f.2.2.2.2.1,fun p hp=>f.2.2.2.2.2 p (by simpa using hp)⟩
    exact⟨cut f0,oe,vs,he,hc,hd,.inl h2,T,oT,ts,h1,hne,cut fT,hT,hdT,h3⟩
   exact mY I4 F4 hf fun s5 I5 F5=>hE pins σ1 H1 s5 ea cls _ I5 F5.fly hp
noncomputable def Ni (Ct:CT) (X:Cx) (Nc:List Str) (scope:Scope) (cl:List (Str × Addr)) (C:Addr) (fp:List Addr) (s:Shared) (H:Hp) (E:XK):Value→Shared→Prop:=fun e s' =>
 ∃ (ea:Addr) (cls fl:Value) (pins:List (Addr × Obj)) (σ:St) (H':Hp),e = .ref ea∧zN (qH (fun _ _=>True) X Nc scope cl C fp s H) pins σ H' s'∧wD Ct (qH (fun _ _=>True) X Nc scope cl C fp s H) pins H' ea cls fl s'.heap∧E cls none H'
section
variable {X:Cx} {elt iter tgt:Expr} {ifs:List Expr} {scope:Scope} {cl:List (Str × Addr)} {Nc:List Str} {src:List (Option Nat)} {g:TG} {tt:TT} {te:TE}
theorem WH {Ct:CT} {E:XK} {C:Addr} {fp:List Addr} {s:Shared} {H:Hp}:jw Ct (qH (Ni Ct X Nc scope cl C fp s H E) X Nc scope cl C fp s H) E:=by
 intro pins σ H' s' ea cls fl I F q
 exact⟨ea,cls,fl,pins,σ,H',rfl,⟨⟨I.ok.mod,I.ok.kind,I.ok.glob,I.ok.blt,I.ok.above,I.ok.inj,I.ok.has,I.ok.cab,I.ok.hd,I.ok.frames,I.ok.stk,I.ok.exf,I.ok.bs,I.ok.bsz,I.ok.noex,I.ok.exfs,I.ok.funs,I.ok.frf⟩,I.os,I.bare,I.base,I.loc,I.cell,I.free,I.freeC,I.pin,I.hok,I.len⟩,F,q⟩
theorem Oe {Ct:CT} [ct:YX Ct] {E:XK} {use:Option (Value→Sem Unit)} {pins:List (Addr × Obj)} {σ:St} {H3:Hp} {s3 s':Shared} {fp:List Addr} {x acc:Value} {Q:Value→Shared→Prop} (hE:jw Ct X E) (hst:X.stack=X.env::X.outer) (hf:X.env.frame=some X.env.locals) (I3:zN X pins σ H3 s3) (f3:∀ b∈fp,yv X pins H3 b) (z:Ni Ct X Nc scope cl s3.heap.objs.size fp s3 H3 E x s'):notedBy (model X.prog X.w) X.A (compEnvC scope cl s3.heap.objs.size X.env) (fun e s''=>compPost (model X.prog X.w) X.A X.xe use Q acc s3.heap.objs.size (.error e) s'') x s':=by
 obtain⟨ea,cls,fl,pins',σ',H',rfl,J',F',q⟩:=z
 have J0:zN (qH (fun _ _=>True) X Nc scope cl s3.heap.objs.size fp s3 H3) [] σ' H' s':=⟨J'.ok,J'.os,J'.bare,J'.base,J'.loc,J'.cell,J'.free,J'.freeC,fun p hp=>absurd (show p∈([]:List (Addr × Obj)) from hp) (by simp),J'.hok,J'.len⟩
 have nC:s3.heap.get? s3.heap.objs.size=none:=Df (cP _)
 generalize s3.heap.objs.size=C at *
 have IX:zN X pins σ H' s':=uC I3 f3 J0 (Heap.SameBut.refl _ _)
 have fpC:yv X pins H' C:=I3.fpNone nC J0.free
 obtain⟨m,hn,_⟩:=id J0.loc
 obtain⟨oC,es,ep,eC,dC,rC⟩:=id hn
 have fpX:∀ {b:Addr},yv (qH (fun _ _=>True) X Nc scope cl C fp s3 H3) pins' H' b→yv X pins H' b:=fun {b} f=>by
  rcases f.2.2.2.1 with z | z
  ·exact⟨f.1,(f3 b z).2⟩
  ·exact I3.fpNone z f.1
 have IXp:=IX.pinned (fp:=[C]) (fun b hb'=>by obtain rfl:b=C:=(by simpa using hb');exact fpC) (fun b hb'=>by obtain rfl:b=C:=(by simpa using hb');exact⟨oC,eC,fun v z=>by rw[dC] at z;cases z⟩)
 have fpP:∀ {b:Addr},yv (qH (fun _ _=>True) X Nc scope cl C fp s3 H3) pins' H' b→yv X (pins++uy [C] s'.heap) H' b:=fun {b} f=>by
  have g:=fpX f
  refine⟨g.1,g.2.1,g.2.2.1,g.2.2.2.1,g.2.2.2.2.1,fun p hp=>?_⟩
  rcases CM.mp hp with hp | hp
  ·exact g.2.2.2.2.2 p (CW _ hp)
  ·rcases CM.mp hp with hp | hp
   ·exact g.2.2.2.2.2 p (CC _ hp)
   ·have e:p.1=C:=by simpa using (Y9 hp).1
    rw[e]
    exact fun z=>f.2.1 z.symm
 have FX:wD Ct X (pins++uy [C] s'.heap) H' ea cls fl s'.heap:=by
  obtain⟨f0,oe,vs,he,hc,hd,h2,hh⟩:=F'
  refine⟨fpP f0,oe,vs,he,hc,hd,h2,?_⟩
  rcases hh with z | ⟨T,oT,ts,h1,ne,fT,hT,hdT,h3⟩
  ·exact .inl z
  ·exact .inr ⟨T,oT,ts,h1,ne,fpP fT,hT,hdT,h3⟩
 have memC:((C,oC):Addr × Obj)∈uy [C] s'.heap:=vh (by simp) eC
 show wpAny (model X.prog X.w) X.A (noteFrame (.ref ea) X.env) _ _ s'
 refine kO IXp FX hst hf IX.ok.frames fun s4 I4 F4=>?_
 have eC4:s4.heap.get? C=some oC:=(I4.pin (C,oC) (CC _ (CC _ memC))).1
 refine⟨m,⟨oC,es,ep,eC4,dC,rC⟩,fun h' hs' cenv hc'=>?_⟩
 have I5:zN X pins σ H' { s4 with heap:=h' }:=I4.unpinned.flown fpC fun b o hb e=>(hs'.2 b hb).trans e
 have cut:∀ {b:Addr},yv X (pins++uy [C] s'.heap) H' b→yv X pins H' b∧b≠C:=fun {b} f=>⟨⟨f.1,f.2.1,f.2.2.1,f.2.2.2.1,f.2.2.2.2.1,fun p hp=>f.2.2.2.2.2 p ((CM.mp hp).elim (CW _) fun z=>CC _ (CW _ z))⟩,fun z=>f.2.2.2.2.2 (C,oC) (CC _ (CC _ memC)) z.symm⟩
 obtain⟨f0,oe,vs,he,hc,hd,h2,T,oT,ts,h1,hne,fT,hT,hdT,h3⟩:=F4.head
 have F5:Qj Ct X pins H' ea cls (rawInt X.env.locals) h':=⟨(cut f0).1,oe,vs,(hs'.2 ea (cut f0).2).trans he,hc,hd,h2,T,oT,ts,h1,hne,(cut fT).1,(hs'.2 T (cut fT).2).trans hT,hdT,h3⟩
 unfold PySem.passOn
 refine wpAny_bind (wpAny_field ((hs'.2 ea (cut f0).2).trans he) hd h1 ?_)
 rw[if_neg (show ¬ ((Value.ref T==Value.none)=true) by simp)]
 exact wpAny_bind (Z1 (fr:=cenv.frame) I5 F5 fun s6 I6 F6=>wpAny_throw (hE pins σ H' s6 ea cls _ I6 F6.fly q))
theorem oZ {Ct:CT} [ct:YX Ct] {E:XK} {wi:TI} {pos:Pos} (hE:jw Ct X E) (hst:X.stack=X.env::X.outer) (hf:X.env.frame=some X.env.locals) (c:VC X Nc scope cl src) (hcalm:X.calm=true) (hi:PI X tgt iter wi) (hb:∀ fp C s' H' xe,jw Ct (qH xe X Nc scope cl C fp s' H') E→PG (qH xe X Nc scope cl C fp s' H') tgt g∧j8 (qH xe X Nc scope cl C fp s' H') ifs tt∧PE (qH xe X Nc scope cl C fp s' H') elt te) (hs:∀ x,foldedSetIterable iter X.env x=pure x:=by intro _;rfl):PE X (.ListComp elt [⟨tgt,iter,ifs,0⟩] scope pos) (WT src wi g tt te):=by
 intro pins s σ H Q I h
 rw[eval_ListComp]
 refine wpAny_comprehension_free (use:=none) rfl hs c.clos c.kind c.names (q0 (hi pins s σ H _ I h) fun v s1 h1=>q0 h1 fun itv s2 h2=>?_)
 obtain⟨it,fp,tn,J,H2,e,I2,T,st2,f2,hT⟩:=h2
 subst e
 refine wpAny_newObj_type ?_ (by size_fits)
 have old:∀ b o,s2.heap.get? b=some o→(s2.heap.push { cls:=.type "list",data:=.seq ([]:List Value).toArray }).get? b=some o:=fun b o e=>Cf _ e
 have I3:=I2.laid (a:=s2.heap.objs.size) (o:=.lst []) (t':=s2.toks) (h':=s2.heap.push { cls:=.type "list",data:=.seq ([]:List Value).toArray }) old (cP _) ⟨Cw _,[],0,.nil,Cq _ rfl⟩
 have ne:∀ b∈fp,b≠s2.heap.objs.size:=fun b hb=>by
  obtain⟨o,e,_⟩:=T.obj 0 _ st2 b hb
  exact Cc (cV e)
 have f3:∀ b∈fp,yv X pins (upd H2 s2.heap.objs.size (.lst [])) b:=fun b hb=>⟨by rw[zG (ne b hb)];exact (f2 b hb).1,(f2 b hb).2⟩
 refine uS (it:=it) (R:=fun C=>compPost (model X.prog X.w) X.A X.xe none (EP X pins σ Q) _ C) c hcalm I3 T (T.keep _ _ _ st2 fun b _ o e=>old b o e) f3 (hb fp _ _ _ _ (WH (Ct:=Ct) (E:=E))) (hT _ (I2.hok.fresh (cP _))) (fun x s' z=>Oe hE hst hf I3 f3 z) fun C ys σ' H' s' hC J' hD q=>?_
 obtain⟨m,hn,_⟩:=id J'.loc
 exact⟨m,hn,fun h' hs'=>⟨.ref _,H',uC I3 f3 J' hs',rfl,q⟩⟩
end
end L2
namespace K10
open PySem PySem.NumText L2 Pg
seal PE PA PT PW PS y8 PG vz PI j8 PO PK
section
variable {P:Program} {w:World} {K:BFr} {mg:Str→Option Value} {base:Heap} {f:Addr} {fd:FuncData} {d:Nat→Addr} {cR:Addr}
set_option maxHeartbeats 4000000 in
theorem GY {cT cR':Addr} (F:qM K "bands_of" "bands_of" (zX 68) f fd) (G:jW mg) (C1:qR P w K mg base (j4 P w) 5 "band_of" ["text"] (Yj cT cR')):zL P w K mg base (j4 P w) 6 f fd ["word"] (Ja cT cR'):=by
 have nc:(["text"]:List Str).Nodup:=by decide +kernel
 refine F.okE (N:=["word"]) (by walk_at"s") (fun vs H Q E h=>?_) (fun cdv A outer s H vs Q E hr h=>?_)
 ·obtain⟨z,rfl,_⟩:=h
  rfl
 ·obtain⟨z,rfl,hz,q⟩:=h
  have zf:z.length≤sizeLine:=uq hz rfl
  refine' ⟨_,zh (zm (z8 y9 rfl G.tuple yy (za ?comp zd))),?main⟩
  case comp =>
   refine' oZ (Ct:=C0) (E:=E) (Nc:=["text"]) (cl:=[]) (src:=[none]) (g:=qx 0) (tt:=yb) (te:=fun σ H Q=>qX (qd 0) jy σ H fun vs H1=>Yj cT cR' vs H1 Q E) qQ rfl rfl
    (by walk_at"c0") rfl (j7 (qY PySem.F.plainAttrs_str PySem.F.slot_str_split PySem.F.type_str_split jT (pv 0) (za zj zd))) ?hb
   case hb =>
    intro fp C' s' H' xe th
    exact⟨z5 (i:=0) nc rfl (Or.inl rfl),qP,zk C1 hr (by decide) (vS rfl rfl th) (za (pv 0) zd)⟩
  obtain⟨sl,sn,_⟩:=yo z ","
  refine⟨_,rfl,rfl,_,_,rfl,rfl,rfl,zf,yS _ hz,?_⟩
  generalize Txt.split z "," = ws at q sl sn
  refine fun l H1 s1 n1 g1=>⟨l,rfl,⟨_,zY.of g1⟩,fun D hD=>?_⟩
  refine Xe (K:=K) (a:=l) (xs:=ws.map V.str) (fun i ys σ H'=>∃ (x0:Option V) (qs:List (Int × Int)),σ = [x0]∧zu H1 H'∧H' D=some (.lst ys)∧ys.length=i∧(ws.take i).map yt=qs.map some∧qq H' ys (qs.map cB)) ⟨_,[],rfl,zu.upd hD,zq,rfl,rfl,qq.nil⟩ (fun i ys σ H' hi ⟨x0,qs,e,s2,hd,_⟩=>⟨zY.of (s2 _ _ g1),hd⟩) ?_ ?_
  ·rintro i x ys σ H2 hx ⟨x0,qs,rfl,s2,hd,yl,em,T⟩
   rw[cW] at hx
   cases hw:ws[i]? with
   | none=>rw[hw] at hx;cases hx
   | some w =>
    rw[hw] at hx
    cases hx
    have mw:=CS hw
    have il:i<ws.length:=(Cv.mp hw).1
    unfold Yp qx yb
    dsimp only
    refine qZ ⟨_,rfl,w,rfl,cZ (sn w mw) (by omega),fun H3 s3=>⟨fun p t eb et=>?_,fun eb=>(q H3 (s1.trans (s2.trans s3))).2 (JE mw eb)⟩⟩
    have hd3:=s3 _ _ hd
    refine⟨hd3,by rw[yl,sizeLine_eq];omega,?_⟩
    refine⟨_,qs++[p],rfl,fun b o hb=>?_,zq,?_,?_,?_⟩
    ·rw[zG (zP hb hD)]
     exact s3 _ _ (s2 _ _ hb)
    ·rw[Cb,yl]
     rfl
    ·rw[dv,hw,Ci,em,Ci]
     show _++[yt w]=_
     rw[eb]
     rfl
    ·rw[Ci]
     exact qq.snoc ((T.same s3).upd fun c z=>by rw[hd3] at z;cases z) (by rw[zG (vQ et hd3 (by intro z;cases z))];exact et)
  ·rintro ys σ H2 ⟨x0,qs,rfl,s2,hd,yl,em,T⟩
   rw[cN,dj (cP _)] at em
   refine⟨D,ys,rfl,.inl ⟨zY.of hd,fun u u0=>?_⟩⟩
   have su:zu H2 (upd H2 u (.tup ys)):=zu.upd u0
   exact (q _ (s1.trans (s2.trans su))).1 qs u (Jx em) ⟨ys,zq,T.same su⟩
end
end K10
namespace L2
open PySem
theorem wA {X:Cx} {e:Expr} {T U:TE} (h:PE X e T) (g:PE X e U):PE X e (fun σ H Q=>T σ H Q∨U σ H Q):=fun pins s σ H Q I c=>c.elim (h pins s σ H Q I) (g pins s σ H Q I)
end L2
namespace Pg
open PySem L2 Builtin Builtin.Str
noncomputable def uJ (r:Int):Bool:=decide (0≤r∧r≤1000000000000)
noncomputable def vB (r:Int):Bool:=decide (0≤r∧r≤20000)
noncomputable def Jd (ps:List (Int × Int)):List (Option (Int × Int)):=ps.map fun p=>if (uJ p.1&&vB p.2)=true then some p else none
noncomputable def We (n a:Str):Option Rk:=(q9 13 a).bind fun r=>if (yP n&&uJ r)=true then some (.flat n r) else none
noncomputable def OD (n a w:Str):Option Rk:=(q9 13 a).bind fun p=>if (yP n&&(vB p&&wayL.contains w))=true then some (.share n p w) else none
noncomputable def mj (n a b w:Str):Option Rk:=(q9 13 a).bind fun p=>(q9 13 b).bind fun m=>if (yP n&&((vB p&&wayL.contains w)&&uJ m))=true then some (.capped n p m w) else none
noncomputable def mT (n a b w:Str):Option Rk:=(q9 13 a).bind fun p=>(q9 13 b).bind fun m=>if (yP n&&((vB p&&wayL.contains w)&&uJ m))=true then some (.least n p m w) else none
noncomputable def OG (n a w:Str):Option Rk:=(yY (Txt.split a ",")).bind fun ps=>if (yP n&&(Jq (Jd ps)&&wayL.contains w))=true then some (.bands n ps w) else none
noncomputable def LH (n a w:Str) (r:Rk):Option Rk:=(q9 13 a).bind fun p=>if (yP n&&(vB p&&wayL.contains w))=true then some (.ontop n p w r) else none
noncomputable def jC:List Str→Option Rk
 | [k,n,a]=>if k = "flat" then We n a else none
 | [k,n,a,w]=>if k = "share" then OD n a w else if k = "bands" then OG n a w else none
 | [k,n,a,b,w]=>if k = "capped" then mj n a b w else if k = "least" then mT n a b w else none
 | _=>none
noncomputable def uk:Nat→List Str→Option Rk
 | d+1,k::n::a::w::o::x::ws=>if k = "ontop"∧o = "of" then (uk d (x::ws)).bind fun r=>LH n a w r else jC (k::n::a::w::o::x::ws)
 | 0,k::n::a::w::o::x::ws=>if k = "ontop"∧o = "of" then none else jC (k::n::a::w::o::x::ws)
 | _,ws=>jC ws
theorem uH {n:Str} (h:yP n=true):yu n:=by
 unfold yP at h
 rw[cQ] at h
 refine⟨US h.1,?_⟩
 have h2:=h.2
 cases q:noNames.contains n with
 | false=>rfl
 | true=>rw[q] at h2;cases h2
theorem ZA {r:Int} (h:uJ r=true):XC r:=by
 have h:0≤r∧r≤1000000000000:=of_decide_eq_true h
 exact h
theorem wJ {r:Int} (h:vB r=true):Vz r:=by
 have h:0≤r∧r≤20000:=of_decide_eq_true h
 exact h
theorem OU:∀ {ps:List (Int × Int)},vV (ps.map (·.1))=true→Up ps
 | [],_=>List.Pairwise.nil
 | [p],_=>List.Pairwise.cons (fun _ h=>nomatch h) List.Pairwise.nil
 | p::q::r,h=>by
  have h:(decide (p.1<q.1)&&vV ((q::r).map (·.1)))=true:=h
  rw[cQ] at h
  have lt:=of_decide_eq_true h.1
  have ih:=OU h.2
  refine List.Pairwise.cons (fun x hx=>?_) ih
  rcases cU.mp hx with rfl | hx
  ·exact lt
  ·exact Int.lt_trans lt ((Dp.mp ih).1 x hx)
theorem nX {ps:List (Int × Int)} (h:Jq (Jd ps)=true):V0 ps:=by
 unfold Jq at h
 rw[cQ,cQ,cQ] at h
 obtain⟨h1,h2,h3,h4⟩:=h
 have ok:∀ q∈ps,(uJ q.1&&vB q.2)=true:=fun q hq=>by
  have:=Cn.mp h2 _ (Cp.mpr ⟨q,hq,rfl⟩)
  cases e:(uJ q.1&&vB q.2) with
  | true=>rfl
  | false=>rw[e] at this;cases this
 have eo:Jd ps=ps.map some:=List.map_congr_left fun q hq=>by rw[if_pos (ok q hq)]
 rw[eo,Yt] at h3 h4
 have h1:=of_decide_eq_true h1
 rw[eo,cN] at h1
 refine⟨h1.2,?_,fun q hq=>?_,OU h4⟩
 ·have h3:=of_decide_eq_true h3
  cases ps with
  | nil=>cases h3
  | cons p r =>
   obtain⟨a,b⟩:=p
   have h3:some a=some 0:=h3
   cases h3
   exact⟨b,r,rfl⟩
 ·have:=ok q hq
  rw[cQ] at this
  exact⟨ZA this.1,wJ this.2⟩
theorem rN {K:BFr} {H:Hp} {u:Addr} {ps:List (Int × Int)} (h:uf H u ps) (l5:ps.length≤100000):Nj K H (.ref u) (Jq (Jd ps)):=by
 obtain⟨ys,e,T⟩:=h
 have l:ys.length=ps.length:=by rw[T.len,cN]
 refine .rows e (by unfold Jd;rw[l,cN]) (by omega) fun j x o h1 h2=>?_
 obtain⟨a,c,rfl,e2,e3⟩:=T.of_at h1
 unfold Jd at h2
 rw[cW] at h2 e2
 cases hp:ps[j]? with
 | none=>rw[hp] at e2;exact nomatch e2
 | some p =>
  rw[hp] at h2 e2
  cases e2
  have h2:some (if (uJ p.1&&vB p.2)=true then some p else none)=some o:=h2
  cases eb:(uJ p.1&&vB p.2) with
  | true =>
   rw[eb] at h2
   cases h2
   rw[cQ] at eb
   exact .pair e3 (ZA eb.1) (wJ eb.2)
  | false =>
   rw[eb] at h2
   cases h2
   exact .odd e3 (.inl ⟨_,rfl,rfl⟩) (.inl ⟨_,rfl,rfl⟩) eb
noncomputable def Wn (H:Hp) (l:Addr) (ws:List Str):Prop:=H l=some (.lst (ws.map V.str))∧ws.length≤50002∧∀ w∈ws,w.length≤50000
noncomputable def X6 (Cs:Nat→Addr) (cT cB:Addr):Sp:=fun vs H Q E=>∃ l ws,vs=[.ref l]∧Wn H l ws∧ws≠[]∧∀ H',zu H H'→(∀ r o,jC ws=some r→wG Cs H' r o→Q o H')∧(jC ws=none→E (.ref cT) none H'∧E (.ref cB) none H')
theorem Zf {K:BFr} {H:Hp} {z:Str} (h:z.length≤50000):o3 K H (.str z) (yP z):=.inl ⟨z,rfl,by omega,rfl⟩
theorem pI {K:BFr} {H:Hp} (z:Int):Yv K H 1000000000000 (.int z) (uJ z):=.inl ⟨z,rfl,rfl⟩
theorem XX {K:BFr} {H:Hp} (z:Int):Yv K H 20000 (.int z) (vB z):=.inl ⟨z,rfl,rfl⟩
theorem Ye {K:BFr} {H:Hp} (z:Str):Gu K H (.str z) (wayL.contains z):=.inl ⟨z,rfl,rfl⟩
theorem Xx {ws:List Str} {ps:List (Int × Int)} (h:yY ws=some ps):ps.length≤ws.length:=by
 unfold yY at h
 split at h
 ·cases h
  refine cZ (List.length_filterMap_le _ _) ?_
  rw[cN]
  exact cP _
 ·cases h
theorem Rw {ws:List Str} (h:¬ (∃ n a:Str,ws=[("flat":Str),n,a])∧¬ (∃ n a w:Str,ws=[("share":Str),n,a,w])∧¬ (∃ n a b w:Str,ws=[("capped":Str),n,a,b,w])∧¬ (∃ n a b w:Str,ws=[("least":Str),n,a,b,w])∧¬ (∃ n a w:Str,ws=[("bands":Str),n,a,w])):jC ws=none:=by
 obtain⟨h1,h2,h3,h4,h5⟩:=h
 unfold jC
 split
 ·rename_i k n a
  rw[if_neg fun e=>h1 ⟨n,a,by rw[e]⟩]
 ·rename_i k n a w
  rw[if_neg fun e=>h2 ⟨n,a,w,by rw[e]⟩,if_neg fun e=>h5 ⟨n,a,w,by rw[e]⟩]
 ·rename_i k n a b w
  rw[if_neg fun e=>h3 ⟨n,a,b,w,by rw[e]⟩,if_neg fun e=>h4 ⟨n,a,b,w,by rw[e]⟩]
 ·rfl
theorem Tc {x:Str} {ws:List Str} (h:(x::ws).length=3):∃ n a,ws=[n,a]:=by
 match ws,h with
 | [n,a],_=>exact⟨n,a,rfl⟩
theorem mQ {x:Str} {ws:List Str} (h:(x::ws).length=4):∃ n a w,ws=[n,a,w]:=by
 match ws,h with
 | [n,a,w],_=>exact⟨n,a,w,rfl⟩
theorem Ml {x:Str} {ws:List Str} (h:(x::ws).length=5):∃ n a b w,ws=[n,a,b,w]:=by
 match ws,h with
 | [n,a,b,w],_=>exact⟨n,a,b,w,rfl⟩
theorem W9 {x y:Str} (e:¬ decide (V.str x=V.str y)=true):x≠y:=fun h=>e (decide_eq_true (by rw[h]))
theorem vJ {x y:Str} (e:decide (V.str x=V.str y)=true):x=y:=V.str.inj (of_decide_eq_true e)
theorem Q9 {xs:List Str} {n:Nat} (e:decide (V.int ((xs.map V.str).length:Nat)=V.int (n:Nat))=true):xs.length=n:=by
 have:=V.int.inj (of_decide_eq_true e)
 rw[cN] at this
 omega
theorem yf {α β:Type} {o:Option α} {c:α→Bool} {g:α→β} {x:β} (h:(o.bind fun r=>if c r=true then some (g r) else none)=some x):∃ r,o=some r∧c r=true∧x=g r:=by
 cases o with
 | none=>cases h
 | some r =>
  have h:(if c r=true then some (g r) else none)=some x:=h
  cases e:c r with
  | true=>rw[e] at h;cases h;exact⟨r,rfl,e,rfl⟩
  | false=>rw[e] at h;cases h
theorem wk {α β:Type} {o:Option α} {c:α→Bool} {g:α→β} {r:α} (h:(o.bind fun r=>if c r=true then some (g r) else none)=none) (e:o=some r):c r=false:=by
 rw[e] at h
 have h:(if c r=true then some (g r) else none)=none:=h
 cases e:c r with
 | false=>rfl
 | true=>rw[e] at h;cases h
theorem vR {α β γ:Type} {o:Option α} {o2:Option γ} {c:α→γ→Bool} {g:α→γ→β} {x:β} (h:(o.bind fun r=>o2.bind fun m=>if c r m=true then some (g r m) else none)=some x):∃ r m,o=some r∧o2=some m∧c r m=true∧x=g r m:=by
 cases o with
 | none=>cases h
 | some r =>
  obtain⟨m,a,b,c⟩:=yf (o:=o2) (c:=c r) (g:=g r) h
  exact⟨r,m,rfl,a,b,c⟩
theorem gE {α β γ:Type} {o:Option α} {o2:Option γ} {c:α→γ→Bool} {g:α→γ→β} {r:α} {m:γ} (h:(o.bind fun r=>o2.bind fun m=>if c r m=true then some (g r m) else none)=none) (e:o=some r) (e2:o2=some m):c r m=false:=by
 rw[e] at h
 exact wk (o:=o2) (c:=c r) (g:=g r) h e2
theorem bW {α β:Type} {o:Option α} {g:α→Option β} (e:o=none):o.bind g=none:=by rw[e];rfl
theorem gQ (n a:Str):jC [("flat":Str),n,a]=We n a:=by
 unfold jC
 exact if_pos rfl
theorem UA (n a w:Str):jC [("share":Str),n,a,w]=OD n a w:=by
 unfold jC
 exact if_pos rfl
theorem WK (n a w:Str):jC [("bands":Str),n,a,w]=OG n a w:=by
 unfold jC
 exact (if_neg (by decide +kernel)).trans (if_pos rfl)
theorem Jk (n a b w:Str):jC [("capped":Str),n,a,b,w]=mj n a b w:=by
 unfold jC
 exact if_pos rfl
theorem WL (n a b w:Str):jC [("least":Str),n,a,b,w]=mT n a b w:=by
 unfold jC
 exact (if_neg (by decide +kernel)).trans (if_pos rfl)
end Pg
namespace K10
open PySem PySem.NumText L2 Pg
seal PE PA PT PW PS y8 PG vz PI j8 PO PK
section
variable {P:Program} {w:World} {K:BFr} {mg:Str→Option Value} {base:Heap} {f:Addr} {fd:FuncData} {d:Nat→Addr} {cR:Addr}
set_option maxHeartbeats 16000000 in
theorem Md {Cs:Nat→Addr} {cT cB:Addr} (F:qM K "plain_rule" "plain_rule" (zX 69) f fd) (G:jW mg) (X:Er K mg "BadRule" cB) (C1:qR P w K mg base (j4 P w) 4 "number_of" ["word"] (Qd cT)) (C2:qR P w K mg base (j4 P w) 6 "bands_of" ["word"] (Ja cT cB)) (N0:vn P w K mg base zQ 5 "Flat" (Cs 0) ["self","name","amount"] (yH 0 Cs)) (N1:vn P w K mg base zQ 5 "Share" (Cs 1) ["self","name","parts","way"] (yH 1 Cs)) (N2:vn P w K mg base zQ 5 "Capped" (Cs 2) ["self","name","parts","most","way"] (yH 2 Cs)) (N3:vn P w K mg base zQ 5 "Least" (Cs 3) ["self","name","parts","least","way"] (yH 3 Cs)) (N4:vn P w K mg base zQ 6 "Bands" (Cs 4) ["self","name","rows","way"] (QE (Cs 4))) (M0:vn P w K mg base (j4 P w) 5 "Flat" (Cs 0) ["self","name","amount"] (yJ K 0 Cs cB)) (M1:vn P w K mg base (j4 P w) 5 "Share" (Cs 1) ["self","name","parts","way"] (yJ K 1 Cs cB)) (M2:vn P w K mg base (j4 P w) 5 "Capped" (Cs 2) ["self","name","parts","most","way"] (yJ K 2 Cs cB)) (M3:vn P w K mg base (j4 P w) 5 "Least" (Cs 3) ["self","name","parts","least","way"] (yJ K 3 Cs cB)) (M4:vn P w K mg base (j4 P w) 6 "Bands" (Cs 4) ["self","name","rows","way"] (yJ K 4 Cs cB)):zL P w K mg base (j4 P w) 8 f fd ["words"] (X6 Cs cT cB):=by
 refine F.okE (N:=["words"]) (by walk_at"s") (fun vs H Q E h=>?_) (fun cdv A outer s H vs Q E hr h=>?_)
 ·obtain⟨l,ws,rfl,_⟩:=h
  rfl
 ·obtain⟨l,ws,rfl,hl,ne,q⟩:=h
  have hr6:yO (5+1) (A.deeper _):=hr.mono (by decide)
  refine⟨_,(zg (zK (PW.pt (Zx (zw qh (zC zA (pv 0) ze) zj (zD _)) (wc (zw qh (zv zO rfl G.len boot_len (za (pv 0) zd)) ze (zD _))))) (zh (zm (wA (yd (j:=5) N0 hr6 (by decide) zx (za (zC zA (pv 0) ze) (za (zk C1 hr (by decide) qO (za (zC zA (pv 0) ze) zd)) zd))) (yd (j:=5) M0 hr6 (by decide) qO (za (zC zA (pv 0) ze) (za (zk C1 hr (by decide) qO (za (zC zA (pv 0) ze) zd)) zd)))))) zB)
    (zg (zK (PW.pt (Zx (zw qh (zC zA (pv 0) ze) zj (zD _)) (wc (zw qh (zv zO rfl G.len boot_len (za (pv 0) zd)) ze (zD _))))) (zh (zm (wA (yd (j:=5) N1 hr6 (by decide) zx (za (zC zA (pv 0) ze) (za (zk C1 hr (by decide) qO (za (zC zA (pv 0) ze) zd)) (za (zC zA (pv 0) ze) zd)))) (yd (j:=5) M1 hr6 (by decide) qO (za (zC zA (pv 0) ze) (za (zk C1 hr (by decide) qO (za (zC zA (pv 0) ze) zd)) (za (zC zA (pv 0) ze) zd))))))) zB)
    (zg (zK (PW.pt (Zx (zw qh (zC zA (pv 0) ze) zj (zD _)) (wc (zw qh (zv zO rfl G.len boot_len (za (pv 0) zd)) ze (zD _))))) (zh (zm (wA (yd (j:=5) N2 hr6 (by decide) zx (za (zC zA (pv 0) ze) (za (zk C1 hr (by decide) qO (za (zC zA (pv 0) ze) zd)) (za (zk C1 hr (by decide) qO (za (zC zA (pv 0) ze) zd)) (za (zC zA (pv 0) ze) zd))))) (yd (j:=5) M2 hr6 (by decide) qO (za (zC zA (pv 0) ze) (za (zk C1 hr (by decide) qO (za (zC zA (pv 0) ze) zd)) (za (zk C1 hr (by decide) qO (za (zC zA (pv 0) ze) zd)) (za (zC zA (pv 0) ze) zd)))))))) zB)
    (zg (zK (PW.pt (Zx (zw qh (zC zA (pv 0) ze) zj (zD _)) (wc (zw qh (zv zO rfl G.len boot_len (za (pv 0) zd)) ze (zD _))))) (zh (zm (wA (yd (j:=5) N3 hr6 (by decide) zx (za (zC zA (pv 0) ze) (za (zk C1 hr (by decide) qO (za (zC zA (pv 0) ze) zd)) (za (zk C1 hr (by decide) qO (za (zC zA (pv 0) ze) zd)) (za (zC zA (pv 0) ze) zd))))) (yd (j:=5) M3 hr6 (by decide) qO (za (zC zA (pv 0) ze) (za (zk C1 hr (by decide) qO (za (zC zA (pv 0) ze) zd)) (za (zk C1 hr (by decide) qO (za (zC zA (pv 0) ze) zd)) (za (zC zA (pv 0) ze) zd)))))))) zB)
    (zg (zK (PW.pt (Zx (zw qh (zC zA (pv 0) ze) zj (zD _)) (wc (zw qh (zv zO rfl G.len boot_len (za (pv 0) zd)) ze (zD _))))) (zh (zm (wA (yd (j:=6) N4 hr (by decide) zx (za (zC zA (pv 0) ze) (za (zk C2 hr (by decide) qO (za (zC zA (pv 0) ze) zd)) (za (zC zA (pv 0) ze) zd)))) (yd (j:=6) M4 hr (by decide) qO (za (zC zA (pv 0) ze) (za (zk C2 hr (by decide) qO (za (zC zA (pv 0) ze) zd)) (za (zC zA (pv 0) ze) zd))))))) zB)
    (zh (yq qQ rfl rfl X.at' X.ex (za zj zd)))))))),?_⟩
  obtain⟨hl,lw,le⟩:=hl
  match ws,ne with
  | x::ws,_ =>
   have hl':=zY.of (K:=K) hl
   refine (fun (NX:¬ (∃ n a:Str,x::ws=[("flat":Str),n,a])→_)=>⟨_,rfl,l,_,_,_,rfl,rfl,hl',qE rfl,rfl,_,rfl,qi (fun e=>⟨_,rfl,l,_,rfl,.inl hl',rfl,_,rfl,qi (fun e2=>?g1) (fun e2=>NX fun⟨n,a,h⟩=>e2 (by rw[h];rfl))⟩) (fun e=>NX fun⟨n,a,h⟩=>e (decide_eq_true (by injection h with h1;rw[h1])))⟩) (fun no1=>?next1)
   case g1 =>
    obtain rfl:=vJ e
    obtain⟨n,a,rfl⟩:=Tc (Q9 e2)
    rw[gQ] at q
    have hs:zY K H l ([("flat":Str),n,a].map V.str):=hl'
    have ln:n.length≤50000:=le n (Cd _ Ce)
    have la':a.length≤50000:=le a (Cd _ (Cd _ Ce))
    have la:a.length≤100000:=cZ la' (by decide)
    cases ep:We n a with
    | none =>
     exact .inr ⟨_,rfl,l,_,_,_,rfl,rfl,hs,rfl,_,rfl,l,_,_,_,rfl,rfl,hs,rfl,a,rfl,la,fun H1 s1=>⟨fun r er o dx o0 d0 ne=>⟨o,dx,_,rfl,zq,⟨_,_,Zf ln,pI r,wk (c:=fun r=>yP n&&uJ r) ep er⟩,fun H' fr=>((q H' (s1.trans (qD o0 d0 fr))).2 ep).2⟩,fun er=>((q H1 s1).2 ep).1⟩⟩
    | some r0 =>
     obtain⟨r,er,eb,rfl⟩:=yf (c:=fun r=>yP n&&uJ r) (g:=fun r=>Rk.flat n r) ep
     rw[cQ] at eb
     exact .inl ⟨_,rfl,l,_,_,_,rfl,rfl,hs,rfl,_,rfl,l,_,_,_,rfl,rfl,hs,rfl,a,rfl,la,fun H1 s1=>⟨fun r' er' o dx o0 d0 ne=>by rw[er] at er';cases er';exact⟨o,dx,.flat n r,rfl,rfl,.flat (uH eb.1) (ZA eb.2),zq,fun H' fr e=>⟨rfl,(q H' (s1.trans (qD o0 d0 fr))).1 _ _ ep (.pln (cY rfl) ⟨o,dx,rfl,e⟩)⟩⟩,fun er'=>by rw[er] at er';cases er'⟩⟩
   refine (fun (NX:¬ (∃ n a w:Str,x::ws=[("share":Str),n,a,w])→_)=>⟨_,rfl,l,_,_,_,rfl,rfl,hl',qE rfl,rfl,_,rfl,qi (fun e=>⟨_,rfl,l,_,rfl,.inl hl',rfl,_,rfl,qi (fun e2=>?g1) (fun e2=>NX fun⟨n,a,w,h⟩=>e2 (by rw[h];rfl))⟩) (fun e=>NX fun⟨n,a,w,h⟩=>e (decide_eq_true (by injection h with h1;rw[h1])))⟩) (fun no2=>?next2)
   case g1 =>
    obtain rfl:=vJ e
    obtain⟨n,a,w,rfl⟩:=mQ (Q9 e2)
    rw[UA] at q
    have hs:zY K H l ([("share":Str),n,a,w].map V.str):=hl'
    have ln:n.length≤50000:=le n (Cd _ Ce)
    have la':a.length≤50000:=le a (Cd _ (Cd _ Ce))
    have la:a.length≤100000:=cZ la' (by decide)
    cases ep:OD n a w with
    | none =>
     exact .inr ⟨_,rfl,l,_,_,_,rfl,rfl,hs,rfl,_,rfl,l,_,_,_,rfl,rfl,hs,rfl,a,rfl,la,fun H1 s1=>⟨fun p er=>⟨_,rfl,l,_,_,_,rfl,rfl,s1.seq hs,rfl,fun o dx o0 d0 ne=>⟨o,dx,_,rfl,zq,⟨_,_,_,Zf ln,XX p,Ye _,wk (c:=fun p=>yP n&&(vB p&&wayL.contains w)) ep er⟩,fun H' fr=>((q H' (s1.trans (qD o0 d0 fr))).2 ep).2⟩⟩,fun er=>((q H1 s1).2 ep).1⟩⟩
    | some r0 =>
     obtain⟨p,er,eb,rfl⟩:=yf (c:=fun p=>yP n&&(vB p&&wayL.contains w)) (g:=fun p=>Rk.share n p w) ep
     rw[cQ,cQ] at eb
     exact .inl ⟨_,rfl,l,_,_,_,rfl,rfl,hs,rfl,_,rfl,l,_,_,_,rfl,rfl,hs,rfl,a,rfl,la,fun H1 s1=>⟨fun r' er'=>⟨_,rfl,l,_,_,_,rfl,rfl,s1.seq hs,rfl,fun o dx o0 d0 ne=>by rw[er] at er';cases er';exact⟨o,dx,.share n p w,rfl,rfl,.share (uH eb.1) (wJ eb.2.1) eb.2.2,zq,fun H' fr e=>⟨rfl,(q H' (s1.trans (qD o0 d0 fr))).1 _ _ ep (.pln (cY rfl) ⟨o,dx,rfl,e⟩)⟩⟩⟩,fun er'=>by rw[er] at er';cases er'⟩⟩
   refine (fun (NX:¬ (∃ n a b w:Str,x::ws=[("capped":Str),n,a,b,w])→_)=>⟨_,rfl,l,_,_,_,rfl,rfl,hl',qE rfl,rfl,_,rfl,qi (fun e=>⟨_,rfl,l,_,rfl,.inl hl',rfl,_,rfl,qi (fun e2=>?g1) (fun e2=>NX fun⟨n,a,b,w,h⟩=>e2 (by rw[h];rfl))⟩) (fun e=>NX fun⟨n,a,b,w,h⟩=>e (decide_eq_true (by injection h with h1;rw[h1])))⟩) (fun no3=>?next3)
   case g1 =>
    obtain rfl:=vJ e
    obtain⟨n,a,b,w,rfl⟩:=Ml (Q9 e2)
    rw[Jk] at q
    have hs:zY K H l ([("capped":Str),n,a,b,w].map V.str):=hl'
    have ln:n.length≤50000:=le n (Cd _ Ce)
    have la':a.length≤50000:=le a (Cd _ (Cd _ Ce))
    have la:a.length≤100000:=cZ la' (by decide)
    have lb:b.length≤100000:=cZ (le b (Cd _ (Cd _ (Cd _ Ce)))) (by decide)
    cases ep:mj n a b w with
    | none =>
     exact .inr ⟨_,rfl,l,_,_,_,rfl,rfl,hs,rfl,_,rfl,l,_,_,_,rfl,rfl,hs,rfl,a,rfl,la,fun H1 s1=>⟨fun p er=>⟨_,rfl,l,_,_,_,rfl,rfl,s1.seq hs,rfl,b,rfl,lb,fun H2 s2=>⟨fun m em=>⟨_,rfl,l,_,_,_,rfl,rfl,(s1.trans s2).seq hs,rfl,fun o dx o0 d0 ne=>⟨o,dx,_,rfl,zq,⟨_,_,_,_,Zf ln,XX p,pI m,Ye _,gE (c:=fun p m=>yP n&&((vB p&&wayL.contains w)&&uJ m)) ep er em⟩,fun H' fr=>((q H' ((s1.trans s2).trans (qD o0 d0 fr))).2 ep).2⟩⟩,fun em=>((q H2 (s1.trans s2)).2 ep).1⟩⟩,fun er=>((q H1 s1).2 ep).1⟩⟩
    | some r0 =>
     obtain⟨p,m,er,em,eb,rfl⟩:=vR (c:=fun p m=>yP n&&((vB p&&wayL.contains w)&&uJ m)) (g:=fun p m=>Rk.capped n p m w) ep
     rw[cQ,cQ,cQ] at eb
     exact .inl ⟨_,rfl,l,_,_,_,rfl,rfl,hs,rfl,_,rfl,l,_,_,_,rfl,rfl,hs,rfl,a,rfl,la,fun H1 s1=>⟨fun r' er'=>⟨_,rfl,l,_,_,_,rfl,rfl,s1.seq hs,rfl,b,rfl,lb,fun H2 s2=>⟨fun m' em'=>⟨_,rfl,l,_,_,_,rfl,rfl,(s1.trans s2).seq hs,rfl,fun o dx o0 d0 ne=>by rw[er] at er';cases er';rw[em] at em';cases em';exact⟨o,dx,.capped n p m w,rfl,rfl,.capped (uH eb.1) (wJ eb.2.1.1) (ZA eb.2.2) eb.2.1.2,zq,fun H' fr e=>⟨rfl,(q H' ((s1.trans s2).trans (qD o0 d0 fr))).1 _ _ ep (.pln (cY rfl) ⟨o,dx,rfl,e⟩)⟩⟩⟩,fun em'=>by rw[em] at em';cases em'⟩⟩,fun er'=>by rw[er] at er';cases er'⟩⟩
   refine (fun (NX:¬ (∃ n a b w:Str,x::ws=[("least":Str),n,a,b,w])→_)=>⟨_,rfl,l,_,_,_,rfl,rfl,hl',qE rfl,rfl,_,rfl,qi (fun e=>⟨_,rfl,l,_,rfl,.inl hl',rfl,_,rfl,qi (fun e2=>?g1) (fun e2=>NX fun⟨n,a,b,w,h⟩=>e2 (by rw[h];rfl))⟩) (fun e=>NX fun⟨n,a,b,w,h⟩=>e (decide_eq_true (by injection h with h1;rw[h1])))⟩) (fun no4=>?next4)
   case g1 =>
    obtain rfl:=vJ e
    obtain⟨n,a,b,w,rfl⟩:=Ml (Q9 e2)
    rw[WL] at q
    have hs:zY K H l ([("least":Str),n,a,b,w].map V.str):=hl'
    have ln:n.length≤50000:=le n (Cd _ Ce)
    have la':a.length≤50000:=le a (Cd _ (Cd _ Ce))
    have la:a.length≤100000:=cZ la' (by decide)
    have lb:b.length≤100000:=cZ (le b (Cd _ (Cd _ (Cd _ Ce)))) (by decide)
    cases ep:mT n a b w with
    | none =>
     exact .inr ⟨_,rfl,l,_,_,_,rfl,rfl,hs,rfl,_,rfl,l,_,_,_,rfl,rfl,hs,rfl,a,rfl,la,fun H1 s1=>⟨fun p er=>⟨_,rfl,l,_,_,_,rfl,rfl,s1.seq hs,rfl,b,rfl,lb,fun H2 s2=>⟨fun m em=>⟨_,rfl,l,_,_,_,rfl,rfl,(s1.trans s2).seq hs,rfl,fun o dx o0 d0 ne=>⟨o,dx,_,rfl,zq,⟨_,_,_,_,Zf ln,XX p,pI m,Ye _,gE (c:=fun p m=>yP n&&((vB p&&wayL.contains w)&&uJ m)) ep er em⟩,fun H' fr=>((q H' ((s1.trans s2).trans (qD o0 d0 fr))).2 ep).2⟩⟩,fun em=>((q H2 (s1.trans s2)).2 ep).1⟩⟩,fun er=>((q H1 s1).2 ep).1⟩⟩
    | some r0 =>
     obtain⟨p,m,er,em,eb,rfl⟩:=vR (c:=fun p m=>yP n&&((vB p&&wayL.contains w)&&uJ m)) (g:=fun p m=>Rk.least n p m w) ep
     rw[cQ,cQ,cQ] at eb
     exact .inl ⟨_,rfl,l,_,_,_,rfl,rfl,hs,rfl,_,rfl,l,_,_,_,rfl,rfl,hs,rfl,a,rfl,la,fun H1 s1=>⟨fun r' er'=>⟨_,rfl,l,_,_,_,rfl,rfl,s1.seq hs,rfl,b,rfl,lb,fun H2 s2=>⟨fun m' em'=>⟨_,rfl,l,_,_,_,rfl,rfl,(s1.trans s2).seq hs,rfl,fun o dx o0 d0 ne=>by rw[er] at er';cases er';rw[em] at em';cases em';exact⟨o,dx,.least n p m w,rfl,rfl,.least (uH eb.1) (wJ eb.2.1.1) (ZA eb.2.2) eb.2.1.2,zq,fun H' fr e=>⟨rfl,(q H' ((s1.trans s2).trans (qD o0 d0 fr))).1 _ _ ep (.pln (cY rfl) ⟨o,dx,rfl,e⟩)⟩⟩⟩,fun em'=>by rw[em] at em';cases em'⟩⟩,fun er'=>by rw[er] at er';cases er'⟩⟩
   refine (fun (NX:¬ (∃ n a w:Str,x::ws=[("bands":Str),n,a,w])→_)=>⟨_,rfl,l,_,_,_,rfl,rfl,hl',qE rfl,rfl,_,rfl,qi (fun e=>⟨_,rfl,l,_,rfl,.inl hl',rfl,_,rfl,qi (fun e2=>?g1) (fun e2=>NX fun⟨n,a,w,h⟩=>e2 (by rw[h];rfl))⟩) (fun e=>NX fun⟨n,a,w,h⟩=>e (decide_eq_true (by injection h with h1;rw[h1])))⟩) (fun Lr=>?next5)
   case g1 =>
    obtain rfl:=vJ e
    obtain⟨n,a,w,rfl⟩:=mQ (Q9 e2)
    rw[WK] at q
    have hs:zY K H l ([("bands":Str),n,a,w].map V.str):=hl'
    have ln:n.length≤50000:=le n (Cd _ Ce)
    have la':a.length≤50000:=le a (Cd _ (Cd _ Ce))
    have la:a.length≤100000:=cZ la' (by decide)
    have sl:(Txt.split a ",").length≤100000:=cZ (yo a ",").1 (by omega)
    cases ep:OG n a w with
    | none =>
     exact .inr ⟨_,rfl,l,_,_,_,rfl,rfl,hs,rfl,_,rfl,l,_,_,_,rfl,rfl,hs,rfl,a,rfl,la',fun H1 s1=>⟨fun ps u er bd=>⟨_,rfl,l,_,_,_,rfl,rfl,s1.seq hs,rfl,fun o dx o0 d0 ne=>⟨o,dx,_,rfl,zq,⟨_,_,_,Zf ln,rN (bd.same (zu.made o0 d0)) (cZ (Xx er) sl),Ye _,wk (c:=fun ps=>yP n&&(Jq (Jd ps)&&wayL.contains w)) ep er⟩,fun H' fr=>((q H' (s1.trans (qD o0 d0 fr))).2 ep).2⟩⟩,fun er=>(q H1 s1).2 ep⟩⟩
    | some r0 =>
     obtain⟨ps,er,eb,rfl⟩:=yf (c:=fun ps=>yP n&&(Jq (Jd ps)&&wayL.contains w)) (g:=fun ps=>Rk.bands n ps w) ep
     rw[cQ,cQ] at eb
     exact .inl ⟨_,rfl,l,_,_,_,rfl,rfl,hs,rfl,_,rfl,l,_,_,_,rfl,rfl,hs,rfl,a,rfl,la',fun H1 s1=>⟨fun ps' u er' bd=>⟨_,rfl,l,_,_,_,rfl,rfl,s1.seq hs,rfl,fun o dx o0 d0 ne=>by rw[er] at er';cases er';exact⟨o,dx,n,u,ps,w,rfl,uH eb.1,nX eb.2.1,eb.2.2,bd.same (zu.made o0 d0),zq,fun H' u' fr e bd'=>⟨rfl,(q H' (s1.trans (qD o0 d0 fr))).1 _ _ ep (.bands e bd')⟩⟩⟩,fun er'=>by rw[er] at er';cases er'⟩⟩
   exact⟨by decide,((q H (zu.refl _)).2 (Rw ⟨no1,no2,no3,no4,Lr⟩)).2⟩
end
end K10
namespace Pg
open PySem L2 Builtin Builtin.Str
noncomputable def vF:List Str→Bool
 | k::_::_::_::o::_::_=>decide (k = "ontop")&&decide (o = "of")
 | _=>false
theorem ux (d:Nat) {ws:List Str} (h:vF ws=false):uk d ws=jC ws:=by
 match d,ws with
 | 0,[]=>rfl
 | 0,[_]=>rfl
 | 0,[_,_]=>rfl
 | 0,[_,_,_]=>rfl
 | 0,[_,_,_,_]=>rfl
 | 0,[_,_,_,_,_]=>rfl
 | 0,k::n::a::w::o::x::ws =>
  unfold uk
  exact if_neg fun e=>by
   have h:(decide (k = "ontop")&&decide (o = "of"))=false:=h
   rw[decide_eq_true e.1,decide_eq_true e.2] at h
   cases h
 | d+1,[]=>rfl
 | d+1,[_]=>rfl
 | d+1,[_,_]=>rfl
 | d+1,[_,_,_]=>rfl
 | d+1,[_,_,_,_]=>rfl
 | d+1,[_,_,_,_,_]=>rfl
 | d+1,k::n::a::w::o::x::ws =>
  unfold uk
  exact if_neg fun e=>by
   have h:(decide (k = "ontop")&&decide (o = "of"))=false:=h
   rw[decide_eq_true e.1,decide_eq_true e.2] at h
   cases h
theorem Yu {ws:List Str} (h:vF ws=true):∃ n a w x r,ws=("ontop":Str)::n::a::w::("of":Str)::x::r:=by
 match ws,h with
 | k::n::a::w::o::x::r,h =>
  have h:(decide (k = "ontop")&&decide (o = "of"))=true:=h
  rw[cQ] at h
  rw[of_decide_eq_true h.1,of_decide_eq_true h.2]
  exact⟨n,a,w,x,r,rfl⟩
theorem Zw (n a w x:Str) (r:List Str):uk 0 (("ontop":Str)::n::a::w::("of":Str)::x::r)=none:=by
 unfold uk
 exact if_pos ⟨rfl,rfl⟩
theorem JR (d:Nat) (n a w x:Str) (r:List Str):uk (d+1) (("ontop":Str)::n::a::w::("of":Str)::x::r)=(uk d (x::r)).bind fun r=>LH n a w r:=by
 show (if (_:Prop) then _ else _)=_
 exact if_pos ⟨rfl,rfl⟩
theorem pA {ws:List Str} {r:Rk} (h:jC ws=some r):Gd 0 r:=by
 unfold jC at h
 split at h
 ·split at h
  ·obtain⟨r,er,eb,rfl⟩:=yf (c:=fun r=>yP _&&uJ r) (g:=fun r=>Rk.flat _ r) h
   rw[cQ] at eb
   exact .pln (.flat (uH eb.1) (ZA eb.2))
  ·cases h
 ·rename_i k n a w
  split at h
  ·obtain⟨r,er,eb,rfl⟩:=yf (c:=fun p=>yP n&&(vB p&&wayL.contains w)) (g:=fun p=>Rk.share n p w) h
   rw[cQ,cQ] at eb
   exact .pln (.share (uH eb.1) (wJ eb.2.1) eb.2.2)
  ·split at h
   ·obtain⟨r,er,eb,rfl⟩:=yf (c:=fun ps=>yP n&&(Jq (Jd ps)&&wayL.contains w)) (g:=fun ps=>Rk.bands n ps w) h
    rw[cQ,cQ] at eb
    exact .bands (uH eb.1) (nX eb.2.1) eb.2.2
   ·cases h
 ·rename_i k n a b w
  split at h
  ·obtain⟨p,m,er,em,eb,rfl⟩:=vR (c:=fun p m=>yP n&&((vB p&&wayL.contains w)&&uJ m)) (g:=fun p m=>Rk.capped n p m w) h
   rw[cQ,cQ,cQ] at eb
   exact .pln (.capped (uH eb.1) (wJ eb.2.1.1) (ZA eb.2.2) eb.2.1.2)
  ·split at h
   ·obtain⟨p,m,er,em,eb,rfl⟩:=vR (c:=fun p m=>yP n&&((vB p&&wayL.contains w)&&uJ m)) (g:=fun p m=>Rk.least n p m w) h
    rw[cQ,cQ,cQ] at eb
    exact .pln (.least (uH eb.1) (wJ eb.2.1.1) (ZA eb.2.2) eb.2.1.2)
   ·cases h
 ·cases h
theorem pS:∀ {d:Nat} {ws:List Str} {r:Rk},uk d ws=some r→Gd d r:=by
 intro d
 induction d with
 | zero =>
  intro ws r h
  cases e:vF ws with
  | false=>rw[ux 0 e] at h;exact pA h
  | true =>
   obtain⟨n,a,w,x,r',rfl⟩:=Yu e
   rw[Zw] at h
   cases h
 | succ d ih =>
  intro ws r h
  cases e:vF ws with
  | false=>rw[ux _ e] at h;exact (pA h).le (Cw _)
  | true =>
   obtain⟨n,a,w,x,r',rfl⟩:=Yu e
   rw[JR] at h
   cases e2:uk d (x::r') with
   | none=>rw[e2] at h;cases h
   | some r2 =>
    rw[e2] at h
    obtain⟨p,er,eb,rfl⟩:=yf (c:=fun p=>yP n&&(vB p&&wayL.contains w)) (g:=fun p=>Rk.ontop n p w r2) h
    rw[cQ,cQ] at eb
    exact .ontop (uH eb.1) (wJ eb.2.1) eb.2.2 (ih e2)
noncomputable def WJ:Sp:=fun vs H Q _=>∃ l ws,vs=[.ref l]∧Wn H l ws∧ws≠[]∧Q (.bl (vF ws)) H
noncomputable def QZ (Cs:Nat→Addr) (cT cB:Addr):Nat→Sp
 | 0=>fun _ _ _ _=>False
 | d+1=>fun vs H Q E=>∃ l ws dp,vs=[.ref l,.int dp]∧Wn H l ws∧ws≠[]∧0≤dp∧dp+d=3∧∀ H',zu H H'→(∀ r o,uk d ws=some r→wG Cs H' r o→Q o H')∧(uk d ws=none→E (.ref cT) none H'∧E (.ref cB) none H')
noncomputable def VQ (K:BFr) (Cs:Nat→Addr) (cB:Addr):Sp:=fun vs H Q E=>∃ v,vs=[v]∧((vG K H v∧E (.ref cB) none H)∨∃ z,v = .str z∧z.length≤50000∧∀ H',zu H H'→(∀ r o,uk 3 (Txt.split z " ")=some r→wG Cs H' r o→Q o H')∧(uk 3 (Txt.split z " ")=none→E (.ref cB) none H'))
theorem Nl (l:List V):yX l (some 5) none=l.drop 5:=ly (k:=5)
theorem Li {ws:List Str} (h:¬ 5<ws.length):vF ws=false:=by
 match ws with
 | []=>rfl
 | [_]=>rfl
 | [_,_]=>rfl
 | [_,_,_]=>rfl
 | [_,_,_,_]=>rfl
 | [_,_,_,_,_]=>rfl
 | _::_::_::_::_::_::r=>exact absurd (by simp only[CI];omega) h
theorem VF {x:Str} {ws:List Str} (h:x≠"ontop"):vF (x::ws)=false:=by
 match ws with
 | []=>rfl
 | [_]=>rfl
 | [_,_]=>rfl
 | [_,_,_]=>rfl
 | [_,_,_,_]=>rfl
 | _::_::_::o::_::r =>
  show (decide (x = "ontop")&&decide (o = "of"))=false
  rw[decide_eq_false h]
  rfl
theorem Mo {x:Str} {ws:List Str} (h:5<(x::ws).length) (e:x = "ontop"):∃ o,((x::ws).map V.str)[4]? = some (.str o)∧vF (x::ws)=decide (V.str o=V.str "of"):=by
 match ws,h with
 | [],h=>exact absurd h (by show ¬ 5<1;decide)
 | [_],h=>exact absurd h (by show ¬ 5<2;decide)
 | [_,_],h=>exact absurd h (by show ¬ 5<3;decide)
 | [_,_,_],h=>exact absurd h (by show ¬ 5<4;decide)
 | [_,_,_,_],h=>exact absurd h (by show ¬ 5<5;decide)
 | _::_::_::o::_::r,_ =>
  refine⟨o,rfl,?_⟩
  show (decide (x = "ontop")&&decide (o = "of"))=_
  rw[decide_eq_true e,Cj]
  by_cases h:o = "of"
  ·rw[h,decide_eq_true rfl,decide_eq_true rfl]
  ·rw[decide_eq_false h,decide_eq_false fun z=>h (V.str.inj z)]
theorem RZ {ws:List Str} (b:Bool) (h:decide (5<ws.length)=b):decide ((5:Int)<((ws.map V.str).length:Nat))=b:=by
 rw[cN,← h]
 exact decide_eq_decide.mpr (by omega)
end Pg
namespace L2
open PySem PySem.Spec PyProof.Rows
section
variable {P:Program} {w:World} {K:BFr} {mg:Str→Option Value} {base:Heap}
theorem qM.okY {x qual:Str} {st:Stmt} {f:Addr} {fd:FuncData} {N ps:List Str} {k:Nat} {sp:Sp} (F:qM K x qual st f fd) (S:u9 N ps (zW st)) (len:∀ vs H Q E,sp vs H Q E→vs.length=ps.length) (hbody:∀ (cdv:Value) (A:Around) (outer:List Env) (s:Shared) (H:Hp) (vs:List V) (Q:VK) (E:XK),yO k (A.deeper (envOfC qual (zW st) s.heap.objs.size f cdv))→sp vs H Q E →
   ∃ t,y8 (kh (Ts P w) P w K mg base N qual (zW st) f cdv A outer s H E) (yN st) t∧t { nx:=fun _ H'=>Q .non H',rt:=Q } (vX N vs) H):zL P w K mg base (Ts P w) (k+1) f fd ps sp:=by
 obtain⟨oc,od,kV,doc,pm,an,cdv,ct,osl,rfl,lk,hcd⟩:=F.ex
 exact P3 lk hcd S len fun A outer s H vs Q E hr hsp=>hbody cdv A outer s H vs Q E hr hsp
end
theorem rP {X:Cx} {pn:List (Addr × Obj)} {R:XK}:yZ (Ts X.prog X.w) (X.tr pn (Lj kW X pn R)) R:=vS rfl rfl QJ
end L2
namespace K10
open PySem PySem.NumText L2 Pg
seal PE PA PT PW PS y8 PG vz PI j8 PO PK
section
variable {P:Program} {w:World} {K:BFr} {mg:Str→Option Value} {base:Heap} {f:Addr} {fd:FuncData} {d:Nat→Addr} {cR:Addr}
theorem Ld (F:qM K "is_ontop" "is_ontop" (zX 70) f fd) (G:jW mg):zL P w K mg base zQ 1 f fd ["words"] WJ:=by
 refine F.ok (N:=["words"]) (by walk_at"s") (fun vs H Q E h=>?_) (fun cdv A outer s H vs Q E hr h=>?_)
 ·obtain⟨l,ws,rfl,_⟩:=h
  rfl
 ·obtain⟨l,ws,rfl,⟨hl,lw,le⟩,ne,q⟩:=h
  refine⟨_,zh (zm (yK (qj qh (zC zA (pv 0) ze) zj (zD _)) (yK (qj y6 (zv zO rfl G.len boot_len (za (pv 0) zd)) ze (zD _)) (yL (qj qh (zC zA (pv 0) ze) zj (zD _)))))),?_⟩
  match ws,ne with
  | x::ws,_ =>
   have hl':=zY.of (K:=K) hl
   by_cases ex:x = "ontop"
   ·by_cases h5:5<(x::ws).length
    ·obtain⟨o,e4,eo⟩:=Mo h5 ex
     rw[eo] at q
     exact⟨_,rfl,l,_,_,_,rfl,rfl,hl',qE rfl,rfl,true,by rw[ex,decide_eq_true rfl],qZ ⟨_,rfl,l,_,rfl,.inl hl',_,_,rfl,rfl,true,congrArg V.bl (RZ true (decide_eq_true h5)),qZ ⟨_,rfl,l,_,_,_,rfl,rfl,hl',qB (j:=4) e4,rfl,q⟩⟩⟩
    ·rw[Li h5] at q
     exact⟨_,rfl,l,_,_,_,rfl,rfl,hl',qE rfl,rfl,true,by rw[ex,decide_eq_true rfl],qZ ⟨_,rfl,l,_,rfl,.inl hl',_,_,rfl,rfl,false,congrArg V.bl (RZ false (decide_eq_false h5)),qN q⟩⟩
   ·rw[VF ex] at q
    exact⟨_,rfl,l,_,_,_,rfl,rfl,hl',qE rfl,rfl,false,congrArg V.bl (decide_eq_false fun z=>ex (V.str.inj z)),qN q⟩
theorem MN {Cs:Nat→Addr} {cT cB:Addr} {j:Nat}:zL P w K mg base (j4 P w) j f fd ["words","depth"] (QZ Cs cT cB 0):=⟨fun _ _ _ _ h=>h.elim,fun _ _ _ _ _ _ _ _ _ _ _ _ _ h=>h.elim⟩
set_option maxHeartbeats 4000000 in
theorem Vf {Cs:Nat→Addr} {cT cB cRu:Addr} {d j:Nat} (hj:19≤j) (F:qM K "rule_of_words" "rule_of_words" (zX 71) f fd) (X:Er K mg "BadRule" cB) (N1:Yh mg "MOST_DEPTH" 3) (C1:qR P w K mg base zQ 1 "is_ontop" ["words"] WJ) (C2:qR P w K mg base (j4 P w) 8 "plain_rule" ["words"] (X6 Cs cT cB)) (C3:qR P w K mg base (j4 P w) 4 "number_of" ["word"] (Qd cT)) (C4:qR P w K mg base (j4 P w) j "rule_of_words" ["words","depth"] (QZ Cs cT cB d)) (N5:vn P w K mg base zQ 16 "OnTop" (Cs 5) ["self","name","parts","way","rule"] (QO 2 Cs)) (M5:vn P w K mg base (j4 P w) 18 "OnTop" (Cs 5) ["self","name","parts","way","rule"] (JQ K cRu Cs cB)):zL P w K mg base (j4 P w) (j+1) f fd ["words","depth"] (QZ Cs cT cB (d+1)):=by
 obtain⟨tk,em⟩:=N1
 have nd:(["words","depth","within"]:List Str).Nodup:=by decide +kernel
 refine F.okE (N:=["words","depth","within"]) (by walk_at"s") (fun vs H Q E h=>?_) (fun cdv A outer s H vs Q E hr h=>?_)
 ·obtain⟨l,ws,dp,rfl,_⟩:=h
  rfl
 ·obtain⟨l,ws,dp,rfl,hw,ne,d0,d3,q⟩:=h
  have hr17:yO (16+1) (A.deeper _):=hr.mono (by omega)
  have hr19:yO (18+1) (A.deeper _):=hr.mono hj
  refine⟨_,(zg (zK (qz (qy (zk C1 hr (by omega) zx (za (pv 0) zd)))) (zh (zm (zk C2 hr (by omega) qO (za (pv 0) zd)))) zB)
    (zg (zK (zw qh (pv 1) (zZ (v:=.int 3) rfl em ⟨tk,rfl⟩) (zD _)) (zh (yq qQ rfl rfl X.at' X.ex (za zj zd))) zB)
    (zg (zI (i:=2) nd rfl (Or.inl rfl) (zk C4 hr (cP _) qO (za (qp yn (pv 0) (qC ze) qL) (za (zt qk (pv 1) ze) zd))))
    (zh (zm (wA (yd (j:=16) N5 hr17 (by decide) zx (za (zC zA (pv 0) ze) (za (zk C3 hr (by omega) qO (za (zC zA (pv 0) ze) zd)) (za (zC zA (pv 0) ze) (za (pv 2) zd))))) (yd (j:=18) M5 hr19 (by decide) qO (za (zC zA (pv 0) ze) (za (zk C3 hr (by omega) qO (za (zC zA (pv 0) ze) zd)) (za (zC zA (pv 0) ze) (za (pv 2) zd))))))))))),?_⟩
  refine⟨_,rfl,l,ws,rfl,hw,ne,?_⟩
  cases eo:vF ws with
  | false =>
   rw[ux d eo] at q
   exact⟨false,rfl,qZ ⟨_,rfl,l,ws,rfl,hw,ne,q⟩⟩
  | true =>
   refine⟨true,rfl,qN ⟨_,rfl,rfl,_,rfl,qi (fun e=>⟨by decide,?_⟩) (fun e=>?_)⟩⟩
   ·have e:=V.int.inj (of_decide_eq_true e)
    obtain⟨n,a,x,y,r,rfl⟩:=Yu eo
    have:d=0:=by omega
    subst this
    exact ((q H (zu.refl _)).2 (Zw _ _ _ _ _)).2
   obtain⟨n,a,x,y,r,rfl⟩:=Yu eo
   have hd:dp≠3:=fun z=>e (decide_eq_true (by rw[z]))
   match d,d3,q,C4 with
   | 0,d3,_,_=>exact absurd (by omega) hd
   | d+1,d3,q,C4 =>
    rw[JR] at q
    obtain⟨hl,lw,le⟩:=hw
    have hl':=zY.of (K:=K) hl
    refine⟨_,rfl,_,rfl,l,_,rfl,hl',fun t t0=>?_⟩
    generalize hc:yX ((("ontop":Str)::n::a::x::("of":Str)::y::r).map V.str) (some 5) none=cs
    have ec:cs=(y::r).map V.str:=by rw[← hc,Nl];rfl
    have s1:zu H (upd H t (.lst cs)):=zu.upd t0
    have e1:(upd H t (.lst cs)) t=some (.lst ((y::r).map V.str)):=by rw[zq,ec]
    generalize upd H t (.lst cs)=H1 at s1 e1
    refine⟨_,rfl,_,_,rfl,rfl,t,y::r,_,rfl,⟨e1,by simp only[CI] at lw ⊢;omega,fun w hw=>le w (by simp only[cU] at hw ⊢;rcases hw with h | h <;> simp[h])⟩,(by intro z;cases z),(by show 0≤dp+1;omega),(by show dp+1+(d:Int)=3;omega),fun H2 s2=>⟨fun r2 u e2 ru=>?_,fun e2=>(q H2 (s1.trans s2)).2 (bW e2)⟩⟩
    rw[e2] at q
    have q:∀ H',zu H H'→(∀ r o,LH n a x r2=some r→wG Cs H' r o→Q o H')∧(LH n a x r2=none→E (.ref cT) none H'∧E (.ref cB) none H'):=q
    have S2:=s1.trans s2
    have hs:=S2.seq hl'
    have ln:n.length≤50000:=le n (by simp)
    have la:a.length≤100000:=cZ (le a (by simp)) (by decide)
    have g2:Gd 2 r2:=(pS e2).le (by omega)
    cases ep:LH n a x r2 with
    | none =>
     refine .inr ⟨_,rfl,l,_,_,_,rfl,rfl,hs,qB (j:=1) rfl,_,rfl,l,_,_,_,rfl,rfl,hs,qB (j:=2) rfl,a,rfl,la,fun H3 s3=>⟨fun p er=>⟨_,rfl,l,_,_,_,rfl,rfl,s3.seq hs,qB (j:=3) rfl,_,rfl,fun o dx o0 dx0 ne=>⟨o,dx,_,_,_,_,_,_,_,true,rfl,zq,Zf ln,XX p,Ye _,.good ((ru.same s3).same (zu.made o0 dx0)) g2,?_,fun H' fr=>((q H' (S2.trans (s3.trans (qD o0 dx0 fr)))).2 ep).2⟩⟩,fun er=>((q H3 (S2.trans s3)).2 ep).1⟩⟩
     have:=wk (c:=fun p=>yP n&&(vB p&&wayL.contains x)) ep er
     rw[dm]
     exact this
    | some r0 =>
     obtain⟨p,er,eb,rfl⟩:=yf (c:=fun p=>yP n&&(vB p&&wayL.contains x)) (g:=fun p=>Rk.ontop n p x r2) ep
     rw[cQ,cQ] at eb
     exact .inl ⟨_,rfl,l,_,_,_,rfl,rfl,hs,qB (j:=1) rfl,_,rfl,l,_,_,_,rfl,rfl,hs,qB (j:=2) rfl,a,rfl,la,fun H3 s3=>⟨fun p' er'=>⟨_,rfl,l,_,_,_,rfl,rfl,s3.seq hs,qB (j:=3) rfl,_,rfl,fun o dx o0 dx0 ne=>by rw[er] at er';cases er';exact⟨o,dx,n,p,x,u,r2,rfl,uH eb.1,wJ eb.2.1,eb.2.2,(ru.same s3).same (zu.made o0 dx0),g2,zq,fun H' u' fr ho' ri'=>⟨rfl,(q H' (S2.trans (s3.trans (qD o0 dx0 fr)))).1 _ _ ep (.ontop ho' ri')⟩⟩⟩,fun er'=>by rw[er] at er';cases er'⟩⟩
set_option maxHeartbeats 4000000 in
theorem mS {Cs:Nat→Addr} {cT cB:Addr} {j:Nat} (F:qM K "rule_of" "rule_of" (zX 72) f fd) (G:jW mg) (X:Er K mg "BadRule" cB) (XT:Er K mg "BadText" cT) (x1:PySem.W.exmOne K (.ref cT) (.ref cT)=some true) (x2:PySem.W.exmOne K (.ref cB) (.ref cT)=some false) (C1:qR P w K mg base (j4 P w) j "rule_of_words" ["words","depth"] (QZ Cs cT cB 4)):zL P w K mg base (Ts P w) (j+1) f fd ["text"] (VQ K Cs cB):=by
 refine F.okY (N:=["text"]) (by walk_at"s") (fun vs H Q E h=>?_) (fun cdv A outer s H vs Q E hr h=>?_)
 ·obtain⟨v,rfl,_⟩:=h
  rfl
 ·obtain⟨v,rfl,h⟩:=h
  obtain⟨R,hR⟩:∃ R:XK,R=fun cls _ H'=>(cls = .ref cT∨cls = .ref cB)∧zu H H'∧∀ z,v = .str z→uk 3 (Txt.split z " ")=none:=⟨_,rfl⟩
  refine' ⟨_,zg (zK (qz (qy (zv zJ rfl G.isinstance zE (za (pv 0) (za (yw (v:=.ty "str") rfl G.str qK rfl) zd))))) (zh (yq qQ rfl rfl X.at' X.ex (za zj zd))) zB)
   (zh (ME (R:=R) (E:=E) (tb:=Mx fun σ H Q=>qX (cn K "str" RG (qd 0) (qX (tC (.str " ")) jy)) (qX (tC (.int 0)) jy) σ H fun vs H1=>QZ Cs cT cB 4 vs H1 Q R) WY rfl rfl rfl XT.at' rfl X.at' X.ex ?body (fun pn ea E=>za zj zd))),?main⟩
  case body =>
   intro pn
   exact zh (zm (zk C1 hr (cP _) tH (za (qY PySem.F.plainAttrs_str PySem.F.slot_str_split PySem.F.type_str_split jT (pv 0) (za zj zd)) (za ze zd))))
  rcases h with ⟨⟨r,hr',ty,ne⟩,q⟩ | ⟨z,rfl,hz,q⟩
  ·obtain⟨_,_,k3,_⟩:=Qg (K:=K) r hr'
   have e:r.2.2.2.1=false:=by
    simp only[UZ,cU,cX,or_false] at hr'
    rcases hr' with rfl | rfl | rfl | rfl | rfl | rfl | rfl <;> first | rfl | exact absurd rfl ne
   rw[e] at k3
   exact⟨_,rfl,_,_,_,_,false,rfl,rfl,.inl ty,k3,false,rfl,qZ ⟨by decide,q⟩⟩
  have zf:z.length≤sizeLine:=uq hz rfl
  obtain⟨sl,sn,w0,wr,ew⟩:=yo z " "
  refine⟨_,rfl,_,_,_,_,true,rfl,rfl,.inl (.str z),rfl,true,rfl,qN ⟨⟨_,rfl,rfl,_,_,rfl,rfl,rfl,zf,yS _ hz,fun l H1 s1 n1 e1=>?_⟩,?_⟩⟩
  ·refine⟨l,_,0,rfl,⟨e1,by omega,fun w hw=>cZ (sn w hw) hz⟩,(by rw[ew];intro z;cases z),by decide,by decide,fun H2 s2=>⟨fun r o er ro=>(q H2 (s1.trans s2)).1 r o er ro,fun er=>?_⟩⟩
   rw[hR]
   have dr:∀ z',V.str z = .str z'→uk 3 (Txt.split z' " ")=none:=fun z' e=>by
    cases e
    exact er
   exact⟨⟨.inl rfl,s1.trans s2,dr⟩,⟨.inr rfl,s1.trans s2,dr⟩⟩
  ·intro ea oe vs cls σ' H' r n0 hd h2
   rw[hR] at r
   obtain⟨rc,sS,re⟩:=r
   rcases rc with rfl | rfl
   ·exact .inl ⟨x1,by decide,⟨oe,_,vs,zq,hd,h2⟩,(q _ (sS.trans (zu.upd n0))).2 (re z rfl)⟩
   ·exact .inr ⟨x2,(q _ sS).2 (re z rfl)⟩
end
end K10
namespace Pg
theorem gL:∀ {l m:List Int},l.Pairwise (· < ·)→m.Pairwise (· < ·)→(∀ z,z∈l↔z∈m)→l=m
 | [],[],_,_,_=>rfl
 | [],b::m,_,_,h=>absurd ((h b).mpr Ce) (by simp)
 | a::l,[],_,_,h=>absurd ((h a).mp Ce) (by simp)
 | a::l,b::m,h1,h2,h=>by
  rw[Dp] at h1 h2
  have e:a=b:=by
   rcases cU.mp ((h a).mp Ce) with e | e
   ·exact e
   ·rcases cU.mp ((h b).mpr Ce) with e' | e'
    ·exact e'.symm
    ·have:=h2.1 a e
     have:=h1.1 b e'
     omega
  subst e
  congr 1
  refine gL h1.2 h2.2 fun z=>⟨fun hz=>?_,fun hz=>?_⟩
  ·rcases cU.mp ((h z).mp (Cd _ hz)) with e | e
   ·have:=h1.1 z hz
    omega
   ·exact e
  ·rcases cU.mp ((h z).mpr (Cd _ hz)) with e | e
   ·have:=h2.1 z hz
    omega
   ·exact e
open PySem PySem.NumText Builtin Builtin.Str L2
theorem NW {K:BFr} {H:Hp} {v:V} {z:Str} (h:vG K H v):v≠.str z:=fun e=>by
 obtain⟨r,_,ty,ne⟩:=h
 subst e
 generalize r.1=t at ty ne
 cases ty
 exact ne rfl
end Pg
namespace L2
open PySem PySem.Spec PyProof PyProof.Rows
section
variable {X:Cx} {pins:List (Addr × Obj)} {σ:St} {H:Hp} {s:Shared}
noncomputable def wI:V→Bool
 | .non=>true
 | _=>false
noncomputable def Pw (K:BFr) (H:Hp) (x:V):Prop:=j0 x=true∨∃ t c,x = .ref t∧qw K H t c
noncomputable def nU:Value→Bool
 | .none=>true
 | _=>false
theorem bS {A:Around} (hu:A.units<cLine) (I:zN X pins σ H s) {x:V} {u:Value} (r:qG x u) (f:Pw X.K H x):SeqAt.EqAt A s u .none (wI x)∧nU u=wI x:=by
 rcases f with f | ⟨t,c,rfl,ht⟩
 ·cases x with
  | non=>cases r;exact⟨SeqAt.EqAt.same _,rfl⟩
  | bl b=>cases r;exact⟨SeqAt.EqAt.bool_none b,rfl⟩
  | int i=>obtain⟨t,rfl⟩:=r;exact⟨SeqAt.EqAt.int_none i t,rfl⟩
  | str z=>obtain⟨t,rfl⟩:=r;exact⟨SeqAt.EqAt.str_none z t,rfl⟩
  | _=>exact absurd (show false=true from f) Cm
 ·cases r
  obtain⟨its,r,pl,hz⟩:=I.tuple ht
  exact⟨SeqAt.EqAt.tuple_none pl hu,rfl⟩
theorem p9 {A:Around} (hu:A.units<cLine) (I:zN X pins σ H s):∀ {xs:List V} {us:List Value},qt xs us→(∀ x∈xs,Pw X.K H x)→(∀ u∈us,SeqAt.EqAt A s u .none (nU u))∧us.any nU=xs.any wI
 | _,_,.nil,_=>⟨fun _ h=>(nomatch h),rfl⟩
 | x::xs,u::us,.cons r t,f=>by
  obtain⟨a,b⟩:=bS hu I r (f x Ce)
  obtain⟨c,d⟩:=p9 hu I t fun y hy=>f y (Cd _ hy)
  refine⟨fun w hw=>?_,by rw[dY,dY,b,d]⟩
  rcases cU.mp hw with rfl | hw
  ·rw[b];exact a
  ·exact c w hw
noncomputable def Bm (K:BFr):R2:=fun x y H Q=>∃ p xs,x = .non∧y = .ref p∧(zY K H p xs∨qw K H p xs)∧(∀ x∈xs,Pw K H x)∧Q (.bl (xs.any wI)) H
theorem Ow (un:X.A.units+1<cLine):wF X (compareOp .In) (Bm X.K):=by
 intro pins s σ H x y v u Q I rx ry h
 obtain⟨p,xs,rfl,rfl,hq,fs,q⟩:=h
 cases rx
 cases ry
 rcases hq with hq | hq
 ·obtain⟨its,r,pl,hz⟩:=I.list hq
  obtain⟨a,b⟩:=p9 (A:=X.A.in1) (show X.A.units+1<cLine from un) I r fs
  refine SeqAt.in_listAt nU pl.isList (fun w hw=>a w (by simpa using hw)) ⟨.bl _,H,I,rfl,?_⟩
  rw[show its.toArray.any nU=its.any nU by simp,b]
  exact q
 ·obtain⟨its,r,pl,hz⟩:=I.tuple hq
  obtain⟨a,b⟩:=p9 (A:=X.A.in1) (show X.A.units+1<cLine from un) I r fs
  refine SeqAt.in_tupleAt nU pl (fun w hw=>a w (by simpa using hw)) ⟨.bl _,H,I,rfl,?_⟩
  rw[show its.toArray.any nU=its.any nU by simp,b]
  exact q
end
end L2
namespace Pg
open PySem PySem.NumText L2 Builtin Builtin.Str
theorem Jl:∀ {n:Nat} {l:List Nat},l.length=n→vN l=true→l=dg (digitsVal l):=by
 intro n
 induction n with
 | zero =>
  intro l e h
  cases l with
  | nil=>cases h
  | cons=>cases e
 | succ n ih =>
  intro l e h
  unfold vN at h
  rw[cQ] at h
  obtain⟨hd,ne⟩:=uP h.1
  obtain⟨a,c,rfl⟩:∃ a c,l=a++[c]:=⟨l.dropLast,l.getLast ne,(DZ ne).symm⟩
  have hc:=hd c (CC _ Ce)
  cases a with
  | nil =>
   show [c]=dg (0*10+(c - 48))
   rw[xi (by omega)]
   congr 1
   omega
  | cons b a =>
   have b48:b≠48:=fun z=>by
    have h2:=h.2
    rw[z] at h2
    have e1:decide (48::a++[c]=[48])=false:=decide_eq_false fun e=>by
     have:=congrArg List.length e
     simp at this
    have e2:decide ((48::a++[c]).head? = some 48)=true:=decide_eq_true rfl
    rw[e1,e2] at h2
    cases h2
   have na:vN (b::a)=true:=by
    unfold vN wV
    rw[cQ,cQ]
    refine⟨⟨rfl,Cn.mpr fun x hx=>?_⟩,?_⟩
    ·have:=hd x (CW _ hx)
     unfold Yo
     rw[decide_eq_true this.1,decide_eq_true this.2]
     rfl
    ·have:decide ((b::a).head? = some 48)=false:=decide_eq_false fun z=>b48 (Option.some.inj z)
     rw[this]
     exact Bool.or_true _
   have ea:=ih (by simp at e ⊢;omega) na
   have p1:1≤digitsVal (b::a):=by
    have hb:=hd b (CW _ Ce)
    rcases Nat.eq_zero_or_pos (digitsVal (b::a)) with z | z
    ·rw[z,xi (by decide)] at ea
     exact absurd (List.cons.inj ea).1 b48
    ·exact z
   rw[digitsVal_snoc,gG (by omega),show (digitsVal (b::a)*10+(c - 48))/10=digitsVal (b::a) by omega,show (digitsVal (b::a)*10+(c - 48))%10=c - 48 by omega,← ea]
   congr 2
   omega
noncomputable def nO (m:Int) (z:Str):Option Int:=(q9 13 z).bind fun r=>if decide (r≤m)=true then some r else none
noncomputable def uN:Option Int→V
 | some r=>.int r
 | none=>.non
theorem Ov {m:Int} {z:Str} (h:z = ""∨13<z.length∨z.cps.toList.all Yo=false):nO m z=none:=by
 have:q9 13 z=none:=by
  unfold q9
  refine if_neg fun c=>?_
  have hf:=c.2
  unfold vN wV at hf
  rw[cQ,cQ] at hf
  rcases h with h | h | h
  ·rw[h] at hf
   exact absurd hf.1.1 (by decide +kernel)
  ·omega
  ·rw[h] at hf
   exact absurd hf.1.2 (by decide)
 exact bW this
theorem RL {m:Int} {z:Str} (l:z.length≤13) (h:wV z.cps.toList=true):nO m z=if (!decide ((toString ((digitsVal z.cps.toList:Nat):Int):Str)=z) || decide (m<((digitsVal z.cps.toList:Nat):Int)))=true then none else some ((digitsVal z.cps.toList:Nat):Int):=by
 have eq:((toString ((digitsVal z.cps.toList:Nat):Int):Str)=z)↔vN z.cps.toList=true:=by
  constructor
  ·intro e
   rw[← e]
   have:(toString ((digitsVal z.cps.toList:Nat):Int):Str).cps.toList=dg (digitsVal z.cps.toList):=uD _
   rw[this]
   exact NZ _
  ·intro e
   exact wu ((uD _).trans (Jl rfl e).symm)
 unfold nO q9
 by_cases c:vN z.cps.toList=true
 ·rw[if_pos ⟨l,c⟩,decide_eq_true (eq.mpr c)]
  show (if decide ((digitsVal z.cps.toList:Int)≤m)=true then _ else none)=_
  by_cases d:m<(digitsVal z.cps.toList:Nat)
  ·rw[decide_eq_true d,decide_eq_false (by omega)]
   rfl
  ·rw[decide_eq_false d,decide_eq_true (by omega)]
   rfl
 ·rw[if_neg fun h=>c h.2,decide_eq_false fun h=>c (eq.mp h)]
  rfl
noncomputable def kH (z:Str):Option (List (Int × Int)):=(yY (Txt.split z ",")).bind fun ps=>if Jq (Jd ps)=true then some ps else none
noncomputable def gO:Sp:=fun vs H Q _=>∃ z,vs=[.str z]∧z.length≤50000∧∀ H',zu H H'→Q (.bl (yP z)) H'
noncomputable def VZ:Sp:=fun vs H Q _=>∃ z m,vs=[.str z,.int m]∧z.length≤50000∧∀ H',zu H H'→Q (uN (nO m z)) H'
noncomputable def UT (H:Hp) (o:Option (List (Int × Int))) (v:V):Prop:=match o with
 | some ps=>∃ u,v = .ref u∧uf H u ps
 | none=>v = .non
noncomputable def gj:Sp:=fun vs H Q _=>∃ z,vs=[.str z]∧z.length≤50000∧∀ v H',zu H H'→UT H' (kH z) v→Q v H'
noncomputable def Lg (H:Hp):List Str→List V→Prop
 | k::_::a::r,xs=>if k = "bands" then ∃ v,xs=[v]∧UT H (kH a) v else if k = "flat" then xs=[uN (nO 1000000000000 a)] else if (k = "capped"∨k = "least") then xs=[uN (nO 20000 a),uN (nO 1000000000000 (r.headD ""))] else xs=[uN (nO 20000 a)]
 | _,_=>False
noncomputable def gD:Sp:=fun vs H Q _=>∃ l k n a r,vs=[.ref l]∧Wn H l (k::n::a::r)∧(k = "capped"∨k = "least"→r≠[])∧∀ t xs H',zu H H'→H t=none→H' t=some (.lst xs)→Lg H' (k::n::a::r) xs→Q (.ref t) H'
noncomputable def B5 (H:Hp) (o:Option Rk) (v:V):Prop:=match o with
 | some r=>Vu H r v
 | none=>v = .non
noncomputable def Vo:Nat→Sp
 | 0=>fun _ _ _ _=>False
 | d+1=>fun vs H Q _=>∃ l ws dp,vs=[.ref l,.int dp]∧Wn H l ws∧ws≠[]∧0≤dp∧dp+d=3∧∀ v H',zu H H'→B5 H' (uk d ws) v→Q v H'
noncomputable def O6:Sp:=fun vs H Q _=>∃ z,vs=[.str z]∧z.length≤50000∧∀ v H',zu H H'→B5 H' (uk 3 (Txt.split z " ")) v→Q v H'
end Pg
namespace K10
open PySem PySem.NumText L2 Pg
seal PE PA PT PW PS y8 PG vz PI j8 PO PK
section
variable {P:Program} {w:World} {K:BFr} {mg:Str→Option Value} {base:Heap} {f:Addr} {fd:FuncData} {d:Nat→Addr} {cR:Addr}
set_option maxHeartbeats 8000000 in
theorem mC (F:qM K "_law_is_name" "_law_is_name" (zX 90) f fd) (G:jW mg):zL P w K mg base zQ 1 f fd ["_law_word_here"] gO:=by
 have nc:(["_law_sign"]:List Str).Nodup:=by decide +kernel
 refine F.ok (N:=["_law_word_here"]) (by walk_at"s") (fun vs H Q E h=>?_) (fun cdv A outer s H vs Q E hr h=>?_)
 ·obtain⟨z,rfl,_⟩:=h
  rfl
 ·obtain⟨z,rfl,hz,q⟩:=h
  have fit:z.length≤sizeLine:=uq hz rfl
  have un0:(A.deeper (PyProof.Rows.envOfC "_law_is_name" (zW (zX 90)) s.heap.objs.size f cdv)).units<cLine:=d8 (dH _ 64) hr.units
  refine' ⟨_,zg (zK (PW.pt (yM (qz (Lk Wg Wg ze (zv qU rfl G.len boot_len (za (pv 0) zd)) ze)) (yU (zw v8 (pv 0) (yA (za zj (za zj (za zj (za zj zd))))) (by rfl))))) (zh (zm jj)) zB)
    (zh (zm (qj (Uj un0) ?comp (zU zd) (zD _)))),?main⟩
  case comp =>
   refine' qv (Nc:=["_law_sign"]) (cl:=[]) (src:=[none]) (wi:=oJ (qd 0)) (g:=qx 0) (tt:=QC (jV (fun x y H Q=>∃ i j,x = .str i∧y = .str j∧Q (.bl (!(!(Builtin.Str.occurrences j i 0 j.length 1).isEmpty))) H) (qd 0) (tC (.str "abcdefghijklmnopqrstuvwxyz")))) (te:=qd 0) (by walk_at"c0") rfl (Qv (pv 0)) ?hb
   case hb =>
    intro fp C' s' H'
    exact⟨z5 (i:=0) nc rfl (Or.inl rfl),kZ (zw kU (pv 0) zj (by rfl)),pv 0⟩
  dsimp only [gf]
  refine JX (fun Q=>∀ H',zu H H'→Q (!(decide (1≤z.length)&&decide (z.length≤8)) || noNames.contains z) H') (fun R r=>?_) (fun H1 s1=>qi (fun e=>?_) (fun e=>?_))
  ·refine⟨_,rfl,z,rfl,fit,_,_,rfl,rfl,_,rfl,qi (fun e=>⟨_,_,rfl,rfl,_,rfl,?_⟩) (fun e=>⟨false,rfl,qZ ?_⟩)⟩
   ·have l1:1≤z.length:=by have:=of_decide_eq_true e;omega
    rw[decide_eq_true l1,Cj] at r
    by_cases l8:z.length≤8
    ·rw[decide_eq_true l8,Do,CZ] at r
     rw[decide_eq_true (show ((z.length:Nat):Int)≤8 by omega)]
     refine qN ⟨_,rfl,z6 rfl,fun t H1 s1 n1 e1=>⟨t,_,rfl,.inr (qw.of e1),rfl,rfl,_,rfl,?_⟩⟩
     have ci:MI (.str z) [V.str "base",V.str "net",V.str "month",V.str "sums"]=noNames.contains z:=vt z noNames
     have r:=r H1 s1
     rw[← ci] at r
     exact r
    ·rw[decide_eq_false l8,ej,Bool.true_or] at r
     rw[decide_eq_false (show ¬ ((z.length:Nat):Int)≤8 by omega)]
     exact qZ (r H (zu.refl _))
   ·have l1:¬ 1≤z.length:=fun h=>e (decide_eq_true (by omega))
    rw[decide_eq_false l1,CQ,ej,Bool.true_or] at r
    exact r H (zu.refl _)
  ·have:yP z=false:=by
    unfold yP vK
    rw[dS] at e
    rcases e with e | e
    ·rw[dz] at e
     rw[e]
     rfl
    ·rw[e]
     exact CV _
   have r:=q H1 s1
   rw[this] at r
   exact r
  ·rw[dS,not_or] at e
   have e1:(decide (1≤z.length)&&decide (z.length≤8))=true:=by
    cases h:(decide (1≤z.length)&&decide (z.length≤8)) with
    | true=>rfl
    | false=>exact absurd (by rw[h];rfl) e.1
   have l8:z.length≤8:=by
    rw[cQ] at e1
    exact of_decide_eq_true e1.2
   have wb:yP z=z.cps.toList.all Zg:=by
    unfold yP vK
    rw[e1,Cj,CY.mpr e.2,ej,dm]
   refine⟨_,rfl,z,rfl,fun D hD=>?_⟩
   refine wB (uM (z:=z)) hD (by rw[cN,← qg,sizeLine_eq];omega) (fun x=>match x with | .str y=>!Zg (y.cps.getD 0 0) | _=>false) (fun x=>x) (fun x hx H' R _ r=>?_) (fun x hx _ H' R _ r=>⟨_,rfl,r⟩) ?_
   ·obtain⟨c,_,rfl⟩:=Cp.mp hx
    refine⟨_,rfl,_,_,rfl,rfl,_,rfl,?_⟩
    rw[Zs]
    exact r
   ·refine⟨z6 rfl,fun l2 H2 s2 n2 e2=>⟨D,l2,_,rfl,rfl,zY.of (s2 _ _ zq),zY.of e2,fun e3=>?_,fun e3=>?_⟩⟩
    ·have ea:z.cps.toList.all Zg=true:=Cn.mpr fun c hc=>by
      rw[DH,DJ] at e3
      have:=e3 _ (Cp.mpr ⟨c,hc,rfl⟩)
      show Zg c=true
      cases h:Zg c with
      | true=>rfl
      | false=>exact absurd (show (!Zg c)=true by rw[h];rfl) this
     have r:=q H2 (s1.trans ((zu.upd hD).trans s2))
     rw[wb,ea] at r
     exact r
    ·have ea:z.cps.toList.all Zg=false:=CY.mpr fun c=>e3 (by
      rw[DH,DJ]
      intro x hx
      obtain⟨d,hd,rfl⟩:=Cp.mp hx
      have:=Cn.mp c d hd
      show ¬ (!Zg d)=true
      rw[this]
      decide)
     have r:=q H2 (s1.trans ((zu.upd hD).trans s2))
     rw[wb,ea] at r
     exact r
set_option maxHeartbeats 8000000 in
theorem Mw (F:qM K "_law_number" "_law_number" (zX 91) f fd) (G:jW mg):zL P w K mg base zQ 1 f fd ["_law_word_here","_law_most"] VZ:=by
 have nc:(["_law_sign"]:List Str).Nodup:=by decide +kernel
 refine F.ok (N:=["_law_word_here","_law_most"]) (by walk_at"s") (fun vs H Q E h=>?_) (fun cdv A outer s H vs Q E hr h=>?_)
 ·obtain⟨z,m,rfl,_⟩:=h
  rfl
 ·obtain⟨z,m,rfl,hz,q⟩:=h
  have fit:z.length≤sizeLine:=uq hz rfl
  have un0:(A.deeper (PyProof.Rows.envOfC "_law_number" (zW (zX 91)) s.heap.objs.size f cdv)).units<cLine:=d8 (dH _ 64) hr.units
  refine' ⟨_,(zg (zK (PW.pt (yM (zw qh (pv 0) zj (zD _)) (yM (zw y6 (zv qU rfl G.len boot_len (za (pv 0) zd)) ze (zD _)) (yU (zw (Wk un0) ?comp (zU zd) (zD _)))))) (zh (zm jv)) zB)
    (zg (zK (PW.pt (yM (zw vP (z8 qm rfl G.str qK (za (z8 jK rfl G.int jt (za (pv 0) zd)) zd)) (pv 0) (zD _)) (yU (zw y6 (z8 jK rfl G.int jt (za (pv 0) zd)) (pv 1) (zD _))))) (zh (zm jv)) zB)
    (zh (zm (z8 jK rfl G.int jt (za (pv 0) zd)))))),?main⟩
  case comp =>
   refine' qv (Nc:=["_law_sign"]) (cl:=[]) (src:=[none]) (wi:=oJ (qd 0)) (g:=qx 0) (tt:=QC (jV (fun x y H Q=>∃ i j,x = .str i∧y = .str j∧Q (.bl (!(!(Builtin.Str.occurrences j i 0 j.length 1).isEmpty))) H) (qd 0) (tC (.str "0123456789")))) (te:=qd 0) (by walk_at"c0") rfl (Qv (pv 0)) ?hb
   case hb =>
    intro fp C' s' H'
    exact⟨z5 (i:=0) nc rfl (Or.inl rfl),kZ (zw kU (pv 0) zj (by rfl)),pv 0⟩
  dsimp only [gf]
  refine JX (fun Q=>∀ H',zu H H'→Q (decide (z = "") || (decide (13<z.length) || !z.cps.toList.all Yo)) H') (fun R r=>?_) (fun H1 s1=>qi (fun e=>?_) (fun e=>?_))
  ·refine⟨_,rfl,rfl,_,rfl,qi (fun e=>?_) (fun e=>?_)⟩
   ·rw[decide_eq_true (vJ e)] at r
    exact r H (zu.refl _)
   ·rw[decide_eq_false (W9 e),CZ] at r
    refine⟨_,rfl,z,rfl,fit,_,_,rfl,rfl,_,rfl,qi (fun e2=>?_) (fun e2=>?_)⟩
    ·rw[decide_eq_true (show 13<z.length by have:=of_decide_eq_true e2;omega)] at r
     exact r H (zu.refl _)
    ·have l13:¬ 13<z.length:=fun h=>e2 (decide_eq_true (by omega))
     rw[decide_eq_false l13,CZ] at r
     refine⟨_,rfl,z,rfl,fun D hD=>?_⟩
     refine wB (uM (z:=z)) hD (by rw[cN,← qg,sizeLine_eq];omega) (fun x=>match x with | .str y=>!Yo (y.cps.getD 0 0) | _=>false) (fun x=>x) (fun x hx H' R _ r=>?_) (fun x hx _ H' R _ r=>⟨_,rfl,r⟩) ?_
     ·obtain⟨c,_,rfl⟩:=Cp.mp hx
      refine⟨_,rfl,_,_,rfl,rfl,_,rfl,?_⟩
      rw[Of]
      exact r
     ·refine⟨z6 rfl,fun l2 H2 s2 n2 e2=>?_⟩
      have r:=r H2 ((zu.upd hD).trans s2)
      have key:((z.cps.toList.map fun c=>V.str ⟨#[c]⟩).filter fun x=>match x with | .str y=>!Yo (y.cps.getD 0 0) | _=>false)=[]↔z.cps.toList.all Yo=true:=by
       rw[DJ,Cn]
       constructor
       ·intro h c hc
        have:=h _ (Cp.mpr ⟨c,hc,rfl⟩)
        cases h:Yo c with
        | true=>rfl
        | false=>exact absurd (show (!Yo c)=true by rw[h];rfl) this
       ·intro h x hx
        obtain⟨d,hd,rfl⟩:=Cp.mp hx
        show ¬ (!Yo d)=true
        rw[h d hd]
        decide
      have key:∀ xs:List V,xs=(((z.cps.toList.map cf).filter fun x=>match x with | .str y=>!Yo (y.cps.getD 0 0) | _=>false).map fun x=>x)→(xs=[]↔z.cps.toList.all Yo=true):=fun xs e=>by
       rw[e,DH]
       exact key
      refine⟨D,l2,_,rfl,rfl,zY.of (s2 _ _ zq),zY.of e2,fun e3=>⟨false,rfl,?_⟩,fun e3=>⟨true,rfl,?_⟩⟩
      ·rw[(key _ rfl).mp e3] at r
       exact r
      ·rw[CY.mpr fun h=>e3 ((key _ rfl).mpr h)] at r
       exact r
  ·have:nO m z=none:=by
    rw[dS,dS] at e
    refine Ov ?_
    rcases e with e | e | e
    ·exact .inl (of_decide_eq_true e)
    ·exact .inr (.inl (of_decide_eq_true e))
    ·exact .inr (.inr (by rwa [dz] at e))
   have r:=q H1 s1
   rw[this] at r
   exact r
  ·rw[dS,dS,not_or,not_or] at e
   have z0:z≠"":=fun h=>e.1 (decide_eq_true h)
   have l13:z.length≤13:=Nat.not_lt.mp fun h=>e.2.1 (decide_eq_true h)
   have fa:z.cps.toList.all Yo=true:=by
    cases h:z.cps.toList.all Yo with
    | true=>rfl
    | false=>exact absurd (by rw[h];rfl) e.2.2
   have fg:wV z.cps.toList=true:=by
    unfold wV
    rw[fa,dm]
    cases h:z.cps.toList with
    | nil=>exact absurd (wu (by rw[h];decide +kernel)) z0
    | cons=>rfl
   obtain⟨d1,d2⟩:=uP fg
   have it:intText? z=some ((digitsVal z.cps.toList:Nat):Int):=intText_digits d1 d2 (by omega)
   have big:((digitsVal z.cps.toList:Nat):Int).natAbs.log2<1920:=by
    have h1:=RT d1
    have h2:10 ^ z.cps.toList.length≤10 ^ 13:=Nat.pow_le_pow_right (by decide) (by rw[← qg];exact l13)
    have h3:(10:Nat) ^ 13=10000000000000:=by decide
    exact wy (by omega) (by show _<(18446744073709551616:Int);omega)
   have no:=RL (m:=m) l13 fg
   have z4:z.length≤640:=by omega
   generalize ((digitsVal z.cps.toList:Nat):Int)=n at it big no
   have r:=q H1 s1
   rw[no] at r
   refine⟨_,rfl,z,_,rfl,it,z4,n,rfl,big,_,rfl,rfl,_,rfl,qi (fun e1=>qZ ?_) (fun e1=>?_)⟩
   ·have e1:(!decide (V.str (toString n)=V.str z))=true:=e1
    have ne:(toString n:Str)≠z:=fun h=>by rw[h,decide_eq_true rfl] at e1;cases e1
    rw[decide_eq_false ne] at r
    exact r
   ·have eq:(toString n:Str)=z:=by
     have e1:¬ (!decide (V.str (toString n)=V.str z))=true:=e1
     by_cases h:(toString n:Str)=z
     ·exact h
     ·exact absurd (by rw[decide_eq_false fun c=>h (V.str.inj c)];rfl) e1
    rw[decide_eq_true eq,Do,CZ] at r
    refine⟨_,rfl,z,_,rfl,it,z4,_,rfl,_,_,rfl,rfl,_,rfl,qi (fun e2=>?_) (fun e2=>?_)⟩
    ·rw[if_pos e2] at r
     exact r
    ·rw[if_neg e2] at r
     exact⟨_,rfl,z,_,rfl,it,z4,r⟩
end
end K10
namespace Pg
open PySem PySem.NumText L2 Builtin Builtin.Str
noncomputable def Rq (w:Str):Prop:=yt w=none∨∃ p,yt w=some p∧(uJ p.1&&vB p.2)=false
theorem P7 {z w:Str} (hw:w∈Txt.split z ",") (b:Rq w):kH z=none:=by
 unfold kH
 rcases b with b | ⟨p,e,n⟩
 ·exact bW (JE hw b)
 ·cases h:yY (Txt.split z ",") with
  | none=>rfl
  | some ps =>
   have mem:p∈ps:=by
    unfold yY at h
    split at h
    ·cases h
     exact DP.mpr ⟨some p,Cp.mpr ⟨w,hw,e⟩,rfl⟩
    ·cases h
   have:Jq (Jd ps)=false:=by
    unfold Jq
    have:(Jd ps).all Option.isSome=false:=CY.mpr fun c=>by
     have:=Cn.mp c _ (Cp.mpr ⟨p,mem,rfl⟩)
     rw[n] at this
     cases this
    rw[this]
    simp
   show (if Jq (Jd ps)=true then some ps else none)=none
   rw[this]
   rfl
theorem gz {k:Nat} {z:Str} {r:Int} (h:q9 k z=some r):0≤r:=by
 unfold q9 at h
 split at h
 ·cases h
  omega
 ·cases h
theorem kR {m r:Int} {z:Str} (h:nO m z=some r):q9 13 z=some r∧0≤r∧r≤m:=by
 obtain⟨r',e,c,rfl⟩:=yf (c:=fun r=>decide (r≤m)) (g:=fun r=>r) h
 exact⟨e,gz e,of_decide_eq_true c⟩
theorem XS {m r:Int} {z:Str} (h:nO m z=none) (e:q9 13 z=some r):¬ r≤m:=of_decide_eq_false (wk (c:=fun r=>decide (r≤m)) (g:=fun r=>r) h e)
theorem Ta {m:Int} {z:Str} {r:Int} (h:nO 1000000000000 z=some r):uJ r=true:=decide_eq_true (kR h).2
theorem Nh {z:Str} {r:Int} (h:nO 20000 z=some r):vB r=true:=decide_eq_true (kR h).2
theorem Tt {z:Str} {r:Int} (h:nO 1000000000000 z=none) (e:q9 13 z=some r):uJ r=false:=decide_eq_false fun c=>XS h e c.2
theorem nV {z:Str} {r:Int} (h:nO 20000 z=none) (e:q9 13 z=some r):vB r=false:=decide_eq_false fun c=>XS h e c.2
theorem Ux {w a b:Str} (e:Txt.split w ":" = [a,b]):yt w=OE (q9 13 a) (q9 13 b):=by
 unfold yt
 rw[e]
theorem OY {w:Str} (e:(Txt.split w ":").length≠2):Rq w:=by
 refine .inl ?_
 unfold yt
 split
 ·rename_i a b eb
  exact absurd (by rw[eb];rfl) e
 ·rfl
theorem LO {w a b:Str} (e:Txt.split w ":" = [a,b]) (h:MI .non [uN (nO 1000000000000 a),uN (nO 20000 b)]=false):∃ p,yt w=some p∧uN (nO 1000000000000 a) = .int p.1∧uN (nO 20000 b) = .int p.2∧(uJ p.1&&vB p.2)=true:=by
 cases ha:nO 1000000000000 a with
 | none=>rw[ha] at h;cases h
 | some x =>
  cases hb:nO 20000 b with
  | none=>rw[ha,hb] at h;cases h
  | some y=>exact⟨(x,y),by rw[Ux e,(kR ha).1,(kR hb).1];rfl,rfl,rfl,by rw[Ta (m:=0) ha,Nh hb];rfl⟩
theorem ph {w a b:Str} (e:Txt.split w ":" = [a,b]) (h:MI .non [uN (nO 1000000000000 a),uN (nO 20000 b)]=true):Rq w:=by
 have e2:=Ux e
 cases ha:q9 13 a with
 | none=>exact .inl (by rw[e2,ha];rfl)
 | some x =>
  cases hb:q9 13 b with
  | none=>exact .inl (by rw[e2,ha,hb];rfl)
  | some y =>
   refine .inr ⟨(x,y),by rw[e2,ha,hb];rfl,?_⟩
   cases h1:nO 1000000000000 a with
   | none=>show (uJ x&&vB y)=false;rw[Tt h1 ha];rfl
   | some x' =>
    cases h2:nO 20000 b with
    | none=>show (uJ x&&vB y)=false;rw[nV h2 hb];exact CV _
    | some y'=>rw[h1,h2] at h;cases h
theorem pL:∀ {zs:List Int},zs.Pairwise (· < ·)→vV zs=true
 | [],_=>rfl
 | [_],_=>rfl
 | a::b::l,h=>by
  obtain⟨h1,h2⟩:=Dp.mp h
  show (decide (a<b)&&vV (b::l))=true
  rw[decide_eq_true (h1 b Ce),pL h2]
  rfl
theorem X4:∀ {zs:List Int},vV zs=true→zs.Pairwise (· < ·)
 | [],_=>List.Pairwise.nil
 | [p],_=>List.Pairwise.cons (fun _ h=>nomatch h) List.Pairwise.nil
 | p::q::r,h=>by
  have h:(decide (p<q)&&vV (q::r))=true:=h
  rw[cQ] at h
  have lt:=of_decide_eq_true h.1
  have ih:=X4 h.2
  refine List.Pairwise.cons (fun x hx=>?_) ih
  rcases cU.mp hx with rfl | hx
  ·exact lt
  ·exact Int.lt_trans lt ((Dp.mp ih).1 x hx)
theorem M9 {z:Str} {qs:List (Int × Int)} (h:(Txt.split z ",").map yt=qs.map some) (ok:∀ q∈qs,(uJ q.1&&vB q.2)=true):kH z=if (decide (1≤qs.length∧qs.length≤12)&&(decide ((qs.map (·.1)).head? = some 0)&&vV (qs.map (·.1))))=true then some qs else none:=by
 have eo:Jd qs=qs.map some:=List.map_congr_left fun q hq=>by rw[if_pos (ok q hq)]
 unfold kH
 rw[Jx h]
 show (if Jq (Jd qs)=true then _ else none)=_
 unfold Jq
 rw[eo,Yt,cN,dF,show (qs.all (Option.isSome ∘ some))=true from Cn.mpr fun _ _=>rfl,Cj]
theorem mn (a b:Option Int):[uN a,uN b].all j0=true:=by cases a <;> cases b <;> rfl
theorem WI (zs:List Int):(zs.map V.int).all j0=true:=by
 rw[dF]
 exact Cn.mpr fun _ _=>rfl
theorem UT.same {H H':Hp} {o:Option (List (Int × Int))} {v:V} (s:zu H H') (h:UT H o v):UT H' o v:=by
 cases o with
 | none=>exact h
 | some ps =>
  obtain⟨u,e,b⟩:=h
  exact⟨u,e,b.same s⟩
end Pg
namespace K10
open PySem PySem.NumText L2 Pg
seal PE PA PT PW PS y8 PG vz PI j8 PO PK
section
variable {P:Program} {w:World} {K:BFr} {mg:Str→Option Value} {base:Heap} {f:Addr} {fd:FuncData} {d:Nat→Addr} {cR:Addr}
set_option maxHeartbeats 8000000 in
theorem m5 (F:qM K "_law_pairs_in" "_law_pairs_in" (zX 92) f fd) (G:jW mg) (C1:qR P w K mg base zQ 1 "_law_number" ["_law_word_here","_law_most"] VZ):zL P w K mg base zQ 2 f fd ["_law_word_here"] gj:=by
 have nd:(["_law_word_here","_law_pairs_here","_law_part","_law_halves","_law_pair","_law_borders"]:List Str).Nodup:=by decide +kernel
 have nc:(["_law_pair"]:List Str).Nodup:=by decide +kernel
 refine F.ok (N:=["_law_word_here","_law_pairs_here","_law_part","_law_halves","_law_pair","_law_borders"]) (by walk_at"s") (fun vs H Q E h=>?_) (fun cdv A outer s H vs Q E hr h=>?_)
 ·obtain⟨z,rfl,_⟩:=h
  rfl
 ·obtain⟨z,rfl,hz,q⟩:=h
  have un0:(A.deeper (PyProof.Rows.envOfC "_law_pairs_in" (zW (zX 92)) s.heap.objs.size f cdv)).units<cLine:=d8 (dH _ 64) hr.units
  refine' ⟨_,(zg (zI (i:=1) nd rfl (Or.inl rfl) (zU zd))
    (zg (vW PassesOwn.never rfl (j7 (qY PySem.F.plainAttrs_str PySem.F.slot_str_split PySem.F.type_str_split jT (pv 0) (za zj zd))) (z5 (i:=2) nd rfl (Or.inl rfl)) (zg (zI (i:=3) nd rfl (Or.inl rfl) (qY PySem.F.plainAttrs_str PySem.F.slot_str_split PySem.F.type_str_split jT (pv 2) (za zj zd)))
    (zg (zK (zw vP (zv zO rfl G.len boot_len (za (pv 3) zd)) ze (zD _)) (zh (zm jv)) zB)
    (zg (zI (i:=4) nd rfl (Or.inl rfl) (yA (za (zk C1 hr (by decide) zx (za (zC zA (pv 3) ze) (za (zt Zl ze ze) zd))) (za (zk C1 hr (by decide) zx (za (zC zA (pv 3) ze) (za ze zd))) zd))))
    (zg (zK (zw v8 jv (pv 4) (by rfl)) (zh (zm jv)) zB)
    (zh (qb (qY PySem.F.plainAttrs_list PySem.F.slot_list_append PySem.F.type_list_append jm (pv 1) (za (pv 4) zd)))))))))
    (zg ?comp
    (zg (zK (PW.pt (yM (zw y6 (zv zO rfl G.len boot_len (za (pv 1) zd)) ze (zD _)) (yM (zw vP (zC zA (pv 5) ze) ze (zD _)) (yU (zw (rR un0) (pv 5) (xr rfl rfl G.sorted rfl G.set (za (pv 5) zd)) (zD _)))))) (zh (zm jv)) zB)
    (zh (zm (z8 y9 rfl G.tuple yy (za (pv 1) zd)))))))),?main⟩
  case comp =>
   refine' Z7 (i:=5) (Nc:=["_law_pair"]) (cl:=[]) (src:=[none]) (wi:=Jw K (qd 1)) (g:=qx 0) (tt:=yb) (te:=jV (Zz K) (qd 0) (tC (.int 0))) nd rfl rfl
    (by walk_at"c0") rfl (j7 (pv 1)) ?hb
   case hb =>
    intro fp C' s' H'
    exact⟨z5 (i:=0) nc rfl (Or.inl rfl),qP,zC zT (pv 0) ze⟩
  have zf:z.length≤sizeLine:=uq hz rfl
  obtain⟨sl,sn,w0,wr,ew⟩:=yo z ","
  refine⟨z6 rfl,fun D H1 s1 n1 e1=>⟨_,rfl,rfl,_,_,rfl,rfl,rfl,zf,yS _ hz,fun l H2 s2 n2 e2=>⟨l,rfl,⟨_,zY.of e2⟩,?_⟩⟩⟩
  have lD:l≠D:=fun c=>by rw[c,e1] at n2;cases n2
  refine WG (K:=K) (a:=l) (xs:=(Txt.split z ",").map V.str) (fun i σ H'=>∃ x2 x3 x4 qs ys,σ = [some (.str z),some (.ref D),x2,x3,x4,none]∧zu H H'∧H' l=some (.lst ((Txt.split z ",").map V.str))∧H' D=some (.lst ys)∧qq H' ys (qs.map cB)∧qs.length=i∧((Txt.split z ",").take i).map yt=qs.map some∧∀ q∈qs,(uJ q.1&&vB q.2)=true) ⟨_,_,_,[],_,rfl,s1.trans s2,e2,s2 _ _ e1,qq.nil,rfl,rfl,fun _ h=>nomatch h⟩ (fun i σ H' _ ⟨_,_,_,_,_,_,_,h,_⟩=>zY.of h) ?_ ?_
  ·rintro i x σ H3 hx ⟨x2,x3,x4,qs,ys,rfl,s3,hl3,hD3,T,ql,em,ok⟩
   rw[cW] at hx
   cases hw:(Txt.split z ",")[i]? with
   | none=>rw[hw] at hx;cases hx
   | some w =>
    rw[hw] at hx
    cases hx
    have mw:=CS hw
    have il:=(Cv.mp hw).1
    have wl:w.length≤50000:=cZ (sn w mw) hz
    obtain⟨_,sn2,_⟩:=yo w ":"
    refine⟨_,rfl,rfl,_,_,rfl,rfl,rfl,uq wl rfl,yS _ wl,fun p H4 s4 n4 e4=>?_⟩
    have S4:=s3.trans s4
    by_cases h2:(Txt.split w ":").length=2
    ·obtain⟨a,b,eb⟩:∃ a b,Txt.split w ":" = [a,b]:=by
      match Txt.split w ":",h2 with
      | [a,b],_=>exact⟨a,b,rfl⟩
     rw[eb] at e4 sn2
     have e4:H4 p=some (.lst [.str a,.str b]):=e4
     have la:a.length≤50000:=cZ (sn2 a (by simp)) wl
     have lb:b.length≤50000:=cZ (sn2 b (by simp)) wl
     refine⟨_,rfl,p,_,rfl,.inl (zY.of e4),rfl,_,rfl,qN ?_⟩
     refine⟨_,rfl,p,_,_,_,rfl,rfl,zY.of e4,rfl,_,_,rfl,rfl,⟨by decide,by decide,by decide⟩,a,_,rfl,la,fun H5 s5=>?_⟩
     refine⟨_,rfl,p,_,_,_,rfl,rfl,zY.of (s5 _ _ e4),rfl,b,_,rfl,lb,fun H6 s6=>⟨z6 rfl,fun t H7 s7 n7 e7=>?_⟩⟩
     have e7:H7 t=some (.tup [uN (nO 1000000000000 a),uN (nO 20000 b)]):=e7
     have S7:=S4.trans (s5.trans (s6.trans s7))
     have s47:=s4.trans (s5.trans (s6.trans s7))
     have hl7:=s47 _ _ hl3
     have hD7:=s47 _ _ hD3
     refine⟨_,rfl,t,_,rfl,.inr (qw.of e7),rfl,mn _ _,_,rfl,qi (fun e=>?_) (fun e=>?_)⟩
     ·exact q _ H7 S7 (by rw[P7 mw (ph eb e)];rfl)
     ·obtain⟨pr,e8,e9,e10,okp⟩:=LO eb (CY.mpr e)
      rw[e9,e10] at e7
      have ty:t≠D:=fun c=>by rw[c,hD7] at e7;cases e7
      have yl:ys.length=i:=by rw[T.len,cN,ql]
      refine⟨_,rfl,.inl ⟨rfl,_,zY.of hD7⟩,_,rfl,D,_,_,rfl,rfl,hD7,?_,?_⟩
      ·rw[yl,sizeLine_eq]
       omega
      ·refine⟨_,_,_,qs++[pr],_,rfl,fun b o hb=>?_,?_,zq,?_,?_,?_,?_⟩
       ·rw[zG (zP hb n1)]
        exact S7 _ _ hb
       ·rw[zG lD]
        exact hl7
       ·rw[Ci]
        exact qq.snoc ((T.same s47).upd fun c z=>by rw[hD7] at z;cases z) (by rw[zG ty];exact e7)
       ·rw[Cb,ql]
        rfl
       ·rw[dv,hw,Ci,em,Ci]
        show _++[yt w]=_
        rw[e8]
        rfl
       ·intro x hx
        rcases CM.mp hx with hx | hx
        ·exact ok x hx
        ·rw[Co.mp hx]
         exact okp
    ·refine⟨_,rfl,p,_,rfl,.inl (zY.of e4),rfl,_,rfl,qi (fun _=>?_) (fun e=>?_)⟩
     ·exact q _ H4 S4 (by rw[P7 mw (OY h2)];rfl)
     ·refine absurd ?_ e
      rw[cN,decide_eq_false fun z=>h2 (by injection z with z;omega)]
      rfl
  ·rintro σ H3 ⟨x2,x3,x4,qs,ys,rfl,s3,hl3,hD3,T,ql,em,ok⟩
   rw[cN] at ql em
   rw[dj (cP _)] at em
   have la:=M9 em ok
   have q1:1≤qs.length:=by rw[ql,ew];exact ee _ _
   have q5:qs.length≤50002:=by omega
   have yl:ys.length=qs.length:=by rw[T.len,cN]
   refine⟨_,rfl,D,rfl,⟨_,zY.of hD3⟩,fun D2 hD2=>jL (vg (zY.of hD3)) (jE T) hD2 (by rw[sizeLine_eq];omega) (fun p=>V.int p.1) (fun p hp v H4 R s4 ⟨a,ea,e4⟩ r=>?_) (fun H4 s4 e4=>?_)⟩
   ·subst ea
    exact⟨_,rfl,a,_,_,_,rfl,rfl,qw.of e4,rfl,r H4 (zu.refl _)⟩
   have hD4:=s4 _ _ hD3
   have S4:=s3.trans s4
   have no:∀ H',zu H4 H'→kH z=none→Q .non H':=fun H' s e=>q _ H' (S4.trans s) (by rw[e];rfl)
   refine⟨_,rfl,D,_,rfl,.inl (zY.of hD4),_,_,rfl,rfl,_,rfl,qi (fun e=>?_) (fun e=>?_)⟩
   ·have e:(12:Int)<(ys.length:Nat):=of_decide_eq_true e
    exact no H4 (zu.refl _) (by rw[la,decide_eq_false (by omega)];rfl)
   have l12:qs.length≤12:=by
    have e:¬ (12:Int)<(ys.length:Nat):=fun c=>e (decide_eq_true c)
    omega
   rw[decide_eq_true ⟨q1,l12⟩,Cj] at la
   obtain⟨p0,qr,rfl⟩:∃ p r,qs=p::r:=by
    cases qs with
    | nil=>exact absurd q1 (by decide)
    | cons p r=>exact⟨p,r,rfl⟩
   refine⟨_,rfl,D2,_,_,_,rfl,rfl,zY.of e4,qE (v:=V.int p0.1) rfl,rfl,_,rfl,qi (fun e=>?_) (fun e=>?_)⟩
   ·have e:(!decide (V.int p0.1=V.int 0))=true:=e
    have n0:p0.1≠0:=fun c=>by rw[c,decide_eq_true rfl] at e;cases e
    exact no H4 (zu.refl _) (by rw[la,show decide (((p0::qr).map (·.1)).head? = some 0)=false from decide_eq_false fun c=>n0 (Option.some.inj c)];rfl)
   have p00:p0.1=0:=by
    have e:¬ (!decide (V.int p0.1=V.int 0))=true:=e
    by_cases h:p0.1=0
    ·exact h
    ·exact absurd (by rw[decide_eq_false fun c=>h (V.int.inj c)];rfl) e
   rw[show decide (((p0::qr).map (·.1)).head? = some 0)=true from decide_eq_true (congrArg some p00),Cj] at la
   obtain⟨bs,hbs⟩:∃ bs,bs=(p0::qr).map (·.1):=⟨_,rfl⟩
   have e4:H4 D2=some (.lst (bs.map V.int)):=by rw[e4,hbs,CH];rfl
   rw[← hbs] at la
   refine⟨_,rfl,_,rfl,D2,bs,rfl,zY.of e4,(by rw[hbs,cN];omega),fun cs r1 r2 D5 n5=>?_⟩
   have s5:zu H4 (upd H4 D5 (.lst (cs.map V.int))):=zu.upd n5
   refine⟨D2,D5,_,_,rfl,rfl,zY.of (s5 _ _ e4),zY.of zq,WI _,WI _,_,rfl,?_⟩
   dsimp only
   rw[G1]
   have key:decide (bs=cs)=vV bs:=by
    by_cases h:vV bs=true
    ·rw[h]
     exact decide_eq_true (gL (X4 h) r1 fun z=>(r2 z).symm)
    ·rw[CY.mpr h]
     exact decide_eq_false fun c=>h (pL (by rw[c];exact r1))
   rw[key]
   refine qi (fun e=>?_) (fun e=>?_)
   ·have ea:vV bs=false:=by
     have e:(!vV bs)=true:=e
     rwa [dz] at e
    exact no _ s5 (by rw[la,ea];rfl)
   have ea:vV bs=true:=by
    cases h:vV bs with
    | true=>rfl
    | false=>exact absurd (show (!vV bs)=true by rw[h];rfl) e
   have S5:=S4.trans s5
   refine⟨_,rfl,D,ys,rfl,.inl ⟨zY.of (s5 _ _ hD4),fun u u0=>?_⟩⟩
   have s6:=zu.upd (o:=.tup ys) u0
   refine q _ _ (S5.trans s6) ?_
   rw[la,ea]
   exact⟨u,rfl,ys,zq,T.same (s4.trans (s5.trans s6))⟩
set_option maxHeartbeats 8000000 in
theorem LW (F:qM K "_law_things_in" "_law_things_in" (zX 93) f fd) (C1:qR P w K mg base zQ 1 "_law_number" ["_law_word_here","_law_most"] VZ) (C2:qR P w K mg base zQ 2 "_law_pairs_in" ["_law_word_here"] gj):zL P w K mg base zQ 3 f fd ["_law_words"] gD:=by
 have nd:(["_law_words","_law_things"]:List Str).Nodup:=by decide +kernel
 refine F.ok (N:=["_law_words","_law_things"]) (by walk_at"s") (fun vs H Q E h=>?_) (fun cdv A outer s H vs Q E hr h=>?_)
 ·obtain⟨l,k,n,a,r,rfl,_⟩:=h
  rfl
 ·obtain⟨l,k,n,a,r,rfl,⟨hl,lw,le⟩,r0,q⟩:=h
  refine⟨_,(zg (zK (zw qh (zC zA (pv 0) ze) zj (zD _)) (zh (zm (zU (za (zk C2 hr (by decide) zx (za (zC zA (pv 0) ze) zd)) zd)))) zB)
    (zg (zK (zw qh (zC zA (pv 0) ze) zj (zD _)) (zh (zm (zU (za (zk C1 hr (by decide) zx (za (zC zA (pv 0) ze) (za (zt Zl ze ze) zd))) zd)))) zB)
    (zg (zI (i:=1) nd rfl (Or.inl rfl) (zU (za (zk C1 hr (by decide) zx (za (zC zA (pv 0) ze) (za ze zd))) zd)))
    (zg (zK (zw v8 (zC zA (pv 0) ze) (yA (za zj (za zj zd))) (by rfl)) (zh (qb (qY PySem.F.plainAttrs_list PySem.F.slot_list_append PySem.F.type_list_append jm (pv 1) (za (zk C1 hr (by decide) zx (za (zC zA (pv 0) ze) (za (zt Zl ze ze) zd))) zd)))) zB)
    (zh (zm (pv 1))))))),?_⟩
  have hl':=zY.of (K:=K) hl
  have la:a.length≤50000:=le a (by simp)
  have a2:ZI ((k::n::a::r).map V.str) 2=some (.str a):=qB (j:=2) rfl
  refine⟨_,rfl,l,_,_,_,rfl,rfl,hl',qE rfl,rfl,_,rfl,qi (fun e=>?_) (fun e=>?_)⟩
  ·have ek:=vJ e
   refine⟨_,rfl,l,_,_,_,rfl,rfl,hl',a2,a,rfl,la,fun v H1 s1 pv=>⟨z6 rfl,fun t H2 s2 n2 e2=>q t _ H2 (s1.trans s2) (kI s1 n2) e2 ?_⟩⟩
   show (if k = "bands" then _ else _)
   rw[if_pos ek]
   exact⟨v,rfl,pv.same s2⟩
  have k1:=W9 e
  refine⟨_,rfl,l,_,_,_,rfl,rfl,hl',qE rfl,rfl,_,rfl,qi (fun e=>?_) (fun e=>?_)⟩
  ·have ek:=vJ e
   refine⟨_,rfl,l,_,_,_,rfl,rfl,hl',a2,_,_,rfl,rfl,⟨by decide,by decide,by decide⟩,a,_,rfl,la,fun H1 s1=>⟨z6 rfl,fun t H2 s2 n2 e2=>q t _ H2 (s1.trans s2) (kI s1 n2) e2 ?_⟩⟩
   show (if k = "bands" then _ else _)
   rw[if_neg k1,if_pos ek]
   rfl
  have k2:=W9 e
  refine⟨_,rfl,l,_,_,_,rfl,rfl,hl',a2,a,_,rfl,la,fun H1 s1=>⟨z6 rfl,fun t H2 s2 n2 e2=>?_⟩⟩
  have S2:=s1.trans s2
  have tn:=kI s1 n2
  refine⟨_,rfl,l,_,_,_,rfl,rfl,zY.of (S2 _ _ hl),qE rfl,z6 rfl,fun u H3 s3 n3 e3=>⟨u,_,rfl,.inr (qw.of e3),rfl,rfl,_,rfl,?_⟩⟩
  have S3:=S2.trans s3
  have ci:MI (.str k) [V.str "capped",V.str "least"]=(["capped","least"]:List Str).contains k:=vt k ["capped","least"]
  dsimp only
  rw[ci]
  have e23:=s3 _ _ e2
  refine qi (fun e=>?_) (fun e=>?_)
  ·have kk:k = "capped"∨k = "least":=by
    have:=du.mp e
    simpa only [cU,cX,or_false] using this
   obtain⟨b,r',rfl⟩:∃ b r',r=b::r':=by
    cases r with
    | nil=>exact absurd rfl (r0 kk)
    | cons b r'=>exact⟨b,r',rfl⟩
   have lb:b.length≤50000:=le b (by simp)
   have a3:ZI ((k::n::a::b::r').map V.str) 3=some (.str b):=qB (j:=3) rfl
   refine⟨_,rfl,.inl ⟨rfl,_,zY.of e23⟩,_,rfl,l,_,_,_,rfl,rfl,zY.of (S3 _ _ hl),a3,_,_,rfl,rfl,⟨by decide,by decide,by decide⟩,b,_,rfl,lb,fun H4 s4=>⟨t,_,_,rfl,rfl,s4 _ _ e23,z6 rfl,?_⟩⟩
   refine⟨_,rfl,q t _ _ (fun x o hx=>?_) tn zq ?_⟩
   ·rw[zG (zP hx tn)]
    exact s4 _ _ (S3 _ _ hx)
   ·show (if k = "bands" then _ else _)
    rw[if_neg k1,if_neg k2,if_pos kk]
    rfl
  ·have kk:¬ (k = "capped"∨k = "least"):=fun c=>e (du.mpr (by simpa only [cU,cX,or_false] using c))
   refine⟨_,rfl,q t _ H3 S3 tn e23 ?_⟩
   show (if k = "bands" then _ else _)
   rw[if_neg k1,if_neg k2,if_neg kk]
end
end K10
namespace Pg
open PySem PySem.NumText L2 Builtin Builtin.Str
noncomputable def vD (k:Str):Nat:=if k = "flat" then 3 else if k = "share" then 4 else if k = "capped" then 5 else if k = "least" then 5 else if k = "bands" then 4 else if k = "ontop" then 6 else 0
noncomputable def szD:List (jZ × V):=[(.inr "flat",.int 3),(.inr "share",.int 4),(.inr "capped",.int 5),(.inr "least",.int 5),(.inr "bands",.int 4),(.inr "ontop",.int 6)]
inductive lH:Str→List Str→Prop where
 | flat:lH "flat" []
 | share (w:Str):lH "share" [w]
 | bands (w:Str):lH "bands" [w]
 | capped (b w:Str):lH "capped" [b,w]
 | least (b w:Str):lH "least" [b,w]
 | ontop (w o x:Str) (r:List Str):lH "ontop" (w::o::x::r)
noncomputable def rE:List Str→Bool
 | []=>true
 | k::ws=>decide (vD k=0) || (decide ((k::ws).length<vD k) || ((decide (vD k<(k::ws).length) && !decide (k = "ontop")) || !yP (ws.headD "")))
theorem N6 {ws:List Str} (h:rE ws=false):∃ k n a r,ws=k::n::a::r∧yP n=true∧lH k r:=by
 cases ws with
 | nil=>cases h
 | cons k ws =>
  have h:(decide (vD k=0) || (decide ((k::ws).length<vD k) || ((decide (vD k<(k::ws).length) && !decide (k = "ontop")) || !yP (ws.headD ""))))=false:=h
  rw[en,en,en,Bool.and_eq_false_iff] at h
  obtain⟨h0,h1,h2,h3⟩:=h
  have h0:=of_decide_eq_false h0
  have h1:=of_decide_eq_false h1
  have rn:yP (ws.headD "")=true:=by
   cases e:yP (ws.headD "") with
   | true=>rfl
   | false=>rw[e] at h3;cases h3
  have eq:k≠"ontop"→(k::ws).length=vD k:=fun n=>by
   rcases h2 with h2 | h2
   ·have:=of_decide_eq_false h2
    omega
   ·rw[decide_eq_false n] at h2
    cases h2
  by_cases k1:k = "flat"
  ·subst k1
   have e:=eq (by decide +kernel)
   rw[show vD ("flat":Str)=3 by decide +kernel] at e
   obtain⟨n,a,rfl⟩:=Tc e
   exact⟨_,n,a,[],rfl,rn,.flat⟩
  by_cases k2:k = "share"
  ·subst k2
   have e:=eq (by decide +kernel)
   rw[show vD ("share":Str)=4 by decide +kernel] at e
   obtain⟨n,a,w,rfl⟩:=mQ e
   exact⟨_,n,a,[w],rfl,rn,.share w⟩
  by_cases k3:k = "bands"
  ·subst k3
   have e:=eq (by decide +kernel)
   rw[show vD ("bands":Str)=4 by decide +kernel] at e
   obtain⟨n,a,w,rfl⟩:=mQ e
   exact⟨_,n,a,[w],rfl,rn,.bands w⟩
  by_cases k4:k = "capped"
  ·subst k4
   have e:=eq (by decide +kernel)
   rw[show vD ("capped":Str)=5 by decide +kernel] at e
   obtain⟨n,a,b,w,rfl⟩:=Ml e
   exact⟨_,n,a,[b,w],rfl,rn,.capped b w⟩
  by_cases k5:k = "least"
  ·subst k5
   have e:=eq (by decide +kernel)
   rw[show vD ("least":Str)=5 by decide +kernel] at e
   obtain⟨n,a,b,w,rfl⟩:=Ml e
   exact⟨_,n,a,[b,w],rfl,rn,.least b w⟩
  by_cases k6:k = "ontop"
  ·subst k6
   rw[show vD ("ontop":Str)=6 by decide +kernel] at h1
   match ws,h1 with
   | [],h1=>exact absurd h1 (by simp)
   | [_],h1=>exact absurd h1 (by simp)
   | [_,_],h1=>exact absurd h1 (by simp)
   | [_,_,_],h1=>exact absurd h1 (by simp)
   | [_,_,_,_],h1=>exact absurd h1 (by simp)
   | n::a::w::o::x::r,_=>exact⟨_,n,a,_,rfl,rn,.ontop w o x r⟩
  ·refine absurd ?_ h0
   unfold vD
   rw[if_neg k1,if_neg k2,if_neg k4,if_neg k5,if_neg k3,if_neg k6]
theorem mi {ws:List Str} {R:Rk} (h:jC ws=some R):∃ k n r,ws=k::n::r∧yP n=true∧vD k=ws.length∧vD k≠0:=by
 unfold jC at h
 split at h
 ·rename_i k n a
  split at h
  ·rename_i ek
   subst ek
   obtain⟨r,er,eb,rfl⟩:=yf (c:=fun r=>yP n&&uJ r) (g:=fun r=>Rk.flat n r) h
   rw[cQ] at eb
   exact⟨_,n,_,rfl,eb.1,(by show vD _=3;decide +kernel),by decide +kernel⟩
  ·cases h
 ·rename_i k n a w
  split at h
  ·rename_i ek
   subst ek
   obtain⟨r,er,eb,rfl⟩:=yf (c:=fun p=>yP n&&(vB p&&wayL.contains w)) (g:=fun p=>Rk.share n p w) h
   rw[cQ] at eb
   exact⟨_,n,_,rfl,eb.1,(by show vD _=4;decide +kernel),by decide +kernel⟩
  ·split at h
   ·rename_i ek
    subst ek
    obtain⟨r,er,eb,rfl⟩:=yf (c:=fun ps=>yP n&&(Jq (Jd ps)&&wayL.contains w)) (g:=fun ps=>Rk.bands n ps w) h
    rw[cQ] at eb
    exact⟨_,n,_,rfl,eb.1,(by show vD _=4;decide +kernel),by decide +kernel⟩
   ·cases h
 ·rename_i k n a b w
  split at h
  ·rename_i ek
   subst ek
   obtain⟨p,m,er,em,eb,rfl⟩:=vR (c:=fun p m=>yP n&&((vB p&&wayL.contains w)&&uJ m)) (g:=fun p m=>Rk.capped n p m w) h
   rw[cQ] at eb
   exact⟨_,n,_,rfl,eb.1,(by show vD _=5;decide +kernel),by decide +kernel⟩
  ·split at h
   ·rename_i ek
    subst ek
    obtain⟨p,m,er,em,eb,rfl⟩:=vR (c:=fun p m=>yP n&&((vB p&&wayL.contains w)&&uJ m)) (g:=fun p m=>Rk.least n p m w) h
    rw[cQ] at eb
    exact⟨_,n,_,rfl,eb.1,(by show vD _=5;decide +kernel),by decide +kernel⟩
   ·cases h
 ·cases h
theorem Re {d:Nat} {ws:List Str} (b:rE ws=true):uk d ws=none:=by
 cases h:uk d ws with
 | none=>rfl
 | some R =>
  refine absurd b ?_
  cases e:vF ws with
  | false =>
   rw[ux d e] at h
   obtain⟨k,n,r,rfl,rn,sz,s0⟩:=mi h
   show ¬ (decide (vD k=0) || (decide ((k::n::r).length<vD k) || ((decide (vD k<(k::n::r).length) && !decide (k = "ontop")) || !yP n)))=true
   rw[decide_eq_false s0,decide_eq_false (by omega),decide_eq_false (by omega),rn,CQ]
   decide
  | true =>
   obtain⟨n,a,w,x,r,rfl⟩:=Yu e
   cases d with
   | zero=>rw[Zw] at h;cases h
   | succ d =>
    rw[JR] at h
    cases e2:uk d (x::r) with
    | none=>rw[e2] at h;cases h
    | some r2 =>
     rw[e2] at h
     obtain⟨p,er,eb,rfl⟩:=yf (c:=fun p=>yP n&&(vB p&&wayL.contains w)) (g:=fun p=>Rk.ontop n p w r2) h
     rw[cQ] at eb
     show ¬ (decide (vD "ontop" = 0) || (decide ((("ontop":Str)::n::a::w::("of":Str)::x::r).length<vD "ontop") || ((decide (vD "ontop" < (("ontop":Str)::n::a::w::("of":Str)::x::r).length) && !decide (("ontop":Str) = "ontop")) || !yP n)))=true
     rw[eb.1,decide_eq_true (show ("ontop":Str) = "ontop" from rfl),Do,CV,show vD "ontop" = 6 by decide +kernel,decide_eq_false (show ¬ (6=0) by decide),decide_eq_false (by simp)]
     decide
theorem gc {m:Int} {z:Str} {B:Int→Bool} {α:Type} {g:Int→α} (h:∀ r,0≤r→B r=decide (r≤m)):((q9 13 z).bind fun r=>if B r=true then some (g r) else none)=(nO m z).map g:=by
 unfold nO
 cases e:q9 13 z with
 | none=>rfl
 | some r =>
  show (if B r=true then _ else _)=Option.map g (if decide (r≤m)=true then some r else none)
  rw[h r (gz e)]
  split <;> rfl
theorem OB (r:Int) (h:0≤r):uJ r=decide (r≤1000000000000):=by
 unfold uJ
 exact decide_eq_decide.mpr ⟨fun c=>c.2,fun c=>⟨h,c⟩⟩
theorem OZ (r:Int) (h:0≤r):vB r=decide (r≤20000):=by
 unfold vB
 exact decide_eq_decide.mpr ⟨fun c=>c.2,fun c=>⟨h,c⟩⟩
theorem nj {n:Str} (rn:yP n=true) (a:Str):We n a=(nO 1000000000000 a).map (Rk.flat n):=by
 unfold We
 exact gc fun r h=>by rw[rn,Cj];exact OB r h
theorem rh {n:Str} (rn:yP n=true) (a w:Str):OD n a w=if wayL.contains w=true then (nO 20000 a).map fun p=>Rk.share n p w else none:=by
 unfold OD
 cases hw:wayL.contains w with
 | true=>exact gc fun r h=>by rw[rn,Cj,dm];exact OZ r h
 | false =>
  cases q9 13 a with
  | none=>rfl
  | some r=>show (if (yP n&&(vB r&&false))=true then _ else _)=_;rw[CV,CV];rfl
theorem nZ {n:Str} (rn:yP n=true) (a w:Str) (R:Rk):LH n a w R=if wayL.contains w=true then (nO 20000 a).map fun p=>Rk.ontop n p w R else none:=by
 unfold LH
 cases hw:wayL.contains w with
 | true=>exact gc fun r h=>by rw[rn,Cj,dm];exact OZ r h
 | false =>
  cases q9 13 a with
  | none=>rfl
  | some r=>show (if (yP n&&(vB r&&false))=true then _ else _)=_;rw[CV,CV];rfl
theorem Np {n:Str} (rn:yP n=true) (a w:Str):OG n a w=if wayL.contains w=true then (kH a).map fun ps=>Rk.bands n ps w else none:=by
 unfold OG kH
 cases yY (Txt.split a ",") with
 | none=>cases wayL.contains w <;> rfl
 | some ps =>
  show (if (yP n&&(Jq (Jd ps)&&wayL.contains w))=true then _ else _)=if wayL.contains w=true then Option.map _ (if Jq (Jd ps)=true then some ps else none) else none
  rw[rn,Cj]
  cases Jq (Jd ps) <;> cases wayL.contains w <;> rfl
theorem lZ {n:Str} (rn:yP n=true) (g:Int→Int→Rk) (a b w:Str):((q9 13 a).bind fun p=>(q9 13 b).bind fun m=>if (yP n&&((vB p&&wayL.contains w)&&uJ m))=true then some (g p m) else none)=if wayL.contains w=true then (nO 20000 a).bind fun p=>(nO 1000000000000 b).map fun m=>g p m else none:=by
 cases hw:wayL.contains w with
 | false =>
  cases q9 13 a with
  | none=>rfl
  | some p =>
   cases q9 13 b with
   | none=>rfl
   | some m=>show (if (yP n&&((vB p&&false)&&uJ m))=true then _ else _)=_;rw[CV,CQ,CV];rfl
 | true =>
  rw[if_pos rfl]
  cases ea:nO 20000 a with
  | none =>
   cases e:q9 13 a with
   | none=>rfl
   | some p =>
    cases q9 13 b with
    | none=>rfl
    | some m=>show (if (yP n&&((vB p&&true)&&uJ m))=true then _ else _)=_;rw[nV ea e,CQ,CQ,CV];rfl
  | some p =>
   rw[(kR ea).1]
   show ((q9 13 b).bind fun m=>_)=(nO 1000000000000 b).map _
   exact gc fun r h=>by rw[rn,Nh ea,Cj,Cj,Cj];exact OB r h
theorem Nv (k:Str):(QQ (ur [] szD) (.inr k)).getD (.int 0) = .int (vD k:Nat):=by
 have e:ur [] szD=szD:=by decide +kernel
 rw[e]
 by_cases k1:k = "flat"
 ·subst k1;decide +kernel
 by_cases k2:k = "share"
 ·subst k2;decide +kernel
 by_cases k3:k = "capped"
 ·subst k3;decide +kernel
 by_cases k4:k = "least"
 ·subst k4;decide +kernel
 by_cases k5:k = "bands"
 ·subst k5;decide +kernel
 by_cases k6:k = "ontop"
 ·subst k6;decide +kernel
 have:szD.find? (fun kv=>decide (kv.1=(Sum.inr k:jZ)))=none:=List.find?_eq_none.mpr fun kv h c=>by
  have c:=of_decide_eq_true c
  simp only[szD,cU,cX,or_false] at h
  rcases h with rfl | rfl | rfl | rfl | rfl | rfl
  ·exact k1 (Sum.inr.inj c).symm
  ·exact k2 (Sum.inr.inj c).symm
  ·exact k3 (Sum.inr.inj c).symm
  ·exact k4 (Sum.inr.inj c).symm
  ·exact k5 (Sum.inr.inj c).symm
  ·exact k6 (Sum.inr.inj c).symm
 unfold QQ
 rw[this]
 unfold vD
 rw[if_neg k1,if_neg k2,if_neg k3,if_neg k4,if_neg k5,if_neg k6]
 rfl
theorem jn {H:Hp} {k n a:Str} {r:List Str} {xs:List V}:Lg H (k::n::a::r) xs↔(if k = "bands" then ∃ v,xs=[v]∧UT H (kH a) v else if k = "flat" then xs=[uN (nO 1000000000000 a)] else if (k = "capped"∨k = "least") then xs=[uN (nO 20000 a),uN (nO 1000000000000 (r.headD ""))] else xs=[uN (nO 20000 a)]):=Iff.rfl
noncomputable def kb (k:Str) (r:List Str):List Str:=if k = "flat" then [] else if k = "capped"∨k = "least" then (r.drop 1).take 1 else r.take 1
noncomputable def oG (ys:List Str):Bool:=ys.all wayL.contains
theorem Pk {H:Hp} {k n a:Str} {r:List Str} {xs:List V} (sh:lH k r) (k6:k≠"ontop") (rn:yP n=true) (th:Lg H (k::n::a::r) xs) :
  ((xs.any wI || !oG (kb k r))=true→jC (k::n::a::r)=none)∧((xs.any wI || !oG (kb k r))=false→∃ R,jC (k::n::a::r)=some R∧∀ H' t,zu H H'→H' t=some (.tup ([.str k,.str n]++xs++(kb k r).map V.str))→Vu H' R (.ref t)):=by
 cases sh with
 | flat =>
  have th:xs=[uN (nO 1000000000000 a)]:=by
   rw[jn] at th
   rwa [if_neg (by decide +kernel),if_pos rfl] at th
  subst th
  have ew:kb "flat" []=[]:=by unfold kb;exact if_pos rfl
  rw[ew,gQ,nj rn]
  cases h:nO 1000000000000 a with
  | none=>exact⟨fun _=>rfl,fun c=>by cases c⟩
  | some x=>exact⟨fun c=>(by cases c),fun _=>⟨_,rfl,fun H' t s e=>.pln (cY rfl) ⟨t,rfl,e⟩⟩⟩
 | share w =>
  have th:xs=[uN (nO 20000 a)]:=by
   rw[jn] at th
   rwa [if_neg (by decide +kernel),if_neg (by decide +kernel),if_neg (by decide +kernel)] at th
  subst th
  have ew:kb "share" [w]=[w]:=by unfold kb;exact (if_neg (by decide +kernel)).trans (if_neg (by decide +kernel))
  rw[ew,UA,rh rn]
  have wb:oG [w]=wayL.contains w:=dm _
  rw[wb]
  cases h:nO 20000 a with
  | none=>exact⟨fun _=>by cases wayL.contains w <;> rfl,fun c=>by cases c⟩
  | some x =>
   cases hw:wayL.contains w with
   | false=>exact⟨fun _=>rfl,fun c=>by cases c⟩
   | true=>exact⟨fun c=>(by cases c),fun _=>⟨_,rfl,fun H' t s e=>.pln (cY rfl) ⟨t,rfl,e⟩⟩⟩
 | bands w =>
  have th:∃ v,xs=[v]∧UT H (kH a) v:=by
   rw[jn] at th
   rwa [if_pos rfl] at th
  obtain⟨v,rfl,pv⟩:=th
  have ew:kb "bands" [w]=[w]:=by unfold kb;exact (if_neg (by decide +kernel)).trans (if_neg (by decide +kernel))
  rw[ew,WK,Np rn]
  have wb:oG [w]=wayL.contains w:=dm _
  rw[wb]
  cases h:kH a with
  | none =>
   rw[h] at pv
   have pv:v = .non:=pv
   subst pv
   exact⟨fun _=>by cases wayL.contains w <;> rfl,fun c=>by cases c⟩
  | some ps =>
   rw[h] at pv
   obtain⟨u,rfl,bd⟩:=pv
   cases hw:wayL.contains w with
   | false=>exact⟨fun _=>rfl,fun c=>by cases c⟩
   | true=>exact⟨fun c=>(by cases c),fun _=>⟨_,rfl,fun H' t s e=>.bands e (bd.same s)⟩⟩
 | capped b w =>
  have th:xs=[uN (nO 20000 a),uN (nO 1000000000000 b)]:=by
   rw[jn] at th
   rwa [if_neg (by decide +kernel),if_neg (by decide +kernel),if_pos (Or.inl rfl)] at th
  subst th
  have ew:kb "capped" [b,w]=[w]:=by unfold kb;exact (if_neg (by decide +kernel)).trans (if_pos (Or.inl rfl))
  rw[ew,Jk]
  unfold mj
  rw[lZ rn fun p m=>Rk.capped n p m w]
  have wb:oG [w]=wayL.contains w:=dm _
  rw[wb]
  cases h:nO 20000 a with
  | none=>exact⟨fun _=>by cases wayL.contains w <;> rfl,fun c=>by cases c⟩
  | some x =>
   cases h2:nO 1000000000000 b with
   | none=>exact⟨fun _=>by cases wayL.contains w <;> rfl,fun c=>by cases c⟩
   | some y =>
    cases hw:wayL.contains w with
    | false=>exact⟨fun _=>rfl,fun c=>by cases c⟩
    | true=>exact⟨fun c=>(by cases c),fun _=>⟨_,rfl,fun H' t s e=>.pln (cY rfl) ⟨t,rfl,e⟩⟩⟩
 | least b w =>
  have th:xs=[uN (nO 20000 a),uN (nO 1000000000000 b)]:=by
   rw[jn] at th
   rwa [if_neg (by decide +kernel),if_neg (by decide +kernel),if_pos (Or.inr rfl)] at th
  subst th
  have ew:kb "least" [b,w]=[w]:=by unfold kb;exact (if_neg (by decide +kernel)).trans (if_pos (Or.inr rfl))
  rw[ew,WL]
  unfold mT
  rw[lZ rn fun p m=>Rk.least n p m w]
  have wb:oG [w]=wayL.contains w:=dm _
  rw[wb]
  cases h:nO 20000 a with
  | none=>exact⟨fun _=>by cases wayL.contains w <;> rfl,fun c=>by cases c⟩
  | some x =>
   cases h2:nO 1000000000000 b with
   | none=>exact⟨fun _=>by cases wayL.contains w <;> rfl,fun c=>by cases c⟩
   | some y =>
    cases hw:wayL.contains w with
    | false=>exact⟨fun _=>rfl,fun c=>by cases c⟩
    | true=>exact⟨fun c=>(by cases c),fun _=>⟨_,rfl,fun H' t s e=>.pln (cY rfl) ⟨t,rfl,e⟩⟩⟩
 | ontop=>exact absurd rfl k6
theorem lx {H:Hp} {k n a:Str} {r:List Str} {xs:List V} (sh:lH k r) (k1:k≠"flat") (th:Lg H (k::n::a::r) xs):xs.length≤2∧(k = "ontop"→xs=[uN (nO 20000 a)])∧∃ w,kb k r=[w]∧(k::n::a::r)[2+xs.length]? = some w:=by
 cases sh with
 | flat=>exact absurd rfl k1
 | share w =>
  have th:xs=[uN (nO 20000 a)]:=by
   rw[jn] at th
   rwa [if_neg (by decide +kernel),if_neg (by decide +kernel),if_neg (by decide +kernel)] at th
  subst th
  exact⟨cY rfl,fun _=>rfl,w,(by unfold kb;exact (if_neg (by decide +kernel)).trans (if_neg (by decide +kernel))),rfl⟩
 | bands w =>
  have th:∃ v,xs=[v]∧UT H (kH a) v:=by
   rw[jn] at th
   rwa [if_pos rfl] at th
  obtain⟨v,rfl,_⟩:=th
  exact⟨cY rfl,fun c=>absurd c (by decide +kernel),w,(by unfold kb;exact (if_neg (by decide +kernel)).trans (if_neg (by decide +kernel))),rfl⟩
 | capped b w =>
  have th:xs=[uN (nO 20000 a),uN (nO 1000000000000 b)]:=by
   rw[jn] at th
   rwa [if_neg (by decide +kernel),if_neg (by decide +kernel),if_pos (Or.inl rfl)] at th
  subst th
  exact⟨cY rfl,fun c=>absurd c (by decide +kernel),w,(by unfold kb;exact (if_neg (by decide +kernel)).trans (if_pos (Or.inl rfl))),rfl⟩
 | least b w =>
  have th:xs=[uN (nO 20000 a),uN (nO 1000000000000 b)]:=by
   rw[jn] at th
   rwa [if_neg (by decide +kernel),if_neg (by decide +kernel),if_pos (Or.inr rfl)] at th
  subst th
  exact⟨cY rfl,fun c=>absurd c (by decide +kernel),w,(by unfold kb;exact (if_neg (by decide +kernel)).trans (if_pos (Or.inr rfl))),rfl⟩
 | ontop w o x r =>
  have th:xs=[uN (nO 20000 a)]:=by
   rw[jn] at th
   rwa [if_neg (by decide +kernel),if_neg (by decide +kernel),if_neg (by decide +kernel)] at th
  subst th
  exact⟨cY rfl,fun _=>rfl,w,(by unfold kb;exact (if_neg (by decide +kernel)).trans (if_neg (by decide +kernel))),rfl⟩
theorem TZ {K:BFr} {H:Hp} {k n a:Str} {r:List Str} {xs:List V} (th:Lg H (k::n::a::r) xs):xs.length≤2∧∀ x∈xs,Pw K H x:=by
 have nf:∀ o,Pw K H (uN o):=fun o=>.inl (by cases o <;> rfl)
 rw[jn] at th
 split at th
 ·obtain⟨v,rfl,pv⟩:=th
  refine⟨cY rfl,fun x hx=>?_⟩
  rw[Co.mp hx]
  cases h:kH a with
  | none=>rw[h] at pv;cases pv;exact .inl rfl
  | some ps =>
   rw[h] at pv
   obtain⟨u,rfl,ys,e,_⟩:=pv
   exact .inr ⟨u,ys,rfl,qw.of e⟩
 ·split at th
  ·subst th
   exact⟨cY rfl,fun x hx=>by rw[Co.mp hx];exact nf _⟩
  ·split at th
   ·subst th
    refine⟨cY rfl,fun x hx=>?_⟩
    simp only[cU,cX,or_false] at hx
    rcases hx with rfl | rfl <;> exact nf _
   ·subst th
    exact⟨cY rfl,fun x hx=>by rw[Co.mp hx];exact nf _⟩
theorem Le (k n a w o x:Str) (r:List Str):jC (k::n::a::w::o::x::r)=none:=by
 unfold jC
 rfl
theorem xt (d:Nat) {n a w o x:Str} {r:List Str} (h:o≠"of"):uk d (("ontop":Str)::n::a::w::o::x::r)=none:=by
 rw[ux d (by
  show (decide (("ontop":Str) = "ontop")&&decide (o = "of"))=false
  rw[decide_eq_false h]
  exact CV _)]
 exact Le _ _ _ _ _ _ _
theorem tW (d:Nat) {n a w o x:Str} {r:List Str} (rn:yP n=true) (c:([uN (nO 20000 a)].any wI || !oG [w])=true):uk d (("ontop":Str)::n::a::w::o::x::r)=none:=by
 by_cases h:o = "of"
 ·subst h
  cases d with
  | zero=>exact Zw _ _ _ _ _
  | succ d =>
   rw[JR]
   cases uk d (x::r) with
   | none=>rfl
   | some R =>
    show LH n a w R=none
    rw[nZ rn]
    have wb:oG [w]=wayL.contains w:=dm _
    rw[wb] at c
    cases hn:nO 20000 a with
    | none=>cases wayL.contains w <;> rfl
    | some p =>
     cases hw:wayL.contains w with
     | false=>rfl
     | true=>rw[hn,hw] at c;cases c
 ·exact xt d h
theorem LG (d:Nat) {n a w x:Str} {r:List Str} (rn:yP n=true) (c:([uN (nO 20000 a)].any wI || !oG [w])=false):∃ p,nO 20000 a=some p∧uk (d+1) (("ontop":Str)::n::a::w::("of":Str)::x::r)=(uk d (x::r)).map fun R=>Rk.ontop n p w R:=by
 have wb:oG [w]=wayL.contains w:=dm _
 rw[wb] at c
 cases hn:nO 20000 a with
 | none=>rw[hn] at c;cases c
 | some p =>
  refine⟨p,rfl,?_⟩
  rw[hn] at c
  cases hw:wayL.contains w with
  | false=>rw[hw] at c;cases c
  | true =>
   rw[JR]
   cases uk d (x::r) with
   | none=>rfl
   | some R =>
    show LH n a w R=some _
    rw[nZ rn,hw,hn]
    rfl
theorem Pw.same {K:BFr} {H H':Hp} {x:V} (s:zu H H') (h:Pw K H x):Pw K H' x:=h.imp id fun⟨t,c,e,hq⟩=>⟨t,c,e,s.tup hq⟩
theorem MG {K:BFr} {H:Hp} (ys:List Str):(∀ x∈ys.map V.str,Pw K H x)∧(ys.map V.str).any wI=false:=by
 refine⟨fun x hx=>?_,?_⟩
 ·obtain⟨y,_,rfl⟩:=Cp.mp hx
  exact .inl rfl
 ·rw[List.any_map]
  exact List.any_eq_false.mpr fun _ _=>by intro c;cases c
theorem U6 (ys:List Str):((ys.map V.str).filter fun x=>match x with | .str w=>!wayL.contains w | _=>false)=[]↔oG ys=true:=by
 unfold oG
 rw[DJ,Cn]
 constructor
 ·intro h c hc
  have:=h _ (Cp.mpr ⟨c,hc,rfl⟩)
  cases h:wayL.contains c with
  | true=>rfl
  | false=>exact absurd (show (!wayL.contains c)=true by rw[h];rfl) this
 ·intro h x hx
  obtain⟨d,hd,rfl⟩:=Cp.mp hx
  show ¬ (!wayL.contains d)=true
  rw[h d hd]
  decide
theorem OM (k:Str) (r:List Str):(kb k r).length≤1:=by
 unfold kb
 split
 ·exact Cw _
 ·split
  ·rw[Cz];omega
  ·rw[Cz];omega
end Pg
namespace K10
open PySem PySem.NumText L2 Pg
seal PE PA PT PW PS y8 PG vz PI j8 PO PK
section
variable {P:Program} {w:World} {K:BFr} {mg:Str→Option Value} {base:Heap} {f:Addr} {fd:FuncData} {d:Nat→Addr} {cR:Addr}
theorem mL {j:Nat}:zL P w K mg base zQ j f fd ["_law_words","_law_deep"] (Vo 0):=⟨fun _ _ _ _ h=>h.elim,fun _ _ _ _ _ _ _ _ _ _ _ _ _ h=>h.elim⟩
set_option maxHeartbeats 16000000 in
theorem Vv {d j:Nat} (hj:3≤j) (F:qM K "_law_by_words" "_law_by_words" (zX 94) f fd) (G:jW mg) (C1:qR P w K mg base zQ 1 "_law_is_name" ["_law_word_here"] gO) (C2:qR P w K mg base zQ 3 "_law_things_in" ["_law_words"] gD) (C3:qR P w K mg base zQ j "_law_by_words" ["_law_words","_law_deep"] (Vo d)):zL P w K mg base zQ (j+1) f fd ["_law_words","_law_deep"] (Vo (d+1)):=by
 have nd:(["_law_words","_law_deep","_law_size","_law_things","_law_way_here"]:List Str).Nodup:=by decide +kernel
 have nc:(["_law_one"]:List Str).Nodup:=by decide +kernel
 refine F.ok (N:=["_law_words","_law_deep","_law_size","_law_things","_law_way_here"]) (by walk_at"s") (fun vs H Q E h=>?_) (fun cdv A outer s H vs Q E hr h=>?_)
 ·obtain⟨l,ws,dp,rfl,_⟩:=h
  rfl
 ·obtain⟨l,ws,dp,rfl,hw,ne,d0,d3,q⟩:=h
  have un0:(A.deeper (PyProof.Rows.envOfC "_law_by_words" (zW (zX 94)) s.heap.objs.size f cdv)).units<cLine:=d8 (dH _ 64) hr.units
  have un1:(A.deeper (PyProof.Rows.envOfC "_law_by_words" (zW (zX 94)) s.heap.objs.size f cdv)).units+1<cLine:=d8 (Nat.add_le_add_left (by decide) _) hr.units
  refine' ⟨_,(zg (zI (i:=2) nd rfl (Or.inl rfl) (lB un1 (mq (uh zj ze (uh zj ze (uh zj ze (uh zj ze (uh zj ze (uh zj ze MP)))))) rfl rfl (by intro z;cases z) (cY rfl)) (zC zA (pv 0) ze) ze ⟨rfl,rfl,rfl,rfl⟩))
    (zg (zK (PW.pt (yM (zw qh (pv 2) ze (zD _)) (yM (zw uY (zv zO rfl G.len boot_len (za (pv 0) zd)) (pv 2) (zD _)) (yM (PW.pt (Zx (zw y6 (zv zO rfl G.len boot_len (za (pv 0) zd)) (pv 2) (zD _)) (wc (zw vP (zC zA (pv 0) ze) zj (zD _))))) (yU (qz (qy (zk C1 hr (by omega) zx (za (zC zA (pv 0) ze) zd))))))))) (zh (zm jv)) zB)
    (zg (zI (i:=3) nd rfl (Or.inl rfl) (zk C2 hr hj zx (za (pv 0) zd)))
    (zg (zI (i:=4) nd rfl (Or.inl rfl) (zU zd))
    (jf (zK (zw vP (zC zA (pv 0) ze) zj (zD _)) (zh (zI (i:=4) nd rfl (Or.inl rfl) (zU (za (zC zA (pv 0) (zt qk ze (zv zO rfl G.len boot_len (za (pv 3) zd)))) zd)))) zB)
    (zg (zK (PW.pt (yM (zw (Ow un1) jv (pv 3) (by rfl)) (yU (zw (Wk un0) ?comp (zU zd) (zD _))))) (zh (zm jv)) zB)
    (zg (zK (zw qh (zC zA (pv 0) ze) zj (zD _)) (zg (zK (PW.pt (yM (zw qh (pv 1) ze (zD _)) (yU (zw vP (zC zA (pv 0) ze) zj (zD _))))) (zh (zm jv)) zB)
    (zg (zI (i:=3) nd rfl (Or.inl rfl) (zt je (pv 3) (pv 4)))
    (zh (zI (i:=4) nd rfl (Or.inl rfl) (zU (za (zk C3 hr (cP _) zx (za (qp yn (pv 0) (qC ze) qL) (za (zt qk (pv 1) ze) zd))) zd)))))) zB)
    (zg (zK (zw (Ow un1) jv (pv 4) (by rfl)) (zh (zm jv)) zB)
    (zh (zm (z8 y9 rfl G.tuple yy (za (zt je (zt je (zU (za (zC zA (pv 0) ze) (za (zC zA (pv 0) ze) zd))) (pv 3)) (pv 4)) zd)))))))))))),?main⟩
  case comp =>
   refine' qv (Nc:=["_law_one"]) (cl:=[]) (src:=[none]) (wi:=Jw K (qd 4)) (g:=qx 0) (tt:=QC (jV (BE K true) (qd 0) (lL (qX (tC (.str "down")) (qX (tC (.str "up")) (qX (tC (.str "near")) (qX (tC (.str "even")) jy))))))) (te:=qd 0) (by walk_at"c0") rfl (j7 (pv 4)) ?hb
   case hb =>
    intro fp C' s' H'
    exact⟨z5 (i:=0) nc rfl (Or.inl rfl),kZ (zw uz (pv 0) (yA (za zj (za zj (za zj (za zj zd))))) (by rfl)),pv 0⟩
  match ws,ne with
  | k::ws,_ =>
   obtain⟨hl,lw,le⟩:=hw
   refine fun p hp=>⟨zq,szD,rfl,by decide,p,rfl,.inl ⟨_,.inl zq⟩,?_⟩
   obtain⟨H1,hH1⟩:∃ H1,H1=upd (upd H p (.dK [])) p (.dK (ur [] szD)):=⟨_,rfl⟩
   have s1:zu H H1:=fun b o hb=>by rw[hH1,zG (zP hb hp),zG (zP hb hp)];exact hb
   have e1:H1 p=some (.dK (ur [] szD)):=by rw[hH1,zq]
   rw[← hH1]
   clear hH1
   have hl1:=s1 _ _ hl
   refine⟨_,rfl,l,_,_,_,rfl,rfl,zY.of hl1,qE rfl,_,.inl ⟨_,.inr k,.inl e1,rfl,rfl⟩,?_⟩
   rw[Nv]
   dsimp only [gf]
   have szz:vD k=0∨3≤vD k:=by
    unfold vD
    split
    ·exact .inr (by decide)
    split
    ·exact .inr (by decide)
    split
    ·exact .inr (by decide)
    split
    ·exact .inr (by decide)
    split
    ·exact .inr (by decide)
    split
    ·exact .inr (by decide)
    ·exact .inl rfl
   refine JX (fun Q=>∀ H',zu H1 H'→Q (rE (k::ws)) H') (fun R r=>?_) (fun H2 s2=>qi (fun e=>?_) (fun e=>?_))
   ·have r:∀ H',zu H1 H'→R (decide (vD k=0) || (decide ((k::ws).length<vD k) || ((decide (vD k<(k::ws).length) && !decide (k = "ontop")) || !yP (ws.headD "")))) H':=r
    refine⟨_,rfl,rfl,_,rfl,qi (fun e=>?_) (fun e=>?_)⟩
    ·rw[decide_eq_true (show vD k=0 by have:=V.int.inj (of_decide_eq_true e);omega)] at r
     exact r H1 (zu.refl _)
    have z0:vD k≠0:=fun c=>e (decide_eq_true (by rw[c];rfl))
    rw[decide_eq_false z0,CZ] at r
    refine⟨_,rfl,l,_,rfl,.inl (zY.of hl1),_,rfl,_,_,rfl,rfl,_,rfl,qi (fun e=>?_) (fun e=>?_)⟩
    ·have e:=of_decide_eq_true e
     rw[cN] at e
     rw[decide_eq_true (show (k::ws).length<vD k by omega)] at r
     exact r H1 (zu.refl _)
    have z1:¬ (k::ws).length<vD k:=fun c=>e (decide_eq_true (by rw[cN];omega))
    rw[decide_eq_false z1,CZ] at r
    obtain⟨n,wr,rfl⟩:∃ n r0,ws=n::r0:=by
     cases ws with
     | nil=>exact absurd (by show 1<vD k;omega) z1
     | cons n r0=>exact⟨n,r0,rfl⟩
    have ln:n.length≤50000:=le n (by simp)
    have r:∀ H',zu H1 H'→R ((decide (vD k<(k::n::wr).length) && !decide (k = "ontop")) || !yP n) H':=r
    refine (fun (LS:(∀ H',zu H1 H'→R (!yP n) H')→_)=>⟨_,rfl,l,_,rfl,.inl (zY.of hl1),_,rfl,_,_,rfl,rfl,_,rfl,qi (fun e=>⟨_,rfl,l,_,_,_,rfl,rfl,zY.of hl1,qE rfl,rfl,_,rfl,qi (fun e2=>?_) (fun e2=>LS ?_)⟩) (fun e=>qN (LS ?_))⟩) (fun r'=>?_)
    ·exact⟨_,rfl,l,_,_,_,rfl,rfl,zY.of hl1,qB (j:=1) rfl,n,rfl,ln,fun H' s'=>⟨yP n,rfl,r' H' s'⟩⟩
    ·have e:=of_decide_eq_true e
     rw[cN] at e
     have e2:(!decide (V.str k=V.str "ontop"))=true:=e2
     have k6:k≠"ontop":=fun c=>by rw[c,decide_eq_true rfl] at e2;cases e2
     rw[decide_eq_true (show vD k<(k::n::wr).length by omega),decide_eq_false k6] at r
     exact r H1 (zu.refl _)
    ·have k6:k = "ontop":=by
      have e2:¬ (!decide (V.str k=V.str "ontop"))=true:=e2
      by_cases h:k = "ontop"
      ·exact h
      ·exact absurd (by rw[decide_eq_false fun c=>h (V.str.inj c)];rfl) e2
     rw[decide_eq_true k6,Do,CV,CZ] at r
     exact r
    ·have z2:¬ vD k<(k::n::wr).length:=fun c=>e (decide_eq_true (by rw[cN];omega))
     rw[decide_eq_false z2,CQ,CZ] at r
     exact r
   ·exact q _ H2 (s1.trans s2) (by rw[Re e];rfl)
   obtain⟨k',n,a,r,ek,rn,sh⟩:=N6 (CY.mpr e)
   injection ek with ek1 ek2
   subst ek1
   subst ek2
   have S2:=s1.trans s2
   have hl2:=S2 _ _ hl
   have r0:k = "capped"∨k = "least"→r≠[]:=fun h c=>by
    subst c
    cases sh
    exact absurd h (by decide +kernel)
   refine⟨_,rfl,l,k,n,a,r,rfl,⟨hl2,lw,le⟩,r0,fun t xs H3 s3 n3 e3 th=>?_⟩
   have S3:=S2.trans s3
   have hl3:=S3 _ _ hl
   obtain⟨x2,ft⟩:=TZ (K:=K) th
   refine⟨z6 rfl,fun y H4 s4 n4 e4=>?_⟩
   refine jX (fun σ H'=>∃ y,σ = [some (.ref l),some (.int dp),some (.int (vD k:Nat)),some (.ref t),some (.ref y)]∧zu H3 H'∧H' y=some (.lst ((kb k r).map V.str))) (fun Ek kk=>?_) ?_
   ·refine⟨_,rfl,l,_,_,_,rfl,rfl,zY.of (s4 _ _ hl3),qE rfl,rfl,_,rfl,qi (fun e=>?_) (fun e=>?_)⟩
    ·have k1:k≠"flat":=fun c=>by
      have e:(!decide (V.str k=V.str "flat"))=true:=e
      rw[c,decide_eq_true rfl] at e
      cases e
     obtain⟨_,_,w,ew,ew2⟩:=lx sh k1 th
     refine⟨_,rfl,_,rfl,t,_,rfl,.inl (zY.of (s4 _ _ e3)),_,_,rfl,rfl,l,_,_,_,rfl,rfl,zY.of (s4 _ _ hl3),(qB (j:=2+xs.length) (by rw[cW,ew2];rfl)),z6 rfl,fun y2 H5 s5 n5 e5=>kk _ _ ⟨y2,rfl,s4.trans s5,by rw[ew];exact e5⟩⟩
    ·have k1:k = "flat":=by
      have e:¬ (!decide (V.str k=V.str "flat"))=true:=e
      by_cases h:k = "flat"
      ·exact h
      ·exact absurd (by rw[decide_eq_false fun c=>h (V.str.inj c)];rfl) e
     refine kk _ _ ⟨y,rfl,s4,?_⟩
     rw[k1,show kb "flat" r=[] by unfold kb;exact if_pos rfl]
     exact e4
   rintro σ H5 ⟨y,rfl,s5,e5⟩
   have S5:=S3.trans s5
   have hl5:=S5 _ _ hl
   have e35:=s5 _ _ e3
   have ft5:∀ x∈xs,Pw K H5 x:=fun x hx=>Pw.same s5 (ft x hx)
   refine JX (fun Q=>∀ H',zu H5 H'→Q (xs.any wI || !oG (kb k r)) H') (fun R rr=>?_) (fun H6 s6=>qi (fun c1=>?_) (fun c1=>?_))
   ·refine⟨_,rfl,t,xs,rfl,rfl,.inl (zY.of e35),ft5,_,rfl,qi (fun e=>?_) (fun e=>?_)⟩
    ·rw[e] at rr
     exact rr H5 (zu.refl _)
    rw[CY.mpr e,CZ] at rr
    refine⟨_,rfl,y,rfl,⟨_,zY.of e5⟩,fun D hD=>?_⟩
    refine OF (vg (zY.of e5)) hD (by rw[cN,sizeLine_eq];have:=OM k r;omega) (fun x=>match x with | .str w=>!wayL.contains w | _=>false) (fun x=>x) (fun x hx H' R s' r'=>?_) (fun x hx _ H' R s' r'=>⟨_,rfl,r' H' (zu.refl _)⟩) (fun H6 s6 e6=>?_)
    ·obtain⟨w,_,rfl⟩:=Cp.mp hx
     refine⟨_,rfl,z6 rfl,fun u Hu su nu eu=>⟨u,_,rfl,.inr (qw.of eu),rfl,rfl,_,rfl,?_⟩⟩
     have ci:MI (.str w) [V.str "down",V.str "up",V.str "near",V.str "even"]=wayL.contains w:=vt w wayL
     have r':=r' Hu su
     dsimp only at r'
     rw[← ci] at r'
     exact r'
    ·rw[DH] at e6
     refine⟨z6 rfl,fun l2 H7 s7 n7 e7=>⟨D,l2,_,rfl,rfl,zY.of (s7 _ _ e6),zY.of e7,fun z=>⟨false,rfl,?_⟩,fun z=>⟨true,rfl,?_⟩⟩⟩
     ·have r2:=rr H7 (s6.trans s7)
      rw[(U6 _).mp z] at r2
      exact r2
     ·have r2:=rr H7 (s6.trans s7)
      rw[CY.mpr fun c=>z ((U6 _).mpr c)] at r2
      exact r2
   ·have S6:=S5.trans s6
    refine q _ H6 S6 ?_
    by_cases k6:k = "ontop"
    ·subst k6
     cases sh with
     | ontop w o x r =>
      obtain⟨_,ex,w',ew,_⟩:=lx (lH.ontop w o x r) (by decide +kernel) th
      have ew2:kb "ontop" (w::o::x::r)=[w]:=by unfold kb;exact (if_neg (by decide +kernel)).trans (if_neg (by decide +kernel))
      rw[ew2,ex rfl] at c1
      rw[tW d rn c1]
      rfl
    ·have off:vF (k::n::a::r)=false:=VF k6
     rw[ux d off,(Pk sh k6 rn th).1 c1]
     rfl
   have cg:=CY.mpr c1
   have S6:=S5.trans s6
   have hl6:=S6 _ _ hl
   have e36:=s6 _ _ e35
   have e56:=s6 _ _ e5
   have s36:=s5.trans s6
   have wl1:=OM k r
   have xl:xs.length≤2:=x2
   by_cases k6:k = "ontop"
   ·subst k6
    cases sh with
    | ontop w o x r =>
     obtain⟨_,ex,_⟩:=lx (lH.ontop w o x r) (by decide +kernel) th
     have ex:=ex rfl
     have ew2:kb "ontop" (w::o::x::r)=[w]:=by unfold kb;exact (if_neg (by decide +kernel)).trans (if_neg (by decide +kernel))
     rw[ew2] at cg e56
     rw[ex] at cg
     refine⟨_,rfl,l,_,_,_,rfl,rfl,zY.of hl6,qE rfl,rfl,_,rfl,ZN ?_⟩
     refine⟨_,rfl,rfl,_,rfl,qi (fun ed=>?_) (fun ed=>?_)⟩
     ·have ed:=V.int.inj (of_decide_eq_true ed)
      have:d=0:=by omega
      subst this
      refine q _ H6 S6 ?_
      by_cases h:o = "of"
      ·subst h
       rw[Zw]
       rfl
      ·rw[xt 0 h]
       rfl
     refine⟨_,rfl,l,_,_,_,rfl,rfl,zY.of hl6,qB (j:=4) rfl,rfl,_,rfl,qi (fun e2=>?_) (fun e2=>?_)⟩
     ·have h:o≠"of":=fun c=>by
       have e2:(!decide (V.str o=V.str "of"))=true:=e2
       rw[c,decide_eq_true rfl] at e2
       cases e2
      refine q _ H6 S6 ?_
      rw[xt d h]
      rfl
     have h:o = "of":=by
      have e2:¬ (!decide (V.str o=V.str "of"))=true:=e2
      by_cases h:o = "of"
      ·exact h
      ·exact absurd (by rw[decide_eq_false fun c=>h (V.str.inj c)];rfl) e2
     subst h
     have dn:dp≠3:=fun c=>ed (decide_eq_true (by rw[c]))
     match d,d3,q,C3 with
     | 0,d3,_,_=>exact absurd (by omega) dn
     | d+1,d3,q,C3 =>
      obtain⟨pp,hp,eo⟩:=LG d (x:=x) (r:=r) rn cg
      rw[eo] at q
      rw[ex,hp] at e36
      refine⟨_,rfl,_,rfl,t,y,_,_,rfl,rfl,e36,e56,z6 rfl,fun t2 H7 s7 n7 e7=>?_⟩
      have S7:=S6.trans s7
      refine⟨_,rfl,_,rfl,l,_,rfl,zY.of (S7 _ _ hl),fun l2 n8=>?_⟩
      generalize hc:yX ((("ontop":Str)::n::a::w::("of":Str)::x::r).map V.str) (some 5) none=cs
      have ec:cs=(x::r).map V.str:=by rw[← hc,Nl];rfl
      have s8:zu H7 (upd H7 l2 (.lst cs)):=zu.upd n8
      have e8:(upd H7 l2 (.lst cs)) l2=some (.lst ((x::r).map V.str)):=by rw[zq,ec]
      generalize upd H7 l2 (.lst cs)=H8 at s8 e8
      refine⟨_,rfl,_,_,rfl,rfl,l2,x::r,_,rfl,⟨e8,by simp only[CI] at lw ⊢;omega,fun v hv=>le v (by simp only[cU] at hv ⊢;rcases hv with h | h <;> simp[h])⟩,(by intro z;cases z),(by show 0≤dp+1;omega),(by show dp+1+(d:Int)=3;omega),fun v H9 s9 rt=>⟨z6 rfl,fun y2 HA sA nA eA=>?_⟩⟩
      have SA:=S7.trans (s8.trans (s9.trans sA))
      have eT:=sA _ _ (s9 _ _ (s8 _ _ e7))
      have hlA:=SA _ _ hl
      cases er:uk d (x::r) with
      | none =>
       rw[er] at rt q
       have rt:v = .non:=rt
       subst rt
       exact⟨_,rfl,y2,_,rfl,rfl,.inl (zY.of eA),(fun z hz=>by rw[Co.mp hz];exact .inl rfl),_,rfl,qZ (q _ HA SA rfl)⟩
      | some R =>
       rw[er] at rt q
       have rt:Vu H9 R v:=rt
       obtain⟨tv,cv,rfl,ev⟩:∃ tv c,v = .ref tv∧H9 tv=some (.tup c):=by
        cases rt with
        | pln k h=>obtain⟨t,e,h⟩:=h;exact⟨t,_,e,h⟩
        | bands h b=>exact⟨_,_,rfl,h⟩
        | ontop h b=>exact⟨_,_,rfl,h⟩
       refine⟨_,rfl,y2,_,rfl,rfl,.inl (zY.of eA),(fun z hz=>by rw[Co.mp hz];exact .inr ⟨tv,cv,rfl,qw.of (sA _ _ ev)⟩),_,rfl,qN ?_⟩
       refine⟨_,rfl,l,_,_,_,rfl,rfl,zY.of hlA,qE rfl,_,rfl,l,_,_,_,rfl,rfl,zY.of hlA,qB (j:=1) rfl,z6 rfl,fun l7 HB sB nB eB=>⟨_,rfl,l7,t2,_,_,rfl,rfl,eB,sB _ _ eT,z6 rfl,fun l8 HC sC nC eC=>⟨_,rfl,l8,y2,_,_,rfl,rfl,eC,sC _ _ (sB _ _ eA),z6 rfl,fun l9 HD sD nD eD=>⟨l9,_,rfl,.inl ⟨zY.of eD,fun u u0=>?_⟩⟩⟩⟩⟩
       refine q _ _ (SA.trans (sB.trans (sC.trans (sD.trans (zu.upd u0))))) ?_
       exact .ontop zq (rt.same (sA.trans (sB.trans (sC.trans (sD.trans (zu.upd u0))))))
   ·obtain⟨R,er,mk⟩:=(Pk sh k6 rn th).2 cg
    have off:vF (k::n::a::r)=false:=VF k6
    rw[ux d off,er] at q
    refine⟨_,rfl,l,_,_,_,rfl,rfl,zY.of hl6,qE rfl,rfl,_,rfl,jq k6 ?_⟩
    obtain⟨f1,f2⟩:=MG (K:=K) (H:=H6) (kb k r)
    refine⟨_,rfl,y,_,rfl,rfl,.inl (zY.of e56),f1,_,rfl,?_⟩
    rw[f2]
    refine qN ?_
    refine⟨_,rfl,l,_,_,_,rfl,rfl,zY.of hl6,qE rfl,_,rfl,l,_,_,_,rfl,rfl,zY.of hl6,qB (j:=1) rfl,z6 rfl,fun l7 HB sB nB eB=>⟨_,rfl,l7,t,_,_,rfl,rfl,eB,sB _ _ e36,?_,fun l8 HC sC nC eC=>⟨_,rfl,l8,y,_,_,rfl,rfl,eC,sC _ _ (sB _ _ e56),?_,fun l9 HD sD nD eD=>⟨l9,_,rfl,.inl ⟨zY.of eD,fun u u0=>?_⟩⟩⟩⟩⟩
    ·rw[sizeLine_eq]
     show 2+xs.length≤_
     omega
    ·rw[Cb,cN,sizeLine_eq]
     show 2+xs.length+(kb k r).length≤_
     omega
    ·refine q _ _ (S6.trans (sB.trans (sC.trans (sD.trans (zu.upd u0))))) ?_
     exact mk _ u (s36.trans (sB.trans (sC.trans (sD.trans (zu.upd u0))))) zq
end
end K10
namespace L2
open PySem PySem.Spec PyProof.Rows PySem.SeqAt
open AutoSeq1 (wpAny_loadPart')
end L2
namespace Pg
open PySem L2
noncomputable def cu (i:Nat):Str:=(["amount","share","text","month","year","rule","book","noyear","day","entry","mark","person","many","close","line"]:List Str).getD i ""
noncomputable def XO (K:BFr) (d:Nat→Addr):Sp:=fun vs H Q _=>∃ ea C i,vs=[.ref ea]∧GB K H ea C∧Mm K d C i∧i=5∧∀ H',zu H H'→Q (.str (cu i)) H'
section
variable {K:BFr} {H H':Hp}
end
end Pg
namespace K10
open PySem PySem.NumText L2 Pg
seal PE PA PT PW PS y8 PG vz PI j8 PO PK
section
variable {P:Program} {w:World} {K:BFr} {mg:Str→Option Value} {base:Heap} {f:Addr} {fd:FuncData} {d:Nat→Addr} {cR:Addr}
set_option maxHeartbeats 16000000 in
theorem Rb (F:qM K "_law_word" "_law_word" (zX 97) f fd) (G:jW mg) (D:cm mg d):UJ P w K mg base 1 f fd ["_law_e"] (XO K d):=by
 have nd:(["_law_e","_law_found","_law_words"]:List Str).Nodup:=by decide +kernel
 refine F.okQ (N:=["_law_e","_law_found","_law_words"]) (by walk_at"s") (fun vs H Q E h=>?_) (fun cdv A outer s H vs Q hr hq h=>?_)
 ·obtain⟨ea,C,i,rfl,_⟩:=h
  rfl
 ·obtain⟨ea,C,i,rfl,h0,kd,hi,q⟩:=h
  refine' ⟨_,(jf (zI (i:=1) nd rfl (Or.inl rfl) (zU (za (zv zJ rfl G.isinstance zE (za (pv 0) (za (zZ (v:=.ref (d 0)) rfl D.g0 rfl) zd))) (za (zv zJ rfl G.isinstance zE (za (pv 0) (za (zZ (v:=.ref (d 1)) rfl D.g1 rfl) zd))) (za (zv zJ rfl G.isinstance zE (za (pv 0) (za (zZ (v:=.ref (d 2)) rfl D.g2 rfl) zd))) (za (zv zJ rfl G.isinstance zE (za (pv 0) (za (zZ (v:=.ref (d 3)) rfl D.g3 rfl) zd))) zd))))))
    (jf (zI (i:=1) nd rfl (Or.inl rfl) (zt je (pv 1) (zU (za (zv zJ rfl G.isinstance zE (za (pv 0) (za (zZ (v:=.ref (d 4)) rfl D.g4 rfl) zd))) (za (zv zJ rfl G.isinstance zE (za (pv 0) (za (zZ (v:=.ref (d 5)) rfl D.g5 rfl) zd))) (za (zv zJ rfl G.isinstance zE (za (pv 0) (za (zZ (v:=.ref (d 6)) rfl D.g6 rfl) zd))) (za (zv zJ rfl G.isinstance zE (za (pv 0) (za (zZ (v:=.ref (d 7)) rfl D.g7 rfl) zd))) zd)))))))
    (jf (zI (i:=1) nd rfl (Or.inl rfl) (zt je (pv 1) (zU (za (zv zJ rfl G.isinstance zE (za (pv 0) (za (zZ (v:=.ref (d 8)) rfl D.g8 rfl) zd))) (za (zv zJ rfl G.isinstance zE (za (pv 0) (za (zZ (v:=.ref (d 9)) rfl D.g9 rfl) zd))) (za (zv zJ rfl G.isinstance zE (za (pv 0) (za (zZ (v:=.ref (d 10)) rfl D.g10 rfl) zd))) (za (zv zJ rfl G.isinstance zE (za (pv 0) (za (zZ (v:=.ref (d 11)) rfl D.g11 rfl) zd))) zd)))))))
    (jf (zI (i:=1) nd rfl (Or.inl rfl) (zt je (pv 1) (zU (za (zv zJ rfl G.isinstance zE (za (pv 0) (za (zZ (v:=.ref (d 12)) rfl D.g12 rfl) zd))) (za (zv zJ rfl G.isinstance zE (za (pv 0) (za (zZ (v:=.ref (d 13)) rfl D.g13 rfl) zd))) (za (zv zJ rfl G.isinstance zE (za (pv 0) (za (zZ (v:=.ref (d 14)) rfl D.g14 rfl) zd))) zd))))))
    (zg (zI (i:=2) nd rfl (Or.inl rfl) (zU (za zj (za zj (za zj (za zj (za zj (za zj (za zj (za zj (za zj (za zj (za zj (za zj zd))))))))))))))
    (zg (zK (PW.pt (yM (zw vP (qY PySem.F.plainAttrs_list PySem.F.slot_list_count PySem.F.type_list_count pM (pv 1) (za jj zd)) ze (zD _)) (yU (qz (qy (zv zJ rfl G.isinstance zE (za (pv 0) (za (yw (v:=.ty "ValueError") rfl G.ve ML rfl) zd)))))))) (zh (zm zj)) zB)
    (zh (zm (zC zA (zt je (pv 2) (zU (za zj (za zj (za zj zd))))) (qY PySem.F.plainAttrs_list PySem.F.slot_list_index PySem.F.type_list_index P8 (pv 1) (za jj zd))))))))))),?main⟩
  refine jX (fun σ H'=>∃ l,σ = [some (.ref ea),some (.ref l),none]∧zu H H'∧H' l=some (.lst ([decide (i=0),decide (i=1),decide (i=2),decide (i=3)].map V.bl))) (fun Ek kk=>?_) ?_
  ·exact⟨_,rfl,_,_,_,_,_,rfl,rfl,h0.ty,kd.k0,_,rfl,_,_,_,_,_,rfl,rfl,h0.ty,kd.k1,_,rfl,_,_,_,_,_,rfl,rfl,h0.ty,kd.k2,_,rfl,_,_,_,_,_,rfl,rfl,h0.ty,kd.k3,z6 rfl,fun l1 H1 s1 n1 e1=>kk _ _ ⟨l1,rfl,s1,e1⟩⟩
  rintro σ H1 ⟨l1,rfl,s1,e1⟩
  have h1:=h0.same s1
  refine jX (fun σ H'=>∃ l,σ = [some (.ref ea),some (.ref l),none]∧zu H H'∧H' l=some (.lst ([decide (i=0),decide (i=1),decide (i=2),decide (i=3),decide (i=4),decide (i=5),decide (i=6),decide (i=7)].map V.bl))) (fun Ek kk=>?_) ?_
  ·exact⟨_,rfl,_,rfl,_,_,_,_,_,rfl,rfl,h1.ty,kd.k4,_,rfl,_,_,_,_,_,rfl,rfl,h1.ty,kd.k5,_,rfl,_,_,_,_,_,rfl,rfl,h1.ty,kd.k6,_,rfl,_,_,_,_,_,rfl,rfl,h1.ty,kd.k7,z6 rfl,fun l2 H2 s2 n2 e2=>⟨l1,l2,_,_,rfl,rfl,s2 _ _ e1,e2,by rw[sizeLine_eq];exact cY rfl,fun l3 H3 s3 n3 e3=>kk _ _ ⟨l3,rfl,s1.trans (s2.trans s3),e3⟩⟩⟩
  rintro σ H3 ⟨l3,rfl,S3,e3⟩
  have h3:=h0.same S3
  refine jX (fun σ H'=>∃ l,σ = [some (.ref ea),some (.ref l),none]∧zu H H'∧H' l=some (.lst ([decide (i=0),decide (i=1),decide (i=2),decide (i=3),decide (i=4),decide (i=5),decide (i=6),decide (i=7),decide (i=8),decide (i=9),decide (i=10),decide (i=11)].map V.bl))) (fun Ek kk=>?_) ?_
  ·exact⟨_,rfl,_,rfl,_,_,_,_,_,rfl,rfl,h3.ty,kd.k8,_,rfl,_,_,_,_,_,rfl,rfl,h3.ty,kd.k9,_,rfl,_,_,_,_,_,rfl,rfl,h3.ty,kd.k10,_,rfl,_,_,_,_,_,rfl,rfl,h3.ty,kd.k11,z6 rfl,fun l4 H4 s4 n4 e4=>⟨l3,l4,_,_,rfl,rfl,s4 _ _ e3,e4,by rw[sizeLine_eq];exact cY rfl,fun l5 H5 s5 n5 e5=>kk _ _ ⟨l5,rfl,S3.trans (s4.trans s5),e5⟩⟩⟩
  rintro σ H5 ⟨l5,rfl,S5,e5⟩
  have h5:=h0.same S5
  refine jX (fun σ H'=>∃ l,σ = [some (.ref ea),some (.ref l),none]∧zu H H'∧H' l=some (.lst ([decide (i=0),decide (i=1),decide (i=2),decide (i=3),decide (i=4),decide (i=5),decide (i=6),decide (i=7),decide (i=8),decide (i=9),decide (i=10),decide (i=11),decide (i=12),decide (i=13),decide (i=14)].map V.bl))) (fun Ek kk=>?_) ?_
  ·exact⟨_,rfl,_,rfl,_,_,_,_,_,rfl,rfl,h5.ty,kd.k12,_,rfl,_,_,_,_,_,rfl,rfl,h5.ty,kd.k13,_,rfl,_,_,_,_,_,rfl,rfl,h5.ty,kd.k14,z6 rfl,fun l6 H6 s6 n6 e6=>⟨l5,l6,_,_,rfl,rfl,s6 _ _ e5,e6,by rw[sizeLine_eq];exact cY rfl,fun l7 H7 s7 n7 e7=>kk _ _ ⟨l7,rfl,S5.trans (s6.trans s7),e7⟩⟩⟩
  rintro σ H7 ⟨l7,rfl,S7,e7⟩
  refine⟨z6 rfl,fun wl H8 s8 n8 e8=>?_⟩
  have e7':=s8 _ _ e7
  have h8:=(h0.same S7).same s8
  have S8:=S7.trans s8
  have c1:([decide (i=0),decide (i=1),decide (i=2),decide (i=3),decide (i=4),decide (i=5),decide (i=6),decide (i=7),decide (i=8),decide (i=9),decide (i=10),decide (i=11),decide (i=12),decide (i=13),decide (i=14)]).countP id=1:=by subst hi;rfl
  refine⟨_,rfl,.inl ⟨rfl,_,zY.of e7'⟩,l7,_,rfl,rfl,e7',rfl,_,rfl,?_⟩
  rw[c1]
  refine qN ⟨_,rfl,_,_,_,_,_,rfl,rfl,h8.ty,kd.ve,_,rfl,qN ?_⟩
  refine⟨_,rfl,z6 rfl,fun l9 H9 s9 n9 e9=>⟨wl,l9,_,_,rfl,rfl,s9 _ _ e8,e9,by decide,fun la Ha sa na ea'=>?_⟩⟩
  have e7a:=sa _ _ (s9 _ _ e7')
  refine⟨_,rfl,.inl ⟨rfl,_,zY.of e7a⟩,l7,_,i,rfl,rfl,e7a,?_,(fun m hm=>?_),la,_,_,_,rfl,rfl,zY.of ea',?_,q Ha (S8.trans (s9.trans sa))⟩
  ·subst hi;rfl
  ·subst hi
   match m,hm with
   | 0,_=>rfl
   | 1,_=>rfl
   | 2,_=>rfl
   | 3,_=>rfl
   | 4,_=>rfl
  ·subst hi;rfl
end
end K10
namespace Pg
open PySem PySem.NumText L2 Builtin Builtin.Str
noncomputable def Qa (K:BFr) (Cs:Nat→Addr):Sp:=fun vs H Q _=>∃ v,vs=[v]∧((vG K H v∧∀ H',zu H H'→Q (.str "rule") H')∨∃ z,v = .str z∧z.length≤50000∧∀ H',zu H H'→(∀ r o l,uk 3 (Txt.split z " ")=some r→wG Cs H' r o→H' l=some (.lst [o])→Q (.ref l) H')∧(uk 3 (Txt.split z " ")=none→Q (.str "rule") H'))
theorem yW {k:Nat} {z:Str} {r:Int} (h:q9 k z=some r):z=toString r:=by
 unfold q9 at h
 split at h
 case isFalse=>cases h
 case isTrue c =>
  cases h
  exact wu ((Jl rfl c.2).trans (uD _).symm)
theorem Ur (c:Nat):∀ (ws:List Str) (w:Str),(Str.join ⟨#[c]⟩ (w::ws)).cps.toList=w.cps.toList++((ws.map fun p=>p.cps.toList).map fun v=>c::v).flatten:=by
 intro ws
 induction ws with
 | nil=>exact fun w=>(CK _).symm
 | cons x r ih =>
  intro w
  show (w++(⟨#[c]⟩:Str)++Str.join ⟨#[c]⟩ (x::r)).cps.toList=_
  rw[yp,yp,ih x,Da]
  rfl
theorem kj (z:Str) (c:Nat):Txt.join ⟨#[c]⟩ (Txt.split z ⟨#[c]⟩)=z:=by
 obtain⟨_,_,w,ws,e⟩:=yo z ⟨#[c]⟩
 have h:=StrLaws.join_split z ⟨#[c]⟩
 rw[e] at h ⊢
 refine Eq.trans (wu ?_) h
 rw[yT,Ur]
theorem W8 {ws:List Str} {ps:List (Int × Int)} (h:yY ws=some ps):ws.map yt=ps.map some:=by
 unfold yY at h
 split at h
 case isFalse=>cases h
 case isTrue c =>
  cases h
  obtain⟨qs,e⟩:=Jj c
  rw[e,List.filterMap_map]
  congr 1
  exact (List.filterMap_some).symm
theorem om {w:Str} {q:Int × Int} (h:yt w=some q):w=ue q:=by
 unfold yt at h
 split at h
 ·rename_i a b e
  cases ha:q9 13 a with
  | none=>rw[ha] at h;cases h
  | some x =>
   cases hb:q9 13 b with
   | none=>rw[ha,hb] at h;cases h
   | some y =>
    rw[ha,hb] at h
    cases h
    have:=kj w 58
    rw[← cb,e,yW ha,yW hb] at this
    rw[xO,← cb]
    exact this.symm
 ·cases h
theorem pC {a:Str} {ps:List (Int × Int)} (h:yY (Txt.split a ",")=some ps):a=Zt ps:=by
 have e:=W8 h
 have:Txt.split a "," = ps.map ue:=by
  refine Dk fun i=>?_
  have ei:=congrArg (fun l=>l[i]?) e
  have ei:((Txt.split a ",").map yt)[i]? = (ps.map some)[i]?:=ei
  rw[cW,cW] at ei
  rw[cW]
  cases h1:(Txt.split a ",")[i]? with
  | none =>
   cases h2:ps[i]? with
   | none=>rfl
   | some q=>rw[h1,h2] at ei;cases ei
  | some w =>
   cases h2:ps[i]? with
   | none=>rw[h1,h2] at ei;cases ei
   | some q =>
    rw[h1,h2] at ei
    have ei:some (yt w)=some (some q):=ei
    show some w=some (ue q)
    rw[om (Option.some.inj ei)]
 have j:=kj a 44
 rw[← bE,this] at j
 exact j.symm
theorem Wz {ws:List Str} {R:Rk} (h:jC ws=some R):wW R=ws:=by
 unfold jC at h
 split at h
 ·rename_i k n a
  split at h
  ·rename_i ek
   subst ek
   obtain⟨r,er,eb,rfl⟩:=yf (c:=fun r=>yP n&&uJ r) (g:=fun r=>Rk.flat n r) h
   rw[yW er]
   rfl
  ·cases h
 ·rename_i k n a w
  split at h
  ·rename_i ek
   subst ek
   obtain⟨r,er,eb,rfl⟩:=yf (c:=fun p=>yP n&&(vB p&&wayL.contains w)) (g:=fun p=>Rk.share n p w) h
   rw[yW er]
   rfl
  ·split at h
   ·rename_i ek
    subst ek
    obtain⟨r,er,eb,rfl⟩:=yf (c:=fun ps=>yP n&&(Jq (Jd ps)&&wayL.contains w)) (g:=fun ps=>Rk.bands n ps w) h
    rw[pC er]
    rfl
   ·cases h
 ·rename_i k n a b w
  split at h
  ·rename_i ek
   subst ek
   obtain⟨p,m,er,em,eb,rfl⟩:=vR (c:=fun p m=>yP n&&((vB p&&wayL.contains w)&&uJ m)) (g:=fun p m=>Rk.capped n p m w) h
   rw[yW er,yW em]
   rfl
  ·split at h
   ·rename_i ek
    subst ek
    obtain⟨p,m,er,em,eb,rfl⟩:=vR (c:=fun p m=>yP n&&((vB p&&wayL.contains w)&&uJ m)) (g:=fun p m=>Rk.least n p m w) h
    rw[yW er,yW em]
    rfl
   ·cases h
 ·cases h
theorem Xs:∀ {d:Nat} {ws:List Str} {R:Rk},uk d ws=some R→wW R=ws:=by
 intro d
 induction d with
 | zero =>
  intro ws R h
  cases e:vF ws with
  | false=>rw[ux 0 e] at h;exact Wz h
  | true =>
   obtain⟨n,a,w,x,r',rfl⟩:=Yu e
   rw[Zw] at h
   cases h
 | succ d ih =>
  intro ws R h
  cases e:vF ws with
  | false=>rw[ux _ e] at h;exact Wz h
  | true =>
   obtain⟨n,a,w,x,r',rfl⟩:=Yu e
   rw[JR] at h
   cases e2:uk d (x::r') with
   | none=>rw[e2] at h;cases h
   | some r2 =>
    rw[e2] at h
    obtain⟨p,er,eb,rfl⟩:=yf (c:=fun p=>yP n&&(vB p&&wayL.contains w)) (g:=fun p=>Rk.ontop n p w r2) h
    show [("ontop":Str),n,(toString p:Str),w,("of":Str)]++wW r2=_
    rw[ih e2,yW er]
    rfl
theorem UV {z:Str} {R:Rk} (h:uk 3 (Txt.split z " ")=some R):ZR R=z:=by
 rw[xp,Xs h]
 rw[bq]
 exact kj z 32
theorem nP {x:Str} {A B:Prop} (h:B):if (!decide (V.str x=V.str x))=true then A else B:=by
 rw[decide_eq_true rfl]
 exact qN h
theorem Pb {x:Int} {A B:Prop} (h:B):if (!decide (V.int x=V.int x))=true then A else B:=by
 rw[decide_eq_true rfl]
 exact qN h
noncomputable def XZ (K:BFr):Sp:=fun vs H Q _=>∃ z b bs,vs=[.str z,.ref b]∧z.length≤50000∧zY K H b (bs.map V.int)∧bs.length≤50∧Lo bs∧∀ H',zu H H'→Q (.bl true) H'
noncomputable def yr (zs:List Str):Nat:=(zs.map fun z=>z.length+1).sum
theorem kx (a b:List Str):yr (a++b)=yr a+yr b:=by
 unfold yr
 rw[Ci,List.sum_append_nat]
theorem lj (ws:List Str) (i j:Nat):yr ((ws.drop i).take j)≤yr ws:=by
 have h1:yr ws=yr (ws.take i)+yr (ws.drop i):=by rw[← kx,DN]
 have h2:yr (ws.drop i)=yr ((ws.drop i).take j)+yr ((ws.drop i).drop j):=by rw[← kx,DN]
 omega
theorem Pu {c:Nat} {zs:List Str} (h:yr zs≤1000000):JoinOk ⟨#[c]⟩ zs=true∧(Txt.join ⟨#[c]⟩ zs).length≤yr zs:=by
 have key:∀ (zs:List Str) (k:Nat),zs.foldl (fun a z=>a+z.length+(⟨#[c]⟩:Str).length) k=k+yr zs:=by
  intro zs
  induction zs with
  | nil=>exact fun k=>rfl
  | cons z r ih =>
   intro k
   rw[d5,ih]
   show k+z.length+1+yr r=k+(z.length+1+yr r)
   omega
 constructor
 ·unfold JoinOk Builtin.Str.tooLong
  rw[List.foldl_toArray,dz,decide_eq_false_iff_not,sizeLine_eq]
  rw[key]
  omega
 ·cases zs with
  | nil=>exact Cw _
  | cons w ws =>
   rw[qg,yT,Cb,← qg]
   have:∀ ws:List Str,((ws.map fun p=>p.cps.toList).map fun v=>c::v).flatten.length=yr ws:=by
    intro ws
    induction ws with
    | nil=>rfl
    | cons v r ih =>
     rw[CF,CF,Dw,Cb,ih]
     show v.cps.toList.length+1+yr r=v.length+1+yr r
     rw[← qg]
   rw[this]
   show w.length+yr ws≤w.length+1+yr ws
   omega
theorem Yn (z:Str) (c:Nat):yr (Txt.split z ⟨#[c]⟩)=z.length+1:=by
 obtain⟨_,_,w,ws,e⟩:=yo z ⟨#[c]⟩
 have h:=kj z c
 rw[e] at h ⊢
 have:∀ ws:List Str,((ws.map fun p=>p.cps.toList).map fun v=>c::v).flatten.length=yr ws:=by
  intro ws
  induction ws with
  | nil=>rfl
  | cons v r ih =>
   rw[CF,CF,Dw,Cb,ih]
   show v.cps.toList.length+1+yr r=v.length+1+yr r
   rw[← qg]
 have l:=congrArg Str.length h
 rw[qg,yT,Cb,← qg,this] at l
 show w.length+1+yr ws=z.length+1
 omega
theorem nM (ws:List Str) (lo hi:Option Int):∃ us:List Str,yX (ws.map V.str) lo hi=us.map V.str∧yr us≤yr ws∧us.length≤ws.length:=by
 unfold yX
 refine⟨(ws.drop _).take _,by rw[DU,List.map_drop],lj _ _ _,?_⟩
 rw[Cz,dX]
 omega
theorem lG (v:Str):yr [v]=v.length+1:=rfl
theorem Uk (ws:List Str):ws.length≤yr ws:=by
 induction ws with
 | nil=>exact Cw _
 | cons x r ih =>
  show r.length+1≤x.length+1+yr r
  omega
theorem Uy (ps:List Str):yr (ps.map fun p=>p++(",":Str)++p)=2*yr ps:=by
 induction ps with
 | nil=>rfl
 | cons x r ih =>
  show (x++(",":Str)++x).length+1+yr (r.map fun p=>p++(",":Str)++p)=2*(x.length+1+yr r)
  rw[ih,qe,qe,show (",":Str).length=1 by decide +kernel]
  omega
noncomputable def WE:Sp:=fun vs H Q _=>∃ z n,vs=[.str z,.int n]∧z.length≤10000∧0≤n∧∀ x H',x.length≤4*z.length+20→zu H H'→Q (.str x) H'
theorem kD {z:Str} (h:1616<z.length):uk 3 (Txt.split z " ")=none:=by
 cases e:uk 3 (Txt.split z " ") with
 | none=>rfl
 | some R =>
  have l:=uZ (pS e)
  rw[UV e] at l
  omega
theorem gg {α:Type} {o:Option α} (h:o.isNone=true):o=none:=by
 cases o with
 | none=>rfl
 | some x=>cases h
theorem PN:uk 3 (Txt.split "" " ")=none:=gg (by decide +kernel)
theorem OT:uk 3 (Txt.split " " " ")=none:=gg (by decide +kernel)
theorem gZ {K:BFr} {Cs:Nat→Addr} {v:V} {H:Hp} {Q:VK} {E:XK} (h:vG K H v∨∃ z,v = .str z∧z.length≤50000∧uk 3 (Txt.split z " ")=none) (k:∀ H',zu H H'→Q (.str "rule") H'):Qa K Cs [v] H Q E:=by
 refine⟨v,rfl,?_⟩
 rcases h with h | ⟨z,e,l,n⟩
 ·exact .inl ⟨h,k⟩
 ·refine .inr ⟨z,e,l,fun H' s=>⟨fun r o l er=>?_,fun _=>k H' s⟩⟩
  rw[n] at er
  cases er
end Pg
namespace K10
open PySem PySem.NumText L2 Pg
seal PE PA PT PW PS y8 PG vz PI j8 PO PK
section
variable {P:Program} {w:World} {K:BFr} {mg:Str→Option Value} {base:Heap} {f:Addr} {fd:FuncData} {d:Nat→Addr} {cR:Addr}
theorem LP {j:Nat} (F:qM K "_law_read" "_law_read" (zX 95) f fd) (C1:qR P w K mg base zQ j "_law_by_words" ["_law_words","_law_deep"] (Vo 4)):zL P w K mg base zQ (j+1) f fd ["_law_text"] O6:=by
 refine F.ok (N:=["_law_text"]) (by walk_at"s") (fun vs H Q E h=>?_) (fun cdv A outer s H vs Q E hr h=>?_)
 ·obtain⟨z,rfl,_⟩:=h
  rfl
 ·obtain⟨z,rfl,hz,q⟩:=h
  have zf:z.length≤sizeLine:=uq hz rfl
  obtain⟨sl,sn,w0,wr,ew⟩:=yo z " "
  refine⟨_,zh (zm (zk C1 hr (cP _) zx (za (qY PySem.F.plainAttrs_str PySem.F.slot_str_split PySem.F.type_str_split jT (pv 0) (za zj zd)) (za ze zd)))),_,rfl,rfl,_,_,rfl,rfl,rfl,zf,yS _ hz,fun l H1 s1 n1 e1=>⟨l,_,0,rfl,⟨e1,by omega,fun w hw=>cZ (sn w hw) hz⟩,(by rw[ew];intro z;cases z),by decide,by decide,fun v H2 s2 rt=>q v H2 (s1.trans s2) rt⟩⟩
set_option maxHeartbeats 8000000 in
theorem Mi {Cs:Nat→Addr} {j:Nat} (hj:1≤j) (F:qM K "_law_told" "_law_told" (zX 98) f fd) (mgR:mg "RollError" = some (.ref cR)) (Z:Rz K d cR 5) (C1:qR P w K mg base (Ts P w) j "rule_of" ["text"] (VQ K Cs (d 5))) (Ck:Rp P w K mg base 1 "_law_word" ["_law_e"] (XO K d)):zL P w K mg base zQ (j+1) f fd ["_law_text"] (Qa K Cs):=by
 have nd:(["_law_text","_law_e"]:List Str).Nodup:=by decide +kernel
 refine F.ok (N:=["_law_text","_law_e"]) (by walk_at"s") (fun vs H Q E h=>?_) (fun cdv A outer s H vs Q E hr h=>?_)
 ·obtain⟨v,rfl,_⟩:=h
  rfl
 ·obtain⟨v,rfl,h⟩:=h
  obtain⟨R,hR⟩:∃ R:XK,R=fun cls _ H'=>cls = .ref (d 5)∧zu H H'∧∀ z,v = .str z→uk 3 (Txt.split z " ")=none:=⟨_,rfl⟩
  refine' ⟨_,zh (mO (C:=kW) (R:=R) (i:=1) (th:=fun ea=>Mx (xy ((A.deeper (PyProof.Rows.envOfC "_law_told" (zW (zX 98)) s.heap.objs.size f cdv)).mark (some (.ref ea))) (XO K d) (qX (qd 1) jy))) (tb:=Mx (nS (qX (fun σ H Q=>qX (qd 0) jy σ H fun vs H1=>VQ K Cs (d 5) vs H1 Q R) jy)))
   rfl rfl rfl mgR (fun cls o H' z=>by
    rw[hR] at z
    obtain⟨rfl,_⟩:=z
    exact Z.ex) nd rfl rfl ?body
   (fun pn ea E=>zh (zm (nh (j:=j) Ck ⟨hr.dp,hr.un⟩ hj (za (pv 1) zd))))),?m1,?m2⟩
  case body =>
   intro pn
   exact zh (zm (zU (za (zk C1 hr (cP _) rP (za (pv 0) zd)) zd)))
  case m1 =>
   subst hR
   refine⟨_,rfl,v,rfl,?_⟩
   rcases h with ⟨ns,q⟩ | ⟨z,rfl,hz,q⟩
   ·refine .inl ⟨ns,rfl,zu.refl _,fun z e=>?_⟩
    exact absurd e (NW ns)
   ·refine .inr ⟨z,rfl,hz,fun H1 s1=>⟨fun r o e ro=>⟨z6 rfl,fun l H2 s2 n2 e2=>(q H2 (s1.trans s2)).1 r o l e (ro.same s2) e2⟩,fun e=>⟨rfl,s1,fun z' ez=>?_⟩⟩⟩
    cases ez
    exact e
  case m2 =>
   subst hR
   rintro ea oe vs cls σ' H' ⟨rfl,s1,re⟩ hne hcl hd1 hd2 h2 hlen
   refine⟨.ref ea,DO (by rw[hlen];show 1<2;decide),.inr ⟨ea,oe,vs,_,rfl,zq,hd2,h2.put hne⟩,ea,d 5,5,rfl,⟨⟨oe,vs,zq,hcl,hd1,hd2⟩,Z.kd.cls⟩,Z.kd,rfl,fun H2 s2=>?_⟩
   have S2:=(s1.trans (zu.upd hne)).trans s2
   rcases h with ⟨ns,q⟩ | ⟨z,rfl,hz,q⟩
   ·exact q H2 S2
   ·exact (q H2 S2).2 (re z rfl)
set_option maxHeartbeats 16000000 in
theorem mG {Cs:Nat→Addr} {j:Nat} (hj:12≤j) (F:qM K "_law_is_right" "_law_is_right" (zX 99) f fd) (G:jW mg) (hc:∀ k,k<6→ZQ K (Cs k)) (hn:∀ k,k<6→qc K (Cs k) "name") (C1:qR P w K mg base zQ j "_law_told" ["_law_text"] (Qa K Cs)) (C2:qR P w K mg base zQ 9 "_law_read" ["_law_text"] O6) (C3:qR P w K mg base zQ 1 "_law_whole" ["_law_found"] Ue) (C4:qR P w K mg base zQ 6 "_law_until" ["_law_rule_here","_law_bases_here"] (kr K 4)) (C5:qR P w K mg base zQ 7 "_law_of_month" ["_law_rule_here","_law_bases_here"] (gU K 3)) (MU:∀ k,k<6→q8 P w K mg base zQ 10 (Cs k) "until" ["self","bases"] (jd K 3 k Cs)) (MO:∀ k,k<6→q8 P w K mg base zQ 11 (Cs k) "of_month" ["self","bases"] (XU K 3 k Cs)) (MR:∀ k,k<6→q8 P w K mg base zQ 4 (Cs k) "row" ["self"] (jA 3 k Cs)):zL P w K mg base zQ (j+1) f fd ["_law_text","_law_bases_here"] (XZ K):=by
 have nd:(["_law_text","_law_bases_here","_law_found","_law_due","_law_k","_law_until_here"]:List Str).Nodup:=by decide +kernel
 refine F.ok (N:=["_law_text","_law_bases_here","_law_found","_law_due","_law_k","_law_until_here"]) (by walk_at"s") (fun vs H Q E h=>?_) (fun cdv A outer s H vs Q E hr h=>?_)
 ·obtain⟨z,b,bs,rfl,_⟩:=h
  rfl
 ·obtain⟨z,b,bs,rfl,hz,hb,bl,bn,q⟩:=h
  refine⟨_,(zg (zI (i:=2) nd rfl (Or.inl rfl) (zk C1 hr (cP _) zx (za (pv 0) zd)))
    (zg (zI (i:=3) nd rfl (Or.inl rfl) (zk C2 hr (by omega) zx (za (pv 0) zd)))
    (zg (zK (zw NI (pv 3) jv (zD _)) (zh (zm (qj qh (pv 2) zj (zD _)))) zB)
    (zg (zK (PW.pt (yM (qz (qy (zv zJ rfl G.isinstance zE (za (pv 2) (za (yw (v:=.ty "list") rfl G.list oy rfl) zd))))) (yM (zw vP (zR (zC zA (pv 2) ze) rfl) (zC zT (pv 3) ze) (zD _)) (yU (zw vP (vM (p:=fun k=>k<6) fun k hk=>vo (MR k hk) hr (by omega) zx (zC zA (pv 2) ze)) (pv 0) (zD _)))))) (zh (zm jj)) zB)
    (zg (vW PassesOwn.never rfl (yg rfl G.range (za (zt qk (zv zO rfl G.len boot_len (za (pv 1) zd)) ze) zd)) (z5 (i:=4) nd rfl (Or.inl rfl)) (zg (zI (i:=5) nd rfl (Or.inl rfl) (vM (p:=fun k=>k<6) fun k hk=>kC (MU k hk) hr (by omega) zx (zC zA (pv 2) ze) (za (qp yn (pv 1) qL (qC (pv 4))) zd)))
    (zg (zK (PW.pt (yM (qz (qy (zk C3 hr (by omega) zx (za (pv 5) zd)))) (yU (zw vP (pv 5) (zk C4 hr (by omega) zx (za (pv 3) (za (qp yn (pv 1) qL (qC (pv 4))) zd))) (zD _))))) (zh (zm jj)) zB)
    (zh (zK (zw vP (vM (p:=fun k=>k<6) fun k hk=>kC (MO k hk) hr (by omega) zx (zC zA (pv 2) ze) (za (qp yn (pv 1) qL (qC (pv 4))) zd)) (zk C5 hr (by omega) zx (za (pv 3) (za (qp yn (pv 1) qL (qC (pv 4))) zd))) (zD _)) (zh (zm jj)) zB)))))
    (zh (zm jj))))))),?_⟩
  walk_at"d3"
  refine⟨_,rfl,.str z,rfl,.inr ⟨z,rfl,hz,fun H1 s1=>?_⟩⟩
  cases er:uk 3 (Txt.split z " ") with
  | none =>
   refine⟨fun r o l e=>(nomatch e),fun _=>?_⟩
   refine⟨_,rfl,z,rfl,hz,fun v H2 s2 rt=>?_⟩
   rw[er] at rt
   have rt:v = .non:=rt
   subst rt
   exact⟨_,rfl,rfl,_,rfl,qZ ⟨_,rfl,rfl,q H2 (s1.trans s2)⟩⟩
  | some r =>
   refine⟨fun r' o l e ro el=>?_,fun e=>nomatch e⟩
   cases e
   refine⟨_,rfl,z,rfl,hz,fun v H2 s2 rt=>?_⟩
   rw[er] at rt
   have rt:Vu H2 r v:=rt
   have gd:Gd 3 r:=pS er
   have rb:ZR r=z:=UV er
   obtain⟨t,tl,rfl,ht,hnm⟩:=rt.name gd
   have el2:=s2 _ _ el
   have ro2:=ro.same s2
   obtain⟨oa,dx,fs,rfl,ho,nm,no⟩:=ro2.obj gd
   have S2:=s1.trans s2
   refine⟨_,rfl,rfl,_,rfl,qN ?_⟩
   refine⟨_,rfl,_,_,_,_,true,rfl,rfl,.inl (.lst el2),rfl,true,rfl,qN ?_⟩
   refine⟨_,rfl,l,_,_,_,rfl,rfl,zY.of el2,rfl,oa,_,dx,fs,_,rfl,ho,hc _ (Lm r),hn _ (Lm r),nm,_,rfl,t,_,_,_,rfl,rfl,qw.of ht,hnm,rfl,_,rfl,nP ?_⟩
   refine⟨r.kd,Lm r,_,rfl,l,_,_,_,rfl,rfl,zY.of el2,rfl,oa,dx,fs,rfl,ho,no "row" (by decide),_,r,rfl,rfl,ro2,gd,fun H3 s3=>?_⟩
   rw[rb]
   refine⟨_,rfl,rfl,_,rfl,nP ?_⟩
   have S3:=S2.trans s3
   have hb3:=S3.seq hb
   have el3:=s3 _ _ el2
   have ho3:=s3 _ _ ho
   have ro3:=ro2.same s3
   have rt3:=rt.same s3
   refine⟨_,rfl,b,_,rfl,.inl hb3,_,_,rfl,rfl,_,rfl,(by rw[cN];omega),(by rw[cN];omega),ji (fun i σ H'=>∃ x4 x5,σ = [some (.str z),some (.ref b),some (.ref l),some (.ref t),x4,x5]∧zu H3 H') ⟨_,_,rfl,zu.refl _⟩ ?_ ?_⟩
   ·rintro i σ H4 hi ⟨x4,x5,rfl,s4⟩ E4 k4
    have z0:(0:Int)+(i:Nat)=(i:Nat):=dR _
    rw[z0]
    have tl:(bs.take i).length≤100:=by rw[Cz];omega
    have cut:∀ {p:Addr} {Hx:Hp},(upd Hx p (.lst (yX (bs.map V.int) none (some ((i:Nat):Int))))) p=some (.lst ((bs.take i).map V.int)):=fun {p Hx}=>by rw[zq,pW]
    refine⟨r.kd,Lm r,_,rfl,l,_,_,_,rfl,rfl,zY.of (s4 _ _ el3),rfl,oa,dx,fs,rfl,s4 _ _ ho3,no "until" (by decide),_,rfl,_,rfl,_,rfl,b,_,rfl,s4.seq hb3,fun p p0=>?_⟩
    have sp:zu H4 (upd H4 p (.lst (yX (bs.map V.int) none (some ((i:Nat):Int))))):=zu.upd p0
    have S4:=s4.trans sp
    refine⟨_,r,p,bs.take i,rfl,rfl,ro3.same S4,gd,zY.of cut,tl,fun H5 s5=>?_⟩
    have S5:=S4.trans s5
    refine⟨_,rfl,_,rfl,true,rfl,qN ⟨_,rfl,_,rfl,_,rfl,_,rfl,_,rfl,b,_,rfl,S5.seq hb3,fun p2 p20=>?_⟩⟩
    have sp2:zu H5 (upd H5 p2 (.lst (yX (bs.map V.int) none (some ((i:Nat):Int))))):=zu.upd p20
    have S6:=S5.trans sp2
    refine⟨_,r,p2,bs.take i,rfl,rt3.same S6,gd,zY.of cut,tl,UD bn _,fun H7 s7=>⟨rfl,_,rfl,Pb ?_⟩⟩
    have S7:=S6.trans s7
    refine⟨r.kd,Lm r,_,rfl,l,_,_,_,rfl,rfl,zY.of (S7 _ _ el3),rfl,oa,dx,fs,rfl,S7 _ _ ho3,no "of_month" (by decide),_,rfl,_,rfl,_,rfl,b,_,rfl,S7.seq hb3,fun p3 p30=>?_⟩
    have sp3:zu H7 (upd H7 p3 (.lst (yX (bs.map V.int) none (some ((i:Nat):Int))))):=zu.upd p30
    have S8:=S7.trans sp3
    refine⟨_,r,p3,bs.take i,rfl,rfl,ro3.same S8,gd,zY.of cut,tl,fun H9 s9=>?_⟩
    have S9:=S8.trans s9
    refine⟨_,rfl,_,rfl,_,rfl,_,rfl,b,_,rfl,S9.seq hb3,fun p4 p40=>?_⟩
    have sp4:zu H9 (upd H9 p4 (.lst (yX (bs.map V.int) none (some ((i:Nat):Int))))):=zu.upd p40
    have SA:=S9.trans sp4
    exact⟨_,r,p4,bs.take i,rfl,rt3.same SA,gd,zY.of cut,tl,UD bn _,fun HB sB=>⟨rfl,_,rfl,Pb (k4 _ _ ⟨_,_,rfl,SA.trans sB⟩)⟩⟩
   ·rintro σ H4 ⟨x4,x5,rfl,s4⟩
    exact q H4 (S3.trans s4)
set_option maxHeartbeats 16000000 in
theorem Pn (F:qM K "_law_bent" "_law_bent" (zX 96) f fd) (G:jW mg):zL P w K mg base zQ 1 f fd ["_law_text","_law_number_here"] WE:=by
 have nd:(["_law_text","_law_number_here","_law_signs","_law_at","_law_sign","_law_words","_law_one","_law_some","_law_word_here"]:List Str).Nodup:=by decide +kernel
 have nc:(["_law_part"]:List Str).Nodup:=by decide +kernel
 refine F.ok (N:=["_law_text","_law_number_here","_law_signs","_law_at","_law_sign","_law_words","_law_one","_law_some","_law_word_here"]) (by walk_at"s") (fun vs H Q E h=>?_) (fun cdv A outer s H vs Q E hr h=>?_)
 ·obtain⟨z,n,rfl,_⟩:=h
  rfl
 ·obtain⟨z,n,rfl,zl,n0,q⟩:=h
  have zf:z.length≤sizeLine:=uq zl rfl
  refine' ⟨_,(zg (zI (i:=2) nd rfl (Or.inl rfl) zj)
    (zg (zI (i:=3) nd rfl (Or.inl rfl) (zt z9 (zt qW (pv 1) ze) (zt qk (zv qU rfl G.len boot_len (za (pv 0) zd)) ze)))
    (zg (zI (i:=4) nd rfl (Or.inl rfl) (zC xh (pv 2) (zt z9 (zt qW (pv 1) ze) (zv qU rfl G.len boot_len (za (pv 2) zd)))))
    (zg (zK (zw uY (zt z9 (pv 1) ze) ze (zD _)) (zh (zm (zt zM (zt zM (qp um (pv 0) qL (qC (pv 3))) (pv 4)) (qp um (pv 0) (qC (pv 3)) qL)))) zB)
    (zg (zK (zw qh (zt z9 (pv 1) ze) ze (zD _)) (zh (zm (zt zM (qp um (pv 0) qL (qC (pv 3))) (qp um (pv 0) (qC (zt qk (pv 3) ze)) qL)))) zB)
    (zg (zK (zw qh (zt z9 (pv 1) ze) ze (zD _)) (zh (zm (zt zM (zt zM (qp um (pv 0) qL (qC (pv 3))) (pv 4)) (qp um (pv 0) (qC (zt qk (pv 3) ze)) qL)))) zB)
    (zg (zI (i:=5) nd rfl (Or.inl rfl) (qY PySem.F.plainAttrs_str PySem.F.slot_str_split PySem.F.type_str_split jT (pv 0) (za zj zd)))
    (zg (zI (i:=6) nd rfl (Or.inl rfl) (zt z9 (zt qW (pv 1) ze) (zv zO rfl G.len boot_len (za (pv 5) zd))))
    (zg (zK (zw qh (zt z9 (pv 1) ze) ze (zD _)) (zh (zm (qY PySem.F.plainAttrs_str PySem.F.slot_str_join PySem.F.type_str_join yB zj (za (zt je (qp yn (pv 5) qL (qC (pv 6))) (qp yn (pv 5) (qC (zt qk (pv 6) ze)) qL)) zd)))) zB)
    (zg (zK (zw qh (zt z9 (pv 1) ze) ze (zD _)) (zh (zm (qY PySem.F.plainAttrs_str PySem.F.slot_str_join PySem.F.type_str_join yB zj (za (zt je (qp yn (pv 5) qL (qC (zt qk (pv 6) ze))) (qp yn (pv 5) (qC (pv 6)) qL)) zd)))) zB)
    (zg (zI (i:=7) nd rfl (Or.inl rfl) (zU (za zj (za zj (za zj (za zj (za zj (za zj (za zj (za zj (za zj (za zj (za zj (za zj zd))))))))))))))
    (zg (zI (i:=8) nd rfl (Or.inl rfl) (zC zA (pv 7) (zt z9 (zt qW (pv 1) ze) ze)))
    (jf (zK (zw qh (zt z9 (pv 1) ze) ze (zD _)) (zh (zI (i:=8) nd rfl (Or.inl rfl) (zt zM zj (zC zA (pv 5) (pv 6))))) zB)
    (jf (zK (zw qh (zt z9 (pv 1) ze) ze (zD _)) (zh (zI (i:=8) nd rfl (Or.inl rfl) (qY PySem.F.plainAttrs_str PySem.F.slot_str_join PySem.F.type_str_join yB zj (za ?comp zd)))) zB)
    (zh (zm (qY PySem.F.plainAttrs_str PySem.F.slot_str_join PySem.F.type_str_join yB zj (za (zt je (zt je (qp yn (pv 5) qL (qC (pv 6))) (zU (za (pv 8) zd))) (qp yn (pv 5) (qC (zt qk (pv 6) ze)) qL)) zd)))))))))))))))))),?main⟩
  case comp =>
   refine' qv (Nc:=["_law_part"]) (cl:=[]) (src:=[none]) (g:=qx 0) (tt:=yb) (te:=jV (fun x y H Q=>∃ i j,x = .str i∧y = .str j∧i.length+j.length≤sizeLine∧Q (.str (i++j)) H) (jV (fun x y H Q=>∃ i j,x = .str i∧y = .str j∧i.length+j.length≤sizeLine∧Q (.str (i++j)) H) (qd 0) (tC (.str ","))) (qd 0)) (by walk_at"c0") rfl (j7 (qY PySem.F.plainAttrs_str PySem.F.slot_str_split PySem.F.type_str_split jT (zC zA (pv 5) (pv 6)) (za zj zd))) ?hb
   case hb =>
    intro fp C' s' H'
    exact⟨z5 (i:=0) nc rfl (Or.inl rfl),qP,zt zM (zt zM (pv 0) zj) (pv 0)⟩
  walk_at"d3"
  have zp:(0:Int)<(z.length:Nat)+1:=by omega
  have gl:("0123456789 ,:abdefnopu-+A\n\t.":Str).length=28:=by decide +kernel
  have gp:(0:Int)<(("0123456789 ,:abdefnopu-+A\n\t.":Str).length:Nat):=by rw[gl];decide
  refine⟨_,rfl,_,_,rfl,rfl,⟨by decide,by decide⟩,_,rfl,z,rfl,zf,_,_,rfl,rfl,_,_,rfl,rfl,zp,?_⟩
  obtain⟨c,ec,_⟩:=vj (xs:=("0123456789 ,:abdefnopu-+A\n\t.":Str).cps.toList) (i:=n/900%(("0123456789 ,:abdefnopu-+A\n\t.":Str).length:Nat)) (Cg _ (by omega)) (Cr _ gp)
  refine⟨_,rfl,_,rfl,_,_,rfl,rfl,⟨by decide,by decide⟩,_,rfl,_,rfl,uq (dW gl) rfl,_,_,rfl,rfl,gp,_,_,c,rfl,rfl,uq (dW gl) rfl,ec,?_⟩
  have sl:∀ lo hi,(Txt.slice z lo hi).length≤z.length:=fun lo hi=>Txt.slice_le z lo hi
  have c1:(⟨#[c]⟩:Str).length=1:=rfl
  have f2:∀ {a b:Nat},a≤2*z.length+1→b≤z.length+1→a+b≤sizeLine:=fun h1 h2=>by rw[sizeLine_eq];omega
  refine⟨_,rfl,_,_,rfl,rfl,(by show (0:Int)<9;decide),_,_,rfl,rfl,_,rfl,qi (fun _=>?_) (fun _=>?_)⟩
  ·have h1:=sl none (some (n/9%((z.length:Nat)+1)))
   have h2:=sl (some (n/9%((z.length:Nat)+1))) none
   exact⟨_,rfl,_,rfl,_,rfl,_,rfl,zf,_,rfl,_,_,rfl,rfl,(by rw[c1,sizeLine_eq];omega),_,rfl,_,rfl,_,rfl,_,rfl,zf,_,_,rfl,rfl,(by rw[qe,c1,sizeLine_eq];omega),q _ H (by rw[qe,qe,c1];omega) (zu.refl _)⟩
  refine⟨_,rfl,_,_,rfl,rfl,(by show (0:Int)<9;decide),rfl,_,rfl,qi (fun _=>?_) (fun _=>?_)⟩
  ·have h1:=sl none (some (n/9%((z.length:Nat)+1)))
   have h2:=sl (some (n/9%((z.length:Nat)+1)+1)) none
   exact⟨_,rfl,_,rfl,_,rfl,_,rfl,zf,_,rfl,_,rfl,_,_,rfl,rfl,_,rfl,_,rfl,zf,_,_,rfl,rfl,(by rw[sizeLine_eq];omega),q _ H (by rw[qe];omega) (zu.refl _)⟩
  refine⟨_,rfl,_,_,rfl,rfl,(by show (0:Int)<9;decide),rfl,_,rfl,qi (fun _=>?_) (fun _=>?_)⟩
  ·have h1:=sl none (some (n/9%((z.length:Nat)+1)))
   have h2:=sl (some (n/9%((z.length:Nat)+1)+1)) none
   exact⟨_,rfl,_,rfl,_,rfl,_,rfl,zf,_,rfl,_,_,rfl,rfl,(by rw[c1,sizeLine_eq];omega),_,rfl,_,rfl,_,_,rfl,rfl,_,rfl,_,rfl,zf,_,_,rfl,rfl,(by rw[qe,c1,sizeLine_eq];omega),q _ H (by rw[qe,qe,c1];omega) (zu.refl _)⟩
  obtain⟨_,sn,w0,wr,ew⟩:=yo z " "
  have ws1:1≤(Txt.split z " ").length:=by rw[ew];exact ee _ _
  have wsm:yr (Txt.split z " ")=z.length+1:=by rw[bq];exact Yn z 32
  refine⟨_,rfl,rfl,_,_,rfl,rfl,rfl,zf,yS _ (by omega),fun l H1 s1 n1 e1=>?_⟩
  generalize Txt.split z " " = ws at e1 ws1 wsm sn
  clear ew
  have wp:(0:Int)<((ws.map V.str).length:Nat):=by rw[cN];omega
  have wl:=Uk ws
  refine⟨_,rfl,_,_,rfl,rfl,⟨by decide,by decide⟩,_,rfl,l,_,rfl,.inl (zY.of e1),_,_,rfl,rfl,wp,?_⟩
  have cat:∀ {lo hi lo2 hi2:Option Int} (v:List Str),yr v≤2*z.length+16→∃ zs:List Str,yX (ws.map V.str) lo hi++v.map V.str++yX (ws.map V.str) lo2 hi2=zs.map V.str∧JoinOk " " zs=true∧(Txt.join " " zs).length≤4*z.length+20:=fun {lo hi lo2 hi2} v hv=>by
   obtain⟨u1,a1,b1,_⟩:=nM ws lo hi
   obtain⟨u2,a2,b2,_⟩:=nM ws lo2 hi2
   have hs:yr (u1++v++u2)≤4*z.length+20:=by rw[kx,kx];omega
   obtain⟨j1,j2⟩:=Pu (c:=32) (zs:=u1++v++u2) (by omega)
   rw[← bq] at j1 j2
   exact⟨u1++v++u2,by rw[a1,a2,Ci,Ci],j1,by omega⟩
  have sz:∀ {lo hi lo2 hi2:Option Int},(yX (ws.map V.str) lo hi).length+1+(yX (ws.map V.str) lo2 hi2).length≤sizeLine:=fun {lo hi lo2 hi2}=>by
   have h1:=uU (ws.map V.str) lo hi
   have h2:=uU (ws.map V.str) lo2 hi2
   rw[cN] at h1 h2
   rw[sizeLine_eq]
   omega
  have sz0:∀ {lo hi lo2 hi2:Option Int},(yX (ws.map V.str) lo hi).length+(yX (ws.map V.str) lo2 hi2).length≤sizeLine:=fun {lo hi lo2 hi2}=>by
   have:=sz (lo:=lo) (hi:=hi) (lo2:=lo2) (hi2:=hi2)
   omega
  refine⟨_,rfl,_,_,rfl,rfl,(by show (0:Int)<9;decide),rfl,_,rfl,qi (fun _=>?_) (fun _=>?_)⟩
  ·refine⟨rfl,_,rfl,_,rfl,_,rfl,l,_,rfl,zY.of e1,fun p p0=>⟨_,rfl,_,rfl,_,_,rfl,rfl,_,rfl,l,_,rfl,zY.of (zu.upd p0 _ _ e1),fun p2 p20=>⟨p,p2,_,_,rfl,rfl,zu.upd p20 _ _ zq,zq,sz0,fun l3 H3 s3 n3 e3=>?_⟩⟩⟩
   obtain⟨zs,ez,j1,j2⟩:=cat (lo:=none) (hi:=some (n/9%((ws.map V.str).length:Nat))) (lo2:=some (n/9%((ws.map V.str).length:Nat)+1)) (hi2:=none) [] (Cw _)
   rw[dJ,CK] at ez
   exact⟨_,zs,l3,rfl,rfl,zY.of (e3.trans (by rw[← ez])),j1,q _ H3 j2 (s1.trans ((zu.upd p0).trans ((zu.upd p20).trans s3)))⟩
  refine⟨_,rfl,_,_,rfl,rfl,(by show (0:Int)<9;decide),rfl,_,rfl,qi (fun _=>?_) (fun _=>?_)⟩
  ·refine⟨rfl,_,rfl,_,rfl,_,_,rfl,rfl,_,rfl,l,_,rfl,zY.of e1,fun p p0=>⟨_,rfl,_,rfl,_,rfl,l,_,rfl,zY.of (zu.upd p0 _ _ e1),fun p2 p20=>⟨p,p2,_,_,rfl,rfl,zu.upd p20 _ _ zq,zq,sz0,fun l3 H3 s3 n3 e3=>?_⟩⟩⟩
   obtain⟨zs,ez,j1,j2⟩:=cat (lo:=none) (hi:=some (n/9%((ws.map V.str).length:Nat)+1)) (lo2:=some (n/9%((ws.map V.str).length:Nat))) (hi2:=none) [] (Cw _)
   rw[dJ,CK] at ez
   exact⟨_,zs,l3,rfl,rfl,zY.of (e3.trans (by rw[← ez])),j1,q _ H3 j2 (s1.trans ((zu.upd p0).trans ((zu.upd p20).trans s3)))⟩
  obtain⟨wx,ewx,mwx⟩:=vj (xs:=ws.map V.str) (i:=n/9%((ws.map V.str).length:Nat)) (Cg _ (by omega)) (Cr _ wp)
  obtain⟨wd,hwd,rfl⟩:=Cp.mp mwx
  have wdl:=sn wd hwd
  refine⟨z6 rfl,fun l3 H3 s3 n3 e3=>?_⟩
  obtain⟨x,ex,mx⟩:=vj (xs:=[V.str "down",V.str "up",V.str "base",V.str "net",V.str "0",V.str "20001",V.str "00",V.str "1000000000000",V.str "1000000000001",V.str "of",V.str "flat",V.str "0:1,0:2"]) (i:=n/900%12) (Cg _ (by decide)) (Cr _ (by decide))
  obtain⟨v,rfl,hv⟩:∃ v,x = .str v∧v.length≤13:=by
   have all:∀ x∈[V.str "down",V.str "up",V.str "base",V.str "net",V.str "0",V.str "20001",V.str "00",V.str "1000000000000",V.str "1000000000001",V.str "of",V.str "flat",V.str "0:1,0:2"],(match x with | .str y=>decide (y.length≤13) | _=>false)=true:=Cn.mp (by decide +kernel)
   have:=all x mx
   cases x with
   | str y=>exact⟨y,rfl,of_decide_eq_true this⟩
   | _=>cases this
  refine⟨_,rfl,_,rfl,_,_,rfl,rfl,⟨by decide,by decide⟩,_,_,rfl,rfl,(by show (0:Int)<12;decide),l3,_,_,_,rfl,rfl,zY.of e3,ex,?_⟩
  have e13:=s3 _ _ e1
  have S3:=s1.trans s3
  refine jX (fun σ H'=>∃ y2 y3 y4 y7 v,σ = [some (.str z),some (.int n),y2,y3,y4,some (.ref l),some (.int (n/9%((ws.map V.str).length:Nat))),y7,some (.str v)]∧v.length≤2*z.length+14∧zu H3 H') (fun Ek kk=>?_) ?_
  ·refine⟨_,rfl,_,_,rfl,rfl,(by show (0:Int)<9;decide),rfl,_,rfl,qi (fun _=>?_) (fun _=>?_)⟩
   ·have h0:("0":Str).length=1:=by decide +kernel
    exact⟨_,rfl,_,rfl,l,_,_,_,rfl,rfl,zY.of e13,ewx,_,_,rfl,rfl,(by rw[h0,sizeLine_eq];omega),kk _ _ ⟨_,_,_,_,_,rfl,by rw[qe,h0];omega,zu.refl _⟩⟩
   ·exact kk _ _ ⟨_,_,_,_,_,rfl,by omega,zu.refl _⟩
  rintro σ H4 ⟨y2,y3,y4,y7,v,rfl,hv,s4⟩
  have e14:=s4 _ _ e13
  refine jX (fun σ H'=>∃ y2 y3 y4 y7 v,σ = [some (.str z),some (.int n),y2,y3,y4,some (.ref l),some (.int (n/9%((ws.map V.str).length:Nat))),y7,some (.str v)]∧v.length≤2*z.length+14∧zu H4 H') (fun Ek kk=>?_) ?_
  ·refine⟨_,rfl,_,_,rfl,rfl,(by show (0:Int)<9;decide),rfl,_,rfl,qi (fun _=>?_) (fun _=>?_)⟩
   ·have wf:wd.length≤sizeLine:=by rw[sizeLine_eq];omega
    have psm:yr (Txt.split wd ",")=wd.length+1:=by rw[bE];exact Yn wd 44
    obtain⟨_,pn,_⟩:=yo wd ","
    refine⟨rfl,_,rfl,_,rfl,l,_,_,_,rfl,rfl,zY.of e14,ewx,rfl,_,_,rfl,rfl,rfl,wf,yS _ (by omega),fun l5 H5 s5 n5 e5=>?_⟩
    generalize Txt.split wd "," = ps at e5 psm pn
    have pl:=Uk ps
    refine⟨l5,rfl,⟨_,zY.of e5⟩,fun D hD=>wB (vg (zY.of e5)) hD (by rw[cN,sizeLine_eq];omega) (fun _=>true) (fun x=>match x with | .str p=>.str (p++(",":Str)++p) | v=>v) (fun x hx H' R _ r=>r) (fun x hx _ H' R _ r=>?_) ?_⟩
    ·obtain⟨p,hp,rfl⟩:=Cp.mp hx
     have p1:=pn p hp
     have k1:(",":Str).length=1:=by decide +kernel
     exact⟨_,rfl,_,_,rfl,rfl,(by rw[k1,sizeLine_eq];omega),_,rfl,_,_,rfl,rfl,(by rw[qe,k1,sizeLine_eq];omega),r⟩
    ·have em:((ps.map V.str).filter fun _=>true).map (fun x=>match x with | .str p=>.str (p++(",":Str)++p) | v=>v)=(ps.map fun p=>p++(",":Str)++p).map V.str:=by
      rw[DF.mpr fun _ _=>rfl,CH,CH]
      rfl
     rw[em]
     obtain⟨j1,j2⟩:=Pu (c:=44) (zs:=ps.map fun p=>p++(",":Str)++p) (by rw[Uy];omega)
     rw[← bE] at j1 j2
     rw[Uy] at j2
     exact⟨_,_,D,rfl,rfl,zY.of zq,j1,kk _ _ ⟨_,_,_,_,_,rfl,by omega,s5.trans (zu.upd hD)⟩⟩
   ·exact kk _ _ ⟨_,_,_,_,_,rfl,hv,zu.refl _⟩
  rintro σ H5 ⟨y2,y3,y4,y7,v,rfl,hv,s5⟩
  have e15:=s5 _ _ e14
  have S5:=S3.trans (s4.trans s5)
  refine⟨rfl,_,rfl,_,rfl,_,rfl,l,_,rfl,zY.of e15,fun p p0=>⟨_,rfl,z6 rfl,fun l6 H6 s6 n6 e6=>⟨p,l6,_,_,rfl,rfl,s6 _ _ zq,e6,?_,fun l7 H7 s7 n7 e7=>?_⟩⟩⟩
  ·have:=sz (lo:=none) (hi:=some (n/9%((ws.map V.str).length:Nat))) (lo2:=none) (hi2:=none)
   show _+1≤_
   omega
  have e17:=s7 _ _ (s6 _ _ (zu.upd p0 _ _ e15))
  refine⟨_,rfl,_,rfl,_,_,rfl,rfl,_,rfl,l,_,rfl,zY.of e17,fun p2 p20=>⟨l7,p2,_,_,rfl,rfl,zu.upd p20 _ _ e7,zq,?_,fun l9 H9 s9 n9 e9=>?_⟩⟩
  ·rw[Cb]
   exact sz
  obtain⟨zs,ez,j1,j2⟩:=cat (lo:=none) (hi:=some (n/9%((ws.map V.str).length:Nat))) (lo2:=some ((n/9%((ws.map V.str).length:Nat))+1)) (hi2:=none) [v] (by rw[lG];omega)
  exact⟨_,zs,l9,rfl,rfl,zY.of (e9.trans (by rw[← ez];rfl)),j1,q _ H9 j2 (S5.trans ((zu.upd p0).trans (s6.trans (s7.trans ((zu.upd p20).trans s9)))))⟩
set_option maxHeartbeats 16000000 in
theorem rH {Cs:Nat→Addr} {j:Nat} (hj:25≤j) (F:qM K "law" "law" (zX 100) f fd) (G:jW mg) (C1:qR P w K mg base zQ 1 "_law_cell_at" ["_law_script","_law_k"] (gb K)) (C2:qR P w K mg base zQ 1 "_law_mixed" ["_law_cell","_law_k"] j9) (C3:qR P w K mg base zQ 2 "_law_names" ["_law_cell","_law_many"] gH) (C4:qR P w K mg base zQ 4 "_law_plain" ["_law_cell","_law_name","_law_kind"] Vl) (C5:qR P w K mg base zQ 5 "_law_rule" ["_law_cell","_law_name"] UM) (C6:qR P w K mg base zQ 3 "_law_bases" ["_law_cell","_law_many"] gi) (C7:qR P w K mg base zQ 2 "_law_parts" ["_law_cell","_law_k"] kq) (C8:qR P w K mg base zQ 6 "_law_row" ["_law_rule_here"] (Qb 4)) (C9:qR P w K mg base zQ 1 "_law_bent" ["_law_text","_law_number_here"] WE) (CA:qR P w K mg base zQ 25 "_law_told" ["_law_text"] (Qa K Cs)) (CB:qR P w K mg base zQ j "_law_is_right" ["_law_text","_law_bases_here"] (XZ K)):zL P w K mg base zQ (j+1) f fd ["_law_script"] (Z6 K):=by
 have nd:(["_law_script","_law_names_here","_law_cell","_law_bases_here","_law_text","_law_many","_law_k","_law_asked","_law_one","_law_odd","_law_far","_law_rows"]:List Str).Nodup:=by decide +kernel
 refine F.ok (N:=["_law_script","_law_names_here","_law_cell","_law_bases_here","_law_text","_law_many","_law_k","_law_asked","_law_one","_law_odd","_law_far","_law_rows"]) (by walk_at"s") (fun vs H Q E h=>?_) (fun cdv A outer s H vs Q E hr h=>?_)
 ·obtain⟨a,ns,rfl,_⟩:=h
  rfl
 ·obtain⟨a,ns,rfl,hs,q⟩:=h
  refine⟨_,(zg (zI (i:=1) nd rfl (Or.inl rfl) (zk C3 hr (by omega) zx (za (zk C1 hr (by omega) zx (za (pv 0) (za ze zd))) (za ze zd))))
    (zg (zI (i:=2) nd rfl (Or.inl rfl) (zk C1 hr (by omega) zx (za (pv 0) (za ze zd))))
    (zg (zI (i:=3) nd rfl (Or.inl rfl) (zk C6 hr (by omega) zx (za (zk C1 hr (by omega) zx (za (pv 0) (za ze zd))) (za ze zd))))
    (zg (zI (i:=4) nd rfl (Or.inl rfl) (zk C8 hr (by omega) zx (za (zk C5 hr (by omega) zx (za (pv 2) (za (zC zA (pv 1) ze) zd))) zd)))
    (zg (zI (i:=5) nd rfl (Or.inl rfl) (zt z9 (zk C2 hr (by omega) zx (za (pv 2) (za ze zd))) ze))
    (jf (zK (zw uY (pv 5) ze (zD _)) (zg (zI (i:=4) nd rfl (Or.inl rfl) (zk C8 hr (by omega) zx (za (zk C4 hr (by omega) zx (za (pv 2) (za (zC zA (pv 1) ze) (za (zt z9 (pv 2) ze) zd)))) zd)))
    (zh (vW PassesOwn.never rfl (yg rfl G.range (za (pv 5) zd)) (z5 (i:=6) nd rfl (Or.inl rfl)) (zh (zI (i:=4) nd rfl (Or.inl rfl) (zt zM (zt zM (zt zM (zt zM (zt zM zj (zC zA (pv 1) ze)) zj) (z8 qm rfl G.str qK (za (zk C7 hr (by omega) zx (za (pv 2) (za (zt qk ze (pv 6)) zd))) zd))) zj) (pv 4))))))) zB)
    (zg (zI (i:=7) nd rfl (Or.inl rfl) (zU (za (pv 4) zd)))
    (jf (vW PassesOwn.never rfl (yg rfl G.range (za ze zd)) (z5 (i:=6) nd rfl (Or.inl rfl)) (zh (qb (qY PySem.F.plainAttrs_list PySem.F.slot_list_append PySem.F.type_list_append jm (pv 7) (za (zk C9 hr (by omega) zx (za (pv 4) (za (zk C2 hr (by omega) zx (za (zk C1 hr (by omega) zx (za (pv 0) (za ze zd))) (za (pv 6) zd))) zd))) zd)))))
    (zg (qb (qY PySem.F.plainAttrs_list PySem.F.slot_list_append PySem.F.type_list_append jm (pv 7) (za (zk C9 hr (by omega) zx (za (zC zA (pv 7) (WQ QG ze)) (za (zk C2 hr (by omega) zx (za (zk C1 hr (by omega) zx (za (pv 0) (za ze zd))) (za ze zd))) zd))) zd)))
    (jf (vW PassesOwn.never rfl (j7 (zt je (pv 7) (zU (za (pv 4) zd)))) (z5 (i:=8) nd rfl (Or.inl rfl)) (zh (zK (qz (qy (zk CB hr (cP _) zx (za (pv 8) (za (pv 3) zd))))) (zh (zm jj)) zB)))
    (zg (zI (i:=9) nd rfl (Or.inl rfl) (zC zA (zU (za jv (za ze (za (zU (za (pv 4) zd)) (za jj (za (yA (za (pv 4) zd)) (za lr (za zj (za zj zd))))))))) (zt z9 (zk C1 hr (by omega) zx (za (pv 0) (za ze zd))) ze)))
    (zg (zI (i:=10) nd rfl (Or.inl rfl) (zt XF zj ze))
    (zg (zI (i:=11) nd rfl (Or.inl rfl) (zU (za (zt zM zj (pv 10)) (za (zt zM (zt zM zj (pv 10)) zj) (za (zt zM (zt zM zj (pv 10)) zj) (za (zt zM (zt zM zj (pv 10)) zj) zd))))))
    (zh (zm (yK (qj qh (zk CA hr hj zx (za (pv 9) zd)) zj (zD _)) (yL (qj qh (zk CA hr hj zx (za (zC zA (pv 11) (zt z9 (zt qW (zk C1 hr (by omega) zx (za (pv 0) (za ze zd))) ze) ze)) zd)) zj (zD _))))))))))))))))))),?_⟩
  walk_at"d3"
  refine⟨_,rfl,a,0,ns,rfl,hs,by decide,_,2,rfl,by decide,fun nms ln H1 nl hn _ s1 n1 e1=>?_⟩
  obtain⟨z0,z1,rfl⟩:=Rt nl
  have hz0:=hn z0 Ce
  have hz1:=hn z1 (Cd _ Ce)
  refine⟨_,rfl,a,1,ns,rfl,s1.seq hs,by decide,?_⟩
  generalize ZD ns 1=c
  refine⟨_,rfl,a,2,ns,rfl,s1.seq hs,by decide,_,4,rfl,by decide,fun bs lb H2 bl bn s2 n2 e2=>?_⟩
  have S2:=s1.trans s2
  refine⟨_,rfl,_,rfl,ln,_,_,_,rfl,rfl,zY.of (s2 _ _ e1),rfl,c,z0,rfl,hz0,fun v r H3 gd rn s3 rt=>?_⟩
  refine⟨v,r,rfl,rt,gd,fun H4 s4=>?_⟩
  have S4:=S2.trans (s3.trans s4)
  have s24:=s3.trans s4
  refine⟨_,rfl,c,_,rfl,fun m m0 m1=>⟨_,_,rfl,rfl,(by show (0:Int)<12;decide),?_⟩⟩
  have rl:=uZ gd
  have e14:=s24 _ _ (s2 _ _ e1)
  refine jX (fun σ H'=>∃ z x5 x6,σ = [some (.ref a),some (.ref ln),some (.int c),some (.ref lb),some (.str z),x5,x6,none,none,none,none,none]∧z.length≤1700∧zu H4 H') (fun Ek kk=>?_) ?_
  ·refine⟨_,rfl,_,_,rfl,rfl,_,rfl,qi (fun e=>?_) (fun _=>kk _ _ ⟨_,_,_,rfl,by omega,zu.refl _⟩)⟩
   have m6:m%12<6:=of_decide_eq_true e
   refine⟨_,rfl,_,rfl,ln,_,_,_,rfl,rfl,zY.of e14,rfl,_,rfl,_,_,rfl,rfl,(by show (0:Int)<5;decide),c,z1,_,rfl,hz1,Cg _ (by decide),Cr _ (by decide),fun v2 r2 H5 gd2 _ _ s5 rt2=>?_⟩
   refine⟨v2,r2,rfl,rt2,gd2.le (by decide),fun H6 s6=>?_⟩
   have s46:=s5.trans s6
   have rl2:=uZ gd2
   have m00:0≤m%12:=Cg _ (by decide)
   have l0:=hz0.ok.hi
   refine⟨_,rfl,_,rfl,by omega,by omega,ji (fun i σ H'=>∃ z x6,σ = [some (.ref a),some (.ref ln),some (.int c),some (.ref lb),some (.str z),some (.int (m%12)),x6,none,none,none,none,none]∧z.length≤1016+40*i∧zu H4 H') ⟨_,_,rfl,by omega,s46⟩ ?_ ?_⟩
   ·rintro i σ H7 hi ⟨z,x6,rfl,zl,s7⟩ E7 k7
    have i6:i<6:=by omega
    refine⟨_,rfl,ln,_,_,_,rfl,rfl,zY.of (s7 _ _ e14),rfl,_,_,rfl,rfl,?_,_,_,rfl,rfl,?_,_,rfl,_,rfl,_,_,rfl,rfl,c,_,rfl,fun pp H8 hp s8=>?_⟩
    ·rw[show ("ontop ":Str).length=6 by decide +kernel,sizeLine_eq]
     omega
    ·rw[qe,show ("ontop ":Str).length=6 by decide +kernel,show (" ":Str).length=1 by decide +kernel,sizeLine_eq]
     omega
    have pl:=vm hp
    have L1:(("ontop ":Str)++z0++(" ":Str)).length=7+z0.length:=by
     rw[qe,qe,show ("ontop ":Str).length=6 by decide +kernel,show (" ":Str).length=1 by decide +kernel]
     omega
    refine⟨pp,rfl,wy hp.1 (by have:=hp.2;show pp<18446744073709551616;omega),_,_,rfl,rfl,?_,_,_,rfl,rfl,?_,_,rfl,_,_,rfl,rfl,?_,k7 _ _ ⟨_,_,rfl,?_,s7.trans s8⟩⟩
    ·rw[L1,sizeLine_eq]
     omega
    ·rw[qe,L1,show (" even of ":Str).length=9 by decide +kernel,sizeLine_eq]
     omega
    ·rw[qe,qe,L1,show (" even of ":Str).length=9 by decide +kernel,sizeLine_eq]
     omega
    ·rw[qe,qe,qe,L1,show (" even of ":Str).length=9 by decide +kernel]
     omega
   ·rintro σ H7 ⟨z,x6,rfl,zl,s7⟩
    exact kk _ _ ⟨_,_,_,rfl,by omega,s7⟩
  rintro σ H5 ⟨z,x5,x6,rfl,zl,s5⟩
  have S5:=S4.trans s5
  have eb5:=s5 _ _ (s24 _ _ e2)
  refine⟨_,rfl,z6 rfl,fun al H6 s6 n6 e6=>?_⟩
  have hs6:=(S5.trans s6).seq hs
  refine jX (fun σ H'=>∃ x6 u us,σ = [some (.ref a),some (.ref ln),some (.int c),some (.ref lb),some (.str z),x5,x6,some (.ref al),none,none,none,none]∧H' al=some (.lst ((us++[u]).map V.str))∧(∀ v∈us++[u],v.length≤6820)∧us.length≤6∧zu H5 H') (fun Ek kk=>?_) ?_
  ·refine⟨6,rfl,by decide,by decide,ji (n:=6) (fun i σ H'=>∃ x6 u us,σ = [some (.ref a),some (.ref ln),some (.int c),some (.ref lb),some (.str z),x5,x6,some (.ref al),none,none,none,none]∧H' al=some (.lst ((us++[u]).map V.str))∧(∀ v∈us++[u],v.length≤6820)∧us.length=i∧zu H5 H') ⟨_,z,[],rfl,e6,(fun v hv=>by rw[Co.mp hv];omega),rfl,s6⟩ ?_ ?_⟩
   ·rintro i σ H7 hi ⟨x6,u,us,rfl,e7,ul,il,s7⟩ E7 k7
    refine⟨_,rfl,.inl ⟨rfl,_,zY.of e7⟩,_,rfl,_,rfl,a,3,ns,rfl,(S5.trans s7).seq hs,by decide,_,rfl,_,_,rfl,fun m' m0' m1'=>⟨z,_,rfl,by omega,m0',fun x H8 xl s8=>?_⟩⟩
    have e8:=s8 _ _ e7
    refine⟨al,_,_,rfl,rfl,e8,?_,k7 _ _ ⟨_,x,us++[u],rfl,?_,?_,?_,fun b o hb=>?_⟩⟩
    ·rw[cN,Cb,sizeLine_eq]
     show us.length+1<_
     omega
    ·rw[zq,Ci (l₂:=[x])]
     rfl
    ·intro v hv
     rcases CM.mp hv with hv | hv
     ·exact ul v hv
     ·rw[Co.mp hv]
      omega
    ·rw[Cb,il]
     rfl
    ·rw[zG (zP hb n6)]
     exact s8 _ _ (s7 _ _ hb)
   ·rintro σ H7 ⟨x6,u,us,rfl,e7,ul,il,s7⟩
    exact kk _ _ ⟨_,u,us,rfl,e7,ul,by omega,s7⟩
  rintro σ H7 ⟨x6,u,us,rfl,e7,ul,il,s7⟩
  have lu:=ul u (CC _ Ce)
  have lst:ZI ((us++[u]).map V.str) (-1)=some (.str u):=by
   rw[Ci]
   exact Ws _ _
  refine⟨_,rfl,.inl ⟨rfl,_,zY.of e7⟩,_,rfl,_,rfl,al,_,_,_,rfl,rfl,zY.of e7,lst,_,rfl,a,4,ns,rfl,(S5.trans s7).seq hs,by decide,_,_,rfl,fun m' m0' m1'=>⟨u,_,rfl,by omega,m0',fun x H8 xl s8=>?_⟩⟩
  have e8:=s8 _ _ e7
  refine⟨al,_,_,rfl,rfl,e8,?_,?_⟩
  ·rw[cN,Cb,sizeLine_eq]
   show us.length+1<_
   omega
  have s9:zu H5 (upd H8 al (.lst ((us++[u]).map V.str++[.str x]))):=fun b o hb=>by
   rw[zG (zP hb n6)]
   exact s8 _ _ (s7 _ _ hb)
  have e9:(upd H8 al (.lst ((us++[u]).map V.str++[.str x]))) al=some (.lst ((us++[u]).map V.str++[.str x])):=zq
  generalize upd H8 al (.lst ((us++[u]).map V.str++[.str x]))=H9 at s9 e9
  refine jX (fun σ H'=>∃ x8,σ = [some (.ref a),some (.ref ln),some (.int c),some (.ref lb),some (.str z),x5,x6,some (.ref al),x8,none,none,none]∧zu H9 H') (fun Ek kk=>?_) ?_
  ·refine⟨_,rfl,_,rfl,z6 rfl,fun l2 HA sA nA eA=>⟨al,l2,_,_,rfl,rfl,sA _ _ e9,eA,?_,fun l3 HB sB nB eB=>⟨l3,rfl,⟨_,zY.of eB⟩,?_⟩⟩⟩
   ·rw[Cb,cN,Cb,sizeLine_eq]
    show us.length+1+1+1≤_
    omega
   have sAB:=sA.trans sB
   refine GI (K:=K) (a:=l3) (xs:=(us++[u]).map V.str++[.str x]++[.str z]) (fun i σ H'=>∃ x8,σ = [some (.ref a),some (.ref ln),some (.int c),some (.ref lb),some (.str z),x5,x6,some (.ref al),x8,none,none,none]∧zu HB H') ⟨_,rfl,zu.refl _⟩ (fun i σ H' _ ⟨_,_,s⟩=>zY.of (s _ _ eB)) ?_ ?_
   ·rintro i w σ HC hw ⟨x8,rfl,sC⟩ E8 k8
    obtain⟨zz,rfl,zzl⟩:∃ zz,w = .str zz∧zz.length≤50000:=by
     rcases CM.mp (CS hw) with h | h
     ·rcases CM.mp h with h | h
      ·obtain⟨y,hy,rfl⟩:=Cp.mp h
       exact⟨y,rfl,cZ (ul y hy) (by decide)⟩
      ·rw[Co.mp h]
       exact⟨x,rfl,by omega⟩
     ·rw[Co.mp h]
      exact⟨z,rfl,by omega⟩
    exact⟨_,rfl,_,rfl,zz,lb,bs,rfl,zzl,zY.of (sC _ _ (sAB _ _ (s9 _ _ eb5))),by omega,bn,fun HD sD=>⟨true,rfl,qN (k8 _ _ ⟨_,rfl,sC.trans sD⟩)⟩⟩
   ·rintro σ HC ⟨x8,rfl,sC⟩
    exact kk _ _ ⟨_,rfl,sAB.trans sC⟩
  rintro σ HA ⟨x8,rfl,sA⟩
  have hsA:=(S5.trans (s9.trans sA)).seq hs
  refine⟨_,rfl,z6 rfl,fun q1 HB sB nB eB=>⟨_,rfl,z6 rfl,fun q2 HC sC nC eC=>fun q3 HD sD nD eD=>⟨z6 rfl,fun q4 HE sE nE eE=>?_⟩⟩⟩
  have sAE:=sB.trans (sC.trans (sD.trans sE))
  obtain⟨v9,ev9,mv9⟩:=vj (xs:=[V.non,V.int 5,V.ref q1,V.bl true,V.ref q2,V.ref q3,V.str "",V.str " "]) (i:=ZD ns 5%8) (Cg _ (by decide)) (Cr _ (by decide))
  refine⟨_,rfl,a,5,ns,rfl,sAE.seq hsA,by decide,_,_,rfl,rfl,(by show (0:Int)<8;decide),q4,_,_,_,rfl,rfl,zY.of eE,ev9,?_⟩
  have n9:("9":Str).length=1:=by decide +kernel
  have l9:(jI "9" 4000).length=4000:=by rw[Gq,n9];rfl
  refine⟨_,_,rfl,rfl,by decide,by decide,by rw[n9,sizeLine_eq];decide,?_⟩
  have f1:("flat a ":Str).length=7:=by decide +kernel
  have f2:("share a ":Str).length=8:=by decide +kernel
  have f3:("bands a 0:":Str).length=10:=by decide +kernel
  have f4:("capped a 1 0":Str).length=12:=by decide +kernel
  have f5:(" up":Str).length=3:=by decide +kernel
  generalize jI "9" 4000=far at l9
  refine⟨_,rfl,_,_,rfl,rfl,(by rw[f1,l9,sizeLine_eq];decide),_,rfl,_,_,rfl,rfl,(by rw[f2,l9,sizeLine_eq];decide),_,_,rfl,rfl,(by rw[qe,f2,l9,f5,sizeLine_eq];decide),_,rfl,_,_,rfl,rfl,(by rw[f3,l9,sizeLine_eq];decide),_,_,rfl,rfl,(by rw[qe,f3,l9,f5,sizeLine_eq];decide),_,rfl,_,_,rfl,rfl,(by rw[f4,l9,sizeLine_eq];decide),_,_,rfl,rfl,(by rw[qe,f4,l9,f5,sizeLine_eq];decide),z6 rfl,fun q5 HF sF nF eF=>?_⟩
  have sAF:=sAE.trans sF
  refine⟨_,rfl,?_⟩
  dsimp only [jy]
  refine gZ ?_ fun HG sG=>⟨rfl,true,by rw[decide_eq_true rfl],qZ ?_⟩
  ·simp only[cU,cX,or_false] at mv9
   rcases mv9 with rfl | rfl | rfl | rfl | rfl | rfl | rfl | rfl
   ·exact .inl ng
   ·exact .inl (Rm _)
   ·exact .inl (Ru (sF _ _ (sE _ _ (sD _ _ (sC _ _ eB)))))
   ·exact .inl (Tv _)
   ·exact .inl (Ny (sF _ _ (sE _ _ (sD _ _ eC))))
   ·exact .inl (ba (sF _ _ (sE _ _ eD)))
   ·exact .inr ⟨_,rfl,by decide +kernel,PN⟩
   ·exact .inr ⟨_,rfl,by decide +kernel,OT⟩
  obtain⟨v10,ev10,mv10⟩:=vj (xs:=[V.str (("flat a ":Str)++far),V.str (("share a ":Str)++far++(" up":Str)),V.str (("bands a 0:":Str)++far++(" up":Str)),V.str (("capped a 1 0":Str)++far++(" up":Str))]) (i:=ZD ns 5/8%4) (Cg _ (by decide)) (Cr _ (by decide))
  refine⟨_,rfl,_,rfl,a,5,ns,rfl,(sAF.trans sG).seq hsA,by decide,_,_,rfl,rfl,⟨by decide,by decide⟩,_,_,rfl,rfl,(by show (0:Int)<4;decide),q5,_,_,_,rfl,rfl,zY.of (sG _ _ eF),ev10,?_⟩
  dsimp only [jy]
  refine gZ ?_ fun HH sH=>⟨rfl,?_⟩
  ·simp only[cU,cX,or_false] at mv10
   rcases mv10 with rfl | rfl | rfl | rfl
   ·have h:(("flat a ":Str)++far).length=4007:=by rw[qe,f1,l9]
    exact .inr ⟨_,rfl,by rw[h];decide,kD (by rw[h];decide)⟩
   ·have h:(("share a ":Str)++far++(" up":Str)).length=4011:=by rw[qe,qe,f2,l9,f5]
    exact .inr ⟨_,rfl,by rw[h];decide,kD (by rw[h];decide)⟩
   ·have h:(("bands a 0:":Str)++far++(" up":Str)).length=4013:=by rw[qe,qe,f3,l9,f5]
    exact .inr ⟨_,rfl,by rw[h];decide,kD (by rw[h];decide)⟩
   ·have h:(("capped a 1 0":Str)++far++(" up":Str)).length=4015:=by rw[qe,qe,f4,l9,f5]
    exact .inr ⟨_,rfl,by rw[h];decide,kD (by rw[h];decide)⟩
  ·rw[decide_eq_true rfl]
   exact q HH
end
end K10
set_option maxHeartbeats 8000000
namespace K10
open PySem L2 Pg
theorem rF {l:PySem.W.OpenLaw} {w:World} {K:BFr} {h:Heap} {mg:Str→Option Value} {fa:Addr} {c0 c1 c2 c3 c4 c5 c6 c7 c8 c9 c10 c11 c12 c13 c14 cR cRu cF cS cC cL cB cO:Addr} {t0 t1 t2 t3 t4 t5 t6 t7:Tok} {u0:Tok} {u1:Tok} (X:K.In h) (G:h.Ns mainGlobals mg) (hfa:mg "law" = some (.ref fa)) (Um:qI K "is_number" (zX 22)) (wX:qI K "is_number_within" (zX 23)) (Qq:qI K "is_parts" (zX 24)) (Wm:qI K "is_way" (zX 25)) (YO:qI K "need_amount" (zX 26)) (XM:qI K "need_way" (zX 27)) (QT:qI K "half_goes_up" (zX 28)) (GU:qI K "goes_up" (zX 29)) (ow:qI K "rounded" (zX 30)) (Xz:qI K "share_of" (zX 31)) (kA:qI K "is_word_of" (zX 36)) (Jf:qI K "is_name" (zX 37)) (pD:qI K "rise" (zX 38)) (u4:qI K "is_rule_name" (zX 42)) (v7:qI K "is_rule_amount" (zX 43)) (vq:qI K "need_rule_amount" (zX 44)) (kB:qI K "need_share" (zX 45)) (wR:qI K "months_with_base" (zX 46)) (JS:qI K "is_band" (zX 54)) (ZE:qI K "are_bands" (zX 55)) (YB:qI K "are_figures" (zX 61)) (Zy:qI K "is_number_text" (zX 62)) (Yz:qI K "read_number" (zX 63)) (Uv:qI K "number_of" (zX 66)) (GX:qI K "band_of" (zX 67)) (XG:qI K "bands_of" (zX 68)) (VT:qI K "plain_rule" (zX 69)) (WX:qI K "is_ontop" (zX 70)) (yG:qI K "rule_of_words" (zX 71)) (Gm:qI K "rule_of" (zX 72)) (QB:qI K "_law_cell_at" (zX 74)) (VL:qI K "_law_mixed" (zX 75)) (VX:qI K "_law_whole" (zX 76)) (YY:qI K "_law_amount" (zX 77)) (VU:qI K "_law_bases" (zX 78)) (VW:qI K "_law_names" (zX 79)) (Vr:qI K "_law_parts" (zX 80)) (xE:qI K "_law_way" (zX 81)) (VH:qI K "_law_pairs" (zX 82)) (VE:qI K "_law_plain" (zX 83)) (Wf:qI K "_law_rule" (zX 84)) (Yk:qI K "_law_rounded" (zX 85)) (YQ:qI K "_law_pieces" (zX 86)) (js:qI K "_law_until" (zX 87)) (ZS:qI K "_law_of_month" (zX 88)) (vx:qI K "_law_row" (zX 89)) (Qr:qI K "_law_is_name" (zX 90)) (YM:qI K "_law_number" (zX 91)) (ZX:qI K "_law_pairs_in" (zX 92)) (Zh:qI K "_law_things_in" (zX 93)) (yF:qI K "_law_by_words" (zX 94)) (WM:qI K "_law_read" (zX 95)) (Ub:qI K "_law_bent" (zX 96)) (Wu:qI K "_law_word" (zX 97)) (WN:qI K "_law_told" (zX 98)) (ZU:qI K "_law_is_right" (zX 99)) (R8:qI K "law" (zX 100)) (n0:BnR K "BadAmount" c0) (n1:BnR K "BadShare" c1) (n2:BnR K "BadText" c2) (n3:BnR K "BadMonth" c3) (n4:BnR K "BadYear" c4) (n5:BnR K "BadRule" c5) (n6:BnR K "BadBook" c6) (n7:BnR K "NoYear" c7) (n8:BnR K "BadDay" c8) (n9:BnR K "BadEntry" c9) (n10:BnR K "NoMark" c10) (n11:BnR K "NoPerson" c11) (n12:BnR K "TooMany" c12) (n13:BnR K "BadClose" c13) (n14:BnR K "BadLine" c14) (nR:BnR K "RollError" cR) (gc0:BnI K "MOST_SIGNS" 8 t0) (gc1:BnI K "MOST_PARTS" 20000 t1) (gc2:BnI K "WHOLE" 10000 t2) (gc3:BnI K "HALF" 5000 t3) (gc4:BnI K "MOST_AMOUNT" 1000000000000 t4) (gc5:BnI K "MOST_BANDS" 12 t5) (gc6:BnI K "MOST_DEPTH" 3 t6) (gc7:BnI K "MOST_FIGURES" 13 t7) (s0:PySem.W.nsIn K mainGlobals "LETTERS" = some (some (.str "abcdefghijklmnopqrstuvwxyz" u0))) (s1:PySem.W.nsIn K mainGlobals "FIGURES" = some (some (.str "0123456789" u1))) (s2:Tq K "WAYS" ["down","up","near","even"]) (s3:Tq K "NO_RULE_NAMES" ["base","net","month","sums"]) (V1:BnN K "isinstance") (tK:BnN K "int") (rB:BnN K "bool") (RS:BnN K "str") (TK:BnN K "len") (MB:BnN K "range") (VN:BnN K "ValueError") (rJ:BnN K "list") (Mt:BnN K "tuple") (r6:BnN K "dict") (Tj:BnN K "set") (tj:BnN K "all") (TF:BnN K "any") (tG:BnN K "sum") (Lc:BnN K "sorted") (RW:BnN K "abs") (tM:BnN K "max") (Tw:BnN K "min") (Tx:BnN K "zip") (V5:BnN K "enumerate") (Xq:BnN K "reversed") (x2:PySem.W.excIn K c2 ZM "ValueError.__new__" = true) (e2:PySem.W.exmOne K (.ref c2) (.ref cR)=some true) (X2:XK.vk K c2) (v2:PySem.W.kitOne K (.ref c2) (.type "ValueError")=some true) (bI:BkO K c2 c0 false) (Bg:BkO K c2 c1 false) (Bk:BkO K c2 c2 true) (Bb:BkO K c2 c3 false) (bN:BkO K c2 c4 false) (Bq:BkO K c2 c5 false) (Ba:BkO K c2 c6 false) (BC:BkO K c2 c7 false) (Bl:BkO K c2 c8 false) (bM:BkO K c2 c9 false) (tU:BkO K c2 c10 false) (tV:BkO K c2 c11 false) (TY:BkO K c2 c12 false) (TR:BkO K c2 c13 false) (t8:BkO K c2 c14 false) (x5:PySem.W.excIn K c5 ZM "ValueError.__new__" = true) (e5:PySem.W.exmOne K (.ref c5) (.ref cR)=some true) (X5:XK.vk K c5) (v5:PySem.W.kitOne K (.ref c5) (.type "ValueError")=some true) (bK:BkO K c5 c0 false) (BX:BkO K c5 c1 false) (BS:BkO K c5 c2 false) (BH:BkO K c5 c3 false) (Bi:BkO K c5 c4 false) (bL:BkO K c5 c5 true) (Bj:BkO K c5 c6 false) (BP:BkO K c5 c7 false) (BB:BkO K c5 c8 false) (BD:BkO K c5 c9 false) (tf:BkO K c5 c10 false) (Ti:BkO K c5 c11 false) (TN:BkO K c5 c12 false) (tX:BkO K c5 c13 false) (Tf:BkO K c5 c14 false) (RF:BnR K "Rule" cRu) (MZ:PySem.W.plainGet K cRu Str.empty=true) (M6:PySem.W.hasDictIn K cRu=true) (mh:PySem.W.plainOver K cRu=true) (nv:BfS K cRu) (uF:yQ K cRu "__init__" "Rule.__init__" (zH (zX 47) 0)) (ug:ui K cRu "__init__" = true) (rL:BnR K "Flat" cF) (mU:PySem.W.plainGet K cF Str.empty=true) (MY:PySem.W.hasDictIn K cF=true) (Mc:PySem.W.plainOver K cF=true) (mz:BfS K cF) (ZJ:qc K cF "name") (YA:qc K cF "amount") (JZ:qc K cF "parts") (WW:qc K cF "way") (Wb:qc K cF "most") (Vq:qc K cF "least") (uE:Vk K cF "Flat.__init__" (zH (zX 48) 0)) (VO:yQ K cF "until" "Flat.until" (zH (zX 48) 1)) (UC:yQ K cF "twin" "Flat.twin" (zH (zX 48) 3)) (VI:yQ K cF "depth" "Rule.depth" (zH (zX 47) 4)) (ZZ:yQ K cF "of_month" "Rule.of_month" (zH (zX 47) 5)) (xI:yQ K cF "row" "Flat.row" (zH (zX 48) 2)) (L9:BnR K "Share" cS) (OW:PySem.W.plainGet K cS Str.empty=true) (Pd:PySem.W.hasDictIn K cS=true) (Oi:PySem.W.plainOver K cS=true) (lQ:BfS K cS) (kM:qc K cS "name") (QF:qc K cS "amount") (YT:qc K cS "parts") (UX:qc K cS "way") (Va:qc K cS "most") (YH:qc K cS "least") (vZ:Vk K cS "Share.__init__" (zH (zX 49) 0)) (YD:yQ K cS "until" "Share.until" (zH (zX 49) 1)) (VP:yQ K cS "twin" "Share.twin" (zH (zX 49) 3)) (Y5:yQ K cS "depth" "Rule.depth" (zH (zX 47) 4)) (Zm:yQ K cS "of_month" "Rule.of_month" (zH (zX 47) 5)) (Ww:yQ K cS "row" "Share.row" (zH (zX 49) 2)) (Pl:BnR K "Capped" cC) (Gb:PySem.W.plainGet K cC Str.empty=true) (GD:PySem.W.hasDictIn K cC=true) (GA:PySem.W.plainOver K cC=true) (GM:BfS K cC) (wN:qc K cC "name") (ZY:qc K cC "amount") (Ys:qc K cC "parts") (Vw:qc K cC "way") (Y6:qc K cC "most") (QA:qc K cC "least") (vU:Vk K cC "Capped.__init__" (zH (zX 50) 0)) (Yb:yQ K cC "until" "Capped.until" (zH (zX 50) 1)) (YI:yQ K cC "twin" "Capped.twin" (zH (zX 50) 3)) (QL:yQ K cC "depth" "Rule.depth" (zH (zX 47) 4)) (ke:yQ K cC "of_month" "Rule.of_month" (zH (zX 47) 5)) (Vh:yQ K cC "row" "Capped.row" (zH (zX 50) 2)) (mF:BnR K "Least" cL) (PL:PySem.W.plainGet K cL Str.empty=true) (PJ:PySem.W.hasDictIn K cL=true) (lp:PySem.W.plainOver K cL=true) (Pp:BfS K cL) (kG:qc K cL "name") (Qz:qc K cL "amount") (Y7:qc K cL "parts") (V9:qc K cL "way") (Vd:qc K cL "most") (YG:qc K cL "least") (uc:Vk K cL "Least.__init__" (zH (zX 51) 0)) (Y8:yQ K cL "until" "Least.until" (zH (zX 51) 1)) (VJ:yQ K cL "twin" "Least.twin" (zH (zX 51) 3)) (YN:yQ K cL "depth" "Rule.depth" (zH (zX 47) 4)) (Zr:yQ K cL "of_month" "Rule.of_month" (zH (zX 47) 5)) (Wc:yQ K cL "row" "Least.row" (zH (zX 51) 2)) (Mb:BnR K "Bands" cB) (PP:PySem.W.plainGet K cB Str.empty=true) (lK:PySem.W.hasDictIn K cB=true) (lV:PySem.W.plainOver K cB=true) (p8:BfS K cB) (km:qc K cB "name") (YZ:qc K cB "bands") (UL:qc K cB "way") (YJ:qc K cB "parts") (Q0:qc K cB "within") (ua:Vk K cB "Bands.__init__" (zH (zX 56) 0)) (Yy:yQ K cB "until" "Bands.until" (zH (zX 56) 1)) (Vs:yQ K cB "twin" "Bands.twin" (zH (zX 56) 3)) (Yx:yQ K cB "depth" "Rule.depth" (zH (zX 47) 4)) (Zb:yQ K cB "of_month" "Rule.of_month" (zH (zX 47) 5)) (Wp:yQ K cB "row" "Bands.row" (zH (zX 56) 2)) (Mr:BnR K "OnTop" cO) (lR:PySem.W.plainGet K cO Str.empty=true) (Pq:PySem.W.hasDictIn K cO=true) (OS:PySem.W.plainOver K cO=true) (pT:BfS K cO) (kK:qc K cO "name") (YU:qc K cO "bands") (UK:qc K cO "way") (YL:qc K cO "parts") (Ym:qc K cO "within") (yV:Vk K cO "OnTop.__init__" (zH (zX 59) 0)) (jO:yQ K cO "until" "OnTop.until" (zH (zX 59) 1)) (j5:yQ K cO "twin" "OnTop.twin" (zH (zX 59) 3)) (jc:yQ K cO "depth" "OnTop.depth" (zH (zX 59) 4)) (Zq:yQ K cO "of_month" "Rule.of_month" (zH (zX 47) 5)) (vE:yQ K cO "row" "OnTop.row" (zH (zX 59) 2)) (xTT:PySem.W.exmOne K (.ref c2) (.ref c2)=some true) (xRT:PySem.W.exmOne K (.ref c5) (.ref c2)=some false) (ihn:PySem.W.specialIn K (.builtin "object.__class__") "__get__" = some (some (.builtin "getset_descriptor.__get__"))) (itk:PySem.W.takesIn K (.builtin "object.__class__")=some true) (Bf:(!(Nat.beq cS cO))=true) (ia0:BfC K cF) (im0:PySem.W.mroIn K cF (.type "object")=some true) (ik0:BkO K cF cRu true) (ia1:BfC K cS) (im1:PySem.W.mroIn K cS (.type "object")=some true) (ik1:BkO K cS cRu true) (ia2:BfC K cC) (im2:PySem.W.mroIn K cC (.type "object")=some true) (ik2:BkO K cC cRu true) (ia3:BfC K cL) (im3:PySem.W.mroIn K cL (.type "object")=some true) (ik3:BkO K cL cRu true) (ia4:BfC K cB) (im4:PySem.W.mroIn K cB (.type "object")=some true) (ik4:BkO K cB cRu true) (ia5:BfC K cO) (im5:PySem.W.mroIn K cO (.type "object")=some true) (ik5:BkO K cO cRu true)
  : ∃ fd:FuncData,(∀ (s:Shared) (v:Value),BindsTo s fd ⟨[v],[]⟩ [("_law_script",v)])∧∀ base:Heap,K.In base→base.Ns mainGlobals mg→zL l.prog w K mg base zQ 27 fa fd ["_law_script"] (Z6 K):=by
 obtain⟨d,rfl,rfl,rfl,rfl,rfl,rfl,rfl,rfl,rfl,rfl,rfl,rfl,rfl,rfl,rfl⟩:∃ d:Nat→Addr,d 0=c0∧d 1=c1∧d 2=c2∧d 3=c3∧d 4=c4∧d 5=c5∧d 6=c6∧d 7=c7∧d 8=c8∧d 9=c9∧d 10=c10∧d 11=c11∧d 12=c12∧d 13=c13∧d 14=c14:=⟨fun i=>[c0,c1,c2,c3,c4,c5,c6,c7,c8,c9,c10,c11,c12,c13,c14].getD i 0,rfl,rfl,rfl,rfl,rfl,rfl,rfl,rfl,rfl,rfl,rfl,rfl,rfl,rfl,rfl⟩
 obtain⟨fl,fdl,al,Fl⟩:=R8
 have e:=hfa.symm.trans (Bmg_o X G al)
 cases e
 have k2:Mm K d (d 2) 2:=⟨X2,v2,bI,Bg,Bk,Bb,bN,Bq,Ba,BC,Bl,bM,tU,tV,TY,TR,t8⟩
 have k5:Mm K d (d 5) 5:=⟨X5,v5,bK,BX,BS,BH,Bi,bL,Bj,BP,BB,BD,tf,Ti,TN,tX,Tf⟩
 have O7:RO K mg "WAYS" ["down","up","near","even"]:=s2.mg X G
 have uI:RO K mg "NO_RULE_NAMES" ["base","net","month","sums"]:=s3.mg X G
 have GL:jW mg:=⟨Bmg_n X G V1,Bmg_n X G tK,Bmg_n X G rB,Bmg_n X G RS,Bmg_n X G TK,Bmg_n X G MB,Bmg_n X G VN,Bmg_n X G rJ,Bmg_n X G Mt,Bmg_n X G r6,Bmg_n X G Tj,Bmg_n X G tj,Bmg_n X G TF,Bmg_n X G tG,Bmg_n X G Lc,Bmg_n X G RW,Bmg_n X G tM,Bmg_n X G Tw,Bmg_n X G Tx,Bmg_n X G V5,Bmg_n X G Xq⟩
 have KD:cm mg d:=⟨Bmg_o X G n0,Bmg_o X G n1,Bmg_o X G n2,Bmg_o X G n3,Bmg_o X G n4,Bmg_o X G n5,Bmg_o X G n6,Bmg_o X G n7,Bmg_o X G n8,Bmg_o X G n9,Bmg_o X G n10,Bmg_o X G n11,Bmg_o X G n12,Bmg_o X G n13,Bmg_o X G n14⟩
 have mgR:mg "RollError" = some (.ref cR):=Bmg_o X G nR
 have ER2:Er K mg "BadText" (d 2):=⟨Bmg_o X G n2,x2⟩
 have RZ2:Rz K d cR 2:=⟨e2,k2⟩
 have ER5:Er K mg "BadRule" (d 5):=⟨Bmg_o X G n5,x5⟩
 have RZ5:Rz K d cR 5:=⟨e5,k5⟩
 have kX:Yh mg "MOST_SIGNS" 8:=⟨t0,Bmg_o X G gc0⟩
 have kT:Yh mg "MOST_PARTS" 20000:=⟨t1,Bmg_o X G gc1⟩
 have MM:Yh mg "WHOLE" 10000:=⟨t2,Bmg_o X G gc2⟩
 have rD:Yh mg "HALF" 5000:=⟨t3,Bmg_o X G gc3⟩
 have wO:Yh mg "MOST_AMOUNT" 1000000000000:=⟨t4,Bmg_o X G gc4⟩
 have kY:Yh mg "MOST_BANDS" 12:=⟨t5,Bmg_o X G gc5⟩
 have yk:Yh mg "MOST_DEPTH" 3:=⟨t6,Bmg_o X G gc6⟩
 have Qs:Yh mg "MOST_FIGURES" 13:=⟨t7,Bmg_o X G gc7⟩
 have Jz:Pg.Txt mg "LETTERS" "abcdefghijklmnopqrstuvwxyz":=⟨_,Bmg_o X G s0⟩
 have oO:Pg.Txt mg "FIGURES" "0123456789":=⟨_,Bmg_o X G s1⟩
 have bl:=Fl.binds (ps:=["_law_script"]) (by walk_at"0")
 refine⟨fdl,fun s v=>?_,fun base _ _=>?_⟩
 ·obtain⟨oc,od,kV,doc,pm,an,cdv,ct,osl,rfl,lk,hcd⟩:=Fl.ex
  exact .of_eq rfl
 have bw:ZQ K cRu:=⟨MZ,M6,mh,nv⟩
 have wz:mg "Rule" = some (.ref cRu):=Bmg_o X G RF
 have vL:ZQ K cF:=⟨mU,MY,Mc,mz⟩
 have gN:mg "Flat" = some (.ref cF):=Bmg_o X G rL
 have jR:ZQ K cS:=⟨OW,Pd,Oi,lQ⟩
 have Wq:mg "Share" = some (.ref cS):=Bmg_o X G L9
 have jk:ZQ K cC:=⟨Gb,GD,GA,GM⟩
 have JJ:mg "Capped" = some (.ref cC):=Bmg_o X G Pl
 have jP:ZQ K cL:=⟨PL,PJ,lp,Pp⟩
 have Wt:mg "Least" = some (.ref cL):=Bmg_o X G mF
 have jU:ZQ K cB:=⟨PP,lK,lV,p8⟩
 have Uh:mg "Bands" = some (.ref cB):=Bmg_o X G Mb
 have qF:ZQ K cO:=⟨lR,Pq,OS,pT⟩
 have Za:mg "OnTop" = some (.ref cO):=Bmg_o X G Mr
 obtain⟨Cs,rfl,rfl,rfl,rfl,rfl,rfl⟩:∃ Cs:Nat→Addr,Cs 0=cF∧Cs 1=cS∧Cs 2=cC∧Cs 3=cL∧Cs 4=cB∧Cs 5=cO:=⟨fun i=>[cF,cS,cC,cL,cB,cO].getD i 0,rfl,rfl,rfl,rfl,rfl,rfl⟩
 have RK:vC K Cs:=⟨RV vL jR jk jP,RV (bt ZJ YA JZ WW Wb Vq) (bt kM QF YT UX Va YH) (bt wN ZY Ys Vw Y6 QA) (bt kG Qz Y7 V9 Vd YG)⟩
 have RX4:Zu K (Cs 4):=⟨jU,TU km YZ UL YJ Q0⟩
 have RX5:Zu K (Cs 5):=⟨qF,TU kK YU UK YL Ym⟩
 have RJ:NM K Cs cRu:=⟨Yc ia0 ia1 ia2 ia3 ia4 ia5,ihn,itk,Yc im0 im1 im2 im3 im4 im5,Yc ik0 ik1 ik2 ik3 ik4 ik5,Yc vL jR jk jP jU qF,oH Bf⟩
 have C1:=Um.cal (P:=l.prog) (w:=w) (base:=base) X G (by walk_at"0") fun _ _ F=>VG F GL
 have C2:=wX.cal (P:=l.prog) (w:=w) (base:=base) X G (by walk_at"1") fun _ _ F=>oo F C1
 have C3:=Qq.cal (P:=l.prog) (w:=w) (base:=base) X G (by walk_at"0") fun _ _ F=>Gx F kT C2
 have C4:=Wm.cal (P:=l.prog) (w:=w) (base:=base) X G (by walk_at"0") fun _ _ F=>mJ F GL O7
 have C5:=YO.cal (P:=l.prog) (w:=w) (base:=base) X G (by walk_at"0") fun _ _ F=>lP F C1
 have C6:=XM.cal (P:=l.prog) (w:=w) (base:=base) X G (by walk_at"0") fun _ _ F=>oE F C4
 have C7:=QT.cal (P:=l.prog) (w:=w) (base:=base) X G (by walk_at"1") fun _ _ F=>Mz F
 have C8:=GU.cal (P:=l.prog) (w:=w) (base:=base) X G (by walk_at"2") fun _ _ F=>LD F rD C7
 have C9:=ow.cal (P:=l.prog) (w:=w) (base:=base) X G (by walk_at"3") fun _ _ F=>nq F MM C5 C6 C8
 have C10:=Xz.cal (P:=l.prog) (w:=w) (base:=base) X G (by walk_at"1") fun _ _ F=>oQ F C5 C3 C9
 have C11:=kA.cal (P:=l.prog) (w:=w) (base:=base) X G (by walk_at"3") fun _ _ F=>MW F GL kX
 have C12:=Jf.cal (P:=l.prog) (w:=w) (base:=base) X G (by walk_at"0") fun _ _ F=>nG F Jz C11
 have C13:=u4.cal (P:=l.prog) (w:=w) (base:=base) X G (by walk_at"0") fun _ _ F=>Gj F uI C12
 have C14:=v7.cal (P:=l.prog) (w:=w) (base:=base) X G (by walk_at"0") fun _ _ F=>Oc F wO C2
 have C15:=vq.cal (P:=l.prog) (w:=w) (base:=base) X G (by walk_at"0") fun _ _ F=>GS F C14
 have C16:=kB.cal (P:=l.prog) (w:=w) (base:=base) X G (by walk_at"3") fun _ _ F=>Gc F C3 C4
 have C17:=wR.cal (P:=l.prog) (w:=w) (base:=base) X G (by walk_at"0") fun _ _ F=>rV F GL
 have C18:=pD.cal (P:=l.prog) (w:=w) (base:=base) X G (by walk_at"0") fun _ _ F=>lz F GL
 have C19:=JS.cal (P:=l.prog) (w:=w) (base:=base) X G (by walk_at"0") fun _ _ F=>Pc F GL C14 C3
 have C20:=ZE.cal (P:=l.prog) (w:=w) (base:=base) X G (by walk_at"0") fun _ _ F=>oh F GL kY C19 C18
 have R0:=uF.calC (P:=l.prog) (w:=w) (mg:=mg) (base:=base) (ps:=["self","name"]) ug wz (by walk_at"3") fun f fd F=>oq F C13
 have R1:=R0.imp (pG RK)
 have I0:=uE.cal (P:=l.prog) (w:=w) (mg:=mg) (base:=base) gN (by walk_at"1") fun _ _ F=>GF F RK R1 C15
 have I1:=vZ.cal (P:=l.prog) (w:=w) (mg:=mg) (base:=base) Wq (by walk_at"2") fun _ _ F=>Gn F RK R1 C16
 have I2:=vU.cal (P:=l.prog) (w:=w) (mg:=mg) (base:=base) JJ (by walk_at"4") fun _ _ F=>oV F RK R1 C16 C15
 have I3:=uc.cal (P:=l.prog) (w:=w) (mg:=mg) (base:=base) Wt (by walk_at"4") fun _ _ F=>oI F RK R1 C16 C15
 have I4:=ua.cal (P:=l.prog) (w:=w) (mg:=mg) (base:=base) Uh (by walk_at"2") fun _ _ F=>Py F GL RX4 R0 C20 C4
 have E0:=VI.cal (P:=l.prog) (w:=w) (mg:=mg) (base:=base) vL (by walk_at"0") fun _ _ F=>kL (Cs:=Cs) (d:=3) (k:=0) (by decide) F
 have E1:=Y5.cal (P:=l.prog) (w:=w) (mg:=mg) (base:=base) jR (by walk_at"0") fun _ _ F=>kL (Cs:=Cs) (d:=3) (k:=1) (by decide) F
 have E2:=QL.cal (P:=l.prog) (w:=w) (mg:=mg) (base:=base) jk (by walk_at"0") fun _ _ F=>kL (Cs:=Cs) (d:=3) (k:=2) (by decide) F
 have E3:=YN.cal (P:=l.prog) (w:=w) (mg:=mg) (base:=base) jP (by walk_at"0") fun _ _ F=>kL (Cs:=Cs) (d:=3) (k:=3) (by decide) F
 have E4:=Yx.cal (P:=l.prog) (w:=w) (mg:=mg) (base:=base) jU (by walk_at"0") fun _ _ F=>kL (Cs:=Cs) (d:=3) (k:=4) (by decide) F
 have E50:=jc.cal (P:=l.prog) (w:=w) (mg:=mg) (base:=base) qF (by walk_at"0") fun _ _ F=>Om (Cs:=Cs) (j:=1)
 have ME0:=gK E0 E1 E2 E3 E4 (d:=0) (by decide) (by decide) E50
 have E51:=jc.cal (P:=l.prog) (w:=w) (mg:=mg) (base:=base) qF (by walk_at"0") fun _ _ F=>Z9 F RX5 ME0
 have ME1:=gK E0 E1 E2 E3 E4 (d:=1) (by decide) (by decide) E51
 have E52:=jc.cal (P:=l.prog) (w:=w) (mg:=mg) (base:=base) qF (by walk_at"0") fun _ _ F=>Z9 F RX5 ME1
 have ME2:=gK E0 E1 E2 E3 E4 (d:=2) (by decide) (by decide) E52
 have E53:=jc.cal (P:=l.prog) (w:=w) (mg:=mg) (base:=base) qF (by walk_at"0") fun _ _ F=>Z9 F RX5 ME2
 have T0:=UC.cal (P:=l.prog) (w:=w) (mg:=mg) (base:=base) vL (by walk_at"0") fun _ _ F=>La (d:=3) F RK I0
 have T1:=VP.cal (P:=l.prog) (w:=w) (mg:=mg) (base:=base) jR (by walk_at"0") fun _ _ F=>pj (d:=3) F RK I1
 have T2:=YI.cal (P:=l.prog) (w:=w) (mg:=mg) (base:=base) jk (by walk_at"0") fun _ _ F=>PU (d:=3) F RK I2
 have T3:=VJ.cal (P:=l.prog) (w:=w) (mg:=mg) (base:=base) jP (by walk_at"0") fun _ _ F=>pV (d:=3) F RK I3
 have T4:=Vs.cal (P:=l.prog) (w:=w) (mg:=mg) (base:=base) jU (by walk_at"0") fun _ _ F=>Ll (d:=3) F RX4 I4
 have T50:=j5.cal (P:=l.prog) (w:=w) (mg:=mg) (base:=base) qF (by walk_at"0") fun _ _ F=>Gi (Cs:=Cs) (j:=8)
 have MT0:=XW T0 T1 T2 T3 T4 (d:=0) (by decide) (by decide) T50
 have I50:=yV.cal (P:=l.prog) (w:=w) (mg:=mg) (base:=base) Za (by walk_at"4") fun _ _ F=>QW F GL RX5 RJ wz yk (by decide) (by decide) R0 C16 MT0 (E51.mono (by decide))
 have T51:=j5.cal (P:=l.prog) (w:=w) (mg:=mg) (base:=base) qF (by walk_at"0") fun _ _ F=>QY F RX5 I50
 have MT1:=XW T0 T1 T2 T3 T4 (d:=1) (by decide) (by decide) T51
 have I51:=yV.cal (P:=l.prog) (w:=w) (mg:=mg) (base:=base) Za (by walk_at"4") fun _ _ F=>QW F GL RX5 RJ wz yk (by decide) (by decide) R0 C16 MT1 (E52.mono (by decide))
 have T52:=j5.cal (P:=l.prog) (w:=w) (mg:=mg) (base:=base) qF (by walk_at"0") fun _ _ F=>QY F RX5 I51
 have MT2:=XW T0 T1 T2 T3 T4 (d:=2) (by decide) (by decide) T52
 have I52:=yV.cal (P:=l.prog) (w:=w) (mg:=mg) (base:=base) Za (by walk_at"4") fun _ _ F=>QW F GL RX5 RJ wz yk (by decide) (by decide) R0 C16 MT2 (E53.mono (by decide))
 have I5:=I52.mono (k:=16) (by decide)
 have ME3:=gK E0 E1 E2 E3 E4 (d:=3) (by decide) (by decide) E53
 have E54:=jc.cal (P:=l.prog) (w:=w) (mg:=mg) (base:=base) qF (by walk_at"0") fun _ _ F=>Z9 F RX5 ME3
 have T53:=j5.cal (P:=l.prog) (w:=w) (mg:=mg) (base:=base) qF (by walk_at"0") fun _ _ F=>QY F RX5 I52
 have MT3:=XW T0 T1 T2 T3 T4 (d:=3) (by decide) (by decide) T53
 have bT:=kA.cal (P:=l.prog) (w:=w) (base:=base) X G (by walk_at"3") fun _ _ F=>Ol F GL kX
 have Br:=Jf.cal (P:=l.prog) (w:=w) (base:=base) X G (by walk_at"0") fun _ _ F=>PY F Jz bT
 have bZ:=u4.cal (P:=l.prog) (w:=w) (base:=base) X G (by walk_at"0") fun _ _ F=>G7 F uI Br
 have C4B:=Wm.cal (P:=l.prog) (w:=w) (base:=base) X G (by walk_at"0") fun _ _ F=>LM F GL O7
 have C3B:=Qq.cal (P:=l.prog) (w:=w) (base:=base) X G (by walk_at"0") fun _ _ F=>ou F kT C2
 have TM:=v7.cal (P:=l.prog) (w:=w) (base:=base) X G (by walk_at"0") fun _ _ F=>lq F wO C2
 have RD:=vq.cal (P:=l.prog) (w:=w) (base:=base) X G (by walk_at"0") fun _ _ F=>oR F ER5 TM
 have mR:=kB.cal (P:=l.prog) (w:=w) (base:=base) X G (by walk_at"3") fun _ _ F=>Gy F ER5 C3B C4B
 have bF:=JS.cal (P:=l.prog) (w:=w) (base:=base) X G (by walk_at"0") fun _ _ F=>lU F GL TM C3B
 have bU:=pD.cal (P:=l.prog) (w:=w) (base:=base) X G (by walk_at"0") fun _ _ F=>OQ F GL
 have BF:=ZE.cal (P:=l.prog) (w:=w) (base:=base) X G (by walk_at"0") fun _ _ F=>oU F GL kY bF bU
 have R0E:=uF.calC (P:=l.prog) (w:=w) (mg:=mg) (base:=base) (ps:=["self","name"]) ug wz (by walk_at"3") fun f fd F=>Gr F ER5 bZ
 have I0E:=uE.cal (P:=l.prog) (w:=w) (mg:=mg) (base:=base) gN (by walk_at"1") fun _ _ F=>xR F RK R0E RD
 have I1E:=vZ.cal (P:=l.prog) (w:=w) (mg:=mg) (base:=base) Wq (by walk_at"2") fun _ _ F=>Xd F RK R0E mR
 have I2E:=vU.cal (P:=l.prog) (w:=w) (mg:=mg) (base:=base) JJ (by walk_at"4") fun _ _ F=>xv F RK R0E mR RD
 have I3E:=uc.cal (P:=l.prog) (w:=w) (mg:=mg) (base:=base) Wt (by walk_at"4") fun _ _ F=>WZ F RK R0E mR RD
 have I4E:=ua.cal (P:=l.prog) (w:=w) (mg:=mg) (base:=base) Uh (by walk_at"2") fun _ _ F=>oB F ER5 RX4 R0E BF C4B
 have I5E:=yV.cal (P:=l.prog) (w:=w) (mg:=mg) (base:=base) Za (by walk_at"4") fun _ _ F=>G8 F GL ER5 RX5 RJ wz yk (by decide) R0E mR MT3 (E54.mono (by decide))
 have U0:=VO.cal (P:=l.prog) (w:=w) (mg:=mg) (base:=base) vL (by walk_at"3") fun _ _ F=>LX F RK C17
 have U1:=YD.cal (P:=l.prog) (w:=w) (mg:=mg) (base:=base) jR (by walk_at"3") fun _ _ F=>mf F GL RK C10
 have U2:=Yb.cal (P:=l.prog) (w:=w) (mg:=mg) (base:=base) jk (by walk_at"3") fun _ _ F=>ma F GL RK C10
 have U3:=Y8.cal (P:=l.prog) (w:=w) (mg:=mg) (base:=base) jP (by walk_at"3") fun _ _ F=>m7 F GL RK C10 C17
 have U4:=Yy.cal (P:=l.prog) (w:=w) (mg:=mg) (base:=base) jU (by walk_at"3") fun _ _ F=>mZ (d:=3) F GL RX4 C9
 have U50:=jO.cal (P:=l.prog) (w:=w) (mg:=mg) (base:=base) qF (by walk_at"3") fun _ _ F=>pP (Cs:=Cs) (j:=5)
 have MU0:=gh U0 U1 U2 U3 U4 (d:=0) (by decide) (by decide) U50
 have U51:=jO.cal (P:=l.prog) (w:=w) (mg:=mg) (base:=base) qF (by walk_at"3") fun _ _ F=>Vt F RX5 (by decide) MU0 C10
 have MU1:=gh U0 U1 U2 U3 U4 (d:=1) (by decide) (by decide) U51
 have U52:=jO.cal (P:=l.prog) (w:=w) (mg:=mg) (base:=base) qF (by walk_at"3") fun _ _ F=>Vt F RX5 (by decide) MU1 C10
 have MU2:=gh U0 U1 U2 U3 U4 (d:=2) (by decide) (by decide) U52
 have U53:=jO.cal (P:=l.prog) (w:=w) (mg:=mg) (base:=base) qF (by walk_at"3") fun _ _ F=>Vt F RX5 (by decide) MU2 C10
 have MU:=gh U0 U1 U2 U3 U4 (d:=3) (j:=10) (by decide) (by decide) (U53.mono (by decide))
 have O0:=ZZ.cal (P:=l.prog) (w:=w) (mg:=mg) (base:=base) vL (by walk_at"3") fun _ _ F=>wo F (MU 0 (by decide))
 have O1:=Zm.cal (P:=l.prog) (w:=w) (mg:=mg) (base:=base) jR (by walk_at"3") fun _ _ F=>wo F (MU 1 (by decide))
 have O2:=ke.cal (P:=l.prog) (w:=w) (mg:=mg) (base:=base) jk (by walk_at"3") fun _ _ F=>wo F (MU 2 (by decide))
 have O3:=Zr.cal (P:=l.prog) (w:=w) (mg:=mg) (base:=base) jP (by walk_at"3") fun _ _ F=>wo F (MU 3 (by decide))
 have O4:=Zb.cal (P:=l.prog) (w:=w) (mg:=mg) (base:=base) jU (by walk_at"3") fun _ _ F=>wo F (MU 4 (by decide))
 have O5:=Zq.cal (P:=l.prog) (w:=w) (mg:=mg) (base:=base) qF (by walk_at"3") fun _ _ F=>wo F (MU 5 (by decide))
 have Q1:=YB.cal (P:=l.prog) (w:=w) (base:=base) X G (by walk_at"0") fun _ _ F=>Qp F GL oO
 have Q2:=Zy.cal (P:=l.prog) (w:=w) (base:=base) X G (by walk_at"0") fun _ _ F=>mK F Q1
 have Q3:=Yz.cal (P:=l.prog) (w:=w) (base:=base) X G (by walk_at"3") fun _ _ F=>r8 F GL ER2 Q2
 have Q4:=Uv.cal (P:=l.prog) (w:=w) (base:=base) X G (by walk_at"0") fun _ _ F=>Mh F Qs Q3
 have Q5:=GX.cal (P:=l.prog) (w:=w) (base:=base) X G (by walk_at"0") fun _ _ F=>lJ F GL ER5 Q4
 have Q6:=XG.cal (P:=l.prog) (w:=w) (base:=base) X G (by walk_at"0") fun _ _ F=>GY F GL Q5
 have Q7:=VT.cal (P:=l.prog) (w:=w) (base:=base) X G (by walk_at"0") fun _ _ F=>Md F GL ER5 Q4 Q6 I0 I1 I2 I3 I4 I0E I1E I2E I3E I4E
 have Q8:=WX.cal (P:=l.prog) (w:=w) (base:=base) X G (by walk_at"0") fun _ _ F=>Ld F GL
 have W0:=yG.cal (P:=l.prog) (w:=w) (base:=base) X G (by walk_at"3") fun _ _ F=>MN (Cs:=Cs) (cT:=d 2) (cB:=d 5) (j:=19)
 have W1:=yG.cal (P:=l.prog) (w:=w) (base:=base) X G (by walk_at"3") fun _ _ F=>Vf (by decide) F ER5 yk Q8 Q7 Q4 W0 I5 I5E
 have W2:=yG.cal (P:=l.prog) (w:=w) (base:=base) X G (by walk_at"3") fun _ _ F=>Vf (by decide) F ER5 yk Q8 Q7 Q4 W1 I5 I5E
 have W3:=yG.cal (P:=l.prog) (w:=w) (base:=base) X G (by walk_at"3") fun _ _ F=>Vf (by decide) F ER5 yk Q8 Q7 Q4 W2 I5 I5E
 have W4:=yG.cal (P:=l.prog) (w:=w) (base:=base) X G (by walk_at"3") fun _ _ F=>Vf (by decide) F ER5 yk Q8 Q7 Q4 W3 I5 I5E
 have Ro:=Gm.cal (P:=l.prog) (w:=w) (base:=base) X G (by walk_at"0") fun _ _ F=>mS F GL ER5 ER2 xTT xRT W4
 have RW0:=xI.cal (P:=l.prog) (w:=w) (mg:=mg) (base:=base) vL (by walk_at"0") fun _ _ F=>m9 F GL RK
 have RW1:=Ww.cal (P:=l.prog) (w:=w) (mg:=mg) (base:=base) jR (by walk_at"0") fun _ _ F=>L4 F GL RK
 have RW2:=Vh.cal (P:=l.prog) (w:=w) (mg:=mg) (base:=base) jk (by walk_at"0") fun _ _ F=>mD F GL RK
 have RW3:=Wc.cal (P:=l.prog) (w:=w) (mg:=mg) (base:=base) jP (by walk_at"0") fun _ _ F=>nr F GL RK
 have RW4:=Wp.cal (P:=l.prog) (w:=w) (mg:=mg) (base:=base) jU (by walk_at"0") fun _ _ F=>mH (d:=3) F GL RX4
 have Bw:=vE.cal (P:=l.prog) (w:=w) (mg:=mg) (base:=base) qF (by walk_at"0") fun _ _ F=>Os (Cs:=Cs) (j:=1)
 have MR0:=gF RW0 RW1 RW2 RW3 RW4 (d:=0) (by decide) (by decide) Bw
 have Bh:=vE.cal (P:=l.prog) (w:=w) (mg:=mg) (base:=base) qF (by walk_at"0") fun _ _ F=>VY (by decide) F GL RX5 MR0
 have MR1:=gF RW0 RW1 RW2 RW3 RW4 (d:=1) (by decide) (by decide) Bh
 have BI:=vE.cal (P:=l.prog) (w:=w) (mg:=mg) (base:=base) qF (by walk_at"0") fun _ _ F=>VY (by decide) F GL RX5 MR1
 have MR2:=gF RW0 RW1 RW2 RW3 RW4 (d:=2) (by decide) (by decide) BI
 have b5:=vE.cal (P:=l.prog) (w:=w) (mg:=mg) (base:=base) qF (by walk_at"0") fun _ _ F=>VY (by decide) F GL RX5 MR2
 have MR:=gF RW0 RW1 RW2 RW3 RW4 (d:=3) (j:=4) (by decide) (by decide) b5
 have D1:=QB.cal (P:=l.prog) (w:=w) (base:=base) X G (by walk_at"3") fun _ _ F=>XE F GL
 have D2:=VL.cal (P:=l.prog) (w:=w) (base:=base) X G (by walk_at"3") fun _ _ F=>mM F
 have D3:=VX.cal (P:=l.prog) (w:=w) (base:=base) X G (by walk_at"0") fun _ _ F=>pH F GL
 have D4:=YY.cal (P:=l.prog) (w:=w) (base:=base) X G (by walk_at"3") fun _ _ F=>mV F D2
 have D5:=VU.cal (P:=l.prog) (w:=w) (base:=base) X G (by walk_at"3") fun _ _ F=>Mp F GL D4
 have D6:=VW.cal (P:=l.prog) (w:=w) (base:=base) X G (by walk_at"3") fun _ _ F=>Lz F GL D2
 have D7:=Vr.cal (P:=l.prog) (w:=w) (base:=base) X G (by walk_at"3") fun _ _ F=>Lw F D2
 have D8:=xE.cal (P:=l.prog) (w:=w) (base:=base) X G (by walk_at"3") fun _ _ F=>Ma F D2
 have D9:=VH.cal (P:=l.prog) (w:=w) (base:=base) X G (by walk_at"0") fun _ _ F=>mm F GL D2 D7
 have D10:=VE.cal (P:=l.prog) (w:=w) (base:=base) X G (by walk_at"1") fun _ _ F=>LZ F D4 D7 D8 D9
 have D11:=Wf.cal (P:=l.prog) (w:=w) (base:=base) X G (by walk_at"3") fun _ _ F=>lI F GL D2 D10 D7 D8
 have D12:=Yk.cal (P:=l.prog) (w:=w) (base:=base) X G (by walk_at"3") fun _ _ F=>MK F GL
 have D13:=YQ.cal (P:=l.prog) (w:=w) (base:=base) X G (by walk_at"3") fun _ _ F=>L7 F GL
 have A0:=js.cal (P:=l.prog) (w:=w) (base:=base) X G (by walk_at"3") fun _ _ F=>ON (j:=2)
 have A1:=js.cal (P:=l.prog) (w:=w) (base:=base) X G (by walk_at"3") fun _ _ F=>Z3 F GL D12 D13 A0
 have A2:=js.cal (P:=l.prog) (w:=w) (base:=base) X G (by walk_at"3") fun _ _ F=>Z3 F GL D12 D13 A1
 have A3:=js.cal (P:=l.prog) (w:=w) (base:=base) X G (by walk_at"3") fun _ _ F=>Z3 F GL D12 D13 A2
 have A4:=js.cal (P:=l.prog) (w:=w) (base:=base) X G (by walk_at"3") fun _ _ F=>Z3 F GL D12 D13 A3
 have D14:=ZS.cal (P:=l.prog) (w:=w) (base:=base) X G (by walk_at"3") fun _ _ F=>my (d:=3) F A4
 have B0:=vx.cal (P:=l.prog) (w:=w) (base:=base) X G (by walk_at"0") fun _ _ F=>Pa (j:=2)
 have B1:=vx.cal (P:=l.prog) (w:=w) (base:=base) X G (by walk_at"0") fun _ _ F=>Z2 F GL (by decide) B0
 have B2:=vx.cal (P:=l.prog) (w:=w) (base:=base) X G (by walk_at"0") fun _ _ F=>Z2 F GL (by decide) B1
 have B3:=vx.cal (P:=l.prog) (w:=w) (base:=base) X G (by walk_at"0") fun _ _ F=>Z2 F GL (by decide) B2
 have B4:=vx.cal (P:=l.prog) (w:=w) (base:=base) X G (by walk_at"0") fun _ _ F=>Z2 F GL (by decide) B3
 have Ln:=Qr.cal (P:=l.prog) (w:=w) (base:=base) X G (by walk_at"0") fun _ _ F=>mC F GL
 have Lu:=YM.cal (P:=l.prog) (w:=w) (base:=base) X G (by walk_at"3") fun _ _ F=>Mw F GL
 have Lp:=ZX.cal (P:=l.prog) (w:=w) (base:=base) X G (by walk_at"0") fun _ _ F=>m5 F GL Lu
 have Lt:=Zh.cal (P:=l.prog) (w:=w) (base:=base) X G (by walk_at"0") fun _ _ F=>LW F Lu Lp
 have Y0:=yF.cal (P:=l.prog) (w:=w) (base:=base) X G (by walk_at"3") fun _ _ F=>mL (j:=4)
 have Y1:=yF.cal (P:=l.prog) (w:=w) (base:=base) X G (by walk_at"3") fun _ _ F=>Vv (by decide) F GL Ln Lt Y0
 have Y2:=yF.cal (P:=l.prog) (w:=w) (base:=base) X G (by walk_at"3") fun _ _ F=>Vv (by decide) F GL Ln Lt Y1
 have Y3:=yF.cal (P:=l.prog) (w:=w) (base:=base) X G (by walk_at"3") fun _ _ F=>Vv (by decide) F GL Ln Lt Y2
 have Y4:=yF.cal (P:=l.prog) (w:=w) (base:=base) X G (by walk_at"3") fun _ _ F=>Vv (by decide) F GL Ln Lt Y3
 have Rd:=WM.cal (P:=l.prog) (w:=w) (base:=base) X G (by walk_at"0") fun _ _ F=>LP F Y4
 have Bt:=Ub.cal (P:=l.prog) (w:=w) (base:=base) X G (by walk_at"3") fun _ _ F=>Pn F GL
 have Wd:=Wu.calQ (P:=l.prog) (w:=w) (base:=base) (ps:=["_law_e"]) X G (by walk_at"0") fun f fd F=>Rb F GL KD
 have Td:=WN.cal (P:=l.prog) (w:=w) (base:=base) X G (by walk_at"0") fun _ _ F=>Mi (by decide) F mgR RZ5 Ro Wd
 have Rg:=ZU.cal (P:=l.prog) (w:=w) (base:=base) X G (by walk_at"3") fun _ _ F=>mG (by decide) F GL (Yc vL jR jk jP jU qF) (Yc ZJ kM wN kG km kK) Td Rd D3 A4 D14 MU (Yc O0 O1 O2 O3 O4 O5) MR
 exact rH (by decide) Fl GL D1 D2 D6 D10 D11 D5 D7 B4 Bt Td Rg
theorem BV {l:PySem.W.OpenLaw} {q:Program} {loose:List Str} {XP:(Str→Option Value)→Heap→Prop} {YP:World→Heap→Prop} {d:DefRec} {K:Params→BFr} (hn:l.most=some 63) (hdf:d.params.defaults=[]) (hY:∀ (w:World) (h:Heap),YP w h→(K w.params).In h) (F:∀ (w:World) (mg:Str→Option Value) (fa:Addr) (h:Heap),(K w.params).In h→h.Ns mainGlobals mg→mg d.name=some (.ref fa) →
   ∃ fd:FuncData,(∀ (s:Shared) (u:Value),BindsTo s fd ⟨[u],[]⟩ [("_law_script",u)])∧∀ base:Heap,(K w.params).In base→base.Ns mainGlobals mg→zL l.prog w (K w.params) mg base zQ 27 fa fd ["_law_script"] (Z6 (K w.params))) :
  PySem.W.WalkO q loose XP YP l.row.toRowW d [] (fun f vs=>PySem.call f vs) :=
 L2.MH (n:=63) (k:=27) (x:="_law_script") (CX:=fun _=>zQ) (sp:=fun w=>(Z6 (K w.params))) hn (by decide) hdf ⟨rfl,by decide,by decide⟩ hY F (fun _ _ a ns hl _ hS=>⟨a,ns,rfl,hS,fun _=>rfl⟩) fun _ _ _ _ _ z=>z
end K10
set_option maxHeartbeats 0
namespace K10
open PySem PySem.W PySem.Calls PyProof.Rows L2
theorem tN:(defOf hQ "law").isSome=true:=by kernel_rfl
noncomputable def hD:DefRec:=((defOf hQ "law").get tN).1
theorem Tz:WalkO hQ [] (XL hQ []) (kF NP pR) (PySem.Challenge.rw_coinroll_k10_rows_read).row.toRowW hD [] (fun f vs=>PySem.call f vs):=by
 refine m8 fun K e=>?_
 have hF:hFs.map (fun x=>jG K (nsIn K mainGlobals x.1))=hFs.map (fun x=>jF x.1 x.1 (zX x.2)):=congrArg Prod.fst e
 have hM:hMs.map (fun x=>jG K (findIn K (.ref x.1) x.2.1))=hMs.map (fun x=>jF x.2.1 x.2.2.1 (zH (zX x.2.2.2.1) x.2.2.2.2)):=congrArg (fun z=>z.2.1) e
 have hB:(MJ K).all id=true:=congrArg (fun z=>z.2.2) e
 obtain⟨t0,gc0⟩:=u6 (zi hB 16 rfl)
 obtain⟨t1,gc1⟩:=u6 (zi hB 17 rfl)
 obtain⟨t2,gc2⟩:=u6 (zi hB 18 rfl)
 obtain⟨t3,gc3⟩:=u6 (zi hB 19 rfl)
 obtain⟨t4,gc4⟩:=u6 (zi hB 20 rfl)
 obtain⟨t5,gc5⟩:=u6 (zi hB 21 rfl)
 obtain⟨t6,gc6⟩:=u6 (zi hB 22 rfl)
 obtain⟨t7,gc7⟩:=u6 (zi hB 23 rfl)
 obtain⟨u0,s0⟩:=xc (zi hB 24 rfl)
 obtain⟨u1,s1⟩:=xc (zi hB 25 rfl)
 refine BV (l:=PySem.Challenge.rw_coinroll_k10_rows_read) (K:=fun _=>K) rfl (by kernel_rfl) (fun w h Y=>Y) ?_
 intro w mg fa h KX G hmg
 exact rF KX G hmg (zF (zy hF 0 rfl)) (zF (zy hF 1 rfl)) (zF (zy hF 2 rfl)) (zF (zy hF 3 rfl)) (zF (zy hF 4 rfl)) (zF (zy hF 5 rfl)) (zF (zy hF 6 rfl)) (zF (zy hF 7 rfl)) (zF (zy hF 8 rfl)) (zF (zy hF 9 rfl)) (zF (zy hF 10 rfl)) (zF (zy hF 11 rfl)) (zF (zy hF 12 rfl)) (zF (zy hF 13 rfl)) (zF (zy hF 14 rfl)) (zF (zy hF 15 rfl)) (zF (zy hF 16 rfl)) (zF (zy hF 17 rfl)) (zF (zy hF 18 rfl)) (zF (zy hF 19 rfl)) (zF (zy hF 20 rfl)) (zF (zy hF 21 rfl)) (zF (zy hF 22 rfl)) (zF (zy hF 23 rfl)) (zF (zy hF 24 rfl)) (zF (zy hF 25 rfl)) (zF (zy hF 26 rfl)) (zF (zy hF 27 rfl)) (zF (zy hF 28 rfl)) (zF (zy hF 29 rfl)) (zF (zy hF 30 rfl)) (zF (zy hF 31 rfl)) (zF (zy hF 32 rfl)) (zF (zy hF 33 rfl)) (zF (zy hF 34 rfl)) (zF (zy hF 35 rfl)) (zF (zy hF 36 rfl)) (zF (zy hF 37 rfl)) (zF (zy hF 38 rfl)) (zF (zy hF 39 rfl)) (zF (zy hF 40 rfl)) (zF (zy hF 41 rfl)) (zF (zy hF 42 rfl)) (zF (zy hF 43 rfl)) (zF (zy hF 44 rfl)) (zF (zy hF 45 rfl)) (zF (zy hF 46 rfl)) (zF (zy hF 47 rfl)) (zF (zy hF 48 rfl)) (zF (zy hF 49 rfl)) (zF (zy hF 50 rfl)) (zF (zy hF 51 rfl)) (zF (zy hF 52 rfl)) (zF (zy hF 53 rfl)) (zF (zy hF 54 rfl)) (zF (zy hF 55 rfl)) (zF (zy hF 56 rfl)) (yc (zi hB 0 rfl)) (yc (zi hB 1 rfl)) (yc (zi hB 2 rfl)) (yc (zi hB 3 rfl)) (yc (zi hB 4 rfl)) (yc (zi hB 5 rfl)) (yc (zi hB 6 rfl)) (yc (zi hB 7 rfl)) (yc (zi hB 8 rfl)) (yc (zi hB 9 rfl)) (yc (zi hB 10 rfl)) (yc (zi hB 11 rfl)) (yc (zi hB 12 rfl)) (yc (zi hB 13 rfl)) (yc (zi hB 14 rfl)) (yc (zi hB 15 rfl)) gc0 gc1 gc2 gc3 gc4 gc5 gc6 gc7 s0 s1 (WA (zi hB 26 rfl)) (WA (zi hB 27 rfl)) (qf (zi hB 28 rfl)) (qf (zi hB 29 rfl)) (qf (zi hB 30 rfl)) (qf (zi hB 31 rfl)) (qf (zi hB 32 rfl)) (qf (zi hB 33 rfl)) (qf (zi hB 34 rfl)) (qf (zi hB 35 rfl)) (qf (zi hB 36 rfl)) (qf (zi hB 37 rfl)) (qf (zi hB 38 rfl)) (qf (zi hB 39 rfl)) (qf (zi hB 40 rfl)) (qf (zi hB 41 rfl)) (qf (zi hB 42 rfl)) (qf (zi hB 43 rfl)) (qf (zi hB 44 rfl)) (qf (zi hB 45 rfl)) (qf (zi hB 46 rfl)) (qf (zi hB 47 rfl)) (qf (zi hB 48 rfl)) (zi hB 49 rfl) (qV (zi hB 50 rfl)) (Wh (zi hB 51 rfl)) (qV (zi hB 52 rfl)) (qV (zi hB 53 rfl)) (qV (zi hB 54 rfl)) (qV (zi hB 55 rfl)) (qV (zi hB 56 rfl)) (qV (zi hB 57 rfl)) (qV (zi hB 58 rfl)) (qV (zi hB 59 rfl)) (qV (zi hB 60 rfl)) (qV (zi hB 61 rfl)) (qV (zi hB 62 rfl)) (qV (zi hB 63 rfl)) (qV (zi hB 64 rfl)) (qV (zi hB 65 rfl)) (qV (zi hB 66 rfl)) (qV (zi hB 67 rfl)) (zi hB 68 rfl) (qV (zi hB 69 rfl)) (Wh (zi hB 70 rfl)) (qV (zi hB 71 rfl)) (qV (zi hB 72 rfl)) (qV (zi hB 73 rfl)) (qV (zi hB 74 rfl)) (qV (zi hB 75 rfl)) (qV (zi hB 76 rfl)) (qV (zi hB 77 rfl)) (qV (zi hB 78 rfl)) (qV (zi hB 79 rfl)) (qV (zi hB 80 rfl)) (qV (zi hB 81 rfl)) (qV (zi hB 82 rfl)) (qV (zi hB 83 rfl)) (qV (zi hB 84 rfl)) (qV (zi hB 85 rfl)) (qV (zi hB 86 rfl)) (yc (zi hB 87 rfl)) (zi hB 88 rfl) (zi hB 89 rfl) (zi hB 90 rfl) (yR (zi hB 91 rfl)) (zS (zy hM 0 rfl)) (zi hB 92 rfl) (yc (zi hB 93 rfl)) (zi hB 94 rfl) (zi hB 95 rfl) (zi hB 96 rfl) (yR (zi hB 97 rfl)) (qf (zi hB 98 rfl)) (qf (zi hB 99 rfl)) (qf (zi hB 100 rfl)) (qf (zi hB 101 rfl)) (qf (zi hB 102 rfl)) (qf (zi hB 103 rfl)) (vd (zy hM 1 rfl) (zi hB 104 rfl)) (zS (zy hM 2 rfl)) (zS (zy hM 3 rfl)) (zS (zy hM 4 rfl)) (zS (zy hM 5 rfl)) (zS (zy hM 6 rfl)) (yc (zi hB 105 rfl)) (zi hB 106 rfl) (zi hB 107 rfl) (zi hB 108 rfl) (yR (zi hB 109 rfl)) (qf (zi hB 110 rfl)) (qf (zi hB 111 rfl)) (qf (zi hB 112 rfl)) (qf (zi hB 113 rfl)) (qf (zi hB 114 rfl)) (qf (zi hB 115 rfl)) (vd (zy hM 7 rfl) (zi hB 116 rfl)) (zS (zy hM 8 rfl)) (zS (zy hM 9 rfl)) (zS (zy hM 10 rfl)) (zS (zy hM 11 rfl)) (zS (zy hM 12 rfl)) (yc (zi hB 117 rfl)) (zi hB 118 rfl) (zi hB 119 rfl) (zi hB 120 rfl) (yR (zi hB 121 rfl)) (qf (zi hB 122 rfl)) (qf (zi hB 123 rfl)) (qf (zi hB 124 rfl)) (qf (zi hB 125 rfl)) (qf (zi hB 126 rfl)) (qf (zi hB 127 rfl)) (vd (zy hM 13 rfl) (zi hB 128 rfl)) (zS (zy hM 14 rfl)) (zS (zy hM 15 rfl)) (zS (zy hM 16 rfl)) (zS (zy hM 17 rfl)) (zS (zy hM 18 rfl)) (yc (zi hB 129 rfl)) (zi hB 130 rfl) (zi hB 131 rfl) (zi hB 132 rfl) (yR (zi hB 133 rfl)) (qf (zi hB 134 rfl)) (qf (zi hB 135 rfl)) (qf (zi hB 136 rfl)) (qf (zi hB 137 rfl)) (qf (zi hB 138 rfl)) (qf (zi hB 139 rfl)) (vd (zy hM 19 rfl) (zi hB 140 rfl)) (zS (zy hM 20 rfl)) (zS (zy hM 21 rfl)) (zS (zy hM 22 rfl)) (zS (zy hM 23 rfl)) (zS (zy hM 24 rfl)) (yc (zi hB 141 rfl)) (zi hB 142 rfl) (zi hB 143 rfl) (zi hB 144 rfl) (yR (zi hB 145 rfl)) (qf (zi hB 146 rfl)) (qf (zi hB 147 rfl)) (qf (zi hB 148 rfl)) (qf (zi hB 149 rfl)) (qf (zi hB 150 rfl)) (vd (zy hM 25 rfl) (zi hB 151 rfl)) (zS (zy hM 26 rfl)) (zS (zy hM 27 rfl)) (zS (zy hM 28 rfl)) (zS (zy hM 29 rfl)) (zS (zy hM 30 rfl)) (yc (zi hB 152 rfl)) (zi hB 153 rfl) (zi hB 154 rfl) (zi hB 155 rfl) (yR (zi hB 156 rfl)) (qf (zi hB 157 rfl)) (qf (zi hB 158 rfl)) (qf (zi hB 159 rfl)) (qf (zi hB 160 rfl)) (qf (zi hB 161 rfl)) (vd (zy hM 31 rfl) (zi hB 162 rfl)) (zS (zy hM 32 rfl)) (zS (zy hM 33 rfl)) (zS (zy hM 34 rfl)) (zS (zy hM 35 rfl)) (zS (zy hM 36 rfl)) (qV (zi hB 163 rfl)) (qV (zi hB 164 rfl)) (yR (zi hB 165 rfl)) (qV (zi hB 166 rfl)) (zi hB 167 rfl) (yR (zi hB 168 rfl)) (qV (zi hB 169 rfl)) (qV (zi hB 170 rfl)) (yR (zi hB 171 rfl)) (qV (zi hB 172 rfl)) (qV (zi hB 173 rfl)) (yR (zi hB 174 rfl)) (qV (zi hB 175 rfl)) (qV (zi hB 176 rfl)) (yR (zi hB 177 rfl)) (qV (zi hB 178 rfl)) (qV (zi hB 179 rfl)) (yR (zi hB 180 rfl)) (qV (zi hB 181 rfl)) (qV (zi hB 182 rfl)) (yR (zi hB 183 rfl)) (qV (zi hB 184 rfl)) (qV (zi hB 185 rfl))
end K10
open PySem PySem.W PyProof.Rows
set_option maxRecDepth 100000 in
set_option maxHeartbeats 0 in
theorem PySem.Challenge.cw_coinroll_k10_rows_read_holds : PySem.Challenge.rw_coinroll_k10_rows_read.Holds := by
 w_on;o_law
 refine' holds_open (q:=K10.hQ) (d:=K10.hD) (kwd:=[]) K10.TV ?a1 ?a2 ?a3 XL.keeps ?a4 ?a5 ?a6 ?a7 ?a8 ?a9 ?b1 ?b2 ?b3 K10.Tz
 case a1=>exact fun w s e=>L2.OL w s e
 case a2=>exact L2.xG
 case a3=>exact fun s e=>xl_of s (dw.mp e).1
 case a4=>exact L2.mX K10.tN (by kernel_rfl)
 case a5=>kernel_rfl
 case a6=>kernel_rfl
 case a7=>exact fun s e=>recFacts_of (dw.mp e).2
 case a8=>rfl
 case a9=>assumption
 case b1=>decide +kernel
 case b2=>exact⟨rfl,rfl,rfl,rfl,rfl,by decide +kernel⟩
 case b3=>w_witness2
#print axioms PySem.Challenge.cw_coinroll_k10_rows_read_holds
