import PyProof.Rows.All
import Wide.All
import OpenK.AllK
import Wide.FinOn
import Lean
import PyProof.EqAt
import PyProof.EqKinds
import PyProof.TupleCall
import PyProof.NeKinds
import PyProof.SumWalkG
import PyProof.EnumMake
import KE.KIntText
import PyProof.StrLawsIn
import PyProof.StrCalls2
import PyProof.Rows.SortRuns
import KE.KSortTup
import KE.KSortKey
import PyProof.StrCalls
import PyProof.ListRange
import KE.IntTextLaws
import KE.IntTextText
import PyProof.Rows.FStr
import PyProof.SetKind
import PyProof.Rows.SetFrom
import PyProof.Walks
import KE.KItemsList
import KE.KDictOf
import PyProof.AttrMissHeap
import PyProof.AutoListH
import PyProof.Rows.ZipGen
import PyProof.Rows.EnumRows
import PyProof.EnumFor
import PyProof.WalksMore
import PyProof.TupleIter
import KE.KRevIter
import PyProof.CollectIter
import PyProof.JoinWalk
import PyProof.Rows.FactsT2
import PyProof.SeqI3
import PyProof.DictWalks
import PyProof.CollectWalk
import PyProof.Rows.SortWalk
import KE.KDictSum
import PySem.Challenge.RW_coinroll_k11_books_of_rules
set_option Elab.async false
set_option linter.all false
set_option genSizeOf false
set_option compiler.extract_closed false
set_option maxRecDepth 100000
noncomputable section
abbrev BFr:=PySem.W.Frag
abbrev BnR (K:BFr) (x:PySem.Str) (c:PySem.Addr):Prop:=PySem.W.nsIn K PySem.mainGlobals x=some (some (.ref c))
abbrev BnI (K:BFr) (x:PySem.Str) (i:Int) (t:PySem.Tok):Prop:=PySem.W.nsIn K PySem.mainGlobals x=some (some (.int i t))
abbrev BfS (K:BFr) (c:PySem.Addr):Prop:=PySem.W.findIn K (.ref c) "__setattr__"=some (some (.builtin "object.__setattr__"))
abbrev BfC (K:BFr) (c:PySem.Addr):Prop:=PySem.W.findIn K (.ref c) "__class__"=some (some (.builtin "object.__class__"))
abbrev BkO (K:BFr) (a b:PySem.Addr) (x:Bool):Prop:=PySem.W.kitOne K (.ref a) (.ref b)=some x
abbrev Bmg_o:=@PySem.W.mg_of
abbrev Bmg_n:=@PySem.W.mg_none_of
set_option hygiene false in
local macro_rules | `(tactic| walk_at "0") => `(tactic| exact fun _ _ _ _ _ _ us hl=>by obtain⟨a,rfl⟩:=zR hl;rfl)
set_option hygiene false in
local macro_rules | `(tactic| walk_at "1") => `(tactic| exact fun _ _ _ _ _ _ us hl=>by obtain⟨a,b,c,rfl⟩:=Z8 hl;rfl)
set_option hygiene false in
local macro_rules | `(tactic| walk_at "2") => `(tactic| exact fun _ _ _ _ _ _ us hl=>by obtain⟨a,b,rfl⟩:=y0 hl;rfl)
set_option hygiene false in
local macro_rules | `(tactic| walk_at "3") => `(tactic| exact fun _ _ _ _ _ _ us hl=>by obtain⟨a,b,c,d,rfl⟩:=UE hl;rfl)
set_option hygiene false in
local macro_rules | `(tactic| walk_at "4") => `(tactic| exact fun _ _ _ _ _ _ us hl=>by obtain⟨a,b,c,d,e,rfl⟩:=wj hl;rfl)
set_option hygiene false in
local macro_rules | `(tactic| walk_at "s") => `(tactic| exact ⟨rfl,rfl,rfl,by decide +kernel,rfl,by decide +kernel,by decide +kernel⟩)
set_option hygiene false in
local macro_rules | `(tactic| walk_at "c0") => `(tactic| exact ⟨rfl,rfl,by decide +kernel,by decide +kernel,(fun x c z=>nomatch z),qq (by rfl),zM qb,rfl⟩)
set_option hygiene false in
local macro_rules | `(tactic| walk_at "c1") => `(tactic| exact ⟨rfl,rfl,by decide +kernel,by decide +kernel,vn (QA rfl),qq (by rfl),zM (qO ⟨_,rfl,rfl,rfl,rfl⟩ qb),rfl⟩)
set_option hygiene false in
local macro_rules | `(tactic| walk_at "c2") => `(tactic| exact ⟨rfl,rfl,by decide +kernel,by decide +kernel,(fun x c z=>nomatch z),qq (by rfl),zM (zM qb),rfl⟩)
set_option hygiene false in
local macro_rules | `(tactic| walk_at "c3") => `(tactic| exact ⟨rfl,rfl,by decide +kernel,by decide +kernel,vn (gO rfl (QA rfl)),qq (by rfl),zM (qO ⟨_,rfl,rfl,rfl,rfl⟩ (qO ⟨_,rfl,rfl,rfl,rfl⟩ qb)),rfl⟩)
set_option hygiene false in
local macro_rules | `(tactic| walk_at "d4") => `(tactic| dsimp (config:={ proj:=false,iota:=false,beta:=false,eta:=false }) only [jS,uy])
abbrev BnN (K:BFr) (x:PySem.Str):Prop:=PySem.W.nsIn K PySem.mainGlobals x=some none
abbrev cw:=@List.length_map
abbrev cx:=@Nat.le_refl
abbrev cy:=@List.mem_cons
abbrev cz:=@Bool.and_eq_true
abbrev cA:=@List.not_mem_nil
abbrev cD:=@PySem.Heap.lt_size
abbrev cG:=@List.length_append
abbrev cH:=@List.mem_map
abbrev cI:=@List.getElem?_eq_getElem
abbrev cJ:=@Nat.le_trans
abbrev cP:=@List.mem_cons_of_mem
abbrev cQ:=@List.getElem?_map
abbrev cU:=@Int.emod_nonneg
abbrev cV:=@List.map_map
abbrev cW:=@List.getElem?_eq_some_iff
abbrev cX:=@List.mem_cons_self
abbrev cZ:=@Bool.false_ne_true
abbrev Ca:=@Int.emod_lt_of_pos
abbrev Cb:=@List.size_toArray
abbrev Cc:=@Nat.ne_of_lt
abbrev Cd:=@Option.map_eq_some_iff
abbrev Ce:=@List.map_append
abbrev Cf:=@Nat.le_of_ble_eq_true
abbrev Cg:=@PySem.Heap.get?_push_of_some
abbrev Ci:=@List.length_take
abbrev Cj:=@List.length_range
abbrev Cm:=@List.all_eq_true
abbrev Cn:=@Bool.true_and
abbrev Co:=@PySem.Heap.get?_push_size
abbrev Cp:=@List.length_singleton
abbrev Cq:=@List.mem_singleton
abbrev Cr:=@List.length_cons
abbrev Cu:=@List.mem_append
abbrev Cv:=@List.append_nil
abbrev Cw:=@Nat.lt_of_lt_of_le
abbrev Cy:=@Nat.zero_le
abbrev Cz:=@List.mem_append_right
abbrev CA:=@List.map_cons
abbrev CB:=@Array.length_toList
abbrev CC:=@List.mem_of_getElem?
abbrev CD:=@PySem.Heap.get?_update_other
abbrev CF:=@List.mem_append_left
abbrev CG:=@Int.toNat_natCast
abbrev CH:=@List.getElem?_append_right
abbrev CI:=@List.nodup_cons
abbrev CJ:=@Int.eq_ofNat_of_zero_le
abbrev CK:=@List.contains_iff_mem
abbrev CM:=@List.take_add_one
abbrev CN:=@List.take_length
abbrev CO:=@Bool.and_eq_true_iff
abbrev CP:=@Array.getElem?_eq_some_iff
abbrev CQ:=@List.getD_eq_getElem?_getD
abbrev CS:=@List.all_map
abbrev CU:=@Nat.min_eq_left
abbrev CV:=@List.mem_of_mem_take
abbrev CW:=@List.map_congr_left
abbrev CY:=@List.getElem?_append_left
abbrev CZ:=@List.all_cons
abbrev C5:=@Option.isSome_iff_exists
abbrev C6:=@Nat.lt_of_le_of_lt
abbrev C7:=@PySem.Heap.get?_update_self
abbrev C8:=@List.take_of_length_le
abbrev C9:=@Bool.false_and
abbrev dc:=@Bool.eq_iff_iff
abbrev de:=@Nat.le_of_not_lt
abbrev dh:=@Nat.add_le_add_left
abbrev dj:=@List.find?_cons
abbrev dk:=@List.getElem?_eq_none
abbrev dm:=@Int.zero_add
abbrev dn:=@List.set_set
abbrev dq:=@List.nodup_nil
abbrev dv:=@List.cons_ne_nil
abbrev dw:=@List.append_assoc
abbrev dz:=@List.mem_filter
abbrev dA:=@List.filterMap_cons
abbrev dB:=@PySem.Heap.get?_none_of_le
abbrev dD:=@PySem.Heap.size_push
abbrev dF:=@Nat.lt_succ_self
abbrev dG:=@List.length_drop
abbrev dH:=@List.any_cons
abbrev dI:=@List.replicate_succ
abbrev dJ:=@List.length_nil
abbrev dM:=@Nat.min_eq_right
abbrev dN:=@Nat.sub_self
abbrev dO:=@Nat.le_add_right
abbrev dP:=@List.length_eq_zero_iff
abbrev dQ:=@List.length_tail
abbrev dR:=@Nat.zero_add
abbrev dS:=@List.all_append
abbrev dU:=@Bool.not_eq_true'
abbrev dW:=@Nat.lt_irrefl
abbrev dX:=@Nat.le_of_lt
abbrev dY:=@List.getElem?_set_self
abbrev dZ:=@Nat.ne_of_gt
abbrev d4:=@List.of_mem_zip
abbrev d5:=@List.flatten_cons
abbrev d6:=@List.foldl_cons
abbrev d7:=@Nat.lt_trans
abbrev d8:=@List.getElem_mem
abbrev d9:=@Int.natCast_nonneg
abbrev Da:=@List.filter_append
abbrev Dc:=@List.pairwise_iff_getElem
abbrev Dd:=@Nat.lt_succ_of_lt
abbrev De:=@List.filter_eq_self
abbrev Df:=@List.drop_zero
abbrev Dg:=@Nat.sub_zero
abbrev Dh:=@List.mem_iff_getElem?
abbrev Di:=@Int.le_refl
abbrev Dj:=@List.cons_append
abbrev Dk:=@List.getElem_range
abbrev Dl:=@List.map_take
abbrev Dm:=@Array.toList_push
abbrev Dn:=@Array.toList_inj
abbrev Do:=@Bool.false_or
abbrev Dp:=@List.mem_range
abbrev Dq:=@List.getElem?_set_ne
abbrev Dr:=@List.take_sublist
abbrev Ds:=@List.getElem?_drop
abbrev Du:=@List.ext_getElem?
abbrev Dv:=@Nat.succ_le_succ
abbrev Dw:=@Nat.not_lt_of_le
abbrev Dx:=@Nat.le_succ_of_le
abbrev Dy:=@Int.ediv_nonneg
abbrev Dz:=@List.pairwise_cons
abbrev DA:=@Option.bind_eq_some_iff
abbrev DB:=@List.getElem?_take_of_lt
abbrev DC:=@Array.getElem?_eq_getElem
abbrev DD:=@List.length_erase_of_mem
abbrev DE:=@List.length_pos_of_mem
abbrev DF:=@List.pairwise_singleton
abbrev DG:=@List.dropLast_concat_getLast
abbrev DH:=@List.nodup_iff_pairwise_ne
namespace L2
open PySem PySem.W PySem.Calls PyProof.Rows
noncomputable def xC (tb:String→Option Builtin) (p:Program) (w:World) (n₀:Nat) (ann:Option Value):Nat→SharedT→Thread→Option SharedT
 | 0,_,_=>none
 | n+1,s,t=>match through t with
  | true=>some s
  | false=>match stepOk n₀ ann t with
   | false=>none
   | true=>match stepT (denote tb) p w s t with
    | some (s',t')=>xC tb p w n₀ ann n s' t'
    | none=>none
theorem MC {tb:String→Option Builtin} {p:Program} {w:World} {n₀:Nat} {ann:Option Value} (n:Nat):∀ {s s':SharedT} {t:Thread},xC tb p w n₀ ann n s t=some s'→topRun tb p w n₀ ann n s.abs t=some s'.abs:=by
 induction n with
 | zero=>intro s s' t h;cases h
 | succ n ih =>
  intro s s' t h
  unfold xC at h
  unfold topRun
  cases ht:through t with
  | true=>rw[ht] at h;cases h;rfl
  | false =>
   rw[ht] at h
   cases hk:stepOk n₀ ann t with
   | false=>rw[hk] at h;cases h
   | true =>
    rw[hk] at h
    cases hs:stepT (denote tb) p w s t with
    | none=>rw[hs] at h;cases h
    | some r =>
     obtain⟨s₂,t₂⟩:=r
     rw[hs] at h
     rw[stepT_spec hs]
     exact ih h
noncomputable def Oj:List Obj→BT→Nat→Option BT
 | [],t,_=>some t
 | o::l,t,n=>match ((t.ins n o).get n).isSome with
  | true=>Oj l (t.ins n o) (n+1)
  | false=>none
theorem lH {life:Life} (l:List Obj):∀ {t t':BT} {n:Nat},Oj l t n=some t'→(absHeap t' (n+l.length) life).objs.toList=(absHeap t n life).objs.toList++l:=by
 induction l with
 | nil=>intro t t' n h;cases h;rw[Cv];rfl
 | cons o l ih =>
  intro t t' n h
  unfold Oj at h
  cases e:((t.ins n o).get n).isSome with
  | false=>rw[e] at h;cases h
  | true =>
   rw[e] at h
   have:=ih h
   rw[Cr,show n+(l.length+1)=n+1+l.length by omega,this,absHeap_ins e]
   show ((absHeap t n life).objs.push o).toList++l=_
   rw[Dm,dw]
   rfl
noncomputable def Of {β:Type} (p:Program) (m:Nat) (ann:Option Value) (M:Nat) (see:Shared→β) (w:World) (os:OsState):Option β :=
 (Oj (boot_heap w.params).objs.toList .nil 0).bind fun t=>(xC treeTable p w m ann M ⟨t,m,(boot_heap w.params).life,Array.mk [],boot_drawn,boot_toks,os⟩ (topStub p)).map fun s=>see s.abs
theorem gY {p q:Program} {loose:List Str} {Xt:Shared→Bool} {α:Type} {Yf:Shared→α} {Ya:World→α} {N M m:Nat} {g0:Bool} {ann:Option Value}
  (e:opening p=plainProg p.main.scope.names) (hN:Nat.ble 600 N=true) (f:∀ s,fenceModules? p s=some s) (le:Nat.ble M N=true) (size:∀ w:World,((boot_heap w.params).isNs mainGlobals,(boot_heap w.params).objs.toList.length,(boot_heap w.params).nsMap mainGlobals "__annotations__")=(true,m,ann)) (h:∀ (w:World) (os:OsState),Of p m ann M (fun s=>((staticsOk (importedModules p.main.body) (boot_heap w.params) s.heap&&namesBound p s.heap&&gensDone s&&laidKept (boot_heap w.params) s.heap),openSeen q loose (importedModules p.main.body) Xt g0 s,Yf s)) w os=some (true,openGood q loose,Ya w)) :
  LeftO p q loose Xt Yf Ya N g0:=fun w=>by
 obtain⟨⟨hp,gs,d,k,os⟩,e1,e2⟩:=Cd.mp (boot_open e hN f w)
 obtain⟨rfl,rfl,rfl,rfl⟩:hp=boot_heap w.params∧gs=Array.mk []∧d=boot_drawn∧k=boot_toks:=by
  have a:=congrArg Prod.fst e2
  have b:=congrArg (fun x=>x.2.1) e2
  have c:=congrArg (fun x=>x.2.2.1) e2
  have d:=congrArg (fun x=>x.2.2.2) e2
  exact⟨a,b,c,d⟩
 have sz:=size w
 have z1:(boot_heap w.params).isNs mainGlobals=true:=congrArg Prod.fst sz
 have z2:(boot_heap w.params).objs.toList.length=m:=congrArg (fun x=>x.2.1) sz
 have z3:(boot_heap w.params).nsMap mainGlobals "__annotations__" = ann:=congrArg (fun x=>x.2.2) sz
 have h:=h w os
 unfold Of at h
 obtain⟨t,ht,h⟩:=DA.mp h
 obtain⟨s,hs,h⟩:=Cd.mp h
 have ab:SharedT.abs ⟨t,m,(boot_heap w.params).life,Array.mk [],boot_drawn,boot_toks,os⟩=⟨boot_heap w.params,Array.mk [],boot_drawn,boot_toks,os⟩:=by
  have g:=lH (life:=(boot_heap w.params).life) _ ht
  rw[dR,z2] at g
  have g':(absHeap t m (boot_heap w.params).life).objs.toList=(boot_heap w.params).objs.toList:=g
  have g2:absHeap t m (boot_heap w.params).life=boot_heap w.params:=by
   show Heap.mk (absHeap t m (boot_heap w.params).life).objs (boot_heap w.params).life=Heap.mk (boot_heap w.params).objs (boot_heap w.params).life
   exact congrArg (Heap.mk · _) (Dn.mp g')
  show Shared.mk (absHeap t m (boot_heap w.params).life) _ _ _ _=_
  rw[g2]
 have r:=MC M hs
 rw[ab] at r
 have r:=topRun_mono (N - M) _ _ _ _ r
 rw[show M+(N - M)=N by have:=Cf le;omega] at r
 have l1:=congrArg Prod.fst h
 have l2:=congrArg Prod.snd h
 dsimp only at l1 l2
 have t:topFrom treeTable p w N ⟨boot_heap w.params,Array.mk [],boot_drawn,boot_toks,os⟩=some s.abs:=by
  unfold topFrom
  have c:((boot_heap w.params).isNs mainGlobals&&(Array.mk ([]:List GenState)).size==0)=true:=by rw[z1];rfl
  show (match (boot_heap w.params).isNs mainGlobals&&(Array.mk ([]:List GenState)).size==0 with | true=>_ | false=>none)=_
  rw[c]
  show (topRun treeTable p w (boot_heap w.params).objs.size ((boot_heap w.params).nsMap mainGlobals "__annotations__") N _ _).bind _=_
  rw[show (boot_heap w.params).objs.size=m from z2,z3,r]
  show (match _ with | true=>_ | false=>none)=_
  rw[l1]
 unfold openEnds
 rw[e1]
 show (topFrom treeTable p w N _).map _=_
 rw[t]
 exact congrArg some l2
end L2
namespace L2
open PySem PySem.Spec PyProof.Rows
noncomputable def zE (s:Stmt) (j:Nat):Stmt:=match s with
 | .ClassDef _ _ _ body _ _ _ _ _ _ _=>body.getD j (.Pass ⟨0,0,0,0⟩)
 | _=>.Pass ⟨0,0,0,0⟩
noncomputable def jJ (s:Stmt):Arguments:=match s with
 | .FunctionDef _ a _ _ _ _ _ _ _ _=>a
 | _=>{ posonlyargs:=[],args:=[],vararg:=none,kwonlyargs:=[],kw_defaults:=[],kwarg:=none,defaults:=[] }
noncomputable def yJ (s:Stmt):List Stmt:=match s with
 | .FunctionDef _ _ b _ _ _ _ _ _ _=>b
 | _=>[]
noncomputable def zO (s:Stmt):Scope:=match s with
 | .FunctionDef _ _ _ _ _ _ sc _ _ _=>sc
 | _=>{ kind:=.function,names:=[],isGenerator:=false,isCoroutine:=false }
end L2
namespace L2
open PySem PySem.W PySem.Calls PyProof.Rows
noncomputable def jk (as:List Addr) (h:Heap):Frag:=as.filterMap fun a=>(h.get? a).map fun o=>(a,o)
structure Wp where
 name:Str
 qual:Str
 params:Arguments
 body:FuncBody
 scope:Scope
 globals:Addr
 closure:List (Str × Addr)
 defaults:Value
 builtins:Addr
 ok:Bool
noncomputable def jz (K:Frag) (v:Option (Option Value)):Option Wp:=match v with
 | some (some (.ref f))=>match K.lookup f with
  | some ⟨_,_,.func fd,_⟩=>some ⟨fd.name,fd.qualname,fd.params,fd.body,fd.scope,fd.globals,fd.closure,fd.defaults,fd.builtins,codeIn K fd.code fd.qualname&&keepIn K (.ref f)&&isFn K (.ref f)⟩
  | _=>none
 | _=>none
noncomputable def jC (x qual:Str) (st:Stmt):Option Wp:=some ⟨x,qual,jJ st,.stmts (yJ st),zO st,mainGlobals,[],.none,builtinsNs,true⟩
abbrev vB:List Value:=[.type "ValueError",.type "Exception",.type "BaseException",.type "object"]
noncomputable def qF (v:Option (Option Value)):Bool:=match v with
 | some none=>true
 | _=>false
noncomputable def isInt (z:Int) (v:Option (Option Value)):Bool:=match v with
 | some (some (.int y _))=>decide (y=z)
 | _=>false
noncomputable def Us (z:Str) (v:Option (Option Value)):Bool:=match v with
 | some (some (.str y _))=>decide (y=z)
 | _=>false
noncomputable def yy (z:Addr) (v:Option (Option Value)):Bool:=match v with
 | some (some (.ref y))=>Nat.beq y z
 | _=>false
noncomputable def jg (z:String) (v:Option (Option Value)):Bool:=match v with
 | some (some (.builtin y))=>decide (y=z)
 | _=>false
noncomputable def qQ (b:Bool) (v:Option Bool):Bool:=match v with
 | some c=>c==b
 | none=>false
noncomputable def ui (K:Frag) (D:Addr):Bool:=(clsIn K D).isSome&&jg "BaseException.__getattribute__" (findIn K (.ref D) "__getattribute__")&&qF (findIn K (.ref D) "__getattr__")&&jg "object.__class__" (findIn K (.ref D) "__class__")&&jg "getset_descriptor.__get__" (specialIn K (.builtin "object.__class__") "__get__")&&qQ true (takesIn K (.builtin "object.__class__"))&&qQ true (mroIn K D (.type "object"))&&qQ true (mroIn K D (.type "BaseException"))
noncomputable def ZU:List Value→List Str→Bool
 | [],[]=>true
 | v::r,z::q=>Us z (some (some v))&&ZU r q
 | _,_=>false
noncomputable def ZO (K:Frag) (x:Str) (zs:List Str):Bool:=match nsIn K mainGlobals x with
 | some (some (.ref a))=>match K.lookup a with
  | some ⟨.type n,_,.seq its _,_⟩=>decide (n = "tuple")&&Nat.ble its.size 1000&&ZU its.toList zs
  | _=>false
 | _=>false
noncomputable def v9 (K:BFr) (C:Addr) (m:Str):Bool :=
 (match PySem.W.specialIn K (.ref C) "__getattribute__" with | some (some (.builtin b))=>b == "type.__getattribute__" | _=>false)&&PySem.W.readsIn K C (.type "type") &&
 (match PySem.W.findIn K (.ref C) m,PySem.W.findCls K (.ref C) (.type "type") m with | some (some (.ref f)),some (.val (.ref g))=>Nat.beq f g | _,_=>false)
end L2
namespace L2
open PySem PySem.W
noncomputable def xw (s:SharedT) (a:Addr):Option Obj:=match Nat.blt a s.n with
 | true=>alive ((s.tree.get a).getD default)
 | false=>none
theorem gS (s:SharedT) (a:Addr):xw s a=s.abs.heap.get? a:=by
 unfold xw
 show _=(absHeap s.tree s.n s.life).get? a
 cases h:Nat.blt a s.n with
 | true =>
  have h:a<s.n:=Nat.blt_eq.mp h
  unfold Heap.get?
  rw[absHeap_at,if_pos h]
  generalize (s.tree.get a).getD default=o
  obtain⟨c,d,dt,sl⟩:=o
  cases dt <;> rfl
 | false =>
  have h:¬ a<s.n:=fun c=>by rw[Nat.blt_eq.mpr c] at h;cases h
  exact (abs_get_none h).symm
noncomputable def jM (as:List Addr) (s:SharedT):Frag:=as.filterMap fun a=>(xw s a).map fun o=>(a,o)
theorem uI (as:List Addr) (s:SharedT):jk as s.abs.heap=jM as s:=by
 unfold jk jM
 congr 1
 funext a
 rw[gS]
end L2
set_option maxHeartbeats 4000000
namespace K11
open PySem
noncomputable def top (i:Nat):Stmt:=PySem.Challenge.pw_coinroll_k11_books_of_rules.main.body.getD i (.Pass ⟨0,0,0,0⟩)
end K11
set_option maxHeartbeats 0
namespace K11
open PySem PySem.W PySem.Calls PyProof.Rows L2
noncomputable def hQ:Program:=PySem.W.view PySem.Challenge.pw_coinroll_k11_books_of_rules [0,2,3,4,5,6,7,8,9,10,11,12,13,14,15,16,17,19,20,21,22,23,24,26,27,28,29,30,31,33,34,35,37,38,40,41,42,43,44,45,46,47,48,49,50,52,53,54,55,57,58,60,61,62,63,64,65,66,67,69,70,71,72,74,75,76,77,78,79,80,81,82,83,84,85,86,87,88,89,90,91,92]
noncomputable def G5:List Addr:=[2,3,15,17,18,20,21,22,29,30,31,32,35,42,43,44,47,54,55,56,59,66,67,68,71,78,79,80,83,90,91,92,95,102,103,104,107,114,115,116,119,126,127,128,131,138,139,140,143,150,151,152,155,162,163,164,167,174,175,176,179,186,187,188,191,198,199,200,203,210,211,212,215,216,218,219,221,222,223,225,226,228,229,230,232,233,235,236,237,239,240,242,243,244,247,248,249,251,252,254,255,256,259,260,261,264,265,266,268,269,271,272,273,275,276,278,279,280,282,283,285,286,287,288,290,291,293,294,295,297,298,300,301,302,304,305,307,308,309,311,312,314,315,323,325,326,328,329,330,332,333,335,336,337,339,340,342,343,344,346,347,349,350,351,353,354,356,357,358,360,361,363,364,365,366,367,368,369,372,379,381,382,384,385,386,388,389,391,392,393,395,396,398,399,400,402,403,405,406,407,408,409,412,419,421,422,424,425,426,428,429,431,432,433,435,436,438,439,440,442,443,445,446,447,448,449,452,459,461,462,464,465,466,468,469,471,472,473,475,476,478,479,480,482,483,485,486,487,488,489,492,499,501,502,504,505,506,508,509,511,512,513,515,516,518,519,520,522,523,525,526,527,528,529,532,534,535,537,538,539,542,543,544,551,554,555,556,558,559,561,562,563,566,567,568,570,571,573,574,575,576,577,580,587,589,590,592,593,594,596,597,599,600,601,603,604,606,607,608,610,611,613,614,615,617,618,620,621,622,623,624,627,629,630,632,633,634,636,637,639,640,641,644,645,646,648,649,651,652,653,655,656,658,659,660,662,663,665,666,667,669,670,672,673,674,676,677,679,680,681,684,685,693,695,696,698,699,700,703,704,705,708,709,710,713,714,715,717,718,720,721,722,723,724,725,726,729,731,732,734,735,736,738,739,741,742,743,745,746,748,749,750,753,754,755,757,758,760,761,762,764,765,767,768,769,771,772,774,775,776,778,779,781,782,783,785,786,788,789,790,793,794,795,798,799,800,802,803,805,806,807,810,811,812,814,815,817,818,819,822,823,824,827,828,829,832,833,834,836,837,839,840,841,844,845]
noncomputable def hFs:List (Str × Nat):=[(("is_number":Str),21),(("is_number_within":Str),22),(("is_parts":Str),23),(("is_way":Str),24),(("is_word_of":Str),29),(("is_name":Str),30),(("rise":Str),31),(("are_figures":Str),33),(("is_number_text":Str),34),(("read_number":Str),35),(("need_year":Str),38),(("is_rule_name":Str),42),(("is_rule_amount":Str),43),(("need_rule_amount":Str),44),(("need_share":Str),45),(("is_band":Str),53),(("are_bands":Str),54),(("number_of":Str),61),(("band_of":Str),62),(("bands_of":Str),63),(("plain_rule":Str),64),(("is_ontop":Str),65),(("rule_of_words":Str),66),(("rule_of":Str),67),(("need_few":Str),70),(("need_unlike_names":Str),71),(("_law_cell_at":Str),74),(("_law_mixed":Str),75),(("_law_amount":Str),76),(("_law_names":Str),77),(("_law_parts":Str),78),(("_law_way":Str),79),(("_law_pairs":Str),80),(("_law_plain":Str),81),(("_law_rule":Str),82),(("_law_row":Str),83),(("_law_rules":Str),84),(("_law_word":Str),85),(("_law_years":Str),86),(("_law_no_year":Str),87),(("_law_refused":Str),88),(("_law_told":Str),89),(("_law_is_right":Str),90),(("_law_stands":Str),91),(("law":Str),92)]
noncomputable def hMs:List (Addr × Str × Str × Nat × Nat):=[(367,("__init__":Str),("Rule.__init__":Str),46,0),(409,("__init__":Str),("Flat.__init__":Str),47,0),(409,("twin":Str),("Flat.twin":Str),47,3),(409,("depth":Str),("Rule.depth":Str),46,4),(409,("row":Str),("Flat.row":Str),47,2),(449,("__init__":Str),("Share.__init__":Str),48,0),(449,("twin":Str),("Share.twin":Str),48,3),(449,("depth":Str),("Rule.depth":Str),46,4),(449,("row":Str),("Share.row":Str),48,2),(489,("__init__":Str),("Capped.__init__":Str),49,0),(489,("twin":Str),("Capped.twin":Str),49,3),(489,("depth":Str),("Rule.depth":Str),46,4),(489,("row":Str),("Capped.row":Str),49,2),(529,("__init__":Str),("Least.__init__":Str),50,0),(529,("twin":Str),("Least.twin":Str),50,3),(529,("depth":Str),("Rule.depth":Str),46,4),(529,("row":Str),("Least.row":Str),50,2),(577,("__init__":Str),("Bands.__init__":Str),55,0),(577,("twin":Str),("Bands.twin":Str),55,3),(577,("depth":Str),("Rule.depth":Str),46,4),(577,("row":Str),("Bands.row":Str),55,2),(624,("__init__":Str),("OnTop.__init__":Str),58,0),(624,("twin":Str),("OnTop.twin":Str),58,3),(624,("depth":Str),("OnTop.depth":Str),58,4),(624,("row":Str),("OnTop.row":Str),58,2),(724,("__init__":Str),("RuleBook.__init__":Str),72,0),(724,("put":Str),("RuleBook.put":Str),72,1),(724,("rows":Str),("RuleBook.rows":Str),72,2),(724,("rules":Str),("RuleBook.rules":Str),72,3),(724,("years":Str),("RuleBook.years":Str),72,4)]
noncomputable def ma (K:Frag):List Bool:=[yy 44 (nsIn K mainGlobals "BadAmount"),yy 56 (nsIn K mainGlobals "BadShare"),yy 68 (nsIn K mainGlobals "BadText"),yy 80 (nsIn K mainGlobals "BadMonth"),yy 92 (nsIn K mainGlobals "BadYear"),yy 104 (nsIn K mainGlobals "BadRule"),yy 116 (nsIn K mainGlobals "BadBook"),yy 128 (nsIn K mainGlobals "NoYear"),yy 140 (nsIn K mainGlobals "BadDay"),yy 152 (nsIn K mainGlobals "BadEntry"),yy 164 (nsIn K mainGlobals "NoMark"),yy 176 (nsIn K mainGlobals "NoPerson"),yy 188 (nsIn K mainGlobals "TooMany"),yy 200 (nsIn K mainGlobals "BadClose"),yy 212 (nsIn K mainGlobals "BadLine"),yy 31 (nsIn K mainGlobals "RollError"),isInt 8 (nsIn K mainGlobals "MOST_SIGNS"),isInt 20000 (nsIn K mainGlobals "MOST_PARTS"),isInt 1000000000000 (nsIn K mainGlobals "MOST_AMOUNT"),isInt 12 (nsIn K mainGlobals "MOST_BANDS"),isInt 3 (nsIn K mainGlobals "MOST_DEPTH"),isInt 13 (nsIn K mainGlobals "MOST_FIGURES"),isInt 9999 (nsIn K mainGlobals "LAST_YEAR"),isInt 8 (nsIn K mainGlobals "MOST_RULES"),Us "abcdefghijklmnopqrstuvwxyz" (nsIn K mainGlobals "LETTERS"),Us "0123456789" (nsIn K mainGlobals "FIGURES"),ZO K "WAYS" ["down","up","near","even"],ZO K "NO_RULE_NAMES" ["base","net","month","sums"],qF (nsIn K mainGlobals "isinstance"),qF (nsIn K mainGlobals "int"),qF (nsIn K mainGlobals "bool"),qF (nsIn K mainGlobals "str"),qF (nsIn K mainGlobals "len"),qF (nsIn K mainGlobals "range"),qF (nsIn K mainGlobals "ValueError"),qF (nsIn K mainGlobals "list"),qF (nsIn K mainGlobals "tuple"),qF (nsIn K mainGlobals "dict"),qF (nsIn K mainGlobals "set"),qF (nsIn K mainGlobals "all"),qF (nsIn K mainGlobals "any"),qF (nsIn K mainGlobals "sum"),qF (nsIn K mainGlobals "sorted"),qF (nsIn K mainGlobals "abs"),qF (nsIn K mainGlobals "max"),qF (nsIn K mainGlobals "min"),qF (nsIn K mainGlobals "zip"),qF (nsIn K mainGlobals "enumerate"),qF (nsIn K mainGlobals "reversed"),excIn K 68 vB "ValueError.__new__",qQ true (exmOne K (.ref 68) (.ref 31)),ui K 68,qQ true (kitOne K (.ref 68) (.type "ValueError")),qQ false (kitOne K (.ref 68) (.ref 44)),qQ false (kitOne K (.ref 68) (.ref 56)),qQ true (kitOne K (.ref 68) (.ref 68)),qQ false (kitOne K (.ref 68) (.ref 80)),qQ false (kitOne K (.ref 68) (.ref 92)),qQ false (kitOne K (.ref 68) (.ref 104)),qQ false (kitOne K (.ref 68) (.ref 116)),qQ false (kitOne K (.ref 68) (.ref 128)),qQ false (kitOne K (.ref 68) (.ref 140)),qQ false (kitOne K (.ref 68) (.ref 152)),qQ false (kitOne K (.ref 68) (.ref 164)),qQ false (kitOne K (.ref 68) (.ref 176)),qQ false (kitOne K (.ref 68) (.ref 188)),qQ false (kitOne K (.ref 68) (.ref 200)),qQ false (kitOne K (.ref 68) (.ref 212)),excIn K 92 vB "ValueError.__new__",qQ true (exmOne K (.ref 92) (.ref 31)),ui K 92,qQ true (kitOne K (.ref 92) (.type "ValueError")),qQ false (kitOne K (.ref 92) (.ref 44)),qQ false (kitOne K (.ref 92) (.ref 56)),qQ false (kitOne K (.ref 92) (.ref 68)),qQ false (kitOne K (.ref 92) (.ref 80)),qQ true (kitOne K (.ref 92) (.ref 92)),qQ false (kitOne K (.ref 92) (.ref 104)),qQ false (kitOne K (.ref 92) (.ref 116)),qQ false (kitOne K (.ref 92) (.ref 128)),qQ false (kitOne K (.ref 92) (.ref 140)),qQ false (kitOne K (.ref 92) (.ref 152)),qQ false (kitOne K (.ref 92) (.ref 164)),qQ false (kitOne K (.ref 92) (.ref 176)),qQ false (kitOne K (.ref 92) (.ref 188)),qQ false (kitOne K (.ref 92) (.ref 200)),qQ false (kitOne K (.ref 92) (.ref 212)),excIn K 104 vB "ValueError.__new__",qQ true (exmOne K (.ref 104) (.ref 31)),ui K 104,qQ true (kitOne K (.ref 104) (.type "ValueError")),qQ false (kitOne K (.ref 104) (.ref 44)),qQ false (kitOne K (.ref 104) (.ref 56)),qQ false (kitOne K (.ref 104) (.ref 68)),qQ false (kitOne K (.ref 104) (.ref 80)),qQ false (kitOne K (.ref 104) (.ref 92)),qQ true (kitOne K (.ref 104) (.ref 104)),qQ false (kitOne K (.ref 104) (.ref 116)),qQ false (kitOne K (.ref 104) (.ref 128)),qQ false (kitOne K (.ref 104) (.ref 140)),qQ false (kitOne K (.ref 104) (.ref 152)),qQ false (kitOne K (.ref 104) (.ref 164)),qQ false (kitOne K (.ref 104) (.ref 176)),qQ false (kitOne K (.ref 104) (.ref 188)),qQ false (kitOne K (.ref 104) (.ref 200)),qQ false (kitOne K (.ref 104) (.ref 212)),excIn K 116 vB "ValueError.__new__",qQ true (exmOne K (.ref 116) (.ref 31)),ui K 116,qQ true (kitOne K (.ref 116) (.type "ValueError")),qQ false (kitOne K (.ref 116) (.ref 44)),qQ false (kitOne K (.ref 116) (.ref 56)),qQ false (kitOne K (.ref 116) (.ref 68)),qQ false (kitOne K (.ref 116) (.ref 80)),qQ false (kitOne K (.ref 116) (.ref 92)),qQ false (kitOne K (.ref 116) (.ref 104)),qQ true (kitOne K (.ref 116) (.ref 116)),qQ false (kitOne K (.ref 116) (.ref 128)),qQ false (kitOne K (.ref 116) (.ref 140)),qQ false (kitOne K (.ref 116) (.ref 152)),qQ false (kitOne K (.ref 116) (.ref 164)),qQ false (kitOne K (.ref 116) (.ref 176)),qQ false (kitOne K (.ref 116) (.ref 188)),qQ false (kitOne K (.ref 116) (.ref 200)),qQ false (kitOne K (.ref 116) (.ref 212)),excIn K 128 vB "ValueError.__new__",qQ true (exmOne K (.ref 128) (.ref 31)),ui K 128,qQ true (kitOne K (.ref 128) (.type "ValueError")),qQ false (kitOne K (.ref 128) (.ref 44)),qQ false (kitOne K (.ref 128) (.ref 56)),qQ false (kitOne K (.ref 128) (.ref 68)),qQ false (kitOne K (.ref 128) (.ref 80)),qQ false (kitOne K (.ref 128) (.ref 92)),qQ false (kitOne K (.ref 128) (.ref 104)),qQ false (kitOne K (.ref 128) (.ref 116)),qQ true (kitOne K (.ref 128) (.ref 128)),qQ false (kitOne K (.ref 128) (.ref 140)),qQ false (kitOne K (.ref 128) (.ref 152)),qQ false (kitOne K (.ref 128) (.ref 164)),qQ false (kitOne K (.ref 128) (.ref 176)),qQ false (kitOne K (.ref 128) (.ref 188)),qQ false (kitOne K (.ref 128) (.ref 200)),qQ false (kitOne K (.ref 128) (.ref 212)),yy 367 (nsIn K mainGlobals "Rule"),plainGet K 367 Str.empty,hasDictIn K 367,plainOver K 367,jg "object.__setattr__" (findIn K (.ref 367) "__setattr__"),v9 K 367 "__init__",yy 409 (nsIn K mainGlobals "Flat"),plainGet K 409 Str.empty,hasDictIn K 409,plainOver K 409,jg "object.__setattr__" (findIn K (.ref 409) "__setattr__"),qF (findIn K (.ref 409) "name"),qF (findIn K (.ref 409) "amount"),qF (findIn K (.ref 409) "parts"),qF (findIn K (.ref 409) "way"),qF (findIn K (.ref 409) "most"),qF (findIn K (.ref 409) "least"),makesIn K 409&&keepIn K (.ref 409),yy 449 (nsIn K mainGlobals "Share"),plainGet K 449 Str.empty,hasDictIn K 449,plainOver K 449,jg "object.__setattr__" (findIn K (.ref 449) "__setattr__"),qF (findIn K (.ref 449) "name"),qF (findIn K (.ref 449) "amount"),qF (findIn K (.ref 449) "parts"),qF (findIn K (.ref 449) "way"),qF (findIn K (.ref 449) "most"),qF (findIn K (.ref 449) "least"),makesIn K 449&&keepIn K (.ref 449),yy 489 (nsIn K mainGlobals "Capped"),plainGet K 489 Str.empty,hasDictIn K 489,plainOver K 489,jg "object.__setattr__" (findIn K (.ref 489) "__setattr__"),qF (findIn K (.ref 489) "name"),qF (findIn K (.ref 489) "amount"),qF (findIn K (.ref 489) "parts"),qF (findIn K (.ref 489) "way"),qF (findIn K (.ref 489) "most"),qF (findIn K (.ref 489) "least"),makesIn K 489&&keepIn K (.ref 489),yy 529 (nsIn K mainGlobals "Least"),plainGet K 529 Str.empty,hasDictIn K 529,plainOver K 529,jg "object.__setattr__" (findIn K (.ref 529) "__setattr__"),qF (findIn K (.ref 529) "name"),qF (findIn K (.ref 529) "amount"),qF (findIn K (.ref 529) "parts"),qF (findIn K (.ref 529) "way"),qF (findIn K (.ref 529) "most"),qF (findIn K (.ref 529) "least"),makesIn K 529&&keepIn K (.ref 529),yy 577 (nsIn K mainGlobals "Bands"),plainGet K 577 Str.empty,hasDictIn K 577,plainOver K 577,jg "object.__setattr__" (findIn K (.ref 577) "__setattr__"),qF (findIn K (.ref 577) "name"),qF (findIn K (.ref 577) "bands"),qF (findIn K (.ref 577) "way"),qF (findIn K (.ref 577) "parts"),qF (findIn K (.ref 577) "within"),makesIn K 577&&keepIn K (.ref 577),yy 624 (nsIn K mainGlobals "OnTop"),plainGet K 624 Str.empty,hasDictIn K 624,plainOver K 624,jg "object.__setattr__" (findIn K (.ref 624) "__setattr__"),qF (findIn K (.ref 624) "name"),qF (findIn K (.ref 624) "bands"),qF (findIn K (.ref 624) "way"),qF (findIn K (.ref 624) "parts"),qF (findIn K (.ref 624) "within"),makesIn K 624&&keepIn K (.ref 624),yy 724 (nsIn K mainGlobals "RuleBook"),plainGet K 724 Str.empty,hasDictIn K 724,plainOver K 724,jg "object.__setattr__" (findIn K (.ref 724) "__setattr__"),qF (findIn K (.ref 724) "told"),makesIn K 724&&keepIn K (.ref 724),qQ true (exmOne K (.ref 68) (.ref 68)),qQ false (exmOne K (.ref 104) (.ref 68)),jg "getset_descriptor.__get__" (specialIn K (.builtin "object.__class__") "__get__"),qQ true (takesIn K (.builtin "object.__class__")),(!(Nat.beq 449 624)),jg "object.__class__" (findIn K (.ref 409) "__class__"),qQ true (mroIn K 409 (.type "object")),qQ true (kitOne K (.ref 409) (.ref 367)),jg "object.__class__" (findIn K (.ref 449) "__class__"),qQ true (mroIn K 449 (.type "object")),qQ true (kitOne K (.ref 449) (.ref 367)),jg "object.__class__" (findIn K (.ref 489) "__class__"),qQ true (mroIn K 489 (.type "object")),qQ true (kitOne K (.ref 489) (.ref 367)),jg "object.__class__" (findIn K (.ref 529) "__class__"),qQ true (mroIn K 529 (.type "object")),qQ true (kitOne K (.ref 529) (.ref 367)),jg "object.__class__" (findIn K (.ref 577) "__class__"),qQ true (mroIn K 577 (.type "object")),qQ true (kitOne K (.ref 577) (.ref 367)),jg "object.__class__" (findIn K (.ref 624) "__class__"),qQ true (mroIn K 624 (.type "object")),qQ true (kitOne K (.ref 624) (.ref 367))]
noncomputable def NH (K:Frag):=(hFs.map (fun x=>jz K (nsIn K mainGlobals x.1)),hMs.map (fun x=>jz K (findIn K (.ref x.1) x.2.1)),(ma K).all id)
noncomputable def OI:=(hFs.map (fun x=>jC x.1 x.1 (top x.2)),hMs.map (fun x=>jC x.2.1 x.2.2.1 (zE (top x.2.2.2.1) x.2.2.2.2)),true)
noncomputable def Re (s:Shared):Bool:=xlAt hQ [] s&&recOk [] s
noncomputable def RI (w:World) (s:Shared):=((staticsOk (importedModules PySem.Challenge.pw_coinroll_k11_books_of_rules.main.body) (boot_heap w.params) s.heap&&namesBound PySem.Challenge.pw_coinroll_k11_books_of_rules s.heap&&gensDone s&&laidKept (boot_heap w.params) s.heap),openSeen hQ [] (importedModules PySem.Challenge.pw_coinroll_k11_books_of_rules.main.body) Re true s,NH (jk G5 s.heap))
noncomputable def BM (K:Frag):List Bool:=ma K
noncomputable def hX (w:World) (os:OsState):Option SharedT:=(Oj (boot_heap w.params).objs.toList .nil 0).bind fun t=>(xC treeTable PySem.Challenge.pw_coinroll_k11_books_of_rules w 11 (some (.ref 6)) 7736 ⟨t,11,(boot_heap w.params).life,Array.mk [],boot_drawn,boot_toks,os⟩ (topStub PySem.Challenge.pw_coinroll_k11_books_of_rules))
noncomputable def pJ (w:World) (os:OsState):=(hX w os).map fun s=>(staticsOk (importedModules PySem.Challenge.pw_coinroll_k11_books_of_rules.main.body) (boot_heap w.params) s.abs.heap)&&((namesBound PySem.Challenge.pw_coinroll_k11_books_of_rules s.abs.heap&&gensDone s.abs&&laidKept (boot_heap w.params) s.abs.heap))
noncomputable def oO (_:World) (_:OsState):=some (true)
theorem xS:pJ=pJ:=rfl
theorem NA:oO=oO:=rfl
noncomputable def OS (w:World) (os:OsState):=(hX w os).map fun s=>seen ((recsOf hQ).map (·.name)) (ownsOf hQ) [] { s.abs with gens:=#[] }
noncomputable def PN (_:World) (_:OsState):=some (expectedOf hQ)
theorem WX:OS=OS:=rfl
theorem WJ:PN=PN:=rfl
noncomputable def pP (w:World) (os:OsState):=(hX w os).map fun s=>s.abs.heap.bltView
noncomputable def Pq (_:World) (_:OsState):=some (bltViewBooted)
theorem Wn:pP=pP:=rfl
theorem MQ:Pq=Pq:=rfl
noncomputable def O8 (w:World) (os:OsState):=(hX w os).map fun s=>(s.abs.heap.keysOk (looseW hQ []) ((recsOf hQ).map (·.name)) ((litsOf hQ).map (·.1)) ((clssOf hQ (looseW hQ [])).map (·.name)))&&((s.abs.heap.accountedOkI (importedModules PySem.Challenge.pw_coinroll_k11_books_of_rules.main.body))&&((s.abs.heap.isNs mainGlobals&&s.abs.heap.isNs builtinsNs&&tablesOk hQ s.abs.heap&&Re s.abs&&(if true=true then s.abs.gens.size==0 else !leftWithCleanup s.abs.gens))))
noncomputable def pZ (_:World) (_:OsState):=some (true)
theorem Ww:O8=O8:=rfl
theorem NQ:pZ=pZ:=rfl
noncomputable def Ow (w:World) (os:OsState):=(hX w os).map fun s=>(tabsOk hQ s.abs,pinSeenD hQ (drecsOf hQ) s.abs,plainSeenD hQ [] s.abs,clsSeenW hQ [] s.abs)
noncomputable def Ot (_:World) (_:OsState):=some ((true,pinGoodD (drecsOf hQ),plainGoodD hQ [],clsGoodW hQ []))
theorem xr:Ow=Ow:=rfl
theorem Wu:Ot=Ot:=rfl
noncomputable def pC (w:World) (os:OsState):=(hX w os).map fun s=>((plainsOf hQ (looseW hQ [])).take 10).map fun c=>s.abs.heap.plainShapeAt c.withCmp
noncomputable def OG (_:World) (_:OsState):=some (((plainsOf hQ (looseW hQ [])).take 10).map fun c=>some c.withCmp.plainShape)
theorem xf:pC=pC:=rfl
theorem xQ:OG=OG:=rfl
noncomputable def Oi (w:World) (os:OsState):=(hX w os).map fun s=>((plainsOf hQ (looseW hQ [])).drop 10).map fun c=>s.abs.heap.plainShapeAt c.withCmp
noncomputable def Oe (_:World) (_:OsState):=some (((plainsOf hQ (looseW hQ [])).drop 10).map fun c=>some c.withCmp.plainShape)
theorem WL:Oi=Oi:=rfl
theorem Wc:Oe=Oe:=rfl
noncomputable def Wg (w:World) (os:OsState):=(hX w os).map fun s=>(wdefsOf hQ).map fun d=>shapeAtK s.abs.heap d.1.name
noncomputable def xt (_:World) (_:OsState):=some ((wdefsOf hQ).map fun d=>some d.1.shape)
theorem UL:Wg=Wg:=rfl
theorem VM:xt=xt:=rfl
noncomputable def xq (w:World) (os:OsState):=(hX w os).map fun s=>((wdefsOf hQ).all fun d=>s.abs.heap.restOk (hQ.nameAt false d.1.name) d.1.name&&dfltAt s.abs.heap d)&&(wlitsOf hQ).all (constAt s.abs.heap)
noncomputable def xU (_:World) (_:OsState):=some (true)
theorem Ut:xq=xq:=rfl
theorem m5:xU=xU:=rfl
noncomputable def Wr (w:World) (os:OsState):=(hX w os).map fun s=>((hFs.drop 0).take 80).map (fun x=>jz (jM G5 s) (nsIn (jM G5 s) mainGlobals x.1))
noncomputable def xD (_:World) (_:OsState):=some (((hFs.drop 0).take 80).map (fun x=>jC x.1 x.1 (top x.2)))
theorem VP:Wr=Wr:=rfl
theorem VN:xD=xD:=rfl
noncomputable def xm (w:World) (os:OsState):=(hX w os).map fun s=>hMs.map (fun x=>jz (jM G5 s) (findIn (jM G5 s) (.ref x.1) x.2.1))
noncomputable def WT (_:World) (_:OsState):=some (hMs.map (fun x=>jC x.2.1 x.2.2.1 (zE (top x.2.2.2.1) x.2.2.2.2)))
theorem UR:xm=xm:=rfl
theorem U3:WT=WT:=rfl
noncomputable def WU (w:World) (os:OsState):=(hX w os).map fun s=>(BM (jM G5 s)).all id
noncomputable def WW (_:World) (_:OsState):=some (true)
theorem V4:WU=WU:=rfl
theorem Mc:WW=WW:=rfl
end K11
lay_quick L2.xC K11.top
name_quick hRunQ0 for K11.pJ by K11.xS
name_quick hRunQ2 for K11.OS by K11.WX
name_quick hEndQ2 for K11.PN by K11.WJ
name_quick hRunQ3 for K11.pP by K11.Wn
name_quick hRunQ4 for K11.O8 by K11.Ww
name_quick hRunQ7 for K11.Ow by K11.xr
name_quick hEndQ7 for K11.Ot by K11.Wu
name_quick hRunQ8 for K11.pC by K11.xf
name_quick hEndQ8 for K11.OG by K11.xQ
name_quick hRunQ9 for K11.Oi by K11.WL
name_quick hEndQ9 for K11.Oe by K11.Wc
name_quick hRunQ10 for K11.Wg by K11.UL
name_quick hEndQ10 for K11.xt by K11.VM
name_quick hRunQ11 for K11.xq by K11.Ut
name_quick hRunQ12 for K11.Wr by K11.VP
name_quick hEndQ12 for K11.xD by K11.VN
name_quick hRunQ13 for K11.xm by K11.UR
name_quick hEndQ13 for K11.WT by K11.U3
name_quick hRunQ14 for K11.WU by K11.V4
namespace K11
open PySem PySem.W PySem.Calls PyProof.Rows L2
theorem Nj:Fast.hRunQ0=oO:=by kernel_rfl
theorem MM:Fast.hRunQ2=Fast.hEndQ2:=by kernel_rfl
theorem Nu:Fast.hRunQ3=Pq:=by kernel_rfl
theorem MK:Fast.hRunQ4=pZ:=by kernel_rfl
theorem nj:Fast.hRunQ7=Fast.hEndQ7:=by kernel_rfl
theorem nX:Fast.hRunQ8=Fast.hEndQ8:=by kernel_rfl
theorem M7:Fast.hRunQ9=Fast.hEndQ9:=by kernel_rfl
theorem mT:Fast.hRunQ10=Fast.hEndQ10:=by kernel_rfl
theorem L5:Fast.hRunQ11=xU:=by kernel_rfl
theorem lr:Fast.hRunQ12=Fast.hEndQ12:=by kernel_rfl
theorem LF:Fast.hRunQ13=Fast.hEndQ13:=by kernel_rfl
theorem mU:Fast.hRunQ14=WW:=by kernel_rfl
theorem rJ:LeftO PySem.Challenge.pw_coinroll_k11_books_of_rules hQ [] Re (fun s=>NH (jk G5 s.heap)) (fun _=>OI) 7736:=by
 refine gY (M:=7736) (m:=11) (ann:=some (.ref 6)) (by kernel_rfl) (by kernel_rfl) (fun s=>by kernel_rfl) (by kernel_rfl) (fun w=>by kernel_rfl) fun w os=>?_
 obtain⟨s,es,e0⟩:=Cd.mp (show (hX w os).map _=some _ from congrFun (congrFun (Fast.hRunQ0_eq.trans Nj) w) os)
 obtain⟨s2,es2,e2⟩:=Cd.mp (show (hX w os).map _=some _ from congrFun (congrFun (Fast.hRunQ2_eq.trans (MM.trans Fast.hEndQ2_eq.symm)) w) os)
 obtain rfl:s=s2:=Option.some.inj (es.symm.trans es2)
 obtain⟨s3,es3,e3⟩:=Cd.mp (show (hX w os).map _=some _ from congrFun (congrFun (Fast.hRunQ3_eq.trans Nu) w) os)
 obtain rfl:s=s3:=Option.some.inj (es.symm.trans es3)
 obtain⟨s4,es4,e4⟩:=Cd.mp (show (hX w os).map _=some _ from congrFun (congrFun (Fast.hRunQ4_eq.trans MK) w) os)
 obtain rfl:s=s4:=Option.some.inj (es.symm.trans es4)
 obtain⟨s7,es7,e7⟩:=Cd.mp (show (hX w os).map _=some _ from congrFun (congrFun (Fast.hRunQ7_eq.trans (nj.trans Fast.hEndQ7_eq.symm)) w) os)
 obtain rfl:s=s7:=Option.some.inj (es.symm.trans es7)
 obtain⟨s8,es8,e8⟩:=Cd.mp (show (hX w os).map _=some _ from congrFun (congrFun (Fast.hRunQ8_eq.trans (nX.trans Fast.hEndQ8_eq.symm)) w) os)
 obtain rfl:s=s8:=Option.some.inj (es.symm.trans es8)
 obtain⟨s9,es9,e9⟩:=Cd.mp (show (hX w os).map _=some _ from congrFun (congrFun (Fast.hRunQ9_eq.trans (M7.trans Fast.hEndQ9_eq.symm)) w) os)
 obtain rfl:s=s9:=Option.some.inj (es.symm.trans es9)
 obtain⟨s10,es10,e10⟩:=Cd.mp (show (hX w os).map _=some _ from congrFun (congrFun (Fast.hRunQ10_eq.trans (mT.trans Fast.hEndQ10_eq.symm)) w) os)
 obtain rfl:s=s10:=Option.some.inj (es.symm.trans es10)
 obtain⟨s11,es11,e11⟩:=Cd.mp (show (hX w os).map _=some _ from congrFun (congrFun (Fast.hRunQ11_eq.trans L5) w) os)
 obtain rfl:s=s11:=Option.some.inj (es.symm.trans es11)
 obtain⟨s12,es12,e12⟩:=Cd.mp (show (hX w os).map _=some _ from congrFun (congrFun (Fast.hRunQ12_eq.trans (lr.trans Fast.hEndQ12_eq.symm)) w) os)
 obtain rfl:s=s12:=Option.some.inj (es.symm.trans es12)
 obtain⟨s13,es13,e13⟩:=Cd.mp (show (hX w os).map _=some _ from congrFun (congrFun (Fast.hRunQ13_eq.trans (LF.trans Fast.hEndQ13_eq.symm)) w) os)
 obtain rfl:s=s13:=Option.some.inj (es.symm.trans es13)
 obtain⟨s14,es14,e14⟩:=Cd.mp (show (hX w os).map _=some _ from congrFun (congrFun (Fast.hRunQ14_eq.trans mU) w) os)
 obtain rfl:s=s14:=Option.some.inj (es.symm.trans es14)
 obtain⟨e0,e1⟩:=CO.mp e0
 obtain⟨e4,e5⟩:=CO.mp e4
 obtain⟨e5,e6⟩:=CO.mp e5
 have ey:(ma (jk G5 s.abs.heap)).all id=true:=by
  rw[uI]
  show (BM (jM G5 s)).all id=true
  try simp only[dS,cz]
  exact e14
 have el:RI w s.abs=(true,openGood hQ [],OI):=by
  have a1:(staticsOk (importedModules PySem.Challenge.pw_coinroll_k11_books_of_rules.main.body) (boot_heap w.params) s.abs.heap&&namesBound PySem.Challenge.pw_coinroll_k11_books_of_rules s.abs.heap&&gensDone s.abs&&laidKept (boot_heap w.params) s.abs.heap)=true:=by
   have e1:=e1
   simp only[cz] at e1 ⊢
   exact⟨⟨⟨e0,e1.1.1⟩,e1.1.2⟩,e1.2⟩
  have ab:(s.abs.heap.keysOk (looseW hQ []) ((recsOf hQ).map (·.name)) ((litsOf hQ).map (·.1)) ((clssOf hQ (looseW hQ [])).map (·.name))&&s.abs.heap.accountedOkI (importedModules PySem.Challenge.pw_coinroll_k11_books_of_rules.main.body)&&s.abs.heap.isNs mainGlobals&&s.abs.heap.isNs builtinsNs&&tablesOk hQ s.abs.heap&&Re s.abs&&(if true=true then s.abs.gens.size==0 else !leftWithCleanup s.abs.gens))=true:=by
   have e6:=e6
   simp only[cz] at e6 ⊢
   obtain⟨⟨⟨⟨g1,g2⟩,g3⟩,g4⟩,g5⟩:=e6
   exact⟨⟨⟨⟨⟨⟨e4,e5⟩,g1⟩,g2⟩,g3⟩,g4⟩,g5⟩
  have e8:=congr (congrArg HAppend.hAppend e8) e9
  rw[← Ce,← Ce,List.take_append_drop] at e8
  have a2:openSeen hQ [] (importedModules PySem.Challenge.pw_coinroll_k11_books_of_rules.main.body) Re true s.abs=openGood hQ []:=congr (congrArg Prod.mk e2) (congr (congrArg Prod.mk e3) (congr (congrArg Prod.mk ab) (congr (congrArg Prod.mk (congrArg Prod.fst e7)) (congr (congrArg Prod.mk (congrArg (fun z=>z.2.1) e7)) (congr (congrArg Prod.mk e8) (congr (congrArg Prod.mk (congrArg (fun z=>z.2.2.1) e7)) (congr (congrArg Prod.mk (congr (congrArg Prod.mk e10) e11)) (congrArg (fun z=>z.2.2.2) e7))))))))
  have e12:((hFs.drop 0).take 80).map (fun x=>jz (jk G5 s.abs.heap) (nsIn (jk G5 s.abs.heap) mainGlobals x.1))=((hFs.drop 0).take 80).map (fun x=>jC x.1 x.1 (top x.2)):=by rw[uI];exact e12
  have e13:hMs.map (fun x=>jz (jk G5 s.abs.heap) (findIn (jk G5 s.abs.heap) (.ref x.1) x.2.1))=hMs.map (fun x=>jC x.2.1 x.2.2.1 (zE (top x.2.2.2.1) x.2.2.2.2)):=by rw[uI];exact e13
  have ef:=e12
  try simp only[← Ce] at ef
  rw[show (hFs.drop 0).take 80=hFs by kernel_rfl] at ef
  exact congr (congrArg Prod.mk a1) (congr (congrArg Prod.mk a2) (congr (congrArg Prod.mk ef) (congr (congrArg Prod.mk e13) ey)))
 unfold Of
 obtain⟨t,ht,hs⟩:=DA.mp es
 rw[ht]
 show (xC _ _ w _ _ _ _ _).map _=_
 rw[hs]
 exact congrArg some el
end K11
namespace L2
open PySem PySem.Spec PyProof.Rows
noncomputable def Om:Expr→Bool
 | .Starred _ _=>true
 | _=>false
theorem zT {e:Expr} {es:List Expr} {env:Env} (h:Om e=false):starEach (e::es) env=(false,eval e env)::starEach es env:=by
 cases e <;> first | rfl | cases h
theorem yn {env:Env} {pos:Pos}:∀ {es:List Expr},es.all (fun e=>!Om e)=true→(backTo pos (starEach es env)).any (·.1)=false
 | [],_=>rfl
 | e::es,h=>by
  rw[CZ,cz,dU] at h
  rw[zT h.1]
  show (false || (backTo pos (starEach es env)).any (·.1))=false
  rw[Do]
  exact yn h.2
abbrev yY:=Sum Int Str
noncomputable def YM:yY→Value→Bool
 | .inl k,v=>Value.isInt k v
 | .inr x,v=>Value.isStrOf x v
noncomputable def Bj (w:World):yY→Int
 | .inl k=>hashInt k
 | .inr x=>hashStr w x
theorem qY:∀ {k:yY} {v:Value},YM k v=true→(∃ i t,k=Sum.inl i∧v=Value.int i t)∨(∃ x t,k=Sum.inr x∧v=Value.str x t)
 | .inl i,v,h=>by
  obtain⟨t,e⟩:=Value.isInt_shape (k:=i) (v:=v) h
  exact .inl ⟨i,t,rfl,e⟩
 | .inr x,v,h=>by
  obtain⟨t,e⟩:=Value.isStrOf_shape (x:=x) (v:=v) h
  exact .inr ⟨x,t,rfl,e⟩
theorem gr (i:Int) (t:Tok):YM (.inl i) (.int i t)=true:=by simp[YM,Value.isInt]
theorem G1 (x:Str) (t:Tok):YM (.inr x) (.str x t)=true:=by simp[YM,Value.isStrOf]
theorem ML (a b:Int):decide ((Sum.inl a:yY)=Sum.inl b)=(a==b):=by
 by_cases e:a=b
 ·subst e;simp
 ·have h:¬ (Sum.inl a:yY)=Sum.inl b:=fun q=>e (Sum.inl.inj q)
  rw[decide_eq_false h]
  exact (beq_eq_false_iff_ne.mpr e).symm
theorem M6 (a b:Str):decide ((Sum.inr a:yY)=Sum.inr b)=decide (a=b):=by
 by_cases e:a=b
 ·subst e;simp
 ·have h:¬ (Sum.inr a:yY)=Sum.inr b:=fun q=>e (Sum.inr.inj q)
  rw[decide_eq_false h,decide_eq_false e]
theorem nB (a:Int) (b:Str):decide ((Sum.inl a:yY)=Sum.inr b)=false:=decide_eq_false (fun q=>nomatch q)
theorem NZ (a:Str) (b:Int):decide ((Sum.inr a:yY)=Sum.inl b)=false:=decide_eq_false (fun q=>nomatch q)
noncomputable def yk (prog:Program) (w:World):PySem.KeyKind prog w yY where
 is:=YM
 hash:=Bj w
 inj:=fun v a b ha hb=>by
  rcases qY ha with ⟨i,t,rfl,rfl⟩ | ⟨x,t,rfl,rfl⟩
  ·rcases qY hb with ⟨j,u,rfl,e⟩ | ⟨y,u,rfl,e⟩
   ·injection e with e1 _;rw[e1]
   ·exact nomatch e
  ·rcases qY hb with ⟨j,u,rfl,e⟩ | ⟨y,u,rfl,e⟩
   ·exact nomatch e
   ·injection e with e1 _;rw[e1]
 byValue:=fun k v h=>by
  rcases qY h with ⟨i,t,rfl,rfl⟩ | ⟨x,t,rfl,rfl⟩ <;> rfl
 pyHash:=fun hv h=>by
  rcases qY hv with ⟨i,t,rfl,rfl⟩ | ⟨x,t,rfl,rfl⟩
  ·exact wpAny_pyHash_int h
  ·exact wpAny_pyHash_str h
 eqBool:=fun hu hv h=>by
  rcases qY hu with ⟨i,t,rfl,rfl⟩ | ⟨x,t,rfl,rfl⟩
  ·rcases qY hv with ⟨j,u,rfl,rfl⟩ | ⟨y,u,rfl,rfl⟩
   ·rw[ML] at h;exact wpAny_eqBool_int h
   ·rw[nB] at h;exact SeqAt.EqAt.int_str i t y u _ _ _ _ h
  ·rcases qY hv with ⟨j,u,rfl,rfl⟩ | ⟨y,u,rfl,rfl⟩
   ·rw[NZ] at h;exact SeqAt.EqAt.str_int x t j u _ _ _ _ h
   ·rw[M6] at h;exact wpAny_eqBool_str h
 «strs»:=fun k x t v h=>by
  rcases qY h with ⟨i,u,rfl,e⟩ | ⟨y,u,rfl,e⟩
  ·exact nomatch e
  ·injection e with e1 _
   subst e1
   cases v <;> rfl
theorem UP (prog:Program) (w:World) (i:Int) (t:Tok):(yk prog w).is (.inl i) (.int i t)=true:=gr i t
theorem Ux (prog:Program) (w:World) (x:Str) (t:Tok):(yk prog w).is (.inr x) (.str x t)=true:=G1 x t
inductive V where
 | non | bl (b:Bool) | int (i:Int) | str (x:Str) | byt (b:Array UInt8) | flt (b:UInt64) | ref (a:Addr) | ty (n:String)
 deriving DecidableEq
noncomputable def qx:V→Value→Prop
 | .non,u=>u=Value.none
 | .bl b,u=>u=Value.bool b
 | .int i,u=>∃ t,u=Value.int i t
 | .str x,u=>∃ t,u=Value.str x t
 | .byt b,u=>∃ t,u=Value.bytes b t
 | .flt b,u=>∃ t,u=Value.float b t
 | .ref a,u=>u=Value.ref a
 | .ty n,u=>u=Value.type n
abbrev qf:List V→List Value→Prop:=Paired qx
theorem qf.length {xs:List V} {us:List Value} (r:qf xs us):xs.length=us.length:=Paired.length r
theorem qf.get:∀ {xs:List V} {us:List Value} {i:Nat} {x:V},qf xs us→xs[i]? = some x→∃ u,us[i]? = some u∧qx x u
 | _,_,_,_,.nil,e=>by simp at e
 | _,_,0,_,.cons r _,e=>by simp at e;subst e;exact⟨_,rfl,r⟩
 | _,_,i+1,x,.cons _ t,e=>by
  obtain⟨u,h1,h2⟩:=qf.get (i:=i) (x:=x) t (by simpa using e)
  exact⟨u,by simpa using h1,h2⟩
theorem qf.append:∀ {xs ys:List V} {us ws:List Value},qf xs us→qf ys ws→qf (xs++ys) (us++ws)
 | _,_,_,_,.nil,s=>s
 | _,_,_,_,.cons r t,s=>.cons r (qf.append t s)
theorem qf.take:∀ {xs:List V} {us:List Value} (n:Nat),qf xs us→qf (xs.take n) (us.take n)
 | _,_,0,_=>.nil
 | _,_,_+1,.nil=>.nil
 | _,_,n+1,.cons r t=>.cons r (qf.take n t)
theorem qf.drop:∀ {xs:List V} {us:List Value} (n:Nat),qf xs us→qf (xs.drop n) (us.drop n)
 | _,_,0,r=>r
 | _,_,_+1,.nil=>.nil
 | _,_,n+1,.cons _ t=>qf.drop n t
noncomputable def wg:Option V→Option Value→Prop
 | some v,some u=>qx v u
 | none,none=>True
 | _,_=>False
noncomputable def KV {κ:Type}:List (κ × V)→List (κ × Value)→Prop:=Paired fun (p:κ × V) (q:κ × Value)=>p.1=q.1∧qx p.2 q.2
noncomputable def kV:yY→V
 | .inl i=>.int i
 | .inr x=>.str x
inductive HO where
 | lst (xs:List V)
 | tup (xs:List V)
 | dK (kvs:List (yY × V)) | dT (kvs:List (List yY × V))
 | set (S:Int→Bool) (n:Nat)
 | ins (C dx:Addr) (fs:List (Str × V))
 | own (x:Addr)
 | xd (fs:List (Str × V))
 | met (f x:Addr)
 | rng (lo hi:Int)
 | frz (o:Obj) (u:HO)
 | tbl (ps:Array Value)
 | ext (φ:Heap→Prop)
abbrev Hp:=Addr→Option HO
noncomputable def upd (H:Hp) (a:Addr) (o:HO):Hp:=fun b=>if b=a then some o else H b
theorem zj {H:Hp} {a:Addr} {o:HO}:upd H a o a=some o:=by unfold upd;rw[if_pos rfl]
theorem zm {H:Hp} {a b:Addr} {o:HO} (h:b≠a):upd H a o b=H b:=by unfold upd;rw[if_neg h]
theorem Xa {H:Hp} {a:Addr} {o u:HO}:upd (upd H a o) a u=upd H a u:=by
 funext b;unfold upd;split <;> rfl
theorem qG {H:Hp} {a b:Addr} {o u:HO} (h:H a=some o) (h':H b=some u) (d:o≠u):a≠b:=by
 intro e;subst e;rw[h] at h';exact d (Option.some.inj h')
theorem zA {H:Hp} {a b:Addr} {o:HO} (h:H a=some o) (h':H b=none):a≠b:=by
 intro e;subst e;rw[h] at h';cases h'
section
variable (P:Program) (w:World)
noncomputable def yc (H:Hp) (h:Heap) (a:Addr):HO→Prop
 | .lst xs=>xs.length≤sizeLine∧∃ (its:List Value) (n:Nat),qf xs its∧h.get? a=some { cls:=.type "list",data:=.seq its.toArray n }
 | .tup xs=>xs.length≤sizeLine∧∃ its:List Value,qf xs its∧IsTup h a its.toArray
 | .dK kvs=>kvs.length≤sizeLine∧(a==sysModules)=false∧∃ vs,KV kvs vs∧h.DictOf (yk P w) a vs
 | .dT kvs=>kvs.length≤sizeLine∧(a==sysModules)=false∧∃ xs:List (List yY × Addr × Value),
   Paired (fun (p:List yY × V) (q:List yY × Addr × Value)=>p.1=q.1∧H q.2.1=some (.tup (p.1.map kV))∧qx p.2 q.2.2) kvs xs ∧
   ∃ o es ep,h.get? a=some o∧o.ExactDict∧o.data = .dict es ep∧es.toList=xs.map (entryOfKey (tupleKind (yk P w)))∧(xs.map (·.1)).Nodup
 | .set S n=>h.SetOf (intKind P w) a S n
 | .ins C dx fs=>H dx=some (.own a)∧fs.length≤1000∧dx≠a∧h.get? a=some (PySem.W.instObj C dx) ∧
   ∃ mA,h.Ns1 dx mA∧(∀ f,wg (fs.lookup f) (mA f))∧PySem.Within mA (fs.map (·.1))
 | .own _=>∃ o,h.get? a=some o
 | .xd fs=>∃ mA,h.Ns1 a mA∧∀ f,wg (fs.lookup f) (mA f)
 | .rng lo hi=>∃ t u v,h.get? a=some { cls:=.type "range",data:=.fields #[.int lo t,.int hi u,.int 1 v] }
 | .frz o u=>h.get? a=some o∧yc H h a u
 | .tbl ps=>h.get? a=some { cls:=.none,data:=.fields ps }
 | .met f x=>h.get? a=some (PySem.W.methodObj (.ref f) (.ref x))
 | .ext φ=>φ h∧(∃ o,h.get? a=some o)∧∀ h1 h2:Heap,φ h1→(∀ o,h1.get? a=some o→h2.get? a=some o)→φ h2
noncomputable def wI (H:Hp) (h:Heap):Prop:=∀ a o,H a=some o→yc P w H h a o
end
section
variable {P:Program} {w:World} {H H':Hp} {h h':Heap} {a:Addr} {o:HO}
theorem yc.lt (x:yc P w H h a o):a<h.objs.size:=by
 cases o with
 | lst xs=>obtain⟨_,_,_,_,e⟩:=x;exact cD e
 | tup xs=>obtain⟨_,_,_,p⟩:=x;exact p.lt
 | dK kvs=>obtain⟨_,_,_,_,o,_,_,e,_⟩:=x;exact cD e
 | dT kvs=>obtain⟨_,_,_,_,o,_,_,e,_⟩:=x;exact cD e
 | set S n=>obtain⟨o,_,_,_,e,_⟩:=x;exact cD e
 | ins C dx fs=>obtain⟨_,_,_,e,_⟩:=x;exact cD e
 | own y=>obtain⟨_,e⟩:=x;exact cD e
 | xd fs=>obtain⟨_,⟨_,_,_,e,_⟩,_⟩:=x;exact cD e
 | rng lo hi=>obtain⟨_,_,_,e⟩:=x;exact cD e
 | frz ob u=>obtain⟨e,_⟩:=x;exact cD e
 | tbl ps=>exact cD (show h.get? a=some _ from x)
 | met f y=>exact cD (show h.get? a=some _ from x)
 | ext φ=>obtain⟨_,⟨_,e⟩,_⟩:=x;exact cD e
theorem Paired.mapP {α β:Type} {F G:α→β→Prop}:∀ {l₁:List α} {l₂:List β},Paired F l₁ l₂→(∀ a b,F a b→G a b)→Paired G l₁ l₂
 | _,_,.nil,_=>.nil
 | _,_,.cons r t,f=>.cons (f _ _ r) (Paired.mapP t f)
theorem yc.stay (x:yc P w H h a o) (k:∀ b u,(b=a∨H b=some (.own a))→h.get? b=some u→h'.get? b=some u) (ho:∀ b,H b=some (.own a)→H' b=some (.own a)) (ht:∀ b xs,H b=some (.tup xs)→H' b=some (.tup xs)):yc P w H' h' a o:=by
 induction o with
 | lst xs=>obtain⟨z,its,n,r,e⟩:=x;exact⟨z,its,n,r,k _ _ (.inl rfl) e⟩
 | tup xs=>obtain⟨z,its,r,ob,e,c⟩:=x;exact⟨z,its,r,ob,k _ _ (.inl rfl) e,c⟩
 | dK kvs=>obtain⟨z,y,vs,r,ob,es,ep,e,c⟩:=x;exact⟨z,y,vs,r,ob,es,ep,k _ _ (.inl rfl) e,c⟩
 | dT kvs =>
  obtain⟨z,y,xs,r,ob,es,ep,e,c⟩:=x
  exact⟨z,y,xs,Paired.mapP r fun p q z=>⟨z.1,ht _ _ z.2.1,z.2.2⟩,ob,es,ep,k _ _ (.inl rfl) e,c⟩
 | set S n=>obtain⟨ob,es,ep,t,e,c⟩:=x;exact⟨ob,es,ep,t,k _ _ (.inl rfl) e,c⟩
 | ins C dx fs =>
  obtain⟨d,z,ne,e,mA,⟨od,es,ep,e2,c⟩,r⟩:=x
  exact⟨ho _ d,z,ne,k _ _ (.inl rfl) e,mA,⟨od,es,ep,k _ _ (.inr d) e2,c⟩,r⟩
 | own y=>obtain⟨ob,e⟩:=x;exact⟨ob,k _ _ (.inl rfl) e⟩
 | xd fs=>obtain⟨mA,⟨od,es,ep,e,c⟩,r⟩:=x;exact⟨mA,⟨od,es,ep,k _ _ (.inl rfl) e,c⟩,r⟩
 | rng lo hi=>obtain⟨t,u,v,e⟩:=x;exact⟨t,u,v,k _ _ (.inl rfl) e⟩
 | frz ob u ih=>obtain⟨e,q⟩:=x;exact⟨k _ _ (.inl rfl) e,ih q⟩
 | tbl ps =>
  have e:h.get? a=some { cls:=.none,data:=.fields ps }:=x
  show h'.get? a=some { cls:=.none,data:=.fields ps }
  exact k a _ (.inl rfl) e
 | met f y =>
  have e:h.get? a=some (PySem.W.methodObj (.ref f) (.ref y)):=x
  show h'.get? a=some (PySem.W.methodObj (.ref f) (.ref y))
  exact k a _ (.inl rfl) e
 | ext φ=>obtain⟨p,⟨o,e⟩,st⟩:=x;exact⟨st _ _ p fun o q=>k _ _ (.inl rfl) q,⟨o,k _ _ (.inl rfl) e⟩,st⟩
theorem wI.lt (x:wI P w H h) (e:H a=some o):a<h.objs.size:=(x a o e).lt
theorem wI.fresh (x:wI P w H h) (e:h.objs.size≤a):H a=none:=by
 cases q:H a with
 | none=>rfl
 | some u=>exact absurd (Cw (x.lt q) e) (dW _)
theorem wI.kept (x:wI P w H h) (k:∀ b u,h.get? b=some u→h'.get? b=some u):wI P w H h':=fun a o e =>
 (x a o e).stay (fun b u _ q=>k b u q) (fun _ q=>q) fun _ _ q=>q
theorem wI.laid (x:wI P w H h) (k:∀ b u,h.get? b=some u→h'.get? b=some u) (hp:h.objs.size≤a) (new:yc P w (upd H a o) h' a o):wI P w (upd H a o) h':=fun b u e=>by
 have hn:=x.fresh hp
 by_cases hb:b=a
 ·subst hb;rw[zj] at e;cases e;exact new
 ·rw[zm hb] at e
  exact (x b u e).stay (fun c v _ q=>k c v q) (fun c q=>by rw[zm (zA q hn)];exact q) fun c xs q=>by rw[zm (zA q hn)];exact q
end
noncomputable def Rd (H:Hp) (a:Addr) (u:HO):Prop:=H a=some u∨∃ o,H a=some (.frz o u)
theorem Rd.ok {P:Program} {w:World} {H:Hp} {h:Heap} {a:Addr} {u:HO} (r:Rd H a u) (x:wI P w H h):yc P w H h a u:=by
 rcases r with r | ⟨o,r⟩
 ·exact x a u r
 ·obtain⟨_,q⟩:=x a _ r
  exact q
noncomputable def Rw:Option HO→Prop
 | some (.lst _)=>True
 | some (.dK _)=>True
 | some (.dT _)=>True
 | some (.set _ _)=>True
 | some (.ins _ _ _)=>True
 | some (.ext _)=>True
 | _=>False
section
variable {P:Program} {w:World} {H:Hp} {h h':Heap} {x e:Addr} {o':HO}
theorem wI.write (ok:wI P w H h) (mu:Rw (H x)) (he:e=x∨H e=some (.own x)) (k:∀ b u,b≠e→h.get? b=some u→h'.get? b=some u) (heo:∃ u,h'.get? e=some u) (new:yc P w (upd H x o') h' x o'):wI P w (upd H x o') h':=fun b u q=>by
 have nown:∀ c y,H c=some (.own y)→c≠x:=fun c y r z=>by subst z;rw[r] at mu;exact mu
 have ntup:∀ c xs,H c=some (.tup xs)→c≠x:=fun c xs r z=>by subst z;rw[r] at mu;exact mu
 by_cases hb:b=x
 ·subst hb;rw[zj] at q;cases q;exact new
 ·rw[zm hb] at q
  by_cases hbe:b=e
  ·have q':H b=some (.own x):=by
    rcases he with z | z
    ·exact absurd (hbe.trans z) hb
    ·rw[hbe];exact z
   rw[q] at q';cases q'
   obtain⟨v,hv⟩:=heo
   exact⟨v,by rw[hbe];exact hv⟩
  ·refine (ok b u q).stay (fun c v hc r=>k c v ?_ r) (fun c r=>by rw[zm (nown c b r)];exact r) fun c xs r=>by rw[zm (ntup c xs r)];exact r
   rcases hc with rfl | hc
   ·exact hbe
   ·rintro rfl
    rcases he with z | z
    ·exact nown c b hc z
    ·rw[hc] at z;cases z;exact hb rfl
end
structure Un (fs ex:List Addr) (H H':Hp) (h h':Heap):Prop where
 keep:∀ b o,h.get? b=some o→H b=none→b∉fs→b∉ex→h'.get? b=some o
 slot:∀ b o,h.get? b=some o→H b=none→b∈fs→b∉ex→∃ sl,h'.get? b=some { o with slots:=sl }
 free:∀ b o,h.get? b=some o→H b=none→b∉ex→H' b=none
 there:∀ b o,h.get? b=some o→b∉ex→∃ o',h'.get? b=some o'
 tups:∀ b xs,H b=some (.tup xs)→H' b=some (.tup xs)
 frzs:∀ b o u,H b=some (.frz o u)→H' b=some (.frz o u)
 tbls:∀ b ps,H b=some (.tbl ps)→∃ more,H' b=some (.tbl (ps++more))
section
variable {fs fs' ex ex':List Addr} {H H1 H2:Hp} {h h1 h2 h':Heap} {a x e:Addr} {o:HO}
theorem Un.any (u:Un fs ex H H1 h h1) {b:Addr} {ob:Obj} (q:h.get? b=some ob) (n:H b=none) (hx:b∉ex):∃ sl,h1.get? b=some { ob with slots:=sl }:=by
 by_cases hb:b∈fs
 ·exact u.slot b ob q n hb hx
 ·exact⟨ob.slots,u.keep b ob q n hb hx⟩
theorem Un.kept (k:∀ b u,h.get? b=some u→h'.get? b=some u):Un fs ex H H h h' :=
 ⟨fun b ob q _ _ _=>k b ob q,fun b ob q _ _ _=>⟨ob.slots,k b ob q⟩,fun _ _ _ n _=>n,fun b ob q _=>⟨ob,k b ob q⟩,fun _ _ q=>q,fun _ _ _ q=>q,fun _ ps q=>⟨#[],by rw[q];simp⟩⟩
theorem Un.refl:Un fs ex H H h h:=Un.kept fun _ _ q=>q
theorem Un.laid (k:∀ b u,h.get? b=some u→h'.get? b=some u) (hp:h.objs.size≤a) (hn:H a=none):Un fs ex H (upd H a o) h h' where
 keep:=fun b u q _ _ _=>k b u q
 slot:=fun b u q _ _ _=>⟨u.slots,k b u q⟩
 free:=fun b u q n _=>by rw[zm (Cc (Cw (cD q) hp))];exact n
 there:=fun b u q _=>⟨u,k b u q⟩
 tups:=fun b xs q=>by rw[zm (zA q hn)];exact q
 frzs:=fun b u xs q=>by rw[zm (zA q hn)];exact q
 tbls:=fun b ps q=>⟨#[],by rw[zm (zA q hn),q];simp⟩
theorem Un.write (mu:Rw (H x)) (he:e=x∨H e=some (.own x)) (k:∀ b u,b≠e→h.get? b=some u→h'.get? b=some u) (heo:∃ u,h'.get? e=some u):Un fs ex H (upd H x o) h h':=by
 have hx:∀ b,H b=none→b≠x:=fun b n z=>by subst z;rw[n] at mu;exact mu
 have hb:∀ b,H b=none→b≠e:=fun b n z=>by
  subst z
  rcases he with r | r
  ·exact hx b n r
  ·rw[n] at r;cases r
 have hm:∀ b u,H b=some u→¬ Rw (some u)→b≠x:=fun b u q nm z=>by subst z;rw[q] at mu;exact nm mu
 refine⟨fun b u q n _ _=>k b u (hb b n) q,fun b u q n _ _=>⟨u.slots,k b u (hb b n) q⟩,fun b u q n _=>by rw[zm (hx b n)];exact n,fun b u q _=>?_,
  fun b xs q=>by rw[zm (hm b _ q fun z=>z)];exact q,fun b u xs q=>by rw[zm (hm b _ q fun z=>z)];exact q,fun b ps q=>⟨#[],by rw[zm (hm b _ q fun z=>z),q];simp⟩⟩
 by_cases hbe:b=e
 ·subst hbe;exact heo
 ·exact⟨u,k b u hbe q⟩
end
noncomputable def tV (h:Heap) (H:Hp):List Addr:=(List.range h.objs.size).filter fun a=>(H a).isSome
noncomputable def JW (h:Heap) (H:Hp):Heap:=PySem.W.hideAll h (tV h H)
theorem Gi (h:Heap) (H:Hp):(JW h H).objs.size=h.objs.size:=PySem.W.hideAll_size _ _
theorem Ox {h:Heap} {H:Hp} {b:Addr} {o:Obj} (e:h.get? b=some o) (n:H b=none):(JW h H).get? b=some o :=
 PySem.W.hideAll_get _ e fun hm=>by
  have q:(H b).isSome=true:=(dz.mp hm).2
  rw[n] at q;simp at q
theorem mD {h:Heap} {H:Hp} {b:Addr} {o:Obj} (e:(JW h H).get? b=some o):h.get? b=some o∧H b=none:=by
 have e':h.get? b=some o:=PySem.W.of_hideAll (tV h H) e
 refine⟨e',?_⟩
 cases q:H b with
 | none=>rfl
 | some x =>
  have hm:b∈tV h H:=dz.mpr ⟨Dp.mpr (cD e'),by simp[q]⟩
  have z:(JW h H).get? b=none:=PySem.W.hideAll_none (tV h H) hm
  rw[z] at e;cases e
noncomputable def lD (g h:Heap) (L:Addr):List (Addr × Obj):=(List.range h.objs.size).filterMap fun a=>if a=L∨(g.get? a).isSome=true then none else (h.get? a).map fun o=>(a,o)
noncomputable def rest (g h:Heap) (L d:Addr):List (Addr × Obj):=(lD g h L).filter fun p=>decide (p.1≠d)
structure Mod (K:BFr) (mg:Str→Option Value) (base:Heap):Prop where
 kin:K.In base
 glob:base.Ns mainGlobals mg
 blt:∃ mb,base.Ns builtinsNs mb∧∀ x:Str,x≠"__name__"→mb x=bootBuiltins x
 nolimit:base.NoLimit
structure Cx where
 prog:Program
 w:World
 K:BFr
 mg:Str→Option Value
 base:Heap
 A:Around
 N:List Str
 s₀:Shared
 H₀:Hp
 env:Env
 outer:List Env
 stack:List Env
 ex:List Addr
 fn:Str→Bool
 calm:Bool
 pn:List (Addr × Obj)
 xe:Value→Shared→Prop
noncomputable def Gw (l:List Env):List Addr:=l.filterMap (·.frame)
abbrev Cx.fs (X:Cx):List Addr:=Gw X.outer
noncomputable def TK (sc:Scope) (x:Str):Prop:=sc.names.lookup x=some .local∨sc.names.lookup x=some .cell∨sc.names.lookup x=some .free
noncomputable def Tc (sc:Scope) (x:Str):Prop:=sc.names.lookup x=some .local∨sc.names.lookup x=some .cell
noncomputable def TQ (env:Env) (h:Heap) (m:Str→Option Value) (x:Str) (u:Value):Prop :=
 (env.kindOf x=some .local∧m x=some u)∨((env.kindOf x=some .cell∨env.kindOf x=some .free)∧∃ c,env.cells.lookup x=some c∧h.IsCell c (some u))
structure Cx.Ok (X:Cx):Prop where
 mod:Mod X.K X.mg X.base
 kind:X.env.scope.kind = .function
 glob:X.env.globals=mainGlobals
 blt:X.env.builtins=builtinsNs
 above:X.s₀.heap.objs.size≤X.env.locals
 inj:∀ x y c,X.env.cells.lookup x=some c→X.env.cells.lookup y=some c→x=y
 has:∀ x,(X.env.kindOf x=some .cell∨X.env.kindOf x=some .free)→∃ c,X.env.cells.lookup x=some c
 cab:∀ x c,X.fn x=true→X.env.cells.lookup x=some c→X.s₀.heap.objs.size≤c
 hd:X.calm=true→X.A.handled=none
 frames:X.A.frames=some X.stack
 stk:X.stack=X.outer∨(X.stack=X.env::X.outer∧X.env.frame=some X.env.locals)
 exf:∀ b∈X.ex,b≠X.env.locals∧∀ x c,X.env.cells.lookup x=some c→c≠b
 bs:∀ b o,X.base.get? b=some o→X.s₀.heap.get? b=some o∧X.H₀ b=none
 bsz:X.base.objs.size≤X.s₀.heap.objs.size
 noex:∀ b o,X.base.get? b=some o→b∉X.ex
 exfs:∀ b∈X.ex,b∉X.fs
 funs:X.s₀.heap.FunFrames X.base X.outer
 frf:∀ b∈X.fs,X.H₀ b=none
structure zJ (X:Cx) (pins:List (Addr × Obj)) (σ:List (Option V)) (H:Hp) (s:Shared):Prop where
 ok:X.Ok
 os:s.os=X.s₀.os
 bare:AllBare s.gens
 base:Un X.fs X.ex X.H₀ H X.s₀.heap s.heap
 loc:∃ m,s.heap.Ns X.env.locals m∧∀ (i:Nat) (x:Str) (v:V),X.N[i]? = some x→σ[i]? = some (some v)→TK X.env.scope x→∃ u,qx v u∧TQ X.env s.heap m x u
 cell:∀ x c,X.env.cells.lookup x=some c→∃ v,s.heap.IsCell c v
 free:H X.env.locals=none
 freeC:∀ x c,X.env.cells.lookup x=some c→H c=none
 pin:∀ p∈X.pn++pins,s.heap.get? p.1=some p.2∧H p.1=none∧p.1≠X.env.locals∧p.1∉X.fs∧∀ v,p.2.data≠.cell v
 hok:wI X.prog X.w H s.heap
 len:σ.length=X.N.length
section
variable {X:Cx} {pins:List (Addr × Obj)} {σ:List (Option V)} {H H':Hp} {s:Shared} {h':Heap}
theorem Cx.Ok.nofr (ok:X.Ok) {b:Addr} {o:Obj} (e:X.base.get? b=some o):b∉X.fs:=fun hb=>by
 have:=(ok.funs.mem hb).1
 rw[e] at this;cases this
theorem zJ.bs (I:zJ X pins σ H s):∀ b o,X.base.get? b=some o→s.heap.get? b=some o∧H b=none:=fun b o e =>
 ⟨I.base.keep b o (I.ok.bs b o e).1 (I.ok.bs b o e).2 (I.ok.nofr e) (I.ok.noex b o e),I.base.free b o (I.ok.bs b o e).1 (I.ok.bs b o e).2 (I.ok.noex b o e)⟩
theorem zJ.bk (I:zJ X pins σ H s):∀ b o,X.base.get? b=some o→s.heap.get? b=some o:=fun b o e=>(I.bs b o e).1
theorem zJ.mod (I:zJ X pins σ H s):Mod X.K X.mg X.base:=I.ok.mod
theorem zJ.kIn (I:zJ X pins σ H s):X.K.In s.heap:=I.ok.mod.kin.keeps I.bk
theorem zJ.lt (I:zJ X pins σ H s):X.env.locals<s.heap.objs.size:=let ⟨_,hn,_⟩:=I.loc;hn.lt
theorem zJ.sz (I:zJ X pins σ H s):X.s₀.heap.objs.size≤s.heap.objs.size:=cJ I.ok.above (dX I.lt)
theorem zJ.nofs (I:zJ X pins σ H s) {a:Addr} (h:s.heap.objs.size≤a):a∉X.fs:=fun hb=>by
 obtain⟨_,o,ho,_⟩:=I.ok.funs.mem hb
 exact absurd (Cw (cD ho) (cJ I.sz h)) (dW _)
theorem zJ.cne (I:zJ X pins σ H s):∀ x c,X.env.cells.lookup x=some c→c≠X.env.locals:=fun x c e z=>by
 obtain⟨v,o,ho,hd⟩:=I.cell x c e
 obtain⟨m,⟨o',es,ep,ho',hd',_⟩,_⟩:=I.loc
 rw[z,ho'] at ho;cases ho;rw[hd'] at hd;cases hd
theorem zJ.funs (I:zJ X pins σ H s):s.heap.FunFrames X.base X.outer:=by
 have all:∀ (l:List Env),(∀ b∈Gw l,b∈X.fs)→X.s₀.heap.FunFrames X.base l→s.heap.FunFrames X.base l:=by
  intro l
  induction l with
  | nil=>intro _ _;trivial
  | cons env r ih =>
   intro hs hl
   obtain⟨hk,⟨L,o,hf,hn,ho,hd⟩,hr⟩:=hl
   have hL:L∈X.fs:=hs L (by unfold Gw;rw[dA,hf];exact cX)
   obtain⟨sl,e⟩:=I.base.slot L o ho (I.ok.frf L hL) hL fun z=>I.ok.exfs L z hL
   exact⟨hk,⟨L,_,hf,hn,e,hd⟩,ih (fun b hb=>hs b (by unfold Gw;rw[dA,hf];exact cP _ hb)) hr⟩
 exact all X.outer (fun _ hb=>hb) I.ok.funs
theorem zJ.stack (I:zJ X pins σ H s):s.heap.FunFrames X.base X.stack:=by
 rcases I.ok.stk with e | ⟨e,hf⟩
 ·rw[e];exact I.funs
 ·rw[e]
  obtain⟨m,hn,_⟩:=I.loc
  refine .cons (by rw[I.ok.kind];decide) hf hn ?_ I.funs
  exact dB (cJ I.ok.bsz I.ok.above)
theorem zJ.stkSub (I:zJ X pins σ H s):∀ b∈Gw X.stack,b∈X.env.locals::X.fs:=fun b hb=>by
 rcases I.ok.stk with e | ⟨e,hf⟩
 ·rw[e] at hb;exact cP _ hb
 ·rw[e] at hb
  unfold Gw at hb
  rw[dA,hf] at hb
  exact hb
theorem zJ.stkFree (I:zJ X pins σ H s):∀ b∈Gw X.stack,H b=none:=fun b hb=>by
 rcases cy.mp (I.stkSub b hb) with e | hb
 ·rw[e];exact I.free
 ·obtain⟨_,o,ho,_⟩:=I.ok.funs.mem hb
  exact I.base.free b o ho (I.ok.frf b hb) fun z=>I.ok.exfs b z hb
theorem zJ.step {g':Array GenState} {t':Nat} {d':Drawn} {ch:List Addr} (I:zJ X pins σ H s) (hch:∀ b∈ch,(b∈X.ex∨X.s₀.heap.get? b=none)∧b≠X.env.locals∧(∀ x c,X.env.cells.lookup x=some c→c≠b)∧∀ p∈X.pn++pins,p.1≠b) (keep:∀ b o,b≠X.env.locals→b∉X.fs→b∉ch→s.heap.get? b=some o→H b=none→h'.get? b=some o) (slot:∀ b o,b≠X.env.locals→b∈X.fs→b∉ch→s.heap.get? b=some o→H b=none→∃ sl,h'.get? b=some { o with slots:=sl }) (free:∀ b o,b∉ch→s.heap.get? b=some o→H b=none→H' b=none) (there:∀ b o,b∉ch→s.heap.get? b=some o→∃ o',h'.get? b=some o') (tups:∀ b xs,H b=some (.tup xs)→H' b=some (.tup xs)) (frzs:∀ b o u,H b=some (.frz o u)→H' b=some (.frz o u)) (tbls:∀ b ps,H b=some (.tbl ps)→∃ more,H' b=some (.tbl (ps++more))) (ns:∀ m,s.heap.Ns X.env.locals m→h'.Ns X.env.locals m) (hok:wI X.prog X.w H' h') (hg:AllBare g') :
  zJ X pins σ H' { s with heap:=h',gens:=g',drawn:=d',toks:=t' }:=by
 have neL:∀ b o,X.s₀.heap.get? b=some o→b≠X.env.locals:=fun b o e=>Cc (Cw (cD e) I.ok.above)
 have neC:∀ b o,X.s₀.heap.get? b=some o→b∉X.ex→b∉ch:=fun b o e hx hb=>by
  rcases (hch b hb).1 with z | z
  ·exact hx z
  ·rw[z] at e;cases e
 have cellK:∀ x c,X.env.cells.lookup x=some c→∀ v,s.heap.IsCell c v→h'.IsCell c v:=fun x c e v ⟨o,ho,hd⟩=>by
  have nch:c∉ch:=fun z=>(hch c z).2.2.1 x c e rfl
  by_cases hc:c∈X.fs
  ·obtain⟨sl,q⟩:=slot c o (I.cne x c e) hc nch ho (I.freeC x c e)
   exact⟨_,q,hd⟩
  ·exact⟨o,keep c o (I.cne x c e) hc nch ho (I.freeC x c e),hd⟩
 refine⟨I.ok,I.os,hg,⟨fun b o e n hb hx=>?_,fun b o e n hb hx=>?_,fun b o e n hx=>?_,fun b o e hx=>?_,fun b xs e=>tups b xs (I.base.tups b xs e),fun b o xs e=>frzs b o xs (I.base.frzs b o xs e),fun b ps e=>?_⟩,?_,fun x c e=>?_,?_,fun x c e=>?_,fun p hp=>?_,hok,I.len⟩
 ·exact keep b o (neL b o e) hb (neC b o e hx) (I.base.keep b o e n hb hx) (I.base.free b o e n hx)
 ·obtain⟨sl,e1⟩:=I.base.slot b o e n hb hx
  obtain⟨sl',e2⟩:=slot b _ (neL b o e) hb (neC b o e hx) e1 (I.base.free b o e n hx)
  exact⟨sl',e2⟩
 ·obtain⟨o',e1⟩:=I.base.there b o e hx
  exact free b o' (neC b o e hx) e1 (I.base.free b o e n hx)
 ·obtain⟨o',e1⟩:=I.base.there b o e hx
  exact there b o' (neC b o e hx) e1
 ·obtain⟨m1,e1⟩:=I.base.tbls b ps e
  obtain⟨m2,e2⟩:=tbls b _ e1
  exact⟨m1++m2,by rw[e2,Array.append_assoc]⟩
 ·obtain⟨m,hn,hl⟩:=I.loc
  refine⟨m,ns m hn,fun i x v e1 e2 e3=>?_⟩
  obtain⟨u,r,l⟩:=hl i x v e1 e2 e3
  refine⟨u,r,?_⟩
  rcases l with l | ⟨k,c,e,z⟩
  ·exact .inl l
  ·exact .inr ⟨k,c,e,cellK x c e _ z⟩
 ·obtain⟨v,z⟩:=I.cell x c e
  exact⟨v,cellK x c e v z⟩
 ·obtain⟨m,⟨o,_,_,ho,_⟩,_⟩:=I.loc
  exact free _ o (fun z=>(hch _ z).2.1 rfl) ho I.free
 ·obtain⟨v,o,ho,hd⟩:=I.cell x c e
  exact free c o (fun z=>(hch c z).2.2.1 x c e rfl) ho (I.freeC x c e)
 ·obtain⟨e,n,ne,nf,d⟩:=I.pin p hp
  have nch:p.1∉ch:=fun z=>(hch p.1 z).2.2.2 p hp rfl
  exact⟨keep p.1 p.2 ne nf nch e n,free p.1 p.2 nch e n,ne,nf,d⟩
theorem zJ.un {t':Nat} (I:zJ X pins σ H s) (u:Un X.fs [] H H' s.heap h') (hok:wI X.prog X.w H' h'):zJ X pins σ H' { s with heap:=h',toks:=t' }:=by
 obtain⟨m,⟨o,es,ep,ho,r⟩,_⟩:=id I.loc
 obtain⟨sl,hL⟩:=u.any ho I.free (by simp)
 exact I.step (g':=s.gens) (d':=s.drawn) (ch:=[]) (fun _ z=>nomatch z) (fun b o _ hb _ e n=>u.keep b o e n hb (by simp)) (fun b o _ hb _ e n=>u.slot b o e n hb (by simp)) (fun b o _ e n=>u.free b o e n (by simp)) (fun b o _ e=>u.there b o e (by simp)) u.tups u.frzs u.tbls (fun m' hm=>by
  obtain⟨o',es',ep',ho',r'⟩:=hm
  rw[ho] at ho';cases ho'
  exact⟨_,es',ep',hL,r'⟩) hok I.bare
theorem zJ.call {g':Array GenState} {t':Nat} {d':Drawn} {ch:List Addr} (I:zJ X pins σ H s) (u:Un (Gw X.stack) ch H H' s.heap h') (hok:wI X.prog X.w H' h') (hg:AllBare g') (hch:∀ b∈ch,(b∈X.ex∨X.s₀.heap.get? b=none)∧b≠X.env.locals∧(∀ x c,X.env.cells.lookup x=some c→c≠b)∧∀ p∈X.pn++pins,p.1≠b) :
  zJ X pins σ H' { s with heap:=h',gens:=g',drawn:=d',toks:=t' }:=by
 obtain⟨m,⟨o,es,ep,ho,r⟩,_⟩:=id I.loc
 obtain⟨sl,hL⟩:=u.any ho I.free fun z=>(hch _ z).2.1 rfl
 exact I.step (ch:=ch) hch (fun b o hL hb hc e n=>u.keep b o e n (fun z=>(cy.mp (I.stkSub b z)).elim hL hb) hc) (fun b o _ _ hc e n=>u.any e n hc) (fun b o hc e n=>u.free b o e n hc) (fun b o hc e=>u.there b o e hc) u.tups u.frzs u.tbls (fun m' hm=>by
  obtain⟨o',es',ep',ho',r'⟩:=hm
  rw[ho] at ho';cases ho'
  exact⟨_,es',ep',hL,r'⟩) hok hg
theorem zJ.turned {t':Nat} {it:Addr} (I:zJ X pins σ H s) (k:∀ b o,b≠it→s.heap.get? b=some o→h'.get? b=some o) (hn:H it=none) (hL:it≠X.env.locals) (h1:it∈X.ex∨X.s₀.heap.get? it=none) (h2:∀ x c,X.env.cells.lookup x=some c→c≠it) (h3:∀ p∈X.pn++pins,p.1≠it):zJ X pins σ H { s with heap:=h',toks:=t' }:=by
 have nit:∀ b u,H b=some u→b≠it:=fun b u e z=>by rw[z,hn] at e;cases e
 refine I.step (g':=s.gens) (d':=s.drawn) (ch:=[it]) (fun b hb=>?_) (fun b o _ _ hc e _=>k b o (fun z=>hc (by simp[z])) e) (fun b o _ _ hc e _=>⟨o.slots,k b o (fun z=>hc (by simp[z])) e⟩) (fun _ _ _ _ n=>n)
  (fun b o hc e=>⟨o,k b o (fun z=>hc (by simp[z])) e⟩) (fun _ _ e=>e) (fun _ _ _ e=>e) (fun b ps e=>⟨#[],by rw[e];simp⟩) (fun m hm=>?_) (fun b u e=>?_) I.bare
 ·have e:b=it:=by simpa using hb
  subst e
  exact⟨h1,hL,h2,h3⟩
 ·obtain⟨o,es,ep,ho,r⟩:=hm
  exact⟨o,es,ep,k _ o (Ne.symm hL) ho,r⟩
 ·refine (I.hok b u e).stay (fun c v hc q=>k c v ?_ q) (fun _ q=>q) fun _ _ q=>q
  rcases hc with z | z
  ·rw[z];exact nit b u e
  ·exact nit c _ z
theorem zJ.tok (I:zJ X pins σ H s) (t:Nat):zJ X pins σ H { s with toks:=t }:=I.un (h':=s.heap) (t':=t) Un.refl I.hok
theorem zJ.kept {t':Nat} (I:zJ X pins σ H s) (k:∀ b u,s.heap.get? b=some u→h'.get? b=some u):zJ X pins σ H { s with heap:=h',toks:=t' }:=I.un (Un.kept k) (I.hok.kept k)
theorem zJ.laid {a:Addr} {o:HO} {t':Nat} (I:zJ X pins σ H s) (k:∀ b u,s.heap.get? b=some u→h'.get? b=some u) (hp:s.heap.objs.size≤a) (new:yc X.prog X.w (upd H a o) h' a o) :
  zJ X pins σ (upd H a o) { s with heap:=h',toks:=t' }:=I.un (Un.laid k hp (I.hok.fresh hp)) (I.hok.laid k hp new)
theorem zJ.write {x e:Addr} {o:HO} {t':Nat} (I:zJ X pins σ H s) (mu:Rw (H x)) (he:e=x∨H e=some (.own x)) (k:∀ b u,b≠e→s.heap.get? b=some u→h'.get? b=some u) (heo:∃ u,h'.get? e=some u) (new:yc X.prog X.w (upd H x o) h' x o):zJ X pins σ (upd H x o) { s with heap:=h',toks:=t' }:=I.un (Un.write mu he k heo) (I.hok.write mu he k heo new)
theorem zJ.pins_of {pins':List (Addr × Obj)} (I:zJ X pins σ H s) (h:∀ p∈pins',s.heap.get? p.1=some p.2∧H p.1=none∧p.1≠X.env.locals∧p.1∉X.fs∧∀ v,p.2.data≠.cell v):zJ X pins' σ H s :=
 ⟨I.ok,I.os,I.bare,I.base,I.loc,I.cell,I.free,I.freeC,fun p hp=>(Cu.mp hp).elim (fun z=>I.pin p (CF _ z)) (h p),I.hok,I.len⟩
theorem VW {N:List Str} (hN:N.Nodup) {i j:Nat} {x:Str} (a:N[i]? = some x) (b:N[j]? = some x):i=j:=by
 obtain⟨h1,e1⟩:=cW.mp a
 obtain⟨h2,e2⟩:=cW.mp b
 exact (List.getElem_inj hN).mp (e1.trans e2.symm)
theorem kZ {M:Model} {A:Around} {E:Value→Shared→Prop} {i:Nat} {x:Str} {v:V} {u:Value} {Q:Unit→Shared→Prop} (I:zJ X pins σ H s) (hN:X.N.Nodup) (hi:X.N[i]? = some x) (hx:Tc X.env.scope x) (r:qx v u) (h:∀ s',zJ X pins (σ.set i (some v)) H s'→(∃ a,Heap.SameBut a s.heap s'.heap∧(a=X.env.locals∨X.env.cells.lookup x=some a))→Q () s') (hf:X.fn x=true∨X.env.scope.names.lookup x=some .local:=by first | exact .inl rfl | exact .inr rfl | assumption):wpAny M A (storeName X.env x u) Q E s:=by
 obtain⟨m,hn,hl⟩:=id I.loc
 have hcls:(X.env.scope.kind == .class || (X.env.scope.kind == .module&&X.env.locals != X.env.globals))=false:=by rw[I.ok.kind];rfl
 have hiσ:i < σ.length:=by rw[I.len];exact (cW.mp hi).1
 have cne:=I.cne
 have tracked:∀ {a:Addr} {h':Heap},(∃ o,s.heap.get? a=some o∧H a=none)→Heap.SameBut a s.heap h'→wI X.prog X.w H h':=fun {a h'} ha hs b ob e=>by
  obtain⟨_,_,hfree⟩:=ha
  refine (I.hok b ob e).stay (fun c w' hc q=>(hs.2 c ?_).trans q) (fun _ q=>q) fun _ _ q=>q
  rintro rfl
  rcases hc with rfl | hc
  ·rw[hfree] at e;cases e
  ·rw[hfree] at hc;cases hc
 rcases hx with hk | hk
 ·refine wpAny_storeName_local hk hn (fun h' hn' hs=>?_) hcls
  obtain⟨oL,_,_,hoL,_⟩:=id hn
  refine h _ ⟨I.ok,I.os,I.bare,⟨fun b o e n hb hx=>?_,fun b o e n hb hx=>?_,I.base.free,fun b o e hx=>?_,I.base.tups,I.base.frzs,I.base.tbls⟩,⟨_,hn',fun j y v' e1 e2 e3=>?_⟩,fun y c e=>?_,I.free,I.freeC,fun p hp=>?_,tracked ⟨oL,hoL,I.free⟩ hs,by simpa using I.len⟩ ⟨_,hs,.inl rfl⟩
  ·exact (hs.2 b (Cc (Cw (cD e) I.ok.above))).trans (I.base.keep b o e n hb hx)
  ·obtain⟨sl,e1⟩:=I.base.slot b o e n hb hx
   exact⟨sl,(hs.2 b (Cc (Cw (cD e) I.ok.above))).trans e1⟩
  ·obtain⟨o',e1⟩:=I.base.there b o e hx
   exact⟨o',(hs.2 b (Cc (Cw (cD e) I.ok.above))).trans e1⟩
  ·by_cases hj:j=i
   ·subst hj
    rw[hi] at e1;cases e1
    rw[dY hiσ] at e2
    cases e2
    exact⟨u,r,.inl ⟨hk,by simp⟩⟩
   ·rw[Dq (Ne.symm hj)] at e2
    obtain⟨u',r',q⟩:=hl j y v' e1 e2 e3
    refine⟨u',r',?_⟩
    rcases q with ⟨k,e⟩ | ⟨k,c,e,z⟩
    ·refine .inl ⟨k,?_⟩
     have:y≠x:=fun e=>hj (VW hN e1 (e ▸ hi))
     simp[this,e]
    ·exact .inr ⟨k,c,e,z.sameBut hs (cne y c e)⟩
  ·obtain⟨w',z⟩:=I.cell y c e
   exact⟨w',z.sameBut hs (cne y c e)⟩
  ·obtain⟨e,n,ne,nf,d⟩:=I.pin p hp
   exact⟨(hs.2 p.1 ne).trans e,n,ne,nf,d⟩
 ·have hfn:X.fn x=true:=by
   rcases hf with z | z
   ·exact z
   ·rw[z] at hk;cases hk
  obtain⟨c,hc⟩:=I.ok.has x (.inl hk)
  obtain⟨w',z⟩:=I.cell x c hc
  refine wpAny_storeName_cell I.ok.kind hk hc z (fun h' hc' hs=>?_)
  obtain⟨oc,hoc,hocd⟩:=id z
  refine h { s with heap:=h' } ⟨I.ok,I.os,I.bare,⟨fun b o e n hb hx=>?_,fun b o e n hb hx=>?_,I.base.free,fun b o e hx=>?_,I.base.tups,I.base.frzs,I.base.tbls⟩,⟨m,hn.sameBut hs (Ne.symm (cne x c hc)),fun j y v' e1 e2 e3=>?_⟩,fun y c' e=>?_,I.free,I.freeC,fun p hp=>?_,tracked ⟨oc,hoc,I.freeC x c hc⟩ hs,by simpa using I.len⟩ ⟨c,hs,.inr hc⟩
  ·exact (hs.2 b (Cc (Cw (cD e) (I.ok.cab x c hfn hc)))).trans (I.base.keep b o e n hb hx)
  ·obtain⟨sl,e1⟩:=I.base.slot b o e n hb hx
   exact⟨sl,(hs.2 b (Cc (Cw (cD e) (I.ok.cab x c hfn hc)))).trans e1⟩
  ·obtain⟨o',e1⟩:=I.base.there b o e hx
   exact⟨o',(hs.2 b (Cc (Cw (cD e) (I.ok.cab x c hfn hc)))).trans e1⟩
  ·by_cases hj:j=i
   ·subst hj
    rw[hi] at e1;cases e1
    rw[dY hiσ] at e2
    cases e2
    exact⟨u,r,.inr ⟨.inl hk,c,hc,hc'⟩⟩
   ·rw[Dq (Ne.symm hj)] at e2
    obtain⟨u',r',q⟩:=hl j y v' e1 e2 e3
    refine⟨u',r',?_⟩
    rcases q with q | ⟨k,c',e,z'⟩
    ·exact .inl q
    ·refine .inr ⟨k,c',e,z'.sameBut hs ?_⟩
     rintro rfl
     exact hj (VW hN e1 (I.ok.inj _ _ _ e hc ▸ hi))
  ·by_cases hcc:c'=c
   ·subst hcc;exact⟨_,hc'⟩
   ·obtain⟨w2,z2⟩:=I.cell y c' e
    exact⟨w2,z2.sameBut hs hcc⟩
  ·obtain⟨e,n,ne,nf,d⟩:=I.pin p hp
   refine⟨(hs.2 p.1 ?_).trans e,n,ne,nf,d⟩
   intro q
   rw[q,hoc] at e
   have q':oc=p.2:=Option.some.inj e
   exact d w' (by rw[← q'];exact hocd)
theorem w9 {M:Model} {A:Around} {E:Value→Shared→Prop} {i:Nat} {x:Str} {v:V} {u:Value} {Q:Unit→Shared→Prop} (I:zJ X pins σ H s) (hN:X.N.Nodup) (hi:X.N[i]? = some x) (hx:Tc X.env.scope x) (r:qx v u) (h:∀ s',zJ X pins (σ.set i (some v)) H s'→Q () s') (hf:X.fn x=true∨X.env.scope.names.lookup x=some .local:=by first | exact .inl rfl | exact .inr rfl | assumption):wpAny M A (storeName X.env x u) Q E s :=
 kZ I hN hi hx r (fun s' I' _=>h s' I') hf
theorem zJ.call' {s':Shared} {ch:List Addr} (I:zJ X pins σ H s) (ho:s'.os=s.os) (u:Un (Gw X.stack) ch H H' s.heap s'.heap) (hok:wI X.prog X.w H' s'.heap) (hg:AllBare s'.gens) (hch:∀ b∈ch,(b∈X.ex∨X.s₀.heap.get? b=none)∧b≠X.env.locals∧(∀ x c,X.env.cells.lookup x=some c→c≠b)∧∀ p∈X.pn++pins,p.1≠b):zJ X pins σ H' s':=by
 obtain⟨h',g',d',t',o'⟩:=s'
 have e:o'=s.os:=ho
 subst e
 exact I.call (g':=g') (t':=t') (d':=d') u hok hg hch
end
abbrev XK:=Value→Option Addr→Hp→Prop
abbrev St:=List (Option V)
abbrev VK:=V→Hp→Prop
abbrev TE:=St→Hp→VK→Prop
abbrev TT:=St→Hp→(Bool→Hp→Prop)→Prop
abbrev TA:=St→Hp→(List V→Hp→Prop)→Prop
structure uE where
 nx:St→Hp→Prop
 rt:VK
 bk:St→Hp→Prop:=fun _ _=>False
 ct:St→Hp→Prop:=fun _ _=>False
abbrev TS:=uE→St→Hp→Prop
noncomputable def EP (X:Cx) (pins:List (Addr × Obj)) (σ:St) (Q:VK) (u:Value) (s':Shared):Prop:=∃ v H',zJ X pins σ H' s'∧qx v u∧Q v H'
noncomputable def TP (X:Cx) (pins:List (Addr × Obj)) (σ:St) (Q:Bool→Hp→Prop) (b:Bool) (s':Shared):Prop:=∃ H',zJ X pins σ H' s'∧Q b H'
noncomputable def AP (X:Cx) (pins:List (Addr × Obj)) (σ:St) (Q:List V→Hp→Prop) (us:List Value) (s':Shared):Prop:=∃ vs H',zJ X pins σ H' s'∧qf vs us∧Q vs H'
noncomputable def SP (X:Cx) (pins:List (Addr × Obj)) (D:uE) (f:Flow) (s':Shared):Prop :=
 match f with
 | .next=>∃ σ' H',zJ X pins σ' H' s'∧D.nx σ' H'
 | .brk=>∃ σ' H',zJ X pins σ' H' s'∧D.bk σ' H'
 | .cont=>∃ σ' H',zJ X pins σ' H' s'∧D.ct σ' H'
 | .ret u=>∃ v σ' H',zJ X pins σ' H' s'∧qx v u∧D.rt v H'
noncomputable def PE (X:Cx) (e:Expr) (t:TE):Prop :=
 ∀ (pins:List (Addr × Obj)) (s:Shared) (σ:St) (H:Hp) (Q:VK),zJ X pins σ H s→t σ H Q→wpAny (model X.prog X.w) X.A (eval e X.env) (EP X pins σ Q) X.xe s
noncomputable def PT (X:Cx) (e:Expr) (t:TT):Prop :=
 ∀ (pins:List (Addr × Obj)) (s:Shared) (σ:St) (H:Hp) (Q:Bool→Hp→Prop),zJ X pins σ H s→t σ H Q→wpAny (model X.prog X.w) X.A (isTrue e X.env (eval e X.env)) (TP X pins σ Q) X.xe s
noncomputable def PW (X:Cx) (e:Expr) (t:TT):Prop :=
 ∀ (whole:Sem Value) (pins:List (Addr × Obj)) (s:Shared) (σ:St) (H:Hp) (Q:Bool→Hp→Prop),zJ X pins σ H s→t σ H Q→wpAny (model X.prog X.w) X.A (isTrue e X.env whole) (TP X pins σ Q) X.xe s
theorem PW.pt {X:Cx} {e:Expr} {t:TT} (h:PW X e t):PT X e t:=h _
noncomputable def PA (X:Cx) (es:List Expr) (t:TA):Prop :=
 ∀ (pos:Pos) (pins:List (Addr × Obj)) (s:Shared) (σ:St) (H:Hp) (Q:List V→Hp→Prop),zJ X pins σ H s→t σ H Q→wpAny (model X.prog X.w) X.A (spliced (backTo pos (starEach es X.env))) (AP X pins σ Q) X.xe s
noncomputable def PS (X:Cx) (st:Stmt) (t:TS):Prop :=
 ∀ (pins:List (Addr × Obj)) (s:Shared) (σ:St) (H:Hp) (D:uE),zJ X pins σ H s→t D σ H→wpAny (model X.prog X.w) X.A (exec st X.env) (SP X pins D) X.xe s
noncomputable def yW (X:Cx) (st:List Stmt) (t:TS):Prop :=
 ∀ (pins:List (Addr × Obj)) (s:Shared) (σ:St) (H:Hp) (D:uE),zJ X pins σ H s→t D σ H→wpAny (model X.prog X.w) X.A (execs st X.env) (SP X pins D) X.xe s
theorem q0 {α:Type} {t:Sem α} {Q Q':α→Shared→Prop} {M:Model} {A:Around} {E:Value→Shared→Prop} {s:Shared} (h:wpAny M A t Q E s) (hQ:∀ a s,Q a s→Q' a s):wpAny M A t Q' E s:=wpAny_mono h hQ fun _ _ x=>x
section
variable {X:Cx}
theorem cu {a b:Expr} {ta tb:TE} (ha:PE X a ta) (hb:PE X b tb) {pins:List (Addr × Obj)} {s:Shared} {σ:St} {H:Hp} {R:V→V→Hp→Prop} (I:zJ X pins σ H s) (h:ta σ H fun x H1=>tb σ H1 fun y H2=>R x y H2)
  {α:Type} {Q:α→Shared→Prop} {f:Value→Value→Sem α}
  (hf:∀ v u s2 x y H2,zJ X pins σ H2 s2→qx x v→qx y u→R x y H2→wpAny (model X.prog X.w) X.A (f v u) Q X.xe s2) :
  wpAny (model X.prog X.w) X.A (eval a X.env) (fun v s₁=>wpAny (model X.prog X.w) X.A (eval b X.env) (fun u s₂=>wpAny (model X.prog X.w) X.A (f v u) Q X.xe s₂) X.xe s₁) X.xe s:=by
 refine q0 (ha pins s σ H _ I h) fun v s1 ⟨x,H1,I1,r1,q1⟩=>?_
 refine q0 (hb pins s1 σ H1 _ I1 q1) fun u s2 ⟨y,H2,I2,r2,q2⟩=>?_
 exact hf v u s2 x y H2 I2 r1 r2 q2
noncomputable def zP (i:Nat):TE:=fun σ H Q=>∃ v,σ[i]? = some (some v)∧Q v H
noncomputable def tC (v:V):TE:=fun _ H Q=>Q v H
theorem Nf {i:Nat} {x:Str} {pos:Pos} (hN:X.N[i]? = some x) (hv:TK X.env.scope x) (hd:(x==("__debug__":Str))=false:=by decide) (hcd:(x==("__classdict__":Str))=false:=by decide):PE X (.Name x pos) (zP i):=by
 intro pins s σ H Q I h
 obtain⟨v,e,h⟩:=h
 obtain⟨m,hn,hl⟩:=I.loc
 obtain⟨u,r,l⟩:=hl i x v hN e hv
 have fin:EP X pins σ Q u s:=⟨v,H,I,r,h⟩
 rcases l with ⟨hk,hm⟩ | ⟨hk,c,hc,hcell⟩
 ·exact wpAny_Name (wpAny_loadName_local I.ok.kind hk hn hm fin) hd
 ·rcases hk with hk | hk
  ·exact wpAny_Name (wpAny_loadName_cell I.ok.kind hk hc hcell fin) hd
  ·exact wpAny_Name (wpAny_loadName_free I.ok.kind hk hc hcell fin hcd) hd
theorem ze {i j pos}:PE X (.Constant (.int i) j pos) (tC (.int i)):=fun _ _ _ H _ I h=>wpAny_Constant_int ⟨.int i,H,I.tok _,⟨_,rfl⟩,h⟩
theorem yM {b j pos}:PE X (.Constant (.bool b) j pos) (tC (.bl b)):=fun _ _ _ H _ I h=>Constant_bool ⟨.bl b,H,I,rfl,h⟩
theorem Zk {j pos}:PE X (.Constant .none j pos) (tC .non):=fun _ _ _ H _ I h=>Constant_none ⟨.non,H,I,rfl,h⟩
theorem zt {x j pos}:PE X (.Constant (.str x) j pos) (tC (.str x)):=fun _ _ _ H _ I h=>Calls.Constant_str ⟨.str x,H,I.tok _,⟨_,rfl⟩,h⟩
noncomputable def Gl (X:Cx) (x:Str):Prop:=X.env.kindOf x=some .globalImplicit
theorem jG {E:Value→Shared→Prop} {pins:List (Addr × Obj)} {s:Shared} {σ:St} {H:Hp} {x:Str} {u:Value} {pos:Pos} {Q:Value→Shared→Prop} (I:zJ X pins σ H s) (hg:Gl X x) (hm:X.mg x=some u) (h:Q u s) (hd:(x==("__debug__":Str))=false:=by decide):wpAny (model X.prog X.w) X.A (eval (.Name x pos) X.env) Q E s :=
 Calls.Name_function_global I.ok.kind hg (Calls.loadGlobal_global (by rw[I.ok.glob];exact I.mod.glob.keeps I.bk) hm h) hd
theorem wD {E:Value→Shared→Prop} {pins:List (Addr × Obj)} {s:Shared} {σ:St} {H:Hp} {x:Str} {u:Value} {pos:Pos} {Q:Value→Shared→Prop} (I:zJ X pins σ H s) (hg:Gl X x) (hm:X.mg x=none) (hv:bootBuiltins x=some u) (h:Q u s) (hn:x≠"__name__":=by decide) (hd:(x==("__debug__":Str))=false:=by decide):wpAny (model X.prog X.w) X.A (eval (.Name x pos) X.env) Q E s:=by
 obtain⟨mb,h1,h2⟩:=I.mod.blt
 exact Calls.Name_function_global I.ok.kind hg (Calls.loadGlobal_builtin (by rw[I.ok.glob];exact I.mod.glob.keeps I.bk) hm (by rw[I.ok.blt];exact h1.keeps I.bk) ((h2 x hn).trans hv) h) hd
theorem zY {x:Str} {v:V} {u:Value} {pos:Pos} (hg:Gl X x) (hm:X.mg x=some u) (r:qx v u) (hd:(x==("__debug__":Str))=false:=by decide):PE X (.Name x pos) (tC v) :=
 fun _ _ _ H _ I h=>jG I hg hm ⟨v,H,I,r,h⟩ hd
theorem yB {x:Str} {v:V} {u:Value} {pos:Pos} (hg:Gl X x) (hm:X.mg x=none) (hv:bootBuiltins x=some u) (r:qx v u) (hn:x≠"__name__":=by decide) (hd:(x==("__debug__":Str))=false:=by decide):PE X (.Name x pos) (tC v) :=
 fun _ _ _ H _ I h=>wD I hg hm hv ⟨v,H,I,r,h⟩ hn hd
variable {a b:Expr} {ta tb:TE} {pos:Pos}
noncomputable def PC (X:Cx) (op:CmpOp) (a b:Expr) (t:TE):Prop :=
 ∀ (pins:List (Addr × Obj)) (s:Shared) (σ:St) (H:Hp) (Q:VK),zJ X pins σ H s→t σ H Q →
  wpAny (model X.prog X.w) X.A (eval a X.env) (fun v s₁=>wpAny (model X.prog X.w) X.A (eval b X.env) (fun u s₂=>wpAny (model X.prog X.w) X.A (compareOp op v u) (EP X pins σ Q) X.xe s₂) X.xe s₁) X.xe s
noncomputable def tB (t:TE):TT:=fun σ H Q=>t σ H fun x H1=>∃ c,x = .bl c∧Q c H1
theorem bb {op:CmpOp} {t:TE} (h:PC X op a b t) (h1:behindInMarks op b=false:=by first | exact nobehind _ (by decide) (by decide) | rfl):PT X (.Compare a [op] [b] pos) (tB t):=by
 intro pins s σ H Q I hw
 refine wpAny_isTrue_Compare1 (q0 (h pins s σ H _ I hw) fun v s1 h1=>q0 h1 fun u s2 h2=>q0 h2 fun c s3 ⟨x,H1,I1,r1,q1⟩=>?_) h1
 obtain⟨d,rfl,q⟩:=q1
 cases r1
 exact wpAny_truthy_bool ⟨H1,I1,q⟩
theorem qt {e:Expr} {t:TE} (h:PE X e t) (he:∀ whole,isTrue e X.env whole=(do let v ← whole;standAt e.pos;holding [v] (truthy v)):=by intro _;rfl):PT X e (tB t):=by
 intro pins s σ H Q I hw
 refine isTrue_plain (q0 (h pins s σ H _ I hw) fun v s1 ⟨x,H1,I1,r1,q1⟩=>?_) (he _)
 obtain⟨d,rfl,q⟩:=q1
 cases r1
 exact wpAny_truthy_bool ⟨H1,I1,q⟩
variable {tA tB':TT} {rest:List Expr}
noncomputable def bI (t u:TT):TT:=fun σ H Q=>t σ H fun c H1=>if c=true then u σ H1 Q else Q false H1
noncomputable def BP (t u:TT):TT:=fun σ H Q=>t σ H fun c H1=>if c=true then Q true H1 else u σ H1 Q
noncomputable def bA (t:TT):TT:=fun σ H Q=>t σ H fun c H1=>Q (!c) H1
theorem kL (ha:PT X a tA):PW X (.BoolOp .And [a] pos) tA:=by
 intro wh pins s σ H Q I h
 refine isTrue_and (q0 (ha pins s σ H Q I h) fun c s1 e=>?_)
 cases c with
 | true=>exact isTrue_and_nil e
 | false=>exact e
theorem jU (ha:PT X a tA):PW X (.BoolOp .Or [a] pos) tA:=by
 intro wh pins s σ H Q I h
 refine isTrue_or (q0 (ha pins s σ H Q I h) fun c s1 e=>?_)
 cases c with
 | false=>exact isTrue_or_nil e
 | true=>exact e
theorem Z0 (ha:PT X a tA) (hb:PW X (.BoolOp .And (b::rest) pos) tB'):PW X (.BoolOp .And (a::b::rest) pos) (bI tA tB'):=by
 intro wh pins s σ H Q I h
 refine isTrue_and (q0 (ha pins s σ H _ I h) fun c s1 ⟨H1,I1,q1⟩=>?_)
 cases c with
 | true=>exact hb wh pins s1 σ H1 Q I1 q1
 | false=>exact⟨H1,I1,q1⟩
theorem vE (ha:PT X a tA) (hb:PW X (.BoolOp .Or (b::rest) pos) tB'):PW X (.BoolOp .Or (a::b::rest) pos) (BP tA tB'):=by
 intro wh pins s σ H Q I h
 refine isTrue_or (q0 (ha pins s σ H _ I h) fun c s1 ⟨H1,I1,q1⟩=>?_)
 cases c with
 | true=>exact⟨H1,I1,q1⟩
 | false=>exact hb wh pins s1 σ H1 Q I1 q1
theorem qu (ha:PT X a tA):PT X (.UnaryOp .Not a pos) (bA tA):=by
 intro pins s σ H Q I h
 exact isTrue_not (ha pins s σ H (fun c H1=>Q (!c) H1) I h)
noncomputable def tO (ta tb:TE):TE:=fun σ H Q=>ta σ H fun x H1=>∃ c,x = .bl c∧if c=true then tb σ H1 Q else Q (.bl false) H1
noncomputable def Bs (ta tb:TE):TE:=fun σ H Q=>ta σ H fun x H1=>∃ c,x = .bl c∧if c=true then Q (.bl true) H1 else tb σ H1 Q
noncomputable def tI (ta:TE):TE:=fun σ H Q=>ta σ H fun x H1=>∃ c,x = .bl c∧Q (.bl (!c)) H1
theorem yX {op} {t:TE} (h:PE X a t):PE X (.BoolOp op [a] pos) t:=fun pins s σ H Q I hw=>BoolOp_one (h pins s σ H Q I hw)
theorem yO (ha:PE X a ta) (hb:PE X (.BoolOp .And (b::rest) pos) tb):PE X (.BoolOp .And (a::b::rest) pos) (tO ta tb):=by
 intro pins s σ H Q I h
 refine BoolOp_and (q0 (ha pins s σ H _ I h) fun v s1 ⟨x,H1,I1,r1,q1⟩=>?_)
 obtain⟨c,rfl,q1⟩:=q1
 cases r1
 refine wpAny_truthy_bool ?_
 cases c with
 | true=>exact hb pins s1 σ H1 Q I1 q1
 | false=>exact⟨.bl false,H1,I1,rfl,q1⟩
theorem RW (ha:PE X a ta) (hb:PE X (.BoolOp .Or (b::rest) pos) tb):PE X (.BoolOp .Or (a::b::rest) pos) (Bs ta tb):=by
 intro pins s σ H Q I h
 refine BoolOp_or (q0 (ha pins s σ H _ I h) fun v s1 ⟨x,H1,I1,r1,q1⟩=>?_)
 obtain⟨c,rfl,q1⟩:=q1
 cases r1
 refine wpAny_truthy_bool ?_
 cases c with
 | false=>exact hb pins s1 σ H1 Q I1 q1
 | true=>exact⟨.bl true,H1,I1,rfl,q1⟩
theorem pB (ha:PE X a ta):PE X (.UnaryOp .Not a pos) (tI ta):=by
 intro pins s σ H Q I h
 refine UnaryOp_ (q0 (ha pins s σ H _ I h) fun v s1 ⟨x,H1,I1,r1,q1⟩=>?_)
 obtain⟨c,rfl,q1⟩:=q1
 cases r1
 exact not_of (wpAny_truthy_bool ⟨.bl (!c),H1,I1,rfl,q1⟩)
end
noncomputable def zZ (K:BFr) (H:Hp) (a:Addr) (xs:List V):Prop :=
 Rd H a (.lst xs) ∨
  ∃ (o:Obj) (its:Array Value) (n:Nat),K.lookup a=some o∧o.cls = .type "list"∧o.dict=none∧o.data = .seq its n∧its.size≤sizeLine∧qf xs its.toList
noncomputable def yj (K:BFr) (H:Hp) (a:Addr) (xs:List V):Prop :=
 Rd H a (.tup xs) ∨
  ∃ (o:Obj) (its:Array Value) (n:Nat),K.lookup a=some o∧o.cls = .type "tuple"∧o.data = .seq its n∧its.size≤sizeLine∧qf xs its.toList
noncomputable def Tw:Value→Option V
 | .none=>some .non
 | .bool b=>some (.bl b)
 | .int i _=>some (.int i)
 | .str x _=>some (.str x)
 | .bytes b _=>some (.byt b)
 | .float b _=>some (.flt b)
 | .ref a=>some (.ref a)
 | .type n=>some (.ty n)
 | _=>none
theorem qx.abs {x:V} {u:Value} (r:qx x u):Tw u=some x:=by
 cases x with
 | non=>cases r;rfl
 | bl _=>cases r;rfl
 | int _=>obtain⟨t,rfl⟩:=r;rfl
 | str _=>obtain⟨t,rfl⟩:=r;rfl
 | byt _=>obtain⟨t,rfl⟩:=r;rfl
 | flt _=>obtain⟨t,rfl⟩:=r;rfl
 | ref _=>cases r;rfl
 | ty _=>cases r;rfl
theorem qx.inj {x y:V} {u:Value} (r:qx x u) (q:qx y u):x=y:=Option.some.inj (r.abs.symm.trans q.abs)
theorem qf.inj:∀ {xs ys:List V} {us:List Value},qf xs us→qf ys us→xs=ys
 | _,_,_,.nil,.nil=>rfl
 | _,_,_,.cons r t,.cons r' t'=>by rw[r.inj r',qf.inj t t']
section
variable {X:Cx} {pins:List (Addr × Obj)} {σ:St} {H:Hp} {s:Shared} {a:Addr} {xs ys:List V}
theorem zZ.of {K:BFr} (h:H a=some (.lst xs)):zZ K H a xs:=.inl (.inl h)
theorem yj.of {K:BFr} (h:H a=some (.tup xs)):yj K H a xs:=.inl (.inl h)
theorem zJ.list (I:zJ X pins σ H s) (h:zZ X.K H a xs):∃ its:List Value,qf xs its∧PlainL s.heap a its.toArray∧xs.length≤sizeLine:=by
 rcases h with h | ⟨o,its,n,hk,hc,hd,hs,hz,r⟩
 ·obtain⟨z,its,n,r,e⟩:=h.ok I.hok
  exact⟨its,r,⟨_,n,e,rfl,rfl,rfl⟩,z⟩
 ·refine⟨its.toList,r,⟨o,n,I.kIn a o hk,hc,hd,by simpa using hs⟩,?_⟩
  have e:=r.length
  simp only[CB] at e
  omega
theorem zJ.tuple (I:zJ X pins σ H s) (h:yj X.K H a xs):∃ its:List Value,qf xs its∧IsTup s.heap a its.toArray∧xs.length≤sizeLine:=by
 rcases h with h | ⟨o,its,n,hk,hc,hs,hz,r⟩
 ·obtain⟨z,its,r,p⟩:=h.ok I.hok
  exact⟨its,r,p,z⟩
 ·refine⟨its.toList,r,⟨o,I.kIn a o hk,hc,n,by simpa using hs⟩,?_⟩
  have e:=r.length
  simp only[CB] at e
  omega
theorem zJ.list_inj (I:zJ X pins σ H s) (h:zZ X.K H a xs) (h':zZ X.K H a ys):xs=ys:=by
 obtain⟨its,r,⟨o,n,e,_,_,d⟩,_⟩:=I.list h
 obtain⟨its',r',⟨o',n',e',_,_,d'⟩,_⟩:=I.list h'
 rw[e] at e';cases e'
 rw[d] at d'
 injection d' with d1 _
 have:its=its':=by simpa using congrArg Array.toList d1
 subst this
 exact r.inj r'
theorem zJ.tuple_inj (I:zJ X pins σ H s) (h:yj X.K H a xs) (h':yj X.K H a ys):xs=ys:=by
 obtain⟨its,r,⟨o,e,_,n,d⟩,_⟩:=I.tuple h
 obtain⟨its',r',⟨o',e',_,n',d'⟩,_⟩:=I.tuple h'
 rw[e] at e';cases e'
 rw[d] at d'
 injection d' with d1 _
 have:its=its':=by simpa using congrArg Array.toList d1
 subst this
 exact r.inj r'
end
abbrev Cx.wish (X:Cx) (E:Value→Shared→Prop):Cx:={ X with xe:=E }
abbrev Cx.nox (X:Cx):Cx:=X.wish fun _ _=>False
theorem Cx.Ok.wish {X:Cx} (ok:X.Ok) (E:Value→Shared→Prop):(X.wish E).Ok :=
 ⟨ok.mod,ok.kind,ok.glob,ok.blt,ok.above,ok.inj,ok.has,ok.cab,ok.hd,ok.frames,ok.stk,ok.exf,ok.bs,ok.bsz,ok.noex,ok.exfs,ok.funs,ok.frf⟩
theorem Cx.Ok.unwish {X:Cx} {E:Value→Shared→Prop} (ok:(X.wish E).Ok):X.Ok :=
 ⟨ok.mod,ok.kind,ok.glob,ok.blt,ok.above,ok.inj,ok.has,ok.cab,ok.hd,ok.frames,ok.stk,ok.exf,ok.bs,ok.bsz,ok.noex,ok.exfs,ok.funs,ok.frf⟩
section
variable {X:Cx} {pins:List (Addr × Obj)} {σ:St} {H:Hp} {s:Shared} {E:Value→Shared→Prop}
theorem zJ.wish (I:zJ X pins σ H s) (E:Value→Shared→Prop):zJ (X.wish E) pins σ H s:=⟨I.ok.wish E,I.os,I.bare,I.base,I.loc,I.cell,I.free,I.freeC,I.pin,I.hok,I.len⟩
theorem zJ.unwish (I:zJ (X.wish E) pins σ H s):zJ X pins σ H s:=⟨I.ok.unwish,I.os,I.bare,I.base,I.loc,I.cell,I.free,I.freeC,I.pin,I.hok,I.len⟩
theorem SP.unwish {D:uE} {f:Flow} {s':Shared} (h:SP (X.wish E) pins D f s'):SP X pins D f s':=by
 cases f with
 | next=>obtain⟨σ',H',I,q⟩:=h;exact⟨σ',H',I.unwish,q⟩
 | brk=>obtain⟨σ',H',I,q⟩:=h;exact⟨σ',H',I.unwish,q⟩
 | cont=>obtain⟨σ',H',I,q⟩:=h;exact⟨σ',H',I.unwish,q⟩
 | ret u=>obtain⟨v,σ',H',I,r,q⟩:=h;exact⟨v,σ',H',I.unwish,r,q⟩
theorem yW.nox {st:List Stmt} {t:TS} (h:yW X.nox st t):yW X st t:=fun pins s σ H D I hw =>
 wpAny_mono (h pins s σ H D (I.wish _) hw) (fun _ _ q=>q.unwish) fun _ _ z=>False.elim z
end
section
variable {X:Cx} {st:Stmt} {rest:List Stmt} {t u:TS} {e:Expr} {te:TE} {pos:Pos}
noncomputable def mY:TS:=fun D σ H=>D.nx σ H
noncomputable def NL (t u:TS):TS:=fun D σ H=>t { D with nx:=u D } σ H
theorem zG:yW X [] mY:=fun _ _ σ H _ I h=>wpAny_execs_nil ⟨σ,H,I,h⟩
theorem zh (h1:PS X st t) (h2:yW X rest u):yW X (st::rest) (NL t u):=by
 intro pins s σ H D I h
 refine wpAny_execs_cons (q0 (h1 pins s σ H { D with nx:=u D } I h) fun f s1 q=>?_)
 cases f with
 | next =>
  obtain⟨σ',H',I',q⟩:=q
  exact h2 pins s1 σ' H' D I' q
 | ret v=>exact q
 | brk=>exact q
 | cont=>exact q
theorem zi (h1:PS X st t):yW X [st] t:=by
 intro pins s σ H D I h
 refine wpAny_execs_cons (q0 (h1 pins s σ H D I h) fun f s1 q=>?_)
 cases f with
 | next=>exact wpAny_execs_nil q
 | ret v=>exact q
 | brk=>exact q
 | cont=>exact q
theorem zJ.quiet {pins:List (Addr × Obj)} {σ:St} {H:Hp} {s:Shared} (I:zJ X pins σ H s):interactive X.env=false:=by simp[interactive,I.ok.kind]
noncomputable def Mp (te:TE):TS:=fun D σ H=>te σ H fun _ H1=>D.nx σ H1
theorem z4 (he:PE X e te) (hs:swapsWith e none pos.line X.env=pure false:=by rfl):PS X (.Expr e pos) (Mp te):=by
 intro pins s σ H D I h
 exact wpAny_Expr_any (q0 (he pins s σ H _ I h) fun v s1 ⟨x,H1,I1,r1,q1⟩=>⟨σ,H1,I1,q1⟩) I.quiet hs
noncomputable def gu (te:TE):TS:=fun D σ H=>te σ H D.rt
theorem zx (he:PE X e te):PS X (.Return (some e) pos) (gu te):=by
 intro pins s σ H D I h
 exact wpAny_Return_some (q0 (he pins s σ H _ I h) fun v s1 ⟨x,H1,I1,r1,q1⟩=>⟨x,σ,H1,I1,r1,q1⟩)
noncomputable def r9 (c:TT) (t u:TS):TS:=fun D σ H=>c σ H fun b H1=>if b=true then t D σ H1 else u D σ H1
theorem zX {c:Expr} {a b:List Stmt} {tc:TT} (hc:PT X c tc) (ha:yW X a t) (hb:yW X b u):PS X (.If c a b pos) (r9 tc t u):=by
 intro pins s σ H D I h
 refine wpAny_If (q0 (hc pins s σ H _ I h) fun d s1 ⟨H1,I1,q1⟩=>?_)
 cases d with
 | true=>exact ha pins s1 σ H1 D I1 q1
 | false=>exact hb pins s1 σ H1 D I1 q1
noncomputable def MI:TS:=fun _ _ _=>False
theorem qS {sts:List Stmt}:yW X sts MI:=fun _ _ _ _ _ _ h=>h.elim
end
abbrev TG:=V→St→Hp→(St→Hp→Prop)→Prop
abbrev My:=List V→St→Hp→(St→Hp→Prop)→Prop
noncomputable def PG (X:Cx) (target:Expr) (t:TG):Prop :=
 ∀ (pins:List (Addr × Obj)) (s:Shared) (σ:St) (H:Hp) (v:V) (u:Value) (Q:St→Hp→Prop),zJ X pins σ H s→qx v u→t v σ H Q →
  wpAny (model X.prog X.w) X.A (assign target X.env u) (fun _ s'=>∃ σ' H',zJ X pins σ' H' s'∧Q σ' H') X.xe s
noncomputable def vq (X:Cx) (ts:List Expr) (t:My):Prop :=
 ∀ (pins:List (Addr × Obj)) (s:Shared) (σ:St) (H:Hp) (vs:List V) (us:List Value) (Q:St→Hp→Prop),zJ X pins σ H s→qf vs us→t vs σ H Q →
  wpAny (model X.prog X.w) X.A (assignInOrder ((assignEach ts X.env).map (·.2)) us) (fun _ s'=>∃ σ' H',zJ X pins σ' H' s'∧Q σ' H') X.xe s
section
variable {X:Cx} {pos:Pos}
noncomputable def z6 (i:Nat):TG:=fun v σ H Q=>Q (σ.set i (some v)) H
theorem zN {i:Nat} {x:Str} (hN:X.N.Nodup) (hi:X.N[i]? = some x) (hx:Tc X.env.scope x) (hf:X.fn x=true∨X.env.scope.names.lookup x=some .local:=by first | exact .inl rfl | exact .inr rfl | assumption):PG X (.Name x pos) (z6 i):=by
 intro pins s σ H v u Q I r h
 exact wpAny_assign_Name (w9 I hN hi hx r (fun s' I'=>⟨_,H,I',h⟩) hf)
noncomputable def Uz:My:=fun vs σ H Q=>vs=[]∧Q σ H
noncomputable def vp (t:TG) (u:My):My:=fun vs σ H Q=>∃ v r,vs=v::r∧t v σ H fun σ' H'=>u r σ' H' Q
theorem wW:vq X [] Uz:=by
 intro pins s σ H vs us Q I r h
 obtain⟨e,h⟩:=h
 subst e
 cases r
 exact assignInOrder_nil ⟨σ,H,I,h⟩
theorem y7 {e:Expr} {es:List Expr} {t:TG} {u:My} (h1:PG X e t) (h2:vq X es u) (hs:(assignEach (e::es) X.env).map (·.2)=assign e X.env::(assignEach es X.env).map (·.2):=by rfl):vq X (e::es) (vp t u):=by
 intro pins s σ H vs us Q I r h
 obtain⟨v,vr,e1,h⟩:=h
 subst e1
 cases r with
 | cons r rr =>
  rw[hs]
  refine assignInOrder_cons (q0 (h1 pins s σ H _ _ _ I r h) fun _ s1 ⟨σ1,H1,I1,q1⟩=>?_)
  exact h2 pins s1 σ1 H1 _ _ Q I1 rr q1
noncomputable def UI (K:BFr) (n:Nat) (t:My):TG:=fun v σ H Q=>∃ a xs,v = .ref a∧yj K H a xs∧xs.length=n∧t xs σ H Q
theorem QP {es:List Expr} {k:Nat} {t:My} {n:Nat} (hc:X.calm=true) (h:vq X es t) (hn:(assignEach es X.env).length=n:=by rfl) (hst:(assignEach es X.env).findIdx? (·.1)=none:=by rfl):PG X (.Tuple es k pos) (UI X.K n t):=by
 intro pins s σ H v u Q I r hw
 obtain⟨a,xs,e1,hq,hl,hw⟩:=hw
 subst e1
 cases r
 obtain⟨its,rv,ht,hz⟩:=I.tuple hq
 refine assign_Tuple_tuple (I.ok.hd hc) ht (by simp[hn,← hl,rv.length]) hst fun h' hx=>?_
 have I1:zJ X pins σ H { s with heap:=h' }:=I.kept (t':=s.toks) fun b o e=>hx b o (Cc (cD e)) e
 exact h pins _ σ H xs _ Q I1 (by simpa using rv) hw
noncomputable def lq (te:TE) (g:TG):TS:=fun D σ H=>te σ H fun x H1=>g x σ H1 D.nx
theorem zQ {i:Nat} {x:Str} {e:Expr} {te:TE} {pos':Pos} (hN:X.N.Nodup) (hi:X.N[i]? = some x) (hx:Tc X.env.scope x) (he:PE X e te) (hs:swapsWith e (some (.Name x pos')) pos.line X.env=pure false:=by rfl) (hf:X.fn x=true∨X.env.scope.names.lookup x=some .local:=by first | exact .inl rfl | exact .inr rfl | assumption) :
  PS X (.Assign [.Name x pos'] e pos) (lq te (z6 i)):=by
 intro pins s σ H D I h
 refine wpAny_Assign_Name (q0 (he pins s σ H _ I h) fun v s1 ⟨y,H1,I1,r1,q1⟩=>?_) hs
 exact w9 I1 hN hi hx r1 (fun s2 I2=>⟨_,H1,I2,q1⟩) hf
end
section
variable {X:Cx} {pos:Pos}
end
structure It where
 go:Nat→Hp→Prop
 yld:Nat→Hp→V→Hp→Prop
 stop:Nat→Hp→Prop
noncomputable def yq (X:Cx) (pins:List (Addr × Obj)) (H:Hp) (b:Addr):Prop :=
 H b=none∧b≠X.env.locals∧b∉X.fs∧(b∈X.ex∨X.s₀.heap.get? b=none)∧(∀ x c,X.env.cells.lookup x=some c→c≠b)∧∀ p∈X.pn++pins,p.1≠b
theorem zJ.fpOk {X:Cx} {pins:List (Addr × Obj)} {σ:St} {H H':Hp} {s:Shared} {b:Addr} (I:zJ X pins σ H s) (hb:s.heap.objs.size≤b) (hn:H' b=none):yq X pins H' b:=by
 refine⟨hn,dZ (Cw I.lt hb),I.nofs hb,.inr (dB (cJ I.sz hb)),fun x c e z=>?_,fun p hp z=>?_⟩
 ·obtain⟨v,q⟩:=I.cell x c e
  exact absurd (Cw q.lt (by rw[z];exact hb)) (dW _)
 ·exact absurd (Cw (cD (I.pin p hp).1) (by rw[z];exact hb)) (dW _)
structure VL (P:Program) (w:World) (K:BFr) (tg:Expr) (J:It) (fp:List Addr) (it:Addr) (tn:Nat→Heap→Prop):Prop where
 mem:it∈fp
 obj:∀ i h,tn i h→∀ b∈fp,∃ o,h.get? b=some o∧∀ v,o.data≠.cell v
 keep:∀ i h h',tn i h→(∀ b∈fp,∀ o,h.get? b=some o→h'.get? b=some o)→tn i h'
 item:∀ (X:Cx),X.prog=P→X.w=w→X.K=K→X.calm=true→∀ (i:Nat) (pins:List (Addr × Obj)) (s:Shared) (σ:St) (H:Hp) (E:Value→Shared→Prop),zJ X pins σ H s→(∀ b∈fp,yq X pins H b)→tn i s.heap→J.go i H →
  wpAny (model P w) X.A (pyNext (.ref it)) (fun r s1=>∃ u,r=some u ∧
   wpAny (model P w) X.A (letOwnedTupleGo tg (.ref it) u) (fun _ s2=>∃ x H',zJ X pins σ H' s2∧qx x u∧J.yld i H x H'∧tn (i+1) s2.heap∧∀ b∈fp,H' b=none) E s1) E s
 done:∀ (X:Cx),X.prog=P→X.w=w→X.K=K→X.calm=true→∀ (i:Nat) (pins:List (Addr × Obj)) (s:Shared) (σ:St) (H:Hp) (E:Value→Shared→Prop),zJ X pins σ H s→(∀ b∈fp,yq X pins H b)→tn i s.heap→J.stop i H →
  wpAny (model P w) X.A (pyNext (.ref it)) (fun r s1=>r=none∧zJ X pins σ H s1) E s
 self:∀ (A:Around) (i:Nat) (s:Shared) (Q:Value→Shared→Prop) (E:Value→Shared→Prop),tn i s.heap→Q (.ref it) s→wpAny (model P w) A (pyIter (.ref it)) Q E s
abbrev TI:=St→Hp→(It→Hp→Prop)→Prop
noncomputable def BE (X:Cx) (pins:List (Addr × Obj)) (σ:St) (tg:Expr) (R:It→Hp→Prop) (itv:Value) (s2:Shared):Prop :=
 ∃ (it:Addr) (fp:List Addr) (tn:Nat→Heap→Prop) (J:It) (H':Hp),itv = .ref it∧zJ X pins σ H' s2∧VL X.prog X.w X.K tg J fp it tn∧tn 0 s2.heap∧(∀ b∈fp,yq X pins H' b)∧R J H'
noncomputable def PI (X:Cx) (tg iter:Expr) (wi:TI):Prop :=
 ∀ (pins:List (Addr × Obj)) (s:Shared) (σ:St) (H:Hp) (R:It→Hp→Prop),zJ X pins σ H s→wi σ H R →
  wpAny (model X.prog X.w) X.A (eval iter X.env) (fun v s1=>wpAny (model X.prog X.w) X.A (pyIter v) (BE X pins σ tg R) X.xe s1) X.xe s
theorem UQ {M:Model} {A:Around} {E:Value→Shared→Prop} {s:Shared} {tg:Expr} {it:Addr} {u:Value} {o:Obj} {n:String} {vs:Array Value} {Q:Unit→Shared→Prop} (ho:s.heap.get? it=some o) (hc:o.cls = .type n) (hd:o.data = .fields vs) (hn:["enumerate","zip","dict_itemiterator","dict_reverseitemiterator","odict_iterator","itertools.zip_longest","itertools.pairwise"].contains n=false) (hQ:Q () s):wpAny M A (letOwnedTupleGo tg (.ref it) u) Q E s:=by
 unfold letOwnedTupleGo
 cases tg <;> first
  | exact wpAny_pure hQ
  | (cases u <;> first
    | exact wpAny_pure hQ
    | (refine wpAny_bind (wpAny_load ho ?_)
       rw[hc,hd]
       show wpAny M A (if (["enumerate","zip","dict_itemiterator","dict_reverseitemiterator","odict_iterator","itertools.zip_longest","itertools.pairwise"].contains n&&vs[0]? == some (rawInt _))=true then _ else _) Q E s
       rw[if_neg (by intro h;rw[hn,C9] at h;cases h)]
       exact wpAny_pure hQ))
noncomputable def mX (K:BFr) (a:Addr):It :=
 ⟨fun i H=>∃ xs x,zZ K H a xs∧xs[i]? = some x,fun i H x H'=>H'=H∧∀ xs,zZ K H a xs→xs[i]? = some x,fun i H=>∃ xs,zZ K H a xs∧xs.length≤i⟩
noncomputable def Tp (K:BFr) (a:Addr):It :=
 ⟨fun i H=>∃ xs x,yj K H a xs∧xs[i]? = some x,fun i H x H'=>H'=H∧∀ xs,yj K H a xs→xs[i]? = some x,fun i H=>∃ xs,yj K H a xs∧xs.length≤i⟩
noncomputable def Me (lo:Int) (n:Nat):It:=⟨fun i _=>i<n,fun i H x H'=>H'=H∧x = .int (lo+i),fun i _=>n≤i⟩
theorem GY {P:Program} {w:World} {K:BFr} {tg:Expr} (a it:Addr):VL P w K tg (mX K a) [it] it (fun i h=>h.IsListIter it a i) where
 mem:=by simp
 obj:=fun i h st b hb=>by
  have e:b=it:=by simpa using hb
  subst e
  obtain⟨o,e,c,d⟩:=st
  exact⟨o,e,fun v z=>by rw[d] at z;cases z⟩
 keep:=fun i h h' st k=>st.at fun o e=>k it (by simp) o e
 item:=by
  intro X hP hw hK hc i pins s σ H E I hf st hg
  subst hP hw hK
  obtain⟨xs,x,hq,hx⟩:=hg
  obtain⟨its,rv,p,hz⟩:=I.list hq
  obtain⟨u,hu,ru⟩:=rv.get hx
  obtain⟨f0,f1,f2,f3,f4,f5⟩:=hf it (by simp)
  refine wpAny_pyNext_list_item st p.isList (x:=u) (by simpa using hu) fun h' st' sb=>?_
  have I1:zJ X pins σ H { s with heap:=h' }:=I.turned (t':=s.toks) (fun b o hb e=>(sb.2 b hb).trans e) f0 f1 f3 f4 f5
  obtain⟨o,e,c,d⟩:=id st'
  exact⟨u,rfl,UQ (s:={ s with heap:=h' }) e c d (by decide) ⟨x,H,I1,ru,⟨rfl,fun ys hy=>by rw[I.list_inj hy hq];exact hx⟩,st',fun b hb=>(hf b hb).1⟩⟩
 done:=by
  intro X hP hw hK hc i pins s σ H E I hf st hg
  subst hP hw hK
  obtain⟨xs,hq,hx⟩:=hg
  obtain⟨its,rv,p,hz⟩:=I.list hq
  obtain⟨f0,f1,f2,f3,f4,f5⟩:=hf it (by simp)
  have hl:=rv.length
  exact wpAny_pyNext_list_end (I.ok.hd hc) st p.isList (by simp;omega) fun h' eb=>⟨rfl,I.turned (t':=s.toks) (fun b o hb e=>eb b o hb e) f0 f1 f3 f4 f5⟩
 self:=fun _ _ _ _ _ st h=>wpAny_pyIter_listiter st h
theorem Wm {P:Program} {w:World} {K:BFr} {tg:Expr} (a it:Addr):VL P w K tg (Tp K a) [it] it (fun i h=>h.IsTupleIter it a i) where
 mem:=by simp
 obj:=fun i h st b hb=>by
  have e:b=it:=by simpa using hb
  subst e
  obtain⟨o,e,c,d⟩:=st
  exact⟨o,e,fun v z=>by rw[d] at z;cases z⟩
 keep:=fun i h h' st k=>st.at fun o e=>k it (by simp) o e
 item:=by
  intro X hP hw hK hc i pins s σ H E I hf st hg
  subst hP hw hK
  obtain⟨xs,x,hq,hx⟩:=hg
  obtain⟨its,rv,p,hz⟩:=I.tuple hq
  obtain⟨u,hu,ru⟩:=rv.get hx
  obtain⟨f0,f1,f2,f3,f4,f5⟩:=hf it (by simp)
  refine wpAny_pyNext_tuple_item st (show s.heap.IsTuple a its.toArray from p) (x:=u) (by simpa using hu) fun h' st' sb=>?_
  have I1:zJ X pins σ H { s with heap:=h' }:=I.turned (t':=s.toks) (fun b o hb e=>(sb.2 b hb).trans e) f0 f1 f3 f4 f5
  obtain⟨o,e,c,d⟩:=id st'
  exact⟨u,rfl,UQ (s:={ s with heap:=h' }) e c d (by decide) ⟨x,H,I1,ru,⟨rfl,fun ys hy=>by rw[I.tuple_inj hy hq];exact hx⟩,st',fun b hb=>(hf b hb).1⟩⟩
 done:=by
  intro X hP hw hK hc i pins s σ H E I hf st hg
  subst hP hw hK
  obtain⟨xs,hq,hx⟩:=hg
  obtain⟨its,rv,p,hz⟩:=I.tuple hq
  obtain⟨f0,f1,f2,f3,f4,f5⟩:=hf it (by simp)
  have hl:=rv.length
  exact wpAny_pyNext_tuple_end (I.ok.hd hc) st (show s.heap.IsTuple a its.toArray from p) (by simp;omega) fun h' eb=>⟨rfl,I.turned (t':=s.toks) (fun b o hb e=>eb b o hb e) f0 f1 f3 f4 f5⟩
 self:=fun _ _ _ _ _ st h=>wpAny_pyIter_tupleiter st h
theorem xG {P:Program} {w:World} {K:BFr} {tg:Expr} (it:Addr) (lo:Int) (n:Nat):VL P w K tg (Me lo n) [it] it (fun i h=>IsRangeIter h it (lo+(i:Nat)*1) ((n:Int) - (i:Nat)) 1) where
 mem:=by simp
 obj:=fun i h st b hb=>by
  have e:b=it:=by simpa using hb
  subst e
  exact⟨_,st,fun v z=>by
   have z':Data.fields _=Data.cell v:=z
   cases z'⟩
 keep:=fun i h h' st k=>k it (by simp) _ st
 item:=by
  intro X hP hw hK hc i pins s σ H E I hf st hg
  subst hP hw hK
  obtain⟨f0,f1,f2,f3,f4,f5⟩:=hf it (by simp)
  have W:=Walks.range (prog:=X.prog) (w:=X.w) (I.ok.hd hc) it lo 1 n
  refine W.item i s _ _ hg st fun v h' tk hv st' kk=>?_
  obtain⟨t,rfl⟩:=hv
  have I1:zJ X pins σ H { s with heap:=h',toks:=tk }:=I.turned (fun b o hb e=>kk b o (by simpa using hb) e) f0 f1 f3 f4 f5
  refine⟨_,rfl,UQ (s:={ s with heap:=h',toks:=tk }) (n:="range_iterator") st' rfl rfl (by decide) ⟨.int (lo+i),H,I1,⟨t,?_⟩,⟨rfl,rfl⟩,st',fun b hb=>(hf b hb).1⟩⟩
  rw[Int.mul_one]
 done:=by
  intro X hP hw hK hc i pins s σ H E I hf st hg
  subst hP hw hK
  obtain⟨f0,f1,f2,f3,f4,f5⟩:=hf it (by simp)
  exact wpAny_pyNext_range_end (I.ok.hd hc) st (by have:n≤i:=hg;omega) fun h' eb=>⟨rfl,I.turned (t':=s.toks) (fun b o hb e=>eb b o hb e) f0 f1 f3 f4 f5⟩
 self:=fun _ _ _ _ _ st h=>wpAny_pyIter_rangeiter st h
section
variable {X:Cx} {tg:Expr}
noncomputable def uw (K:BFr) (tl:TE):TI:=fun σ H R=>tl σ H fun x H1=>∃ a,x = .ref a∧(∃ xs,zZ K H1 a xs)∧R (mX K a) H1
noncomputable def Vk (K:BFr) (tl:TE):TI:=fun σ H R=>tl σ H fun x H1=>∃ a,x = .ref a∧(∃ xs,yj K H1 a xs)∧R (Tp K a) H1
theorem yI {l:Expr} {tl:TE} (hl:PE X l tl):PI X tg l (uw X.K tl):=by
 intro pins s σ H R I h
 refine q0 (hl pins s σ H _ I h) fun v s1 ⟨x,H1,I1,r1,q1⟩=>?_
 obtain⟨a,e,⟨xs,hq⟩,q⟩:=q1
 subst e
 cases r1
 obtain⟨its,rv,p,hz⟩:=I1.list hq
 refine wpAny_pyIter_list p.isList ?_
 refine⟨s1.heap.objs.size,[s1.heap.objs.size],_,_,H1,rfl,I1.kept (t':=s1.toks) fun b o e=>Cg _ e,GY a _,⟨_,Co _ rfl,rfl,rfl⟩,fun b hb=>?_,q⟩
 have e:b=s1.heap.objs.size:=by simpa using hb
 subst e
 exact I1.fpOk (cx _) (I1.hok.fresh (cx _))
theorem uT {l:Expr} {tl:TE} (hl:PE X l tl):PI X tg l (Vk X.K tl):=by
 intro pins s σ H R I h
 refine q0 (hl pins s σ H _ I h) fun v s1 ⟨x,H1,I1,r1,q1⟩=>?_
 obtain⟨a,e,⟨xs,hq⟩,q⟩:=q1
 subst e
 cases r1
 obtain⟨its,rv,p,hz⟩:=I1.tuple hq
 refine wpAny_pyIter_tuple (show s1.heap.IsTuple a its.toArray from p) ?_
 refine⟨s1.heap.objs.size,[s1.heap.objs.size],_,_,H1,rfl,I1.kept (t':=s1.toks) fun b o e=>Cg _ e,Wm a _,⟨_,Co _ rfl,rfl,rfl⟩,fun b hb=>?_,q⟩
 have e:b=s1.heap.objs.size:=by simpa using hb
 subst e
 exact I1.fpOk (cx _) (I1.hok.fresh (cx _))
theorem P7 {pins:List (Addr × Obj)} {σ:St} {H:Hp} {s:Shared} {R:It→Hp→Prop} {E:Value→Shared→Prop} {lo hi:Int} {t u v:Tok} {tk:Nat} (I:zJ X pins σ H s) (h1:-(2 ^ 62)≤lo) (h2:lo<2 ^ 62) (h3:-(2 ^ 62)≤hi) (h4:hi<2 ^ 62) (q:R (Me lo (hi - lo).toNat) H):wpAny (model X.prog X.w) X.A (pyIter (.ref s.heap.objs.size)) (BE X pins σ tg R) E { s with heap:=s.heap.push { cls:=.type "range",data:=.fields #[.int lo t,.int hi u,.int 1 v] },toks:=tk }:=by
 refine wpAny_pyIter_range (IsRange.new ..) (small_one h1 h2 h3 h4) ?_
 have I1:zJ X pins σ H { s with heap:=s.heap.push { cls:=.type "range",data:=.fields #[.int lo t,.int hi u,.int 1 v] },toks:=tk }:=I.kept fun b o e=>Cg _ e
 refine⟨(s.heap.push { cls:=.type "range",data:=.fields #[.int lo t,.int hi u,.int 1 v] }).objs.size,[(s.heap.push { cls:=.type "range",data:=.fields #[.int lo t,.int hi u,.int 1 v] }).objs.size],_,_,H,rfl,
  I1.kept (t':=tk) fun b o e=>Cg _ e,xG _ lo (hi - lo).toNat,?_,fun b hb=>?_,q⟩
 ·have e1:lo+((0:Nat):Int)*1=lo:=by simp
  have e2:(((hi - lo).toNat:Nat):Int) - ((0:Nat):Int)=Builtin.Range.rangeSize lo hi 1:=by rw[rangeSize_one];split <;> omega
  show IsRangeIter _ _ (lo+((0:Nat):Int)*1) ((((hi - lo).toNat:Nat):Int) - ((0:Nat):Int)) 1
  rw[e1,e2]
  exact Co _ rfl
 ·have e:b=(s.heap.push { cls:=.type "range",data:=.fields #[.int lo t,.int hi u,.int 1 v] }).objs.size:=by simpa using hb
  subst e
  exact I1.fpOk (cx _) (I1.hok.fresh (cx _))
noncomputable def Zz (ta:TA):TI:=fun σ H R=>ta σ H fun vs H1=>∃ j:Int,vs=[.int j]∧-(2 ^ 62)≤j∧j<2 ^ 62∧R (Me 0 j.toNat) H1
theorem yu {a:Expr} {ta:TA} {p pos:Pos} (hg:Gl X "range") (hm:X.mg "range" = none) (ha:PA X [a] ta) (hs:starEach [a] X.env=[(false,eval a X.env)]:=by rfl):PI X tg (.Call (.Name "range" p) [a] [] pos) (Zz ta):=by
 intro pins s σ H R I h
 refine Call_ (wD I hg hm boot_range (PyProof.Rows.callWith_type1 (q0 (ha pos pins s σ H _ I h) fun us s1 ⟨vs,H1,I1,r1,q1⟩=>?_) hs rfl))
 obtain⟨j,e,q1,q2,q⟩:=q1
 subst e
 cases r1 with
 | cons r rr =>
  cases rr
  obtain⟨t,rfl⟩:=r
  exact call_range_1 (P7 I1 (by omega) (by omega) q1 q2 (by simpa using q))
noncomputable def Bh (wi:TI) (g:TG) (tb:TS):TS:=fun D σ H=>wi σ H fun J H1=>∃ W:Nat→Nat→St→Hp→Prop,(∃ m,W 0 m σ H1)∧∀ i m σ H,W i m σ H →
 (J.stop i H∧D.nx σ H)∨(J.go i H∧∃ N:St→Hp→Prop,(∀ σ' H',N σ' H'→∃ m',m'<m∧W (i+1) m' σ' H')∧∀ x H',J.yld i H x H'→g x σ H' fun σ2 H2=>tb { D with nx:=N,ct:=N,bk:=D.nx } σ2 H2)
noncomputable def ug (fp:List Addr) (h:Heap):List (Addr × Obj):=fp.filterMap fun b=>(h.get? b).map fun o=>(b,o)
theorem j9 {fp:List Addr} {h:Heap} {b:Addr} {o:Obj} (hb:b∈fp) (e:h.get? b=some o):(b,o)∈ug fp h:=List.mem_filterMap.mpr ⟨b,hb,by rw[e];rfl⟩
theorem Jl {fp:List Addr} {h:Heap} {p:Addr × Obj} (hp:p∈ug fp h):p.1∈fp∧h.get? p.1=some p.2:=by
 obtain⟨b,hb,e⟩:=List.mem_filterMap.mp hp
 cases q:h.get? b with
 | none=>rw[q] at e;cases e
 | some o =>
  rw[q] at e
  have e':(b,o)=p:=Option.some.inj e
  subst e'
  exact⟨hb,q⟩
theorem zJ.pinned {pins:List (Addr × Obj)} {σ:St} {H:Hp} {s:Shared} {fp:List Addr} (I:zJ X pins σ H s) (hf:∀ b∈fp,yq X pins H b) (ho:∀ b∈fp,∃ o,s.heap.get? b=some o∧∀ v,o.data≠.cell v):zJ X (pins++ug fp s.heap) σ H s :=
 I.pins_of fun p hp=>(Cu.mp hp).elim (fun z=>I.pin p (Cz _ z)) fun z=>by
  obtain⟨hb,e⟩:=Jl z
  obtain⟨f0,f1,f2,_⟩:=hf p.1 hb
  obtain⟨o,e',d⟩:=ho p.1 hb
  rw[e] at e';cases e'
  exact⟨e,f0,f1,f2,d⟩
theorem zJ.unpinned {pins pl:List (Addr × Obj)} {σ:St} {H:Hp} {s:Shared} (I:zJ X (pins++pl) σ H s):zJ X pins σ H s:=I.pins_of fun p hp=>I.pin p (Cz _ (CF _ hp))
theorem Qu {iter:Expr} {body:List Stmt} {wi:TI} {g:TG} {tb:TS} {pos:Pos} (hp:PassesOwn (model X.prog X.w) X.A X.env X.xe) (hc:X.calm=true) (hi:PI X tg iter wi) (hg:PG X tg g) (hb:yW X body tb) (hs:∀ x,foldedSetIterable iter X.env x=pure x:=by intro _;rfl):PS X (.For tg iter body [] pos) (Bh wi g tb):=by
 intro pins s σ H D I h
 refine wpAny_For (q0 (hi pins s σ H _ I h) fun v s1 h1=>q0 h1 fun itv s2 h2=>?_) hs
 obtain⟨it,fp,tn,J,H2,e,I2,T,st2,f2,W,⟨m0,w0⟩,turn⟩:=h2
 subst e
 have stat:∀ {H':Hp},(∀ b∈fp,H' b=none)→∀ b∈fp,yq X pins H' b:=fun hn b hb=>⟨hn b hb,(f2 b hb).2⟩
 refine codeAny_forLoop_any (fun n s'=>∃ i σ' H',zJ X pins σ' H' s'∧tn i s'.heap∧(∀ b∈fp,H' b=none)∧W i n σ' H') ?_ m0 ⟨0,σ,H2,I2,st2,fun b hb=>(f2 b hb).1,w0⟩
 rintro n s3 ⟨i,σ3,H3,I3,st3,fr3,w3⟩
 rcases turn i n σ3 H3 w3 with ⟨stop,qn⟩ | ⟨go,N,hN,step⟩
 ·refine wpAny_passesOwn hp (q0 (T.done X rfl rfl rfl hc i pins s3 σ3 H3 X.xe I3 (stat fr3) st3 stop) fun r s4 ⟨hr,I4⟩=>?_)
  subst hr
  exact wpAny_execs_nil ⟨σ3,H3,I4,qn⟩
 ·refine wpAny_passesOwn hp (q0 (T.item X rfl rfl rfl hc i pins s3 σ3 H3 X.xe I3 (stat fr3) st3 go) fun r s4 ⟨u,hr,h4⟩=>?_)
  subst hr
  refine wpAny_passesOwn hp (q0 h4 fun _ s5 ⟨x,H5,I5,r5,y5,st5,fr5⟩=>?_)
  have I5':=I5.pinned (stat fr5) (T.obj _ _ st5)
  refine wpAny_passesOwn hp (q0 (hg _ s5 σ3 H5 x u _ I5' r5 (step x H5 y5)) fun _ s6 ⟨σ6,H6,I6,q6⟩=>?_)
  refine wpAny_passesOwn hp (q0 (hb _ s6 σ6 H6 _ I6 q6) fun f s7 q7=>?_)
  have again:∀ {σ7:St} {H7:Hp},zJ X (pins++ug fp s5.heap) σ7 H7 s7→N σ7 H7→∃ m,m<n∧∃ i σ' H',zJ X pins σ' H' s7∧tn i s7.heap∧(∀ b∈fp,H' b=none)∧W i m σ' H':=fun {σ7 H7} I7 n7=>by
   obtain⟨m',hm,w7⟩:=hN σ7 H7 n7
   refine⟨m',hm,i+1,σ7,H7,I7.unpinned,T.keep _ _ _ st5 fun b hb o e=>(I7.pin (b,o) (Cz _ (Cz _ (j9 hb e)))).1,fun b hb=>?_,w7⟩
   obtain⟨o,e,d⟩:=T.obj _ _ st5 b hb
   exact (I7.pin (b,o) (Cz _ (Cz _ (j9 hb e)))).2.1
  cases f with
  | next=>obtain⟨σ7,H7,I7,n7⟩:=q7;exact again I7 n7
  | cont=>obtain⟨σ7,H7,I7,n7⟩:=q7;exact again I7 n7
  | brk=>obtain⟨σ7,H7,I7,q7⟩:=q7;exact⟨σ7,H7,I7.unpinned,q7⟩
  | ret v=>obtain⟨x7,σ7,H7,I7,r7,q7⟩:=q7;exact⟨x7,σ7,H7,I7.unpinned,r7,q7⟩
end
theorem pS {K:BFr} {a:Addr} {xs:List V} {g:TG} {tb:TS} {D:uE} {σ:St} {H:Hp} (Pv:Nat→St→Hp→Prop) (h0:Pv 0 σ H) (hl:∀ i σ H,i≤xs.length→Pv i σ H→zZ K H a xs) (hs:∀ i x σ H,xs[i]? = some x→Pv i σ H→g x σ H fun σ2 H2=>tb { D with nx:=Pv (i+1),ct:=Pv (i+1),bk:=D.nx } σ2 H2) (hd:∀ σ H,Pv xs.length σ H→D.nx σ H) :
  ∃ W:Nat→Nat→St→Hp→Prop,(∃ m,W 0 m σ H)∧∀ i m σ H,W i m σ H →
   ((mX K a).stop i H∧D.nx σ H)∨((mX K a).go i H∧∃ N:St→Hp→Prop,(∀ σ' H',N σ' H'→∃ m',m'<m∧W (i+1) m' σ' H')∧∀ x H',(mX K a).yld i H x H'→g x σ H' fun σ2 H2=>tb { D with nx:=N,ct:=N,bk:=D.nx } σ2 H2):=by
 refine⟨fun i m σ H=>m=xs.length - i∧i≤xs.length∧Pv i σ H,⟨xs.length,by simp,Cy _,h0⟩,?_⟩
 rintro i m σ H ⟨rfl,hi,p⟩
 have q:=hl i σ H hi p
 by_cases hlt:i<xs.length
 ·refine .inr ⟨⟨xs,xs[i],q,by simp[hlt]⟩,Pv (i+1),fun σ' H' p'=>⟨xs.length - (i+1),by omega,rfl,hlt,p'⟩,fun x H' y=>?_⟩
  obtain⟨e,y⟩:=y
  subst e
  exact hs i x σ _ (y xs q) p
 ·have e:i=xs.length:=by omega
  subst e
  exact .inl ⟨⟨xs,q,cx _⟩,hd σ H p⟩
theorem Gu {lo:Int} {n:Nat} {g:TG} {tb:TS} {D:uE} {σ:St} {H:Hp} (Pv:Nat→St→Hp→Prop) (h0:Pv 0 σ H) (hs:∀ i σ H,i<n→Pv i σ H→g (.int (lo+i)) σ H fun σ2 H2=>tb { D with nx:=Pv (i+1),ct:=Pv (i+1),bk:=D.nx } σ2 H2) (hd:∀ σ H,Pv n σ H→D.nx σ H) :
  ∃ W:Nat→Nat→St→Hp→Prop,(∃ m,W 0 m σ H)∧∀ i m σ H,W i m σ H →
   ((Me lo n).stop i H∧D.nx σ H)∨((Me lo n).go i H∧∃ N:St→Hp→Prop,(∀ σ' H',N σ' H'→∃ m',m'<m∧W (i+1) m' σ' H')∧∀ x H',(Me lo n).yld i H x H'→g x σ H' fun σ2 H2=>tb { D with nx:=N,ct:=N,bk:=D.nx } σ2 H2):=by
 refine⟨fun i m σ H=>m=n - i∧i≤n∧Pv i σ H,⟨n,by simp,Cy _,h0⟩,?_⟩
 rintro i m σ H ⟨rfl,hi,p⟩
 by_cases hlt:i<n
 ·refine .inr ⟨hlt,Pv (i+1),fun σ' H' p'=>⟨n - (i+1),by omega,rfl,hlt,p'⟩,fun x H' y=>?_⟩
  obtain⟨e,y⟩:=y
  subst e y
  exact hs i σ _ hlt p
 ·have e:i=n:=by omega
  subst e
  exact .inl ⟨cx _,hd σ H p⟩
abbrev R2:=V→V→Hp→VK→Prop
noncomputable def wk (X:Cx) (f:Value→Value→Sem Value) (r:R2):Prop :=
 ∀ (pins:List (Addr × Obj)) (s:Shared) (σ:St) (H:Hp) (x y:V) (v u:Value) (Q:VK),zJ X pins σ H s→qx x v→qx y u→r x y H Q →
  wpAny (model X.prog X.w) X.A (f v u) (EP X pins σ Q) X.xe s
noncomputable def T7 (X:Cx) (f:Value→Sem Value) (r:V→Hp→VK→Prop):Prop :=
 ∀ (pins:List (Addr × Obj)) (s:Shared) (σ:St) (H:Hp) (x:V) (v:Value) (Q:VK),zJ X pins σ H s→qx x v→r x H Q →
  wpAny (model X.prog X.w) X.A (f v) (EP X pins σ Q) X.xe s
noncomputable def va (X:Cx) (f:Value) (r:List V→Hp→VK→Prop):Prop :=
 ∀ (pins:List (Addr × Obj)) (s:Shared) (σ:St) (H:Hp) (xs:List V) (us:List Value) (Q:VK),zJ X pins σ H s→qf xs us→r xs H Q →
  wpAny (model X.prog X.w) X.A (call f us) (EP X pins σ Q) X.xe s
noncomputable def jH (r:R2) (ta tb:TE):TE:=fun σ H Q=>ta σ H fun x H1=>tb σ H1 fun y H2=>r x y H2 Q
noncomputable def BZ (r:V→Hp→VK→Prop) (ta:TE):TE:=fun σ H Q=>ta σ H fun x H1=>r x H1 Q
noncomputable def rI (C:Int→Int→Prop) (g:Int→Int→V):R2:=fun x y H Q=>∃ i j,x = .int i∧y = .int j∧C i j∧Q (g i j) H
noncomputable def VD (g:Int→Int→V):R2:=fun x y H Q=>∃ i j,x = .int i∧y = .int j∧Q (g i j) H
noncomputable def rU (g:Int→V):V→Hp→VK→Prop:=fun x H Q=>∃ i,x = .int i∧Q (g i) H
section
variable {X:Cx} {a b c:Expr} {ta tb tc:TE} {pos:Pos}
theorem NJ (ha:PE X a ta) (hb:PE X b tb) {pins:List (Addr × Obj)} {s:Shared} {σ:St} {H:Hp} {R:V→V→Hp→Prop} (I:zJ X pins σ H s) (h:ta σ H fun x H1=>tb σ H1 fun y H2=>R x y H2) {Q:Value→Shared→Prop} {f:Value→Value→Sem Value}
  (hf:∀ v u s2 x y H2,zJ X pins σ H2 s2→qx x v→qx y u→R x y H2→wpAny (model X.prog X.w) X.A (f v u) Q X.xe s2) :
  wpAny (model X.prog X.w) X.A (eval a X.env) (fun v s₁=>wpAny (model X.prog X.w) X.A (eval b X.env) (fun u s₂=>wpAny (model X.prog X.w) X.A (f v u) Q X.xe s₂) X.xe s₁) X.xe s:=by
 refine q0 (ha pins s σ H _ I h) fun v s1 ⟨x,H1,I1,r1,q1⟩=>?_
 refine q0 (hb pins s1 σ H1 _ I1 q1) fun u s2 ⟨y,H2,I2,r2,q2⟩=>?_
 exact hf v u s2 x y H2 I2 r1 r2 q2
theorem zu {op:Operator} {r:R2} (ho:wk X (binaryOp op) r) (ha:PE X a ta) (hb:PE X b tb):PE X (.BinOp a op b pos) (jH r ta tb):=by
 intro pins s σ H Q I h
 exact wpAny_BinOp (NJ ha hb I h fun v u s2 x y H2 I2 rx ry q=>ho pins s2 σ H2 x y v u Q I2 rx ry q)
theorem oU {op:UnaryOp} {r:V→Hp→VK→Prop} (ho:T7 X (unaryOp op) r) (ha:PE X a ta):PE X (.UnaryOp op a pos) (BZ r ta):=by
 intro pins s σ H Q I h
 exact UnaryOp_ (q0 (ha pins s σ H _ I h) fun v s1 ⟨x,H1,I1,r1,q1⟩=>ho pins s1 σ H1 x v Q I1 r1 q1)
theorem tZ {f:Value→Value→Sem Value} {C:Int→Int→Prop} {g:Int→Int→Int}
  (rule:∀ (i j:Int) (t u:Tok) (s:Shared) (Q:Value→Shared→Prop) (E:Value→Shared→Prop),C i j→Q (.int (g i j) s.toks) { s with toks:=s.toks+1 }→wpAny (model X.prog X.w) X.A (f (.int i t) (.int j u)) Q E s) :
  wk X f (rI C fun i j=>.int (g i j)):=by
 intro pins s σ H x y v u Q I rx ry h
 obtain⟨i,j,rfl,rfl,hc,q⟩:=h
 obtain⟨t,rfl⟩:=rx
 obtain⟨t',rfl⟩:=ry
 exact rule i j t t' s _ _ hc ⟨.int (g i j),H,I.tok _,⟨_,rfl⟩,q⟩
theorem Ri {f:Value→Value→Sem Value} {g:Int→Int→Int}
  (rule:∀ (i j:Int) (t u:Tok) (s:Shared) (Q:Value→Shared→Prop) (E:Value→Shared→Prop),Q (.int (g i j) s.toks) { s with toks:=s.toks+1 }→wpAny (model X.prog X.w) X.A (f (.int i t) (.int j u)) Q E s) :
  wk X f (VD fun i j=>.int (g i j)):=by
 intro pins s σ H x y v u Q I rx ry h
 obtain⟨i,j,rfl,rfl,q⟩:=h
 obtain⟨t,rfl⟩:=rx
 obtain⟨t',rfl⟩:=ry
 exact rule i j t t' s _ _ ⟨.int (g i j),H,I.tok _,⟨_,rfl⟩,q⟩
theorem MS {f:Value→Value→Sem Value} {g:Int→Int→Bool}
  (rule:∀ (i j:Int) (t u:Tok) (s:Shared) (Q:Value→Shared→Prop) (E:Value→Shared→Prop),Q (.bool (g i j)) s→wpAny (model X.prog X.w) X.A (f (.int i t) (.int j u)) Q E s) :
  wk X f (VD fun i j=>.bl (g i j)):=by
 intro pins s σ H x y v u Q I rx ry h
 obtain⟨i,j,rfl,rfl,q⟩:=h
 obtain⟨t,rfl⟩:=rx
 obtain⟨t',rfl⟩:=ry
 exact rule i j t t' s _ _ ⟨.bl (g i j),H,I,rfl,q⟩
noncomputable def Ms (i j:Int):Prop:=0<j∧j<1073741824
noncomputable def Bo (i j:Int):Prop:=0≤j∧j≤1000000∧i.natAbs<2 ^ 64
noncomputable def lQ (i j:Int):Prop:=(-(2 ^ 64)<i∧i<2 ^ 64)∨(-(2 ^ 64)<j∧j<2 ^ 64)
theorem lQ.ok {i j:Int} (h:lQ i j):IntMulOk i j:=by
 rcases h with ⟨h1,h2⟩ | ⟨h1,h2⟩
 ·exact .of_left (intBits_le_64 h1 h2)
 ·exact .of_right (intBits_le_64 h1 h2)
theorem qA:wk X (binaryOp .Add) (VD fun i j=>.int (i+j)):=Ri fun _ _ _ _ _ _ _ q=>add_int q
theorem ON:wk X (binaryOp .Sub) (VD fun i j=>.int (i - j)):=Ri fun _ _ _ _ _ _ _ q=>sub_int q
theorem jT:wk X (binaryOp .Mult) (rI lQ fun i j=>.int (i*j)):=tZ fun _ _ _ _ _ _ _ hc q=>mul_int q hc.ok
theorem qE:wk X (binaryOp .FloorDiv) (rI Ms fun i j=>.int (i/j)):=tZ fun i j _ _ _ _ _ hc q=>by
 have h1:(0:Int)<j:=hc.1
 have h2:j<1073741824:=hc.2
 exact floordiv_int (by omega) (by rw[Int.fdiv_eq_ediv_of_nonneg i (by omega)];exact q) (.inl (PyProof.noPylong_small (by omega)))
theorem zW:wk X (binaryOp .Mod) (rI (fun _ j=>0<j) fun i j=>.int (i%j)):=tZ fun i j _ _ _ _ _ hc q=>by
 have h1:(0:Int)<j:=hc
 exact mod_int' (by omega) (by rw[Int.fmod_eq_emod_of_nonneg i (by omega)];exact q)
theorem We:wk X (binaryOp .Pow) (rI Bo fun i j=>.int (i ^ j.toNat)):=tZ fun _ _ _ _ _ _ _ hc q=>pow_int_small hc.1 hc.2.1 hc.2.2 q
theorem BW {f:Value→Sem Value} {g:Int→Int}
  (rule:∀ (i:Int) (t:Tok) (s:Shared) (Q:Value→Shared→Prop) (E:Value→Shared→Prop),Q (.int (g i) s.toks) { s with toks:=s.toks+1 }→wpAny (model X.prog X.w) X.A (f (.int i t)) Q E s) :
  T7 X f (rU fun i=>.int (g i)):=by
 intro pins s σ H x v Q I rx h
 obtain⟨i,rfl,q⟩:=h
 obtain⟨t,rfl⟩:=rx
 exact rule i t s _ _ ⟨.int (g i),H,I.tok _,⟨_,rfl⟩,q⟩
theorem WK:T7 X (unaryOp .USub) (rU fun i=>.int (-i)):=BW fun _ _ _ _ _ q=>neg_int q
end
noncomputable def RA:V→V→Bool
 | .non,.non=>true | .non,.int _=>true | .int _,.non=>true | .non,.bl _=>true | .bl _,.non=>true | .non,.str _=>true | .str _,.non=>true
 | .int _,.int _=>true | .bl _,.bl _=>true | .str _,.str _=>true | .byt _,.byt _=>true
 | .int _,.str _=>true | .str _,.int _=>true | .bl _,.str _=>true | .str _,.bl _=>true
 | _,_=>false
noncomputable def bt:R2:=fun x y H Q=>RA x y=true∧Q (.bl (decide (x=y))) H
noncomputable def cp:R2:=fun x y H Q=>RA x y=true∧Q (.bl (!decide (x=y))) H
theorem XU {i j:Int}:decide (V.int i=V.int j)=(i==j):=by
 rw[dc]
 simp
theorem pQ {i j:Bool}:decide (V.bl i=V.bl j)=(i==j):=by
 rw[dc]
 simp
theorem Xs {i j:Str}:decide (V.str i=V.str j)=(i==j):=by
 rw[dc]
 simp
theorem X8 {i j:Array UInt8}:decide (V.byt i=V.byt j)=(i.toList==j.toList):=by
 rw[dc]
 cases i
 cases j
 simp
section
variable {X:Cx} {a b c:Expr} {ta tb tc:TE} {pos:Pos}
theorem qy {pins:List (Addr × Obj)} {σ:St} {H:Hp} {s:Shared} {Q:VK} {k k':Bool} (I:zJ X pins σ H s) (q:Q (.bl k) H) (e:k=k'):EP X pins σ Q (.bool k') s:=by
 subst e
 exact⟨.bl k,H,I,rfl,q⟩
theorem qK:wk X (compareOp .Eq) bt:=by
 intro pins s σ H x y v u Q I rx ry h
 obtain⟨hs,q⟩:=h
 cases x with
 | non =>
  cases rx
  cases y with
  | non=>cases ry;exact PySem.EqNone.eq_none_none (qy I q (by simp))
  | bl j=>cases ry;exact PySem.EqNone.eq_none_bool (qy I q (by simp))
  | int j=>obtain⟨t',rfl⟩:=ry;exact PySem.EqNone.eq_none_int (qy I q (by simp))
  | str j=>obtain⟨t',rfl⟩:=ry;exact PySem.EqNone.eq_none_str (qy I q (by simp))
  | _=>exact absurd (show false=true from hs) cZ
 | bl i =>
  cases rx
  cases y with
  | non=>cases ry;exact PySem.EqNone.eq_bool_none (qy I q (by simp))
  | bl j=>cases ry;exact eq_bool (qy I q pQ)
  | str j=>obtain⟨t',rfl⟩:=ry;exact PySem.EqMixed.eq_bool_str (qy I q (by simp))
  | _=>exact absurd (show false=true from hs) cZ
 | int i =>
  obtain⟨t,rfl⟩:=rx
  cases y with
  | non=>cases ry;exact PySem.EqNone.eq_int_none (qy I q (by simp))
  | int j=>obtain⟨t',rfl⟩:=ry;exact eq_int (qy I q XU)
  | str j=>obtain⟨t',rfl⟩:=ry;exact PySem.EqMixed.eq_int_str (qy I q (by simp))
  | _=>exact absurd (show false=true from hs) cZ
 | str i =>
  obtain⟨t,rfl⟩:=rx
  cases y with
  | non=>cases ry;exact PySem.EqNone.eq_str_none (qy I q (by simp))
  | bl j=>cases ry;exact PySem.EqMixed.eq_str_bool (qy I q (by simp))
  | int j=>obtain⟨t',rfl⟩:=ry;exact PySem.EqMixed.eq_str_int (qy I q (by simp))
  | str j=>obtain⟨t',rfl⟩:=ry;exact eq_str (qy I q Xs)
  | _=>exact absurd (show false=true from hs) cZ
 | byt i =>
  obtain⟨t,rfl⟩:=rx
  cases y with
  | byt j=>obtain⟨t',rfl⟩:=ry;exact PySem.W.eq_bytes (qy I q X8)
  | _=>exact absurd (show false=true from hs) cZ
 | _=>cases y <;> exact absurd (show false=true from hs) cZ
theorem XY:wk X (compareOp .NotEq) cp:=by
 intro pins s σ H x y v u Q I rx ry h
 obtain⟨hs,q⟩:=h
 cases x with
 | non =>
  cases rx
  cases y with
  | non=>cases ry;exact PySem.EqNone.ne_none_none (qy I q (by simp))
  | bl j=>cases ry;exact PySem.EqNone.ne_none_bool (qy I q (by simp))
  | int j=>obtain⟨t',rfl⟩:=ry;exact PySem.EqNone.ne_none_int (qy I q (by simp))
  | str j=>obtain⟨t',rfl⟩:=ry;exact PySem.EqNone.ne_none_str (qy I q (by simp))
  | _=>exact absurd (show false=true from hs) cZ
 | bl i =>
  cases rx
  cases y with
  | non=>cases ry;exact PySem.EqNone.ne_bool_none (qy I q (by simp))
  | bl j=>cases ry;exact ne_bool (qy I q (congrArg not pQ))
  | str j=>obtain⟨t',rfl⟩:=ry;exact PySem.EqMixed.ne_bool_str (qy I q (by simp))
  | _=>exact absurd (show false=true from hs) cZ
 | int i =>
  obtain⟨t,rfl⟩:=rx
  cases y with
  | non=>cases ry;exact PySem.EqNone.ne_int_none (qy I q (by simp))
  | int j=>obtain⟨t',rfl⟩:=ry;exact ne_int (qy I q (congrArg not XU))
  | str j=>obtain⟨t',rfl⟩:=ry;exact PySem.EqMixed.ne_int_str (qy I q (by simp))
  | _=>exact absurd (show false=true from hs) cZ
 | str i =>
  obtain⟨t,rfl⟩:=rx
  cases y with
  | non=>cases ry;exact PySem.EqNone.ne_str_none (qy I q (by simp))
  | bl j=>cases ry;exact PySem.EqMixed.ne_str_bool (qy I q (by simp))
  | int j=>obtain⟨t',rfl⟩:=ry;exact PySem.EqMixed.ne_str_int (qy I q (by simp))
  | str j=>obtain⟨t',rfl⟩:=ry;exact ne_str (qy I q (congrArg not Xs))
  | _=>exact absurd (show false=true from hs) cZ
 | byt i =>
  obtain⟨t,rfl⟩:=rx
  cases y with
  | byt j=>obtain⟨t',rfl⟩:=ry;exact PySem.W.ne_bytes (qy I q (congrArg not X8))
  | _=>exact absurd (show false=true from hs) cZ
 | _=>cases y <;> exact absurd (show false=true from hs) cZ
theorem kP:wk X (compareOp .Lt) (VD fun i j=>.bl (decide (i<j))):=MS fun _ _ _ _ _ _ _ q=>lt_int q
theorem VG:wk X (compareOp .LtE) (VD fun i j=>.bl (decide (i≤j))):=MS fun _ _ _ _ _ _ _ q=>le_int q
theorem wq:wk X (compareOp .Gt) (VD fun i j=>.bl (decide (j<i))):=MS fun _ _ _ _ _ _ _ q=>gt_int q
theorem Zl:wk X (compareOp .In) (fun x y H Q=>∃ i j,x = .str i∧y = .str j∧Q (.bl (!(Builtin.Str.occurrences j i 0 j.length 1).isEmpty)) H):=by
 intro pins s σ H x y v u Q I rx ry h
 obtain⟨i,j,rfl,rfl,q⟩:=h
 obtain⟨t,rfl⟩:=rx
 obtain⟨t',rfl⟩:=ry
 exact in_str (qy I q rfl)
theorem mm:wk X (compareOp .IsNot) (fun x y H Q=>y = .non∧Q (.bl (!decide (x = .non))) H):=by
 intro pins s σ H x y v u Q I rx ry h
 obtain⟨rfl,q⟩:=h
 cases ry
 refine isnot_none_gen (qy I q ?_)
 cases x <;> first
  | (cases rx;rfl)
  | (obtain⟨t,rfl⟩:=rx;rfl)
theorem zI (b:Expr) {op:CmpOp} (h:op≠.In:=by decide) (h2:op≠.NotIn:=by decide):behindInMarks op b=false:=by
 have e1:(op==CmpOp.In)=false:=by cases op <;> first | rfl | exact absurd rfl h
 have e2:(op==CmpOp.NotIn)=false:=by cases op <;> first | rfl | exact absurd rfl h2
 cases b <;> simp[behindInMarks,e1,e2]
theorem qC {op:CmpOp} {r:R2} (ho:wk X (compareOp op) r) (ha:PE X a ta) (hb:PE X b tb) (hm:behindInMarks op b=false):PE X (.Compare a [op] [b] pos) (jH r ta tb):=by
 intro pins s σ H Q I h
 exact wpAny_Compare1 (NJ ha hb I h fun v u s2 x y H2 I2 rx ry q=>ho pins s2 σ H2 x y v u Q I2 rx ry q) hm
noncomputable def VI (t:TE):TT:=fun σ H Q=>t σ H fun x H'=>∃ k,x = .bl k∧Q k H'
theorem zK {op:CmpOp} {r:R2} (ho:wk X (compareOp op) r) (ha:PE X a ta) (hb:PE X b tb) (hm:behindInMarks op b=false):PT X (.Compare a [op] [b] pos) (VI (jH r ta tb)):=by
 intro pins s σ H Q I h
 refine wpAny_isTrue_Compare1 (q0 (ha pins s σ H _ I h) fun v s1 ⟨x,H1,I1,r1,q1⟩=>q0 (hb pins s1 σ H1 _ I1 q1) fun u s2 ⟨y,H2,I2,r2,q2⟩ =>
  q0 (ho pins s2 σ H2 x y v u _ I2 r1 r2 q2) fun c s3 ⟨z,H3,I3,r3,k,e,q3⟩=>?_) hm
 subst e
 cases r3
 exact wpAny_truthy_bool ⟨H3,I3,q3⟩
theorem kX:(sizeLine:Nat)<2 ^ 63:=by rw[sizeLine_eq];decide
theorem qg:wk X (binaryOp .Add) (fun x y H Q=>∃ i j,x = .str i∧y = .str j∧i.length+j.length≤sizeLine∧Q (.str (i++j)) H):=by
 intro pins s σ H x y v u Q I rx ry h
 obtain⟨i,j,rfl,rfl,hz,q⟩:=h
 obtain⟨t,rfl⟩:=rx
 obtain⟨t',rfl⟩:=ry
 exact add_str (fun t' tk=>⟨.str (i++j),H,I.tok _,⟨_,rfl⟩,q⟩) hz
theorem ux {x:V} {us:List Value} (r:qf [x] us):∃ u,us=[u]∧qx x u:=by
 cases r with
 | cons r1 r2=>cases r2;exact⟨_,rfl,r1⟩
theorem Mq {x y:V} {us:List Value} (r:qf [x,y] us):∃ u w',us=[u,w']∧qx x u∧qx y w':=by
 cases r with
 | cons r1 r2 =>
  cases r2 with
  | cons r3 r4=>cases r4;exact⟨_,_,rfl,r1,r3⟩
theorem gB (hc:X.calm=true):va X (.builtin "min") (fun xs H Q=>∃ i j,xs=[.int i,.int j]∧Q (.int (if j<i then j else i)) H):=by
 intro pins s σ H xs us Q I r h
 obtain⟨i,j,rfl,q⟩:=h
 obtain⟨u,w',rfl,⟨t,rfl⟩,⟨t',rfl⟩⟩:=Mq r
 refine min_two_ints (I.ok.hd hc) fun h' tk k=>⟨_,H,I.kept k,?_,q⟩
 by_cases hj:j<i
 ·rw[if_pos hj,if_pos hj];exact⟨_,rfl⟩
 ·rw[if_neg hj,if_neg hj];exact⟨_,rfl⟩
theorem Gp:va X (.type "int") (fun xs H Q=>(∃ i,xs=[.int i]∧Q (.int i) H)∨∃ k,xs=[.bl k]∧Q (.int (if k then 1 else 0)) H):=by
 intro pins s σ H xs us Q I r h
 rcases h with ⟨i,rfl,q⟩ | ⟨k,rfl,q⟩
 ·obtain⟨u,rfl,t,rfl⟩:=ux r
  exact call_int_int ⟨.int i,H,I,⟨_,rfl⟩,q⟩
 ·obtain⟨u,rfl,r1⟩:=ux r
  cases r1
  exact call_int_bool ⟨.int (if k then 1 else 0),H,I.tok _,⟨_,rfl⟩,q⟩
theorem qr:va X (.type "str") (fun xs H Q=>∃ i,xs=[.int i]∧i.natAbs.log2<1920∧Q (.str (toString i)) H):=by
 intro pins s σ H xs us Q I r h
 obtain⟨i,rfl,hz,q⟩:=h
 obtain⟨u,rfl,t,rfl⟩:=ux r
 exact PySem.P.str_of_int hz ⟨.str _,H,I.tok _,⟨_,rfl⟩,q⟩
end
structure xN (h:Heap) (x dx C:Addr) (mA:Str→Option Value):Prop where
 obj:h.get? x=some (PySem.W.instObj C dx)
 ns:h.Ns1 dx mA
 ne:dx≠x
theorem gM {h:Heap} {dx:Addr} {mA:Str→Option Value} (n:h.Ns1 dx mA):∃ od,h.get? dx=some od∧∀ name,PySem.W.lookIn name od=some (mA name):=by
 obtain⟨o,es,ep,ho,hd,hk,_,hm⟩:=n
 refine⟨o,ho,fun name=>?_⟩
 have e:=hm name
 unfold nsFind findBy at e
 rw[← Array.find?_toList] at e
 unfold PySem.W.lookIn
 rw[hd]
 dsimp only
 split
 ·rename_i y q
  rw[q] at e
  exact congrArg some e
 ·rename_i q
  rw[q] at e
  have a:es.toList.any (·.refKey)=false:=by
   rw[List.any_eq_false]
   intro y hy
   obtain⟨z,t,hkey⟩:=hk y (Array.mem_toList_iff.mp hy)
   simp[DictEntry.refKey,hkey]
  have a':¬ es.toList.any (·.refKey)=true:=by rw[a];exact cZ
  rw[if_neg a']
  exact congrArg some e
theorem xN.look {h:Heap} {x dx C:Addr} {mA:Str→Option Value} (I:xN h x dx C mA):∃ od,PySem.W.InstAt h x (PySem.W.instObj C dx) C (some od)∧∀ name,PySem.W.lookIn name od=some (mA name) :=
 let ⟨od,ho,hl⟩:=gM I.ns
 ⟨od,⟨I.obj,rfl,rfl,ho⟩,hl⟩
section
variable {prog:Program} {w:World} {A:Around} {E:Value→Shared→Prop} {s:Shared} {K:BFr} {x dx C f:Addr} {mA:Str→Option Value} {name:Str} {v:Value}
theorem lS {expr:Bool} {Q:Value→Shared→Prop} (X:K.In s.heap) (I:xN s.heap x dx C mA) (hg:PySem.W.plainGet K C name=true) (hh:PySem.W.hasDictIn K C=true) (ha:PySem.W.findIn K (.ref C) name=some none) (hv:mA name=some v) (hv':PySem.W.handedIn v=true) (h:Q v { s with toks:=s.toks+1 }) :
  wpAny (model prog w) A (getAttr (.ref x) name expr) Q E s:=by
 obtain⟨od,J,hl⟩:=I.look
 exact PySem.W.get_value X J (PySem.W.plainGet_of hg).1 (PySem.W.findObj_own hh ha rfl (by rw[hl,hv])) hv' h
theorem P8 {pl:Sem Bool} {Q:Value × List Value→Shared→Prop} (X:K.In s.heap) (I:xN s.heap x dx C mA) (hg:PySem.W.plainGet K C name=true) (hf:PySem.W.findIn K (.ref C) name=some (some (.ref f))) (ht:PySem.W.isFn K (.ref f)=true) (hv:mA name=none) (h:Q (.ref f,[.ref x]) s) :
  wpAny (model prog w) A (getMethod (.ref x) name pl) Q E s:=by
 obtain⟨od,J,hl⟩:=I.look
 exact PySem.W.method_fn X J (PySem.W.plainGet_of hg).1 (PySem.W.plainGet_of hg).2 hf (beq_iff_eq.mp ht) (by show (PySem.W.lookIn name od).map (·.isSome)=some false;rw[hl,hv];rfl) h
theorem ly {ns:List Str} {Q:Unit→Shared→Prop} (X:K.In s.heap) (I:xN s.heap x dx C mA) (hs:BfS K C) (hp:PySem.W.plainOver K C=true) (ht:PySem.W.takerIn K C name=some none) (hh:PySem.W.hasDictIn K C=true) (hw:PySem.Within mA ns) (hsz:ns.length≤sizeLine) (h:∀ h',xN h' x dx C (fun y=>if y=name then some v else mA y)→Heap.SameBut dx s.heap h'→Q () { s with heap:=h',toks:=s.toks+2 }) :
  wpAny (model prog w) A (setAttr (.ref x) name v) Q E s:=by
 obtain⟨od,J,hl⟩:=I.look
 refine PySem.W.set_plain X J hs (PySem.W.osa_open (s:={ s with toks:=s.toks+1 }) (r:=none) X J hp ht fun b=>?_)
 obtain⟨cd,hc,hd'⟩:=PySem.W.any_some hh
 have hx:s.heap.get? x=some ⟨.ref C,some dx,.plain,#[]⟩:=I.obj
 refine wpAny_bind (wpAny_pure (wpAny_bind (wpAny_bind (wpAny_loadPart hx (wpAny_bind (PySem.W.Looks.here (s:={ s with toks:=s.toks+1 }) (PySem.W.looks_clsIn X hc) ?_))))))
 rw[hd']
 refine wpAny_pure (a:=some dx) (wpAny_bind (wpAny_pure (wpAny_bind ?_)))
 refine wpAny_nsSet1 (s:={ s with toks:=s.toks+1 }) I.ns fun h' hn2 hs2=>?_
 obtain⟨oD,esD,epD,hoD,hdD,hcD⟩:=hn2.count (PySem.Within.cons name v hw)
 refine wpAny_bind (wpAny_lookBehind hoD (by rw[hdD];exact pastItsLine_dict (cJ hcD (by rw[Cr];omega))) ?_)
 exact wpAny_pure (h _ ⟨(hs2.2 _ (Ne.symm I.ne)).trans I.obj,hn2,I.ne⟩ hs2)
theorem OB {R:Result→Shared→Prop} {vs:List Value} {kw:List (Str × Value)} (X:K.In s.heap) (hm:PySem.W.makesIn K C=true) (hi:PySem.W.findIn K (.ref C) "__init__" = some (some (.ref f))) (hf:PySem.W.typeIn K (.ref f)=some (.type "function")) (h:codeAny (model prog w) (A.under (.builtin "type.__call__" ⟨.ref C::vs,kw⟩)) (.call (.ref f) ⟨.ref (s.heap.objs.size+1)::vs,kw⟩) (PySem.W.InitBack (s.heap.objs.size+1) R)
   { s with heap:=(s.heap.push PySem.W.emptyDict).push (PySem.W.instObj C s.heap.objs.size) }) :
  codeAny (model prog w) A (.call (.ref C) ⟨vs,kw⟩) R s:=by
 obtain⟨hh,g,d,t,os⟩:=s
 exact PySem.W.make_core (PySem.W.makes_of X hm) (PySem.W.looks_findIn X hi) (fun self=>PySem.W.bind_fn X self hf) (.inl rfl) h
end
noncomputable def jw (f:Str) (v:V):List (Str × V)→List (Str × V)
 | []=>[(f,v)]
 | (g,x)::r=>if g=f then (g,v)::r else (g,x)::jw f v r
theorem ZD (f g:Str) (v:V):∀ fs:List (Str × V),(jw f v fs).lookup g=if g=f then some v else fs.lookup g
 | []=>by
  show List.lookup g [(f,v)]=_
  by_cases h:g=f
  ·have hb:(g==f)=true:=beq_iff_eq.mpr h
   simp only[List.lookup,hb,if_pos h]
  ·have hb:(g==f)=false:=beq_eq_false_iff_ne.mpr h
   simp only[List.lookup,hb,if_neg h]
 | (k,x)::r=>by
  have ih:=ZD f g v r
  rw[show jw f v ((k,x)::r)=(if k=f then (k,v)::r else (k,x)::jw f v r) from rfl]
  by_cases hk:k=f
  ·rw[if_pos hk]
   by_cases h:g=k
   ·have hb:(g==k)=true:=beq_iff_eq.mpr h
    simp only[List.lookup,hb,if_pos (h.trans hk)]
   ·have hb:(g==k)=false:=beq_eq_false_iff_ne.mpr h
    simp only[List.lookup,hb,if_neg (fun e:g=f=>h (e.trans hk.symm))]
  ·rw[if_neg hk]
   by_cases h:g=k
   ·have hb:(g==k)=true:=beq_iff_eq.mpr h
    simp only[List.lookup,hb,if_neg (fun e:g=f=>hk (h.symm.trans e))]
   ·have hb:(g==k)=false:=beq_eq_false_iff_ne.mpr h
    simp only[List.lookup,hb]
    exact ih
theorem Zd (f:Str) (v:V):∀ fs:List (Str × V),f∈(jw f v fs).map (·.1)∧∀ g,g∈fs.map (·.1)→g∈(jw f v fs).map (·.1)
 | []=>⟨by simp[jw],fun g h=>by simp at h⟩
 | (k,x)::r=>by
  obtain⟨i1,i2⟩:=Zd f v r
  rw[show jw f v ((k,x)::r)=(if k=f then (k,v)::r else (k,x)::jw f v r) from rfl]
  by_cases hk:k=f
  ·rw[if_pos hk]
   subst hk
   exact⟨by simp,fun g h=>by simpa using h⟩
  ·rw[if_neg hk]
   refine⟨?_,fun g h=>?_⟩
   ·rw[CA]
    exact cP _ i1
   ·rw[CA] at h ⊢
    rcases cy.mp h with e | e
    ·exact cy.mpr (.inl e)
    ·exact cP _ (i2 g e)
theorem Zt (f:Str) (v:V):∀ fs:List (Str × V),(jw f v fs).length≤fs.length+1
 | []=>by simp[jw]
 | (k,x)::r=>by
  have ih:=Zt f v r
  rw[show jw f v ((k,x)::r)=(if k=f then (k,v)::r else (k,x)::jw f v r) from rfl]
  by_cases hk:k=f
  ·rw[if_pos hk,Cr,Cr];omega
  ·rw[if_neg hk,Cr,Cr];omega
theorem wg.some_of {v:V} {o:Option Value} (r:wg (some v) o):∃ u,o=some u∧qx v u:=by
 cases o with
 | none=>exact (show False from r).elim
 | some u=>exact⟨u,rfl,r⟩
theorem wg.none_of {o:Option Value} (r:wg none o):o=none:=by
 cases o with
 | none=>rfl
 | some u=>exact (show False from r).elim
theorem GT {v:V} {u:Value} (r:qx v u):PySem.W.handedIn u=true:=by
 cases v with
 | non=>cases (show u=Value.none from r);rfl
 | bl b=>cases (show u=Value.bool b from r);rfl
 | int i=>obtain⟨t,e⟩:=(show ∃ t,u=Value.int i t from r);cases e;rfl
 | str x=>obtain⟨t,e⟩:=(show ∃ t,u=Value.str x t from r);cases e;rfl
 | byt b=>obtain⟨t,e⟩:=(show ∃ t,u=Value.bytes b t from r);cases e;rfl
 | flt b=>obtain⟨t,e⟩:=(show ∃ t,u=Value.float b t from r);cases e;rfl
 | ref a=>cases (show u=Value.ref a from r);rfl
 | ty n=>cases (show u=Value.type n from r);rfl
section
variable {P:Program} {w:World} {H H':Hp} {h h':Heap} {a C dx:Addr} {fs fs':List (Str × V)}
theorem ZM (hok:wI P w H h) (e:H a=some (.ins C dx fs)):∃ mA,xN h a dx C mA∧(∀ f,wg (fs.lookup f) (mA f))∧PySem.Within mA (fs.map (·.1))∧fs.length≤1000∧H dx=some (.own a):=by
 obtain⟨d,z,ne,ob,mA,n,r,q⟩:=(show yc P w H h a (.ins C dx fs) from hok a _ e)
 exact⟨mA,⟨ob,n,ne⟩,r,q,z,d⟩
end
structure wo (K:BFr) (C:Addr):Prop where
 pg:PySem.W.plainGet K C Str.empty=true
 hd:PySem.W.hasDictIn K C=true
 po:PySem.W.plainOver K C=true
 sa:BfS K C
theorem wo.get {K:BFr} {C:Addr} (c:wo K C) (f:Str):PySem.W.plainGet K C f=true:=c.pg
noncomputable def zU (K:BFr) (C:Addr) (f:Str):Prop:=PySem.W.findIn K (.ref C) f=some none
theorem zU.taker {K:BFr} {C:Addr} {f:Str} (n:zU K C f):PySem.W.takerIn K C f=some none:=by
 unfold PySem.W.takerIn
 rw[show PySem.W.findIn K (.ref C) f=some none from n]
 rfl
structure xx (K:BFr) (C:Addr) (m:Str) (f:Addr):Prop where
 at_:PySem.W.findIn K (.ref C) m=some (some (.ref f))
 fn:PySem.W.isFn K (.ref f)=true
 kp:PySem.W.keepIn K (.ref f)=true
section
variable {X:Cx} {pins:List (Addr × Obj)} {σ:St} {H:Hp} {s:Shared} {a C dx:Addr} {fs:List (Str × V)} {f:Str} {v:V} {A:Around} {E:Value→Shared→Prop}
theorem Wq {b:Bool} {Q:Value→Shared→Prop} (I:zJ X pins σ H s) (e:H a=some (.ins C dx fs)) (c:wo X.K C) (n:zU X.K C f) (l:fs.lookup f=some v) (h:∀ u s',zJ X pins σ H s'→qx v u→Q u s'):wpAny (model X.prog X.w) A (getAttr (.ref a) f b) Q E s:=by
 obtain⟨mA,O,r,_,_,_⟩:=ZM I.hok e
 obtain⟨u,hu,ru⟩:=wg.some_of (v:=v) (o:=mA f) (by rw[← l];exact r f)
 exact lS I.kIn O (c.get f) c.hd n hu (GT ru) (h u _ (I.tok _) ru)
theorem ub {m:Str} {g:Addr} {pl:Sem Bool} {Q:Value × List Value→Shared→Prop} (I:zJ X pins σ H s) (e:H a=some (.ins C dx fs)) (c:wo X.K C) (k:xx X.K C m g) (l:fs.lookup m=none) (h:Q (.ref g,[.ref a]) s):wpAny (model X.prog X.w) A (getMethod (.ref a) m pl) Q E s:=by
 obtain⟨mA,O,r,_,_,_⟩:=ZM I.hok e
 have hn:mA m=none:=wg.none_of (by rw[← l];exact r m)
 exact P8 I.kIn O (c.get m) k.at_ k.fn hn h
theorem WM {y:V} {u:Value} {Q:Unit→Shared→Prop} (I:zJ X pins σ H s) (e:H a=some (.ins C dx fs)) (c:wo X.K C) (n:zU X.K C f) (hl:fs.length<1000) (ry:qx y u) (h:∀ s',zJ X pins σ (upd H a (.ins C dx (jw f y fs))) s'→Q () s'):wpAny (model X.prog X.w) A (setAttr (.ref a) f u) Q E s:=by
 obtain⟨mA,O,r,wi,_,ho⟩:=ZM I.hok e
 have hz:(fs.map (·.1)).length≤sizeLine:=by rw[cw,sizeLine_eq];omega
 refine ly I.kIn O c.sa c.po n.taker c.hd wi hz fun h' O' sb=>h _ ?_
 have hd:∃ o,h'.get? dx=some o:=let ⟨o,_,_,e',_⟩:=O'.ns;⟨o,e'⟩
 refine I.write (x:=a) (e:=dx) (by rw[e];exact True.intro) (.inr ho) (fun b q hb z=>(sb.2 b hb).trans z) hd ?_
 refine⟨by rw[zm O.ne];exact ho,?_,O.ne,O'.obj,_,O'.ns,fun g=>?_,fun g hg=>?_⟩
 ·have:=Zt f y fs;omega
 ·show wg ((jw f y fs).lookup g) (if g=f then some u else mA g)
  rw[ZD]
  by_cases q:g=f
  ·rw[if_pos q,if_pos q];exact ry
  ·rw[if_neg q,if_neg q];exact r g
 ·by_cases q:g=f
  ·rw[q];exact (Zd f y fs).1
  ·refine (Zd f y fs).2 g (wi g fun z=>hg ?_)
   show (if g=f then some u else mA g)=none
   rw[if_neg q];exact z
theorem zJ.made (I:zJ X pins σ H s):zJ X pins σ (upd (upd H s.heap.objs.size (.own (s.heap.objs.size+1))) (s.heap.objs.size+1) (.ins C s.heap.objs.size []))
  { s with heap:=(s.heap.push PySem.W.emptyDict).push (PySem.W.instObj C s.heap.objs.size) }:=by
 have e1:(s.heap.push PySem.W.emptyDict).get? s.heap.objs.size=some PySem.W.emptyDict:=Co s.heap rfl
 have e2:((s.heap.push PySem.W.emptyDict).push (PySem.W.instObj C s.heap.objs.size)).get? (s.heap.objs.size+1)=some (PySem.W.instObj C s.heap.objs.size):=by
  have:=Co (s.heap.push PySem.W.emptyDict) (o:=PySem.W.instObj C s.heap.objs.size) rfl
  rwa [dD] at this
 have e3:(s.heap.push PySem.W.emptyDict).Ns s.heap.objs.size (fun _=>none):=⟨PySem.W.emptyDict,#[],_,e1,rfl,(fun e he=>absurd he (by simp)),fun _=>rfl⟩
 have I1:=I.laid (a:=s.heap.objs.size) (o:=.own (s.heap.objs.size+1)) (h':=s.heap.push PySem.W.emptyDict) (t':=s.toks) (fun b u q=>Cg _ q) (cx _) ⟨_,e1⟩
 refine I1.laid (a:=s.heap.objs.size+1) (o:=.ins C s.heap.objs.size []) (t':=s.toks) (fun b u q=>Cg _ q) (Nat.le_of_eq (dD _ _)) ?_
 have ne:s.heap.objs.size≠s.heap.objs.size+1:=Cc (dF _)
 refine⟨by rw[zm ne,zj],Cy _,ne,e2,fun _=>none,(Heap.Ns1.of_empty e3).at fun o q=>Cg _ q,fun _=>True.intro,fun y hy=>absurd rfl hy⟩
theorem L4 {prog:Program} {w:World} {env:Env} {e:Expr} {f:Str} {pos:Pos} {s:Shared} {Q:Value→Shared→Prop} (hb:attributeBase e f env (eval e env)=eval e env) (h:wpAny (model prog w) A (eval e env) (fun o s₁=>wpAny (model prog w) A (getAttr o f true) Q E s₁) E s):wpAny (model prog w) A (eval (.Attribute e f pos) env) Q E s :=
 Attribute_any_ h (by rw[arm_eval_Attribute,hb])
end
noncomputable def Pu (K:BFr) (ta:TE) (f:Str):TE:=fun σ H Q=>ta σ H fun x H1=>∃ a C dx fs v,x = .ref a∧H1 a=some (.ins C dx fs)∧wo K C∧zU K C f∧fs.lookup f=some v∧Q v H1
noncomputable def bz (K:BFr) (ta tv:TE) (f:Str):TS:=fun D σ H=>tv σ H fun y H1=>ta σ H1 fun x H2=>∃ a C dx fs,x = .ref a∧H2 a=some (.ins C dx fs)∧wo K C∧zU K C f∧fs.length<1000 ∧
 D.nx σ (upd H2 a (.ins C dx (jw f y fs)))
section
variable {X:Cx} {o e value:Expr} {f:Str} {pos pos' tpos:Pos} {ta tv:TE}
theorem z5 (he:PE X e ta) (hb:attributeBase e f X.env (eval e X.env)=eval e X.env):PE X (.Attribute e f pos) (Pu X.K ta f):=by
 intro pins s σ H Q I h
 refine L4 hb (q0 (he pins s σ H _ I h) fun u s1 ⟨x,H1,I1,rx,a,C,dx,fs,v,ex,ea,c,n,l,q⟩=>?_)
 subst ex
 obtain rfl:u=Value.ref a:=rx
 exact Wq I1 ea c n l fun u' s2 I2 ru=>⟨v,H1,I2,ru,q⟩
theorem yt (ha:PE X o ta) (hv:PE X value tv) (hs:swapsWith value (some (.Attribute o f pos')) pos.line X.env=pure false):PS X (.Assign [.Attribute o f pos'] value pos) (bz X.K ta tv f):=by
 intro pins s σ H D I h
 refine plainObj_wpAny_Assign_Attribute (q0 (hv pins s σ H _ I h) fun u s1 ⟨y,H1,I1,ry,q⟩=>q0 (ha pins s1 σ H1 _ I1 q) fun ov s2 ⟨x,H2,I2,rx,a,C,dx,fs,ex,ea,c,n,l,q2⟩=>?_) hs
 subst ex
 obtain rfl:ov=Value.ref a:=rx
 exact WM I2 ea c n l ry fun s3 I3=>⟨σ,_,I3,q2⟩
theorem Mj {pl:Sem Bool} {m:Str} {apos:Pos} {args:List Expr} {pins:List (Addr × Obj)} {s:Shared} {σ:St} {H:Hp} {Q:Value→Shared→Prop} {te:TE} (he:PE X e te) (I:zJ X pins σ H s) (h:te σ H fun x H1=>∃ a C dx fs g,x = .ref a∧H1 a=some (.ins C dx fs)∧wo X.K C∧xx X.K C m g∧fs.lookup m=none ∧
   ∀ s1,zJ X pins σ H1 s1→wpAny (model X.prog X.w) X.A (callWith pos (.ref g) [.ref a] (backTo pos (starEach args X.env)) (backToKw pos (keywordEach [] X.env))) Q X.xe s1) (ht:eval (.Call (.Attribute e m apos) args [] pos) X.env=(do
   let ov ← eval e X.env
   standAt apos.atName
   let (f,first) ← holding [ov] (getMethod ov m pl)
   callWith pos f first (backTo pos (starEach args X.env)) (backToKw pos (keywordEach [] X.env)))) :
  wpAny (model X.prog X.w) X.A (eval (.Call (.Attribute e m apos) args [] pos) X.env) Q X.xe s:=by
 refine PySem.W.methodCall_KW (pl:=pl) (q0 (he pins s σ H _ I h) fun u s1 ⟨x,H1,I1,rx,a,C,dx,fs,g,ex,ea,c,k,l,q⟩=>?_) ht
 subst ex
 obtain rfl:u=Value.ref a:=rx
 exact ub I1 ea c k l (q s1 I1)
end
section
variable {X:Cx} {pins:List (Addr × Obj)} {σ:St} {H:Hp} {s:Shared} {A:Around} {E:Value→Shared→Prop} {Q:Value→Shared→Prop} {c:Value} {b:Bool}
inductive j0 (K:BFr) (H:Hp):V→Value→Prop where
 | non:j0 K H .non (.type "NoneType")
 | bl (x:Bool):j0 K H (.bl x) (.type "bool")
 | int (i:Int):j0 K H (.int i) (.type "int")
 | str (x:Str):j0 K H (.str x) (.type "str")
 | flt (x:UInt64):j0 K H (.flt x) (.type "float")
 | lst {a:Addr} {xs:List V} (e:H a=some (.lst xs)):j0 K H (.ref a) (.type "list")
 | frz {a:Addr} {o:Obj} {xs:List V} (e:H a=some (.frz o (.lst xs))):j0 K H (.ref a) (.type "list")
 | tup {a:Addr} {xs:List V} (e:H a=some (.tup xs)):j0 K H (.ref a) (.type "tuple")
 | dK {a:Addr} {kvs:List (yY × V)} (e:H a=some (.dK kvs)):j0 K H (.ref a) (.type "dict")
 | dT {a:Addr} {kvs:List (List yY × V)} (e:H a=some (.dT kvs)):j0 K H (.ref a) (.type "dict")
 | ins {a C dx:Addr} {fs:List (Str × V)} (e:H a=some (.ins C dx fs)) (cl:wo K C) (ha:BfC K C) (hn:PySem.W.specialIn K (.builtin "object.__class__") "__get__" = some (some (.builtin "getset_descriptor.__get__"))) (htk:PySem.W.takesIn K (.builtin "object.__class__")=some true) (hm:PySem.W.mroIn K C (.type "object")=some true):j0 K H (.ref a) (.ref C)
theorem GR {x:V} {u t:Value} (I:zJ X pins σ H s) (rx:qx x u) (ty:j0 X.K H x t) (e:PySem.W.kitOne X.K t c=some b) (h:∀ tk,Q (.bool b) { s with toks:=tk }) :
  wpAny (model X.prog X.w) A (call (.builtin "isinstance") [u,c]) Q E s:=by
 cases ty with
 | non=>cases (show u=Value.none from rx);exact PySem.W.kia_one PySem.W.kitx_none I.kIn True.intro e (fun z=>nomatch z) h
 | bl y=>cases (show u=Value.bool y from rx);exact PySem.W.kia_one PySem.W.kitx_bool I.kIn True.intro e (fun z=>nomatch z) h
 | int i=>obtain⟨t,q⟩:=(show ∃ t,u=Value.int i t from rx);cases q;exact PySem.W.kia_one PySem.W.kitx_int I.kIn True.intro e (fun z=>nomatch z) h
 | str y=>obtain⟨t,q⟩:=(show ∃ t,u=Value.str y t from rx);cases q;exact PySem.W.kia_one PySem.W.kitx_str I.kIn True.intro e (fun z=>nomatch z) h
 | flt y=>obtain⟨t,q⟩:=(show ∃ t,u=Value.float y t from rx);cases q;exact PySem.W.kia_one PySem.W.kitx_float I.kIn True.intro e (fun z=>nomatch z) h
 | @lst a xs ea =>
  cases (show u=Value.ref a from rx)
  obtain⟨_,_,n,_,h1⟩:=(show yc X.prog X.w H s.heap a (.lst xs) from I.hok a _ ea)
  exact PySem.W.kia_one PySem.W.kitx_list I.kIn ⟨_,h1,rfl⟩ e (fun z=>nomatch z) h
 | @frz a ob xs ea =>
  cases (show u=Value.ref a from rx)
  obtain⟨_,_,_,n,_,h1⟩:=(show yc X.prog X.w H s.heap a (.frz ob (.lst xs)) from I.hok a _ ea)
  exact PySem.W.kia_one PySem.W.kitx_list I.kIn ⟨_,h1,rfl⟩ e (fun z=>nomatch z) h
 | @tup a xs ea =>
  cases (show u=Value.ref a from rx)
  obtain⟨_,_,_,p⟩:=(show yc X.prog X.w H s.heap a (.tup xs) from I.hok a _ ea)
  obtain⟨o,h1,h2,_⟩:=p
  exact PySem.W.kia_one PySem.W.kitx_tuple I.kIn ⟨o,h1,h2⟩ e (fun z=>nomatch z) h
 | @dK a kvs ea =>
  cases (show u=Value.ref a from rx)
  obtain⟨_,_,vs,_,p⟩:=(show yc X.prog X.w H s.heap a (.dK kvs) from I.hok a _ ea)
  obtain⟨o,es,ep,h1,h2,_⟩:=p
  exact PySem.W.kia_one PySem.W.kitx_dict I.kIn ⟨o,h1,h2.1⟩ e (fun z=>nomatch z) h
 | @dT a kvs ea =>
  cases (show u=Value.ref a from rx)
  obtain⟨_,_,xs,_,o,es,ep,h1,h2,_⟩:=(show yc X.prog X.w H s.heap a (.dT kvs) from I.hok a _ ea)
  exact PySem.W.kia_one PySem.W.kitx_dict I.kIn ⟨o,h1,h2.1⟩ e (fun z=>nomatch z) h
 | @ins a C dx fs ea cl ha hn htk hm =>
  cases (show u=Value.ref a from rx)
  obtain⟨mA,O,_⟩:=ZM I.hok ea
  obtain⟨od,J,_⟩:=O.look
  exact PySem.W.kia_one (PySem.W.kitx_own (cl.get _) cl.hd ha hn htk hm) I.kIn J e (fun z=>nomatch z) h
end
structure yw (k:Nat) (A:Around):Prop where
 hd:A.handled=none
 dp:A.depth+3*k+5<recursionLimit
 un:A.units+16*k+200<cLine
theorem yw.mono {j k:Nat} {A:Around} (r:yw k A) (h:j≤k):yw j A:=⟨r.hd,by have:=r.dp;omega,by have:=r.un;omega⟩
theorem yw.deeper {k:Nat} {A:Around} (r:yw (k+1) A) (env:Env):yw k (A.deeper env) :=
 ⟨r.hd,by have:=r.dp;show A.depth+1+3*k+5<_;omega,by have:=r.un;show A.units+3+16*k+200<_;omega⟩
theorem WV {A:Around} {C:Addr} {us:List Value} {kw:List (Str × Value)}:(A.under (.builtin "type.__call__" ⟨.ref C::us,kw⟩)).depth=A.depth+1:=by
 first | rfl | simp[Around.under,Code.weight,Code.isCreation,Code.isGuard,Code.isCaller,Code.frames,Code.isFrame,guardIds]
theorem xV {A:Around} {C:Addr} {us:List Value} {kw:List (Str × Value)}:(A.under (.builtin "type.__call__" ⟨.ref C::us,kw⟩)).units=A.units+1:=by
 first | rfl | simp[Around.under,Code.cUnits,Code.frames,Code.isFrame]
theorem yw.make {k:Nat} {A:Around} (r:yw (k+1) A) (C:Addr) (us:List Value) (kw:List (Str × Value)):yw k (A.under (.builtin "type.__call__" ⟨.ref C::us,kw⟩)) :=
 ⟨r.hd,by have:=r.dp;rw[WV];omega,by have:=r.un;rw[xV];omega⟩
theorem yw.depth {k:Nat} {A:Around} (r:yw k A):A.depth<recursionLimit:=by have:=r.dp;omega
theorem yw.units {k:Nat} {A:Around} (r:yw k A):A.units+64<cLine:=by have:=r.un;omega
theorem yw.units0 {k:Nat} {A:Around} (r:yw k A):A.units<cLine:=by have:=r.un;omega
noncomputable def yd:TA:=fun _ H Q=>Q [] H
noncomputable def qi (ta:TE) (tr:TA):TA:=fun σ H Q=>ta σ H fun x H1=>tr σ H1 fun xs H2=>Q (x::xs) H2
section
variable {X:Cx} {e:Expr} {es:List Expr} {te:TE} {t:TA} {pos:Pos}
theorem zd:PA X [] yd:=fun _ _ _ _ H Q I h=>Calls.spliced_nil ⟨[],H,I,.nil,h⟩
theorem za (ha:PE X e te) (hr:PA X es t) (hs:starEach (e::es) X.env=(false,eval e X.env)::starEach es X.env:=by exact zT rfl):PA X (e::es) (qi te t):=by
 intro pos pins s σ H Q I h
 rw[hs]
 show wpAny _ _ (spliced ((false,eval e X.env)::backTo pos (starEach es X.env))) _ _ s
 refine Calls.spliced_cons (q0 (ha pins s σ H _ I h) fun u s1 ⟨x,H1,I1,r1,q1⟩=>?_)
 exact q0 (hr pos pins s1 σ H1 _ I1 q1) fun us s2 ⟨xs,H2,I2,r2,q2⟩=>⟨x::xs,H2,I2,.cons r1 r2,q2⟩
end
abbrev Sp:=List V→Hp→VK→XK→Prop
abbrev wN:=List Env→Hp→Shared→XK→Value→Shared→Prop
structure UJ (P:Program) (w:World) (K:BFr) (mg:Str→Option Value) (base:Heap) (A:Around) (outer:List Env) (s:Shared) (H:Hp):Prop where
 frames:A.frames=some outer
 mod:Mod K mg base
 bs:∀ b o,base.get? b=some o→s.heap.get? b=some o∧H b=none
 bsz:base.objs.size≤s.heap.objs.size
 funs:s.heap.FunFrames base outer
 frf:∀ b∈Gw outer,H b=none
 hok:wI P w H s.heap
 bare:AllBare s.gens
noncomputable def CE (outer:List Env) (P:Program) (w:World) (H:Hp) (s:Shared) (Q:VK) (u:Value) (s':Shared):Prop :=
 ∃ v H',s'.os=s.os∧AllBare s'.gens∧Un (Gw outer) [] H H' s.heap s'.heap∧wI P w H' s'.heap∧qx v u∧Q v H'
noncomputable def CR (CX:wN) (outer:List Env) (P:Program) (w:World) (H:Hp) (s:Shared) (Q:VK) (E:XK) (r:Result) (s':Shared):Prop :=
 match r with
 | .ok (.ret u)=>CE outer P w H s Q u s'
 | .ok _=>False
 | .error e=>CX outer H s E e s'
structure zL (P:Program) (w:World) (K:BFr) (mg:Str→Option Value) (base:Heap) (CX:wN) (k:Nat) (f:Addr) (fd:FuncData) (ps:List Str) (sp:Sp):Prop where
 len:∀ vs H Q E,sp vs H Q E→vs.length=ps.length
 run:∀ (A:Around) (outer:List Env) (s:Shared) (H:Hp) (args:Args) (us:List Value) (vs:List V) (Q:VK) (E:XK),yw k A→UJ P w K mg base A outer s H→BindsTo s fd args (ps.zip us)→qf vs us→sp vs H Q E →
  codeAny (model P w) A (.call (.ref f) args) (CR CX outer P w H s Q E) s
theorem zL.mono {P:Program} {w:World} {K:BFr} {mg:Str→Option Value} {base:Heap} {CX:wN} {j k:Nat} {f:Addr} {fd:FuncData} {ps:List Str} {sp:Sp} (F:zL P w K mg base CX j f fd ps sp) (h:j≤k) :
  zL P w K mg base CX k f fd ps sp:=⟨F.len,fun A outer s H args us vs Q E hr=>F.run A outer s H args us vs Q E (hr.mono h)⟩
theorem zL.imp {P:Program} {w:World} {K:BFr} {mg:Str→Option Value} {base:Heap} {CX:wN} {k:Nat} {f:Addr} {fd:FuncData} {ps:List Str} {sp sp':Sp} (F:zL P w K mg base CX k f fd ps sp) (h:∀ vs H Q E,sp' vs H Q E→sp vs H Q E):zL P w K mg base CX k f fd ps sp' :=
 ⟨fun vs H Q E q=>F.len vs H Q E (h _ _ _ _ q),fun A outer s H args us vs Q E hr he hb hv hs=>F.run A outer s H args us vs Q E hr he hb hv (h _ _ _ _ hs)⟩
theorem UJ.make {P:Program} {w:World} {K:BFr} {mg:Str→Option Value} {base:Heap} {A:Around} {outer:List Env} {s:Shared} {H:Hp} (e:UJ P w K mg base A outer s H) (C:Addr) (us:List Value) (kw:List (Str × Value)) :
  UJ P w K mg base (A.under (.builtin "type.__call__" ⟨.ref C::us,kw⟩)) outer s H:=⟨by first | exact e.frames | (simpa [Around.under,Code.envs,Code.isFrame,pushEnvs] using e.frames),e.mod,e.bs,e.bsz,e.funs,e.frf,e.hok,e.bare⟩
section
variable {X:Cx} {pins:List (Addr × Obj)} {σ:St} {H:Hp} {s s':Shared}
theorem zJ.env0 (I:zJ X pins σ H s):UJ X.prog X.w X.K X.mg X.base X.A X.stack s H :=
 ⟨I.ok.frames,I.ok.mod,I.bs,cJ I.ok.bsz I.sz,I.stack,I.stkFree,I.hok,I.bare⟩
theorem zJ.after {Q:VK} {u:Value} (I:zJ X pins σ H s) (h:CE X.stack X.prog X.w H s Q u s'):EP X pins σ Q u s':=by
 obtain⟨v,H',os,bare,un,hok,r,q⟩:=h
 obtain⟨hh,g,d,t,os'⟩:=s'
 obtain rfl:os'=s.os:=os
 exact⟨v,H',I.call (h':=hh) (g':=g) (d':=d) (t':=t) (ch:=[]) un hok bare (fun b z=>absurd z (by simp)),r,q⟩
end
noncomputable def m7 (sp:Sp) (dvs:List V) (E:XK) (t:TA):TE:=fun σ H Q=>t σ H fun vs H1=>sp (vs++dvs) H1 Q E
noncomputable def XJ (C:Addr) (m:Str) (sp:Sp) (dvs:List V) (E:XK) (ta:TE) (t:TA):TE:=fun σ H Q=>ta σ H fun x H1=>∃ a dx fs,x = .ref a∧H1 a=some (.ins C dx fs)∧fs.lookup m=none ∧
 t σ H1 fun vs H2=>sp (x::(vs++dvs)) H2 Q E
noncomputable def XG (C:Addr) (sp:Sp) (dvs:List V) (E:XK) (t:TA):TE:=fun σ H Q=>t σ H fun vs H1=>∀ x dx,H1 x=none→H1 dx=none→dx≠x →
 sp (.ref x::(vs++dvs)) (upd (upd H1 dx (.own x)) x (.ins C dx [])) (fun v H2=>v = .non∧Q (.ref x) H2) E
noncomputable def jV (K:BFr) (fd:FuncData) (ps:List Str) (ds:List Value):Prop :=
 ∀ (s:Shared) (us:List Value),K.In s.heap→(us++ds).length=ps.length→BindsTo s fd ⟨us,[]⟩ (ps.zip (us++ds))
theorem jV.all {K:BFr} {fd:FuncData} {ps:List Str} (h:∀ us:List Value,us.length=ps.length→bindArgs fd ⟨us,[]⟩=pure (ps.zip us)):jV K fd ps []:=fun s us _ hl=>by
 rw[Cv] at hl ⊢
 exact .of_eq (h us hl)
noncomputable def yG (CX:wN) (X:Cx) (E:XK):Prop:=∀ (pins:List (Addr × Obj)) (σ:St) (H:Hp) (s:Shared) (e:Value) (s':Shared),zJ X pins σ H s→CX X.stack H s E e s'→X.xe e s'
section
variable {X:Cx} {CX:wN} {k:Nat} {f C:Addr} {fd:FuncData} {ps:List Str} {sp:Sp} {dvs:List V} {ds:List Value} {E:XK} {x m:Str} {p pos apos:Pos} {e o:Expr} {es:List Expr} {ta:TE} {t:TA}
theorem VC {pins:List (Addr × Obj)} {σ:St} {H:Hp} {s:Shared} {Q:VK} {us:List Value} {vs:List V} (F:zL X.prog X.w X.K X.mg X.base CX k f fd ps sp) (hr:yw k X.A) (hb:jV X.K fd ps ds) (hd:qf dvs ds) (hx:yG CX X E) (I:zJ X pins σ H s) (r:qf vs us) (h:sp (vs++dvs) H Q E):wpAny (model X.prog X.w) X.A (call (.ref f) us) (EP X pins σ Q) X.xe s:=by
 have r2:qf (vs++dvs) (us++ds):=r.append hd
 have hl:(us++ds).length=ps.length:=by rw[← r2.length];exact F.len _ _ _ _ h
 refine wpAny_call (codeAny_mono (F.run X.A X.stack s H ⟨us,[]⟩ (us++ds) (vs++dvs) Q E hr I.env0 (hb s us I.kIn hl) r2 h) fun r s' hq=>?_)
 cases r with
 | error e=>exact hx pins σ H s e s' I hq
 | ok fl =>
  cases fl with
  | ret u=>exact I.after hq
  | next=>exact False.elim hq
  | brk=>exact False.elim hq
  | cont=>exact False.elim hq
theorem lC (F:zL X.prog X.w X.K X.mg X.base CX k f fd ps sp) (hr:yw k X.A) (hg:Gl X x) (hm:X.mg x=some (.ref f)) (hk:PySem.W.keepIn X.K (.ref f)=true) (hb:jV X.K fd ps ds) (hd:qf dvs ds) (hx:yG CX X E) (ha:PA X (e::es) t) (hdb:(x==("__debug__":Str))=false:=by decide) (he:starEach (e::es) X.env=(false,eval e X.env)::starEach es X.env:=by exact zT rfl) (hpl:(backTo pos (starEach es X.env)).any (·.1)=false:=by exact yn rfl) :
  PE X (.Call (.Name x p) (e::es) [] pos) (m7 sp dvs E t):=by
 intro pins s σ H Q I h
 refine wpAny_Call_Name_kw (jG I hg hm ?_ hdb)
 refine PySem.W.callWith_K (h₀:=X.base) I.ok.mod.kin hk (q0 (ha pos pins s σ H _ I h) fun us s1 ⟨vs,H1,I1,r,q⟩=>⟨I1.kIn,?_⟩) he hpl
 exact VC F hr hb hd hx I1 r q
theorem lu {pl:Sem Bool} (he:PE X o ta) (c:wo X.K C) (hm:xx X.K C m f) (F:zL X.prog X.w X.K X.mg X.base CX k f fd ps sp) (hr:yw k X.A) (hb:jV X.K fd ps ds) (hd:qf dvs ds) (hx:yG CX X E) (ha:PA X (e::es) t) (hst:starEach (e::es) X.env=(false,eval e X.env)::starEach es X.env:=by exact zT rfl) (hpl:(backTo pos (starEach es X.env)).any (·.1)=false:=by exact yn rfl) (ht:eval (.Call (.Attribute o m apos) (e::es) [] pos) X.env=(do
   let ov ← eval o X.env
   standAt apos.atName
   let (f,first) ← holding [ov] (getMethod ov m pl)
   callWith pos f first (backTo pos (starEach (e::es) X.env)) (backToKw pos (keywordEach [] X.env))):=by rfl) :
  PE X (.Call (.Attribute o m apos) (e::es) [] pos) (XJ C m sp dvs E ta t):=by
 intro pins s σ H Q I h
 refine PySem.W.methodCall_KW (pl:=pl) (q0 (he pins s σ H _ I h) fun u s1 ⟨x,H1,I1,rx,a,dx,fs,ex,ea,l,q⟩=>?_) ht
 subst ex
 obtain rfl:u=Value.ref a:=rx
 refine ub I1 ea c hm l ?_
 refine PySem.W.callWith_K (first:=[.ref a]) (h₀:=X.base) I.ok.mod.kin hm.kp (q0 (ha pos pins s1 σ H1 _ I1 q) fun us s2 ⟨vs,H2,I2,r,q2⟩=>⟨I2.kIn,?_⟩) hst hpl
 exact VC (us:=.ref a::us) (vs:=.ref a::vs) F hr hb hd hx I2 (.cons rfl r) q2
theorem pj {pl:Sem Bool} (he:PE X o ta) (c:wo X.K C) (hm:xx X.K C m f) (F:zL X.prog X.w X.K X.mg X.base CX k f fd ps sp) (hr:yw k X.A) (hb:jV X.K fd ps ds) (hd:qf dvs ds) (hx:yG CX X E) (ht:eval (.Call (.Attribute o m apos) [] [] pos) X.env=(do
   let ov ← eval o X.env
   standAt apos.atName
   let (f,first) ← holding [ov] (getMethod ov m pl)
   callWith pos f first (backTo pos (starEach [] X.env)) (backToKw pos (keywordEach [] X.env))):=by rfl) :
  PE X (.Call (.Attribute o m apos) [] [] pos) (XJ C m sp dvs E ta yd):=by
 intro pins s σ H Q I h
 refine PySem.W.methodCall_KW (pl:=pl) (q0 (he pins s σ H _ I h) fun u s1 ⟨x,H1,I1,rx,a,dx,fs,ex,ea,l,q⟩=>?_) ht
 subst ex
 obtain rfl:u=Value.ref a:=rx
 refine ub I1 ea c hm l ?_
 exact PySem.W.callWith_K0 (first:=[.ref a]) I1.kIn hm.kp (VC (us:=[.ref a]) (vs:=[.ref a]) F hr hb hd hx I1 (.cons rfl .nil) q)
structure Mk (K:BFr) (C f:Addr):Prop where
 makes:PySem.W.makesIn K C=true
 init:PySem.W.findIn K (.ref C) "__init__" = some (some (.ref f))
 fn:PySem.W.isFn K (.ref f)=true
 kp:PySem.W.keepIn K (.ref C)=true
theorem Uc {pins:List (Addr × Obj)} {σ:St} {H:Hp} {s:Shared} {Q:VK} {us:List Value} {vs:List V} (M:Mk X.K C f) (F:zL X.prog X.w X.K X.mg X.base CX k f fd ps sp) (hr:yw (k+1) X.A) (hb:jV X.K fd ps ds) (hd:qf dvs ds) (hx:yG CX X E) (I:zJ X pins σ H s) (r:qf vs us) (h:∀ x dx,H x=none→H dx=none→dx≠x→sp (.ref x::(vs++dvs)) (upd (upd H dx (.own x)) x (.ins C dx [])) (fun v H2=>v = .non∧Q (.ref x) H2) E) :
  wpAny (model X.prog X.w) X.A (call (.ref C) us) (EP X pins σ Q) X.xe s:=by
 have hq:=h (s.heap.objs.size+1) s.heap.objs.size (I.hok.fresh (Nat.le_succ _)) (I.hok.fresh (cx _)) (Cc (dF _))
 have I2:=zJ.made (C:=C) I
 have r2:qf (V.ref (s.heap.objs.size+1)::(vs++dvs)) (Value.ref (s.heap.objs.size+1)::(us++ds)):=.cons rfl (r.append hd)
 have hl:(Value.ref (s.heap.objs.size+1)::us++ds).length=ps.length:=by
  have e:=r2.length
  rw[F.len _ _ _ _ hq] at e
  exact e.symm
 refine wpAny_call (OB (f:=f) I.kIn M.makes M.init (beq_iff_eq.mp M.fn) (codeAny_mono (F.run _ X.stack _ _ ⟨Value.ref (s.heap.objs.size+1)::us,[]⟩ (Value.ref (s.heap.objs.size+1)::(us++ds)) _ _ E (hr.make C us [])
  (I2.env0.make C us []) (hb _ (Value.ref (s.heap.objs.size+1)::us) I2.kIn hl) r2 hq) fun r s' hq'=>?_))
 cases r with
 | error e=>exact hx pins σ _ _ e s' I2 hq'
 | ok fl =>
  cases fl with
  | ret u =>
   obtain⟨v,H',I3,rv,ev,q3⟩:=I2.after hq'
   subst ev
   exact⟨rv,⟨V.ref (s.heap.objs.size+1),H',I3,rfl,q3⟩⟩
  | next=>exact False.elim hq'
  | brk=>exact False.elim hq'
  | cont=>exact False.elim hq'
theorem mW (M:Mk X.K C f) (F:zL X.prog X.w X.K X.mg X.base CX k f fd ps sp) (hr:yw (k+1) X.A) (hg:Gl X x) (hm:X.mg x=some (.ref C)) (hb:jV X.K fd ps ds) (hd:qf dvs ds) (hx:yG CX X E) (ha:PA X (e::es) t) (hdb:(x==("__debug__":Str))=false:=by decide) (he:starEach (e::es) X.env=(false,eval e X.env)::starEach es X.env:=by exact zT rfl) (hpl:(backTo pos (starEach es X.env)).any (·.1)=false:=by exact yn rfl) :
  PE X (.Call (.Name x p) (e::es) [] pos) (XG C sp dvs E t):=by
 intro pins s σ H Q I h
 refine wpAny_Call_Name_kw (jG I hg hm ?_ hdb)
 refine PySem.W.callWith_K (h₀:=X.base) I.ok.mod.kin M.kp (q0 (ha pos pins s σ H _ I h) fun us s1 ⟨vs,H1,I1,r,q⟩=>⟨I1.kIn,?_⟩) he hpl
 exact Uc M F hr hb hd hx I1 r q
theorem Pb (M:Mk X.K C f) (F:zL X.prog X.w X.K X.mg X.base CX k f fd ps sp) (hr:yw (k+1) X.A) (hg:Gl X x) (hm:X.mg x=some (.ref C)) (hb:jV X.K fd ps ds) (hd:qf dvs ds) (hx:yG CX X E) (hdb:(x==("__debug__":Str))=false:=by decide):PE X (.Call (.Name x p) [] [] pos) (XG C sp dvs E yd):=by
 intro pins s σ H Q I h
 refine wpAny_Call_Name_kw (jG I hg hm ?_ hdb)
 exact PySem.W.callWith_K0 I.kIn M.kp (Uc (us:=[]) M F hr hb hd hx I .nil h)
end
noncomputable def PK (X:Cx) (kws:List Keyword) (t:TA):Prop :=
 ∀ (pos:Pos) (pins:List (Addr × Obj)) (s:Shared) (σ:St) (H:Hp) (Q:List V→Hp→Prop),zJ X pins σ H s→t σ H Q→wpAny (model X.prog X.w) X.A (evalAll ((backToKw pos (keywordEach kws X.env)).map (·.2))) (AP X pins σ Q) X.xe s
section
variable {X:Cx} {CX:wN} {k:Nat} {f C:Addr} {fd:FuncData} {ps ks:List Str} {sp:Sp} {E:XK} {x m:Str} {p pos apos kpos:Pos} {e o:Expr} {es:List Expr} {kws:List Keyword} {te ta:TE} {t tk:TA} {nm:Option Str}
variable {g:List Value→List Value→List Value} {gV:List V→List V→List V}
end
structure uW (N P:List Str) (sc:Scope):Prop where
 kind:sc.kind = .function
 co:sc.isCoroutine=false
 gen:sc.isGenerator=false
 nd:N.Nodup
 pre:N.take P.length=P
 par:∀ x∈P,sc.names.lookup x=some .local∨sc.names.lookup x=some .cell
 nofree:∀ y∈sc.names,y.2≠.free
theorem YW {kindOf:Str→Option NameKind} {x:Str}:∀ {binds:List (Str × Value)} {m:Str→Option Value},(∀ v,(x,v)∉binds)→bindL kindOf binds m x=m x
 | [],_,_=>rfl
 | (n,v)::r,m,h=>by
  unfold bindL
  rw[YW fun w hw=>h w (cP _ hw)]
  split
  ·have:x≠n:=by rintro rfl;exact h v cX
   simp[this]
  ·rfl
theorem Ja {kindOf:Str→Option NameKind} {x:Str}:∀ {binds:List (Str × Value)} {m:Str→Option Value},(∀ v,(x,v)∉binds)→bindC kindOf binds m x=m x
 | [],_,_=>rfl
 | (n,v)::r,m,h=>by
  unfold bindC
  rw[Ja fun w hw=>h w (cP _ hw)]
  split
  ·rfl
  ·have:x≠n:=by rintro rfl;exact h v cX
   simp[this]
theorem YS {kindOf:Str→Option NameKind} {x:Str} {v:Value}:∀ {P:List Str} {vs:List Value} {i:Nat} {m:Str→Option Value},P.Nodup→P[i]? = some x→vs[i]? = some v→kindOf x=some .local →
  bindL kindOf (P.zip vs) m x=some v
 | [],_,_,_,_,h,_,_=>by simp at h
 | _::_,[],_,_,_,_,h,_=>by simp at h
 | p::P,w::vs,0,m,nd,h1,h2,hk=>by
  simp at h1 h2;subst h1;subst h2
  show bindL kindOf ((p,w)::P.zip vs) m p=_
  unfold bindL
  rw[YW fun v hv=>(CI.mp nd).1 (d4 hv).1,if_pos hk]
  simp
 | p::P,w::vs,i+1,m,nd,h1,h2,hk=>by
  show bindL kindOf ((p,w)::P.zip vs) m x=_
  unfold bindL
  exact YS (i:=i) (CI.mp nd).2 (by simpa using h1) (by simpa using h2) hk
theorem Jt {kindOf:Str→Option NameKind} {x:Str} {v:Value}:∀ {P:List Str} {vs:List Value} {i:Nat} {m:Str→Option Value},P.Nodup→P[i]? = some x→vs[i]? = some v→kindOf x≠some .local →
  bindC kindOf (P.zip vs) m x=some v
 | [],_,_,_,_,h,_,_=>by simp at h
 | _::_,[],_,_,_,_,h,_=>by simp at h
 | p::P,w::vs,0,m,nd,h1,h2,hk=>by
  simp at h1 h2;subst h1;subst h2
  show bindC kindOf ((p,w)::P.zip vs) m p=_
  unfold bindC
  rw[Ja fun v hv=>(CI.mp nd).1 (d4 hv).1,if_neg hk]
  simp
 | p::P,w::vs,i+1,m,nd,h1,h2,hk=>by
  show bindC kindOf ((p,w)::P.zip vs) m x=_
  unfold bindC
  exact Jt (i:=i) (CI.mp nd).2 (by simpa using h1) (by simpa using h2) hk
noncomputable def vP (N:List Str) (vs:List V):St:=vs.map some++List.replicate (N.length - vs.length) none
noncomputable def wG (CX:wN) (P:Program) (w:World) (K:BFr) (mg:Str→Option Value) (base:Heap) (N:List Str) (qual:Str) (scope:Scope) (f:Addr) (cd:Value) (A:Around) (outer:List Env) (s:Shared) (H:Hp) (E:XK):Cx where
 prog:=P
 w:=w
 K:=K
 mg:=mg
 base:=base
 A:=A.deeper (envOfC qual scope s.heap.objs.size f cd)
 N:=N
 s₀:=s
 H₀:=H
 env:=envOfC qual scope s.heap.objs.size f cd
 outer:=outer
 stack:=envOfC qual scope s.heap.objs.size f cd::outer
 ex:=[]
 calm:=true
 fn:=fun _=>true
 pn:=[]
 xe:=fun e s'=>wpAny (model P w) (A.deeper (envOfC qual scope s.heap.objs.size f cd)) (leaving (envOfC qual scope s.heap.objs.size f cd) e) (fun _ s''=>CX outer H s E e s'') (fun e' s''=>CX outer H s E e' s'') s'
theorem VU {sc:Scope} {n:Nat} {x:Str} (h:sc.names.lookup x=some .cell):∃ c,(cellsFrom n sc.names []).lookup x=some c:=by
 have q:=PySem.W.cellsFrom_some sc.names n [] (.inl h)
 exact C5.mp q
theorem YO {CX:wN} {P:Program} {w:World} {K:BFr} {mg:Str→Option Value} {base:Heap} {N ps:List Str} {qual:Str} {scope:Scope} {f:Addr} {cd:Value} {A:Around} {outer:List Env} {s s1:Shared} {H:Hp} {E:XK} {us:List Value} {vs:List V}
  (S:uW N ps scope) (hd:A.handled=none) (e0:UJ P w K mg base A outer s H) (hl:vs.length=ps.length) (r:qf vs us) (x:InCallC s s.heap.objs.size (bindL (envOfC qual scope s.heap.objs.size f cd).kindOf (ps.zip us) fun _=>none) (cellsFrom (s.heap.objs.size+1) scope.names []) (bindC (envOfC qual scope s.heap.objs.size f cd).kindOf (ps.zip us) fun _=>none) s1) :
  zJ (wG CX P w K mg base N qual scope f cd A outer s H E) [] (vP N vs) H s1:=by
 have hpl:ps.length≤N.length:=by have:=congrArg List.length S.pre;rw[Ci] at this;omega
 obtain⟨h1,tk,rfl,hk⟩:=x.done
 have noA:∀ b:Addr,b∉(wG CX P w K mg base N qual scope f cd A outer s H E).ex:=fun b z=>absurd (show b∈([]:List Addr) from z) (by simp)
 refine⟨⟨e0.mod,S.kind,rfl,rfl,cx _,fun y z c h1 h2=>?_,fun y hy=>?_,fun y c _ h=>?_,fun _=>hd,Around.frames_deeper e0.frames,.inr ⟨rfl,rfl⟩,fun b z=>absurd z (noA b),e0.bs,e0.bsz,fun b _ _=>noA b,fun b z=>absurd z (noA b),e0.funs,e0.frf⟩,
  rfl,e0.bare,Un.kept hk,⟨_,x.toInCall.ns,fun i y v h1 h2 h3=>?_⟩,fun y c h=>⟨_,x.cell y c h⟩,e0.hok.fresh (cx _),fun y c h=>?_,fun p hp=>absurd (show p∈([]:List (Addr × Obj)) from hp) (by simp),e0.hok.kept hk,?_⟩
 ·exact name_of_addr x.apart (PySem.mem_of_lookup h1) (PySem.mem_of_lookup h2)
 ·have hy:scope.names.lookup y=some .cell∨scope.names.lookup y=some .free:=hy
  rcases hy with hy | hy
  ·exact VU hy
  ·exact absurd rfl (S.nofree _ (PySem.mem_of_lookup hy))
 ·exact dX (x.above y c (PySem.mem_of_lookup h))
 ·have hi:i<vs.length:=by
   unfold vP at h2
   by_cases hi:i<vs.length
   ·exact hi
   ·rw[CH (by simpa using hi)] at h2
    rw[List.getElem?_replicate] at h2
    split at h2 <;> cases h2
  have ha:vs[i]? = some v:=by
   unfold vP at h2
   rw[CY (by simpa using hi),cQ] at h2
   cases e:vs[i]? with
   | none=>rw[e] at h2;cases h2
   | some a=>rw[e] at h2;cases h2;rfl
  obtain⟨u,hu,rv⟩:=r.get ha
  have hp:ps[i]? = some y:=by
   rw[← S.pre,DB (by omega)];exact h1
  have ndP:ps.Nodup:=by rw[← S.pre];exact S.nd.sublist (Dr _ _)
  refine⟨u,rv,?_⟩
  rcases S.par y (CC hp) with k | k
  ·exact .inl ⟨k,YS ndP hp hu k⟩
  ·obtain⟨c,e⟩:=VU (n:=s.heap.objs.size+1) k
   refine .inr ⟨.inl k,c,e,?_⟩
   have q:=x.cell y c e
   rw[Jt ndP hp hu (by show scope.names.lookup y≠_;rw[k];decide)] at q
   exact q
 ·exact e0.hok.fresh (dX (x.above y c (PySem.mem_of_lookup h)))
 ·unfold vP
  show _=N.length
  rw[cG,cw,List.length_replicate]
  omega
theorem pO {CX:wN} {P:Program} {w:World} {K:BFr} {mg:Str→Option Value} {base:Heap} {k:Nat} {f:Addr} {name qual:Str} {params:Arguments} {body:List Stmt} {scope:Scope} {dV kV doc pm cdv ct oc:Value} {an od:Option Addr}
  {osl:Array (Option Value)} {N ps:List Str} {sp:Sp} (lk:K.lookup f=some ⟨oc,od,.func (PySem.W.fnOf name qual params body scope dV kV doc pm an cdv ct),osl⟩) (hcd:PySem.W.codeIn K cdv qual=true) (S:uW N ps scope) (len:∀ vs H Q E,sp vs H Q E→vs.length=ps.length) (hbody:∀ (A:Around) (outer:List Env) (s:Shared) (H:Hp) (vs:List V) (Q:VK) (E:XK),yw k (A.deeper (envOfC qual scope s.heap.objs.size f cdv))→sp vs H Q E →
   ∃ t,yW (wG CX P w K mg base N qual scope f cdv A outer s H E) body t∧t { nx:=fun _ H'=>Q .non H',rt:=Q } (vP N vs) H) :
  zL P w K mg base CX (k+1) f (PySem.W.fnOf name qual params body scope dV kV doc pm an cdv ct) ps sp:=by
 refine⟨len,fun A outer s H args us vs Q E hr e0 hb r hsp=>?_⟩
 have hl:=len _ _ _ _ hsp
 have KX:K.In s.heap:=e0.mod.kin.keeps fun b o e=>(e0.bs b o e).1
 have lim:s.heap.NoLimit:=e0.mod.nolimit.keeps fun b o e=>(e0.bs b o e).1
 have hkind:∀ y∈ps.zip us,scope.names.lookup y.1=some .local∨(scope.names.lookup y.1=some .cell∧((cellsFrom (s.heap.objs.size+1) scope.names []).lookup y.1).isSome=true):=fun⟨n,v⟩ hy=>by
  rcases S.par n (d4 hy).1 with q | q
  ·exact .inl q
  ·exact .inr ⟨q,PySem.W.cellsFrom_some _ _ _ (.inl q)⟩
 refine codeAny_call_function hr.depth (KX _ _ lk) rfl S.co S.gen rfl (PySem.W.codeRec_of KX hcd) (hb _ _ _ _ ?_)
 refine wpAny_newFunctionEnv_cells S.kind hkind fun env he s1 x=>?_
 subst he
 refine⟨lim.keeps x.toInCall.keep,codeAny_func ?_⟩
 obtain⟨t,ht,hq⟩:=hbody A outer s H vs Q E (hr.deeper _) hsp
 have I:zJ (wG CX P w K mg base N qual scope f cdv A outer s H E) [] (vP N vs) H s1:=YO S hr.hd e0 hl r x
 refine wpAny_mono (ht [] s1 (vP N vs) H _ I hq) (fun fl s' hs=>?_) fun e s' hs=>hs
 have fin:∀ {σ':St} {H':Hp} {v:V} {u:Value},zJ (wG CX P w K mg base N qual scope f cdv A outer s H E) [] σ' H' s'→qx v u→Q v H'→CE outer P w H s Q u s' :=
  fun {σ' H' v u} J rv q=>⟨v,H',J.os,J.bare,J.base,J.hok,rv,q⟩
 cases fl with
 | ret u =>
  obtain⟨v,σ',H',J,rv,q⟩:=hs
  exact fin J rv q
 | next =>
  obtain⟨σ',H',J,q⟩:=hs
  exact fin (v:=V.non) (u:=Value.none) J rfl q
 | brk =>
  obtain⟨_,_,_,q⟩:=hs
  exact False.elim q
 | cont =>
  obtain⟨_,_,_,q⟩:=hs
  exact False.elim q
section
variable {X:Cx} {x:Str} {p pos:Pos} {e:Expr} {es:List Expr} {t:TA} {id T:String} {r:List V→Hp→VK→Prop}
noncomputable def N8 (r:List V→Hp→VK→Prop) (t:TA):TE:=fun σ H Q=>t σ H fun vs H1=>r vs H1 Q
theorem zy (hc:va X (.builtin id) r) (hg:Gl X x) (hm:X.mg x=none) (hv:bootBuiltins x=some (.builtin id)) (ha:PA X (e::es) t) (hn:x≠"__name__":=by decide) (hdb:(x==("__debug__":Str))=false:=by decide) (he:starEach (e::es) X.env=(false,eval e X.env)::starEach es X.env:=by exact zT rfl) (hpl:(backTo pos (starEach es X.env)).any (·.1)=false:=by exact yn rfl):PE X (.Call (.Name x p) (e::es) [] pos) (N8 r t):=by
 intro pins s σ H Q I h
 refine wpAny_Call_Name_kw (wD I hg hm hv ?_ hn hdb)
 exact PyProof.Rows.callWith_builtin1 (q0 (ha pos pins s σ H _ I h) fun us s1 ⟨vs,H1,I1,r1,q1⟩=>hc pins s1 σ H1 vs us Q I1 r1 q1) he hpl
theorem qk (hc:va X (.type T) r) (hg:Gl X x) (hm:X.mg x=none) (hv:bootBuiltins x=some (.type T)) (ha:PA X (e::es) t) (hn:x≠"__name__":=by decide) (hdb:(x==("__debug__":Str))=false:=by decide) (he:starEach (e::es) X.env=(false,eval e X.env)::starEach es X.env:=by exact zT rfl) (hpl:(backTo pos (starEach es X.env)).any (·.1)=false:=by exact yn rfl):PE X (.Call (.Name x p) (e::es) [] pos) (N8 r t):=by
 intro pins s σ H Q I h
 refine wpAny_Call_Name_kw (wD I hg hm hv ?_ hn hdb)
 exact PyProof.Rows.callWith_type1 (q0 (ha pos pins s σ H _ I h) fun us s1 ⟨vs,H1,I1,r1,q1⟩=>hc pins s1 σ H1 vs us Q I1 r1 q1) he hpl
end
end L2
namespace HT
open PySem PyProof.Rows
section
open PySem.SeqAt
open PySem.AutoSeq1 (wpAny_loadPart')
open PySem.MeetsSeq PySem.MeetsSeq2 PySem.MeetsSeq3
end
section
variable {prog:Program} {w:World} {A:Around} {E:Value→Shared→Prop} {s:Shared}
noncomputable def Zx (n d:Nat):Option Int→Nat
 | none=>d
 | some v=>if v<0 then (v+(n:Int)).toNat else min v.toNat n
theorem kg (n d:Nat):Zx n d none=d:=rfl
theorem vH (n d k:Nat):Zx n d (some (k:Int))=min k n:=by
 show (if (k:Int)<0 then ((k:Int)+(n:Int)).toNat else min (k:Int).toNat n)=min k n
 rw[if_neg (by omega),CG]
theorem nQ (n d:Nat) (hd:d≤n) (o:Option Int):Zx n d o≤n:=by
 cases o with
 | none=>exact hd
 | some v =>
  show (if v<0 then (v+(n:Int)).toNat else min v.toNat n)≤n
  by_cases hv:v<0
  ·rw[if_pos hv];omega
  ·rw[if_neg hv];exact Nat.min_le_right _ _
end
end HT
namespace L2
open PySem PySem.Spec PyProof.Rows
abbrev TO:=St→Hp→(Option Int→Hp→Prop)→Prop
noncomputable def PO (X:Cx) (e:Option Expr) (t:TO):Prop :=
 ∀ (pins:List (Addr × Obj)) (s:Shared) (σ:St) (H:Hp) (Q:Option Int→Hp→Prop),zJ X pins σ H s→t σ H Q →
  wpAny (model X.prog X.w) X.A (evalPart e X.env) (fun u s'=>∃ o H',zJ X pins σ H' s'∧IsPart u o∧Q o H') X.xe s
noncomputable def kK:TO:=fun _ H Q=>Q none H
noncomputable def Qn (t:TE):TO:=fun σ H Q=>t σ H fun x H1=>∃ i,x = .int i∧Q (some i) H1
section
variable {X:Cx} {e:Expr} {te:TE} {lo hi:Option Expr} {tl th:TO} {pos p2:Pos}
theorem jc:PO X none kK:=by
 intro pins s σ H Q I h
 rw[evalPart_none]
 exact wpAny_pure ⟨none,H,I,.none,h⟩
theorem ym (h:PE X e te):PO X (some e) (Qn te):=by
 intro pins s σ H Q I hw
 rw[evalPart_some]
 refine q0 (h pins s σ H _ I hw) fun u s1 ⟨x,H1,I1,r1,q1⟩=>?_
 obtain⟨i,rfl,q⟩:=q1
 obtain⟨t,rfl⟩:=r1
 exact⟨some i,H1,I1,.int i t,q⟩
noncomputable def To (X:Cx) (r:V→Option Int→Option Int→Hp→VK→Prop):Prop :=
 ∀ (pins:List (Addr × Obj)) (s:Shared) (σ:St) (H:Hp) (x:V) (v vl vu:Value) (lo hi:Option Int) (sl:Addr) (Q:VK),zJ X pins σ H s→qx x v→s.heap.IsSliceOf sl vl vu .none→IsPart vl lo→IsPart vu hi→r x lo hi H Q →
  ∃ T id,typeLookup (.type T) "__getitem__" = pure (some (.builtin id))∧s.TypeIs v T∧wpAny (model X.prog X.w) X.A (getItem v (.ref sl)) (EP X pins σ Q) X.xe s
noncomputable def N9 (r:V→Option Int→Option Int→Hp→VK→Prop) (te:TE) (tl th:TO):TE:=fun σ H Q=>te σ H fun x H1=>tl σ H1 fun l H2=>th σ H2 fun u H3=>r x l u H3 Q
theorem yi {r:V→Option Int→Option Int→Hp→VK→Prop} (hr:To X r) (he:PE X e te) (hl:PO X lo tl) (hu:PO X hi th):PE X (.Subscript e (.Slice lo hi none p2) pos) (N9 r te tl th):=by
 intro pins s σ H Q I h
 refine Subscript_ (q0 (he pins s σ H _ I h) fun v s1 ⟨x,H1,I1,r1,q1⟩=>?_)
 refine wpAny_Slice (q0 (hl pins s1 σ H1 _ I1 q1) fun vl s2 ⟨l,H2,I2,pl,q2⟩=>q0 (hu pins s2 σ H2 _ I2 q2) fun vu s3 ⟨u,H3,I3,pu,q3⟩=>?_)
 rw[evalPart_none]
 refine wpAny_pure ?_
 have I4:zJ X pins σ H3 { s3 with heap:=s3.heap.push { cls:=.type "slice",data:=.fields #[vl,vu,.none] } }:=I3.kept (t':=s3.toks) fun b ob q=>Cg _ q
 obtain⟨T,id,hT,ht,hg⟩:=hr pins { s3 with heap:=s3.heap.push { cls:=.type "slice",data:=.fields #[vl,vu,.none] } } σ H3 x v vl vu l u s3.heap.objs.size Q I4 r1 (Heap.IsSliceOf.new ..) pl pu q3
 show wpAny (model X.prog X.w) X.A (subscriptTail e (.Slice lo hi none p2) v (.ref s3.heap.objs.size)) (EP X pins σ Q) X.xe { s3 with heap:=s3.heap.push { cls:=.type "slice",data:=.fields #[vl,vu,.none] } }
 exact tail_any (ops:=[.ref s3.heap.objs.size,v]) ht hT hg (by with_unfolding_all rfl)
noncomputable def qp (xs:List V) (lo hi:Option Int):List V:=(xs.drop (HT.Zx xs.length 0 lo)).take (HT.Zx xs.length xs.length hi - HT.Zx xs.length 0 lo)
theorem UF (xs:List V) (lo hi:Option Int):(qp xs lo hi).length≤xs.length:=by
 unfold qp
 rw[Ci,dG]
 omega
end
noncomputable def m8 (n:Nat) (i:Int):Option Nat:=if 0≤i then (if i<n then some i.toNat else none) else if -(n:Int)≤i then some (i+n).toNat else none
noncomputable def kT {α:Type} (xs:List α) (i:Int):Option α:=(m8 xs.length i).bind fun j=>xs[j]?
theorem LW {n:Nat} {i:Int} {j:Nat} (h:m8 n i=some j):seqIndex? i n=some j∧j<n∧-(n:Int)≤i∧i<n:=by
 unfold m8 at h
 by_cases h0:0≤i
 ·rw[if_pos h0] at h
  by_cases h1:i<n
  ·rw[if_pos h1] at h
   have e:i.toNat=j:=Option.some.inj h
   exact⟨by rw[seqIndex_of h0 h1,e],by omega,by omega,h1⟩
  ·rw[if_neg h1] at h;cases h
 ·rw[if_neg h0] at h
  by_cases h1:-(n:Int)≤i
  ·rw[if_pos h1] at h
   have e:(i+n).toNat=j:=Option.some.inj h
   exact⟨by rw[seqIndex_neg (by omega) h1,e],by omega,h1,by omega⟩
  ·rw[if_neg h1] at h;cases h
theorem JB {α:Type} {xs:List α} {i:Int} {v:α} (h:kT xs i=some v):∃ j,seqIndex? i xs.length=some j∧xs[j]? = some v∧j<xs.length∧-(xs.length:Int)≤i∧i<xs.length:=by
 unfold kT at h
 cases e:m8 xs.length i with
 | none=>rw[e] at h;cases h
 | some j =>
  rw[e] at h
  obtain⟨h1,h2,h3,h4⟩:=LW e
  exact⟨j,h1,h,h2,h3,h4⟩
theorem q8 {α:Type} {xs:List α} {j:Nat} {v:α} (h:xs[j]? = some v):kT xs (j:Int)=some v:=by
 have hj:j<xs.length:=(cW.mp h).1
 have e:m8 xs.length (j:Int)=some j:=by
  unfold m8
  rw[if_pos (by omega),if_pos (by omega)];simp
 unfold kT;rw[e];exact h
theorem OH {α:Type} (xs:List α) (v:α):kT (xs++[v]) (-1)=some v:=by
 have hl:(xs++[v]).length=xs.length+1:=by simp
 have e:m8 (xs++[v]).length (-1)=some xs.length:=by
  unfold m8
  rw[hl,if_neg (by decide),if_pos (by omega)]
  congr 1
  omega
 unfold kT
 rw[e]
 show (xs++[v])[xs.length]? = some v
 simp
noncomputable def Xe (b:Expr):Prop:=∀ o i,subscripted b false o i=operate [o,i] (getItem o i)
noncomputable def rZ (X:Cx) (r:R2):Prop :=
 ∀ (value slice:Expr) (pins:List (Addr × Obj)) (s:Shared) (σ:St) (H:Hp) (x y:V) (v u:Value) (Q:VK),zJ X pins σ H s→qx x v→qx y u→r x y H Q →
  subscripted slice false v u=operate [v,u] (getItem v u)→wpAny (model X.prog X.w) X.A (subscriptTail value slice v u) (EP X pins σ Q) X.xe s
noncomputable def tY (X:Cx) (id:String) (r:V→List V→Hp→VK→Prop):Prop :=
 ∀ (pins:List (Addr × Obj)) (s:Shared) (σ:St) (H:Hp) (x:V) (xs:List V) (v:Value) (us:List Value) (Q:VK),zJ X pins σ H s→qx x v→qf xs us→r x xs H Q →
  wpAny (model X.prog X.w) X.A (call (.builtin id) (v::us)) (EP X pins σ Q) X.xe s
section
variable {X:Cx} {a b:Expr} {ta tb:TE} {pos:Pos}
theorem tP {r:R2} (hr:rZ X r) (ha:PE X a ta) (hb:PE X b tb) (hs:Xe b):PE X (.Subscript a b pos) (jH r ta tb):=by
 intro pins s σ H Q I h
 exact Subscript_ (NJ ha hb I h fun v u s2 x y H2 I2 rx ry q=>hr a b pins s2 σ H2 x y v u Q I2 rx ry q (hs _ _))
noncomputable def mr (K:BFr):R2:=fun x y H Q=>∃ p xs i v,x = .ref p∧y = .int i∧zZ K H p xs∧kT xs i=some v∧Q v H
noncomputable def Zp (K:BFr):R2:=fun x y H Q=>∃ p xs i v,x = .ref p∧y = .int i∧yj K H p xs∧kT xs i=some v∧Q v H
noncomputable def MX:R2:=fun x y H Q=>∃ z i c,x = .str z∧y = .int i∧z.length≤sizeLine∧kT z.cps.toList i=some c∧Q (.str ⟨#[c]⟩) H
theorem zw:rZ X (mr X.K):=by
 intro value slice pins s σ H x y v u Q I rx ry h hs
 obtain⟨p,xs,i,z,rfl,rfl,hq,he,q⟩:=h
 cases rx
 obtain⟨t,rfl⟩:=ry
 obtain⟨its,r,pl,hz⟩:=I.list hq
 obtain⟨j,h1,h2,h3,h4,h5⟩:=JB he
 obtain⟨w,ew,rw'⟩:=r.get h2
 have hl:=r.length
 have hn:=kX
 have fin:EP X pins σ Q w s:=⟨z,H,I,rw',q⟩
 by_cases h0:0≤i
 ·have hj:i.toNat=j:=by
   rw[seqIndex_of h0 h5] at h1
   exact Option.some.inj h1
  exact item_listR pl.isList h0 (by omega) (by rw[hj];simpa using ew) fin hs
 ·have hj:(i+(its.toArray.size:Int)).toNat=j:=by
   rw[seqIndex_neg (by omega) h4] at h1
   rw[Cb,← hl]
   exact Option.some.inj h1
  exact subscriptTail_builtinR (x:=w) pl.isList.typeIs slot_list_getitem.lookup
   (wpAny_getItem_list_neg (Q:=fun r s'=>r=w∧EP X pins σ Q r s') pl.isList (by omega) (by rw[Cb] <;> omega) (by omega) (by rw[hj];simpa using ew) ⟨rfl,fin⟩) hs
theorem qI:rZ X (Zp X.K):=by
 intro value slice pins s σ H x y v u Q I rx ry h hs
 obtain⟨p,xs,i,z,rfl,rfl,hq,he,q⟩:=h
 cases rx
 obtain⟨t,rfl⟩:=ry
 obtain⟨its,r,pl,hz⟩:=I.tuple hq
 obtain⟨j,h1,h2,h3,h4,h5⟩:=JB he
 obtain⟨w,ew,rw'⟩:=r.get h2
 have hl:=r.length
 have hn:=kX
 have fin:EP X pins σ Q w s:=⟨z,H,I,rw',q⟩
 exact subscriptTail_builtinR (x:=w) pl.typeIs slot_tuple_getitem.lookup
  (getItem_tuple (j:=j) (Q:=fun r s'=>r=w∧EP X pins σ Q r s') pl (by omega) (by omega) (by rw[Cb,← hl];exact h1) (by simpa using ew) ⟨rfl,fin⟩) hs
theorem WS:rZ X MX:=by
 intro value slice pins s σ H x y v u Q I rx ry h hs
 obtain⟨z,i,c,rfl,rfl,hz,he,q⟩:=h
 obtain⟨t,rfl⟩:=rx
 obtain⟨t',rfl⟩:=ry
 obtain⟨j,h1,h2,h3,h4,h5⟩:=JB he
 have hl:z.cps.toList.length=z.length:=by simp[Str.length]
 rw[hl] at h1 h4 h5
 have hn:=kX
 exact tail_any (typeIs_str s z t) slot_str_getitem.lookup (getItem_str (c:=c) (by
  have e1:decide (i < -(2 ^ 63:Int))=false:=decide_eq_false (by omega)
  have e2:decide (i ≥ 2 ^ 63)=false:=decide_eq_false (by omega)
  rw[e1,e2,Bool.or_false]) (by rw[h1];simpa using h2) ⟨.str ⟨#[c]⟩,H,I.tok _,⟨_,rfl⟩,q⟩) hs
theorem JD (lo hi:Option Int) (n:Nat):(sliceBounds lo hi none n).1=((HT.Zx n 0 lo:Nat):Int)∧(sliceBounds lo hi none n).2.1=((HT.Zx n n hi:Nat):Int)∧(sliceBounds lo hi none n).2.2=1:=by
 refine⟨?_,?_,rfl⟩
 ·cases lo with
  | none=>simp[sliceBounds,HT.Zx]
  | some i =>
   simp only[sliceBounds,HT.Zx,Option.getD_none,show (1:Int) > 0 by decide,if_true]
   by_cases h:i<0
   ·simp only[h,if_true] <;> omega
   ·simp only[h,if_false] <;> omega
 ·cases hi with
  | none=>simp[sliceBounds,HT.Zx]
  | some i =>
   simp only[sliceBounds,HT.Zx,Option.getD_none,show (1:Int) > 0 by decide,if_true]
   by_cases h:i<0
   ·simp only[h,if_true] <;> omega
   ·simp only[h,if_false] <;> omega
theorem Yu (its:List Value) (lo hi:Option Int):slicePick its.toArray lo hi none=((its.drop (HT.Zx its.length 0 lo)).take (HT.Zx its.length its.length hi - HT.Zx its.length 0 lo)).toArray:=by
 obtain⟨h1,h2,h3⟩:=JD lo hi its.toArray.size
 unfold slicePick
 rw[h1,h2,h3]
 simp only[sliceRange_one,pick_run,Cb] <;> rfl
noncomputable def Nt (K:BFr):V→Option Int→Option Int→Hp→VK→Prop:=fun x lo hi H Q=>∃ a xs,x = .ref a∧zZ K H a xs∧∀ p,H p=none→Q (.ref p) (upd H p (.lst (qp xs lo hi)))
theorem jm:To X (Nt X.K):=by
 intro pins s σ H x v vl vu lo hi sl Q I rx hs pl pu h
 obtain⟨a,xs,rfl,hx,q⟩:=h
 cases rx
 obtain⟨its,r,ht,hz⟩:=I.list hx
 have hlen:=r.length
 refine⟨"list",_,slot_list_getitem.lookup,ht.isList.typeIs,?_⟩
 refine wpAny_getItem_list_slice ht.isList hs pl pu .none (by simp) ?_ (by rw[Cb] <;> omega)
 rw[Yu,← hlen]
 refine⟨.ref s.heap.objs.size,_,I.laid (t':=s.toks) (o:=.lst (qp xs lo hi)) (fun b ob q=>Cg _ q) (cx _) ?_,rfl,q _ (I.hok.fresh (cx _))⟩
 exact⟨cJ (UF xs lo hi) hz,_,0,(r.drop (HT.Zx xs.length 0 lo)).take (HT.Zx xs.length xs.length hi - HT.Zx xs.length 0 lo),Co _ rfl⟩
noncomputable def jL:V→Bool
 | .non=>true
 | .bl _=>true
 | .int _=>true
 | .str _=>true
 | _=>false
noncomputable def lp:V→V→Bool
 | .non,.non=>true
 | .bl a,.bl b=>a==b
 | .bl a,.int b=>(if a then 1 else 0)==b
 | .int a,.bl b=>a==(if b then 1 else 0)
 | .int a,.int b=>a==b
 | .str a,.str b=>a==b
 | _,_=>false
theorem W6 {A:Around} {s:Shared} {y x:V} {u v:Value} (ry:qx y u) (rx:qx x v) (fy:jL y=true) (fx:jL x=true):SeqAt.EqAt A s u v (lp y x):=by
 cases y with
 | non =>
  cases ry
  cases x with
  | non=>cases rx;exact SeqAt.EqAt.same _
  | bl b=>cases rx;exact SeqAt.EqAt.none_bool b
  | int b=>obtain⟨t,rfl⟩:=rx;exact SeqAt.EqAt.none_int b t
  | str b=>obtain⟨t,rfl⟩:=rx;exact SeqAt.EqAt.none_str b t
  | _=>exact absurd (show false=true from fx) cZ
 | bl a =>
  cases ry
  cases x with
  | non=>cases rx;exact SeqAt.EqAt.bool_none a
  | bl b=>cases rx;exact SeqAt.EqAt.bool_bool a b
  | int b=>obtain⟨t,rfl⟩:=rx;exact SeqAt.EqAt.bool_int a b t
  | str b=>obtain⟨t,rfl⟩:=rx;exact SeqAt.EqAt.bool_str a b t
  | _=>exact absurd (show false=true from fx) cZ
 | int a =>
  obtain⟨t',rfl⟩:=ry
  cases x with
  | non=>cases rx;exact SeqAt.EqAt.int_none a t'
  | bl b=>cases rx;exact SeqAt.EqAt.int_bool a t' b
  | int b=>obtain⟨t,rfl⟩:=rx;exact SeqAt.EqAt.int_int a t' b t
  | str b=>obtain⟨t,rfl⟩:=rx;exact SeqAt.EqAt.int_str a t' b t
  | _=>exact absurd (show false=true from fx) cZ
 | str a =>
  obtain⟨t',rfl⟩:=ry
  cases x with
  | non=>cases rx;exact SeqAt.EqAt.str_none a t'
  | bl b=>cases rx;exact SeqAt.EqAt.str_bool a t' b
  | int b=>obtain⟨t,rfl⟩:=rx;exact SeqAt.EqAt.str_int a t' b t
  | str b=>obtain⟨t,rfl⟩:=rx;exact SeqAt.EqAt.str_str a t' b t
  | _=>exact absurd (show false=true from fx) cZ
 | _=>exact absurd (show false=true from fy) cZ
noncomputable def Wh (x:V) (u:Value):Bool:=match u with
 | .none=>lp .non x
 | .bool b=>lp (.bl b) x
 | .int i _=>lp (.int i) x
 | .str z _=>lp (.str z) x
 | _=>false
theorem OM {x y:V} {u:Value} (r:qx y u) (f:jL y=true):Wh x u=lp y x:=by
 cases y with
 | non=>cases r;rfl
 | bl b=>cases r;rfl
 | int i=>obtain⟨t,rfl⟩:=r;rfl
 | str z=>obtain⟨t,rfl⟩:=r;rfl
 | _=>exact absurd (show false=true from f) cZ
theorem kM {x:V}:∀ {xs:List V} {us:List Value},qf xs us→xs.all jL=true→us.any (Wh x)=xs.any fun y=>lp y x
 | _,_,.nil,_=>rfl
 | y::xs,u::us,.cons r t,f=>by
  rw[CZ,cz] at f
  rw[dH,dH,OM r f.1,kM t f.2]
theorem uS {A:Around} {s:Shared} {x:V} {v:Value} (rx:qx x v) (fx:jL x=true):∀ {xs:List V} {us:List Value},qf xs us→xs.all jL=true→∀ u∈us,SeqAt.EqAt A s u v (Wh x u)
 | _,_,.nil,_=>fun u hu=>by cases hu
 | y::xs,u::us,.cons r t,f=>fun u' hu=>by
  rw[CZ,cz] at f
  rcases cy.mp hu with rfl | hu
  ·rw[OM r f.1];exact W6 r rx f.1 fx
  ·exact uS rx fx t f.2 u' hu
noncomputable def tX (x:V) (xs:List V):Bool:=xs.any fun y=>lp y x
noncomputable def BA (K:BFr) (neg:Bool):R2:=fun x y H Q=>∃ p xs,y = .ref p∧(zZ K H p xs∨yj K H p xs)∧jL x=true∧xs.all jL=true∧Q (.bl (if neg then !tX x xs else tX x xs)) H
theorem YQ:wk X (compareOp .In) (BA X.K false):=by
 intro pins s σ H x y v u Q I rx ry h
 obtain⟨p,xs,rfl,hq,fx,fs,q⟩:=h
 cases ry
 rcases hq with hq | hq
 ·obtain⟨its,r,pl,hz⟩:=I.list hq
  refine SeqAt.in_listAt (Wh x) pl.isList (fun w hw=>uS rx fx r fs w (by simpa using hw)) ⟨.bl _,H,I,rfl,?_⟩
  rw[show its.toArray.any (Wh x)=its.any (Wh x) by simp,kM r fs]
  exact q
 ·obtain⟨its,r,pl,hz⟩:=I.tuple hq
  refine SeqAt.in_tupleAt (Wh x) pl (fun w hw=>uS rx fx r fs w (by simpa using hw)) ⟨.bl _,H,I,rfl,?_⟩
  rw[show its.toArray.any (Wh x)=its.any (Wh x) by simp,kM r fs]
  exact q
theorem wZ:wk X (compareOp .NotIn) (BA X.K true):=by
 intro pins s σ H x y v u Q I rx ry h
 obtain⟨p,xs,rfl,hq,fx,fs,q⟩:=h
 cases ry
 rcases hq with hq | hq
 ·obtain⟨its,r,pl,hz⟩:=I.list hq
  refine SeqAt.notIn_listAt (Wh x) pl.isList (fun w hw=>uS rx fx r fs w (by simpa using hw)) ⟨.bl _,H,I,rfl,?_⟩
  rw[show its.toArray.any (Wh x)=its.any (Wh x) by simp,kM r fs]
  exact q
 ·obtain⟨its,r,pl,hz⟩:=I.tuple hq
  refine SeqAt.notIn_tupleAt (Wh x) pl (fun w hw=>uS rx fx r fs w (by simpa using hw)) ⟨.bl _,H,I,rfl,?_⟩
  rw[show its.toArray.any (Wh x)=its.any (Wh x) by simp,kM r fs]
  exact q
theorem z7:va X (.builtin "len") (fun xs H Q=>∃ p ys,xs=[.ref p]∧(zZ X.K H p ys∨yj X.K H p ys)∧Q (.int ys.length) H):=by
 intro pins s σ H xs us Q I r h
 obtain⟨p,ys,rfl,hq,q⟩:=h
 obtain⟨u,rfl,rx⟩:=ux r
 cases rx
 have hn:=kX
 rcases hq with hq | hq
 ·obtain⟨its,r',pl,hz⟩:=I.list hq
  have hlen:=r'.length
  exact Calls.call_len_list pl.isList (by simp only[Cb] <;> omega) ⟨.int ys.length,H,I.tok _,⟨s.toks+1,by rw[Cb,hlen]⟩,q⟩
 ·obtain⟨its,r',pl,hz⟩:=I.tuple hq
  have hlen:=r'.length
  exact len_tuple pl (by simp only[Cb] <;> omega) ⟨.int ys.length,H,I.tok _,⟨s.toks+1,by rw[Cb,hlen]⟩,q⟩
theorem yR:va X (.builtin "len") (fun xs H Q=>∃ z,xs=[.str z]∧z.length≤sizeLine∧Q (.int z.length) H):=by
 intro pins s σ H xs us Q I r h
 obtain⟨z,rfl,hz,q⟩:=h
 obtain⟨u,rfl,t,rfl⟩:=ux r
 have hn:=kX
 exact len_str (by omega) ⟨.int z.length,H,I.tok _,⟨_,rfl⟩,q⟩
theorem uk:va X (.type "list") (fun xs H Q=>∃ p ys,xs=[.ref p]∧(zZ X.K H p ys∨yj X.K H p ys)∧∀ l,H l=none→Q (.ref l) (upd H l (.lst ys))):=by
 intro pins s σ H xs us Q I r h
 obtain⟨p,ys,rfl,hq,q⟩:=h
 obtain⟨u,rfl,rx⟩:=ux r
 cases rx
 have fin:∀ (its:List Value),qf ys its→ys.length≤sizeLine→∀ (h':Heap) (c':Nat),(∀ b o',s.heap.get? b=some o'→h'.get? b=some o') →
   h'.get? s.heap.objs.size=some { cls:=.type "list",dict:=none,data:=.seq its.toArray c',slots:=#[] }→EP X pins σ Q (.ref s.heap.objs.size) { s with heap:=h' }:=fun its r' hz h' c' kp e =>
  ⟨.ref s.heap.objs.size,_,I.laid (t':=s.toks) kp (cx _) (show yc X.prog X.w _ h' _ (.lst ys) from ⟨hz,its,c',r',e⟩),rfl,q _ (I.hok.fresh (cx _))⟩
 rcases hq with hq | hq
 ·obtain⟨its,r',pl,hz⟩:=I.list hq
  have hlen:=r'.length
  obtain⟨o,ho,hc,n,hd⟩:=pl.isList
  exact call_list_seq p (.inl rfl) ho hc hd (fun h' c' kp e=>fin its r' hz h' c' kp e) (by simp only[Cb] <;> omega)
 ·obtain⟨its,r',pl,hz⟩:=I.tuple hq
  have hlen:=r'.length
  obtain⟨o,ho,hc,n,hd⟩:=pl
  exact call_list_seq p (.inr rfl) ho hc hd (fun h' c' kp e=>fin its r' hz h' c' kp e) (by simp only[Cb] <;> omega)
theorem jK:va X (.type "tuple") (fun xs H Q=>∃ p ys,xs=[.ref p]∧((zZ X.K H p ys∧∀ l,H l=none→Q (.ref l) (upd H l (.tup ys)))∨(yj X.K H p ys∧Q (.ref p) H))):=by
 intro pins s σ H xs us Q I r h
 obtain⟨p,ys,rfl,h⟩:=h
 obtain⟨u,rfl,rx⟩:=ux r
 cases rx
 rcases h with ⟨hq,q⟩ | ⟨hq,q⟩
 ·obtain⟨its,r',pl,hz⟩:=I.list hq
  have hlen:=r'.length
  refine call_tuple_list pl.isList (fun h' kp=>?_) (by simp only[Cb] <;> omega)
  have I1:zJ X pins σ H { s with heap:=h' }:=I.kept (t':=s.toks) kp
  have I2:zJ X pins σ (upd H h'.objs.size (.tup ys)) { s with heap:=h'.push { cls:=.type "tuple",data:=.seq its.toArray } } :=
   I1.laid (t':=s.toks) (fun b o e=>Cg _ e) (cx _) (show yc X.prog X.w _ _ _ (.tup ys) from ⟨hz,its,r',IsTup.new _ _⟩)
  exact⟨.ref h'.objs.size,_,I2,rfl,q _ (I1.hok.fresh (cx _))⟩
 ·obtain⟨its,r',pl,hz⟩:=I.tuple hq
  exact call_tuple_same pl ⟨.ref p,H,I,rfl,q⟩
noncomputable def BG (K:BFr) (T:String) (x:V) (H:Hp):Prop:=match x with
 | .str _=>T = "str"
 | .int _=>T = "int"
 | .ref p=>(T = "list"∧∃ xs,zZ K H p xs)∨(T = "tuple"∧∃ o,K.lookup p=some o∧o.cls = .type "tuple"∧o.dict=none) ∨
   (T = "dict"∧((∃ kvs,H p=some (.dK kvs))∨∃ kvs,H p=some (.dT kvs)))∨(T = "set"∧∃ S n,H p=some (.set S n))
 | _=>False
theorem nK {pins:List (Addr × Obj)} {σ:St} {H:Hp} {s:Shared} {T:String} {x:V} {v:Value} (I:zJ X pins σ H s) (r:qx x v) (ty:BG X.K T x H) :
  s.TypeIs v T∧∀ a,v = .ref a→∃ ob,s.heap.get? a=some ob∧ob.dict=none:=by
 cases x with
 | str z =>
  obtain⟨t,rfl⟩:=r
  cases (show T = "str" from ty)
  exact⟨typeIs_str s z t,fun _ e=>nomatch e⟩
 | int i =>
  obtain⟨t,rfl⟩:=r
  cases (show T = "int" from ty)
  exact⟨typeIs_int s i t,fun _ e=>nomatch e⟩
 | ref p =>
  cases r
  rcases ty with ⟨rfl,xs,hq⟩ | ⟨rfl,o,hk,hc,hd⟩ | ⟨rfl,hk⟩ | ⟨rfl,S,n,hk⟩
  ·obtain⟨its,_,pl,_⟩:=I.list hq
   refine⟨pl.isList.typeIs,fun a e=>?_⟩
   cases e
   obtain⟨o,n,e,c,hd,_⟩:=pl
   exact⟨o,e,hd⟩
  ·refine⟨⟨o,I.kIn p o hk,hc⟩,fun a e=>?_⟩
   cases e
   exact⟨o,I.kIn _ o hk,hd⟩
  ·have z:∃ o,s.heap.get? p=some o∧o.ExactDict:=by
    rcases hk with ⟨kvs,hk⟩ | ⟨kvs,hk⟩
    ·obtain⟨_,_,_,_,o,_,_,e,ex,_⟩:=I.hok p _ hk
     exact⟨o,e,ex⟩
    ·obtain⟨_,_,_,_,o,_,_,e,ex,_⟩:=I.hok p _ hk
     exact⟨o,e,ex⟩
   obtain⟨o,e,ex⟩:=z
   refine⟨⟨o,e,ex.1⟩,fun a e2=>?_⟩
   cases e2
   exact⟨o,e,ex.2.1⟩
  ·obtain⟨o,_,_,_,e,ex,_⟩:=I.hok p _ hk
   refine⟨⟨o,e,ex.1⟩,fun a e2=>?_⟩
   cases e2
   exact⟨o,e,ex.2.1⟩
 | _=>exact False.elim ty
noncomputable def BJ (K:BFr) (T:String) (r:V→List V→Hp→VK→Prop) (to:TE) (t:TA):TE:=fun σ H Q=>to σ H fun x H1=>BG K T x H1∧t σ H1 fun xs H2=>r x xs H2 Q
variable {o e:Expr} {es:List Expr} {to:TE} {t:TA} {name:Str} {apos cpos:Pos} {T id:String} {r:V→List V→Hp→VK→Prop}
theorem yL (pa:PlainAttrs T) (slot:Slot T name id) (hty:typeOf (.builtin id)=pure (.type "method_descriptor")) (hm:tY X id r) (ho:PE X o to) (ha:PA X (e::es) t) (hbase:attributeBase o name X.env (eval o X.env)=eval o X.env:=by rfl) (hfew:((backTo cpos (starEach (e::es) X.env)).all (fun x=>!x.1)&&(backToKw cpos (keywordEach [] X.env)).all (fun x=>x.1.isSome)
   && decide ((e::es).length+([]:List Keyword).length+(if ([]:List Keyword).isEmpty then 0 else 1)<30))=true:=by rfl) (hline:(apos.endLine==cpos.line)=true:=by rfl) (hs:starEach (e::es) X.env=(false,eval e X.env)::starEach es X.env:=by exact zT rfl) (hplain:(backTo cpos (starEach es X.env)).any (·.1)=false:=by rfl) :
  PE X (.Call (.Attribute o name apos) (e::es) [] cpos) (BJ X.K T r to t):=by
 intro pins s σ H Q I h
 refine wpAny_Call_method_late hbase hfew hline rfl (q0 (ho pins s σ H _ I h) fun v s1 ⟨x,H1,I1,r1,ty,q1⟩=>?_)
 obtain⟨h1,h2⟩:=nK I1 r1 ty
 refine⟨T,id,pa,slot,hty,h1,h2,?_⟩
 have hA:=ha cpos pins s1 σ H1 _ I1 q1
 rw[hs] at hA ⊢
 refine Calls.callWith_builtin (by show (false || (backTo cpos (starEach es X.env)).any (·.1))=false;rw[hplain] <;> rfl) (Calls.evalArgs_plain ?_)
 exact q0 hA fun us s2 ⟨vs,H2,I2,r2,q2⟩=>hm pins s2 σ H2 x vs v us Q I2 r1 r2 q2
end
noncomputable def Tx (X:Cx) (id:String) (r:V→List V→Hp→VK→Prop):Prop :=
 ∀ (pins:List (Addr × Obj)) (s:Shared) (σ:St) (H:Hp) (x:V) (xs:List V) (v:Value) (us:List Value) (Q:VK),zJ X pins σ H s→qx x v→qf xs us→r x xs H Q →
  wpAny (model X.prog X.w) X.A (call (.builtin id) (v::us)) (EP X pins σ Q) X.xe s
theorem qf.one:∀ {x:V} {us:List Value},qf [x] us→∃ u,us=[u]∧qx x u
 | _,_,.cons r .nil=>⟨_,rfl,r⟩
theorem qf.dropLast {xs:List V} {us:List Value} (h:qf xs us):qf xs.dropLast us.dropLast:=by
 induction h with
 | nil=>exact .nil
 | cons r t ih =>
  cases t with
  | nil=>exact .nil
  | cons q t'=>exact .cons r ih
theorem qf.rep {xs:List V} {us:List Value} (h:qf xs us):∀ k:Nat,qf (List.replicate k xs).flatten (List.replicate k us).flatten
 | 0=>.nil
 | k+1=>by
  rw[dI,dI,d5,d5]
  exact qf.append h (qf.rep h k)
theorem ME {α:Type} (l:List α):l.eraseIdx (l.length - 1)=l.dropLast:=by
 induction l with
 | nil=>rfl
 | cons a r ih =>
  cases r with
  | nil=>rfl
  | cons b r =>
   have e:(a::b::r).length - 1=((b::r).length - 1)+1:=by
    have h1:(a::b::r).length=r.length+2:=rfl
    have h2:(b::r).length=r.length+1:=rfl
    omega
   rw[e,List.eraseIdx_cons_succ,ih]
   all_goals rfl
theorem YU (its:List Value):∀ (k:Nat) (acc:List Value),
  List.foldl (fun x1 x2=>x1++x2) acc.toArray (List.replicate k its.toArray)=(acc++(List.replicate k its).flatten).toArray
 | 0,acc=>by simp
 | k+1,acc=>by
  have e:acc.toArray++its.toArray=(acc++its).toArray:=by simp
  have e2:(acc++its)++(List.replicate k its).flatten=acc++(List.replicate (k+1) its).flatten:=by
   rw[dI,d5,dw]
  rw[← e2,← YU its k (acc++its),← e,dI,d6]
section
variable {X:Cx} {pins:List (Addr × Obj)} {σ:St} {H:Hp} {s:Shared} {l b:Addr} {xs ys zs:List V}
theorem zJ.lset {its its':List Value} {n:Nat} {f:Array Value→Array Value} {t':Nat} (I:zJ X pins σ H s) (hH:H l=some (.lst xs)) (e:s.heap.get? l=some { cls:=.type "list",data:=.seq its.toArray n }) (hf:f its.toArray=its'.toArray) (hv:qf ys its') (hz:ys.length≤sizeLine) :
  zJ X pins σ (upd H l (.lst ys)) { s with heap:=s.heap.update l (Obj.mapSeq f),toks:=t' }:=by
 have q:=PySem.IsL.update e f
 rw[hf] at q
 refine I.write (x:=l) (e:=l) (by rw[hH];exact trivial) (.inl rfl) (fun b' u hb hu=>(CD s.heap (Obj.mapSeq f) (Ne.symm hb)).trans hu) ⟨_,q⟩ ?_
 exact⟨hz,its',_,hv,q⟩
theorem zJ.lnew {its:List Value} {t':Nat} (I:zJ X pins σ H s) (hv:qf ys its) (hz:ys.length≤sizeLine) :
  zJ X pins σ (upd H s.heap.objs.size (.lst ys)) { s with heap:=s.heap.push { cls:=.type "list",data:=.seq its.toArray },toks:=t' } :=
 I.laid (fun _ _ q=>Cg _ q) (cx _) ⟨hz,its,0,hv,Co _ rfl⟩
theorem zJ.fresh (I:zJ X pins σ H s):H s.heap.objs.size=none:=I.hok.fresh (cx _)
theorem zJ.lstM (I:zJ X pins σ H s) (hH:H l=some (.lst xs)):xs.length≤sizeLine∧∃ (its:List Value) (n:Nat),qf xs its∧xs.length=its.length∧s.heap.get? l=some { cls:=.type "list",data:=.seq its.toArray n }:=by
 obtain⟨z,its,n,r,e⟩:=I.hok l _ hH
 exact⟨z,its,n,r,r.length,e⟩
theorem PH {n:Nat} (h:n≤sizeLine):Builtin.List.listTooLong n=false:=by
 unfold Builtin.List.listTooLong
 exact decide_eq_false (by omega)
end
section
variable {X:Cx}
noncomputable def lK:V→List V→Hp→VK→Prop:=fun x vs H Q=>∃ l xs y,x = .ref l∧vs=[y]∧H l=some (.lst xs)∧xs.length<sizeLine∧Q .non (upd H l (.lst (xs++[y])))
theorem ji:Tx X "list.append" lK:=by
 intro pins s σ H x vs v us Q I rx rv h
 obtain⟨l,xs,y,rfl,rfl,hH,hz,q⟩:=h
 cases rx
 obtain⟨u,rfl,ru⟩:=rv.one
 obtain⟨z,its,n,r,hl,e⟩:=I.lstM hH
 refine call_meets F.slot_list_append ⟨_,e,rfl⟩ F.entry_list_append (F.args_list_append_2 _ _) (PySem.list_append l its.toArray n u (by rw[Cb];omega)) ⟨e,?_⟩
 refine⟨.non,_,I.lset (its':=its++[u]) hH e (by simp) (r.append (.cons ru .nil)) ?_,rfl,q⟩
 rw[cG,Cp]
 omega
noncomputable def bG:R2:=fun x y H Q=>∃ l b xs zs,x = .ref l∧y = .ref b∧H l=some (.lst xs)∧H b=some (.lst zs)∧xs.length+zs.length≤sizeLine∧∀ p,H p=none→Q (.ref p) (upd H p (.lst (xs++zs)))
theorem Nl:wk X (binaryOp .Add) bG:=by
 intro pins s σ H x y v u Q I rx ry h
 obtain⟨l,b,xs,zs,rfl,rfl,hH,hB,hz,q⟩:=h
 cases rx
 cases ry
 obtain⟨z,its,n,r,hl,e⟩:=I.lstM hH
 obtain⟨z2,its2,n2,r2,hl2,e2⟩:=I.lstM hB
 refine PySem.P.add_list e e2 ?_ (by rw[Cb,Cb];omega)
 have ea:its.toArray++its2.toArray=(its++its2).toArray:=by simp
 rw[ea]
 exact⟨.ref _,_,I.lnew (t':=s.toks) (r.append r2) (by rw[cG];omega),rfl,q _ I.fresh⟩
noncomputable def Bc:R2:=fun x y H Q=>∃ l k xs,x = .ref l∧y = .int k∧H l=some (.lst xs)∧-(2 ^ 63)≤k∧k<2 ^ 63∧xs.length*k.toNat≤sizeLine ∧
 ∀ p,H p=none→Q (.ref p) (upd H p (.lst (List.replicate k.toNat xs).flatten))
theorem lA {α:Type} (xs:List α) (k:Nat):(List.replicate k xs).flatten.length=k*xs.length:=by
 induction k with
 | zero=>simp
 | succ k ih=>rw[dI,d5,cG,ih,Nat.succ_mul,Nat.add_comm]
theorem MB:wk X (binaryOp .Mult) Bc:=by
 intro pins s σ H x y v u Q I rx ry h
 obtain⟨l,k,xs,rfl,rfl,hH,h1,h2,hz,q⟩:=h
 cases rx
 obtain⟨t,rfl⟩:=ry
 obtain⟨z,its,n,r,hl,e⟩:=I.lstM hH
 have hlen:its.toArray.size*k.toNat≤sizeLine:=by rw[Cb,← hl];exact hz
 have hcap:¬ its.toArray.size*k.toNat > (2 ^ 63 - 1)/8:=by
  have:(sizeLine:Nat)≤(2 ^ 63 - 1)/8:=by decide
  omega
 have hfit:¬ (!Builtin.List.listFitsIndex k)=true:=by
  rw[fitsIndex_both h1 h2]
  exact cZ
 have hlong:¬ Builtin.List.listTooLong (its.toArray.size*k.toNat)=true:=by
  rw[PH hlen]
  exact cZ
 have hnew:List.foldl (fun x1 x2=>x1++x2) #[] (List.replicate (if its.toArray.isEmpty=true then 0 else k.toNat) its.toArray)=(List.replicate k.toNat its).flatten.toArray:=by
  have f0:∀ m:Nat,List.foldl (fun x1 x2=>x1++x2) #[] (List.replicate m its.toArray)=(List.replicate m its).flatten.toArray:=fun m=>by
   have:=YU its m []
   rw[List.nil_append] at this
   exact this
  rw[f0]
  cases its with
  | nil=>simp
  | cons a r'=>rw[if_neg (by simp)]
 refine wpAny_binaryOp_repeat_ref (T:="list") (U:="int") (by decide) ⟨_,e,rfl⟩ (fun s'=>typeIs_int s' k t) noFill_list_mul F.fills_int_mul F.slot_int_rmul repeat_list F.slot_int_index.lookup
  (call_meets F.slot_int_rmul (typeIs_int s k t) F.entry_int_rmul (F.args_int_rmul_2 _ _) (int___rmul___int_list k t l its.toArray n)
   ⟨e,rfl,⟨_,e,rfl⟩,call_meets F.slot_list_mul ⟨_,e,rfl⟩ F.entry_list_mul (F.args_list_mul_2 _ _) (AutoListH.list___mul___list_int_3 l its.toArray n k t hfit hcap hlong) ⟨e,?_⟩⟩)
 rw[hnew]
 exact⟨.ref _,_,I.lnew (t':=s.toks) (r.rep k.toNat) (by rw[lA,Nat.mul_comm];exact hz),rfl,q _ I.fresh⟩
end
section
variable {prog:Program} {w:World} {A:Around} {E:Value→Shared→Prop} {s:Shared}
end
section
variable {X:Cx}
end
end L2
namespace Att
open PySem PySem.W PySem.Calls PyProof.Rows
theorem ZG {P:Params} {h:Heap}:∀ (ns:List Int) (vs:List Value),WellAll P h vs (ns.map WData.int)→IntsAre vs ns:=by
 intro ns
 induction ns with
 | nil =>
  intro vs w
  rw[List.map_nil] at w
  cases w
  exact .nil
 | cons n ns ih =>
  intro vs w
  rw[CA] at w
  cases w with
  | cons a b =>
   cases a
   exact .cons _ _ (ih _ b)
theorem GN {l:OpenLaw} {n:Nat} (hn:l.most=some n) {P:Params} {h:Heap} {args:List WData} {vals:List Value}
  (hpre:l.row.toRowW.claim.pre args=true) (hwl:WellAll P h vals args) :
  ∃ a vs ns,vals=[Value.ref a]∧args=[WData.list (ns.map WData.int)]∧h.get? a=some { cls:=.type "list",data:=.seq vs.toArray }∧IntsAre vs ns∧ns.length≤n:=by
 have hsh:WShape.hasAll [] args [.list .int]=true:=(pre_splitW hpre).1
 have hc:l.pre.holds [] { args:=args } = true:=(pre_splitW hpre).2
 obtain⟨d,r,rfl,h1,h2⟩:=hasAllW_cons hsh
 obtain rfl:=hasAllW_nil h2
 obtain⟨xs,rfl,h3⟩:=hasW_list h1
 obtain⟨ns,rfl⟩:=items_int h3
 have hlen:ns.length≤n:=by
  unfold OpenLaw.pre at hc
  have h4:(WTm.not (.lt (.lit (.int (n:Int))) (.len (.arg 0)))).holds [] { args:=[.list (ns.map .int)] } = true:=by
   have h4:=(holds_andW hc).1
   rw[hn] at h4
   exact h4
  have h5:=condW_of h4 (w_not (w_lt w_lit (w_len_list (w_arg rfl))))
  rw[cw] at h5
  refine de fun q=>?_
  have q':(n:Int)<((ns.length:Nat):Int):=by omega
  first
   | (rw[decide_eq_true q'] at h5;exact absurd h5 (by decide))
   | (simp at h5;omega)
 cases hwl with
 | cons w1 w2 =>
  cases w2
  cases w1 with
  | list ho hall=>exact⟨_,_,ns,rfl,rfl,ho,ZG ns _ hall,hlen⟩
theorem gk (l:OpenLaw) (args:List WData):l.row.toRowW.claim.post args (.bool true) args=true :=
 postW_of (r:=l.row.toRowW) (X:=(true==true))
  (show WShape.has [] (.bool true) .bool=true by first | rfl | decide | simp[WShape.has,WShape.arms,WShape.armsAll])
  (show (WTm.eq .res (.lit (.bool true))).value [] { args:=args,res:=some (.bool true),after:=args } = some (.bool (true==true)) from w_eq_bool (w_res rfl) w_lit) rfl
theorem Wb {l:OpenLaw} {n:Nat} {q:Program} {loose:List Str} {XP:(Str→Option Value)→Heap→Prop} {YP:World→Heap→Prop} {d:DefRec}
  (hn:l.most=some n) (hdf:d.params.defaults=[]) (call:∀ (w:World) (s₀ s₁:Shared) (mg mb:Str→Option Value) (fa:Addr) (o:Obj) (pm cd doc:Value) (a:Addr) (vs:List Value) (ns:List Int),
   Ground q loose [] XP w s₀ mg mb s₁.heap→YP w s₁.heap →
   s₁.heap.get? fa=some o→o.data = .func (docDef d.name d.params d.body d.scope pm cd doc)→s₁.heap.CodeRec cd d.name→mg d.name=some (.ref fa) →
   s₁.heap.get? a=some { cls:=.type "list",data:=.seq vs.toArray }→IntsAre vs ns→ns.length≤n→s₁.gens = #[] →
   codeAny (model l.prog w) callerA (.call (.ref fa) ⟨[.ref a],[]⟩) (fun r s'=>r = .ok (.ret (.bool true))∧OldK s₁.heap s'.heap∧s'.os=s₁.os∧AllBare s'.gens) s₁) :
  WalkO q loose XP YP l.row.toRowW d [] (fun f vs=>PySem.call f vs):=by
 intro w s₀ s₁ mg mb G Y fa o pm cd doc dV kV ho hd hcd hD hmg hg args vals as hpre hlay hrd hwl hlo
 obtain rfl:dV = .none:=Dflts.none hD hdf
 obtain rfl:kV = .none:=Dflts.noKw hD
 obtain⟨a,vs,ns,rfl,rfl,hobj,hints,hlen⟩:=GN hn hpre hwl
 refine enter_call (codeAny_mono (call w s₀ s₁ mg mb fa o pm cd doc a vs ns G Y ho (fd_plain hd) hcd hmg hobj hints hlen hg) fun r s' hq=>?_)
 obtain⟨rfl,h2,h3,h4⟩:=hq
 exact⟨.inl ⟨.bool true,.bool true,[],rfl,fun _=>rfl,.bool true,gk l _,fun _=>⟨List.Pairwise.nil,fun _ hm=>(nomatch hm)⟩⟩,h2,h3,h4⟩
section
variable {prog:Program} {w:World} {A:Around} {E:Value→Shared→Prop} {s:Shared} {K:Frag}
end
end Att
namespace L2
open PySem PySem.Spec PyProof.Rows
theorem YR:∀ {vs:List Value} {ns:List Int},IntsAre vs ns→qf (ns.map V.int) vs
 | _,_,.nil=>.nil
 | _,_,.cons n t h=>.cons ⟨t,rfl⟩ (YR h)
noncomputable def nM (H:Hp):Prop:=∀ b,H b=none∨∃ o xs,H b=some (.frz o (.lst xs))
theorem OJ {P:Program} {w:World} {K:BFr} {mg mb:Str→Option Value} {CX:wN} {k:Nat} {fa a:Addr} {fd:FuncData} {x:Str} {sp:Sp} {s₁:Shared} {vs:List Value} {ns:List Int}
  (KX:K.In s₁.heap) (hns:s₁.heap.Ns mainGlobals mg) (hb:s₁.heap.Ns builtinsNs mb) (hbb:∀ x:Str,x≠"__name__"→mb x=bootBuiltins x) (hlim:s₁.heap.NoLimit) (hg:s₁.gens = #[]) (ha:s₁.heap.get? a=some { cls:=.type "list",data:=.seq vs.toArray }) (hi:IntsAre vs ns) (hl:ns.length≤sizeLine) (hr:yw k callerA) (F:∀ base:Heap,K.In base→base.Ns mainGlobals mg→zL P w K mg base CX k fa fd [x] sp) (hbind:∀ (s:Shared) (u:Value),BindsTo s fd ⟨[u],[]⟩ [(x,u)]) (hsp:∀ H:Hp,nM H→zZ K H a (ns.map V.int)→sp [.ref a] H (fun v _=>v = .bl true) fun _ _ _=>False) (hCX:∀ H e s',CX [] H s₁ (fun _ _ _=>False) e s'→False) :
  codeAny (model P w) callerA (.call (.ref fa) ⟨[.ref a],[]⟩) (fun r s'=>r = .ok (.ret (.bool true))∧OldK s₁.heap s'.heap∧s'.os=s₁.os∧AllBare s'.gens) s₁:=by
 have rv:=YR hi
 have lenV:=hi.length
 have core:∀ H:Hp,nM H→zZ K H a (ns.map V.int)→wI P w H s₁.heap→(∀ b,H b≠none→b=a)→(H a≠none→K.lookup a=none) →
   codeAny (model P w) callerA (.call (.ref fa) ⟨[.ref a],[]⟩) (fun r s'=>r = .ok (.ret (.bool true))∧OldK s₁.heap s'.heap∧s'.os=s₁.os∧AllBare s'.gens) s₁:=by
  intro H hO hS hok hA hK
  have base_of:∀ {b:Addr} {o:Obj},s₁.heap.get? b=some o→H b=none→(JW s₁.heap H).get? b=some o:=fun e n=>Ox e n
  have noA:∀ {b:Addr} {o:Obj} {es:Array DictEntry} {ep:Nat},s₁.heap.get? b=some o→o.data = .dict es ep→H b=none:=fun {b o es ep} e d=>by
   cases q:H b with
   | none=>rfl
   | some u =>
    have e':b=a:=hA b (by rw[q];simp)
    subst e'
    rw[ha] at e;cases e
    have d':Data.seq vs.toArray _=Data.dict es ep:=d
    cases d'
  have nsK:∀ {b:Addr} {m:Str→Option Value},s₁.heap.Ns b m→(JW s₁.heap H).Ns b m:=fun {b m} ⟨o,es,ep,e,d,r⟩=>⟨o,es,ep,base_of e (noA e d),d,r⟩
  have hKb:K.In (JW s₁.heap H):=fun b o e=>base_of (KX b o e) (by
   cases q:H b with
   | none=>rfl
   | some u =>
    have e':b=a:=hA b (by rw[q];simp)
    subst e'
    rw[hK (by rw[q];simp)] at e;cases e)
  have hM:Mod K mg (JW s₁.heap H):=⟨hKb,nsK hns,⟨mb,nsK hb,hbb⟩,let ⟨mc,h1,h2⟩:=hlim;⟨mc,nsK h1,h2⟩⟩
  have e0:UJ P w K mg (JW s₁.heap H) callerA [] s₁ H:=⟨rfl,hM,fun b o e=>mD e,Nat.le_of_eq (Gi _ _),trivial,fun b hb=>absurd (show b∈([]:List Addr) from hb) (by simp),hok,.of_eq hg⟩
  refine codeAny_mono ((F _ hKb (nsK hns)).run callerA [] s₁ H ⟨[.ref a],[]⟩ [.ref a] [.ref a] _ _ hr e0 (hbind s₁ (.ref a)) (.cons rfl .nil) (hsp H hO hS)) fun r s' h=>?_
  cases r with
  | error e=>exact (hCX H e s' h).elim
  | ok fl =>
   cases fl with
   | next=>exact False.elim h
   | brk=>exact False.elim h
   | cont=>exact False.elim h
   | ret u =>
    obtain⟨v,H',os,bare,un,hok',r',q⟩:=h
    have q':v = .bl true:=q
    subst q'
    obtain rfl:u=Value.bool true:=r'
    refine⟨rfl,OldK.of_keep fun b o e=>?_,os,bare⟩
    cases q:H b with
    | none=>exact un.keep b o e q (by intro z;exact absurd (show b∈([]:List Addr) from z) (by simp)) (by simp)
    | some u =>
     rcases hO b with z | ⟨ob,xs,z⟩
     ·rw[q] at z;cases z
     ·have z2:=un.frzs b ob _ z
      obtain⟨e1,_⟩:=hok b _ z
      obtain⟨e2,_⟩:=hok' b _ z2
      rw[e] at e1;cases e1
      exact e2
 cases hk:K.lookup a with
 | some o =>
  have e:=KX a o hk
  rw[ha] at e
  cases e
  refine core (fun _=>none) (fun _=>.inl rfl) (.inr ⟨_,vs.toArray,_,hk,rfl,rfl,rfl,by rw[Cb,lenV];exact hl,by simpa using rv⟩) (fun b u z=>by have z':(none:Option HO)=some u:=z;cases z') (fun b z=>absurd rfl z) fun z=>absurd rfl z
 | none =>
  refine core (fun b=>if b=a then some (.frz { cls:=.type "list",data:=.seq vs.toArray } (.lst (ns.map V.int))) else none) (fun b=>?_) (.inl (.inr ⟨{ cls:=.type "list",data:=.seq vs.toArray },if_pos rfl⟩)) (fun b u z=>?_) (fun b z=>?_) fun _=>hk
  ·by_cases hb:b=a
   ·exact .inr ⟨_,_,if_pos hb⟩
   ·exact .inl (if_neg hb)
  ·by_cases hb:b=a
   ·have z':=(if_pos hb).symm.trans z
    cases z'
    subst hb
    exact⟨ha,by rw[cw];exact hl,vs,_,rv,ha⟩
   ·have z':=(if_neg hb).symm.trans z
    cases z'
  ·by_cases hb:b=a
   ·exact hb
   ·exact absurd (if_neg hb) z
theorem LZ {l:PySem.W.OpenLaw} {n k:Nat} {q:Program} {loose:List Str} {XP:(Str→Option Value)→Heap→Prop} {YP:World→Heap→Prop} {d:DefRec} {K:Params→BFr} {CX:World→wN} {sp:World→Sp} {x:Str}
  (hn:l.most=some n) (hn2:n≤sizeLine) (hdf:d.params.defaults=[]) (hr:yw k callerA) (hY:∀ (w:World) (h:Heap),YP w h→(K w.params).In h) (F:∀ (w:World) (mg:Str→Option Value) (fa:Addr) (h:Heap),(K w.params).In h→h.Ns mainGlobals mg→mg d.name=some (.ref fa) →
   ∃ fd:FuncData,(∀ (s:Shared) (u:Value),BindsTo s fd ⟨[u],[]⟩ [(x,u)]) ∧
    ∀ base:Heap,(K w.params).In base→base.Ns mainGlobals mg→zL l.prog w (K w.params) mg base (CX w) k fa fd [x] (sp w)) (hsp:∀ (w:World) (H:Hp) (a:Addr) (ns:List Int),ns.length≤n→nM H→zZ (K w.params) H a (ns.map V.int)→sp w [.ref a] H (fun v _=>v = .bl true) fun _ _ _=>False) (hCX:∀ (w:World) (H:Hp) (s:Shared) (e:Value) (s':Shared),CX w [] H s (fun _ _ _=>False) e s'→False) :
  PySem.W.WalkO q loose XP YP l.row.toRowW d [] (fun f vs=>PySem.call f vs):=by
 refine Att.Wb hn hdf fun w s₀ s₁ mg mb fa o pm cd doc a vs ns G Y ho hd hcd hmg hobj hints hlen hg=>?_
 have KX:=hY w _ Y
 obtain⟨fd,hb,hF⟩:=F w mg fa _ KX G.T.g hmg
 exact OJ KX G.T.g G.T.b G.T.builtins G.T.nolimit hg hobj hints (cJ hlen hn2) hr hF hb (fun H hO hS=>hsp w H a ns hlen hO hS) fun H e s'=>hCX w H s₁ e s'
abbrev z8:wN:=fun _ _ _ _ _ _=>False
abbrev E0:XK:=fun _ _ _=>False
theorem zC {X:Cx}:yG z8 X E0:=fun _ _ _ _ _ _ _ h=>h.elim
structure qJ (K:BFr) (x qual:Str) (st:Stmt) (f:Addr) (fd:FuncData):Prop where
 ex:∃ (oc:Value) (od:Option Addr) (kV doc pm:Value) (an:Option Addr) (cdv ct:Value) (osl:Array (Option Value)),
  fd=PySem.W.fnOf x qual (jJ st) (yJ st) (zO st) .none kV doc pm an cdv ct∧K.lookup f=some ⟨oc,od,.func fd,osl⟩∧PySem.W.codeIn K cdv qual=true
 kp:PySem.W.keepIn K (.ref f)=true
section
variable {P:Program} {w:World} {K:BFr} {mg:Str→Option Value} {base:Heap}
theorem qJ.ok {x qual:Str} {st:Stmt} {f:Addr} {fd:FuncData} {N ps:List Str} {k:Nat} {sp:Sp} (F:qJ K x qual st f fd) (S:uW N ps (zO st)) (len:∀ vs H Q E,sp vs H Q E→vs.length=ps.length) (hbody:∀ (cdv:Value) (A:Around) (outer:List Env) (s:Shared) (H:Hp) (vs:List V) (Q:VK) (E:XK),yw k (A.deeper (envOfC qual (zO st) s.heap.objs.size f cdv))→sp vs H Q E →
   ∃ t,yW (wG z8 P w K mg base N qual (zO st) f cdv A outer s H E).nox (yJ st) t∧t { nx:=fun _ H'=>Q .non H',rt:=Q } (vP N vs) H):zL P w K mg base z8 (k+1) f fd ps sp:=by
 obtain⟨oc,od,kV,doc,pm,an,cdv,ct,osl,rfl,lk,hcd⟩:=F.ex
 refine pO lk hcd S len fun A outer s H vs Q E hr hsp=>?_
 obtain⟨t,h,q⟩:=hbody cdv A outer s H vs Q E hr hsp
 exact⟨t,h.nox,q⟩
theorem qJ.binds {x qual:Str} {st:Stmt} {f:Addr} {fd:FuncData} {ps:List Str} (F:qJ K x qual st f fd) (h:∀ (kV doc pm:Value) (an:Option Addr) (cdv ct:Value) (us:List Value),us.length=ps.length→bindArgs (PySem.W.fnOf x qual (jJ st) (yJ st) (zO st) .none kV doc pm an cdv ct) ⟨us,[]⟩=pure (ps.zip us)):jV K fd ps []:=by
 obtain⟨oc,od,kV,doc,pm,an,cdv,ct,osl,rfl,lk,hcd⟩:=F.ex
 exact .all (h kV doc pm an cdv ct)
theorem MH {x qual:Str} {st:Stmt} {f:Addr} {oc:Value} {od an:Option Addr} {osl:Array (Option Value)} {kV doc pm cdv ct:Value} (l:K.lookup f=some ⟨oc,od,.func (PySem.W.fnOf x qual (jJ st) (yJ st) (zO st) .none kV doc pm an cdv ct),osl⟩) (c:PySem.W.codeIn K cdv qual=true) (k:PySem.W.keepIn K (.ref f)=true):qJ K x qual st f (PySem.W.fnOf x qual (jJ st) (yJ st) (zO st) .none kV doc pm an cdv ct):=⟨⟨oc,od,kV,doc,pm,an,cdv,ct,osl,rfl,l,c⟩,k⟩
end
theorem X3 {A:Around} {k:Nat} (hr:yw k A):A.units+1<cLine:=C6 (dh (by decide:1≤64) _) hr.units
section
variable {X:Cx}
theorem pv (i:Nat) {x:Str} {pos:Pos} (hN:X.N[i]? = some x:=by rfl) (hv:TK X.env.scope x:=by first | exact Or.inl rfl | exact Or.inr (Or.inl rfl) | exact Or.inr (Or.inr rfl)) (hd:(x==("__debug__":Str))=false:=by decide) (hcd:(x==("__classdict__":Str))=false:=by decide):PE X (.Name x pos) (zP i):=Nf hN hv hd hcd
end
theorem qD {A B:Prop} (h:B):if false=true then A else B:=by
 rw[if_neg cZ]
 exact h
theorem qV {A B:Prop} (h:A):if true=true then A else B:=by
 rw[if_pos rfl]
 exact h
theorem ye {c A B:Prop} [Decidable c] (h1:c→A) (h2:¬ c→B):if c then A else B:=by
 by_cases h:c
 ·rw[if_pos h]
  exact h1 h
 ·rw[if_neg h]
  exact h2 h
noncomputable def zq (H H':Hp):Prop:=∀ b o,H b=some o→H' b=some o
theorem zq.refl (H:Hp):zq H H:=fun _ _ h=>h
theorem zq.trans {H H1 H2:Hp} (a:zq H H1) (b:zq H1 H2):zq H H2:=fun c o h=>b c o (a c o h)
theorem zq.free {H H':Hp} (e:zq H H') {l:Addr} (h:H' l=Option.none):H l=Option.none:=by
 cases q:H l with
 | none=>rfl
 | some o =>
  rw[e l o q] at h
  cases h
theorem zq.seq {K:BFr} {H H':Hp} {a:Addr} {xs:List V} (e:zq H H') (h:zZ K H a xs):zZ K H' a xs:=by
 rcases h with (h | ⟨o,h⟩) | h
 ·exact .inl (.inl (e _ _ h))
 ·exact .inl (.inr ⟨o,e _ _ h⟩)
 ·exact .inr h
end L2
namespace XK
open PySem PySem.W PySem.Spec PySem.Calls PyProof.Rows
section
variable {prog:Program} {w:World} {A:Around} {E:Value→Shared→Prop} {s:Shared} {K:Frag} {x D:Addr} {ox:Obj}
structure jn (K:Frag) (D:Addr):Prop where
 cls:(clsIn K D).isSome=true
 ga:findIn K (.ref D) "__getattribute__" = some (some (.builtin "BaseException.__getattribute__"))
 hook:findIn K (.ref D) "__getattr__" = some none
 ca:findIn K (.ref D) "__class__" = some (some (.builtin "object.__class__"))
 get:specialIn K (.builtin "object.__class__") "__get__" = some (some (.builtin "getset_descriptor.__get__"))
 tk:takesIn K (.builtin "object.__class__")=some true
 ob:mroIn K D (.type "object")=some true
 bx:mroIn K D (.type "BaseException")=some true
theorem rP (c:jn K D):findObj K D none "__class__" = some (.bind (.builtin "getset_descriptor.__get__") (.builtin "object.__class__")):=by
 obtain⟨cd,hc⟩:=C5.mp c.cls
 unfold findObj
 rw[hc,Option.bind_some,c.ca,Option.bind_some]
 simp[c.get,c.tk]
theorem PQ {nameV:Value} {M:Model} {Q:Unit→Shared→Prop} (X:K.In s.heap) (c:jn K D) (I:InstAt s.heap x ox D none) (h:Q () s) :
  wpAny M A (checkBuiltinCall "BaseException.__getattribute__" ⟨[.ref x,nameV],[]⟩) Q E s:=by
 have hk:builtinKind "BaseException.__getattribute__" = some .slot:=by decide +kernel
 have hsplit:splitId "BaseException.__getattribute__" = some ("BaseException","__getattribute__"):=by decide +kernel
 have ha:=F.args_bexc_ga (.ref x) nameV
 have L0:=I.type (M:=M)
 have L1:=looks_mroIn (M:=M) X c.bx
 obtain⟨hh,g,d,t,os⟩:=s
 simp only[checkBuiltinCall,hk,hsplit]
 unfold isInstance
 repeat (first | exact h | refine wpAny_bind (L0.at ?_) | refine wpAny_bind (L1.at ?_) | refine L0.at ?_ | refine L1.at ?_ | wp_step)
theorem PX {tk:Tok} {Q:Fin→Shared→Prop} (X:K.In s.heap) (c:jn K D) (I:InstAt s.heap x ox D none) (h:Q (.done (.ret (.ref D))) s) :
  wpAny (model prog w) A (Builtin.«object.__getattribute__» ⟨[.ref x,.str "__class__" tk],[]⟩) Q E s:=by
 have L0:=I.type (M:=model prog w)
 have L1:=looks_find (M:=model prog w) X I (rP c)
 obtain⟨hh,g,d,t,os⟩:=s
 unfold Builtin.«object.__getattribute__»
 repeat (first | refine wpAny_bind (L0.at ?_) | refine wpAny_bind (L1.at ?_) | wp_step)
 exact class_get X I c.ob (wpAny_pure h)
theorem mK {Q:Option Value→Shared→Prop} (X:K.In s.heap) (c:jn K D) (I:InstAt s.heap x ox D none) (h:Q (some (.ref D)) { s with toks:=s.toks+1 }) :
  wpAny (model prog w) A (getAttr? (.ref x) "__class__") Q E s:=by
 have L0:=I.type (M:=model prog w)
 have L1:=looks_findIn (M:=model prog w) X c.ga
 have L2:=looks_findIn (M:=model prog w) X c.hook
 have f3:=PySem.F.attr_ValueError.ga.bind (.ref x)
 have hx2:(Value.builtin "BaseException.__getattribute__" == Value.builtin "object.__getattribute__")=false:=by decide +kernel
 have hx1:(onTheHeap (Value.ref D)&&Value.builtin "BaseException.__getattribute__" == Value.builtin "object.__getattribute__")=false:=by rw[hx2];rfl
 obtain⟨hh,g,d,t,os⟩:=s
 unfold getAttr? getAttrBy? getAttrBy
 refine wpAny_bind (wpAny_mkText (wpAny_bind (wpAny_attempt (wpAny_holding (wpAny_bind (L0.at (wpAny_bind (L1.at ?_))))))))
 dsimp only
 rw[hx1,if_neg cZ]
 unfold getAttrByItsOwn hookBefore
 rw[show onTheHeap (Value.ref D)=true from rfl,if_pos rfl]
 refine wpAny_bind (L2.at ?_)
 refine wpAny_bind (wpAny_attempt (wpAny_holding ?_))
 unfold callGetattribute
 rw[C9,if_neg cZ]
 unfold boundAndCalled
 rw[f3]
 refine wpAny_bind (wpAny_pure ?_)
 refine wpAny_call (codeAny_call_builtin PySem.F.attr_ValueError.ga.plain F.entry_bexc_ga (PQ (s:=⟨hh,g,d,t+1,os⟩) X c I (PX (s:=⟨hh,g,d,t+1,os⟩) X c I ?_)))
 repeat (first | exact h | wp_step)
theorem OU (c:jn K D):KitX K (.ref x) (.ref D) (fun h=>InstAt h x ox D none) where
 ty:=fun _ _ _ I=>I.type
 it:=fun M h X _=>by
  obtain⟨cd,hc⟩:=C5.mp c.cls
  unfold clsIn at hc
  split at hc
  ·rename_i ho
   intro A' Q' E' s' k q
   unfold isType loadHead
   exact wpAny_bind (wpAny_loadPart (k _ _ (X _ _ ho)) (wpAny_pure q))
  ·cases hc
 ne:=fun h tp dd its n sl X htp=>by
  obtain⟨cd,hc⟩:=C5.mp c.cls
  refine Bool.eq_false_iff.mpr fun q=>?_
  obtain rfl:D=tp:=Value.ref.inj (beq_iff_eq.mp q)
  unfold clsIn at hc
  split at hc
  ·rename_i ho
   cases (X _ _ ho).symm.trans htp
  ·cases hc
 ca:=fun X I k=>mK X c I k
end
end XK
namespace L2
open PySem PySem.Spec PyProof.Rows
section
variable {M:Model} {A:Around} {E:Value→Shared→Prop} {s:Shared}
structure lI (fl:List Addr) (e:Addr) (oe:Obj) (mark:Value) (h h':Heap) (T:Addr):Prop where
 keep:∀ b o,b≠e→b∉fl→h.get? b=some o→h'.get? b=some o
 slot:∀ b o,b≠e→h.get? b=some o→∃ sl,h'.get? b=some { o with slots:=sl }
 new:h.objs.size≤T
 recd:h'.get? e=some (oe.mapFields (·.setIfInBounds 1 (.ref T)))
 head:∃ oT ts,h'.get? T=some oT∧oT.data = .fields ts∧ts[3]? = some mark
theorem oQ {base:Heap} {env:Env} {outer:List Env} {L e:Addr} {oe:Obj} {vs:Array Value} {head:Value} {b:Bool} {Q:Unit→Shared→Prop}
  (hfr:A.frames=some (env::outer)) (hl:s.heap.FunFrames base (env::outer)) (hf:env.frame=some L) (he:s.heap.get? e=some oe) (hd:oe.data = .fields vs) (hz:1<vs.size) (k:∀ h' T,lI ((env::outer).filterMap (·.frame)) e oe (rawInt L) s.heap h' T→Q () { s with heap:=h' }) :
  wpAny M A (do setField (.ref e) 1 (← EntryCells.newEntry head (← frameOf env) .none (rawInt L) .none (← entryPlaceOf L b))) Q E s:=by
 have off:e∉(env::outer).filterMap (·.frame):=fun hm=>by
  obtain⟨_,o,ho,nf⟩:=hl.mem hm
  rw[he] at ho
  cases ho
  exact nf vs hd
 refine wpAny_bind (wpAny_frameOf_fun hfr hl hf fun g so=>?_)
 refine wpAny_bind (wpAny_entryPlaceOf fun pl place=>?_)
 refine wpAny_bind ?_
 unfold EntryCells.newEntry newFields
 refine wpAny_newObj_type ?_ (place.sizeOk5 _ _ _ _ _)
 have g1:g.get? e=some oe:=(so.2.1 e off).trans he
 have g2:=Cg (h:=g) { cls:=.type "traceback",dict:=none,data:=.fields ([head,.ref L,.none,rawInt L,.none]++(if pl.isEmpty then List.replicate 6 Value.none else pl)).toArray } g1
 have ne:g.objs.size≠e:=dZ (cD g1)
 refine wpAny_setField g2 hd hz (k _ g.objs.size ?_)
 have oth:∀ c o,c≠e→g.get? c=some o→((g.push { cls:=.type "traceback",dict:=none,data:=.fields ([head,.ref L,.none,rawInt L,.none]++(if pl.isEmpty then List.replicate 6 Value.none else pl)).toArray }).update e (Obj.mapFields (·.setIfInBounds 1 (Value.ref g.objs.size)))).get? c=some o:=fun c o hc q=>by
  rw[CD _ _ (Ne.symm hc)]
  exact Cg _ q
 refine⟨fun c o hc hm q=>oth c o hc ((so.2.1 c hm).trans q),fun c o hc q=>?_,by rw[so.1];exact cx _,?_,?_⟩
 ·obtain⟨sl,z⟩:=so.2.2 c o q
  exact⟨sl,oth c _ hc z⟩
 ·exact C7 _ g2 (Obj.isFreed_of_fields (Obj.data_mapFields hd _))
 ·refine⟨_,_,(CD _ _ (Ne.symm ne)).trans (Co g rfl),rfl,?_⟩
  simp
end
abbrev CT:=Hp→Array Value→Prop
noncomputable def C0:CT:=fun _ vs=>vs[2]? = some .none
noncomputable def wH:CT:=fun H vs=>vs[2]? = some .none∨∃ eb ob ws u,vs[2]? = some (.ref eb)∧H eb=some (.frz ob u)∧ob.data = .fields ws∧ws[2]? = some .none
class Zm (C:CT):Prop where
 keep:∀ {H:Hp} {vs:Array Value} {v:Value},C H vs→C H (vs.setIfInBounds 1 v)
 zero:∀ {H:Hp} {vs:Array Value},vs[2]? = some .none→C H vs
 ctx:∀ {H:Hp} {vs:Array Value},C H vs→wH H vs
theorem PM {vs:Array Value} {v:Value} {n:Value} (h:vs[2]? = some n):(vs.setIfInBounds 1 v)[2]? = some n:=by
 rw[Array.getElem?_setIfInBounds_ne (by decide)]
 exact h
noncomputable instance:Zm C0:=⟨PM,id,.inl⟩
noncomputable instance:Zm wH:=⟨fun h=>h.imp PM fun⟨eb,ob,ws,u,f1,f2⟩=>⟨eb,ob,ws,u,PM f1,f2⟩,.inl,id⟩
noncomputable def uO (C:CT) (X:Cx) (pins:List (Addr × Obj)) (H:Hp) (ea:Addr) (cls fl:Value) (h:Heap):Prop :=
 yq X pins H ea∧∃ oe vs,h.get? ea=some oe∧(oe.cls=cls∧oe.dict=none)∧oe.data = .fields vs∧C H vs ∧
  ((vs[1]? = some .none∧fl = .none)∨∃ T oT ts,vs[1]? = some (.ref T)∧T≠ea∧yq X pins H T∧h.get? T=some oT∧oT.data = .fields ts∧ts[3]? = some fl)
section
variable {X:Cx} {pins:List (Addr × Obj)} {σ:St} {H:Hp} {s:Shared} {ea:Addr} {cls fl:Value} {M:Model} {A:Around} {E:Value→Shared→Prop} {Q:Unit→Shared→Prop} {C:CT} [ct:Zm C]
theorem zJ.flown (I:zJ X pins σ H s) {b:Addr} (f:yq X pins H b) {h':Heap} (k:∀ c o,c≠b→s.heap.get? c=some o→h'.get? c=some o):zJ X pins σ H { s with heap:=h' } :=
 I.turned (t':=s.toks) k f.1 f.2.1 f.2.2.2.1 f.2.2.2.2.1 f.2.2.2.2.2
theorem yc.some {P:Program} {w:World} {h:Heap} {a:Addr} {o:HO} (x:yc P w H h a o):∃ u,h.get? a=some u:=by
 cases o with
 | lst xs=>obtain⟨_,_,_,_,e⟩:=x;exact⟨_,e⟩
 | tup xs=>obtain⟨_,_,_,u,e,_⟩:=x;exact⟨_,e⟩
 | dK kvs=>obtain⟨_,_,_,_,u,_,_,e,_⟩:=x;exact⟨u,e⟩
 | dT kvs=>obtain⟨_,_,_,_,u,_,_,e,_⟩:=x;exact⟨u,e⟩
 | set S n=>obtain⟨u,_,_,_,e,_⟩:=x;exact⟨u,e⟩
 | ins C dx fs=>obtain⟨_,_,_,e,_⟩:=x;exact⟨_,e⟩
 | own y=>exact x
 | xd fs=>obtain⟨_,⟨u,_,_,e,_⟩,_⟩:=x;exact⟨u,e⟩
 | rng lo hi=>obtain⟨_,_,_,e⟩:=x;exact⟨_,e⟩
 | frz ob u=>obtain⟨e,_⟩:=x;exact⟨_,e⟩
 | tbl ps=>exact⟨_,x⟩
 | met f y=>exact⟨_,x⟩
 | ext φ=>exact x.2.1
theorem zJ.none_of (I:zJ X pins σ H s) {b:Addr} (hb:s.heap.get? b=none):H b=none:=by
 cases q:H b with
 | none=>rfl
 | some o =>
  obtain⟨u,e⟩:=(I.hok b o q).some
  rw[hb] at e
  cases e
theorem zJ.fpNone {H':Hp} (I:zJ X pins σ H s) {b:Addr} (hb:s.heap.get? b=none) (hn:H' b=none):yq X pins H' b:=by
 refine⟨hn,fun z=>?_,fun z=>?_,?_,fun x c e z=>?_,fun p hp z=>?_⟩
 ·obtain⟨m,⟨o,_,_,e,_⟩,_⟩:=I.loc
  rw[← z,hb] at e
  cases e
 ·obtain⟨_,o,e,_⟩:=I.funs.mem z
  rw[hb] at e
  cases e
 ·by_cases hx:b∈X.ex
  ·exact .inl hx
  ·refine .inr ?_
   cases q:X.s₀.heap.get? b with
   | none=>rfl
   | some o =>
    obtain⟨o',e⟩:=I.base.there b o q hx
    rw[hb] at e
    cases e
 ·obtain⟨v,o,e',_⟩:=I.cell x c e
  rw[z,hb] at e'
  cases e'
 ·have e:=(I.pin p hp).1
  rw[z,hb] at e
  cases e
theorem j6 (I:zJ X pins σ H s) (F:uO C X pins H ea cls fl s.heap) (k:∀ s',zJ X pins σ H s'→uO C X pins H ea cls .none s'.heap→Q () s') :
  wpAny M A (setFlight (.ref ea) none) Q E s:=by
 obtain⟨f0,oe,vs,he,hc,hd,h2,hh⟩:=F
 unfold setFlight
 rcases hh with ⟨h1,rfl⟩ | ⟨T,oT,ts,h1,hne,fT,hT,hdT,h3⟩
 ·refine wpAny_bind (wpAny_field he hd h1 ?_)
  rw[if_neg (by decide)]
  exact wpAny_pure (k s I ⟨f0,oe,vs,he,hc,hd,h2,.inl ⟨h1,rfl⟩⟩)
 ·have hz:3<ts.size:=(CP.mp h3).1
  refine wpAny_bind (wpAny_field he hd h1 ?_)
  rw[if_pos (show (Value.ref T != Value.none)=true by simp)]
  have oth:∀ c,c≠T→(s.heap.update T (Obj.mapFields (·.setIfInBounds 3 ((none:Option Addr).elim Value.none fun f=>rawInt f)))).get? c=s.heap.get? c:=fun c hc=>CD _ _ (Ne.symm hc)
  have hT':=C7 (Obj.mapFields (·.setIfInBounds 3 ((none:Option Addr).elim Value.none fun f=>rawInt f))) hT (Obj.isFreed_of_fields (Obj.data_mapFields hdT _))
  refine wpAny_setField hT hdT hz (k _ (I.flown fT fun c o hc q=>(oth c hc).trans q) ⟨f0,oe,vs,(oth ea (Ne.symm hne)).trans he,hc,hd,h2,.inr ⟨T,_,_,h1,hne,fT,hT',Obj.data_mapFields hdT _,?_⟩⟩)
  simp[hz]
theorem Q0 (f:Array Value→Array Value) (o:Obj):(Obj.mapFields f o).dict=o.dict:=by
 obtain⟨c,d,dt,sl⟩:=o
 cases dt <;> rfl
theorem YK (I:zJ X pins σ H s) (hs:X.stack=X.env::X.outer) (hf:X.env.frame=some X.env.locals) (hfr:A.frames=some X.stack) {oe:Obj} {vs:Array Value} {head:Value} {b:Bool}
  (f0:yq X pins H ea) (he:s.heap.get? ea=some oe) (hc:oe.cls=cls∧oe.dict=none) (hd:oe.data = .fields vs) (h2:C H vs) (hz:1<vs.size) (k:∀ s',zJ X pins σ H s'→uO C X pins H ea cls (rawInt X.env.locals) s'.heap→Q () s') :
  wpAny M A (do setField (.ref ea) 1 (← EntryCells.newEntry head (← frameOf X.env) .none (rawInt X.env.locals) .none (← entryPlaceOf X.env.locals b))) Q E s:=by
 have stk:s.heap.FunFrames X.base (X.env::X.outer):=by
  have q:=I.stack
  rw[hs] at q
  exact q
 have fm:∀ b,b∈(X.env::X.outer).filterMap (·.frame)↔b=X.env.locals∨b∈X.fs:=fun b=>by
  rw[dA,hf]
  exact cy
 have fre:∀ b∈(X.env::X.outer).filterMap (·.frame),H b=none:=fun b hb=>I.stkFree b (by rw[hs];exact hb)
 refine oQ (hfr.trans (congrArg some hs)) stk hf he hd hz fun h' T W=>?_
 have nT:ea≠T:=Cc (Cw (cD he) W.new)
 have I':zJ X pins σ H { s with heap:=h' }:=by
  refine I.step (g':=s.gens) (d':=s.drawn) (t':=s.toks) (ch:=[ea]) (fun b hb=>?_) (fun b o hL hb hc q _=>?_) (fun b o _ _ hc q _=>W.slot b o (fun z=>hc (by simp[z])) q) (fun _ _ _ _ n=>n)
   (fun b o hc q=>?_) (fun _ _ q=>q) (fun _ _ _ q=>q) (fun _ ps q=>⟨#[],by rw[q];simp⟩) (fun m hm=>?_) (fun b u q=>?_) I.bare
  ·obtain rfl:b=ea:=by simpa using hb
   exact⟨f0.2.2.2.1,f0.2.1,f0.2.2.2.2.1,f0.2.2.2.2.2⟩
  ·exact W.keep b o (fun z=>hc (by simp[z])) (fun z=>((fm b).mp z).elim hL hb) q
  ·obtain⟨sl,z⟩:=W.slot b o (fun z=>hc (by simp[z])) q
   exact⟨_,z⟩
  ·obtain⟨o,es,ep,ho,r⟩:=hm
   obtain⟨sl,z⟩:=W.slot _ o (Ne.symm f0.2.1) ho
   exact⟨_,es,ep,z,r⟩
  ·refine (I.hok b u q).stay (fun c v hc z=>?_) (fun _ z=>z) fun _ _ z=>z
   have nc:H c≠none:=by
    rcases hc with rfl | hc
    ·rw[q];simp
    ·rw[hc];simp
   exact W.keep c v (fun e=>nc (by rw[e];exact f0.1)) (fun e=>nc (fre c e)) z
 obtain⟨oT,ts,hT,hdT,h3⟩:=W.head
 refine k _ I' ⟨f0,_,_,W.recd,⟨(Obj.cls_mapFields _ _).trans hc.1,(Q0 _ _).trans hc.2⟩,Obj.data_mapFields hd _,?_,.inr ⟨T,oT,ts,?_,Ne.symm nT,?_,hT,hdT,h3⟩⟩
 ·exact ct.keep h2
 ·simp[hz]
 ·exact I.fpOk W.new (I.hok.fresh W.new)
theorem uU (I:zJ X pins σ H s) (F:uO C X pins H ea cls fl s.heap) (hs:X.stack=X.env::X.outer) (hf:X.env.frame=some X.env.locals) (hfr:A.frames=some X.stack) (k:∀ s',zJ X pins σ H s'→uO C X pins H ea cls (rawInt X.env.locals) s'.heap→Q () s'):wpAny M A (noteFrame (.ref ea) X.env) Q E s:=by
 obtain⟨f0,oe,vs,he,hc,hd,h2,hh⟩:=F
 unfold noteFrame
 simp only[hf]
 rcases hh with ⟨h1,_⟩ | ⟨T,oT,ts,h1,hne,fT,hT,hdT,h3⟩
 ·refine wpAny_bind (wpAny_field he hd h1 ?_)
  rw[if_neg (by decide)]
  exact YK I hs hf hfr f0 he hc hd h2 (CP.mp h1).1 k
 ·have hz:3<ts.size:=(CP.mp h3).1
  refine wpAny_bind (wpAny_field he hd h1 ?_)
  rw[if_pos (show (Value.ref T != Value.none)=true by simp)]
  refine wpAny_bind (wpAny_field hT hdT h3 ?_)
  by_cases me:(fl==rawInt X.env.locals)=true
  ·rw[if_pos me]
   exact wpAny_pure (k s I ⟨f0,oe,vs,he,hc,hd,h2,.inr ⟨T,oT,ts,h1,hne,fT,hT,hdT,by rw[← eq_of_beq me];exact h3⟩⟩)
  rw[if_neg me]
  have oth:∀ c,c≠T→(s.heap.update T (Obj.mapFields (·.setIfInBounds 3 Value.none))).get? c=s.heap.get? c:=fun c hc=>CD _ _ (Ne.symm hc)
  refine wpAny_bind (wpAny_setField hT hdT hz ?_)
  exact YK (I.flown fT fun c o hc q=>(oth c hc).trans q) hs hf hfr f0 ((oth ea (Ne.symm hne)).trans he) hc hd h2 (CP.mp h1).1 k
end
noncomputable def OL (C:CT) (P:Program) (w:World):wN:=fun outer H s E e s'=>∃ (ea:Addr) (cls:Value) (H':Hp),e = .ref ea∧s'.os=s.os∧AllBare s'.gens∧Un (Gw outer) [] H H' s.heap s'.heap∧wI P w H' s'.heap ∧
 (s.heap.get? ea=none∧H' ea=none∧∃ oe vs,s'.heap.get? ea=some oe∧(oe.cls=cls∧oe.dict=none)∧oe.data = .fields vs∧C H' vs ∧
  ((vs[1]? = some .none)∨∃ T oT ts,vs[1]? = some (.ref T)∧T≠ea∧s.heap.get? T=none∧H' T=none∧s'.heap.get? T=some oT∧oT.data = .fields ts∧ts[3]? = some .none))∧E cls none H'
abbrev jf:=OL C0
abbrev nh:=OL wH
noncomputable def yo (C:CT) (X:Cx) (E:XK):Prop:=∀ (pins:List (Addr × Obj)) (σ:St) (H:Hp) (s:Shared) (ea:Addr) (cls fl:Value),zJ X pins σ H s→uO C X pins H ea cls fl s.heap→E cls none H→X.xe (.ref ea) s
abbrev MO:=yo C0
theorem yo.plain {C:CT} [ct:Zm C] {X:Cx} {E:XK} (t:yo C X E):MO X E:=fun pins σ H s ea cls fl I F q=>by
 obtain⟨f0,oe,vs,he,hc,hd,h2,hh⟩:=F
 exact t pins σ H s ea cls fl I ⟨f0,oe,vs,he,hc,hd,ct.zero h2,hh⟩ q
theorem jO {C:CT} {P:Program} {w:World} {X:Cx} {E:XK} (hP:X.prog=P) (hw:X.w=w) (t:yo C X E):yG (OL C P w) X E:=by
 subst hP hw
 intro pins σ H s e s' I c
 obtain⟨ea,cls,H',rfl,os,bare,un,hok,⟨n0,f0,oe,vs,he,hc,hd,h2,hh⟩,q⟩:=c
 have I':zJ X pins σ H' s':=I.call' (ch:=[]) os un hok bare fun b z=>absurd z (by simp)
 refine t pins σ H' s' ea cls .none I' ⟨I.fpNone n0 f0,oe,vs,he,hc,hd,h2,?_⟩ q
 rcases hh with h1 | ⟨T,oT,ts,h1,ne,nT,fT,hT,hdT,h3⟩
 ·exact .inl ⟨h1,rfl⟩
 ·exact .inr ⟨T,oT,ts,h1,ne,I.fpNone nT fT,hT,hdT,h3⟩
theorem ql {C:CT} [ct:Zm C] {P:Program} {w:World} {K:BFr} {mg:Str→Option Value} {base:Heap} {N:List Str} {qual:Str} {scope:Scope} {f:Addr} {cd:Value} {A:Around} {outer:List Env} {s:Shared} {H:Hp} {E:XK} :
  yo C (wG (OL C P w) P w K mg base N qual scope f cd A outer s H E) E:=by
 intro pins σ H' s' ea cls fl I F q
 show wpAny _ _ (leaving _ _) _ _ _
 unfold leaving
 refine wpAny_bind (uU I F rfl rfl I.ok.frames fun s1 I1 F1=>?_)
 refine j6 I1 F1 fun s2 I2 F2=>?_
 obtain⟨f0,oe,vs,he,hc,hd,h2,hh⟩:=F2
 have ge:∀ {b:Addr},yq (wG (OL C P w) P w K mg base N qual scope f cd A outer s H E) pins H' b→s.heap.get? b=none:=fun {b} z=>by
  rcases z.2.2.2.1 with z | z
  ·exact absurd (show b∈([]:List Addr) from z) (by simp)
  ·exact z
 refine⟨ea,cls,H',rfl,I2.os,I2.bare,I2.base,I2.hok,⟨ge f0,f0.1,oe,vs,he,hc,hd,h2,?_⟩,q⟩
 rcases hh with ⟨h1,_⟩ | ⟨T,oT,ts,h1,ne,fT,hT,hdT,h3⟩
 ·exact .inl h1
 ·exact .inr ⟨T,oT,ts,h1,ne,ge fT,fT.1,hT,hdT,h3⟩
theorem Xn {K:BFr} {h:Heap} {C:Addr} {bmB:List Value} {newId:String} (X:K.In h) (q:PySem.W.excIn K C bmB newId=true) :
  ∃ bm N nm qn bs hd sn sub ab col dd k0 k1 k2 k3 k5 mN,h.get? C=some (excClassObj nm qn C N bs bm hd sn sub ab col dd k0 k1 k2 k3 k5 newId)∧h.Ns N mN∧mN "__init__" = none∧OwnTail h bmB bm:=by
 unfold PySem.W.excIn at q
 split at q
 case h_2=>cases q
 case h_1 dd cd sl lk =>
  split at q
  case h_2=>cases q
  case h_1 C' bm k0 k1 k2 k3 n k5 em es =>
   simp only[cz,beq_iff_eq,dU] at q
   obtain⟨⟨⟨⟨⟨e1,e2⟩,e3⟩,e4⟩,e5⟩,e6⟩:=q
   subst e1 e2
   obtain⟨c1,c2,c3,c4,c5,c6,c7,c8,c9,c10,c11⟩:=cd
   dsimp only at em e3 e5 e6
   subst em e3
   obtain⟨ls⟩:=sl
   dsimp only at es
   subst es
   exact⟨bm,c4,c1,c5,c2,c6,c7,c8,c9,c10,dd,k0,k1,k2,k3,k5,_,X _ _ lk,.of_isNs (PySem.W.isNs_of_in X e5),PySem.W.nsMap_none_of_in X e5 e6,PySem.W.tail_of_in X e4⟩
section
variable {X:Cx} {E:XK} {x:Str} {C:Addr} {Ct:CT} [ct:Zm Ct] {e₀:Expr} {rest:List Expr} {t:TA} {np cpos pos:Pos}
noncomputable def nG (E:XK) (C:Addr) (t:TA):TS:=fun _ σ H=>t σ H fun vs H1=>vs.length≤sizeLine∧E (.ref C) none H1
theorem qP (hE:yo Ct X E) (hc:X.calm=true) (hg:Gl X x) (hm:X.mg x=some (.ref C)) (hx:PySem.W.excIn X.K C vB "ValueError.__new__" = true) (ha:PA X (e₀ :: rest) t) (he:starEach (e₀ :: rest) X.env=(false,eval e₀ X.env)::starEach rest X.env:=by exact zT rfl) (hpl:(backTo cpos (starEach rest X.env)).any (·.1)=false:=by exact yn rfl) (hdb:(x==("__debug__":Str))=false:=by decide) :
  PS X (.Raise (some (.Call (.Name x np) (e₀ :: rest) [] cpos)) none pos) (nG E C t):=by
 intro pins s σ H D I h
 obtain⟨bm,N,nm,qn,bs,hd,sn,sub,ab,col,dd,k0,k1,k2,k3,k5,mN,oC,oN,ni,T⟩:=Xn I.ok.mod.kin hx
 have FB:=PySem.F.excBase_ValueError
 refine wpAny_Raise_call_subT (C:=C) (nm:=nm) (q:=qn) (N:=N) (bs:=bs) (bm:=bm) (hdct:=hd) (sn:=sn) (sub:=sub) (ab:=ab) (col:=col) (dd:=dd) (k0:=k0) (k1:=k1) (k2:=k2) (k3:=k3) (k5:=k5) (mN:=mN)
  FB (T.hasType FB.hasBase) (I.ok.hd hc) (by rw[he];show (false || (backTo cpos (starEach rest X.env)).any (·.1))=false;rw[hpl];rfl) ni (jG I hg hm ⟨rfl,?_⟩ hdb)
 have q:=ha cpos pins s σ H _ I h
 rw[he] at q ⊢
 refine Calls.evalArgs_plain (q0 q fun us s2 ⟨vs,H1,I1,r,hl,w⟩=>⟨rfl,by show us.length≤sizeLine;rw[← r.length];exact hl,I1.bk _ _ oC,oN.keeps I1.bk,T.keeps I1.bk,fun h' e made=>?_⟩)
 obtain⟨t0,there,_,_⟩:=made.there
 exact hE pins σ H1 _ e (.ref C) .none (I1.kept (t':=s2.toks) made.keeps) ⟨I1.fpNone made.new (I1.none_of made.new),_,_,there,⟨rfl,rfl⟩,rfl,ct.zero rfl,.inl ⟨rfl,rfl⟩⟩ w
end
abbrev Cx.tr (X:Cx) (pn:List (Addr × Obj)) (E:Value→Shared→Prop):Cx:={ X with pn:=pn,xe:=E }
abbrev Cx.hdl (X:Cx) (pn:List (Addr × Obj)) (ea:Addr) (E:Value→Shared→Prop):Cx:={ X with pn:=pn,xe:=E,A:=X.A.mark (some (.ref ea)),calm:=false }
noncomputable def YF (ea:Addr) (oe:Obj):HO:=.frz oe (.ext fun h=>∃ o,h.get? ea=some o)
section
variable {X:Cx} {pn pins:List (Addr × Obj)} {σ:St} {H:Hp} {s:Shared} {E:Value→Shared→Prop} {ea:Addr}
theorem Cx.Ok.tr (ok:X.Ok):(X.tr pn E).Ok :=
 ⟨ok.mod,ok.kind,ok.glob,ok.blt,ok.above,ok.inj,ok.has,ok.cab,ok.hd,ok.frames,ok.stk,ok.exf,ok.bs,ok.bsz,ok.noex,ok.exfs,ok.funs,ok.frf⟩
theorem Cx.Ok.hdl (ok:X.Ok):(X.hdl pn ea E).Ok :=
 ⟨ok.mod,ok.kind,ok.glob,ok.blt,ok.above,ok.inj,ok.has,ok.cab,(fun z=>nomatch z),ok.frames,ok.stk,ok.exf,ok.bs,ok.bsz,ok.noex,ok.exfs,ok.funs,ok.frf⟩
theorem zJ.tr (I:zJ X pins σ H s):zJ (X.tr (X.pn++pins) E) [] σ H s :=
 ⟨I.ok.tr,I.os,I.bare,I.base,I.loc,I.cell,I.free,I.freeC,fun p hp=>I.pin p (by simpa using hp),I.hok,I.len⟩
theorem zJ.toHdl {E':Value→Shared→Prop} (I:zJ (X.tr pn E') [] σ H s) (ok:X.Ok):zJ (X.hdl pn ea E) [] σ H s :=
 ⟨ok.hdl,I.os,I.bare,I.base,I.loc,I.cell,I.free,I.freeC,I.pin,I.hok,I.len⟩
theorem zJ.ofHdl (I:zJ (X.hdl (X.pn++pins) ea E) [] σ H s) (ok:X.Ok):zJ X pins σ H s :=
 ⟨ok,I.os,I.bare,I.base,I.loc,I.cell,I.free,I.freeC,fun p hp=>I.pin p (by simpa using hp),I.hok,I.len⟩
theorem zJ.ofTr (I:zJ (X.tr (X.pn++pins) E) [] σ H s) (ok:X.Ok):zJ X pins σ H s :=
 ⟨ok,I.os,I.bare,I.base,I.loc,I.cell,I.free,I.freeC,fun p hp=>I.pin p (by simpa using hp),I.hok,I.len⟩
theorem uO.toHdl {C:CT} {E':Value→Shared→Prop} {cls fl:Value} {h:Heap} {eb:Addr} (F:uO C (X.tr pn E') [] H ea cls fl h):uO C (X.hdl pn eb E) [] H ea cls fl h:=F
theorem zJ.hold (I:zJ X pins σ H s) (f:yq X pins H ea) {oe:Obj} (he:s.heap.get? ea=some oe):zJ X pins σ (upd H ea (YF ea oe)) s:=by
 have off:∀ b u,H b=some u→b≠ea:=fun b u q z=>by rw[z,f.1] at q;cases q
 refine I.step (h':=s.heap) (g':=s.gens) (d':=s.drawn) (t':=s.toks) (ch:=[ea]) (fun b hb=>?_) (fun _ _ _ _ _ q _=>q) (fun b o _ _ _ q _=>⟨o.slots,q⟩) (fun b o hc _ n=>?_) (fun b o _ q=>⟨o,q⟩)
  (fun b xs q=>by rw[zm (off b _ q)];exact q) (fun b o u q=>by rw[zm (off b _ q)];exact q) (fun b ps q=>⟨#[],by rw[zm (off b _ q),q];simp⟩) (fun _ z=>z) (fun b u q=>?_) I.bare
 ·obtain rfl:b=ea:=by simpa using hb
  exact⟨f.2.2.2.1,f.2.1,f.2.2.2.2.1,f.2.2.2.2.2⟩
 ·rw[zm (fun z=>hc (by simp[z]))]
  exact n
 ·by_cases hb:b=ea
  ·subst hb
   rw[zj] at q
   cases q
   exact⟨he,⟨_,he⟩,⟨_,he⟩,fun h1 h2 ⟨o,e⟩ k=>⟨o,k o e⟩⟩
  ·rw[zm hb] at q
   exact (I.hok b u q).stay (fun _ _ _ z=>z) (fun c z=>by rw[zm (off c _ z)];exact z) fun c xs z=>by rw[zm (off c _ z)];exact z
theorem zJ.relocal {h':Heap} {m':Str→Option Value} {t':Nat} (I:zJ X pins σ H s) (hn:h'.Ns X.env.locals m') (hs:Heap.SameBut X.env.locals s.heap h') :
  zJ X pins (X.N.map fun _=>none) H { s with heap:=h',toks:=t' }:=by
 have nl:∀ b o,X.s₀.heap.get? b=some o→b≠X.env.locals:=fun b o e=>Cc (Cw (cD e) I.ok.above)
 refine⟨I.ok,I.os,I.bare,⟨fun b o e n hb hx=>?_,fun b o e n hb hx=>?_,I.base.free,fun b o e hx=>?_,I.base.tups,I.base.frzs,I.base.tbls⟩,⟨m',hn,fun i x v e1 e2 _=>?_⟩,fun x c e=>?_,I.free,I.freeC,fun p hp=>?_,fun b u q=>?_,by simp⟩
 ·exact (hs.2 b (nl b o e)).trans (I.base.keep b o e n hb hx)
 ·obtain⟨sl,q⟩:=I.base.slot b o e n hb hx
  exact⟨sl,(hs.2 b (nl b o e)).trans q⟩
 ·obtain⟨o',q⟩:=I.base.there b o e hx
  exact⟨o',(hs.2 b (nl b o e)).trans q⟩
 ·rw[cQ,e1] at e2
  cases e2
 ·obtain⟨v,z⟩:=I.cell x c e
  exact⟨v,z.sameBut hs (I.cne x c e)⟩
 ·obtain⟨e,n,ne,nf,d⟩:=I.pin p hp
  exact⟨(hs.2 p.1 ne).trans e,n,ne,nf,d⟩
 ·refine (I.hok b u q).stay (fun c v hc z=>(hs.2 c ?_).trans z) (fun _ z=>z) fun _ _ z=>z
  rintro rfl
  rcases hc with hc | hc
  ·rw[← hc,I.free] at q;cases q
  ·rw[I.free] at hc;cases hc
end
noncomputable def LI (C:CT) (X:Cx) (pn:List (Addr × Obj)) (R:XK):Value→Shared→Prop:=fun e s=>∃ (ea:Addr) (cls fl:Value) (σ:St) (H:Hp),e = .ref ea∧zJ (X.tr pn fun _ _=>True) [] σ H s∧uO C (X.tr pn fun _ _=>True) [] H ea cls fl s.heap∧R cls none H
abbrev Mz:=LI C0
theorem WN {C:CT} {X:Cx} {pn:List (Addr × Obj)} {R:XK}:yo C (X.tr pn (LI C X pn R)) R:=by
 intro pins σ H s ea cls fl I F q
 refine⟨ea,cls,fl,σ,H,rfl,⟨⟨I.ok.mod,I.ok.kind,I.ok.glob,I.ok.blt,I.ok.above,I.ok.inj,I.ok.has,I.ok.cab,I.ok.hd,I.ok.frames,I.ok.stk,I.ok.exf,I.ok.bs,I.ok.bsz,I.ok.noex,I.ok.exfs,I.ok.funs,I.ok.frf⟩,I.os,I.bare,I.base,I.loc,I.cell,I.free,I.freeC,fun p hp=>I.pin p ?_,I.hok,I.len⟩,?_,q⟩
 ·rw[Cv] at hp
  exact CF _ hp
 ·have cut:∀ {b:Addr},yq (X.tr pn (LI C X pn R)) pins H b→yq (X.tr pn fun _ _=>True) [] H b:=fun {b} f=>⟨f.1,f.2.1,f.2.2.1,f.2.2.2.1,f.2.2.2.2.1,fun p hp=>f.2.2.2.2.2 p (by rw[Cv] at hp;exact CF _ hp)⟩
  obtain⟨f0,oe,vs,he,hc,hd,h2,hh⟩:=F
  refine⟨cut f0,oe,vs,he,hc,hd,h2,?_⟩
  rcases hh with z | ⟨T,oT,ts,h1,ne,fT,hT,hdT,h3⟩
  ·exact .inl z
  ·exact .inr ⟨T,oT,ts,h1,ne,cut fT,hT,hdT,h3⟩
noncomputable def Lr (N:List Str) (D:uE):uE:={ nx:=fun _ H=>D.nx (N.map fun _=>none) H,rt:=D.rt,bk:=fun _ H=>D.bk (N.map fun _=>none) H,ct:=fun _ H=>D.ct (N.map fun _=>none) H }
noncomputable def Mg (C:CT) (R:XK) (N:List Str) (i:Nat) (tb:TS) (th:Addr→TS):TS:=fun D σ H=>tb D σ H∧∀ (ea:Addr) (oe:Obj) (vs:Array Value) (cls:Value) (σ':St) (H':Hp),R cls none H'→H' ea=none→oe.cls=cls→oe.dict=none →
 oe.data = .fields vs→C H' vs→σ'.length=N.length→th ea (Lr N D) (σ'.set i (some (.ref ea))) (upd H' ea (YF ea oe))
abbrev bq:=Mg C0
theorem Lf {C:CT} [ct:Zm C] {X:Cx} {x n:Str} {i:Nat} {c:Addr} {R:XK} {tb:TS} {th:Addr→TS} {body suite:List Stmt} {b₀:Stmt} {np hpos pos:Pos} (hs:X.stack=X.env::X.outer) (hf:X.env.frame=some X.env.locals) (hg:Gl X x) (hm:X.mg x=some (.ref c)) (hR:∀ cls o H,R cls o H→PySem.W.exmOne X.K cls (.ref c)=some true) (hN:X.N.Nodup) (hi:X.N[i]? = some n) (hn:X.env.scope.names.lookup n=some .local) (hb:∀ pn,yW (X.tr pn (LI C X pn R)) body tb) (hh:∀ pn ea E,yW (X.hdl pn ea E) (b₀ :: suite) (th ea)) (hdb:(x==("__debug__":Str))=false:=by decide) :
  PS X (.Try body [.ExceptHandler (some (.Name x np)) (some n) (b₀ :: suite) hpos] [] [] pos) (Mg C R X.N i tb th):=by
 intro pins s σ H D I h
 obtain⟨h1,h2⟩:=h
 have ok:=I.ok
 have cls0:(X.env.scope.kind == .class || (X.env.scope.kind == .module&&X.env.locals != X.env.globals))=false:=by rw[ok.kind];rfl
 refine wpAny_Try_except (wpAny_mono (hb (X.pn++pins) [] s σ H D I.tr h1) (fun f s1 q=>?_) fun e s1 q=>?_)
 ·cases f with
  | next =>
   obtain⟨σ',H',I',q⟩:=q
   exact wpAny_execs_nil ⟨σ',H',I'.ofTr ok,q⟩
  | brk=>obtain⟨σ',H',I',q⟩:=q;exact⟨σ',H',I'.ofTr ok,q⟩
  | cont=>obtain⟨σ',H',I',q⟩:=q;exact⟨σ',H',I'.ofTr ok,q⟩
  | ret u=>obtain⟨v,σ',H',I',r,q⟩:=q;exact⟨v,σ',H',I'.ofTr ok,r,q⟩
 ·obtain⟨ea,cls,fl,σ1,H1,rfl,I1,F1,r1⟩:=q
  refine uU (X:=X.tr (X.pn++pins) fun _ _=>True) I1 F1 hs hf I1.ok.frames fun s2 I2 F2=>?_
  refine j6 I2 F2 fun s3 I3 F3=>?_
  have J3:zJ (X.hdl (X.pn++pins) ea fun _ _=>True) [] σ1 H1 s3:=I3.toHdl ok
  obtain⟨_,oe3,_,he3,hc3,_⟩:=id F3
  refine wpAny_handleBy_cons (codeAny_handlers_test (jG J3 hg hm ?_ hdb)) (by intro q;cases q)
  have LT:PySem.W.Looks (model X.prog X.w) s3.heap (typeOf (.ref ea)) cls:=by
   rw[← hc3.1]
   exact (PySem.W.Looks.ld he3).andThen .now
  refine (PySem.W.exm_one J3.kIn LT (hR cls none H1 r1)).here ?_
  refine codeAny_handlers_suite_as ?_
  refine j6 J3 F3.toHdl fun s4 J4 F4=>?_
  obtain⟨f4,oe,vs,he,hc,hd,h2',_⟩:=F4
  have J5:=J4.hold f4 he
  refine w9 (X:=X.hdl (X.pn++pins) ea fun _ _=>True) J5 hN hi (.inl hn) (v:=.ref ea) rfl (fun s6 J6=>?_) (.inr hn)
  have len:σ1.length=X.N.length:=I1.len
  have J6':∀ E,zJ (X.hdl (X.pn++pins) ea E) [] (σ1.set i (some (.ref ea))) (upd H1 ea (YF ea oe)) s6:=fun E=>⟨ok.hdl,J6.os,J6.bare,J6.base,J6.loc,J6.cell,J6.free,J6.freeC,J6.pin,J6.hok,J6.len⟩
  refine wpAny_mono (hh (X.pn++pins) ea _ [] s6 _ _ (Lr X.N D) (J6' _) (h2 ea oe vs cls σ1 H1 r1 f4.1 hc.1 hc.2 hd h2' len)) (fun f s7 q=>?_) fun _ _ z=>z
  have go:∀ {σ7:St} {H7:Hp} {E7:Value→Shared→Prop},zJ (X.hdl (X.pn++pins) ea E7) [] σ7 H7 s7→(∀ s8,zJ X pins (X.N.map fun _=>none) H7 s8→SP X pins D f s8) →
    wpAny (model X.prog X.w) X.A (do bindName X.env n .none;unbindBehindTheSuite X.env n hpos) (fun _ s8=>SP X pins D f s8) X.xe s7:=fun {σ7 H7 E7} J k=>by
   obtain⟨m,hns,_⟩:=J.loc
   exact wpAny_nameGoes hn hns cls0 fun h' m' hn' hs'=>k _ ((J.ofHdl ok).relocal hn' hs')
  cases f with
  | next=>obtain⟨σ',H',I',q⟩:=q;exact go I' fun s8 I8=>⟨_,_,I8,q⟩
  | brk=>obtain⟨σ',H',I',q⟩:=q;exact go I' fun s8 I8=>⟨_,_,I8,q⟩
  | cont=>obtain⟨σ',H',I',q⟩:=q;exact go I' fun s8 I8=>⟨_,_,I8,q⟩
  | ret u=>obtain⟨v,σ',H',I',r,q⟩:=q;exact go I' fun s8 I8=>⟨v,_,_,I8,r,q⟩
theorem NU {X:Cx} {x n:Str} {i:Nat} {c:Addr} {R:XK} {tb:TS} {th:Addr→TS} {body suite:List Stmt} {b₀:Stmt} {np hpos pos:Pos} (hs:X.stack=X.env::X.outer) (hf:X.env.frame=some X.env.locals) (hg:Gl X x) (hm:X.mg x=some (.ref c)) (hR:∀ cls o H,R cls o H→PySem.W.exmOne X.K cls (.ref c)=some true) (hN:X.N.Nodup) (hi:X.N[i]? = some n) (hn:X.env.scope.names.lookup n=some .local) (hb:∀ pn,yW (X.tr pn (Mz X pn R)) body tb) (hh:∀ pn ea E,yW (X.hdl pn ea E) (b₀ :: suite) (th ea)) (hdb:(x==("__debug__":Str))=false:=by decide) :
  PS X (.Try body [.ExceptHandler (some (.Name x np)) (some n) (b₀ :: suite) hpos] [] [] pos) (bq R X.N i tb th):=Lf hs hf hg hm hR hN hi hn hb hh hdb
theorem Yw:entryFor table "proto.unchain" = some Builtin.«proto.unchain»:=entryFor_of_tree (by kernel_rfl)
section
variable {prog:Program} {w:World} {A:Around} {E:Value→Shared→Prop} {s:Shared}
theorem Vu {v slow:Value} {ea:Addr} {t:Bool} {oe:Obj} {vs:Array Value} {R:Result→Shared→Prop} (e2:s.heap.get? ea=some oe) (e3:oe.data = .fields vs) (e4:vs[2]? = some .none) (k:R (.ok (.ret .none)) s):codeAny (model prog w) A (.builtin "proto.unchain" ⟨[v,.ref ea,slow,.bool t],[]⟩) R s:=by
 refine codeAny_builtin Yw ?_
 unfold Builtin.«proto.unchain»
 refine wpAny_bind (wpAny_field e2 e3 e4 ?_)
 rw[if_pos (by decide)]
 refine wpAny_bind (wpAny_pure (wpAny_pure ?_))
 exact k
end
noncomputable def bJ (A:Around) (H:Hp):Prop:=A.handled=none∨∃ ea oe vs u,A.handled=some (.ref ea)∧H ea=some (.frz oe u)∧oe.data = .fields vs∧wH H vs
theorem wH.put {H:Hp} {vs:Array Value} {a:Addr} {o:HO} (c:wH H vs) (n:H a=none):wH (upd H a o) vs:=by
 rcases c with c | ⟨eb,ob,ws,u,f1,f2,f3,f4⟩
 ·exact .inl c
 ·exact .inr ⟨eb,ob,ws,u,f1,by rw[zm fun z=>by rw[z,n] at f2;cases f2];exact f2,f3,f4⟩
section
variable {X:Cx} {pins:List (Addr × Obj)} {σ:St} {H:Hp} {s:Shared}
end
noncomputable def j7 (X:Cx) (ifs:List Expr) (t:TT):Prop :=
 ∀ (pins:List (Addr × Obj)) (s:Shared) (σ:St) (H:Hp) (Q:Bool→Hp→Prop),zJ X pins σ H s→t σ H Q →
  wpAny (model X.prog X.w) X.A (forIn ifs true fun c r=>if r=true then do let ok ← isTrue c X.env (eval c X.env);pure (ForInStep.yield ok) else pure (ForInStep.yield r)) (TP X pins σ Q) X.xe s
noncomputable def qv:TT:=fun _ H Q=>Q true H
theorem qj {X:Cx}:j7 X [] qv:=fun _ _ _ H _ I h=>wpAny_tests_nil ⟨H,I,h⟩
theorem J8 {X:Cx} {c:Expr} {t:TT} (h:PT X c t):j7 X [c] t:=fun pins s σ H Q I q=>wpAny_tests_one (h pins s σ H Q I q)
theorem G2 {prog:Program} {w:World} {A:Around} {R:Result→Shared→Prop} {s:Shared} {elt tgt iter:Expr} {ifs:List Expr} {scope:Scope} {pos:Pos} {it acc:Value} {env:Env} {EX:Value→Shared→Prop} (hx:∀ x s',EX x s'→notedBy (model prog w) A env (fun e s'=>R (.error e) s') x s') (J:Nat→Shared→Prop) (turn:∀ n s,J n s→wpAny (model prog w) A (pyNext it) (fun r s1=>match r with
   | none=>R (.ok .next) s1
   | some v=>wpAny (model prog w) A (letOwnedTupleGo tgt it v) (fun _ s2=>wpAny (model prog w) A (assign tgt env v) (fun _ s3 =>
     wpAny (model prog w) A (forIn ifs true fun c r=>if r=true then do let ok ← isTrue c env (eval c env);pure (ForInStep.yield ok) else pure (ForInStep.yield r)) (fun ok s4 =>
      if ok=true then wpAny (model prog w) A (eval elt env) (fun x s5=>wpAny (model prog w) A (call (.builtin "list.append") [acc,x]) (fun _ s6=>∃ m,m<n∧J m s6) EX s5) EX s4
      else ∃ m,m<n∧J m s4) EX s3) EX s2) EX s1) EX s) (n:Nat) (h:J n s):codeAny (model prog w) A (.compLoop (.ListComp elt [⟨tgt,iter,ifs,0⟩] scope pos) 0 it acc env) R s:=by
 refine codeAny_loop rfl J (fun n s hJ=>?_) n h
 show wpAny _ A ((compTurn (.ListComp elt [⟨tgt,iter,ifs,0⟩] scope pos) 0 it acc env).onRaise (fun x=>do noteFrame x env;theTreesLotGoes x)) _ _ s
 refine wpAny_noted (wpAny_mono (E:=EX) ?_ (fun _ _ z=>z) hx)
 rw[compTurn_list]
 refine wpAny_bind (wpAny_standAt (wpAny_bind (q0 (turn n s hJ) fun r s1 h1=>?_)))
 cases r with
 | none=>exact wpAny_pure h1
 | some v =>
  refine wpAny_bind (q0 h1 fun _ s2 h2=>wpAny_bind (q0 h2 fun _ s3 h3=>wpAny_bind (q0 h3 fun ok s4 h4=>?_)))
  cases ok with
  | false=>exact wpAny_pure ⟨rfl,h4⟩
  | true=>exact wpAny_bind (wpAny_bind (q0 h4 fun x s5 h5=>wpAny_bind (q0 h5 fun _ s6 h6=>wpAny_pure (wpAny_pure ⟨rfl,h6⟩))))
noncomputable def Pk (src:List (Option Nat)) (σ:St):St:=src.map fun o=>o.bind fun j=>(σ[j]?).join
section
variable {X:Cx} {elt iter tgt:Expr} {ifs:List Expr} {scope:Scope} {cl:List (Str × Addr)} {Nc:List Str} {src:List (Option Nat)} {g:TG} {tt:TT} {te:TE}
structure Qq (X:Cx) (Nc:List Str) (scope:Scope) (cl:List (Str × Addr)) (src:List (Option Nat)):Prop where
 clos:closureFor scope X.env=pure cl
 kind:scope.kind = .function
 cell:∀ y∈scope.names,y.2≠.cell
 names:∀ y∈scope.names,y.2 = .local→scope.names.lookup y.1=some .local
 sub:∀ x c,cl.lookup x=some c→X.env.cells.lookup x=some c
 has:∀ x,((relabel scope X.env).names.lookup x=some .cell∨(relabel scope X.env).names.lookup x=some .free)→∃ c,cl.lookup x=some c
 frm:∀ (i j:Nat),src[i]? = some (some j)→∃ x,Nc[i]? = some x∧X.N[j]? = some x∧X.env.scope.names.lookup x=some .cell∧(relabel scope X.env).names.lookup x=some .cell
 len:src.length=Nc.length
end
structure ZA (k:Nat) (A:Around):Prop where
 dp:A.depth+3*k+5<recursionLimit
 un:A.units+16*k+200<cLine
theorem ZA.mono {j k:Nat} {A:Around} (r:ZA k A) (h:j≤k):ZA j A:=⟨by have:=r.dp;omega,by have:=r.un;omega⟩
structure U6 (P:Program) (w:World) (K:BFr) (mg:Str→Option Value) (base:Heap) (k:Nat) (f:Addr) (fd:FuncData) (ps:List Str) (sp:Sp):Prop where
 len:∀ vs H Q E,sp vs H Q E→vs.length=ps.length
 run:∀ (A:Around) (outer:List Env) (s:Shared) (H:Hp) (args:Args) (us:List Value) (vs:List V) (Q:VK),ZA k A→bJ A H→UJ P w K mg base A outer s H→BindsTo s fd args (ps.zip us)→qf vs us→sp vs H Q E0 →
  codeAny (model P w) A (.call (.ref f) args) (CR z8 outer P w H s Q E0) s
noncomputable def TY (P:Program) (w:World) (K:BFr) (mg:Str→Option Value) (base:Heap) (N:List Str) (qual:Str) (scope:Scope) (f:Addr) (cd:Value) (A:Around) (outer:List Env) (s:Shared) (H:Hp):Cx :=
 { wG z8 P w K mg base N qual scope f cd A outer s H E0 with calm:=false,xe:=fun _ _=>False }
section
variable {P:Program} {w:World} {K:BFr} {mg:Str→Option Value} {base:Heap}
theorem qJ.okQ {x qual:Str} {st:Stmt} {f:Addr} {fd:FuncData} {N ps:List Str} {k:Nat} {sp:Sp} (F:qJ K x qual st f fd) (S:uW N ps (zO st)) (len:∀ vs H Q E,sp vs H Q E→vs.length=ps.length) (hbody:∀ (cdv:Value) (A:Around) (outer:List Env) (s:Shared) (H:Hp) (vs:List V) (Q:VK),ZA k (A.deeper (envOfC qual (zO st) s.heap.objs.size f cdv))→bJ (A.deeper (envOfC qual (zO st) s.heap.objs.size f cdv)) H→sp vs H Q E0 →
   ∃ t,yW (TY P w K mg base N qual (zO st) f cdv A outer s H) (yJ st) t∧t { nx:=fun _ H'=>Q .non H',rt:=Q } (vP N vs) H):U6 P w K mg base (k+1) f fd ps sp:=by
 obtain⟨oc,od,kV,doc,pm,an,cdv,ct,osl,rfl,lk,hcd⟩:=F.ex
 refine⟨len,fun A outer s H args us vs Q hr hh e0 hb r hsp=>?_⟩
 have hl:=len _ _ _ _ hsp
 have KX:K.In s.heap:=e0.mod.kin.keeps fun b o e=>(e0.bs b o e).1
 have lim:s.heap.NoLimit:=e0.mod.nolimit.keeps fun b o e=>(e0.bs b o e).1
 have dpt:A.depth<recursionLimit:=by have:=hr.dp;omega
 have kinds:∀ y∈ps.zip us,(zO st).names.lookup y.1=some .local∨((zO st).names.lookup y.1=some .cell∧((cellsFrom (s.heap.objs.size+1) (zO st).names []).lookup y.1).isSome=true):=fun⟨n,v⟩ hy=>by
  rcases S.par n (d4 hy).1 with q | q
  ·exact .inl q
  ·exact .inr ⟨q,PySem.W.cellsFrom_some _ _ _ (.inl q)⟩
 refine codeAny_call_function dpt (KX _ _ lk) rfl S.co S.gen rfl (PySem.W.codeRec_of KX hcd) (hb _ _ _ _ ?_)
 refine wpAny_newFunctionEnv_cells S.kind kinds fun env he s1 x=>?_
 subst he
 refine⟨lim.keeps x.toInCall.keep,codeAny_func ?_⟩
 have rq:ZA k (A.deeper (envOfC qual (zO st) s.heap.objs.size f cdv)):=⟨by have:=hr.dp;show A.depth+1+3*k+5<_;omega,by have:=hr.un;show A.units+3+16*k+200<_;omega⟩
 obtain⟨t,ht,hq⟩:=hbody cdv A outer s H vs Q rq hh hsp
 have J:=YO (CX:=z8) (E:=E0) (A:={ A with handled:=none }) S rfl ⟨e0.frames,e0.mod,e0.bs,e0.bsz,e0.funs,e0.frf,e0.hok,e0.bare⟩ hl r x
 have I:zJ (TY P w K mg base N qual (zO st) f cdv A outer s H) [] (vP N vs) H s1 :=
  ⟨⟨J.ok.mod,J.ok.kind,J.ok.glob,J.ok.blt,J.ok.above,J.ok.inj,J.ok.has,J.ok.cab,(fun z=>nomatch z),Around.frames_deeper e0.frames,J.ok.stk,J.ok.exf,J.ok.bs,J.ok.bsz,J.ok.noex,J.ok.exfs,J.ok.funs,J.ok.frf⟩,J.os,J.bare,J.base,J.loc,J.cell,J.free,J.freeC,J.pin,J.hok,J.len⟩
 refine wpAny_mono (ht [] s1 (vP N vs) H _ I hq) (fun fl s' hs=>?_) fun e s' hs=>False.elim hs
 have fin:∀ {σ':St} {H':Hp} {v:V} {u:Value},zJ (TY P w K mg base N qual (zO st) f cdv A outer s H) [] σ' H' s'→qx v u→Q v H'→CE outer P w H s Q u s' :=
  fun {σ' H' v u} J rv q=>⟨v,H',J.os,J.bare,J.base,J.hok,rv,q⟩
 cases fl with
 | ret u =>
  obtain⟨v,σ',H',J,rv,q⟩:=hs
  exact fin J rv q
 | next =>
  obtain⟨σ',H',J,q⟩:=hs
  exact fin (v:=V.non) (u:=Value.none) J rfl q
 | brk=>obtain⟨_,_,_,z⟩:=hs;exact False.elim z
 | cont=>obtain⟨_,_,_,z⟩:=hs;exact False.elim z
theorem qJ.okE {x qual:Str} {st:Stmt} {f:Addr} {fd:FuncData} {N ps:List Str} {k:Nat} {sp:Sp} (F:qJ K x qual st f fd) (S:uW N ps (zO st)) (len:∀ vs H Q E,sp vs H Q E→vs.length=ps.length) (hbody:∀ (cdv:Value) (A:Around) (outer:List Env) (s:Shared) (H:Hp) (vs:List V) (Q:VK) (E:XK),yw k (A.deeper (envOfC qual (zO st) s.heap.objs.size f cdv))→sp vs H Q E →
   ∃ t,yW (wG (jf P w) P w K mg base N qual (zO st) f cdv A outer s H E) (yJ st) t∧t { nx:=fun _ H'=>Q .non H',rt:=Q } (vP N vs) H):zL P w K mg base (jf P w) (k+1) f fd ps sp:=by
 obtain⟨oc,od,kV,doc,pm,an,cdv,ct,osl,rfl,lk,hcd⟩:=F.ex
 exact pO lk hcd S len fun A outer s H vs Q E hr hsp=>hbody cdv A outer s H vs Q E hr hsp
theorem qz {N:List Str} {qual:Str} {scope:Scope} {f:Addr} {cd:Value} {A:Around} {outer:List Env} {s:Shared} {H:Hp} {E:XK}:yG (jf P w) (wG (jf P w) P w K mg base N qual scope f cd A outer s H E) E:=jO rfl rfl ql
end
theorem P6 {X:Cx} {pn:List (Addr × Obj)} {R:XK}:yG (jf X.prog X.w) (X.tr pn (Mz X pn R)) R:=jO rfl rfl WN
section
variable {X:Cx} {k:Nat} {f:Addr} {fd:FuncData} {ps:List Str} {sp:Sp} {x:Str} {p pos:Pos} {e:Expr} {es:List Expr} {t:TA}
noncomputable def Vj (A:Around) (sp:Sp) (t:TA):TE:=fun σ H Q=>t σ H fun vs H1=>bJ A H1∧sp vs H1 Q E0
theorem PZ (F:U6 X.prog X.w X.K X.mg X.base k f fd ps sp) (hr:ZA k X.A) (hg:Gl X x) (hm:X.mg x=some (.ref f)) (hk:PySem.W.keepIn X.K (.ref f)=true) (hb:jV X.K fd ps []) (ha:PA X (e::es) t) (hdb:(x==("__debug__":Str))=false:=by decide) (he:starEach (e::es) X.env=(false,eval e X.env)::starEach es X.env:=by exact zT rfl) (hpl:(backTo pos (starEach es X.env)).any (·.1)=false:=by exact yn rfl) :
  PE X (.Call (.Name x p) (e::es) [] pos) (Vj X.A sp t):=by
 intro pins s σ H Q I h
 refine wpAny_Call_Name_kw (jG I hg hm ?_ hdb)
 refine PySem.W.callWith_K (h₀:=X.base) I.ok.mod.kin hk (q0 (ha pos pins s σ H _ I h) fun us s1 ⟨vs,H1,I1,r,hd,q⟩=>⟨I1.kIn,?_⟩) he hpl
 have hl:us.length=ps.length:=by rw[← r.length];exact F.len _ _ _ _ q
 have B:BindsTo s1 fd ⟨us,[]⟩ (ps.zip us):=by
  have z:=hb s1 us I1.kIn (by rw[Cv];exact hl)
  rw[Cv] at z
  exact z
 refine wpAny_call (codeAny_mono (F.run X.A X.stack s1 H1 ⟨us,[]⟩ us vs Q hr hd I1.env0 B r q) fun r s' hq=>?_)
 cases r with
 | error e=>exact False.elim hq
 | ok fl =>
  cases fl with
  | ret u=>exact I1.after hq
  | next=>exact False.elim hq
  | brk=>exact False.elim hq
  | cont=>exact False.elim hq
end
noncomputable def bU:V→Option Value
 | .ref a=>some (.ref a)
 | .ty n=>some (.type n)
 | _=>none
noncomputable def BL (K:BFr) (H:Hp) (x:V) (t:Value):Prop :=
 j0 K H x t∨∃ a oe C vs,x = .ref a∧t = .ref C∧H a=some (YF a oe)∧oe.cls = .ref C∧oe.dict=none∧oe.data = .fields vs∧XK.jn K C
section
variable {X:Cx}
theorem zH:va X (.builtin "isinstance") (fun xs H Q=>∃ x c cv t b,xs=[x,c]∧bU c=some cv∧BL X.K H x t∧PySem.W.kitOne X.K t cv=some b∧Q (.bl b) H):=by
 intro pins s σ H xs us Q I r h
 obtain⟨x,c,cv,t,b,rfl,hc,ty,hk,q⟩:=h
 obtain⟨u,v,rfl,ru,rv⟩:=Mq r
 obtain rfl:v=cv:=by
  cases c with
  | ref a=>cases hc;exact rv
  | ty n=>cases hc;exact rv
  | _=>cases hc
 rcases ty with ty | ⟨a,oe,C,vs,rfl,rfl,ha,e1,e2,e3,ec⟩
 ·exact GR I ru ty hk fun tk=>⟨.bl b,H,I.tok tk,rfl,q⟩
 ·cases ru
  have g:=(I.hok a _ ha).1
  have inst:PySem.W.InstAt s.heap a oe C none:=⟨g,e1,by unfold PySem.W.notCls;rw[e3],by rw[e2];trivial⟩
  exact PySem.W.kia_one (XK.OU (ox:=oe) ec) I.kIn inst hk (fun z=>nomatch z) fun tk=>⟨.bl b,H,I.tok tk,rfl,q⟩
end
noncomputable def qN (P:Program) (w:World) (K:BFr) (mg:Str→Option Value) (base:Heap) (CX:wN) (k:Nat) (x:Str) (ps:List Str) (sp:Sp):Prop :=
 ∃ f fd,mg x=some (.ref f)∧PySem.W.keepIn K (.ref f)=true∧jV K fd ps []∧zL P w K mg base CX k f fd ps sp
noncomputable def lO (P:Program) (w:World) (K:BFr) (mg:Str→Option Value) (base:Heap) (k:Nat) (x:Str) (ps:List Str) (sp:Sp):Prop :=
 ∃ f fd,mg x=some (.ref f)∧PySem.W.keepIn K (.ref f)=true∧jV K fd ps []∧U6 P w K mg base k f fd ps sp
section
variable {X:Cx} {CX:wN} {j k:Nat} {ps:List Str} {sp:Sp} {x:Str} {p pos:Pos} {e:Expr} {es:List Expr} {t:TA} {E:XK}
theorem zp (C:qN X.prog X.w X.K X.mg X.base CX k x ps sp) (hr:yw j X.A) (hj:k≤j) (hx:yG CX X E) (ha:PA X (e::es) t) (hg:Gl X x:=by rfl) (hdb:(x==("__debug__":Str))=false:=by decide) (he:starEach (e::es) X.env=(false,eval e X.env)::starEach es X.env:=by exact zT rfl) (hpl:(backTo pos (starEach es X.env)).any (·.1)=false:=by exact yn rfl) :
  PE X (.Call (.Name x p) (e::es) [] pos) (fun σ H Q=>t σ H fun vs H1=>sp vs H1 Q E):=by
 obtain⟨f,fd,hm,hk,hb,F⟩:=C
 intro pins s σ H Q I h
 refine lC (dvs:=[]) F (hr.mono hj) hg hm hk hb .nil hx ha hdb he hpl pins s σ H Q I ?_
 unfold m7
 simp only[Cv]
 exact h
theorem XA (C:lO X.prog X.w X.K X.mg X.base k x ps sp) (hr:ZA j X.A) (hj:k≤j) (ha:PA X (e::es) t) (hg:Gl X x:=by rfl) (hdb:(x==("__debug__":Str))=false:=by decide) (he:starEach (e::es) X.env=(false,eval e X.env)::starEach es X.env:=by exact zT rfl) (hpl:(backTo pos (starEach es X.env)).any (·.1)=false:=by exact yn rfl) :
  PE X (.Call (.Name x p) (e::es) [] pos) (Vj X.A sp t):=by
 obtain⟨f,fd,hm,hk,hb,F⟩:=C
 exact PZ F (hr.mono hj) hg hm hk hb ha hdb he hpl
end
theorem zv:bootBuiltins "isinstance" = some (.builtin "isinstance"):=by kernel_rfl
theorem QK:bootBuiltins "int" = some (.type "int"):=by kernel_rfl
theorem gK:bootBuiltins "bool" = some (.type "bool"):=by kernel_rfl
theorem qH:bootBuiltins "str" = some (.type "str"):=by kernel_rfl
theorem j5:bootBuiltins "list" = some (.type "list"):=by kernel_rfl
theorem yP:bootBuiltins "tuple" = some (.type "tuple"):=by kernel_rfl
theorem Ls:bootBuiltins "ValueError" = some (.type "ValueError"):=by kernel_rfl
noncomputable def Vc:List (String × Bool × Bool × Bool × Bool):=[("NoneType",false,false,false,false),("bool",true,true,false,false),("int",true,false,false,false),("str",false,false,true,false),("list",false,false,false,true),("tuple",false,false,false,false),("dict",false,false,false,false)]
theorem kG {K:BFr}:∀ r∈Vc,PySem.W.kitOne K (.type r.1) (.type "int")=some r.2.1∧PySem.W.kitOne K (.type r.1) (.type "bool")=some r.2.2.1∧PySem.W.kitOne K (.type r.1) (.type "str")=some r.2.2.2.1∧PySem.W.kitOne K (.type r.1) (.type "list")=some r.2.2.2.2:=by
 intro r hr
 simp only[Vc,cy,cA,or_false] at hr
 rcases hr with rfl | rfl | rfl | rfl | rfl | rfl | rfl <;> exact⟨by rfl,by rfl,by rfl,by rfl⟩
noncomputable def uN (K:BFr) (H:Hp) (v:V):Prop:=∃ r∈Vc,j0 K H v (.type r.1)∧r.1≠"int"
noncomputable def vS (K:BFr) (H:Hp) (v:V):Prop:=∃ r∈Vc,j0 K H v (.type r.1)∧r.1≠"str"
section
variable {κ:Type} [DecidableEq κ]
noncomputable def ZJ (kvs:List (κ × V)) (k:κ):Option V:=(kvs.find? fun kv=>decide (kv.1=k)).map (·.2)
noncomputable def Za (kvs:List (κ × V)) (k:κ) (v:V):List (κ × V) :=
 if (kvs.any fun kv=>decide (kv.1=k))=true then kvs.map (fun kv=>if kv.1=k then (kv.1,v) else kv) else kvs++[(k,v)]
theorem ku {p:κ × V} {r:List (κ × V)} {k:κ} (e:p.1=k):ZJ (p::r) k=some p.2:=by simp[ZJ,dj,e]
theorem kh {p:κ × V} {r:List (κ × V)} {k:κ} (e:¬ p.1=k):ZJ (p::r) k=ZJ r k:=by simp[ZJ,dj,e]
theorem Uj (k:κ):∀ kvs:List (κ × V),(kvs.any fun kv=>decide (kv.1=k))=(ZJ kvs k).isSome
 | []=>rfl
 | p::r=>by
  rw[dH]
  by_cases e:p.1=k
  ·simp only[ku e,decide_eq_true e,Bool.true_or,Option.isSome_some]
  ·rw[kh e,decide_eq_false e,Do];exact Uj k r
theorem Zy (kvs:List (κ × V)) (k:κ) (v:V):(Za kvs k v).length≤kvs.length+1:=by
 unfold Za
 split
 ·rw[cw];omega
 ·rw[cG,Cr,dJ];omega
theorem wg.isSome_eq {o:Option V} {u:Option Value} (r:wg o u):o.isSome=u.isSome:=by
 cases o with
 | none=>cases u with
  | none=>rfl
  | some _=>exact (show False from r).elim
 | some _=>cases u with
  | none=>exact (show False from r).elim
  | some _=>rfl
theorem KV.val {kvs:List (κ × V)} {vs:List (κ × Value)} (r:KV kvs vs) (k:κ):wg (ZJ kvs k) (valueAt vs k):=by
 unfold KV at r
 induction r with
 | nil=>exact True.intro
 | @cons p q ps qs h t ih =>
  obtain⟨h1,h2⟩:=h
  by_cases e:p.1=k
  ·have e':q.1=k:=h1.symm.trans e
   have b:valueAt (q::qs) k=some q.2:=by simp[valueAt,dj,e']
   rw[ku e,b];exact h2
  ·have e':¬ q.1=k:=fun z=>e (h1.trans z)
   have b:valueAt (q::qs) k=valueAt qs k:=by simp[valueAt,dj,e']
   rw[kh e,b];exact ih
theorem KV.any {kvs:List (κ × V)} {vs:List (κ × Value)} (r:KV kvs vs) (k:κ):(kvs.any fun kv=>decide (kv.1=k))=vs.any fun kv=>decide (kv.1=k):=by
 unfold KV at r
 induction r with
 | nil=>rfl
 | cons h t ih=>rw[dH,dH,ih,h.1]
theorem KV.repl {kvs:List (κ × V)} {vs:List (κ × Value)} (r:KV kvs vs) (k:κ) {y:V} {u:Value} (ry:qx y u) :
  KV (kvs.map fun kv=>if kv.1=k then (kv.1,y) else kv) (vs.map fun kv=>if kv.1=k then (kv.1,u) else kv):=by
 unfold KV at r ⊢
 induction r with
 | nil=>exact .nil
 | @cons p q ps qs h t ih =>
  rw[CA,CA]
  refine .cons ?_ ih
  obtain⟨h1,h2⟩:=h
  by_cases e:p.1=k
  ·rw[if_pos e,if_pos (h1.symm.trans e)];exact⟨h1,ry⟩
  ·rw[if_neg e,if_neg (fun z=>e (h1.trans z))];exact⟨h1,h2⟩
theorem KV.put {kvs:List (κ × V)} {vs:List (κ × Value)} (r:KV kvs vs) (k:κ) {y:V} {u:Value} (ry:qx y u):KV (Za kvs k y) (stored vs k u):=by
 unfold Za stored
 rw[r.any k]
 by_cases e:(vs.any fun kv=>decide (kv.1=k))=true
 ·rw[if_pos e,if_pos e];exact r.repl k ry
 ·rw[if_neg e,if_neg e];exact Paired.snoc r ⟨rfl,ry⟩
theorem KV.length {kvs:List (κ × V)} {vs:List (κ × Value)} (r:KV kvs vs):kvs.length=vs.length:=Paired.length r
end
theorem OR {P:Program} {w:World} {k:yY} {u:Value} (r:qx (kV k) u):(yk P w).is k u=true:=by
 cases k with
 | inl i=>obtain⟨t,e⟩:=(show ∃ t,u=Value.int i t from r);subst e;exact UP P w i t
 | inr x=>obtain⟨t,e⟩:=(show ∃ t,u=Value.str x t from r);subst e;exact Ux P w x t
theorem Y7 {P:Program} {w:World}:∀ {ks:List yY} {us:List Value},qf (ks.map kV) us→ItemsAre (yk P w) ks us
 | [],_,r=>by rw[List.map_nil] at r;cases r;exact .nil
 | k::ks,_,r=>by
  rw[CA] at r
  cases r with
  | cons h t=>exact .cons (OR h) (Y7 t)
abbrev KT (H:Hp):List (List yY × V)→List (List yY × Addr × Value)→Prop:=Paired fun p q=>p.1=q.1∧H q.2.1=some (.tup (p.1.map kV))∧qx p.2 q.2.2
theorem KT.val {H:Hp} {kvs:List (List yY × V)} {xs:List (List yY × Addr × Value)} (r:KT H kvs xs) (k:List yY):wg (ZJ kvs k) ((atKey xs k).map (·.2)):=by
 induction r with
 | nil=>exact True.intro
 | @cons p q ps qs h t ih =>
  obtain⟨h1,_,h2⟩:=h
  by_cases e:p.1=k
  ·have e':q.1=k:=h1.symm.trans e
   have b:atKey (q::qs) k=some q.2:=by simp[atKey,dj,e']
   rw[ku e,b];exact h2
  ·have e':¬ q.1=k:=fun z=>e (h1.trans z)
   have b:atKey (q::qs) k=atKey qs k:=by simp[atKey,dj,e']
   rw[kh e,b];exact ih
theorem KT.repl {H:Hp} {kvs:List (List yY × V)} {xs:List (List yY × Addr × Value)} (r:KT H kvs xs) (k:List yY) {y:V} {u:Value} (ry:qx y u) :
  KT H (kvs.map fun kv=>if kv.1=k then (kv.1,y) else kv) (xs.map (putAt k u)):=by
 induction r with
 | nil=>exact .nil
 | @cons p q ps qs h t ih =>
  rw[CA,CA]
  refine .cons ?_ ih
  obtain⟨h1,h2,h3⟩:=h
  unfold putAt
  by_cases e:p.1=k
  ·rw[if_pos e,if_pos (h1.symm.trans e)];exact⟨h1,h2,ry⟩
  ·rw[if_neg e,if_neg (fun z=>e (h1.trans z))];exact⟨h1,h2,h3⟩
theorem KT.put {H:Hp} {kvs:List (List yY × V)} {xs:List (List yY × Addr × Value)} (r:KT H kvs xs) (k:List yY) {b:Addr} {y:V} {u:Value} (hb:H b=some (.tup (k.map kV))) (ry:qx y u) :
  KT H (Za kvs k y) (storedH xs k b u):=by
 have e:(kvs.any fun kv=>decide (kv.1=k))=(atKey xs k).isSome:=by
  rw[Uj,(r.val k).isSome_eq,Option.isSome_map]
 unfold Za storedH
 rw[e]
 by_cases q:(atKey xs k).isSome=true
 ·rw[if_pos q,if_pos q];exact r.repl k ry
 ·rw[if_neg q,if_neg q];exact Paired.snoc r ⟨rfl,hb,ry⟩
theorem KT.keeps {H H':Hp} {kvs:List (List yY × V)} {xs:List (List yY × Addr × Value)} (r:KT H kvs xs) (ht:∀ b ys,H b=some (.tup ys)→H' b=some (.tup ys)):KT H' kvs xs :=
 Paired.mapP r fun _ _ z=>⟨z.1,ht _ _ z.2.1,z.2.2⟩
section
variable {P:Program} {w:World} {H:Hp} {h:Heap} {a:Addr}
theorem m6 {u:HO} (ok:wI P w H h) (e:Rd H a u):yc P w H h a u:=e.ok ok
theorem XS {kvs:List (yY × V)} (ok:wI P w H h) (e:Rd H a (.dK kvs)):kvs.length≤sizeLine∧(a==sysModules)=false∧∃ vs,KV kvs vs∧h.DictOf (yk P w) a vs :=
 show yc P w H h a (.dK kvs) from m6 ok e
theorem RM {kvs:List (yY × V)} (ok:wI P w H h) (e:H a=some (.dK kvs)):kvs.length≤sizeLine∧(a==sysModules)=false∧∃ vs,KV kvs vs∧h.DictOf (yk P w) a vs:=XS ok (.inl e)
theorem xp {ks:List yY} (ok:wI P w H h) (e:H a=some (.tup (ks.map kV))):(tupleKind (yk P w)).is h ks a:=by
 obtain⟨_,its,r,o,h1,h2,n,h3⟩:=(show yc P w H h a (.tup (ks.map kV)) from ok a _ e)
 exact⟨o,its.toArray,n,h1,h2,h3,by simpa using Y7 r⟩
theorem OZ {kvs:List (List yY × V)} (ok:wI P w H h) (e:Rd H a (.dT kvs)):kvs.length≤sizeLine∧(a==sysModules)=false ∧
  ∃ xs,KT H kvs xs∧h.DictOfH (tupleKind (yk P w)) a xs:=by
 obtain⟨z,y,xs,r,o,es,ep,h1,h2,h3,h4,h5⟩:=(show yc P w H h a (.dT kvs) from m6 ok e)
 refine⟨z,y,xs,r,o,es,ep,h1,h2,h3,h4,fun x hx=>?_,h5⟩
 have all:∀ {l:List (List yY × V)} {m:List (List yY × Addr × Value)},KT H l m→∀ x∈m,(tupleKind (yk P w)).is h x.1 x.2.1:=by
  intro l m q
  induction q with
  | nil=>intro x hx;exact nomatch hx
  | @cons p q ps qs hq t ih =>
   intro x hx
   rcases cy.mp hx with e | hx
   ·subst e
    exact xp ok (by rw[← hq.1];exact hq.2.1)
   ·exact ih x hx
 exact all r x hx
theorem Rl {kvs:List (List yY × V)} (ok:wI P w H h) (e:H a=some (.dT kvs)):kvs.length≤sizeLine∧(a==sysModules)=false ∧
  ∃ xs,KT H kvs xs∧h.DictOfH (tupleKind (yk P w)) a xs:=OZ ok (.inl e)
end
noncomputable def JP (H:Hp) (a:Addr) (y:V) (r:Option V):Prop :=
 (∃ kvs k,Rd H a (.dK kvs)∧y=kV k∧r=ZJ kvs k)∨∃ kvs k b,Rd H a (.dT kvs)∧y = .ref b∧H b=some (.tup (k.map kV))∧r=ZJ kvs k
noncomputable def GD (H:Hp) (a:Addr) (y v:V) (H':Hp):Prop :=
 (∃ kvs k,H a=some (.dK kvs)∧y=kV k∧kvs.length<sizeLine∧H'=upd H a (.dK (Za kvs k v))) ∨
 ∃ kvs k b,H a=some (.dT kvs)∧y = .ref b∧H b=some (.tup (k.map kV))∧kvs.length<sizeLine∧H'=upd H a (.dT (Za kvs k v))
theorem JP.k {H:Hp} {a:Addr} {kvs:List (yY × V)} {k:yY} (e:H a=some (.dK kvs)):JP H a (kV k) (ZJ kvs k):=.inl ⟨kvs,k,.inl e,rfl,rfl⟩
theorem GD.k {H:Hp} {a:Addr} {kvs:List (yY × V)} {k:yY} {v:V} (e:H a=some (.dK kvs)) (hl:kvs.length<sizeLine):GD H a (kV k) v (upd H a (.dK (Za kvs k v))):=.inl ⟨kvs,k,e,rfl,hl,rfl⟩
section
variable {X:Cx} {pins:List (Addr × Obj)} {σ:St} {H:Hp} {s:Shared} {a:Addr} {y v:V} {u r:Value} {o:Option V} {A:Around} {E:Value→Shared→Prop}
theorem zJ.big (I:zJ X pins σ H s):sysModules<s.heap.objs.size:=by
 have h:mainGlobals<s.heap.objs.size:=(I.mod.glob.keeps I.bk).lt
 exact d7 (by decide) h
theorem gU {Q:Value→Shared→Prop} (hu:A.units+1<cLine) (I:zJ X pins σ H s) (g:JP H a y (some v)) (ry:qx y u) (h:∀ w' s',zJ X pins σ H s'→qx v w'→Q w' s') :
  wpAny (model X.prog X.w) A (getItem (.ref a) u) Q E s:=by
 rcases g with ⟨kvs,k,e,ey,l⟩ | ⟨kvs,k,b,e,ey,eb,l⟩
 ·subst ey
  obtain⟨z,hd,vs,rel,dd⟩:=XS I.hok e
  obtain⟨w',hw,rw'⟩:=wg.some_of (v:=v) (o:=valueAt vs k) (by rw[l];exact rel.val k)
  exact wpAny_getItem_of (OR ry) dd.mapOf hw (h w' _ (I.tok _) rw')
 ·subst ey
  cases (show u=Value.ref b from ry)
  obtain⟨z,hd,xs,rel,dd⟩:=OZ I.hok e
  obtain⟨w',hw,rw'⟩:=wg.some_of (v:=v) (o:=(atKey xs k).map (·.2)) (by rw[l];exact rel.val k)
  obtain⟨p,hp,hp2⟩:=Cd.mp hw
  refine wpAny_getItem_heap (tupleKind_room_in1 hu) (xp I.hok eb) dd hp ?_
  rw[hp2]
  exact h w' _ (I.tok _) rw'
theorem XW {h':Heap} {t':Nat} {ob:HO} (I:zJ X pins σ H s) (mu:Rw (H a)) (hs:Heap.SameBut a s.heap h') (he:∃ q,h'.get? a=some q) (new:yc X.prog X.w (upd H a ob) h' a ob) :
  zJ X pins σ (upd H a ob) { s with heap:=h',toks:=t' } :=
 I.write (x:=a) (e:=a) mu (.inl rfl) (fun b q hb z=>(hs.2 b hb).trans z) he new
theorem nF {P:Program} {w:World} {H':Hp} {h':Heap} {kvs:List (yY × V)} {vs:List (yY × Value)} (z:kvs.length≤sizeLine) (hd:(a==sysModules)=false) (rel:KV kvs vs) (dd:h'.DictOf (yk P w) a vs) :
  yc P w H' h' a (.dK kvs):=⟨z,hd,vs,rel,dd⟩
theorem Ge {H':Hp} {Q:Unit→Shared→Prop} (hu:A.units+1<cLine) (I:zJ X pins σ H s) (g:GD H a y v H') (ry:qx y u) (rv:qx v r) (h:∀ s',zJ X pins σ H' s'→Q () s') :
  wpAny (model X.prog X.w) A (setItem (.ref a) u r) Q E s:=by
 rcases g with ⟨kvs,k,e,ey,l,eH⟩ | ⟨kvs,k,b,e,ey,eb,l,eH⟩
 ·subst ey eH
  obtain⟨z,hd,vs,rel,dd⟩:=RM I.hok e
  have hz:vs.length≤sizeLine:=by rw[← rel.length];exact z
  have hl:(Za kvs k v).length≤sizeLine:=by have:=Zy kvs k v;omega
  refine wpAny_setItem_pairs (hsz:=hz) (OR ry) dd fun h' dd' hs=>h _ ?_
  have he:∃ q,h'.get? a=some q:=let ⟨q,_,_,hq,_⟩:=dd';⟨q,hq⟩
  exact XW I (by rw[e];exact True.intro) hs he (nF hl hd (rel.put k rv) dd')
 ·subst ey eH
  cases (show u=Value.ref b from ry)
  obtain⟨z,hd,xs,rel,dd⟩:=Rl I.hok e
  have hz:xs.length≤sizeLine:=by rw[← Paired.length rel];exact z
  have hl:(Za kvs k v).length≤sizeLine:=by have:=Zy kvs k v;omega
  refine wpAny_setItem_heap (hsz:=hz) (tupleKind_room_in1 hu) (xp I.hok eb) dd fun h' dd' hs=>h _ ?_
  obtain⟨q,es,ep,hq,h2,h3,h4,_,h5⟩:=dd'
  refine XW I (by rw[e];exact True.intro) hs ⟨q,hq⟩ ⟨hl,hd,_,(rel.put k eb rv).keeps fun c ys ec=>?_,q,es,ep,hq,h2,h3,h4,h5⟩
  rw[zm (qG ec e (fun z=>nomatch z))]
  exact ec
end
section
variable {X:Cx} {pins:List (Addr × Obj)} {σ:St} {H:Hp} {s:Shared} {a:Addr} {kvs:List (yY × V)} {k:yY} {u:Value} {A:Around} {E:Value→Shared→Prop}
end
noncomputable def tM (i:Expr):Prop:=∀ ov iv,subscripted i false ov iv=operate [ov,iv] (getItem ov iv)
theorem lG {prog:Program} {w:World} {A:Around} {E:Value→Shared→Prop} {s:Shared} {env:Env} {value slice:Expr} {pos:Pos} {T id:String} {Q:Value→Shared→Prop}
  (hl:typeLookup (.type T) "__getitem__" = pure (some (.builtin id))) (hs:tM slice) (h:wpAny (model prog w) A (eval value env) (fun o s₁=>wpAny (model prog w) A (eval slice env) (fun i s₂=>s₂.TypeIs o T∧wpAny (model prog w) A (getItem o i) Q E s₂) E s₁) E s) :
  wpAny (model prog w) A (eval (.Subscript value slice pos) env) Q E s:=by
 refine Subscript_ (wpAny_mono h (fun o s₁ h₁=>wpAny_mono h₁ (fun i s₂ h₂=>?_) fun _ _ x=>x) fun _ _ x=>x)
 obtain⟨hT,h₂⟩:=h₂
 unfold subscriptTail
 refine wpAny_bind ?_
 rw[getitemInPython_of_ne hT.not_modules]
 refine wpAny_bind (wpAny_specialOf hT hl ?_)
 have fin:wpAny (model prog w) A (subscripted slice false o i) (fun r s₃=>wpAny (model prog w) A (letTemporaryGo value o r >>= fun _=>pure r) Q E s₃) E s₂:=by
  rw[hs o i]
  exact wpAny_operating (wpAny_mono h₂ (fun r s₃ h₃=>wpAny_bind (wpAny_letTemporaryGo (wpAny_pure h₃))) fun _ _ x=>x)
 first
  | exact wpAny_pure (wpAny_bind fin)
  | exact wpAny_bind (wpAny_pure (wpAny_bind fin))
  | exact wpAny_bind fin
theorem Uk {X:Cx} {pins:List (Addr × Obj)} {σ:St} {H:Hp} {s:Shared} {a:Addr} {y:V} {o:Option V} (I:zJ X pins σ H s) (g:JP H a y o):s.TypeIs (.ref a) "dict":=by
 rcases g with ⟨kvs,k,e,_,_⟩ | ⟨kvs,k,b,e,_,_,_⟩
 ·obtain⟨_,_,vs,_,dd⟩:=XS I.hok e
  exact dd.typeIs
 ·obtain⟨_,_,xs,_,dd⟩:=OZ I.hok e
  exact dd.typeIs
noncomputable def tq (td ty:TE):TE:=fun σ H Q=>td σ H fun x H1=>ty σ H1 fun y H2=>∃ a v,x = .ref a∧JP H2 a y (some v)∧Q v H2
noncomputable def Ra (td ty tv:TE):TS:=fun D σ H=>tv σ H fun v H1=>td σ H1 fun x H2=>ty σ H2 fun y H3=>∃ a H4,x = .ref a∧GD H3 a y v H4∧D.nx σ H4
section
variable {X:Cx} {o i e value:Expr} {pos pos' tpos:Pos} {td ty tv:TE}
theorem Xg (hu:X.A.units+1<cLine) (ho:PE X o td) (hi:PE X i ty) (hs:tM i):PE X (.Subscript o i pos) (tq td ty):=by
 intro pins s σ H Q I h
 refine lG PySem.F.slot_dict_getitem.lookup hs (q0 (ho pins s σ H _ I h) fun u s1 ⟨x,H1,I1,rx,q1⟩=>q0 (hi pins s1 σ H1 _ I1 q1) fun iv s2 ⟨y,H2,I2,ry,a,v,ex,g,q2⟩=>?_)
 subst ex
 obtain rfl:u=Value.ref a:=rx
 exact⟨Uk I2 g,gU hu I2 g ry fun w' s3 I3 rw'=>⟨v,H2,I3,rw',q2⟩⟩
theorem XM (hu:X.A.units+1<cLine) (ho:PE X o td) (hi:PE X i ty) (hv:PE X value tv) (hs:swapsWith value (some (.Subscript o i pos')) pos.line X.env=pure false) :
  PS X (.Assign [.Subscript o i pos'] value pos) (Ra td ty tv):=by
 intro pins s σ H D I h
 refine wpAny_Assign_Subscript (q0 (hv pins s σ H _ I h) fun r s1 ⟨v,H1,I1,rv,q1⟩=>q0 (ho pins s1 σ H1 _ I1 q1) fun u s2 ⟨x,H2,I2,rx,q2⟩=>q0 (hi pins s2 σ H2 _ I2 q2) fun iv s3 ⟨y,H3,I3,ry,a,H4,ex,g,q3⟩=>?_) hs
 subst ex
 obtain rfl:u=Value.ref a:=rx
 exact Ge hu I3 g ry rv fun s4 I4=>⟨σ,H4,I4,q3⟩
end
theorem Oq {P:Program} {w:World} {H:Hp} (h:Heap) (hb:sysModules<h.objs.size):yc P w H (h.push { cls:=.type "dict",data:=.dict #[] }) h.objs.size (.dK []) :=
 ⟨Cy _,beq_eq_false_iff_ne.mpr (Ne.symm (Cc hb)),[],.nil,Heap.DictOf.new h⟩
noncomputable def M9:TE:=fun _ H Q=>∀ p,H p=none→Q (.ref p) (upd H p (.dK []))
section
variable {X:Cx} {pos:Pos}
theorem O5:PE X (.Dict [] [] pos) M9:=fun pins s σ H Q I h =>
 wpAny_Dict_empty ⟨.ref s.heap.objs.size,_,I.laid (a:=s.heap.objs.size) (o:=.dK []) (t':=s.toks) (fun _ _ q=>Cg _ q) (cx _) (Oq s.heap I.big),rfl,h _ (I.hok.fresh (cx _))⟩
end
structure M1 (X:Cx) (o:Expr) (m:Str) (apos:Pos) (e:Expr) (cpos:Pos):Prop where
 base:attributeBase o m X.env (eval o X.env)=eval o X.env
 few:((backTo cpos (starEach [e] X.env)).all (fun x=>!x.1)&&(backToKw cpos (keywordEach [] X.env)).all (fun x=>x.1.isSome)
  && decide (([e]:List Expr).length+([]:List Keyword).length+(if ([]:List Keyword).isEmpty then 0 else 1)<30))=true
 line:(apos.endLine==cpos.line)=true
 trees:backTo cpos (starEach [e] X.env)=[(false,eval e X.env)]
structure M2 (X:Cx) (o:Expr) (m:Str) (apos:Pos) (e f:Expr) (cpos:Pos):Prop where
 base:attributeBase o m X.env (eval o X.env)=eval o X.env
 few:((backTo cpos (starEach [e,f] X.env)).all (fun x=>!x.1)&&(backToKw cpos (keywordEach [] X.env)).all (fun x=>x.1.isSome)
  && decide (([e,f]:List Expr).length+([]:List Keyword).length+(if ([]:List Keyword).isEmpty then 0 else 1)<30))=true
 line:(apos.endLine==cpos.line)=true
 trees:backTo cpos (starEach [e,f] X.env)=[(false,eval e X.env),(false,eval f X.env)]
section
variable {X:Cx} {pins:List (Addr × Obj)} {σ:St} {H:Hp} {s:Shared} {a:Addr} {y d:V} {u r:Value} {o:Option V} {A:Around} {E:Value→Shared→Prop}
end
section
variable {X:Cx} {o e f:Expr} {apos cpos:Pos} {td ty tx:TE}
end
section
variable {X:Cx} {pins:List (Addr × Obj)} {σ:St} {H:Hp} {s:Shared} {a:Addr} {kvs:List (yY × V)} {A:Around} {E:Value→Shared→Prop}
end
section
variable {X:Cx} {pins:List (Addr × Obj)} {σ:St} {H:Hp} {s:Shared} {a:Addr} {y:V} {u:Value} {A:Around} {E:Value→Shared→Prop}
end
section
variable {X:Cx}
end
section
variable {κ:Type} [DecidableEq κ]
end
theorem zq.upd {H:Hp} {p:Addr} {o:HO} (hp:H p=none):zq H (L2.upd H p o):=fun b u e=>by
 rw[zm (zA e hp)]
 exact e
theorem zq.tup {K:BFr} {H H':Hp} {a:Addr} {xs:List V} (e:zq H H') (h:yj K H a xs):yj K H' a xs:=by
 rcases h with (h | ⟨o,h⟩) | h
 ·exact .inl (.inl (e _ _ h))
 ·exact .inl (.inr ⟨o,e _ _ h⟩)
 ·exact .inr h
theorem j0.same {K:BFr} {H H':Hp} {v:V} {t:Value} (e:zq H H') (h:j0 K H v t):j0 K H' v t:=by
 cases h with
 | non=>exact .non
 | bl x=>exact .bl x
 | int i=>exact .int i
 | str x=>exact .str x
 | flt x=>exact .flt x
 | lst q=>exact .lst (e _ _ q)
 | frz q=>exact .frz (e _ _ q)
 | tup q=>exact .tup (e _ _ q)
 | dK q=>exact .dK (e _ _ q)
 | dT q=>exact .dT (e _ _ q)
 | ins q c1 c2 c3 c4 c5=>exact .ins (e _ _ q) c1 c2 c3 c4 c5
theorem uN.same {K:BFr} {H H':Hp} {v:V} (e:zq H H') (h:uN K H v):uN K H' v:=by
 obtain⟨r,h1,h2,h3⟩:=h
 exact⟨r,h1,h2.same e,h3⟩
theorem vS.same {K:BFr} {H H':Hp} {v:V} (e:zq H H') (h:vS K H v):vS K H' v:=by
 obtain⟨r,h1,h2,h3⟩:=h
 exact⟨r,h1,h2.same e,h3⟩
section
variable {K:BFr} {H:Hp}
theorem LY:uN K H .non:=⟨("NoneType",false,false,false,false),by decide,.non,by decide⟩
theorem m9 (b:Bool):uN K H (.bl b):=⟨("bool",true,true,false,false),by decide,.bl b,by decide⟩
theorem Nw (x:Str):uN K H (.str x):=⟨("str",false,false,true,false),by decide,.str x,by decide⟩
theorem NC {a:Addr} {xs:List V} (e:H a=some (.lst xs)):uN K H (.ref a):=⟨("list",false,false,false,true),by decide,.lst e,by decide⟩
theorem Lh:vS K H .non:=⟨("NoneType",false,false,false,false),by decide,.non,by decide⟩
theorem nA (i:Int):vS K H (.int i):=⟨("int",true,false,false,false),by decide,.int i,by decide⟩
end
noncomputable def tJ:Expr→Bool
 | .Slice _ _ _ _=>true
 | _=>false
theorem oh {b:Expr} (h:tJ b=false):Xe b:=fun o i=>by
 cases b <;> first | rfl | cases h
theorem zD {X:Cx} {a b:Expr} {ta tb:TE} {pos:Pos} {r:R2} (hr:rZ X r) (ha:PE X a ta) (hb:PE X b tb) (hs:tJ b=false:=by rfl):PE X (.Subscript a b pos) (jH r ta tb):=tP hr ha hb (oh hs)
theorem Wi {α:Type} {xs:List α} {i:Int} {v:α} (h0:0≤i) (h:xs[i.toNat]? = some v):kT xs i=some v:=by
 have e:=q8 h
 rwa [Int.toNat_of_nonneg h0] at e
theorem yV {α:Type} {xs:List α} {i:Int} (h0:0≤i) (h1:i<xs.length):∃ v,kT xs i=some v∧v∈xs:=by
 have hl:i.toNat<xs.length:=by omega
 exact⟨xs[i.toNat],Wi h0 (cI hl),d8 hl⟩
theorem JK {a b:Int}:(decide (V.int a=V.int b)=true)↔a=b:=by rw[decide_eq_true_iff];exact⟨fun h=>V.int.inj h,fun h=>congrArg V.int h⟩
noncomputable def Wa (ns:List Int) (k:Int):Int:=ns.getD k.toNat 0
theorem LG {ns:List Int} {k:Int} (h0:0≤k) (h:k<((ns.map V.int).length:Nat)):kT (ns.map V.int) k=some (.int (Wa ns k)):=by
 rw[cw] at h
 have hl:k.toNat<ns.length:=by omega
 refine Wi h0 ?_
 unfold Wa
 rw[cQ,cI hl,CQ,cI hl]
 rfl
theorem om {ns:List Int} {k:Int} (h:¬ k<((ns.map V.int).length:Nat)):Wa ns k=0:=by
 rw[cw] at h
 unfold Wa
 rw[CQ,dk (by omega)]
 rfl
theorem qa {n:Nat} (h:Nat.ble n 1000=true):n≤sizeLine:=cJ (Cf h) (by decide)
noncomputable def G9 (H:Hp) (o:HO) (Q:VK):Prop:=∀ p H',zq H H'→H p=none→H' p=some o→Q (.ref p) H'
theorem G9.at {H:Hp} {o:HO} {Q:VK} (h:G9 H o Q) {p:Addr} (hp:H p=none):Q (.ref p) (upd H p o):=h p _ (zq.upd hp) hp zj
noncomputable def UB (t:TA):TE:=fun σ H Q=>t σ H fun xs H1=>xs.length≤sizeLine∧G9 H1 (.tup xs) Q
noncomputable def Mo (t:TA):TE:=fun σ H Q=>t σ H fun xs H1=>xs.length≤sizeLine∧G9 H1 (.lst xs) Q
section
variable {X:Cx} {es:List Expr} {t:TA} {pos:Pos}
theorem yg {x1} (h:PA X es t):PE X (.Tuple es x1 pos) (UB t):=by
 intro pins s σ H Q I hq
 refine wpAny_Tuple_spliced (q0 (h pos pins s σ H _ I hq) fun us s1 ⟨xs,H1,I1,r,z,q⟩=>⟨by rw[← r.length];exact z,?_⟩)
 have hf:H1 s1.heap.objs.size=none:=I1.hok.fresh (cx _)
 refine⟨.ref s1.heap.objs.size,upd H1 s1.heap.objs.size (.tup xs),I1.laid (t':=s1.toks) (fun b u e=>Cg _ e) (cx _) ?_,rfl,q.at hf⟩
 exact⟨z,us,r,⟨_,Co _ rfl,rfl,_,rfl⟩⟩
theorem zS (h:PA X es t):PE X (.List es pos) (Mo t):=by
 intro pins s σ H Q I hq
 refine wpAny_List_spliced (q0 (h pos pins s σ H _ I hq) fun us s1 ⟨xs,H1,I1,r,z,q⟩=>⟨by rw[← r.length];exact z,?_⟩)
 have hf:H1 s1.heap.objs.size=none:=I1.hok.fresh (cx _)
 refine⟨.ref s1.heap.objs.size,upd H1 s1.heap.objs.size (.lst xs),I1.laid (t':=s1.toks) (fun b u e=>Cg _ e) (cx _) ?_,rfl,q.at hf⟩
 exact⟨z,us,0,r,Co _ rfl⟩
noncomputable def NW:TE:=fun _ H Q=>G9 H (.dK []) Q
theorem wX:PE X (.Dict [] [] pos) NW:=fun pins s σ H Q I h=>O5 pins s σ H Q I fun p hp=>h.at hp
noncomputable def Mm:R2:=fun x y H Q=>∃ l b xs zs,x = .ref l∧y = .ref b∧H l=some (.lst xs)∧H b=some (.lst zs)∧xs.length+zs.length≤sizeLine∧G9 H (.lst (xs++zs)) Q
theorem jt:wk X (binaryOp .Add) Mm:=fun pins s σ H x y v u Q I rx ry ⟨l,b,xs,zs,e1,e2,h1,h2,hz,q⟩=>Nl pins s σ H x y v u Q I rx ry ⟨l,b,xs,zs,e1,e2,h1,h2,hz,fun p hp=>q.at hp⟩
noncomputable def Mh:R2:=fun x y H Q=>∃ l k xs,x = .ref l∧y = .int k∧H l=some (.lst xs)∧-(2 ^ 63)≤k∧k<2 ^ 63∧xs.length*k.toNat≤sizeLine∧G9 H (.lst (List.replicate k.toNat xs).flatten) Q
theorem lx:wk X (binaryOp .Mult) Mh:=fun pins s σ H x y v u Q I rx ry ⟨l,k,xs,e1,e2,h1,h2,h3,hz,q⟩=>MB pins s σ H x y v u Q I rx ry ⟨l,k,xs,e1,e2,h1,h2,h3,hz,fun p hp=>q.at hp⟩
end
structure Gk (K:BFr) (H:Hp) (ea C:Addr):Prop where
 ex:∃ oe vs,H ea=some (YF ea oe)∧oe.cls = .ref C∧oe.dict=none∧oe.data = .fields vs
 cls:XK.jn K C
theorem Gk.same {K:BFr} {H H':Hp} {ea C:Addr} (h:Gk K H ea C) (s:zq H H'):Gk K H' ea C:=by
 obtain⟨⟨oe,vs,e,r⟩,c⟩:=h
 exact⟨⟨oe,vs,s _ _ e,r⟩,c⟩
theorem Gk.ty {K:BFr} {H:Hp} {ea C:Addr} (h:Gk K H ea C):BL K H (.ref ea) (.ref C):=by
 obtain⟨⟨oe,vs,e,e1,e2,e3⟩,c⟩:=h
 exact .inr ⟨ea,oe,C,vs,rfl,rfl,e,e1,e2,e3,c⟩
section
variable {X:Cx}
theorem zJ.walked {pins:List (Addr × Obj)} {σ:St} {H:Hp} {s:Shared} (I:zJ X pins σ H s) {u:Obj} {h':Heap} {tk:Nat} (hk:∀ b o,b∉[s.heap.objs.size]→(s.heap.push u).get? b=some o→h'.get? b=some o) :
  zJ X pins σ H { s with heap:=h',toks:=tk } :=
 I.kept (t':=tk) fun b o e=>hk b o (by simp;exact Cc (cD e)) (Cg _ e)
theorem GI {α:Type} (bs:List α) (d:α) (p:α→Bool):(List.range bs.length).all (fun i=>p (bs.getD i d))=bs.all p:=by
 induction bs with
 | nil=>rfl
 | cons b r ih =>
  rw[Cr,List.range_succ_eq_map,CZ,CS,CZ]
  congr 1
theorem N7 {bs:List Bool} {its:List Value} (rv:qf (bs.map V.bl) its) {i:Nat} {v:Value} (e:its.toArray[i]? = some v):v = .bool (bs.getD i false):=by
 have hl:=rv.length
 rw[cw] at hl
 have hi:i<its.length:=by
  have:=(CP.mp e).1
  simpa using this
 have hx:(bs.map V.bl)[i]? = some (V.bl (bs.getD i false)):=by
  rw[cQ,cI (by omega),CQ,cI (by omega)]
  rfl
 obtain⟨u,e1,e2⟩:=rv.get hx
 have e3:its[i]? = some v:=by simpa using e
 rw[e1] at e3
 cases e3
 exact e2
theorem jD (hc:X.calm=true):va X (.builtin "all") (fun xs H Q=>∃ (a:Addr) (bs:List Bool),xs=[.ref a]∧zZ X.K H a (bs.map V.bl)∧Q (.bl (bs.all id)) H):=by
 intro pins s σ H xs us Q I r h
 obtain⟨a,bs,rfl,hS,q⟩:=h
 obtain⟨u,rfl,ru⟩:=ux r
 cases ru
 obtain⟨its,rv,pl,hz⟩:=I.list hS
 have hl:its.length=bs.length:=by rw[← rv.length,cw]
 have hlt:a≠s.heap.objs.size:=by obtain⟨o,e,_⟩:=pl.isList;exact Cc (cD e)
 refine call_all_walk (wpAny_pyIter_list pl.isList ?_)
 refine⟨s.heap.objs.size,_,_,_,_,_,fun i=>bs.getD i false,rfl,Walks.list (A:=X.A.in1) (I.ok.hd hc) _ a hlt its.toArray,⟨⟨_,Co _ rfl,rfl,rfl⟩,pl.isList.push _⟩,fun i v s' Q' E' hP hQ=>?_,fun h' tk hk=>?_⟩
 ·rw[N7 rv hP]
  exact wpAny_truthy_bool hQ
 ·refine⟨.bl _,H,I.walked hk,rfl,?_⟩
  have e:(List.range its.toArray.size).all (fun i=>bs.getD i false)=bs.all id:=by
   rw[Cb,hl]
   exact GI bs false id
  rw[e]
  exact q
theorem Vq {ns:List Int} {its:List Value} (rv:qf (ns.map V.int) its) {i:Nat} {v:Value} (e:its.toArray[i]? = some v):∃ t,v = .int (ns.getD i 0) t:=by
 have hl:=rv.length
 rw[cw] at hl
 have hi:i<its.length:=by
  have:=(CP.mp e).1
  simpa using this
 have hx:(ns.map V.int)[i]? = some (V.int (ns.getD i 0)):=by
  rw[cQ,cI (by omega),CQ,cI (by omega)]
  rfl
 obtain⟨u,e1,e2⟩:=rv.get hx
 have e3:its[i]? = some v:=by simpa using e
 rw[e1] at e3
 cases e3
 exact e2
end
noncomputable def gn (l:List Nat) (lo hi:Option Int):List Nat:=(l.drop (HT.Zx l.length 0 lo)).take (HT.Zx l.length l.length hi - HT.Zx l.length 0 lo)
theorem ZP (n d:Nat) (v:Int):max 0 (min (if v<0 then v+(n:Int) else v) (n:Int))=((HT.Zx n d (some v):Nat):Int):=by
 show _=(((if v<0 then (v+(n:Int)).toNat else min v.toNat n):Nat):Int)
 by_cases hv:v<0
 ·have le:=Int.add_le_add_right (Int.le_of_lt hv) (n:Int)
  rw[dm] at le
  rw[if_pos hv,if_pos hv,Int.min_eq_left le,Int.ofNat_toNat,Int.max_comm]
 ·obtain⟨m,rfl⟩:=CJ (Int.not_lt.mp hv)
  rw[if_neg hv,if_neg hv,CG,Int.max_eq_right (Int.le_min.mpr ⟨d9 m,d9 n⟩)]
  rcases Nat.le_total m n with c | c
  ·rw[CU c,Int.min_eq_left (Int.ofNat_le.mpr c)]
  ·rw[dM c,Int.min_eq_right (Int.ofNat_le.mpr c)]
theorem PJ (lo hi:Option Int) (n:Nat):Builtin.Str.strSliceIndices lo hi 1 n=sliceRange ((HT.Zx n 0 lo:Nat):Int) ((HT.Zx n n hi:Nat):Int) 1:=by
 unfold Builtin.Str.strSliceIndices
 simp only[show (1:Int) > 0 by decide,if_true]
 cases lo with
 | none =>
  cases hi with
  | none=>rfl
  | some j=>simp only[ZP n n j];rfl
 | some i =>
  cases hi with
  | none=>simp only[ZP n 0 i];rfl
  | some j=>simp only[ZP n 0 i,ZP n n j]
theorem Zr (z:Str) (lo hi:Option Int):(Txt.slice z lo hi).cps.toList=gn z.cps.toList lo hi:=by
 have len:z.length=z.cps.toList.length:=CB.symm
 have ix:=(PJ lo hi z.length).trans (sliceRange_one _ _)
 have key:(Builtin.Str.strSliceIndices lo hi 1 z.length).filterMap (z.cps[·]?)=gn z.cps.toList lo hi:=by
  rw[ix,pick_run,len]
  rfl
 unfold Txt.slice
 split
 ·rename_i h
  have h:(Builtin.Str.strSliceIndices lo hi 1 z.length).length=z.length:=by simpa using h
  rw[ix,cw,Cj,len] at h
  have a2:=HT.nQ z.cps.toList.length z.cps.toList.length (cx _) hi
  have hl:(gn z.cps.toList lo hi).length=z.cps.toList.length:=by
   unfold gn
   rw[Ci,dG,h]
   exact CU (cJ (Nat.le_of_eq h.symm) (Nat.sub_le_sub_right a2 _))
  exact (((Dr _ _).trans (List.drop_sublist _ _)).eq_of_length hl).symm
 ·exact key
noncomputable def LV:V→Option Int→Option Int→Hp→VK→Prop:=fun x lo hi H Q=>∃ z,x = .str z∧z.length≤sizeLine∧Q (.str (Txt.slice z lo hi)) H
theorem YX {v:Value} {o:Option Int} (p:IsPart v o):∃ l:Option (Int × Tok),v=partValue l∧o=l.map (·.1):=by
 cases p with
 | none=>exact⟨none,rfl,rfl⟩
 | int i t=>exact⟨some (i,t),rfl,rfl⟩
theorem xh {X:Cx}:To X LV:=by
 intro pins s σ H x v vl vu lo hi sl Q I rx hs pl pu h
 obtain⟨z,rfl,hz,q⟩:=h
 obtain⟨t,rfl⟩:=rx
 obtain⟨l,rfl,rfl⟩:=YX pl
 obtain⟨u,rfl,rfl⟩:=YX pu
 refine⟨"str",_,F.slot_str_getitem.lookup,typeIs_str _ _ _,wpAny_getItem_str_slice (l:=l) (u:=u) (st:=none) hs rfl ?_⟩
 exact post_val_or_str ⟨cJ (Txt.slice_le z _ _) hz,fun t' k=>⟨.str _,H,I.tok k,⟨t',rfl⟩,q⟩⟩
noncomputable def qo (xe:Value→Shared→Prop) (X:Cx) (Nc:List Str) (scope:Scope) (cl:List (Str × Addr)) (C:Addr) (fp:List Addr) (s:Shared) (H:Hp):Cx :=
 { X with N:=Nc,s₀:=s,H₀:=H,env:=compEnvC scope cl C X.env,outer:=X.stack,ex:=fp,fn:=fun _=>false,pn:=[],xe:=xe }
abbrev u2:=qo fun _ _=>False
noncomputable def ja (J:It) (D:Addr) (g:TG) (tt:TT) (te:TE) (fin:List V→Hp→Prop) (σ:St) (H:Hp):Prop :=
 ∃ W:Nat→Nat→List V→St→Hp→Prop,(∃ m,W 0 m [] σ H)∧(∀ i m ys σ H,W i m ys σ H→H D=some (.lst ys)) ∧
  ∀ i m ys σ H,W i m ys σ H→(J.stop i H∧fin ys H) ∨
   (J.go i H∧∃ N:List V→St→Hp→Prop,(∀ ys' σ' H',N ys' σ' H'→∃ m',m'<m∧W (i+1) m' ys' σ' H') ∧
    ∀ x H',J.yld i H x H'→g x σ H' fun σ1 H1=>tt σ1 H1 fun b H2=>if b=true then te σ1 H2 fun y H3=>H3 D=some (.lst ys)∧ys.length<sizeLine∧N (ys++[y]) σ1 (upd H3 D (.lst (ys++[y]))) else N ys σ1 H2)
noncomputable def QT (src:List (Option Nat)) (wi:TI) (g:TG) (tt:TT) (te:TE):TE:=fun σ H Q=>wi σ H fun J H1=>∀ D,H1 D=none→ja J D g tt te (fun ys H2=>Q (.ref D) H2) (Pk src σ) (upd H1 D (.lst []))
section
variable {X:Cx} {elt iter tgt:Expr} {ifs:List Expr} {scope:Scope} {cl:List (Str × Addr)} {Nc:List Str} {src:List (Option Nat)} {g:TG} {tt:TT} {te:TE}
theorem vF {xe:Value→Shared→Prop} {pins:List (Addr × Obj)} {σ:St} {H:Hp} {s:Shared} {D it:Addr} {fp:List Addr} {tn:Nat→Heap→Prop} {J:It} {R:Addr→Result→Shared→Prop} {fin:List V→Hp→Prop} {pos:Pos} {E:Value→Shared→Prop}
  (c:Qq X Nc scope cl src) (hcalm:X.calm=true) (I:zJ X pins σ H s) (T:VL X.prog X.w X.K tgt J fp it tn) (st0:tn 0 s.heap) (f:∀ b∈fp,yq X pins H b) (hb:PG (qo xe X Nc scope cl s.heap.objs.size fp s H) tgt g∧j7 (qo xe X Nc scope cl s.heap.objs.size fp s H) ifs tt∧PE (qo xe X Nc scope cl s.heap.objs.size fp s H) elt te) (h:ja J D g tt te fin (Pk src σ) H) (hx:∀ x s',xe x s'→notedBy (model X.prog X.w) X.A (compEnvC scope cl s.heap.objs.size X.env) (fun e s'=>R s.heap.objs.size (.error e) s') x s') (kend:∀ C ys σ' H' s',H C=none→zJ (qo xe X Nc scope cl C fp s H) [] σ' H' s'→H' D=some (.lst ys)→fin ys H'→R C (.ok .next) s') :
  wpAny (model X.prog X.w) X.A (newFunctionEnv scope X.env.globals cl [] X.env.qual none .none (some X.env)) (fun cenv s4 =>
   codeAny (model X.prog X.w) X.A (.compStart (.ListComp elt [⟨tgt,iter,ifs,0⟩] scope pos) 0 (.ref it) (.ref D) { cenv with scope:=relabel scope X.env }) (R cenv.locals) s4) E s:=by
 obtain⟨W,⟨m0,w0⟩,wi,wt⟩:=h
 refine wpAny_newFunctionEnv c.cell (by intro y hy;simp at hy) (fun h1 hn1 hs1=>?_) c.kind
 have hC0:H s.heap.objs.size=none:=I.hok.fresh (cx _)
 have old:∀ b o,s.heap.get? b=some o→h1.get? b=some o:=fun b o e=>hs1.extBut b o (Cc (cD e)) (Cg _ e)
 have fplt:∀ b∈fp,b<s.heap.objs.size:=fun b hb=>by
  obtain⟨o,e,_⟩:=T.obj 0 _ st0 b hb
  exact cD e
 have inStk:∀ b∈fp,b∉Gw X.stack:=fun b hb z=>(cy.mp (I.stkSub b z)).elim (f b hb).2.1 (f b hb).2.2.1
 have Yok:(qo xe X Nc scope cl s.heap.objs.size fp s H).Ok:=by
  refine⟨I.ok.mod,c.kind,I.ok.glob,I.ok.blt,cx _,fun x y b h1 h2=>I.ok.inj x y b (c.sub x b h1) (c.sub y b h2),fun x hx=>c.has x hx,(fun x b h1 _=>nomatch h1),I.ok.hd,I.ok.frames,.inl rfl,fun b hb=>?_,fun b o e=>I.bs b o e,cJ I.ok.bsz I.sz,fun b o e hb=>?_,fun b hb=>?_,I.stack,I.stkFree⟩
  ·exact⟨Cc (fplt b hb),fun x b' e=>(f b hb).2.2.2.2.1 x b' (c.sub x b' e)⟩
  ·have e0:=(I.ok.bs b o e).1
   rcases (f b hb).2.2.2.1 with z | z
   ·exact I.ok.noex b o e z
   ·rw[z] at e0;cases e0
  ·exact inStk b hb
 have J0:zJ (qo xe X Nc scope cl s.heap.objs.size fp s H) [] (Pk src σ) H { s with heap:=h1,toks:=s.toks+([]:List (Str × Value)).length }:=by
  refine⟨Yok,rfl,I.bare,Un.kept old,⟨_,hn1,fun i x v e1 e2 e3=>?_⟩,fun x b e=>?_,hC0,fun x b e=>I.freeC x b (c.sub x b e),fun p hp=>absurd (show p∈([]:List (Addr × Obj)) from hp) (by simp),I.hok.kept old,?_⟩
  ·unfold Pk at e2
   rw[cQ] at e2
   cases q:src[i]? with
   | none=>rw[q] at e2;cases e2
   | some oj =>
    rw[q] at e2
    cases oj with
    | none=>cases e2
    | some j =>
     obtain⟨y,y1,y2,y3,y4⟩:=c.frm i j q
     obtain rfl:y=x:=Option.some.inj (y1.symm.trans e1)
     have e2':(σ[j]?).join=some v:=Option.some.inj e2
     have e2s:σ[j]? = some (some v):=by
      cases z:σ[j]? with
      | none=>rw[z] at e2';cases e2'
      | some ov=>rw[z] at e2';exact congrArg some e2'
     obtain⟨m,hn,hl⟩:=I.loc
     obtain⟨u,r,l⟩:=hl j y v y2 e2s (.inr (.inl y3))
     refine⟨u,r,.inr ⟨.inl y4,?_⟩⟩
     rcases l with ⟨k1,_⟩ | ⟨_,b,k2,k3⟩
     ·exact absurd (k1.symm.trans y3) (by intro z;cases z)
     ·obtain⟨b',k4⟩:=c.has y (.inl y4)
      have k5:=c.sub y b' k4
      rw[k2] at k5
      cases k5
      obtain⟨o,ho,hd⟩:=k3
      exact⟨b,k4,o,old b o ho,hd⟩
  ·obtain⟨v,o,ho,hd⟩:=I.cell x b (c.sub x b e)
   exact⟨v,o,old b o ho,hd⟩
  ·unfold Pk
   rw[cw]
   exact c.len
 have st1:tn 0 h1:=T.keep _ _ _ st0 fun b _ o e=>old b o e
 obtain⟨bg,bi,be⟩:=hb
 have fpY:∀ {H2:Hp},(∀ b∈fp,H2 b=none)→∀ b∈fp,yq (qo xe X Nc scope cl s.heap.objs.size fp s H) [] H2 b:=fun {H2} n b hb =>
  ⟨n b hb,Cc (fplt b hb),inStk b hb,.inl hb,fun x b' e=>(f b hb).2.2.2.2.1 x b' (c.sub x b' e),fun p hp=>absurd (show p∈([]:List (Addr × Obj)) from hp) (by simp)⟩
 have loop:codeAny (model X.prog X.w) X.A (.compLoop (.ListComp elt [⟨tgt,iter,ifs,0⟩] scope pos) 0 (.ref it) (.ref D) (compEnvC scope cl s.heap.objs.size X.env)) (R s.heap.objs.size) { s with heap:=h1,toks:=s.toks+([]:List (Str × Value)).length }:=by
  refine G2 (EX:=xe) hx (fun n s'=>∃ i ys σ' H',zJ (qo xe X Nc scope cl s.heap.objs.size fp s H) [] σ' H' s'∧tn i s'.heap∧(∀ b∈fp,H' b=none)∧W i n ys σ' H') ?_ m0 ⟨0,[],_,H,J0,st1,fun b hb=>(f b hb).1,w0⟩
  rintro n s2 ⟨i,ys,σ2,H2,J2,st2,fr2,w2⟩
  have q2:=wi i n ys σ2 H2 w2
  rcases wt i n ys σ2 H2 w2 with ⟨stop,qn⟩ | ⟨go,N,hN,step⟩
  ·refine q0 (T.done (qo xe X Nc scope cl s.heap.objs.size fp s H) rfl rfl rfl hcalm i [] s2 σ2 H2 _ J2 (fpY fr2) st2 stop) fun r s4 ⟨hr,I4⟩=>?_
   subst hr
   exact kend _ ys σ2 H2 _ hC0 I4 q2 qn
  ·refine q0 (T.item (qo xe X Nc scope cl s.heap.objs.size fp s H) rfl rfl rfl hcalm i [] s2 σ2 H2 _ J2 (fpY fr2) st2 go) fun r s4 ⟨u,hr,h4⟩=>?_
   subst hr
   refine q0 h4 fun _ s5 ⟨x,H5,I5,r5,y5,st5,fr5⟩=>?_
   have I5':=I5.pinned (fpY fr5) (T.obj _ _ st5)
   have back:∀ {σ7:St} {H7:Hp} {s7:Shared},zJ (qo xe X Nc scope cl s.heap.objs.size fp s H) ([]++ug fp s5.heap) σ7 H7 s7→zJ (qo xe X Nc scope cl s.heap.objs.size fp s H) [] σ7 H7 s7∧tn (i+1) s7.heap∧∀ b∈fp,H7 b=none:=fun {σ7 H7 s7} I7=>by
    refine⟨I7.unpinned,T.keep _ _ _ st5 fun b hb o e=>(I7.pin (b,o) (Cz _ (Cz _ (j9 hb e)))).1,fun b hb=>?_⟩
    obtain⟨o,e,d⟩:=T.obj _ _ st5 b hb
    exact (I7.pin (b,o) (Cz _ (Cz _ (j9 hb e)))).2.1
   refine q0 (bg _ s5 σ2 H5 x u _ I5' r5 (step x H5 y5)) fun _ s6 ⟨σ6,H6,I6,q6⟩=>?_
   refine q0 (bi _ s6 σ6 H6 _ I6 q6) fun b s7 ⟨H7,I7,q7⟩=>?_
   cases b with
   | false =>
    obtain⟨m',hm,w7⟩:=hN _ _ _ q7
    obtain⟨J7,st7,fr7⟩:=back I7
    exact⟨m',hm,i+1,ys,σ6,H7,J7,st7,fr7,w7⟩
   | true =>
    refine q0 (be _ s7 σ6 H7 _ I7 q7) fun y s8 ⟨vy,H8,I8,ry,hD8,hl8,n8⟩=>?_
    refine q0 (ji (X:=qo xe X Nc scope cl s.heap.objs.size fp s H) _ s8 σ6 H8 (.ref D) [vy] (.ref D) [y] (fun _ H'=>H'=upd H8 D (.lst (ys++[vy]))) I8 rfl (.cons ry .nil) ⟨D,ys,vy,rfl,rfl,hD8,hl8,rfl⟩) fun _ s9 ⟨_,H9,I9,_,e9⟩=>?_
    subst e9
    obtain⟨m',hm,w8⟩:=hN _ _ _ n8
    obtain⟨J9,st9,fr9⟩:=back I9
    exact⟨m',hm,i+1,ys++[vy],σ6,_,J9,st9,fr9,w8⟩
 exact codeAny_compStart_list loop (T.self _ 0 _ _ _ st1 loop)
theorem vc {xe:Value→Shared→Prop} {pins:List (Addr × Obj)} {σ σ':St} {H H':Hp} {s s':Shared} {C:Addr} {fp:List Addr} {h':Heap} (I:zJ X pins σ H s) (f:∀ b∈fp,yq X pins H b) (J:zJ (qo xe X Nc scope cl C fp s H) [] σ' H' s') (hs:Heap.SameBut C s'.heap h') :
  zJ X pins σ H' { s' with heap:=h' }:=by
 have nC:∀ b o,s.heap.get? b=some o→b≠C:=fun b o e=>Cc (Cw (cD e) J.ok.above)
 have B:=J.base
 refine I.call' (s':={ s' with heap:=h' }) (ch:=fp) J.os ⟨fun b o e n hb hx=>(hs.2 b (nC b o e)).trans (B.keep b o e n hb hx),fun b o e n hb hx=>?_,B.free,fun b o e hx=>?_,B.tups,B.frzs,B.tbls⟩ (fun b u q=>?_) J.bare fun b hb=>?_
 ·obtain⟨sl,z⟩:=B.slot b o e n hb hx
  exact⟨sl,(hs.2 b (nC b o e)).trans z⟩
 ·obtain⟨o',z⟩:=B.there b o e hx
  exact⟨o',(hs.2 b (nC b o e)).trans z⟩
 ·have hC:H' C=none:=J.free
  refine (J.hok b u q).stay (fun c v hc z=>(hs.2 c ?_).trans z) (fun _ z=>z) fun _ _ z=>z
  rintro rfl
  rcases hc with hc | hc
  ·rw[← hc,hC] at q;cases q
  ·rw[hC] at hc;cases hc
 ·exact⟨(f b hb).2.2.2.1,(f b hb).2.1,(f b hb).2.2.2.2.1,(f b hb).2.2.2.2.2⟩
theorem qm {wi:TI} {pos:Pos} (c:Qq X Nc scope cl src) (hcalm:X.calm=true) (hi:PI X tgt iter wi) (hb:∀ fp C s' H',PG (u2 X Nc scope cl C fp s' H') tgt g∧j7 (u2 X Nc scope cl C fp s' H') ifs tt∧PE (u2 X Nc scope cl C fp s' H') elt te) (hs:∀ x,foldedSetIterable iter X.env x=pure x:=by intro _;rfl):PE X (.ListComp elt [⟨tgt,iter,ifs,0⟩] scope pos) (QT src wi g tt te):=by
 intro pins s σ H Q I h
 rw[eval_ListComp]
 refine wpAny_comprehension_free (use:=none) rfl hs c.clos c.kind c.names (q0 (hi pins s σ H _ I h) fun v s1 h1=>q0 h1 fun itv s2 h2=>?_)
 obtain⟨it,fp,tn,J,H2,e,I2,T,st2,f2,hT⟩:=h2
 subst e
 refine wpAny_newObj_type ?_ (by size_fits)
 have old:∀ b o,s2.heap.get? b=some o→(s2.heap.push { cls:=.type "list",data:=.seq ([]:List Value).toArray }).get? b=some o:=fun b o e=>Cg _ e
 have I3:=I2.laid (a:=s2.heap.objs.size) (o:=.lst []) (t':=s2.toks) (h':=s2.heap.push { cls:=.type "list",data:=.seq ([]:List Value).toArray }) old (cx _) ⟨Cy _,[],0,.nil,Co _ rfl⟩
 have ne:∀ b∈fp,b≠s2.heap.objs.size:=fun b hb=>by
  obtain⟨o,e,_⟩:=T.obj 0 _ st2 b hb
  exact Cc (cD e)
 have f3:∀ b∈fp,yq X pins (upd H2 s2.heap.objs.size (.lst [])) b:=fun b hb=>⟨by rw[zm (ne b hb)];exact (f2 b hb).1,(f2 b hb).2⟩
 refine vF (it:=it) (R:=fun C=>compPost (model X.prog X.w) X.A X.xe none (EP X pins σ Q) _ C) c hcalm I3 T (T.keep _ _ _ st2 fun b _ o e=>old b o e) f3 (hb fp _ _ _) (hT _ (I2.hok.fresh (cx _))) (fun _ _ z=>z.elim) fun C ys σ' H' s' hC J' hD q=>?_
 obtain⟨m,hn,_⟩:=id J'.loc
 exact⟨m,hn,fun h' hs'=>⟨.ref _,H',vc I3 f3 J' hs',rfl,q⟩⟩
end
section
variable {K:BFr} {a D:Addr} {xs:List V} {g:TG} {tt:TT} {te:TE} {fin:List V→Hp→Prop} {σ:St} {H:Hp}
noncomputable def kb (D:Addr) (g:TG) (tt:TT) (te:TE) (x:V) (ys:List V) (N:List V→St→Hp→Prop) (σ:St) (H:Hp):Prop :=
 g x σ H fun σ1 H1=>tt σ1 H1 fun b H2=>if b=true then te σ1 H2 fun y H3=>H3 D=some (.lst ys)∧ys.length<sizeLine∧N (ys++[y]) σ1 (upd H3 D (.lst (ys++[y]))) else N ys σ1 H2
theorem Qy (Pv:Nat→List V→St→Hp→Prop) (h0:Pv 0 [] σ H) (hl:∀ i ys σ H,i≤xs.length→Pv i ys σ H→zZ K H a xs∧H D=some (.lst ys)) (hs:∀ i x ys σ H,xs[i]? = some x→Pv i ys σ H→kb D g tt te x ys (Pv (i+1)) σ H) (hd:∀ ys σ H,Pv xs.length ys σ H→fin ys H):ja (mX K a) D g tt te fin σ H:=by
 refine⟨fun i m ys σ H=>m=xs.length - i∧i≤xs.length∧Pv i ys σ H,⟨xs.length,by simp,Cy _,h0⟩,fun i m ys σ H ⟨_,hi,p⟩=>(hl i ys σ H hi p).2,?_⟩
 rintro i m ys σ H ⟨rfl,hi,p⟩
 have q:=(hl i ys σ H hi p).1
 by_cases hlt:i<xs.length
 ·refine .inr ⟨⟨xs,xs[i],q,by simp[hlt]⟩,Pv (i+1),fun ys' σ' H' p'=>⟨xs.length - (i+1),by omega,rfl,hlt,p'⟩,fun x H' y=>?_⟩
  obtain⟨e,y⟩:=y
  subst e
  exact hs i x ys σ _ (y xs q) p
 ·have e:i=xs.length:=by omega
  subst e
  exact .inl ⟨⟨xs,q,cx _⟩,hd ys σ H p⟩
end
noncomputable def Tf (z:Str):It:=⟨fun i _=>i<z.cps.size,fun i H x H'=>H'=H∧∃ c,z.cps[i]? = some c∧x = .str ⟨#[c]⟩,fun i _=>z.cps.size≤i⟩
theorem JX (z:Str):strIterType z = "str_ascii_iterator"∨strIterType z = "str_iterator":=by
 unfold strIterType
 split
 ·exact .inl rfl
 ·exact .inr rfl
theorem oq {P:Program} {w:World} {K:BFr} {tg:Expr} (z:Str) (t:Tok) (it:Addr):VL P w K tg (Tf z) [it] it (fun i h=>h.IsStrIter it (strIterType z) z t i) where
 mem:=by simp
 obj:=fun i h st b hb=>by
  have e:b=it:=by simpa using hb
  subst e
  obtain⟨o,e,c,d⟩:=st
  exact⟨o,e,fun v q=>by rw[d] at q;cases q⟩
 keep:=fun i h h' st k=>by
  obtain⟨o,e,r⟩:=st
  exact⟨o,k it (by simp) o e,r⟩
 item:=by
  intro X hP hw hK hc i pins s σ H E I hf st hg
  subst hP hw hK
  have hg':i<z.cps.size:=hg
  have hx:z.cps[i]? = some z.cps[i]:=DC hg'
  obtain⟨f0,f1,f2,f3,f4,f5⟩:=hf it (by simp)
  have fin:∀ h':Heap,h'.IsStrIter it (strIterType z) z t (i+1)→Heap.SameBut it s.heap h'→∃ u,some (Value.str ⟨#[z.cps[i]]⟩ s.toks)=some u ∧
    wpAny (model X.prog X.w) X.A (letOwnedTupleGo tg (.ref it) u) (fun _ s2=>∃ x H',zJ X pins σ H' s2∧qx x u∧(Tf z).yld i H x H'∧s2.heap.IsStrIter it (strIterType z) z t (i+1)∧∀ b∈[it],H' b=none) E { s with heap:=h',toks:=s.toks+1 }:=fun h' st' sb=>by
   have I1:zJ X pins σ H { s with heap:=h',toks:=s.toks+1 }:=I.turned (t':=s.toks+1) (fun b o hb e=>(sb.2 b hb).trans e) f0 f1 f3 f4 f5
   obtain⟨o,e,c,d⟩:=id st'
   refine⟨_,rfl,UQ (s:={ s with heap:=h',toks:=s.toks+1 }) e c d ?_ ⟨.str ⟨#[z.cps[i]]⟩,H,I1,⟨_,rfl⟩,⟨rfl,_,hx,rfl⟩,st',fun b hb=>(hf b hb).1⟩⟩
   rcases JX z with q | q <;> rw[q] <;> decide
  rcases JX z with q | q
  ·rw[q] at st fin ⊢
   exact wpAny_pyNext_ascii_item st hx fun h' st' sb=>fin h' st' sb
  ·rw[q] at st fin ⊢
   exact wpAny_pyNext_wide_item st hx fun h' st' sb=>fin h' st' sb
 done:=by
  intro X hP hw hK hc i pins s σ H E I hf st hg
  subst hP hw hK
  have hg':z.cps.size≤i:=hg
  have hx:z.cps[i]? = none:=Array.getElem?_eq_none hg'
  obtain⟨f0,f1,f2,f3,f4,f5⟩:=hf it (by simp)
  have fin:∀ h':Heap,Heap.ExtBut it s.heap h'→(none:Option Value)=none∧zJ X pins σ H { s with heap:=h' }:=fun h' eb=>⟨rfl,I.turned (t':=s.toks) (fun b o hb e=>eb b o hb e) f0 f1 f3 f4 f5⟩
  rcases JX z with q | q
  ·rw[q] at st
   exact wpAny_pyNext_ascii_end (I.ok.hd hc) st hx fin
  ·rw[q] at st
   exact wpAny_pyNext_wide_end (I.ok.hd hc) st hx fin
 self:=fun _ _ _ _ _ st h=>by
  rcases JX z with q | q
  ·rw[q] at st
   exact wpAny_pyIter_striter_ascii st h
  ·rw[q] at st
   exact wpAny_pyIter_striter_wide st h
noncomputable def lJ (tl:TE):TI:=fun σ H R=>tl σ H fun x H1=>∃ z,x = .str z∧R (Tf z) H1
theorem WR {X:Cx} {tg l:Expr} {tl:TE} (hl:PE X l tl):PI X tg l (lJ tl):=by
 intro pins s σ H R I h
 refine q0 (hl pins s σ H _ I h) fun v s1 ⟨x,H1,I1,r1,q1⟩=>?_
 obtain⟨z,e,q⟩:=q1
 subst e
 obtain⟨t,rfl⟩:=r1
 refine wpAny_pyIter_strU ?_
 refine⟨s1.heap.objs.size,[s1.heap.objs.size],_,_,H1,rfl,I1.kept (t':=s1.toks) fun b o e=>Cg _ e,oq z t _,⟨_,Co _ rfl,rfl,rfl⟩,fun b hb=>?_,q⟩
 have e:b=s1.heap.objs.size:=by simpa using hb
 subst e
 exact I1.fpOk (cx _) (I1.hok.fresh (cx _))
noncomputable def BR (c:Nat):V:=.str ⟨#[c]⟩
section
variable {D:Addr} {g:TG} {tt:TT} {te:TE} {fin:List V→Hp→Prop} {σ:St} {H:Hp} {z:Str}
end
section
variable {X:Cx}
theorem Xo (x:Str) (c:Nat):(!(Builtin.Str.occurrences x ⟨#[c]⟩ 0 x.length 1).isEmpty)=x.cps.toList.contains c:=by
 rw[dc,StrLaws.found_iff,CK]
 constructor
 ·rintro ⟨i,h⟩
  exact CC ((StrLaws.subAt_one x c i).mp h)
 ·intro h
  obtain⟨i,hi⟩:=List.getElem?_of_mem h
  exact⟨i,(StrLaws.subAt_one x c i).mpr hi⟩
theorem Ye:va X (.type "int") (fun xs H Q=>∃ z n,xs=[.str z]∧PySem.intText? z=some n∧z.length≤640∧Q (.int n) H):=by
 intro pins s σ H xs us Q I r h
 obtain⟨z,n,rfl,hn,hl,q⟩:=h
 obtain⟨u,rfl,ru⟩:=ux r
 obtain⟨t,rfl⟩:=ru
 exact PySem.W.KIN.call_text hn hl ⟨.int n,H,I.tok _,⟨_,rfl⟩,q⟩
end
open Builtin.Str (occurrences partsBetween)
theorem Ju:∀ {zs:List Str} {its:List Value},qf (zs.map V.str) its→∃ l:List (Str × Tok),l.map (·.1)=zs∧its=strValues l
 | [],_,.nil=>⟨[],rfl,rfl⟩
 | z::zs,_,.cons ⟨t,e⟩ r=>by
  obtain⟨l,e1,e2⟩:=Ju r
  subst e e2
  exact⟨(z,t)::l,by rw[CA,e1],rfl⟩
theorem Jb:∀ (l:List (Str × Tok)),qf ((l.map (·.1)).map V.str) (strValues l)
 | []=>.nil
 | p::r=>.cons ⟨p.2,rfl⟩ (Jb r)
section
variable {X:Cx}
theorem jj:tY X "str.join" (fun x vs H Q=>∃ sep zs a,x = .str sep∧vs=[.ref a]∧zZ X.K H a (zs.map V.str)∧JoinOk sep zs=true∧Q (.str (Txt.join sep zs)) H):=by
 intro pins s σ H x xs v us Q I rx rv h
 obtain⟨sep,zs,a,rfl,rfl,hS,hj,q⟩:=h
 obtain⟨t,rfl⟩:=rx
 obtain⟨u,rfl,ru⟩:=qf.one rv
 cases ru
 obtain⟨its,r,pl,hz⟩:=I.list hS
 obtain⟨l,e1,rfl⟩:=Ju r
 exact SC.join pl.isList e1 hj fun t' k=>⟨.str _,H,I.tok k,⟨t',rfl⟩,q⟩
theorem Qk:tY X "str.split" (fun x vs H Q=>∃ z y,x = .str z∧vs=[.str y]∧(y.length==0)=false∧z.length≤sizeLine∧(partsBetween z (occurrences z y 0 z.length (z.length+1)) y.length).length≤sizeLine∧G9 H (.lst ((Txt.split z y).map V.str)) Q):=by
 intro pins s σ H x xs v us Q I rx rv h
 obtain⟨z,y,rfl,rfl,hy,h1,h2,q⟩:=h
 obtain⟨t,rfl⟩:=rx
 obtain⟨u,rfl,ru⟩:=qf.one rv
 obtain⟨tu,rfl⟩:=ru
 have fin:∀ (l:List (Str × Tok)) (k:Nat),l.map (·.1)=Txt.split z y→(Txt.split z y).length≤sizeLine→EP X pins σ Q (.ref s.heap.objs.size) { s with toks:=k,heap:=s.heap.push { cls:=.type "list",data:=.seq (strValues l).toArray } }:=fun l k e hl=>by
  refine⟨.ref _,upd H s.heap.objs.size (.lst ((Txt.split z y).map V.str)),I.laid (t':=k) (fun b o e=>Cg _ e) (cx _) ⟨by rw[cw];exact hl,strValues l,0,by rw[← e];exact Jb l,Co _ rfl⟩,rfl,q.at (I.hok.fresh (cx _))⟩
 have one:∀ e:Txt.split z y=[z],(Txt.split z y).length≤sizeLine:=fun e=>by rw[e];exact qa rfl
 cases c1:(decide (z.length<y.length) || decide (Builtin.Str.strKind z<Builtin.Str.strKind y))
 ·cases hf:(occurrences z y 0 z.length (z.length+1)).isEmpty
  ·refine call_meets F.slot_str_split (typeIs_str _ _ _) F.entry_str_split (F.args_str_split_2 _ _) (meets_str_split_sep z y t tu c1 hy hf h1 h2) ?_
   show wants _ _ _ { s with toks:=_,heap:=s.heap.push { cls:=.type "list",data:=.seq (strsFrom s.toks (partsBetween z (occurrences z y 0 z.length (z.length+1)) y.length)).toArray } }
   rw[strsFrom_eq]
   have e:Txt.split z y=partsBetween z (occurrences z y 0 z.length (z.length+1)) y.length:=(if_neg (ne_true_of_eq_false c1)).trans (if_neg (ne_true_of_eq_false hf))
   exact fin (numbered s.toks _) _ ((numbered_texts _ _).trans e.symm) (by rw[e];exact h2)
  ·have e:Txt.split z y=[z]:=(if_neg (ne_true_of_eq_false c1)).trans (if_pos hf)
   exact call_meets F.slot_str_split (typeIs_str _ _ _) F.entry_str_split (F.args_str_split_2 _ _) (meets_str_split_not_found z y t tu c1 hy hf) (fin [(z,t)] s.toks e.symm (one e))
 ·have e:Txt.split z y=[z]:=if_pos c1
  exact call_meets F.slot_str_split (typeIs_str _ _ _) F.entry_str_split (F.args_str_split_2 _ _) (meets_str_split_cannot_occur z y t tu c1) (fin [(z,t)] s.toks e.symm (one e))
end
end L2
namespace L2
open PySem PySem.Spec PyProof.Rows
inductive Dt where
 | v (x:V)
 | l (xs:List Dt)
 | t (xs:List Dt)
inductive Is (K:BFr) (H:Hp):Nat→V→Dt→Prop where
 | v {n:Nat} {x:V}:jL x=true→Is K H n x (.v x)
 | l {n:Nat} {a:Addr} {xs:List V} {ds:List Dt}:zZ K H a xs→xs.length=ds.length→(∀ (j:Nat) x d,xs[j]? = some x→ds[j]? = some d→Is K H n x d)→Is K H (n+1) (.ref a) (.l ds)
 | t {n:Nat} {a:Addr} {xs:List V} {ds:List Dt}:yj K H a xs→xs.length=ds.length→(∀ (j:Nat) x d,xs[j]? = some x→ds[j]? = some d→Is K H n x d)→Is K H (n+1) (.ref a) (.t ds)
theorem Is.flat {K:BFr} {H:Hp} {a:Addr} {xs:List V} (h:zZ K H a xs) (f:xs.all jL=true):Is K H 1 (.ref a) (.l (xs.map Dt.v)):=by
 refine .l h (by simp) fun j x d e1 e2=>?_
 rw[cQ,e1] at e2
 cases e2
 exact .v (Cm.mp f x (CC e1))
theorem Is.flatT {K:BFr} {H:Hp} {a:Addr} {xs:List V} (h:yj K H a xs) (f:xs.all jL=true):Is K H 1 (.ref a) (.t (xs.map Dt.v)):=by
 refine .t h (by simp) fun j x d e1 e2=>?_
 rw[cQ,e1] at e2
 cases e2
 exact .v (Cm.mp f x (CC e1))
theorem UZ {x:V} (f:jL x=true):lp x x=true:=by
 cases x <;> simp[jL] at f <;> simp[lp]
theorem ju (n:Nat):(List.range n).all (fun _=>true)=true:=by
 rw[Cm]
 intro _ _
 rfl
section
variable {X:Cx} {pins:List (Addr × Obj)} {σ:St} {H:Hp} {s:Shared}
theorem Js {xs:List V} {its:List Value} (r:qf xs its) {j:Nat} (h:j<its.toArray.size):∃ x,xs[j]? = some x∧qx x its.toArray[j]:=by
 have hl:=r.length
 have hj:j<xs.length:=by rw[hl];simpa using h
 refine⟨xs[j],cI hj,?_⟩
 obtain⟨u,e1,e2⟩:=r.get (cI hj)
 have:its[j]? = some its.toArray[j]:=by simp at h ⊢
 rw[this] at e1
 cases e1
 exact e2
theorem gH (I:zJ X pins σ H s):∀ (n:Nat) (d:Dt) (x y:V) (u v:Value) (A:Around),Is X.K H n x d→Is X.K H n y d→qx x u→qx y v→A.units+n<cLine→SeqAt.EqAt A s u v true:=by
 intro n
 induction n with
 | zero =>
  intro d x y u v A hx hy ru rv hu
  cases hx with
  | v f =>
   cases hy with
   | v f' =>
    have e:=W6 (A:=A) (s:=s) ru rv f f
    rw[UZ f] at e
    exact e
 | succ n ih =>
  intro d x y u v A hx hy ru rv hu
  cases hx with
  | v f =>
   cases hy with
   | v f' =>
    have e:=W6 (A:=A) (s:=s) ru rv f f
    rw[UZ f] at e
    exact e
  | l h1 h2 h3 =>
   cases hy with
   | l g1 g2 g3 =>
    cases ru
    cases rv
    rename_i a xs ds b ys
    by_cases hab:a=b
    ·subst hab
     exact SeqAt.EqAt.same _
    ·obtain⟨us,r1,p1,_⟩:=I.list h1
     obtain⟨ws,r2,p2,_⟩:=I.list g1
     have e:=SeqAt.RcAt.lists (A:=A) (e:=fun _=>true) p1.isList p2.isList (by rw[Cb,Cb,← r1.length,← r2.length,h2,g2]) (by omega) fun j k1 k2=>by
      obtain⟨x,ex,rx⟩:=Js r1 k1
      obtain⟨y,ey,ry⟩:=Js r2 k2
      have hj:j<ds.length:=by
       have:=(cW.mp ex).1
       omega
      exact ih ds[j] x y _ _ A.in1 (h3 j x _ ex (cI hj)) (g3 j y _ ey (cI hj)) rx ry (by show A.units+1+n<cLine;omega)
     rw[ju] at e
     exact SeqAt.EqAt.of_refs hab e
  | t h1 h2 h3 =>
   cases hy with
   | t g1 g2 g3 =>
    cases ru
    cases rv
    rename_i a xs ds b ys
    by_cases hab:a=b
    ·subst hab
     exact SeqAt.EqAt.same _
    ·obtain⟨us,r1,p1,_⟩:=I.tuple h1
     obtain⟨ws,r2,p2,_⟩:=I.tuple g1
     have e:=SeqAt.RcAt.tuples (A:=A) (e:=fun _=>true) (show s.heap.IsTuple a us.toArray from p1) (show s.heap.IsTuple b ws.toArray from p2) (by omega) fun j k1 k2=>by
      obtain⟨x,ex,rx⟩:=Js r1 k1
      obtain⟨y,ey,ry⟩:=Js r2 k2
      have hj:j<ds.length:=by
       have:=(cW.mp ex).1
       omega
      exact ih ds[j] x y _ _ A.in1 (h3 j x _ ex (cI hj)) (g3 j y _ ey (cI hj)) rx ry (by show A.units+1+n<cLine;omega)
     rw[ju,Cn,show (us.toArray.size==ws.toArray.size)=true by rw[beq_iff_eq,Cb,Cb,← r1.length,← r2.length,h2,g2]] at e
     exact SeqAt.EqAt.of_refs hab e
theorem LU (I:zJ X pins σ H s) {n:Nat} {ds:List Dt} {xs ys:List V} {us ws:List Value} {A:Around} (r1:qf xs us) (r2:qf ys ws) (h2:xs.length=ds.length) (h3:∀ (j:Nat) x d,xs[j]? = some x→ds[j]? = some d→Is X.K H n x d) (g3:∀ (j:Nat) x d,ys[j]? = some x→ds[j]? = some d→Is X.K H n x d) (hu:A.units+(n+1)<cLine) :
  ∀ j (k1:j<us.toArray.size) (k2:j<ws.toArray.size),SeqAt.EqAt A.in1 s us.toArray[j] ws.toArray[j] ((fun _=>true) j):=fun j k1 k2=>by
 obtain⟨x,ex,rx⟩:=Js r1 k1
 obtain⟨y,ey,ry⟩:=Js r2 k2
 have hj:j<ds.length:=by
  have:=(cW.mp ex).1
  omega
 exact gH I n ds[j] x y _ _ A.in1 (h3 j x _ ex (cI hj)) (g3 j y _ ey (cI hj)) rx ry (by show A.units+1+n<cLine;omega)
end
section
variable {X:Cx}
noncomputable def PY:Dt→Bool
 | .v _=>false
 | _=>true
noncomputable def Mi (X:Cx) (neg:Bool):R2:=fun x y H Q=>∃ n d,PY d=true∧Is X.K H n x d∧Is X.K H n y d∧X.A.units+n<cLine∧Q (.bl (!neg)) H
theorem Nd:wk X (compareOp .Eq) (Mi X false):=by
 intro pins s σ H x y v u Q I rx ry h
 obtain⟨n,d,hq,hx,hy,hu,q⟩:=h
 cases hx with
 | v f=>cases hq
 | l h1 h2 h3 =>
  cases hy with
  | l g1 g2 g3 =>
   cases rx
   cases ry
   obtain⟨us,r1,p1,_⟩:=I.list h1
   obtain⟨ws,r2,p2,_⟩:=I.list g1
   refine SeqAt.eq_listAt p1.isList p2.isList (by rw[Cb,Cb,← r1.length,← r2.length,h2,g2]) (by omega) (LU I r1 r2 h2 h3 g3 hu) ?_
   rw[ju]
   exact⟨.bl true,H,I,rfl,q⟩
 | t h1 h2 h3 =>
  cases hy with
  | t g1 g2 g3 =>
   cases rx
   cases ry
   obtain⟨us,r1,p1,_⟩:=I.tuple h1
   obtain⟨ws,r2,p2,_⟩:=I.tuple g1
   refine SeqAt.eq_tupleAt (show s.heap.IsTuple _ us.toArray from p1) (show s.heap.IsTuple _ ws.toArray from p2) (by omega) (LU I r1 r2 h2 h3 g3 hu) ?_
   rw[ju,Cn,show (us.toArray.size==ws.toArray.size)=true by rw[beq_iff_eq,Cb,Cb,← r1.length,← r2.length,h2,g2]]
   exact⟨.bl true,H,I,rfl,q⟩
theorem Nk:wk X (compareOp .NotEq) (Mi X true):=by
 intro pins s σ H x y v u Q I rx ry h
 obtain⟨n,d,hq,hx,hy,hu,q⟩:=h
 cases hx with
 | v f=>cases hq
 | l h1 h2 h3 =>
  cases hy with
  | l g1 g2 g3 =>
   cases rx
   cases ry
   obtain⟨us,r1,p1,_⟩:=I.list h1
   obtain⟨ws,r2,p2,_⟩:=I.list g1
   refine SeqAt.RcNeAt.lists (e:=fun _=>true) p1.isList p2.isList (by rw[Cb,Cb,← r1.length,← r2.length,h2,g2]) (by omega) (LU I r1 r2 h2 h3 g3 hu) _ _ _ _ ?_
   rw[ju]
   exact⟨.bl false,H,I,rfl,q⟩
 | t h1 h2 h3 =>
  cases hy with
  | t g1 g2 g3 =>
   cases rx
   cases ry
   obtain⟨us,r1,p1,_⟩:=I.tuple h1
   obtain⟨ws,r2,p2,_⟩:=I.tuple g1
   refine SeqAt.RcNeAt.tuples (e:=fun _=>true) (show s.heap.IsTuple _ us.toArray from p1) (show s.heap.IsTuple _ ws.toArray from p2) (by omega) (LU I r1 r2 h2 h3 g3 hu) _ _ _ _ ?_
   rw[ju,Cn,show (us.toArray.size==ws.toArray.size)=true by rw[beq_iff_eq,Cb,Cb,← r1.length,← r2.length,h2,g2]]
   exact⟨.bl false,H,I,rfl,q⟩
end
end L2
set_option maxHeartbeats 1000000
namespace SG
open PySem PyProof.Rows
class Rk where
 num:Value→Int
 knd:SortKind
variable [Rk]
noncomputable def K (xs:Array Keyed) (i:Nat):Int:=match xs[i]? with
 | some q=>Rk.num q.1
 | none=>0
section
variable {prog:Program} {w:World} {A:Around} {E:Value→Shared→Prop} {s:Shared} {b₀:Array Keyed}
end
end SG
namespace SG
open PySem PyProof.Rows
variable [Rk]
abbrev ky (p:Keyed):Int:=Rk.num p.1
noncomputable def put (x:Keyed) (l:List Keyed):List Keyed:=l.takeWhile (fun y=>decide (ky y≤ky x))++x::l.dropWhile (fun y=>decide (ky y≤ky x))
abbrev Up (l:List Keyed):Prop:=l.Pairwise fun a b=>ky a≤ky b
end SG
namespace SG
open PySem PyProof.Rows
variable [Rk]
section
variable {prog:Program} {w:World} {A:Around} {E:Value→Shared→Prop} {s:Shared} {b₀:Array Keyed}
end
end SG
namespace SG
open PySem PyProof.Rows
variable [Rk]
section
variable {prog:Program} {w:World} {A:Around} {E:Value→Shared→Prop} {s:Shared} {b₀:Array Keyed}
end
end SG
namespace SS
open PySem PyProof.Rows
@[reducible] noncomputable def rk:SG.Rk:=⟨numOf,oneType'⟩
local instance:SG.Rk:=rk
abbrev ky (p:Keyed):Int:=numOf p.1
abbrev put (x:Keyed) (l:List Keyed):List Keyed:=@SG.put rk x l
abbrev Up (l:List Keyed):Prop:=@SG.Up rk l
end SS
namespace L2
open PySem PySem.Spec PyProof.Rows
section
variable {X:Cx} {A:Around} {p:Str} {Nr:List Str} {scope:Scope} {cl:List (Str × Addr)} {src:List (Option Nat)} {pins:List (Addr × Obj)} {σ:St} {H:Hp} {s:Shared} {f c':Addr} {name qual:Str} {params:Arguments} {body:Expr} {pm ctv u:Value} {v:V} {te:TE} {Q:VK}
end
end L2
namespace SS
open PySem PyProof.Rows
end SS
namespace SG
open PySem PyProof.Rows
variable [Rk]
end SG
namespace SS
open PySem PyProof.Rows
end SS
namespace L2
open PySem PySem.Spec PyProof.Rows
section
variable {X:Cx} {A:Around} {E:Value→Shared→Prop} {pins:List (Addr × Obj)} {σ:St} {H:Hp} {s:Shared} {a kS:Addr} {e e1:Nat} {keys:Array Value} {vs:List Value} {kz:List Int} {P:PySem.Fin→Shared→Prop}
theorem zJ.adopt {xs:List V} {us:List Value} {n:Nat} (I:zJ X pins σ H s) (f:yq X pins H a) (ha:s.heap.get? a=some (seqObj "list" us.toArray n)) (r:qf xs us) (hz:xs.length≤sizeLine):zJ X pins σ (upd H a (.lst xs)) s:=by
 have ne:∀ b o,H b=some o→b≠a:=fun b o q=>zA q f.1
 refine⟨I.ok,I.os,I.bare,⟨I.base.keep,I.base.slot,fun b o q n hx=>?_,I.base.there,fun b ys q=>?_,fun b o u q=>?_,fun b ps q=>?_⟩,I.loc,I.cell,?_,fun x c q=>?_,fun p hp=>?_,fun b o q=>?_,I.len⟩
 ·have nb:b≠a:=fun z=>by
   subst z
   rcases f.2.2.2.1 with z | z
   ·exact hx z
   ·rw[z] at q;cases q
  rw[zm nb]
  exact I.base.free b o q n hx
 ·have z:=I.base.tups b ys q
  rw[zm (ne _ _ z)];exact z
 ·have z:=I.base.frzs b o u q
  rw[zm (ne _ _ z)];exact z
 ·obtain⟨m,z⟩:=I.base.tbls b ps q
  exact⟨m,by rw[zm (ne _ _ z)];exact z⟩
 ·rw[zm (Ne.symm f.2.1)];exact I.free
 ·rw[zm (f.2.2.2.2.1 x c q)];exact I.freeC x c q
 ·obtain⟨p1,p2,p3,p4,p5⟩:=I.pin p hp
  exact⟨p1,by rw[zm (f.2.2.2.2.2 p hp)];exact p2,p3,p4,p5⟩
 ·by_cases nb:b=a
  ·subst nb
   rw[zj] at q
   cases q
   exact⟨hz,us,n,r,ha⟩
  ·rw[zm nb] at q
   refine (I.hok b o q).stay (fun c u _ z=>z) (fun c z=>?_) fun c ys z=>?_
   ·rw[zm (ne _ _ z)];exact z
   ·rw[zm (ne _ _ z)];exact z
end
theorem Jo {α β:Type} {F:α→β→Prop}:∀ {l₁:List α} {l₂:List β},l₁.length=l₂.length→(∀ (i:Nat) a b,l₁[i]? = some a→l₂[i]? = some b→F a b)→Paired F l₁ l₂
 | [],[],_,_=>.nil
 | [],_::_,h,_=>by simp at h
 | _::_,[],h,_=>by simp at h
 | a::l,b::m,h,f=>.cons (f 0 a b rfl rfl) (Jo (by simpa using h) fun i x y e1 e2=>f (i+1) x y (by simpa using e1) (by simpa using e2))
section
variable {X:Cx} {A:Around} {E:Value→Shared→Prop} {pins:List (Addr × Obj)} {σ:St} {H:Hp} {s:Shared} {r q:Addr} {xs:List V} {k:Nat→Int} {Q:VK}
end
open PySem.W
section
variable {X:Cx} {p:Str} {Nr:List Str} {scope:Scope} {cl:List (Str × Addr)} {src:List (Option Nat)} {pins:List (Addr × Obj)} {σ:St} {H:Hp} {s:Shared} {c P:Addr} {params:Arguments} {body:Expr} {pos:Pos} {E:Value→Shared→Prop}
end
end L2
namespace L2
open PySem PySem.Spec PyProof.Rows
noncomputable def qW (K:BFr) (x:Str) (st:Stmt):Prop:=∃ f fd,PySem.W.nsIn K mainGlobals x=some (some (.ref f))∧qJ K x x st f fd
section
variable {P:Program} {w:World} {K:BFr} {mg:Str→Option Value} {base:Heap} {x:Str} {st:Stmt} {CX:wN} {k:Nat} {ps:List Str} {sp:Sp} {h0:Heap}
theorem qW.cal (h:qW K x st) (X:K.In h0) (G:h0.Ns mainGlobals mg) (hb:∀ (kV doc pm:Value) (an:Option Addr) (cdv ct:Value) (us:List Value),us.length=ps.length→bindArgs (PySem.W.fnOf x x (jJ st) (yJ st) (zO st) .none kV doc pm an cdv ct) ⟨us,[]⟩=pure (ps.zip us)) (ok:∀ f fd,qJ K x x st f fd→zL P w K mg base CX k f fd ps sp):qN P w K mg base CX k x ps sp:=by
 obtain⟨f,fd,a,F⟩:=h
 exact⟨f,fd,Bmg_o X G a,F.kp,F.binds hb,ok f fd F⟩
theorem qW.calQ (h:qW K x st) (X:K.In h0) (G:h0.Ns mainGlobals mg) (hb:∀ (kV doc pm:Value) (an:Option Addr) (cdv ct:Value) (us:List Value),us.length=ps.length→bindArgs (PySem.W.fnOf x x (jJ st) (yJ st) (zO st) .none kV doc pm an cdv ct) ⟨us,[]⟩=pure (ps.zip us)) (ok:∀ f fd,qJ K x x st f fd→U6 P w K mg base k f fd ps sp):lO P w K mg base k x ps sp:=by
 obtain⟨f,fd,a,F⟩:=h
 exact⟨f,fd,Bmg_o X G a,F.kp,F.binds hb,ok f fd F⟩
end
theorem zR {α:Type} {us:List α} (h:us.length=1):∃ a,us=[a]:=by
 match us,h with
 | [a],_=>exact⟨a,rfl⟩
theorem y0 {α:Type} {us:List α} (h:us.length=2):∃ a b,us=[a,b]:=by
 match us,h with
 | [a,b],_=>exact⟨a,b,rfl⟩
theorem Z8 {α:Type} {us:List α} (h:us.length=3):∃ a b c,us=[a,b,c]:=by
 match us,h with
 | [a,b,c],_=>exact⟨a,b,c,rfl⟩
theorem UE {α:Type} {us:List α} (h:us.length=4):∃ a b c d,us=[a,b,c,d]:=by
 match us,h with
 | [a,b,c,d],_=>exact⟨a,b,c,d,rfl⟩
theorem wj {α:Type} {us:List α} (h:us.length=5):∃ a b c d e,us=[a,b,c,d,e]:=by
 match us,h with
 | [a,b,c,d,e],_=>exact⟨a,b,c,d,e,rfl⟩
open PySem.W
end L2
namespace SS
end SS
namespace L2
open PySem PySem.Spec PyProof.Rows PySem.W
section
variable {prog:Program} {w:World} {A:Around} {E:Value→Shared→Prop} {s:Shared}
end
section
variable {X:Cx} {A:Around} {E:Value→Shared→Prop} {pins:List (Addr × Obj)} {σ:St} {H:Hp} {s:Shared} {a:Addr} {its:List Value} {ts:List V} {nsOf:Nat→List Int} {rk:Nat→Int} {P:PySem.Fin→Shared→Prop}
open Classical in
end
end L2
namespace L2
open PySem PySem.Spec PyProof.Rows
section
variable {X:Cx}
theorem Yz:tY X "str.startswith" (fun x vs H Q=>∃ z y,x = .str z∧vs=[.str y]∧Q (.bl (Txt.startswith z y)) H):=by
 intro pins s σ H x xs v us Q I rx rv h
 obtain⟨z,y,rfl,rfl,q⟩:=h
 obtain⟨t,rfl⟩:=rx
 obtain⟨u,rfl,ru⟩:=qf.one rv
 obtain⟨tu,rfl⟩:=ru
 exact SC.startswith ⟨.bl _,H,I,rfl,q⟩
end
open PySem.W
section
variable {X:Cx} {p:Str} {Nr:List Str} {scope:Scope} {cl:List (Str × Addr)} {src:List (Option Nat)} {c P:Addr} {params:Arguments} {body a:Expr} {pos lpos kpos p1 p2 p3:Pos} {ta:TA} {te:TE}
end
end L2
namespace L2
open PySem PySem.Spec PyProof.Rows
theorem vg:bootBuiltins "all" = some (.builtin "all"):=by kernel_rfl
theorem qq {l:List (Str × NameKind)} {cl:List (Str × Addr)} (h:l.all (fun y=>match y.2 with | .cell | .free=>(cl.lookup y.1).isSome | _=>true)=true) (x:Str) (z:l.lookup x=some .cell∨l.lookup x=some .free):∃ c,cl.lookup x=some c:=by
 rcases z with z | z
 ·have:=Cm.mp h _ (PySem.mem_of_lookup z)
  exact C5.mp this
 ·have:=Cm.mp h _ (PySem.mem_of_lookup z)
  exact C5.mp this
theorem vn {cl cs:List (Str × Addr)} (h:∀ q∈cl,cs.lookup q.1=some q.2) (x:Str) (c:Addr) (z:cl.lookup x=some c):cs.lookup x=some c:=h _ (PySem.mem_of_lookup z)
theorem qb {C:Nat→Nat→Prop} (i j:Nat) (z:([]:List (Option Nat))[i]? = some (some j)):C i j:=by simp at z
theorem zM {l:List (Option Nat)} {C:Nat→Nat→Prop} (h:∀ i j,l[i]? = some (some j)→C (i+1) j) (i j:Nat) (z:(none::l)[i]? = some (some j)):C i j:=by
 cases i with
 | zero=>simp at z
 | succ i=>exact h i j (by simpa using z)
theorem qO {l:List (Option Nat)} {k:Nat} {C:Nat→Nat→Prop} (h0:C 0 k) (h:∀ i j,l[i]? = some (some j)→C (i+1) j) (i j:Nat) (z:(some k::l)[i]? = some (some j)):C i j:=by
 cases i with
 | zero =>
  have:some k=some j:=by simpa using z
  cases this
  exact h0
 | succ i=>exact h i j (by simpa using z)
section
variable {X:Cx} {a b c:Expr} {ta:TA} {te:TE} {p1 p2 p3 pos:Pos}
end
section
variable {X:Cx} {elt iter tgt:Expr} {ifs:List Expr} {scope:Scope} {cl:List (Str × Addr)} {Nc:List Str} {src:List (Option Nat)} {g:TG} {tt:TT} {te:TE}
theorem vG {i:Nat} {x:Str} {wi:TI} {pos pos' cpos:Pos} (hN:X.N.Nodup) (hx:X.N[i]? = some x) (hl:X.env.scope.names.lookup x=some .local) (c:Qq X Nc scope cl src) (hcalm:X.calm=true) (hi:PI X tgt iter wi) (hb:∀ fp C s' H',PG (u2 X Nc scope cl C fp s' H') tgt g∧j7 (u2 X Nc scope cl C fp s' H') ifs tt∧PE (u2 X Nc scope cl C fp s' H') elt te) (hsw:swapsWith (.ListComp elt [⟨tgt,iter,ifs,0⟩] scope cpos) (some (.Name x pos')) pos.line X.env=pure true:=by rfl) (hs:∀ x,foldedSetIterable iter X.env x=pure x:=by intro _;rfl):PS X (.Assign [.Name x pos'] (.ListComp elt [⟨tgt,iter,ifs,0⟩] scope cpos) pos) (lq (QT src wi g tt te) (z6 i)):=by
 intro pins s σ H D I h
 rw[exec_Assign_Name_used _ _ _ _ hsw]
 refine wpAny_bind (wpAny_standAt (wpAny_bind ?_))
 show wpAny _ X.A (do let _ ← comprehension (.ListComp elt [⟨tgt,iter,ifs,0⟩] scope cpos) scope X.env _ (newList []) false (eval iter X.env) (some (assign (.Name x pos') X.env))) _ _ s
 refine wpAny_bind (wpAny_mono (wpAny_comprehension_free (use:=some (assign (.Name x pos') X.env)) (Q:=fun _ s'=>∃ σ' H',zJ X pins σ' H' s'∧D.nx σ' H') rfl hs c.clos c.kind c.names (q0 (hi pins s σ H _ I h) fun v s1 h1=>q0 h1 fun itv s2 h2=>?_)) (fun _ s' hq=>wpAny_pure (wpAny_pure hq)) fun _ _ z=>z)
 obtain⟨it,fp,tn,J,H2,e,I2,T,st2,f2,hT⟩:=h2
 subst e
 refine wpAny_newObj_type ?_ (by size_fits)
 have old:∀ b o,s2.heap.get? b=some o→(s2.heap.push { cls:=.type "list",data:=.seq ([]:List Value).toArray }).get? b=some o:=fun b o e=>Cg _ e
 have I3:=I2.laid (a:=s2.heap.objs.size) (o:=.lst []) (t':=s2.toks) (h':=s2.heap.push { cls:=.type "list",data:=.seq ([]:List Value).toArray }) old (cx _) ⟨Cy _,[],0,.nil,Co _ rfl⟩
 have ne:∀ b∈fp,b≠s2.heap.objs.size:=fun b hb=>by
  obtain⟨o,e,_⟩:=T.obj 0 _ st2 b hb
  exact Cc (cD e)
 have f3:∀ b∈fp,yq X pins (upd H2 s2.heap.objs.size (.lst [])) b:=fun b hb=>⟨by rw[zm (ne b hb)];exact (f2 b hb).1,(f2 b hb).2⟩
 refine vF (it:=it) (R:=fun C=>compPost (model X.prog X.w) X.A X.xe (some (assign (.Name x pos') X.env)) (fun _ s'=>∃ σ' H',zJ X pins σ' H' s'∧D.nx σ' H') _ C) c hcalm I3 T (T.keep _ _ _ st2 fun b _ o e=>old b o e) f3 (hb fp _ _ _) (hT _ (I2.hok.fresh (cx _))) (fun _ _ z=>z.elim) fun C ys σ' H' s' hC J' hD q=>?_
 obtain⟨m,hn,_⟩:=id J'.loc
 have B:zJ X pins σ H' s':=vc I3 f3 J' ⟨rfl,fun _ _=>rfl⟩
 have Cge:∀ b o,(s2.heap.push { cls:=.type "list",data:=.seq ([]:List Value).toArray }).get? b=some o→b≠C:=fun b o e=>Cc (Cw (cD e) J'.ok.above)
 have CL:C≠X.env.locals:=fun z=>by
  obtain⟨m3,⟨o,_,_,ho,_⟩,_⟩:=I3.loc
  exact Cge _ o ho z.symm
 refine wpAny_assign_Name (kZ B hN hx (.inl hl) (v:=.ref s2.heap.objs.size) rfl (fun s5 I5 hsb=>?_) (.inr hl))
 obtain⟨a,sb,ha⟩:=hsb
 have aL:a≠C:=by
  rcases ha with rfl | ha
  ·exact CL.symm
  ·obtain⟨v,o,ho,_⟩:=I3.cell x a ha
   exact Cge _ o ho
 refine⟨m,hn.sameBut sb aL.symm,fun h' hs'=>⟨_,H',I5.turned (t':=s5.toks) (fun b o n e=>(hs'.2 b n).trans e) J'.free CL ?_ (fun y b e z=>?_) (fun p hp z=>?_),q⟩⟩
 ·exact .inr (dB (cJ I3.sz J'.ok.above))
 ·obtain⟨v,o,ho,_⟩:=I3.cell y b e
  exact Cge _ o ho z
 ·exact Cge _ _ (I3.pin p hp).1 z
end
end L2
namespace L2
open PySem
end L2
namespace Pg
open PySem L2
structure vw (mg:Str→Option Value):Prop where
 isinstance:mg "isinstance" = none
 int:mg "int" = none
 bool:mg "bool" = none
 str:mg "str" = none
 len:mg "len" = none
 range:mg "range" = none
 ve:mg "ValueError" = none
 list:mg "list" = none
 tuple:mg "tuple" = none
 dict:mg "dict" = none
 set:mg "set" = none
 all:mg "all" = none
 any:mg "any" = none
 sum:mg "sum" = none
 sorted:mg "sorted" = none
 abs:mg "abs" = none
 max:mg "max" = none
 min:mg "min" = none
 zip:mg "zip" = none
 enumerate:mg "enumerate" = none
 reversed:mg "reversed" = none
structure Er (K:BFr) (mg:Str→Option Value) (x:Str) (c:Addr):Prop where
 at':mg x=some (.ref c)
 ex:PySem.W.excIn K c vB "ValueError.__new__" = true
noncomputable def Z1 (mg:Str→Option Value) (x:Str) (n:Int):Prop:=∃ t,mg x=some (.int n t)
noncomputable def Txt (mg:Str→Option Value) (x:Str) (z:Str):Prop:=∃ t,mg x=some (.str z t)
structure BB (mg:Str→Option Value) (d:Nat→Addr):Prop where
 g0:mg "BadAmount" = some (.ref (d 0))
 g1:mg "BadShare" = some (.ref (d 1))
 g2:mg "BadText" = some (.ref (d 2))
 g3:mg "BadMonth" = some (.ref (d 3))
 g4:mg "BadYear" = some (.ref (d 4))
 g5:mg "BadRule" = some (.ref (d 5))
 g6:mg "BadBook" = some (.ref (d 6))
 g7:mg "NoYear" = some (.ref (d 7))
 g8:mg "BadDay" = some (.ref (d 8))
 g9:mg "BadEntry" = some (.ref (d 9))
 g10:mg "NoMark" = some (.ref (d 10))
 g11:mg "NoPerson" = some (.ref (d 11))
 g12:mg "TooMany" = some (.ref (d 12))
 g13:mg "BadClose" = some (.ref (d 13))
 g14:mg "BadLine" = some (.ref (d 14))
structure JM (K:BFr) (d:Nat→Addr) (C:Addr) (i:Nat):Prop where
 cls:XK.jn K C
 ve:PySem.W.kitOne K (.ref C) (.type "ValueError")=some true
 k0:PySem.W.kitOne K (.ref C) (.ref (d 0))=some (decide (i=0))
 k1:PySem.W.kitOne K (.ref C) (.ref (d 1))=some (decide (i=1))
 k2:PySem.W.kitOne K (.ref C) (.ref (d 2))=some (decide (i=2))
 k3:PySem.W.kitOne K (.ref C) (.ref (d 3))=some (decide (i=3))
 k4:PySem.W.kitOne K (.ref C) (.ref (d 4))=some (decide (i=4))
 k5:PySem.W.kitOne K (.ref C) (.ref (d 5))=some (decide (i=5))
 k6:PySem.W.kitOne K (.ref C) (.ref (d 6))=some (decide (i=6))
 k7:PySem.W.kitOne K (.ref C) (.ref (d 7))=some (decide (i=7))
 k8:PySem.W.kitOne K (.ref C) (.ref (d 8))=some (decide (i=8))
 k9:PySem.W.kitOne K (.ref C) (.ref (d 9))=some (decide (i=9))
 k10:PySem.W.kitOne K (.ref C) (.ref (d 10))=some (decide (i=10))
 k11:PySem.W.kitOne K (.ref C) (.ref (d 11))=some (decide (i=11))
 k12:PySem.W.kitOne K (.ref C) (.ref (d 12))=some (decide (i=12))
 k13:PySem.W.kitOne K (.ref C) (.ref (d 13))=some (decide (i=13))
 k14:PySem.W.kitOne K (.ref C) (.ref (d 14))=some (decide (i=14))
structure Rz (K:BFr) (d:Nat→Addr) (cR:Addr) (i:Nat):Prop where
 ex:PySem.W.exmOne K (.ref (d i)) (.ref cR)=some true
 kd:JM K d (d i) i
noncomputable def kR (K:BFr):Sp:=fun vs H Q _=>∃ v,vs=[v]∧((∃ z,v = .int z∧Q (.bl true) H)∨(uN K H v∧Q (.bl false) H))
noncomputable def jF (K:BFr):Sp:=fun vs H Q _=>∃ v a b,vs=[v,.int a,.int b]∧((∃ z,v = .int z∧Q (.bl (decide (a≤z∧z≤b))) H)∨(uN K H v∧Q (.bl false) H))
noncomputable def wm (K:BFr) (H:Hp) (m:Int) (v:V):Prop:=uN K H v∨∃ z,v = .int z∧¬ (0≤z∧z≤m)
theorem wm.same {K:BFr} {H H':Hp} {m:Int} {v:V} (h:wm K H m v) (s:zq H H'):wm K H' m v:=h.imp (fun h=>h.same s) id
noncomputable def JL (K:BFr) (c:Addr) (m:Int):Sp:=fun vs H Q E=>∃ v,vs=[v]∧((∃ z,v = .int z∧0≤z∧z≤m∧Q .non H)∨(wm K H m v∧E (.ref c) none H))
noncomputable def gc (K:BFr):Sp:=fun vs H Q _=>∃ a k ns,vs=[.ref a,.int k]∧zZ K H a (ns.map V.int)∧0≤k∧Q (.int (Wa ns k)) H
noncomputable def ZN (K:BFr):Sp:=fun vs H Q _=>∃ (a:Addr) (ns:List Int),vs=[.ref a]∧zZ K H a (ns.map V.int)∧∀ H',Q (.bl true) H'
theorem QA {cs:List (Str × Addr)} {k:Str} {a:Addr} (h:cs.lookup k=some a):∀ q∈[(k,a)],cs.lookup q.1=some q.2:=fun q hq=>by rw[Cq.mp hq];exact h
theorem gO {cs cl:List (Str × Addr)} {k:Str} {a:Addr} (h:cs.lookup k=some a) (t:∀ q∈cl,cs.lookup q.1=some q.2):∀ q∈(k,a)::cl,cs.lookup q.1=some q.2:=fun q hq=>by
 rcases cy.mp hq with rfl | hq
 ·exact h
 ·exact t q hq
end Pg
namespace L2
open PySem PySem.Spec PyProof.Rows
noncomputable def qU (P:Program) (w:World) (K:BFr) (mg:Str→Option Value) (base:Heap) (CX:wN) (k:Nat) (C:Addr) (m:Str) (ps:List Str) (sp:Sp):Prop :=
 wo K C∧∃ f fd,xx K C m f∧jV K fd ps []∧zL P w K mg base CX k f fd ps sp
noncomputable def jP (P:Program) (w:World) (K:BFr) (mg:Str→Option Value) (base:Heap) (CX:wN) (k:Nat) (x:Str) (C:Addr) (ps:List Str) (sp:Sp):Prop :=
 mg x=some (.ref C)∧∃ f fd,Mk K C f∧jV K fd ps []∧zL P w K mg base CX k f fd ps sp
section
variable {X:Cx} {CX:wN} {j k:Nat} {C:Addr} {ps:List Str} {sp:Sp} {x m:Str} {p apos pos:Pos} {o e:Expr} {es:List Expr} {ta:TE} {t:TA} {E:XK}
noncomputable def nP (C:Addr) (m:Str) (sp:Sp) (E:XK) (ta:TE) (t:TA):TE:=fun σ H Q=>ta σ H fun x H1=>∃ a dx fs,x = .ref a∧H1 a=some (.ins C dx fs)∧fs.lookup m=none∧t σ H1 fun vs H2=>sp (x::vs) H2 Q E
theorem kH {pl:Sem Bool} (M:qU X.prog X.w X.K X.mg X.base CX k C m ps sp) (hr:yw j X.A) (hj:k≤j) (hx:yG CX X E) (he:PE X o ta) (ha:PA X (e::es) t) (hst:starEach (e::es) X.env=(false,eval e X.env)::starEach es X.env:=by exact zT rfl) (hpl:(backTo pos (starEach es X.env)).any (·.1)=false:=by exact yn rfl) (ht:eval (.Call (.Attribute o m apos) (e::es) [] pos) X.env=(do
   let ov ← eval o X.env
   standAt apos.atName
   let (f,first) ← holding [ov] (getMethod ov m pl)
   callWith pos f first (backTo pos (starEach (e::es) X.env)) (backToKw pos (keywordEach [] X.env))):=by rfl) :
  PE X (.Call (.Attribute o m apos) (e::es) [] pos) (nP C m sp E ta t):=by
 obtain⟨c,f,fd,hm,hb,F⟩:=M
 intro pins s σ H Q I h
 refine lu (dvs:=[]) he c hm F (hr.mono hj) hb .nil hx ha hst hpl ht pins s σ H Q I ?_
 unfold XJ
 simp only[Cv]
 exact h
theorem y6 {pl:Sem Bool} (M:qU X.prog X.w X.K X.mg X.base CX k C m ps sp) (hr:yw j X.A) (hj:k≤j) (hx:yG CX X E) (he:PE X o ta) (ht:eval (.Call (.Attribute o m apos) [] [] pos) X.env=(do
   let ov ← eval o X.env
   standAt apos.atName
   let (f,first) ← holding [ov] (getMethod ov m pl)
   callWith pos f first (backTo pos (starEach [] X.env)) (backToKw pos (keywordEach [] X.env))):=by rfl) :
  PE X (.Call (.Attribute o m apos) [] [] pos) (nP C m sp E ta yd):=by
 obtain⟨c,f,fd,hm,hb,F⟩:=M
 intro pins s σ H Q I h
 refine pj (dvs:=[]) he c hm F (hr.mono hj) hb .nil hx ht pins s σ H Q I ?_
 unfold XJ
 simp only[Cv]
 exact h
noncomputable def BF (C:Addr) (sp:Sp) (E:XK) (t:TA):TE:=fun σ H Q=>t σ H fun vs H1=>∀ x dx,H1 x=none→H1 dx=none→dx≠x →
 sp (.ref x::vs) (upd (upd H1 dx (.own x)) x (.ins C dx [])) (fun v H2=>v = .non∧Q (.ref x) H2) E
theorem U7 (M:jP X.prog X.w X.K X.mg X.base CX k x C ps sp) (hr:yw (j+1) X.A) (hj:k≤j) (hx:yG CX X E) (hg:Gl X x:=by rfl) (hdb:(x==("__debug__":Str))=false:=by decide):PE X (.Call (.Name x p) [] [] pos) (BF C sp E yd):=by
 obtain⟨hm,f,fd,M,hb,F⟩:=M
 intro pins s σ H Q I h
 refine Pb (dvs:=[]) M (F.mono hj) hr hg hm hb .nil hx hdb pins s σ H Q I ?_
 unfold XG
 simp only[Cv]
 exact h
end
noncomputable def jv (K:BFr) (C:Addr) (m qual:Str) (st:Stmt):Prop:=∃ f fd,xx K C m f∧qJ K m qual st f fd
noncomputable def YG (K:BFr) (C:Addr) (qual:Str) (st:Stmt):Prop:=∃ f fd,Mk K C f∧qJ K "__init__" qual st f fd
section
variable {P:Program} {w:World} {K:BFr} {mg:Str→Option Value} {base:Heap} {C:Addr} {x m qual:Str} {st:Stmt} {CX:wN} {k:Nat} {ps:List Str} {sp:Sp}
theorem jv.cal (h:jv K C m qual st) (cl:wo K C) (hb:∀ (kV doc pm:Value) (an:Option Addr) (cdv ct:Value) (us:List Value),us.length=ps.length→bindArgs (PySem.W.fnOf m qual (jJ st) (yJ st) (zO st) .none kV doc pm an cdv ct) ⟨us,[]⟩=pure (ps.zip us)) (ok:∀ f fd,qJ K m qual st f fd→zL P w K mg base CX k f fd ps sp):qU P w K mg base CX k C m ps sp:=by
 obtain⟨f,fd,M,F⟩:=h
 exact⟨cl,f,fd,M,F.binds hb,ok f fd F⟩
theorem YG.cal (h:YG K C qual st) (hm:mg x=some (.ref C)) (hb:∀ (kV doc pm:Value) (an:Option Addr) (cdv ct:Value) (us:List Value),us.length=ps.length→bindArgs (PySem.W.fnOf "__init__" qual (jJ st) (yJ st) (zO st) .none kV doc pm an cdv ct) ⟨us,[]⟩=pure (ps.zip us)) (ok:∀ f fd,qJ K "__init__" qual st f fd→zL P w K mg base CX k f fd ps sp):jP P w K mg base CX k x C ps sp:=by
 obtain⟨f,fd,M,F⟩:=h
 exact⟨hm,f,fd,M,F.binds hb,ok f fd F⟩
end
end L2
namespace L2
open PySem PySem.W PySem.Calls PyProof.Rows
theorem lM (as:List Addr) (h:Heap):(jk as h).In h:=by
 intro a o e
 induction as with
 | nil=>cases e
 | cons b r ih =>
  unfold jk at e
  rw[dA] at e
  cases q:h.get? b with
  | none=>rw[q] at e;exact ih e
  | some o' =>
   rw[q] at e
   by_cases c:a=b
   ·subst c
    have e:List.lookup a ((a,o')::jk r h)=some o:=e
    rw[List.lookup_cons_self] at e
    cases e
    exact q
   ·have e:List.lookup a ((b,o')::jk r h)=some o:=e
    rw[List.lookup_cons,show (a==b)=false from beq_eq_false_iff_ne.mpr c] at e
    exact ih e
section
variable {K:Frag} {v:Option (Option Value)} {x qual m:Str} {st:Stmt} {C a:Addr}
theorem Jy (h:jz K v=jC x qual st):∃ f fd,v=some (some (.ref f))∧qJ K x qual st f fd∧isFn K (.ref f)=true∧keepIn K (.ref f)=true:=by
 unfold jz jC at h
 split at h
 ·rename_i f
  split at h
  ·rename_i oc od fd osl e
   obtain⟨nm,qn,pr,bd,sc,gl,cl,df,kV,doc,pm,an,cdv,ct,bl⟩:=fd
   simp only[Option.some.injEq,Wp.mk.injEq,cz] at h
   obtain⟨rfl,rfl,rfl,rfl,rfl,rfl,rfl,rfl,rfl,⟨h1,h2⟩,h3⟩:=h
   exact⟨f,_,rfl,MH e h1 h2,h3,h2⟩
  ·cases h
 ·cases h
theorem zF (h:jz K (nsIn K mainGlobals x)=jC x x st):qW K x st:=by
 obtain⟨f,fd,h1,h2,_,_⟩:=Jy h
 exact⟨f,fd,h1,h2⟩
theorem qh (h:jz K (findIn K (.ref C) m)=jC m qual st):jv K C m qual st:=by
 obtain⟨f,fd,h1,h2,h3,h4⟩:=Jy h
 exact⟨f,fd,⟨h1,h3,h4⟩,h2⟩
theorem jE (h:jz K (findIn K (.ref C) "__init__")=jC "__init__" qual st) (g:(makesIn K C&&keepIn K (.ref C))=true):YG K C qual st:=by
 obtain⟨f,fd,h1,h2,h3,_⟩:=Jy h
 obtain⟨g1,g2⟩:=CO.mp g
 exact⟨f,fd,⟨g1,h1,h3,g2⟩,h2⟩
theorem qc (h:qF v=true):v=some none:=by
 unfold qF at h
 split at h
 ·rfl
 ·cases h
theorem uL {z:Int} (h:isInt z v=true):∃ t,v=some (some (.int z t)):=by
 unfold isInt at h
 split at h
 ·rw[of_decide_eq_true h];exact⟨_,rfl⟩
 ·cases h
theorem xK {z:Str} (h:Us z v=true):∃ t,v=some (some (.str z t)):=by
 unfold Us at h
 split at h
 ·rw[of_decide_eq_true h];exact⟨_,rfl⟩
 ·cases h
theorem qX (h:yy a v=true):v=some (some (.ref a)):=by
 unfold yy at h
 split at h
 ·rw[Nat.eq_of_beq_eq_true h]
 ·cases h
theorem yH {z:String} (h:jg z v=true):v=some (some (.builtin z)):=by
 unfold jg at h
 split at h
 ·rw[of_decide_eq_true h]
 ·cases h
theorem zV {b:Bool} {v:Option Bool} (h:qQ b v=true):v=some b:=by
 unfold qQ at h
 split at h
 ·rw[eq_of_beq h]
 ·cases h
theorem uH {D:Addr} (h:ui K D=true):XK.jn K D:=by
 unfold ui at h
 simp only[cz] at h
 obtain⟨⟨⟨⟨⟨⟨⟨h1,h2⟩,h3⟩,h4⟩,h5⟩,h6⟩,h7⟩,h8⟩:=h
 exact⟨h1,yH h2,qc h3,yH h4,yH h5,zV h6,zV h7,zV h8⟩
end
theorem zg {bs:List Bool} (h:bs.all id=true) {b:Bool} (i:Nat) (e:bs[i]? = some b):b=true:=Cm.mp h b (CC e)
theorem zB {α β:Type} {l:List α} {f g:α→β} (h:l.map f=l.map g) {x:α} (i:Nat) (e:l[i]? = some x):f x=g x:=by
 have:(l.map f)[i]? = (l.map g)[i]?:=by rw[h]
 rw[cQ,cQ,e] at this
 exact Option.some.inj this
noncomputable def kc {α:Type} (facts:Frag→α) (good:α) (_:World) (h:Heap):Prop:=∃ K:Frag,K.In h∧facts K=good
theorem lg {α:Type} {facts:Frag→α} {good:α} {as:List Addr} (w:World) (s:Shared) (e:facts (jk as s.heap)=good):kc facts good w s.heap:=⟨_,lM as s.heap,e⟩
theorem WQ {α:Type} {facts:Frag→α} {good:α} (w:World) (h h':Heap) (y:kc facts good w h) (k:∀ b o,h.get? b=some o→h'.get? b=some o):kc facts good w h':=by
 obtain⟨K,X,e⟩:=y
 exact⟨K,X.keeps k,e⟩
theorem lF {q:Program} {loose:List Str} {XP:(Str→Option Value)→Heap→Prop} {α:Type} {facts:Frag→α} {good:α} {r:RowW} {d:DefRec} {kwd:List (Str × Expr)} {run:Value→List Value→Sem Value}
  (h:∀ K:Frag,facts K=good→WalkO q loose XP (fun _ h=>K.In h) r d kwd run):WalkO q loose XP (kc facts good) r d kwd run:=by
 intro w s₀ s₁ mg mb G Y
 obtain⟨K,X,e⟩:=Y
 exact h K e w s₀ s₁ mg mb G X
theorem Lg {q:Program} {n:Str} (h:(defOf q n).isSome=true) (k:((defOf q n).map (·.2.isEmpty))=some true):defOf q n=some (((defOf q n).get h).1,[]):=by
 obtain⟨⟨d,kwd⟩,e⟩:=C5.mp h
 have e2:(defOf q n).get h=(d,kwd):=Option.get_of_eq_some h e
 rw[e2,e]
 rw[e] at k
 have:kwd.isEmpty=true:=Option.some.inj k
 rw[List.isEmpty_iff.mp this]
end L2
namespace L2
open PySem PySem.Spec PyProof.Rows
structure m4 (K:BFr) (C:Addr) (m:Str) (f:Addr):Prop where
 ga:PySem.W.specialIn K (.ref C) "__getattribute__" = some (some (.builtin "type.__getattribute__"))
 rd:PySem.W.readsIn K C (.type "type")=true
 at_:PySem.W.findCls K (.ref C) (.type "type") m=some (.val (.ref f))
 kp:PySem.W.keepIn K (.ref f)=true
noncomputable def uJ (P:Program) (w:World) (K:BFr) (mg:Str→Option Value) (base:Heap) (CX:wN) (k:Nat) (x m:Str) (ps:List Str) (sp:Sp):Prop :=
 ∃ C f fd,mg x=some (.ref C)∧m4 K C m f∧jV K fd ps []∧zL P w K mg base CX k f fd ps sp
section
variable {X:Cx} {CX:wN} {j k:Nat} {C:Addr} {ps:List Str} {sp:Sp} {x m:Str} {p apos pos:Pos} {o e:Expr} {es:List Expr} {ta:TE} {t:TA} {E:XK}
noncomputable def cb (sp:Sp) (E:XK) (t:TA):TE:=fun σ H Q=>t σ H fun vs H2=>sp vs H2 Q E
theorem y9 {pl:Sem Bool} (M:uJ X.prog X.w X.K X.mg X.base CX k x m ps sp) (hr:yw j X.A) (hj:k≤j) (hx:yG CX X E) (ha:PA X (e::es) t) (hg:Gl X x:=by rfl) (hdb:(x==("__debug__":Str))=false:=by decide) (hst:starEach (e::es) X.env=(false,eval e X.env)::starEach es X.env:=by exact zT rfl) (hpl:(backTo pos (starEach es X.env)).any (·.1)=false:=by exact yn rfl) (ht:eval (.Call (.Attribute (.Name x p) m apos) (e::es) [] pos) X.env=(do
   let ov ← eval (.Name x p) X.env
   standAt apos.atName
   let (f,first) ← holding [ov] (getMethod ov m pl)
   callWith pos f first (backTo pos (starEach (e::es) X.env)) (backToKw pos (keywordEach [] X.env))):=by rfl) :
  PE X (.Call (.Attribute (.Name x p) m apos) (e::es) [] pos) (cb sp E t):=by
 obtain⟨C,f,fd,hm,c,hb,F⟩:=M
 intro pins s σ H Q I h
 refine PySem.W.methodCall_KW (pl:=pl) (q0 (zY (v:=.ref C) hg hm rfl hdb pins s σ H (fun v H1=>v = .ref C∧H1=H) I ⟨rfl,rfl⟩) fun u s1 ⟨y,H1,I1,rx,e1,e2⟩=>?_) ht
 subst e1 e2
 obtain rfl:u=Value.ref C:=rx
 refine PySem.W.method_cls I1.kIn c.ga (PySem.W.cls_value I1.kIn c.rd c.at_ rfl ?_)
 have I2:=I1.tok (s1.toks+1)
 refine PySem.W.callWith_K (first:=[]) (h₀:=X.base) I.ok.mod.kin c.kp (q0 (ha pos pins _ σ H1 _ I2 h) fun us s2 ⟨vs,H2,I3,r,q2⟩=>⟨I3.kIn,?_⟩) hst hpl
 exact VC (dvs:=[]) (us:=us) (vs:=vs) F (hr.mono hj) hb .nil hx I3 r (by rw[Cv];exact q2)
theorem ya (M:jP X.prog X.w X.K X.mg X.base CX k x C ps sp) (hr:yw (j+1) X.A) (hj:k≤j) (hx:yG CX X E) (ha:PA X (e::es) t) (hg:Gl X x:=by rfl) (hdb:(x==("__debug__":Str))=false:=by decide) (hst:starEach (e::es) X.env=(false,eval e X.env)::starEach es X.env:=by exact zT rfl) (hpl:(backTo pos (starEach es X.env)).any (·.1)=false:=by exact yn rfl) :
  PE X (.Call (.Name x p) (e::es) [] pos) (BF C sp E t):=by
 obtain⟨hm,f,fd,M,hb,F⟩:=M
 intro pins s σ H Q I h
 refine mW (dvs:=[]) M (F.mono hj) hr hg hm hb .nil hx ha hdb hst hpl pins s σ H Q I ?_
 unfold XG
 simp only[Cv]
 exact h
theorem uY {α:Type} {p:α→Prop} {e:Expr} {T:α→TE} (h:∀ i,p i→PE X e (T i)):PE X e (fun σ H Q=>∃ i,p i∧T i σ H Q):=fun pins s σ H Q I ⟨i,hp,g⟩=>h i hp pins s σ H Q I g
theorem GO:va X (.type "str") (fun xs H Q=>(∃ i,xs=[.int i]∧i.natAbs.log2<1920∧Q (.str (toString i)) H)∨∃ z,xs=[.str z]∧Q (.str z) H):=by
 intro pins s σ H xs us Q I r h
 rcases h with h | ⟨z,rfl,q⟩
 ·exact qr pins s σ H xs us Q I r h
 ·obtain⟨u,rfl,t,rfl⟩:=ux r
  exact PySem.P.str_of_str ⟨.str _,H,I,⟨_,rfl⟩,q⟩
end
section
variable {P:Program} {w:World} {K:BFr} {mg:Str→Option Value} {base:Heap} {C:Addr} {x m qual:Str} {st:Stmt} {CX:wN} {k:Nat} {ps:List Str} {sp:Sp}
theorem Nv {f:Addr} (h:v9 K C m=true) (M:xx K C m f):m4 K C m f:=by
 unfold v9 at h
 obtain⟨h,h3⟩:=CO.mp h
 obtain⟨h1,h2⟩:=CO.mp h
 refine⟨?_,h2,?_,M.kp⟩
 ·split at h1
  ·rename_i b e
   rw[e,beq_iff_eq.mp h1]
  ·cases h1
 ·rw[M.at_] at h3
  split at h3
  ·rename_i f' g e1 e2
   cases e1
   rw[e2,Nat.eq_of_beq_eq_true h3]
  ·cases h3
theorem jv.calC (h:jv K C m qual st) (see:v9 K C m=true) (hm:mg x=some (.ref C)) (hb:∀ (kV doc pm:Value) (an:Option Addr) (cdv ct:Value) (us:List Value),us.length=ps.length→bindArgs (PySem.W.fnOf m qual (jJ st) (yJ st) (zO st) .none kV doc pm an cdv ct) ⟨us,[]⟩=pure (ps.zip us)) (ok:∀ f fd,qJ K m qual st f fd→zL P w K mg base CX k f fd ps sp):uJ P w K mg base CX k x m ps sp:=by
 obtain⟨f,fd,M,F⟩:=h
 exact⟨C,f,fd,hm,Nv see M,F.binds hb,ok f fd F⟩
end
end L2
namespace L2
open PySem PySem.W PyProof.Rows
noncomputable def tj (K:Frag) (x:Str) (zs:List Str):Prop:=∃ a,nsIn K mainGlobals x=some (some (.ref a))∧∀ H,yj K H a (zs.map V.str)
theorem Qp:∀ {its:List Value} {zs:List Str},ZU its zs=true→qf (zs.map V.str) its
 | [],[],_=>.nil
 | v::r,z::q,h=>by
  unfold ZU at h
  obtain⟨h1,h2⟩:=CO.mp h
  obtain⟨t,e⟩:=xK h1
  cases e
  exact .cons ⟨t,rfl⟩ (Qp h2)
 | [],z::q,h=>by cases h
 | v::r,[],h=>by cases h
theorem Uw {K:Frag} {x:Str} {zs:List Str} (h:ZO K x zs=true):tj K x zs:=by
 unfold ZO at h
 split at h
 ·rename_i a e
  split at h
  ·rename_i n od its k sl e2
   rw[cz,cz] at h
   obtain⟨⟨h1,h2⟩,h3⟩:=h
   refine⟨a,e,fun H=>.inr ⟨_,its,k,e2,?_,rfl,qa h2,Qp h3⟩⟩
   rw[of_decide_eq_true h1]
  ·cases h
 ·cases h
theorem tj.mg {K:Frag} {x:Str} {zs:List Str} {h:Heap} {mg:Str→Option Value} (T:tj K x zs) (X:K.In h) (G:h.Ns mainGlobals mg):∃ a,mg x=some (.ref a)∧∀ H,yj K H a (zs.map V.str):=by
 obtain⟨a,e,t⟩:=T
 exact⟨a,mg_of X G e,t⟩
end L2
set_option maxHeartbeats 4000000
namespace K11
open PySem PySem.NumText L2 Pg
seal PE PA PT PW PS yW PG vq PI j7 PO PK
section
variable {P:Program} {w:World} {K:BFr} {mg:Str→Option Value} {base:Heap} {f:Addr} {fd:FuncData} {d:Nat→Addr} {cR:Addr}
theorem Vt (F:qJ K "is_number" "is_number" (top 21) f fd) (G:vw mg):zL P w K mg base z8 1 f fd ["thing"] (kR K):=by
 refine F.ok (N:=["thing"]) (by walk_at"s") (fun vs H Q E h=>?_) (fun cdv A outer s H vs Q E hr h=>?_)
 ·obtain⟨v,rfl,_⟩:=h
  rfl
 ·obtain⟨v,rfl,h⟩:=h
  refine⟨_,zi (zx (yO (zy zH rfl G.isinstance zv (za (pv 0) (za (yB (v:=.ty "int") rfl G.int QK rfl) zd)))
   (yX (pB (zy zH rfl G.isinstance zv (za (pv 0) (za (yB (v:=.ty "bool") rfl G.bool gK rfl) zd))))))),?_⟩
  rcases h with ⟨z,rfl,q⟩ | ⟨⟨r,hr',ty,ne⟩,q⟩
  ·refine⟨_,rfl,_,_,_,_,true,rfl,rfl,.inl (.int z),rfl,true,rfl,qV ?_⟩
   exact⟨_,rfl,_,_,_,_,false,rfl,rfl,.inl (.int z),rfl,false,rfl,q⟩
  ·obtain⟨k1,k2,_⟩:=kG (K:=K) r hr'
   refine⟨_,rfl,_,_,_,_,r.2.1,rfl,rfl,.inl ty,k1,r.2.1,rfl,?_⟩
   cases e:r.2.1 with
   | false=>exact qD q
   | true =>
    refine qV ⟨_,rfl,_,_,_,_,r.2.2.1,rfl,rfl,.inl ty,k2,r.2.2.1,rfl,?_⟩
    have:r.2.2.1=true:=by
     simp only[Vc,cy,cA,or_false] at hr'
     rcases hr' with rfl | rfl | rfl | rfl | rfl | rfl | rfl <;> first | rfl | (exact absurd rfl ne) | (cases e)
    rw[this]
    exact q
theorem GZ (F:qJ K "is_number_within" "is_number_within" (top 22) f fd) (C1:qN P w K mg base z8 1 "is_number" ["thing"] (kR K)):zL P w K mg base z8 2 f fd ["thing","least","most"] (jF K):=by
 refine F.ok (N:=["thing","least","most"]) (by walk_at"s") (fun vs H Q E h=>?_) (fun cdv A outer s H vs Q E hr h=>?_)
 ·obtain⟨v,a,b,rfl,_⟩:=h
  rfl
 ·obtain⟨v,a,b,rfl,h⟩:=h
  refine⟨_,zi (zx (yO (zp C1 hr (by decide) zC (za (pv 0) zd)) (yO (qC VG (pv 1) (pv 0) (zI _)) (yX (qC VG (pv 0) (pv 2) (zI _)))))),?_⟩
  rcases h with ⟨z,rfl,q⟩ | ⟨nn,q⟩
  ·refine⟨_,rfl,_,rfl,.inl ⟨z,rfl,true,rfl,qV ⟨_,rfl,_,rfl,_,_,rfl,rfl,_,rfl,?_⟩⟩⟩
   refine ye (fun e=>⟨_,rfl,_,rfl,_,_,rfl,rfl,?_⟩) (fun e=>?_)
   ·have e1:a≤z:=of_decide_eq_true e
    show Q (.bl (decide (z≤b))) H
    rw[show decide (z≤b)=decide (a≤z∧z≤b) by simp[e1]]
    exact q
   ·have e1:¬ a≤z:=fun c=>e (decide_eq_true c)
    show Q (.bl false) H
    rw[show false=decide (a≤z∧z≤b) by simp[e1]]
    exact q
  ·exact⟨_,rfl,_,rfl,.inr ⟨nn,false,rfl,qD q⟩⟩
end
end K11
namespace Pg
open PySem PySem.NumText L2
noncomputable def Ru (z:Int):Str:=toString z
noncomputable def dg (n:Nat):List Nat:=(Nat.toDigits 10 n).map Char.toNat
theorem Yb (n:Nat):(Ru (n:Nat)).cps.toList=dg n:=PySem.W.KIN.signs_num n
theorem Jr (n:Nat):AllDigits (dg n):=by
 intro c hc
 obtain⟨ch,hch,e⟩:=cH.mp hc
 have r:=PyProof.Rows.digit_range (Nat.isDigit_of_mem_toDigits (by decide) (by decide) hch)
 rw[← e]
 exact r
theorem QL (n:Nat):1≤(dg n).length:=by unfold dg;rw[cw];exact PySem.toDigits_len_ge 10 n
theorem Gn {k n:Nat} (hk:1≤k) (hn:n<10 ^ k):(dg n).length≤k:=by unfold dg;rw[cw];exact PySem.toDigits_len_pow (by decide) hk hn
theorem Jz {a b:Str} (h:a.cps.toList=b.cps.toList):a=b:=by
 obtain⟨a⟩:=a
 obtain⟨b⟩:=b
 have:a=b:=Dn.mp h
 rw[this]
theorem Jn {z:Int} (h0:0≤z) (h1:z<2 ^ 64):z.natAbs.log2<1920:=by
 by_cases h:z.natAbs=0
 ·rw[h];decide
 ·exact d7 ((Nat.log2_lt h).mpr (show z.natAbs<2 ^ 64 by omega)) (by decide)
theorem qZ (a b:Str):(a++b).cps.toList=a.cps.toList++b.cps.toList:=by
 show (a.cps++b.cps).toList=_
 simp
theorem qB (z:Str):z.length=z.cps.toList.length:=by show z.cps.size=_;simp
theorem js (a b:Str):(a++b).length=a.length+b.length:=by rw[qB,qZ,cG,← qB,← qB]
theorem NV {a b:Str} {m n:Nat} (h1:a.length≤m) (h2:b.length≤n):(a++b).length≤m+n:=by rw[js];exact Nat.add_le_add h1 h2
theorem ZH {n m:Nat} (h:n≤m) (k:Nat.ble m 1000000=true):n≤sizeLine:=cJ h (cJ (Cf k) (by rw[sizeLine_eq];decide))
theorem rW {a b m n:Nat} (h1:a≤m) (h2:b≤n) (k:Nat.ble (m+n) 1000000=true):a+b≤sizeLine:=ZH (Nat.add_le_add h1 h2) k
noncomputable def lj (c:Nat):Bool:=decide (48≤c)&&decide (c≤57)
noncomputable def Yg (l:List Nat):Bool:=!l.isEmpty&&l.all lj
theorem UU {l:List Nat} (h:Yg l=true):AllDigits l∧l≠[]:=by
 unfold Yg at h
 rw[cz] at h
 refine⟨fun c hc=>?_,fun e=>by rw[e] at h;simp at h⟩
 have:=Cm.mp h.2 c hc
 unfold lj at this
 rw[cz] at this
 exact⟨of_decide_eq_true this.1,of_decide_eq_true this.2⟩
theorem NP (c:Nat):(!(Builtin.Str.occurrences ("0123456789":Str) ⟨#[c]⟩ 0 ("0123456789":Str).length 1).isEmpty)=lj c:=by
 rw[Xo]
 have e:("0123456789":Str).cps.toList=[48,49,50,51,52,53,54,55,56,57]:=by decide +kernel
 rw[e]
 by_cases h:c<58
 ·have all:∀ c<58,[48,49,50,51,52,53,54,55,56,57].contains c=lj c:=by decide +kernel
  exact all c h
 ·have e1:lj c=false:=by
   unfold lj
   rw[decide_eq_false (p:=c≤57) (fun z=>h (Nat.lt_succ_of_le z)),Bool.and_false]
  rw[e1,Bool.eq_false_iff]
  intro z
  have all:∀ x∈[48,49,50,51,52,53,54,55,56,57],x<58:=by decide +kernel
  exact h (all c (CK.mp z))
noncomputable def Xk:Sp:=fun vs H Q _=>∃ z,vs=[.str z]∧z.length≤100000∧∀ H',zq H H'→Q (.bl (Yg z.cps.toList)) H'
end Pg
namespace L2
open PySem PySem.Spec PyProof.Rows
abbrev TJ:=St→Hp→(List Str→Hp→Prop)→Prop
section
variable {X:Cx} {e:Expr} {es:List Expr} {te:TE} {t:TJ} {pos:Pos}
end
end L2
namespace Pg
open PySem L2
theorem XI {n:Nat} (h:10≤n):dg n=dg (n/10)++[48+n%10]:=by
 unfold dg
 rw[Nat.toDigits_of_base_le (by decide) h,Ce,List.map_singleton]
 congr 2
 have:n%10<10:=Nat.mod_lt _ (by decide)
 generalize n%10=d at this
 match d,this with
 | 0,_=>rfl
 | 1,_=>rfl
 | 2,_=>rfl
 | 3,_=>rfl
 | 4,_=>rfl
 | 5,_=>rfl
 | 6,_=>rfl
 | 7,_=>rfl
 | 8,_=>rfl
 | 9,_=>rfl
 | d+10,h=>omega
theorem OP {n:Nat} (h:n<10):dg n=[48+n]:=by
 match n,h with
 | 0,_=>rfl
 | 1,_=>rfl
 | 2,_=>rfl
 | 3,_=>rfl
 | 4,_=>rfl
 | 5,_=>rfl
 | 6,_=>rfl
 | 7,_=>rfl
 | 8,_=>rfl
 | 9,_=>rfl
 | d+10,h=>omega
theorem UD (sep z:Str):Txt.join sep [z]=z:=rfl
theorem j8 (sep z:Str) {zs:List Str} (h:zs≠[]):Txt.join sep (zs++[z])=Txt.join sep zs++sep++z:=by
 cases zs with
 | nil=>exact absurd rfl h
 | cons a r =>
  unfold Txt.join Builtin.Str.glued
  show Str.mk ((r++[z]).foldl _ _)=Str.mk (_++_++_)
  rw[List.foldl_append]
  rfl
theorem QI {z:Int} {k:Nat} (h0:0≤z) (hk:1≤k) (h1:z.toNat<10 ^ k):(Ru z).length≤k:=by
 obtain⟨n,rfl⟩:=CJ h0
 rw[qB,Yb]
 exact Gn hk (by simpa using h1)
end Pg
namespace L2
open PySem PySem.Spec PyProof.Rows
structure Zq (J:It) (H:Hp) (xs:List V):Prop where
 go:∀ i x H',xs[i]? = some x→zq H H'→J.go i H'∧∀ y H'',J.yld i H' y H''→H''=H'∧y=x
 stop:∀ H',zq H H'→J.stop xs.length H'
theorem yp {K:BFr} {a:Addr} {xs:List V} {H:Hp} (h:zZ K H a xs):Zq (mX K a) H xs :=
 ⟨fun i x H' e s=>⟨⟨xs,x,s.seq h,e⟩,fun y H'' ⟨e1,e2⟩=>⟨e1,Option.some.inj ((e2 xs (s.seq h)).symm.trans e)⟩⟩,fun H' s=>⟨xs,s.seq h,cx _⟩⟩
theorem jN {K:BFr} {a:Addr} {xs:List V} {H:Hp} (h:yj K H a xs):Zq (Tp K a) H xs :=
 ⟨fun i x H' e s=>⟨⟨xs,x,s.tup h,e⟩,fun y H'' ⟨e1,e2⟩=>⟨e1,Option.some.inj ((e2 xs (s.tup h)).symm.trans e)⟩⟩,fun H' s=>⟨xs,s.tup h,cx _⟩⟩
theorem vo {lo:Int} {n:Nat} {H:Hp}:Zq (Me lo n) H ((List.range n).map fun k=>V.int (lo+(k:Nat))):=by
 refine⟨fun i x H' e s=>?_,fun H' s=>by rw[cw,Cj];exact cx n⟩
 rw[cQ] at e
 obtain⟨k,hk,rfl⟩:=Cd.mp e
 obtain⟨h1,h2⟩:=cW.mp hk
 simp at h1 h2
 exact⟨by show i<n;omega,fun y H'' ⟨e1,e2⟩=>⟨e1,by rw[e2,← h2]⟩⟩
theorem Yc {z:Str} {H:Hp}:Zq (Tf z) H (z.cps.toList.map BR):=by
 refine⟨fun i x H' e s=>?_,fun H' s=>by rw[cw,CB];exact cx _⟩
 rw[cQ] at e
 obtain⟨c,hc,rfl⟩:=Cd.mp e
 have hc':z.cps[i]? = some c:=by simpa using hc
 exact⟨(CP.mp hc').1,fun y H'' ⟨e1,c',h1,e2⟩=>⟨e1,by rw[e2,Option.some.inj (h1.symm.trans hc')];rfl⟩⟩
section
variable {J:It} {D:Addr} {g:TG} {tt:TT} {te:TE} {fin:List V→Hp→Prop} {σ:St} {H:Hp} {xs:List V}
theorem jA (W:Zq J H xs) (hD:H D=none) (vt:Nat→List V→Hp→Prop) (Sg:St→Prop) (s0:Sg σ) (g0:vt 0 [] (upd H D (.lst []))) (hs:∀ i x ys σ' H',xs[i]? = some x→Sg σ'→zq H H'→H' D=some (.lst ys)→ys.length≤i→vt i ys H'→kb D g tt te x ys (fun ys' σ2 H2=>Sg σ2∧zq H H2∧H2 D=some (.lst ys')∧ys'.length≤i+1∧vt (i+1) ys' H2) σ' H') (hf:∀ ys H',zq H H'→H' D=some (.lst ys)→ys.length≤xs.length→vt xs.length ys H'→fin ys H'):ja J D g tt te fin σ (upd H D (.lst [])):=by
 refine⟨fun i m ys σ' H'=>m=xs.length - i∧i≤xs.length∧Sg σ'∧zq H H'∧H' D=some (.lst ys)∧ys.length≤i∧vt i ys H',⟨xs.length,by simp,Cy _,s0,zq.upd hD,zj,cx _,g0⟩,fun i m ys σ H ⟨_,_,_,_,h,_⟩=>h,?_⟩
 rintro i m ys σ' H' ⟨rfl,hi,h1,h2,h3,h4,h5⟩
 by_cases hlt:i<xs.length
 ·have hx:xs[i]? = some xs[i]:=cI hlt
  obtain⟨w1,w2⟩:=W.go i _ H' hx h2
  refine .inr ⟨w1,fun ys' σ2 H2=>Sg σ2∧zq H H2∧H2 D=some (.lst ys')∧ys'.length≤i+1∧vt (i+1) ys' H2,fun ys' σ2 H2 p=>⟨xs.length - (i+1),by omega,rfl,hlt,p⟩,fun y H'' hy=>?_⟩
  obtain⟨e1,e2⟩:=w2 y H'' hy
  subst e1 e2
  exact hs i _ ys σ' _ hx h1 h2 h3 h4 h5
 ·have e:i=xs.length:=by omega
  subst e
  exact .inl ⟨W.stop H' h2,hf ys H' h2 h3 h4 h5⟩
theorem u9 (W:Zq J H xs) (hD:H D=none) (hz:xs.length<sizeLine) (p:V→Bool) (φ:V→V) (ht:∀ x∈xs,∀ H' R,zq H H'→R (p x) H'→tt (σ.set 0 (some x)) H' R) (he:∀ x∈xs,p x=true→∀ H' R,zq H H'→R (φ x) H'→te (σ.set 0 (some x)) H' R) (hf:fin ((xs.filter p).map φ) (upd H D (.lst ((xs.filter p).map φ)))):ja J D (z6 0) tt te fin σ (upd H D (.lst [])):=by
 refine jA W hD (fun i ys H'=>ys=((xs.take i).filter p).map φ∧H'=upd H D (.lst ys)) (fun σ'=>∀ x,σ'.set 0 (some x) = σ.set 0 (some x)) (fun _=>rfl) ⟨rfl,rfl⟩ ?_ ?_
 ·rintro i x ys σ' H' hx hσ s hd hl ⟨rfl,rfl⟩
  have hi:i<xs.length:=(cW.mp hx).1
  have hm:=CC hx
  have tk:xs.take (i+1)=xs.take i++[x]:=by rw[CM,hx];rfl
  have hσ2:∀ y,(σ'.set 0 (some x)).set 0 (some y) = σ.set 0 (some y):=fun y=>by rw[dn];exact hσ y
  show tt (σ'.set 0 (some x)) _ _
  rw[hσ x]
  refine ht x hm _ _ s ?_
  rw[hσ x] at hσ2
  cases hp:p x with
  | true =>
   refine qV (he x hm hp _ _ s ⟨hd,by omega,hσ2,?_,zj,?_,?_,Xa⟩)
   ·rw[Xa];exact zq.upd hD
   ·rw[cG,Cp];omega
   ·rw[tk,Da,Ce];simp[hp]
  | false =>
   refine qD ⟨hσ2,s,hd,by omega,?_,rfl⟩
   rw[tk,Da,Ce];simp[hp]
 ·rintro ys H' s hd hl ⟨rfl,rfl⟩
  rw[CN]
  exact hf
end
end L2
namespace L2
theorem Xv {α:Type} [DecidableEq α] {l m:List α} (hn:l.Nodup) (hs:∀ x∈l,x∈m):l.length≤m.length:=by
 induction l generalizing m with
 | nil=>exact Cy _
 | cons a l ih =>
  obtain⟨h1,h2⟩:=CI.mp hn
  have ha:=hs a cX
  have:=ih (m:=m.erase a) h2 fun x hx=>(List.mem_erase_of_ne (show x≠a from fun e=>h1 (e ▸ hx))).mpr (hs x (cP _ hx))
  rw[DD ha] at this
  have:0<m.length:=DE ha
  rw[Cr]
  omega
theorem JI {α:Type} [DecidableEq α] {l m:List α} (hn:l.Nodup) (hs:∀ x,x∈l↔x∈m) (hl:m.length≤l.length):m.Nodup:=by
 induction m generalizing l with
 | nil=>exact dq
 | cons a m ih =>
  have ha:a∈l:=(hs a).mpr cX
  have no:¬ a∈m:=fun c=>by
   have:∀ x∈l,x∈m:=fun x hx=>by
    rcases cy.mp ((hs x).mp hx) with rfl | h
    ·exact c
    ·exact h
   have:=Xv hn this
   rw[Cr] at hl
   omega
  refine CI.mpr ⟨no,ih (l:=l.erase a) (hn.erase a) (fun x=>?_) ?_⟩
  ·rw[hn.mem_erase_iff,hs x,cy]
   exact⟨fun⟨h1,h2⟩=>h2.resolve_left h1,fun h=>⟨fun e=>no (e ▸ h),.inr h⟩⟩
  ·rw[DD ha]
   rw[Cr] at hl
   omega
theorem xF {α:Type} [DecidableEq α] {l m:List α} (hn:l.Nodup) (hs:∀ x,x∈l↔x∈m):l.length<m.length↔¬ m.Nodup :=
 ⟨fun h c=>Nat.not_lt.mpr (Xv c fun x hx=>(hs x).mpr hx) h,fun h=>Nat.lt_of_not_le fun c=>h (JI hn hs c)⟩
end L2
set_option maxHeartbeats 1000000
namespace SS
end SS
namespace L2
open PySem PySem.Spec PyProof.Rows PySem.W
section
variable {prog:Program} {w:World} {A:Around} {s:Shared}
end
section
variable {X:Cx} {A:Around} {E:Value→Shared→Prop} {pins:List (Addr × Obj)} {σ:St} {H:Hp} {s:Shared} {a:Addr} {its:List Value} {ts:List V} {nm:Nat→Str} {am:Nat→Int} {P:PySem.Fin→Shared→Prop}
end
end L2
namespace L2
open PySem PySem.Spec PyProof.Rows
structure qd (H:Hp) (ys:List V) (cs:List (List V)):Prop where
 len:ys.length=cs.length
 at_:∀ (i:Nat) (c:List V),cs[i]? = some c→∃ a,ys[i]? = some (V.ref a)∧H a=some (.tup c)
section
variable {H H':Hp} {ys:List V} {cs:List (List V)}
theorem qd.nil:qd H [] []:=⟨rfl,fun i c e=>by cases e⟩
theorem qd.mono (T:qd H ys cs) (k:∀ b c,H b=some (.tup c)→H' b=some (.tup c)):qd H' ys cs:=⟨T.len,fun i c e=>by
 obtain⟨a,h1,h2⟩:=T.at_ i c e
 exact⟨a,h1,k _ _ h2⟩⟩
theorem qd.same (T:qd H ys cs) (s:zq H H'):qd H' ys cs:=T.mono fun _ _ h=>s _ _ h
theorem qd.upd {p:Addr} {o:HO} (T:qd H ys cs) (n:∀ c,H p≠some (.tup c)):qd (upd H p o) ys cs:=T.mono fun b c h=>by
 rw[zm (show b≠p from fun e=>n c (by rw[← e];exact h))]
 exact h
theorem qd.snoc {a:Addr} {c:List V} (T:qd H ys cs) (h:H a=some (.tup c)):qd H (ys++[.ref a]) (cs++[c]):=by
 refine⟨by rw[cG,cG,T.len];rfl,fun i d e=>?_⟩
 by_cases hi:i<cs.length
 ·rw[CY hi] at e
  rw[CY (by rw[T.len];exact hi)]
  exact T.at_ i d e
 ·have hi:=de hi
  rw[CH hi] at e
  rw[CH (by rw[T.len];exact hi),T.len]
  cases q:i - cs.length with
  | zero =>
   rw[q] at e
   cases e
   exact⟨a,rfl,h⟩
  | succ n =>
   rw[q] at e
   cases e
theorem qd.of_at (T:qd H ys cs) {i:Nat} {y:V} (h:ys[i]? = some y):∃ a c,y = .ref a∧cs[i]? = some c∧H a=some (.tup c):=by
 have hi:i<cs.length:=by rw[← T.len];exact (cW.mp h).1
 obtain⟨a,h1,h2⟩:=T.at_ i _ (cI hi)
 rw[h] at h1
 exact⟨a,_,Option.some.inj h1,cI hi,h2⟩
end
section
variable {J:It} {D a:Addr} {g:TG} {tt:TT} {te:TE} {fin:List V→Hp→Prop} {σ:St} {H:Hp} {xs:List V} {K:BFr}
end
end L2
namespace ST
open PySem
noncomputable def VZ (xs:Array Nat):Prop:=∀ i j,i<j→j<xs.size→xs.getD i 0<xs.getD j 0
theorem O9 {xs:Array Nat} {i:Nat} (h:i<xs.size) (d e:Nat):xs.getD i d=xs.getD i e:=by
 simp[Array.getD,h]
theorem JG {xs:Array Nat} (hr:VZ xs) (j:Nat):∀ (fuel lo hi:Nat),hi - lo≤fuel→lo≤hi→hi≤xs.size→(∀ i,i<lo→xs.getD i 0<j)→(∀ i,hi≤i→i<xs.size→j≤xs.getD i 0) →
  (SetTable.below.go xs j fuel lo hi≤xs.size∧(∀ i,i<SetTable.below.go xs j fuel lo hi→xs.getD i 0<j)∧∀ i,SetTable.below.go xs j fuel lo hi≤i→i<xs.size→j≤xs.getD i 0)
 | 0,lo,hi,hf,hl,hs,h1,h2=>by
  have e:lo=hi:=by omega
  subst e
  exact⟨hs,h1,h2⟩
 | fuel+1,lo,hi,hf,hl,hs,h1,h2=>by
  unfold SetTable.below.go
  by_cases hlt:lo<hi
  ·rw[if_pos hlt]
   have hm:(lo+hi)/2<hi:=by omega
   have hm2:lo≤(lo+hi)/2:=by omega
   have hms:(lo+hi)/2<xs.size:=by omega
   show (if xs.getD ((lo+hi)/2) j<j then _ else _)≤_∧_
   simp only
   rw[O9 hms j 0]
   by_cases hc:xs.getD ((lo+hi)/2) 0<j
   ·rw[if_pos hc]
    refine JG hr j fuel _ hi (by omega) (by omega) hs (fun i hi'=>?_) h2
    by_cases e:i=(lo+hi)/2
    ·rw[e];exact hc
    ·exact d7 (hr i _ (by omega) hms) hc
   ·rw[if_neg hc]
    refine JG hr j fuel lo _ (by omega) hm2 (by omega) h1 (fun i hi' his=>?_)
    by_cases e:i=(lo+hi)/2
    ·rw[e];exact de hc
    ·exact cJ (de hc) (dX (hr _ i (by omega) his))
  ·rw[if_neg hlt]
   have e:lo=hi:=by omega
   subst e
   exact⟨hs,h1,h2⟩
theorem WZ {xs:Array Nat} (hr:VZ xs) (j:Nat):SetTable.below xs j≤xs.size∧(∀ i,i<SetTable.below xs j→xs.getD i 0<j)∧∀ i,SetTable.below xs j≤i→i<xs.size→j≤xs.getD i 0 :=
 JG hr j xs.size 0 xs.size (by omega) (by omega) (cx _) (fun i h=>absurd h (Nat.not_lt_zero i)) (fun i h1 h2=>absurd h2 (Nat.not_lt.mpr h1))
theorem Zw {xs:Array Nat} {p x k:Nat} (hp:p≤xs.size):(SetTable.insertAt xs p x).getD k 0=if k<p then xs.getD k 0 else if k=p then x else xs.getD (k - 1) 0:=by
 unfold SetTable.insertAt
 have e:∀ (ys:Array Nat) (k:Nat),ys.getD k 0=(ys.toList[k]?).getD 0:=fun ys k=>by simp[Array.getD_eq_getD_getElem?]
 rw[e,e,e]
 have l:((xs.extract 0 p).push x++xs.extract p xs.size).toList=xs.toList.take p++x::xs.toList.drop p:=by
  simp[Array.toList_extract]
  rw[C8 (by simp:_≤_)]
 rw[l]
 by_cases h1:k<p
 ·rw[if_pos h1,CY (by rw[Ci,CB];omega),DB h1]
 ·rw[if_neg h1,CH (by rw[Ci,CB];omega),Ci,CB,CU hp]
  by_cases h2:k=p
  ·rw[if_pos h2,h2,dN];rfl
  ·rw[if_neg h2]
   obtain⟨m,hm⟩:∃ m,k - p=m+1:=⟨k - p - 1,by omega⟩
   rw[hm,List.getElem?_cons_succ,Ds]
   congr 2
   omega
theorem VT {xs:Array Nat} {p x:Nat} (hp:p≤xs.size):(SetTable.insertAt xs p x).size=xs.size+1:=by
 unfold SetTable.insertAt
 simp
 omega
theorem o9 {xs:Array Nat} (hr:VZ xs) {j:Nat} (hj:xs[SetTable.below xs j]?≠some j):VZ (SetTable.insertAt xs (SetTable.below xs j) j):=by
 obtain⟨h1,h2,h3⟩:=WZ hr j
 have h4:∀ i,SetTable.below xs j≤i→i<xs.size→j<xs.getD i 0:=fun i a b=>by
  refine Nat.lt_of_le_of_ne (h3 i a b) fun e=>?_
  by_cases q:i=SetTable.below xs j
  ·apply hj
   rw[← q,DC b]
   have:xs.getD i 0=xs[i]:=by simp[Array.getD,b]
   rw[← this,← e]
  ·have:=hr (SetTable.below xs j) i (by omega) b
   have:=h3 (SetTable.below xs j) (cx _) (by omega)
   omega
 intro a b hab hb
 rw[VT h1] at hb
 rw[Zw h1,Zw h1]
 by_cases c1:b<SetTable.below xs j
 ·rw[if_pos (by omega:a<SetTable.below xs j),if_pos c1]
  exact hr a b hab (by omega)
 ·rw[if_neg c1]
  by_cases c2:b=SetTable.below xs j
  ·rw[if_pos c2,if_pos (by omega:a<SetTable.below xs j)]
   exact h2 a (by omega)
  ·rw[if_neg c2]
   by_cases c3:a<SetTable.below xs j
   ·rw[if_pos c3]
    exact d7 (h2 a c3) (h4 (b - 1) (by omega) (by omega))
   ·rw[if_neg c3]
    by_cases c4:a=SetTable.below xs j
    ·rw[if_pos c4]
     exact h4 (b - 1) (by omega) (by omega)
    ·rw[if_neg c4]
     exact hr (a - 1) (b - 1) (by omega) (by omega)
theorem xc (n:Nat):VZ (Array.range n):=by
 intro i j hij hj
 have hj':j<n:=by simpa using hj
 have hi':i<n:=by omega
 simp[Array.getD,hj',hi',hij]
theorem Zn {l:List Nat} (h:l.Pairwise (· < ·)):VZ l.toArray:=by
 intro i j hij hj
 have hj':j<l.length:=by simpa using hj
 have hi':i<l.length:=by omega
 have:=Dc.mp h i j hi' hj' hij
 simpa [Array.getD,hi',hj'] using this
theorem GQ {mask finger moves:Nat} {led plain:Bool} {hashes:Array Int} {t:SetTable} {order:Array Nat} (h:SetTable.laid mask finger moves led plain hashes=some (t,order)):VZ t.place∧t.led=led∧t.plain=plain:=by
 unfold SetTable.laid at h
 cases e:SetTable.layClean mask hashes with
 | none =>
  rw[e] at h
  cases h
 | some owner =>
  rw[e] at h
  cases h
  refine⟨Zn ?_,rfl,rfl⟩
  rw[List.map_filterMap]
  refine List.Pairwise.filterMap _ (R:=(· < ·)) ?_ List.pairwise_lt_range
  intro a b hab x hx y hy
  simp only[Option.map_map,Option.mem_def,Cd] at hx hy
  obtain⟨_,_,rfl⟩:=hx
  obtain⟨_,_,rfl⟩:=hy
  exact hab
noncomputable def Qh (t:SetTable) (j:Nat):Prop:=t.place[SetTable.below t.place j]?≠some j
theorem XO {t:SetTable} {j:Nat} (h:∀ i,t.slot j≠.live i):Qh t j:=by
 intro e
 unfold SetTable.slot at h
 simp only at h
 rw[if_pos (by rw[e];simp)] at h
 exact h _ rfl
theorem wM {t:SetTable} {f:Nat→Int} {h:Int}:∀ (fuel:Nat) (p:SetTable.Probe),(∀ d,p.dummy=some d→Qh t d)→∀ j d,SetTable.probe.go t f h fuel p=some (.empty j d)→Qh t j∧∀ e,d=some e→Qh t e
 | 0,p,_,j,d,q=>by
  unfold SetTable.probe.go at q
  cases q
 | fuel+1,p,hp,j,d,q=>by
  unfold SetTable.probe.go at q
  cases hs:t.slot p.j with
  | empty =>
   rw[hs] at q
   simp only[Option.some.injEq,SetTable.Met.empty.injEq] at q
   obtain⟨e1,e2⟩:=q
   subst e1 e2
   exact⟨XO fun i=>by rw[hs];simp,hp⟩
  | dummy =>
   rw[hs] at q
   refine wM fuel _ (fun e he=>?_) j d q
   have:(SetTable.advance t { p with dummy:=some p.j }).dummy=some p.j:=by
    unfold SetTable.advance
    split <;> rfl
   rw[this] at he
   cases he
   exact XO fun i=>by rw[hs];simp
  | live i =>
   rw[hs] at q
   simp only at q
   split at q
   ·cases q
   ·refine wM fuel _ (fun e he=>?_) j d q
    have:(SetTable.advance t p).dummy=p.dummy:=by
     unfold SetTable.advance
     split <;> rfl
    rw[this] at he
    exact hp e he
theorem lE {t:SetTable} {h:Int} {s:Nat} {wd:Bool} (q:t.freeSlot h=some (s,wd)):Qh t s:=by
 unfold SetTable.freeSlot at q
 cases e:t.probe (fun _=>h+1) h (t.probeStart h) with
 | none=>rw[e] at q;cases q
 | some m =>
  rw[e] at q
  cases m with
  | candidate j i n=>cases q
  | empty j d =>
   have hp:=wM _ _ (by intro d hd;cases hd) j d e
   simp only[Option.some.injEq,Prod.mk.injEq] at q
   obtain⟨q1,_⟩:=q
   cases d with
   | none=>rw[← q1];exact hp.1
   | some d=>rw[← q1];exact hp.2 d rfl
structure vt (b:Bool) (t:SetTable):Prop where
 led:t.led=b
 rise:VZ t.place
theorem ua {b:Bool} {t:SetTable} (g:vt b t) (n:Nat):vt b (t.standIn n):=⟨g.led,xc n⟩
theorem Wx {b:Bool} {t:SetTable} (g:vt b t) (p:Bool):vt b { t with plain:=p }:=⟨g.led,g.rise⟩
theorem Pc {b:Bool} {t:SetTable} (g:vt b t) (es:Array (Int × Value)) (h:Int) (x:Value):vt b (layNew t es h x).2.1:=by
 unfold layNew
 cases e:t.freeSlot h with
 | none=>exact ua g _
 | some q =>
  obtain⟨s,wd⟩:=q
  have gp:vt b (t.put s).1:=⟨g.led,o9 g.rise (lE e)⟩
  show vt b ((t.put s).1.orStandIn _)
  unfold SetTable.orStandIn
  split
  ·exact gp
  ·exact ua gp _
theorem xJ {b:Bool} {t:SetTable} (g:vt b t) (es:Array (Int × Value)) (n:Nat):vt b (relayAll t es n).2.1:=by
 unfold relayAll
 cases e:t.relaid (es.map (·.1)) n with
 | none=>exact ua g _
 | some q =>
  obtain⟨t',order⟩:=q
  simp only
  split
  ·obtain⟨r1,r2,_⟩:=GQ e
   exact⟨r2.trans g.led,r1⟩
  ·exact ua g _
theorem Wl (b:Bool):vt b (SetTable.fresh 0 0 b):=⟨rfl,fun i j _ h=>absurd h (Nat.not_lt_zero _)⟩
open PySem.Spec
section
variable {prog:Program} {w:World} {K:Type} [DecidableEq K] [BEq K] [LawfulBEq K] {knd:KeyKind prog w K} {A:Around} {E:Value→Shared→Prop} {s:Shared}
structure At (knd:KeyKind prog w K) (b:Bool) (h:Heap) (a:Addr) (es:Array (Int × Value)):Prop where
 ex:∃ o ep t,h.get? a=some o∧o.ExactSet∧o.data = .set es ep t∧t.fits es.size=true∧vt b t
 el:ElemsOf knd es.toList
theorem U9 {b:Bool} {h:Heap} {a:Addr} {o:Obj} {es es':Array (Int × Value)} {ep:Nat} {t t':SetTable} (og:h.get? a=some o) (hx:o.ExactSet) (dg:o.data = .set es ep t) (el:ElemsOf knd es'.toList) (fg:t'.fits es'.size=true) (g:vt b t') :
  (h.update a (Obj.putSet es' t')).get? a=some { o with data:=.set es' (ep+1) t' }∧At knd b (h.update a (Obj.putSet es' t')) a es':=by
 have e:(h.update a (Obj.putSet es' t')).get? a=some { o with data:=.set es' (ep+1) t' }:=by
  rw[← putSet_of es' t' dg]
  exact C7 _ og (by rw[putSet_of es' t' dg];rfl)
 exact⟨e,⟨_,_,_,e,hx,rfl,fg,g⟩,el⟩
noncomputable def Mr (knd:KeyKind prog w K) (k:K) (x:Value) (es es':Array (Int × Value)):Prop :=
 ((∃ e∈es.toList,knd.is k e.2=true)∧es'=es)∨((∀ e∈es.toList,knd.is k e.2=false)∧es'.toList.Perm (es.toList++[(knd.hash k,x)]))
theorem Oo {b:Bool} {a:Addr} {es:Array (Int × Value)} {k:K} {x:Value} {Q:Bool→Shared→Prop} (hk:knd.is k x=true) (hx:x.scannable=true) (hA:At knd b s.heap a es) (hb:es.size+1<scanBound) (h:∀ h' es' r,Heap.SameBut a s.heap h'→At knd b h' a es'→Mr knd k x es es'→Q r { s with heap:=h' }):wpAny (model prog w) A (setAddHashed a x (knd.hash k)) Q E s:=by
 obtain⟨⟨o,ep,t,og,hex,dg,fg,g⟩,el⟩:=hA
 unfold setAddHashed
 unfold setAddHashedIn
 refine wpAny_holding (wpAny_bind (wpAny_setState_of og dg fg ?_))
 dsimp only
 rw[byScan_of hx (Nat.lt_of_succ_lt hb) el]
 simp only[↓reduceIte]
 unfold setAddByScan
 refine wpAny_bind (wpAny_bind (wpAny_rule (wpAny_bind (wpAny_setScan_of hk og dg fg el ?_))))
 cases met:List.findIdx? (fun u=>knd.is k u.2) es.toList with
 | some j =>
  dsimp only
  obtain⟨j1,j2,_⟩:=List.findIdx?_eq_some_iff_getElem.mp met
  refine wpAny_pure (wpAny_pure ?_)
  have z:=h s.heap es false (Heap.SameBut.refl a s.heap) ⟨⟨o,ep,t,og,hex,dg,fg,g⟩,el⟩ (.inl ⟨⟨_,d8 j1,j2⟩,rfl⟩)
  exact z
 | none =>
  dsimp only
  have none_is:∀ e∈es.toList,knd.is k e.2=false:=fun e he=>by
   have z:=List.findIdx?_eq_none_iff.mp met e he
   simpa using z
  have gw:∀ (c:Bool) {s₁:Shared} {R:Unit→Shared→Prop},R () s₁→wpAny (model prog w) A (match c with | true=>rule "set.scan.the-table-gave-way" | false=>pure ()) R E s₁:=fun c s₁ R q=>by
   cases c
   ·exact wpAny_pure q
   ·exact wpAny_rule q
  have pm:=layNew_perm t es (knd.hash k) x
  have ft:=layNew_fits t es (knd.hash k) x
  have gl:=Pc g es (knd.hash k) x
  obtain⟨L,hL⟩:∃ L,layNew t es (knd.hash k) x=L:=⟨_,rfl⟩
  rw[hL] at pm ft gl ⊢
  obtain⟨es1,t1,wd,gv⟩:=L
  dsimp only at pm ft gl ⊢
  rw[Dm] at pm
  have el1:ElemsOf knd es1.toList:=(el.push hk hx).perm pm
  have sz1:es1.size=es.size+1:=by rw[← CB,pm.length_eq,cG,CB];rfl
  have tail:∀ tb:SetTable,tb.fits es1.size=true→vt b tb→∀ R:Option Bool→Shared→Prop,(∀ h' es',Heap.SameBut a s.heap h'→At knd b h' a es'→es'.toList.Perm es1.toList→R (some true) { s with heap:=h' }) →
    wpAny (model prog w) A (do
     storeSet a es1 tb
     if (!wd&&tb.tooFull)=true then do
       (match (relayAll tb es1 (SetTable.grown es1.size)).2.2 with | true=>rule "set.scan.the-table-gave-way" | false=>pure ())
       storeSet a (relayAll tb es1 (SetTable.grown es1.size)).1 (relayAll tb es1 (SetTable.grown es1.size)).2.1
       pure (some true)
      else pure (some true)) R E s:=fun tb f2 g2 R q=>by
   have fit1:es1.size≤sizeLine:=fits_of_scanBound (by rw[sz1];exact hb)
   refine wpAny_bind (wpAny_storeSet_of og dg ?_ fit1)
   obtain⟨o1,A1⟩:=U9 (knd:=knd) og hex dg el1 f2 g2
   have sb1:=Heap.SameBut.update s.heap a (Obj.putSet es1 tb)
   split
   ·have rp:=relayAll_perm tb es1 (SetTable.grown es1.size)
    have rf:=relayAll_fits tb es1 (SetTable.grown es1.size)
    have rg:=xJ g2 es1 (SetTable.grown es1.size)
    have rs:(relayAll tb es1 (SetTable.grown es1.size)).1.size=es1.size:=by rw[← CB,rp.length_eq,CB]
    refine wpAny_bind (gw _ ?_)
    refine wpAny_bind (wpAny_storeSet_of o1 rfl ?_ (by rw[rs];exact fit1))
    obtain⟨_,A2⟩:=U9 (knd:=knd) o1 hex rfl (el1.perm rp) rf rg
    exact wpAny_pure (q _ _ (sb1.trans (Heap.SameBut.update _ a _)) A2 rp)
   ·exact wpAny_pure (q _ _ sb1 A1 (List.Perm.refl _))
  have fin:∀ h' es',Heap.SameBut a s.heap h'→At knd b h' a es'→es'.toList.Perm es1.toList→Q true { s with heap:=h' }:=fun h' es' sb A2 p=>h h' es' true sb A2 (.inr ⟨none_is,p.trans pm⟩)
  refine wpAny_bind (gw _ ?_)
  split
  ·refine wpAny_bind ?_
   rw[hashByValue_scannable 8 hx]
   refine wpAny_pure ?_
   refine tail _ ?_ ?_ _ fun h' es' sb A2 p=>?_
   ·split
    ·exact ft
    ·exact SetTable.fits_plain_off ft
   ·split
    ·exact gl
    ·exact Wx gl _
   ·dsimp only
    exact wpAny_pure (fin h' es' sb A2 p)
  ·refine wpAny_bind (wpAny_pure ?_)
   simp only[↓reduceIte]
   refine tail _ ft gl _ fun h' es' sb A2 p=>?_
   dsimp only
   exact wpAny_pure (fin h' es' sb A2 p)
end
noncomputable def wB (w:World):Bool:=w.params.followText "set-order"
section
variable {prog:Program} {w:World} {A:Around} {E:Value→Shared→Prop} {s:Shared}
abbrev jR (w:World):Obj:={ cls:=.type "set",dict:=none,data:=.set #[] 0 (.fresh 0 0 (!wB w)) }
theorem oS (v:Value) {Q:Value→Shared→Prop} (h:Q (.ref s.heap.objs.size) { s with heap:=s.heap.push (jR w) }) :
  codeAny (model prog w) A (.call (.builtin "set.__new__") ⟨[.type "set",v],[]⟩) (wants Q E) s:=by
 refine codeAny_of_tree ?_
 show wpAny _ A.in1 (checkBuiltinCall "set.__new__" ⟨[.type "set",v],[]⟩ >>= fun _=>again (.builtin "set.__new__" ⟨[.type "set",v],[]⟩)) _ _ s
 refine wpAny_bind (wpAny_of_eq (F.newCall_set_1 v) (wpAny_pure ⟨plainId_quiet F.plain_set_new _,codeAny_builtin F.entry_set_new ?_⟩))
 rw[Around.under_plainId F.plain_set_new _]
 unfold Builtin.«set.__new__»
 unfold Builtin.Frozenset.newClass
 have sub:=sub_set_self
 obtain⟨hp,g,d,tk,os⟩:=s
 dsimp only
 wp_walk
 refine wpAny_askSetting (wpAny_pure ?_)
 dsimp only
 simp only[newObj]
 refine wpAny_bind (wpAny_alloc (wpAny_pure ?_))
 exact wpAny_pure h
end
open PyProof.Rows
section
variable {prog:Program} {w:World} {K:Type} [DecidableEq K] [BEq K] [LawfulBEq K] {knd:KeyKind prog w K} {A:Around} {E:Value→Shared→Prop} {s:Shared}
structure xn (kf:Value→K) (es:Array (Int × Value)) (l:List K):Prop where
 nd:(es.toList.map fun e=>kf e.2).Nodup
 mem:∀ k,k∈es.toList.map (fun e=>kf e.2)↔k∈l
 len:es.size≤l.length
theorem Gm (kf:Value→K):xn kf #[] []:=⟨dq,fun k=>Iff.rfl,cx _⟩
theorem pH {kf:Value→K} (hkf:∀ k v,knd.is k v=true→kf v=k) {es es':Array (Int × Value)} {l:List K} {k:K} {x:Value} (el:ElemsOf knd es.toList) (hk:knd.is k x=true) (c:xn kf es l) (a:Mr knd k x es es'):xn kf es' (l++[k]):=by
 rcases a with ⟨⟨e,he,h1⟩,rfl⟩ | ⟨no,pm⟩
 ·refine⟨c.nd,fun q=>?_,by rw[cG];exact Nat.le_add_right_of_le c.len⟩
  rw[c.mem,Cu,Cq]
  refine⟨.inl,fun z=>z.elim id fun z=>?_⟩
  rw[z,← c.mem]
  exact cH.mpr ⟨e,he,hkf _ _ h1⟩
 ·have pk:(es'.toList.map fun e=>kf e.2).Perm ((es.toList.map fun e=>kf e.2)++[k]):=by
   have:=pm.map fun e=>kf e.2
   rw[Ce] at this
   simpa [hkf k x hk] using this
  have nk:¬ k∈es.toList.map fun e=>kf e.2:=fun m=>by
   obtain⟨e,he,e1⟩:=cH.mp m
   obtain⟨⟨k',h1,_⟩,_⟩:=el e he
   have e2:=hkf _ _ h1
   have:=no e he
   rw[← e1,e2,h1] at this
   cases this
  refine⟨pk.nodup_iff.mpr ?_,fun q=>?_,?_⟩
  ·rw[List.nodup_append]
   refine⟨c.nd,by simp,fun a ha b hb z=>?_⟩
   rw[Cq.mp hb] at z
   exact nk (z ▸ ha)
  ·rw[pk.mem_iff,Cu,Cu,c.mem]
  ·rw[← CB,pm.length_eq,cG,cG,CB]
   exact Nat.add_le_add_right c.len _
theorem gf {b:Bool} {h h':Heap} {a:Addr} {es:Array (Int × Value)} (x:At knd b h a es) (k:∀ o,h.get? a=some o→h'.get? a=some o):At knd b h' a es:=by
 obtain⟨⟨o,ep,t,e,r⟩,el⟩:=x
 exact⟨⟨o,ep,t,k o e,r⟩,el⟩
theorem GM {b:Bool} {I:Addr} {fp wr:List Addr} {n:Nat} {P:Nat→Value→Prop} {St:Nat→Heap→Prop} (W:Walks prog w A.in1 I fp wr n P St) (S:Addr) (hS:S∉fp) {kf:Value→K} (hkf:∀ k v,knd.is k v=true→kf v=k) (key:Nat→K) (hv:∀ i v,P i v→knd.is (key i) v=true∧v.scannable=true) (hb:n+1<scanBound) {R:Result→Shared→Prop} :
  ∀ (m i:Nat) (s:Shared) (es:Array (Int × Value)),n - i=m→i≤n→St i s.heap→At knd b s.heap S es→xn kf es ((List.range i).map key) →
   (∀ h' tk es',(∀ c o,c∉wr→c≠S→s.heap.get? c=some o→h'.get? c=some o)→At knd b h' S es'→xn kf es' ((List.range n).map key)→R (.ok (.ret .none)) { s with heap:=h',toks:=tk }) →
   codeAny (model prog w) A (.builtin "set.update.loop" ⟨[.ref S,.ref I],[]⟩) R s:=by
 have hSw:S∉wr:=fun z=>hS (W.sub _ z)
 intro m
 induction m with
 | zero =>
  intro i s es hm hi st hA hK hR
  obtain rfl:i=n:=by omega
  refine codeAny_builtin F.entry_set_update_loop ?_
  rw[Around.under_plainId F.plain_set_update_loop _]
  refine wpAny_bind (W.done s _ _ st fun h' tk keep=>?_)
  exact wpAny_pure (hR h' tk es (fun c o c1 _ e=>keep c o c1 e) (gf hA fun o e=>keep _ o hSw e) hK)
 | succ m ih =>
  intro i s es hm hi st hA hK hR
  have lt:i<n:=by omega
  refine codeAny_builtin F.entry_set_update_loop ?_
  rw[Around.under_plainId F.plain_set_update_loop _]
  refine wpAny_bind (W.item i s _ _ lt st fun v h' tk hP st' keep=>?_)
  obtain⟨v1,v2⟩:=hv i v hP
  have hA':At knd b h' S es:=gf hA fun o e=>keep _ o hSw e
  refine wpAny_bind (wpAny_holding ?_)
  unfold setAdd
  refine wpAny_holding (wpAny_bind (knd.pyHash v1 ?_))
  have room:es.size+1<scanBound:=by
   have:=hK.len
   rw[cw,Cj] at this
   omega
  refine Oo (knd:=knd) (s:={ s with heap:=h',toks:=tk+1 }) v1 v2 hA' room fun h2 es2 r sb A2 ad=>?_
  have K2:xn kf es2 ((List.range (i+1)).map key):=by
   rw[List.range_succ,Ce]
   exact pH hkf hA.el v1 hK ad
  refine wpAny_pure ⟨plainId_quiet F.plain_set_update_loop _,ih (i+1) _ es2 (by omega) lt (W.frame _ _ _ st' fun c hc o e=>?_) A2 K2 fun h3 tk3 es3 keep3 A3 K3=>?_⟩
  ·exact (sb.2 c fun z=>hS (z ▸ hc)).trans e
  ·exact hR h3 tk3 es3 (fun c o c1 c2 e=>keep3 c o c1 c2 ((sb.2 c c2).trans (keep c o c1 e))) A3 K3
end
section
variable {prog:Program} {w:World} {K:Type} [DecidableEq K] [BEq K] [LawfulBEq K] {knd:KeyKind prog w K} {A:Around} {E:Value→Shared→Prop} {s:Shared}
structure tT (knd:KeyKind prog w K) (kf:Value→K) (l:List K) (h₀ h:Heap):Prop where
 ex:∃ es,At knd (!wB w) h h₀.objs.size es∧xn kf es l
 keep:∀ c o,c<h₀.objs.size→h₀.get? c=some o→h.get? c=some o
theorem Pj {h:Heap} {a:Addr} (e:h.get? a=some (jR w)):At knd (!wB w) h a #[] :=
 ⟨⟨_,_,_,e,⟨rfl,rfl,rfl⟩,rfl,rfl,Wl _⟩,fun _ m=>by cases m⟩
theorem G6 {l:Addr} {items:Array Value} (hh:A.handled=none) (hl:s.heap.IsList l items) {kf:Value→K} (hkf:∀ k v,knd.is k v=true→kf v=k) {ks:List K}
  (hv:∀ (i:Nat) (v:Value),items[i]? = some v→∃ k,ks[i]? = some k∧knd.is k v=true∧v.scannable=true) (hn:ks.length=items.size) (hb:items.size+1<scanBound) [Inhabited K] :
  codeAny (model prog w) A (.call (.builtin "set.__init__") ⟨[.ref s.heap.objs.size,.ref l],[]⟩)
   (wants (fun r s'=>r = .none∧∃ h tk,s' = { s with heap:=h,toks:=tk }∧tT knd kf ks s.heap h) E) { s with heap:=s.heap.push (jR w) }:=by
 have e0:(s.heap.push (jR w)).get? s.heap.objs.size=some (jR w):=Co _ rfl
 refine codeAny_call_builtin F.called_set.init.plain F.entry_set_init (check_set_init_1 ⟨_,e0,rfl⟩ ?_)
 have lt:l<s.heap.objs.size:=by
  obtain⟨o,e,_⟩:=hl
  exact cD e
 have hl1:(s.heap.push (jR w)).IsList l items:=hl.push _
 have sz:(s.heap.push (jR w)).objs.size=s.heap.objs.size+1:=dD _ _
 obtain⟨⟨cl,di,da,sl⟩,og,oc,nl,od⟩:=id hl1
 dsimp only at oc od
 cases oc
 cases od
 have q1:=F.sub_list_set
 have q2:=F.sub_list_frozenset
 have q3:(Value.type "list" == Value.type "dict")=false:=rfl
 unfold Builtin.«set.__init__»
 unfold noKeywords
 unfold Builtin.Frozenset.updateFrom
 generalize z:pyIter=it
 wp_walk
 subst z
 refine wpAny_pyIter_list hl1 (wpAny_bind (wpAny_runValue ?_))
 have nI:l≠(s.heap.push (jR w)).objs.size:=by rw[sz];exact Cc (Dd lt)
 refine GM (knd:=knd) (b:=!wB w) (Walks.list (by simp[hh]) _ l nI items) s.heap.objs.size ?_ hkf (fun i=>ks.getD i default) (fun i v e=>?_) hb _ 0 _ #[] rfl (Cy _)
  ⟨⟨_,Co _ rfl,rfl,rfl⟩,hl1.push _⟩ (Pj (Cg _ e0)) (Gm _) fun h tk es keep A1 K1=>?_
 ·rw[sz]
  intro m
  rcases cy.mp m with m | m
  ·exact Cc (dF _) m
  ·exact dZ lt (Cq.mp m)
 ·obtain⟨k,k1,k2⟩:=hv i v e
  have:ks.getD i default=k:=by rw[CQ,k1];rfl
  exact this ▸ k2
 ·have ek:(List.range items.size).map (fun i=>ks.getD i default)=ks:=by
   apply Du
   intro i
   rw[cQ]
   by_cases c:i<items.size
   ·rw[List.getElem?_range c,Option.map_some,CQ,cI (hn ▸ c)];rfl
   ·rw[dk (by simpa using c),dk (by omega)];rfl
  rw[ek] at K1
  refine wpAny_pure (wpAny_pure ⟨rfl,h,tk,rfl,⟨es,A1,K1⟩,fun c o c1 c2=>?_⟩)
  refine keep c o ?_ (Cc c1) (Cg _ (Cg _ c2))
  rw[sz]
  intro m
  exact Cc (Dd c1) (Cq.mp m)
end
section
variable {prog:Program} {w:World} {K:Type} [DecidableEq K] [BEq K] [LawfulBEq K] [Inhabited K] {knd:KeyKind prog w K} {A:Around} {E:Value→Shared→Prop} {s:Shared}
set_option maxHeartbeats 3200000 in
theorem gz {l:Addr} {items:Array Value} (hh:A.handled=none) (hl:s.heap.IsList l items) {kf:Value→K} (hkf:∀ k v,knd.is k v=true→kf v=k) {ks:List K}
  (hv:∀ (i:Nat) (v:Value),items[i]? = some v→∃ k,ks[i]? = some k∧knd.is k v=true∧v.scannable=true) (hn:ks.length=items.size) (hb:items.size+1<scanBound) {Q:Value→Shared→Prop}
  (q:∀ h tk,tT knd kf ks s.heap h→Q (.ref s.heap.objs.size) { s with heap:=h,toks:=tk }):wpAny (model prog w) A (call (.type "set") [.ref l]) Q E s:=by
 obtain⟨_,_,m⟩:=F.called_set.mro
 have md:=F.called_set.made
 have sb:=F.called_set.sub
 have nt:=F.called_set.notType
 have cc:=F.called_set.canCreate
 have tc:=F.typeCall_set_1 (.ref l)
 refine wpAny_call (codeAny_of_tree (show wpAny _ _ (callAny (.type "set") _) _ _ _ from ?_))
 refine wpAny_pure ⟨Code.quiet_builtin _ (by decide +kernel),codeAny_builtin F.entry_type_call ?_⟩
 rw[Around.under_plain (weight_type_call_type "set" _ _) rfl]
 repeat' (first | assumption | wp_step)
 refine codeAny_mono (oS (.ref l) (E:=E) (Q:=fun v t=>v = .ref s.heap.objs.size∧t = { s with heap:=s.heap.push (jR w) }) ⟨rfl,rfl⟩) fun r t hr=>?_
 match r,hr with
 | .error e,hr=>exact hr
 | .ok (.ret v),hr =>
  obtain⟨e1,e2⟩:=hr
  subst e1 e2
  have e0:(s.heap.push (jR w)).get? s.heap.objs.size=some (jR w):=Co _ rfl
  have ty:Shared.TypeIs { s with heap:=s.heap.push (jR w) } (.ref s.heap.objs.size) "set":=⟨_,e0,rfl⟩
  have i1:=F.called_set.init.lookup
  have i2:=F.called_set.init.bind (.ref s.heap.objs.size)
  repeat' (first | assumption | wp_step)
  refine codeAny_mono (G6 (knd:=knd) (E:=E) (by simp[hh]) hl hkf hv hn hb) fun r2 t2 hr2=>?_
  match r2,hr2 with
  | .error e,hr2=>exact hr2
  | .ok (.ret v2),hr2 =>
   obtain⟨f1,h,tk,f2,L⟩:=hr2
   subst f1 f2
   repeat' (first | assumption | wp_step)
   exact q h tk L
end
end ST
namespace L2
open PySem PySem.Spec PyProof.Rows
noncomputable def RN:Value→Str
 | .str z _=>z
 | _=>default
section
variable {X:Cx} {pins:List (Addr × Obj)} {σ:St} {H:Hp} {s:Shared} {a:Expr} {ta:TA} {p1 p2 p3 pos:Pos}
noncomputable def Ll (K:BFr) (ta:TA):TE:=fun σ H Q=>ta σ H fun vs H1=>∃ (l:Addr) (zs:List Str),vs=[.ref l]∧zZ K H1 l (zs.map V.str)∧zs.length<64 ∧
 ∀ n:Nat,n≤zs.length→(n<zs.length↔¬ zs.Nodup)→Q (.int n) H1
theorem GV (hcalm:X.calm=true) (hg1:Gl X "len") (hm1:X.mg "len" = none) (hg2:Gl X "set") (hm2:X.mg "set" = none) (ha:PA X [a] ta) (hs:starEach [a] X.env=[(false,eval a X.env)]:=by rfl) (hs1:starEach [.Call (.Name "set" p2) [a] [] p3] X.env=[(false,eval (.Call (.Name "set" p2) [a] [] p3) X.env)]:=by rfl) :
  PE X (.Call (.Name "len" p1) [.Call (.Name "set" p2) [a] [] p3] [] pos) (Ll X.K ta):=by
 intro pins s σ H Q I h
 refine Call_ (wD I hg1 hm1 boot_len (PyProof.Rows.callWith_builtin1 ?_ hs1 rfl))
 rw[hs1]
 show wpAny _ _ (spliced ((false,eval (.Call (.Name "set" p2) [a] [] p3) X.env)::[])) _ _ s
 refine Calls.spliced_cons ?_
 refine Call_ (wD I hg2 hm2 boot_set (PyProof.Rows.callWith_type1 (q0 (ha p3 pins s σ H _ I h) fun us s1 z=>?_) hs rfl))
 obtain⟨vs,H1,I1,r1,l,zs,e,hS,h64,q⟩:=z
 subst e
 cases r1 with
 | cons r rr =>
  cases rr
  cases r
  obtain⟨its,rv,pl,hz⟩:=I1.list hS
  have il:=rv.length
  rw[cw] at il
  have hh:=I1.ok.hd hcalm
  refine ST.gz (knd:=strKind X.prog X.w) (kf:=RN) (ks:=zs) hh pl.isList (fun k v hv=>?_) (fun i v hi=>?_) ?_ ?_ fun h1 tk1 L=>Calls.spliced_nil ?_
  ·obtain⟨t,rfl⟩:=Value.isStrOf_shape hv
   rfl
  ·have hi':i<zs.length:=by
    rw[il]
    have:=(CP.mp hi).1
    simpa using this
   obtain⟨u,hu,⟨t,rt⟩⟩:=rv.get (i:=i) (x:=.str zs[i]) (by rw[cQ,cI hi'];rfl)
   have:v = .str zs[i] t:=by
    have h1:its[i]? = some v:=by simpa using hi
    rw[hu,rt] at h1
    exact (Option.some.inj h1).symm
   subst this
   exact⟨_,cI hi',strKind_is _ _ _ _,rfl⟩
  ·simpa using il
  ·rw[Cb,← il]
   unfold scanBound
   omega
  ·have J1:zJ X pins σ H1 { s1 with heap:=h1,toks:=tk1 }:=I1.kept fun b o e=>L.keep b o (cD e) e
   obtain⟨⟨es,⟨⟨o,ep,t,og,ex,od,ft,_⟩,_⟩,K1⟩,_⟩:=L
   have n1:es.size≤zs.length:=K1.len
   refine PySem.call_len_set (s:={ s1 with heap:=h1,toks:=tk1 }) og ex od ft (by omega) ⟨.int es.size,H1,J1.tok _,⟨_,rfl⟩,q _ n1 ?_⟩
   have:=xF K1.nd K1.mem
   rw[cw,CB] at this
   exact this
end
open PySem.W
section
variable {X:Cx} {pins:List (Addr × Obj)} {σ:St} {H:Hp} {s:Shared} {a:Addr}
theorem zJ.adoptO {o:HO} (I:zJ X pins σ H s) (f:yq X pins H a) (new:yc X.prog X.w (upd H a o) s.heap a o):zJ X pins σ (upd H a o) s:=by
 have ne:∀ b o,H b=some o→b≠a:=fun b o q=>zA q f.1
 refine⟨I.ok,I.os,I.bare,⟨I.base.keep,I.base.slot,fun b o q n hx=>?_,I.base.there,fun b ys q=>?_,fun b o u q=>?_,fun b ps q=>?_⟩,I.loc,I.cell,?_,fun x c q=>?_,fun p hp=>?_,fun b o q=>?_,I.len⟩
 ·have nb:b≠a:=fun z=>by
   subst z
   rcases f.2.2.2.1 with z | z
   ·exact hx z
   ·rw[z] at q;cases q
  rw[zm nb]
  exact I.base.free b o q n hx
 ·have z:=I.base.tups b ys q
  rw[zm (ne _ _ z)];exact z
 ·have z:=I.base.frzs b o u q
  rw[zm (ne _ _ z)];exact z
 ·obtain⟨m,z⟩:=I.base.tbls b ps q
  exact⟨m,by rw[zm (ne _ _ z)];exact z⟩
 ·rw[zm (Ne.symm f.2.1)];exact I.free
 ·rw[zm (f.2.2.2.2.1 x c q)];exact I.freeC x c q
 ·obtain⟨p1,p2,p3,p4,p5⟩:=I.pin p hp
  exact⟨p1,by rw[zm (f.2.2.2.2.2 p hp)];exact p2,p3,p4,p5⟩
 ·by_cases nb:b=a
  ·subst nb
   rw[zj] at q
   cases q
   exact new
  ·rw[zm nb] at q
   refine (I.hok b o q).stay (fun c u _ z=>z) (fun c z=>?_) fun c ys z=>?_
   ·rw[zm (ne _ _ z)];exact z
   ·rw[zm (ne _ _ z)];exact z
end
theorem Jh {α β:Type} {F:α→β→Prop} {l:List α} {m:List β} (h:Paired F l m) {j:Nat} {b:β} (e:m[j]? = some b):∃ a,l[j]? = some a∧F a b:=by
 induction h generalizing j with
 | nil=>cases e
 | cons r _ ih =>
  cases j with
  | zero =>
   cases e
   exact⟨_,rfl,r⟩
  | succ j=>exact ih e
theorem gb {P:Program} {w:World} {k:yY} {v:Value} (h:(yk P w).is k v=true):qx (kV k) v:=by
 rcases qY h with ⟨i,t,rfl,rfl⟩ | ⟨x,t,rfl,rfl⟩
 ·exact⟨t,rfl⟩
 ·exact⟨t,rfl⟩
section
variable {X:Cx}
end
end L2
namespace Pg
open PySem L2
noncomputable def YJ (c:Nat):Bool:=decide (97≤c)&&decide (c≤122)
theorem wu:("abcdefghijklmnopqrstuvwxyz":Str).cps.toList=List.range' 97 26:=by decide +kernel
theorem mM {c:Nat}:c∈List.range' 97 26↔YJ c=true:=by
 rw[List.mem_range'_1]
 unfold YJ
 rw[cz,decide_eq_true_iff,decide_eq_true_iff]
 omega
theorem Y6 (c:Nat):(!(Builtin.Str.occurrences ("abcdefghijklmnopqrstuvwxyz":Str) ⟨#[c]⟩ 0 ("abcdefghijklmnopqrstuvwxyz":Str).length 1).isEmpty)=YJ c:=by
 rw[Xo,wu,dc,CK,mM]
structure Vw (z:Str):Prop where
 lo:1≤z.length
 hi:z.length≤8
 all:z.cps.toList.all YJ=true
noncomputable def gi:Sp:=fun vs H Q _=>∃ z,vs=[.str z,.str "abcdefghijklmnopqrstuvwxyz"]∧Vw z∧∀ H',zq H H'→Q (.bl true) H'
noncomputable def XB:Sp:=fun vs H Q _=>∃ z,vs=[.str z]∧Vw z∧∀ H',zq H H'→Q (.bl true) H'
noncomputable def cM (p:Int × Str × Int):List V:=[.int p.1,.str p.2.1,.int p.2.2]
theorem gx (cs:List Nat) (acc:Array Nat):((cs.map fun c=>(⟨#[c]⟩:Str)).foldl (fun acc p=>acc++("":Str).cps++p.cps) acc).toList=acc.toList++cs:=by
 induction cs generalizing acc with
 | nil=>simp
 | cons c r ih =>
  rw[CA,d6,ih]
  have:("":Str).cps = #[]:=by decide +kernel
  rw[this]
  simp
theorem WC (cs:List Nat):(Txt.join ("":Str) (cs.map fun c=>(⟨#[c]⟩:Str))).cps.toList=cs:=by
 unfold Txt.join Builtin.Str.glued
 cases cs with
 | nil=>rfl
 | cons c r =>
  show (((r.map fun c=>(⟨#[c]⟩:Str)).foldl (fun acc p=>acc++("":Str).cps++p.cps) #[c])).toList=c::r
  rw[gx]
  rfl
theorem UV:("abcdefghijklmnopqrstuvwxyz":Str).length≤sizeLine:=ZH (m:=26) (by decide +kernel) rfl
noncomputable def vL (z:Str):Bool:=decide (1≤z.length)&&decide (z.length≤8)&&z.cps.toList.all YJ
theorem UC {z:Str} (h:vL z=true):Vw z:=by
 unfold vL at h
 rw[cz,cz] at h
 exact⟨of_decide_eq_true h.1.1,of_decide_eq_true h.1.2,h.2⟩
end Pg
namespace DL
open PySem PySem.Spec PyProof.Rows
section
variable {prog:Program} {w:World} {A:Around} {E:Value→Shared→Prop} {s:Shared}
variable {K:Type} [DecidableEq K] {knd:KeyKind prog w K}
end
end DL
namespace L2
open PySem PySem.Spec PyProof.Rows
section
variable {X:Cx}
end
section
variable {X:Cx}
end
end L2
namespace Pg
open PySem L2
section
variable {C:Addr} {S S':List Addr} {H H' H1:Hp}
end
structure Rq where
 L:Addr
 dx:Addr
 t:Addr
 m:Addr
 o:Addr
 pd:Addr
 ml:Addr
 hl:Addr
 tl:Addr
 nl:Addr
 L2:Addr
 dx2:Addr
 t2:Addr
 m2:Addr
 nms:List Str
noncomputable def Rq.us (A:Rq):List Addr:=[A.hl,A.tl,A.ml,A.pd,A.o,A.m2,A.t2,A.L2,A.m,A.t,A.L,A.nl]
noncomputable def Rq.S (A:Rq):List Addr:=[A.L,A.t,A.m,A.o,A.pd,A.ml,A.hl,A.tl]
section
variable {C:Addr} {S:List Addr} {H H':Hp} {A:Rq} {Ry told':List (Str × Int)} {n n':Nat}
end
end Pg
namespace L2
open PySem PySem.Spec PyProof.Rows
section
variable {X:Cx} {pins:List (Addr × Obj)} {σ:St} {H:Hp} {s:Shared}
theorem zJ.turnedS {t':Nat} {h':Heap} {fp:List Addr} (I:zJ X pins σ H s) (k:∀ b o,¬ b∈fp→s.heap.get? b=some o→h'.get? b=some o) (hf:∀ b∈fp,yq X pins H b):zJ X pins σ H { s with heap:=h',toks:=t' }:=by
 have nit:∀ b u,H b=some u→¬ b∈fp:=fun b u e z=>by rw[(hf b z).1] at e;cases e
 refine I.step (g':=s.gens) (d':=s.drawn) (ch:=fp) (fun b hb=>?_) (fun b o _ _ hc e _=>k b o hc e) (fun b o _ _ hc e _=>⟨o.slots,k b o hc e⟩) (fun _ _ _ _ n=>n)
  (fun b o hc e=>⟨o,k b o hc e⟩) (fun _ _ e=>e) (fun _ _ _ e=>e) (fun b ps e=>⟨#[],by rw[e];simp⟩) (fun m hm=>?_) (fun b u e=>?_) I.bare
 ·obtain⟨_,h2,_,h4,h5,h6⟩:=hf b hb
  exact⟨h4,h2,h5,h6⟩
 ·obtain⟨o,es,ep,ho,r⟩:=hm
  exact⟨o,es,ep,k _ o (fun z=>(hf _ z).2.1 rfl) ho,r⟩
 ·refine (I.hok b u e).stay (fun c v hc q=>k c v ?_ q) (fun _ q=>q) fun _ _ q=>q
  rcases hc with z | z
  ·rw[z];exact nit b u e
  ·exact nit c _ z
theorem zJ.pair {h':Heap} {t':Nat} {v w:V} {x y:Value} (I:zJ X pins σ H s) (J:zJ X pins σ H { s with heap:=h',toks:=t' }) (hv:qx v x) (hw:qx w y) (hp:IsPair h' s.heap.objs.size x y) :
  zJ X pins σ (upd H s.heap.objs.size (.tup [v,w])) { s with heap:=h',toks:=t' } :=
 J.adoptO (o:=.tup [v,w]) (I.fpOk (cx _) (I.hok.fresh (cx _))) ⟨qa rfl,[x,y],.cons hv (.cons hw .nil),_,hp,rfl,_,rfl⟩
end
noncomputable def bX (K:BFr) (a b:Addr):It :=
 ⟨fun i H=>∃ xs ys x y,zZ K H a xs∧zZ K H b ys∧xs[i]? = some x∧ys[i]? = some y,
  fun i H z H'=>∃ p x y,z = .ref p∧H p=none∧H'=upd H p (.tup [x,y])∧∀ xs ys,zZ K H a xs→zZ K H b ys→xs[i]? = some x∧ys[i]? = some y,
  fun i H=>∃ xs ys,zZ K H a xs∧zZ K H b ys∧(xs.length≤i∨ys.length≤i)⟩
theorem pL {P:Program} {w:World} {K:BFr} {es:List Expr} {n:Nat} {pos:Pos} {z TI TO i1 i2 a b:Addr} (D:ZipApart z TI TO i1 i2 a b) :
  VL P w K (.Tuple es n pos) (bX K a b) [z,TI,TO,i1,i2] z (fun i h=>IsZip h z TI TO .none∧IsPair h TI (.ref i1) (.ref i2)∧(∃ u v,IsPair h TO u v)∧h.IsListIter i1 a i∧h.IsListIter i2 b i) where
 mem:=by simp
 obj:=fun i h st c hc=>by
  obtain⟨h1,h2,⟨u,v,h3⟩,h4,h5⟩:=st
  simp only[cy,cA,or_false] at hc
  rcases hc with rfl | rfl | rfl | rfl | rfl
  ·exact⟨_,h1,fun v q=>nomatch q⟩
  ·exact⟨_,h2,fun v q=>nomatch q⟩
  ·exact⟨_,h3,fun v q=>nomatch q⟩
  ·obtain⟨o,e,c,d⟩:=h4
   exact⟨o,e,fun v q=>by rw[d] at q;cases q⟩
  ·obtain⟨o,e,c,d⟩:=h5
   exact⟨o,e,fun v q=>by rw[d] at q;cases q⟩
 keep:=fun i h h' st k=>by
  obtain⟨h1,h2,⟨u,v,h3⟩,h4,h5⟩:=st
  exact⟨k z (by simp) _ h1,k TI (by simp) _ h2,⟨u,v,k TO (by simp) _ h3⟩,h4.at fun o e=>k i1 (by simp) o e,h5.at fun o e=>k i2 (by simp) o e⟩
 item:=by
  intro X hP hw hK hc i pins s σ H E I hf st hg
  subst hP hw hK
  obtain⟨h1,h2,⟨u,v,h3⟩,h4,h5⟩:=st
  obtain⟨xs,ys,x,y,q1,q2,hx,hy⟩:=hg
  obtain⟨its,rv,p,hz⟩:=I.list q1
  obtain⟨jts,rw',p',hz'⟩:=I.list q2
  obtain⟨x',hx',rx⟩:=rv.get hx
  obtain⟨y',hy',ry⟩:=rw'.get hy
  have lt:∀ c∈[z,TI,TO,i1,i2],c<s.heap.objs.size:=fun c hc=>by
   obtain⟨o4,e4,_⟩:=h4
   obtain⟨o5,e5,_⟩:=h5
   simp only[cy,cA,or_false] at hc
   rcases hc with rfl | rfl | rfl | rfl | rfl
   ·exact cD h1
   ·exact cD h2
   ·exact cD h3
   ·exact cD e4
   ·exact cD e5
  refine wpAny_pyNext_zip_item D h1 h2 h3 h4 h5 p.isList p'.isList (x:=x') (y:=y') (by simpa using hx') (by simpa using hy') fun h' k1 k2 k3 k4 k5 k6 k7=>?_
  refine⟨_,rfl,wpAny_letOwnedTupleGo_zip k1 fun h2' m1 sb=>?_⟩
  have sb:Heap.SameBut z h' h2':=sb
  have kk:∀ c o,¬ c∈[z,TI,TO,i1,i2]→s.heap.get? c=some o→h2'.get? c=some o:=fun c o hc e=>by
   simp only[cy,cA,or_false,not_or] at hc
   exact sb.extBut _ _ hc.1 (k7 c o hc.1 hc.2.2.1 hc.2.2.2.1 hc.2.2.2.2 e)
  have nz:s.heap.objs.size≠z:=dZ (lt z (by simp))
  have J:zJ X pins σ H { s with heap:=h2',toks:=s.toks }:=I.turnedS kk hf
  refine⟨.ref s.heap.objs.size,_,I.pair J rx ry (sb.extBut _ _ nz k5),rfl,⟨_,x,y,rfl,I.hok.fresh (cx _),rfl,fun xs' ys' r1 r2=>?_⟩,⟨m1,?_,⟨_,_,sb.extBut _ _ D.TOz k2⟩,k3.extBut sb.extBut D.i1z,k4.extBut sb.extBut D.i2z⟩,fun c hc=>?_⟩
  ·rw[I.list_inj r1 q1,I.list_inj r2 q2]
   exact⟨hx,hy⟩
  ·exact sb.extBut _ _ D.TIz (k7 _ _ D.TIz D.TITO D.TIi1 D.TIi2 h2)
  ·rw[zm (Cc (lt c hc))]
   exact (hf c hc).1
 done:=by
  intro X hP hw hK hc i pins s σ H E I hf st hg
  subst hP hw hK
  obtain⟨h1,h2,⟨u,v,h3⟩,h4,h5⟩:=st
  obtain⟨xs,ys,q1,q2,hl⟩:=hg
  obtain⟨its,rv,p,hz⟩:=I.list q1
  obtain⟨jts,rw',p',hz'⟩:=I.list q2
  have l1:=rv.length
  have l2:=rw'.length
  refine wpAny_pyNext_zip_end (I.ok.hd hc) D h1 h2 h3 h4 h5 p.isList p'.isList ?_ fun h' k=>⟨rfl,I.turnedS (t':=s.toks) (fun c o hc e=>?_) hf⟩
  ·rcases hl with hl | hl
   ·exact .inl (by simp;omega)
   ·exact .inr (by simp;omega)
  ·simp only[cy,cA,or_false,not_or] at hc
   exact k c o hc.1 hc.2.2.1 hc.2.2.2.1 hc.2.2.2.2 e
 self:=fun _ _ _ _ _ st h=>wpAny_pyIter_zip st.1 h
noncomputable def Nm (K:BFr) (ta:TA):TI:=fun σ H R=>ta σ H fun vs H1=>∃ a b,vs=[.ref a,.ref b]∧(∃ xs,zZ K H1 a xs)∧(∃ ys,zZ K H1 b ys)∧R (bX K a b) H1
section
variable {X:Cx} {es:List Expr} {n:Nat} {tpos:Pos}
theorem pF {a b:Expr} {ta:TA} {p pos:Pos} (hg:Gl X "zip") (hm:X.mg "zip" = none) (ha:PA X [a,b] ta) (hs:starEach [a,b] X.env=[(false,eval a X.env),(false,eval b X.env)]:=by rfl) (hs2:starEach [b] X.env=[(false,eval b X.env)]:=by rfl) :
  PI X (.Tuple es n tpos) (.Call (.Name "zip" p) [a,b] [] pos) (Nm X.K ta):=by
 intro pins s σ H R I h
 refine Call_ (wD I hg hm boot_zip (PyProof.Rows.callWith_type1 (q0 (ha pos pins s σ H _ I h) fun us s1 ⟨vs,H1,I1,r1,q1⟩=>?_) (by rw[hs,hs2]) (by rw[hs2];rfl)))
 obtain⟨l1,l2,e,⟨xs,h1⟩,⟨ys,h2⟩,q⟩:=q1
 subst e
 cases r1 with
 | cons r rr =>
  cases rr with
  | cons r' rr =>
   cases rr
   cases r
   cases r'
   obtain⟨its,rv,p,hz⟩:=I1.list h1
   obtain⟨jts,rw',p',hz'⟩:=I1.list h2
   have a1:l1<s1.heap.objs.size:=by obtain⟨_,e,_⟩:=p.isList;exact cD e
   have a2:l2<s1.heap.objs.size:=by obtain⟨_,e,_⟩:=p'.isList;exact cD e
   refine call_zip_2 p.isList p'.isList fun h' k1 k2 k3 k4 k5 k6 k7=>?_
   refine wpAny_pyIter_zip k1 ?_
   refine⟨_,_,_,_,H1,rfl,I1.kept (t':=s1.toks) k7,pL (zipApart_new a1 a2),⟨k1,k2,⟨_,_,k3⟩,k4,k5⟩,fun c hc=>?_,q⟩
   have hc:s1.heap.objs.size≤c:=by
    simp only[cy,cA,or_false] at hc
    rcases hc with rfl | rfl | rfl | rfl | rfl
    ·exact dO _ _
    ·exact dO _ _
    ·exact dO _ _
    ·exact cx _
    ·exact dO _ _
   exact I1.fpOk hc (I1.hok.fresh hc)
end
open PySem.W
end L2
namespace DT
open PySem PySem.Spec PyProof.Rows
section
variable {prog:Program} {w:World} {A:Around} {E:Value→Shared→Prop} {s:Shared}
variable {K:Type} [DecidableEq K] {knd:KeyKind prog w K}
end
end DT
namespace L2
open PySem PySem.Spec PyProof.Rows
section
variable {X:Cx}
end
section
variable {X:Cx} {a b:Expr} {rest:List Expr} {ta tb:TE} {pos:Pos}
end
noncomputable def NI (K:BFr):R2:=fun x y H Q=>∃ a b xs,x = .ref a∧y = .ref b∧zZ K H a xs∧zZ K H b []∧(xs=[]→Q (.bl false) H)∧(xs≠[]→Q (.bl true) H)
theorem O4 {X:Cx} (hu:X.A.units<cLine):wk X (compareOp .NotEq) (NI X.K):=by
 intro pins s σ H x y v u Q I rx ry h
 obtain⟨a,b,xs,rfl,rfl,h1,h2,q1,q2⟩:=h
 cases rx
 cases ry
 obtain⟨us,r1,p1,_⟩:=I.list h1
 obtain⟨ws,r2,p2,_⟩:=I.list h2
 have l1:=r1.length
 have l2:=r2.length
 rw[dJ] at l2
 by_cases hl:xs=[]
 ·subst hl
  rw[dJ] at l1
  refine SeqAt.RcNeAt.lists p1.isList p2.isList (by simp;omega) hu (e:=fun _=>true) (fun j h1 h2=>?_) _ _ _ _ ⟨.bl false,H,I,?_,q1 rfl⟩
  ·simp at h1
   omega
  ·have:us=[]:=dP.mp l1.symm
   subst this
   rfl
 ·have:0<xs.length:=List.length_pos_iff.mpr hl
  exact SeqAt.RcNeAt.lists_lengths p1.isList p2.isList (by simp;omega) hu _ _ _ _ ⟨.bl true,H,I,rfl,q2 hl⟩
open Builtin Builtin.Str
section
variable {prog:Program} {w:World} {A:Around} {E:Value→Shared→Prop} {s:Shared} {J l:Addr} {items:Array Value}
end
section
variable {X:Cx} {a:Expr} {ta:TA} {p1 p2 p3 apos cpos:Pos} {sep:Str} {kn:Nat}
end
end L2
namespace L2
open PySem PySem.Spec PyProof.Rows
section
variable {X:Cx}
theorem Y2 (hc:X.calm=true):va X (.builtin "max") (fun xs H Q=>∃ (a:Addr) (ns:List Int) (m:Int),xs=[.ref a]∧zZ X.K H a (ns.map V.int)∧m∈ns∧(∀ x∈ns,x≤m)∧Q (.int m) H):=by
 intro pins s σ H xs us Q I r h
 obtain⟨a,ns,m,rfl,hS,hm,hx,q⟩:=h
 obtain⟨u,rfl,ru⟩:=ux r
 cases ru
 obtain⟨its,rv,pl,hz⟩:=I.list hS
 have hl:its.length=ns.length:=by rw[← rv.length,cw]
 have hn:0<ns.length:=DE hm
 have hlt':a<s.heap.objs.size:=by obtain⟨o,e,_⟩:=pl.isList;exact cD e
 have hlt:a≠s.heap.objs.size:=Cc hlt'
 refine call_max_walk (wpAny_pyIter_list pl.isList ?_)
 refine⟨s.heap.objs.size,_,_,_,_,_,fun i j=>decide (ns.getD i 0 > ns.getD j 0),rfl,Walks.list (A:=X.A.in1) (I.ok.hd hc) _ a hlt its.toArray,⟨⟨_,Co _ rfl,rfl,rfl⟩,pl.isList.push _⟩,fun b hb=>?_,by rw[Cb];omega,fun i j vi vj s' Q' E' h1 h2 h3=>?_,fun v h' tk hv hk=>?_⟩
 ·show b<(s.heap.push _).objs.size
  rw[dD]
  rcases cy.mp hb with rfl | hb
  ·exact dF _
  ·rw[Cq.mp hb]
   exact Dd hlt'
 ·obtain⟨t1,rfl⟩:=Vq rv h1
  obtain⟨t2,rfl⟩:=Vq rv h2
  exact gt_int h3
 ·obtain⟨t,rfl⟩:=Vq rv hv
  obtain⟨b1,b2⟩:=argBest_gt (fun i=>ns.getD i 0) (its.toArray.size - 1)
  rw[Cb] at b1 b2
  have hi:argBest (fun i j=>decide (ns.getD i 0 > ns.getD j 0)) (its.length - 1)<ns.length:=by omega
  have e:ns.getD (argBest (fun i j=>decide (ns.getD i 0 > ns.getD j 0)) (its.length - 1)) 0=m:=by
   refine Int.le_antisymm (hx _ ?_) ?_
   ·rw[CQ,cI hi]
    exact d8 hi
   ·obtain⟨j,hj,rfl⟩:=List.getElem_of_mem hm
    have:=b2 j (by omega)
    rw[CQ,cI hj] at this
    exact this
  refine⟨.int m,H,I.walked hk,⟨t,?_⟩,q⟩
  rw[← e,Cb]
end
theorem PU {σ:St} {H:Hp} {A B:Hp→Prop} (h:A H):qv σ H fun b H2=>if b=true then A H2 else B H2:=by
 show if true=true then A H else B H
 exact qV h
structure q9 {α:Type} (H:Hp) (ys:List V) (xs:List α) (P:Hp→V→α→Prop):Prop where
 len:ys.length=xs.length
 at_:∀ (i:Nat) (y:V),ys[i]? = some y→∃ x,xs[i]? = some x∧∀ H',zq H H'→P H' y x
section
variable {J:It} {D:Addr} {te:TE} {fin:List V→Hp→Prop} {σ:St} {H:Hp} {ys:List V} {α:Type} {xs:List α} {P:Hp→V→α→Prop}
theorem jI (W:Zq J H ys) (T:q9 H ys xs P) (hD:H D=none) (hz:xs.length<sizeLine) (φ:α→V) (he:∀ x∈xs,∀ v H' R,zq H H'→P H' v x→(∀ H'',zq H' H''→R (φ x) H'')→te (σ.set 0 (some v)) H' R) (hf:∀ H',zq H H'→H' D=some (.lst (xs.map φ))→fin (xs.map φ) H'):ja J D (z6 0) qv te fin σ (upd H D (.lst [])):=by
 refine jA W hD (fun i zs H'=>zs=(xs.take i).map φ) (fun σ'=>∀ x,σ'.set 0 (some x) = σ.set 0 (some x)) (fun _=>rfl) rfl ?_ ?_
 ·rintro i y zs σ' H' hy hσ s hd hl rfl
  obtain⟨x,hx,hP⟩:=T.at_ i y hy
  have tk:xs.take (i+1)=xs.take i++[x]:=by rw[CM,hx];rfl
  have hi:i<xs.length:=(cW.mp hx).1
  have hσ2:∀ z,(σ'.set 0 (some y)).set 0 (some z) = σ.set 0 (some z):=fun z=>by rw[dn];exact hσ z
  unfold kb z6
  dsimp only
  refine PU ?_
  rw[hσ y] at hσ2 ⊢
  refine he x (CC hx) y _ _ s (hP _ s) fun H3 s3=>⟨s3 _ _ hd,by omega,hσ2,fun b o z=>?_,zj,?_,?_⟩
  ·rw[zm (zA z hD)]
   exact s3 _ _ (s _ _ z)
  ·rw[cG,Cp];omega
  ·rw[tk,Ce];rfl
 ·rintro zs H' s hd hl rfl
  rw[T.len,CN] at hd ⊢
  exact hf H' s hd
theorem pE {tt:TT} (W:Zq J H ys) (T:q9 H ys xs P) (hD:H D=none) (hz:xs.length<sizeLine) (p:α→Bool) (φ:α→V) (ht:∀ x∈xs,∀ v H' R,zq H H'→P H' v x→(∀ H'',zq H' H''→R (p x) H'')→tt (σ.set 0 (some v)) H' R) (he:∀ x∈xs,∀ v H' R,zq H H'→P H' v x→(∀ H'',zq H' H''→R (φ x) H'')→te (σ.set 0 (some v)) H' R) (hf:∀ H',zq H H'→H' D=some (.lst ((xs.filter p).map φ))→fin ((xs.filter p).map φ) H'):ja J D (z6 0) tt te fin σ (upd H D (.lst [])):=by
 refine jA W hD (fun i zs H'=>zs=((xs.take i).filter p).map φ) (fun σ'=>∀ x,σ'.set 0 (some x) = σ.set 0 (some x)) (fun _=>rfl) rfl ?_ ?_
 ·rintro i y zs σ' H' hy hσ s hd hl rfl
  obtain⟨x,hx,hP⟩:=T.at_ i y hy
  have tk:xs.take (i+1)=xs.take i++[x]:=by rw[CM,hx];rfl
  have hi:i<xs.length:=(cW.mp hx).1
  have hm:=CC hx
  have hσ2:∀ z,(σ'.set 0 (some y)).set 0 (some z) = σ.set 0 (some z):=fun z=>by rw[dn];exact hσ z
  unfold kb z6
  dsimp only
  rw[hσ y] at hσ2 ⊢
  refine ht x hm y _ _ s (hP _ s) fun H2 s2=>?_
  cases q:p x with
  | true =>
   refine qV (he x hm y _ _ (s.trans s2) (hP _ (s.trans s2)) fun H3 s3=>⟨s3 _ _ (s2 _ _ hd),by omega,hσ2,fun b o z=>?_,zj,?_,?_⟩)
   ·rw[zm (zA z hD)]
    exact s3 _ _ (s2 _ _ (s _ _ z))
   ·rw[cG,Cp];omega
   ·rw[tk,Da,Ce];simp[q]
  | false =>
   refine qD ⟨hσ2,s.trans s2,s2 _ _ hd,by omega,?_⟩
   rw[tk,Da,Ce];simp[q]
 ·rintro zs H' s hd hl rfl
  rw[T.len,CN] at hd ⊢
  exact hf H' s hd
theorem vT (W:Zq J H ys) (hl:ys.length=xs.length) (hD:H D=none) (hz:xs.length<sizeLine) (S:V→α→Prop) (he:∀ (i:Nat) x v,xs[i]? = some x→ys[i]? = some v→∀ H' R,zq H H'→(∀ u H'',S u x→zq H' H''→R u H'')→te (σ.set 0 (some v)) H' R) (hf:∀ zs H',zq H H'→zs.length=xs.length→(∀ (i:Nat) u,zs[i]? = some u→∃ x,xs[i]? = some x∧S u x)→H' D=some (.lst zs)→fin zs H'):ja J D (z6 0) qv te fin σ (upd H D (.lst [])):=by
 refine jA W hD (fun i zs H'=>zs.length=i∧∀ (j:Nat) u,zs[j]? = some u→∃ x,xs[j]? = some x∧S u x) (fun σ'=>∀ x,σ'.set 0 (some x) = σ.set 0 (some x)) (fun _=>rfl) ⟨rfl,fun j u e=>by cases e⟩ ?_ ?_
 ·rintro i y zs σ' H' hy hσ s hd hl' ⟨g1,g2⟩
  have hi:i<xs.length:=by rw[← hl];exact (cW.mp hy).1
  have hx:=cI hi
  have hσ2:∀ z,(σ'.set 0 (some y)).set 0 (some z) = σ.set 0 (some z):=fun z=>by rw[dn];exact hσ z
  unfold kb z6
  dsimp only
  refine PU ?_
  rw[hσ y] at hσ2 ⊢
  refine he i _ y hx hy _ _ s fun u H3 hu s3=>⟨s3 _ _ hd,by omega,hσ2,fun b o z=>?_,zj,?_,?_,fun j w e=>?_⟩
  ·rw[zm (zA z hD)]
   exact s3 _ _ (s _ _ z)
  ·rw[cG,Cp];omega
  ·rw[cG,Cp,g1]
  ·by_cases hj:j<zs.length
   ·rw[CY hj] at e
    exact g2 j w e
   ·rw[CH (de hj)] at e
    cases q:j - zs.length with
    | zero =>
     rw[q] at e
     cases e
     have:j=i:=by omega
     subst this
     exact⟨_,hx,hu⟩
    | succ n =>
     rw[q] at e
     cases e
 ·rintro zs H' s hd _ ⟨g1,g2⟩
  exact hf zs H' s (g1.trans hl) g2 hd
end
section
variable {X:Cx} {elt iter tgt:Expr} {ifs:List Expr} {scope:Scope} {cl:List (Str × Addr)} {Nc:List Str} {src:List (Option Nat)} {g:TG} {tt:TT} {te:TE} {x0:Str}
end
end L2
namespace Pg
open PySem L2
section
variable {H H':Hp} {ys:List V} {tab:List (List Str)}
end
section
variable {tab:List (List Str)} {n:Nat}
end
theorem xb (sep:Str) (m:Nat):∀ (zs:List Str) (acc:Nat),(∀ z∈zs,z.length≤m)→zs.foldl (fun a z=>a+z.length+sep.length) acc≤acc+zs.length*(m+sep.length):=by
 intro zs
 induction zs with
 | nil=>intro acc _;simp
 | cons z r ih =>
  intro acc h
  rw[d6]
  have h1:=ih (acc+z.length+sep.length) fun z hz=>h z (cP _ hz)
  have h2:=h z cX
  rw[Cr,Nat.succ_mul]
  omega
theorem pG {sep:Str} {m:Nat} (hs:sep.length≤2):∀ (k:Nat) (zs:List Str),zs.length=k→(∀ z∈zs,z.length≤m)→(Txt.join sep zs).length≤k*(m+2):=by
 intro k
 induction k with
 | zero =>
  intro zs e _
  rw[dP.mp e]
  exact Cy _
 | succ k ih =>
  intro zs e h
  rcases List.eq_nil_or_concat zs with rfl | ⟨r,z,rfl⟩
  ·cases e
  ·rw[List.concat_eq_append] at e h ⊢
   have er:r.length=k:=by rw[cG,Cp] at e;omega
   have hz:=h z (Cz _ cX)
   have hr:=ih r er fun z hz=>h z (CF _ hz)
   rw[Nat.succ_mul]
   by_cases c:r=[]
   ·subst c
    rw[List.nil_append,UD]
    omega
   ·rw[j8 _ _ c,js,js]
    omega
theorem yz {sep:Str} {zs:List Str} {m k:Nat} (h:∀ z∈zs,z.length≤m) (hk:zs.length≤k) (hs:sep.length≤2) (hz:Nat.ble (k*(m+2)) 1000000=true):JoinOk sep zs=true∧(Txt.join sep zs).length≤k*(m+2):=by
 have h1:=xb sep m zs 0 h
 have h2:zs.length*(m+sep.length)≤k*(m+2):=Nat.mul_le_mul hk (dh hs _)
 have h3:=Cf hz
 constructor
 ·unfold JoinOk Builtin.Str.tooLong
  rw[List.foldl_toArray,dU,decide_eq_false_iff_not,sizeLine_eq]
  omega
 ·exact cJ (pG hs _ zs rfl h) (Nat.mul_le_mul_right _ hk)
theorem YT {H:Hp} (n:Nat):q9 H ((List.range n).map fun k=>V.int (0+(k:Nat))) (List.range n) (fun _ v k=>v = .int (k:Nat)) :=
 ⟨cw _,fun i y h=>by
  rw[cQ] at h
  obtain⟨z,h1,rfl⟩:=Cd.mp h
  exact⟨z,h1,fun _ _=>by rw[dm]⟩⟩
end Pg
set_option maxHeartbeats 4000000
namespace K11
open PySem PySem.NumText L2 Pg
seal PE PA PT PW PS yW PG vq PI j7 PO PK
section
variable {P:Program} {w:World} {K:BFr} {mg:Str→Option Value} {base:Heap} {f:Addr} {fd:FuncData} {d:Nat→Addr} {cR:Addr}
end
end K11
namespace Pg
open PySem L2
section
variable {K:BFr} {ea C:Addr} {σ:St}
end
end Pg
namespace L2
open PySem PySem.Spec PyProof.Rows
section
variable {X:Cx} {pins:List (Addr × Obj)} {σ:St} {H:Hp} {s:Shared} {d:Addr} {kvs:List (yY × V)}
theorem zJ.freeze (I:zJ X pins σ H s) (hd:H d=some (.dK kvs)):∃ o,zJ X pins σ (upd H d (.frz o (.dK kvs))) s:=by
 have ok:=I.hok d _ hd
 obtain⟨_,_,vs,rel,o,es,ep,ho,r⟩:=id ok
 have ne:∀ b (u:HO),H b=some u→(∀ k,u≠.dK k)→b≠d:=fun b u q n e=>by
  subst e
  rw[hd] at q
  exact n _ (Option.some.inj q).symm
 have nn:∀ b,H b=none→b≠d:=fun b q e=>by rw[e,hd] at q;cases q
 refine⟨o,I.ok,I.os,I.bare,⟨I.base.keep,I.base.slot,fun b u q n hx=>?_,I.base.there,fun b ys q=>?_,fun b u v q=>?_,fun b ps q=>?_⟩,I.loc,I.cell,?_,fun x c q=>?_,fun p hp=>?_,fun b u q=>?_,I.len⟩
 ·have z:=I.base.free b u q n hx
  rw[zm (nn b z)];exact z
 ·have z:=I.base.tups b ys q
  rw[zm (ne _ _ z fun _ e=>nomatch e)];exact z
 ·have z:=I.base.frzs b u v q
  rw[zm (ne _ _ z fun _ e=>nomatch e)];exact z
 ·obtain⟨m,z⟩:=I.base.tbls b ps q
  exact⟨m,by rw[zm (ne _ _ z fun _ e=>nomatch e)];exact z⟩
 ·rw[zm (nn _ I.free)];exact I.free
 ·have z:=I.freeC x c q
  rw[zm (nn _ z)];exact z
 ·obtain⟨p1,p2,p3,p4,p5⟩:=I.pin p hp
  exact⟨p1,by rw[zm (nn _ p2)];exact p2,p3,p4,p5⟩
 ·by_cases nb:b=d
  ·subst nb
   rw[zj] at q
   cases q
   exact⟨ho,ok⟩
  ·rw[zm nb] at q
   refine (I.hok b u q).stay (fun c u _ z=>z) (fun c z=>?_) fun c ys z=>?_
   ·rw[zm (ne _ _ z fun _ e=>nomatch e)];exact z
   ·rw[zm (ne _ _ z fun _ e=>nomatch e)];exact z
end
noncomputable def bW (d:Addr) (o:Obj) (kvs:List (yY × V)):It :=
 ⟨fun i H=>H d=some (.frz o (.dK kvs))∧i<kvs.length,fun i H x H'=>H'=H∧∃ p,kvs[i]? = some p∧x=kV p.1,fun i H=>H d=some (.frz o (.dK kvs))∧kvs.length≤i⟩
theorem xW {X:Cx} {pins:List (Addr × Obj)} {σ:St} {H:Hp} {s:Shared} {d:Addr} {o:Obj} {kvs:List (yY × V)} (I:zJ X pins σ H s) (hd:H d=some (.frz o (.dK kvs))) :
  (d==sysModules)=false∧∃ vs es ep,o.data = .dict es ep∧KV kvs vs∧s.heap.DictAt (yk X.prog X.w) d vs ep:=by
 obtain⟨h1,h2,h3,vs,rel,o',es,ep,h4,h5,h6,h7⟩:=I.hok d _ hd
 rw[h1] at h4
 cases h4
 exact⟨h3,vs,es,ep,h6,rel,o,es,h1,h5,h6,h7⟩
theorem G4 {P:Program} {w:World} {K:BFr} {tg:Expr} {d it:Addr} {o:Obj} {kvs:List (yY × V)} {es:Array DictEntry} {ep:Nat} (he:o.data = .dict es ep) :
  VL P w K tg (bW d o kvs) [it] it (fun i h=>h.IsKeyIter it d i kvs.length ep) where
 mem:=by simp
 obj:=fun i h st b hb=>by
  have e:b=it:=by simpa using hb
  subst e
  obtain⟨o,e,c,d⟩:=st
  exact⟨o,e,fun v z=>by rw[d] at z;cases z⟩
 keep:=fun i h h' st k=>st.at fun o e=>k it (by simp) o e
 item:=by
  intro X hP hw hK hc i pins s σ H E I hf st hg
  subst hP hw hK
  obtain⟨hd,hi⟩:=hg
  obtain⟨_,vs,es',ep',e1,rel,D⟩:=xW I hd
  rw[he] at e1
  cases e1
  have rl:kvs.length=vs.length:=Paired.length rel
  obtain⟨⟨k,v⟩,hx⟩:∃ q,vs[i]? = some q:=⟨_,cI (show i<vs.length by omega)⟩
  obtain⟨p,f1,f2,f3⟩:=Jh rel hx
  obtain⟨f0,f1',f2',f3',f4,f5⟩:=hf it (by simp)
  rw[rl] at st
  refine wpAny_pyNext_dict_item st D hx fun key h' hk st' sb=>?_
  have I1:zJ X pins σ H { s with heap:=h' }:=I.turned (t':=s.toks) (fun b o hb e=>(sb.2 b hb).trans e) f0 f1' f3' f4 f5
  have st2:=st'
  rw[← rl] at st2
  obtain⟨o',e,c,dd⟩:=id st'
  have g:=gb hk
  have f2:p.1=k:=f2
  rw[← f2] at g
  exact⟨key,rfl,UQ (s:={ s with heap:=h' }) e c dd (by decide) ⟨_,H,I1,g,⟨rfl,p,f1,rfl⟩,st2,fun b hb=>(hf b hb).1⟩⟩
 done:=by
  intro X hP hw hK hc i pins s σ H E I hf st hg
  subst hP hw hK
  obtain⟨hd,hi⟩:=hg
  obtain⟨_,vs,es',ep',e1,rel,D⟩:=xW I hd
  rw[he] at e1
  cases e1
  have rl:kvs.length=vs.length:=Paired.length rel
  obtain⟨f0,f1,f2,f3,f4,f5⟩:=hf it (by simp)
  rw[rl] at st
  exact wpAny_pyNext_dict_end (I.ok.hd hc) st D (dk (by omega)) fun h' eb=>⟨rfl,I.turned (t':=s.toks) (fun b o hb e=>eb b o hb e) f0 f1 f3 f4 f5⟩
 self:=fun _ _ _ _ _ st h=>wpAny_pyIter_keyiter st h
noncomputable def o6 (tl:TE):TI:=fun σ H R=>tl σ H fun x H1=>∃ d o kvs,x = .ref d∧H1 d=some (.frz o (.dK kvs))∧R (bW d o kvs) H1
theorem Xi {X:Cx} {tg l:Expr} {tl:TE} (hl:PE X l tl):PI X tg l (o6 tl):=by
 intro pins s σ H R I h
 refine q0 (hl pins s σ H _ I h) fun v s1 ⟨x,H1,I1,r1,q1⟩=>?_
 obtain⟨d,o,kvs,e,hd,q⟩:=q1
 subst e
 cases r1
 obtain⟨h0,vs,es,ep,e1,rel,D⟩:=xW I1 hd
 have rl:kvs.length=vs.length:=Paired.length rel
 refine wpAny_pyIter_dict h0 D ?_
 refine⟨s1.heap.objs.size,[s1.heap.objs.size],_,_,H1,rfl,I1.kept (t':=s1.toks) fun b o e=>Cg _ e,G4 e1,?_,fun b hb=>?_,q⟩
 ·rw[rl]
  exact⟨_,Co _ rfl,rfl,rfl⟩
 ·have e:b=s1.heap.objs.size:=by simpa using hb
  subst e
  exact I1.fpOk (cx _) (I1.hok.fresh (cx _))
theorem Y5 {H:Hp} {d:Addr} {o:Obj} {kvs:List (yY × V)} (hd:H d=some (.frz o (.dK kvs))):Zq (bW d o kvs) H (kvs.map fun p=>kV p.1):=by
 refine⟨fun i x H' e s=>?_,fun H' s=>⟨s _ _ hd,by rw[cw];exact cx _⟩⟩
 rw[cQ] at e
 obtain⟨p,hp,rfl⟩:=Cd.mp e
 exact⟨⟨s _ _ hd,(cW.mp hp).1⟩,fun y H'' ⟨e1,p',h1,h2⟩=>⟨e1,by rw[hp] at h1;cases h1;exact h2⟩⟩
section
variable {X:Cx}
noncomputable def tW:Value→Bool
 | .bool b=>b
 | _=>false
theorem pA {bs:List Bool} {its:List Value} (r:qf (bs.map V.bl) its):its=bs.map Value.bool:=by
 induction bs generalizing its with
 | nil=>cases r;rfl
 | cons b l ih =>
  cases r with
  | cons a c=>rw[CA,← ih c,show _=Value.bool b from a]
theorem pe {A:Around} {s:Shared} {bs:List Bool}:∀ y,y∈(bs.map Value.bool).toArray→SeqAt.EqAt A s y (.bool true) (tW y):=fun y hy=>by
 obtain⟨b,_,rfl⟩:=cH.mp (List.mem_toArray.mp hy)
 have:=SeqAt.EqAt.bool_bool (A:=A) (s:=s) b true
 rw[show (b==true)=b by cases b <;> rfl] at this
 exact this
theorem Os:Tx X "list.count" (fun x vs H Q=>∃ (l:Addr) (bs:List Bool),x = .ref l∧vs=[.bl true]∧H l=some (.lst (bs.map V.bl))∧Q (.int (bs.countP id:Nat)) H):=by
 intro pins s σ H x vs v us Q I rx rv h
 obtain⟨l,bs,rfl,rfl,hH,q⟩:=h
 cases rx
 obtain⟨u,rfl,ru⟩:=rv.one
 cases (show u=Value.bool true from ru)
 obtain⟨z,its,n,r,hl,e⟩:=I.lstM hH
 cases pA r
 refine call_meets F.slot_list_count ⟨_,e,rfl⟩ F.entry_list_count (F.args_list_count_2 _ _) (SeqAt.list_countAt l _ n none #[] (.bool true) tW) ⟨e,pe,?_⟩
 have ec:((bs.map Value.bool).toArray.toList).countP tW=bs.countP id:=by
  rw[List.toList_toArray,List.countP_map]
  rfl
 rw[ec]
 exact⟨.int _,H,I.tok _,⟨_,rfl⟩,q⟩
theorem oR:Tx X "list.index" (fun x vs H Q=>∃ (l:Addr) (bs:List Bool) (j:Nat),x = .ref l∧vs=[.bl true]∧H l=some (.lst (bs.map V.bl))∧bs[j]? = some true∧(∀ m,m<j→bs[m]? = some false)∧Q (.int (j:Nat)) H):=by
 intro pins s σ H x vs v us Q I rx rv h
 obtain⟨l,bs,j,rfl,rfl,hH,hj,hm,q⟩:=h
 cases rx
 obtain⟨u,rfl,ru⟩:=rv.one
 cases (show u=Value.bool true from ru)
 obtain⟨z,its,n,r,hl,e⟩:=I.lstM hH
 cases pA r
 have jl:=(cW.mp hj).1
 have l63:=kX
 rw[cw] at z
 refine call_meets F.slot_list_index ⟨_,e,rfl⟩ F.entry_list_index (F.args_list_index_2 _ _) (SeqAt.list_indexAt l _ n none #[] (.bool true) tW j (by simpa using jl) (by omega) ?_ ?_) ⟨e,pe,.int _,H,I.tok _,⟨_,rfl⟩,q⟩
 ·have:=(cW.mp hj).2
  simp only[List.getElem_toArray,List.getElem_map]
  rw[this]
  rfl
 ·intro m hm1 hm2
  have:=(cW.mp (hm m hm2)).2
  simp only[List.getElem_toArray,List.getElem_map]
  rw[this]
  rfl
end
inductive bh (a b c d:Prop):Prop where
 | mk (h1:a) (h2:b) (h3:c) (h4:d):bh a b c d
section
variable {J:It} {D:Addr} {tt:TT} {te:TE} {fin:List V→Hp→Prop} {σ:St} {H:Hp} {ys:List V} {α:Type} {xs:List α} {P:Hp→V→α→Prop} {K:BFr}
theorem V7 {H' H3:Hp} {zs:List V} {cs:List (List V)} {t:Addr} {c:List V} (G:qd H' zs cs) (hd:H' D=some (.lst zs)) (s3:zq H' H3) (e3:H3 t=some (.tup c)):qd (upd H3 D (.lst (zs++[.ref t]))) (zs++[.ref t]) (cs++[c]):=by
 refine qd.snoc ((G.same s3).upd fun c z=>?_) ?_
 ·rw[s3 _ _ hd] at z
  cases z
 ·rw[zm (qG e3 (s3 _ _ hd) (by intro z;cases z))]
  exact e3
theorem Zh (W:Zq J H ys) (T:q9 H ys xs P) (hD:H D=none) (hz:xs.length<sizeLine) (ψ:α→List V) (he:∀ x∈xs,∀ v H' R,zq H H'→P H' v x→G9 H' (.tup (ψ x)) R→te (σ.set 0 (some v)) H' R) (hf:∀ zs H',zq H H'→H' D=some (.lst zs)→qd H' zs (xs.map ψ)→fin zs H'):ja J D (z6 0) qv te fin σ (upd H D (.lst [])):=by
 refine jA W hD (fun i zs H'=>qd H' zs ((xs.take i).map ψ)) (fun σ'=>∀ x,σ'.set 0 (some x) = σ.set 0 (some x)) (fun _=>rfl) qd.nil ?_ ?_
 ·rintro i y zs σ' H' hy hσ s hd hl G
  obtain⟨x,hx,hP⟩:=T.at_ i y hy
  have tk:xs.take (i+1)=xs.take i++[x]:=by rw[CM,hx];rfl
  have hi:i<xs.length:=(cW.mp hx).1
  have hσ2:∀ z,(σ'.set 0 (some y)).set 0 (some z) = σ.set 0 (some z):=fun z=>by rw[dn];exact hσ z
  unfold kb z6
  dsimp only
  refine PU ?_
  rw[hσ y] at hσ2 ⊢
  refine he x (CC hx) y _ _ s (hP _ s) fun t H3 s3 n3 e3=>⟨s3 _ _ hd,by omega,hσ2,fun b o z=>?_,zj,?_,?_⟩
  ·rw[zm (zA z hD)]
   exact s3 _ _ (s _ _ z)
  ·rw[cG,Cp];omega
  ·rw[tk,Ce]
   exact V7 G hd s3 e3
 ·rintro zs H' s hd hl G
  rw[T.len,CN] at G
  exact hf zs H' s hd G
end
theorem q9.same {α:Type} {H H':Hp} {ys:List V} {xs:List α} {P:Hp→V→α→Prop} (T:q9 H ys xs P) (s:zq H H'):q9 H' ys xs P:=⟨T.len,fun i y e=>by
 obtain⟨x,h1,h2⟩:=T.at_ i y e
 exact⟨x,h1,fun H'' s'=>h2 H'' (s.trans s')⟩⟩
section
variable {K:BFr} {a b:Addr} {xs ys:List V} {g:TG} {tb:TS} {D:uE} {σ:St} {H:Hp} {lo:Int} {n:Nat}
abbrev rQ (J:It) (g:TG) (tb:TS) (D:uE) (σ:St) (H:Hp):Prop:=∃ W:Nat→Nat→St→Hp→Prop,(∃ m,W 0 m σ H)∧∀ i m σ H,W i m σ H →
   (J.stop i H∧D.nx σ H)∨(J.go i H∧∃ N:St→Hp→Prop,(∀ σ' H',N σ' H'→∃ m',m'<m∧W (i+1) m' σ' H')∧∀ x H',J.yld i H x H'→g x σ H' fun σ2 H2=>tb { D with nx:=N,ct:=N,bk:=D.nx } σ2 H2)
theorem gW (Pv:Nat→St→Hp→Prop) (h0:Pv 0 σ H) (hl:∀ i σ H,i≤xs.length→Pv i σ H→zZ K H a xs) (hs:∀ i x σ H,xs[i]? = some x→Pv i σ H→∀ E:uE,(∀ σ' H',Pv (i+1) σ' H'→E.nx σ' H')→g x σ H fun σ2 H2=>tb E σ2 H2) (hd:∀ σ H,Pv xs.length σ H→D.nx σ H):rQ (mX K a) g tb D σ H :=
 pS Pv h0 hl (fun i x σ H hx p=>hs i x σ H hx p _ fun _ _ h=>h) hd
theorem uf (Pv:Nat→St→Hp→Prop) (h0:Pv 0 σ H) (hs:∀ (i:Nat) σ H,i<n→Pv i σ H→∀ E:uE,(∀ σ' H',Pv (i+1) σ' H'→E.nx σ' H')→g (.int (lo+i)) σ H fun σ2 H2=>tb E σ2 H2) (hd:∀ σ H,Pv n σ H→D.nx σ H):rQ (Me lo n) g tb D σ H :=
 Gu Pv h0 (fun i σ H hx p=>hs i σ H hx p _ fun _ _ h=>h) hd
end
noncomputable def rT (t u:TS):TS:=fun D σ H=>∃ P:St→Hp→Prop,t { D with nx:=P } σ H∧∀ σ' H',P σ' H'→u D σ' H'
theorem u7 {X:Cx} {st:Stmt} {rest:List Stmt} {t u:TS} (h1:PS X st t) (h2:yW X rest u):yW X (st::rest) (rT t u):=by
 intro pins s σ H D I h
 obtain⟨P,h,k⟩:=h
 refine wpAny_execs_cons (q0 (h1 pins s σ H { D with nx:=P } I h) fun f s1 q=>?_)
 cases f with
 | next =>
  obtain⟨σ',H',I',q⟩:=q
  exact h2 pins s1 σ' H' D I' (k _ _ q)
 | ret v=>exact q
 | brk=>exact q
 | cont=>exact q
noncomputable def nE (K:BFr):R2:=fun x y H Q=>∃ a b xs,x = .ref a∧y = .ref b∧zZ K H a xs∧zZ K H b []∧(xs=[]→Q (.bl true) H)∧(xs≠[]→Q (.bl false) H)
theorem pV {X:Cx} (hu:X.A.units<cLine):wk X (compareOp .Eq) (nE X.K):=by
 intro pins s σ H x y v u Q I rx ry h
 obtain⟨a,b,xs,rfl,rfl,h1,h2,q1,q2⟩:=h
 cases rx
 cases ry
 obtain⟨us,r1,p1,_⟩:=I.list h1
 obtain⟨ws,r2,p2,_⟩:=I.list h2
 have l1:=r1.length
 have l2:=r2.length
 rw[dJ] at l2
 by_cases hl:xs=[]
 ·subst hl
  rw[dJ] at l1
  refine SeqAt.eq_listAt p1.isList p2.isList (by simp;omega) hu (e:=fun _=>true) (fun j h1 h2=>?_) ?_
  ·simp at h1
   omega
  ·have:us=[]:=dP.mp l1.symm
   subst this
   exact⟨.bl true,H,I,rfl,q1 rfl⟩
 ·have:0<xs.length:=List.length_pos_iff.mpr hl
  exact SeqAt.eq_list_lengthsAt p1.isList p2.isList (by simp;omega) hu ⟨.bl false,H,I,rfl,q2 hl⟩
theorem Zf {t u:TS} {D:uE} {σ:St} {H:Hp} (P0:St→Hp→Prop) (h1:∀ E:uE,(∀ σ' H',P0 σ' H'→E.nx σ' H')→t E σ H) (h2:∀ σ' H',P0 σ' H'→u D σ' H'):rT t u D σ H:=⟨P0,h1 _ fun _ _ h=>h,h2⟩
theorem NN {te:TE} {g:TG} {u:TS} {D:uE} {σ:St} {H:Hp} (C:VK→Prop) (h1:∀ Q,C Q→te σ H Q) (h2:C fun v H1=>g v σ H1 (u D)):NL (lq te g) u D σ H:=h1 _ h2
theorem jS {CX:wN} {P:Program} {w:World} {K:BFr} {mg:Str→Option Value} {base:Heap} {N:List Str} {qual:Str} {scope:Scope} {f:Addr} {cd:Value} {A:Around} {outer:List Env} {s:Shared} {H:Hp} {E:XK}:(wG CX P w K mg base N qual scope f cd A outer s H E).K=K:=rfl
theorem uy {X:Cx}:X.nox.K=X.K:=rfl
noncomputable def Nn (K:BFr) (u:Nat):R2:=fun x y H Q=>∃ n d,PY d=true∧Is K H n x d∧Is K H n y d∧u+n<cLine∧Q (.bl true) H
noncomputable def r6 (K:BFr) (u:Nat):R2:=fun x y H Q=>∃ n d,PY d=true∧Is K H n x d∧Is K H n y d∧u+n<cLine∧Q (.bl false) H
theorem JT {X:Cx}:wk X (compareOp .NotEq) (r6 X.K X.A.units):=Nk
theorem xB {X:Cx}:wk X (compareOp .Eq) (Nn X.K X.A.units):=Nd
section
variable {X:Cx}
end
end L2
namespace Pg
open PySem L2
noncomputable def V9 (K:BFr):Sp:=fun vs H Q _=>∃ v,vs=[v,.str "abcdefghijklmnopqrstuvwxyz"]∧((∃ z,v = .str z∧z.length≤100000∧∀ H',zq H H'→Q (.bl (vL z)) H')∨(vS K H v∧Q (.bl false) H))
noncomputable def UT (K:BFr):Sp:=fun vs H Q _=>∃ v,vs=[v]∧((∃ z,v = .str z∧z.length≤100000∧∀ H',zq H H'→Q (.bl (vL z)) H')∨(vS K H v∧Q (.bl false) H))
end Pg
namespace K11
open PySem PySem.NumText L2 Pg
seal PE PA PT PW PS yW PG vq PI j7 PO PK
section
variable {P:Program} {w:World} {K:BFr} {mg:Str→Option Value} {base:Heap} {f:Addr} {fd:FuncData} {d:Nat→Addr} {cR:Addr}
theorem Oy (F:qJ K "is_word_of" "is_word_of" (top 29) f fd) (G:vw mg) (N1:Z1 mg "MOST_SIGNS" 8):zL P w K mg base z8 1 f fd ["thing","signs"] (V9 K):=by
 obtain⟨tm,hm⟩:=N1
 have nc:(["sign","signs"]:List Str).Nodup:=by decide +kernel
 refine F.ok (N:=["thing","signs"]) (by walk_at"s") (fun vs H Q E h=>?_) (fun cdv A outer s H vs Q E hr h=>?_)
 ·obtain⟨z,rfl,_⟩:=h
  rfl
 ·obtain⟨v,rfl,h⟩:=h
  refine' ⟨_,(zh (zX (qu (qt (zy zH rfl G.isinstance zv (za (pv 0) (za (yB (v:=.ty "str") rfl G.str qH rfl) zd))))) (zi (zx yM)) zG)
    (zh (zX (PW.pt (vE (zK kP (zy yR rfl G.len boot_len (za (pv 0) zd)) ze (zI _)) (jU (zK wq (zy yR rfl G.len boot_len (za (pv 0) zd)) (zY (v:=.int 8) rfl hm ⟨_,rfl⟩) (zI _))))) (zi (zx yM)) zG)
    (zi (zx (zy (jD rfl) rfl G.all vg (za ?comp zd)))))),?main⟩
  case comp =>
   refine' qm (Nc:=["sign","signs"]) (cl:=[("signs",s.heap.objs.size+1)]) (src:=[none,some 1]) (wi:=lJ (zP 0)) (g:=z6 0) (tt:=qv) (te:=jH (fun x y H Q=>∃ i j,x = .str i∧y = .str j∧Q (.bl (!(Builtin.Str.occurrences j i 0 j.length 1).isEmpty)) H) (zP 0) (zP 1)) (by walk_at"c1") rfl (WR (pv 0)) ?hb
   case hb =>
    intro fp C' s' H'
    exact⟨zN (i:=0) nc rfl (Or.inl rfl),qj,qC Zl (pv 0) (pv 1) (by rfl)⟩
  rcases h with ⟨z,rfl,zl,q⟩ | ⟨⟨r,hr',ty,ne⟩,q⟩
  ·have fit:z.length≤sizeLine:=by rw[sizeLine_eq];omega
   refine⟨_,rfl,_,_,_,_,true,rfl,rfl,.inl (.str z),rfl,true,rfl,qD ?_⟩
   refine⟨_,rfl,z,rfl,fit,_,_,rfl,rfl,_,rfl,ye (fun e=>qV ?_) (fun e=>⟨_,rfl,z,rfl,fit,_,_,rfl,rfl,_,rfl,ye (fun e2=>?_) (fun e2=>?_)⟩)⟩
   ·have e:=of_decide_eq_true e
    have nb:vL z=false:=by unfold vL;rw[decide_eq_false (show ¬ 1≤z.length by omega)];rfl
    rw[nb] at q
    exact q H (zq.refl _)
   ·have e2:=of_decide_eq_true e2
    have nb:vL z=false:=by unfold vL;rw[decide_eq_false (show ¬ z.length≤8 by omega),Bool.and_false];rfl
    rw[nb] at q
    exact q H (zq.refl _)
   ·have l1:1≤z.length:=by
     have e:¬ ((z.length:Nat):Int)<1:=fun c=>e (decide_eq_true c)
     omega
    have l8:z.length≤8:=by
     have e2:¬ (8:Int)<((z.length:Nat):Int):=fun c=>e2 (decide_eq_true c)
     omega
    refine⟨_,rfl,z,rfl,fun D hD=>?_⟩
    refine u9 (Yc (z:=z)) hD (by rw[cw,← qB,sizeLine_eq];omega) (fun _=>true) (fun x=>match x with | .str y=>.bl (YJ (y.cps.getD 0 0)) | v=>v) (fun x _ H' R _ r=>r) (fun x hx _ H' R _ r=>?_) ?_
    ·obtain⟨c,_,rfl⟩:=cH.mp hx
     refine⟨_,rfl,_,rfl,_,_,rfl,rfl,?_⟩
     rw[Y6]
     exact r
    ·rw[De.mpr fun _ _=>rfl,cV]
     refine⟨D,z.cps.toList.map YJ,rfl,zZ.of (by rw[cV];exact zj),?_⟩
     have e2:(z.cps.toList.map YJ).all id=vL z:=by
      unfold vL
      rw[CS,decide_eq_true l1,decide_eq_true l8]
      rfl
     rw[e2]
     exact q _ (zq.upd hD)
  ·obtain⟨_,_,k3,_⟩:=kG (K:=K) r hr'
   have e:r.2.2.2.1=false:=by
    simp only[Vc,cy,cA,or_false] at hr'
    rcases hr' with rfl | rfl | rfl | rfl | rfl | rfl | rfl <;> first | rfl | (exact absurd rfl ne)
   rw[e] at k3
   exact⟨_,rfl,_,_,_,_,false,rfl,rfl,.inl ty,k3,false,rfl,qV q⟩
theorem OE (F:qJ K "is_name" "is_name" (top 30) f fd) (N1:Txt mg "LETTERS" "abcdefghijklmnopqrstuvwxyz") (C1:qN P w K mg base z8 1 "is_word_of" ["thing","signs"] (V9 K)):zL P w K mg base z8 2 f fd ["thing"] (UT K):=by
 obtain⟨tm,hm⟩:=N1
 refine F.ok (N:=["thing"]) (by walk_at"s") (fun vs H Q E h=>?_) (fun cdv A outer s H vs Q E hr h=>?_)
 ·obtain⟨z,rfl,_⟩:=h
  rfl
 ·obtain⟨v,rfl,h⟩:=h
  exact⟨_,zi (zx (zp C1 hr (by decide) zC (za (pv 0) (za (zY (v:=.str "abcdefghijklmnopqrstuvwxyz") rfl hm ⟨_,rfl⟩) zd)))),_,rfl,v,rfl,h⟩
theorem mJ (F:qJ K "is_word_of" "is_word_of" (top 29) f fd) (G:vw mg) (N1:Z1 mg "MOST_SIGNS" 8):zL P w K mg base z8 1 f fd ["thing","signs"] gi:=by
 obtain⟨tm,hm⟩:=N1
 have nc:(["sign","signs"]:List Str).Nodup:=by decide +kernel
 refine F.ok (N:=["thing","signs"]) (by walk_at"s") (fun vs H Q E h=>?_) (fun cdv A outer s H vs Q E hr h=>?_)
 ·obtain⟨z,rfl,_⟩:=h
  rfl
 ·obtain⟨z,rfl,hz,q⟩:=h
  have l1:=hz.lo
  have l8:=hz.hi
  have fit:z.length≤sizeLine:=ZH l8 rfl
  refine' ⟨_,(zh (zX (qu (qt (zy zH rfl G.isinstance zv (za (pv 0) (za (yB (v:=.ty "str") rfl G.str qH rfl) zd))))) (zi (zx yM)) zG)
    (zh (zX (PW.pt (vE (zK kP (zy yR rfl G.len boot_len (za (pv 0) zd)) ze (zI _)) (jU (zK wq (zy yR rfl G.len boot_len (za (pv 0) zd)) (zY (v:=.int 8) rfl hm ⟨_,rfl⟩) (zI _))))) (zi (zx yM)) zG)
    (zi (zx (zy (jD rfl) rfl G.all vg (za ?comp zd)))))),?main⟩
  case comp =>
   refine' qm (Nc:=["sign","signs"]) (cl:=[("signs",s.heap.objs.size+1)]) (src:=[none,some 1]) (wi:=lJ (zP 0)) (g:=z6 0) (tt:=qv) (te:=jH (fun x y H Q=>∃ i j,x = .str i∧y = .str j∧Q (.bl (!(Builtin.Str.occurrences j i 0 j.length 1).isEmpty)) H) (zP 0) (zP 1)) (by walk_at"c1") rfl (WR (pv 0)) ?hb
   case hb =>
    intro fp C' s' H'
    exact⟨zN (i:=0) nc rfl (Or.inl rfl),qj,qC Zl (pv 0) (pv 1) (by rfl)⟩
  refine⟨_,rfl,_,_,_,_,true,rfl,rfl,.inl (.str z),rfl,true,rfl,qD ?_⟩
  refine⟨_,rfl,z,rfl,fit,_,_,rfl,rfl,_,rfl,ye (fun e=>absurd (of_decide_eq_true e) (by omega)) (fun _=>⟨_,rfl,z,rfl,fit,_,_,rfl,rfl,_,rfl,ye (fun e=>absurd (of_decide_eq_true e) (by omega)) (fun _=>?_)⟩)⟩
  refine⟨_,rfl,z,rfl,fun D hD=>?_⟩
  refine u9 (Yc (z:=z)) hD (by rw[cw,← qB,sizeLine_eq];omega) (fun _=>true) (fun x=>match x with | .str y=>.bl (YJ (y.cps.getD 0 0)) | v=>v) (fun x _ H' R _ r=>r) (fun x hx _ H' R _ r=>?_) ?_
  ·obtain⟨c,_,rfl⟩:=cH.mp hx
   refine⟨_,rfl,_,rfl,_,_,rfl,rfl,?_⟩
   rw[Y6]
   exact r
  ·rw[De.mpr fun _ _=>rfl,cV]
   refine⟨D,z.cps.toList.map YJ,rfl,zZ.of (by rw[cV];exact zj),?_⟩
   have e2:(z.cps.toList.map YJ).all id=true:=by
    rw[CS]
    exact hz.all
   rw[e2]
   exact q _ (zq.upd hD)
theorem Lv (F:qJ K "is_name" "is_name" (top 30) f fd) (N1:Txt mg "LETTERS" "abcdefghijklmnopqrstuvwxyz") (C1:qN P w K mg base z8 1 "is_word_of" ["thing","signs"] gi):zL P w K mg base z8 2 f fd ["thing"] XB:=by
 obtain⟨tm,hm⟩:=N1
 refine F.ok (N:=["thing"]) (by walk_at"s") (fun vs H Q E h=>?_) (fun cdv A outer s H vs Q E hr h=>?_)
 ·obtain⟨z,rfl,_⟩:=h
  rfl
 ·obtain⟨z,rfl,hz,q⟩:=h
  exact⟨_,zi (zx (zp C1 hr (by decide) zC (za (pv 0) (za (zY (v:=.str "abcdefghijklmnopqrstuvwxyz") rfl hm ⟨_,rfl⟩) zd)))),_,rfl,z,rfl,hz,q⟩
theorem xk (F:qJ K "_law_cell_at" "_law_cell_at" (top 74) f fd) (G:vw mg):zL P w K mg base z8 1 f fd ["_law_script","_law_k"] (gc K):=by
 refine F.ok (N:=["_law_script","_law_k"]) (by walk_at"s") (fun vs H Q E h=>?_) (fun cdv A outer s H vs Q E hr h=>?_)
 ·obtain⟨a,k,ns,rfl,_⟩:=h
  rfl
 ·obtain⟨a,k,ns,rfl,hs,hk,q⟩:=h
  refine⟨_,(zh (zX (zK kP (pv 1) (zy z7 rfl G.len PySem.boot_len (za (pv 0) zd)) (zI _)) (zi (zx (zD zw (pv 0) (pv 1)))) zG)
    (zi (zx ze))),?_⟩
  refine⟨_,rfl,_,rfl,a,_,rfl,.inl hs,_,_,rfl,rfl,_,rfl,ye (fun e=>?_) (fun e=>?_)⟩
  ·exact⟨_,rfl,_,rfl,a,_,_,_,rfl,rfl,hs,LG hk (of_decide_eq_true e),q⟩
  ·rw[om fun c=>e (decide_eq_true c)] at q
   exact q
end
end K11
namespace Pg
open PySem L2
noncomputable def KT (H H':Hp):Prop:=∀ b c,(H b=some (.tup c)→H' b=some (.tup c))∧∀ o,H b=some (.frz o (.tup c))→H' b=some (.frz o (.tup c))
theorem Wo {i:Int} (h0:0≤i) (h1:i<26):kT ("abcdefghijklmnopqrstuvwxyz":Str).cps.toList i=some (97+i.toNat):=by
 obtain⟨n,rfl⟩:=CJ h0
 rw[wu]
 refine q8 ?_
 rw[List.getElem?_range' (by omega)]
 rw[CG]
 congr 1
 omega
noncomputable def wayL:List Str:=["down","up","near","even"]
noncomputable def rA (K:BFr) (mg:Str→Option Value) (x:Str) (zs:List Str):Prop:=∃ a,mg x=some (.ref a)∧∀ H,yj K H a (zs.map V.str)
noncomputable def MG (z l:Int) (x:Str):Bool:=if x = "near" then decide (0<z) else decide (l%2=1)
noncomputable def MU (z l r:Int) (x:Str):Bool:=if x = "down" then false else if x = "up" then decide (0<r) else if r=5000 then MG z l x else decide (5000<r)
noncomputable def rb (z:Int) (x:Str):Int:=if MU z (z/10000) (z%10000) x=true then z/10000+1 else z/10000
theorem ki (x:Str) (zs:List Str):tX (.str x) (zs.map V.str)=zs.contains x:=by
 unfold tX
 rw[List.any_map,List.contains_eq_any_beq]
 congr 1
 funext y
 show (y==x)=(x==y)
 exact Bool.beq_comm ..
noncomputable def Zb:Sp:=fun vs H Q _=>∃ z,vs=[.int z]∧0≤z∧z≤20000∧Q (.bl true) H
noncomputable def Vp:Sp:=fun vs H Q _=>∃ x,vs=[.str x]∧wayL.contains x=true∧Q (.bl true) H
inductive Rk where
 | flat (n:Str) (a:Int)
 | share (n:Str) (p:Int) (w:Str)
 | capped (n:Str) (p m:Int) (w:Str)
 | least (n:Str) (p l:Int) (w:Str)
 | bands (n:Str) (ps:List (Int × Int)) (w:Str)
 | ontop (n:Str) (p:Int) (w:Str) (r:Rk)
noncomputable def Rk.name:Rk→Str
 | .flat n _=>n
 | .share n _ _=>n
 | .capped n _ _ _=>n
 | .least n _ _ _=>n
 | .bands n _ _=>n
 | .ontop n _ _ _=>n
noncomputable def Rk.kd:Rk→Nat
 | .flat ..=>0
 | .share ..=>1
 | .capped ..=>2
 | .least ..=>3
 | .bands ..=>4
 | .ontop ..=>5
noncomputable def noNames:List Str:=["base","net","month","sums"]
structure qT (z:Str):Prop where
 ok:Vw z
 no:noNames.contains z=false
noncomputable def QB (p:Int):Prop:=0≤p∧p≤20000
noncomputable def YZ (a:Int):Prop:=0≤a∧a≤1000000000000
noncomputable def Jd (w:Str):Prop:=wayL.contains w=true
inductive xH:Rk→Prop where
 | flat {n:Str} {a:Int}:qT n→YZ a→xH (.flat n a)
 | share {n:Str} {p:Int} {w:Str}:qT n→QB p→Jd w→xH (.share n p w)
 | capped {n:Str} {p m:Int} {w:Str}:qT n→QB p→YZ m→Jd w→xH (.capped n p m w)
 | least {n:Str} {p l:Int} {w:Str}:qT n→QB p→YZ l→Jd w→xH (.least n p l w)
noncomputable def pos (bs:List Int):Int:=((bs.filter fun b=>decide (0<b)).length:Nat)
noncomputable def Ta (r:Rk) (bs:List Int):Int:=match r with
 | .flat _ a=>a*pos bs
 | .share _ p w=>rb (bs.sum*p) w
 | .capped _ p m w=>rb ((if m<bs.sum then m else bs.sum)*p) w
 | .least _ p l w=>if l*pos bs > rb (bs.sum*p) w then l*pos bs else rb (bs.sum*p) w
 | _=>0
noncomputable def vm (r:Rk):List V:=match r with
 | .flat n a=>[.str "flat",.str n,.int a]
 | .share n p w=>[.str "share",.str n,.int p,.str w]
 | .capped n p m w=>[.str "capped",.str n,.int p,.int m,.str w]
 | .least n p l w=>[.str "least",.str n,.int p,.int l,.str w]
 | _=>[]
noncomputable def Ym:V→Str
 | .str z=>z
 | .int i=>toString i
 | _=>Str.empty
noncomputable def xi (r:Rk):Str:=Txt.join " " ((vm r).map Ym)
noncomputable def Pa (H:Hp) (v:V) (r:Rk):Prop:=∃ t,v = .ref t∧H t=some (.tup (vm r))
theorem Pa.same {H H':Hp} {v:V} {r:Rk} (s:zq H H') (h:Pa H v r):Pa H' v r:=by
 obtain⟨t,e,h⟩:=h
 exact⟨t,e,s _ _ h⟩
noncomputable def Ng (r:Rk):List (Str × V):=match r with
 | .flat n a=>[("name",.str n),("amount",.int a)]
 | .share n p w=>[("name",.str n),("parts",.int p),("way",.str w)]
 | .capped n p m w=>[("name",.str n),("parts",.int p),("most",.int m),("way",.str w)]
 | .least n p l w=>[("name",.str n),("parts",.int p),("least",.int l),("way",.str w)]
 | _=>[]
noncomputable def Gx (Cs:Nat→Addr) (H:Hp) (v:V) (r:Rk):Prop:=∃ o dx,v = .ref o∧H o=some (.ins (Cs r.kd) dx (Ng r))
theorem Gx.same {Cs:Nat→Addr} {H H':Hp} {v:V} {r:Rk} (s:zq H H') (h:Gx Cs H v r):Gx Cs H' v r:=by
 obtain⟨t,dx,e,h⟩:=h
 exact⟨t,dx,e,s _ _ h⟩
structure uD (K:BFr) (Cs:Nat→Addr):Prop where
 cls:∀ i,i<4→wo K (Cs i)
 no:∀ i,i<4→∀ x∈(["name","amount","parts","way","most","least"]:List Str),zU K (Cs i) x
noncomputable def Y9:Sp:=fun vs H Q _=>∃ z,vs=[.str z]∧qT z∧∀ H',zq H H'→Q (.bl true) H'
noncomputable def QS:Sp:=fun vs H Q _=>∃ z,vs=[.int z]∧YZ z∧Q (.bl true) H
noncomputable def wa:Sp:=fun vs H Q _=>∃ z,vs=[.int z]∧YZ z∧Q .non H
noncomputable def vU:Sp:=fun vs H Q _=>∃ p w,vs=[.int p,.str w]∧QB p∧Jd w∧Q .non H
noncomputable def uK (Cs:Nat→Addr):Sp:=fun vs H Q _=>∃ i o dx z,vs=[.ref o,.str z]∧i<4∧H o=some (.ins (Cs i) dx [])∧qT z∧∀ H',(∀ b x,H b=some x→b≠o→H' b=some x)→H' o=some (.ins (Cs i) dx [("name",.str z)])→Q .non H'
noncomputable def rX (r:Rk):List V:=(vm r).drop 1
noncomputable def yD (k:Nat) (Cs:Nat→Addr):Sp:=fun vs H Q _=>∃ o dx r,vs = .ref o::rX r∧r.kd=k∧xH r∧H o=some (.ins (Cs k) dx [])∧∀ H',(∀ b x,H b=some x→b≠o→H' b=some x)→H' o=some (.ins (Cs k) dx (Ng r))→Q .non H'
noncomputable def jY (k:Nat) (Cs:Nat→Addr):Sp:=fun vs H Q _=>∃ v r,vs=[v]∧r.kd=k∧Gx Cs H v r∧xH r∧∀ H',zq H H'→Q (.str (xi r)) H'
theorem Ug {r:Rk} (h:xH r):∀ z∈(vm r).map Ym,z.length≤20:=by
 have nl:∀ {z:Str},qT z→z.length≤20:=fun h=>cJ h.ok.hi (by decide)
 have il:∀ {i:Int},0≤i→i≤1000000000000→(Ym (.int i)).length≤20:=fun h0 h1=>cJ (QI (k:=13) h0 (by decide) (by omega)) (by decide)
 have wl:∀ {w:Str},Jd w→w.length≤20:=fun {w} h=>by
  have h:=CK.mp h
  unfold wayL at h
  simp only[cy,cA,or_false] at h
  rcases h with rfl | rfl | rfl | rfl <;> decide +kernel
 intro z hz
 obtain⟨v,hv,rfl⟩:=cH.mp hz
 cases h with
 | flat hn ha =>
  simp only[vm,cy,cA,or_false] at hv
  rcases hv with rfl | rfl | rfl
  ·decide +kernel
  ·exact nl hn
  ·exact il ha.1 ha.2
 | share hn hp hw =>
  simp only[vm,cy,cA,or_false] at hv
  rcases hv with rfl | rfl | rfl | rfl
  ·decide +kernel
  ·exact nl hn
  ·exact il hp.1 (Int.le_trans hp.2 (by decide))
  ·exact wl hw
 | capped hn hp ha hw =>
  simp only[vm,cy,cA,or_false] at hv
  rcases hv with rfl | rfl | rfl | rfl | rfl
  ·decide +kernel
  ·exact nl hn
  ·exact il hp.1 (Int.le_trans hp.2 (by decide))
  ·exact il ha.1 ha.2
  ·exact wl hw
 | least hn hp ha hw =>
  simp only[vm,cy,cA,or_false] at hv
  rcases hv with rfl | rfl | rfl | rfl | rfl
  ·decide +kernel
  ·exact nl hn
  ·exact il hp.1 (Int.le_trans hp.2 (by decide))
  ·exact il ha.1 ha.2
  ·exact wl hw
theorem QQ {r:Rk} (h:xH r):JoinOk " " ((vm r).map Ym)=true:=(yz (m:=20) (k:=5) (Ug h) (by cases h <;> exact Cf rfl) (by decide +kernel) rfl).1
theorem wz {p:Int} (h:QB p):p.natAbs.log2<1920:=Jn h.1 (by have:=h.2;omega)
theorem ZC {p:Int} (h:YZ p):p.natAbs.log2<1920:=Jn h.1 (by have:=h.2;omega)
theorem cq (n:Str):jw "name" (.str n) []=[((("name":Str)),V.str n)]:=rfl
theorem Np (n x:Str) (v:V) (h:("name":Str)≠x):jw x v [(("name":Str),V.str n)]=[(("name":Str),V.str n),(x,v)]:=by
 unfold jw
 rw[if_neg h]
 rfl
theorem rh (n x y:Str) (u v:V) (h:("name":Str)≠x) (h2:y≠x):jw x v [(("name":Str),V.str n),(y,u)]=[(("name":Str),V.str n),(y,u),(x,v)]:=by
 unfold jw
 rw[if_neg h]
 unfold jw
 rw[if_neg h2]
 rfl
theorem Ti (n x y z:Str) (u v w:V) (h:("name":Str)≠x) (h2:y≠x) (h3:z≠x):jw x v [(("name":Str),V.str n),(y,u),(z,w)]=[(("name":Str),V.str n),(y,u),(z,w),(x,v)]:=by
 unfold jw
 rw[if_neg h]
 unfold jw
 rw[if_neg h2]
 unfold jw
 rw[if_neg h3]
 rfl
end Pg
namespace K11
open PySem PySem.NumText L2 Pg
seal PE PA PT PW PS yW PG vq PI j7 PO PK
section
variable {P:Program} {w:World} {K:BFr} {mg:Str→Option Value} {base:Heap} {f:Addr} {fd:FuncData} {d:Nat→Addr} {cR:Addr}
theorem GU (F:qJ K "is_parts" "is_parts" (top 23) f fd) (N1:Z1 mg "MOST_PARTS" 20000) (C1:qN P w K mg base z8 2 "is_number_within" ["thing","least","most"] (jF K)):zL P w K mg base z8 3 f fd ["thing"] Zb:=by
 obtain⟨t,em⟩:=N1
 refine F.ok (N:=["thing"]) (by walk_at"s") (fun vs H Q E h=>?_) (fun cdv A outer s H vs Q E hr h=>?_)
 ·obtain⟨z,rfl,_⟩:=h
  rfl
 ·obtain⟨z,rfl,h0,h1,q⟩:=h
  refine⟨_,zi (zx (zp C1 hr (by decide) zC (za (pv 0) (za ze (za (zY (v:=.int 20000) rfl em ⟨t,rfl⟩) zd))))),_,rfl,_,0,20000,rfl,.inl ⟨z,rfl,?_⟩⟩
  rw[decide_eq_true (⟨h0,h1⟩:(0:Int)≤z∧z≤20000)]
  exact q
theorem mV (F:qJ K "is_way" "is_way" (top 24) f fd) (G:vw mg) (W:rA K mg "WAYS" wayL):zL P w K mg base z8 1 f fd ["thing"] Vp:=by
 obtain⟨aw,ew,tw⟩:=W
 refine F.ok (N:=["thing"]) (by walk_at"s") (fun vs H Q E h=>?_) (fun cdv A outer s H vs Q E hr h=>?_)
 ·obtain⟨x,rfl,_⟩:=h
  rfl
 ·obtain⟨x,rfl,hx,q⟩:=h
  refine⟨_,zi (zx (yO (zy zH rfl G.isinstance zv (za (pv 0) (za (yB (v:=.ty "str") rfl G.str qH rfl) zd)))
   (yX (qC YQ (pv 0) (zY (v:=.ref aw) rfl ew rfl) (by rfl))))),?_⟩
  refine⟨_,rfl,_,_,_,_,true,rfl,rfl,.inl (.str x),rfl,true,rfl,qV ⟨_,rfl,aw,_,rfl,.inr (tw H),rfl,rfl,?_⟩⟩
  rw[if_neg cZ,ki,hx]
  exact q
theorem GA (F:qJ K "is_rule_name" "is_rule_name" (top 42) f fd) (W:rA K mg "NO_RULE_NAMES" noNames) (C1:qN P w K mg base z8 2 "is_name" ["thing"] XB):zL P w K mg base z8 3 f fd ["thing"] Y9:=by
 obtain⟨aw,ew,tw⟩:=W
 refine F.ok (N:=["thing"]) (by walk_at"s") (fun vs H Q E h=>?_) (fun cdv A outer s H vs Q E hr h=>?_)
 ·obtain⟨z,rfl,_⟩:=h
  rfl
 ·obtain⟨z,rfl,hz,q⟩:=h
  refine⟨_,zi (zx (yO (zp C1 hr (by decide) zC (za (pv 0) zd)) (yX (qC wZ (pv 0) (zY (v:=.ref aw) rfl ew rfl) (by rfl))))),?_⟩
  refine⟨_,rfl,z,rfl,hz.ok,fun H1 s1=>⟨true,rfl,qV ⟨_,rfl,aw,_,rfl,.inr (tw H1),rfl,rfl,?_⟩⟩⟩
  rw[if_pos rfl,ki,hz.no]
  exact q H1 s1
theorem pY (F:qJ K "is_rule_amount" "is_rule_amount" (top 43) f fd) (N1:Z1 mg "MOST_AMOUNT" 1000000000000) (C1:qN P w K mg base z8 2 "is_number_within" ["thing","least","most"] (jF K)):zL P w K mg base z8 3 f fd ["thing"] QS:=by
 obtain⟨t,em⟩:=N1
 refine F.ok (N:=["thing"]) (by walk_at"s") (fun vs H Q E h=>?_) (fun cdv A outer s H vs Q E hr h=>?_)
 ·obtain⟨z,rfl,_⟩:=h
  rfl
 ·obtain⟨z,rfl,h0,q⟩:=h
  refine⟨_,zi (zx (zp C1 hr (by decide) zC (za (pv 0) (za ze (za (zY (v:=.int 1000000000000) rfl em ⟨t,rfl⟩) zd))))),_,rfl,_,0,1000000000000,rfl,.inl ⟨z,rfl,?_⟩⟩
  rw[show decide ((0:Int)≤z∧z≤1000000000000)=true from decide_eq_true h0]
  exact q
theorem Gz (F:qJ K "need_rule_amount" "need_rule_amount" (top 44) f fd) (C1:qN P w K mg base z8 3 "is_rule_amount" ["thing"] QS):zL P w K mg base z8 4 f fd ["thing"] wa:=by
 refine F.ok (N:=["thing"]) (by walk_at"s") (fun vs H Q E h=>?_) (fun cdv A outer s H vs Q E hr h=>?_)
 ·obtain⟨x,rfl,_⟩:=h
  rfl
 ·obtain⟨x,rfl,hx,q⟩:=h
  exact⟨_,zi (zX (qu (qt (zp C1 hr (by decide) zC (za (pv 0) zd)))) qS zG),_,rfl,x,rfl,hx,true,rfl,qD q⟩
theorem Gv (F:qJ K "need_share" "need_share" (top 45) f fd) (C1:qN P w K mg base z8 3 "is_parts" ["thing"] Zb) (C2:qN P w K mg base z8 1 "is_way" ["thing"] Vp):zL P w K mg base z8 4 f fd ["parts","way"] vU:=by
 refine F.ok (N:=["parts","way"]) (by walk_at"s") (fun vs H Q E h=>?_) (fun cdv A outer s H vs Q E hr h=>?_)
 ·obtain⟨p,x,rfl,_⟩:=h
  rfl
 ·obtain⟨p,x,rfl,hp,hx,q⟩:=h
  exact⟨_,zh (zX (qu (qt (zp C1 hr (by decide) zC (za (pv 0) zd)))) qS zG) (zi (zX (qu (qt (zp C2 hr (by decide) zC (za (pv 1) zd)))) qS zG)),_,rfl,p,rfl,hp.1,hp.2,true,rfl,qD ⟨_,rfl,x,rfl,hx,true,rfl,qD q⟩⟩
theorem gT {Cs:Nat→Addr} (F:qJ K "__init__" "Flat.__init__" (zE (top 47) 0) f fd) (RK:uD K Cs) (CR:uJ P w K mg base z8 4 "Rule" "__init__" ["self","name"] (uK Cs)) (C1:qN P w K mg base z8 4 "need_rule_amount" ["thing"] wa):zL P w K mg base z8 5 f fd ["self","name","amount"] (yD 0 Cs):=by
 refine F.ok (N:=["self","name","amount"]) (by walk_at"s") (fun vs H Q E h=>?_) (fun cdv A outer s H vs Q E hr h=>?_)
 ·obtain⟨o,dx,r,rfl,hk,pl,_⟩:=h
  cases pl <;> first | rfl | cases hk
 ·obtain⟨o,dx,r,rfl,hk,pl,ho,q⟩:=h
  cases pl with
  | flat hn ha =>
   refine⟨_,zh (z4 (y9 CR hr (by decide) zC (za (pv 0) (za (pv 1) zd)))) (zh (z4 (zp C1 hr (by decide) zC (za (pv 2) zd))) (zi (yt (pv 0) (pv 2) rfl))),?_⟩
   refine⟨_,rfl,_,rfl,0,o,dx,_,rfl,by decide,ho,hn,fun H1 f1 e1=>⟨_,rfl,_,rfl,ha,_,rfl,_,rfl,o,_,dx,_,rfl,e1,RK.cls 0 (by decide),RK.no 0 (by decide) "amount" (by decide),by show 1<1000;decide,?_⟩⟩
   rw[Np _ _ _ (by decide +kernel)]
   exact q _ (fun b x hb ne=>by rw[zm ne];exact f1 _ _ hb ne) zj
  | share hn hp hw=>cases hk
  | capped hn hp ha hw=>cases hk
  | least hn hp ha hw=>cases hk
theorem gj {Cs:Nat→Addr} (F:qJ K "__init__" "Share.__init__" (zE (top 48) 0) f fd) (RK:uD K Cs) (CR:uJ P w K mg base z8 4 "Rule" "__init__" ["self","name"] (uK Cs)) (C1:qN P w K mg base z8 4 "need_share" ["parts","way"] vU):zL P w K mg base z8 5 f fd ["self","name","parts","way"] (yD 1 Cs):=by
 refine F.ok (N:=["self","name","parts","way"]) (by walk_at"s") (fun vs H Q E h=>?_) (fun cdv A outer s H vs Q E hr h=>?_)
 ·obtain⟨o,dx,r,rfl,hk,pl,_⟩:=h
  cases pl <;> first | rfl | cases hk
 ·obtain⟨o,dx,r,rfl,hk,pl,ho,q⟩:=h
  cases pl with
  | share hn hp hw =>
   refine⟨_,zh (z4 (y9 CR hr (by decide) zC (za (pv 0) (za (pv 1) zd)))) (zh (z4 (zp C1 hr (by decide) zC (za (pv 2) (za (pv 3) zd)))) (zh (yt (pv 0) (pv 2) rfl) (zi (yt (pv 0) (pv 3) rfl)))),?_⟩
   refine⟨_,rfl,_,rfl,1,o,dx,_,rfl,by decide,ho,hn,fun H1 f1 e1=>⟨_,rfl,_,rfl,_,_,rfl,hp,hw,_,rfl,_,rfl,o,_,dx,_,rfl,e1,RK.cls 1 (by decide),RK.no 1 (by decide) "parts" (by decide),by show 1<1000;decide,?_⟩⟩
   rw[Np _ _ _ (by decide +kernel)]
   refine⟨_,rfl,_,rfl,o,_,dx,_,rfl,zj,RK.cls 1 (by decide),RK.no 1 (by decide) "way" (by decide),by show 2<1000;decide,?_⟩
   rw[rh _ _ _ _ _ (by decide +kernel) (by decide +kernel)]
   exact q _ (fun b x hb ne=>by rw[zm ne,zm ne];exact f1 _ _ hb ne) zj
  | flat hn ha=>cases hk
  | capped hn hp ha hw=>cases hk
  | least hn hp ha hw=>cases hk
theorem gq {Cs:Nat→Addr} (F:qJ K "__init__" "Capped.__init__" (zE (top 49) 0) f fd) (RK:uD K Cs) (CR:uJ P w K mg base z8 4 "Rule" "__init__" ["self","name"] (uK Cs)) (C1:qN P w K mg base z8 4 "need_share" ["parts","way"] vU) (C2:qN P w K mg base z8 4 "need_rule_amount" ["thing"] wa):zL P w K mg base z8 5 f fd ["self","name","parts","most","way"] (yD 2 Cs):=by
 refine F.ok (N:=["self","name","parts","most","way"]) (by walk_at"s") (fun vs H Q E h=>?_) (fun cdv A outer s H vs Q E hr h=>?_)
 ·obtain⟨o,dx,r,rfl,hk,pl,_⟩:=h
  cases pl <;> first | rfl | cases hk
 ·obtain⟨o,dx,r,rfl,hk,pl,ho,q⟩:=h
  cases pl with
  | capped hn hp ha hw =>
   refine⟨_,zh (z4 (y9 CR hr (by decide) zC (za (pv 0) (za (pv 1) zd)))) (zh (z4 (zp C1 hr (by decide) zC (za (pv 2) (za (pv 4) zd)))) (zh (z4 (zp C2 hr (by decide) zC (za (pv 3) zd))) (zh (yt (pv 0) (pv 2) rfl) (zh (yt (pv 0) (pv 3) rfl) (zi (yt (pv 0) (pv 4) rfl)))))),?_⟩
   refine⟨_,rfl,_,rfl,2,o,dx,_,rfl,by decide,ho,hn,fun H1 f1 e1=>⟨_,rfl,_,rfl,_,_,rfl,hp,hw,_,rfl,_,rfl,ha,_,rfl,_,rfl,o,_,dx,_,rfl,e1,RK.cls 2 (by decide),RK.no 2 (by decide) "parts" (by decide),by show 1<1000;decide,?_⟩⟩
   rw[Np _ _ _ (by decide +kernel)]
   refine⟨_,rfl,_,rfl,o,_,dx,_,rfl,zj,RK.cls 2 (by decide),RK.no 2 (by decide) "most" (by decide),by show 2<1000;decide,?_⟩
   rw[rh _ _ _ _ _ (by decide +kernel) (by decide +kernel)]
   refine⟨_,rfl,_,rfl,o,_,dx,_,rfl,zj,RK.cls 2 (by decide),RK.no 2 (by decide) "way" (by decide),by show 3<1000;decide,?_⟩
   rw[Ti _ _ _ _ _ _ _ (by decide +kernel) (by decide +kernel) (by decide +kernel)]
   exact q _ (fun b x hb ne=>by rw[zm ne,zm ne,zm ne];exact f1 _ _ hb ne) zj
  | flat hn ha=>cases hk
  | share hn hp hw=>cases hk
  | least hn hp ha hw=>cases hk
theorem GS {Cs:Nat→Addr} (F:qJ K "__init__" "Least.__init__" (zE (top 50) 0) f fd) (RK:uD K Cs) (CR:uJ P w K mg base z8 4 "Rule" "__init__" ["self","name"] (uK Cs)) (C1:qN P w K mg base z8 4 "need_share" ["parts","way"] vU) (C2:qN P w K mg base z8 4 "need_rule_amount" ["thing"] wa):zL P w K mg base z8 5 f fd ["self","name","parts","least","way"] (yD 3 Cs):=by
 refine F.ok (N:=["self","name","parts","least","way"]) (by walk_at"s") (fun vs H Q E h=>?_) (fun cdv A outer s H vs Q E hr h=>?_)
 ·obtain⟨o,dx,r,rfl,hk,pl,_⟩:=h
  cases pl <;> first | rfl | cases hk
 ·obtain⟨o,dx,r,rfl,hk,pl,ho,q⟩:=h
  cases pl with
  | least hn hp ha hw =>
   refine⟨_,zh (z4 (y9 CR hr (by decide) zC (za (pv 0) (za (pv 1) zd)))) (zh (z4 (zp C1 hr (by decide) zC (za (pv 2) (za (pv 4) zd)))) (zh (z4 (zp C2 hr (by decide) zC (za (pv 3) zd))) (zh (yt (pv 0) (pv 2) rfl) (zh (yt (pv 0) (pv 3) rfl) (zi (yt (pv 0) (pv 4) rfl)))))),?_⟩
   refine⟨_,rfl,_,rfl,3,o,dx,_,rfl,by decide,ho,hn,fun H1 f1 e1=>⟨_,rfl,_,rfl,_,_,rfl,hp,hw,_,rfl,_,rfl,ha,_,rfl,_,rfl,o,_,dx,_,rfl,e1,RK.cls 3 (by decide),RK.no 3 (by decide) "parts" (by decide),by show 1<1000;decide,?_⟩⟩
   rw[Np _ _ _ (by decide +kernel)]
   refine⟨_,rfl,_,rfl,o,_,dx,_,rfl,zj,RK.cls 3 (by decide),RK.no 3 (by decide) "least" (by decide),by show 2<1000;decide,?_⟩
   rw[rh _ _ _ _ _ (by decide +kernel) (by decide +kernel)]
   refine⟨_,rfl,_,rfl,o,_,dx,_,rfl,zj,RK.cls 3 (by decide),RK.no 3 (by decide) "way" (by decide),by show 3<1000;decide,?_⟩
   rw[Ti _ _ _ _ _ _ _ (by decide +kernel) (by decide +kernel) (by decide +kernel)]
   exact q _ (fun b x hb ne=>by rw[zm ne,zm ne,zm ne];exact f1 _ _ hb ne) zj
  | flat hn ha=>cases hk
  | share hn hp hw=>cases hk
  | capped hn hp ha hw=>cases hk
theorem L9 {Cs:Nat→Addr} (F:qJ K "row" "Flat.row" (zE (top 47) 2) f fd) (G:vw mg) (RK:uD K Cs):zL P w K mg base z8 1 f fd ["self"] (jY 0 Cs):=by
 refine F.ok (N:=["self"]) (by walk_at"s") (fun vs H Q E h=>?_) (fun cdv A outer s H vs Q E hr h=>?_)
 ·obtain⟨v,r,rfl,_⟩:=h
  rfl
 ·obtain⟨v,r,rfl,hk,⟨o,dx,rfl,ho⟩,pl,q⟩:=h
  have jo:=QQ pl
  cases pl with
  | flat hn ha =>
   refine⟨_,zi (zx (yL PySem.F.plainAttrs_str PySem.F.slot_str_join PySem.F.type_str_join jj zt (za (zS (za zt (za (z5 (pv 0) rfl) (za (qk qr rfl G.str qH (za (z5 (pv 0) rfl) zd)) zd)))) zd))),?_⟩
   exact⟨rfl,_,rfl,o,_,dx,_,_,rfl,ho,RK.cls 0 (by decide),RK.no 0 (by decide) "name" (by decide),rfl,_,rfl,o,_,dx,_,_,rfl,ho,RK.cls 0 (by decide),RK.no 0 (by decide) "amount" (by decide),rfl,_,rfl,ZC ha,qa rfl,fun l H1 s1 n1 e1=>⟨_,(vm (Rk.flat _ _)).map Ym,l,rfl,rfl,zZ.of e1,jo,q H1 s1⟩⟩
  | share hn hp hw=>cases hk
  | capped hn hp ha hw=>cases hk
  | least hn hp ha hw=>cases hk
theorem Le {Cs:Nat→Addr} (F:qJ K "row" "Share.row" (zE (top 48) 2) f fd) (G:vw mg) (RK:uD K Cs):zL P w K mg base z8 1 f fd ["self"] (jY 1 Cs):=by
 refine F.ok (N:=["self"]) (by walk_at"s") (fun vs H Q E h=>?_) (fun cdv A outer s H vs Q E hr h=>?_)
 ·obtain⟨v,r,rfl,_⟩:=h
  rfl
 ·obtain⟨v,r,rfl,hk,⟨o,dx,rfl,ho⟩,pl,q⟩:=h
  have jo:=QQ pl
  cases pl with
  | share hn hp hw =>
   refine⟨_,zi (zx (yL PySem.F.plainAttrs_str PySem.F.slot_str_join PySem.F.type_str_join jj zt (za (zS (za zt (za (z5 (pv 0) rfl) (za (qk qr rfl G.str qH (za (z5 (pv 0) rfl) zd)) (za (z5 (pv 0) rfl) zd))))) zd))),?_⟩
   exact⟨rfl,_,rfl,o,_,dx,_,_,rfl,ho,RK.cls 1 (by decide),RK.no 1 (by decide) "name" (by decide),rfl,_,rfl,o,_,dx,_,_,rfl,ho,RK.cls 1 (by decide),RK.no 1 (by decide) "parts" (by decide),rfl,_,rfl,wz hp,_,rfl,o,_,dx,_,_,rfl,ho,RK.cls 1 (by decide),RK.no 1 (by decide) "way" (by decide),rfl,qa rfl,fun l H1 s1 n1 e1=>⟨_,(vm (Rk.share _ _ _)).map Ym,l,rfl,rfl,zZ.of e1,jo,q H1 s1⟩⟩
  | flat hn ha=>cases hk
  | capped hn hp ha hw=>cases hk
  | least hn hp ha hw=>cases hk
theorem LP {Cs:Nat→Addr} (F:qJ K "row" "Capped.row" (zE (top 49) 2) f fd) (G:vw mg) (RK:uD K Cs):zL P w K mg base z8 1 f fd ["self"] (jY 2 Cs):=by
 refine F.ok (N:=["self"]) (by walk_at"s") (fun vs H Q E h=>?_) (fun cdv A outer s H vs Q E hr h=>?_)
 ·obtain⟨v,r,rfl,_⟩:=h
  rfl
 ·obtain⟨v,r,rfl,hk,⟨o,dx,rfl,ho⟩,pl,q⟩:=h
  have jo:=QQ pl
  cases pl with
  | capped hn hp ha hw =>
   refine⟨_,zi (zx (yL PySem.F.plainAttrs_str PySem.F.slot_str_join PySem.F.type_str_join jj zt (za (zS (za zt (za (z5 (pv 0) rfl) (za (qk qr rfl G.str qH (za (z5 (pv 0) rfl) zd)) (za (qk qr rfl G.str qH (za (z5 (pv 0) rfl) zd)) (za (z5 (pv 0) rfl) zd)))))) zd))),?_⟩
   exact⟨rfl,_,rfl,o,_,dx,_,_,rfl,ho,RK.cls 2 (by decide),RK.no 2 (by decide) "name" (by decide),rfl,_,rfl,o,_,dx,_,_,rfl,ho,RK.cls 2 (by decide),RK.no 2 (by decide) "parts" (by decide),rfl,_,rfl,wz hp,_,rfl,o,_,dx,_,_,rfl,ho,RK.cls 2 (by decide),RK.no 2 (by decide) "most" (by decide),rfl,_,rfl,ZC ha,_,rfl,o,_,dx,_,_,rfl,ho,RK.cls 2 (by decide),RK.no 2 (by decide) "way" (by decide),rfl,qa rfl,fun l H1 s1 n1 e1=>⟨_,(vm (Rk.capped _ _ _ _)).map Ym,l,rfl,rfl,zZ.of e1,jo,q H1 s1⟩⟩
  | flat hn ha=>cases hk
  | share hn hp hw=>cases hk
  | least hn hp ha hw=>cases hk
theorem lT {Cs:Nat→Addr} (F:qJ K "row" "Least.row" (zE (top 50) 2) f fd) (G:vw mg) (RK:uD K Cs):zL P w K mg base z8 1 f fd ["self"] (jY 3 Cs):=by
 refine F.ok (N:=["self"]) (by walk_at"s") (fun vs H Q E h=>?_) (fun cdv A outer s H vs Q E hr h=>?_)
 ·obtain⟨v,r,rfl,_⟩:=h
  rfl
 ·obtain⟨v,r,rfl,hk,⟨o,dx,rfl,ho⟩,pl,q⟩:=h
  have jo:=QQ pl
  cases pl with
  | least hn hp ha hw =>
   refine⟨_,zi (zx (yL PySem.F.plainAttrs_str PySem.F.slot_str_join PySem.F.type_str_join jj zt (za (zS (za zt (za (z5 (pv 0) rfl) (za (qk qr rfl G.str qH (za (z5 (pv 0) rfl) zd)) (za (qk qr rfl G.str qH (za (z5 (pv 0) rfl) zd)) (za (z5 (pv 0) rfl) zd)))))) zd))),?_⟩
   exact⟨rfl,_,rfl,o,_,dx,_,_,rfl,ho,RK.cls 3 (by decide),RK.no 3 (by decide) "name" (by decide),rfl,_,rfl,o,_,dx,_,_,rfl,ho,RK.cls 3 (by decide),RK.no 3 (by decide) "parts" (by decide),rfl,_,rfl,wz hp,_,rfl,o,_,dx,_,_,rfl,ho,RK.cls 3 (by decide),RK.no 3 (by decide) "least" (by decide),rfl,_,rfl,ZC ha,_,rfl,o,_,dx,_,_,rfl,ho,RK.cls 3 (by decide),RK.no 3 (by decide) "way" (by decide),rfl,qa rfl,fun l H1 s1 n1 e1=>⟨_,(vm (Rk.least _ _ _ _)).map Ym,l,rfl,rfl,zZ.of e1,jo,q H1 s1⟩⟩
  | flat hn ha=>cases hk
  | share hn hp hw=>cases hk
  | capped hn hp ha hw=>cases hk
end
end K11
namespace Pg
open PySem L2
noncomputable def yQ:Sp:=fun vs H Q _=>∃ c k,vs=[.int c,.int k]∧∀ m,0≤m→m<1000003→Q (.int m) H
noncomputable def Xr:Sp:=fun vs H Q _=>∃ c k,vs=[.int c,.int k]∧∀ a H',YZ a→zq H H'→Q (.int a) H'
noncomputable def ZS:Sp:=fun vs H Q _=>∃ c k,vs=[.int c,.int k]∧∀ a H',QB a→zq H H'→Q (.int a) H'
noncomputable def Vs:Sp:=fun vs H Q _=>∃ c k,vs=[.int c,.int k]∧∀ w H',Jd w→zq H H'→Q (.str w) H'
noncomputable def ck (bs:List Int):Prop:=∀ b∈bs,0≤b
theorem Md {z:Str} {A B:Prop} (h:A):if decide (V.str z=V.str z)=true then A else B:=by
 rw[if_pos (decide_eq_true rfl)]
 exact h
theorem pN {x y:Str} {A B:Prop} (n:x≠y) (h:B):if decide (V.str x=V.str y)=true then A else B:=by
 rw[if_neg fun k=>n (V.str.inj (of_decide_eq_true k))]
 exact h
theorem nU {i:Int} (h0:0≤i) (h1:i<4):∃ w,kT [V.str "down",.str "up",.str "near",.str "even"] i=some (.str w)∧Jd w:=by
 obtain⟨v,ev,mv⟩:=yV (xs:=[V.str "down",.str "up",.str "near",.str "even"]) (i:=i) h0 h1
 simp only[cy,cA,or_false] at mv
 rcases mv with rfl | rfl | rfl | rfl
 ·exact⟨_,ev,by unfold Jd;decide +kernel⟩
 ·exact⟨_,ev,by unfold Jd;decide +kernel⟩
 ·exact⟨_,ev,by unfold Jd;decide +kernel⟩
 ·exact⟨_,ev,by unfold Jd;decide +kernel⟩
theorem xv {H:Hp} (xs:List V):q9 H xs xs (fun _ v x=>v=x):=⟨rfl,fun i y h=>⟨y,h,fun _ _=>rfl⟩⟩
theorem GW {r:Rk} (h:xH r):∀ v∈vm r,(∃ i,v = .int i∧i.natAbs.log2<1920)∨∃ z,v = .str z:=by
 intro v hv
 cases h with
 | flat hn ha =>
  simp only[vm,cy,cA,or_false] at hv
  rcases hv with rfl | rfl | rfl
  ·exact .inr ⟨_,rfl⟩
  ·exact .inr ⟨_,rfl⟩
  ·exact .inl ⟨_,rfl,ZC ha⟩
 | share hn hp hw =>
  simp only[vm,cy,cA,or_false] at hv
  rcases hv with rfl | rfl | rfl | rfl
  ·exact .inr ⟨_,rfl⟩
  ·exact .inr ⟨_,rfl⟩
  ·exact .inl ⟨_,rfl,wz hp⟩
  ·exact .inr ⟨_,rfl⟩
 | capped hn hp ha hw =>
  simp only[vm,cy,cA,or_false] at hv
  rcases hv with rfl | rfl | rfl | rfl | rfl
  ·exact .inr ⟨_,rfl⟩
  ·exact .inr ⟨_,rfl⟩
  ·exact .inl ⟨_,rfl,wz hp⟩
  ·exact .inl ⟨_,rfl,ZC ha⟩
  ·exact .inr ⟨_,rfl⟩
 | least hn hp ha hw =>
  simp only[vm,cy,cA,or_false] at hv
  rcases hv with rfl | rfl | rfl | rfl | rfl
  ·exact .inr ⟨_,rfl⟩
  ·exact .inr ⟨_,rfl⟩
  ·exact .inl ⟨_,rfl,wz hp⟩
  ·exact .inl ⟨_,rfl,ZC ha⟩
  ·exact .inr ⟨_,rfl⟩
theorem Px {r:Rk} (h:xH r):∃ z l,vm r = .str z::l∧z≠"bands"∧z≠"ontop"∧l.length≤4:=by
 cases h with
 | flat hn ha=>exact⟨_,_,rfl,by decide +kernel,by decide +kernel,Cf rfl⟩
 | share hn hp hw=>exact⟨_,_,rfl,by decide +kernel,by decide +kernel,Cf rfl⟩
 | capped hn hp ha hw=>exact⟨_,_,rfl,by decide +kernel,by decide +kernel,Cf rfl⟩
 | least hn hp ha hw=>exact⟨_,_,rfl,by decide +kernel,by decide +kernel,Cf rfl⟩
theorem Lx {r:Rk} (h:xH r):(Ng r).lookup ("name":Str)=some (.str r.name):=by cases h <;> rfl
theorem N6 {r:Rk} (h:xH r):kT (vm r) 1=some (.str r.name):=by cases h <;> rfl
theorem qw {H H':Hp} {o dx C:Addr} (o0:H o=none) (d0:H dx=none) (fr:∀ b x,(upd (upd H dx (.own o)) o (.ins C dx [])) b=some x→b≠o→H' b=some x):zq H H':=fun b x hb=>by
 have bo:=zA hb o0
 refine fr b x ?_ bo
 rw[zm bo,zm (zA hb d0)]
 exact hb
open PySem.NumText
noncomputable def wh (u:List Nat):List Nat:=u.take (u.length - 3)
noncomputable def QF (l:List Nat):Bool:=Yg l&&(decide (l=[48]) || !decide (l.head? = some 48))
noncomputable def gg:Sp:=fun vs H Q _=>∃ z,vs=[.str z]∧z.length≤1000∧∀ H',zq H H'→Q (.bl (QF z.cps.toList)) H'
theorem Wk (z y:Str):decide (V.str z=V.str y)=decide (z.cps.toList=y.cps.toList):=decide_eq_decide.mpr ⟨fun h=>by injection h with h;rw[h],fun h=>by rw[Jz h]⟩
theorem WO (z:Str) (c:Nat):Txt.startswith z ⟨#[c]⟩=decide (z.cps.toList.head? = some c):=by
 unfold Txt.startswith Builtin.Str.subAt
 obtain⟨⟨l⟩⟩:=z
 show (decide (0+1≤l.length)&&((Array.mk l).extract 0 (0+1) == #[c]))=decide (l.head? = some c)
 cases l with
 | nil=>rfl
 | cons a l =>
  have e:(Array.mk (a::l)).extract 0 (0+1) = #[a]:=by
   apply Array.ext'
   simp
  rw[e,decide_eq_true (by rw[Cr];omega),Cn]
  by_cases h:a=c
  ·subst h
   simp
  ·rw[decide_eq_false (by intro q;exact h (Option.some.inj q))]
   simp[h]
theorem UH:("0":Str)=⟨#[48]⟩:=by decide +kernel
end Pg
namespace Pg
open PySem L2
noncomputable def smC:List Nat:=[97,99,100,102,103,104,105,106,107,108,111,112,113,114,116,117,118,119,120,121,122]
noncomputable def ZL (c:Nat):Bool:=smC.contains c
theorem OC:("acdfghijklopqrtuvwxyz":Str).cps.toList=smC:=by decide +kernel
theorem tN {i:Int} (h0:0≤i) (h1:i<21):∃ c,kT ("acdfghijklopqrtuvwxyz":Str).cps.toList i=some c∧ZL c=true:=by
 rw[OC]
 obtain⟨c,e,m⟩:=yV (xs:=smC) h0 h1
 exact⟨c,e,CK.mpr m⟩
theorem Wz {c:Nat} (h:ZL c=true):YJ c=true:=by
 have m:=CK.mp h
 have all:smC.all YJ=true:=by decide +kernel
 exact Cm.mp all c m
theorem Z2 {z:Str} (h1:1≤z.cps.toList.length) (h2:z.cps.toList.length≤8) (h3:z.cps.toList.all YJ=true) (h4:∀ w∈noNames,z.cps.toList≠w.cps.toList):qT z:=by
 refine⟨⟨by rw[qB];exact h1,by rw[qB];exact h2,h3⟩,?_⟩
 cases e:noNames.contains z with
 | false=>rfl
 | true=>exact absurd rfl (h4 z (CK.mp e))
theorem nV:∀ w∈noNames,2≤w.cps.toList.countP (fun c=>!ZL c):=by
 have all:(noNames.all fun w=>decide (2≤w.cps.toList.countP (fun c=>!ZL c)))=true:=by decide +kernel
 exact fun w h=>of_decide_eq_true (Cm.mp all w h)
theorem TF:∀ w∈noNames,w.cps.toList.head?≠some 113:=by
 have all:(noNames.all fun w=>decide (w.cps.toList.head?≠some 113))=true:=by decide +kernel
 exact fun w h=>of_decide_eq_true (Cm.mp all w h)
theorem QX {l:List Nat} (h:∀ c∈l,ZL c=true):l.countP (fun c=>!ZL c)=0:=by
 rw[List.countP_eq_zero]
 intro c hc
 rw[h c hc]
 decide
theorem Gs {z:Str} {fs:List Nat} {c k m:Nat} (hf:∀ c∈fs,ZL c=true) (hl:fs.length=7) (hc:YJ c=true) (hk:k≤m) (hm:m≤7) (e:z.cps.toList=fs.take k++[c]++(fs.drop k).take (m - k)):qT z:=by
 have ha:∀ x∈fs.take k,ZL x=true:=fun x hx=>hf x (CV hx)
 have hb:∀ x∈(fs.drop k).take (m - k),ZL x=true:=fun x hx=>hf x (List.mem_of_mem_drop (CV hx))
 have len:z.cps.toList.length=m+1:=by
  rw[e,cG,cG,Ci,Ci,dG,hl,Cp]
  omega
 refine Z2 (by omega) (by omega) ?_ fun w hw ew=>?_
 ·rw[e,dS,dS,cz,cz]
  refine⟨⟨Cm.mpr fun x hx=>Wz (ha x hx),?_⟩,Cm.mpr fun x hx=>Wz (hb x hx)⟩
  show (YJ c&&true)=true
  rw[hc]
  rfl
 ·have t:=nV w hw
  rw[← ew,e,List.countP_append,List.countP_append,QX ha,QX hb] at t
  have:[c].countP (fun c=>!ZL c)≤1:=List.countP_le_length
  omega
theorem mR {z:Str} {fs:List Nat} {k:Nat} (hf:∀ c∈fs,ZL c=true) (hl:fs.length=7) (e:z.cps.toList=113::fs.take k):qT z:=by
 refine Z2 ?_ ?_ ?_ fun w hw ew=>?_
 ·rw[e]
  exact Dv (Cy _)
 ·rw[e,Cr,Ci,hl]
  omega
 ·rw[e,CZ,cz]
  exact⟨by decide +kernel,Cm.mpr fun x hx=>Wz (hf x (CV hx))⟩
 ·have t:=TF w hw
  rw[← ew,e] at t
  exact t rfl
noncomputable def okNames:List Str:=["bases","nets","months","sum","ne","basis","bet","sumsum","netnet","mont"]
theorem Wy:∀ z∈okNames,qT z:=by
 have all:(okNames.all fun z=>decide (1≤z.cps.toList.length)&&decide (z.cps.toList.length≤8)&&z.cps.toList.all YJ&&noNames.all fun w=>decide (z.cps.toList≠w.cps.toList))=true:=by decide +kernel
 intro z hz
 have h:=Cm.mp all z hz
 rw[cz,cz,cz] at h
 exact Z2 (of_decide_eq_true h.1.1.1) (of_decide_eq_true h.1.1.2) h.1.2 fun w hw=>of_decide_eq_true (Cm.mp h.2 w hw)
theorem kB (z:Str) (k:Nat):(Txt.slice z none (some ((k:Nat):Int))).cps.toList=z.cps.toList.take k:=by
 rw[Zr]
 unfold gn
 rw[HT.vH,HT.kg,Df,Dg]
 by_cases h:k≤z.cps.toList.length
 ·rw[CU h]
 ·rw[dM (by omega),C8 (cx _),C8 (by omega)]
theorem Lu (z:Str) (k m:Nat) (h:m≤z.cps.toList.length) (hk:k≤m):(Txt.slice z (some ((k:Nat):Int)) (some ((m:Nat):Int))).cps.toList=(z.cps.toList.drop k).take (m - k):=by
 rw[Zr]
 unfold gn
 rw[HT.vH,HT.vH,CU h,CU (cJ hk h)]
theorem OA {p:Str→Prop}:∀ {zs:List V},(∀ u∈zs,∃ z,u = .str z∧p z)→∃ nms:List Str,zs=nms.map V.str∧∀ z∈nms,p z:=by
 intro zs
 induction zs with
 | nil=>exact fun _=>⟨[],rfl,fun z h=>nomatch h⟩
 | cons u r ih =>
  intro h
  obtain⟨z,rfl,hz⟩:=h u cX
  obtain⟨nms,e,hn⟩:=ih fun v hv=>h v (cP _ hv)
  refine⟨z::nms,by rw[e];rfl,fun y hy=>?_⟩
  rcases cy.mp hy with rfl | hy
  ·exact hz
  ·exact hn y hy
theorem PV {p:Nat→Prop}:∀ {zs:List V},(∀ u∈zs,∃ c,u = .str ⟨#[c]⟩∧p c)→∃ cs:List Nat,zs=(cs.map fun c=>(⟨#[c]⟩:Str)).map V.str∧∀ c∈cs,p c:=by
 intro zs
 induction zs with
 | nil=>exact fun _=>⟨[],rfl,fun z h=>nomatch h⟩
 | cons u r ih =>
  intro h
  obtain⟨z,rfl,hz⟩:=h u cX
  obtain⟨nms,e,hn⟩:=ih fun v hv=>h v (cP _ hv)
  refine⟨z::nms,by rw[e];rfl,fun y hy=>?_⟩
  rcases cy.mp hy with rfl | hy
  ·exact hz
  ·exact hn y hy
theorem LB {α:Type} {zs:List V} {xs:List α} {p:V→Prop} (h:∀ (i:Nat) u,zs[i]? = some u→∃ x,xs[i]? = some x∧p u):∀ u∈zs,p u:=fun u hu=>by
 obtain⟨i,hi⟩:=Dh.mp hu
 obtain⟨_,_,hp⟩:=h i u hi
 exact hp
theorem tK {p:Nat→Prop} (h0:p 0) (h1:p 1) (h2:p 2) (h3:p 3):∀ i,i<4→p i
 | 0,_=>h0
 | 1,_=>h1
 | 2,_=>h2
 | 3,_=>h3
theorem t9 {p:Str→Prop} (h1:p "name") (h2:p "amount") (h3:p "parts") (h4:p "way") (h5:p "most") (h6:p "least"):∀ x∈(["name","amount","parts","way","most","least"]:List Str),p x:=by
 intro x hx
 simp only[cy,cA,or_false] at hx
 rcases hx with rfl | rfl | rfl | rfl | rfl | rfl <;> assumption
end Pg
namespace ST
open PySem PySem.Spec PyProof.Rows
noncomputable def own:List Char:="set_iterator".toList.reverse
section
variable {prog:Program} {w:World} {A:Around} {E:Value→Shared→Prop} {s:Shared}
end
section
variable {prog:Program} {w:World} {A:Around} {E:Value→Shared→Prop} {s:Shared}
noncomputable def RG (first:Value) (i n ep:Nat) (S:Addr):Obj:={ cls:=.type "set_iterator",dict:=none,data:=.fields #[first,rawInt i,.ref S,rawInt n,rawInt ep],slots:=#[] }
noncomputable def lP (es:Array (Int × Value)) (t:SetTable):Bool:=!t.plain&&decide (es.size > 1)
noncomputable def NR (t:SetTable) (i:Nat):Nat:=if i=0 then 0 else t.place.getD (i - 1) 0+1
inductive xZ (w:World) (es:Array (Int × Value)) (ep:Nat) (t:SetTable) (S T:Addr) (ord:List Value) (h:Heap) (i:Nat):Value→Prop
 | text (k:Nat):wB w=true→ord=(pickOrder (w.params.setOrder S ep) es).toList.map (·.2)→xZ w es ep t S T ord h i (rawInt k)
 | table:wB w=false→lP es t=false→vt true t→ord=es.toList.map (·.2)→xZ w es ep t S T ord h i (rawInt (NR t i))
 | drawn (ps:List Nat):wB w=false→h.get? T=some (seqObj "tuple" (ps.map fun (p:Nat)=>rawInt p).toArray 0)→ps.Perm (List.range es.size)→ord=ps.map (fun p=>(es.getD p (0,.none)).2)→xZ w es ep t S T ord h i (.ref T)
end
section
variable {prog:Program} {w:World} {A:Around} {E:Value→Shared→Prop} {s:Shared}
structure It (w:World) (es:Array (Int × Value)) (ep:Nat) (t:SetTable) (S T I:Addr) (ord:List Value) (i:Nat) (h:Heap):Prop where
 it:∃ first,h.get? I=some (RG first i es.size ep S)∧xZ w es ep t S T ord h i first
 set:∃ o,h.get? S=some o∧o.data = .set es ep t
 fits:t.fits es.size=true
end
section
variable {prog:Program} {w:World} {A:Around} {E:Value→Shared→Prop} {s:Shared}
end
section
variable {prog:Program} {w:World} {A:Around} {E:Value→Shared→Prop} {s:Shared}
end
section
variable {prog:Program} {w:World} {A:Around} {E:Value→Shared→Prop} {s:Shared}
end
section
variable {prog:Program} {w:World} {A:Around} {E:Value→Shared→Prop} {s:Shared}
end
end ST
namespace L2
open PySem PySem.Spec PyProof.Rows
section
variable {X:Cx} {pins:List (Addr × Obj)} {σ:St} {H:Hp} {s:Shared} {a:Expr} {ta:TA} {p1 p2 p3 pos:Pos}
theorem Je:∀ {us:List Value} {ys:List Int},IntsAre us ys→qf (ys.map V.int) us:=by
 intro us ys h
 induction h with
 | nil=>exact .nil
 | cons n t _ ih=>exact .cons ⟨t,rfl⟩ ih
end
section
variable {X:Cx} {A:Around} {E:Value→Shared→Prop} {pins:List (Addr × Obj)} {σ:St} {H:Hp} {s:Shared} {r:Addr} {Q:VK} {OK:List Str→Prop}
end
section
variable {X:Cx} {a:Expr} {ta:TA} {p1 p2 p3 pos:Pos}
end
section
variable {X:Cx} {tg a:Expr} {ta:TA} {p pos:Pos}
end
end L2
namespace PySem
namespace F
end F
end PySem
namespace L2
open PySem PySem.Spec PyProof.Rows
section
variable {prog:Program} {w:World} {A:Around} {E:Value→Shared→Prop} {s:Shared}
end
section
variable {X:Cx} {tg a:Expr} {ta:TA} {p pos:Pos}
end
end L2
namespace Pg
open PySem L2
noncomputable def cg (a b:Int):Int:=if b > a then b else a
noncomputable def BO (a b:Int):Int:=if b<a then b else a
noncomputable def BY (r:List (Int × Int)) (t:Int):Int:=match r with
 | []=>t
 | q::_=>BO t q.1
noncomputable def pc (b:Int) (r:List (Int × Int)) (t:Int):Int:=cg 0 (BY r t - b)
noncomputable def rG:List (Int × Int)→Int→Int
 | [],_=>0
 | q::r,t=>q.2*pc q.1 r t+rG r t
noncomputable def Up (ps:List (Int × Int)):Prop:=ps.Pairwise fun x y=>x.1<y.1
noncomputable def cB (q:Int × Int):List V:=[.int q.1,.int q.2]
noncomputable def vA (H:Hp) (u:Addr) (ps:List (Int × Int)):Prop:=∃ ys,H u=some (.tup ys)∧qd H ys (ps.map cB)
theorem vA.same {H H':Hp} {u:Addr} {ps:List (Int × Int)} (s:zq H H') (h:vA H u ps):vA H' u ps:=by
 obtain⟨ys,e,t⟩:=h
 exact⟨ys,s _ _ e,t.same s⟩
structure ZK (ps:List (Int × Int)):Prop where
 few:ps.length≤12
 hd:∃ p r,ps=((0:Int),p)::r
 ok:∀ q∈ps,YZ q.1∧QB q.2
 up:Up ps
inductive Gd:Nat→Rk→Prop where
 | pln {d:Nat} {r:Rk}:xH r→Gd d r
 | bands {d:Nat} {n w:Str} {ps:List (Int × Int)}:qT n→ZK ps→Jd w→Gd d (.bands n ps w)
 | ontop {d:Nat} {n w:Str} {p:Int} {r:Rk}:qT n→QB p→Jd w→Gd d r→Gd (d+1) (.ontop n p w r)
theorem Gd.mono {d:Nat} {r:Rk} (h:Gd d r):Gd (d+1) r:=by
 induction h with
 | pln h=>exact .pln h
 | bands h1 h2 h3=>exact .bands h1 h2 h3
 | ontop h1 h2 h3 _ ih=>exact .ontop h1 h2 h3 ih
inductive uu (Cs:Nat→Addr) (H:Hp):Rk→V→Prop where
 | pln {r:Rk} {v:V}:r.kd<4→Gx Cs H v r→uu Cs H r v
 | bands {n w:Str} {ps:List (Int × Int)} {o dx u:Addr}:H o=some (.ins (Cs 4) dx [("name",.str n),("bands",.ref u),("way",.str w)])→vA H u ps→uu Cs H (.bands n ps w) (.ref o)
 | ontop {n w:Str} {p:Int} {r:Rk} {o dx:Addr} {x:V}:H o=some (.ins (Cs 5) dx [("name",.str n),("parts",.int p),("way",.str w),("within",x)])→uu Cs H r x→uu Cs H (.ontop n p w r) (.ref o)
theorem uu.same {Cs:Nat→Addr} {H H':Hp} {r:Rk} {v:V} (s:zq H H') (h:uu Cs H r v):uu Cs H' r v:=by
 induction h with
 | pln k h=>exact .pln k (h.same s)
 | bands h b=>exact .bands (s _ _ h) (b.same s)
 | ontop h _ ih=>exact .ontop (s _ _ h) ih
inductive Y8 (H:Hp):Rk→V→Prop where
 | pln {r:Rk} {v:V}:r.kd<4→Pa H v r→Y8 H r v
 | bands {n w:Str} {ps:List (Int × Int)} {t u:Addr}:H t=some (.tup [.str "bands",.str n,.ref u,.str w])→vA H u ps→Y8 H (.bands n ps w) (.ref t)
 | ontop {n w:Str} {p:Int} {r:Rk} {t:Addr} {x:V}:H t=some (.tup [.str "ontop",.str n,.int p,.str w,x])→Y8 H r x→Y8 H (.ontop n p w r) (.ref t)
theorem Y8.same {H H':Hp} {r:Rk} {v:V} (s:zq H H') (h:Y8 H r v):Y8 H' r v:=by
 induction h with
 | pln k h=>exact .pln k (h.same s)
 | bands h b=>exact .bands (s _ _ h) (b.same s)
 | ontop h _ ih=>exact .ontop (s _ _ h) ih
noncomputable def tE:Rk→List Int→Int
 | .bands _ ps w,bs=>rb (rG ps bs.sum) w
 | .ontop _ p w r,bs=>rb (tE r bs*p) w
 | .flat n a,bs=>Ta (.flat n a) bs
 | .share n p w,bs=>Ta (.share n p w) bs
 | .capped n p m w,bs=>Ta (.capped n p m w) bs
 | .least n p l w,bs=>Ta (.least n p l w) bs
noncomputable def yT (q:Int × Int):Str:=(toString q.1:Str) ++ ":" ++ (toString q.2:Str)
noncomputable def vv (ps:List (Int × Int)):Str:=Txt.join "," (ps.map yT)
noncomputable def Xb:List V→Hp→VK→Prop:=fun xs H Q=>∃ i,xs=[.int i]∧i.natAbs.log2<1920∧Q (.str (toString i)) H
noncomputable def Xd:R2:=fun x y H Q=>∃ i j,x = .str i∧y = .str j∧i.length+j.length≤sizeLine∧Q (.str (i++j)) H
noncomputable def jx:Rk→Str
 | .bands n ps w=>Txt.join " " ["bands",n,vv ps,w]
 | .ontop n p w r=>Txt.join " " ["ontop",n,toString p,w,"of",jx r]
 | .flat n a=>xi (.flat n a)
 | .share n p w=>xi (.share n p w)
 | .capped n p m w=>xi (.capped n p m w)
 | .least n p l w=>xi (.least n p l w)
theorem QV {r:Rk} (h:xH r):jx r=xi r:=by cases h <;> rfl
structure Qz (K:BFr) (C:Addr):Prop where
 cls:wo K C
 no:∀ x∈(["name","bands","way","parts","within"]:List Str),zU K C x
noncomputable def VY (K:BFr):Sp:=fun vs H Q _=>∃ (l:Addr) (zs:List Int),vs=[.ref l]∧zZ K H l (zs.map V.int)∧zs.length≤50∧zs.Pairwise (fun x y:Int=>x<y)∧∀ H',zq H H'→Q (.bl true) H'
noncomputable def QH:Sp:=fun vs H Q _=>∃ a q,vs=[.ref a]∧H a=some (.tup (cB q))∧YZ q.1∧QB q.2∧Q (.bl true) H
noncomputable def YL:Sp:=fun vs H Q _=>∃ u ps,vs=[.ref u]∧vA H u ps∧ZK ps∧∀ H',zq H H'→Q (.bl true) H'
noncomputable def uX (K:BFr):Sp:=fun vs H Q _=>∃ C o dx z,vs=[.ref o,.str z]∧wo K C∧zU K C "name"∧H o=some (.ins C dx [])∧qT z∧∀ H',(∀ b x,H b=some x→b≠o→H' b=some x)→H' o=some (.ins C dx [("name",.str z)])→Q .non H'
noncomputable def QY (C:Addr):Sp:=fun vs H Q _=>∃ o dx n u ps w,vs=[.ref o,.str n,.ref u,.str w]∧qT n∧ZK ps∧Jd w∧vA H u ps∧H o=some (.ins C dx []) ∧
 ∀ H' u',(∀ b x,H b=some x→b≠o→H' b=some x)→H' o=some (.ins C dx [("name",.str n),("bands",.ref u'),("way",.str w)])→vA H' u' ps→Q .non H'
noncomputable def yK (d k:Nat) (Cs:Nat→Addr):Sp:=fun vs H Q _=>∃ v r,vs=[v]∧r.kd=k∧uu Cs H r v∧Gd d r∧∀ H',zq H H'→Q (.str (jx r)) H'
noncomputable def X1:Sp:=fun vs H Q _=>∃ c,vs=[.int c]∧∀ u ps H',ZK ps→zq H H'→vA H' u ps→Q (.ref u) H'
noncomputable def Xj:Sp:=fun vs H Q _=>∃ c z k,vs=[.int c,.str z,.int k]∧qT z∧0≤k∧k<5∧∀ v r H',Gd 0 r→r.name=z→(r.kd:Int)=k→zq H H'→Y8 H' r v→Q v H'
noncomputable def Tj (K:BFr):Nat→Sp
 | 0=>fun _ _ _ _=>False
 | d+1=>fun vs H Q _=>∃ v r b bs,vs=[v,.ref b]∧Y8 H r v∧Gd d r∧zZ K H b (bs.map V.int)∧bs.length≤100∧ck bs∧∀ H',zq H H'→Q (.int (tE r bs)) H'
noncomputable def kC:Nat→Sp
 | 0=>fun _ _ _ _=>False
 | d+1=>fun vs H Q _=>∃ v r,vs=[v]∧Y8 H r v∧Gd d r∧∀ H',zq H H'→Q (.str (jx r)) H'
theorem uu.obj {Cs:Nat→Addr} {H:Hp} {r:Rk} {v:V} {d:Nat} (h:uu Cs H r v) (g:Gd d r):∃ o dx fs,v = .ref o∧H o=some (.ins (Cs r.kd) dx fs)∧fs.lookup ("name":Str)=some (.str r.name) ∧
  ∀ x∈(["until","of_month","row","twin","depth"]:List Str),fs.lookup x=none:=by
 cases h with
 | pln k h =>
  obtain⟨o,dx,rfl,h⟩:=h
  cases g with
  | pln p =>
   refine⟨o,dx,_,rfl,h,Lx p,fun x hx=>?_⟩
   simp only[cy,cA,or_false] at hx
   cases p <;> rcases hx with rfl | rfl | rfl | rfl | rfl <;> rfl
  | bands=>exact absurd k (by show ¬ (_:Nat)<4;exact Dw (Cf rfl))
  | ontop=>exact absurd k (by show ¬ (_:Nat)<4;exact Dw (Cf rfl))
 | bands h b =>
  refine⟨_,_,_,rfl,h,rfl,fun x hx=>?_⟩
  simp only[cy,cA,or_false] at hx
  rcases hx with rfl | rfl | rfl | rfl | rfl <;> rfl
 | ontop h b =>
  refine⟨_,_,_,rfl,h,rfl,fun x hx=>?_⟩
  simp only[cy,cA,or_false] at hx
  rcases hx with rfl | rfl | rfl | rfl | rfl <;> rfl
theorem vQ {H:Hp} {ys:List V} {ps:List (Int × Int)} (T:qd H ys (ps.map cB)):q9 H ys ps (fun H' v q=>∃ a,v = .ref a∧H' a=some (.tup (cB q))):=by
 refine⟨by rw[T.len,cw],fun i y e=>?_⟩
 obtain⟨a,c,rfl,h1,h2⟩:=T.of_at e
 rw[cQ] at h1
 obtain⟨q,hq,rfl⟩:=Cd.mp h1
 exact⟨q,hq,fun H' s=>⟨a,rfl,s _ _ h2⟩⟩
theorem MF {H:Hp} {ys:List V} {ps:List (Int × Int)} (T:qd H ys (ps.map cB)) {i:Nat} {q:Int × Int} (h:ps[i]? = some q):∃ a,ys[i]? = some (.ref a)∧H a=some (.tup (cB q)) :=
 T.at_ i _ (by rw[cQ,h];rfl)
theorem ju (n:Nat):(List.replicate n true).all id=true:=by
 rw[Cm]
 intro x hx
 exact (List.mem_replicate.mp hx).2
theorem V2 (zs:List Int):qp (zs.map V.int) (some 1) none=zs.tail.map V.int:=by
 unfold qp
 rw[show (1:Int)=((1:Nat):Int) from rfl,HT.vH,HT.kg,cw]
 cases zs with
 | nil=>rfl
 | cons z r =>
  rw[CU (show 1≤(z::r).length from Dv (Cy _))]
  show ((r.map V.int)).take (r.length+1 - 1)=r.map V.int
  rw[C8 (by rw[cw];omega)]
theorem R8 {zs:List Int} (h:zs.Pairwise fun x y:Int=>x<y) {i:Nat} {a b:Int} (ha:zs[i]? = some a) (hb:zs.tail[i]? = some b):a<b:=by
 rw[List.getElem?_tail] at hb
 obtain⟨h1,rfl⟩:=cW.mp ha
 obtain⟨h2,rfl⟩:=cW.mp hb
 exact Dc.mp h i (i+1) h1 h2 (dF _)
theorem Pi (xs ys:List V):List.zipWith (fun _ _=>V.bl true) xs ys=(List.replicate (min xs.length ys.length) true).map V.bl:=by
 rw[List.map_replicate]
 apply List.ext_getElem
 ·rw[List.length_zipWith,List.length_replicate]
 ·intro i h1 h2
  rw[List.getElem_zipWith,List.getElem_replicate]
theorem Pf {α:Type} (xs:List α):xs.map (fun _=>V.bl true)=(List.replicate xs.length true).map V.bl:=by
 rw[List.map_replicate]
 induction xs with
 | nil=>rfl
 | cons x r ih=>exact congrArg (V.bl true :: ·) ih
theorem kx {i:Int} (h:YZ i):(toString i:Str).length≤13:=QI (k:=13) h.1 (by decide) (by have:=h.2;have:=h.1;omega)
theorem vW {i:Int} (h:QB i):(toString i:Str).length≤5:=QI (k:=5) h.1 (by decide) (by have:=h.2;have:=h.1;omega)
theorem Gq {q:Int × Int} (h:YZ q.1) (k:QB q.2):(yT q).length≤19:=by
 have l1:=kx h
 have l2:=vW k
 have l3:((toString q.1:Str) ++ ":" ++ (toString q.2:Str)).length=(toString q.1:Str).length+1+(toString q.2:Str).length:=by rw[Str.length_append,Str.length_append];rfl
 unfold yT
 omega
theorem ue {ps:List (Int × Int)} (ok:ZK ps):JoinOk "," (ps.map yT)=true∧(vv ps).length≤252:=yz (m:=19) (k:=12) (fun z hz=>by
 obtain⟨q,hq,rfl⟩:=cH.mp hz
 exact Gq (ok.ok q hq).1 (ok.ok q hq).2) (by rw[cw];exact ok.few) (by decide +kernel) rfl
theorem u4 {w:Str} (h:Jd w):w.length≤4:=by
 have h:=CK.mp h
 unfold wayL at h
 simp only[cy,cA,or_false] at h
 rcases h with rfl | rfl | rfl | rfl <;> decide +kernel
theorem Vx {n w:Str} {ps:List (Int × Int)} (hn:qT n) (ok:ZK ps) (hw:Jd w):JoinOk " " ["bands",n,vv ps,w]=true:=by
 refine (yz (m:=252) (k:=4) (fun z hz=>?_) (cx _) (by decide +kernel) rfl).1
 have h1:=hn.ok.hi
 have h2:=(ue ok).2
 have h3:=u4 hw
 simp only[cy,cA,or_false] at hz
 rcases hz with rfl | rfl | rfl | rfl
 ·decide +kernel
 ·omega
 ·omega
 ·omega
theorem yE {xs:List V} {v:V} (h:xs.head? = some v):kT xs 0=some v:=by
 cases xs with
 | nil=>cases h
 | cons x r =>
  cases h
  exact q8 (j:=0) rfl
end Pg
namespace L2
open PySem PySem.Spec PyProof.Rows
theorem Jc {K:BFr} {D a b:Addr} {te:TE} {fin:List V→Hp→Prop} {σ:St} {H:Hp} {xs ys:List V} (ha:zZ K H a xs) (hb:zZ K H b ys) (hD:H D=none) (hz:ys.length<sizeLine) (hxy:ys.length≤xs.length) (φ:V→V→V) (he:∀ (i:Nat) x y,xs[i]? = some x→ys[i]? = some y→∀ H' R,zq H H'→(∀ H'',zq H' H''→R (φ x y) H'')→te ((σ.set 0 (some x)).set 1 (some y)) H' R) (hf:∀ H',zq H H'→H' D=some (.lst (List.zipWith φ xs ys))→fin (List.zipWith φ xs ys) H') :
  ja (bX K a b) D (UI K 2 (vp (z6 0) (vp (z6 1) Uz))) qv te fin σ (upd H D (.lst [])):=by
 refine⟨fun i m zs σ' H'=>m=ys.length - i∧i≤ys.length∧(∀ x y,(σ'.set 0 x).set 1 y=(σ.set 0 x).set 1 y)∧zq H H'∧H' D=some (.lst zs)∧zs=List.zipWith φ (xs.take i) (ys.take i),⟨ys.length,by simp,Cy _,fun _ _=>rfl,zq.upd hD,zj,rfl⟩,fun i m zs σ H ⟨_,_,_,_,h,_⟩=>h,?_⟩
 rintro i m zs σ' H' ⟨rfl,hi,hσ,s,hd,rfl⟩
 by_cases hlt:i<ys.length
 ·have hx:=cI (show i<xs.length by omega)
  have hy:=cI hlt
  have tx:xs.take (i+1)=xs.take i++[xs[i]]:=by rw[CM,hx];rfl
  have ty:ys.take (i+1)=ys.take i++[ys[i]]:=by rw[CM,hy];rfl
  refine .inr ⟨⟨xs,ys,_,_,s.seq ha,s.seq hb,hx,hy⟩,fun zs' σ2 H2=>(∀ x y,(σ2.set 0 x).set 1 y=(σ.set 0 x).set 1 y)∧zq H H2∧H2 D=some (.lst zs')∧zs'=List.zipWith φ (xs.take (i+1)) (ys.take (i+1)),fun zs' σ2 H2 p=>⟨ys.length - (i+1),by omega,rfl,hlt,p⟩,fun v H'' hy'=>?_⟩
  obtain⟨c,x,y,e1,e2,e3,e4⟩:=hy'
  obtain⟨e5,e6⟩:=e4 xs ys (s.seq ha) (s.seq hb)
  subst e1 e3
  rw[hx] at e5
  rw[hy] at e6
  cases e5
  cases e6
  refine⟨c,_,rfl,yj.of zj,rfl,_,_,rfl,_,_,rfl,rfl,?_⟩
  have s2:zq H' (upd H' c (.tup [xs[i],ys[i]])):=zq.upd e2
  unfold qv
  dsimp only
  refine qV ?_
  show te ((σ'.set 0 _).set 1 _) _ _
  rw[hσ]
  refine he i _ _ hx hy _ _ (s.trans s2) fun H3 s3=>⟨s3 _ _ (s2 _ _ hd),?_,?_,?_,zj,?_⟩
  ·rw[List.length_zipWith,Ci,Ci];omega
  ·intro x y
   rcases σ with _ | ⟨_,_ | ⟨_,_⟩⟩ <;> rfl
  ·intro b o z
   rw[zm (zA z hD)]
   exact s3 _ _ (s2 _ _ (s _ _ z))
  ·rw[tx,ty,List.zipWith_append (by rw[Ci,Ci];omega)]
   rfl
 ·have e:i=ys.length:=by omega
  subst e
  refine .inl ⟨⟨xs,ys,s.seq ha,s.seq hb,.inr (cx _)⟩,?_⟩
  have e3:List.zipWith φ (xs.take ys.length) ys=List.zipWith φ xs ys:=by
   apply Du
   intro j
   rw[List.getElem?_zipWith,List.getElem?_zipWith,List.getElem?_take]
   by_cases h:j<ys.length
   ·rw[if_pos h]
   ·rw[if_neg h,dk (l:=ys) (by omega)]
    cases xs[j]? <;> rfl
  rw[CN,e3] at hd ⊢
  exact hf H' s hd
end L2
namespace K11
open PySem PySem.NumText L2 Pg
seal PE PA PT PW PS yW PG vq PI j7 PO PK
section
variable {P:Program} {w:World} {K:BFr} {mg:Str→Option Value} {base:Heap} {f:Addr} {fd:FuncData} {d:Nat→Addr} {cR:Addr}
theorem oA (F:qJ K "rise" "rise" (top 31) f fd) (G:vw mg):zL P w K mg base z8 1 f fd ["things"] (VY K):=by
 have nc:(["thing","after"]:List Str).Nodup:=by decide +kernel
 refine F.ok (N:=["things"]) (by walk_at"s") (fun vs H Q E h=>?_) (fun cdv A outer s H vs Q E hr h=>?_)
 ·obtain⟨l,zs,rfl,_⟩:=h
  rfl
 ·obtain⟨l,zs,rfl,hl,zl,up,q⟩:=h
  refine' ⟨_,zi (zx (zy (jD rfl) rfl G.all vg (za ?comp zd))),?main⟩
  case comp =>
   refine' qm (Nc:=["thing","after"]) (cl:=[]) (src:=[none,none]) (wi:=Nm K (qi (zP 0) (qi (N9 (Nt K) (zP 0) (Qn (tC (.int 1))) kK) yd))) (g:=UI K 2 (vp (z6 0) (vp (z6 1) Uz))) (tt:=qv) (te:=jH (VD fun i j=>.bl (decide (i<j))) (zP 0) (zP 1))
    (by walk_at"c2") rfl (pF rfl G.zip (za (pv 0) (za (yi jm (pv 0) (ym ze) jc) zd))) ?hb
   case hb =>
    intro fp C' s' H'
    exact⟨QP rfl (y7 (zN (i:=0) nc rfl (Or.inl rfl)) (y7 (zN (i:=1) nc rfl (Or.inl rfl)) wW)),qj,qC kP (pv 0) (pv 1) (zI _)⟩
  refine⟨_,rfl,_,rfl,_,rfl,l,_,rfl,hl,fun p p0=>?_⟩
  have s1:zq H (upd H p (.lst (qp (zs.map V.int) (some 1) none))):=zq.upd p0
  have e1:(upd H p (.lst (qp (zs.map V.int) (some 1) none))) p=some (.lst (zs.tail.map V.int)):=by rw[zj,V2]
  refine⟨l,p,rfl,⟨_,s1.seq hl⟩,⟨_,zZ.of e1⟩,fun D hD=>Jc (s1.seq hl) (zZ.of e1) hD (by rw[cw,dQ,sizeLine_eq];omega) (by rw[cw,cw,dQ];omega) (fun _ _=>V.bl true) (fun i x y hx hy H1 R s2 r=>?_) (fun H1 s2 e2=>?_)⟩
  ·rw[cQ] at hx hy
   obtain⟨a,ha,rfl⟩:=Cd.mp hx
   obtain⟨b,hb,rfl⟩:=Cd.mp hy
   refine⟨_,rfl,_,rfl,a,b,rfl,rfl,?_⟩
   show R (V.bl (decide (a<b))) H1
   rw[decide_eq_true (R8 up ha hb)]
   exact r H1 (zq.refl _)
  ·refine⟨D,List.replicate (zs.length - 1) true,rfl,zZ.of ?_,?_⟩
   ·rw[e2,Pi,cw,cw,dQ,dM (by omega)]
   ·rw[Pg.ju]
    exact q H1 (s1.trans s2)
theorem pR (F:qJ K "is_band" "is_band" (top 53) f fd) (G:vw mg) (C1:qN P w K mg base z8 3 "is_rule_amount" ["thing"] QS) (C2:qN P w K mg base z8 3 "is_parts" ["thing"] Zb):zL P w K mg base z8 4 f fd ["thing"] QH:=by
 refine F.ok (N:=["thing"]) (by walk_at"s") (fun vs H Q E h=>?_) (fun cdv A outer s H vs Q E hr h=>?_)
 ·obtain⟨a,p,rfl,_⟩:=h
  rfl
 ·obtain⟨a,p,rfl,ha,h1,h2,q⟩:=h
  refine⟨_,(zh (zX (PW.pt (vE (qu (qt (zy zH rfl G.isinstance zv (za (pv 0) (za (yB (v:=.ty "tuple") rfl G.tuple yP rfl) zd))))) (jU (zK XY (zy z7 rfl G.len boot_len (za (pv 0) zd)) ze (zI _))))) (zi (zx yM)) zG)
    (zi (zx (yO (zp C1 hr (by decide) zC (za (zD qI (pv 0) ze) zd)) (yX (zp C2 hr (by decide) zC (za (zD qI (pv 0) ze) zd))))))),?_⟩
  refine⟨_,rfl,_,_,_,_,true,rfl,rfl,.inl (.tup ha),rfl,true,rfl,qD ⟨_,rfl,a,_,rfl,.inr (yj.of ha),rfl,_,rfl,qD ?_⟩⟩
  refine⟨_,rfl,a,_,_,_,rfl,rfl,yj.of ha,rfl,_,rfl,h1,true,rfl,qV ⟨_,rfl,a,_,_,_,rfl,rfl,yj.of ha,rfl,_,rfl,h2.1,h2.2,q⟩⟩
theorem gZ (F:qJ K "are_bands" "are_bands" (top 54) f fd) (G:vw mg) (N1:Z1 mg "MOST_BANDS" 12) (C1:qN P w K mg base z8 4 "is_band" ["thing"] QH) (C2:qN P w K mg base z8 1 "rise" ["things"] (VY K)):zL P w K mg base z8 5 f fd ["thing"] YL:=by
 obtain⟨tk,em⟩:=N1
 have nd:(["thing","borders"]:List Str).Nodup:=by decide +kernel
 have nc:(["row"]:List Str).Nodup:=by decide +kernel
 refine F.ok (N:=["thing","borders"]) (by walk_at"s") (fun vs H Q E h=>?_) (fun cdv A outer s H vs Q E hr h=>?_)
 ·obtain⟨u,ps,rfl,_⟩:=h
  rfl
 ·obtain⟨u,ps,rfl,⟨ys,hu,T⟩,ok,q⟩:=h
  refine' ⟨_,(zh (zX (PW.pt (vE (qu (qt (zy zH rfl G.isinstance zv (za (pv 0) (za (yB (v:=.ty "tuple") rfl G.tuple yP rfl) zd))))) (vE (zK kP (zy z7 rfl G.len boot_len (za (pv 0) zd)) ze (zI _)) (jU (zK wq (zy z7 rfl G.len boot_len (za (pv 0) zd)) (zY (v:=.int 12) rfl em ⟨tk,rfl⟩) (zI _)))))) (zi (zx yM)) zG)
    (zh (zX (qu (qt (zy (jD rfl) rfl G.all vg (za ?comp_2 zd)))) (zi (zx yM)) zG)
    (zh ?st_1
    (zi (zx (yO (qC qK (zD zw (pv 1) ze) ze (zI _)) (yX (zp C2 hr (by decide) zC (za (pv 1) zd))))))))),?main⟩
  case comp_2 =>
   refine' qm (Nc:=["row"]) (cl:=[]) (src:=[none]) (wi:=Vk K (zP 0)) (g:=z6 0) (tt:=qv) (te:=fun σ H Q=>qi (zP 0) yd σ H fun vs H1=>QH vs H1 Q E0)
    (by walk_at"c0") rfl (uT (pv 0)) ?hb
   case hb =>
    intro fp C' s' H'
    exact⟨zN (i:=0) nc rfl (Or.inl rfl),qj,zp C1 hr (by decide) zC (za (pv 0) zd)⟩
  case st_1 =>
   refine' vG (i:=1) (Nc:=["row"]) (cl:=[]) (src:=[none]) (wi:=Vk K (zP 0)) (g:=z6 0) (tt:=qv) (te:=jH (Zp K) (zP 0) (tC (.int 0))) nd rfl rfl
    (by walk_at"c0") rfl (uT (pv 0)) ?hb
   case hb =>
    intro fp C' s' H'
    exact⟨zN (i:=0) nc rfl (Or.inl rfl),qj,zD qI (pv 0) ze⟩
  have few:=ok.few
  have yl:ys.length=ps.length:=by rw[T.len,cw]
  obtain⟨p0,r0,ep⟩:=ok.hd
  have ne:1≤ps.length:=by rw[ep];exact Dv (Cy _)
  have hs:ps.length<sizeLine:=by rw[sizeLine_eq];omega
  refine⟨_,rfl,_,_,_,_,true,rfl,rfl,.inl (.tup hu),rfl,true,rfl,qD ⟨_,rfl,u,_,rfl,.inr (yj.of hu),_,_,rfl,rfl,_,rfl,ye (fun e=>?_) (fun _=>?_)⟩⟩
  ·have:=of_decide_eq_true e
   omega
  refine⟨_,rfl,u,_,rfl,.inr (yj.of hu),_,_,rfl,rfl,_,rfl,ye (fun e=>?_) (fun _=>?_)⟩
  ·have:=of_decide_eq_true e
   omega
  refine⟨_,rfl,u,rfl,⟨_,yj.of hu⟩,fun D hD=>jI (jN (yj.of hu)) (vQ T) hD hs (fun _=>V.bl true) (fun p hp v H1 R s1 e1 r=>?_) (fun H1 s1 e1=>?_)⟩
  ·obtain⟨a,rfl,ha⟩:=e1
   exact⟨_,rfl,a,p,rfl,ha,(ok.ok p hp).1,(ok.ok p hp).2,r H1 (zq.refl _)⟩
  refine⟨D,List.replicate ps.length true,rfl,zZ.of (by rw[e1,Pf]),?_⟩
  rw[Pg.ju]
  refine⟨true,rfl,qD ⟨_,rfl,u,rfl,⟨_,yj.of (s1 _ _ hu)⟩,fun D2 hD2=>jI (jN (yj.of (s1 _ _ hu))) (vQ (T.same s1)) hD2 hs (fun p=>V.int p.1) (fun p hp v H2 R s2 e2 r=>?_) (fun H2 s2 e2=>?_)⟩⟩
  ·obtain⟨a,rfl,ha⟩:=e2
   exact⟨_,rfl,a,_,_,_,rfl,rfl,yj.of ha,rfl,r H2 (zq.refl _)⟩
  have e2':H2 D2=some (.lst ((ps.map (·.1)).map V.int)):=by rw[e2,cV];rfl
  refine⟨_,rfl,D2,_,_,.int 0,rfl,rfl,zZ.of e2',yE (by rw[ep];rfl),rfl,true,rfl,qV ⟨_,rfl,D2,_,rfl,zZ.of e2',by rw[cw];omega,?_,fun H3 s3=>q H3 (s1.trans (s2.trans s3))⟩⟩
  exact List.pairwise_map.mpr ok.up
theorem gI (F:qJ K "__init__" "Rule.__init__" (zE (top 46) 0) f fd) (C1:qN P w K mg base z8 3 "is_rule_name" ["thing"] Y9):zL P w K mg base z8 4 f fd ["self","name"] (uX K):=by
 refine F.ok (N:=["self","name"]) (by walk_at"s") (fun vs H Q E h=>?_) (fun cdv A outer s H vs Q E hr h=>?_)
 ·obtain⟨i,o,dx,z,rfl,_⟩:=h
  rfl
 ·obtain⟨C,o,dx,z,rfl,cl,no,ho,hz,q⟩:=h
  refine⟨_,zh (zX (qu (qt (zp C1 hr (by decide) zC (za (pv 1) zd)))) qS zG) (zi (yt (pv 0) (pv 1) rfl)),?_⟩
  refine⟨_,rfl,z,rfl,hz,fun H1 s1=>⟨true,rfl,qD ⟨_,rfl,_,rfl,o,_,dx,[],rfl,s1 _ _ ho,cl,no,by decide,?_⟩⟩⟩
  rw[cq]
  exact q _ (fun b x hb ne=>by rw[zm ne];exact s1 _ _ hb) zj
theorem OY {C:Addr} (F:qJ K "__init__" "Bands.__init__" (zE (top 55) 0) f fd) (G:vw mg) (RX:Qz K C) (CR:uJ P w K mg base z8 4 "Rule" "__init__" ["self","name"] (uX K)) (C1:qN P w K mg base z8 5 "are_bands" ["thing"] YL) (C2:qN P w K mg base z8 1 "is_way" ["thing"] Vp):zL P w K mg base z8 6 f fd ["self","name","rows","way"] (QY C):=by
 have nc:(["row"]:List Str).Nodup:=by decide +kernel
 refine F.ok (N:=["self","name","rows","way"]) (by walk_at"s") (fun vs H Q E h=>?_) (fun cdv A outer s H vs Q E hr h=>?_)
 ·obtain⟨o,dx,n,u,ps,x,rfl,_⟩:=h
  rfl
 ·obtain⟨o,dx,n,u,ps,x,rfl,hn,ok,hw,bd,ho,q⟩:=h
  refine' ⟨_,zh (z4 (y9 CR hr (by decide) zC (za (pv 0) (za (pv 1) zd)))) (zh (zX (qu (qt (zp C1 hr (by decide) zC (za (pv 2) zd)))) qS zG) (zh (zX (qu (qt (zp C2 hr (by decide) zC (za (pv 3) zd)))) qS zG) (zh (yt (pv 0) (qk jK rfl G.tuple yP (za ?comp zd)) rfl) (zi (yt (pv 0) (pv 3) rfl))))),?main⟩
  case comp =>
   refine' qm (Nc:=["row"]) (cl:=[]) (src:=[none]) (wi:=Vk K (zP 2)) (g:=z6 0) (tt:=qv) (te:=UB (qi (jH (Zp K) (zP 0) (tC (.int 0))) (qi (jH (Zp K) (zP 0) (tC (.int 1))) yd)))
    (by walk_at"c0") rfl (uT (pv 2)) ?hb
   case hb =>
    intro fp C' s' H'
    exact⟨zN (i:=0) nc rfl (Or.inl rfl),qj,yg (za (zD qI (pv 0) ze) (za (zD qI (pv 0) ze) zd))⟩
  obtain⟨ys,hu,T⟩:=bd
  have few:=ok.few
  have uo:u≠o:=qG hu ho (by intro z;cases z)
  have nt:∀ c,H o≠some (.tup c):=fun c z=>by rw[ho] at z;cases z
  refine⟨_,rfl,_,rfl,C,o,dx,_,rfl,RX.cls,RX.no "name" (by decide),ho,hn,fun H1 f1 e1=>?_⟩
  have hu1:=f1 _ _ hu uo
  have T1:qd H1 ys (ps.map cB):=T.mono fun b c h=>f1 _ _ h (qG h ho (by intro z;cases z))
  refine⟨_,rfl,u,ps,rfl,⟨ys,hu1,T1⟩,ok,fun H2 s2=>⟨true,rfl,qD ⟨_,rfl,x,rfl,hw,true,rfl,qD ?_⟩⟩⟩
  have hu2:=s2 _ _ hu1
  have T2:=T1.same s2
  refine⟨_,rfl,u,rfl,⟨_,yj.of hu2⟩,fun D hD=>Zh (jN (yj.of hu2)) (vQ T2) hD (by rw[sizeLine_eq];omega) cB (fun p hp v H3 R s3 e3 r=>?_) (fun zs H3 s3 e3 T3=>?_)⟩
  ·obtain⟨a,rfl,ha⟩:=e3
   exact⟨_,rfl,a,_,_,_,rfl,rfl,yj.of ha,rfl,_,rfl,a,_,_,_,rfl,rfl,yj.of ha,rfl,qa rfl,r⟩
  refine⟨D,zs,rfl,.inl ⟨zZ.of e3,fun l l0=>?_⟩⟩
  have s4:zq H3 (upd H3 l (.tup zs)):=zq.upd l0
  have e4:(upd H3 l (.tup zs)) l=some (.tup zs):=zj
  generalize upd H3 l (.tup zs)=H4 at s4 e4
  have s24:=s2.trans (s3.trans s4)
  have eo:=s24 _ _ e1
  refine⟨_,rfl,o,_,dx,_,rfl,eo,RX.cls,RX.no "bands" (by decide),by show 1<1000;decide,?_⟩
  rw[Np _ _ _ (by decide +kernel)]
  refine⟨_,rfl,_,rfl,o,_,dx,_,rfl,zj,RX.cls,RX.no "way" (by decide),by show 2<1000;decide,?_⟩
  rw[rh _ _ _ _ _ (by decide +kernel) (by decide +kernel)]
  have lo:l≠o:=qG e4 eo (by intro z;cases z)
  have nt4:∀ c,H4 o≠some (.tup c):=fun c z=>by rw[eo] at z;cases z
  refine q _ l (fun b y hb ne=>by rw[zm ne,zm ne];exact s24 _ _ (f1 _ _ hb ne)) zj ⟨zs,by rw[zm lo,zm lo];exact e4,((T3.same s4).upd nt4).upd fun c z=>?_⟩
  rw[zj] at z
  cases z
theorem mj {Cs:Nat→Addr} {d:Nat} (F:qJ K "row" "Bands.row" (zE (top 55) 2) f fd) (G:vw mg) (RX:Qz K (Cs 4)):zL P w K mg base z8 1 f fd ["self"] (yK d 4 Cs):=by
 have nd:(["self","pairs"]:List Str).Nodup:=by decide +kernel
 have nc:(["band"]:List Str).Nodup:=by decide +kernel
 refine F.ok (N:=["self","pairs"]) (by walk_at"s") (fun vs H Q E h=>?_) (fun cdv A outer s H vs Q E hr h=>?_)
 ·obtain⟨v,r,rfl,_⟩:=h
  rfl
 ·obtain⟨v,r,rfl,hk,ro,gd,q⟩:=h
  cases gd with
  | pln p=>cases p <;> cases hk
  | ontop=>cases hk
  | @bands _ n x ps hn ok hw =>
   cases ro with
   | pln k _=>exact absurd k (by show ¬ (4:Nat)<4;decide)
   | @bands _ _ _ o dx u ho bd =>
    obtain⟨ys,hu,T⟩:=bd
    have few:=ok.few
    refine' ⟨_,zh (zQ (i:=1) nd rfl (Or.inl rfl) (yL PySem.F.plainAttrs_str PySem.F.slot_str_join PySem.F.type_str_join jj zt (za ?comp zd))) (zi (zx (yL PySem.F.plainAttrs_str PySem.F.slot_str_join PySem.F.type_str_join jj zt (za (zS (za zt (za (z5 (pv 0) rfl) (za (pv 1) (za (z5 (pv 0) rfl) zd))))) zd)))),?main⟩
    case comp =>
     refine' qm (Nc:=["band"]) (cl:=[]) (src:=[none]) (wi:=Vk K (Pu K (zP 0) "bands")) (g:=z6 0) (tt:=qv) (te:=jH Xd (jH Xd (N8 Xb (qi (jH (Zp K) (zP 0) (tC (.int 0))) yd)) (tC (.str ":"))) (N8 Xb (qi (jH (Zp K) (zP 0) (tC (.int 1))) yd)))
      (by walk_at"c0") rfl (uT (z5 (pv 0) rfl)) ?hb
     case hb =>
      intro fp C' s' H'
      exact⟨zN (i:=0) nc rfl (Or.inl rfl),qj,zu qg (zu qg (qk qr rfl G.str qH (za (zD qI (pv 0) ze) zd)) zt) (qk qr rfl G.str qH (za (zD qI (pv 0) ze) zd))⟩
    refine⟨rfl,_,rfl,o,_,dx,_,_,rfl,ho,RX.cls,RX.no "bands" (by decide),rfl,u,rfl,⟨_,yj.of hu⟩,fun D hD=>jI (jN (yj.of hu)) (vQ T) hD (by rw[sizeLine_eq];omega) (fun p=>.str (yT p)) (fun p hp v H1 R s1 e1 r=>?_) (fun H1 s1 e1=>?_)⟩
    ·obtain⟨a,rfl,ha⟩:=e1
     have hb:=ok.ok p hp
     have l1:=kx hb.1
     have l2:=vW hb.2
     have l3:((toString p.1:Str) ++ ":").length=(toString p.1:Str).length+1:=Str.length_append ..
     exact⟨_,rfl,a,_,_,_,rfl,rfl,yj.of ha,rfl,_,rfl,ZC hb.1,_,_,rfl,rfl,by rw[sizeLine_eq];show (toString p.1:Str).length+1≤_;omega,_,rfl,a,_,_,_,rfl,rfl,yj.of ha,rfl,_,rfl,wz hb.2,_,_,rfl,rfl,by rw[l3,sizeLine_eq];omega,r H1 (zq.refl _)⟩
    ·have jb:=ue ok
     have jr:=Vx hn ok hw
     have ho1:=s1 _ _ ho
     refine⟨_,ps.map yT,D,rfl,rfl,zZ.of (by rw[e1,cV];rfl),jb.1,rfl,_,rfl,o,_,dx,_,_,rfl,ho1,RX.cls,RX.no "name" (by decide),rfl,_,rfl,_,rfl,o,_,dx,_,_,rfl,ho1,RX.cls,RX.no "way" (by decide),rfl,qa rfl,fun l H2 s2 n2 e2=>⟨_,["bands",n,vv ps,x],l,rfl,rfl,zZ.of e2,jr,q H2 (s1.trans s2)⟩⟩
end
end K11
set_option maxHeartbeats 1000000
namespace L2
open PySem PySem.Spec PyProof.Rows PySem.W
section
variable {X:Cx} {A:Around} {E:Value→Shared→Prop} {pins:List (Addr × Obj)} {σ:St} {H:Hp} {s:Shared} {a kS:Addr} {e e1:Nat} {keys:Array Value} {vs:List Value} {m:Nat→Int} {nm:Nat→Str} {P:PySem.Fin→Shared→Prop}
end
section
variable {X:Cx} {p:Str} {scope:Scope} {c P:Addr} {params:Arguments} {body a:Expr} {pos lpos kpos p1:Pos} {ta te:TE}
end
end L2
namespace L2
open PySem PySem.Spec PyProof.Rows
end L2
namespace Pg
open PySem L2
noncomputable def cj (a b:Str):Bool:=decide (¬ b.cps.toList<a.cps.toList)
noncomputable def Bi (ks:List Str):List Str:=ks.mergeSort cj
theorem uG {xs:List V} {k:Nat}:qp xs none (some (k:Int))=xs.take k:=by
 unfold qp
 rw[HT.kg,HT.vH,Df,Dg]
 by_cases h:k≤xs.length
 ·rw[CU h]
 ·rw[dM (by omega),CN,C8 (by omega)]
theorem oM {xs:List V} {k:Nat}:qp xs (some (k:Int)) none=xs.drop k:=by
 unfold qp
 rw[HT.kg,HT.vH,← dG,CN]
 by_cases h:k≤xs.length
 ·rw[CU h]
 ·rw[dM (by omega),List.drop_length,List.drop_eq_nil_of_le (by omega)]
section
variable {α:Type} {H:Hp} {ys zs:List V} {xs us:List α} {P:Hp→V→α→Prop}
end
end Pg
namespace L2
open PySem PySem.Spec PyProof.Rows
noncomputable def FT (H H':Hp):Prop:=∀ b c,H b=some (.tup c)→H' b=some (.tup c)
noncomputable def Up {α:Type} (P:Hp→V→α→Prop):Prop:=∀ H H' v x,FT H H'→P H v x→P H' v x
section
variable {α β:Type} {J:It} {D:Addr} {tt:TT} {te:TE} {fin:List V→Hp→Prop} {σ:St} {H H':Hp} {ys zs:List V} {xs:List α} {P:Hp→V→α→Prop} {K:BFr}
end
end L2
namespace Pg
open PySem L2
inductive En where
 | wage (p:Str) (m r a:Int)
 | extra (p:Str) (m a:Int)
noncomputable def cE:En→List V
 | .wage p m r a=>[.str "wage",.str p,.int m,.int r,.int a]
 | .extra p m a=>[.str "extra",.str p,.int m,.int a]
structure Pt where
 d:Int
 k:Str
 t:Option En
noncomputable def bS (l:List Str):List Str:=l.foldr (fun x r=>if x∈r then r else x::r) []
noncomputable def Ry (z:Str) (ps:List Pt):List (Int × Option En):=(ps.filter fun p=>decide (p.k=z)).map fun p=>(p.d,p.t)
noncomputable def BX (l:List (Int × Option En)) (D:Int):Option En:=(l.reverse.find? fun q=>decide (q.1≤D)).bind (·.2)
noncomputable def BU (ps:List Pt):List Str:=Bi (bS (ps.map (·.k)))
noncomputable def kn (ps:List Pt) (D:Int):List (Str × En):=(BU ps).filterMap fun z=>(BX (Ry z ps) D).map fun e=>(z,e)
noncomputable def own (J t:Addr) (ms:List (Str × Addr)):List Addr:=J::t::ms.map (·.2)
noncomputable def dE (e:En):Dt:=.t ((cE e).map Dt.v)
noncomputable def BS (q:Str × En):Dt:=.t [.v (.str q.1),dE q.2]
inductive Fd where
 | k (ks:List (Str × En))
 | n (ss:List Str)
noncomputable def Fd.dt:Fd→List Dt
 | .k ks=>ks.map BS
 | .n ss=>ss.map fun z=>.v (.str z)
section
variable {C:Addr} {H H':Hp} {J dx t:Addr} {ms:List (Str × Addr)} {ld:Int} {ps:List Pt}
end
theorem uM {H H':Hp} {l:Addr} (s:zq H H') (h:H' l=none):H l=none:=by
 cases e:H l with
 | none=>rfl
 | some o=>rw[s _ _ e] at h;cases h
structure GB (ps:List (Int × Int)) (n:Nat):Prop where
 few:ps.length≤n+1
 hd:∃ p r,ps=((0:Int),p)::r
 ok:∀ q∈ps,YZ q.1∧QB q.2
 up:Up ps
theorem GB.done {ps:List (Int × Int)} {n:Nat} (h:GB ps n) (hn:n≤11):ZK ps:=⟨by have:=h.few;omega,h.hd,h.ok,h.up⟩
theorem GB.one {p:Int} (h:QB p):GB [((0:Int),p)] 0:=⟨cx _,⟨p,[],rfl⟩,fun q hq=>by
 rw[Cq.mp hq]
 exact⟨⟨Di _,by show (0:Int)≤1000000000000;decide⟩,h⟩,DF _ _⟩
theorem GB.mono {ps:List (Int × Int)} {n:Nat} (h:GB ps n):GB ps (n+1):=⟨Dx h.few,h.hd,h.ok,h.up⟩
theorem GB.last {ps:List (Int × Int)} {n:Nat} (h:GB ps n):∃ qs q,ps=qs++[q]:=by
 obtain⟨p,r,e⟩:=h.hd
 refine⟨ps.dropLast,ps.getLast (by rw[e];exact dv _ _),(DG _).symm⟩
theorem mL {qs:List (Int × Int)} {q:Int × Int} (h:Up (qs++[q])):∀ x∈qs++[q],x.1≤q.1:=fun x hx=>by
 rcases Cu.mp hx with hx | hx
 ·exact Int.le_of_lt ((List.pairwise_append.mp h).2.2 x hx q (Cq.mpr rfl))
 ·rw[Cq.mp hx]
  exact Di _
theorem GB.snoc {qs:List (Int × Int)} {q:Int × Int} {n:Nat} {s p:Int} (h:GB (qs++[q]) n) (s1:1≤s) (b:q.1+s≤1000000000000) (hp:QB p):GB (qs++[q]++[(q.1+s,p)]) (n+1):=by
 refine⟨?_,?_,fun x hx=>?_,?_⟩
 ·have:=h.few
  rw[cG,Cp]
  omega
 ·obtain⟨p0,r,e⟩:=h.hd
  exact⟨p0,r++[(q.1+s,p)],by rw[e];rfl⟩
 ·rcases Cu.mp hx with hx | hx
  ·exact h.ok x hx
  ·rw[Cq.mp hx]
   have:=(h.ok q (Cz _ (Cq.mpr rfl))).1.1
   exact⟨⟨by show 0≤q.1+s;omega,b⟩,hp⟩
 ·refine List.pairwise_append.mpr ⟨h.up,DF _ _,fun x hx y hy=>?_⟩
  rw[Cq.mp hy]
  have:=mL h.up x hx
  show x.1<q.1+s
  omega
theorem Ov {H:Hp} {ys:List V} {qs:List (Int × Int)} {q:Int × Int} (T:qd H ys ((qs++[q]).map cB)):∃ a,kT ys (-1)=some (.ref a)∧H a=some (.tup (cB q)):=by
 have yl:ys.length=qs.length+1:=by rw[T.len,cw,cG,Cp]
 obtain⟨a,e,h⟩:=MF T (i:=qs.length) (q:=q) (by rw[CH (cx _),dN];rfl)
 have ne:ys≠[]:=fun z=>by rw[z] at yl;cases yl
 refine⟨a,?_,h⟩
 have e2:=DG ne
 rw[← e2,OH,List.getLast_eq_getElem]
 rw[cI (by omega)] at e
 have e3:=Option.some.inj e
 rw[← e3]
 congr 2
 omega
theorem mG {a b c d e:V} {i:Int} (h0:0≤i) (h1:i<5):∃ v,kT [a,b,c,d,e] i=some v∧(i=0∧v=a∨i=1∧v=b∨i=2∧v=c∨i=3∧v=d∨i=4∧v=e):=by
 obtain⟨n,rfl⟩:=CJ h0
 match n,h1 with
 | 0,_=>exact⟨a,q8 rfl,.inl ⟨rfl,rfl⟩⟩
 | 1,_=>exact⟨b,q8 rfl,.inr (.inl ⟨rfl,rfl⟩)⟩
 | 2,_=>exact⟨c,q8 rfl,.inr (.inr (.inl ⟨rfl,rfl⟩))⟩
 | 3,_=>exact⟨d,q8 rfl,.inr (.inr (.inr (.inl ⟨rfl,rfl⟩)))⟩
 | 4,_=>exact⟨e,q8 rfl,.inr (.inr (.inr (.inr ⟨rfl,rfl⟩)))⟩
 | k+5,h=>exact absurd h (by omega)
theorem TZ:("ontop":Str)≠"bands":=by decide +kernel
theorem VQ (n b w:Str):("bands ":Str)++n ++ " " ++ b ++ " " ++ w=Txt.join " " ["bands",n,b,w]:=by
 rw[show ([("bands":Str),n,b,w]:List Str)=[("bands":Str),n,b]++[w] from rfl,j8 " " w (dv _ _),show ([("bands":Str),n,b]:List Str)=[("bands":Str),n]++[b] from rfl,j8 " " b (dv _ _),show ([("bands":Str),n]:List Str)=[("bands":Str)]++[n] from rfl,j8 " " n (dv _ _),UD]
 rw[show (("bands ":Str)) = "bands" ++ " " by decide +kernel]
theorem QR (n p w r:Str):Txt.join " " ["ontop",n,p,w] ++ " of " ++ r=Txt.join " " ["ontop",n,p,w,"of",r]:=by
 rw[show ([("ontop":Str),n,p,w,"of",r]:List Str)=[("ontop":Str),n,p,w,"of"]++[r] from rfl,j8 " " r (dv _ _),show ([("ontop":Str),n,p,w,"of"]:List Str)=[("ontop":Str),n,p,w]++[("of":Str)] from rfl,j8 " " "of" (dv _ _)]
 rw[Str.append_assoc,Str.append_assoc,Str.append_assoc,show (" of ":Str) = " " ++ ("of" ++ " ") by decide +kernel,Str.append_assoc,Str.append_assoc,Str.append_assoc]
theorem wY {d:Nat} {r:Rk} (h:Gd d r):(jx r).length≤1016+200*d:=by
 induction h with
 | @pln d r h =>
  rw[QV h]
  have:=(yz (sep:=" ") (m:=20) (k:=5) (Ug h) (by cases h <;> exact Cf rfl) (by decide +kernel) rfl).2
  unfold xi
  omega
 | @bands d n w ps h1 h2 h3 =>
  have:=(yz (sep:=" ") (zs:=["bands",n,vv ps,w]) (m:=252) (k:=4) (fun z hz=>?_) (cx _) (by decide +kernel) rfl).2
  ·show (Txt.join " " ["bands",n,vv ps,w]).length≤_
   omega
  ·have k1:=h1.ok.hi
   have k2:=(ue h2).2
   have k3:=u4 h3
   simp only[cy,cA,or_false] at hz
   rcases hz with rfl | rfl | rfl | rfl
   ·decide +kernel
   ·omega
   ·omega
   ·omega
 | @ontop d n w p r h1 h2 h3 _ ih =>
  show (Txt.join " " ["ontop",n,toString p,w,"of",jx r]).length≤_
  rw[← QR,Str.length_append,Str.length_append]
  have k:=(yz (sep:=" ") (zs:=["ontop",n,toString p,w]) (m:=8) (k:=4) (fun z hz=>?_) (cx _) (by decide +kernel) rfl).2
  ·have:(" of ":Str).length=4:=by decide +kernel
   omega
  ·have k1:=h1.ok.hi
   have k2:=vW h2
   have k3:=u4 h3
   simp only[cy,cA,or_false] at hz
   rcases hz with rfl | rfl | rfl | rfl
   ·decide +kernel
   ·omega
   ·omega
   ·omega
end Pg
namespace L2
open PySem PySem.Spec PyProof.Rows
noncomputable def wF (H H':Hp):Prop:=∀ b o,H b=some o→(∀ xs,o≠.lst xs)→H' b=some o
theorem ou {H:Hp} {D:Addr} {xs ys:List V} (h:H D=some (.lst xs)):wF H (upd H D (.lst ys)):=fun b o e n=>by
 rw[zm fun z=>?_]
 ·exact e
 ·subst z
  rw[h] at e
  cases e
  exact n _ rfl
structure Gh {α:Type} (H:Hp) (zs:List V) (xs:List α) (S:Hp→V→α→Prop):Prop where
 len:zs.length=xs.length
 at_:∀ (i:Nat) (x:α),xs[i]? = some x→∃ u,zs[i]? = some u∧S H u x
section
variable {J:It} {D:Addr} {te:TE} {fin:List V→Hp→Prop} {σ:St} {H:Hp} {ys:List V} {α:Type} {xs:List α} {P:Hp→V→α→Prop}
theorem VO (W:Zq J H ys) (T:q9 H ys xs P) (hD:H D=none) (hz:xs.length<sizeLine) (S:Hp→V→α→Prop) (mono:∀ {H H':Hp} {v:V} {x:α},wF H H'→S H v x→S H' v x) (he:∀ (i:Nat) x,xs[i]? = some x→∀ v H' R,zq H H'→P H' v x→(∀ u H'',zq H' H''→S H'' u x→R u H'')→te (σ.set 0 (some v)) H' R) (hf:∀ zs H',zq H H'→H' D=some (.lst zs)→Gh H' zs xs S→fin zs H'):ja J D (z6 0) qv te fin σ (upd H D (.lst [])):=by
 refine jA W hD (fun i zs H'=>Gh H' zs (xs.take i) S) (fun σ'=>∀ x,σ'.set 0 (some x) = σ.set 0 (some x)) (fun _=>rfl) ⟨rfl,fun i x h=>by cases h⟩ ?_ ?_
 ·rintro i y zs σ' H' hy hσ s hd hl G
  obtain⟨x,hx,hP⟩:=T.at_ i y hy
  have tk:xs.take (i+1)=xs.take i++[x]:=by rw[CM,hx];rfl
  have hi:i<xs.length:=(cW.mp hx).1
  have zl:zs.length=i:=by rw[G.len,Ci];omega
  have hσ2:∀ z,(σ'.set 0 (some y)).set 0 (some z) = σ.set 0 (some z):=fun z=>by rw[dn];exact hσ z
  unfold kb z6
  dsimp only
  refine PU ?_
  rw[hσ y] at hσ2 ⊢
  refine he i x hx y _ _ s (hP _ s) fun u H3 s3 hu=>⟨s3 _ _ hd,by omega,hσ2,fun b o z=>?_,zj,?_,?_⟩
  ·rw[zm (zA z hD)]
   exact s3 _ _ (s _ _ z)
  ·rw[cG,Cp];omega
  ·have kp:=ou (ys:=zs++[u]) (s3 _ _ hd)
   refine⟨by rw[tk,cG,cG,G.len];rfl,fun j w hw=>?_⟩
   rw[tk] at hw
   by_cases hj:j<(xs.take i).length
   ·rw[CY hj] at hw
    obtain⟨u',h1,h2⟩:=G.at_ j w hw
    exact⟨u',by rw[CY (by rw[G.len];exact hj)];exact h1,mono (fun b o e n=>kp b o (s3 _ _ e) n) h2⟩
   ·have hj:=de hj
    rw[CH hj] at hw
    have e0:j - (xs.take i).length=0:=by
     cases q:j - (xs.take i).length with
     | zero=>rfl
     | succ n=>rw[q] at hw;cases hw
    rw[e0] at hw
    cases hw
    refine⟨u,?_,mono kp hu⟩
    rw[CH (by rw[G.len];exact hj),G.len,e0]
    rfl
 ·rintro zs H' s hd hl G
  rw[T.len,CN] at G
  exact hf zs H' s hd G
end
end L2
namespace Pg
open PySem L2
theorem qd.keep {H H':Hp} {ys:List V} {cs:List (List V)} (k:wF H H') (T:qd H ys cs):qd H' ys cs:=T.mono fun b c h=>k b _ h fun xs z=>by cases z
theorem vA.keep {H H':Hp} {u:Addr} {ps:List (Int × Int)} (k:wF H H') (h:vA H u ps):vA H' u ps:=by
 obtain⟨ys,e,t⟩:=h
 exact⟨ys,k _ _ e (fun xs z=>nomatch z),qd.keep k t⟩
theorem Y8.keep {H H':Hp} {r:Rk} {v:V} (k:wF H H') (h:Y8 H r v):Y8 H' r v:=by
 induction h with
 | pln e h =>
  obtain⟨t,rfl,h⟩:=h
  exact .pln e ⟨t,rfl,k _ _ h fun xs z=>by cases z⟩
 | bands h b=>exact .bands (k _ _ h fun xs z=>by cases z) (b.keep k)
 | ontop h _ ih=>exact .ontop (k _ _ h fun xs z=>by cases z) ih
theorem uu.keep {Cs:Nat→Addr} {H H':Hp} {r:Rk} {v:V} (k:wF H H') (h:uu Cs H r v):uu Cs H' r v:=by
 induction h with
 | pln e h =>
  obtain⟨t,dx,rfl,h⟩:=h
  exact .pln e ⟨t,dx,rfl,k _ _ h fun xs z=>by cases z⟩
 | bands h b=>exact .bands (k _ _ h fun xs z=>by cases z) (b.keep k)
 | ontop h _ ih=>exact .ontop (k _ _ h fun xs z=>by cases z) ih
theorem t8 {x:V} {c:Int} (mv:x∈[V.int 0,.int 1,.int 2,.int 3,.int 5,.int 12,.int 12,.int (c/56%13)]) (f0:0≤c/56%13) (f1:c/56%13<13):∃ n:Nat,x = .int (n:Nat)∧n≤50:=by
 simp only[cy,cA,or_false] at mv
 rcases mv with rfl | rfl | rfl | rfl | rfl | rfl | rfl | rfl
 ·exact⟨0,rfl,by decide⟩
 ·exact⟨1,rfl,by decide⟩
 ·exact⟨2,rfl,by decide⟩
 ·exact⟨3,rfl,by decide⟩
 ·exact⟨5,rfl,by decide⟩
 ·exact⟨12,rfl,by decide⟩
 ·exact⟨12,rfl,by decide⟩
 ·obtain⟨k,hk⟩:=CJ f0
  exact⟨k,by rw[hk],by omega⟩
theorem RR {p:Str→Prop} (h1:p "name") (h2:p "bands") (h3:p "way") (h4:p "parts") (h5:p "within"):∀ x∈(["name","bands","way","parts","within"]:List Str),p x:=by
 intro x hx
 simp only[cy,cA,or_false] at hx
 rcases hx with rfl | rfl | rfl | rfl | rfl <;> assumption
end Pg
namespace L2
open PySem
section
variable {P:Program} {w:World} {K:BFr} {mg:Str→Option Value} {base:Heap} {CX:wN} {j k:Nat} {C:Addr} {x m:Str} {ps:List Str} {sp sp':Sp}
theorem qU.mono (M:qU P w K mg base CX j C m ps sp) (h:j≤k):qU P w K mg base CX k C m ps sp:=by
 obtain⟨c,f,fd,a,b,F⟩:=M
 exact⟨c,f,fd,a,b,F.mono h⟩
theorem qU.imp (M:qU P w K mg base CX k C m ps sp) (h:∀ vs H Q E,sp' vs H Q E→sp vs H Q E):qU P w K mg base CX k C m ps sp':=by
 obtain⟨c,f,fd,a,b,F⟩:=M
 exact⟨c,f,fd,a,b,F.imp h⟩
theorem uJ.imp (M:uJ P w K mg base CX k x m ps sp) (h:∀ vs H Q E,sp' vs H Q E→sp vs H Q E):uJ P w K mg base CX k x m ps sp':=by
 obtain⟨C,f,fd,a,b,c,F⟩:=M
 exact⟨C,f,fd,a,b,c,F.imp h⟩
theorem qN.mono (M:qN P w K mg base CX j x ps sp) (h:j≤k):qN P w K mg base CX k x ps sp:=by
 obtain⟨f,fd,a,b,c,F⟩:=M
 exact⟨f,fd,a,b,c,F.mono h⟩
end
end L2
namespace Pg
open PySem L2
noncomputable def mF:Rk→Int
 | .ontop _ _ _ r=>mF r+1
 | _=>0
theorem nO {d:Nat} {r:Rk} (h:Gd d r):mF r≤d:=by
 induction h with
 | pln h=>cases h <;> exact d9 _
 | bands=>exact d9 _
 | ontop _ _ _ _ ih =>
  show mF _+1≤_
  omega
theorem pK {r:Rk} (h:r.kd<5):mF r=0:=by
 cases r with
 | ontop=>exact absurd h (Dw (Cf rfl))
 | _=>rfl
structure MZ (K:BFr) (Cs:Nat→Addr) (cR:Addr):Prop where
 ha:∀ i,i<6→PySem.W.findIn K (.ref (Cs i)) "__class__" = some (some (.builtin "object.__class__"))
 hn:PySem.W.specialIn K (.builtin "object.__class__") "__get__" = some (some (.builtin "getset_descriptor.__get__"))
 htk:PySem.W.takesIn K (.builtin "object.__class__")=some true
 hm:∀ i,i<6→PySem.W.mroIn K (Cs i) (.type "object")=some true
 kt:∀ i,i<6→PySem.W.kitOne K (.ref (Cs i)) (.ref cR)=some true
 cls:∀ i,i<6→wo K (Cs i)
 ne:Cs 1≠Cs 5
theorem nS (r:Rk):r.kd<6:=by cases r <;> exact Cf rfl
theorem Gd.pl {d:Nat} {r:Rk} (h:Gd d r) (k:r.kd<4):xH r:=by
 cases h with
 | pln p=>exact p
 | bands=>exact absurd k (by show ¬ (4:Nat)<4;decide)
 | ontop=>exact absurd k (by show ¬ (5:Nat)<4;decide)
theorem uu.pl {Cs:Nat→Addr} {H:Hp} {r:Rk} {v:V} (h:uu Cs H r v) (k:r.kd<4):Gx Cs H v r:=by
 cases h with
 | pln _ p=>exact p
 | bands=>exact absurd k (by show ¬ (4:Nat)<4;decide)
 | ontop=>exact absurd k (by show ¬ (5:Nat)<4;decide)
theorem uu.frame {Cs:Nat→Addr} {H H':Hp} {r:Rk} {v:V} {o C dx:Addr} {d:Nat} (h:uu Cs H r v) (g:Gd d r) (ho:H o=some (.ins C dx [])) (fr:∀ b y,H b=some y→b≠o→H' b=some y):uu Cs H' r v:=by
 induction h generalizing d with
 | pln k h =>
  obtain⟨t,dy,rfl,h⟩:=h
  refine .pln k ⟨t,dy,rfl,fr _ _ h fun e=>?_⟩
  subst e
  rw[h] at ho
  cases g.pl k <;> exact nomatch ho
 | bands h b =>
  obtain⟨ys,hu,T⟩:=b
  have nt:∀ b c,H b=some (.tup c)→H' b=some (.tup c):=fun b c h=>fr _ _ h (qG h ho (by intro z;cases z))
  exact .bands (fr _ _ h fun e=>by subst e;rw[h] at ho;cases ho) ⟨ys,nt _ _ hu,T.mono nt⟩
 | ontop h _ ih =>
  cases g with
  | pln p=>cases p
  | ontop _ _ _ g=>exact .ontop (fr _ _ h fun e=>by subst e;rw[h] at ho;cases ho) (ih g)
theorem uu.frame3 {Cs:Nat→Addr} {H H':Hp} {r:Rk} {v:V} {o dx:Addr} {d:Nat} {n w:Str} {p:Int} (ne:Cs 1≠Cs 5) (h:uu Cs H r v) (g:Gd d r) (ho:H o=some (.ins (Cs 5) dx [("name",.str n),("parts",.int p),("way",.str w)])) (fr:∀ b y,H b=some y→b≠o→H' b=some y):uu Cs H' r v:=by
 induction h generalizing d with
 | pln k h =>
  obtain⟨t,dy,rfl,h⟩:=h
  refine .pln k ⟨t,dy,rfl,fr _ _ h fun e=>?_⟩
  subst e
  rw[h] at ho
  have ho:=Option.some.inj ho
  cases g.pl k with
  | flat=>exact nomatch (HO.ins.inj ho).2.2
  | share=>exact ne (HO.ins.inj ho).1
  | capped=>exact nomatch (HO.ins.inj ho).2.2
  | least=>exact nomatch (HO.ins.inj ho).2.2
 | bands h b =>
  obtain⟨ys,hu,T⟩:=b
  have nt:∀ b c,H b=some (.tup c)→H' b=some (.tup c):=fun b c h=>fr _ _ h (qG h ho (by intro z;cases z))
  refine .bands (fr _ _ h fun e=>?_) ⟨ys,nt _ _ hu,T.mono nt⟩
  subst e
  rw[h] at ho
  have k:=(HO.ins.inj (Option.some.inj ho)).2.2
  have k2:=congrArg (fun l=>(l.map Prod.fst)[1]?) k
  exact absurd (show ("bands":Str) = "parts" from Option.some.inj k2) (by decide +kernel)
 | ontop h _ ih =>
  cases g with
  | pln p=>cases p
  | ontop _ _ _ g =>
   refine .ontop (fr _ _ h fun e=>?_) (ih g)
   subst e
   rw[h] at ho
   exact nomatch (HO.ins.inj (Option.some.inj ho)).2.2
noncomputable def yA (d k:Nat) (Cs:Nat→Addr):Sp:=fun vs H Q _=>∃ v r,vs=[v]∧r.kd=k∧uu Cs H r v∧Gd d r∧Q (.int (mF r)) H
noncomputable def q4 (d k:Nat) (Cs:Nat→Addr):Sp:=fun vs H Q _=>∃ v r,vs=[v]∧r.kd=k∧uu Cs H r v∧Gd d r∧∀ o H',zq H H'→uu Cs H' r o→Q o H'
noncomputable def QU (d:Nat) (Cs:Nat→Addr):Sp:=fun vs H Q _=>∃ o dx n p x u r,vs=[.ref o,.str n,.int p,.str x,u]∧qT n∧QB p∧Jd x∧uu Cs H r u∧Gd d r∧H o=some (.ins (Cs 5) dx []) ∧
 ∀ H' u',(∀ b y,H b=some y→b≠o→H' b=some y)→H' o=some (.ins (Cs 5) dx [("name",.str n),("parts",.int p),("way",.str x),("within",u')])→uu Cs H' r u'→Q .non H'
noncomputable def QE:Sp:=fun vs H Q _=>∃ c z,vs=[.int c,.str z]∧qT z∧∀ v r H',Gd 3 r→r.name=z→zq H H'→Y8 H' r v→Q v H'
theorem Mf {d:Nat} {r:Rk} (h:Gd d r) (k:r.kd=5):∃ d' n p x r',d=d'+1∧r = .ontop n p x r'∧qT n∧QB p∧Jd x∧Gd d' r':=by
 cases h with
 | pln p=>cases p <;> cases k
 | bands=>cases k
 | ontop h1 h2 h3 h4=>exact⟨_,_,_,_,_,rfl,rfl,h1,h2,h3,h4⟩
theorem pI {K:BFr} {Cs:Nat→Addr} (RK:uD K Cs):∀ vs H Q E,uK Cs vs H Q E→uX K vs H Q E:=by
 rintro vs H Q E ⟨i,o,dx,z,rfl,hi,ho,hz,q⟩
 exact⟨Cs i,o,dx,z,rfl,RK.cls i hi,RK.no i hi "name" (by decide),ho,hz,q⟩
theorem JH {d k:Nat} {Cs:Nat→Addr} (hk:k<4):∀ vs H Q E,yK d k Cs vs H Q E→jY k Cs vs H Q E:=by
 rintro vs H Q E ⟨v,r,rfl,e,ro,g,q⟩
 have pl:=g.pl (by omega)
 exact⟨v,r,rfl,e,ro.pl (by omega),pl,by rw[QV pl] at q;exact q⟩
theorem Qv {p:Nat→Prop} (h0:p 0) (h1:p 1) (h2:p 2) (h3:p 3) (h4:p 4) (h5:p 5):∀ i,i<6→p i
 | 0,_=>h0
 | 1,_=>h1
 | 2,_=>h2
 | 3,_=>h3
 | 4,_=>h4
 | 5,_=>h5
theorem zq.made {H:Hp} {o dx C:Addr} (o0:H o=none) (d0:H dx=none):zq H (upd (upd H dx (.own o)) o (.ins C dx [])):=fun b x hb=>by
 rw[zm (zA hb o0),zm (zA hb d0)]
 exact hb
end Pg
set_option maxHeartbeats 4000000
namespace K11
open PySem PySem.NumText L2 Pg
seal PE PA PT PW PS yW PG vq PI j7 PO PK
section
variable {P:Program} {w:World} {K:BFr} {mg:Str→Option Value} {base:Heap} {f:Addr} {fd:FuncData} {d:Nat→Addr} {cR:Addr}
theorem kD {Cs:Nat→Addr} {d k:Nat} (hk:k<5) (F:qJ K "depth" "Rule.depth" (zE (top 46) 4) f fd):zL P w K mg base z8 1 f fd ["self"] (yA d k Cs):=by
 refine F.ok (N:=["self"]) (by walk_at"s") (fun vs H Q E h=>?_) (fun cdv A outer s H vs Q E hr h=>?_)
 ·obtain⟨v,r,rfl,_⟩:=h
  rfl
 ·obtain⟨v,r,rfl,e,ro,gd,q⟩:=h
  refine⟨_,zi (zx ze),?_⟩
  rw[pK (by omega)] at q
  exact q
theorem ZW {Cs:Nat→Addr} {d j:Nat} (F:qJ K "depth" "OnTop.depth" (zE (top 58) 4) f fd) (RX:Qz K (Cs 5)) (MD:∀ k,k<6→qU P w K mg base z8 j (Cs k) "depth" ["self"] (yA d k Cs)):zL P w K mg base z8 (j+1) f fd ["self"] (yA (d+1) 5 Cs):=by
 refine F.ok (N:=["self"]) (by walk_at"s") (fun vs H Q E h=>?_) (fun cdv A outer s H vs Q E hr h=>?_)
 ·obtain⟨v,r,rfl,_⟩:=h
  rfl
 ·obtain⟨v,r,rfl,e,ro,gd,q⟩:=h
  obtain⟨d',n,p,x,r',ed,rfl,hn,hp,hw,g'⟩:=Mf gd e
  cases ed
  cases ro with
  | pln kk _=>exact absurd kk (by show ¬ (5:Nat)<4;decide)
  | @ontop _ _ _ _ o dx u ho ri =>
   obtain⟨oi,dxi,fsi,rfl,hoi,_,noi⟩:=ri.obj g'
   refine⟨_,zi (zx (zu qA (uY (p:=fun k=>k<6) fun k hk=>y6 (MD k hk) hr (cx _) zC (z5 (pv 0) rfl)) ze)),?_⟩
   exact⟨r'.kd,nS r',_,rfl,o,_,dx,_,_,rfl,ho,RX.cls,RX.no "within" (by decide),rfl,oi,dxi,fsi,rfl,hoi,noi "depth" (by decide),_,r',rfl,rfl,ri,g',_,_,rfl,rfl,q⟩
theorem OD {Cs:Nat→Addr} {j:Nat}:zL P w K mg base z8 j f fd ["self"] (yA 0 5 Cs):=⟨fun vs H Q E ⟨v,r,h,e,ro,g,_⟩=>by rw[h];rfl,fun _ _ _ _ _ _ _ _ _ _ _ _ _ ⟨v,r,h,e,ro,g,_⟩=>by obtain⟨_,_,_,_,_,z,_⟩:=Mf g e;cases z⟩
theorem pM {Cs:Nat→Addr} {j:Nat}:zL P w K mg base z8 j f fd ["self"] (yK 0 5 Cs):=⟨fun vs H Q E ⟨v,r,h,_⟩=>by rw[h];rfl,fun _ _ _ _ _ _ _ _ _ _ _ _ _ ⟨v,r,h,e,ro,g,_⟩=>by obtain⟨_,_,_,_,_,z,_⟩:=Mf g e;cases z⟩
theorem gN {Cs:Nat→Addr} {j:Nat}:zL P w K mg base z8 j f fd ["self"] (q4 0 5 Cs):=⟨fun vs H Q E ⟨v,r,h,_⟩=>by rw[h];rfl,fun _ _ _ _ _ _ _ _ _ _ _ _ _ ⟨v,r,h,e,ro,g,_⟩=>by obtain⟨_,_,_,_,_,z,_⟩:=Mf g e;cases z⟩
theorem pD {Cs:Nat→Addr} {d:Nat} (F:qJ K "twin" "Flat.twin" (zE (top 47) 3) f fd) (RK:uD K Cs) (N0:jP P w K mg base z8 5 "Flat" (Cs 0) ["self","name","amount"] (yD 0 Cs)):zL P w K mg base z8 7 f fd ["self"] (q4 d 0 Cs):=by
 refine F.ok (N:=["self"]) (by walk_at"s") (fun vs H Q E h=>?_) (fun cdv A outer s H vs Q E hr h=>?_)
 ·obtain⟨v,r,rfl,_⟩:=h
  rfl
 ·obtain⟨v,r,rfl,e,ro,gd,q⟩:=h
  have pl:=gd.pl (by omega)
  have pl0:=pl
  obtain⟨o,dx,rfl,ho⟩:=ro.pl (by omega)
  cases pl with
  | @flat n a hn ha =>
   refine⟨_,zi (zx (ya (j:=5) N0 hr (by decide) zC (za (z5 (pv 0) rfl) (za (z5 (pv 0) rfl) zd)))),?_⟩
   exact⟨_,rfl,o,_,dx,_,_,rfl,ho,RK.cls 0 (by decide),RK.no 0 (by decide) "name" (by decide),rfl,_,rfl,o,_,dx,_,_,rfl,ho,RK.cls 0 (by decide),RK.no 0 (by decide) "amount" (by decide),rfl,fun o dx o0 d0 ne=>⟨o,dx,.flat n a,rfl,rfl,pl0,zj,fun H' fr e=>⟨rfl,q _ H' (qw o0 d0 fr) (.pln (Cf rfl) ⟨o,dx,rfl,e⟩)⟩⟩⟩
  | share=>cases e
  | capped=>cases e
  | least=>cases e
theorem Ol {Cs:Nat→Addr} {d:Nat} (F:qJ K "twin" "Share.twin" (zE (top 48) 3) f fd) (RK:uD K Cs) (N0:jP P w K mg base z8 5 "Share" (Cs 1) ["self","name","parts","way"] (yD 1 Cs)):zL P w K mg base z8 7 f fd ["self"] (q4 d 1 Cs):=by
 refine F.ok (N:=["self"]) (by walk_at"s") (fun vs H Q E h=>?_) (fun cdv A outer s H vs Q E hr h=>?_)
 ·obtain⟨v,r,rfl,_⟩:=h
  rfl
 ·obtain⟨v,r,rfl,e,ro,gd,q⟩:=h
  have pl:=gd.pl (by omega)
  have pl0:=pl
  obtain⟨o,dx,rfl,ho⟩:=ro.pl (by omega)
  cases pl with
  | @share n p x hn hp hw =>
   refine⟨_,zi (zx (ya (j:=5) N0 hr (by decide) zC (za (z5 (pv 0) rfl) (za (z5 (pv 0) rfl) (za (z5 (pv 0) rfl) zd))))),?_⟩
   exact⟨_,rfl,o,_,dx,_,_,rfl,ho,RK.cls 1 (by decide),RK.no 1 (by decide) "name" (by decide),rfl,_,rfl,o,_,dx,_,_,rfl,ho,RK.cls 1 (by decide),RK.no 1 (by decide) "parts" (by decide),rfl,_,rfl,o,_,dx,_,_,rfl,ho,RK.cls 1 (by decide),RK.no 1 (by decide) "way" (by decide),rfl,fun o dx o0 d0 ne=>⟨o,dx,.share n p x,rfl,rfl,pl0,zj,fun H' fr e=>⟨rfl,q _ H' (qw o0 d0 fr) (.pln (Cf rfl) ⟨o,dx,rfl,e⟩)⟩⟩⟩
  | flat=>cases e
  | capped=>cases e
  | least=>cases e
theorem ph {Cs:Nat→Addr} {d:Nat} (F:qJ K "twin" "Capped.twin" (zE (top 49) 3) f fd) (RK:uD K Cs) (N0:jP P w K mg base z8 5 "Capped" (Cs 2) ["self","name","parts","most","way"] (yD 2 Cs)):zL P w K mg base z8 7 f fd ["self"] (q4 d 2 Cs):=by
 refine F.ok (N:=["self"]) (by walk_at"s") (fun vs H Q E h=>?_) (fun cdv A outer s H vs Q E hr h=>?_)
 ·obtain⟨v,r,rfl,_⟩:=h
  rfl
 ·obtain⟨v,r,rfl,e,ro,gd,q⟩:=h
  have pl:=gd.pl (by omega)
  have pl0:=pl
  obtain⟨o,dx,rfl,ho⟩:=ro.pl (by omega)
  cases pl with
  | @capped n p m x hn hp ha hw =>
   refine⟨_,zi (zx (ya (j:=5) N0 hr (by decide) zC (za (z5 (pv 0) rfl) (za (z5 (pv 0) rfl) (za (z5 (pv 0) rfl) (za (z5 (pv 0) rfl) zd)))))),?_⟩
   exact⟨_,rfl,o,_,dx,_,_,rfl,ho,RK.cls 2 (by decide),RK.no 2 (by decide) "name" (by decide),rfl,_,rfl,o,_,dx,_,_,rfl,ho,RK.cls 2 (by decide),RK.no 2 (by decide) "parts" (by decide),rfl,_,rfl,o,_,dx,_,_,rfl,ho,RK.cls 2 (by decide),RK.no 2 (by decide) "most" (by decide),rfl,_,rfl,o,_,dx,_,_,rfl,ho,RK.cls 2 (by decide),RK.no 2 (by decide) "way" (by decide),rfl,fun o dx o0 d0 ne=>⟨o,dx,.capped n p m x,rfl,rfl,pl0,zj,fun H' fr e=>⟨rfl,q _ H' (qw o0 d0 fr) (.pln (Cf rfl) ⟨o,dx,rfl,e⟩)⟩⟩⟩
  | flat=>cases e
  | share=>cases e
  | least=>cases e
theorem P2 {Cs:Nat→Addr} {d:Nat} (F:qJ K "twin" "Least.twin" (zE (top 50) 3) f fd) (RK:uD K Cs) (N0:jP P w K mg base z8 5 "Least" (Cs 3) ["self","name","parts","least","way"] (yD 3 Cs)):zL P w K mg base z8 7 f fd ["self"] (q4 d 3 Cs):=by
 refine F.ok (N:=["self"]) (by walk_at"s") (fun vs H Q E h=>?_) (fun cdv A outer s H vs Q E hr h=>?_)
 ·obtain⟨v,r,rfl,_⟩:=h
  rfl
 ·obtain⟨v,r,rfl,e,ro,gd,q⟩:=h
  have pl:=gd.pl (by omega)
  have pl0:=pl
  obtain⟨o,dx,rfl,ho⟩:=ro.pl (by omega)
  cases pl with
  | @least n p m x hn hp ha hw =>
   refine⟨_,zi (zx (ya (j:=5) N0 hr (by decide) zC (za (z5 (pv 0) rfl) (za (z5 (pv 0) rfl) (za (z5 (pv 0) rfl) (za (z5 (pv 0) rfl) zd)))))),?_⟩
   exact⟨_,rfl,o,_,dx,_,_,rfl,ho,RK.cls 3 (by decide),RK.no 3 (by decide) "name" (by decide),rfl,_,rfl,o,_,dx,_,_,rfl,ho,RK.cls 3 (by decide),RK.no 3 (by decide) "parts" (by decide),rfl,_,rfl,o,_,dx,_,_,rfl,ho,RK.cls 3 (by decide),RK.no 3 (by decide) "least" (by decide),rfl,_,rfl,o,_,dx,_,_,rfl,ho,RK.cls 3 (by decide),RK.no 3 (by decide) "way" (by decide),rfl,fun o dx o0 d0 ne=>⟨o,dx,.least n p m x,rfl,rfl,pl0,zj,fun H' fr e=>⟨rfl,q _ H' (qw o0 d0 fr) (.pln (Cf rfl) ⟨o,dx,rfl,e⟩)⟩⟩⟩
  | flat=>cases e
  | share=>cases e
  | capped=>cases e
theorem oX {Cs:Nat→Addr} {d:Nat} (F:qJ K "twin" "Bands.twin" (zE (top 55) 3) f fd) (RX:Qz K (Cs 4)) (N0:jP P w K mg base z8 6 "Bands" (Cs 4) ["self","name","rows","way"] (QY (Cs 4))):zL P w K mg base z8 8 f fd ["self"] (q4 d 4 Cs):=by
 refine F.ok (N:=["self"]) (by walk_at"s") (fun vs H Q E h=>?_) (fun cdv A outer s H vs Q E hr h=>?_)
 ·obtain⟨v,r,rfl,_⟩:=h
  rfl
 ·obtain⟨v,r,rfl,e,ro,gd,q⟩:=h
  cases gd with
  | pln p=>cases p <;> cases e
  | ontop=>cases e
  | @bands _ n x ps hn ok hw =>
   cases ro with
   | pln kk _=>exact absurd kk (by show ¬ (4:Nat)<4;decide)
   | @bands _ _ _ o dx u ho bd =>
    refine⟨_,zi (zx (ya (j:=6) N0 hr (by decide) zC (za (z5 (pv 0) rfl) (za (z5 (pv 0) rfl) (za (z5 (pv 0) rfl) zd))))),?_⟩
    refine⟨_,rfl,o,_,dx,_,_,rfl,ho,RX.cls,RX.no "name" (by decide),rfl,_,rfl,o,_,dx,_,_,rfl,ho,RX.cls,RX.no "bands" (by decide),rfl,_,rfl,o,_,dx,_,_,rfl,ho,RX.cls,RX.no "way" (by decide),rfl,fun o dx o0 dx0 ne=>⟨o,dx,n,u,ps,x,rfl,hn,ok,hw,?_,zj,fun H' u' fr ho' bd'=>⟨rfl,q _ H' (qw o0 dx0 fr) (.bands ho' bd')⟩⟩⟩
    obtain⟨ys,hu,T⟩:=bd
    have nt:∀ {b c},H b=some (.tup c)→(upd (upd H dx (.own o)) o (.ins (Cs 4) dx [])) b=some (.tup c):=fun {b c} h=>by rw[zm (zA h o0),zm (zA h dx0)];exact h
    exact⟨ys,nt hu,T.mono fun b c h=>nt h⟩
theorem QJ {Cs:Nat→Addr} {d j:Nat} (F:qJ K "twin" "OnTop.twin" (zE (top 58) 3) f fd) (RX:Qz K (Cs 5)) (N0:jP P w K mg base z8 j "OnTop" (Cs 5) ["self","name","parts","way","rule"] (QU d Cs)):zL P w K mg base z8 (j+2) f fd ["self"] (q4 (d+1) 5 Cs):=by
 refine F.ok (N:=["self"]) (by walk_at"s") (fun vs H Q E h=>?_) (fun cdv A outer s H vs Q E hr h=>?_)
 ·obtain⟨v,r,rfl,_⟩:=h
  rfl
 ·obtain⟨v,r,rfl,e,ro,gd,q⟩:=h
  obtain⟨d',n,p,x,r',ed,rfl,hn,hp,hw,g'⟩:=Mf gd e
  cases ed
  cases ro with
  | pln kk _=>exact absurd kk (by show ¬ (5:Nat)<4;decide)
  | @ontop _ _ _ _ o dx u ho ri =>
   refine⟨_,zi (zx (ya (j:=j) N0 hr (cx _) zC (za (z5 (pv 0) rfl) (za (z5 (pv 0) rfl) (za (z5 (pv 0) rfl) (za (z5 (pv 0) rfl) zd)))))),?_⟩
   exact⟨_,rfl,o,_,dx,_,_,rfl,ho,RX.cls,RX.no "name" (by decide),rfl,_,rfl,o,_,dx,_,_,rfl,ho,RX.cls,RX.no "parts" (by decide),rfl,_,rfl,o,_,dx,_,_,rfl,ho,RX.cls,RX.no "way" (by decide),rfl,_,rfl,o,_,dx,_,_,rfl,ho,RX.cls,RX.no "within" (by decide),rfl,fun o dx o0 dx0 ne=>⟨o,dx,n,p,x,u,r',rfl,hn,hp,hw,ri.same (zq.made o0 dx0),g',zj,fun H' u' fr ho' ri'=>⟨rfl,q _ H' (qw o0 dx0 fr) (.ontop ho' ri')⟩⟩⟩
set_option maxHeartbeats 4000000 in
theorem Z9 {Cs:Nat→Addr} {cRu:Addr} {d j:Nat} (F:qJ K "__init__" "OnTop.__init__" (zE (top 58) 0) f fd) (G:vw mg) (RX:Qz K (Cs 5)) (RJ:MZ K Cs cRu) (gR:mg "Rule" = some (.ref cRu)) (N1:Z1 mg "MOST_DEPTH" 3) (hd:d≤2) (hj:4≤j) (CR:uJ P w K mg base z8 4 "Rule" "__init__" ["self","name"] (uX K)) (C1:qN P w K mg base z8 4 "need_share" ["parts","way"] vU) (MT:∀ k,k<6→qU P w K mg base z8 j (Cs k) "twin" ["self"] (q4 d k Cs)) (MD:qU P w K mg base z8 j (Cs 5) "depth" ["self"] (yA (d+1) 5 Cs)):zL P w K mg base z8 (j+1) f fd ["self","name","parts","way","rule"] (QU d Cs):=by
 obtain⟨tk,em⟩:=N1
 refine F.ok (N:=["self","name","parts","way","rule"]) (by walk_at"s") (fun vs H Q E h=>?_) (fun cdv A outer s H vs Q E hr h=>?_)
 ·obtain⟨o,dx,n,p,x,u,r,rfl,_⟩:=h
  rfl
 ·obtain⟨o,dx,n,p,x,u,r,rfl,hn,hp,hw,ri,gd,ho,q⟩:=h
  refine⟨_,zh (z4 (y9 CR hr hj zC (za (pv 0) (za (pv 1) zd)))) (zh (z4 (zp C1 hr hj zC (za (pv 2) (za (pv 3) zd)))) (zh (zX (qu (qt (zy zH rfl G.isinstance zv (za (pv 4) (za (zY (v:=.ref cRu) rfl gR rfl) zd))))) qS zG)
   (zh (yt (pv 0) (pv 2) rfl) (zh (yt (pv 0) (pv 3) rfl) (zh (yt (pv 0) (uY (p:=fun k=>k<6) fun k hk=>y6 (MT k hk) hr (cx _) zC (pv 4)) rfl)
   (zi (zX (zK wq (y6 MD hr (cx _) zC (pv 0)) (zY (v:=.int 3) rfl em ⟨tk,rfl⟩) (zI _)) qS zG))))))),?_⟩
  refine⟨_,rfl,_,rfl,_,o,dx,_,rfl,RX.cls,RX.no "name" (by decide),ho,hn,fun H1 f1 e1=>⟨_,rfl,_,rfl,_,_,rfl,hp,hw,?_⟩⟩
  have r1:=ri.frame gd ho f1
  obtain⟨oi,dxi,fsi,rfl,hoi,_,noi⟩:=r1.obj gd
  have k6:=nS r
  refine⟨_,rfl,_,_,_,_,true,rfl,rfl,.inl (.ins hoi (RJ.cls _ k6) (RJ.ha _ k6) RJ.hn RJ.htk (RJ.hm _ k6)),RJ.kt _ k6,true,rfl,qD ?_⟩
  refine⟨_,rfl,_,rfl,o,_,dx,_,rfl,e1,RX.cls,RX.no "parts" (by decide),by show 1<1000;decide,?_⟩
  rw[Np _ _ _ (by decide +kernel)]
  refine⟨_,rfl,_,rfl,o,_,dx,_,rfl,zj,RX.cls,RX.no "way" (by decide),by show 2<1000;decide,?_⟩
  rw[rh _ _ _ _ _ (by decide +kernel) (by decide +kernel)]
  have f2:∀ b y,H b=some y→b≠o→(upd (upd H1 o (.ins (Cs 5) dx [("name",.str n),("parts",.int p)])) o (.ins (Cs 5) dx [("name",.str n),("parts",.int p),("way",.str x)])) b=some y:=fun b y hb ne=>by rw[zm ne,zm ne];exact f1 _ _ hb ne
  have e2:(upd (upd H1 o (.ins (Cs 5) dx [("name",.str n),("parts",.int p)])) o (.ins (Cs 5) dx [("name",.str n),("parts",.int p),("way",.str x)])) o=some (.ins (Cs 5) dx [("name",.str n),("parts",.int p),("way",.str x)]):=zj
  generalize upd (upd H1 o (.ins (Cs 5) dx [("name",.str n),("parts",.int p)])) o (.ins (Cs 5) dx [("name",.str n),("parts",.int p),("way",.str x)])=H2 at f2 e2
  have r2:=ri.frame gd ho f2
  obtain⟨oi2,dxi2,fsi2,eoi,hoi2,_,noi2⟩:=r2.obj gd
  cases eoi
  refine⟨r.kd,k6,_,rfl,oi,dxi2,fsi2,rfl,hoi2,noi2 "twin" (by decide),_,r,rfl,rfl,r2,gd,fun u' H3 s3 r3=>?_⟩
  have e3:=s3 _ _ e2
  refine⟨_,rfl,o,_,dx,_,rfl,e3,RX.cls,RX.no "within" (by decide),by show 3<1000;decide,?_⟩
  rw[Ti _ _ _ _ _ _ _ (by decide +kernel) (by decide +kernel) (by decide +kernel)]
  have f4:∀ b y,H3 b=some y→b≠o→(upd H3 o (.ins (Cs 5) dx [("name",.str n),("parts",.int p),("way",.str x),("within",u')])) b=some y:=fun b y hb ne=>by rw[zm ne];exact hb
  have e4:(upd H3 o (.ins (Cs 5) dx [("name",.str n),("parts",.int p),("way",.str x),("within",u')])) o=some (.ins (Cs 5) dx [("name",.str n),("parts",.int p),("way",.str x),("within",u')]):=zj
  generalize upd H3 o (.ins (Cs 5) dx [("name",.str n),("parts",.int p),("way",.str x),("within",u')])=H4 at f4 e4
  have r4:=r3.frame3 RJ.ne gd e3 f4
  have g4:Gd (d+1) (.ontop n p x r):=.ontop hn hp hw gd
  refine⟨_,rfl,o,dx,_,rfl,e4,rfl,_,_,rfl,rfl,.ontop e4 r4,g4,_,_,rfl,rfl,_,rfl,ye (fun e=>?_) (fun _=>?_)⟩
  ·have e:=of_decide_eq_true e
   have:=nO g4
   omega
  ·exact q H4 u' (fun b y hb ne=>f4 _ _ (s3 _ _ (f2 _ _ hb ne)) ne) e4 r4
theorem Qe (F:qJ K "are_figures" "are_figures" (top 33) f fd) (G:vw mg) (N1:Txt mg "FIGURES" "0123456789"):zL P w K mg base z8 1 f fd ["text"] Xk:=by
 obtain⟨tm,hm⟩:=N1
 have nc:(["sign"]:List Str).Nodup:=by decide +kernel
 refine F.ok (N:=["text"]) (by walk_at"s") (fun vs H Q E h=>?_) (fun cdv A outer s H vs Q E hr h=>?_)
 ·obtain⟨z,rfl,_⟩:=h
  rfl
 ·obtain⟨z,rfl,hz,q⟩:=h
  have ls:100001≤sizeLine:=by rw[sizeLine_eq];decide
  refine' ⟨_,zi (zx (yO (qC wq (zy yR rfl G.len boot_len (za (pv 0) zd)) ze (zI _)) (yX (zy (jD rfl) rfl G.all vg (za ?comp zd))))),?main⟩
  case comp =>
   refine' qm (Nc:=["sign"]) (cl:=[]) (src:=[none]) (wi:=lJ (zP 0)) (g:=z6 0) (tt:=qv) (te:=jH (fun x y H Q=>∃ i j,x = .str i∧y = .str j∧Q (.bl (!(Builtin.Str.occurrences j i 0 j.length 1).isEmpty)) H) (zP 0) (tC (.str "0123456789"))) (by walk_at"c0") rfl (WR (pv 0)) ?hb
   case hb =>
    intro fp C' s' H'
    exact⟨zN (i:=0) nc rfl (Or.inl rfl),qj,qC Zl (pv 0) (zY (v:=.str "0123456789") rfl hm ⟨_,rfl⟩) (by rfl)⟩
  refine⟨_,rfl,z,rfl,by omega,_,_,rfl,rfl,_,rfl,ye (fun e=>?_) (fun e=>?_)⟩
  ·have e:0<z.length:=by have:=of_decide_eq_true e;omega
   have ne:z.cps.toList≠[]:=fun y=>by rw[qB,y] at e;exact absurd e (by decide)
   refine⟨_,rfl,z,rfl,fun D hD=>?_⟩
   refine u9 (Yc (z:=z)) hD (by rw[cw,← qB];omega) (fun _=>true) (fun x=>match x with | .str y=>.bl (lj (y.cps.getD 0 0)) | v=>v) (fun x _ H' R _ r=>r) (fun x hx _ H' R _ r=>?_) ?_
   ·obtain⟨c,_,rfl⟩:=cH.mp hx
    refine⟨_,rfl,_,_,rfl,rfl,?_⟩
    rw[NP]
    exact r
   ·rw[De.mpr fun _ _=>rfl,cV]
    refine⟨D,z.cps.toList.map lj,rfl,zZ.of (by rw[cV];exact zj),?_⟩
    have e2:Yg z.cps.toList=(z.cps.toList.map lj).all id:=by
     unfold Yg
     rw[CS]
     cases h:z.cps.toList with
     | nil=>exact absurd h ne
     | cons a l=>rfl
    rw[← e2]
    exact q _ (zq.upd hD)
  ·have e0:z.cps.toList=[]:=dP.mp (by
    rw[← qB]
    have:¬ (0:Int)<(z.length:Nat):=fun c=>e (decide_eq_true c)
    omega)
   have q':=q H (zq.refl _)
   rw[e0] at q'
   exact q'
theorem mf (F:qJ K "is_number_text" "is_number_text" (top 34) f fd) (C1:qN P w K mg base z8 1 "are_figures" ["text"] Xk):zL P w K mg base z8 2 f fd ["text"] gg:=by
 refine F.ok (N:=["text"]) (by walk_at"s") (fun vs H Q E h=>?_) (fun cdv A outer s H vs Q E hr h=>?_)
 ·obtain⟨z,rfl,_⟩:=h
  rfl
 ·obtain⟨z,rfl,hz,q⟩:=h
  refine⟨_,(zi (zx (yO (zp C1 hr (by decide) zC (za (pv 0) zd)) (yX (RW (qC qK (pv 0) zt (zI _)) (yX (pB (yL PySem.F.plainAttrs_str PySem.F.slot_str_startswith PySem.F.type_str_startswith Yz (pv 0) (za zt zd))))))))),?_⟩
  refine⟨_,rfl,z,rfl,by omega,fun H1 s1=>⟨_,rfl,?_⟩⟩
  have q':=q H1 s1
  unfold QF at q'
  cases e:Yg z.cps.toList with
  | false =>
   rw[e] at q'
   exact qD q'
  | true =>
   rw[e,Cn] at q'
   refine qV ⟨_,rfl,rfl,_,rfl,?_⟩
   have e0:("0":Str).cps.toList=[48]:=by rw[UH]
   rw[Wk,e0]
   by_cases c:z.cps.toList=[48]
   ·rw[decide_eq_true c] at q' ⊢
    exact qV q'
   ·rw[decide_eq_false c,Do] at q'
    rw[decide_eq_false c]
    refine qD ⟨_,rfl,rfl,_,_,rfl,rfl,_,rfl,?_⟩
    rw[UH,WO]
    exact q'
end
end K11
namespace Pg
open PySem L2
theorem Gd.le {d e:Nat} {r:Rk} (h:Gd d r) (le:d≤e):Gd e r:=by
 induction le with
 | refl=>exact h
 | step _ ih=>exact ih.mono
end Pg
namespace L2
open PySem PySem.StrLaws Builtin Builtin.Str
noncomputable def yU (c:Nat):List Nat→Nat→List Nat
 | [],_=>[]
 | a::r,k=>if a=c then k::yU c r (k+1) else yU c r (k+1)
theorem pW (x:Str) (c:Nat):∀ (l:List Nat) (k:Nat) (f:Array Nat) (fr:Nat),x.cps.toList.drop k=l→k≤x.length→fr≤k→f.size≤k →
  (forIn (List.range' k (l.length+1)) (f,fr) (occBody x ⟨#[c]⟩ x.length (x.length+1))).run.fst.toList=f.toList++yU c l k:=by
 intro l
 induction l with
 | nil =>
  intro k f fr e hk hf hs
  have e1:List.range' k (([]:List Nat).length+1)=[k]:=rfl
  have e2:yU c [] k=[]:=rfl
  rw[e1,e2,List.forIn_cons]
  unfold occBody
  have:¬ (((f.size<x.length+1∧fr≤k)∧k+(⟨#[c]⟩:Str).length≤x.length)∧subAt x ⟨#[c]⟩ k=true):=fun h=>by
   have h1:=(subAt_one x c k).mp ⟨h.1.2,h.2⟩
   have h2:(x.cps.toList.drop k)[0]? = some c:=by rw[Ds];exact h1
   rw[e] at h2
   cases h2
  rw[if_neg this,Cv]
  rfl
 | cons a r ih =>
  intro k f fr e hk hf hs
  have ea:x.cps.toList[k]? = some a:=by
   have h2:(x.cps.toList.drop k)[0]? = some a:=by rw[e];rfl
   rw[Ds] at h2
   exact h2
  have er:x.cps.toList.drop (k+1)=r:=by
   rw[← List.drop_drop,e]
   rfl
  have kl:k+1≤x.length:=by
   have:=(cW.mp ea).1
   have e2:x.cps.toList.length=x.length:=rfl
   omega
  rw[Cr,List.range'_succ,List.forIn_cons]
  unfold occBody
  by_cases h:a=c
  ·subst h
   have h1:=(subAt_one x a k).mpr ea
   rw[if_pos ⟨⟨⟨C6 hs (by omega),hf⟩,h1.1⟩,h1.2⟩]
   have:=ih (k+1) (f.push k) (k+1) er kl (cx _) (by rw[Array.size_push];omega)
   have c1:yU a (a::r) k=k::yU a r (k+1):=if_pos rfl
   rw[c1]
   refine this.trans ?_
   rw[Dm,dw]
   rfl
  ·have:¬ (((f.size<x.length+1∧fr≤k)∧k+(⟨#[c]⟩:Str).length≤x.length)∧subAt x ⟨#[c]⟩ k=true):=fun q=>by
    have h1:=(subAt_one x c k).mp ⟨q.1.2,q.2⟩
    rw[ea] at h1
    exact h (Option.some.inj h1)
   rw[if_neg this]
   have c1:yU c (a::r) k=yU c r (k+1):=if_neg h
   rw[c1]
   exact ih (k+1) f fr er kl (by omega) (by omega)
theorem OV (x:Str) (c:Nat):occurrences x ⟨#[c]⟩ 0 x.length (x.length+1)=yU c x.cps.toList 0:=by
 rw[occ_eq]
 exact pW x c x.cps.toList 0 #[] 0 rfl (Cy _) (cx _) (cx _)
theorem Jg {c:Nat} {w:List Nat} (h:¬ c∈w) (r:List Nat) (k:Nat):yU c (w++r) k=yU c r (k+w.length):=by
 induction w generalizing k with
 | nil=>rfl
 | cons a w ih =>
  have n:¬ a=c:=fun e=>h (by rw[e];exact cX)
  have e:yU c (a::w++r) k=yU c (w++r) (k+1):=if_neg n
  rw[e,ih (fun m=>h (cP _ m)),Cr]
  congr 1
  omega
theorem xI (c:Nat) (l:List Nat) (k s:Nat):yU c l (k+s)=(yU c l k).map (· + s):=by
 induction l generalizing k with
 | nil=>rfl
 | cons a r ih =>
  show (if a=c then _ else _)=(if a=c then _ else _:List Nat).map _
  have e:=ih (k+1)
  rw[show k+1+s=k+s+1 by omega] at e
  split
  ·rw[CA,e]
  ·exact e
noncomputable def Th (l cuts:List Nat):List (List Nat):=List.zipWith (fun i j=>(l.drop i).take (j - i)) (0::cuts.map (· + 1)) (cuts++[l.length])
theorem oJ {c:Nat}:∀ (rest:List (List Nat)) (w:List Nat),¬ c∈w→(∀ v∈rest,¬ c∈v)→Th (w++(rest.map fun v=>c::v).flatten) (yU c (w++(rest.map fun v=>c::v).flatten) 0)=w::rest:=by
 intro rest
 induction rest with
 | nil =>
  intro w hw _
  rw[Jg hw]
  show [((w++[]).drop 0).take ((w++[]).length - 0)]=[w]
  rw[Cv,Df,Dg,CN]
 | cons v r ih =>
  intro w hw hr
  have ih:=ih v (hr v cX) fun u hu=>hr u (cP _ hu)
  have el:(((v::r).map fun v=>c::v).flatten)=c::(v++(r.map fun v=>c::v).flatten):=rfl
  rw[el]
  generalize v++(r.map fun v=>c::v).flatten=l' at ih
  have e1:yU c (w++c::l') 0=w.length::(yU c l' 0).map (· + (w.length+1)):=by
   rw[Jg hw,dR]
   show (if c=c then _ else _)=_
   rw[if_pos rfl,← xI,dR]
  rw[e1]
  unfold Th at ih ⊢
  rw[CA,Dj,List.zipWith_cons_cons]
  congr 1
  ·rw[Df,Dg]
   exact List.take_left
  ·rw[← ih]
   have s1:(w.length+1)::((yU c l' 0).map (· + (w.length+1))).map (· + 1)=(0::(yU c l' 0).map (· + 1)).map (· + (w.length+1)):=by
    rw[CA,dR,cV,cV]
    congr 1
    refine CW fun i _=>?_
    show i+(w.length+1)+1=i+1+(w.length+1)
    omega
   have s2:(yU c l' 0).map (· + (w.length+1))++[(w++c::l').length]=(yU c l' 0++[l'.length]).map (· + (w.length+1)):=by
    rw[Ce,cG,Cr]
    congr 1
    show [w.length+(l'.length+1)]=[l'.length+(w.length+1)]
    congr 1
    omega
   rw[s1,s2,List.zipWith_map]
   congr 1
   funext i j
   rw[Nat.add_sub_add_right]
   have:(w++c::l').drop (i+(w.length+1))=l'.drop i:=by
    rw[show i+(w.length+1)=w.length+(1+i) by omega,← List.drop_drop,List.drop_left,Nat.add_comm 1 i,List.drop_succ_cons]
   rw[this]
theorem Wt (c:Nat):∀ (ws:List Str) (acc:Array Nat),(ws.foldl (fun acc p=>acc++(⟨#[c]⟩:Str).cps++p.cps) acc).toList=acc.toList++((ws.map fun p=>p.cps.toList).map fun v=>c::v).flatten:=by
 intro ws
 induction ws with
 | nil=>intro acc;exact (Cv _).symm
 | cons p r ih =>
  intro acc
  rw[d6,ih]
  simp
theorem qM (c:Nat) (w:Str) (ws:List Str):(Txt.join ⟨#[c]⟩ (w::ws)).cps.toList=w.cps.toList++((ws.map fun p=>p.cps.toList).map fun v=>c::v).flatten:=Wt c ws w.cps
theorem UK (x:Str) (cuts:List Nat):(partsBetween x cuts 1).map (fun z=>z.cps.toList)=Th x.cps.toList cuts:=by
 unfold partsBetween Th
 rw[cV,List.zip,List.map_zipWith]
 congr 1
 funext i j
 show (x.cps.extract i j).toList=_
 rw[Array.toList_extract]
 try exact List.extract_eq_drop_take
theorem GP {a b:List Str} (h:a.map (fun z=>z.cps.toList)=b.map (fun z=>z.cps.toList)):a=b:=by
 induction a generalizing b with
 | nil =>
  cases b with
  | nil=>rfl
  | cons=>cases h
 | cons x r ih =>
  cases b with
  | nil=>cases h
  | cons y s =>
   have h1:=List.cons.inj h
   have e:x=y:=by
    obtain⟨x⟩:=x
    obtain⟨y⟩:=y
    exact congrArg Str.mk (Dn.mp h1.1)
   rw[e,ih h1.2]
theorem um {c:Nat} {w:Str} {ws:List Str} (hk:strKind (⟨#[c]⟩:Str)=1) (hw:¬ c∈w.cps.toList) (h:∀ v∈ws,¬ c∈v.cps.toList) (ne:1≤(Txt.join ⟨#[c]⟩ (w::ws)).length) :
  Txt.split (Txt.join ⟨#[c]⟩ (w::ws)) ⟨#[c]⟩=w::ws∧partsBetween (Txt.join ⟨#[c]⟩ (w::ws)) (occurrences (Txt.join ⟨#[c]⟩ (w::ws)) ⟨#[c]⟩ 0 (Txt.join ⟨#[c]⟩ (w::ws)).length ((Txt.join ⟨#[c]⟩ (w::ws)).length+1)) 1=w::ws:=by
 have e0:partsBetween (Txt.join ⟨#[c]⟩ (w::ws)) (occurrences (Txt.join ⟨#[c]⟩ (w::ws)) ⟨#[c]⟩ 0 (Txt.join ⟨#[c]⟩ (w::ws)).length ((Txt.join ⟨#[c]⟩ (w::ws)).length+1)) 1=w::ws:=by
  apply GP
  rw[UK,OV,qM]
  exact oJ _ _ hw fun v hv=>by
   obtain⟨u,hu,rfl⟩:=cH.mp hv
   exact h u hu
 refine⟨?_,e0⟩
 unfold Txt.split
 have k1:1≤strKind (Txt.join ⟨#[c]⟩ (w::ws)):=by
  unfold Builtin.Str.strKind
  split
  ·decide
  ·split <;> decide
 have c1:(decide ((Txt.join ⟨#[c]⟩ (w::ws)).length<(⟨#[c]⟩:Str).length) || decide (strKind (Txt.join ⟨#[c]⟩ (w::ws))<strKind (⟨#[c]⟩:Str)))=false:=by
  rw[hk,Bool.or_eq_false_iff]
  exact⟨decide_eq_false (by show ¬ _<1;omega),decide_eq_false (by omega)⟩
 rw[if_neg (by rw[c1];exact cZ)]
 split
 ·rename_i he
  have hn:occurrences (Txt.join ⟨#[c]⟩ (w::ws)) ⟨#[c]⟩ 0 (Txt.join ⟨#[c]⟩ (w::ws)).length ((Txt.join ⟨#[c]⟩ (w::ws)).length+1)=[]:=List.isEmpty_iff.mp he
  rw[hn] at e0
  have e1:partsBetween (Txt.join ⟨#[c]⟩ (w::ws)) [] 1=[strSub (Txt.join ⟨#[c]⟩ (w::ws)) 0 (Txt.join ⟨#[c]⟩ (w::ws)).length]:=rfl
  refine Eq.trans ?_ (e1.symm.trans e0)
  have:(Txt.join ⟨#[c]⟩ (w::ws)).cps.extract 0 (Txt.join ⟨#[c]⟩ (w::ws)).length=(Txt.join ⟨#[c]⟩ (w::ws)).cps:=Array.extract_size
  show [_]=[(⟨_⟩:Str)]
  rw[this]
 ·exact e0
end L2
namespace L2
open PySem PySem.Spec PyProof.Rows
end L2
namespace Pg
open PySem PySem.NumText L2 Builtin Builtin.Str
theorem rY (n:Nat):digitsVal (dg n)=n:=by
 induction n using Nat.strongRecOn with
 | ind n ih =>
  by_cases h:n<10
  ·rw[OP h]
   show 0*10+(48+n - 48)=n
   omega
  ·rw[XI (by omega),digitsVal_snoc,ih (n/10) (by omega)]
   omega
theorem Oz {n:Nat} (h:n≠0):∃ c r,dg n=c::r∧c≠48:=by
 induction n using Nat.strongRecOn with
 | ind n ih =>
  by_cases h10:n<10
  ·exact⟨48+n,[],OP h10,by omega⟩
  ·obtain⟨c,r,e,ne⟩:=ih (n/10) (by omega) (by omega)
   exact⟨c,r++[48+n%10],by rw[XI (by omega),e];rfl,ne⟩
theorem nY (n:Nat):Yg (dg n)=true:=by
 have h:=Jr n
 have l:=QL n
 unfold Yg
 rw[cz]
 constructor
 ·cases e:dg n with
  | nil=>rw[e] at l;exact absurd l (by decide)
  | cons=>rfl
 ·rw[Cm]
  intro c hc
  have:=h c hc
  unfold lj
  rw[decide_eq_true this.1,decide_eq_true this.2]
  rfl
theorem nH (n:Nat):QF (dg n)=true:=by
 unfold QF
 rw[nY,Cn]
 by_cases h:n=0
 ·subst h
  rfl
 ·obtain⟨c,r,e,ne⟩:=Oz h
  rw[e]
  have:decide ((c::r).head? = some 48)=false:=decide_eq_false fun z=>ne (Option.some.inj z)
  rw[this]
  exact Bool.or_true _
theorem vM {i:Int} (h:0≤i):(toString i:Str).cps.toList=dg i.toNat:=by
 obtain⟨n,rfl⟩:=CJ h
 exact Yb n
theorem kI {i:Int} (h:QB i):YZ i:=⟨h.1,by have:=h.2;omega⟩
theorem U5 {c:Nat} (h:c<48∨57<c) (n:Nat):¬ c∈dg n:=fun m=>by
 have:=Jr n c m
 omega
theorem XE {c:Nat} (h:c<97) {z:Str} (n:qT z):¬ c∈z.cps.toList:=fun m=>by
 have:=Cm.mp n.ok.all c m
 unfold YJ at this
 rw[cz] at this
 have:=of_decide_eq_true this.1
 omega
theorem QW {w:Str} (h:Jd w):¬ 32∈w.cps.toList:=by
 have h:=CK.mp h
 unfold wayL at h
 simp only[cy,cA,or_false] at h
 rcases h with rfl | rfl | rfl | rfl <;> decide +kernel
theorem Vd {c:Nat} (h:c<48∨57<c) {i:Int} (h0:0≤i):¬ c∈(toString i:Str).cps.toList:=by
 rw[vM h0]
 exact U5 h _
theorem Tn:(" ":Str)=⟨#[32]⟩:=by decide +kernel
theorem B6:(":":Str)=⟨#[58]⟩:=by decide +kernel
theorem BC:(",":Str)=⟨#[44]⟩:=by decide +kernel
theorem XC {c:Nat} (h:c<256):Builtin.Str.strKind (⟨#[c]⟩:Str)=1:=by
 unfold Builtin.Str.strKind
 rw[if_pos]
 simp[h]
noncomputable def je:Rk→List Str
 | .bands n ps w=>[("bands":Str),n,vv ps,w]
 | .ontop n p w r=>[("ontop":Str),n,(toString p:Str),w,("of":Str)]++je r
 | .flat n a=>[("flat":Str),n,(toString a:Str)]
 | .share n p w=>[("share":Str),n,(toString p:Str),w]
 | .capped n p m w=>[("capped":Str),n,(toString p:Str),(toString m:Str),w]
 | .least n p l w=>[("least":Str),n,(toString p:Str),(toString l:Str),w]
theorem wL (r:Rk):∃ w ws,je r=w::ws∧w.length ≥ 1:=by
 cases r <;> exact⟨_,_,rfl,by decide +kernel⟩
theorem Og (c:Nat) (x y:Str) (xs ys:List Str):Txt.join ⟨#[c]⟩ (x::xs++[Txt.join ⟨#[c]⟩ (y::ys)])=Txt.join ⟨#[c]⟩ (x::xs++y::ys):=by
 apply Jz
 rw[Dj,Dj,qM,qM,Ce,Ce,Ce,Ce,List.flatten_append,List.flatten_append,CA,List.map_nil,qM]
 simp
theorem Qa (r:Rk):jx r=Txt.join " " (je r):=by
 induction r with
 | ontop n p w r ih =>
  obtain⟨v,vs,e,_⟩:=wL r
  show Txt.join " " [("ontop":Str),n,(toString p:Str),w,("of":Str),jx r]=Txt.join " " ([("ontop":Str),n,(toString p:Str),w,("of":Str)]++je r)
  rw[ih,e,Tn]
  exact Og 32 ("ontop":Str) v [n,(toString p:Str),w,("of":Str)] vs
 | _=>rfl
theorem uF (q:Int × Int) (h0:0≤q.1) (h1:0≤q.2):(yT q).cps.toList=dg q.1.toNat++(58::dg q.2.toNat):=by
 unfold yT
 rw[qZ,qZ,vM h0,vM h1,dw]
 rfl
theorem Ws (q:Int × Int):yT q=Txt.join ⟨#[58]⟩ [(toString q.1:Str),(toString q.2:Str)]:=by
 apply Jz
 rw[qM]
 unfold yT
 rw[qZ,qZ]
 simp
 rfl
theorem ND {ps:List (Int × Int)} (ok:ZK ps):¬ 32∈(vv ps).cps.toList:=by
 obtain⟨p,r,e⟩:=ok.hd
 have hb:∀ q∈ps,¬ 32∈(yT q).cps.toList:=fun q hq m=>by
  have h:=ok.ok q hq
  rw[uF q h.1.1 h.2.1] at m
  rcases Cu.mp m with m | m
  ·exact U5 (.inl (by decide)) _ m
  ·rcases cy.mp m with m | m
   ·exact absurd m (by decide)
   ·exact U5 (.inl (by decide)) _ m
 unfold vv
 rw[e] at hb ⊢
 rw[CA,BC,qM]
 intro m
 rcases Cu.mp m with m | m
 ·exact hb _ cX m
 ·obtain⟨l,hl,m⟩:=List.mem_flatten.mp m
  obtain⟨v,hv,rfl⟩:=cH.mp hl
  obtain⟨u,hu,rfl⟩:=cH.mp hv
  obtain⟨q,hq,rfl⟩:=cH.mp hu
  rcases cy.mp m with m | m
  ·exact absurd m (by decide)
  ·exact hb q (cP _ hq) m
theorem Oa {d:Nat} {r:Rk} (g:Gd d r):∀ z∈je r,¬ 32∈z.cps.toList:=by
 have lit:∀ {z:Str},z.cps.toList.contains 32=false→¬ 32∈z.cps.toList:=fun h m=>by rw[CK.mpr m] at h;cases h
 have sp:∀ {z:Str},qT z→¬ 32∈z.cps.toList:=fun h=>XE (by decide) h
 have pt:∀ {i:Int},QB i→¬ 32∈(toString i:Str).cps.toList:=fun h=>Vd (.inl (by decide)) h.1
 have am:∀ {i:Int},YZ i→¬ 32∈(toString i:Str).cps.toList:=fun h=>Vd (.inl (by decide)) h.1
 induction g with
 | pln p =>
  intro z hz
  cases p with
  | flat hn ha =>
   simp only[je,cy,cA,or_false] at hz
   rcases hz with rfl | rfl | rfl
   ·exact lit (by decide +kernel)
   ·exact sp hn
   ·exact am ha
  | share hn hp hw =>
   simp only[je,cy,cA,or_false] at hz
   rcases hz with rfl | rfl | rfl | rfl
   ·exact lit (by decide +kernel)
   ·exact sp hn
   ·exact pt hp
   ·exact QW hw
  | capped hn hp ha hw =>
   simp only[je,cy,cA,or_false] at hz
   rcases hz with rfl | rfl | rfl | rfl | rfl
   ·exact lit (by decide +kernel)
   ·exact sp hn
   ·exact pt hp
   ·exact am ha
   ·exact QW hw
  | least hn hp ha hw =>
   simp only[je,cy,cA,or_false] at hz
   rcases hz with rfl | rfl | rfl | rfl | rfl
   ·exact lit (by decide +kernel)
   ·exact sp hn
   ·exact pt hp
   ·exact am ha
   ·exact QW hw
 | bands hn ok hw =>
  intro z hz
  simp only[je,cy,cA,or_false] at hz
  rcases hz with rfl | rfl | rfl | rfl
  ·exact lit (by decide +kernel)
  ·exact sp hn
  ·exact ND ok
  ·exact QW hw
 | ontop hn hp hw _ ih =>
  intro z hz
  rcases Cu.mp hz with hz | hz
  ·simp only[cy,cA,or_false] at hz
   rcases hz with rfl | rfl | rfl | rfl | rfl
   ·exact lit (by decide +kernel)
   ·exact sp hn
   ·exact pt hp
   ·exact QW hw
   ·exact lit (by decide +kernel)
  ·exact ih z hz
theorem gJ {d:Nat} {r:Rk} (g:Gd d r):Txt.split (jx r) " " = je r∧partsBetween (jx r) (occurrences (jx r) " " 0 (jx r).length ((jx r).length+1)) 1=je r:=by
 obtain⟨w,ws,e,l⟩:=wL r
 have no:=Oa g
 rw[Qa,e,Tn]
 rw[e] at no
 refine um (XC (by decide)) (no w cX) (fun v hv=>no v (cP _ hv)) ?_
 rw[qB,qM,cG,← qB]
 omega
theorem xX (q:Int × Int) (h0:0≤q.1) (h1:0≤q.2):Txt.split (yT q) ":" = [(toString q.1:Str),(toString q.2:Str)]∧partsBetween (yT q) (occurrences (yT q) ":" 0 (yT q).length ((yT q).length+1)) 1=[(toString q.1:Str),(toString q.2:Str)]:=by
 rw[Ws,B6]
 refine um (XC (by decide)) (Vd (.inr (by decide)) h0) (fun v hv=>?_) ?_
 ·rw[Cq.mp hv]
  exact Vd (.inr (by decide)) h1
 ·rw[qB,qM,cG,vM h0]
  have:=QL q.1.toNat
  omega
theorem Um {ps:List (Int × Int)} (ok:ZK ps):Txt.split (vv ps) "," = ps.map yT∧partsBetween (vv ps) (occurrences (vv ps) "," 0 (vv ps).length ((vv ps).length+1)) 1=ps.map yT:=by
 obtain⟨p,r,e⟩:=ok.hd
 have hb:∀ q∈ps,¬ 44∈(yT q).cps.toList:=fun q hq m=>by
  have h:=ok.ok q hq
  rw[uF q h.1.1 h.2.1] at m
  rcases Cu.mp m with m | m
  ·exact U5 (.inl (by decide)) _ m
  ·rcases cy.mp m with m | m
   ·exact absurd m (by decide)
   ·exact U5 (.inl (by decide)) _ m
 have h0:=(ok.ok ((0:Int),p) (by rw[e];exact cX))
 unfold vv
 rw[e] at hb ⊢
 rw[CA,BC]
 refine um (XC (by decide)) (hb _ cX) (fun v hv=>?_) ?_
 ·obtain⟨q,hq,rfl⟩:=cH.mp hv
  exact hb q (cP _ hq)
 ·rw[qB,qM,cG,uF _ h0.1.1 h0.2.1,cG,Cr]
  omega
noncomputable def Nb:V→List V→Hp→VK→Prop:=fun x vs H Q=>∃ z y,x = .str z∧vs=[.str y]∧(y.length==0)=false∧z.length≤sizeLine∧(partsBetween z (occurrences z y 0 z.length (z.length+1)) y.length).length≤sizeLine∧G9 H (.lst ((Txt.split z y).map V.str)) Q
noncomputable def Ze (Cs:Nat→Addr):Sp:=fun vs H Q _=>∃ r,vs=[.str (jx r)]∧Gd 3 r∧∀ o H',zq H H'→uu Cs H' r o→Q o H'
end Pg
namespace Pg
open PySem L2
noncomputable def Xc:Sp:=fun vs H Q _=>∃ (c:Int) (n:Nat),vs=[.int c,.int (n:Nat)]∧n≤8∧∀ (nms:List Str) l H',nms.length=n→(∀ z∈nms,qT z)→nms.Nodup→zq H H'→H l=none→H' l=some (.lst (nms.map V.str))→Q (.ref l) H'
theorem QG {n:Nat} {p:Str→Prop} {t:Nat→Str→Prop} {zs:List V} (h:∀ (i:Nat) u,zs[i]? = some u→∃ k,(List.range n)[i]? = some k∧∃ z,u = .str z∧p z∧t k z):∃ nms:List Str,zs=nms.map V.str∧(∀ z∈nms,p z)∧∀ (i:Nat) z,nms[i]? = some z→t i z:=by
 have h':∀ u∈zs,∃ z,u = .str z∧p z:=fun u hu=>by
  obtain⟨i,hi⟩:=Dh.mp hu
  obtain⟨k,_,z,e,hp,_⟩:=h i u hi
  exact⟨z,e,hp⟩
 obtain⟨nms,rfl,hn⟩:=OA h'
 refine⟨nms,rfl,hn,fun i z hz=>?_⟩
 obtain⟨k,hk,z',e,_,ht⟩:=h i (.str z) (by rw[cQ,hz];rfl)
 cases e
 obtain⟨hk1,hk2⟩:=cW.mp hk
 rw[Dk] at hk2
 subst hk2
 exact ht
theorem Ql {nms:List Str} {t:Nat→Str→Prop} (h:∀ (i:Nat) z,nms[i]? = some z→t i z) (inj:∀ i j z,i<nms.length→j<nms.length→t i z→t j z→i=j):nms.Nodup:=by
 rw[DH,Dc]
 intro i j hi hj lt e
 have h1:=h i _ (cI hi)
 have h2:=h j _ (cI hj)
 rw[e] at h1
 have:=inj i j _ hi hj h1 h2
 omega
theorem Nh {i j:Nat} {z:Str} (h1:okNames[i]? = some z) (h2:okNames[j]? = some z):i=j:=by
 have nd:okNames.Nodup:=by decide +kernel
 obtain⟨a,e1⟩:=cW.mp h1
 obtain⟨b,e2⟩:=cW.mp h2
 have pw:=Dc.mp (DH.mp nd)
 rcases Nat.lt_trichotomy i j with lt | e | lt
 ·exact absurd (e1.trans e2.symm) (pw i j a b lt)
 ·exact e
 ·exact absurd (e2.trans e1.symm) (pw j i b a lt)
structure YC (rs:List Rk):Prop where
 gd:∀ r∈rs,Gd 3 r
 nd:(rs.map Rk.name).Nodup
 few:rs.length≤8
noncomputable def mZ (Cs:Nat→Addr) (H:Hp) (l:Addr) (rs:List Rk):Prop:=∃ ys,H l=some (.lst ys)∧q9 H ys rs (fun H' v r=>uu Cs H' r v)
noncomputable def Rn (H:Hp) (l:Addr) (rs:List Rk):Prop:=∃ ys,H l=some (.lst ys)∧q9 H ys rs (fun H' v r=>Y8 H' r v)
theorem Y8.name {H:Hp} {r:Rk} {v:V} {d:Nat} (h:Y8 H r v) (g:Gd d r):∃ t l,v = .ref t∧H t=some (.tup l)∧kT l 1=some (.str r.name):=by
 cases h with
 | pln k h =>
  obtain⟨t,rfl,h⟩:=h
  exact⟨t,_,rfl,h,N6 (g.pl k)⟩
 | bands h b=>exact⟨_,_,rfl,h,rfl⟩
 | ontop h b=>exact⟨_,_,rfl,h,rfl⟩
end Pg
namespace L2
open PySem PySem.Spec PyProof.Rows
section
variable {X:Cx} {pins:List (Addr × Obj)} {σ:St} {H:Hp} {s:Shared}
end
section
variable {X:Cx}
end
end L2
namespace Pg
open PySem L2
theorem Gh.items {α:Type} {H:Hp} {zs:List V} {xs:List α} {S:Hp→V→α→Prop} (M:Gh H zs xs S) (mono:∀ H',zq H H'→∀ v x,S H v x→S H' v x):q9 H zs xs S:=by
 refine⟨M.len,fun i y e=>?_⟩
 have hi:i<xs.length:=by rw[← M.len];exact (cW.mp e).1
 obtain⟨u,h1,h2⟩:=M.at_ i _ (cI hi)
 rw[e] at h1
 cases h1
 exact⟨_,cI hi,fun H' s=>mono H' s _ _ h2⟩
theorem UG {H:Hp} {zs:List V} {n:Nat} {P:Hp→V→Rk→Prop} {q:Nat→Rk→Prop} (M:Gh H zs (List.range n) (fun H u k=>∃ r,P H u r∧q k r)):∃ rs:List Rk,rs.length=n∧(∀ (i:Nat) r,rs[i]? = some r→q i r∧∃ u,zs[i]? = some u∧P H u r):=by
 have h:∀ k,∃ r,k<n→q k r∧∃ u,zs[k]? = some u∧P H u r:=fun k=>by
  by_cases hk:k<n
  ·obtain⟨u,h1,r,h2,h3⟩:=M.at_ k k (by rw[cI (by rw[Cj];exact hk),Dk])
   exact⟨r,fun _=>⟨h3,u,h1,h2⟩⟩
  ·exact⟨.flat "a" 0,fun z=>absurd z hk⟩
 obtain⟨f,hf⟩:∃ f:Nat→Rk,∀ k,k<n→q k (f k)∧∃ u,zs[k]? = some u∧P H u (f k):=⟨fun k=>(h k).choose,fun k hk=>(h k).choose_spec hk⟩
 refine⟨(List.range n).map f,by rw[cw,Cj],fun i r e=>?_⟩
 rw[cQ] at e
 obtain⟨k,h1,rfl⟩:=Cd.mp e
 obtain⟨hk1,hk2⟩:=cW.mp h1
 rw[Dk] at hk2
 subst hk2
 rw[Cj] at hk1
 exact hf i hk1
noncomputable def Zi (K:BFr):Sp:=fun vs H Q _=>∃ (c:Int) (ln:Addr) (nms:List Str) (mo:Nat),vs=[.int c,.ref ln,.int (mo:Nat)]∧mo≤8∧zZ K H ln (nms.map V.str)∧nms.length=8∧(∀ z∈nms,qT z)∧nms.Nodup∧∀ l rs H',YC rs→zq H H'→H l=none→Rn H' l rs→Q (.ref l) H'
end Pg
namespace L2
open PySem
theorem jP.mono {P:Program} {w:World} {K:BFr} {mg:Str→Option Value} {base:Heap} {CX:wN} {j k:Nat} {C:Addr} {x:Str} {ps:List Str} {sp:Sp} (M:jP P w K mg base CX j x C ps sp) (h:j≤k):jP P w K mg base CX k x C ps sp:=by
 obtain⟨a,f,fd,b,c,F⟩:=M
 exact⟨a,f,fd,b,c,F.mono h⟩
end L2
namespace Pg
open PySem L2
theorem Gy {a b:Nat} (h:(!(Nat.beq a b))=true):a≠b:=fun e=>by
 subst e
 rw[Nat.beq_refl] at h
 cases h
section
variable {P:Program} {w:World} {K:BFr} {mg:Str→Option Value} {base:Heap} {CX:wN} {j d:Nat} {Cs:Nat→Addr}
theorem kQ {d e k:Nat} {Cs:Nat→Addr} (h:d≤e):∀ vs H Q E,yA d k Cs vs H Q E→yA e k Cs vs H Q E:=by
 rintro vs H Q E ⟨v,r,rfl,h1,h2,h3,h4⟩
 exact⟨v,r,rfl,h1,h2,h3.le h,h4⟩
theorem wV {d e k:Nat} {Cs:Nat→Addr} (h:d≤e):∀ vs H Q E,q4 d k Cs vs H Q E→q4 e k Cs vs H Q E:=by
 rintro vs H Q E ⟨v,r,rfl,h1,h2,h3,h4⟩
 exact⟨v,r,rfl,h1,h2,h3.le h,h4⟩
theorem Xh (D0:qU P w K mg base CX 1 (Cs 0) "depth" ["self"] (yA 3 0 Cs)) (D1:qU P w K mg base CX 1 (Cs 1) "depth" ["self"] (yA 3 1 Cs)) (D2:qU P w K mg base CX 1 (Cs 2) "depth" ["self"] (yA 3 2 Cs)) (D3:qU P w K mg base CX 1 (Cs 3) "depth" ["self"] (yA 3 3 Cs)) (D4:qU P w K mg base CX 1 (Cs 4) "depth" ["self"] (yA 3 4 Cs)) (hd:d≤3) (hj:1≤j) (D5:qU P w K mg base CX j (Cs 5) "depth" ["self"] (yA d 5 Cs)) :
  ∀ k,k<6→qU P w K mg base CX j (Cs k) "depth" ["self"] (yA d k Cs) :=
 Qv ((D0.imp (kQ hd)).mono hj) ((D1.imp (kQ hd)).mono hj) ((D2.imp (kQ hd)).mono hj) ((D3.imp (kQ hd)).mono hj) ((D4.imp (kQ hd)).mono hj) D5
theorem XD (T0:qU P w K mg base CX 7 (Cs 0) "twin" ["self"] (q4 3 0 Cs)) (T1:qU P w K mg base CX 7 (Cs 1) "twin" ["self"] (q4 3 1 Cs)) (T2:qU P w K mg base CX 7 (Cs 2) "twin" ["self"] (q4 3 2 Cs)) (T3:qU P w K mg base CX 7 (Cs 3) "twin" ["self"] (q4 3 3 Cs)) (T4:qU P w K mg base CX 8 (Cs 4) "twin" ["self"] (q4 3 4 Cs)) (hd:d≤3) (hj:8≤j) (T5:qU P w K mg base CX j (Cs 5) "twin" ["self"] (q4 d 5 Cs)) :
  ∀ k,k<6→qU P w K mg base CX j (Cs k) "twin" ["self"] (q4 d k Cs) :=
 Qv ((T0.imp (wV hd)).mono (by omega)) ((T1.imp (wV hd)).mono (by omega)) ((T2.imp (wV hd)).mono (by omega)) ((T3.imp (wV hd)).mono (by omega)) ((T4.imp (wV hd)).mono hj) T5
end
end Pg
namespace L2
open PySem PySem.Spec PyProof.Rows
section
variable {X:Cx} {pins:List (Addr × Obj)} {σ:St} {H:Hp} {s:Shared} {d:Addr} {kvs:List (yY × V)} {o:Obj}
theorem zJ.thaw (I:zJ X pins σ H s) (n:∀ o u,X.H₀ d≠some (.frz o u)) (hd:H d=some (.frz o (.dK kvs))):zJ X pins σ (upd H d (.dK kvs)) s:=by
 have ok:=I.hok d _ hd
 have ne:∀ b (u:HO),H b=some u→(∀ o k,u≠.frz o k)→b≠d:=fun b u q n' e=>by
  subst e
  rw[hd] at q
  exact n' _ _ (Option.some.inj q).symm
 have nn:∀ b,H b=none→b≠d:=fun b q e=>by rw[e,hd] at q;cases q
 refine⟨I.ok,I.os,I.bare,⟨I.base.keep,I.base.slot,fun b u q n hx=>?_,I.base.there,fun b ys q=>?_,fun b u v q=>?_,fun b ps q=>?_⟩,I.loc,I.cell,?_,fun x c q=>?_,fun p hp=>?_,fun b u q=>?_,I.len⟩
 ·have z:=I.base.free b u q n hx
  rw[zm (nn b z)];exact z
 ·have z:=I.base.tups b ys q
  rw[zm (ne _ _ z fun _ _ e=>nomatch e)];exact z
 ·have z:=I.base.frzs b u v q
  rw[zm (fun e=>n u v (by rw[← e];exact q))];exact z
 ·obtain⟨m,z⟩:=I.base.tbls b ps q
  exact⟨m,by rw[zm (ne _ _ z fun _ _ e=>nomatch e)];exact z⟩
 ·rw[zm (nn _ I.free)];exact I.free
 ·have z:=I.freeC x c q
  rw[zm (nn _ z)];exact z
 ·obtain⟨p1,p2,p3,p4,p5⟩:=I.pin p hp
  exact⟨p1,by rw[zm (nn _ p2)];exact p2,p3,p4,p5⟩
 ·by_cases nb:b=d
  ·subst nb
   rw[zj] at q
   cases q
   exact ok.2
  ·rw[zm nb] at q
   refine (I.hok b u q).stay (fun c u _ z=>z) (fun c z=>?_) fun c ys z=>?_
   ·rw[zm (ne _ _ z fun _ _ e=>nomatch e)];exact z
   ·rw[zm (ne _ _ z fun _ _ e=>nomatch e)];exact z
noncomputable def cf (d:Addr) (o:Obj) (kvs:List (yY × V)) (D:uE):uE:={ nx:=fun σ H=>H d=some (.frz o (.dK kvs))∧D.nx σ (upd H d (.dK kvs)),rt:=fun v H=>H d=some (.frz o (.dK kvs))∧D.rt v (upd H d (.dK kvs)),bk:=fun σ H=>H d=some (.frz o (.dK kvs))∧D.bk σ (upd H d (.dK kvs)),ct:=fun σ H=>H d=some (.frz o (.dK kvs))∧D.ct σ (upd H d (.dK kvs)) }
noncomputable def Bm (t:TS):TS:=fun D σ H=>∃ d kvs,H d=some (.dK kvs)∧∀ o,t (cf d o kvs D) σ (upd H d (.frz o (.dK kvs)))
theorem Ob {st:Stmt} {t:TS} (h:PS X st t):PS X st (Bm t):=by
 intro pins s σ H D I q
 obtain⟨d,kvs,hd,q⟩:=q
 obtain⟨o,J⟩:=I.freeze hd
 have n:∀ o u,X.H₀ d≠some (.frz o u):=fun o u z=>by
  have:=I.base.frzs d o u z
  rw[hd] at this
  cases this
 refine wpAny_mono (h pins s σ _ _ J (q o)) (fun f s1 q=>?_) fun _ _ z=>z
 cases f with
 | next=>obtain⟨σ',H',I',hd',q⟩:=q;exact⟨σ',_,I'.thaw n hd',q⟩
 | brk=>obtain⟨σ',H',I',hd',q⟩:=q;exact⟨σ',_,I'.thaw n hd',q⟩
 | cont=>obtain⟨σ',H',I',hd',q⟩:=q;exact⟨σ',_,I'.thaw n hd',q⟩
 | ret u=>obtain⟨v,σ',H',I',r,hd',q⟩:=q;exact⟨v,σ',_,I'.thaw n hd',r,q⟩
theorem Y3 {H H':Hp} {d:Addr} {o:Obj} {kvs:List (yY × V)} (hd:H d=some (.dK kvs)) (s:zq (upd H d (.frz o (.dK kvs))) H'):zq H (upd H' d (.dK kvs)):=fun b u e=>by
 by_cases c:b=d
 ·subst c
  rw[zj,← hd]
  exact e
 ·rw[zm c]
  exact s b u (by rw[zm c];exact e)
end
end L2
namespace Pg
open PySem L2
abbrev Be:=Int × Addr × List Rk
noncomputable def yr (e:Be):Int × List Rk:=(e.1,e.2.2)
noncomputable def jZ (es:List Be):List (yY × V):=es.map fun e=>(Sum.inl e.1,V.ref e.2.1)
noncomputable def yN (rs:List Rk):List V:=rs.map fun r=>V.str (jx r)
structure Yl (C:Addr) (H:Hp) (B dx t:Addr) (es:List Be):Prop where
 ins:H B=some (.ins C dx [("told",.ref t)])
 dic:H t=some (.dK (jZ es))
 nd:(es.map (·.1)).Nodup
 row:∀ e∈es,H e.2.1=some (.lst (yN e.2.2))
 ok:∀ e∈es,YC e.2.2
theorem Yl.fr {C:Addr} {H H':Hp} {B dx t:Addr} {es:List Be} (h:Yl C H B dx t es) (k:∀ b o,H b=some o→H' b=some o):Yl C H' B dx t es:=⟨k _ _ h.ins,k _ _ h.dic,h.nd,fun e he=>k _ _ (h.row e he),h.ok⟩
theorem JO {a b:Int}:(Sum.inl a:yY)=Sum.inl b↔a=b:=⟨fun h=>by injection h,fun h=>by rw[h]⟩
theorem Pm {es:List Be} (nd:(es.map (·.1)).Nodup) {e:Be} (h:e∈es):ZJ (jZ es) (Sum.inl e.1)=some (.ref e.2.1):=by
 induction es with
 | nil=>cases h
 | cons p r ih =>
  have nd:(p.1::r.map (·.1)).Nodup:=nd
  obtain⟨n1,n2⟩:=CI.mp nd
  rcases cy.mp h with rfl | h
  ·exact ku rfl
  ·have ne:¬ (Sum.inl p.1:yY)=Sum.inl e.1:=fun z=>n1 (by rw[JO.mp z];exact cH.mpr ⟨_,h,rfl⟩)
   exact (kh ne).trans (ih n2 h)
noncomputable def we (es:List Be) (Y:Int) (a:Addr) (rs:List Rk):List Be:=if (es.any fun e=>decide (e.1=Y))=true then es.map (fun e=>if e.1=Y then (Y,a,rs) else e) else es++[(Y,a,rs)]
noncomputable def tf (ps:List (Int × List Rk)) (Y:Int) (rs:List Rk):List (Int × List Rk):=if (ps.any fun e=>decide (e.1=Y))=true then ps.map (fun e=>if e.1=Y then (Y,rs) else e) else ps++[(Y,rs)]
theorem oy (es:List Be) (Y:Int) (a:Addr) (rs:List Rk):Za (jZ es) (Sum.inl Y) (.ref a)=jZ (we es Y a rs):=by
 have e1:((jZ es).any fun kv=>decide (kv.1=Sum.inl Y))=es.any fun e=>decide (e.1=Y):=by
  unfold jZ
  rw[List.any_map]
  congr 1
  funext e
  exact decide_eq_decide.mpr JO
 unfold Za we
 rw[e1]
 cases q:es.any fun e=>decide (e.1=Y) with
 | true =>
  rw[if_pos rfl,if_pos rfl]
  unfold jZ
  rw[cV,cV]
  refine CW fun e _=>?_
  show (if (Sum.inl e.1:yY)=Sum.inl Y then ((Sum.inl e.1:yY),V.ref a) else (Sum.inl e.1,V.ref e.2.1))=(Sum.inl (if e.1=Y then ((Y,a,rs):Be) else e).1,V.ref (if e.1=Y then ((Y,a,rs):Be) else e).2.1)
  by_cases c:e.1=Y
  ·rw[if_pos (JO.mpr c),if_pos c,c]
  ·rw[if_neg (fun z=>c (JO.mp z)),if_neg c]
 | false =>
  rw[if_neg cZ,if_neg cZ]
  unfold jZ
  rw[Ce]
  rfl
theorem Xm (es:List Be) (Y:Int) (a:Addr) (rs:List Rk):(we es Y a rs).map yr=tf (es.map yr) Y rs:=by
 have e1:((es.map yr).any fun e=>decide (e.1=Y))=es.any fun e=>decide (e.1=Y):=by rw[List.any_map];rfl
 unfold we tf
 rw[e1]
 cases q:es.any fun e=>decide (e.1=Y) with
 | true =>
  rw[if_pos rfl,if_pos rfl,cV,cV]
  refine CW fun e _=>?_
  show yr (if e.1=Y then (Y,a,rs) else e)=if e.1=Y then (Y,rs) else yr e
  by_cases c:e.1=Y
  ·rw[if_pos c,if_pos c];rfl
  ·rw[if_neg c,if_neg c]
 | false =>
  rw[if_neg cZ,if_neg cZ,Ce]
  rfl
theorem vN {es:List Be} {Y:Int} {a:Addr} {rs:List Rk} {e:Be} (h:e∈we es Y a rs):e=(Y,a,rs)∨e∈es:=by
 unfold we at h
 cases q:es.any fun e=>decide (e.1=Y) with
 | true =>
  rw[q,if_pos rfl] at h
  obtain⟨f,hf,rfl⟩:=cH.mp h
  by_cases c:f.1=Y
  ·rw[if_pos c];exact .inl rfl
  ·rw[if_neg c];exact .inr hf
 | false =>
  rw[q,if_neg cZ] at h
  rcases Cu.mp h with h | h
  ·exact .inr h
  ·exact .inl (Cq.mp h)
theorem XZ {es:List Be} {Y:Int} {a:Addr} {rs:List Rk} (nd:(es.map (·.1)).Nodup):((we es Y a rs).map (·.1)).Nodup:=by
 unfold we
 cases q:es.any fun e=>decide (e.1=Y) with
 | true =>
  rw[if_pos rfl,cV]
  have:es.map ((·.1) ∘ fun e=>if e.1=Y then ((Y,a,rs):Be) else e)=es.map (·.1):=CW fun e _=>by
   show (if e.1=Y then ((Y,a,rs):Be) else e).1=e.1
   by_cases c:e.1=Y
   ·rw[if_pos c,c]
   ·rw[if_neg c]
  rw[this]
  exact nd
 | false =>
  rw[if_neg cZ,Ce]
  refine List.nodup_append.mpr ⟨nd,CI.mpr ⟨(fun z=>by cases z),dq⟩,fun x hx y hy=>?_⟩
  have hy:y∈[Y]:=hy
  rw[Cq.mp hy]
  rintro rfl
  obtain⟨e,he,rfl⟩:=cH.mp hx
  have:(es.any fun f=>decide (f.1=e.1))=true:=List.any_eq_true.mpr ⟨e,he,decide_eq_true rfl⟩
  rw[this] at q
  cases q
theorem Ph (es:List Be) (Y:Int) (a:Addr) (rs:List Rk):(we es Y a rs).length≤es.length+1:=by
 unfold we
 split
 ·rw[cw];omega
 ·rw[cG,Cp];exact cx _
structure Vr (ps:List (Int × List Rk)) (Y m:Int) (rs:List Rk):Prop where
 mem:(m,rs)∈ps
 le:m≤Y
 top:∀ q∈ps,q.1≤Y→q.1≤m
theorem Vr.one {ps:List (Int × List Rk)} {Y m m':Int} {rs rs':List Rk} (nd:(ps.map (·.1)).Nodup) (a:Vr ps Y m rs) (b:Vr ps Y m' rs'):rs=rs':=by
 have e:m=m':=Int.le_antisymm (b.top _ a.mem a.le) (a.top _ b.mem b.le)
 subst e
 have a1:=a.mem
 have b1:=b.mem
 clear a b
 induction ps with
 | nil=>cases a1
 | cons p r ih =>
  have nd:(p.1::r.map (·.1)).Nodup:=nd
  obtain⟨n1,n2⟩:=CI.mp nd
  rcases cy.mp a1 with e1 | h1
  ·rcases cy.mp b1 with e2 | h2
   ·rw[← e1] at e2
    cases e2
    rfl
   ·exact absurd (cH.mpr ⟨_,h2,by rw[← e1]⟩) n1
  ·rcases cy.mp b1 with e2 | h2
   ·exact absurd (cH.mpr ⟨_,h1,by rw[← e2]⟩) n1
   ·exact ih n2 h1 h2
theorem wQ (es:List Be):(es.map yr).map (·.1)=es.map (·.1):=by rw[cV];rfl
noncomputable def Zg (es:List Be) (Y:Int):List Int:=(es.map (·.1)).filter fun y=>decide (y≤Y)
theorem Ue {es:List Be} {Y m:Int} (h:m∈Zg es Y) (t:∀ x∈Zg es Y,x≤m):∃ e∈es,e.1=m∧Vr (es.map yr) Y m e.2.2:=by
 obtain⟨h1,h2⟩:=dz.mp h
 obtain⟨e,he,rfl⟩:=cH.mp h1
 refine⟨e,he,rfl,cH.mpr ⟨e,he,rfl⟩,of_decide_eq_true h2,fun q hq l=>?_⟩
 obtain⟨f,hf,rfl⟩:=cH.mp hq
 exact t f.1 (dz.mpr ⟨cH.mpr ⟨f,hf,rfl⟩,decide_eq_true l⟩)
theorem Lo {es:List Be} {Y:Int} (h:Zg es Y=[]) {m:Int} {rs:List Rk} (p:Vr (es.map yr) Y m rs):False:=by
 obtain⟨e,he,z⟩:=cH.mp p.mem
 have:e.1∈Zg es Y:=dz.mpr ⟨cH.mpr ⟨e,he,rfl⟩,decide_eq_true (by
  have:e.1=m:=congrArg Prod.fst z
  rw[this]
  exact p.le)⟩
 rw[h] at this
 cases this
theorem xy {H:Hp} (rs:List Rk):q9 H (yN rs) rs (fun _ v r=>v = .str (jx r)):=⟨cw _,fun i y e=>by
 unfold yN at e
 rw[cQ] at e
 obtain⟨r,hr,rfl⟩:=Cd.mp e
 exact⟨r,hr,fun _ _=>rfl⟩⟩
theorem OT {ns:List Int} (h:ns≠[]):∃ m∈ns,∀ x∈ns,x≤m:=by
 induction ns with
 | nil=>exact absurd rfl h
 | cons a r ih =>
  cases r with
  | nil=>exact⟨a,cX,fun x hx=>by rw[Cq.mp hx];exact Di _⟩
  | cons b l =>
   obtain⟨m,hm,t⟩:=ih (fun z=>nomatch z)
   by_cases c:a≤m
   ·exact⟨m,cP _ hm,fun x hx=>by
     rcases cy.mp hx with rfl | hx
     ·exact c
     ·exact t x hx⟩
   ·exact⟨a,cX,fun x hx=>by
     rcases cy.mp hx with rfl | hx
     ·exact Di _
     ·have:=t x hx
      omega⟩
noncomputable def Uo (C:Addr):Sp:=fun vs H Q _=>∃ (B dx:Addr),vs=[.ref B]∧H B=some (.ins C dx [])∧∀ t H',H t=none→Yl C H' B dx t []→(∀ b o,H b=some o→b≠B→H' b=some o)→Q .non H'
theorem xu {es fs:List Be} (h:fs.map yr=es.map yr) (Y:Int):Zg fs Y=Zg es Y:=by
 unfold Zg
 rw[← wQ,← wQ,h]
theorem xR {es fs:List Be} (h:fs.map yr=es.map yr):fs.length=es.length:=by
 have:=congrArg List.length h
 rwa [cw,cw] at this
end Pg
namespace K11
open PySem PySem.NumText L2 Pg
seal PE PA PT PW PS yW PG vq PI j7 PO PK
section
variable {P:Program} {w:World} {K:BFr} {mg:Str→Option Value} {base:Heap} {f:Addr} {fd:FuncData} {d:Nat→Addr} {cR:Addr}
theorem BV (t:Addr):jw "told" (.ref t) []=[((("told":Str)),V.ref t)]:=rfl
theorem oH {C:Addr} (F:qJ K "__init__" "RuleBook.__init__" (zE (top 72) 0) f fd) (KC:wo K C) (nT:zU K C "told"):zL P w K mg base z8 1 f fd ["self"] (Uo C):=by
 refine F.ok (N:=["self"]) (by walk_at"s") (fun vs H Q E h=>?_) (fun cdv A outer s H vs Q E hr h=>?_)
 ·obtain⟨L,dx,rfl,_⟩:=h
  rfl
 ·obtain⟨L,dx,rfl,hL,q⟩:=h
  refine⟨_,zi (yt (pv 0) wX rfl),?_⟩
  refine fun t H1 s1 n1 e1=>⟨_,rfl,L,C,dx,[],rfl,s1 _ _ hL,KC,nT,by decide,?_⟩
  rw[BV]
  have tL:t≠L:=(zA hL n1).symm
  refine q t _ n1 ⟨zj,?_,dq,(fun e he=>nomatch he),(fun e he=>nomatch he)⟩ fun b o hb bL=>?_
  ·rw[zm tL]
   exact e1
  ·rw[zm bL]
   exact s1 _ _ hb
theorem mH {d e k:Nat} {Cs:Nat→Addr} (h:d≤e):∀ vs H Q E,yK d k Cs vs H Q E→yK e k Cs vs H Q E:=by
 rintro vs H Q E ⟨v,r,rfl,h1,h2,h3,h4⟩
 exact⟨v,r,rfl,h1,h2,h3.le h,h4⟩
theorem gh {CX:wN} {j d:Nat} {Cs:Nat→Addr} (R0:qU P w K mg base CX 1 (Cs 0) "row" ["self"] (jY 0 Cs)) (R1:qU P w K mg base CX 1 (Cs 1) "row" ["self"] (jY 1 Cs)) (R2:qU P w K mg base CX 1 (Cs 2) "row" ["self"] (jY 2 Cs)) (R3:qU P w K mg base CX 1 (Cs 3) "row" ["self"] (jY 3 Cs)) (R4:qU P w K mg base CX 1 (Cs 4) "row" ["self"] (yK 3 4 Cs)) (hd:d≤3) (hj:1≤j) (R5:qU P w K mg base CX j (Cs 5) "row" ["self"] (yK d 5 Cs)) :
  ∀ k,k<6→qU P w K mg base CX j (Cs k) "row" ["self"] (yK d k Cs) :=
 Qv ((R0.imp (JH (by decide))).mono hj) ((R1.imp (JH (by decide))).mono hj) ((R2.imp (JH (by decide))).mono hj) ((R3.imp (JH (by decide))).mono hj) ((R4.imp (mH hd)).mono hj) R5
theorem JN {Cs:Nat→Addr} {d j:Nat} (hd:d≤3) (F:qJ K "row" "OnTop.row" (zE (top 58) 2) f fd) (G:vw mg) (RX:Qz K (Cs 5)) (MR:∀ k,k<6→qU P w K mg base z8 j (Cs k) "row" ["self"] (yK d k Cs)):zL P w K mg base z8 (j+1) f fd ["self"] (yK (d+1) 5 Cs):=by
 refine F.ok (N:=["self"]) (by walk_at"s") (fun vs H Q E h=>?_) (fun cdv A outer s H vs Q E hr h=>?_)
 ·obtain⟨v,r,rfl,_⟩:=h
  rfl
 ·obtain⟨v,r,rfl,e,ro,gd,q⟩:=h
  obtain⟨d',n,p,x,r',ed,rfl,hn,hp,hw,g'⟩:=Mf gd e
  cases ed
  cases ro with
  | pln kk _=>exact absurd kk (by show ¬ (5:Nat)<4;decide)
  | @ontop _ _ _ _ o dx u ho ri =>
   obtain⟨oi,dxi,fsi,rfl,hoi,_,noi⟩:=ri.obj g'
   have h1:=hn.ok.hi
   have h2:=vW hp
   have h3:=u4 hw
   have h4:=wY g'
   have jr:=(yz (sep:=" ") (zs:=["ontop",n,toString p,x,"of",jx r']) (m:=1700) (k:=6) (fun z hz=>by
     simp only[cy,cA,or_false] at hz
     rcases hz with rfl | rfl | rfl | rfl | rfl | rfl
     ·decide +kernel
     ·omega
     ·omega
     ·omega
     ·decide +kernel
     ·omega) (cx _) (by decide +kernel) rfl).1
   refine⟨_,zi (zx (yL PySem.F.plainAttrs_str PySem.F.slot_str_join PySem.F.type_str_join jj zt (za (zS (za zt (za (z5 (pv 0) rfl) (za (qk qr rfl G.str qH (za (z5 (pv 0) rfl) zd)) (za (z5 (pv 0) rfl) (za zt (za (uY (p:=fun k=>k<6) fun k hk=>y6 (MR k hk) hr (cx _) zC (z5 (pv 0) rfl)) zd))))))) zd))),?_⟩
   exact⟨rfl,_,rfl,o,_,dx,_,_,rfl,ho,RX.cls,RX.no "name" (by decide),rfl,_,rfl,o,_,dx,_,_,rfl,ho,RX.cls,RX.no "parts" (by decide),rfl,_,rfl,wz hp,_,rfl,o,_,dx,_,_,rfl,ho,RX.cls,RX.no "way" (by decide),rfl,r'.kd,nS r',_,rfl,o,_,dx,_,_,rfl,ho,RX.cls,RX.no "within" (by decide),rfl,oi,dxi,fsi,rfl,hoi,noi "row" (by decide),_,r',rfl,rfl,ri,g',fun H1 s1=>⟨qa rfl,fun l H2 s2 n2 e2=>⟨_,["ontop",n,toString p,x,"of",jx r'],l,rfl,rfl,zZ.of e2,jr,q H2 (s1.trans s2)⟩⟩⟩
theorem L6 (F:qJ K "_law_mixed" "_law_mixed" (top 75) f fd):zL P w K mg base z8 1 f fd ["_law_cell","_law_k"] yQ:=by
 have nd:(["_law_cell","_law_k","_law_number"]:List Str).Nodup:=by decide +kernel
 refine F.ok (N:=["_law_cell","_law_k","_law_number"]) (by walk_at"s") (fun vs H Q E h=>?_) (fun cdv A outer s H vs Q E hr h=>?_)
 ·obtain⟨c,k,rfl,_⟩:=h
  rfl
 ·obtain⟨c,k,rfl,q⟩:=h
  refine⟨_,(zh (zQ (i:=2) nd rfl (Or.inl rfl) (zu zW (zu qA (zu qA (zu jT (pv 0) ze) (zu jT ze (pv 1))) ze) ze))
    (zi (zx (zu zW (zu jT (zu zW (zu jT (pv 2) (pv 2)) ze) (pv 2)) ze)))),?_⟩
  refine⟨_,rfl,_,_,rfl,rfl,.inr ⟨by decide,by decide⟩,_,rfl,_,_,rfl,rfl,.inl ⟨by decide,by decide⟩,_,_,rfl,rfl,_,_,rfl,rfl,_,_,rfl,rfl,(by show (0:Int)<1000003;decide),?_⟩
  have b0:0≤(c*48271+7919*k+11)%1000003:=cU _ (by decide)
  have b1:(c*48271+7919*k+11)%1000003<1000003:=Ca _ (by decide)
  dsimp only
  generalize (c*48271+7919*k+11)%1000003=m at b0 b1
  exact⟨_,rfl,_,rfl,_,_,rfl,rfl,.inr ⟨by omega,by omega⟩,_,_,rfl,rfl,(by show (0:Int)<1000003;decide),_,rfl,_,_,rfl,rfl,.inr ⟨by omega,by omega⟩,_,_,rfl,rfl,(by show (0:Int)<1000003;decide),q _ (cU _ (by decide)) (Ca _ (by decide))⟩
theorem lZ (F:qJ K "_law_amount" "_law_amount" (top 76) f fd) (C1:qN P w K mg base z8 1 "_law_mixed" ["_law_cell","_law_k"] yQ):zL P w K mg base z8 2 f fd ["_law_cell","_law_k"] Xr:=by
 have nd:(["_law_cell","_law_k","_law_number","_law_more","_law_wide"]:List Str).Nodup:=by decide +kernel
 refine F.ok (N:=["_law_cell","_law_k","_law_number","_law_more","_law_wide"]) (by walk_at"s") (fun vs H Q E h=>?_) (fun cdv A outer s H vs Q E hr h=>?_)
 ·obtain⟨c,k,rfl,_⟩:=h
  rfl
 ·obtain⟨c,k,rfl,q⟩:=h
  refine⟨_,(zh (zQ (i:=2) nd rfl (Or.inl rfl) (zp C1 hr (by decide) zC (za (pv 0) (za (pv 1) zd))))
    (zh (zQ (i:=3) nd rfl (Or.inl rfl) (zu qE (pv 2) ze))
    (zh (zQ (i:=4) nd rfl (Or.inl rfl) (zu qA (zu jT (pv 2) ze) (zp C1 hr (by decide) zC (za (pv 0) (za (zu qA (pv 1) ze) zd)))))
    (zi (zx (zD zw (zS (za ze (za (zu zW (pv 3) ze) (za (zu zW (pv 3) ze) (za (zu jT (zu zW (pv 3) ze) ze) (za (zu jT (pv 3) ze) (za (zu zW (pv 4) (zu qA (zu We ze ze) ze)) (za (zu We ze ze) zd)))))))) (zu zW (pv 2) ze))))))),?_⟩
  refine⟨_,rfl,_,rfl,c,k,rfl,fun m m0 m1=>⟨_,rfl,_,_,rfl,rfl,⟨by decide,by decide⟩,_,rfl,_,_,rfl,rfl,.inr ⟨by decide,by decide⟩,_,rfl,_,rfl,_,_,rfl,rfl,c,_,rfl,fun n n0 n1=>⟨_,_,rfl,rfl,?_⟩⟩⟩
  have d0:0≤m/7:=Dy m0 (by decide)
  have d1:m/7≤142858:=by omega
  dsimp only
  generalize m/7=e at d0 d1
  have e0:0≤e%19:=cU _ (by decide)
  have e1:e%19<19:=Ca _ (by decide)
  have p12:(10:Int) ^ (12:Int).toNat=1000000000000:=by decide
  refine⟨_,rfl,_,_,rfl,rfl,(by show (0:Int)<30;decide),_,rfl,_,_,rfl,rfl,(by show (0:Int)<40000;decide),_,rfl,_,_,rfl,rfl,(by show (0:Int)<19;decide),_,_,rfl,rfl,.inr ⟨by decide,by decide⟩,_,rfl,_,_,rfl,rfl,.inr ⟨by decide,by decide⟩,_,rfl,_,_,rfl,rfl,⟨by decide,by decide,by decide⟩,_,_,rfl,rfl,_,_,rfl,rfl,?_,_,_,rfl,rfl,⟨by decide,by decide,by decide⟩,qa rfl,fun l H1 s1 n1' e1'=>?_⟩
  ·show (0:Int)<10 ^ (12:Int).toNat+1
   rw[p12]
   decide
  have w0:0≤(m*1000003+n)%(10 ^ (12:Int).toNat+1):=cU _ (by rw[p12];decide)
  have w1:(m*1000003+n)%(10 ^ (12:Int).toNat+1)<1000000000001:=by
   rw[p12]
   exact Ca _ (by decide)
  obtain⟨v,ev,mv⟩:=yV (xs:=[V.int 0,.int (e%30),.int (e%40000),.int (e%19*5000),.int (e*50),.int ((m*1000003+n)%(10 ^ (12:Int).toNat+1)),.int (10 ^ (12:Int).toNat)]) (i:=m%7) (cU _ (by decide)) (Ca _ (by decide))
  obtain⟨a,rfl,ha⟩:∃ a,v = .int a∧YZ a:=by
   have f0:0≤e%30:=cU _ (by decide)
   have f1:e%30<30:=Ca _ (by decide)
   have g0:0≤e%40000:=cU _ (by decide)
   have g1:e%40000<40000:=Ca _ (by decide)
   generalize (m*1000003+n)%(10 ^ (12:Int).toNat+1)=x at w0 w1 mv
   rw[p12] at mv
   simp only[cy,cA,or_false] at mv
   rcases mv with rfl | rfl | rfl | rfl | rfl | rfl | rfl
   all_goals exact⟨_,rfl,by omega,by omega⟩
  exact⟨_,rfl,_,_,rfl,rfl,(by show (0:Int)<7;decide),l,_,_,_,rfl,rfl,zZ.of e1',ev,q a H1 ha s1⟩
theorem lV (F:qJ K "_law_parts" "_law_parts" (top 78) f fd) (C1:qN P w K mg base z8 1 "_law_mixed" ["_law_cell","_law_k"] yQ):zL P w K mg base z8 2 f fd ["_law_cell","_law_k"] ZS:=by
 have nd:(["_law_cell","_law_k","_law_number"]:List Str).Nodup:=by decide +kernel
 refine F.ok (N:=["_law_cell","_law_k","_law_number"]) (by walk_at"s") (fun vs H Q E h=>?_) (fun cdv A outer s H vs Q E hr h=>?_)
 ·obtain⟨c,k,rfl,_⟩:=h
  rfl
 ·obtain⟨c,k,rfl,q⟩:=h
  refine⟨_,(zh (zQ (i:=2) nd rfl (Or.inl rfl) (zp C1 hr (by decide) zC (za (pv 0) (za (pv 1) zd))))
    (zi (zx (zD zw (zS (za ze (za ze (za ze (za ze (za ze (za ze (za ze (za ze (za (zu zW (zu qE (pv 2) ze) ze) (za (zu zW (zu qE (pv 2) ze) ze) zd))))))))))) (zu zW (pv 2) ze))))),?_⟩
  refine⟨_,rfl,_,rfl,c,k,rfl,fun m m0 m1=>⟨_,rfl,_,_,rfl,rfl,⟨by decide,by decide⟩,_,_,rfl,rfl,(by show (0:Int)<20001;decide),_,rfl,_,_,rfl,rfl,⟨by decide,by decide⟩,_,_,rfl,rfl,(by show (0:Int)<300;decide),qa rfl,fun l H1 s1 n1 e1=>?_⟩⟩
  obtain⟨v,ev,mv⟩:=yV (xs:=[V.int 0,.int 1,.int 5000,.int 2500,.int 10000,.int 20000,.int 19999,.int 625,.int (m/10%20001),.int (m/10%300)]) (i:=m%10) (cU _ (by decide)) (Ca _ (by decide))
  obtain⟨a,rfl,ha⟩:∃ a,v = .int a∧QB a:=by
   simp only[cy,cA,or_false] at mv
   have f0:0≤m/10%20001:=cU _ (by decide)
   have f1:m/10%20001<20001:=Ca _ (by decide)
   have g0:0≤m/10%300:=cU _ (by decide)
   have g1:m/10%300<300:=Ca _ (by decide)
   rcases mv with rfl | rfl | rfl | rfl | rfl | rfl | rfl | rfl | rfl | rfl
   all_goals exact⟨_,rfl,by omega,by omega⟩
  exact⟨_,rfl,_,_,rfl,rfl,(by show (0:Int)<10;decide),l,_,_,_,rfl,rfl,zZ.of e1,ev,q a H1 ha s1⟩
theorem LX (F:qJ K "_law_way" "_law_way" (top 79) f fd) (C1:qN P w K mg base z8 1 "_law_mixed" ["_law_cell","_law_k"] yQ):zL P w K mg base z8 2 f fd ["_law_cell","_law_k"] Vs:=by
 refine F.ok (N:=["_law_cell","_law_k"]) (by walk_at"s") (fun vs H Q E h=>?_) (fun cdv A outer s H vs Q E hr h=>?_)
 ·obtain⟨c,k,rfl,_⟩:=h
  rfl
 ·obtain⟨c,k,rfl,q⟩:=h
  refine⟨_,(zi (zx (zD zw (zS (za zt (za zt (za zt (za zt zd))))) (zu zW (zu qE (zp C1 hr (by decide) zC (za (pv 0) (za (pv 1) zd))) ze) ze)))),?_⟩
  refine⟨qa rfl,fun l H1 s1 n1 e1=>⟨_,rfl,_,rfl,c,k,rfl,fun m m0 m1=>?_⟩⟩
  obtain⟨x,ev,hw⟩:=nU (i:=m/5%4) (cU _ (by decide)) (Ca _ (by decide))
  exact⟨_,_,rfl,rfl,⟨by decide,by decide⟩,_,_,rfl,rfl,(by show (0:Int)<4;decide),l,_,_,_,rfl,rfl,zZ.of e1,ev,q x H1 hw s1⟩
set_option maxHeartbeats 8000000 in
theorem lN (F:qJ K "_law_names" "_law_names" (top 77) f fd) (G:vw mg) (C1:qN P w K mg base z8 1 "_law_mixed" ["_law_cell","_law_k"] yQ):zL P w K mg base z8 2 f fd ["_law_cell","_law_many"] Xc:=by
 have nd:(["_law_cell","_law_many","_law_letters","_law_some","_law_number","_law_frame","_law_at","_law_size","_law_signs","_law_words"]:List Str).Nodup:=by decide +kernel
 have nc6:(["_law_j","_law_some","_law_cell"]:List Str).Nodup:=by decide +kernel
 have nc4:(["_law_k","_law_letters","_law_number"]:List Str).Nodup:=by decide +kernel
 have nc3:(["_law_sign","_law_frame","_law_at","_law_size"]:List Str).Nodup:=by decide +kernel
 have nc2:(["_law_k","_law_frame"]:List Str).Nodup:=by decide +kernel
 have nc1:(["_law_k","_law_words","_law_number"]:List Str).Nodup:=by decide +kernel
 refine F.ok (N:=["_law_cell","_law_many","_law_letters","_law_some","_law_number","_law_frame","_law_at","_law_size","_law_signs","_law_words"]) (by walk_at"s") (fun vs H Q E h=>?_) (fun cdv A outer s H vs Q E hr h=>?_)
 ·obtain⟨c,n,rfl,_⟩:=h
  rfl
 ·obtain⟨c,n,rfl,n8,q⟩:=h
  refine' ⟨_,(zh (zQ (i:=2) nd rfl (Or.inr rfl) zt)
    (zh (zQ (i:=3) nd rfl (Or.inr rfl) zt)
    (zh (zQ (i:=4) nd rfl (Or.inr rfl) (zp C1 hr (by decide) zC (za (pv 0) (za ze zd))))
    (zh (zQ (i:=5) nd rfl (Or.inr rfl) (yL PySem.F.plainAttrs_str PySem.F.slot_str_join PySem.F.type_str_join jj zt (za ?comp_6 zd)))
    (zh (zQ (i:=6) nd rfl (Or.inr rfl) (zu zW (zu qE (pv 4) ze) ze))
    (zh (zQ (i:=7) nd rfl (Or.inr rfl) (zu qA (pv 6) (zu zW (zu qE (pv 4) ze) (zu ON ze (pv 6)))))
    (zh (zX (zK qK (zu zW (pv 4) ze) ze (zI _)) (zh ?comp_4
    (zi (zx ?comp_3))) zG)
    (zh (zX (zK qK (zu zW (pv 4) ze) ze (zI _)) (zi (zx ?comp_2)) zG)
    (zh (zQ (i:=9) nd rfl (Or.inr rfl) (zS (za zt (za zt (za zt (za zt (za zt (za zt (za zt (za zt (za zt (za zt zd))))))))))))
    (zi (zx ?comp_1))))))))))),?main⟩
  case comp_6 =>
   refine' qm (Nc:=["_law_j","_law_some","_law_cell"]) (cl:=[("_law_some",s.heap.objs.size+3),("_law_cell",s.heap.objs.size+1)]) (src:=[none,some 3,some 0]) (wi:=Zz (qi (tC (.int 7)) yd)) (g:=z6 0) (tt:=qv) (te:=jH MX (zP 1) (jH (rI (fun _ j=>0<j) fun i j=>.int (i%j)) (fun σ H Q=>qi (zP 2) (qi (jH (VD fun i j=>.int (i+j)) (tC (.int 120)) (zP 0)) yd) σ H fun vs H1=>yQ vs H1 Q E0) (tC (.int 21))))
    (by walk_at"c3") rfl (yu rfl G.range (za ze zd)) ?hb
   case hb =>
    intro fp C' s' H'
    exact⟨zN (i:=0) nc6 rfl (Or.inl rfl),qj,zD WS (pv 1) (zu zW (zp C1 hr (by decide) zC (za (pv 2) (za (zu qA ze (pv 0)) zd))) ze)⟩
  case comp_4 =>
   refine' vG (i:=8) (Nc:=["_law_k","_law_letters","_law_number"]) (cl:=[("_law_number",s.heap.objs.size+4),("_law_letters",s.heap.objs.size+2)]) (src:=[none,some 2,some 4]) (wi:=Zz (qi (zP 1) yd)) (g:=z6 0) (tt:=qv) (te:=jH MX (zP 1) (jH (rI (fun _ j=>0<j) fun i j=>.int (i%j)) (jH (VD fun i j=>.int (i+j)) (jH (rI Ms fun i j=>.int (i/j)) (zP 2) (tC (.int 200))) (jH (rI lQ fun i j=>.int (i*j)) (tC (.int 3)) (zP 0))) (tC (.int 26)))) nd rfl rfl
    (by walk_at"c3") rfl (yu rfl G.range (za (pv 1) zd)) ?hb
   case hb =>
    intro fp C' s' H'
    exact⟨zN (i:=0) nc4 rfl (Or.inl rfl),qj,zD WS (pv 1) (zu zW (zu qA (zu qE (pv 2) ze) (zu jT ze (pv 0))) ze)⟩
  case comp_3 =>
   refine' qm (Nc:=["_law_sign","_law_frame","_law_at","_law_size"]) (cl:=[("_law_size",s.heap.objs.size+7),("_law_frame",s.heap.objs.size+5),("_law_at",s.heap.objs.size+6)]) (src:=[none,some 5,some 6,some 7]) (wi:=uw K (zP 8)) (g:=z6 0) (tt:=qv) (te:=jH (fun x y H Q=>∃ i j:Str,x = .str i∧y = .str j∧i.length+j.length≤sizeLine∧Q (.str (i++j)) H) (jH (fun x y H Q=>∃ i j:Str,x = .str i∧y = .str j∧i.length+j.length≤sizeLine∧Q (.str (i++j)) H) (N9 LV (zP 1) kK (Qn (zP 2))) (zP 0)) (N9 LV (zP 1) (Qn (zP 2)) (Qn (zP 3))))
    ⟨rfl,rfl,by decide +kernel,by decide +kernel,vn (gO rfl (gO rfl (QA rfl))),qq (by rfl),zM (qO ⟨_,rfl,rfl,rfl,rfl⟩ (qO ⟨_,rfl,rfl,rfl,rfl⟩ (qO ⟨_,rfl,rfl,rfl,rfl⟩ qb))),rfl⟩ rfl (yI (pv 8)) ?hb
   case hb =>
    intro fp C' s' H'
    exact⟨zN (i:=0) nc3 rfl (Or.inl rfl),qj,zu qg (zu qg (yi xh (pv 1) jc (ym (pv 2))) (pv 0)) (yi xh (pv 1) (ym (pv 2)) (ym (pv 3)))⟩
  case comp_2 =>
   refine' qm (Nc:=["_law_k","_law_frame"]) (cl:=[("_law_frame",s.heap.objs.size+5)]) (src:=[none,some 5]) (wi:=Zz (qi (zP 1) yd)) (g:=z6 0) (tt:=qv) (te:=N9 LV (jH (fun x y H Q=>∃ i j:Str,x = .str i∧y = .str j∧i.length+j.length≤sizeLine∧Q (.str (i++j)) H) (tC (.str "q")) (zP 1)) kK (Qn (jH (VD fun i j=>.int (i+j)) (tC (.int 1)) (zP 0))))
    (by walk_at"c1") rfl (yu rfl G.range (za (pv 1) zd)) ?hb
   case hb =>
    intro fp C' s' H'
    exact⟨zN (i:=0) nc2 rfl (Or.inl rfl),qj,yi xh (zu qg zt (pv 1)) jc (ym (zu qA ze (pv 0)))⟩
  case comp_1 =>
   refine' qm (Nc:=["_law_k","_law_words","_law_number"]) (cl:=[("_law_words",s.heap.objs.size+8),("_law_number",s.heap.objs.size+4)]) (src:=[none,some 9,some 4]) (wi:=Zz (qi (zP 1) yd)) (g:=z6 0) (tt:=qv) (te:=jH (mr K) (zP 1) (jH (rI (fun _ j=>0<j) fun i j=>.int (i%j)) (jH (VD fun i j=>.int (i+j)) (jH (rI Ms fun i j=>.int (i/j)) (zP 2) (tC (.int 3))) (zP 0)) (tC (.int 10))))
    (by walk_at"c3") rfl (yu rfl G.range (za (pv 1) zd)) ?hb
   case hb =>
    intro fp C' s' H'
    exact⟨zN (i:=0) nc1 rfl (Or.inl rfl),qj,zD zw (pv 1) (zu zW (zu qA (zu qE (pv 2) ze) (pv 0)) ze)⟩
  walk_at"d4"
  have rl:∀ m:Nat,((List.range m).map fun k=>V.int (0+((k:Nat):Int))).length=(List.range m).length:=fun m=>cw _
  refine⟨_,rfl,c,_,rfl,fun u u0 u1=>?_⟩
  refine⟨rfl,7,rfl,by decide,by decide,fun D hD=>?_⟩
  refine vT (vo (n:=7)) (rl 7) hD (by rw[Cj,sizeLine_eq];decide) (fun v _=>∃ d,v = .str ⟨#[d]⟩∧ZL d=true) (fun i x v hx hv H1 R s1 r=>?_) (fun zs H1 s1 zl zr e1=>?_)
  ·rw[cQ] at hv
   obtain⟨k,hk,rfl⟩:=Cd.mp hv
   refine⟨_,rfl,_,rfl,_,rfl,_,_,rfl,rfl,c,_,rfl,fun m m0 m1=>?_⟩
   obtain⟨d,d1,d2⟩:=tN (i:=m%21) (cU _ (by decide)) (Ca _ (by decide))
   exact⟨_,_,rfl,rfl,(by show (0:Int)<21;decide),_,_,d,rfl,rfl,ZH (m:=21) (by decide +kernel) rfl,d1,r _ _ ⟨d,rfl,d2⟩ (zq.refl _)⟩
  obtain⟨fs,rfl,fa⟩:=PV (LB zr)
  have fl:fs.length=7:=by
   rw[cw,cw,Cj] at zl
   exact zl
  have jo:=(yz (sep:="") (zs:=fs.map fun c=>(⟨#[c]⟩:Str)) (m:=1) (k:=7) (fun z hz=>by obtain⟨_,_,rfl⟩:=cH.mp hz;exact cx _) (by rw[cw,fl];exact cx _) (by decide +kernel) rfl).1
  refine⟨_,_,D,rfl,rfl,zZ.of e1,jo,?_⟩
  have zc:=WC fs
  generalize Txt.join ("":Str) (fs.map fun c=>(⟨#[c]⟩:Str))=z at zc
  clear jo zl zr e1 hD
  have zl:z.length=7:=by rw[qB,zc,fl]
  have a0:0≤u/3%8:=cU _ (by decide)
  have a1:u/3%8<8:=Ca _ (by decide)
  refine⟨_,rfl,_,_,rfl,rfl,⟨by decide,by decide⟩,_,_,rfl,rfl,(by show (0:Int)<8;decide),?_⟩
  dsimp only
  obtain⟨at',hat⟩:=CJ a0
  rw[hat] at a0 a1 ⊢
  have b0:0≤u/24%(8 - (at':Int)):=cU _ (by omega)
  have b1:u/24%(8 - (at':Int))<8 - (at':Int):=Ca _ (by omega)
  refine⟨_,rfl,_,rfl,_,_,rfl,rfl,⟨by decide,by decide⟩,_,rfl,_,_,rfl,rfl,_,_,rfl,rfl,(by show (0:Int)<8 - (at':Int);omega),_,_,rfl,rfl,?_⟩
  dsimp only
  obtain⟨sz,hsz⟩:∃ sz:Nat,(at':Int)+u/24%(8 - (at':Int))=sz:=⟨(at':Int).toNat+(u/24%(8 - (at':Int))).toNat,by omega⟩
  have sz1:at'≤sz:=by omega
  have sz2:sz≤7:=by omega
  rw[hsz]
  clear hsz b0 b1 hat a0
  refine⟨_,rfl,_,_,rfl,rfl,(by show (0:Int)<3;decide),rfl,_,rfl,ye (fun _=>?_) (fun _=>?_)⟩
  ·refine⟨_,rfl,_,rfl,by omega,by omega,fun D hD=>?_⟩
   rw[CG]
   refine vT (vo (n:=n)) (rl n) hD (by rw[Cj,sizeLine_eq];omega) (fun v k=>v = .str ⟨#[97+((u/200+3*(k:Nat))%26).toNat]⟩) (fun i x v hx hv H2 R s2 r=>?_) (fun zs H2 s2 zsl zr e2=>?_)
   ·rw[cQ,hx] at hv
    cases hv
    have d1:=Wo (i:=(u/200+3*(0+(x:Int)))%26) (cU _ (by decide)) (Ca _ (by decide))
    exact⟨_,rfl,_,rfl,_,_,rfl,rfl,⟨by decide,by decide⟩,_,rfl,_,_,rfl,rfl,.inl ⟨by decide,by decide⟩,_,_,rfl,rfl,_,_,rfl,rfl,(by show (0:Int)<26;decide),_,_,_,rfl,rfl,UV,d1,r _ _ (by rw[dm]) (zq.refl _)⟩
   rw[Cj] at zsl
   refine⟨_,rfl,D,rfl,⟨_,zZ.of e2⟩,fun D3 hD3=>?_⟩
   refine vT (xs:=List.range n) (yp (zZ.of e2)) (by rw[zsl,Cj]) hD3 (by rw[Cj,sizeLine_eq];omega) (fun v k=>∃ y,v = .str y∧qT y∧y.cps.toList[at']? = some (97+((u/200+3*(k:Nat))%26).toNat)) (fun i x v hx hv H3 R s3 r=>?_) (fun ws H3 s3 wl wr e3=>?_)
   ·obtain⟨x',hx',rfl⟩:=zr i v hv
    rw[hx] at hx'
    cases hx'
    obtain⟨d,hde⟩:∃ d,d=97+((u/200+3*(x:Nat))%26).toNat:=⟨_,rfl⟩
    have hd:YJ d=true:=by
     have h0:0≤(u/200+3*(x:Nat))%26:=cU _ (by decide)
     have h1:(u/200+3*(x:Nat))%26<26:=Ca _ (by decide)
     unfold YJ
     rw[cz]
     exact⟨decide_eq_true (by omega),decide_eq_true (by omega)⟩
    rw[← hde] at r ⊢
    have zf:z.length≤sizeLine:=ZH (m:=7) (by omega) rfl
    have sl:∀ lo hi,(Txt.slice z lo hi).length≤7:=fun lo hi=>cJ (Txt.slice_le z lo hi) (by omega)
    have o1:(⟨#[d]⟩:Str).length≤1:=cx _
    refine⟨_,rfl,_,rfl,_,rfl,_,rfl,zf,_,rfl,_,_,rfl,rfl,rW (sl _ _) o1 rfl,_,rfl,_,rfl,_,rfl,_,rfl,_,rfl,_,rfl,zf,_,_,rfl,rfl,rW (NV (sl _ _) o1) (sl _ _) rfl,r _ _ ⟨_,rfl,Gs fa fl hd sz1 sz2 ?_,?_⟩ (zq.refl _)⟩
    ·rw[qZ,qZ,kB,Lu _ _ _ (by rw[zc,fl];exact sz2) sz1,zc]
    ·rw[qZ,qZ,kB,zc]
     have tl:(fs.take at').length=at':=by rw[Ci];omega
     rw[dw,CH (by rw[tl];exact cx _),tl,dN]
     rfl
   obtain⟨nms,rfl,hn,ht⟩:=QG wr
   rw[cw,Cj] at wl
   refine q nms D3 H3 wl hn (Ql ht fun i j z hi hj h1 h2=>?_) (s1.trans (s2.trans s3)) (s1.free (s2.free hD3)) e3
   rw[wl] at hi hj
   rw[h1] at h2
   have h2:=Option.some.inj h2
   have a0:0≤(u/200+3*(i:Nat))%26:=cU _ (by decide)
   have a1:0≤(u/200+3*(j:Nat))%26:=cU _ (by decide)
   omega
  refine⟨_,rfl,_,_,rfl,rfl,(by show (0:Int)<3;decide),rfl,_,rfl,ye (fun _=>?_) (fun _=>?_)⟩
  ·refine⟨_,rfl,_,rfl,by omega,by omega,fun D hD=>?_⟩
   rw[CG]
   refine vT (vo (n:=n)) (rl n) hD (by rw[Cj,sizeLine_eq];omega) (fun v k=>∃ y,v = .str y∧qT y∧y.cps.toList.length=min (k+1) 8) (fun i k v hx hv H2 R s2 r=>?_) (fun zs H2 s2 zsl zr e2=>?_)
   ·rw[cQ,hx] at hv
    cases hv
    have q1:("q":Str).length=1:=by decide +kernel
    refine⟨_,rfl,_,_,rfl,rfl,ZH (m:=8) (by rw[q1,zl];decide) rfl,_,rfl,_,_,rfl,rfl,_,rfl,_,rfl,ZH (m:=8) (by rw[js,q1,zl];decide) rfl,r _ _ ⟨_,rfl,mR (k:=k) fa fl ?_,?_⟩ (zq.refl _)⟩
    ·rw[show (1:Int)+(0+(k:Int))=((k+1:Nat):Int) by omega,kB,qZ,zc,show ("q":Str).cps.toList=[113] by decide +kernel]
     rfl
    ·rw[show (1:Int)+(0+(k:Int))=((k+1:Nat):Int) by omega,kB,qZ,zc,show ("q":Str).cps.toList=[113] by decide +kernel,Ci]
     show min (k+1) (fs.length+1)=_
     rw[fl]
   obtain⟨nms,rfl,hn,ht⟩:=QG zr
   rw[cw,Cj] at zsl
   refine q nms D H2 zsl hn (Ql ht fun i j z hi hj h1 h2=>?_) (s1.trans s2) (s1.free hD) e2
   omega
  refine⟨qa rfl,fun lw H2 s2 n2 e2=>?_⟩
  refine⟨_,rfl,_,rfl,by omega,by omega,fun D hD=>?_⟩
  rw[CG]
  refine vT (vo (n:=n)) (rl n) hD (by rw[Cj,sizeLine_eq];omega) (fun v k=>∃ y,v = .str y∧qT y∧okNames[((u/3+(k:Nat))%10).toNat]? = some y) (fun i k v hx hv H3 R s3 r=>?_) (fun zs H3 s3 zsl zr e3=>?_)
  ·rw[cQ,hx] at hv
   cases hv
   have i0:0≤(u/3+(0+(k:Int)))%10:=cU _ (by decide)
   have i1:(u/3+(0+(k:Int)))%10<10:=Ca _ (by decide)
   obtain⟨y,hy⟩:∃ y,okNames[((u/3+(0+(k:Int)))%10).toNat]? = some y:=⟨_,cI (show _<10 by omega)⟩
   have ev:kT (okNames.map V.str) ((u/3+(0+(k:Int)))%10)=some (.str y):=Wi i0 (by rw[cQ,hy];rfl)
   have hm:=CC hy
   exact⟨_,rfl,_,rfl,_,_,rfl,rfl,⟨by decide,by decide⟩,_,rfl,_,_,rfl,rfl,_,_,rfl,rfl,(by show (0:Int)<10;decide),lw,_,_,_,rfl,rfl,zZ.of (s3 _ _ e2),ev,r _ _ ⟨y,rfl,Wy y hm,by rw[dm] at hy;exact hy⟩ (zq.refl _)⟩
  obtain⟨nms,rfl,hn,ht⟩:=QG zr
  rw[cw,Cj] at zsl
  refine q nms D H3 zsl hn (Ql ht fun i j z hi hj h1 h2=>?_) (s1.trans (s2.trans s3)) (s1.free (s2.free hD)) e3
  rw[zsl] at hi hj
  have e:=Nh h1 h2
  have a0:0≤(u/3+(i:Nat))%10:=cU _ (by decide)
  have a1:0≤(u/3+(j:Nat))%10:=cU _ (by decide)
  omega
set_option maxHeartbeats 4000000 in
theorem mC (F:qJ K "_law_pairs" "_law_pairs" (top 80) f fd) (G:vw mg) (C1:qN P w K mg base z8 1 "_law_mixed" ["_law_cell","_law_k"] yQ) (C2:qN P w K mg base z8 2 "_law_parts" ["_law_cell","_law_k"] ZS):zL P w K mg base z8 3 f fd ["_law_cell"] X1:=by
 have nd:(["_law_cell","_law_number","_law_pairs_here","_law_k","_law_more","_law_step"]:List Str).Nodup:=by decide +kernel
 refine F.ok (N:=["_law_cell","_law_number","_law_pairs_here","_law_k","_law_more","_law_step"]) (by walk_at"s") (fun vs H Q E h=>?_) (fun cdv A outer s H vs Q E hr h=>?_)
 ·obtain⟨c,rfl,_⟩:=h
  rfl
 ·obtain⟨c,rfl,q⟩:=h
  refine⟨_,(zh (zQ (i:=1) nd rfl (Or.inl rfl) (zp C1 hr (by decide) zC (za (pv 0) (za ze zd))))
    (zh (zQ (i:=2) nd rfl (Or.inl rfl) (zS (za (yg (za ze (za (zp C2 hr (by decide) zC (za (pv 0) (za ze zd))) zd))) zd)))
    (zh (Qu PassesOwn.never rfl (yu rfl G.range (za (zD zw (zS (za ze (za ze (za ze (za ze (za ze (za (zu zW (zu qE (pv 1) ze) ze) zd))))))) (zu zW (pv 1) ze)) zd)) (zN (i:=3) nd rfl (Or.inl rfl)) (zh (zQ (i:=4) nd rfl (Or.inl rfl) (zp C1 hr (by decide) zC (za (pv 0) (za (zu qA ze (pv 3)) zd))))
    (zh (zQ (i:=5) nd rfl (Or.inl rfl) (zD zw (zS (za ze (za (zu qA ze (zu zW (zu qE (pv 4) ze) ze)) (za (zu jT (pv 4) ze) (za (zu qA (zu jT (zu zW (zu qE (pv 4) ze) ze) ze) ze) (za (zu qA ze (zu jT (zu qE (pv 4) ze) ze)) zd)))))) (zu zW (pv 4) ze)))
    (zi (zX (zK VG (zu qA (zD qI (zD zw (pv 2) (oU WK ze)) ze) (pv 5)) (zu We ze ze) (zI _)) (zi (z4 (yL PySem.F.plainAttrs_list PySem.F.slot_list_append PySem.F.type_list_append ji (pv 2) (za (yg (za (zu qA (zD qI (zD zw (pv 2) (oU WK ze)) ze) (pv 5)) (za (zp C2 hr (by decide) zC (za (pv 0) (za (zu qA ze (pv 3)) zd))) zd))) zd)))) zG)))))
    (zi (zx (qk jK rfl G.tuple yP (za (pv 2) zd))))))),?_⟩
  refine⟨_,rfl,c,_,rfl,fun m m0 m1=>⟨_,rfl,c,_,rfl,fun p H1 hp s1=>⟨qa rfl,fun t H2 s2 n2 e2=>⟨qa rfl,fun l H3 s3 n3 e3=>?_⟩⟩⟩⟩
  have T3:qd H3 [V.ref t] ([((0:Int),p)].map cB):=qd.snoc qd.nil (s3 _ _ e2)
  have S3:=s1.trans (s2.trans s3)
  have l0:H l=none:=uM (s1.trans s2) n3
  refine⟨_,rfl,_,_,rfl,rfl,⟨by decide,by decide⟩,_,_,rfl,rfl,(by show (0:Int)<12;decide),qa rfl,fun g H4 s4 n4 e4=>?_⟩
  obtain⟨v,ev,mv⟩:=yV (xs:=[V.int 0,.int 1,.int 2,.int 3,.int 11,.int (m/30%12)]) (i:=m%6) (cU _ (by decide)) (Ca _ (by decide))
  obtain⟨n,rfl,h0,h1⟩:∃ n,v = .int n∧0≤n∧n≤11:=by
   simp only[cy,cA,or_false] at mv
   rcases mv with rfl | rfl | rfl | rfl | rfl | rfl
   all_goals exact⟨_,rfl,by omega,by omega⟩
  refine⟨_,rfl,_,_,rfl,rfl,(by show (0:Int)<6;decide),g,_,_,_,rfl,rfl,zZ.of e4,ev,n,rfl,by omega,by omega,uf (fun i σ H'=>∃ x3 x4 x5,∃ ps ys,bh (σ = [some (.int c),some (.int m),some (.ref l),x3,x4,x5]) (zq H H') (H' l=some (.lst ys)∧qd H' ys (ps.map cB)) (GB ps i)) ⟨_,_,_,_,_,rfl,S3.trans s4,⟨s4 _ _ e3,T3.same s4⟩,.one hp⟩ ?_ ?_⟩
  ·rintro i σ H5 hi ⟨x3,x4,x5,ps,ys,rfl,s5,⟨e5,T5⟩,bi⟩ E5 k5
   refine⟨_,rfl,_,rfl,_,_,rfl,rfl,c,_,rfl,fun a a0 a1=>?_⟩
   refine⟨_,rfl,_,_,rfl,rfl,⟨by decide,by decide⟩,_,_,rfl,rfl,(by show (0:Int)<20;decide),_,_,rfl,rfl,_,rfl,_,_,rfl,rfl,.inr ⟨by decide,by decide⟩,_,rfl,_,_,rfl,rfl,⟨by decide,by decide⟩,_,_,rfl,rfl,(by show (0:Int)<9;decide),_,_,rfl,rfl,.inr ⟨by decide,by decide⟩,_,_,rfl,rfl,_,rfl,_,_,rfl,rfl,⟨by decide,by decide⟩,_,_,rfl,rfl,.inr ⟨by decide,by decide⟩,_,_,rfl,rfl,qa rfl,fun g6 H6 s6 n6 e6=>?_⟩
   obtain⟨v6,ev6,mv6⟩:=mG (a:=V.int 1) (b:=.int (2+a/5%20)) (c:=.int (a*30)) (d:=.int (a/5%9*5000+1)) (e:=.int (1+a/5*200000)) (i:=a%5) (cU _ (by decide)) (Ca _ (by decide))
   obtain⟨st,rfl,st1⟩:∃ st,v6 = .int st∧1≤st:=by
    rcases mv6 with ⟨h,rfl⟩ | ⟨h,rfl⟩ | ⟨h,rfl⟩ | ⟨h,rfl⟩ | ⟨h,rfl⟩
    all_goals exact⟨_,rfl,by omega⟩
   obtain⟨qs,z,rfl⟩:=bi.last
   have T6:=T5.same s6
   have e6':=s6 _ _ e5
   obtain⟨b,eb,hb⟩:=Ov T6
   refine⟨_,rfl,_,_,rfl,rfl,(by show (0:Int)<5;decide),g6,_,_,_,rfl,rfl,zZ.of e6,ev6,?_⟩
   have p12:(10:Int) ^ (12:Int).toNat=1000000000000:=by decide
   refine⟨_,rfl,_,rfl,l,_,_,_,rfl,rfl,zZ.of e6',eb,b,_,_,_,rfl,rfl,yj.of hb,rfl,_,rfl,_,_,rfl,rfl,_,_,rfl,rfl,⟨by decide,by decide,by decide⟩,_,_,rfl,rfl,_,rfl,ye (fun e=>?_) (fun e=>?_)⟩
   ·have e:=of_decide_eq_true e
    rw[p12] at e
    refine⟨_,rfl,.inl ⟨rfl,_,zZ.of e6'⟩,_,rfl,_,rfl,l,_,_,_,rfl,rfl,zZ.of e6',eb,b,_,_,_,rfl,rfl,yj.of hb,rfl,_,rfl,_,_,rfl,rfl,_,rfl,_,rfl,_,_,rfl,rfl,c,_,rfl,fun p2 H7 hp2 s7=>⟨qa rfl,fun t2 H8 s8 n8 e8=>?_⟩⟩
    have e8l:=s8 _ _ (s7 _ _ e6')
    have fw:=bi.few
    refine⟨l,_,_,rfl,rfl,e8l,?_,?_⟩
    ·rw[T5.len,cw,sizeLine_eq]
     have:i<n.toNat:=hi
     omega
    ·refine k5 _ _ ⟨_,_,_,qs++[z]++[(z.1+st,p2)],_,rfl,fun x o hx=>?_,⟨zj,?_⟩,bi.snoc st1 e hp2⟩
     ·rw[zm (zA hx l0)]
      exact s8 _ _ (s7 _ _ (s6 _ _ (s5 _ _ hx)))
     ·rw[Ce]
      exact V7 ((T6.same s7)) (s7 _ _ e6') s8 e8
   ·exact k5 _ _ ⟨_,_,_,_,_,rfl,s5.trans s6,⟨e6',T6⟩,bi.mono⟩
  ·rintro σ H5 ⟨x3,x4,x5,ps,ys,rfl,s5,⟨e5,T5⟩,bi⟩
   refine⟨_,rfl,l,_,rfl,.inl ⟨zZ.of e5,fun u u0=>?_⟩⟩
   have su:zq H5 (upd H5 u (.tup ys)):=zq.upd u0
   exact q u ps _ (bi.done (by omega)) (s5.trans su) ⟨ys,zj,T5.same su⟩
theorem mi (F:qJ K "_law_plain" "_law_plain" (top 81) f fd) (C1:qN P w K mg base z8 2 "_law_amount" ["_law_cell","_law_k"] Xr) (C2:qN P w K mg base z8 2 "_law_parts" ["_law_cell","_law_k"] ZS) (C3:qN P w K mg base z8 2 "_law_way" ["_law_cell","_law_k"] Vs) (C4:qN P w K mg base z8 3 "_law_pairs" ["_law_cell"] X1):zL P w K mg base z8 4 f fd ["_law_cell","_law_name","_law_kind"] Xj:=by
 refine F.ok (N:=["_law_cell","_law_name","_law_kind"]) (by walk_at"s") (fun vs H Q E h=>?_) (fun cdv A outer s H vs Q E hr h=>?_)
 ·obtain⟨c,z,k,rfl,_⟩:=h
  rfl
 ·obtain⟨c,z,k,rfl,hz,k0,k4,q⟩:=h
  refine⟨_,(zh (zX (zK qK (pv 2) ze (zI _)) (zi (zx (yg (za zt (za (pv 1) (za (zp C1 hr (by decide) zC (za (pv 0) (za ze zd))) zd)))))) zG)
    (zh (zX (zK qK (pv 2) ze (zI _)) (zi (zx (yg (za zt (za (pv 1) (za (zp C2 hr (by decide) zC (za (pv 0) (za ze zd))) (za (zp C3 hr (by decide) zC (za (pv 0) (za ze zd))) zd))))))) zG)
    (zh (zX (zK qK (pv 2) ze (zI _)) (zi (zx (yg (za zt (za (pv 1) (za (zp C2 hr (by decide) zC (za (pv 0) (za ze zd))) (za (zp C1 hr (by decide) zC (za (pv 0) (za ze zd))) (za (zp C3 hr (by decide) zC (za (pv 0) (za ze zd))) zd)))))))) zG)
    (zh (zX (zK qK (pv 2) ze (zI _)) (zi (zx (yg (za zt (za (pv 1) (za (zp C2 hr (by decide) zC (za (pv 0) (za ze zd))) (za (zp C1 hr (by decide) zC (za (pv 0) (za ze zd))) (za (zp C3 hr (by decide) zC (za (pv 0) (za ze zd))) zd)))))))) zG)
    (zi (zx (yg (za zt (za (pv 1) (za (zp C4 hr (by decide) zC (za (pv 0) zd)) (za (zp C3 hr (by decide) zC (za (pv 0) (za ze zd))) zd))))))))))),?_⟩
  refine⟨_,rfl,rfl,_,rfl,ye (fun e=>?_) (fun e=>?_)⟩
  ·rw[JK] at e
   exact⟨_,rfl,_,rfl,c,_,rfl,fun a H1 ha s1=>⟨qa rfl,fun t H2 s2 n2 e2=>q _ (.flat z a) H2 (.pln (.flat hz ha)) rfl e.symm (s1.trans s2) (.pln (Cf rfl) ⟨t,rfl,e2⟩)⟩⟩
  rw[JK] at e
  refine⟨_,rfl,rfl,_,rfl,ye (fun e1=>?_) (fun e1=>?_)⟩
  ·rw[JK] at e1
   exact⟨_,rfl,_,rfl,c,_,rfl,fun p H1 hp s1=>⟨_,rfl,c,_,rfl,fun w H2 hw s2=>⟨qa rfl,fun t H3 s3 n3 e3=>q _ (.share z p w) H3 (.pln (.share hz hp hw)) rfl e1.symm (s1.trans (s2.trans s3)) (.pln (Cf rfl) ⟨t,rfl,e3⟩)⟩⟩⟩
  rw[JK] at e1
  refine⟨_,rfl,rfl,_,rfl,ye (fun e2=>?_) (fun e2=>?_)⟩
  ·rw[JK] at e2
   exact⟨_,rfl,_,rfl,c,_,rfl,fun p H1 hp s1=>⟨_,rfl,c,_,rfl,fun a H2 ha s2=>⟨_,rfl,c,_,rfl,fun w H3 hw s3=>⟨qa rfl,fun t H4 s4 n4 e4=>q _ (.capped z p a w) H4 (.pln (.capped hz hp ha hw)) rfl e2.symm (s1.trans (s2.trans (s3.trans s4))) (.pln (Cf rfl) ⟨t,rfl,e4⟩)⟩⟩⟩⟩
  rw[JK] at e2
  refine⟨_,rfl,rfl,_,rfl,ye (fun e3=>?_) (fun e3=>?_)⟩
  ·rw[JK] at e3
   exact⟨_,rfl,_,rfl,c,_,rfl,fun p H1 hp s1=>⟨_,rfl,c,_,rfl,fun a H2 ha s2=>⟨_,rfl,c,_,rfl,fun w H3 hw s3=>⟨qa rfl,fun t H4 s4 n4 e4=>q _ (.least z p a w) H4 (.pln (.least hz hp ha hw)) rfl e3.symm (s1.trans (s2.trans (s3.trans s4))) (.pln (Cf rfl) ⟨t,rfl,e4⟩)⟩⟩⟩⟩
  rw[JK] at e3
  exact⟨_,rfl,_,rfl,c,rfl,fun u ps H1 hok s1 bd=>⟨_,rfl,c,_,rfl,fun w H2 hw s2=>⟨qa rfl,fun t H3 s3 n3 e3'=>q _ (.bands z ps w) H3 (.bands hz hok hw) rfl (by show (4:Int)=k;omega) (s1.trans (s2.trans s3)) (.bands e3' ((bd.same s2).same s3))⟩⟩⟩
theorem OQ {j:Nat}:zL P w K mg base z8 j f fd ["_law_rule_here"] (kC 0):=⟨fun _ _ _ _ h=>h.elim,fun _ _ _ _ _ _ _ _ _ _ _ _ _ h=>h.elim⟩
set_option maxHeartbeats 8000000 in
theorem ZQ {d k:Nat} (F:qJ K "_law_row" "_law_row" (top 83) f fd) (G:vw mg) (hd:d≤10) (C:qN P w K mg base z8 k "_law_row" ["_law_rule_here"] (kC d)):zL P w K mg base z8 (k+1) f fd ["_law_rule_here"] (kC (d+1)):=by
 have nd:(["_law_rule_here","_law_told_here","_law_head"]:List Str).Nodup:=by decide +kernel
 have nc:(["_law_part"]:List Str).Nodup:=by decide +kernel
 have np:(["_law_pair"]:List Str).Nodup:=by decide +kernel
 refine F.ok (N:=["_law_rule_here","_law_told_here","_law_head"]) (by walk_at"s") (fun vs H Q E h=>?_) (fun cdv A outer s H vs Q E hr h=>?_)
 ·obtain⟨v,r,rfl,_⟩:=h
  rfl
 ·obtain⟨v,r,rfl,rt,gd,q⟩:=h
  refine' ⟨_,(zh (zX (zK qK (zD qI (pv 0) ze) zt (zI _)) (zh (zQ (i:=1) nd rfl (Or.inl rfl) (yL PySem.F.plainAttrs_str PySem.F.slot_str_join PySem.F.type_str_join jj zt (za ?comp_4 zd)))
    (zi (zx (zu qg (zu qg (zu qg (zu qg (zu qg zt (zD qI (pv 0) ze)) zt) (pv 1)) zt) (zD qI (pv 0) ze))))) zG)
    (zh (zX (zK qK (zD qI (pv 0) ze) zt (zI _)) (zh (zQ (i:=2) nd rfl (Or.inl rfl) (yL PySem.F.plainAttrs_str PySem.F.slot_str_join PySem.F.type_str_join jj zt (za (zS (za (zD qI (pv 0) ze) (za (zD qI (pv 0) ze) (za (qk qr rfl G.str qH (za (zD qI (pv 0) ze) zd)) (za (zD qI (pv 0) ze) zd))))) zd)))
    (zi (zx (zu qg (zu qg (pv 2) zt) (zp C hr (cx _) zC (za (zD qI (pv 0) ze) zd)))))) zG)
    (zi (zx (yL PySem.F.plainAttrs_str PySem.F.slot_str_join PySem.F.type_str_join jj zt (za ?comp_2 zd)))))),?main⟩
  case comp_4 =>
   refine' qm (Nc:=["_law_pair"]) (cl:=[]) (src:=[none]) (wi:=Vk K (jH (Zp K) (zP 0) (tC (.int 2)))) (g:=z6 0) (tt:=qv) (te:=jH Xd (jH Xd (N8 Xb (qi (jH (Zp K) (zP 0) (tC (.int 0))) yd)) (tC (.str ":"))) (N8 Xb (qi (jH (Zp K) (zP 0) (tC (.int 1))) yd)))
    (by walk_at"c0") rfl (uT (zD qI (pv 0) ze)) ?hb
   case hb =>
    intro fp C' s' H'
    exact⟨zN (i:=0) np rfl (Or.inl rfl),qj,zu qg (zu qg (qk qr rfl G.str qH (za (zD qI (pv 0) ze) zd)) zt) (qk qr rfl G.str qH (za (zD qI (pv 0) ze) zd))⟩
  case comp_2 =>
   refine' qm (Nc:=["_law_part"]) (cl:=[]) (src:=[none]) (wi:=Vk K (zP 0)) (g:=z6 0) (tt:=qv) (te:=N8 (fun xs H Q=>(∃ i,xs=[.int i]∧i.natAbs.log2<1920∧Q (.str (toString i)) H)∨∃ z,xs=[.str z]∧Q (.str z) H) (qi (zP 0) yd))
    (by walk_at"c0") rfl (uT (pv 0)) ?hb
   case hb =>
    intro fp C' s' H'
    exact⟨zN (i:=0) nc rfl (Or.inl rfl),qj,qk GO rfl G.str qH (za (pv 0) zd)⟩
  walk_at"d4"
  cases gd with
  | pln pl =>
   rw[QV pl] at q
   obtain⟨z,l,el,zb,zo,ll⟩:=Px pl
   have jo:=QQ pl
   have pk:=GW pl
   obtain⟨t,rfl,ht⟩:Pa H v r:=by
    cases rt with
    | pln _ ra=>exact ra
    | bands=>cases pl
    | ontop=>cases pl
   have h0:kT (vm r) ((0:Nat):Int)=some (.str z):=q8 (by rw[el];rfl)
   refine⟨_,rfl,t,_,_,_,rfl,rfl,yj.of ht,h0,rfl,_,rfl,pN zb ⟨_,rfl,t,_,_,_,rfl,rfl,yj.of ht,h0,rfl,_,rfl,pN zo ⟨rfl,_,rfl,t,rfl,⟨_,yj.of ht⟩,fun D hD=>jI (jN (yj.of ht)) (xv (vm r)) hD (by rw[el,Cr,sizeLine_eq];omega) (fun x=>.str (Ym x)) (fun x hx v H1 R s1 e1 k=>?_) (fun H1 s1 e1=>?_)⟩⟩⟩
   ·subst e1
    rcases pk v hx with ⟨i,rfl,hi⟩ | ⟨y,rfl⟩
    ·exact⟨_,rfl,.inl ⟨i,rfl,hi,k _ (zq.refl _)⟩⟩
    ·exact⟨_,rfl,.inr ⟨y,rfl,k _ (zq.refl _)⟩⟩
   ·exact⟨_,(vm r).map Ym,D,rfl,rfl,zZ.of (by rw[cV];exact e1),jo,q H1 s1⟩
  | @bands _ n x ps hn ok hw =>
   cases rt with
   | pln kk _=>exact absurd kk (by show ¬ (4:Nat)<4;decide)
   | @bands _ _ _ t u ht bd =>
    obtain⟨ys,hu,T⟩:=bd
    have few:=ok.few
    refine⟨_,rfl,t,_,_,_,rfl,rfl,yj.of ht,rfl,rfl,_,rfl,Md ⟨rfl,_,rfl,t,_,_,_,rfl,rfl,yj.of ht,rfl,u,rfl,⟨_,yj.of hu⟩,fun D hD=>jI (jN (yj.of hu)) (vQ T) hD (by rw[sizeLine_eq];omega) (fun p=>.str (yT p)) (fun p hp v H1 R s1 e1 r=>?_) (fun H1 s1 e1=>?_)⟩⟩
    ·obtain⟨a,rfl,ha⟩:=e1
     have hb:=ok.ok p hp
     have l1:=kx hb.1
     have l2:=vW hb.2
     have l3:((toString p.1:Str) ++ ":").length=(toString p.1:Str).length+1:=Str.length_append ..
     exact⟨_,rfl,a,_,_,_,rfl,rfl,yj.of ha,rfl,_,rfl,ZC hb.1,_,_,rfl,rfl,by rw[sizeLine_eq];show (toString p.1:Str).length+1≤_;omega,_,rfl,a,_,_,_,rfl,rfl,yj.of ha,rfl,_,rfl,wz hb.2,_,_,rfl,rfl,by rw[l3,sizeLine_eq];omega,r H1 (zq.refl _)⟩
    ·have jb:=ue ok
     have ht1:=s1 _ _ ht
     have h1:=hn.ok.hi
     have h2:=jb.2
     have h3:=u4 hw
     have w6:("bands ":Str).length=6:=by decide +kernel
     have w1:(" ":Str).length=1:=by decide +kernel
     have q:=q H1 s1
     refine⟨_,ps.map yT,D,rfl,rfl,zZ.of (by rw[e1,cV];rfl),jb.1,?_⟩
     refine⟨_,rfl,t,_,_,_,rfl,rfl,yj.of ht1,rfl,_,_,rfl,rfl,by rw[w6,sizeLine_eq];omega,_,_,rfl,rfl,by rw[Str.length_append,w6,w1,sizeLine_eq];omega,_,rfl,_,_,rfl,rfl,by rw[Str.length_append,Str.length_append,w6,w1,sizeLine_eq];show _+(vv ps).length≤_;omega,_,_,rfl,rfl,by rw[Str.length_append,Str.length_append,Str.length_append,w6,w1,sizeLine_eq];show _+(vv ps).length+1≤_;omega,_,rfl,t,_,_,_,rfl,rfl,yj.of ht1,rfl,_,_,rfl,rfl,by rw[Str.length_append,Str.length_append,Str.length_append,Str.length_append,w6,w1,sizeLine_eq];show _+(vv ps).length+1+_≤_;omega,?_⟩
     have e:=VQ n (vv ps) x
     unfold vv at e
     rw[e]
     exact q
  | @ontop d n x p r' hn hp hw gd =>
   cases rt with
   | pln kk _=>exact absurd kk (by show ¬ (5:Nat)<4;decide)
   | @ontop _ _ _ _ t y ht rti =>
    have h1:=hn.ok.hi
    have h2:=vW hp
    have h3:=u4 hw
    have h4:=wY gd
    have jh:=yz (sep:=" ") (zs:=["ontop",n,toString p,x]) (m:=8) (k:=4) (fun z hz=>by
     simp only[cy,cA,or_false] at hz
     rcases hz with rfl | rfl | rfl | rfl
     ·decide +kernel
     ·omega
     ·omega
     ·omega) (cx _) (by decide +kernel) rfl
    have h5:=jh.2
    have w4:(" of ":Str).length=4:=by decide +kernel
    refine⟨_,rfl,t,_,_,_,rfl,rfl,yj.of ht,rfl,rfl,_,rfl,pN TZ ⟨_,rfl,t,_,_,_,rfl,rfl,yj.of ht,rfl,rfl,_,rfl,Md ?_⟩⟩
    refine⟨rfl,_,rfl,t,_,_,_,rfl,rfl,yj.of ht,rfl,_,rfl,t,_,_,_,rfl,rfl,yj.of ht,rfl,_,rfl,t,_,_,_,rfl,rfl,yj.of ht,rfl,_,rfl,wz hp,_,rfl,t,_,_,_,rfl,rfl,yj.of ht,rfl,qa rfl,fun l H1 s1 n1 e1=>⟨_,["ontop",n,toString p,x],l,rfl,rfl,zZ.of e1,jh.1,?_⟩⟩
    refine⟨_,rfl,_,_,rfl,rfl,by rw[w4,sizeLine_eq];omega,_,rfl,t,_,_,_,rfl,rfl,yj.of (s1 _ _ ht),rfl,_,r',rfl,rti.same s1,gd,fun H2 s2=>⟨_,_,rfl,rfl,by rw[Str.length_append,w4,sizeLine_eq];omega,?_⟩⟩
    rw[QR]
    exact q H2 (s1.trans s2)
theorem oB (F:qJ K "_law_rule" "_law_rule" (top 82) f fd) (G:vw mg) (C1:qN P w K mg base z8 1 "_law_mixed" ["_law_cell","_law_k"] yQ) (C2:qN P w K mg base z8 4 "_law_plain" ["_law_cell","_law_name","_law_kind"] Xj) (C3:qN P w K mg base z8 2 "_law_parts" ["_law_cell","_law_k"] ZS) (C4:qN P w K mg base z8 2 "_law_way" ["_law_cell","_law_k"] Vs):zL P w K mg base z8 5 f fd ["_law_cell","_law_name"] QE:=by
 have nd:(["_law_cell","_law_name","_law_number","_law_found","_law_k"]:List Str).Nodup:=by decide +kernel
 refine F.ok (N:=["_law_cell","_law_name","_law_number","_law_found","_law_k"]) (by walk_at"s") (fun vs H Q E h=>?_) (fun cdv A outer s H vs Q E hr h=>?_)
 ·obtain⟨c,z,rfl,_⟩:=h
  rfl
 ·obtain⟨c,z,rfl,hz,q⟩:=h
  refine⟨_,(zh (zQ (i:=2) nd rfl (Or.inl rfl) (zp C1 hr (by decide) zC (za (pv 0) (za ze zd))))
    (zh (zQ (i:=3) nd rfl (Or.inl rfl) (zp C2 hr (by decide) zC (za (pv 0) (za (pv 1) (za (zu zW (pv 2) ze) zd)))))
    (zh (Qu PassesOwn.never rfl (yu rfl G.range (za (zD zw (zS (za ze (za ze (za ze (za ze (za ze (za ze zd))))))) (zu zW (zu qE (pv 2) ze) ze)) zd)) (zN (i:=4) nd rfl (Or.inl rfl)) (zi (zQ (i:=3) nd rfl (Or.inl rfl) (yg (za zt (za (pv 1) (za (zp C3 hr (by decide) zC (za (pv 0) (za (zu qA ze (pv 4)) zd))) (za (zp C4 hr (by decide) zC (za (pv 0) (za (zu qA ze (pv 4)) zd))) (za (pv 3) zd)))))))))
    (zi (zx (pv 3)))))),?_⟩
  refine⟨_,rfl,c,_,rfl,fun m m0 m1=>⟨_,rfl,_,rfl,_,rfl,_,_,rfl,rfl,(by show (0:Int)<5;decide),c,z,_,rfl,hz,cU _ (by decide),Ca _ (by decide),fun v r H1 gd rn _ s1 rt=>⟨qa rfl,fun g H2 s2 n2 e2=>?_⟩⟩⟩
  obtain⟨x,ev,mv⟩:=yV (xs:=[V.int 0,.int 0,.int 0,.int 1,.int 2,.int 3]) (i:=m/5%6) (cU _ (by decide)) (Ca _ (by decide))
  obtain⟨n,rfl,h1⟩:∃ n:Nat,x = .int (n:Nat)∧n≤3:=by
   simp only[cy,cA,or_false] at mv
   rcases mv with rfl | rfl | rfl | rfl | rfl | rfl
   ·exact⟨0,rfl,by decide⟩
   ·exact⟨0,rfl,by decide⟩
   ·exact⟨0,rfl,by decide⟩
   ·exact⟨1,rfl,by decide⟩
   ·exact⟨2,rfl,by decide⟩
   ·exact⟨3,rfl,by decide⟩
  refine⟨_,rfl,_,_,rfl,rfl,⟨by decide,by decide⟩,_,_,rfl,rfl,(by show (0:Int)<6;decide),g,_,_,_,rfl,rfl,zZ.of e2,ev,_,rfl,by omega,by omega,uf (fun i σ H'=>∃ v r x4,bh (σ = [some (.int c),some (.str z),some (.int m),some v,x4]) (zq H H') (Gd i r∧r.name=z) (Y8 H' r v)) ⟨v,r,_,rfl,s1.trans s2,⟨gd,rn⟩,rt.same s2⟩ ?_ ?_⟩
  ·rintro i σ H3 hi ⟨v,r,x4,rfl,s3,⟨gd,rn⟩,rt⟩ E3 k3
   exact⟨_,rfl,_,rfl,_,rfl,_,_,rfl,rfl,c,_,rfl,fun p H4 hp s4=>⟨_,rfl,_,rfl,_,_,rfl,rfl,c,_,rfl,fun w H5 hw s5=>⟨_,rfl,qa rfl,fun t H6 s6 n6 e6=>k3 _ _ ⟨_,.ontop z p w r,_,rfl,s3.trans (s4.trans (s5.trans s6)),⟨.ontop hz hp hw gd,rfl⟩,.ontop e6 (rt.same (s4.trans (s5.trans s6)))⟩⟩⟩⟩
  ·rintro σ H3 ⟨v,r,x4,rfl,s3,⟨gd,rn⟩,rt⟩
   rw[CG] at gd
   exact⟨_,rfl,q v r H3 (gd.le h1) rn s3 rt⟩
set_option maxHeartbeats 4000000 in
theorem gE (F:qJ K "_law_rules" "_law_rules" (top 84) f fd) (G:vw mg) (C1:qN P w K mg base z8 1 "_law_mixed" ["_law_cell","_law_k"] yQ) (C2:qN P w K mg base z8 5 "_law_rule" ["_law_cell","_law_name"] QE):zL P w K mg base z8 6 f fd ["_law_cell","_law_names_here","_law_most"] (Zi K):=by
 have nd:(["_law_cell","_law_names_here","_law_most","_law_number","_law_many"]:List Str).Nodup:=by decide +kernel
 have nk:(["_law_k","_law_names_here","_law_cell"]:List Str).Nodup:=by decide +kernel
 refine F.ok (N:=["_law_cell","_law_names_here","_law_most","_law_number","_law_many"]) (by walk_at"s") (fun vs H Q E h=>?_) (fun cdv A outer s H vs Q E hr h=>?_)
 ·obtain⟨c,ln,nms,mo,rfl,_⟩:=h
  rfl
 ·obtain⟨c,ln,nms,mo,rfl,mo8,hl,n8,hn,nn,q⟩:=h
  refine' ⟨_,(zh (zQ (i:=3) nd rfl (Or.inl rfl) (zp C1 hr (by decide) zC (za (pv 0) (za ze zd))))
    (zh (zQ (i:=4) nd rfl (Or.inl rfl) (zD zw (zS (za ze (za ze (za ze (za ze (za (pv 2) (za (zu zW (zu qE (pv 3) ze) (zu qA (pv 2) ze)) zd))))))) (zu zW (pv 3) ze)))
    (zi (zx ?comp)))),?main⟩
  case comp =>
   refine' qm (Nc:=["_law_k","_law_names_here","_law_cell"]) (cl:=[("_law_names_here",s.heap.objs.size+2),("_law_cell",s.heap.objs.size+1)]) (src:=[none,some 1,some 0]) (wi:=Zz (qi (zP 4) yd)) (g:=z6 0) (tt:=qv) (te:=fun σ H Q=>qi (jH (VD fun i j=>.int (i+j)) (fun σ H Q=>qi (zP 2) (qi (jH (VD fun i j=>.int (i+j)) (tC (.int 150)) (zP 0)) yd) σ H fun vs H1=>yQ vs H1 Q E0) (zP 0)) (qi (jH (mr K) (zP 1) (zP 0)) yd) σ H fun vs H1=>QE vs H1 Q E0)
    (by walk_at"c3") rfl (yu rfl G.range (za (pv 4) zd)) ?hb
   case hb =>
    intro fp C' s' H'
    exact⟨zN (i:=0) nk rfl (Or.inl rfl),qj,zp C2 hr (by decide) zC (za (zu qA (zp C1 hr (by decide) zC (za (pv 2) (za (zu qA ze (pv 0)) zd))) (pv 0)) (za (zD zw (pv 1) (pv 0)) zd))⟩
  walk_at"d4"
  refine⟨_,rfl,c,_,rfl,fun m m0 m1=>⟨_,rfl,_,rfl,_,_,rfl,rfl,⟨by decide,by decide⟩,_,rfl,_,_,rfl,rfl,_,_,rfl,rfl,(by show (0:Int)<(mo:Nat)+1;omega),qa rfl,fun g H1 s1 n1 e1=>?_⟩⟩
  obtain⟨v,ev,mv⟩:=yV (xs:=[V.int 0,.int 1,.int 2,.int 3,.int (mo:Nat),.int (m/6%((mo:Nat)+1))]) (i:=m%6) (cU _ (by decide)) (Ca _ (by decide))
  obtain⟨n,rfl,h8⟩:∃ n:Nat,v = .int (n:Nat)∧n≤8:=by
   simp only[cy,cA,or_false] at mv
   rcases mv with rfl | rfl | rfl | rfl | rfl | rfl
   ·exact⟨0,rfl,by decide⟩
   ·exact⟨1,rfl,by decide⟩
   ·exact⟨2,rfl,by decide⟩
   ·exact⟨3,rfl,by decide⟩
   ·exact⟨mo,rfl,mo8⟩
   ·obtain⟨k,hk⟩:=CJ (show 0≤m/6%((mo:Nat)+1) from cU _ (by omega))
    have:m/6%((mo:Nat)+1)<(mo:Nat)+1:=Ca _ (by omega)
    exact⟨k,by rw[hk],by omega⟩
  refine⟨_,rfl,_,_,rfl,rfl,(by show (0:Int)<6;decide),g,_,_,_,rfl,rfl,zZ.of e1,ev,_,rfl,_,rfl,by omega,by omega,?_⟩
  rw[CG]
  refine fun D hD=>VO vo (YT n) hD (by rw[Cj,sizeLine_eq];omega) (fun H' u k=>∃ r,Y8 H' r u∧Gd 3 r∧nms[k]? = some r.name) (fun kp h=>by
   obtain⟨r,h1,h2⟩:=h
   exact⟨r,h1.keep kp,h2⟩) (fun i k hk v H2 R s2 e2 r=>?_) (fun zs H2 s2 e2 M=>?_)
  ·subst e2
   obtain⟨hk1,hk2⟩:=cW.mp hk
   rw[Dk] at hk2
   subst hk2
   rw[Cj] at hk1
   have il:i<nms.length:=by omega
   exact⟨_,rfl,_,rfl,_,_,rfl,rfl,_,_,rfl,fun m' m0' m1'=>⟨_,rfl,_,_,rfl,rfl,_,rfl,_,rfl,ln,_,_,_,rfl,rfl,(s1.trans s2).seq hl,q8 (j:=i) (v:=.str nms[i]) (by rw[cQ,cI il];rfl),_,_,rfl,hn _ (d8 il),fun v r' H3 gd rn s3 rt=>r v H3 s3 ⟨r',rt,gd,by rw[rn,cI il]⟩⟩⟩
  ·obtain⟨rs,rl,hr'⟩:=UG (P:=fun H u r=>Y8 H r u) (q:=fun k r=>Gd 3 r∧nms[k]? = some r.name) M
   have zl:zs.length=n:=by rw[M.len,Cj]
   refine q D rs H2 ⟨fun r hm=>?_,?_,by omega⟩ (s1.trans s2) (uM s1 hD) ⟨zs,e2,by omega,fun i y hy=>?_⟩
   ·obtain⟨i,hi⟩:=Dh.mp hm
    exact (hr' i r hi).1.1
   ·have e:rs.map Rk.name=nms.take n:=by
     apply Du
     intro i
     rw[cQ,List.getElem?_take]
     by_cases hi:i<n
     ·have h:=cI (show i<rs.length by omega)
      rw[if_pos hi,h,(hr' i _ h).1.2]
      rfl
     ·rw[if_neg hi,dk (by omega)]
      rfl
    rw[e]
    exact nn.sublist (Dr _ _)
   ·have hi:i<rs.length:=by have:=(cW.mp hy).1;omega
    have h:=cI hi
    obtain⟨u,hu,rt⟩:=(hr' i _ h).2
    rw[hy] at hu
    cases hu
    exact⟨_,h,fun H' s=>rt.same s⟩
end
end K11
namespace Pg
open PySem L2
noncomputable def uz (z:Str):Bool:=vL z && !noNames.contains z
noncomputable def pz (K:BFr) (H:Hp) (v:V) (b:Bool):Prop:=(∃ z,v = .str z∧z.length≤100000∧b=uz z)∨(vS K H v∧b=false)
noncomputable def Yd (K:BFr) (H:Hp) (m:Int) (v:V) (b:Bool):Prop:=(∃ z,v = .int z∧b=decide (0≤z∧z≤m))∨(uN K H v∧b=false)
noncomputable def gQ (K:BFr) (H:Hp) (v:V) (b:Bool):Prop:=(∃ z,v = .str z∧b=wayL.contains z)∨(vS K H v∧b=false)
section
variable {K:BFr} {H H':Hp} {v:V} {b:Bool} {m:Int} {o C dx:Addr} {fs:List (Str × V)}
theorem Yd.same (s:zq H H') (h:Yd K H m v b):Yd K H' m v b:=h.imp id fun h=>⟨h.1.same s,h.2⟩
theorem TyB.fr {t:String} (ho:H o=some (.ins C dx fs)) (f:∀ b x,H b=some x→b≠o→H' b=some x) (h:j0 K H v (.type t)):j0 K H' v (.type t):=by
 cases h with
 | non=>exact .non
 | bl x=>exact .bl x
 | int i=>exact .int i
 | str x=>exact .str x
 | flt x=>exact .flt x
 | lst e=>exact .lst (f _ _ e (qG e ho (by intro z;cases z)))
 | frz e=>exact .frz (f _ _ e (qG e ho (by intro z;cases z)))
 | tup e=>exact .tup (f _ _ e (qG e ho (by intro z;cases z)))
 | dK e=>exact .dK (f _ _ e (qG e ho (by intro z;cases z)))
 | dT e=>exact .dT (f _ _ e (qG e ho (by intro z;cases z)))
theorem Yd.fr (ho:H o=some (.ins C dx fs)) (f:∀ b x,H b=some x→b≠o→H' b=some x) (h:Yd K H m v b):Yd K H' m v b:=by
 rcases h with h | ⟨⟨r,hr,ty,ne⟩,e⟩
 ·exact .inl h
 ·exact .inr ⟨⟨r,hr,TyB.fr ho f ty,ne⟩,e⟩
theorem gQ.fr (ho:H o=some (.ins C dx fs)) (f:∀ b x,H b=some x→b≠o→H' b=some x) (h:gQ K H v b):gQ K H' v b:=by
 rcases h with h | ⟨⟨r,hr,ty,ne⟩,e⟩
 ·exact .inl h
 ·exact .inr ⟨⟨r,hr,TyB.fr ho f ty,ne⟩,e⟩
end
inductive Gg (K:BFr) (H:Hp):V→Option (Int × Int)→Prop where
 | pair {t:Addr} {p:Int × Int}:H t=some (.tup (cB p))→YZ p.1→QB p.2→Gg K H (.ref t) (some p)
 | other {v:V} {t:String}:j0 K H v (.type t)→PySem.W.kitOne K (.type t) (.type "tuple")=some false→Gg K H v none
 | size {t:Addr} {xs:List V}:H t=some (.tup xs)→xs.length≠2→Gg K H (.ref t) none
 | odd {t:Addr} {x y:V} {b1 b2:Bool}:H t=some (.tup [x,y])→Yd K H 1000000000000 x b1→Yd K H 20000 y b2→(b1&&b2)=false→Gg K H (.ref t) none
theorem Gg.same {K:BFr} {H H':Hp} {v:V} {p:Option (Int × Int)} (s:zq H H') (h:Gg K H v p):Gg K H' v p:=by
 cases h with
 | pair a b c=>exact .pair (s _ _ a) b c
 | other a b=>exact .other (a.same s) b
 | size a b=>exact .size (s _ _ a) b
 | odd a b c d=>exact .odd (s _ _ a) (b.same s) (c.same s) d
theorem Gg.fr {K:BFr} {H H':Hp} {v:V} {p:Option (Int × Int)} {o C dx:Addr} {fs:List (Str × V)} (ho:H o=some (.ins C dx fs)) (f:∀ b x,H b=some x→b≠o→H' b=some x) (h:Gg K H v p):Gg K H' v p:=by
 have ft:∀ b c,H b=some (.tup c)→H' b=some (.tup c):=fun b c h=>f _ _ h (qG h ho (by intro z;cases z))
 cases h with
 | pair a b c=>exact .pair (ft _ _ a) b c
 | other a b=>exact .other (TyB.fr ho f a) b
 | size a b=>exact .size (ft _ _ a) b
 | odd a b c d=>exact .odd (ft _ _ a) (b.fr ho f) (c.fr ho f) d
noncomputable def Qm:List Int→Bool
 | a::b::l=>decide (a<b)&&Qm (b::l)
 | _=>true
noncomputable def G8 (os:List (Option (Int × Int))):Bool:=decide (1≤os.length∧os.length≤12)&&(os.all Option.isSome&&(decide ((os.filterMap fun o=>o.map (·.1)).head? = some 0)&&Qm (os.filterMap fun o=>o.map (·.1))))
inductive Ml (K:BFr) (H:Hp):V→Bool→Prop where
 | other {v:V} {t:String}:j0 K H v (.type t)→PySem.W.kitOne K (.type t) (.type "tuple")=some false→Ml K H v false
 | rows {t:Addr} {xs:List V} {os:List (Option (Int × Int))}:H t=some (.tup xs)→xs.length=os.length→xs.length≤100000→(∀ (j:Nat) x o,xs[j]? = some x→os[j]? = some o→Gg K H x o)→Ml K H (.ref t) (G8 os)
theorem Ml.fr {K:BFr} {H H':Hp} {v:V} {b:Bool} {o C dx:Addr} {fs:List (Str × V)} (ho:H o=some (.ins C dx fs)) (f:∀ b x,H b=some x→b≠o→H' b=some x) (h:Ml K H v b):Ml K H' v b:=by
 cases h with
 | other a b=>exact .other (TyB.fr ho f a) b
 | rows a b c d=>exact .rows (f _ _ a (qG a ho (by intro z;cases z))) b c fun j x o' h1 h2=>(d j x o' h1 h2).fr ho f
noncomputable def Tv (K:BFr) (H:Hp):Nat→List V→Prop
 | 0,[v1,v2]=>∃ b1 b2,pz K H v1 b1∧Yd K H 1000000000000 v2 b2∧(b1&&b2)=false
 | 1,[v1,v2,v3]=>∃ b1 b2 b3,pz K H v1 b1∧Yd K H 20000 v2 b2∧gQ K H v3 b3∧(b1&&(b2&&b3))=false
 | 2,[v1,v2,v3,v4]=>∃ b1 b2 b3 b4,pz K H v1 b1∧Yd K H 20000 v2 b2∧Yd K H 1000000000000 v3 b3∧gQ K H v4 b4∧(b1&&((b2&&b4)&&b3))=false
 | 3,[v1,v2,v3,v4]=>∃ b1 b2 b3 b4,pz K H v1 b1∧Yd K H 20000 v2 b2∧Yd K H 1000000000000 v3 b3∧gQ K H v4 b4∧(b1&&((b2&&b4)&&b3))=false
 | 4,[v1,v2,v3]=>∃ b1 b2 b3,pz K H v1 b1∧Ml K H v2 b2∧gQ K H v3 b3∧(b1&&(b2&&b3))=false
 | _,_=>False
noncomputable def Jq (K:BFr):Sp:=fun vs H Q _=>∃ v b,vs=[v]∧pz K H v b∧∀ H',zq H H'→Q (.bl b) H'
noncomputable def wK (K:BFr) (m:Int):Sp:=fun vs H Q _=>∃ v b,vs=[v]∧Yd K H m v b∧Q (.bl b) H
noncomputable def JY (K:BFr):Sp:=fun vs H Q _=>∃ v b,vs=[v]∧gQ K H v b∧Q (.bl b) H
noncomputable def uZ (K:BFr) (c:Addr):Sp:=fun vs H Q E=>∃ v b,vs=[v]∧Yd K H 1000000000000 v b∧(b=true→Q .non H)∧(b=false→E (.ref c) none H)
noncomputable def vO (K:BFr) (c:Addr):Sp:=fun vs H Q E=>∃ v u b1 b2,vs=[v,u]∧Yd K H 20000 v b1∧gQ K H u b2∧((b1&&b2)=true→Q .non H)∧((b1&&b2)=false→E (.ref c) none H)
noncomputable def jB (K:BFr) (c:Addr):Sp:=fun vs H Q E=>∃ C o dx v b,vs=[.ref o,v]∧wo K C∧zU K C "name"∧H o=some (.ins C dx [])∧pz K H v b∧(b=true→∀ H',(∀ b x,H b=some x→b≠o→H' b=some x)→H' o=some (.ins C dx [("name",v)])→Q .non H')∧(b=false→∀ H',zq H H'→E (.ref c) none H')
noncomputable def Qi (K:BFr):Sp:=fun vs H Q _=>∃ v p,vs=[v]∧Gg K H v p∧Q (.bl p.isSome) H
noncomputable def Uu (K:BFr):Sp:=fun vs H Q _=>∃ (l:Addr) (zs:List Int),vs=[.ref l]∧zZ K H l (zs.map V.int)∧zs.length≤50∧∀ H',zq H H'→Q (.bl (Qm zs)) H'
noncomputable def Jj (K:BFr):Sp:=fun vs H Q _=>∃ v b,vs=[v]∧Ml K H v b∧∀ H',zq H H'→Q (.bl b) H'
noncomputable def yF (K:BFr) (k:Nat) (Cs:Nat→Addr) (c:Addr):Sp:=fun vs H Q E=>∃ o dx args,vs = .ref o::args∧H o=some (.ins (Cs k) dx [])∧Tv K H k args∧∀ H',(∀ b x,H b=some x→b≠o→H' b=some x)→E (.ref c) none H'
theorem L3:∀ zs:List Int,Qm zs=((zs.zip zs.tail).all fun p=>decide (p.1<p.2))
 | []=>rfl
 | [_]=>rfl
 | a::b::l=>by
  show (decide (a<b)&&Qm (b::l))=_
  rw[L3 (b::l)]
  rfl
theorem gm (v:V):jw "name" v []=[((("name":Str)),v)]:=rfl
noncomputable def BI:V→V→V
 | .int a,.int b=>.bl (decide (a<b))
 | _,_=>.non
theorem nD (zs ys:List Int):List.zipWith BI (zs.map V.int) (ys.map V.int)=(List.zipWith (fun a b=>decide (a<b)) zs ys).map V.bl:=by
 rw[List.zipWith_map,List.map_zipWith]
 rfl
theorem OX:∀ zs:List Int,(List.zipWith (fun a b=>decide (a<b)) zs zs.tail).all id=Qm zs
 | []=>rfl
 | [_]=>rfl
 | a::b::l=>by
  show (decide (a<b)&&(List.zipWith (fun a b=>decide (a<b)) (b::l) (b::l).tail).all id)=_
  rw[OX (b::l)]
  rfl
theorem G0 {os:List (Option (Int × Int))} (h:os.all Option.isSome=true):∃ ps:List (Int × Int),os=ps.map some:=by
 induction os with
 | nil=>exact⟨[],rfl⟩
 | cons o r ih =>
  rw[CZ,cz] at h
  obtain⟨ps,rfl⟩:=ih h.2
  cases o with
  | none=>cases h.1
  | some p=>exact⟨p::ps,rfl⟩
theorem QN (ps:List (Int × Int)):((ps.map some).filterMap fun o=>o.map (·.1))=ps.map (·.1):=by
 induction ps with
 | nil=>rfl
 | cons p r ih=>exact congrArg (List.cons p.1) ih
inductive Te (K:BFr) (cRu:Addr) (Cs:Nat→Addr) (H:Hp):V→Bool→Prop where
 | other {v:V} {t:String}:j0 K H v (.type t)→PySem.W.kitOne K (.type t) (.ref cRu)=some false→Te K cRu Cs H v false
 | deep {v:V} {n w:Str} {p:Int} {r:Rk}:uu Cs H (.ontop n p w r) v→Gd 3 (.ontop n p w r)→mF (.ontop n p w r)=3→Te K cRu Cs H v false
 | good {v:V} {r:Rk}:uu Cs H r v→Gd 2 r→Te K cRu Cs H v true
noncomputable def Y4 (K:BFr) (cRu:Addr) (Cs:Nat→Addr) (c:Addr):Sp:=fun vs H Q E=>∃ o dx v1 v2 v3 v4 b1 b2 b3 b4,vs=[.ref o,v1,v2,v3,v4]∧H o=some (.ins (Cs 5) dx [])∧pz K H v1 b1∧Yd K H 20000 v2 b2∧gQ K H v3 b3∧Te K cRu Cs H v4 b4∧(b1&&((b2&&b3)&&b4))=false∧∀ H',(∀ b x,H b=some x→b≠o→H' b=some x)→E (.ref c) none H'
theorem pz.true {K:BFr} {H:Hp} {v:V} (h:pz K H v true):∃ z,v = .str z∧qT z:=by
 rcases h with ⟨z,e,_,h⟩ | ⟨_,h⟩
 ·unfold uz at h
  have h:=h.symm
  rw[cz] at h
  refine⟨z,e,UC h.1,?_⟩
  have h2:=h.2
  cases q:noNames.contains z with
  | false=>rfl
  | true=>rw[q] at h2;cases h2
 ·cases h
theorem Yd.true {K:BFr} {H:Hp} {m:Int} {v:V} (h:Yd K H m v true):∃ z,v = .int z∧0≤z∧z≤m:=by
 rcases h with ⟨z,e,h⟩ | ⟨_,h⟩
 ·exact⟨z,e,of_decide_eq_true h.symm⟩
 ·cases h
theorem gQ.true {K:BFr} {H:Hp} {v:V} (h:gQ K H v true):∃ z,v = .str z∧Jd z:=by
 rcases h with ⟨z,e,h⟩ | ⟨_,h⟩
 ·exact⟨z,e,h.symm⟩
 ·cases h
end Pg
namespace K11
open PySem PySem.NumText L2 Pg
seal PE PA PT PW PS yW PG vq PI j7 PO PK
section
variable {P:Program} {w:World} {K:BFr} {mg:Str→Option Value} {base:Heap} {f:Addr} {fd:FuncData} {d:Nat→Addr} {cR:Addr}
theorem gX (F:qJ K "is_rule_name" "is_rule_name" (top 42) f fd) (W:rA K mg "NO_RULE_NAMES" noNames) (C1:qN P w K mg base z8 2 "is_name" ["thing"] (UT K)):zL P w K mg base z8 3 f fd ["thing"] (Jq K):=by
 obtain⟨aw,ew,tw⟩:=W
 refine F.ok (N:=["thing"]) (by walk_at"s") (fun vs H Q E h=>?_) (fun cdv A outer s H vs Q E hr h=>?_)
 ·obtain⟨v,b,rfl,_⟩:=h
  rfl
 ·obtain⟨v,b,rfl,hv,q⟩:=h
  refine⟨_,zi (zx (yO (zp C1 hr (by decide) zC (za (pv 0) zd)) (yX (qC wZ (pv 0) (zY (v:=.ref aw) rfl ew rfl) (by rfl))))),?_⟩
  rcases hv with ⟨z,rfl,zl,rfl⟩ | ⟨ns,rfl⟩
  ·refine⟨_,rfl,_,rfl,.inl ⟨z,rfl,zl,fun H1 s1=>⟨_,rfl,?_⟩⟩⟩
   have q1:=q H1 s1
   unfold uz at q1
   cases e:vL z with
   | false =>
    rw[e] at q1
    exact qD q1
   | true =>
    rw[e,Cn] at q1
    refine qV ⟨_,rfl,aw,_,rfl,.inr (tw H1),rfl,rfl,?_⟩
    rw[if_pos rfl,ki]
    exact q1
  ·exact⟨_,rfl,v,rfl,.inr ⟨ns,false,rfl,qD (q H (zq.refl _))⟩⟩
theorem mz (F:qJ K "is_way" "is_way" (top 24) f fd) (G:vw mg) (W:rA K mg "WAYS" wayL):zL P w K mg base z8 1 f fd ["thing"] (JY K):=by
 obtain⟨aw,ew,tw⟩:=W
 refine F.ok (N:=["thing"]) (by walk_at"s") (fun vs H Q E h=>?_) (fun cdv A outer s H vs Q E hr h=>?_)
 ·obtain⟨v,b,rfl,_⟩:=h
  rfl
 ·obtain⟨v,b,rfl,hv,q⟩:=h
  refine⟨_,zi (zx (yO (zy zH rfl G.isinstance zv (za (pv 0) (za (yB (v:=.ty "str") rfl G.str qH rfl) zd)))
   (yX (qC YQ (pv 0) (zY (v:=.ref aw) rfl ew rfl) (by rfl))))),?_⟩
  rcases hv with ⟨x,rfl,rfl⟩ | ⟨⟨r,hr',ty,ne⟩,rfl⟩
  ·refine⟨_,rfl,_,_,_,_,true,rfl,rfl,.inl (.str x),rfl,true,rfl,qV ⟨_,rfl,aw,_,rfl,.inr (tw H),rfl,rfl,?_⟩⟩
   rw[if_neg cZ,ki]
   exact q
  ·obtain⟨_,_,k3,_⟩:=kG (K:=K) r hr'
   have e:r.2.2.2.1=false:=by
    simp only[Vc,cy,cA,or_false] at hr'
    rcases hr' with rfl | rfl | rfl | rfl | rfl | rfl | rfl <;> first | rfl | exact absurd rfl ne
   rw[e] at k3
   exact⟨_,rfl,_,_,_,_,false,rfl,rfl,.inl ty,k3,false,rfl,qD q⟩
theorem NT {x:Str} {m:Int} {t:Tok} (em:mg x=some (.int m t)) (hn:Z1 mg x m) (F:qJ K "is_parts" "is_parts" (top 23) f fd) (hx:x = "MOST_PARTS") (C1:qN P w K mg base z8 2 "is_number_within" ["thing","least","most"] (jF K)):zL P w K mg base z8 3 f fd ["thing"] (wK K m):=by
 subst hx
 refine F.ok (N:=["thing"]) (by walk_at"s") (fun vs H Q E h=>?_) (fun cdv A outer s H vs Q E hr h=>?_)
 ·obtain⟨v,b,rfl,_⟩:=h
  rfl
 ·obtain⟨v,b,rfl,hv,q⟩:=h
  refine⟨_,zi (zx (zp C1 hr (by decide) zC (za (pv 0) (za ze (za (zY (v:=.int m) rfl em ⟨t,rfl⟩) zd))))),_,rfl,v,0,m,rfl,?_⟩
  rcases hv with ⟨z,rfl,rfl⟩ | ⟨ns,rfl⟩
  ·exact .inl ⟨z,rfl,q⟩
  ·exact .inr ⟨ns,q⟩
theorem gA (F:qJ K "is_parts" "is_parts" (top 23) f fd) (N1:Z1 mg "MOST_PARTS" 20000) (C1:qN P w K mg base z8 2 "is_number_within" ["thing","least","most"] (jF K)):zL P w K mg base z8 3 f fd ["thing"] (wK K 20000):=by
 obtain⟨t,em⟩:=N1
 exact NT em ⟨t,em⟩ F rfl C1
theorem oE (F:qJ K "is_rule_amount" "is_rule_amount" (top 43) f fd) (N1:Z1 mg "MOST_AMOUNT" 1000000000000) (C1:qN P w K mg base z8 2 "is_number_within" ["thing","least","most"] (jF K)):zL P w K mg base z8 3 f fd ["thing"] (wK K 1000000000000):=by
 obtain⟨t,em⟩:=N1
 refine F.ok (N:=["thing"]) (by walk_at"s") (fun vs H Q E h=>?_) (fun cdv A outer s H vs Q E hr h=>?_)
 ·obtain⟨v,b,rfl,_⟩:=h
  rfl
 ·obtain⟨v,b,rfl,hv,q⟩:=h
  refine⟨_,zi (zx (zp C1 hr (by decide) zC (za (pv 0) (za ze (za (zY (v:=.int 1000000000000) rfl em ⟨t,rfl⟩) zd))))),_,rfl,v,0,1000000000000,rfl,?_⟩
  rcases hv with ⟨z,rfl,rfl⟩ | ⟨ns,rfl⟩
  ·exact .inl ⟨z,rfl,q⟩
  ·exact .inr ⟨ns,q⟩
theorem GF {cB:Addr} (F:qJ K "need_rule_amount" "need_rule_amount" (top 44) f fd) (X:Er K mg "BadRule" cB) (C1:qN P w K mg base z8 3 "is_rule_amount" ["thing"] (wK K 1000000000000)):zL P w K mg base (jf P w) 4 f fd ["thing"] (uZ K cB):=by
 refine F.okE (N:=["thing"]) (by walk_at"s") (fun vs H Q E h=>?_) (fun cdv A outer s H vs Q E hr h=>?_)
 ·obtain⟨v,b,rfl,_⟩:=h
  rfl
 ·obtain⟨v,b,rfl,hv,q1,q2⟩:=h
  refine⟨_,zi (zX (qu (qt (zp C1 hr (by decide) zC (za (pv 0) zd)))) (zi (qP ql rfl rfl X.at' X.ex (za zt zd))) zG),_,rfl,v,b,rfl,hv,b,rfl,?_⟩
  cases b with
  | true=>exact qD (q1 rfl)
  | false=>exact qV ⟨by decide,q2 rfl⟩
theorem GE {cB:Addr} (F:qJ K "need_share" "need_share" (top 45) f fd) (X:Er K mg "BadRule" cB) (C1:qN P w K mg base z8 3 "is_parts" ["thing"] (wK K 20000)) (C2:qN P w K mg base z8 1 "is_way" ["thing"] (JY K)):zL P w K mg base (jf P w) 4 f fd ["parts","way"] (vO K cB):=by
 refine F.okE (N:=["parts","way"]) (by walk_at"s") (fun vs H Q E h=>?_) (fun cdv A outer s H vs Q E hr h=>?_)
 ·obtain⟨v,u,b1,b2,rfl,_⟩:=h
  rfl
 ·obtain⟨v,u,b1,b2,rfl,h1,h2,q1,q2⟩:=h
  refine⟨_,zh (zX (qu (qt (zp C1 hr (by decide) zC (za (pv 0) zd)))) (zi (qP ql rfl rfl X.at' X.ex (za zt zd))) zG) (zi (zX (qu (qt (zp C2 hr (by decide) zC (za (pv 1) zd)))) (zi (qP ql rfl rfl X.at' X.ex (za zt zd))) zG)),_,rfl,v,b1,rfl,h1,b1,rfl,?_⟩
  cases b1 with
  | false=>exact qV ⟨by decide,q2 rfl⟩
  | true =>
   refine qD ⟨_,rfl,u,b2,rfl,h2,b2,rfl,?_⟩
   cases b2 with
   | true=>exact qD (q1 rfl)
   | false=>exact qV ⟨by decide,q2 rfl⟩
theorem G3 {cB:Addr} (F:qJ K "__init__" "Rule.__init__" (zE (top 46) 0) f fd) (X:Er K mg "BadRule" cB) (C1:qN P w K mg base z8 3 "is_rule_name" ["thing"] (Jq K)):zL P w K mg base (jf P w) 4 f fd ["self","name"] (jB K cB):=by
 refine F.okE (N:=["self","name"]) (by walk_at"s") (fun vs H Q E h=>?_) (fun cdv A outer s H vs Q E hr h=>?_)
 ·obtain⟨C,o,dx,v,b,rfl,_⟩:=h
  rfl
 ·obtain⟨C,o,dx,v,b,rfl,cl,no,ho,hv,q1,q2⟩:=h
  refine⟨_,zh (zX (qu (qt (zp C1 hr (by decide) zC (za (pv 1) zd)))) (zi (qP ql rfl rfl X.at' X.ex (za zt zd))) zG) (zi (yt (pv 0) (pv 1) rfl)),?_⟩
  refine⟨_,rfl,v,b,rfl,hv,fun H1 s1=>⟨b,rfl,?_⟩⟩
  cases b with
  | false=>exact qV ⟨by decide,q2 rfl H1 s1⟩
  | true =>
   refine qD ⟨_,rfl,_,rfl,o,_,dx,[],rfl,s1 _ _ ho,cl,no,by decide,?_⟩
   rw[gm]
   exact q1 rfl _ (fun b x hb ne=>by rw[zm ne];exact s1 _ _ hb) zj
theorem xE {Cs:Nat→Addr} {cB:Addr} (F:qJ K "__init__" "Flat.__init__" (zE (top 47) 0) f fd) (RK:uD K Cs) (CR:uJ P w K mg base (jf P w) 4 "Rule" "__init__" ["self","name"] (jB K cB)) (C1:qN P w K mg base (jf P w) 4 "need_rule_amount" ["thing"] (uZ K cB)):zL P w K mg base (jf P w) 5 f fd ["self","name","amount"] (yF K 0 Cs cB):=by
 refine F.okE (N:=["self","name","amount"]) (by walk_at"s") (fun vs H Q E h=>?_) (fun cdv A outer s H vs Q E hr h=>?_)
 ·obtain⟨o,dx,args,rfl,ho,bad,q⟩:=h
  match args,bad with
  | [v1,v2],_=>rfl
 ·obtain⟨o,dx,args,rfl,ho,bad,q⟩:=h
  match args,bad with
  | [v1,v2],⟨b1,b2,h1,h2,no⟩ =>
   refine⟨_,zh (z4 (y9 CR hr (by decide) qz (za (pv 0) (za (pv 1) zd)))) (zh (z4 (zp C1 hr (by decide) qz (za (pv 2) zd))) qS),?_⟩
   refine⟨_,rfl,_,rfl,_,o,dx,v1,b1,rfl,RK.cls 0 (by decide),RK.no 0 (by decide) "name" (by decide),ho,h1,fun e1 H1 f1 e=>?_,fun e1 H1 s1=>q H1 fun b x h _=>s1 _ _ h⟩
   rw[e1,Cn] at no
   exact⟨_,rfl,v2,b2,rfl,h2.fr ho f1,(fun e2=>by rw[e2] at no;cases no),fun _=>q H1 f1⟩
theorem WE {Cs:Nat→Addr} {cB:Addr} (F:qJ K "__init__" "Share.__init__" (zE (top 48) 0) f fd) (RK:uD K Cs) (CR:uJ P w K mg base (jf P w) 4 "Rule" "__init__" ["self","name"] (jB K cB)) (C1:qN P w K mg base (jf P w) 4 "need_share" ["parts","way"] (vO K cB)):zL P w K mg base (jf P w) 5 f fd ["self","name","parts","way"] (yF K 1 Cs cB):=by
 refine F.okE (N:=["self","name","parts","way"]) (by walk_at"s") (fun vs H Q E h=>?_) (fun cdv A outer s H vs Q E hr h=>?_)
 ·obtain⟨o,dx,args,rfl,ho,bad,q⟩:=h
  match args,bad with
  | [v1,v2,v3],_=>rfl
 ·obtain⟨o,dx,args,rfl,ho,bad,q⟩:=h
  match args,bad with
  | [v1,v2,v3],⟨b1,b2,b3,h1,h2,h3,no⟩ =>
   refine⟨_,zh (z4 (y9 CR hr (by decide) qz (za (pv 0) (za (pv 1) zd)))) (zh (z4 (zp C1 hr (by decide) qz (za (pv 2) (za (pv 3) zd)))) qS),?_⟩
   refine⟨_,rfl,_,rfl,_,o,dx,v1,b1,rfl,RK.cls 1 (by decide),RK.no 1 (by decide) "name" (by decide),ho,h1,fun e1 H1 f1 e=>?_,fun e1 H1 s1=>q H1 fun b x h _=>s1 _ _ h⟩
   rw[e1,Cn] at no
   exact⟨_,rfl,_,rfl,v2,v3,b2,b3,rfl,h2.fr ho f1,h3.fr ho f1,(fun e2=>by rw[e2] at no;cases no),fun _=>q H1 f1⟩
theorem WH {Cs:Nat→Addr} {cB:Addr} (F:qJ K "__init__" "Capped.__init__" (zE (top 49) 0) f fd) (RK:uD K Cs) (CR:uJ P w K mg base (jf P w) 4 "Rule" "__init__" ["self","name"] (jB K cB)) (C1:qN P w K mg base (jf P w) 4 "need_share" ["parts","way"] (vO K cB)) (C2:qN P w K mg base (jf P w) 4 "need_rule_amount" ["thing"] (uZ K cB)):zL P w K mg base (jf P w) 5 f fd ["self","name","parts","most","way"] (yF K 2 Cs cB):=by
 refine F.okE (N:=["self","name","parts","most","way"]) (by walk_at"s") (fun vs H Q E h=>?_) (fun cdv A outer s H vs Q E hr h=>?_)
 ·obtain⟨o,dx,args,rfl,ho,bad,q⟩:=h
  match args,bad with
  | [v1,v2,v3,v4],_=>rfl
 ·obtain⟨o,dx,args,rfl,ho,bad,q⟩:=h
  match args,bad with
  | [v1,v2,v3,v4],⟨b1,b2,b3,b4,h1,h2,h3,h4,no⟩ =>
   refine⟨_,zh (z4 (y9 CR hr (by decide) qz (za (pv 0) (za (pv 1) zd)))) (zh (z4 (zp C1 hr (by decide) qz (za (pv 2) (za (pv 4) zd)))) (zh (z4 (zp C2 hr (by decide) qz (za (pv 3) zd))) qS)),?_⟩
   refine⟨_,rfl,_,rfl,_,o,dx,v1,b1,rfl,RK.cls 2 (by decide),RK.no 2 (by decide) "name" (by decide),ho,h1,fun e1 H1 f1 e=>?_,fun e1 H1 s1=>q H1 fun b x h _=>s1 _ _ h⟩
   rw[e1,Cn] at no
   refine⟨_,rfl,_,rfl,v2,v4,b2,b4,rfl,h2.fr ho f1,h4.fr ho f1,fun e2=>?_,fun _=>q H1 f1⟩
   rw[e2,Cn] at no
   exact⟨_,rfl,v3,b3,rfl,h3.fr ho f1,(fun e3=>by rw[e3] at no;cases no),fun _=>q H1 f1⟩
theorem Wj {Cs:Nat→Addr} {cB:Addr} (F:qJ K "__init__" "Least.__init__" (zE (top 50) 0) f fd) (RK:uD K Cs) (CR:uJ P w K mg base (jf P w) 4 "Rule" "__init__" ["self","name"] (jB K cB)) (C1:qN P w K mg base (jf P w) 4 "need_share" ["parts","way"] (vO K cB)) (C2:qN P w K mg base (jf P w) 4 "need_rule_amount" ["thing"] (uZ K cB)):zL P w K mg base (jf P w) 5 f fd ["self","name","parts","least","way"] (yF K 3 Cs cB):=by
 refine F.okE (N:=["self","name","parts","least","way"]) (by walk_at"s") (fun vs H Q E h=>?_) (fun cdv A outer s H vs Q E hr h=>?_)
 ·obtain⟨o,dx,args,rfl,ho,bad,q⟩:=h
  match args,bad with
  | [v1,v2,v3,v4],_=>rfl
 ·obtain⟨o,dx,args,rfl,ho,bad,q⟩:=h
  match args,bad with
  | [v1,v2,v3,v4],⟨b1,b2,b3,b4,h1,h2,h3,h4,no⟩ =>
   refine⟨_,zh (z4 (y9 CR hr (by decide) qz (za (pv 0) (za (pv 1) zd)))) (zh (z4 (zp C1 hr (by decide) qz (za (pv 2) (za (pv 4) zd)))) (zh (z4 (zp C2 hr (by decide) qz (za (pv 3) zd))) qS)),?_⟩
   refine⟨_,rfl,_,rfl,_,o,dx,v1,b1,rfl,RK.cls 3 (by decide),RK.no 3 (by decide) "name" (by decide),ho,h1,fun e1 H1 f1 e=>?_,fun e1 H1 s1=>q H1 fun b x h _=>s1 _ _ h⟩
   rw[e1,Cn] at no
   refine⟨_,rfl,_,rfl,v2,v4,b2,b4,rfl,h2.fr ho f1,h4.fr ho f1,fun e2=>?_,fun _=>q H1 f1⟩
   rw[e2,Cn] at no
   exact⟨_,rfl,v3,b3,rfl,h3.fr ho f1,(fun e3=>by rw[e3] at no;cases no),fun _=>q H1 f1⟩
theorem On (F:qJ K "is_band" "is_band" (top 53) f fd) (G:vw mg) (C1:qN P w K mg base z8 3 "is_rule_amount" ["thing"] (wK K 1000000000000)) (C2:qN P w K mg base z8 3 "is_parts" ["thing"] (wK K 20000)):zL P w K mg base z8 4 f fd ["thing"] (Qi K):=by
 refine F.ok (N:=["thing"]) (by walk_at"s") (fun vs H Q E h=>?_) (fun cdv A outer s H vs Q E hr h=>?_)
 ·obtain⟨v,p,rfl,_⟩:=h
  rfl
 ·obtain⟨v,p,rfl,hv,q⟩:=h
  refine⟨_,(zh (zX (PW.pt (vE (qu (qt (zy zH rfl G.isinstance zv (za (pv 0) (za (yB (v:=.ty "tuple") rfl G.tuple yP rfl) zd))))) (jU (zK XY (zy z7 rfl G.len boot_len (za (pv 0) zd)) ze (zI _))))) (zi (zx yM)) zG)
    (zi (zx (yO (zp C1 hr (by decide) zC (za (zD qI (pv 0) ze) zd)) (yX (zp C2 hr (by decide) zC (za (zD qI (pv 0) ze) zd))))))),?_⟩
  cases hv with
  | other ty kt=>exact⟨_,rfl,_,_,_,_,false,rfl,rfl,.inl ty,kt,false,rfl,qV (qV q)⟩
  | @size t xs ha ne =>
   refine⟨_,rfl,_,_,_,_,true,rfl,rfl,.inl (.tup ha),rfl,true,rfl,qD ⟨_,rfl,t,_,rfl,.inr (yj.of ha),rfl,_,rfl,ye (fun _=>q) (fun e=>?_)⟩⟩
   exact (e (by rw[dU,decide_eq_false fun z=>ne (by injection z with z;omega)])).elim
  | @pair t p ha h1 h2 =>
   refine⟨_,rfl,_,_,_,_,true,rfl,rfl,.inl (.tup ha),rfl,true,rfl,qD ⟨_,rfl,t,_,rfl,.inr (yj.of ha),rfl,_,rfl,qD ?_⟩⟩
   have d1:decide (0≤p.1∧p.1≤1000000000000)=true:=decide_eq_true h1
   have d2:decide (0≤p.2∧p.2≤20000)=true:=decide_eq_true h2
   exact⟨_,rfl,t,_,_,_,rfl,rfl,yj.of ha,rfl,_,true,rfl,.inl ⟨p.1,rfl,d1.symm⟩,true,rfl,qV ⟨_,rfl,t,_,_,_,rfl,rfl,yj.of ha,rfl,_,true,rfl,.inl ⟨p.2,rfl,d2.symm⟩,q⟩⟩
  | @odd t x y b1 b2 ha h1 h2 no =>
   refine⟨_,rfl,_,_,_,_,true,rfl,rfl,.inl (.tup ha),rfl,true,rfl,qD ⟨_,rfl,t,_,rfl,.inr (yj.of ha),rfl,_,rfl,qD ?_⟩⟩
   refine⟨_,rfl,t,_,_,_,rfl,rfl,yj.of ha,rfl,x,b1,rfl,h1,b1,rfl,?_⟩
   cases b1 with
   | false=>exact qD q
   | true =>
    rw[Cn] at no
    subst no
    exact qV ⟨_,rfl,t,_,_,_,rfl,rfl,yj.of ha,rfl,y,false,rfl,h2,q⟩
theorem pX (F:qJ K "rise" "rise" (top 31) f fd) (G:vw mg):zL P w K mg base z8 1 f fd ["things"] (Uu K):=by
 have nc:(["thing","after"]:List Str).Nodup:=by decide +kernel
 refine F.ok (N:=["things"]) (by walk_at"s") (fun vs H Q E h=>?_) (fun cdv A outer s H vs Q E hr h=>?_)
 ·obtain⟨l,zs,rfl,_⟩:=h
  rfl
 ·obtain⟨l,zs,rfl,hl,zl,q⟩:=h
  refine' ⟨_,zi (zx (zy (jD rfl) rfl G.all vg (za ?comp zd))),?main⟩
  case comp =>
   refine' qm (Nc:=["thing","after"]) (cl:=[]) (src:=[none,none]) (wi:=Nm K (qi (zP 0) (qi (N9 (Nt K) (zP 0) (Qn (tC (.int 1))) kK) yd))) (g:=UI K 2 (vp (z6 0) (vp (z6 1) Uz))) (tt:=qv) (te:=jH (VD fun i j=>.bl (decide (i<j))) (zP 0) (zP 1))
    (by walk_at"c2") rfl (pF rfl G.zip (za (pv 0) (za (yi jm (pv 0) (ym ze) jc) zd))) ?hb
   case hb =>
    intro fp C' s' H'
    exact⟨QP rfl (y7 (zN (i:=0) nc rfl (Or.inl rfl)) (y7 (zN (i:=1) nc rfl (Or.inl rfl)) wW)),qj,qC kP (pv 0) (pv 1) (zI _)⟩
  refine⟨_,rfl,_,rfl,_,rfl,l,_,rfl,hl,fun p p0=>?_⟩
  have s1:zq H (upd H p (.lst (qp (zs.map V.int) (some 1) none))):=zq.upd p0
  have e1:(upd H p (.lst (qp (zs.map V.int) (some 1) none))) p=some (.lst (zs.tail.map V.int)):=by rw[zj,V2]
  refine⟨l,p,rfl,⟨_,s1.seq hl⟩,⟨_,zZ.of e1⟩,fun D hD=>Jc (s1.seq hl) (zZ.of e1) hD (by rw[cw,dQ,sizeLine_eq];omega) (by rw[cw,cw,dQ];omega) BI (fun i x y hx hy H1 R s2 r=>?_) (fun H1 s2 e2=>?_)⟩
  ·rw[cQ] at hx hy
   obtain⟨a,ha,rfl⟩:=Cd.mp hx
   obtain⟨b,hb,rfl⟩:=Cd.mp hy
   exact⟨_,rfl,_,rfl,a,b,rfl,rfl,r H1 (zq.refl _)⟩
  ·rw[nD] at e2
   refine⟨D,_,rfl,zZ.of e2,?_⟩
   rw[OX]
   exact q H1 (s1.trans s2)
set_option maxHeartbeats 4000000 in
theorem Gj (F:qJ K "are_bands" "are_bands" (top 54) f fd) (G:vw mg) (N1:Z1 mg "MOST_BANDS" 12) (C1:qN P w K mg base z8 4 "is_band" ["thing"] (Qi K)) (C2:qN P w K mg base z8 1 "rise" ["things"] (Uu K)):zL P w K mg base z8 5 f fd ["thing"] (Jj K):=by
 obtain⟨tk,em⟩:=N1
 have nd:(["thing","borders"]:List Str).Nodup:=by decide +kernel
 have nc:(["row"]:List Str).Nodup:=by decide +kernel
 refine F.ok (N:=["thing","borders"]) (by walk_at"s") (fun vs H Q E h=>?_) (fun cdv A outer s H vs Q E hr h=>?_)
 ·obtain⟨v,b,rfl,_⟩:=h
  rfl
 ·obtain⟨v,b,rfl,hv,q⟩:=h
  refine' ⟨_,(zh (zX (PW.pt (vE (qu (qt (zy zH rfl G.isinstance zv (za (pv 0) (za (yB (v:=.ty "tuple") rfl G.tuple yP rfl) zd))))) (vE (zK kP (zy z7 rfl G.len boot_len (za (pv 0) zd)) ze (zI _)) (jU (zK wq (zy z7 rfl G.len boot_len (za (pv 0) zd)) (zY (v:=.int 12) rfl em ⟨tk,rfl⟩) (zI _)))))) (zi (zx yM)) zG)
    (zh (zX (qu (qt (zy (jD rfl) rfl G.all vg (za ?comp_2 zd)))) (zi (zx yM)) zG)
    (zh ?st_1
    (zi (zx (yO (qC qK (zD zw (pv 1) ze) ze (zI _)) (yX (zp C2 hr (by decide) zC (za (pv 1) zd))))))))),?main⟩
  case comp_2 =>
   refine' qm (Nc:=["row"]) (cl:=[]) (src:=[none]) (wi:=Vk K (zP 0)) (g:=z6 0) (tt:=qv) (te:=fun σ H Q=>qi (zP 0) yd σ H fun vs H1=>Qi K vs H1 Q E0)
    (by walk_at"c0") rfl (uT (pv 0)) ?hb
   case hb =>
    intro fp C' s' H'
    exact⟨zN (i:=0) nc rfl (Or.inl rfl),qj,zp C1 hr (by decide) zC (za (pv 0) zd)⟩
  case st_1 =>
   refine' vG (i:=1) (Nc:=["row"]) (cl:=[]) (src:=[none]) (wi:=Vk K (zP 0)) (g:=z6 0) (tt:=qv) (te:=jH (Zp K) (zP 0) (tC (.int 0))) nd rfl rfl
    (by walk_at"c0") rfl (uT (pv 0)) ?hb
   case hb =>
    intro fp C' s' H'
    exact⟨zN (i:=0) nc rfl (Or.inl rfl),qj,zD qI (pv 0) ze⟩
  cases hv with
  | other ty kt=>exact⟨_,rfl,_,_,_,_,false,rfl,rfl,.inl ty,kt,false,rfl,qV (qV (q H (zq.refl _)))⟩
  | @rows u xs os hu xl x20 rw' =>
   have bd:G8 os=(decide (1≤os.length∧os.length≤12)&&(os.all Option.isSome&&(decide ((os.filterMap fun o=>o.map (·.1)).head? = some 0)&&Qm (os.filterMap fun o=>o.map (·.1))))):=rfl
   have hs:os.length<sizeLine:=by rw[sizeLine_eq];omega
   refine⟨_,rfl,_,_,_,_,true,rfl,rfl,.inl (.tup hu),rfl,true,rfl,qD ⟨_,rfl,u,_,rfl,.inr (yj.of hu),_,_,rfl,rfl,_,rfl,ye (fun e=>qV ?_) (fun e1=>?_)⟩⟩
   ·have e:=of_decide_eq_true e
    rw[bd,decide_eq_false (by omega),C9] at q
    exact q H (zq.refl _)
   refine⟨_,rfl,u,_,rfl,.inr (yj.of hu),_,_,rfl,rfl,_,rfl,ye (fun e=>?_) (fun e2=>?_)⟩
   ·have e:=of_decide_eq_true e
    rw[bd,decide_eq_false (by omega),C9] at q
    exact q H (zq.refl _)
   have l1:1≤os.length:=by
    have:¬ ((xs.length:Nat):Int)<1:=fun c=>e1 (decide_eq_true c)
    omega
   have l2:os.length≤12:=by
    have:¬ (12:Int)<((xs.length:Nat):Int):=fun c=>e2 (decide_eq_true c)
    omega
   rw[decide_eq_true (show 1≤os.length∧os.length≤12 from ⟨l1,l2⟩),Cn] at bd
   have T:q9 H xs os (fun H v o=>Gg K H v o):=⟨xl,fun i y e=>by
    have hi:i<os.length:=by rw[← xl];exact (cW.mp e).1
    exact⟨_,cI hi,fun H' s=>(rw' i y _ e (cI hi)).same s⟩⟩
   refine⟨_,rfl,u,rfl,⟨_,yj.of hu⟩,fun D hD=>jI (jN (yj.of hu)) T hD hs (fun o=>V.bl o.isSome) (fun o ho v H1 R s1 e1 r=>⟨_,rfl,v,o,rfl,e1,r H1 (zq.refl _)⟩) (fun H1 s1 e1=>?_)⟩
   refine⟨D,os.map Option.isSome,rfl,zZ.of (by rw[e1,cV];rfl),_,rfl,?_⟩
   have ea:(os.map Option.isSome).all id=os.all Option.isSome:=by rw[CS];rfl
   rw[ea]
   cases al:os.all Option.isSome with
   | false =>
    rw[al,C9] at bd
    rw[bd] at q
    exact qV (q H1 s1)
   | true =>
    rw[al,Cn] at bd
    refine qD ?_
    obtain⟨ps,rfl⟩:=G0 al
    rw[QN] at bd
    rw[cw] at xl hs l1
    have T1:q9 H1 xs ps (fun H v p=>∃ a,v = .ref a∧H a=some (.tup (cB p))):=⟨xl,fun i y e=>by
     have hi:i<ps.length:=by rw[← xl];exact (cW.mp e).1
     refine⟨_,cI hi,fun H' s=>?_⟩
     have:=(rw' i y (some ps[i]) e (by rw[cQ,cI hi];rfl)).same (s1.trans s)
     cases this with
     | pair a b c=>exact⟨_,rfl,a⟩⟩
    refine⟨_,rfl,u,rfl,⟨_,yj.of (s1 _ _ hu)⟩,fun D2 hD2=>jI (jN (yj.of (s1 _ _ hu))) T1 hD2 hs (fun p=>V.int p.1) (fun p hp v H2 R s2 e2 r=>?_) (fun H2 s2 e2=>?_)⟩
    ·obtain⟨a,rfl,ha⟩:=e2
     exact⟨_,rfl,a,_,_,_,rfl,rfl,yj.of ha,rfl,r H2 (zq.refl _)⟩
    have e2':H2 D2=some (.lst ((ps.map (·.1)).map V.int)):=by rw[e2,cV];rfl
    cases ps with
    | nil=>cases l1
    | cons p0 pr =>
     refine⟨_,rfl,D2,_,_,.int p0.1,rfl,rfl,zZ.of e2',yE rfl,rfl,_,rfl,?_⟩
     rw[bd] at q
     by_cases c:p0.1=0
     ·rw[show decide (((p0::pr).map (·.1)).head? = some 0)=true from decide_eq_true (by rw[← c];rfl),Cn] at q
      rw[show decide (V.int p0.1=V.int 0)=true from decide_eq_true (by rw[c])]
      exact qV ⟨_,rfl,D2,_,rfl,zZ.of e2',(by rw[cw];have h12:=l2;have hx:=xl;simp only[cw] at *;omega),fun H3 s3=>q H3 (s1.trans (s2.trans s3))⟩
     ·rw[show decide (((p0::pr).map (·.1)).head? = some 0)=false from decide_eq_false (fun z=>c (Option.some.inj z)),C9] at q
      rw[show decide (V.int p0.1=V.int 0)=false from decide_eq_false (fun z=>c (by injection z))]
      exact qD (q H2 (s1.trans s2))
theorem GK {Cs:Nat→Addr} {cB:Addr} (F:qJ K "__init__" "Bands.__init__" (zE (top 55) 0) f fd) (X:Er K mg "BadRule" cB) (RX:Qz K (Cs 4)) (CR:uJ P w K mg base (jf P w) 4 "Rule" "__init__" ["self","name"] (jB K cB)) (C1:qN P w K mg base z8 5 "are_bands" ["thing"] (Jj K)) (C2:qN P w K mg base z8 1 "is_way" ["thing"] (JY K)):zL P w K mg base (jf P w) 6 f fd ["self","name","rows","way"] (yF K 4 Cs cB):=by
 refine F.okE (N:=["self","name","rows","way"]) (by walk_at"s") (fun vs H Q E h=>?_) (fun cdv A outer s H vs Q E hr h=>?_)
 ·obtain⟨o,dx,args,rfl,ho,bad,q⟩:=h
  match args,bad with
  | [v1,v2,v3],_=>rfl
 ·obtain⟨o,dx,args,rfl,ho,bad,q⟩:=h
  match args,bad with
  | [v1,v2,v3],⟨b1,b2,b3,h1,h2,h3,no⟩ =>
   refine⟨_,zh (z4 (y9 CR hr (by decide) qz (za (pv 0) (za (pv 1) zd)))) (zh (zX (qu (qt (zp C1 hr (by decide) zC (za (pv 2) zd)))) (zi (qP ql rfl rfl X.at' X.ex (za zt zd))) zG) (zh (zX (qu (qt (zp C2 hr (by decide) zC (za (pv 3) zd)))) (zi (qP ql rfl rfl X.at' X.ex (za zt zd))) zG) qS)),?_⟩
   refine⟨_,rfl,_,rfl,_,o,dx,v1,b1,rfl,RX.cls,RX.no "name" (by decide),ho,h1,fun e1 H1 f1 e=>?_,fun e1 H1 s1=>q H1 fun b x h _=>s1 _ _ h⟩
   rw[e1,Cn] at no
   refine⟨_,rfl,v2,b2,rfl,h2.fr ho f1,fun H2 s2=>⟨b2,rfl,?_⟩⟩
   have f2:∀ b x,H b=some x→b≠o→H2 b=some x:=fun b x h n=>s2 _ _ (f1 _ _ h n)
   cases b2 with
   | false=>exact qV ⟨by decide,q H2 f2⟩
   | true =>
    rw[Cn] at no
    subst no
    exact qD ⟨_,rfl,v3,false,rfl,h3.fr ho f2,false,rfl,qV ⟨by decide,q H2 f2⟩⟩
set_option maxHeartbeats 4000000 in
theorem gy {Cs:Nat→Addr} {cRu cB:Addr} {j:Nat} (F:qJ K "__init__" "OnTop.__init__" (zE (top 58) 0) f fd) (G:vw mg) (X:Er K mg "BadRule" cB) (RX:Qz K (Cs 5)) (RJ:MZ K Cs cRu) (gR:mg "Rule" = some (.ref cRu)) (N1:Z1 mg "MOST_DEPTH" 3) (hj:4≤j) (CR:uJ P w K mg base (jf P w) 4 "Rule" "__init__" ["self","name"] (jB K cB)) (C1:qN P w K mg base (jf P w) 4 "need_share" ["parts","way"] (vO K cB)) (MT:∀ k,k<6→qU P w K mg base z8 j (Cs k) "twin" ["self"] (q4 3 k Cs)) (MD:qU P w K mg base z8 j (Cs 5) "depth" ["self"] (yA 4 5 Cs)):zL P w K mg base (jf P w) (j+1) f fd ["self","name","parts","way","rule"] (Y4 K cRu Cs cB):=by
 obtain⟨tk,em⟩:=N1
 refine F.okE (N:=["self","name","parts","way","rule"]) (by walk_at"s") (fun vs H Q E h=>?_) (fun cdv A outer s H vs Q E hr h=>?_)
 ·obtain⟨o,dx,v1,v2,v3,v4,b1,b2,b3,b4,rfl,_⟩:=h
  rfl
 ·obtain⟨o,dx,v1,v2,v3,v4,b1,b2,b3,b4,rfl,ho,h1,h2,h3,h4,no,q⟩:=h
  refine⟨_,zh (z4 (y9 CR hr hj qz (za (pv 0) (za (pv 1) zd)))) (zh (z4 (zp C1 hr hj qz (za (pv 2) (za (pv 3) zd)))) (zh (zX (qu (qt (zy zH rfl G.isinstance zv (za (pv 4) (za (zY (v:=.ref cRu) rfl gR rfl) zd))))) (zi (qP ql rfl rfl X.at' X.ex (za zt zd))) zG)
   (zh (yt (pv 0) (pv 2) rfl) (zh (yt (pv 0) (pv 3) rfl) (zh (yt (pv 0) (uY (p:=fun k=>k<6) fun k hk=>y6 (MT k hk) hr (cx _) zC (pv 4)) rfl)
   (zi (zX (zK wq (y6 MD hr (cx _) zC (pv 0)) (zY (v:=.int 3) rfl em ⟨tk,rfl⟩) (zI _)) (zi (qP ql rfl rfl X.at' X.ex (za zt zd))) qS))))))),?_⟩
  refine⟨_,rfl,_,rfl,_,o,dx,v1,b1,rfl,RX.cls,RX.no "name" (by decide),ho,h1,fun t1 H1 f1 e1=>?_,fun _ H1 s1=>q H1 fun b x h _=>s1 _ _ h⟩
  subst t1
  rw[Cn] at no
  refine⟨_,rfl,_,rfl,v2,v3,b2,b3,rfl,h2.fr ho f1,h3.fr ho f1,fun t2=>?_,fun _=>q H1 f1⟩
  rw[t2,Cn] at no
  rw[cz] at t2
  obtain⟨rfl,rfl⟩:=t2
  obtain⟨n,rfl,hn⟩:=h1.true
  obtain⟨p,rfl,hp⟩:=h2.true
  obtain⟨x,rfl,hw⟩:=h3.true
  cases h4 with
  | good=>cases no
  | other ty kt=>exact⟨_,rfl,_,_,_,_,false,rfl,rfl,.inl (TyB.fr ho f1 ty),kt,false,rfl,qV ⟨by decide,q H1 f1⟩⟩
  | @deep n' w' p' r' ri gd dp =>
   obtain⟨r,hr3⟩:∃ r,r=Rk.ontop n' p' w' r':=⟨_,rfl⟩
   rw[← hr3] at ri gd dp
   have r1:=ri.frame gd ho f1
   obtain⟨oi,dxi,fsi,rfl,hoi,_,noi⟩:=r1.obj gd
   have k6:=nS r
   refine⟨_,rfl,_,_,_,_,true,rfl,rfl,.inl (.ins hoi (RJ.cls _ k6) (RJ.ha _ k6) RJ.hn RJ.htk (RJ.hm _ k6)),RJ.kt _ k6,true,rfl,qD ?_⟩
   refine⟨_,rfl,_,rfl,o,_,dx,_,rfl,e1,RX.cls,RX.no "parts" (by decide),by show 1<1000;decide,?_⟩
   rw[Np _ _ _ (by decide +kernel)]
   refine⟨_,rfl,_,rfl,o,_,dx,_,rfl,zj,RX.cls,RX.no "way" (by decide),by show 2<1000;decide,?_⟩
   rw[rh _ _ _ _ _ (by decide +kernel) (by decide +kernel)]
   have f2:∀ b y,H b=some y→b≠o→(upd (upd H1 o (.ins (Cs 5) dx [("name",.str n),("parts",.int p)])) o (.ins (Cs 5) dx [("name",.str n),("parts",.int p),("way",.str x)])) b=some y:=fun b y hb ne=>by rw[zm ne,zm ne];exact f1 _ _ hb ne
   have e2:(upd (upd H1 o (.ins (Cs 5) dx [("name",.str n),("parts",.int p)])) o (.ins (Cs 5) dx [("name",.str n),("parts",.int p),("way",.str x)])) o=some (.ins (Cs 5) dx [("name",.str n),("parts",.int p),("way",.str x)]):=zj
   generalize upd (upd H1 o (.ins (Cs 5) dx [("name",.str n),("parts",.int p)])) o (.ins (Cs 5) dx [("name",.str n),("parts",.int p),("way",.str x)])=H2 at f2 e2
   have r2:=ri.frame gd ho f2
   obtain⟨oi2,dxi2,fsi2,eoi,hoi2,_,noi2⟩:=r2.obj gd
   cases eoi
   refine⟨r.kd,k6,_,rfl,oi,dxi2,fsi2,rfl,hoi2,noi2 "twin" (by decide),_,r,rfl,rfl,r2,gd,fun u' H3 s3 r3=>?_⟩
   have e3:=s3 _ _ e2
   refine⟨_,rfl,o,_,dx,_,rfl,e3,RX.cls,RX.no "within" (by decide),by show 3<1000;decide,?_⟩
   rw[Ti _ _ _ _ _ _ _ (by decide +kernel) (by decide +kernel) (by decide +kernel)]
   have f4:∀ b y,H3 b=some y→b≠o→(upd H3 o (.ins (Cs 5) dx [("name",.str n),("parts",.int p),("way",.str x),("within",u')])) b=some y:=fun b y hb ne=>by rw[zm ne];exact hb
   have e4:(upd H3 o (.ins (Cs 5) dx [("name",.str n),("parts",.int p),("way",.str x),("within",u')])) o=some (.ins (Cs 5) dx [("name",.str n),("parts",.int p),("way",.str x),("within",u')]):=zj
   generalize upd H3 o (.ins (Cs 5) dx [("name",.str n),("parts",.int p),("way",.str x),("within",u')])=H4 at f4 e4
   have r4:=r3.frame3 RJ.ne gd e3 f4
   have g4:Gd (3+1) (.ontop n p x r):=.ontop hn hp hw gd
   refine⟨_,rfl,o,dx,_,rfl,e4,rfl,_,_,rfl,rfl,.ontop e4 r4,g4,_,_,rfl,rfl,_,rfl,ye (fun _=>⟨by decide,q H4 fun b y hb ne=>f4 _ _ (s3 _ _ (f2 _ _ hb ne)) ne⟩) (fun e=>?_)⟩
   refine e (decide_eq_true ?_)
   show mF (.ontop n p x r) > 3
   have:mF (.ontop n p x r)=mF r+1:=rfl
   omega
end
end K11
namespace Pg
open PySem PySem.NumText L2 Builtin Builtin.Str
end Pg
namespace Pg
open PySem L2 PySem.NumText
open Builtin Builtin.Str
theorem xP (x:Str) (i j:Nat):(strSub x i j).length≤x.length:=by
 unfold strSub
 show (x.cps.extract i j).size≤x.cps.size
 rw[Array.size_extract]
 omega
noncomputable def jX (m:Nat) (z:Str):Option Int:=if z.length≤m∧QF z.cps.toList=true then some ((digitsVal z.cps.toList:Nat):Int) else none
noncomputable def Pd (cT:Addr):Sp:=fun vs H Q E=>∃ (z:Str) (m:Nat),vs=[.str z,.int (m:Nat)]∧m≤100∧z.length≤100000∧∀ H',zq H H'→(∀ r,jX m z=some r→Q (.int r) H')∧(jX m z=none→E (.ref cT) none H')
noncomputable def ZV (cT:Addr):Sp:=fun vs H Q E=>∃ z:Str,vs=[.str z]∧z.length≤100000∧∀ H',zq H H'→(∀ r,jX 13 z=some r→Q (.int r) H')∧(jX 13 z=none→E (.ref cT) none H')
theorem u3 (z y:Str):(Txt.split z y).length≤z.length+2∧(∀ w∈Txt.split z y,w.length≤z.length)∧∃ w ws,Txt.split z y=w::ws:=by
 have pb:∀ cuts:List Nat,∀ w∈partsBetween z cuts y.length,w.length≤z.length:=fun cuts w hw=>by
  unfold partsBetween at hw
  obtain⟨p,_,rfl⟩:=cH.mp hw
  exact xP _ _ _
 unfold Txt.split
 split
 ·exact⟨by rw[Cp];omega,fun w hw=>by rw[Cq.mp hw];exact cx _,z,[],rfl⟩
 ·split
  ·exact⟨by rw[Cp];omega,fun w hw=>by rw[Cq.mp hw];exact cx _,z,[],rfl⟩
  ·refine⟨?_,pb _,?_⟩
   ·rw[length_partsBetween]
    have:=StrLaws.occ_length_le z y 0 z.length (z.length+1)
    omega
   ·cases e:partsBetween z (occurrences z y 0 z.length (z.length+1)) y.length with
    | nil =>
     have:=length_partsBetween z (occurrences z y 0 z.length (z.length+1)) y.length
     rw[e] at this
     cases this
    | cons w ws=>exact⟨w,ws,rfl⟩
theorem wC {z:Str} (y:Str) (h:z.length≤50000):(partsBetween z (occurrences z y 0 z.length (z.length+1)) y.length).length≤sizeLine:=by
 rw[length_partsBetween,sizeLine_eq]
 have:=StrLaws.occ_length_le z y 0 z.length (z.length+1)
 omega
noncomputable def pT (a b:Option Int):Option (Int × Int):=match a,b with
 | some a,some b=>some (a,b)
 | _,_=>none
noncomputable def vC (z:Str):Option (Int × Int):=match Txt.split z ":" with
 | [a,b]=>pT (jX 13 a) (jX 13 b)
 | _=>none
noncomputable def QZ (cT cB:Addr):Sp:=fun vs H Q E=>∃ z:Str,vs=[.str z]∧z.length≤50000∧∀ H',zq H H'→(∀ p t,vC z=some p→H' t=some (.tup [.int p.1,.int p.2])→Q (.ref t) H')∧(vC z=none→E (.ref cT) none H'∧E (.ref cB) none H')
noncomputable def vJ (ws:List Str):Option (List (Int × Int)):=if (ws.map vC).all Option.isSome=true then some ((ws.map vC).filterMap id) else none
theorem Jp {ws:List Str} {qs:List (Int × Int)} (h:ws.map vC=qs.map some):vJ ws=some qs:=by
 unfold vJ
 rw[h,if_pos (by rw[CS];exact Cm.mpr fun _ _=>rfl),List.filterMap_map]
 congr 1
 exact List.filterMap_some
theorem Gf {ws:List Str} {w:Str} (h:w∈ws) (n:vC w=none):vJ ws=none:=by
 unfold vJ
 rw[if_neg fun c=>by
  have:=Cm.mp c _ (cH.mpr ⟨w,h,rfl⟩)
  rw[n] at this
  cases this]
noncomputable def YV (cT cB:Addr):Sp:=fun vs H Q E=>∃ z:Str,vs=[.str z]∧z.length≤50000∧∀ H',zq H H'→(∀ ps u,vJ (Txt.split z ",")=some ps→vA H' u ps→Q (.ref u) H')∧(vJ (Txt.split z ",")=none→E (.ref cT) none H'∧E (.ref cB) none H')
end Pg
namespace K11
open PySem PySem.NumText L2 Pg
seal PE PA PT PW PS yW PG vq PI j7 PO PK
section
variable {P:Program} {w:World} {K:BFr} {mg:Str→Option Value} {base:Heap} {f:Addr} {fd:FuncData} {d:Nat→Addr} {cR:Addr}
theorem Mx {cT:Addr} (F:qJ K "read_number" "read_number" (top 35) f fd) (G:vw mg) (X:Er K mg "BadText" cT) (C1:qN P w K mg base z8 2 "is_number_text" ["text"] gg):zL P w K mg base (jf P w) 3 f fd ["text","most_figures"] (Pd cT):=by
 refine F.okE (N:=["text","most_figures"]) (by walk_at"s") (fun vs H Q E h=>?_) (fun cdv A outer s H vs Q E hr h=>?_)
 ·obtain⟨z,m,rfl,_⟩:=h
  rfl
 ·obtain⟨z,m,rfl,hm,hz,q⟩:=h
  have fit:z.length≤sizeLine:=ZH hz rfl
  refine⟨_,zh (zX (PW.pt (vE (zK wq (zy yR rfl G.len boot_len (za (pv 0) zd)) (pv 1) (zI _)) (jU (qu (qt (zp C1 hr (by decide) zC (za (pv 0) zd))))))) (zi (qP ql rfl rfl X.at' X.ex (za zt zd))) zG) (zi (zx (qk Ye rfl G.int QK (za (pv 0) zd)))),?_⟩
  refine⟨_,rfl,z,rfl,fit,_,rfl,_,_,rfl,rfl,_,rfl,ye (fun e=>qV ⟨by decide,(q H (zq.refl _)).2 ?_⟩) (fun e=>?_)⟩
  ·have e:((m:Nat):Int)<((z.length:Nat):Int):=of_decide_eq_true e
   unfold jX
   rw[if_neg fun h=>by have:=h.1;omega]
  have l2:z.length≤m:=by
   have e:¬ ((m:Nat):Int)<((z.length:Nat):Int):=fun c=>e (decide_eq_true c)
   omega
  refine⟨_,rfl,z,rfl,by omega,fun H1 s1=>?_⟩
  obtain⟨q1,q2⟩:=q H1 s1
  cases eb:QF z.cps.toList with
  | false =>
   refine⟨false,rfl,qV ⟨by decide,q2 ?_⟩⟩
   unfold jX
   rw[if_neg fun h=>by rw[eb] at h;exact cZ h.2]
  | true =>
   have fg:Yg z.cps.toList=true:=by
    unfold QF at eb
    rw[cz] at eb
    exact eb.1
   obtain⟨d1,d2⟩:=UU fg
   refine⟨true,rfl,qD ⟨_,rfl,z,_,rfl,intText_digits d1 d2 (by omega),by omega,q1 _ ?_⟩⟩
   unfold jX
   rw[if_pos ⟨l2,eb⟩]
theorem LN {cT:Addr} (F:qJ K "number_of" "number_of" (top 61) f fd) (N1:Z1 mg "MOST_FIGURES" 13) (C1:qN P w K mg base (jf P w) 3 "read_number" ["text","most_figures"] (Pd cT)):zL P w K mg base (jf P w) 4 f fd ["word"] (ZV cT):=by
 obtain⟨tk,em⟩:=N1
 refine F.okE (N:=["word"]) (by walk_at"s") (fun vs H Q E h=>?_) (fun cdv A outer s H vs Q E hr h=>?_)
 ·obtain⟨z,rfl,_⟩:=h
  rfl
 ·obtain⟨z,rfl,hz,q⟩:=h
  exact⟨_,zi (zx (zp C1 hr (by decide) qz (za (pv 0) (za (zY (v:=.int 13) rfl em ⟨tk,rfl⟩) zd)))),_,rfl,z,13,rfl,by decide,hz,q⟩
set_option maxHeartbeats 4000000 in
theorem P4 {cT cB:Addr} (F:qJ K "band_of" "band_of" (top 62) f fd) (G:vw mg) (X:Er K mg "BadRule" cB) (C1:qN P w K mg base (jf P w) 4 "number_of" ["word"] (ZV cT)):zL P w K mg base (jf P w) 5 f fd ["text"] (QZ cT cB):=by
 have nd:(["text","ends"]:List Str).Nodup:=by decide +kernel
 refine F.okE (N:=["text","ends"]) (by walk_at"s") (fun vs H Q E h=>?_) (fun cdv A outer s H vs Q E hr h=>?_)
 ·obtain⟨z,rfl,_⟩:=h
  rfl
 ·obtain⟨z,rfl,hz,q⟩:=h
  have zf:z.length≤sizeLine:=ZH hz rfl
  refine⟨_,zh (zQ (i:=1) nd rfl (Or.inl rfl) (yL PySem.F.plainAttrs_str PySem.F.slot_str_split PySem.F.type_str_split Qk (pv 0) (za zt zd))) (zh (zX (zK XY (zy z7 rfl G.len boot_len (za (pv 1) zd)) ze (zI _)) (zi (qP ql rfl rfl X.at' X.ex (za zt zd))) zG)
   (zi (zx (yg (za (zp C1 hr (by decide) qz (za (zD zw (pv 1) ze) zd)) (za (zp C1 hr (by decide) qz (za (zD zw (pv 1) ze) zd)) zd)))))),?_⟩
  obtain⟨sl,sn,w0,wr,ew⟩:=u3 z ":"
  refine⟨_,rfl,rfl,_,_,rfl,rfl,rfl,zf,wC _ hz,fun l H1 s1 n1 e1=>?_⟩
  by_cases h2:(Txt.split z ":").length=2
  ·obtain⟨a,b,eb⟩:∃ a b,Txt.split z ":" = [a,b]:=by
    match Txt.split z ":",h2 with
    | [a,b],_=>exact⟨a,b,rfl⟩
   rw[eb] at e1 sn
   have bo:vC z=pT (jX 13 a) (jX 13 b):=by unfold vC;rw[eb]
   have la:a.length≤100000:=cJ (sn a (by simp)) (by omega)
   have lb:b.length≤100000:=cJ (sn b (by simp)) (by omega)
   have e1:H1 l=some (.lst [.str a,.str b]):=e1
   refine⟨_,rfl,l,_,rfl,.inl (zZ.of e1),rfl,_,rfl,qD ?_⟩
   refine⟨_,rfl,l,_,_,_,rfl,rfl,zZ.of e1,rfl,a,rfl,la,fun H2 s2=>⟨fun x ex=>?_,fun ex=>((q H2 (s1.trans s2)).2 (by rw[bo,ex];rfl)).1⟩⟩
   refine⟨_,rfl,l,_,_,_,rfl,rfl,zZ.of (s2 _ _ e1),rfl,b,rfl,lb,fun H3 s3=>⟨fun y ey=>?_,fun ey=>((q H3 (s1.trans (s2.trans s3))).2 (by rw[bo,ex,ey];rfl)).1⟩⟩
   exact⟨qa rfl,fun t H4 s4 n4 e4=>(q H4 (s1.trans (s2.trans (s3.trans s4)))).1 (x,y) t (by rw[bo,ex,ey];rfl) e4⟩
  ·have bo:vC z=none:=by
    unfold vC
    split
    ·rename_i a b eb
     exact absurd (by rw[eb];rfl) h2
    ·rfl
   refine⟨_,rfl,l,_,rfl,.inl (zZ.of e1),rfl,_,rfl,ye (fun _=>⟨by decide,((q H1 s1).2 bo).2⟩) (fun e=>?_)⟩
   refine absurd ?_ e
   rw[cw,decide_eq_false fun z=>h2 (by injection z with z;omega)]
   rfl
end
end K11
namespace L2
open PySem PySem.Spec PyProof.Rows
section
variable {prog:Program} {w:World} {A:Around} {E:Value→Shared→Prop} {s:Shared}
theorem Pe {α:Type} {Q:α→Shared→Prop} {a ea:Addr} {oa oe:Obj} {ws vs:Array Value} (e1:A.handled=some (.ref ea)) (e2:s.heap.get? ea=some oe) (e3:oe.data = .fields vs) (e4:vs[2]? = some .none) (ne:ea≠a) (ha:s.heap.get? a=some oa) (hd:oa.data = .fields ws) (hz:2<ws.size) (k:E (.ref a) { s with heap:=s.heap.update a (Obj.mapFields (·.setIfInBounds 2 (.ref ea))) }):wpAny (model prog w) A (raiseNew (.ref a):Sem α) Q E s:=by
 unfold raiseNew
 refine wpAny_bind (wpAny_handled ?_)
 rw[e1]
 dsimp only
 rw[if_pos (show (Value.ref ea != Value.ref a)=true by simp[ne])]
 refine wpAny_bind (wpAny_holding (wpAny_runValue (Vu e2 e3 e4 ?_)))
 refine wpAny_bind ?_
 unfold updateField
 refine wpAny_bind (wpAny_load ha ?_)
 rw[hd]
 dsimp only
 rw[if_pos hz]
 exact wpAny_update ha (wpAny_throw k)
variable {env:Env} {nm q:Str} {C N:Addr} {bs bm bmB:List Value} {hdct:Bool} {sn:List Str} {sub:List Value} {ab:Bool} {col:Option Bool} {dd:Option Addr} {k0 k1 k2 k3 k5:Option Value} {newId:String}
theorem WB {x c:Sem Value} {ea:Addr} {Q:Flow→Shared→Prop} (hbase:bm.contains (.type "BaseException")=true) (e1:A.handled=some (.ref ea)) (hc:∀ s' (Q':Value→Shared→Prop),Q' .none s'→wpAny (model prog w) A c Q' E s') (h:wpAny (model prog w) A x (fun v s₁=>∃ e t,v = .ref e∧s₁.heap.get? C=some (excClassObj nm q C N bs bm hdct sn sub ab col dd k0 k1 k2 k3 k5 newId)∧s₁.heap.get? e=some { cls:=.ref C,data:=.fields #[.ref t,.none,.none,.none,.bool false,.none] } ∧
   ea≠e∧(∃ oe vs,s₁.heap.get? ea=some oe∧oe.data = .fields vs∧vs[2]? = some .none) ∧
   (∀ h',(∀ b o,b≠e→s₁.heap.get? b=some o→h'.get? b=some o)→h'.get? e=some { cls:=.ref C,data:=.fields #[.ref t,.none,.ref ea,.none,.bool true,.none] }→E (.ref e) { s₁ with heap:=h' })) E s) :
  wpAny (model prog w) A (raiseStmt env (some x) (some c)) Q E s:=by
 have hcB:(Value.ref C::bm).contains (.type "BaseException")=true:=by rw[List.contains_cons,hbase,Bool.or_true]
 unfold raiseStmt
 refine wpAny_bind (wpAny_mono h (fun v s₁ h₁=>?_) fun _ _ x=>x)
 obtain⟨e,t,rfl,hC,he,ne,⟨oe,vs,g2,g3,g4⟩,hE⟩:=h₁
 obtain⟨hp,g,d,tk,os⟩:=s₁
 refine wpAny_bind (wpAny_holding (hc _ _ (wpAny_bind (wpAny_pure ?_))))
 dsimp only
 repeat (first | with_reducible refine wpAny_loadPart_at he ?_ | with_reducible refine wpAny_loadPart_at hC ?_ | (with_reducible refine wpAny_isSubtype_exc hC ?_;rw[hcB]) | wp_step)
 have nCe:e≠C:=fun z=>by
  rw[z] at he
  rw[show hp.get? C=_ from hC] at he
  cases he
 have hC2:((hp.update e (Obj.mapFields fun x=>x.setIfInBounds 3 Value.none)).update e (Obj.mapFields fun x=>x.setIfInBounds 4 (Value.bool true))).get? C=some (excClassObj nm q C N bs bm hdct sn sub ab col dd k0 k1 k2 k3 k5 newId):=(CD _ _ nCe).trans ((CD _ _ nCe).trans hC)
 have he1:=C7 (Obj.mapFields fun x=>x.setIfInBounds 3 Value.none) (show hp.get? e=_ from he) rfl
 have he2:=C7 (Obj.mapFields fun x=>x.setIfInBounds 4 (Value.bool true)) he1 rfl
 have g2':((hp.update e (Obj.mapFields fun x=>x.setIfInBounds 3 Value.none)).update e (Obj.mapFields fun x=>x.setIfInBounds 4 (Value.bool true))).get? ea=some oe:=(CD _ _ (Ne.symm ne)).trans ((CD _ _ (Ne.symm ne)).trans g2)
 have oth:∀ b o,b≠e→hp.get? b=some o→((hp.update e (Obj.mapFields fun x=>x.setIfInBounds 3 Value.none)).update e (Obj.mapFields fun x=>x.setIfInBounds 4 (Value.bool true))).get? b=some o:=fun b o hb z=>(CD _ _ (Ne.symm hb)).trans ((CD _ _ (Ne.symm hb)).trans z)
 have he2:((hp.update e (Obj.mapFields fun x=>x.setIfInBounds 3 Value.none)).update e (Obj.mapFields fun x=>x.setIfInBounds 4 (Value.bool true))).get? e=some { cls:=.ref C,data:=.fields #[.ref t,.none,.none,.none,.bool true,.none] }:=he2
 generalize (hp.update e (Obj.mapFields fun x=>x.setIfInBounds 3 Value.none)).update e (Obj.mapFields fun x=>x.setIfInBounds 4 (Value.bool true))=h3 at hC2 he2 g2' oth
 refine wpAny_loadPart_at hC2 (wpAny_pure ?_)
 rw[if_pos (by rfl)]
 refine wpAny_pure (wpAny_bind ?_)
 unfold setFlight
 refine wpAny_bind (wpAny_field (x:=.none) he2 rfl rfl ?_)
 rw[if_neg (by decide)]
 refine wpAny_pure (Pe e1 g2' g3 g4 ne he2 rfl (by show 2<6;decide) (hE _ (fun b o hb z=>(CD _ _ (Ne.symm hb)).trans (oth b o hb z)) ?_))
 exact C7 _ he2 rfl
end
section
variable {X:Cx} {pins:List (Addr × Obj)} {σ:St} {H:Hp} {s:Shared} {ea:Addr} {cls fl:Value} {M:Model} {A:Around} {E:Value→Shared→Prop} {Q:Unit→Shared→Prop} {C:CT} [ct:Zm C]
noncomputable def Z3 (C:CT) (X:Cx) (pins:List (Addr × Obj)) (H:Hp) (ea:Addr) (cls fl:Value) (h:Heap):Prop:=yq X pins H ea∧∃ oe vs,h.get? ea=some oe∧(oe.cls=cls∧oe.dict=none)∧oe.data = .fields vs∧C H vs ∧
 ∃ T oT ts,vs[1]? = some (.ref T)∧T≠ea∧yq X pins H T∧h.get? T=some oT∧oT.data = .fields ts∧ts[3]? = some fl
omit ct in
theorem Z3.fly {h:Heap} (F:Z3 C X pins H ea cls fl h):uO C X pins H ea cls fl h:=by
 obtain⟨f0,oe,vs,he,hc,hd,h2,hh⟩:=F
 exact⟨f0,oe,vs,he,hc,hd,h2,.inr hh⟩
omit ct in
theorem uO.head {h:Heap} {L:Addr} (F:uO C X pins H ea cls (rawInt L) h):Z3 C X pins H ea cls (rawInt L) h:=by
 obtain⟨f0,oe,vs,he,hc,hd,h2,hh⟩:=F
 rcases hh with ⟨_,z⟩ | hh
 ·exact absurd z (by simp[rawInt])
 ·exact⟨f0,oe,vs,he,hc,hd,h2,hh⟩
omit ct in
theorem ZR {fr:Option Addr} (I:zJ X pins σ H s) (F:Z3 C X pins H ea cls fl s.heap) (k:∀ s',zJ X pins σ H s'→Z3 C X pins H ea cls (fr.elim .none fun f=>rawInt f) s'.heap→Q () s'):wpAny M A (setFlight (.ref ea) fr) Q E s:=by
 obtain⟨f0,oe,vs,he,hc,hd,h2,T,oT,ts,h1,hne,fT,hT,hdT,h3⟩:=F
 have hz:3<ts.size:=(CP.mp h3).1
 unfold setFlight
 refine wpAny_bind (wpAny_field he hd h1 ?_)
 rw[if_pos (show (Value.ref T != Value.none)=true by simp)]
 have oth:∀ c,c≠T→(s.heap.update T (Obj.mapFields (·.setIfInBounds 3 (fr.elim Value.none fun f=>rawInt f)))).get? c=s.heap.get? c:=fun c hc=>CD _ _ (Ne.symm hc)
 have hT':=C7 (Obj.mapFields (·.setIfInBounds 3 (fr.elim Value.none fun f=>rawInt f))) hT (Obj.isFreed_of_fields (Obj.data_mapFields hdT _))
 refine wpAny_setField hT hdT hz (k _ (I.flown fT fun c o hc q=>(oth c hc).trans q) ⟨f0,oe,vs,(oth ea (Ne.symm hne)).trans he,hc,hd,h2,T,_,_,h1,hne,fT,hT',Obj.data_mapFields hdT _,?_⟩)
 simp[hz]
omit ct in
theorem lW (I:zJ X pins σ H s) (F:Z3 C X pins H ea cls fl s.heap) (hf:X.env.frame=some X.env.locals) (k:∀ s',zJ X pins σ H s'→Z3 C X pins H ea cls (rawInt X.env.locals) s'.heap→E (.ref ea) s'):cameBackBy M A X.env E (.ref ea) s:=by
 obtain⟨_,oe,vs,he,_,hd,_,T,oT,ts,h1,_⟩:=id F
 unfold cameBackBy
 refine wpAny_bind (wpAny_field he hd h1 ?_)
 rw[if_neg (show ¬ ((Value.ref T==Value.none)=true) by simp)]
 rw[hf]
 exact ZR I F k
omit ct in
theorem Lw {α:Type} {Q:α→Shared→Prop} {what:String} (I:zJ X pins σ H s) (F:Z3 C X pins H ea cls fl s.heap) (hf:X.env.frame=some X.env.locals) (k:∀ s',zJ X pins σ H s'→Z3 C X pins H ea cls (rawInt X.env.locals) s'.heap→E (.ref ea) s'):wpAny M A (PySem.passOn what (.ref ea) X.env:Sem α) Q E s:=by
 obtain⟨_,oe,vs,he,_,hd,_,T,oT,ts,h1,_⟩:=id F
 unfold PySem.passOn
 refine wpAny_bind (wpAny_field he hd h1 ?_)
 rw[if_neg (show ¬ ((Value.ref T==Value.none)=true) by simp)]
 rw[hf]
 exact wpAny_bind (ZR I F fun s' I' F'=>wpAny_throw (k s' I' F'))
end
abbrev Xz:=yo
theorem WG {C:CT} [ct:Zm C] {P:Program} {w:World} {K:BFr} {mg:Str→Option Value} {base:Heap} {N:List Str} {qual:Str} {scope:Scope} {f:Addr} {cd:Value} {A:Around} {outer:List Env} {s:Shared} {H:Hp} {E:XK} :
  Xz C (wG (OL C P w) P w K mg base N qual scope f cd A outer s H E) E:=ql
noncomputable def Vi (E:XK) (C ea:Addr) (t:TA):TS:=fun _ σ H=>t σ H fun vs H1=>vs.length≤sizeLine∧(∃ oe u ws,H1 ea=some (.frz oe u)∧oe.data = .fields ws∧ws[2]? = some .none)∧E (.ref C) none H1
theorem GH {X:Cx} {E:XK} {x:Str} {C ea:Addr} {e₀:Expr} {rest:List Expr} {t:TA} {j:Nat} {np cpos npos pos:Pos} (hE:yo wH X E) (hh:X.A.handled=some (.ref ea)) (hg:Gl X x) (hm:X.mg x=some (.ref C)) (hx:PySem.W.excIn X.K C vB "ValueError.__new__" = true) (ha:PA X (e₀ :: rest) t) (he:starEach (e₀ :: rest) X.env=(false,eval e₀ X.env)::starEach rest X.env:=by exact zT rfl) (hpl:(backTo cpos (starEach rest X.env)).any (·.1)=false:=by exact yn rfl) (hdb:(x==("__debug__":Str))=false:=by decide) :
  PS X (.Raise (some (.Call (.Name x np) (e₀ :: rest) [] cpos)) (some (.Constant .none j npos)) pos) (Vi E C ea t):=by
 intro pins s σ H D I h
 obtain⟨bm,N,nm,qn,bs,hd,sn,sub,ab,col,dd,k0,k1,k2,k3,k5,mN,oC,oN,ni,T⟩:=Xn I.ok.mod.kin hx
 have FB:=PySem.F.excBase_ValueError
 rw[arm_exec_Raise]
 refine wpAny_bind (wpAny_standAt ?_)
 refine WB (C:=C) (nm:=nm) (q:=qn) (N:=N) (bs:=bs) (bm:=bm) (hdct:=hd) (sn:=sn) (sub:=sub) (ab:=ab) (col:=col) (dd:=dd) (k0:=k0) (k1:=k1) (k2:=k2) (k3:=k3) (k5:=k5) (newId:="ValueError.__new__") (T.hasType FB.hasBase) hh (fun s' Q' q=>?_) ?_
 ·exact wpAny_bind (Constant_none (wpAny_bind (wpAny_standAt (wpAny_pure q))))
 refine wpAny_bind (wpAny_mono (wpAny_Call_ofName (jG I hg hm ?_ hdb)) (fun v s₃ h₃=>wpAny_bind (wpAny_standAt (wpAny_pure h₃))) fun _ _ x=>x)
 unfold callWith
 have q:=ha cpos pins s σ H _ I h
 rw[he] at q ⊢
 refine wpAny_bind (wpAny_holding (Calls.evalArgs_plain (q0 q fun us s2 ⟨vs,H1,I1,r,hl,⟨oe,u,ws,f1,f2,f3⟩,w⟩=>?_)))
 refine wpAny_bind (wpAny_standAt ?_)
 have hpl2:((backTo cpos ((false,eval e₀ X.env)::starEach rest X.env)).any (·.1))=false:=by show (false || (backTo cpos (starEach rest X.env)).any (·.1))=false;rw[hpl];rfl
 simp only[hpl2]
 obtain⟨hp,g,d,tk,os⟩:=s2
 have oC1:=I1.bk _ _ oC
 refine wpAny_bind (wpAny_keeperOf_exc oC1 ?_)
 refine wpAny_bind (wpAny_call_exc_subT (hrest:=by show us.length≤sizeLine;rw[← r.length];exact hl) FB (T.keeps I1.bk) oC1 (oN.keeps I1.bk) ni fun h' e made=>wpAny_bind (wpAny_holding (wpAny_point (wpAny_pure ?_))))
 obtain⟨t0,there,_,_⟩:=made.there
 have hea:=(I1.hok ea _ f1).1
 have nee:ea≠e:=fun z=>by
  have:=made.new
  rw[← z] at this
  rw[show hp.get? ea=_ from hea] at this
  cases this
 refine⟨e,t0,rfl,made.keeps _ _ oC1,there,nee,⟨oe,ws,made.keeps _ _ hea,f2,f3⟩,fun h2 k2 e2=>?_⟩
 have kp:∀ b o,hp.get? b=some o→h2.get? b=some o:=fun b o z=>k2 b o (fun c=>by rw[c,made.new] at z;cases z) (made.keeps _ _ z)
 refine hE pins σ H1 _ e (.ref C) .none (I1.kept (t':=tk) kp) ⟨I1.fpNone made.new (I1.none_of made.new),_,_,e2,⟨rfl,rfl⟩,rfl,.inr ⟨ea,oe,ws,u,rfl,f1,f2,f3⟩,.inl ⟨rfl,rfl⟩⟩ w
noncomputable def RC (K:BFr) (c:Addr) (R E:XK) (C:Addr) (tb:TS) (t:TA):TS:=fun D σ H=>tb D σ H∧∀ (ea:Addr) (oe:Obj) (vs:Array Value) (cls:Value) (σ':St) (H':Hp),R cls none H'→H' ea=none→oe.data = .fields vs→vs[2]? = some .none →
 (PySem.W.exmOne K cls (.ref c)=some true∧Vi E C ea t D σ' (upd H' ea (YF ea oe)))∨(PySem.W.exmOne K cls (.ref c)=some false∧E cls none H')
set_option maxHeartbeats 4000000 in
theorem Lc {X:Cx} {x y:Str} {c C:Addr} {R E:XK} {tb:TS} {t:TA} {body:List Stmt} {e₀:Expr} {rest:List Expr} {j:Nat} {np np2 cpos npos rpos hpos pos:Pos} (hE:Xz wH X E) (hs:X.stack=X.env::X.outer) (hf:X.env.frame=some X.env.locals) (hg:Gl X x) (hm:X.mg x=some (.ref c)) (hg2:Gl X y) (hm2:X.mg y=some (.ref C)) (hx:PySem.W.excIn X.K C vB "ValueError.__new__" = true) (hb:∀ pn,yW (X.tr pn (Mz X pn R)) body tb) (ha:∀ pn ea E,PA (X.hdl pn ea E) (e₀ :: rest) t) (he:starEach (e₀ :: rest) X.env=(false,eval e₀ X.env)::starEach rest X.env:=by exact zT rfl) (hpl:(backTo cpos (starEach rest X.env)).any (·.1)=false:=by exact yn rfl) (hdb:(x==("__debug__":Str))=false:=by decide) (hdb2:(y==("__debug__":Str))=false:=by decide) :
  PS X (.Try body [.ExceptHandler (some (.Name x np)) none [.Raise (some (.Call (.Name y np2) (e₀ :: rest) [] cpos)) (some (.Constant .none j npos)) rpos] hpos] [] [] pos) (RC X.K c R E C tb t):=by
 intro pins s σ H D I h
 obtain⟨h1,h2⟩:=h
 have ok:=I.ok
 refine wpAny_Try_except (wpAny_mono (hb (X.pn++pins) [] s σ H D I.tr h1) (fun f s1 q=>?_) fun e s1 q=>?_)
 ·cases f with
  | next =>
   obtain⟨σ',H',I',q⟩:=q
   exact wpAny_execs_nil ⟨σ',H',I'.ofTr ok,q⟩
  | brk=>obtain⟨σ',H',I',q⟩:=q;exact⟨σ',H',I'.ofTr ok,q⟩
  | cont=>obtain⟨σ',H',I',q⟩:=q;exact⟨σ',H',I'.ofTr ok,q⟩
  | ret u=>obtain⟨v,σ',H',I',r,q⟩:=q;exact⟨v,σ',H',I'.ofTr ok,r,q⟩
 ·obtain⟨ea,cls,fl,σ1,H1,rfl,I1,F1,r1⟩:=q
  refine uU (X:=X.tr (X.pn++pins) fun _ _=>True) I1 F1 hs hf I1.ok.frames fun s2 I2 F2=>?_
  refine ZR (fr:=none) I2 F2.head fun s3 I3 F3h=>?_
  have F3:=F3h.fly
  have J3:zJ (X.hdl (X.pn++pins) ea fun _ _=>True) [] σ1 H1 s3:=I3.toHdl ok
  obtain⟨f3,oe3,vs3,he3,hc3,hd3,hv3,_⟩:=id F3
  refine wpAny_handleBy_cons (codeAny_handlers_test (jG J3 hg hm ?_ hdb)) (by intro q;cases q)
  have LT:PySem.W.Looks (model X.prog X.w) s3.heap (typeOf (.ref ea)) cls:=by
   rw[← hc3.1]
   exact (PySem.W.Looks.ld he3).andThen .now
  rcases h2 ea oe3 vs3 cls σ1 H1 r1 f3.1 hd3 hv3 with ⟨hR,_⟩ | ⟨hR,hp⟩
  ·refine (PySem.W.exm_one J3.kIn LT hR).here ?_
   refine codeAny_handlers_suite ?_
   refine j6 J3 F3.toHdl fun s4 J4 F4=>?_
   obtain⟨f4,oe,vs,he4,hc,hd,h2',_⟩:=F4
   obtain⟨_,w5⟩ | ⟨z,_⟩:=h2 ea oe vs cls σ1 H1 r1 f3.1 hd h2'
   case inr=>rw[hR] at z;cases z
   have J5:zJ (X.hdl (X.pn++pins) ea fun _ _=>True) [] σ1 (upd H1 ea (YF ea oe)) s4:=J4.hold f4 he4
   have J5':∀ E,zJ (X.hdl (X.pn++pins) ea E) [] σ1 (upd H1 ea (YF ea oe)) s4:=fun E=>⟨ok.hdl,J5.os,J5.bare,J5.base,J5.loc,J5.cell,J5.free,J5.freeC,J5.pin,J5.hok,J5.len⟩
   have key:∀ (EE:Value→Shared→Prop),yo wH (X.hdl (X.pn++pins) ea EE) E→yW (X.hdl (X.pn++pins) ea EE) [.Raise (some (.Call (.Name y np2) (e₀ :: rest) [] cpos)) (some (.Constant .none j npos)) rpos] (Vi E C ea t):=fun EE hT=>zi (GH (X:=X.hdl (X.pn++pins) ea EE) hT rfl hg2 hm2 hx (ha _ ea EE) he hpl hdb2)
   refine wpAny_mono (key _ ?_ [] s4 σ1 _ D (J5' _) ?_) (fun f s5 q=>?_) fun _ _ z=>z
   ·intro pins2 σ2 H2 s5 e2 cls2 fl2 I5 F5 q5
    have I6:zJ X pins σ2 H2 s5:=⟨ok,I5.os,I5.bare,I5.base,I5.loc,I5.cell,I5.free,I5.freeC,fun p hp=>I5.pin p (CF _ hp),I5.hok,I5.len⟩
    have cut:∀ {b:Addr} {EE:Value→Shared→Prop},yq (X.hdl (X.pn++pins) ea EE) pins2 H2 b→yq X pins H2 b:=fun {b EE} f=>⟨f.1,f.2.1,f.2.2.1,f.2.2.2.1,f.2.2.2.2.1,fun p hp=>f.2.2.2.2.2 p (CF _ hp)⟩
    have F6:uO wH X pins H2 e2 cls2 fl2 s5.heap:=by
     obtain⟨f0,oe,vs,he,hc,hd,h2,hh⟩:=F5
     refine⟨cut f0,oe,vs,he,hc,hd,h2,?_⟩
     rcases hh with z | ⟨T,oT,ts,h1,ne,fT,hT,hdT,h3⟩
     ·exact .inl z
     ·exact .inr ⟨T,oT,ts,h1,ne,cut fT,hT,hdT,h3⟩
    exact uU (A:=X.A.mark (some (.ref ea))) I6 F6 hs hf ok.frames fun s7 I7 F7=>lW I7 F7.head hf fun s8 I8 F8=>hE pins σ2 H2 s8 e2 cls2 _ I8 F8.fly q5
   ·exact w5
   ·cases f with
    | next=>obtain⟨σ',H',I',q⟩:=q;exact⟨σ',H',I'.ofHdl ok,q⟩
    | brk=>obtain⟨σ',H',I',q⟩:=q;exact⟨σ',H',I'.ofHdl ok,q⟩
    | cont=>obtain⟨σ',H',I',q⟩:=q;exact⟨σ',H',I'.ofHdl ok,q⟩
    | ret u=>obtain⟨v,σ',H',I',r,q⟩:=q;exact⟨v,σ',H',I'.ofHdl ok,r,q⟩
  ·refine (PySem.W.exm_one J3.kIn LT hR).here ?_
   refine wpAny_handleBy_nil ?_
   have I4:zJ X pins σ1 H1 s3:=I3.ofTr ok
   have F4:Z3 wH X pins H1 ea cls .none s3.heap:=by
    obtain⟨f0,oe,vs,he,hc,hd,h2,T,oT,ts,h1,hne,fT,hT,hdT,h3⟩:=F3h
    have cut:∀ {b:Addr},yq (X.tr (X.pn++pins) fun _ _=>True) [] H1 b→yq X pins H1 b:=fun {b} f=>⟨f.1,f.2.1,f.2.2.1,f.2.2.2.1,f.2.2.2.2.1,fun p hp=>f.2.2.2.2.2 p (by simpa using hp)⟩
    exact⟨cut f0,oe,vs,he,hc,hd,.inl h2,T,oT,ts,h1,hne,cut fT,hT,hdT,h3⟩
   exact Lw I4 F4 hf fun s5 I5 F5=>hE pins σ1 H1 s5 ea cls _ I5 F5.fly hp
noncomputable def Mb (Ct:CT) (X:Cx) (Nc:List Str) (scope:Scope) (cl:List (Str × Addr)) (C:Addr) (fp:List Addr) (s:Shared) (H:Hp) (E:XK):Value→Shared→Prop:=fun e s' =>
 ∃ (ea:Addr) (cls fl:Value) (pins:List (Addr × Obj)) (σ:St) (H':Hp),e = .ref ea∧zJ (qo (fun _ _=>True) X Nc scope cl C fp s H) pins σ H' s'∧uO Ct (qo (fun _ _=>True) X Nc scope cl C fp s H) pins H' ea cls fl s'.heap∧E cls none H'
section
variable {X:Cx} {elt iter tgt:Expr} {ifs:List Expr} {scope:Scope} {cl:List (Str × Addr)} {Nc:List Str} {src:List (Option Nat)} {g:TG} {tt:TT} {te:TE}
theorem Zu {Ct:CT} {E:XK} {C:Addr} {fp:List Addr} {s:Shared} {H:Hp}:yo Ct (qo (Mb Ct X Nc scope cl C fp s H E) X Nc scope cl C fp s H) E:=by
 intro pins σ H' s' ea cls fl I F q
 exact⟨ea,cls,fl,pins,σ,H',rfl,⟨⟨I.ok.mod,I.ok.kind,I.ok.glob,I.ok.blt,I.ok.above,I.ok.inj,I.ok.has,I.ok.cab,I.ok.hd,I.ok.frames,I.ok.stk,I.ok.exf,I.ok.bs,I.ok.bsz,I.ok.noex,I.ok.exfs,I.ok.funs,I.ok.frf⟩,I.os,I.bare,I.base,I.loc,I.cell,I.free,I.freeC,I.pin,I.hok,I.len⟩,F,q⟩
theorem Uq {Ct:CT} [ct:Zm Ct] {E:XK} {use:Option (Value→Sem Unit)} {pins:List (Addr × Obj)} {σ:St} {H3:Hp} {s3 s':Shared} {fp:List Addr} {x acc:Value} {Q:Value→Shared→Prop} (hE:yo Ct X E) (hst:X.stack=X.env::X.outer) (hf:X.env.frame=some X.env.locals) (I3:zJ X pins σ H3 s3) (f3:∀ b∈fp,yq X pins H3 b) (z:Mb Ct X Nc scope cl s3.heap.objs.size fp s3 H3 E x s'):notedBy (model X.prog X.w) X.A (compEnvC scope cl s3.heap.objs.size X.env) (fun e s''=>compPost (model X.prog X.w) X.A X.xe use Q acc s3.heap.objs.size (.error e) s'') x s':=by
 obtain⟨ea,cls,fl,pins',σ',H',rfl,J',F',q⟩:=z
 have J0:zJ (qo (fun _ _=>True) X Nc scope cl s3.heap.objs.size fp s3 H3) [] σ' H' s':=⟨J'.ok,J'.os,J'.bare,J'.base,J'.loc,J'.cell,J'.free,J'.freeC,fun p hp=>absurd (show p∈([]:List (Addr × Obj)) from hp) (by simp),J'.hok,J'.len⟩
 have nC:s3.heap.get? s3.heap.objs.size=none:=dB (cx _)
 generalize s3.heap.objs.size=C at *
 have IX:zJ X pins σ H' s':=vc I3 f3 J0 (Heap.SameBut.refl _ _)
 have fpC:yq X pins H' C:=I3.fpNone nC J0.free
 obtain⟨m,hn,_⟩:=id J0.loc
 obtain⟨oC,es,ep,eC,dC,rC⟩:=id hn
 have fpX:∀ {b:Addr},yq (qo (fun _ _=>True) X Nc scope cl C fp s3 H3) pins' H' b→yq X pins H' b:=fun {b} f=>by
  rcases f.2.2.2.1 with z | z
  ·exact⟨f.1,(f3 b z).2⟩
  ·exact I3.fpNone z f.1
 have IXp:=IX.pinned (fp:=[C]) (fun b hb'=>by obtain rfl:b=C:=(by simpa using hb');exact fpC) (fun b hb'=>by obtain rfl:b=C:=(by simpa using hb');exact⟨oC,eC,fun v z=>by rw[dC] at z;cases z⟩)
 have fpP:∀ {b:Addr},yq (qo (fun _ _=>True) X Nc scope cl C fp s3 H3) pins' H' b→yq X (pins++ug [C] s'.heap) H' b:=fun {b} f=>by
  have g:=fpX f
  refine⟨g.1,g.2.1,g.2.2.1,g.2.2.2.1,g.2.2.2.2.1,fun p hp=>?_⟩
  rcases Cu.mp hp with hp | hp
  ·exact g.2.2.2.2.2 p (CF _ hp)
  ·rcases Cu.mp hp with hp | hp
   ·exact g.2.2.2.2.2 p (Cz _ hp)
   ·have e:p.1=C:=by simpa using (Jl hp).1
    rw[e]
    exact fun z=>f.2.1 z.symm
 have FX:uO Ct X (pins++ug [C] s'.heap) H' ea cls fl s'.heap:=by
  obtain⟨f0,oe,vs,he,hc,hd,h2,hh⟩:=F'
  refine⟨fpP f0,oe,vs,he,hc,hd,h2,?_⟩
  rcases hh with z | ⟨T,oT,ts,h1,ne,fT,hT,hdT,h3⟩
  ·exact .inl z
  ·exact .inr ⟨T,oT,ts,h1,ne,fpP fT,hT,hdT,h3⟩
 have memC:((C,oC):Addr × Obj)∈ug [C] s'.heap:=j9 (by simp) eC
 show wpAny (model X.prog X.w) X.A (noteFrame (.ref ea) X.env) _ _ s'
 refine uU IXp FX hst hf IX.ok.frames fun s4 I4 F4=>?_
 have eC4:s4.heap.get? C=some oC:=(I4.pin (C,oC) (Cz _ (Cz _ memC))).1
 refine⟨m,⟨oC,es,ep,eC4,dC,rC⟩,fun h' hs' cenv hc'=>?_⟩
 have I5:zJ X pins σ H' { s4 with heap:=h' }:=I4.unpinned.flown fpC fun b o hb e=>(hs'.2 b hb).trans e
 have cut:∀ {b:Addr},yq X (pins++ug [C] s'.heap) H' b→yq X pins H' b∧b≠C:=fun {b} f=>⟨⟨f.1,f.2.1,f.2.2.1,f.2.2.2.1,f.2.2.2.2.1,fun p hp=>f.2.2.2.2.2 p ((Cu.mp hp).elim (CF _) fun z=>Cz _ (CF _ z))⟩,fun z=>f.2.2.2.2.2 (C,oC) (Cz _ (Cz _ memC)) z.symm⟩
 obtain⟨f0,oe,vs,he,hc,hd,h2,T,oT,ts,h1,hne,fT,hT,hdT,h3⟩:=F4.head
 have F5:Z3 Ct X pins H' ea cls (rawInt X.env.locals) h':=⟨(cut f0).1,oe,vs,(hs'.2 ea (cut f0).2).trans he,hc,hd,h2,T,oT,ts,h1,hne,(cut fT).1,(hs'.2 T (cut fT).2).trans hT,hdT,h3⟩
 unfold PySem.passOn
 refine wpAny_bind (wpAny_field ((hs'.2 ea (cut f0).2).trans he) hd h1 ?_)
 rw[if_neg (show ¬ ((Value.ref T==Value.none)=true) by simp)]
 exact wpAny_bind (ZR (fr:=cenv.frame) I5 F5 fun s6 I6 F6=>wpAny_throw (hE pins σ H' s6 ea cls _ I6 F6.fly q))
theorem P9 {Ct:CT} [ct:Zm Ct] {E:XK} {wi:TI} {pos:Pos} (hE:yo Ct X E) (hst:X.stack=X.env::X.outer) (hf:X.env.frame=some X.env.locals) (c:Qq X Nc scope cl src) (hcalm:X.calm=true) (hi:PI X tgt iter wi) (hb:∀ fp C s' H' xe,yo Ct (qo xe X Nc scope cl C fp s' H') E→PG (qo xe X Nc scope cl C fp s' H') tgt g∧j7 (qo xe X Nc scope cl C fp s' H') ifs tt∧PE (qo xe X Nc scope cl C fp s' H') elt te) (hs:∀ x,foldedSetIterable iter X.env x=pure x:=by intro _;rfl):PE X (.ListComp elt [⟨tgt,iter,ifs,0⟩] scope pos) (QT src wi g tt te):=by
 intro pins s σ H Q I h
 rw[eval_ListComp]
 refine wpAny_comprehension_free (use:=none) rfl hs c.clos c.kind c.names (q0 (hi pins s σ H _ I h) fun v s1 h1=>q0 h1 fun itv s2 h2=>?_)
 obtain⟨it,fp,tn,J,H2,e,I2,T,st2,f2,hT⟩:=h2
 subst e
 refine wpAny_newObj_type ?_ (by size_fits)
 have old:∀ b o,s2.heap.get? b=some o→(s2.heap.push { cls:=.type "list",data:=.seq ([]:List Value).toArray }).get? b=some o:=fun b o e=>Cg _ e
 have I3:=I2.laid (a:=s2.heap.objs.size) (o:=.lst []) (t':=s2.toks) (h':=s2.heap.push { cls:=.type "list",data:=.seq ([]:List Value).toArray }) old (cx _) ⟨Cy _,[],0,.nil,Co _ rfl⟩
 have ne:∀ b∈fp,b≠s2.heap.objs.size:=fun b hb=>by
  obtain⟨o,e,_⟩:=T.obj 0 _ st2 b hb
  exact Cc (cD e)
 have f3:∀ b∈fp,yq X pins (upd H2 s2.heap.objs.size (.lst [])) b:=fun b hb=>⟨by rw[zm (ne b hb)];exact (f2 b hb).1,(f2 b hb).2⟩
 refine vF (it:=it) (R:=fun C=>compPost (model X.prog X.w) X.A X.xe none (EP X pins σ Q) _ C) c hcalm I3 T (T.keep _ _ _ st2 fun b _ o e=>old b o e) f3 (hb fp _ _ _ _ (Zu (Ct:=Ct) (E:=E))) (hT _ (I2.hok.fresh (cx _))) (fun x s' z=>Uq hE hst hf I3 f3 z) fun C ys σ' H' s' hC J' hD q=>?_
 obtain⟨m,hn,_⟩:=id J'.loc
 exact⟨m,hn,fun h' hs'=>⟨.ref _,H',vc I3 f3 J' hs',rfl,q⟩⟩
end
end L2
namespace K11
open PySem PySem.NumText L2 Pg
seal PE PA PT PW PS yW PG vq PI j7 PO PK
section
variable {P:Program} {w:World} {K:BFr} {mg:Str→Option Value} {base:Heap} {f:Addr} {fd:FuncData} {d:Nat→Addr} {cR:Addr}
set_option maxHeartbeats 4000000 in
theorem Gc {cT cR':Addr} (F:qJ K "bands_of" "bands_of" (top 63) f fd) (G:vw mg) (C1:qN P w K mg base (jf P w) 5 "band_of" ["text"] (QZ cT cR')):zL P w K mg base (jf P w) 6 f fd ["word"] (YV cT cR'):=by
 have nc:(["text"]:List Str).Nodup:=by decide +kernel
 refine F.okE (N:=["word"]) (by walk_at"s") (fun vs H Q E h=>?_) (fun cdv A outer s H vs Q E hr h=>?_)
 ·obtain⟨z,rfl,_⟩:=h
  rfl
 ·obtain⟨z,rfl,hz,q⟩:=h
  have zf:z.length≤sizeLine:=ZH hz rfl
  refine' ⟨_,zi (zx (qk jK rfl G.tuple yP (za ?comp zd))),?main⟩
  case comp =>
   refine' P9 (Ct:=C0) (E:=E) (Nc:=["text"]) (cl:=[]) (src:=[none]) (g:=z6 0) (tt:=qv) (te:=fun σ H Q=>qi (zP 0) yd σ H fun vs H1=>QZ cT cR' vs H1 Q E) ql rfl rfl
    (by walk_at"c0") rfl (yI (yL PySem.F.plainAttrs_str PySem.F.slot_str_split PySem.F.type_str_split Qk (pv 0) (za zt zd))) ?hb
   case hb =>
    intro fp C' s' H' xe th
    exact⟨zN (i:=0) nc rfl (Or.inl rfl),qj,zp C1 hr (by decide) (jO rfl rfl th) (za (pv 0) zd)⟩
  obtain⟨sl,sn,_⟩:=u3 z ","
  refine⟨_,rfl,rfl,_,_,rfl,rfl,rfl,zf,wC _ hz,?_⟩
  generalize Txt.split z "," = ws at q sl sn
  refine fun l H1 s1 n1 g1=>⟨l,rfl,⟨_,zZ.of g1⟩,fun D hD=>?_⟩
  refine Qy (K:=K) (a:=l) (xs:=ws.map V.str) (fun i ys σ H'=>∃ (x0:Option V) (qs:List (Int × Int)),σ = [x0]∧zq H1 H'∧H' D=some (.lst ys)∧ys.length=i∧(ws.take i).map vC=qs.map some∧qd H' ys (qs.map cB)) ⟨_,[],rfl,zq.upd hD,zj,rfl,rfl,qd.nil⟩ (fun i ys σ H' hi ⟨x0,qs,e,s2,hd,_⟩=>⟨zZ.of (s2 _ _ g1),hd⟩) ?_ ?_
  ·rintro i x ys σ H2 hx ⟨x0,qs,rfl,s2,hd,yl,em,T⟩
   rw[cQ] at hx
   cases hw:ws[i]? with
   | none=>rw[hw] at hx;cases hx
   | some w =>
    rw[hw] at hx
    cases hx
    have mw:=CC hw
    have il:i<ws.length:=(cW.mp hw).1
    unfold kb z6 qv
    dsimp only
    refine qV ⟨_,rfl,w,rfl,cJ (sn w mw) (by omega),fun H3 s3=>⟨fun p t eb et=>?_,fun eb=>(q H3 (s1.trans (s2.trans s3))).2 (Gf mw eb)⟩⟩
    have hd3:=s3 _ _ hd
    refine⟨hd3,by rw[yl,sizeLine_eq];omega,?_⟩
    refine⟨_,qs++[p],rfl,fun b o hb=>?_,zj,?_,?_,?_⟩
    ·rw[zm (zA hb hD)]
     exact s3 _ _ (s2 _ _ hb)
    ·rw[cG,yl]
     rfl
    ·rw[CM,hw,Ce,em,Ce]
     show _++[vC w]=_
     rw[eb]
     rfl
    ·rw[Ce]
     exact qd.snoc ((T.same s3).upd fun c z=>by rw[hd3] at z;cases z) (by rw[zm (qG et hd3 (by intro z;cases z))];exact et)
  ·rintro ys σ H2 ⟨x0,qs,rfl,s2,hd,yl,em,T⟩
   rw[cw,C8 (cx _)] at em
   refine⟨D,ys,rfl,.inl ⟨zZ.of hd,fun u u0=>?_⟩⟩
   have su:zq H2 (upd H2 u (.tup ys)):=zq.upd u0
   exact (q _ (s1.trans (s2.trans su))).1 qs u (Jp em) ⟨ys,zj,T.same su⟩
end
end K11
namespace L2
open PySem
theorem u5 {X:Cx} {e:Expr} {T U:TE} (h:PE X e T) (g:PE X e U):PE X e (fun σ H Q=>T σ H Q∨U σ H Q):=fun pins s σ H Q I c=>c.elim (h pins s σ H Q I) (g pins s σ H Q I)
end L2
namespace Pg
open PySem L2 Builtin Builtin.Str
noncomputable def Qs (r:Int):Bool:=decide (0≤r∧r≤1000000000000)
noncomputable def kU (r:Int):Bool:=decide (0≤r∧r≤20000)
noncomputable def G7 (ps:List (Int × Int)):List (Option (Int × Int)):=ps.map fun p=>if (Qs p.1&&kU p.2)=true then some p else none
noncomputable def Xw (n a:Str):Option Rk:=(jX 13 a).bind fun r=>if (uz n&&Qs r)=true then some (.flat n r) else none
noncomputable def lX (n a w:Str):Option Rk:=(jX 13 a).bind fun p=>if (uz n&&(kU p&&wayL.contains w))=true then some (.share n p w) else none
noncomputable def mB (n a b w:Str):Option Rk:=(jX 13 a).bind fun p=>(jX 13 b).bind fun m=>if (uz n&&((kU p&&wayL.contains w)&&Qs m))=true then some (.capped n p m w) else none
noncomputable def LS (n a b w:Str):Option Rk:=(jX 13 a).bind fun p=>(jX 13 b).bind fun m=>if (uz n&&((kU p&&wayL.contains w)&&Qs m))=true then some (.least n p m w) else none
noncomputable def LC (n a w:Str):Option Rk:=(vJ (Txt.split a ",")).bind fun ps=>if (uz n&&(G8 (G7 ps)&&wayL.contains w))=true then some (.bands n ps w) else none
noncomputable def Nz (n a w:Str) (r:Rk):Option Rk:=(jX 13 a).bind fun p=>if (uz n&&(kU p&&wayL.contains w))=true then some (.ontop n p w r) else none
noncomputable def jQ:List Str→Option Rk
 | [k,n,a]=>if k = "flat" then Xw n a else none
 | [k,n,a,w]=>if k = "share" then lX n a w else if k = "bands" then LC n a w else none
 | [k,n,a,b,w]=>if k = "capped" then mB n a b w else if k = "least" then LS n a b w else none
 | _=>none
noncomputable def YD:Nat→List Str→Option Rk
 | d+1,k::n::a::w::o::x::ws=>if k = "ontop"∧o = "of" then (YD d (x::ws)).bind fun r=>Nz n a w r else jQ (k::n::a::w::o::x::ws)
 | 0,k::n::a::w::o::x::ws=>if k = "ontop"∧o = "of" then none else jQ (k::n::a::w::o::x::ws)
 | _,ws=>jQ ws
theorem uv {n:Str} (h:uz n=true):qT n:=by
 unfold uz at h
 rw[cz] at h
 refine⟨UC h.1,?_⟩
 have h2:=h.2
 cases q:noNames.contains n with
 | false=>rfl
 | true=>rw[q] at h2;cases h2
theorem Zv {r:Int} (h:Qs r=true):YZ r:=by
 have h:0≤r∧r≤1000000000000:=of_decide_eq_true h
 exact h
theorem wx {r:Int} (h:kU r=true):QB r:=by
 have h:0≤r∧r≤20000:=of_decide_eq_true h
 exact h
theorem pf:∀ {ps:List (Int × Int)},Qm (ps.map (·.1))=true→Up ps
 | [],_=>List.Pairwise.nil
 | [p],_=>List.Pairwise.cons (fun _ h=>nomatch h) List.Pairwise.nil
 | p::q::r,h=>by
  have h:(decide (p.1<q.1)&&Qm ((q::r).map (·.1)))=true:=h
  rw[cz] at h
  have lt:=of_decide_eq_true h.1
  have ih:=pf h.2
  refine List.Pairwise.cons (fun x hx=>?_) ih
  rcases cy.mp hx with rfl | hx
  ·exact lt
  ·exact Int.lt_trans lt ((Dz.mp ih).1 x hx)
theorem Ma {ps:List (Int × Int)} (h:G8 (G7 ps)=true):ZK ps:=by
 unfold G8 at h
 rw[cz,cz,cz] at h
 obtain⟨h1,h2,h3,h4⟩:=h
 have ok:∀ q∈ps,(Qs q.1&&kU q.2)=true:=fun q hq=>by
  have:=Cm.mp h2 _ (cH.mpr ⟨q,hq,rfl⟩)
  cases e:(Qs q.1&&kU q.2) with
  | true=>rfl
  | false=>rw[e] at this;cases this
 have eo:G7 ps=ps.map some:=CW fun q hq=>by rw[if_pos (ok q hq)]
 rw[eo,QN] at h3 h4
 have h1:=of_decide_eq_true h1
 rw[eo,cw] at h1
 refine⟨h1.2,?_,fun q hq=>?_,pf h4⟩
 ·have h3:=of_decide_eq_true h3
  cases ps with
  | nil=>cases h3
  | cons p r =>
   obtain⟨a,b⟩:=p
   have h3:some a=some 0:=h3
   cases h3
   exact⟨b,r,rfl⟩
 ·have:=ok q hq
  rw[cz] at this
  exact⟨Zv this.1,wx this.2⟩
theorem Nx {K:BFr} {H:Hp} {u:Addr} {ps:List (Int × Int)} (h:vA H u ps) (l5:ps.length≤100000):Ml K H (.ref u) (G8 (G7 ps)):=by
 obtain⟨ys,e,T⟩:=h
 have l:ys.length=ps.length:=by rw[T.len,cw]
 refine .rows e (by unfold G7;rw[l,cw]) (by omega) fun j x o h1 h2=>?_
 obtain⟨a,c,rfl,e2,e3⟩:=T.of_at h1
 unfold G7 at h2
 rw[cQ] at h2 e2
 cases hp:ps[j]? with
 | none=>rw[hp] at e2;exact nomatch e2
 | some p =>
  rw[hp] at h2 e2
  cases e2
  have h2:some (if (Qs p.1&&kU p.2)=true then some p else none)=some o:=h2
  cases eb:(Qs p.1&&kU p.2) with
  | true =>
   rw[eb] at h2
   cases h2
   rw[cz] at eb
   exact .pair e3 (Zv eb.1) (wx eb.2)
  | false =>
   rw[eb] at h2
   cases h2
   exact .odd e3 (.inl ⟨_,rfl,rfl⟩) (.inl ⟨_,rfl,rfl⟩) eb
noncomputable def PR (H:Hp) (l:Addr) (ws:List Str):Prop:=H l=some (.lst (ws.map V.str))∧ws.length≤50002∧∀ w∈ws,w.length≤50000
noncomputable def xY (Cs:Nat→Addr) (cT cB:Addr):Sp:=fun vs H Q E=>∃ l ws,vs=[.ref l]∧PR H l ws∧ws≠[]∧∀ H',zq H H'→(∀ r o,jQ ws=some r→uu Cs H' r o→Q o H')∧(jQ ws=none→E (.ref cT) none H'∧E (.ref cB) none H')
theorem kW {K:BFr} {H:Hp} {z:Str} (h:z.length≤50000):pz K H (.str z) (uz z):=.inl ⟨z,rfl,by omega,rfl⟩
theorem Pn {K:BFr} {H:Hp} (z:Int):Yd K H 1000000000000 (.int z) (Qs z):=.inl ⟨z,rfl,rfl⟩
theorem XQ {K:BFr} {H:Hp} (z:Int):Yd K H 20000 (.int z) (kU z):=.inl ⟨z,rfl,rfl⟩
theorem Qb {K:BFr} {H:Hp} (z:Str):gQ K H (.str z) (wayL.contains z):=.inl ⟨z,rfl,rfl⟩
theorem xO {ws:List Str} {ps:List (Int × Int)} (h:vJ ws=some ps):ps.length≤ws.length:=by
 unfold vJ at h
 split at h
 ·cases h
  refine cJ (List.length_filterMap_le _ _) ?_
  rw[cw]
  exact cx _
 ·cases h
theorem Na {ws:List Str} (h:¬ (∃ n a:Str,ws=[("flat":Str),n,a])∧¬ (∃ n a w:Str,ws=[("share":Str),n,a,w])∧¬ (∃ n a b w:Str,ws=[("capped":Str),n,a,b,w])∧¬ (∃ n a b w:Str,ws=[("least":Str),n,a,b,w])∧¬ (∃ n a w:Str,ws=[("bands":Str),n,a,w])):jQ ws=none:=by
 obtain⟨h1,h2,h3,h4,h5⟩:=h
 unfold jQ
 split
 ·rename_i k n a
  rw[if_neg fun e=>h1 ⟨n,a,by rw[e]⟩]
 ·rename_i k n a w
  rw[if_neg fun e=>h2 ⟨n,a,w,by rw[e]⟩,if_neg fun e=>h5 ⟨n,a,w,by rw[e]⟩]
 ·rename_i k n a b w
  rw[if_neg fun e=>h3 ⟨n,a,b,w,by rw[e]⟩,if_neg fun e=>h4 ⟨n,a,b,w,by rw[e]⟩]
 ·rfl
theorem bj {x:Str} {ws:List Str} (h:(x::ws).length=3):∃ n a,ws=[n,a]:=by
 match ws,h with
 | [n,a],_=>exact⟨n,a,rfl⟩
theorem rR {x:Str} {ws:List Str} (h:(x::ws).length=4):∃ n a w,ws=[n,a,w]:=by
 match ws,h with
 | [n,a,w],_=>exact⟨n,a,w,rfl⟩
theorem RV {x:Str} {ws:List Str} (h:(x::ws).length=5):∃ n a b w,ws=[n,a,b,w]:=by
 match ws,h with
 | [n,a,b,w],_=>exact⟨n,a,b,w,rfl⟩
theorem wR {x y:Str} (e:decide (V.str x=V.str y)=true):x=y:=V.str.inj (of_decide_eq_true e)
theorem QM {xs:List Str} {n:Nat} (e:decide (V.int ((xs.map V.str).length:Nat)=V.int (n:Nat))=true):xs.length=n:=by
 have:=V.int.inj (of_decide_eq_true e)
 rw[cw] at this
 omega
theorem j4 {α β:Type} {o:Option α} {c:α→Bool} {g:α→β} {x:β} (h:(o.bind fun r=>if c r=true then some (g r) else none)=some x):∃ r,o=some r∧c r=true∧x=g r:=by
 cases o with
 | none=>cases h
 | some r =>
  have h:(if c r=true then some (g r) else none)=some x:=h
  cases e:c r with
  | true=>rw[e] at h;cases h;exact⟨r,rfl,e,rfl⟩
  | false=>rw[e] at h;cases h
theorem km {α β:Type} {o:Option α} {c:α→Bool} {g:α→β} {r:α} (h:(o.bind fun r=>if c r=true then some (g r) else none)=none) (e:o=some r):c r=false:=by
 rw[e] at h
 have h:(if c r=true then some (g r) else none)=none:=h
 cases e:c r with
 | false=>rfl
 | true=>rw[e] at h;cases h
theorem ZX {α β γ:Type} {o:Option α} {o2:Option γ} {c:α→γ→Bool} {g:α→γ→β} {x:β} (h:(o.bind fun r=>o2.bind fun m=>if c r m=true then some (g r m) else none)=some x):∃ r m,o=some r∧o2=some m∧c r m=true∧x=g r m:=by
 cases o with
 | none=>cases h
 | some r =>
  obtain⟨m,a,b,c⟩:=j4 (o:=o2) (c:=c r) (g:=g r) h
  exact⟨r,m,rfl,a,b,c⟩
theorem XN {α β γ:Type} {o:Option α} {o2:Option γ} {c:α→γ→Bool} {g:α→γ→β} {r:α} {m:γ} (h:(o.bind fun r=>o2.bind fun m=>if c r m=true then some (g r m) else none)=none) (e:o=some r) (e2:o2=some m):c r m=false:=by
 rw[e] at h
 exact km (o:=o2) (c:=c r) (g:=g r) h e2
theorem BH {α β:Type} {o:Option α} {g:α→Option β} (e:o=none):o.bind g=none:=by rw[e];rfl
theorem JC (n a:Str):jQ [("flat":Str),n,a]=Xw n a:=by
 unfold jQ
 exact if_pos rfl
theorem V1 (n a w:Str):jQ [("share":Str),n,a,w]=lX n a w:=by
 unfold jQ
 exact if_pos rfl
theorem V5 (n a w:Str):jQ [("bands":Str),n,a,w]=LC n a w:=by
 unfold jQ
 exact (if_neg (by decide +kernel)).trans (if_pos rfl)
theorem Jf (n a b w:Str):jQ [("capped":Str),n,a,b,w]=mB n a b w:=by
 unfold jQ
 exact if_pos rfl
theorem US (n a b w:Str):jQ [("least":Str),n,a,b,w]=LS n a b w:=by
 unfold jQ
 exact (if_neg (by decide +kernel)).trans (if_pos rfl)
end Pg
namespace K11
open PySem PySem.NumText L2 Pg
seal PE PA PT PW PS yW PG vq PI j7 PO PK
section
variable {P:Program} {w:World} {K:BFr} {mg:Str→Option Value} {base:Heap} {f:Addr} {fd:FuncData} {d:Nat→Addr} {cR:Addr}
set_option maxHeartbeats 16000000 in
theorem La {Cs:Nat→Addr} {cT cB:Addr} (F:qJ K "plain_rule" "plain_rule" (top 64) f fd) (G:vw mg) (X:Er K mg "BadRule" cB) (C1:qN P w K mg base (jf P w) 4 "number_of" ["word"] (ZV cT)) (C2:qN P w K mg base (jf P w) 6 "bands_of" ["word"] (YV cT cB)) (N0:jP P w K mg base z8 5 "Flat" (Cs 0) ["self","name","amount"] (yD 0 Cs)) (N1:jP P w K mg base z8 5 "Share" (Cs 1) ["self","name","parts","way"] (yD 1 Cs)) (N2:jP P w K mg base z8 5 "Capped" (Cs 2) ["self","name","parts","most","way"] (yD 2 Cs)) (N3:jP P w K mg base z8 5 "Least" (Cs 3) ["self","name","parts","least","way"] (yD 3 Cs)) (N4:jP P w K mg base z8 6 "Bands" (Cs 4) ["self","name","rows","way"] (QY (Cs 4))) (M0:jP P w K mg base (jf P w) 5 "Flat" (Cs 0) ["self","name","amount"] (yF K 0 Cs cB)) (M1:jP P w K mg base (jf P w) 5 "Share" (Cs 1) ["self","name","parts","way"] (yF K 1 Cs cB)) (M2:jP P w K mg base (jf P w) 5 "Capped" (Cs 2) ["self","name","parts","most","way"] (yF K 2 Cs cB)) (M3:jP P w K mg base (jf P w) 5 "Least" (Cs 3) ["self","name","parts","least","way"] (yF K 3 Cs cB)) (M4:jP P w K mg base (jf P w) 6 "Bands" (Cs 4) ["self","name","rows","way"] (yF K 4 Cs cB)):zL P w K mg base (jf P w) 8 f fd ["words"] (xY Cs cT cB):=by
 refine F.okE (N:=["words"]) (by walk_at"s") (fun vs H Q E h=>?_) (fun cdv A outer s H vs Q E hr h=>?_)
 ·obtain⟨l,ws,rfl,_⟩:=h
  rfl
 ·obtain⟨l,ws,rfl,hl,ne,q⟩:=h
  have hr6:yw (5+1) (A.deeper _):=hr.mono (by decide)
  refine⟨_,(zh (zX (PW.pt (Z0 (zK qK (zD zw (pv 0) ze) zt (zI _)) (kL (zK qK (zy z7 rfl G.len boot_len (za (pv 0) zd)) ze (zI _))))) (zi (zx (u5 (ya (j:=5) N0 hr6 (by decide) zC (za (zD zw (pv 0) ze) (za (zp C1 hr (by decide) qz (za (zD zw (pv 0) ze) zd)) zd))) (ya (j:=5) M0 hr6 (by decide) qz (za (zD zw (pv 0) ze) (za (zp C1 hr (by decide) qz (za (zD zw (pv 0) ze) zd)) zd)))))) zG)
    (zh (zX (PW.pt (Z0 (zK qK (zD zw (pv 0) ze) zt (zI _)) (kL (zK qK (zy z7 rfl G.len boot_len (za (pv 0) zd)) ze (zI _))))) (zi (zx (u5 (ya (j:=5) N1 hr6 (by decide) zC (za (zD zw (pv 0) ze) (za (zp C1 hr (by decide) qz (za (zD zw (pv 0) ze) zd)) (za (zD zw (pv 0) ze) zd)))) (ya (j:=5) M1 hr6 (by decide) qz (za (zD zw (pv 0) ze) (za (zp C1 hr (by decide) qz (za (zD zw (pv 0) ze) zd)) (za (zD zw (pv 0) ze) zd))))))) zG)
    (zh (zX (PW.pt (Z0 (zK qK (zD zw (pv 0) ze) zt (zI _)) (kL (zK qK (zy z7 rfl G.len boot_len (za (pv 0) zd)) ze (zI _))))) (zi (zx (u5 (ya (j:=5) N2 hr6 (by decide) zC (za (zD zw (pv 0) ze) (za (zp C1 hr (by decide) qz (za (zD zw (pv 0) ze) zd)) (za (zp C1 hr (by decide) qz (za (zD zw (pv 0) ze) zd)) (za (zD zw (pv 0) ze) zd))))) (ya (j:=5) M2 hr6 (by decide) qz (za (zD zw (pv 0) ze) (za (zp C1 hr (by decide) qz (za (zD zw (pv 0) ze) zd)) (za (zp C1 hr (by decide) qz (za (zD zw (pv 0) ze) zd)) (za (zD zw (pv 0) ze) zd)))))))) zG)
    (zh (zX (PW.pt (Z0 (zK qK (zD zw (pv 0) ze) zt (zI _)) (kL (zK qK (zy z7 rfl G.len boot_len (za (pv 0) zd)) ze (zI _))))) (zi (zx (u5 (ya (j:=5) N3 hr6 (by decide) zC (za (zD zw (pv 0) ze) (za (zp C1 hr (by decide) qz (za (zD zw (pv 0) ze) zd)) (za (zp C1 hr (by decide) qz (za (zD zw (pv 0) ze) zd)) (za (zD zw (pv 0) ze) zd))))) (ya (j:=5) M3 hr6 (by decide) qz (za (zD zw (pv 0) ze) (za (zp C1 hr (by decide) qz (za (zD zw (pv 0) ze) zd)) (za (zp C1 hr (by decide) qz (za (zD zw (pv 0) ze) zd)) (za (zD zw (pv 0) ze) zd)))))))) zG)
    (zh (zX (PW.pt (Z0 (zK qK (zD zw (pv 0) ze) zt (zI _)) (kL (zK qK (zy z7 rfl G.len boot_len (za (pv 0) zd)) ze (zI _))))) (zi (zx (u5 (ya (j:=6) N4 hr (by decide) zC (za (zD zw (pv 0) ze) (za (zp C2 hr (by decide) qz (za (zD zw (pv 0) ze) zd)) (za (zD zw (pv 0) ze) zd)))) (ya (j:=6) M4 hr (by decide) qz (za (zD zw (pv 0) ze) (za (zp C2 hr (by decide) qz (za (zD zw (pv 0) ze) zd)) (za (zD zw (pv 0) ze) zd))))))) zG)
    (zi (qP ql rfl rfl X.at' X.ex (za zt zd)))))))),?_⟩
  obtain⟨hl,lw,le⟩:=hl
  match ws,ne with
  | x::ws,_ =>
   have hl':=zZ.of (K:=K) hl
   refine (fun (NX:¬ (∃ n a:Str,x::ws=[("flat":Str),n,a])→_)=>⟨_,rfl,l,_,_,_,rfl,rfl,hl',yE rfl,rfl,_,rfl,ye (fun e=>⟨_,rfl,l,_,rfl,.inl hl',rfl,_,rfl,ye (fun e2=>?g1) (fun e2=>NX fun⟨n,a,h⟩=>e2 (by rw[h];rfl))⟩) (fun e=>NX fun⟨n,a,h⟩=>e (decide_eq_true (by injection h with h1;rw[h1])))⟩) (fun no1=>?next1)
   case g1 =>
    obtain rfl:=wR e
    obtain⟨n,a,rfl⟩:=bj (QM e2)
    rw[JC] at q
    have hs:zZ K H l ([("flat":Str),n,a].map V.str):=hl'
    have ln:n.length≤50000:=le n (cP _ cX)
    have la':a.length≤50000:=le a (cP _ (cP _ cX))
    have la:a.length≤100000:=cJ la' (by decide)
    cases ep:Xw n a with
    | none =>
     exact .inr ⟨_,rfl,l,_,_,_,rfl,rfl,hs,rfl,_,rfl,l,_,_,_,rfl,rfl,hs,rfl,a,rfl,la,fun H1 s1=>⟨fun r er o dx o0 d0 ne=>⟨o,dx,_,rfl,zj,⟨_,_,kW ln,Pn r,km (c:=fun r=>uz n&&Qs r) ep er⟩,fun H' fr=>((q H' (s1.trans (qw o0 d0 fr))).2 ep).2⟩,fun er=>((q H1 s1).2 ep).1⟩⟩
    | some r0 =>
     obtain⟨r,er,eb,rfl⟩:=j4 (c:=fun r=>uz n&&Qs r) (g:=fun r=>Rk.flat n r) ep
     rw[cz] at eb
     exact .inl ⟨_,rfl,l,_,_,_,rfl,rfl,hs,rfl,_,rfl,l,_,_,_,rfl,rfl,hs,rfl,a,rfl,la,fun H1 s1=>⟨fun r' er' o dx o0 d0 ne=>by rw[er] at er';cases er';exact⟨o,dx,.flat n r,rfl,rfl,.flat (uv eb.1) (Zv eb.2),zj,fun H' fr e=>⟨rfl,(q H' (s1.trans (qw o0 d0 fr))).1 _ _ ep (.pln (Cf rfl) ⟨o,dx,rfl,e⟩)⟩⟩,fun er'=>by rw[er] at er';cases er'⟩⟩
   refine (fun (NX:¬ (∃ n a w:Str,x::ws=[("share":Str),n,a,w])→_)=>⟨_,rfl,l,_,_,_,rfl,rfl,hl',yE rfl,rfl,_,rfl,ye (fun e=>⟨_,rfl,l,_,rfl,.inl hl',rfl,_,rfl,ye (fun e2=>?g1) (fun e2=>NX fun⟨n,a,w,h⟩=>e2 (by rw[h];rfl))⟩) (fun e=>NX fun⟨n,a,w,h⟩=>e (decide_eq_true (by injection h with h1;rw[h1])))⟩) (fun no2=>?next2)
   case g1 =>
    obtain rfl:=wR e
    obtain⟨n,a,w,rfl⟩:=rR (QM e2)
    rw[V1] at q
    have hs:zZ K H l ([("share":Str),n,a,w].map V.str):=hl'
    have ln:n.length≤50000:=le n (cP _ cX)
    have la':a.length≤50000:=le a (cP _ (cP _ cX))
    have la:a.length≤100000:=cJ la' (by decide)
    cases ep:lX n a w with
    | none =>
     exact .inr ⟨_,rfl,l,_,_,_,rfl,rfl,hs,rfl,_,rfl,l,_,_,_,rfl,rfl,hs,rfl,a,rfl,la,fun H1 s1=>⟨fun p er=>⟨_,rfl,l,_,_,_,rfl,rfl,s1.seq hs,rfl,fun o dx o0 d0 ne=>⟨o,dx,_,rfl,zj,⟨_,_,_,kW ln,XQ p,Qb _,km (c:=fun p=>uz n&&(kU p&&wayL.contains w)) ep er⟩,fun H' fr=>((q H' (s1.trans (qw o0 d0 fr))).2 ep).2⟩⟩,fun er=>((q H1 s1).2 ep).1⟩⟩
    | some r0 =>
     obtain⟨p,er,eb,rfl⟩:=j4 (c:=fun p=>uz n&&(kU p&&wayL.contains w)) (g:=fun p=>Rk.share n p w) ep
     rw[cz,cz] at eb
     exact .inl ⟨_,rfl,l,_,_,_,rfl,rfl,hs,rfl,_,rfl,l,_,_,_,rfl,rfl,hs,rfl,a,rfl,la,fun H1 s1=>⟨fun r' er'=>⟨_,rfl,l,_,_,_,rfl,rfl,s1.seq hs,rfl,fun o dx o0 d0 ne=>by rw[er] at er';cases er';exact⟨o,dx,.share n p w,rfl,rfl,.share (uv eb.1) (wx eb.2.1) eb.2.2,zj,fun H' fr e=>⟨rfl,(q H' (s1.trans (qw o0 d0 fr))).1 _ _ ep (.pln (Cf rfl) ⟨o,dx,rfl,e⟩)⟩⟩⟩,fun er'=>by rw[er] at er';cases er'⟩⟩
   refine (fun (NX:¬ (∃ n a b w:Str,x::ws=[("capped":Str),n,a,b,w])→_)=>⟨_,rfl,l,_,_,_,rfl,rfl,hl',yE rfl,rfl,_,rfl,ye (fun e=>⟨_,rfl,l,_,rfl,.inl hl',rfl,_,rfl,ye (fun e2=>?g1) (fun e2=>NX fun⟨n,a,b,w,h⟩=>e2 (by rw[h];rfl))⟩) (fun e=>NX fun⟨n,a,b,w,h⟩=>e (decide_eq_true (by injection h with h1;rw[h1])))⟩) (fun no3=>?next3)
   case g1 =>
    obtain rfl:=wR e
    obtain⟨n,a,b,w,rfl⟩:=RV (QM e2)
    rw[Jf] at q
    have hs:zZ K H l ([("capped":Str),n,a,b,w].map V.str):=hl'
    have ln:n.length≤50000:=le n (cP _ cX)
    have la':a.length≤50000:=le a (cP _ (cP _ cX))
    have la:a.length≤100000:=cJ la' (by decide)
    have lb:b.length≤100000:=cJ (le b (cP _ (cP _ (cP _ cX)))) (by decide)
    cases ep:mB n a b w with
    | none =>
     exact .inr ⟨_,rfl,l,_,_,_,rfl,rfl,hs,rfl,_,rfl,l,_,_,_,rfl,rfl,hs,rfl,a,rfl,la,fun H1 s1=>⟨fun p er=>⟨_,rfl,l,_,_,_,rfl,rfl,s1.seq hs,rfl,b,rfl,lb,fun H2 s2=>⟨fun m em=>⟨_,rfl,l,_,_,_,rfl,rfl,(s1.trans s2).seq hs,rfl,fun o dx o0 d0 ne=>⟨o,dx,_,rfl,zj,⟨_,_,_,_,kW ln,XQ p,Pn m,Qb _,XN (c:=fun p m=>uz n&&((kU p&&wayL.contains w)&&Qs m)) ep er em⟩,fun H' fr=>((q H' ((s1.trans s2).trans (qw o0 d0 fr))).2 ep).2⟩⟩,fun em=>((q H2 (s1.trans s2)).2 ep).1⟩⟩,fun er=>((q H1 s1).2 ep).1⟩⟩
    | some r0 =>
     obtain⟨p,m,er,em,eb,rfl⟩:=ZX (c:=fun p m=>uz n&&((kU p&&wayL.contains w)&&Qs m)) (g:=fun p m=>Rk.capped n p m w) ep
     rw[cz,cz,cz] at eb
     exact .inl ⟨_,rfl,l,_,_,_,rfl,rfl,hs,rfl,_,rfl,l,_,_,_,rfl,rfl,hs,rfl,a,rfl,la,fun H1 s1=>⟨fun r' er'=>⟨_,rfl,l,_,_,_,rfl,rfl,s1.seq hs,rfl,b,rfl,lb,fun H2 s2=>⟨fun m' em'=>⟨_,rfl,l,_,_,_,rfl,rfl,(s1.trans s2).seq hs,rfl,fun o dx o0 d0 ne=>by rw[er] at er';cases er';rw[em] at em';cases em';exact⟨o,dx,.capped n p m w,rfl,rfl,.capped (uv eb.1) (wx eb.2.1.1) (Zv eb.2.2) eb.2.1.2,zj,fun H' fr e=>⟨rfl,(q H' ((s1.trans s2).trans (qw o0 d0 fr))).1 _ _ ep (.pln (Cf rfl) ⟨o,dx,rfl,e⟩)⟩⟩⟩,fun em'=>by rw[em] at em';cases em'⟩⟩,fun er'=>by rw[er] at er';cases er'⟩⟩
   refine (fun (NX:¬ (∃ n a b w:Str,x::ws=[("least":Str),n,a,b,w])→_)=>⟨_,rfl,l,_,_,_,rfl,rfl,hl',yE rfl,rfl,_,rfl,ye (fun e=>⟨_,rfl,l,_,rfl,.inl hl',rfl,_,rfl,ye (fun e2=>?g1) (fun e2=>NX fun⟨n,a,b,w,h⟩=>e2 (by rw[h];rfl))⟩) (fun e=>NX fun⟨n,a,b,w,h⟩=>e (decide_eq_true (by injection h with h1;rw[h1])))⟩) (fun no4=>?next4)
   case g1 =>
    obtain rfl:=wR e
    obtain⟨n,a,b,w,rfl⟩:=RV (QM e2)
    rw[US] at q
    have hs:zZ K H l ([("least":Str),n,a,b,w].map V.str):=hl'
    have ln:n.length≤50000:=le n (cP _ cX)
    have la':a.length≤50000:=le a (cP _ (cP _ cX))
    have la:a.length≤100000:=cJ la' (by decide)
    have lb:b.length≤100000:=cJ (le b (cP _ (cP _ (cP _ cX)))) (by decide)
    cases ep:LS n a b w with
    | none =>
     exact .inr ⟨_,rfl,l,_,_,_,rfl,rfl,hs,rfl,_,rfl,l,_,_,_,rfl,rfl,hs,rfl,a,rfl,la,fun H1 s1=>⟨fun p er=>⟨_,rfl,l,_,_,_,rfl,rfl,s1.seq hs,rfl,b,rfl,lb,fun H2 s2=>⟨fun m em=>⟨_,rfl,l,_,_,_,rfl,rfl,(s1.trans s2).seq hs,rfl,fun o dx o0 d0 ne=>⟨o,dx,_,rfl,zj,⟨_,_,_,_,kW ln,XQ p,Pn m,Qb _,XN (c:=fun p m=>uz n&&((kU p&&wayL.contains w)&&Qs m)) ep er em⟩,fun H' fr=>((q H' ((s1.trans s2).trans (qw o0 d0 fr))).2 ep).2⟩⟩,fun em=>((q H2 (s1.trans s2)).2 ep).1⟩⟩,fun er=>((q H1 s1).2 ep).1⟩⟩
    | some r0 =>
     obtain⟨p,m,er,em,eb,rfl⟩:=ZX (c:=fun p m=>uz n&&((kU p&&wayL.contains w)&&Qs m)) (g:=fun p m=>Rk.least n p m w) ep
     rw[cz,cz,cz] at eb
     exact .inl ⟨_,rfl,l,_,_,_,rfl,rfl,hs,rfl,_,rfl,l,_,_,_,rfl,rfl,hs,rfl,a,rfl,la,fun H1 s1=>⟨fun r' er'=>⟨_,rfl,l,_,_,_,rfl,rfl,s1.seq hs,rfl,b,rfl,lb,fun H2 s2=>⟨fun m' em'=>⟨_,rfl,l,_,_,_,rfl,rfl,(s1.trans s2).seq hs,rfl,fun o dx o0 d0 ne=>by rw[er] at er';cases er';rw[em] at em';cases em';exact⟨o,dx,.least n p m w,rfl,rfl,.least (uv eb.1) (wx eb.2.1.1) (Zv eb.2.2) eb.2.1.2,zj,fun H' fr e=>⟨rfl,(q H' ((s1.trans s2).trans (qw o0 d0 fr))).1 _ _ ep (.pln (Cf rfl) ⟨o,dx,rfl,e⟩)⟩⟩⟩,fun em'=>by rw[em] at em';cases em'⟩⟩,fun er'=>by rw[er] at er';cases er'⟩⟩
   refine (fun (NX:¬ (∃ n a w:Str,x::ws=[("bands":Str),n,a,w])→_)=>⟨_,rfl,l,_,_,_,rfl,rfl,hl',yE rfl,rfl,_,rfl,ye (fun e=>⟨_,rfl,l,_,rfl,.inl hl',rfl,_,rfl,ye (fun e2=>?g1) (fun e2=>NX fun⟨n,a,w,h⟩=>e2 (by rw[h];rfl))⟩) (fun e=>NX fun⟨n,a,w,h⟩=>e (decide_eq_true (by injection h with h1;rw[h1])))⟩) (fun Mf=>?next5)
   case g1 =>
    obtain rfl:=wR e
    obtain⟨n,a,w,rfl⟩:=rR (QM e2)
    rw[V5] at q
    have hs:zZ K H l ([("bands":Str),n,a,w].map V.str):=hl'
    have ln:n.length≤50000:=le n (cP _ cX)
    have la':a.length≤50000:=le a (cP _ (cP _ cX))
    have la:a.length≤100000:=cJ la' (by decide)
    have sl:(Txt.split a ",").length≤100000:=cJ (u3 a ",").1 (by omega)
    cases ep:LC n a w with
    | none =>
     exact .inr ⟨_,rfl,l,_,_,_,rfl,rfl,hs,rfl,_,rfl,l,_,_,_,rfl,rfl,hs,rfl,a,rfl,la',fun H1 s1=>⟨fun ps u er bd=>⟨_,rfl,l,_,_,_,rfl,rfl,s1.seq hs,rfl,fun o dx o0 d0 ne=>⟨o,dx,_,rfl,zj,⟨_,_,_,kW ln,Nx (bd.same (zq.made o0 d0)) (cJ (xO er) sl),Qb _,km (c:=fun ps=>uz n&&(G8 (G7 ps)&&wayL.contains w)) ep er⟩,fun H' fr=>((q H' (s1.trans (qw o0 d0 fr))).2 ep).2⟩⟩,fun er=>(q H1 s1).2 ep⟩⟩
    | some r0 =>
     obtain⟨ps,er,eb,rfl⟩:=j4 (c:=fun ps=>uz n&&(G8 (G7 ps)&&wayL.contains w)) (g:=fun ps=>Rk.bands n ps w) ep
     rw[cz,cz] at eb
     exact .inl ⟨_,rfl,l,_,_,_,rfl,rfl,hs,rfl,_,rfl,l,_,_,_,rfl,rfl,hs,rfl,a,rfl,la',fun H1 s1=>⟨fun ps' u er' bd=>⟨_,rfl,l,_,_,_,rfl,rfl,s1.seq hs,rfl,fun o dx o0 d0 ne=>by rw[er] at er';cases er';exact⟨o,dx,n,u,ps,w,rfl,uv eb.1,Ma eb.2.1,eb.2.2,bd.same (zq.made o0 d0),zj,fun H' u' fr e bd'=>⟨rfl,(q H' (s1.trans (qw o0 d0 fr))).1 _ _ ep (.bands e bd')⟩⟩⟩,fun er'=>by rw[er] at er';cases er'⟩⟩
   exact⟨by decide,((q H (zq.refl _)).2 (Na ⟨no1,no2,no3,no4,Mf⟩)).2⟩
end
end K11
namespace Pg
open PySem L2 Builtin Builtin.Str
noncomputable def wU:List Str→Bool
 | k::_::_::_::o::_::_=>decide (k = "ontop")&&decide (o = "of")
 | _=>false
theorem uq (d:Nat) {ws:List Str} (h:wU ws=false):YD d ws=jQ ws:=by
 match d,ws with
 | 0,[]=>rfl
 | 0,[_]=>rfl
 | 0,[_,_]=>rfl
 | 0,[_,_,_]=>rfl
 | 0,[_,_,_,_]=>rfl
 | 0,[_,_,_,_,_]=>rfl
 | 0,k::n::a::w::o::x::ws =>
  unfold YD
  exact if_neg fun e=>by
   have h:(decide (k = "ontop")&&decide (o = "of"))=false:=h
   rw[decide_eq_true e.1,decide_eq_true e.2] at h
   cases h
 | d+1,[]=>rfl
 | d+1,[_]=>rfl
 | d+1,[_,_]=>rfl
 | d+1,[_,_,_]=>rfl
 | d+1,[_,_,_,_]=>rfl
 | d+1,[_,_,_,_,_]=>rfl
 | d+1,k::n::a::w::o::x::ws =>
  unfold YD
  exact if_neg fun e=>by
   have h:(decide (k = "ontop")&&decide (o = "of"))=false:=h
   rw[decide_eq_true e.1,decide_eq_true e.2] at h
   cases h
theorem Xx {ws:List Str} (h:wU ws=true):∃ n a w x r,ws=("ontop":Str)::n::a::w::("of":Str)::x::r:=by
 match ws,h with
 | k::n::a::w::o::x::r,h =>
  have h:(decide (k = "ontop")&&decide (o = "of"))=true:=h
  rw[cz] at h
  rw[of_decide_eq_true h.1,of_decide_eq_true h.2]
  exact⟨n,a,w,x,r,rfl⟩
theorem Pr (n a w x:Str) (r:List Str):YD 0 (("ontop":Str)::n::a::w::("of":Str)::x::r)=none:=by
 unfold YD
 exact if_pos ⟨rfl,rfl⟩
theorem P3 (d:Nat) (n a w x:Str) (r:List Str):YD (d+1) (("ontop":Str)::n::a::w::("of":Str)::x::r)=(YD d (x::r)).bind fun r=>Nz n a w r:=by
 show (if (_:Prop) then _ else _)=_
 exact if_pos ⟨rfl,rfl⟩
theorem oZ {ws:List Str} {r:Rk} (h:jQ ws=some r):Gd 0 r:=by
 unfold jQ at h
 split at h
 ·split at h
  ·obtain⟨r,er,eb,rfl⟩:=j4 (c:=fun r=>uz _&&Qs r) (g:=fun r=>Rk.flat _ r) h
   rw[cz] at eb
   exact .pln (.flat (uv eb.1) (Zv eb.2))
  ·cases h
 ·rename_i k n a w
  split at h
  ·obtain⟨r,er,eb,rfl⟩:=j4 (c:=fun p=>uz n&&(kU p&&wayL.contains w)) (g:=fun p=>Rk.share n p w) h
   rw[cz,cz] at eb
   exact .pln (.share (uv eb.1) (wx eb.2.1) eb.2.2)
  ·split at h
   ·obtain⟨r,er,eb,rfl⟩:=j4 (c:=fun ps=>uz n&&(G8 (G7 ps)&&wayL.contains w)) (g:=fun ps=>Rk.bands n ps w) h
    rw[cz,cz] at eb
    exact .bands (uv eb.1) (Ma eb.2.1) eb.2.2
   ·cases h
 ·rename_i k n a b w
  split at h
  ·obtain⟨p,m,er,em,eb,rfl⟩:=ZX (c:=fun p m=>uz n&&((kU p&&wayL.contains w)&&Qs m)) (g:=fun p m=>Rk.capped n p m w) h
   rw[cz,cz,cz] at eb
   exact .pln (.capped (uv eb.1) (wx eb.2.1.1) (Zv eb.2.2) eb.2.1.2)
  ·split at h
   ·obtain⟨p,m,er,em,eb,rfl⟩:=ZX (c:=fun p m=>uz n&&((kU p&&wayL.contains w)&&Qs m)) (g:=fun p m=>Rk.least n p m w) h
    rw[cz,cz,cz] at eb
    exact .pln (.least (uv eb.1) (wx eb.2.1.1) (Zv eb.2.2) eb.2.1.2)
   ·cases h
 ·cases h
theorem Mn:∀ {d:Nat} {ws:List Str} {r:Rk},YD d ws=some r→Gd d r:=by
 intro d
 induction d with
 | zero =>
  intro ws r h
  cases e:wU ws with
  | false=>rw[uq 0 e] at h;exact oZ h
  | true =>
   obtain⟨n,a,w,x,r',rfl⟩:=Xx e
   rw[Pr] at h
   cases h
 | succ d ih =>
  intro ws r h
  cases e:wU ws with
  | false=>rw[uq _ e] at h;exact (oZ h).le (Cy _)
  | true =>
   obtain⟨n,a,w,x,r',rfl⟩:=Xx e
   rw[P3] at h
   cases e2:YD d (x::r') with
   | none=>rw[e2] at h;cases h
   | some r2 =>
    rw[e2] at h
    obtain⟨p,er,eb,rfl⟩:=j4 (c:=fun p=>uz n&&(kU p&&wayL.contains w)) (g:=fun p=>Rk.ontop n p w r2) h
    rw[cz,cz] at eb
    exact .ontop (uv eb.1) (wx eb.2.1) eb.2.2 (ih e2)
noncomputable def UM:Sp:=fun vs H Q _=>∃ l ws,vs=[.ref l]∧PR H l ws∧ws≠[]∧Q (.bl (wU ws)) H
noncomputable def QD (Cs:Nat→Addr) (cT cB:Addr):Nat→Sp
 | 0=>fun _ _ _ _=>False
 | d+1=>fun vs H Q E=>∃ l ws dp,vs=[.ref l,.int dp]∧PR H l ws∧ws≠[]∧0≤dp∧dp+d=3∧∀ H',zq H H'→(∀ r o,YD d ws=some r→uu Cs H' r o→Q o H')∧(YD d ws=none→E (.ref cT) none H'∧E (.ref cB) none H')
noncomputable def ZY (K:BFr) (Cs:Nat→Addr) (cB:Addr):Sp:=fun vs H Q E=>∃ v,vs=[v]∧((vS K H v∧E (.ref cB) none H)∨∃ z,v = .str z∧z.length≤50000∧∀ H',zq H H'→(∀ r o,YD 3 (Txt.split z " ")=some r→uu Cs H' r o→Q o H')∧(YD 3 (Txt.split z " ")=none→E (.ref cB) none H'))
theorem tD (l:List V):qp l (some 5) none=l.drop 5:=oM (k:=5)
theorem o3 {ws:List Str} (h:¬ 5<ws.length):wU ws=false:=by
 match ws with
 | []=>rfl
 | [_]=>rfl
 | [_,_]=>rfl
 | [_,_,_]=>rfl
 | [_,_,_,_]=>rfl
 | [_,_,_,_,_]=>rfl
 | _::_::_::_::_::_::r=>exact absurd (by simp only[Cr];omega) h
theorem Lp {x:Str} {ws:List Str} (h:x≠"ontop"):wU (x::ws)=false:=by
 match ws with
 | []=>rfl
 | [_]=>rfl
 | [_,_]=>rfl
 | [_,_,_]=>rfl
 | [_,_,_,_]=>rfl
 | _::_::_::o::_::r =>
  show (decide (x = "ontop")&&decide (o = "of"))=false
  rw[decide_eq_false h]
  rfl
theorem mS {x:Str} {ws:List Str} (h:5<(x::ws).length) (e:x = "ontop"):∃ o,((x::ws).map V.str)[4]? = some (.str o)∧wU (x::ws)=decide (V.str o=V.str "of"):=by
 match ws,h with
 | [],h=>exact absurd h (by show ¬ 5<1;decide)
 | [_],h=>exact absurd h (by show ¬ 5<2;decide)
 | [_,_],h=>exact absurd h (by show ¬ 5<3;decide)
 | [_,_,_],h=>exact absurd h (by show ¬ 5<4;decide)
 | [_,_,_,_],h=>exact absurd h (by show ¬ 5<5;decide)
 | _::_::_::o::_::r,_ =>
  refine⟨o,rfl,?_⟩
  show (decide (x = "ontop")&&decide (o = "of"))=_
  rw[decide_eq_true e,Cn]
  by_cases h:o = "of"
  ·rw[h,decide_eq_true rfl,decide_eq_true rfl]
  ·rw[decide_eq_false h,decide_eq_false fun z=>h (V.str.inj z)]
theorem rS {ws:List Str} (b:Bool) (h:decide (5<ws.length)=b):decide ((5:Int)<((ws.map V.str).length:Nat))=b:=by
 rw[cw,← h]
 exact decide_eq_decide.mpr (by omega)
end Pg
namespace L2
open PySem PySem.Spec PyProof.Rows
section
variable {P:Program} {w:World} {K:BFr} {mg:Str→Option Value} {base:Heap}
theorem qJ.okY {x qual:Str} {st:Stmt} {f:Addr} {fd:FuncData} {N ps:List Str} {k:Nat} {sp:Sp} (F:qJ K x qual st f fd) (S:uW N ps (zO st)) (len:∀ vs H Q E,sp vs H Q E→vs.length=ps.length) (hbody:∀ (cdv:Value) (A:Around) (outer:List Env) (s:Shared) (H:Hp) (vs:List V) (Q:VK) (E:XK),yw k (A.deeper (envOfC qual (zO st) s.heap.objs.size f cdv))→sp vs H Q E →
   ∃ t,yW (wG (nh P w) P w K mg base N qual (zO st) f cdv A outer s H E) (yJ st) t∧t { nx:=fun _ H'=>Q .non H',rt:=Q } (vP N vs) H):zL P w K mg base (nh P w) (k+1) f fd ps sp:=by
 obtain⟨oc,od,kV,doc,pm,an,cdv,ct,osl,rfl,lk,hcd⟩:=F.ex
 exact pO lk hcd S len fun A outer s H vs Q E hr hsp=>hbody cdv A outer s H vs Q E hr hsp
theorem O6 {N:List Str} {qual:Str} {scope:Scope} {f:Addr} {cd:Value} {A:Around} {outer:List Env} {s:Shared} {H:Hp} {E:XK}:yG (jf P w) (wG (nh P w) P w K mg base N qual scope f cd A outer s H E) E:=jO rfl rfl (ql (C:=wH)).plain
end
end L2
namespace K11
open PySem PySem.NumText L2 Pg
seal PE PA PT PW PS yW PG vq PI j7 PO PK
section
variable {P:Program} {w:World} {K:BFr} {mg:Str→Option Value} {base:Heap} {f:Addr} {fd:FuncData} {d:Nat→Addr} {cR:Addr}
theorem oI (F:qJ K "is_ontop" "is_ontop" (top 65) f fd) (G:vw mg):zL P w K mg base z8 1 f fd ["words"] UM:=by
 refine F.ok (N:=["words"]) (by walk_at"s") (fun vs H Q E h=>?_) (fun cdv A outer s H vs Q E hr h=>?_)
 ·obtain⟨l,ws,rfl,_⟩:=h
  rfl
 ·obtain⟨l,ws,rfl,⟨hl,lw,le⟩,ne,q⟩:=h
  refine⟨_,zi (zx (yO (qC qK (zD zw (pv 0) ze) zt (zI _)) (yO (qC wq (zy z7 rfl G.len boot_len (za (pv 0) zd)) ze (zI _)) (yX (qC qK (zD zw (pv 0) ze) zt (zI _)))))),?_⟩
  match ws,ne with
  | x::ws,_ =>
   have hl':=zZ.of (K:=K) hl
   by_cases ex:x = "ontop"
   ·by_cases h5:5<(x::ws).length
    ·obtain⟨o,e4,eo⟩:=mS h5 ex
     rw[eo] at q
     exact⟨_,rfl,l,_,_,_,rfl,rfl,hl',yE rfl,rfl,true,by rw[ex,decide_eq_true rfl],qV ⟨_,rfl,l,_,rfl,.inl hl',_,_,rfl,rfl,true,congrArg V.bl (rS true (decide_eq_true h5)),qV ⟨_,rfl,l,_,_,_,rfl,rfl,hl',q8 (j:=4) e4,rfl,q⟩⟩⟩
    ·rw[o3 h5] at q
     exact⟨_,rfl,l,_,_,_,rfl,rfl,hl',yE rfl,rfl,true,by rw[ex,decide_eq_true rfl],qV ⟨_,rfl,l,_,rfl,.inl hl',_,_,rfl,rfl,false,congrArg V.bl (rS false (decide_eq_false h5)),qD q⟩⟩
   ·rw[Lp ex] at q
    exact⟨_,rfl,l,_,_,_,rfl,rfl,hl',yE rfl,rfl,false,congrArg V.bl (decide_eq_false fun z=>ex (V.str.inj z)),qD q⟩
theorem Lz {Cs:Nat→Addr} {cT cB:Addr} {j:Nat}:zL P w K mg base (jf P w) j f fd ["words","depth"] (QD Cs cT cB 0):=⟨fun _ _ _ _ h=>h.elim,fun _ _ _ _ _ _ _ _ _ _ _ _ _ h=>h.elim⟩
set_option maxHeartbeats 4000000 in
theorem Vv {Cs:Nat→Addr} {cT cB cRu:Addr} {d j:Nat} (hj:19≤j) (F:qJ K "rule_of_words" "rule_of_words" (top 66) f fd) (X:Er K mg "BadRule" cB) (N1:Z1 mg "MOST_DEPTH" 3) (C1:qN P w K mg base z8 1 "is_ontop" ["words"] UM) (C2:qN P w K mg base (jf P w) 8 "plain_rule" ["words"] (xY Cs cT cB)) (C3:qN P w K mg base (jf P w) 4 "number_of" ["word"] (ZV cT)) (C4:qN P w K mg base (jf P w) j "rule_of_words" ["words","depth"] (QD Cs cT cB d)) (N5:jP P w K mg base z8 16 "OnTop" (Cs 5) ["self","name","parts","way","rule"] (QU 2 Cs)) (M5:jP P w K mg base (jf P w) 18 "OnTop" (Cs 5) ["self","name","parts","way","rule"] (Y4 K cRu Cs cB)):zL P w K mg base (jf P w) (j+1) f fd ["words","depth"] (QD Cs cT cB (d+1)):=by
 obtain⟨tk,em⟩:=N1
 have nd:(["words","depth","within"]:List Str).Nodup:=by decide +kernel
 refine F.okE (N:=["words","depth","within"]) (by walk_at"s") (fun vs H Q E h=>?_) (fun cdv A outer s H vs Q E hr h=>?_)
 ·obtain⟨l,ws,dp,rfl,_⟩:=h
  rfl
 ·obtain⟨l,ws,dp,rfl,hw,ne,d0,d3,q⟩:=h
  have hr17:yw (16+1) (A.deeper _):=hr.mono (by omega)
  have hr19:yw (18+1) (A.deeper _):=hr.mono hj
  refine⟨_,(zh (zX (qu (qt (zp C1 hr (by omega) zC (za (pv 0) zd)))) (zi (zx (zp C2 hr (by omega) qz (za (pv 0) zd)))) zG)
    (zh (zX (zK qK (pv 1) (zY (v:=.int 3) rfl em ⟨tk,rfl⟩) (zI _)) (zi (qP ql rfl rfl X.at' X.ex (za zt zd))) zG)
    (zh (zQ (i:=2) nd rfl (Or.inl rfl) (zp C4 hr (cx _) qz (za (yi jm (pv 0) (ym ze) jc) (za (zu qA (pv 1) ze) zd))))
    (zi (zx (u5 (ya (j:=16) N5 hr17 (by decide) zC (za (zD zw (pv 0) ze) (za (zp C3 hr (by omega) qz (za (zD zw (pv 0) ze) zd)) (za (zD zw (pv 0) ze) (za (pv 2) zd))))) (ya (j:=18) M5 hr19 (by decide) qz (za (zD zw (pv 0) ze) (za (zp C3 hr (by omega) qz (za (zD zw (pv 0) ze) zd)) (za (zD zw (pv 0) ze) (za (pv 2) zd))))))))))),?_⟩
  refine⟨_,rfl,l,ws,rfl,hw,ne,?_⟩
  cases eo:wU ws with
  | false =>
   rw[uq d eo] at q
   exact⟨false,rfl,qV ⟨_,rfl,l,ws,rfl,hw,ne,q⟩⟩
  | true =>
   refine⟨true,rfl,qD ⟨_,rfl,rfl,_,rfl,ye (fun e=>⟨by decide,?_⟩) (fun e=>?_)⟩⟩
   ·have e:=V.int.inj (of_decide_eq_true e)
    obtain⟨n,a,x,y,r,rfl⟩:=Xx eo
    have:d=0:=by omega
    subst this
    exact ((q H (zq.refl _)).2 (Pr _ _ _ _ _)).2
   obtain⟨n,a,x,y,r,rfl⟩:=Xx eo
   have hd:dp≠3:=fun z=>e (decide_eq_true (by rw[z]))
   match d,d3,q,C4 with
   | 0,d3,_,_=>exact absurd (by omega) hd
   | d+1,d3,q,C4 =>
    rw[P3] at q
    obtain⟨hl,lw,le⟩:=hw
    have hl':=zZ.of (K:=K) hl
    refine⟨_,rfl,_,rfl,l,_,rfl,hl',fun t t0=>?_⟩
    generalize hc:qp ((("ontop":Str)::n::a::x::("of":Str)::y::r).map V.str) (some 5) none=cs
    have ec:cs=(y::r).map V.str:=by rw[← hc,tD];rfl
    have s1:zq H (upd H t (.lst cs)):=zq.upd t0
    have e1:(upd H t (.lst cs)) t=some (.lst ((y::r).map V.str)):=by rw[zj,ec]
    generalize upd H t (.lst cs)=H1 at s1 e1
    refine⟨_,rfl,_,_,rfl,rfl,t,y::r,_,rfl,⟨e1,by simp only[Cr] at lw ⊢;omega,fun w hw=>le w (by simp only[cy] at hw ⊢;rcases hw with h | h <;> simp[h])⟩,(by intro z;cases z),(by show 0≤dp+1;omega),(by show dp+1+(d:Int)=3;omega),fun H2 s2=>⟨fun r2 u e2 ru=>?_,fun e2=>(q H2 (s1.trans s2)).2 (BH e2)⟩⟩
    rw[e2] at q
    have q:∀ H',zq H H'→(∀ r o,Nz n a x r2=some r→uu Cs H' r o→Q o H')∧(Nz n a x r2=none→E (.ref cT) none H'∧E (.ref cB) none H'):=q
    have S2:=s1.trans s2
    have hs:=S2.seq hl'
    have ln:n.length≤50000:=le n (by simp)
    have la:a.length≤100000:=cJ (le a (by simp)) (by decide)
    have g2:Gd 2 r2:=(Mn e2).le (by omega)
    cases ep:Nz n a x r2 with
    | none =>
     refine .inr ⟨_,rfl,l,_,_,_,rfl,rfl,hs,q8 (j:=1) rfl,_,rfl,l,_,_,_,rfl,rfl,hs,q8 (j:=2) rfl,a,rfl,la,fun H3 s3=>⟨fun p er=>⟨_,rfl,l,_,_,_,rfl,rfl,s3.seq hs,q8 (j:=3) rfl,_,rfl,fun o dx o0 dx0 ne=>⟨o,dx,_,_,_,_,_,_,_,true,rfl,zj,kW ln,XQ p,Qb _,.good ((ru.same s3).same (zq.made o0 dx0)) g2,?_,fun H' fr=>((q H' (S2.trans (s3.trans (qw o0 dx0 fr)))).2 ep).2⟩⟩,fun er=>((q H3 (S2.trans s3)).2 ep).1⟩⟩
     have:=km (c:=fun p=>uz n&&(kU p&&wayL.contains x)) ep er
     rw[Bool.and_true]
     exact this
    | some r0 =>
     obtain⟨p,er,eb,rfl⟩:=j4 (c:=fun p=>uz n&&(kU p&&wayL.contains x)) (g:=fun p=>Rk.ontop n p x r2) ep
     rw[cz,cz] at eb
     exact .inl ⟨_,rfl,l,_,_,_,rfl,rfl,hs,q8 (j:=1) rfl,_,rfl,l,_,_,_,rfl,rfl,hs,q8 (j:=2) rfl,a,rfl,la,fun H3 s3=>⟨fun p' er'=>⟨_,rfl,l,_,_,_,rfl,rfl,s3.seq hs,q8 (j:=3) rfl,_,rfl,fun o dx o0 dx0 ne=>by rw[er] at er';cases er';exact⟨o,dx,n,p,x,u,r2,rfl,uv eb.1,wx eb.2.1,eb.2.2,(ru.same s3).same (zq.made o0 dx0),g2,zj,fun H' u' fr ho' ri'=>⟨rfl,(q H' (S2.trans (s3.trans (qw o0 dx0 fr)))).1 _ _ ep (.ontop ho' ri')⟩⟩⟩,fun er'=>by rw[er] at er';cases er'⟩⟩
set_option maxHeartbeats 4000000 in
theorem mh {Cs:Nat→Addr} {cT cB:Addr} {j:Nat} (F:qJ K "rule_of" "rule_of" (top 67) f fd) (G:vw mg) (X:Er K mg "BadRule" cB) (XT:Er K mg "BadText" cT) (x1:PySem.W.exmOne K (.ref cT) (.ref cT)=some true) (x2:PySem.W.exmOne K (.ref cB) (.ref cT)=some false) (C1:qN P w K mg base (jf P w) j "rule_of_words" ["words","depth"] (QD Cs cT cB 4)):zL P w K mg base (nh P w) (j+1) f fd ["text"] (ZY K Cs cB):=by
 refine F.okY (N:=["text"]) (by walk_at"s") (fun vs H Q E h=>?_) (fun cdv A outer s H vs Q E hr h=>?_)
 ·obtain⟨v,rfl,_⟩:=h
  rfl
 ·obtain⟨v,rfl,h⟩:=h
  obtain⟨R,hR⟩:∃ R:XK,R=fun cls _ H'=>(cls = .ref cT∨cls = .ref cB)∧zq H H'∧∀ z,v = .str z→YD 3 (Txt.split z " ")=none:=⟨_,rfl⟩
  refine' ⟨_,zh (zX (qu (qt (zy zH rfl G.isinstance zv (za (pv 0) (za (yB (v:=.ty "str") rfl G.str qH rfl) zd))))) (zi (qP ql rfl rfl X.at' X.ex (za zt zd))) zG)
   (zi (Lc (R:=R) (E:=E) (tb:=gu fun σ H Q=>qi (BJ K "str" Nb (zP 0) (qi (tC (.str " ")) yd)) (qi (tC (.int 0)) yd) σ H fun vs H1=>QD Cs cT cB 4 vs H1 Q R) WG rfl rfl rfl XT.at' rfl X.at' X.ex ?body (fun pn ea E=>za zt zd))),?main⟩
  case body =>
   intro pn
   exact zi (zx (zp C1 hr (cx _) P6 (za (yL PySem.F.plainAttrs_str PySem.F.slot_str_split PySem.F.type_str_split Qk (pv 0) (za zt zd)) (za ze zd))))
  rcases h with ⟨⟨r,hr',ty,ne⟩,q⟩ | ⟨z,rfl,hz,q⟩
  ·obtain⟨_,_,k3,_⟩:=kG (K:=K) r hr'
   have e:r.2.2.2.1=false:=by
    simp only[Vc,cy,cA,or_false] at hr'
    rcases hr' with rfl | rfl | rfl | rfl | rfl | rfl | rfl <;> first | rfl | exact absurd rfl ne
   rw[e] at k3
   exact⟨_,rfl,_,_,_,_,false,rfl,rfl,.inl ty,k3,false,rfl,qV ⟨by decide,q⟩⟩
  have zf:z.length≤sizeLine:=ZH hz rfl
  obtain⟨sl,sn,w0,wr,ew⟩:=u3 z " "
  refine⟨_,rfl,_,_,_,_,true,rfl,rfl,.inl (.str z),rfl,true,rfl,qD ⟨⟨_,rfl,rfl,_,_,rfl,rfl,rfl,zf,wC _ hz,fun l H1 s1 n1 e1=>?_⟩,?_⟩⟩
  ·refine⟨l,_,0,rfl,⟨e1,by omega,fun w hw=>cJ (sn w hw) hz⟩,(by rw[ew];intro z;cases z),by decide,by decide,fun H2 s2=>⟨fun r o er ro=>(q H2 (s1.trans s2)).1 r o er ro,fun er=>?_⟩⟩
   rw[hR]
   have dr:∀ z',V.str z = .str z'→YD 3 (Txt.split z' " ")=none:=fun z' e=>by
    cases e
    exact er
   exact⟨⟨.inl rfl,s1.trans s2,dr⟩,⟨.inr rfl,s1.trans s2,dr⟩⟩
  ·intro ea oe vs cls σ' H' r n0 hd h2
   rw[hR] at r
   obtain⟨rc,sS,re⟩:=r
   rcases rc with rfl | rfl
   ·exact .inl ⟨x1,by decide,⟨oe,_,vs,zj,hd,h2⟩,(q _ (sS.trans (zq.upd n0))).2 (re z rfl)⟩
   ·exact .inr ⟨x2,(q _ sS).2 (re z rfl)⟩
theorem Vl {cM:Addr} (F:qJ K "need_year" "need_year" (top 38) f fd) (X:Er K mg "BadYear" cM) (N1:Z1 mg "LAST_YEAR" 9999) (C1:qN P w K mg base z8 2 "is_number_within" ["thing","least","most"] (jF K)):zL P w K mg base (jf P w) 3 f fd ["thing"] (JL K cM 9999):=by
 obtain⟨tm,hm⟩:=N1
 refine F.okE (N:=["thing"]) (by walk_at"s") (fun vs H Q E h=>?_) (fun cdv A outer s H vs Q E hr h=>?_)
 ·obtain⟨v,rfl,_⟩:=h
  rfl
 ·obtain⟨v,rfl,h⟩:=h
  refine⟨_,zi (zX (qu (qt (zp C1 hr (by decide) zC (za (pv 0) (za ze (za (zY (v:=.int 9999) rfl hm ⟨_,rfl⟩) zd)))))) (zi (qP ql rfl rfl X.at' X.ex (za zt zd))) zG),?_⟩
  rcases h with ⟨z,rfl,h0,h1,q⟩ | ⟨nn | ⟨z,rfl,h0⟩,q⟩
  ·refine⟨_,rfl,_,_,_,rfl,.inl ⟨z,rfl,_,rfl,?_⟩⟩
   rw[decide_eq_true (show (0:Int)≤z∧z≤9999 from ⟨h0,h1⟩)]
   exact qD q
  ·exact⟨_,rfl,_,_,_,rfl,.inr ⟨nn,false,rfl,qV ⟨by decide,q⟩⟩⟩
  ·refine⟨_,rfl,_,_,_,rfl,.inl ⟨z,rfl,_,rfl,?_⟩⟩
   rw[decide_eq_false h0]
   exact qV ⟨by decide,q⟩
end
end K11
namespace L2
open PySem PySem.Spec PyProof.Rows
section
variable {X:Cx} {elt iter tgt:Expr} {ifs:List Expr} {scope:Scope} {cl:List (Str × Addr)} {Nc:List Str} {src:List (Option Nat)} {g:TG} {tt:TT} {te:TE}
theorem Po {Ct:CT} [ct:Zm Ct] {E:XK} {i:Nat} {x:Str} {wi:TI} {pos pos' cpos:Pos} (hE:yo Ct X E) (hst:X.stack=X.env::X.outer) (hf:X.env.frame=some X.env.locals) (hN:X.N.Nodup) (hx:X.N[i]? = some x) (hl:X.env.scope.names.lookup x=some .local) (c:Qq X Nc scope cl src) (hcalm:X.calm=true) (hi:PI X tgt iter wi) (hb:∀ fp C s' H' xe,yo Ct (qo xe X Nc scope cl C fp s' H') E→PG (qo xe X Nc scope cl C fp s' H') tgt g∧j7 (qo xe X Nc scope cl C fp s' H') ifs tt∧PE (qo xe X Nc scope cl C fp s' H') elt te) (hsw:swapsWith (.ListComp elt [⟨tgt,iter,ifs,0⟩] scope cpos) (some (.Name x pos')) pos.line X.env=pure true:=by rfl) (hs:∀ x,foldedSetIterable iter X.env x=pure x:=by intro _;rfl):PS X (.Assign [.Name x pos'] (.ListComp elt [⟨tgt,iter,ifs,0⟩] scope cpos) pos) (lq (QT src wi g tt te) (z6 i)):=by
 intro pins s σ H D I h
 rw[exec_Assign_Name_used _ _ _ _ hsw]
 refine wpAny_bind (wpAny_standAt (wpAny_bind ?_))
 show wpAny _ X.A (do let _ ← comprehension (.ListComp elt [⟨tgt,iter,ifs,0⟩] scope cpos) scope X.env _ (newList []) false (eval iter X.env) (some (assign (.Name x pos') X.env))) _ _ s
 refine wpAny_bind (wpAny_mono (wpAny_comprehension_free (use:=some (assign (.Name x pos') X.env)) (Q:=fun _ s'=>∃ σ' H',zJ X pins σ' H' s'∧D.nx σ' H') rfl hs c.clos c.kind c.names (q0 (hi pins s σ H _ I h) fun v s1 h1=>q0 h1 fun itv s2 h2=>?_)) (fun _ s' hq=>wpAny_pure (wpAny_pure hq)) fun _ _ z=>z)
 obtain⟨it,fp,tn,J,H2,e,I2,T,st2,f2,hT⟩:=h2
 subst e
 refine wpAny_newObj_type ?_ (by size_fits)
 have old:∀ b o,s2.heap.get? b=some o→(s2.heap.push { cls:=.type "list",data:=.seq ([]:List Value).toArray }).get? b=some o:=fun b o e=>Cg _ e
 have I3:=I2.laid (a:=s2.heap.objs.size) (o:=.lst []) (t':=s2.toks) (h':=s2.heap.push { cls:=.type "list",data:=.seq ([]:List Value).toArray }) old (cx _) ⟨Cy _,[],0,.nil,Co _ rfl⟩
 have ne:∀ b∈fp,b≠s2.heap.objs.size:=fun b hb=>by
  obtain⟨o,e,_⟩:=T.obj 0 _ st2 b hb
  exact Cc (cD e)
 have f3:∀ b∈fp,yq X pins (upd H2 s2.heap.objs.size (.lst [])) b:=fun b hb=>⟨by rw[zm (ne b hb)];exact (f2 b hb).1,(f2 b hb).2⟩
 refine vF (it:=it) (R:=fun C=>compPost (model X.prog X.w) X.A X.xe (some (assign (.Name x pos') X.env)) (fun _ s'=>∃ σ' H',zJ X pins σ' H' s'∧D.nx σ' H') _ C) c hcalm I3 T (T.keep _ _ _ st2 fun b _ o e=>old b o e) f3 (hb fp _ _ _ _ (Zu (Ct:=Ct) (E:=E))) (hT _ (I2.hok.fresh (cx _))) (fun x s' z=>Uq hE hst hf I3 f3 z) fun C ys σ' H' s' hC J' hD q=>?_
 obtain⟨m,hn,_⟩:=id J'.loc
 have B:zJ X pins σ H' s':=vc I3 f3 J' ⟨rfl,fun _ _=>rfl⟩
 have Cge:∀ b o,(s2.heap.push { cls:=.type "list",data:=.seq ([]:List Value).toArray }).get? b=some o→b≠C:=fun b o e=>Cc (Cw (cD e) J'.ok.above)
 have CL:C≠X.env.locals:=fun z=>by
  obtain⟨m3,⟨o,_,_,ho,_⟩,_⟩:=I3.loc
  exact Cge _ o ho z.symm
 refine wpAny_assign_Name (kZ B hN hx (.inl hl) (v:=.ref s2.heap.objs.size) rfl (fun s5 I5 hsb=>?_) (.inr hl))
 obtain⟨a,sb,ha⟩:=hsb
 have aL:a≠C:=by
  rcases ha with rfl | ha
  ·exact CL.symm
  ·obtain⟨v,o,ho,_⟩:=I3.cell x a ha
   exact Cge _ o ho
 refine⟨m,hn.sameBut sb aL.symm,fun h' hs'=>⟨_,H',I5.turned (t':=s5.toks) (fun b o n e=>(hs'.2 b n).trans e) J'.free CL ?_ (fun y b e z=>?_) (fun p hp z=>?_),q⟩⟩
 ·exact .inr (dB (cJ I3.sz J'.ok.above))
 ·obtain⟨v,o,ho,_⟩:=I3.cell y b e
  exact Cge _ o ho z
 ·exact Cge _ _ (I3.pin p hp).1 z
end
end L2
namespace Pg
open PySem PySem.NumText L2 Builtin Builtin.Str
theorem nL {K:BFr} {H:Hp} {v:V} {z:Str} (h:vS K H v):v≠.str z:=fun e=>by
 obtain⟨r,_,ty,ne⟩:=h
 subst e
 generalize r.1=t at ty ne
 cases ty
 exact ne rfl
noncomputable def Vy:V→Option Rk
 | .str z=>YD 3 (Txt.split z " ")
 | _=>none
noncomputable def tF (K:BFr) (H:Hp) (x:V):Prop:=vS K H x∨∃ z,x = .str z∧z.length≤50000
noncomputable def kO (K:BFr) (H:Hp) (v:V):Prop:=∃ r∈Vc,j0 K H v (.type r.1)∧r.2.2.2.2=false
noncomputable def Xy (K:BFr) (cB:Addr):Sp:=fun vs H Q E=>∃ v,vs=[v]∧((kO K H v∧E (.ref cB) none H)∨∃ l xs,v = .ref l∧H l=some (.lst xs)∧(8<xs.length→E (.ref cB) none H)∧(xs.length≤8→Q .non H))
noncomputable def XF (Cs:Nat→Addr) (cB:Addr):Sp:=fun vs H Q E=>∃ l rs,vs=[.ref l]∧mZ Cs H l rs∧(∀ r∈rs,Gd 3 r)∧rs.length≤8∧∀ H',zq H H'→((rs.map Rk.name).Nodup→Q .non H')∧(¬ (rs.map Rk.name).Nodup→E (.ref cB) none H')
noncomputable def ke (K:BFr) (C cY cB cR:Addr):Sp:=fun vs H Q E=>∃ (B dx t:Addr) (es:List Be) (y v:V),vs=[.ref B,y,v]∧Yl C H B dx t es∧es.length≤100 ∧
 ((wm K H 9999 y∧E (.ref cY) none H)∨∃ Y,y = .int Y∧0≤Y∧Y≤9999 ∧
  ((kO K H v∧E (.ref cB) none H)∨∃ l xs,v = .ref l∧H l=some (.lst xs)∧(8<xs.length→E (.ref cB) none H) ∧
   (xs.length≤8→(∀ x∈xs,tF K H x)∧((∃ x∈xs,Vy x=none)→∀ H',zq H H'→E (.ref cR) none H') ∧
    ∀ rs:List Rk,xs.map Vy=rs.map some→(¬ (rs.map Rk.name).Nodup→∀ H',zq H H'→E (.ref cB) none H') ∧
     ((rs.map Rk.name).Nodup→∀ a H',H a=none→Yl C H' B dx t (we es Y a rs)→(∀ b o,H b=some o→b≠t→H' b=some o)→Q .non H'))))
theorem Mw {x:V} {r:Rk} (h:Vy x=some r):Gd 3 r:=by
 cases x with
 | str z=>exact Mn h
 | _=>cases h
theorem NY {K:BFr} {H:Hp} {x:V} (h:vS K H x):Vy x=none:=by
 cases x with
 | str z=>exact absurd rfl (nL h (z:=z))
 | _=>rfl
end Pg
namespace K11
open PySem PySem.NumText L2 Pg
seal PE PA PT PW PS yW PG vq PI j7 PO PK
section
variable {P:Program} {w:World} {K:BFr} {mg:Str→Option Value} {base:Heap} {f:Addr} {fd:FuncData} {d:Nat→Addr} {cR:Addr}
theorem Lm {cB:Addr} (F:qJ K "need_few" "need_few" (top 70) f fd) (G:vw mg) (X:Er K mg "BadBook" cB) (N1:Z1 mg "MOST_RULES" 8):zL P w K mg base (jf P w) 1 f fd ["thing"] (Xy K cB):=by
 obtain⟨tm,hm⟩:=N1
 refine F.okE (N:=["thing"]) (by walk_at"s") (fun vs H Q E h=>?_) (fun cdv A outer s H vs Q E hr h=>?_)
 ·obtain⟨v,rfl,_⟩:=h
  rfl
 ·obtain⟨v,rfl,h⟩:=h
  refine⟨_,zi (zX (PW.pt (vE (qu (qt (zy zH rfl G.isinstance zv (za (pv 0) (za (yB (v:=.ty "list") rfl G.list j5 rfl) zd))))) (jU (zK wq (zy z7 rfl G.len boot_len (za (pv 0) zd)) (zY (v:=.int 8) rfl hm ⟨_,rfl⟩) (zI _))))) (zi (qP ql rfl rfl X.at' X.ex (za zt zd))) zG),?_⟩
  rcases h with ⟨⟨r,hr',ty,e⟩,q⟩ | ⟨l,xs,rfl,hl,q1,q2⟩
  ·obtain⟨_,_,_,k4⟩:=kG (K:=K) r hr'
   rw[e] at k4
   exact⟨_,rfl,_,_,_,_,false,rfl,rfl,.inl ty,k4,false,rfl,qV (qV ⟨by decide,q⟩)⟩
  ·refine⟨_,rfl,_,_,_,_,true,rfl,rfl,.inl (.lst hl),rfl,true,rfl,qD ⟨_,rfl,l,_,rfl,.inl (zZ.of hl),_,_,rfl,rfl,_,rfl,ye (fun e=>⟨by decide,q1 ?_⟩) (fun e=>q2 ?_)⟩⟩
   ·have:(8:Int)<(xs.length:Nat):=of_decide_eq_true e
    omega
   ·have:¬ (8:Int)<(xs.length:Nat):=fun c=>e (decide_eq_true c)
    omega
theorem Lq {Cs:Nat→Addr} {cB:Addr} (F:qJ K "need_unlike_names" "need_unlike_names" (top 71) f fd) (G:vw mg) (X:Er K mg "BadBook" cB) (CL:∀ k,k<6→wo K (Cs k)) (NM:∀ k,k<6→zU K (Cs k) "name"):zL P w K mg base (jf P w) 1 f fd ["rules"] (XF Cs cB):=by
 have nc:(["rule"]:List Str).Nodup:=by decide +kernel
 refine F.okE (N:=["rules"]) (by walk_at"s") (fun vs H Q E h=>?_) (fun cdv A outer s H vs Q E hr h=>?_)
 ·obtain⟨l,rs,rfl,_⟩:=h
  rfl
 ·obtain⟨l,rs,rfl,⟨ys,hl,T⟩,gd,few,q⟩:=h
  refine' ⟨_,zi (zX (zK kP (GV rfl rfl G.len rfl G.set (za ?comp zd)) (zy z7 rfl G.len boot_len (za (pv 0) zd)) (zI _)) (zi (qP ql rfl rfl X.at' X.ex (za zt zd))) zG),?main⟩
  case comp =>
   refine' qm (Nc:=["rule"]) (cl:=[]) (src:=[none]) (wi:=uw K (zP 0)) (g:=z6 0) (tt:=qv) (te:=Pu K (zP 0) "name")
    (by walk_at"c0") rfl (yI (pv 0)) ?hb
   case hb =>
    intro fp C' s' H'
    exact⟨zN (i:=0) nc rfl (Or.inl rfl),qj,z5 (pv 0) rfl⟩
  walk_at"d4"
  refine⟨_,rfl,l,rfl,⟨_,zZ.of hl⟩,fun D hD=>jI (yp (zZ.of hl)) T hD (by rw[sizeLine_eq];omega) (fun r=>V.str r.name) (fun r hm v H1 R s1 ro k=>?_) (fun H1 s1 e1=>?_)⟩
  ·obtain⟨oa,dx,fs,rfl,ho,nm,no⟩:=ro.obj (gd r hm)
   have k6:=nS r
   exact⟨_,rfl,oa,_,dx,fs,_,rfl,ho,CL _ k6,NM _ k6,nm,k _ (zq.refl _)⟩
  ·have yl:=T.len
   refine⟨D,rs.map Rk.name,rfl,zZ.of (by rw[cV];exact e1),by rw[cw];omega,fun n nle nn=>?_⟩
   rw[cw] at nle nn
   refine⟨_,rfl,l,_,rfl,.inl (zZ.of (s1 _ _ hl)),_,_,rfl,rfl,_,rfl,ye (fun e=>⟨by decide,(q H1 s1).2 ?_⟩) (fun e=>(q H1 s1).1 ?_)⟩
   ·have:((n:Nat):Int)<(ys.length:Nat):=of_decide_eq_true e
    exact nn.mp (by omega)
   ·have:¬ ((n:Nat):Int)<(ys.length:Nat):=fun c=>e (decide_eq_true c)
    by_cases h:(rs.map Rk.name).Nodup
    ·exact h
    ·exact absurd (nn.mpr h) (by omega)
set_option maxHeartbeats 8000000 in
theorem lU {Cs:Nat→Addr} {C cY cB cR:Addr} {j:Nat} (hj:4≤j) (F:qJ K "put" "RuleBook.put" (zE (top 72) 1) f fd) (G:vw mg) (KC:wo K C) (nT:zU K C "told") (C1:qN P w K mg base (jf P w) 3 "need_year" ["thing"] (JL K cY 9999)) (C2:qN P w K mg base (jf P w) 1 "need_few" ["thing"] (Xy K cB)) (C3:qN P w K mg base (nh P w) j "rule_of" ["text"] (ZY K Cs cR)) (C4:qN P w K mg base (jf P w) 1 "need_unlike_names" ["rules"] (XF Cs cB)) (MR:∀ k,k<6→qU P w K mg base z8 4 (Cs k) "row" ["self"] (yK 3 k Cs)):zL P w K mg base (nh P w) (j+1) f fd ["self","year","rows"] (ke K C cY cB cR):=by
 have nd:(["self","year","rows","rules"]:List Str).Nodup:=by decide +kernel
 have nc1:(["row"]:List Str).Nodup:=by decide +kernel
 have nc2:(["rule"]:List Str).Nodup:=by decide +kernel
 refine F.okY (N:=["self","year","rows","rules"]) (by walk_at"s") (fun vs H Q E h=>?_) (fun cdv A outer s H vs Q E hr h=>?_)
 ·obtain⟨B,dx,t,es,y,v,rfl,_⟩:=h
  rfl
 ·obtain⟨B,dx,t,es,y,v,rfl,BK,el,h⟩:=h
  have hu:=X3 hr
  refine' ⟨_,(zh (z4 (zp C1 hr (by omega) O6 (za (pv 1) zd)))
    (zh (z4 (zp C2 hr (by omega) O6 (za (pv 2) zd)))
    (zh ?c1
    (zh (z4 (zp C4 hr (by omega) O6 (za (pv 3) zd)))
    (zi (XM hu (z5 (pv 0) rfl) (pv 1) ?c2 rfl)))))),?main⟩
  case c1 =>
   refine' Po (Ct:=wH) (E:=E) (i:=3) (Nc:=["row"]) (cl:=[]) (src:=[none]) (wi:=uw K (zP 2)) (g:=z6 0) (tt:=qv) (te:=fun σ H Q=>qi (zP 0) yd σ H fun vs H1=>ZY K Cs cR vs H1 Q E)
    ql rfl rfl nd rfl rfl (by walk_at"c0") rfl (yI (pv 2)) ?hb
   case hb =>
    intro fp C' s' H' xe th
    exact⟨zN (i:=0) nc1 rfl (Or.inl rfl),qj,zp C3 hr (cx _) (jO rfl rfl th) (za (pv 0) zd)⟩
  case c2 =>
   refine' qm (Nc:=["rule"]) (cl:=[]) (src:=[none]) (wi:=uw K (zP 3)) (g:=z6 0) (tt:=qv) (te:=fun σ H Q=>∃ k,k<6∧nP (Cs k) "row" (yK 3 k Cs) E0 (zP 0) yd σ H Q)
    (by walk_at"c0") rfl (yI (pv 3)) ?hb
   case hb =>
    intro fp C' s' H'
    exact⟨zN (i:=0) nc2 rfl (Or.inl rfl),qj,uY (p:=fun k=>k<6) fun k hk=>y6 (MR k hk) hr hj zC (pv 0)⟩
  walk_at"d4"
  rcases h with ⟨ny,q⟩ | ⟨Y,rfl,Y0,Y1,h⟩
  ·exact⟨_,rfl,y,rfl,.inr ⟨ny,q⟩⟩
  rcases h with ⟨nl,q⟩ | ⟨l,xs,rfl,hl,q1,q2⟩
  ·exact⟨_,rfl,_,rfl,.inl ⟨Y,rfl,Y0,Y1,_,rfl,v,rfl,.inl ⟨nl,q⟩⟩⟩
  refine⟨_,rfl,_,rfl,.inl ⟨Y,rfl,Y0,Y1,_,rfl,.ref l,rfl,.inr ⟨l,xs,rfl,hl,q1,fun few=>?_⟩⟩⟩
  obtain⟨tx,qR,q⟩:=q2 few
  refine⟨_,rfl,l,rfl,⟨_,zZ.of hl⟩,fun D hD=>?_⟩
  refine Qy (K:=K) (a:=l) (xs:=xs) (fun i ys σ H'=>∃ (x0:Option V) (rs:List Rk),σ = [x0]∧zq H H'∧H' D=some (.lst ys)∧ys.length=i∧(xs.take i).map Vy=rs.map some∧∀ (n:Nat) u r,ys[n]? = some u→rs[n]? = some r→uu Cs H' r u) ⟨_,[],rfl,zq.upd hD,zj,rfl,rfl,fun n u r h=>nomatch h⟩ (fun i ys σ H' hi ⟨x0,rs,e,s2,hd,_⟩=>⟨zZ.of (s2 _ _ hl),hd⟩) ?_ ?_
  ·rintro i x ys σ H2 hx ⟨x0,rs,rfl,s2,hd,yl,em,T⟩
   have mx:=CC hx
   have il:i<xs.length:=(cW.mp hx).1
   have kp:∀ {H3:Hp} {ys':List V},zq H2 H3→wF H3 (upd H3 D (.lst ys')):=fun {H3 ys'} s3 b o hb no=>by
    rw[zm fun c=>no ys (by rw[c,s3 _ _ hd] at hb;exact (Option.some.inj hb).symm)]
    exact hb
   unfold kb z6 qv
   dsimp only
   refine qV ⟨_,rfl,x,rfl,?_⟩
   have good:∀ r o H3,Vy x=some r→zq H2 H3→uu Cs H3 r o→H3 D=some (.lst ys)∧ys.length<sizeLine∧∃ (x0:Option V) (rs:List Rk),([x0]:St)=[some x]∧zq H (upd H3 D (.lst (ys++[o])))∧(upd H3 D (.lst (ys++[o]))) D=some (.lst (ys++[o]))∧(ys++[o]).length=i+1∧(xs.take (i+1)).map Vy=rs.map some∧∀ (n:Nat) u r,(ys++[o])[n]? = some u→rs[n]? = some r→uu Cs (upd H3 D (.lst (ys++[o]))) r u:=fun r o H3 er s3 ro=>by
    refine⟨s3 _ _ hd,by rw[yl,sizeLine_eq];omega,_,rs++[r],rfl,fun b o' hb=>?_,zj,?_,?_,fun n u r' hu hr'=>?_⟩
    ·rw[zm (zA hb hD)]
     exact s3 _ _ (s2 _ _ hb)
    ·rw[cG,yl]
     rfl
    ·rw[CM,hx,Ce,em,Ce]
     show _++[Vy x]=_
     rw[er]
     rfl
    ·have rl:rs.length=i:=by
      have:=congrArg List.length em
      rw[cw,cw,Ci] at this
      omega
     by_cases c:n<i
     ·rw[CY (by omega)] at hu hr'
      exact ((T n u r' hu hr').same s3).keep (kp s3)
     ·have:n=i:=by
       have:=(cW.mp hu).1
       rw[cG] at this
       have:n<ys.length+1:=this
       omega
      subst this
      rw[CH (by omega),yl,dN] at hu
      rw[CH (by omega),rl,dN] at hr'
      cases hu
      cases hr'
      exact ro.keep (kp s3)
   rcases tx x mx with ns | ⟨z,rfl,zl⟩
   ·exact .inl ⟨ns.same s2,qR ⟨x,mx,NY ns⟩ H2 s2⟩
   ·refine .inr ⟨z,rfl,zl,fun H3 s3=>⟨fun r o er ro=>?_,fun er=>qR ⟨_,mx,er⟩ H3 (s2.trans s3)⟩⟩
    obtain⟨g1,g2,x0',rs',g3,g4⟩:=good r o H3 er s3 ro
    exact⟨g1,g2,_,rs',rfl,g4⟩
  ·rintro ys σ H1 ⟨x0,rs,rfl,s1,e1,yl,em,T⟩
   rw[C8 (cx _)] at em
   obtain⟨qn,q⟩:=q rs em
   have rl:rs.length=xs.length:=by
    have:=congrArg List.length em
    rw[cw,cw] at this
    omega
   have gd:∀ r∈rs,Gd 3 r:=fun r hr'=>by
    have:some r∈rs.map some:=cH.mpr ⟨r,hr',rfl⟩
    rw[← em] at this
    obtain⟨x,_,e⟩:=cH.mp this
    exact Mw e
   have TI:q9 H1 ys rs (fun H' v r=>uu Cs H' r v):=⟨by rw[yl,rl],fun i y e=>by
    have hi:i<rs.length:=by rw[rl,← yl];exact (cW.mp e).1
    exact⟨_,cI hi,fun H' s=>(T i y _ e (cI hi)).same s⟩⟩
   refine⟨_,rfl,D,rs,rfl,⟨ys,e1,TI⟩,gd,by omega,fun H2 s2=>⟨fun nn=>?_,fun nn=>qn nn H2 (s1.trans s2)⟩⟩
   have ok:YC rs:=⟨gd,nn,by omega⟩
   have e2:=s2 _ _ e1
   have T2:=TI.same s2
   refine⟨_,rfl,D,rfl,⟨_,zZ.of e2⟩,fun D2 hD2=>jI (yp (zZ.of e2)) T2 hD2 (by rw[sizeLine_eq];omega) (fun r=>V.str (jx r)) (fun r hm v H3 R s3 ro k=>?_) (fun H3 s3 e3=>?_)⟩
   ·obtain⟨oa,dxo,fs,rfl,ho,nm,no⟩:=ro.obj (ok.gd r hm)
    exact⟨r.kd,nS r,_,rfl,oa,dxo,fs,rfl,ho,no "row" (by decide),_,r,rfl,rfl,ro,ok.gd r hm,fun H4 s4=>k _ s4⟩
   have S3:=s1.trans (s2.trans s3)
   have B3:=BK.fr fun b o h=>S3 _ _ h
   refine⟨_,rfl,B,C,dx,_,_,rfl,B3.ins,KC,nT,rfl,_,rfl,t,_,rfl,GD.k (k:=Sum.inl Y) B3.dic (by unfold jZ;rw[cw,sizeLine_eq];omega),?_⟩
   rw[oy (a:=D2) (rs:=rs)]
   have D0:H D2=none:=(s1.trans s2).free hD2
   have nt:∀ b xs,H3 b=some (.lst xs)→b≠t:=fun b xs h=>qG h B3.dic (by intro z;cases z)
   refine q nn D2 _ D0 ⟨by rw[zm (qG B3.ins B3.dic (by intro z;cases z))];exact B3.ins,zj,XZ B3.nd,fun e he=>?_,fun e he=>?_⟩ fun b o h n=>by rw[zm n];exact S3 _ _ h
   ·rcases vN he with rfl | he
    ·show upd H3 t _ D2=_
     rw[zm (nt _ _ e3)]
     exact e3
    ·rw[zm (nt _ _ (B3.row e he))]
     exact B3.row e he
   ·rcases vN he with rfl | he
    ·exact ok
    ·exact B3.ok e he
end
end K11
namespace Pg
open PySem PySem.NumText L2 Builtin Builtin.Str
theorem jq {p:Int} (h:YZ p):jX 13 (toString p)=some p:=by
 unfold jX
 have e:=vM h.1
 rw[if_pos ⟨kx h,by rw[e];exact nH _⟩,e,rY]
 have:=h.1
 congr 1
 omega
theorem GJ {q:Int × Int} (ha:YZ q.1) (hp:QB q.2):vC (yT q)=some q:=by
 unfold vC
 rw[(xX q ha.1 hp.1).1]
 show pT (jX 13 _) (jX 13 _)=_
 rw[jq ha,jq (kI hp)]
 rfl
theorem xA {ps:List (Int × Int)} (ok:ZK ps):vJ (Txt.split (vv ps) ",")=some ps:=by
 rw[(Um ok).1]
 refine Jp ?_
 rw[cV]
 exact CW fun q hq=>GJ (ok.ok q hq).1 (ok.ok q hq).2
theorem Xp {r:Int} (h:YZ r):Qs r=true:=decide_eq_true h
theorem Uv {r:Int} (h:QB r):kU r=true:=decide_eq_true h
theorem Jm {n:Str} (h:qT n):uz n=true:=by
 unfold uz vL
 have h1:=h.ok.lo
 have h2:=h.ok.hi
 have h3:=h.ok.all
 have h4:=h.no
 rw[h4,decide_eq_true h1,decide_eq_true h2,h3]
 rfl
theorem PP:∀ {zs:List Int},zs.Pairwise (· < ·)→Qm zs=true
 | [],_=>rfl
 | [_],_=>rfl
 | a::b::l,h=>by
  obtain⟨h1,h2⟩:=Dz.mp h
  show (decide (a<b)&&Qm (b::l))=true
  rw[decide_eq_true (h1 b cX),PP h2]
  rfl
theorem tH {ps:List (Int × Int)} (ok:ZK ps):G8 (G7 ps)=true:=by
 have eo:G7 ps=ps.map some:=CW fun q hq=>by
  have:=ok.ok q hq
  rw[Xp this.1,Uv this.2]
  rfl
 obtain⟨p,r,e⟩:=ok.hd
 unfold G8
 rw[eo,QN,cw,CS,show (ps.all (Option.isSome ∘ some))=true from Cm.mpr fun _ _=>rfl,Cn]
 rw[decide_eq_true (show 1≤ps.length∧ps.length≤12 from ⟨by rw[e];exact Nat.le_add_left _ _,ok.few⟩),Cn]
 rw[PP (List.pairwise_map.mpr ok.up),Bool.and_true,e]
 rfl
theorem xM {d:Nat} {r:Rk} (g:Gd d r):YD d (je r)=some r:=by
 induction g with
 | @pln d r p =>
  cases p with
  | @flat n a hn ha =>
   rw[uq d rfl]
   show jQ [("flat":Str),n,(toString a:Str)]=_
   rw[JC]
   unfold Xw
   rw[jq ha]
   show (if (uz n&&Qs a)=true then _ else _)=_
   rw[Jm hn,Xp ha]
   rfl
  | @share n p w hn hp hw =>
   rw[uq d rfl]
   show jQ [("share":Str),n,(toString p:Str),w]=_
   rw[V1]
   unfold lX
   rw[jq (kI hp)]
   show (if (uz n&&(kU p&&wayL.contains w))=true then _ else _)=_
   rw[Jm hn,Uv hp,show wayL.contains w=true from hw]
   rfl
  | @capped n p m w hn hp ha hw =>
   rw[uq d rfl]
   show jQ [("capped":Str),n,(toString p:Str),(toString m:Str),w]=_
   rw[Jf]
   unfold mB
   rw[jq (kI hp),jq ha]
   show (if (uz n&&((kU p&&wayL.contains w)&&Qs m))=true then _ else _)=_
   rw[Jm hn,Uv hp,Xp ha,show wayL.contains w=true from hw]
   rfl
  | @least n p m w hn hp ha hw =>
   rw[uq d rfl]
   show jQ [("least":Str),n,(toString p:Str),(toString m:Str),w]=_
   rw[US]
   unfold LS
   rw[jq (kI hp),jq ha]
   show (if (uz n&&((kU p&&wayL.contains w)&&Qs m))=true then _ else _)=_
   rw[Jm hn,Uv hp,Xp ha,show wayL.contains w=true from hw]
   rfl
 | @bands d n w ps hn ok hw =>
  rw[uq d rfl]
  show jQ [("bands":Str),n,vv ps,w]=_
  rw[V5]
  unfold LC
  rw[xA ok]
  show (if (uz n&&(G8 (G7 ps)&&wayL.contains w))=true then _ else _)=_
  rw[Jm hn,tH ok,show wayL.contains w=true from hw]
  rfl
 | @ontop d n w p r hn hp hw g ih =>
  obtain⟨x,ws,e,_⟩:=wL r
  have:je (.ontop n p w r)=("ontop":Str)::n::(toString p:Str)::w::("of":Str)::x::ws:=by
   show [("ontop":Str),n,(toString p:Str),w,("of":Str)]++je r=_
   rw[e]
   rfl
  rw[this,P3,← e,ih]
  show Nz n (toString p) w r=_
  unfold Nz
  rw[jq (kI hp)]
  show (if (uz n&&(kU p&&wayL.contains w))=true then _ else _)=_
  rw[Jm hn,Uv hp,show wayL.contains w=true from hw]
  rfl
theorem kF {r:Rk} (g:Gd 3 r):YD 3 (Txt.split (jx r) " ")=some r:=by
 rw[(gJ g).1]
 exact xM g
end Pg
namespace L2
open PySem PySem.Spec PyProof.Rows
section
variable {X:Cx} {A:Around} {E:Value→Shared→Prop} {pins:List (Addr × Obj)} {σ:St} {H:Hp} {s:Shared} {r:Addr} {Q:VK} {OK:List Int→Prop}
theorem xg (hc:∀ R:List Value→Shared→Prop,(∀ s1 vs zs,IntsAre vs zs→OK zs→vs.length<64→zJ X pins σ H s1→R vs s1)→wpAny (model X.prog X.w) A.in1 (collect (.ref r)) R E s) (q:∀ zs zs':List Int,OK zs→zs'.Perm zs→zs'.Pairwise (·≤·)→G9 H (.lst (zs'.map V.int)) Q) :
  wpAny (model X.prog X.w) A (call (.builtin "sorted") [.ref r]) (EP X pins σ Q) E s:=by
 refine Calls.call_function_entry kind_sorted plain_sorted entry_sorted (args_sorted1 _) ?_
 unfold Builtin.«sorted»
 refine wpAny_bind (m:=checkCount "sorted" 1 1 _) (wpAny_pure (wpAny_bind (hc _ fun s1 vs zs hS ok h64 I1=>?_)))
 refine wpAny_bind (wpAny_newList ?_ (by rw[sizeLine_eq];omega))
 have hD:(s1.heap.push (seqObj "list" vs.toArray 0)).get? s1.heap.objs.size=some (seqObj "list" vs.toArray 0):=Co _ rfl
 refine wpAny_bind (wpAny_holding (wpAny_call_entry slot_list_sort ⟨_,hD,rfl⟩ entry_list_sort (list_sort_tree hD hS h64 fun out zs' a1 a2 a3=>⟨_,rfl,?_⟩) (args_list_sort _)))
 obtain⟨c,he⟩:=sortedHeap_at (out:=out) hD
 have J:=I1.kept (t':=s1.toks) (h':=sortedHeap (s1.heap.push (seqObj "list" vs.toArray 0)) s1.heap.objs.size vs out) fun b o e=>by
  have lt:=cD e
  rw[sortedHeap_old (Cc lt) (by rw[dD];exact Dd lt)]
  exact Cg _ e
 have hn:H s1.heap.objs.size=none:=I1.hok.fresh (cx _)
 have rv:=Je a1
 have sl:zs'.length<64:=by
  have:=rv.length
  rw[cw] at this
  have l2:=(Je hS).length
  rw[cw] at l2
  have:=a2.length_eq
  omega
 refine wpAny_pure ⟨_,rfl,.ref _,_,J.adopt (us:=out.toList) (I1.fpOk (cx _) hn) (by rw[Array.toArray_toList];exact he) rv ?_,rfl,(q zs zs' ok a2 a3).at hn⟩
 rw[cw,sizeLine_eq]
 omega
end
theorem pU {zs:List Int} {its:List Value} (r:qf (zs.map V.int) its):IntsAre its zs:=by
 induction zs generalizing its with
 | nil=>cases r;exact .nil
 | cons x l ih =>
  cases r with
  | cons a b =>
   obtain⟨t,rfl⟩:=a
   exact .cons x t (ih b)
noncomputable def NO:List V→Hp→VK→Prop:=fun xs H Q=>∃ (d:Addr) (kvs:List (yY × V)) (ks:List Int),xs=[.ref d]∧Rd H d (.dK kvs)∧kvs.map (·.1)=ks.map Sum.inl∧ks.length<64 ∧
  ∀ zs:List Int,zs.Perm ks→zs.Pairwise (·≤·)→G9 H (.lst (zs.map V.int)) Q
theorem ZZ {X:Cx} (hcalm:X.calm=true):va X (.builtin "sorted") NO:=by
 intro pins s σ H xs us Q I r h
 obtain⟨d,kvs,ks,rfl,hd,hk,h64,q⟩:=h
 obtain⟨u,rfl,ru⟩:=ux r
 cases ru
 obtain⟨hz,hsm,vs,rel,dd⟩:=XS I.hok hd
 obtain⟨ep,hat⟩:=dd.dictAt
 have kl:kvs.length=ks.length:=by
  have:=congrArg List.length hk
  rwa [cw,cw] at this
 have rl:ks.length=vs.length:=by rw[← kl];exact Paired.length rel
 refine xg (OK:=fun zs=>zs=ks) (fun R hR=>PySem.W.kdu_collect (A:=X.A.in1) (PySem.W.kdl_dict (knd:=yk X.prog X.w) (kvs:=vs) (ep:=ep) hsm) (I.ok.hd hcalm) hat (by rw[← rl,sizeLine_eq];omega) fun h' tk acc hk hacc=>hR _ _ _ (pU (zs:=ks) ?_) rfl ?_ (I.kept (t':=tk) hk)) fun zs zs' e=>by
  subst e
  exact q zs'
 ·refine Jo (by rw[cw,show acc.toList.length=vs.length from (CB).trans hacc.1];exact rl) fun i a b e1 e2=>?_
  rw[cQ] at e1
  obtain⟨z,hz,rfl⟩:=Cd.mp e1
  obtain⟨k,x,k1,k2⟩:=hacc.2 i b (by rw[← Array.getElem?_toList];exact e2)
  obtain⟨pp,f1,f2,f3⟩:=Jh rel k1
  have g1:(kvs.map (·.1))[i]? = some pp.1:=by rw[cQ,f1];rfl
  rw[‹kvs.map (·.1)=_›,cQ,hz] at g1
  have g1:(Sum.inl z:yY)=pp.1:=Option.some.inj g1
  have f2:pp.1=k:=f2
  have g:=gb k2
  rw[← f2,← g1] at g
  exact g
 ·rw[show acc.toList.length=vs.length from (CB).trans hacc.1,← rl]
  exact h64
section
variable {P:Program} {w:World} {K:BFr} {mg:Str→Option Value} {base:Heap} {C:CT} {k:Nat} {f:Addr} {fd:FuncData} {ps:List Str} {sp:Sp} {x:Str}
theorem zL.calm (F:zL P w K mg base (OL C P w) k f fd ps sp):zL P w K mg base z8 k f fd ps (fun vs H Q _=>sp vs H Q E0):=by
 refine⟨fun vs H Q E h=>F.len vs H Q E0 h,fun A outer s H args us vs Q E hr e b v h=>codeAny_mono (F.run A outer s H args us vs Q E0 hr e b v h) fun r s' q=>?_⟩
 cases r with
 | ok f=>cases f <;> exact q
 | error e =>
  obtain⟨ea,cls,H',_,_,_,_,_,_,no⟩:=q
  exact no.elim
theorem qN.calm (M:qN P w K mg base (OL C P w) k x ps sp):qN P w K mg base z8 k x ps (fun vs H Q _=>sp vs H Q E0):=by
 obtain⟨f,fd,a,b,c,F⟩:=M
 exact⟨f,fd,a,b,c,F.calm⟩
theorem qN.imp' {CX:wN} {sp':Sp} (M:qN P w K mg base CX k x ps sp) (h:∀ vs H Q E,sp' vs H Q E→sp vs H Q E):qN P w K mg base CX k x ps sp':=by
 obtain⟨f,fd,a,b,c,F⟩:=M
 exact⟨f,fd,a,b,c,F.imp h⟩
end
end L2
namespace Pg
open PySem PySem.NumText L2 Builtin Builtin.Str
theorem Oc {K:BFr} {Cs:Nat→Addr} {cB:Addr}:∀ vs H Q E,Ze Cs vs H Q E→ZY K Cs cB vs H Q E0:=by
 rintro vs H Q E ⟨r,rfl,gd,q⟩
 refine⟨_,rfl,.inr ⟨jx r,rfl,cJ (wY gd) (by decide),fun H' s=>⟨fun r' o e ro=>?_,fun e=>?_⟩⟩⟩
 ·rw[kF gd] at e
  cases e
  exact q o H' s ro
 ·rw[kF gd] at e
  cases e
noncomputable def uP (K:BFr) (C cY cN:Addr):Sp:=fun vs H Q E=>∃ (B dx t:Addr) (es:List Be) (y:V),vs=[.ref B,y]∧Yl C H B dx t es∧es.length≤100 ∧
 ((wm K H 9999 y∧E (.ref cY) none H)∨∃ Y,y = .int Y∧0≤Y∧Y≤9999∧(Zg es Y=[]→∀ H',zq H H'→E (.ref cN) none H') ∧
  ∀ m rs,Vr (es.map yr) Y m rs→YC rs→∀ l H',zq H H'→H l=none→H' l=some (.lst (yN rs))→Q (.ref l) H')
noncomputable def u6 (K:BFr) (Cs:Nat→Addr) (C cY cN:Addr):Sp:=fun vs H Q E=>∃ (B dx t:Addr) (es:List Be) (y:V),vs=[.ref B,y]∧Yl C H B dx t es∧es.length≤100 ∧
 ((wm K H 9999 y∧E (.ref cY) none H)∨∃ Y,y = .int Y∧0≤Y∧Y≤9999∧(Zg es Y=[]→∀ H',zq H H'→E (.ref cN) none H') ∧
  ∀ m rs,Vr (es.map yr) Y m rs→YC rs→∀ l H',zq H H'→H l=none→mZ Cs H' l rs→Q (.ref l) H')
noncomputable def Jv (C:Addr):Sp:=fun vs H Q _=>∃ (B dx t:Addr) (es:List Be),vs=[.ref B]∧Yl C H B dx t es∧es.length<64∧∀ zs:List Int,zs.Perm (es.map (·.1))→zs.Pairwise (·≤·)→∀ l H',zq H H'→H l=none→H' l=some (.lst (zs.map V.int))→Q (.ref l) H'
end Pg
namespace K11
open PySem PySem.NumText L2 Pg
seal PE PA PT PW PS yW PG vq PI j7 PO PK
section
variable {P:Program} {w:World} {K:BFr} {mg:Str→Option Value} {base:Heap} {f:Addr} {fd:FuncData} {d:Nat→Addr} {cR:Addr}
set_option maxHeartbeats 8000000 in
theorem oW {C cY cN:Addr} (F:qJ K "rows" "RuleBook.rows" (zE (top 72) 2) f fd) (G:vw mg) (X:Er K mg "NoYear" cN) (KC:wo K C) (nT:zU K C "told") (C1:qN P w K mg base (jf P w) 3 "need_year" ["thing"] (JL K cY 9999)):zL P w K mg base (jf P w) 4 f fd ["self","year"] (uP K C cY cN):=by
 have nd:(["self","year","ahead"]:List Str).Nodup:=by decide +kernel
 have nc:(["other","year"]:List Str).Nodup:=by decide +kernel
 refine F.okE (N:=["self","year","ahead"]) (by walk_at"s") (fun vs H Q E h=>?_) (fun cdv A outer s H vs Q E hr h=>?_)
 ·obtain⟨B,dx,t,es,y,rfl,_⟩:=h
  rfl
 ·obtain⟨B,dx,t,es,y,rfl,BK,el,h⟩:=h
  have hu:=X3 hr
  refine' ⟨_,(zh (z4 (zp C1 hr (by decide) qz (za (pv 1) zd)))
    (zh (Ob ?c1)
    (zh (zX (zK qK (zy z7 rfl G.len boot_len (za (pv 2) zd)) ze (zI _)) (zi (qP ql rfl rfl X.at' X.ex (za zt zd))) zG)
    (zi (zx (qk uk rfl G.list j5 (za (Xg hu (z5 (pv 0) rfl) (zy (Y2 rfl) rfl G.max PyProof.Rows.boot_max (za (pv 2) zd)) (fun _ _=>rfl)) zd))))))),?main⟩
  case c1 =>
   refine' vG (i:=2) (Nc:=["other","year"]) (cl:=[("year",s.heap.objs.size+1)]) (src:=[none,some 1]) (wi:=o6 (Pu K (zP 0) "told")) (g:=z6 0) (tt:=VI (jH (VD fun i j=>.bl (decide (i≤j))) (zP 0) (zP 1))) (te:=zP 0)
    nd rfl rfl (by walk_at"c1") rfl (Xi (z5 (pv 0) rfl)) ?hb
   case hb =>
    intro fp C' s' H'
    exact⟨zN (i:=0) nc rfl (Or.inl rfl),J8 (zK VG (pv 0) (pv 1) (zI _)),pv 0⟩
  walk_at"d4"
  rcases h with ⟨ny,q⟩ | ⟨Y,rfl,Y0,Y1,qe,q⟩
  ·exact⟨_,rfl,y,rfl,.inr ⟨ny,q⟩⟩
  have tB:B≠t:=qG BK.ins BK.dic (by intro z;cases z)
  refine⟨_,rfl,_,rfl,.inl ⟨Y,rfl,Y0,Y1,t,jZ es,BK.dic,fun o=>?_⟩⟩
  refine⟨_,rfl,B,C,dx,_,_,rfl,by rw[zm tB];exact BK.ins,KC,nT,rfl,t,o,jZ es,rfl,zj,fun D hD=>?_⟩
  have ek:(jZ es).map (fun p=>kV p.1)=(es.map (·.1)).map V.int:=by
   unfold jZ
   rw[cV,cV]
   rfl
  have wd:=Y5 (H:=upd H t (.frz o (.dK (jZ es)))) (d:=t) (o:=o) (kvs:=jZ es) zj
  rw[ek] at wd
  refine u9 wd hD (by rw[cw,cw,sizeLine_eq];omega) (fun x=>match x with | .int y=>decide (y≤Y) | _=>false) id (fun x hx H' R _ r=>?_) (fun x hx _ H' R _ r=>⟨_,rfl,r⟩) ?_
  ·obtain⟨y,_,rfl⟩:=cH.mp hx
   exact⟨_,rfl,_,rfl,_,_,rfl,rfl,_,rfl,r⟩
  have ea:(((es.map (·.1)).map V.int).filter fun x=>match x with | .int y=>decide (y≤Y) | _=>false).map id=(Zg es Y).map V.int:=by
   rw[List.map_id,List.filter_map]
   rfl
  rw[ea]
  have Dt:D≠t:=fun z=>by rw[z,zj] at hD;cases hD
  have sf:zq (upd H t (.frz o (.dK (jZ es)))) (upd (upd H t (.frz o (.dK (jZ es)))) D (.lst ((Zg es Y).map V.int))):=zq.upd hD
  refine⟨by rw[zm (Ne.symm Dt)];exact zj,?_⟩
  have S1:zq H (upd (upd (upd H t (.frz o (.dK (jZ es)))) D (.lst ((Zg es Y).map V.int))) t (.dK (jZ es))):=Y3 BK.dic sf
  have e1:(upd (upd (upd H t (.frz o (.dK (jZ es)))) D (.lst ((Zg es Y).map V.int))) t (.dK (jZ es))) D=some (.lst ((Zg es Y).map V.int)):=by rw[zm Dt,zj]
  generalize upd (upd (upd H t (.frz o (.dK (jZ es)))) D (.lst ((Zg es Y).map V.int))) t (.dK (jZ es))=H1 at S1 e1
  have B1:=BK.fr fun b o h=>S1 _ _ h
  refine⟨_,rfl,D,_,rfl,.inl (zZ.of e1),rfl,_,rfl,ye (fun e=>⟨by decide,qe ?_ H1 S1⟩) (fun e=>?_)⟩
  ·rw[JK,cw] at e
   exact dP.mp (by omega)
  have ne:Zg es Y≠[]:=fun z=>e (by rw[z];exact decide_eq_true rfl)
  obtain⟨m,hm,top⟩:=OT ne
  obtain⟨en,he,em,pk⟩:=Ue hm top
  have gd:JP H1 t (.int m) (some (.ref en.2.1)):=by
   rw[← em,← Pm B1.nd he]
   exact JP.k (k:=Sum.inl en.1) B1.dic
  refine⟨_,rfl,B,C,dx,_,_,rfl,B1.ins,KC,nT,rfl,_,rfl,D,_,m,rfl,zZ.of e1,hm,top,t,_,rfl,gd,en.2.1,_,rfl,.inl (zZ.of (B1.row en he)),fun b b0=>?_⟩
  exact q m en.2.2 pk (B1.ok en he) b _ (S1.trans (zq.upd b0)) (S1.free b0) zj
theorem gC {Cs:Nat→Addr} {C cY cN:Addr} {j:Nat} (hj:4≤j) (F:qJ K "rules" "RuleBook.rules" (zE (top 72) 3) f fd) (M1:qU P w K mg base (jf P w) 4 C "rows" ["self","year"] (uP K C cY cN)) (C1:qN P w K mg base z8 j "rule_of" ["text"] (Ze Cs)):zL P w K mg base (jf P w) (j+1) f fd ["self","year"] (u6 K Cs C cY cN):=by
 have nc:(["row"]:List Str).Nodup:=by decide +kernel
 refine F.okE (N:=["self","year"]) (by walk_at"s") (fun vs H Q E h=>?_) (fun cdv A outer s H vs Q E hr h=>?_)
 ·obtain⟨B,dx,t,es,y,rfl,_⟩:=h
  rfl
 ·obtain⟨B,dx,t,es,y,rfl,BK,el,h⟩:=h
  refine' ⟨_,zi (zx ?comp),?main⟩
  case comp =>
   refine' qm (Nc:=["row"]) (cl:=[]) (src:=[none]) (wi:=uw K (nP C "rows" (uP K C cY cN) E (zP 0) (qi (zP 1) yd))) (g:=z6 0) (tt:=qv) (te:=fun σ H Q=>qi (zP 0) yd σ H fun vs H1=>Ze Cs vs H1 Q E0)
    (by walk_at"c0") rfl (yI (kH M1 hr hj qz (pv 0) (za (pv 1) zd))) ?hb
   case hb =>
    intro fp C' s' H'
    exact⟨zN (i:=0) nc rfl (Or.inl rfl),qj,zp C1 hr (cx _) zC (za (pv 0) zd)⟩
  try (walk_at"d4")
  rcases h with ⟨ny,q⟩ | ⟨Y,rfl,Y0,Y1,qe,q⟩
  ·exact⟨_,rfl,B,dx,_,rfl,BK.ins,rfl,_,rfl,B,dx,t,es,y,rfl,BK,el,.inl ⟨ny,q⟩⟩
  refine⟨_,rfl,B,dx,_,rfl,BK.ins,rfl,_,rfl,B,dx,t,es,_,rfl,BK,el,.inr ⟨Y,rfl,Y0,Y1,qe,fun m rs pk ok l H1 s1 n1 e1=>?_⟩⟩
  have few:=ok.few
  refine⟨l,rfl,⟨_,zZ.of e1⟩,fun D hD=>VO (yp (zZ.of e1)) (xy rs) hD (by rw[sizeLine_eq];omega) (fun H' u r=>uu Cs H' r u) (fun kp h=>h.keep kp) (fun i r hr' v H2 R s2 e2 k=>?_) (fun ys H2 s2 e2 M=>?_)⟩
  ·subst e2
   exact⟨_,rfl,r,rfl,ok.gd r (CC hr'),fun o H3 s3 ro=>k o H3 s3 ro⟩
  ·exact q m rs pk ok D H2 (s1.trans s2) (s1.free hD) ⟨ys,e2,Gh.items M fun H' s v r h=>h.same s⟩
theorem gL {C:Addr} (F:qJ K "years" "RuleBook.years" (zE (top 72) 4) f fd) (G:vw mg) (KC:wo K C) (nT:zU K C "told"):zL P w K mg base z8 1 f fd ["self"] (Jv C):=by
 refine F.ok (N:=["self"]) (by walk_at"s") (fun vs H Q E h=>?_) (fun cdv A outer s H vs Q E hr h=>?_)
 ·obtain⟨B,dx,t,es,rfl,_⟩:=h
  rfl
 ·obtain⟨B,dx,t,es,rfl,BK,el,q⟩:=h
  refine⟨_,zi (zx (zy (ZZ rfl) rfl G.sorted PyProof.Rows.boot_sorted (za (z5 (pv 0) rfl) zd))),?_⟩
  refine⟨_,rfl,B,C,dx,_,_,rfl,BK.ins,KC,nT,rfl,t,jZ es,es.map (·.1),rfl,.inl BK.dic,?_,by rw[cw];exact el,fun zs p1 p2 l H1 s1 n1 e1=>q zs p1 p2 l H1 s1 n1 e1⟩
  unfold jZ
  rw[cV,cV]
  rfl
end
end K11
namespace L2
open PySem PySem.Spec PyProof PyProof.Rows
section
variable {X:Cx} {pins:List (Addr × Obj)} {σ:St} {H:Hp} {s:Shared}
end
end L2
namespace Pg
open PySem PySem.NumText L2 Builtin Builtin.Str
noncomputable def Xu:Sp:=fun vs H Q _=>∃ c,vs=[.int c]∧∀ (ys:List Int) l H',ys.length=8→(∀ y∈ys,0≤y∧y≤9999)→zq H H'→H l=none→H' l=some (.lst (ys.map V.int))→Q (.ref l) H'
noncomputable def xj (K:BFr):Sp:=fun vs H Q _=>∃ n,vs=[.int n]∧0≤n∧∀ v H',zq H H'→wm K H' 9999 v→Q v H'
noncomputable def rz (i:Nat):Str:=(["amount","share","text","month","year","rule","book","noyear","day","entry","mark","person","many","close","line"]:List Str).getD i ""
noncomputable def kE (K:BFr) (d:Nat→Addr):Sp:=fun vs H Q _=>∃ ea C i,vs=[.ref ea]∧Gk K H ea C∧JM K d C i∧(i=4∨i=5∨i=6∨i=7)∧∀ H',zq H H'→Q (.str (rz i)) H'
noncomputable def mE (r:Rk):List V:=[.str (jx r),.str r.name]
noncomputable def vD (H:Hp) (l:Addr) (rs:List Rk):Prop:=∃ ys,H l=some (.lst ys)∧qd H ys (rs.map mE)
theorem vD.same {H H':Hp} {l:Addr} {rs:List Rk} (s:zq H H') (h:vD H l rs):vD H' l rs:=by
 obtain⟨ys,e,T⟩:=h
 exact⟨ys,s _ _ e,T.same s⟩
noncomputable def Vg (K:BFr) (C:Addr):Sp:=fun vs H Q _=>∃ (B dx t:Addr) (es:List Be) (wy:Int) (y:V),vs=[.ref B,.int wy,y]∧Yl C H B dx t es∧es.length≤100 ∧
 ((wm K H 9999 y∧∀ l H',zq H H'→H' l=some (.tup [.str "year"])→Q (.ref l) H')∨∃ Y,y = .int Y∧0≤Y∧Y≤9999∧(Zg es Y=[]→∀ l H',zq H H'→H' l=some (.tup [.str "noyear"])→Q (.ref l) H') ∧
  ∀ m rs,Vr (es.map yr) Y m rs→YC rs→∀ l H',zq H H'→H l=none→(wy=0→vD H' l rs→Q (.ref l) H')∧(wy≠0→H' l=some (.lst (yN rs))→Q (.ref l) H'))
end Pg
namespace K11
open PySem PySem.NumText L2 Pg
seal PE PA PT PW PS yW PG vq PI j7 PO PK
section
variable {P:Program} {w:World} {K:BFr} {mg:Str→Option Value} {base:Heap} {f:Addr} {fd:FuncData} {d:Nat→Addr} {cR:Addr}
theorem LR (F:qJ K "_law_years" "_law_years" (top 86) f fd) (G:vw mg) (C1:qN P w K mg base z8 1 "_law_mixed" ["_law_cell","_law_k"] yQ):zL P w K mg base z8 2 f fd ["_law_cell"] Xu:=by
 have nd:(["_law_cell","_law_first"]:List Str).Nodup:=by decide +kernel
 have nc:(["_law_k","_law_first"]:List Str).Nodup:=by decide +kernel
 refine F.ok (N:=["_law_cell","_law_first"]) (by walk_at"s") (fun vs H Q E h=>?_) (fun cdv A outer s H vs Q E hr h=>?_)
 ·obtain⟨c,rfl,_⟩:=h
  rfl
 ·obtain⟨c,rfl,q⟩:=h
  refine' ⟨_,(zh (zQ (i:=1) nd rfl (Or.inr rfl) (zu zW (zp C1 hr (by decide) zC (za (pv 0) (za ze zd))) ze))
    (zi (zx (zu jt (zS (za ze (za ze zd))) ?comp)))),?main⟩
  case comp =>
   refine' qm (Nc:=["_law_k","_law_first"]) (cl:=[("_law_first",s.heap.objs.size+1)]) (src:=[none,some 1]) (wi:=Zz (qi (tC (.int 6)) yd)) (g:=z6 0) (tt:=qv) (te:=jH (VD fun i j=>.int (i+j)) (zP 1) (jH (mr K) (Mo (qi (tC (.int 0)) (qi (tC (.int 1)) (qi (tC (.int 2)) (qi (tC (.int 4)) (qi (tC (.int 7)) (qi (tC (.int 9)) yd))))))) (zP 0)))
    (by walk_at"c1") rfl (yu rfl G.range (za ze zd)) ?hb
   case hb =>
    intro fp C' s' H'
    exact⟨zN (i:=0) nc rfl (Or.inl rfl),qj,zu qA (pv 1) (zD zw (zS (za ze (za ze (za ze (za ze (za ze (za ze zd))))))) (pv 0))⟩
  try (walk_at"d4")
  refine⟨_,rfl,c,_,rfl,fun m m0 m1=>⟨_,_,rfl,rfl,(by show (0:Int)<9990;decide),?_⟩⟩
  have f0:0≤m%9990:=cU _ (by decide)
  have f1:m%9990<9990:=Ca _ (by decide)
  refine⟨qa rfl,fun l1 H1 s1 n1 e1=>⟨6,rfl,by decide,by decide,fun D hD=>vT (xs:=List.range 6) vo (by rw[cw];rfl) hD (by rw[Cj,sizeLine_eq];decide) (fun v _=>∃ y,v = .int y∧0≤y∧y≤9999) (fun i x v hx hv H2 R s2 r=>?_) (fun zs H2 s2 zl zk e2=>?_)⟩⟩
  ·have hv:((List.range 6).map fun k=>V.int (0+(k:Nat)))[i]? = some v:=hv
   rw[cQ,hx] at hv
   cases hv
   have hx6:x<6:=Dp.mp (CC hx)
   refine⟨_,rfl,qa rfl,fun l2 H3 s3 n3 e3=>?_⟩
   obtain⟨v,ev,mv⟩:=yV (xs:=[V.int 0,.int 1,.int 2,.int 4,.int 7,.int 9]) (i:=0+(x:Nat)) (by omega) (by show (0:Int)+(x:Nat)<6;omega)
   refine⟨_,rfl,l2,_,_,_,rfl,rfl,zZ.of e3,ev,?_⟩
   obtain⟨z,rfl,z0,z9⟩:∃ z,v = .int z∧0≤z∧z≤9:=by
    simp only[cy,cA,or_false] at mv
    rcases mv with rfl | rfl | rfl | rfl | rfl | rfl <;> exact⟨_,rfl,by decide,by decide⟩
   exact⟨_,_,rfl,rfl,r _ H3 ⟨_,rfl,by omega,by omega⟩ s3⟩
  ·rw[Cj] at zl
   obtain⟨ys,hys⟩:∃ ys:List Int,zs=ys.map V.int∧∀ y∈ys,0≤y∧y≤9999:=by
    clear e2 zl
    have:∀ v∈zs,∃ y,v = .int y∧0≤y∧y≤9999:=fun v hv=>by
     obtain⟨i,hi⟩:=Dh.mp hv
     obtain⟨_,_,h⟩:=zk i v hi
     exact h
    clear zk
    induction zs with
    | nil=>exact⟨[],rfl,fun _ h=>nomatch h⟩
    | cons v r ih =>
     obtain⟨y,rfl,hy⟩:=this v cX
     obtain⟨ys,rfl,h⟩:=ih fun v hv=>this v (cP _ hv)
     exact⟨y::ys,rfl,fun z hz=>by
      rcases cy.mp hz with rfl | hz
      ·exact hy
      ·exact h z hz⟩
   obtain⟨rfl,hy⟩:=hys
   rw[cw] at zl
   refine⟨l1,D,_,_,rfl,rfl,s2 _ _ e1,e2,(by rw[cw,zl,sizeLine_eq];decide),fun l3 H3 s3 n3 e3=>?_⟩
   refine q ([0,9999]++ys) l3 H3 (by rw[cG,zl];rfl) (fun y hy'=>?_) (s1.trans (s2.trans s3)) (uM (s1.trans s2) n3) (by rw[e3,Ce];rfl)
   rcases Cu.mp hy' with h | h
   ·simp only[cy,cA,or_false] at h
    rcases h with rfl | rfl <;> exact⟨by decide,by decide⟩
   ·exact hy y h
theorem NK (F:qJ K "_law_no_year" "_law_no_year" (top 87) f fd):zL P w K mg base z8 1 f fd ["_law_number"] (xj K):=by
 refine F.ok (N:=["_law_number"]) (by walk_at"s") (fun vs H Q E h=>?_) (fun cdv A outer s H vs Q E hr h=>?_)
 ·obtain⟨n,rfl,_⟩:=h
  rfl
 ·obtain⟨n,rfl,n0,q⟩:=h
  refine⟨_,(zi (zx (zD zw (zS (za (oU WK ze) (za ze (za yM (za Zk (za zt (za (zS (za ze zd)) (za yM (za (zu qA ze (pv 0)) zd))))))))) (zu zW (pv 0) ze)))),?_⟩
  try (walk_at"d4")
  refine⟨_,rfl,qa rfl,fun l1 H1 s1 n1 e1=>⟨_,rfl,_,_,rfl,rfl,qa rfl,fun l2 H2 s2 n2 e2=>?_⟩⟩
  obtain⟨v,ev,mv⟩:=yV (xs:=[V.int (-1),V.int 10000,V.bl true,V.non,V.str "2031",V.ref l1,V.bl false,V.int (10000+n)]) (i:=n%8) (cU _ (by decide)) (Ca _ (by decide))
  refine⟨_,rfl,_,_,rfl,rfl,(by show (0:Int)<8;decide),l2,_,_,_,rfl,rfl,zZ.of e2,ev,q v H2 (s1.trans s2) ?_⟩
  simp only[cy,cA,or_false] at mv
  rcases mv with rfl | rfl | rfl | rfl | rfl | rfl | rfl | rfl
  ·exact .inr ⟨_,rfl,by omega⟩
  ·exact .inr ⟨_,rfl,by omega⟩
  ·exact .inl (m9 true)
  ·exact .inl LY
  ·exact .inl (Nw _)
  ·exact .inl (NC (s2 _ _ e1))
  ·exact .inl (m9 false)
  ·exact .inr ⟨_,rfl,by omega⟩
set_option maxHeartbeats 16000000 in
theorem lY (F:qJ K "_law_word" "_law_word" (top 85) f fd) (G:vw mg) (D:BB mg d):U6 P w K mg base 1 f fd ["_law_e"] (kE K d):=by
 have nd:(["_law_e","_law_found","_law_words"]:List Str).Nodup:=by decide +kernel
 refine F.okQ (N:=["_law_e","_law_found","_law_words"]) (by walk_at"s") (fun vs H Q E h=>?_) (fun cdv A outer s H vs Q hr hq h=>?_)
 ·obtain⟨ea,C,i,rfl,_⟩:=h
  rfl
 ·obtain⟨ea,C,i,rfl,h0,kd,hi,q⟩:=h
  refine' ⟨_,(u7 (zQ (i:=1) nd rfl (Or.inl rfl) (zS (za (zy zH rfl G.isinstance zv (za (pv 0) (za (zY (v:=.ref (d 0)) rfl D.g0 rfl) zd))) (za (zy zH rfl G.isinstance zv (za (pv 0) (za (zY (v:=.ref (d 1)) rfl D.g1 rfl) zd))) (za (zy zH rfl G.isinstance zv (za (pv 0) (za (zY (v:=.ref (d 2)) rfl D.g2 rfl) zd))) (za (zy zH rfl G.isinstance zv (za (pv 0) (za (zY (v:=.ref (d 3)) rfl D.g3 rfl) zd))) zd))))))
    (u7 (zQ (i:=1) nd rfl (Or.inl rfl) (zu jt (pv 1) (zS (za (zy zH rfl G.isinstance zv (za (pv 0) (za (zY (v:=.ref (d 4)) rfl D.g4 rfl) zd))) (za (zy zH rfl G.isinstance zv (za (pv 0) (za (zY (v:=.ref (d 5)) rfl D.g5 rfl) zd))) (za (zy zH rfl G.isinstance zv (za (pv 0) (za (zY (v:=.ref (d 6)) rfl D.g6 rfl) zd))) (za (zy zH rfl G.isinstance zv (za (pv 0) (za (zY (v:=.ref (d 7)) rfl D.g7 rfl) zd))) zd)))))))
    (u7 (zQ (i:=1) nd rfl (Or.inl rfl) (zu jt (pv 1) (zS (za (zy zH rfl G.isinstance zv (za (pv 0) (za (zY (v:=.ref (d 8)) rfl D.g8 rfl) zd))) (za (zy zH rfl G.isinstance zv (za (pv 0) (za (zY (v:=.ref (d 9)) rfl D.g9 rfl) zd))) (za (zy zH rfl G.isinstance zv (za (pv 0) (za (zY (v:=.ref (d 10)) rfl D.g10 rfl) zd))) (za (zy zH rfl G.isinstance zv (za (pv 0) (za (zY (v:=.ref (d 11)) rfl D.g11 rfl) zd))) zd)))))))
    (u7 (zQ (i:=1) nd rfl (Or.inl rfl) (zu jt (pv 1) (zS (za (zy zH rfl G.isinstance zv (za (pv 0) (za (zY (v:=.ref (d 12)) rfl D.g12 rfl) zd))) (za (zy zH rfl G.isinstance zv (za (pv 0) (za (zY (v:=.ref (d 13)) rfl D.g13 rfl) zd))) (za (zy zH rfl G.isinstance zv (za (pv 0) (za (zY (v:=.ref (d 14)) rfl D.g14 rfl) zd))) zd))))))
    (zh (zQ (i:=2) nd rfl (Or.inl rfl) (zS (za zt (za zt (za zt (za zt (za zt (za zt (za zt (za zt (za zt (za zt (za zt (za zt zd))))))))))))))
    (zh (zX (PW.pt (vE (zK XY (yL PySem.F.plainAttrs_list PySem.F.slot_list_count PySem.F.type_list_count Os (pv 1) (za yM zd)) ze (zI _)) (jU (qu (qt (zy zH rfl G.isinstance zv (za (pv 0) (za (yB (v:=.ty "ValueError") rfl G.ve Ls rfl) zd)))))))) (zi (zx zt)) zG)
    (zi (zx (zD zw (zu jt (pv 2) (zS (za zt (za zt (za zt zd))))) (yL PySem.F.plainAttrs_list PySem.F.slot_list_index PySem.F.type_list_index oR (pv 1) (za yM zd))))))))))),?main⟩
  refine Zf (fun σ H'=>∃ l,σ = [some (.ref ea),some (.ref l),none]∧zq H H'∧H' l=some (.lst ([decide (i=0),decide (i=1),decide (i=2),decide (i=3)].map V.bl))) (fun Ek kk=>?_) ?_
  ·exact⟨_,rfl,_,_,_,_,_,rfl,rfl,h0.ty,kd.k0,_,rfl,_,_,_,_,_,rfl,rfl,h0.ty,kd.k1,_,rfl,_,_,_,_,_,rfl,rfl,h0.ty,kd.k2,_,rfl,_,_,_,_,_,rfl,rfl,h0.ty,kd.k3,qa rfl,fun l1 H1 s1 n1 e1=>kk _ _ ⟨l1,rfl,s1,e1⟩⟩
  rintro σ H1 ⟨l1,rfl,s1,e1⟩
  have h1:=h0.same s1
  refine Zf (fun σ H'=>∃ l,σ = [some (.ref ea),some (.ref l),none]∧zq H H'∧H' l=some (.lst ([decide (i=0),decide (i=1),decide (i=2),decide (i=3),decide (i=4),decide (i=5),decide (i=6),decide (i=7)].map V.bl))) (fun Ek kk=>?_) ?_
  ·exact⟨_,rfl,_,rfl,_,_,_,_,_,rfl,rfl,h1.ty,kd.k4,_,rfl,_,_,_,_,_,rfl,rfl,h1.ty,kd.k5,_,rfl,_,_,_,_,_,rfl,rfl,h1.ty,kd.k6,_,rfl,_,_,_,_,_,rfl,rfl,h1.ty,kd.k7,qa rfl,fun l2 H2 s2 n2 e2=>⟨l1,l2,_,_,rfl,rfl,s2 _ _ e1,e2,by rw[sizeLine_eq];exact Cf rfl,fun l3 H3 s3 n3 e3=>kk _ _ ⟨l3,rfl,s1.trans (s2.trans s3),e3⟩⟩⟩
  rintro σ H3 ⟨l3,rfl,S3,e3⟩
  have h3:=h0.same S3
  refine Zf (fun σ H'=>∃ l,σ = [some (.ref ea),some (.ref l),none]∧zq H H'∧H' l=some (.lst ([decide (i=0),decide (i=1),decide (i=2),decide (i=3),decide (i=4),decide (i=5),decide (i=6),decide (i=7),decide (i=8),decide (i=9),decide (i=10),decide (i=11)].map V.bl))) (fun Ek kk=>?_) ?_
  ·exact⟨_,rfl,_,rfl,_,_,_,_,_,rfl,rfl,h3.ty,kd.k8,_,rfl,_,_,_,_,_,rfl,rfl,h3.ty,kd.k9,_,rfl,_,_,_,_,_,rfl,rfl,h3.ty,kd.k10,_,rfl,_,_,_,_,_,rfl,rfl,h3.ty,kd.k11,qa rfl,fun l4 H4 s4 n4 e4=>⟨l3,l4,_,_,rfl,rfl,s4 _ _ e3,e4,by rw[sizeLine_eq];exact Cf rfl,fun l5 H5 s5 n5 e5=>kk _ _ ⟨l5,rfl,S3.trans (s4.trans s5),e5⟩⟩⟩
  rintro σ H5 ⟨l5,rfl,S5,e5⟩
  have h5:=h0.same S5
  refine Zf (fun σ H'=>∃ l,σ = [some (.ref ea),some (.ref l),none]∧zq H H'∧H' l=some (.lst ([decide (i=0),decide (i=1),decide (i=2),decide (i=3),decide (i=4),decide (i=5),decide (i=6),decide (i=7),decide (i=8),decide (i=9),decide (i=10),decide (i=11),decide (i=12),decide (i=13),decide (i=14)].map V.bl))) (fun Ek kk=>?_) ?_
  ·exact⟨_,rfl,_,rfl,_,_,_,_,_,rfl,rfl,h5.ty,kd.k12,_,rfl,_,_,_,_,_,rfl,rfl,h5.ty,kd.k13,_,rfl,_,_,_,_,_,rfl,rfl,h5.ty,kd.k14,qa rfl,fun l6 H6 s6 n6 e6=>⟨l5,l6,_,_,rfl,rfl,s6 _ _ e5,e6,by rw[sizeLine_eq];exact Cf rfl,fun l7 H7 s7 n7 e7=>kk _ _ ⟨l7,rfl,S5.trans (s6.trans s7),e7⟩⟩⟩
  rintro σ H7 ⟨l7,rfl,S7,e7⟩
  refine⟨qa rfl,fun wl H8 s8 n8 e8=>?_⟩
  have e7':=s8 _ _ e7
  have h8:=(h0.same S7).same s8
  have S8:=S7.trans s8
  have c1:([decide (i=0),decide (i=1),decide (i=2),decide (i=3),decide (i=4),decide (i=5),decide (i=6),decide (i=7),decide (i=8),decide (i=9),decide (i=10),decide (i=11),decide (i=12),decide (i=13),decide (i=14)]).countP id=1:=by rcases hi with rfl | rfl | rfl | rfl <;> rfl
  refine⟨_,rfl,.inl ⟨rfl,_,zZ.of e7'⟩,l7,_,rfl,rfl,e7',rfl,_,rfl,?_⟩
  rw[c1]
  refine qD ⟨_,rfl,_,_,_,_,_,rfl,rfl,h8.ty,kd.ve,_,rfl,qD ?_⟩
  refine⟨_,rfl,qa rfl,fun l9 H9 s9 n9 e9=>⟨wl,l9,_,_,rfl,rfl,s9 _ _ e8,e9,by decide,fun la Ha sa na ea'=>?_⟩⟩
  have e7a:=sa _ _ (s9 _ _ e7')
  refine⟨_,rfl,.inl ⟨rfl,_,zZ.of e7a⟩,l7,_,i,rfl,rfl,e7a,?_,(fun m hm=>?_),la,_,_,_,rfl,rfl,zZ.of ea',?_,q Ha (S8.trans (s9.trans sa))⟩
  ·rcases hi with rfl | rfl | rfl | rfl <;> rfl
  ·rcases hi with rfl | rfl | rfl | rfl
   ·match m,hm with
    | 0,_=>rfl
    | 1,_=>rfl
    | 2,_=>rfl
    | 3,_=>rfl
   ·match m,hm with
    | 0,_=>rfl
    | 1,_=>rfl
    | 2,_=>rfl
    | 3,_=>rfl
    | 4,_=>rfl
   ·match m,hm with
    | 0,_=>rfl
    | 1,_=>rfl
    | 2,_=>rfl
    | 3,_=>rfl
    | 4,_=>rfl
    | 5,_=>rfl
   ·match m,hm with
    | 0,_=>rfl
    | 1,_=>rfl
    | 2,_=>rfl
    | 3,_=>rfl
    | 4,_=>rfl
    | 5,_=>rfl
    | 6,_=>rfl
  ·rcases hi with rfl | rfl | rfl | rfl <;> rfl
set_option maxHeartbeats 8000000 in
theorem lR {Cs:Nat→Addr} {C:Addr} {j:Nat} (hj:4≤j) (F:qJ K "_law_told" "_law_told" (top 89) f fd) (mgR:mg "RollError" = some (.ref cR)) (Z4:Rz K d cR 4) (Z7:Rz K d cR 7) (CL:∀ k,k<6→wo K (Cs k)) (NM:∀ k,k<6→zU K (Cs k) "name") (M1:qU P w K mg base (jf P w) 4 C "rows" ["self","year"] (uP K C (d 4) (d 7))) (M2:qU P w K mg base (jf P w) j C "rules" ["self","year"] (u6 K Cs C (d 4) (d 7))) (MR:∀ k,k<6→qU P w K mg base z8 4 (Cs k) "row" ["self"] (yK 3 k Cs)) (Ck:lO P w K mg base 1 "_law_word" ["_law_e"] (kE K d)):zL P w K mg base z8 (j+1) f fd ["_law_book","_law_way_here","_law_year"] (Vg K C):=by
 have nd:(["_law_book","_law_way_here","_law_year","_law_e"]:List Str).Nodup:=by decide +kernel
 have nc:(["_law_rule_here"]:List Str).Nodup:=by decide +kernel
 refine F.ok (N:=["_law_book","_law_way_here","_law_year","_law_e"]) (by walk_at"s") (fun vs H Q E h=>?_) (fun cdv A outer s H vs Q E hr h=>?_)
 ·obtain⟨B,dx,t,es,wy,y,rfl,_⟩:=h
  rfl
 ·obtain⟨B,dx,t,es,wy,y,rfl,BK,el,h⟩:=h
  obtain⟨R,hR⟩:∃ R:XK,R=fun cls _ H'=>∃ i,(i=4∨i=7)∧cls = .ref (d i)∧zq H H'∧∀ l H'',zq H H''→H'' l=some (.tup [.str (rz i)])→Q (.ref l) H'':=⟨_,rfl⟩
  refine' ⟨_,zi (NU (R:=R) (i:=3) (th:=fun ea=>gu (UB (qi (Vj ((A.deeper (PyProof.Rows.envOfC "_law_told" (zO (top 89)) s.heap.objs.size f cdv)).mark (some (.ref ea))) (kE K d) (qi (zP 3) yd)) yd))) (tb:=NL (r9 (VI (jH bt (zP 1) (tC (.int 0)))) (gu (QT [none] (uw K (nP C "rules" (u6 K Cs C (d 4) (d 7)) R (zP 0) (qi (zP 2) yd))) (z6 0) qv (UB (qi (fun σ H Q=>∃ k,k<6∧nP (Cs k) "row" (yK 3 k Cs) E0 (zP 0) yd σ H Q) (qi (Pu K (zP 0) "name") yd))))) mY) (gu (nP C "rows" (uP K C (d 4) (d 7)) R (zP 0) (qi (zP 2) yd))))
   rfl rfl rfl mgR (fun cls o H' z=>by
    rw[hR] at z
    obtain⟨i,hi,rfl,_⟩:=z
    rcases hi with rfl | rfl
    ·exact Z4.ex
    ·exact Z7.ex) nd rfl rfl ?body
   (fun pn ea E=>zi (zx (yg (za (XA (j:=j) Ck ⟨hr.dp,hr.un⟩ (by omega) (za (pv 3) zd)) zd))))),?m1,?m2⟩
  case body =>
   intro pn
   refine' zh (zX (zK qK (pv 1) ze (zI _)) (zi (zx ?comp)) zG) (zi (zx (kH M1 hr hj P6 (pv 0) (za (pv 2) zd))))
   refine' qm (Nc:=["_law_rule_here"]) (cl:=[]) (src:=[none]) (g:=z6 0) (tt:=qv)
    (by walk_at"c0") rfl (yI (kH M2 hr (cx _) P6 (pv 0) (za (pv 2) zd))) ?hb
   intro fp C' s' H'
   exact⟨zN (i:=0) nc rfl (Or.inl rfl),qj,yg (za (uY (p:=fun k=>k<6) fun k hk=>y6 (MR k hk) hr hj zC (pv 0)) (za (z5 (pv 0) rfl) zd))⟩
  case m1 =>
   subst hR
   by_cases w0:wy=0
   ·refine⟨_,rfl,rfl,_,rfl,?_⟩
    rw[w0,decide_eq_true rfl]
    refine qV ⟨_,rfl,B,dx,_,rfl,BK.ins,rfl,_,rfl,B,dx,t,es,y,rfl,BK,el,?_⟩
    rcases h with ⟨ny,q⟩ | ⟨Y,rfl,Y0,Y1,qe,q⟩
    ·exact .inl ⟨ny,4,.inl rfl,rfl,zq.refl _,q⟩
    ·refine .inr ⟨Y,rfl,Y0,Y1,fun e H' s'=>⟨7,.inr rfl,rfl,s',qe e⟩,fun m rs pk ok l H1 s1 n1 ⟨ys,e1,T⟩=>?_⟩
     have few:=ok.few
     refine⟨l,rfl,⟨_,zZ.of e1⟩,fun D hD=>Zh (yp (zZ.of e1)) T hD (by rw[sizeLine_eq];omega) mE (fun r hm v H2 R' s2 ro rr=>?_) (fun zs H2 s2 e2 TT=>?_)⟩
     ·obtain⟨oa,dxo,fs,rfl,ho,nm,no⟩:=ro.obj (ok.gd r hm)
      have k6:=nS r
      exact⟨r.kd,k6,_,rfl,oa,dxo,fs,rfl,ho,no "row" (by decide),_,r,rfl,rfl,ro,ok.gd r hm,fun H3 s3=>⟨_,rfl,oa,_,dxo,fs,_,rfl,s3 _ _ ho,CL _ k6,NM _ k6,nm,qa rfl,fun l4 H4 s4 n4 e4=>rr l4 H4 (s3.trans s4) (uM s3 n4) e4⟩⟩
     ·exact (q m rs pk ok D H2 (s1.trans s2) (s1.free hD)).1 w0 ⟨zs,e2,TT⟩
   ·refine⟨_,rfl,rfl,_,rfl,?_⟩
    rw[decide_eq_false fun c=>w0 (V.int.inj c)]
    refine qD ⟨_,rfl,B,dx,_,rfl,BK.ins,rfl,_,rfl,B,dx,t,es,y,rfl,BK,el,?_⟩
    rcases h with ⟨ny,q⟩ | ⟨Y,rfl,Y0,Y1,qe,q⟩
    ·exact .inl ⟨ny,4,.inl rfl,rfl,zq.refl _,q⟩
    ·exact .inr ⟨Y,rfl,Y0,Y1,fun e H' s'=>⟨7,.inr rfl,rfl,s',qe e⟩,fun m rs pk ok l H1 s1 n1 e1=>(q m rs pk ok l H1 s1 n1).2 w0 e1⟩
  case m2 =>
   subst hR
   rintro ea oe vs cls σ' H' ⟨i,hi,rfl,s1,q⟩ hne hcl hd1 hd2 h2 hlen
   have kd:JM K d (d i) i:=by
    rcases hi with rfl | rfl
    ·exact Z4.kd
    ·exact Z7.kd
   exact⟨.ref ea,dY (by rw[hlen];show 3<4;decide),.inr ⟨ea,oe,vs,_,rfl,zj,hd2,.inl h2⟩,ea,d i,i,rfl,⟨⟨oe,vs,zj,hcl,hd1,hd2⟩,kd.cls⟩,kd,(by rcases hi with rfl | rfl <;> simp),fun H2 s2=>⟨qa rfl,fun l H3 s3 n3 e3=>q l H3 ((s1.trans (zq.upd hne)).trans (s2.trans s3)) e3⟩⟩
end
end K11
namespace Pg
theorem XR:∀ {l m:List Int},l.Pairwise (· < ·)→m.Pairwise (· < ·)→(∀ z,z∈l↔z∈m)→l=m
 | [],[],_,_,_=>rfl
 | [],b::m,_,_,h=>absurd ((h b).mpr cX) (by simp)
 | a::l,[],_,_,h=>absurd ((h a).mp cX) (by simp)
 | a::l,b::m,h1,h2,h=>by
  rw[Dz] at h1 h2
  have e:a=b:=by
   rcases cy.mp ((h a).mp cX) with e | e
   ·exact e
   ·rcases cy.mp ((h b).mpr cX) with e' | e'
    ·exact e'.symm
    ·have:=h2.1 a e
     have:=h1.1 b e'
     omega
  subst e
  congr 1
  refine XR h1.2 h2.2 fun z=>⟨fun hz=>?_,fun hz=>?_⟩
  ·rcases cy.mp ((h z).mp (cP _ hz)) with e | e
   ·have:=h1.1 z hz
    omega
   ·exact e
  ·rcases cy.mp ((h z).mpr (cP _ hz)) with e | e
   ·have:=h2.1 z hz
    omega
   ·exact e
end Pg
namespace L2
open PySem PySem.Spec PyProof.Rows
section
variable {J:It} {D:Addr} {te:TE} {fin:List V→Hp→Prop} {σ:St} {H:Hp} {ys:List V} {α:Type} {xs:List α}
theorem Zj {K:BFr} {c1 c2:α→V} (W:Zq J H ys) (T:qd H ys (xs.map fun x=>[c1 x,c2 x])) (hD:H D=none) (hz:xs.length<sizeLine) (φ:α→V) (he:∀ q∈xs,∀ H' R,zq H H'→(∀ H'',zq H' H''→R (φ q) H'')→te ((σ.set 0 (some (c1 q))).set 1 (some (c2 q))) H' R) (hf:∀ H',zq H H'→H' D=some (.lst (xs.map φ))→fin (xs.map φ) H'):ja J D (UI K 2 (vp (z6 0) (vp (z6 1) Uz))) qv te fin σ (upd H D (.lst [])):=by
 have tl:ys.length=xs.length:=by rw[T.len,cw]
 refine jA W hD (fun i zs H'=>zs=(xs.take i).map φ) (fun σ'=>∀ x y,(σ'.set 0 x).set 1 y=(σ.set 0 x).set 1 y) (fun _ _=>rfl) rfl ?_ ?_
 ·rintro i y zs σ' H' hy hσ s hd hl rfl
  obtain⟨b,c,rfl,h1,h2⟩:=T.of_at hy
  rw[cQ] at h1
  obtain⟨q,hq,rfl⟩:=Cd.mp h1
  have tk:xs.take (i+1)=xs.take i++[q]:=by rw[CM,hq];rfl
  have hi:i<xs.length:=(cW.mp hq).1
  refine⟨b,_,rfl,yj.of (s _ _ h2),rfl,_,_,rfl,_,_,rfl,rfl,PU ?_⟩
  rw[hσ]
  have hσ2:∀ x y,((((σ.set 0 (some (c1 q))).set 1 (some (c2 q))).set 0 x).set 1 y)=(σ.set 0 x).set 1 y:=fun x y=>by
   rcases σ with _ | ⟨_,_ | ⟨_,_⟩⟩ <;> rfl
  refine he q (CC hq) _ _ s fun H3 s3=>⟨s3 _ _ hd,by omega,hσ2,fun b o z=>?_,zj,?_,?_⟩
  ·rw[zm (zA z hD)]
   exact s3 _ _ (s _ _ z)
  ·rw[cG,Cp];omega
  ·rw[tk,Ce];rfl
 ·rintro zs H' s hd hl rfl
  rw[tl,CN] at hd ⊢
  exact hf H' s hd
end
theorem qU.calm {P:Program} {w:World} {K:BFr} {mg:Str→Option Value} {base:Heap} {Ct:CT} {k:Nat} {C:Addr} {m:Str} {ps:List Str} {sp:Sp} (M:qU P w K mg base (OL Ct P w) k C m ps sp):qU P w K mg base z8 k C m ps (fun vs H Q _=>sp vs H Q E0):=by
 obtain⟨c,f,fd,a,b,F⟩:=M
 exact⟨c,f,fd,a,b,F.calm⟩
end L2
namespace Pg
open PySem L2
theorem XX {K:BFr} {H:Hp} {l:Addr} {rs:List Rk} (h:vD H l rs):Is K H 2 (.ref l) (.l (rs.map fun r=>.t ((mE r).map Dt.v))):=by
 obtain⟨ys,e,T⟩:=h
 refine .l (zZ.of e) (by rw[cw,T.len,cw]) fun j x d e1 e2=>?_
 obtain⟨a,c,rfl,h1,h2⟩:=T.of_at e1
 rw[cQ] at h1 e2
 obtain⟨r,hr,rfl⟩:=Cd.mp h1
 rw[hr] at e2
 cases e2
 exact Is.flatT (yj.of h2) rfl
structure Vm (H:Hp) (o:Addr) (fs:List Be):Prop where
 dic:H o=some (.dK (jZ fs))
 nd:(fs.map (·.1)).Nodup
 due:∀ e∈fs,vD H e.2.1 e.2.2
theorem Vm.same {H H':Hp} {o:Addr} {fs:List Be} (h:Vm H o fs) (s:zq H H'):Vm H' o fs:=⟨s _ _ h.dic,h.nd,fun e he=>(h.due e he).same s⟩
noncomputable def rm (H:Hp) (hl:Addr) (v:V):Prop:=∃ p a b xs,v = .ref p∧H p=some (.tup [.ref a,.ref b])∧H a=some (.lst xs)∧H b=some (.lst xs)∧xs.all jL=true∧a≠hl∧b≠hl
structure Xq (H:Hp) (hl:Addr) (hs:List V):Prop where
 at_:H hl=some (.lst hs)
 ok:∀ v∈hs,rm H hl v
noncomputable def Kp (H H':Hp) (hl:Addr):Prop:=∀ b o,H b=some o→b≠hl→H' b=some o
theorem rm.kp {H H':Hp} {hl:Addr} {v:V} (k:Kp H H' hl) (z:∃ xs,H hl=some (.lst xs)) (h:rm H hl v):rm H' hl v:=by
 obtain⟨p,a,b,xs,e,h1,h2,h3,f,na,nb⟩:=h
 obtain⟨ys,hz⟩:=z
 exact⟨p,a,b,xs,e,k _ _ h1 (qG h1 hz (by intro z;cases z)),k _ _ h2 na,k _ _ h3 nb,f,na,nb⟩
theorem Xq.same {H H':Hp} {hl:Addr} {hs:List V} (h:Xq H hl hs) (s:zq H H'):Xq H' hl hs:=⟨s _ _ h.at_,fun v hv=>(h.ok v hv).kp (fun b o hb _=>s _ _ hb) ⟨_,h.at_⟩⟩
theorem Kp.same {H H':Hp} {hl:Addr} (s:zq H H'):Kp H H' hl:=fun b o hb _=>s _ _ hb
theorem Kp.trans {H H1 H2:Hp} {hl:Addr} (a:Kp H H1 hl) (b:Kp H1 H2 hl):Kp H H2 hl:=fun x o h n=>b x o (a x o h n) n
theorem Xq.more {H:Hp} {hl p a b:Addr} {hs xs:List V} (h:Xq H hl hs) (hp:H p=some (.tup [.ref a,.ref b])) (ha:H a=some (.lst xs)) (hb:H b=some (.lst xs)) (f:xs.all jL=true) (na:a≠hl) (nb:b≠hl):Xq (upd H hl (.lst (hs++[.ref p]))) hl (hs++[.ref p])∧Kp H (upd H hl (.lst (hs++[.ref p]))) hl:=by
 have k:Kp H (upd H hl (.lst (hs++[.ref p]))) hl:=fun b o hb n=>by rw[zm n];exact hb
 refine⟨⟨zj,fun v hv=>?_⟩,k⟩
 rcases Cu.mp hv with hv | hv
 ·exact (h.ok v hv).kp k ⟨_,h.at_⟩
 ·rw[Cq.mp hv]
  exact rm.kp k ⟨_,h.at_⟩ ⟨p,a,b,xs,rfl,hp,ha,hb,f,na,nb⟩
theorem Yl.kp {C:Addr} {H H':Hp} {B dx t hl:Addr} {es:List Be} (h:Yl C H B dx t es) (k:Kp H H' hl) (z:∃ xs,H hl=some (.lst xs)) (n:∀ e∈es,e.2.1≠hl):Yl C H' B dx t es:=by
 obtain⟨ys,hz⟩:=z
 exact⟨k _ _ h.ins (qG h.ins hz (by intro z;cases z)),k _ _ h.dic (qG h.dic hz (by intro z;cases z)),h.nd,fun e he=>k _ _ (h.row e he) (n e he),h.ok⟩
theorem vD.kp {H H':Hp} {hl l:Addr} {rs:List Rk} (k:Kp H H' hl) (z:∃ xs,H hl=some (.lst xs)) (n:l≠hl) (h:vD H l rs):vD H' l rs:=by
 obtain⟨ys,e,T⟩:=h
 obtain⟨zs,hz⟩:=z
 refine⟨ys,k _ _ e n,⟨T.len,fun i c hc=>?_⟩⟩
 obtain⟨a,h1,h2⟩:=T.at_ i c hc
 exact⟨a,h1,k _ _ h2 (qG h2 hz (by intro z;cases z))⟩
theorem Vm.kp {H H':Hp} {o hl:Addr} {fs:List Be} (h:Vm H o fs) (k:Kp H H' hl) (z:∃ xs,H hl=some (.lst xs)) (n:∀ e∈fs,e.2.1≠hl):Vm H' o fs:=by
 obtain⟨ys,hz⟩:=id z
 exact⟨k _ _ h.dic (qG h.dic hz (by intro z;cases z)),h.nd,fun e he=>(h.due e he).kp k z (n e he)⟩
noncomputable def oP (C:Addr):Sp:=fun vs H Q _=>∃ (B dx t o hl:Addr) (es fs:List Be) (Y wy:Int) (hs:List V),vs=[.ref B,.ref o,.int Y,.int wy,.ref hl]∧Yl C H B dx t es∧Vm H o fs∧fs.map yr=es.map yr∧es.length≤100∧0≤Y∧Y≤9999∧(∀ e∈es,e.2.1≠hl)∧Xq H hl hs∧hs.length≤10000 ∧
 ∀ H' hs',Kp H H' hl→Xq H' hl hs'→hs'.length≤hs.length+1→Q (.bl true) H'
theorem vY (rs:List Rk):(yN rs).all jL=true:=by
 unfold yN
 rw[CS]
 exact Cm.mpr fun _ _=>rfl
noncomputable def cn (H:Hp) (es:List Be) (Y wy:Int) (v:V):Prop:=∃ l,v = .ref l∧((Zg es Y=[]∧H l=some (.tup [.str "noyear"]))∨∃ m rs,Vr (es.map yr) Y m rs∧YC rs∧((wy=0∧vD H l rs)∨(wy≠0∧H l=some (.lst (yN rs)))))
theorem Ni {a b ks:List Int} (nd:ks.Nodup) (pa:a.Perm ks) (pb:b.Perm ks) (sa:a.Pairwise (·≤·)) (sb:b.Pairwise (·≤·)):a=b:=by
 have up:∀ {l:List Int},l.Perm ks→l.Pairwise (·≤·)→l.Pairwise (· < ·):=fun {l} p s=>(s.and (p.nodup_iff.mpr nd)).imp fun⟨h1,h2⟩=>by omega
 exact XR (up pa sa) (up pb sb) fun z=>pa.mem_iff.trans pb.mem_iff.symm
noncomputable def oF (C:Addr):Sp:=fun vs H Q _=>∃ (B dx t o yl hl:Addr) (es fs:List Be) (c:Int) (ys:List Int) (hs:List V),vs=[.ref B,.ref o,.ref yl,.int c,.ref hl]∧Yl C H B dx t es∧Vm H o fs∧fs.map yr=es.map yr∧es.length≤60∧H yl=some (.lst (ys.map V.int))∧yl≠hl∧ys.length=8∧(∀ y∈ys,0≤y∧y≤9999)∧(∀ e∈es,e.2.1≠hl)∧(∀ e∈fs,e.2.1≠hl)∧Xq H hl hs∧hs.length≤5000 ∧
 ∀ H' hs',Kp H H' hl→Xq H' hl hs'→hs'.length≤hs.length+9→Q (.bl true) H'
end Pg
namespace K11
open PySem PySem.NumText L2 Pg
seal PE PA PT PW PS yW PG vq PI j7 PO PK
section
variable {P:Program} {w:World} {K:BFr} {mg:Str→Option Value} {base:Heap} {f:Addr} {fd:FuncData} {d:Nat→Addr} {cR:Addr}
set_option maxHeartbeats 16000000 in
theorem MW {Cs:Nat→Addr} {C cY cN:Addr} {j:Nat} (F:qJ K "_law_is_right" "_law_is_right" (top 90) f fd) (G:vw mg) (C1:qN P w K mg base z8 j "_law_told" ["_law_book","_law_way_here","_law_year"] (Vg K C)) (M0:qU P w K mg base (jf P w) j C "rules" ["self","year"] (u6 K Cs C cY cN)):zL P w K mg base z8 (j+1) f fd ["_law_book","_law_own","_law_year","_law_way_here","_law_held"] (oP C):=by
 have M2:=M0.calm
 have nd:(["_law_book","_law_own","_law_year","_law_way_here","_law_held","_law_earlier","_law_found","_law_due"]:List Str).Nodup:=by decide +kernel
 have nc:(["_law_one","_law_year"]:List Str).Nodup:=by decide +kernel
 have nc2:(["_law_row_here","_law_name"]:List Str).Nodup:=by decide +kernel
 refine F.ok (N:=["_law_book","_law_own","_law_year","_law_way_here","_law_held","_law_earlier","_law_found","_law_due"]) (by walk_at"s") (fun vs H Q E h=>?_) (fun cdv A outer s H vs Q E hr h=>?_)
 ·obtain⟨B,dx,t,o,hl,es,fs,Y,wy,hs,rfl,_⟩:=h
  rfl
 ·obtain⟨B,dx,t,o,hl,es,fs,Y,wy,hs,rfl,BK,OW,ey,el,Y0,Y1,ne,HD,hsl,q⟩:=h
  have hu:=X3 hr
  have un0:(A.deeper (PyProof.Rows.envOfC "_law_is_right" (zO (top 90)) s.heap.objs.size f cdv)).units<cLine:=C6 (dO _ 64) hr.units
  have un2:(A.deeper (PyProof.Rows.envOfC "_law_is_right" (zO (top 90)) s.heap.objs.size f cdv)).units+2<cLine:=C6 (dh (by decide:2≤64) _) hr.units
  have un1:(A.deeper (PyProof.Rows.envOfC "_law_is_right" (zO (top 90)) s.heap.objs.size f cdv)).units+1<cLine:=C6 (dh (by decide:1≤64) _) hr.units
  refine' ⟨_,(zh (Ob ?c1)
    (zh (zQ (i:=6) nd rfl (Or.inl rfl) (zp C1 hr (cx _) zC (za (pv 0) (za (pv 3) (za (pv 2) zd)))))
    (zh (zX (zK (pV un0) (pv 5) (zS zd) (zI _)) (zi (zx (qC xB (pv 6) (yg (za zt zd)) (zI _)))) zG)
    (zh (zQ (i:=7) nd rfl (Or.inl rfl) (Xg hu (pv 1) (zy (Y2 rfl) rfl G.max PyProof.Rows.boot_max (za (pv 5) zd)) (fun _ _=>rfl)))
    (zh (zX (zK qK (pv 3) ze (zI _)) (zi (zx (qC xB (pv 6) (pv 7) (zI _)))) zG)
    (zh (zX (PW.pt (vE (qu (qt (zy zH rfl G.isinstance zv (za (pv 6) (za (yB (v:=.ty "list") rfl G.list j5 rfl) zd))))) (jU (zK JT (pv 6) ?c2 (zI _))))) (zi (zx yM)) zG)
    (zh (z4 (yL PySem.F.plainAttrs_list PySem.F.slot_list_append PySem.F.type_list_append ji (pv 6) (za zt zd)))
    (zh (z4 (yL PySem.F.plainAttrs_list PySem.F.slot_list_append PySem.F.type_list_append ji (pv 4) (za (yg (za (pv 6) (za (qk uk rfl G.list j5 (za (pv 6) zd)) zd))) zd)))
    (zh (z4 (yL PySem.F.plainAttrs_list PySem.F.slot_list_append PySem.F.type_list_append ji (kH M2 hr (cx _) zC (pv 0) (za (pv 2) zd)) (za Zk zd)))
    (zi (zx yM))))))))))),?main⟩
  case c1 =>
   refine' vG (i:=5) (Nc:=["_law_one","_law_year"]) (cl:=[("_law_year",s.heap.objs.size+1)]) (src:=[none,some 2]) (wi:=o6 (zP 1)) (g:=z6 0) (tt:=VI (jH (VD fun i j=>.bl (decide (i≤j))) (zP 0) (zP 1))) (te:=zP 0)
    nd rfl rfl (by walk_at"c1") rfl (Xi (pv 1)) ?hb
   case hb =>
    intro fp C' s' H'
    exact⟨zN (i:=0) nc rfl (Or.inl rfl),J8 (zK VG (pv 0) (pv 1) (zI _)),pv 0⟩
  case c2 =>
   refine' qm (Nc:=["_law_row_here","_law_name"]) (cl:=[]) (src:=[none,none]) (wi:=uw K (zP 7)) (g:=UI K 2 (vp (z6 0) (vp (z6 1) Uz))) (tt:=qv) (te:=zP 0)
    (by walk_at"c2") rfl (yI (pv 7)) ?hb
   case hb =>
    intro fp C' s' H'
    exact⟨QP rfl (y7 (zN (i:=0) nc2 rfl (Or.inl rfl)) (y7 (zN (i:=1) nc2 rfl (Or.inl rfl)) wW)),qj,pv 0⟩
  walk_at"d4"
  refine⟨o,jZ fs,OW.dic,fun ob=>?_⟩
  have fl:fs.length≤100:=by rw[xR ey];exact el
  have ek:(jZ fs).map (fun p=>kV p.1)=(fs.map (·.1)).map V.int:=by
   unfold jZ
   rw[cV,cV]
   rfl
  have wd:=Y5 (H:=upd H o (.frz ob (.dK (jZ fs)))) (d:=o) (o:=ob) (kvs:=jZ fs) zj
  rw[ek] at wd
  refine⟨_,rfl,o,ob,jZ fs,rfl,zj,fun D hD=>?_⟩
  refine u9 wd hD (by rw[cw,cw,sizeLine_eq];omega) (fun x=>match x with | .int y=>decide (y≤Y) | _=>false) id (fun x hx H' R _ r=>?_) (fun x hx _ H' R _ r=>⟨_,rfl,r⟩) ?_
  ·obtain⟨y,_,rfl⟩:=cH.mp hx
   exact⟨_,rfl,_,rfl,_,_,rfl,rfl,_,rfl,r⟩
  have ea:(((fs.map (·.1)).map V.int).filter fun x=>match x with | .int y=>decide (y≤Y) | _=>false).map id=(Zg fs Y).map V.int:=by
   rw[List.map_id,List.filter_map]
   rfl
  rw[ea]
  have Dt:D≠o:=fun z=>by rw[z,zj] at hD;cases hD
  have sf:zq (upd H o (.frz ob (.dK (jZ fs)))) (upd (upd H o (.frz ob (.dK (jZ fs)))) D (.lst ((Zg fs Y).map V.int))):=zq.upd hD
  refine⟨by rw[zm (Ne.symm Dt)];exact zj,?_⟩
  have s1:zq H (upd (upd (upd H o (.frz ob (.dK (jZ fs)))) D (.lst ((Zg fs Y).map V.int))) o (.dK (jZ fs))):=Y3 OW.dic sf
  have e1:(upd (upd (upd H o (.frz ob (.dK (jZ fs)))) D (.lst ((Zg fs Y).map V.int))) o (.dK (jZ fs))) D=some (.lst ((Zg fs Y).map V.int)):=by rw[zm Dt,zj]
  generalize upd (upd (upd H o (.frz ob (.dK (jZ fs)))) D (.lst ((Zg fs Y).map V.int))) o (.dK (jZ fs))=H1 at s1 e1
  rw[xu ey] at e1
  have B1:=BK.fr fun b o h=>s1 _ _ h
  dsimp only [z6]
  refine NN (fun R=>∀ v H',zq H1 H'→cn H' es Y wy v→(∀ l,v = .ref l→wy≠0→Zg es Y≠[]→H1 l=none)→R v H') (fun R r=>?_) (fun v H2 s2 fn fr=>?_)
  ·refine⟨_,rfl,_,rfl,_,rfl,B,dx,t,es,wy,_,rfl,B1,el,.inr ⟨Y,rfl,Y0,Y1,fun e l H' s' e'=>r _ _ s' ⟨l,rfl,.inl ⟨e,e'⟩⟩ (fun _ _ _ z=>absurd e z),fun m rs pk ok l H' s' n'=>⟨fun w0 du=>r _ _ s' ⟨l,rfl,.inr ⟨m,rs,pk,ok,.inl ⟨w0,du⟩⟩⟩ (fun _ _ z=>absurd w0 z),fun w0 e'=>r _ _ s' ⟨l,rfl,.inr ⟨m,rs,pk,ok,.inr ⟨w0,e'⟩⟩⟩ (fun l' el' _ _=>by cases el';exact n')⟩⟩⟩
  have S2:=s1.trans s2
  obtain⟨l,rfl,fn⟩:=fn
  refine⟨_,rfl,qa rfl,fun em H3 s3 em0 e3=>⟨D,em,_,rfl,rfl,zZ.of (s3 _ _ (s2 _ _ e1)),zZ.of e3,fun eN=>⟨true,rfl,qV ?_⟩,fun nN=>⟨false,rfl,qD ?_⟩⟩⟩
  ·have an:Zg es Y=[]:=List.map_eq_nil_iff.mp eN
   rcases fn with ⟨_,hl'⟩ | ⟨m,rs,pk,_⟩
   ·refine⟨_,rfl,qa rfl,fun l2 H5 s5 n5 e5=>⟨1,_,rfl,Is.flatT (yj.of (s5 _ _ (s3 _ _ hl'))) rfl,Is.flatT (yj.of e5) rfl,un1,?_⟩⟩
    have S5:=S2.trans (s3.trans s5)
    exact q H5 hs (Kp.same S5) (HD.same S5) (Nat.le_succ _)
   ·exact (Lo an pk).elim
  have nn:Zg es Y≠[]:=fun z=>nN (by rw[z];rfl)
  have S3:=S2.trans s3
  obtain⟨m,hm,top⟩:=OT nn
  rw[← xu ey] at hm top
  obtain⟨en,he,em',pk⟩:=Ue hm top
  rw[xu ey] at hm top
  rw[ey] at pk
  obtain⟨rs,ers,ok,fn⟩:∃ rs,rs=en.2.2∧YC rs∧((wy=0∧vD H2 l rs)∨(wy≠0∧H2 l=some (.lst (yN rs)))):=by
   rcases fn with ⟨z,_⟩ | ⟨m',rs,pk',ok,fn⟩
   ·exact absurd z nn
   ·exact⟨rs,pk'.one (by rw[wQ];exact BK.nd) pk,ok,fn⟩
  have O3:=OW.same S3
  have du:=O3.due en he
  rw[← ers] at du
  have gd:JP H3 o (.int m) (some (.ref en.2.1)):=by
   rw[← em',← Pm O3.nd he]
   exact JP.k (k:=Sum.inl en.1) O3.dic
  refine⟨_,rfl,_,rfl,D,_,m,rfl,zZ.of (s3 _ _ (s2 _ _ e1)),hm,top,o,_,rfl,gd,?_⟩
  rcases fn with ⟨w0,du2⟩ | ⟨w0,hl2⟩
  ·refine⟨_,rfl,rfl,_,rfl,?_⟩
   rw[w0,decide_eq_true rfl]
   exact qV ⟨_,rfl,_,rfl,2,_,rfl,XX (du2.same s3),XX du,un2,q H3 hs (Kp.same S3) (HD.same S3) (Nat.le_succ _)⟩
  refine⟨_,rfl,rfl,_,rfl,?_⟩
  rw[decide_eq_false fun c=>w0 (V.int.inj c)]
  refine qD ?_
  have l0:H1 l=none:=fr l rfl w0 nn
  have hl3:=s3 _ _ hl2
  have few:=ok.few
  obtain⟨ys,eys,T⟩:=du
  refine⟨_,rfl,_,_,_,_,true,rfl,rfl,.inl (.lst hl3),rfl,true,rfl,qD ?_⟩
  refine⟨_,rfl,_,rfl,en.2.1,rfl,⟨_,zZ.of eys⟩,fun D4 hD4=>Zj (yp (zZ.of eys)) T hD4 (by rw[sizeLine_eq];omega) (fun r=>V.str (jx r)) (fun r hm H4 R s4 rr=>⟨_,rfl,rr H4 (zq.refl _)⟩) (fun H4 s4 e4=>?_)⟩
  have hl4:=s4 _ _ hl3
  refine⟨1,_,rfl,Is.flat (zZ.of hl4) (vY rs),Is.flat (zZ.of e4) (vY rs),un1,_,rfl,qD ?_⟩
  refine⟨_,rfl,.inl ⟨rfl,_,zZ.of hl4⟩,l,_,_,rfl,rfl,hl4,(by unfold yN;rw[cw,sizeLine_eq];omega),?_⟩
  have s15:zq H1 (upd H4 l (.lst (yN rs++[.str "more"]))):=fun b o hb=>by
   rw[zm (zA hb l0)]
   exact s4 _ _ (s3 _ _ (s2 _ _ hb))
  have e5:(upd H4 l (.lst (yN rs++[.str "more"]))) l=some (.lst (yN rs++[.str "more"])):=zj
  generalize upd H4 l (.lst (yN rs++[.str "more"]))=H5 at s15 e5
  have S5:=s1.trans s15
  have HD5:=HD.same S5
  have lhl:l≠hl:=fun c=>by rw[c,s1 _ _ HD.at_] at l0;cases l0
  refine⟨_,rfl,.inl ⟨rfl,_,zZ.of HD5.at_⟩,_,rfl,_,rfl,l,_,rfl,.inl (zZ.of e5),fun b2 b20=>?_⟩
  have s6:=zq.upd (o:=.lst (yN rs++[.str "more"])) b20
  have e6:(upd H5 b2 (.lst (yN rs++[.str "more"]))) b2=some (.lst (yN rs++[.str "more"])):=zj
  have b2h:b2≠hl:=fun c=>by rw[c,HD5.at_] at b20;cases b20
  generalize upd H5 b2 (.lst (yN rs++[.str "more"]))=H6 at s6 e6
  refine⟨qa rfl,fun p H7 s7 n7 e7=>?_⟩
  have S7:=S5.trans (s6.trans s7)
  have HD7:=HD.same S7
  obtain⟨HM,KM⟩:=HD7.more e7 (s7 _ _ (s6 _ _ e5)) (s7 _ _ e6) (by rw[dS,vY];rfl) lhl b2h
  refine⟨hl,_,_,rfl,rfl,HD7.at_,(by rw[sizeLine_eq];omega),?_⟩
  generalize upd H7 hl (.lst (hs++[.ref p]))=H8 at HM KM
  have B8:=(BK.fr fun b o h=>S7 _ _ h).kp KM ⟨_,HD7.at_⟩ ne
  refine⟨_,rfl,B,dx,_,rfl,B8.ins,rfl,_,rfl,B,dx,t,es,_,rfl,B8,el,.inr ⟨Y,rfl,Y0,Y1,fun z=>absurd z nn,fun m' rs' pk' ok' l9 H9 s9 n9 ⟨zs,e9,_⟩=>?_⟩⟩
  have zl:zs.length≤8:=by
   rename_i T9
   have:=T9.len
   have:=ok'.few
   omega
  refine⟨.inl ⟨rfl,_,zZ.of e9⟩,l9,_,_,rfl,rfl,e9,(by rw[sizeLine_eq];omega),?_⟩
  have s10:zq H8 (upd H9 l9 (.lst (zs++[.non]))):=fun b o hb=>by
   rw[zm (zA hb n9)]
   exact s9 _ _ hb
  exact q _ _ ((Kp.same S7).trans (KM.trans (Kp.same s10))) (HM.same s10) (by rw[cG];exact cx _)
set_option maxHeartbeats 16000000 in
theorem MA {C:Addr} {j:Nat} (hj:2≤j) (F:qJ K "_law_stands" "_law_stands" (top 91) f fd) (G:vw mg) (C1:qN P w K mg base z8 1 "_law_mixed" ["_law_cell","_law_k"] yQ) (C2:qN P w K mg base z8 1 "_law_no_year" ["_law_number"] (xj K)) (C3:qN P w K mg base z8 j "_law_told" ["_law_book","_law_way_here","_law_year"] (Vg K C)) (C4:qN P w K mg base z8 (j+1) "_law_is_right" ["_law_book","_law_own","_law_year","_law_way_here","_law_held"] (oP C)) (MY:qU P w K mg base z8 1 C "years" ["self"] (Jv C)):zL P w K mg base z8 (j+2) f fd ["_law_book","_law_own","_law_years_here","_law_cell","_law_held"] (oF C):=by
 have nd:(["_law_book","_law_own","_law_years_here","_law_cell","_law_held","_law_first","_law_k","_law_at","_law_told_here"]:List Str).Nodup:=by decide +kernel
 refine F.ok (N:=["_law_book","_law_own","_law_years_here","_law_cell","_law_held","_law_first","_law_k","_law_at","_law_told_here"]) (by walk_at"s") (fun vs H Q E h=>?_) (fun cdv A outer s H vs Q E hr h=>?_)
 ·obtain⟨B,dx,t,o,yl,hl,es,fs,c,ys,hs,rfl,_⟩:=h
  rfl
 ·obtain⟨B,dx,t,o,yl,hl,es,fs,c,ys,hs,rfl,BK,OW,ey,el,hy,yh,y8,yb,ne,nf,HD,hsl,q⟩:=h
  have un1:(A.deeper (PyProof.Rows.envOfC "_law_stands" (zO (top 91)) s.heap.objs.size f cdv)).units+1<cLine:=C6 (dh (by decide:1≤64) _) hr.units
  refine⟨_,(zh (zQ (i:=5) nd rfl (Or.inl rfl) (zu zW (zp C1 hr (by omega) zC (za (pv 3) (za ze zd))) ze))
    (zh (Qu PassesOwn.never rfl (yu rfl G.range (za ze zd)) (zN (i:=6) nd rfl (Or.inl rfl)) (zh (zQ (i:=7) nd rfl (Or.inl rfl) (zu zW (zu qA (pv 5) (zu jT (pv 6) (zD zw (zS (za ze (za ze (za ze (za ze (za ze (za ze zd))))))) (zu zW (zp C1 hr (by omega) zC (za (pv 3) (za ze zd))) ze)))) ze))
    (zi (zX (zK qK (pv 7) ze (zI _)) (zh (zQ (i:=8) nd rfl (Or.inl rfl) (y6 MY hr (by omega) zC (pv 0)))
    (zh (zX (PW.pt (vE (qu (qt (zy zH rfl G.isinstance zv (za (pv 8) (za (yB (v:=.ty "list") rfl G.list j5 rfl) zd))))) (jU (zK JT (pv 8) (zy (ZZ rfl) rfl G.sorted PyProof.Rows.boot_sorted (za (pv 1) zd)) (zI _))))) (zi (zx yM)) zG)
    (zh (z4 (yL PySem.F.plainAttrs_list PySem.F.slot_list_append PySem.F.type_list_append ji (pv 4) (za (yg (za (pv 8) (za (qk uk rfl G.list j5 (za (pv 8) zd)) zd))) zd)))
    (zi (z4 (yL PySem.F.plainAttrs_list PySem.F.slot_list_append PySem.F.type_list_append ji (y6 MY hr (by omega) zC (pv 0)) (za ze zd))))))) (zi (zX (qu (qt (zp C4 hr (cx _) zC (za (pv 0) (za (pv 1) (za (zD zw (pv 2) (pv 7)) (za (zu zW (zp C1 hr (by omega) zC (za (pv 3) (za (zu qA ze (pv 6)) zd))) ze) (za (pv 4) zd)))))))) (zi (zx yM)) zG))))))
    (zi (zx (qC xB (zp C3 hr (by omega) zC (za (pv 0) (za (zu zW (pv 3) ze) (za (zp C2 hr (by omega) zC (za (zp C1 hr (by omega) zC (za (pv 3) (za ze zd))) zd)) zd)))) (yg (za zt zd)) (zI _)))))),?_⟩
  walk_at"d4"
  refine⟨_,rfl,c,_,rfl,fun m m0 m1=>⟨_,_,rfl,rfl,(by show (0:Int)<9;decide),?_⟩⟩
  have f0:0≤m%9:=cU _ (by decide)
  generalize hfi:m%9=fi at f0
  have zz:∃ xs,H hl=some (.lst xs):=⟨_,HD.at_⟩
  refine⟨9,rfl,by decide,by decide,uf (n:=9) (fun i σ H'=>∃ x6 x7 x8 hs',σ = [some (.ref B),some (.ref o),some (.ref yl),some (.int c),some (.ref hl),some (.int fi),x6,x7,x8]∧Kp H H' hl∧Xq H' hl hs'∧hs'.length≤hs.length+i) ⟨none,none,none,hs,?_,Kp.same (zq.refl _),HD,cx _⟩ ?_ ?_⟩
  ·rw[← hfi]
   rfl
  ·rintro i σ H1 hi ⟨x6,x7,x8,hs1,rfl,k1,HD1,l1⟩ E1 kk
   have B1:=BK.kp k1 zz ne
   have O1:=OW.kp k1 zz nf
   have hy1:=k1 _ _ hy yh
   refine⟨_,rfl,_,rfl,qa rfl,fun la H2 s2 n2 e2=>⟨_,rfl,c,_,rfl,fun m' m0' m1'=>⟨_,_,rfl,rfl,(by show (0:Int)<6;decide),?_⟩⟩⟩
   obtain⟨v,ev,mv⟩:=yV (xs:=[V.int 1,.int 2,.int 4,.int 5,.int 7,.int 8]) (i:=m'%6) (cU _ (by decide)) (Ca _ (by decide))
   obtain⟨z,rfl,z0⟩:∃ z,v = .int z∧0≤z∧z≤8:=by
    simp only[cy,cA,or_false] at mv
    rcases mv with rfl | rfl | rfl | rfl | rfl | rfl <;> exact⟨_,rfl,by decide,by decide⟩
   have z1:(0:Int)+(i:Nat)=(i:Nat):=dm _
   rw[z1]
   have i9:i<9:=hi
   refine⟨la,_,_,_,rfl,rfl,zZ.of e2,ev,_,_,rfl,rfl,.inl ⟨by show -(18446744073709551616:Int)<_;omega,by show _<(18446744073709551616:Int);omega⟩,_,_,rfl,rfl,_,_,rfl,rfl,(by show (0:Int)<9;decide),?_⟩
   have a0:0≤(fi+(i:Nat)*z)%9:=cU _ (by decide)
   have a9:(fi+(i:Nat)*z)%9<9:=Ca _ (by decide)
   generalize hat:(fi+(i:Nat)*z)%9=at' at a0 a9
   have B2:=B1.fr fun b o h=>s2 _ _ h
   have O2:=O1.same s2
   have HD2:=HD1.same s2
   have k2:=k1.trans (Kp.same s2)
   have hat':(fun i j=>V.int (i%j)) (fi+(i:Nat)*z) 9=V.int at':=congrArg V.int hat
   refine⟨_,rfl,rfl,_,rfl,ye (fun e8=>?_) (fun e8=>?_)⟩
   ·refine⟨_,rfl,B,dx,_,rfl,B2.ins,rfl,B,dx,t,es,rfl,B2,by omega,fun zs p1 p2 l H3 s3 n3 e3=>?_⟩
    refine⟨_,rfl,_,_,_,_,true,rfl,rfl,.inl (.lst e3),rfl,true,rfl,qD ?_⟩
    have O3:=O2.same s3
    have kk2:es.map (·.1)=fs.map (·.1):=by rw[← wQ,← ey,wQ]
    refine⟨_,rfl,_,rfl,o,jZ fs,fs.map (·.1),rfl,.inl O3.dic,(by unfold jZ;rw[cV,cV];rfl),(by rw[cw,xR ey];omega),fun zs2 p3 p4 l2 H4 s4 n4 e4=>?_⟩
    have ez:zs2=zs:=Ni OW.nd p3 (by rw[← kk2];exact p1) p4 p2
    subst ez
    have e34:=s4 _ _ e3
    have f1:(zs2.map V.int).all jL=true:=by rw[CS];exact Cm.mpr fun _ _=>rfl
    refine⟨1,_,rfl,Is.flat (zZ.of e34) f1,Is.flat (zZ.of e4) f1,un1,_,rfl,qD ?_⟩
    have S4:=s3.trans s4
    have HD4:=HD2.same S4
    have lh:l≠hl:=fun c=>by rw[c,HD2.at_] at n3;cases n3
    refine⟨_,rfl,.inl ⟨rfl,_,zZ.of HD4.at_⟩,_,rfl,_,rfl,l,_,rfl,.inl (zZ.of e34),fun b2 b20=>?_⟩
    have s5:=zq.upd (o:=.lst (zs2.map V.int)) b20
    have e5:(upd H4 b2 (.lst (zs2.map V.int))) b2=some (.lst (zs2.map V.int)):=zj
    have b2h:b2≠hl:=fun c=>by rw[c,HD4.at_] at b20;cases b20
    generalize upd H4 b2 (.lst (zs2.map V.int))=H5 at s5 e5
    refine⟨qa rfl,fun p H6 s6 n6 e6=>?_⟩
    have S6:=S4.trans (s5.trans s6)
    have HD6:=HD2.same S6
    obtain⟨HM,KM⟩:=HD6.more e6 (s6 _ _ (s5 _ _ e34)) (s6 _ _ e5) f1 lh b2h
    refine⟨hl,_,_,rfl,rfl,HD6.at_,(by rw[sizeLine_eq];omega),?_⟩
    generalize upd H6 hl (.lst (hs1++[.ref p]))=H7 at HM KM
    have k7:=(k2.trans (Kp.same S6)).trans KM
    have B7:=BK.kp k7 zz ne
    refine⟨_,rfl,B,dx,_,rfl,B7.ins,rfl,B,dx,t,es,rfl,B7,by omega,fun zs3 p5 p6 l9 H9 s9 n9 e9=>?_⟩
    have zl:zs3.length≤60:=by rw[p5.length_eq,cw];exact el
    refine⟨.inl ⟨rfl,_,zZ.of e9⟩,l9,_,_,rfl,rfl,e9,(by rw[cw,sizeLine_eq];omega),?_⟩
    have s10:zq H7 (upd H9 l9 (.lst (zs3.map V.int++[.int 7]))):=fun b o hb=>by
     rw[zm (zA hb n9)]
     exact s9 _ _ hb
    exact kk _ _ ⟨_,_,_,_,rfl,k7.trans (Kp.same s10),HM.same s10,by rw[cG];show hs1.length+1≤_;omega⟩
   ·have a8:at'<8:=by
     have:at'≠8:=fun c=>e8 (decide_eq_true (by rw[← c];exact hat'))
     omega
    obtain⟨v8,ev8,mv8⟩:=yV (xs:=ys.map V.int) (i:=at') a0 (by rw[cw,y8];exact a8)
    obtain⟨y,hym,rfl⟩:=cH.mp mv8
    have yb':=yb y hym
    have ev8':kT (ys.map V.int) ((fi+(i:Nat)*z)%9)=some (.int y):=by rw[hat];exact ev8
    refine⟨_,rfl,_,rfl,_,rfl,_,rfl,yl,_,_,_,rfl,rfl,zZ.of (s2 _ _ hy1),ev8',_,rfl,_,rfl,_,_,rfl,rfl,c,_,rfl,fun m2 m20 m21=>⟨_,_,rfl,rfl,(by show (0:Int)<2;decide),_,rfl,B,dx,t,o,hl,es,fs,y,_,hs1,rfl,B2,O2,ey,by omega,yb'.1,yb'.2,ne,HD2,by omega,fun H3 hs3 k3 HD3 l3=>⟨true,rfl,qD (kk _ _ ⟨_,_,_,hs3,rfl,k2.trans k3,HD3,by omega⟩)⟩⟩⟩
  ·rintro σ H1 ⟨x6,x7,x8,hs1,rfl,k1,HD1,l1⟩
   have B1:=BK.kp k1 zz ne
   refine⟨_,rfl,_,rfl,_,_,rfl,rfl,(by show (0:Int)<2;decide),_,rfl,c,_,rfl,fun m' m0' m1'=>⟨m',rfl,m0',fun v H2 s2 nv=>⟨B,dx,t,es,_,v,rfl,B1.fr fun b o h=>s2 _ _ h,by omega,.inl ⟨nv,fun l H3 s3 e3=>⟨qa rfl,fun l2 H4 s4 n4 e4=>⟨1,_,rfl,Is.flatT (yj.of (s4 _ _ e3)) rfl,Is.flatT (yj.of e4) rfl,un1,?_⟩⟩⟩⟩⟩⟩
   have S4:=s2.trans (s3.trans s4)
   exact q H4 hs1 (k1.trans (Kp.same S4)) (HD1.same S4) l1
end
end K11
namespace Pg
open PySem PySem.NumText L2 Builtin Builtin.Str
noncomputable def U1 (z:Str):Str:=("flat ":Str)++z++(" 5":Str)
noncomputable def rj (z:Str):Str:=("flat ":Str)++z++(" 05":Str)
theorem XH (z y:Str) (v:Str) (h:y.cps.toList=32::v.cps.toList):("flat ":Str)++z++y=Txt.join ⟨#[32]⟩ [("flat":Str),z,v]:=by
 apply Jz
 rw[qM,qZ,qZ,h]
 have:("flat ":Str).cps.toList=("flat":Str).cps.toList++[32]:=by decide +kernel
 rw[this]
 simp
theorem MV (z:Str):U1 z=jx (.flat z 5):=by
 rw[Qa,Tn]
 exact XH z _ (toString (5:Int)) (by decide +kernel)
theorem Lk {z:Str} (h:qT z):Vy (.str (U1 z))=some (.flat z 5):=by
 show YD 3 (Txt.split (U1 z) " ")=_
 rw[MV]
 exact kF (.pln (.flat h ⟨by decide,by decide⟩))
theorem LQ {z:Str} (h:qT z):Vy (.str (rj z))=none:=by
 show YD 3 (Txt.split (rj z) " ")=none
 have e:rj z=Txt.join ⟨#[32]⟩ [("flat":Str),z,("05":Str)]:=XH z _ "05" (by decide +kernel)
 have f4:("flat":Str).cps.toList.length=4:=by decide +kernel
 have l4:1≤(Txt.join ⟨#[32]⟩ [("flat":Str),z,("05":Str)]).length:=by rw[qB,qM,cG];omega
 have sj:=(um (c:=32) (w:=("flat":Str)) (ws:=[z,("05":Str)]) (XC (by decide)) (by decide +kernel) (fun v hv=>by
  simp only[cy,cA,or_false] at hv
  rcases hv with rfl | rfl
  ·exact XE (by decide) h
  ·decide +kernel) l4).1
 rw[e,Tn,sj,uq 3 rfl,JC]
 have:jX 13 ("05":Str)=none:=by
  unfold jX
  exact if_neg (by decide +kernel)
 exact BH this
theorem none_of {α:Type} {o:Option α} (h:o.isNone=true):o=none:=by
 cases o with
 | none=>rfl
 | some x=>cases h
theorem cm:Vy (.str "flat")=none:=none_of (by decide +kernel)
theorem BQ:Vy (.str "flat base 5")=none:=none_of (by decide +kernel)
theorem BN:Vy (.str "share a 20001 up")=none:=none_of (by decide +kernel)
theorem B9:Vy (.str "")=none:=none_of (by decide +kernel)
theorem lB {z:Str} (h:z.length≤8):(U1 z).length≤15:=by
 unfold U1
 rw[js,js,show ("flat ":Str).length=5 by decide +kernel,show (" 5":Str).length=2 by decide +kernel]
 omega
theorem mP {z:Str} (h:z.length≤8):(rj z).length≤16:=by
 unfold rj
 rw[js,js,show ("flat ":Str).length=5 by decide +kernel,show (" 05":Str).length=3 by decide +kernel]
 omega
noncomputable def BD (K:BFr) (H:Hp) (yv rv:V):Nat→Prop
 | 4=>wm K H 9999 yv
 | 5=>∃ Y,yv = .int Y∧0≤Y∧Y≤9999∧∃ l xs,rv = .ref l∧H l=some (.lst xs)∧xs.length≤8∧(∀ x∈xs,tF K H x)∧∃ x∈xs,Vy x=none
 | 6=>∃ Y,yv = .int Y∧0≤Y∧Y≤9999∧(kO K H rv∨∃ l xs,rv = .ref l∧H l=some (.lst xs)∧(8<xs.length∨(xs.length≤8∧(∀ x∈xs,tF K H x)∧∃ rs:List Rk,xs.map Vy=rs.map some∧¬ (rs.map Rk.name).Nodup)))
 | _=>False
theorem V6 {α:Type} {a b:List α} (h:a.map some=b.map some):a=b:=by
 induction a generalizing b with
 | nil=>cases b with
  | nil=>rfl
  | cons=>cases h
 | cons x a ih=>cases b with
  | nil=>cases h
  | cons y b =>
   injection h with h1 h2
   cases h1
   rw[ih h2]
theorem mq {K:BFr} {C:Addr} {d:Nat→Addr} {H:Hp} {B dx t:Addr} {es:List Be} {yv rv:V} {Q:VK} {E:XK} {i:Nat} (BK:Yl C H B dx t es) (el:es.length≤100) (b:BD K H yv rv i) (q:∀ H',zq H H'→E (.ref (d i)) none H'):ke K C (d 4) (d 6) (d 5) [.ref B,yv,rv] H Q E:=by
 refine⟨B,dx,t,es,yv,rv,rfl,BK,el,?_⟩
 match i,b with
 | 4,b=>exact .inl ⟨b,q H (zq.refl _)⟩
 | 5,⟨Y,e,Y0,Y1,l,xs,er,hl,few,tx,ex⟩ =>
  refine .inr ⟨Y,e,Y0,Y1,.inr ⟨l,xs,er,hl,fun z=>absurd z (by omega),fun _=>⟨tx,fun _ H' s=>q H' s,fun rs ers=>?_⟩⟩⟩
  obtain⟨x,hx,hn⟩:=ex
  have:none∈rs.map some:=by rw[← ers,← hn];exact cH.mpr ⟨x,hx,rfl⟩
  obtain⟨_,_,z⟩:=cH.mp this
  cases z
 | 6,⟨Y,e,Y0,Y1,h⟩ =>
  rcases h with nl | ⟨l,xs,er,hl,h⟩
  ·exact .inr ⟨Y,e,Y0,Y1,.inl ⟨nl,q H (zq.refl _)⟩⟩
  ·refine .inr ⟨Y,e,Y0,Y1,.inr ⟨l,xs,er,hl,fun _=>q H (zq.refl _),fun few=>?_⟩⟩
   rcases h with h | ⟨_,tx,rs,ers,nd⟩
   ·exact absurd h (by omega)
   ·refine⟨tx,fun⟨x,hx,hn⟩=>?_,fun rs' ers'=>⟨fun _ H' s=>q H' s,fun n'=>?_⟩⟩
    ·have:none∈rs.map some:=by rw[← ers,← hn];exact cH.mpr ⟨x,hx,rfl⟩
     obtain⟨_,_,z⟩:=cH.mp this
     cases z
    ·have:rs'=rs:=V6 (by rw[← ers',ers])
     subst this
     exact absurd n' nd
noncomputable def X0 (C:Addr):Sp:=fun vs H Q _=>∃ (B dx t yl nl:Addr) (es:List Be) (ys:List Int) (nms:List Str) (n:Int),vs=[.ref B,.ref yl,.ref nl,.int n]∧Yl C H B dx t es∧es.length≤60∧H yl=some (.lst (ys.map V.int))∧ys.length=8∧(∀ y∈ys,0≤y∧y≤9999)∧H nl=some (.lst (nms.map V.str))∧nms.length=8∧(∀ z∈nms,qT z)∧0≤n∧∀ H',zq H H'→Q (.bl true) H'
theorem LA {l:List Nat} {i:Int} (h0:0≤i) (h1:i<l.length):kT l i=some (l.getD i.toNat 0):=by
 obtain⟨k,rfl⟩:=CJ h0
 have hk:k<l.length:=by omega
 refine q8 ?_
 rw[CG,CQ,cI hk]
 rfl
theorem L8 {K:BFr} {H:Hp}:kO K H .non:=⟨("NoneType",false,false,false,false),by decide,.non,rfl⟩
theorem Rp {K:BFr} {H:Hp} (b:Bool):kO K H (.bl b):=⟨("bool",true,true,false,false),by decide,.bl b,rfl⟩
theorem MN {K:BFr} {H:Hp} (i:Int):kO K H (.int i):=⟨("int",true,false,false,false),by decide,.int i,rfl⟩
theorem nJ {K:BFr} {H:Hp} (x:Str):kO K H (.str x):=⟨("str",false,false,true,false),by decide,.str x,rfl⟩
theorem ng {K:BFr} {H:Hp} {a:Addr} {xs:List V} (e:H a=some (.tup xs)):kO K H (.ref a):=⟨("tuple",false,false,false,false),by decide,.tup e,rfl⟩
theorem Rh {K:BFr} {H:Hp} {a:Addr} {kvs:List (yY × V)} (e:H a=some (.dK kvs)):kO K H (.ref a):=⟨("dict",false,false,false,false),by decide,.dK e,rfl⟩
theorem kA {xs:List V} {lo hi:Option Int}:∀ x∈qp xs lo hi,x∈xs:=fun x hx=>List.mem_of_mem_drop (CV hx)
theorem ZT {xs:List V} {k:Nat}:(qp xs none (some (k:Int))).length≤k:=by rw[uG,Ci];exact Nat.min_le_left _ _
theorem X9 {r0:V} {m:Nat}:(List.replicate m [r0]).flatten.length=m:=by
 rw[List.length_flatten]
 simp
theorem L7 {r0:V} {m:Nat}:∀ x∈(List.replicate m [r0]).flatten,x=r0:=fun x hx=>by
 obtain⟨l,hl,hx⟩:=List.mem_flatten.mp hx
 rw[(List.mem_replicate.mp hl).2] at hx
 exact Cq.mp hx
theorem oY {xs:List V} {o r0:V} {a:Nat} {m:Nat} (ha:a≤8) (h0:r0∈xs) (hm:m≤1) (hm2:m=0∨a<6) :
  (qp (qp xs none (some (a:Int))) none (some 7)++[o]++qp (qp xs (some (a:Int)) none) none (some (6 - (if (6:Int)<a then 6 else (a:Int))))++(List.replicate m [r0]).flatten).length≤8 ∧
  (∀ x∈qp (qp xs none (some (a:Int))) none (some 7)++[o]++qp (qp xs (some (a:Int)) none) none (some (6 - (if (6:Int)<a then 6 else (a:Int))))++(List.replicate m [r0]).flatten,x=o∨x∈xs) ∧
  o∈qp (qp xs none (some (a:Int))) none (some 7)++[o]++qp (qp xs (some (a:Int)) none) none (some (6 - (if (6:Int)<a then 6 else (a:Int))))++(List.replicate m [r0]).flatten:=by
 have e6:6 - (if (6:Int)<a then 6 else (a:Int))=((6 - a:Nat):Int):=by split <;> omega
 rw[e6]
 have l1:(qp (qp xs none (some (a:Int))) none (some 7)).length≤a∧(qp (qp xs none (some (a:Int))) none (some 7)).length≤7:=by
  refine⟨?_,ZT (k:=7)⟩
  rw[show (7:Int)=((7:Nat):Int) from rfl,uG,Ci]
  exact cJ (Nat.min_le_right _ _) ZT
 have l2:(qp (qp xs (some (a:Int)) none) none (some ((6 - a:Nat):Int))).length≤6 - a:=ZT
 refine⟨?_,fun x hx=>?_,?_⟩
 ·rw[cG,cG,cG,X9,Cp]
  omega
 ·simp only[Cu,Cq] at hx
  rcases hx with ((h | h) | h) | h
  ·exact .inr (kA _ (kA _ h))
  ·exact .inl h
  ·exact .inr (kA _ (kA _ h))
  ·exact .inr (by rw[L7 _ h];exact h0)
 ·simp
noncomputable def Mt (xs:List V) (o r0:V) (a:Int) (m:Nat):List V:=qp (qp xs none (some a)) none (some 7)++[o]++qp (qp xs (some a) none) none (some (6 - (if (6:Int)<a then 6 else a)))++(List.replicate m [r0]).flatten
theorem Gr {xs:List V} {o r0:V} {a:Int} {m:Nat} (a0:0≤a) (ha:a≤8) (h0:r0∈xs) (hm:m≤1) (hm2:m=0∨a<6):(Mt xs o r0 a m).length≤8∧(∀ x∈Mt xs o r0 a m,x=o∨x∈xs)∧o∈Mt xs o r0 a m:=by
 obtain⟨k,rfl⟩:=CJ a0
 exact oY (by omega) h0 hm (hm2.imp id fun h=>by omega)
theorem O7 {zs:List Str} (h:∀ z∈zs,qT z):((zs.map U1).map V.str).map Vy=(zs.map fun z=>Rk.flat z 5).map some:=by
 rw[cV,cV,cV]
 exact CW fun z hz=>Lk (h z hz)
theorem Pz {zs:List Str}:(zs.map fun z=>Rk.flat z 5).map Rk.name=zs:=by
 rw[cV]
 exact List.map_id'' (fun _=>rfl) zs
theorem VV {zs:List Str} {z:Str} {k:Nat} (h:zs.head? = some z) (hk:1≤k):((zs.take k++[z]).length≤k+1)∧¬ (zs.take k++[z]).Nodup:=by
 cases zs with
 | nil=>cases h
 | cons a b =>
  cases h
  obtain⟨k',rfl⟩:∃ k',k=k'+1:=⟨k - 1,by omega⟩
  refine⟨by simp[Ci];omega,fun nd=>?_⟩
  rw[List.take_succ_cons,Dj,CI] at nd
  exact nd.1 (by simp)
end Pg
namespace L2
open PySem PySem.Spec PyProof.Rows
noncomputable def VB (C:CT) (X:Cx) (pn:List (Addr × Obj)) (R:St→XK):Value→Shared→Prop:=fun e s=>∃ (ea:Addr) (cls fl:Value) (σ:St) (H:Hp),e = .ref ea∧zJ (X.tr pn fun _ _=>True) [] σ H s∧uO C (X.tr pn fun _ _=>True) [] H ea cls fl s.heap∧R σ cls none H
noncomputable def Rg (C:CT) (R:St→XK) (N:List Str) (i:Nat) (tb:TS) (th:Addr→TS):TS:=fun D σ H=>tb D σ H∧∀ (ea:Addr) (oe:Obj) (vs:Array Value) (cls:Value) (σ':St) (H':Hp),R σ' cls none H'→H' ea=none→oe.cls=cls→oe.dict=none →
 oe.data = .fields vs→C H' vs→σ'.length=N.length→th ea (Lr N D) (σ'.set i (some (.ref ea))) (upd H' ea (YF ea oe))
theorem Ly {C:CT} [ct:Zm C] {X:Cx} {x n:Str} {i:Nat} {c:Addr} {R:St→XK} {tb:TS} {th:Addr→TS} {body suite:List Stmt} {b₀:Stmt} {np hpos pos:Pos} (hs:X.stack=X.env::X.outer) (hf:X.env.frame=some X.env.locals) (hg:Gl X x) (hm:X.mg x=some (.ref c)) (hR:∀ σ cls o H,R σ cls o H→PySem.W.exmOne X.K cls (.ref c)=some true) (hN:X.N.Nodup) (hi:X.N[i]? = some n) (hn:X.env.scope.names.lookup n=some .local) (hb:∀ pn,yW (X.tr pn (VB C X pn R)) body tb) (hh:∀ pn ea E,yW (X.hdl pn ea E) (b₀ :: suite) (th ea)) (hdb:(x==("__debug__":Str))=false:=by decide) :
  PS X (.Try body [.ExceptHandler (some (.Name x np)) (some n) (b₀ :: suite) hpos] [] [] pos) (Rg C R X.N i tb th):=by
 intro pins s σ H D I h
 obtain⟨h1,h2⟩:=h
 have ok:=I.ok
 have cls0:(X.env.scope.kind == .class || (X.env.scope.kind == .module&&X.env.locals != X.env.globals))=false:=by rw[ok.kind];rfl
 refine wpAny_Try_except (wpAny_mono (hb (X.pn++pins) [] s σ H D I.tr h1) (fun f s1 q=>?_) fun e s1 q=>?_)
 ·cases f with
  | next =>
   obtain⟨σ',H',I',q⟩:=q
   exact wpAny_execs_nil ⟨σ',H',I'.ofTr ok,q⟩
  | brk=>obtain⟨σ',H',I',q⟩:=q;exact⟨σ',H',I'.ofTr ok,q⟩
  | cont=>obtain⟨σ',H',I',q⟩:=q;exact⟨σ',H',I'.ofTr ok,q⟩
  | ret u=>obtain⟨v,σ',H',I',r,q⟩:=q;exact⟨v,σ',H',I'.ofTr ok,r,q⟩
 ·obtain⟨ea,cls,fl,σ1,H1,rfl,I1,F1,r1⟩:=q
  refine uU (X:=X.tr (X.pn++pins) fun _ _=>True) I1 F1 hs hf I1.ok.frames fun s2 I2 F2=>?_
  refine j6 I2 F2 fun s3 I3 F3=>?_
  have J3:zJ (X.hdl (X.pn++pins) ea fun _ _=>True) [] σ1 H1 s3:=I3.toHdl ok
  obtain⟨_,oe3,_,he3,hc3,_⟩:=id F3
  refine wpAny_handleBy_cons (codeAny_handlers_test (jG J3 hg hm ?_ hdb)) (by intro q;cases q)
  have LT:PySem.W.Looks (model X.prog X.w) s3.heap (typeOf (.ref ea)) cls:=by
   rw[← hc3.1]
   exact (PySem.W.Looks.ld he3).andThen .now
  refine (PySem.W.exm_one J3.kIn LT (hR σ1 cls none H1 r1)).here ?_
  refine codeAny_handlers_suite_as ?_
  refine j6 J3 F3.toHdl fun s4 J4 F4=>?_
  obtain⟨f4,oe,vs,he,hc,hd,h2',_⟩:=F4
  have J5:=J4.hold f4 he
  refine w9 (X:=X.hdl (X.pn++pins) ea fun _ _=>True) J5 hN hi (.inl hn) (v:=.ref ea) rfl (fun s6 J6=>?_) (.inr hn)
  have len:σ1.length=X.N.length:=I1.len
  have J6':∀ E,zJ (X.hdl (X.pn++pins) ea E) [] (σ1.set i (some (.ref ea))) (upd H1 ea (YF ea oe)) s6:=fun E=>⟨ok.hdl,J6.os,J6.bare,J6.base,J6.loc,J6.cell,J6.free,J6.freeC,J6.pin,J6.hok,J6.len⟩
  refine wpAny_mono (hh (X.pn++pins) ea _ [] s6 _ _ (Lr X.N D) (J6' _) (h2 ea oe vs cls σ1 H1 r1 f4.1 hc.1 hc.2 hd h2' len)) (fun f s7 q=>?_) fun _ _ z=>z
  have go:∀ {σ7:St} {H7:Hp} {E7:Value→Shared→Prop},zJ (X.hdl (X.pn++pins) ea E7) [] σ7 H7 s7→(∀ s8,zJ X pins (X.N.map fun _=>none) H7 s8→SP X pins D f s8) →
    wpAny (model X.prog X.w) X.A (do bindName X.env n .none;unbindBehindTheSuite X.env n hpos) (fun _ s8=>SP X pins D f s8) X.xe s7:=fun {σ7 H7 E7} J k=>by
   obtain⟨m,hns,_⟩:=J.loc
   exact wpAny_nameGoes hn hns cls0 fun h' m' hn' hs'=>k _ ((J.ofHdl ok).relocal hn' hs')
  cases f with
  | next=>obtain⟨σ',H',I',q⟩:=q;exact go I' fun s8 I8=>⟨_,_,I8,q⟩
  | brk=>obtain⟨σ',H',I',q⟩:=q;exact go I' fun s8 I8=>⟨_,_,I8,q⟩
  | cont=>obtain⟨σ',H',I',q⟩:=q;exact go I' fun s8 I8=>⟨_,_,I8,q⟩
  | ret u=>obtain⟨v,σ',H',I',r,q⟩:=q;exact go I' fun s8 I8=>⟨v,_,_,I8,r,q⟩
section
variable {X:Cx}
theorem Gb {C:CT} {pn:List (Addr × Obj)} {R:St→XK} {pins:List (Addr × Obj)} {σ:St} {H:Hp} {s s':Shared} {e:Value} (I:zJ (X.tr pn (VB C X pn R)) pins σ H s) (c:OL C X.prog X.w (X.tr pn (VB C X pn R)).stack H s (R σ) e s'):(X.tr pn (VB C X pn R)).xe e s':=by
 obtain⟨ea,cls,H',rfl,os,bare,un,hok,⟨n0,f0,oe,vs,he,hc,hd,h2,hh⟩,q⟩:=c
 have I':zJ (X.tr pn (VB C X pn R)) pins σ H' s':=I.call' (ch:=[]) os un hok bare fun b z=>absurd z (by simp)
 have cut:∀ {b:Addr},yq (X.tr pn (VB C X pn R)) pins H' b→yq (X.tr pn fun _ _=>True) [] H' b:=fun {b} f=>⟨f.1,f.2.1,f.2.2.1,f.2.2.2.1,f.2.2.2.2.1,fun p hp=>f.2.2.2.2.2 p (by rw[Cv] at hp;exact CF _ hp)⟩
 refine⟨ea,cls,.none,σ,H',rfl,⟨⟨I'.ok.mod,I'.ok.kind,I'.ok.glob,I'.ok.blt,I'.ok.above,I'.ok.inj,I'.ok.has,I'.ok.cab,I'.ok.hd,I'.ok.frames,I'.ok.stk,I'.ok.exf,I'.ok.bs,I'.ok.bsz,I'.ok.noex,I'.ok.exfs,I'.ok.funs,I'.ok.frf⟩,I'.os,I'.bare,I'.base,I'.loc,I'.cell,I'.free,I'.freeC,fun p hp=>I'.pin p ?_,I'.hok,I'.len⟩,?_,q⟩
 ·rw[Cv] at hp
  exact CF _ hp
 ·refine⟨cut (I.fpNone n0 f0),oe,vs,he,hc,hd,h2,?_⟩
  rcases hh with h1 | ⟨T,oT,ts,h1,ne,nT,fT,hT,hdT,h3⟩
  ·exact .inl ⟨h1,rfl⟩
  ·exact .inr ⟨T,oT,ts,h1,ne,cut (I.fpNone nT fT),hT,hdT,h3⟩
noncomputable def rK (C:Addr) (m:Str) (sp:Sp) (R:St→XK) (ta:TE) (t:TA):TE:=fun σ H Q=>ta σ H fun x H1=>∃ a dx fs,x = .ref a∧H1 a=some (.ins C dx fs)∧fs.lookup m=none∧t σ H1 fun vs H2=>sp (x::vs) H2 Q (R σ)
theorem LM {Ct:CT} {pn:List (Addr × Obj)} {R:St→XK} {k j:Nat} {C:Addr} {m:Str} {ps:List Str} {sp:Sp} {ta:TE} {t:TA} {o e:Expr} {es:List Expr} {pos apos:Pos} {pl:Sem Bool} (M:qU X.prog X.w X.K X.mg X.base (OL Ct X.prog X.w) k C m ps sp) (hr:yw j X.A) (hj:k≤j) (he:PE (X.tr pn (VB Ct X pn R)) o ta) (ha:PA (X.tr pn (VB Ct X pn R)) (e::es) t) (hst:starEach (e::es) X.env=(false,eval e X.env)::starEach es X.env:=by exact zT rfl) (hpl:(backTo pos (starEach es X.env)).any (·.1)=false:=by exact yn rfl) (ht:eval (.Call (.Attribute o m apos) (e::es) [] pos) X.env=(do
   let ov ← eval o X.env
   standAt apos.atName
   let (f,first) ← holding [ov] (getMethod ov m pl)
   callWith pos f first (backTo pos (starEach (e::es) X.env)) (backToKw pos (keywordEach [] X.env))):=by rfl) :
  PE (X.tr pn (VB Ct X pn R)) (.Call (.Attribute o m apos) (e::es) [] pos) (rK C m sp R ta t):=by
 obtain⟨c,f,fd,hm,hb,F⟩:=M
 intro pins s σ H Q I h
 refine PySem.W.methodCall_KW (pl:=pl) (q0 (he pins s σ H _ I h) fun u s1 ⟨x,H1,I1,rx,a,dx,fs,ex,ea,l,q⟩=>?_) ht
 subst ex
 obtain rfl:u=Value.ref a:=rx
 refine ub I1 ea c hm l ?_
 refine PySem.W.callWith_K (first:=[.ref a]) (h₀:=X.base) I.ok.mod.kin hm.kp (q0 (ha pos pins s1 σ H1 _ I1 q) fun us s2 ⟨vs,H2,I2,r,q2⟩=>⟨I2.kIn,?_⟩) hst hpl
 have r2:qf (V.ref a::vs) (.ref a::us):=.cons rfl r
 have hl:(.ref a::us).length=ps.length:=by rw[← r2.length];exact F.len _ _ _ _ q2
 have bd:=hb s2 (.ref a::us) I2.kIn (by rw[Cv];exact hl)
 rw[Cv] at bd
 refine wpAny_call (codeAny_mono (F.run X.A X.stack s2 H2 ⟨.ref a::us,[]⟩ (.ref a::us) (.ref a::vs) Q (R σ) (hr.mono hj) I2.env0 bd r2 q2) fun r s' hq=>?_)
 cases r with
 | error e=>exact Gb I2 hq
 | ok fl =>
  cases fl with
  | ret u=>exact I2.after hq
  | next=>exact False.elim hq
  | brk=>exact False.elim hq
  | cont=>exact False.elim hq
end
end L2
namespace K11
open PySem PySem.NumText L2 Pg
seal PE PA PT PW PS yW PG vq PI j7 PO PK
section
variable {P:Program} {w:World} {K:BFr} {mg:Str→Option Value} {base:Heap} {f:Addr} {fd:FuncData} {d:Nat→Addr} {cR:Addr}
set_option maxHeartbeats 32000000 in
theorem Li {C:Addr} {j:Nat} (hj:2≤j) (F:qJ K "_law_refused" "_law_refused" (top 88) f fd) (G:vw mg) (mgR:mg "RollError" = some (.ref cR)) (Z4:Rz K d cR 4) (Z5:Rz K d cR 5) (Z6:Rz K d cR 6) (C1:qN P w K mg base z8 1 "_law_no_year" ["_law_number"] (xj K)) (MP:qU P w K mg base (nh P w) j C "put" ["self","year","rows"] (ke K C (d 4) (d 6) (d 5))) (Ck:lO P w K mg base 1 "_law_word" ["_law_e"] (kE K d)):zL P w K mg base z8 (j+1) f fd ["_law_book","_law_years_here","_law_names_here","_law_number"] (X0 C):=by
 have nd:(["_law_book","_law_years_here","_law_names_here","_law_number","_law_year","_law_rows","_law_at","_law_odd","_law_word_here","_law_e"]:List Str).Nodup:=by decide +kernel
 have nc:(["_law_name"]:List Str).Nodup:=by decide +kernel
 have nk:(["_law_k"]:List Str).Nodup:=by decide +kernel
 refine F.ok (N:=["_law_book","_law_years_here","_law_names_here","_law_number","_law_year","_law_rows","_law_at","_law_odd","_law_word_here","_law_e"]) (by walk_at"s") (fun vs H Q E h=>?_) (fun cdv A outer s H vs Q E hr h=>?_)
 ·obtain⟨B,dx,t,yl,nl,es,ys,nms,n,rfl,_⟩:=h
  rfl
 ·obtain⟨B,dx,t,yl,nl,es,ys,nms,n,rfl,BK,el,hy,y8,yb,hn,n8,rn,n0,q⟩:=h
  obtain⟨R,hR⟩:∃ R:St→XK,R=fun σ cls _ H'=>∃ i,(i=4∨i=5∨i=6)∧cls = .ref (d i)∧zq H H'∧σ[8]? = some (some (.str (rz i))):=⟨_,rfl⟩
  refine' ⟨_,(zh (zQ (i:=4) nd rfl (Or.inl rfl) (zD zw (pv 1) (zu zW (zu qE (pv 3) ze) ze)))
    (zh ?c1
    (zh (zQ (i:=6) nd rfl (Or.inl rfl) (zu zW (zu qE (pv 3) ze) (zu qA (zy z7 rfl G.len boot_len (za (pv 5) zd)) ze)))
    (zh (zQ (i:=7) nd rfl (Or.inl rfl) (zD zw (zS (za zt (za zt (za Zk (za ze (za (zu qg (zu qg zt (zD zw (pv 2) ze)) zt) (za zt (za zt zd)))))))) (zu zW (zu qE (pv 3) ze) ze)))
    (zh (zQ (i:=8) nd rfl (Or.inl rfl) (zD zw (zS (za zt (za zt (za zt (za zt (za zt (za zt zd))))))) (zu zW (pv 3) ze)))
    (u7 (zX (zK qK (zu zW (pv 3) ze) ze (zI _)) (zh (zQ (i:=4) nd rfl (Or.inl rfl) (zp C1 hr (by omega) zC (za (zu qE (pv 3) ze) zd)))
    (zi (zQ (i:=5) nd rfl (Or.inl rfl) (zD zw (zS (za (pv 5) (za (zu jt (pv 5) (pv 5)) (za Zk (za (zS (za (pv 7) zd)) zd))))) (zu zW (zu qE (pv 3) ze) ze))))) (zi (zX (zK qK (zu zW (pv 3) ze) ze (zI _)) (zi (zQ (i:=5) nd rfl (Or.inl rfl) (zD zw (zS (za (qk jK rfl G.tuple yP (za (pv 5) zd)) (za Zk (za zt (za ze (za wX (za yM zd))))))) (zu zW (zu qE (pv 3) ze) ze)))) (zi (zX (zK qK (zu zW (pv 3) ze) ze (zI _)) (zi (zQ (i:=5) nd rfl (Or.inl rfl) (zu jt (yi jm ?c2 jc (ym ze)) (zS (za (pv 7) zd))))) (zi (zX (zK qK (zu zW (pv 3) ze) ze (zI _)) (zi (zQ (i:=5) nd rfl (Or.inl rfl) (zu jt (yi jm (pv 5) jc (ym ze)) (zS (za (zD zw (pv 5) ze) zd))))) (zi (zQ (i:=5) nd rfl (Or.inl rfl) (zu jt (zu jt (zu jt (yi jm (yi jm (pv 5) jc (ym (pv 6))) jc (ym ze)) (zS (za (pv 7) zd))) (yi jm (yi jm (pv 5) (ym (pv 6)) jc) jc (ym (zu ON ze (zy (gB rfl) rfl G.min PyProof.Rows.boot_min (za (pv 6) (za ze zd))))))) (zu lx (zS (za (zD zw (pv 5) ze) zd)) (qk Gp rfl G.int QK (za (yO (qC qK (zu zW (pv 3) ze) ze (zI _)) (yX (qC kP (pv 6) ze (zI _)))) zd)))))))))))))
    (zh ?tr (zi (zx yM))))))))),?main⟩
  case c1 =>
   refine' vG (i:=5) (Nc:=["_law_name"]) (cl:=[]) (src:=[none]) (g:=z6 0) (tt:=qv) (te:=jH (fun x y H Q=>∃ i j,x = .str i∧y = .str j∧i.length+j.length≤sizeLine∧Q (.str (i++j)) H) (jH (fun x y H Q=>∃ i j,x = .str i∧y = .str j∧i.length+j.length≤sizeLine∧Q (.str (i++j)) H) (tC (.str "flat ")) (zP 0)) (tC (.str " 5")))
    nd rfl rfl (by walk_at"c0") rfl (yI (yi jm (pv 2) jc (ym (zu qA ze (zu zW (zu qE (pv 3) ze) ze))))) ?hb
   case hb =>
    intro fp C' s' H'
    exact⟨zN (i:=0) nc rfl (Or.inl rfl),qj,zu qg (zu qg zt (pv 0)) zt⟩
  case c2 =>
   refine' qm (Nc:=["_law_k"]) (cl:=[]) (src:=[none]) (wi:=Zz (qi (tC (.int 9)) yd)) (g:=z6 0) (tt:=qv)
    (by walk_at"c0") rfl (yu rfl G.range (za ze zd)) ?hb
   case hb =>
    intro fp C' s' H'
    exact⟨zN (i:=0) nk rfl (Or.inl rfl),qj,zu qg (zu qg zt (zD WS zt (pv 0))) zt⟩
  case tr =>
   refine' Ly (C:=wH) (R:=R) (i:=9) (th:=fun ea=>gu (jH bt (Vj ((A.deeper (PyProof.Rows.envOfC "_law_refused" (zO (top 88)) s.heap.objs.size f cdv)).mark (some (.ref ea))) (kE K d) (qi (zP 9) yd)) (zP 8))) (tb:=Mp (rK C "put" (ke K C (d 4) (d 6) (d 5)) R (zP 0) (qi (zP 4) (qi (zP 5) yd))))
    rfl rfl rfl mgR (fun σ cls o H' z=>by
     rw[hR] at z
     obtain⟨i,hi,rfl,_⟩:=z
     rcases hi with rfl | rfl | rfl
     ·exact Z4.ex
     ·exact Z5.ex
     ·exact Z6.ex) nd rfl rfl ?body
    (fun pn ea E=>zi (zx (qC qK (XA (j:=j) Ck ⟨hr.dp,hr.un⟩ (by omega) (za (pv 9) zd)) (pv 8) (zI _))))
   intro pn
   exact zi (z4 (LM MP hr (cx _) (pv 0) (za (pv 4) (za (pv 5) zd))))
  case main =>
   have z0e:∃ z0 nr,nms=z0::nr:=by
    cases nms with
    | nil=>cases n8
    | cons a b=>exact⟨a,b,rfl⟩
   obtain⟨z0,nr,ez0⟩:=z0e
   have rz0:=rn z0 (by rw[ez0];exact cX)
   have lz0:=rz0.ok.hi
   obtain⟨yv,eyv,myv⟩:=yV (xs:=ys.map V.int) (i:=n/6%8) (cU _ (by decide)) (by rw[cw,y8];exact Ca _ (by decide))
   obtain⟨Y,hY,rfl⟩:=cH.mp myv
   obtain⟨Y0,Y1⟩:=yb Y hY
   obtain⟨kN,hk,k1,k8⟩:∃ kN:Nat,1+n/48%8=(kN:Nat)∧1≤kN∧kN≤8:=by
    have h0:0≤n/48%8:=cU _ (by decide)
    have h1:n/48%8<8:=Ca _ (by decide)
    exact⟨(1+n/48%8).toNat,by omega,by omega,by omega⟩
   refine⟨_,rfl,_,rfl,_,_,rfl,rfl,⟨by decide,by decide⟩,_,_,rfl,rfl,(by show (0:Int)<8;decide),yl,_,_,_,rfl,rfl,zZ.of hy,eyv,?_⟩
   refine⟨_,rfl,_,rfl,_,_,rfl,rfl,⟨by decide,by decide⟩,_,_,rfl,rfl,(by show (0:Int)<8;decide),_,_,rfl,rfl,_,rfl,nl,_,rfl,zZ.of hn,fun p p0=>?_⟩
   have s1:=zq.upd (o:=.lst (qp (nms.map V.str) none (some (1+n/48%8)))) p0
   have e1:(upd H p (.lst (qp (nms.map V.str) none (some (1+n/48%8))))) p=some (.lst ((nms.take kN).map V.str)):=by rw[zj,hk,uG,← Dl]
   generalize upd H p (.lst (qp (nms.map V.str) none (some (1+n/48%8))))=H1 at s1 e1
   have tl:(nms.take kN).length=kN:=by rw[Ci,n8];omega
   refine⟨p,rfl,⟨_,zZ.of e1⟩,fun D hD=>u9 (yp (zZ.of e1)) hD (by rw[cw,tl,sizeLine_eq];omega) (fun _=>true) (fun x=>match x with | .str z=>.str (U1 z) | v=>v) (fun x hx H' R _ r=>r) (fun x hx _ H' R _ r=>?_) ?_⟩
   ·obtain⟨z,hz,rfl⟩:=cH.mp hx
    have lz:=(rn z (CV hz)).ok.hi
    exact⟨_,rfl,_,_,rfl,rfl,(by rw[show ("flat ":Str).length=5 by decide +kernel,sizeLine_eq];omega),_,_,rfl,rfl,(by rw[js,show ("flat ":Str).length=5 by decide +kernel,show (" 5":Str).length=2 by decide +kernel,sizeLine_eq];omega),r⟩
   have em:(((nms.take kN).map V.str).filter fun _=>true).map (fun x=>match x with | .str z=>.str (U1 z) | v=>v)=((nms.take kN).map U1).map V.str:=by
    rw[De.mpr fun _ _=>rfl,cV,cV]
    rfl
   rw[em]
   have s2:=zq.upd (o:=.lst (((nms.take kN).map U1).map V.str)) hD
   have e2:(upd H1 D (.lst (((nms.take kN).map U1).map V.str))) D=some (.lst (((nms.take kN).map U1).map V.str)):=zj
   generalize upd H1 D (.lst (((nms.take kN).map U1).map V.str))=H2 at s2 e2
   obtain⟨rws,hrws⟩:∃ rws,rws=(nms.take kN).map U1:=⟨_,rfl⟩
   rw[← hrws] at e2
   have rl:rws.length=kN:=by rw[hrws,cw,tl]
   have rtx:∀ x∈rws.map V.str,∀ H',tF K H' x:=fun x hx H'=>by
    obtain⟨r,hr',rfl⟩:=cH.mp hx
    rw[hrws] at hr'
    obtain⟨z,hz,rfl⟩:=cH.mp hr'
    exact .inr ⟨_,rfl,cJ (lB (rn z (CV hz)).ok.hi) (by decide)⟩
   have S2:=s1.trans s2
   refine⟨_,rfl,_,_,rfl,rfl,⟨by decide,by decide⟩,_,rfl,D,_,rfl,.inl (zZ.of e2),_,_,rfl,rfl,_,_,rfl,rfl,(by rw[cw];omega),?_⟩
   have at0:0≤n/7%(((rws.map V.str).length:Nat)+1):=cU _ (by rw[cw];omega)
   have at1:n/7%(((rws.map V.str).length:Nat)+1)<((rws.map V.str).length:Nat)+1:=Ca _ (by rw[cw];omega)
   have hz0:kT (nms.map V.str) 0=some (.str z0):=by rw[ez0];exact yE rfl
   refine⟨_,rfl,nl,_,_,_,rfl,rfl,zZ.of (S2 _ _ hn),hz0,_,_,rfl,rfl,(by rw[show ("flat ":Str).length=5 by decide +kernel,sizeLine_eq];omega),_,_,rfl,rfl,(by rw[js,show ("flat ":Str).length=5 by decide +kernel,show (" 05":Str).length=3 by decide +kernel,sizeLine_eq];omega),qa rfl,fun lo H3 s3 n3 e3=>?_⟩
   obtain⟨ov,eov,mov⟩:=yV (xs:=[V.str "flat",V.str "flat base 5",V.non,V.int 5,V.str (rj z0),V.str "share a 20001 up",V.str ""]) (i:=n/11%7) (cU _ (by decide)) (Ca _ (by decide))
   obtain⟨otx,ord⟩:(∀ H',tF K H' ov)∧Vy ov=none:=by
    simp only[cy,cA,or_false] at mov
    rcases mov with rfl | rfl | rfl | rfl | rfl | rfl | rfl
    ·exact⟨fun _=>.inr ⟨_,rfl,by decide +kernel⟩,cm⟩
    ·exact⟨fun _=>.inr ⟨_,rfl,by decide +kernel⟩,BQ⟩
    ·exact⟨fun _=>.inl Lh,rfl⟩
    ·exact⟨fun _=>.inl (nA 5),rfl⟩
    ·exact⟨fun _=>.inr ⟨_,rfl,cJ (mP lz0) (by decide)⟩,LQ rz0⟩
    ·exact⟨fun _=>.inr ⟨_,rfl,by decide +kernel⟩,BN⟩
    ·exact⟨fun _=>.inr ⟨_,rfl,by decide +kernel⟩,B9⟩
   refine⟨_,rfl,_,_,rfl,rfl,⟨by decide,by decide⟩,_,_,rfl,rfl,(by show (0:Int)<7;decide),lo,_,_,_,rfl,rfl,zZ.of e3,eov,qa rfl,fun lw H4 s4 n4 e4=>?_⟩
   have S4:=S2.trans (s3.trans s4)
   have e24:=s4 _ _ (s3 _ _ e2)
   have n60:0≤n%6:=cU _ (by decide)
   have n66:n%6<6:=Ca _ (by decide)
   obtain⟨i,hi,ewv⟩:∃ i,((i=4∧n%6=0)∨(i=6∧(n%6=1∨n%6=2∨n%6=4))∨(i=5∧(n%6=3∨n%6=5)))∧kT [V.str "year",.str "book",.str "book",.str "rule",.str "book",.str "rule"] (n%6)=some (.str (rz i)):=by
    have h:n%6=0∨n%6=1∨n%6=2∨n%6=3∨n%6=4∨n%6=5:=by omega
    rcases h with h | h | h | h | h | h
    ·exact⟨4,.inl ⟨rfl,h⟩,by rw[h];rfl⟩
    ·exact⟨6,.inr (.inl ⟨rfl,.inl h⟩),by rw[h];rfl⟩
    ·exact⟨6,.inr (.inl ⟨rfl,.inr (.inl h)⟩),by rw[h];rfl⟩
    ·exact⟨5,.inr (.inr ⟨rfl,.inl h⟩),by rw[h];rfl⟩
    ·exact⟨6,.inr (.inl ⟨rfl,.inr (.inr h)⟩),by rw[h];rfl⟩
    ·exact⟨5,.inr (.inr ⟨rfl,.inr h⟩),by rw[h];rfl⟩
   refine⟨_,rfl,_,_,rfl,rfl,(by show (0:Int)<6;decide),lw,_,_,_,rfl,rfl,zZ.of e4,ewv,?_⟩
   refine Zf (fun σ H'=>∃ yv rv x6 x7,σ = [some (.ref B),some (.ref yl),some (.ref nl),some (.int n),some yv,some rv,x6,x7,some (.str (rz i)),none]∧zq H H'∧BD K H' yv rv i) (fun Ek kk=>?_) ?_
   ·have s6:(0:Int)<6:=by decide
    have nh0:0≤n/6:=Dy n0 (by decide)
    have r0m:∃ r0,kT (rws.map V.str) 0=some (.str r0)∧rws.head? = some r0:=by
     cases hr0:rws with
     | nil=>rw[hr0] at rl;exact absurd rl (by simp;omega)
     | cons a b=>exact⟨a,yE rfl,rfl⟩
    obtain⟨r0,er0,hd0⟩:=r0m
    have mr0:V.str r0∈rws.map V.str:=cH.mpr ⟨r0,List.mem_of_head? hd0,rfl⟩
    refine⟨_,rfl,_,_,rfl,rfl,s6,rfl,_,rfl,ye (fun e=>?_) (fun e=>?_)⟩
    ·have k0:n%6=0:=V.int.inj (of_decide_eq_true e)
     obtain rfl:i=4:=by omega
     refine⟨_,rfl,_,_,rfl,rfl,⟨by decide,by decide⟩,_,rfl,nh0,fun v H5 s5 nt=>?_⟩
     have e25:=s5 _ _ e24
     refine⟨_,rfl,_,rfl,_,rfl,D,D,_,_,rfl,rfl,e25,e25,(by rw[cw,rl,sizeLine_eq];omega),fun pc Hc sc nc' ec=>⟨_,rfl,qa rfl,fun po Ho so no eo=>⟨qa rfl,fun pl Hl sl nl' el'=>?_⟩⟩⟩
     obtain⟨rv,erv,_⟩:=yV (xs:=[V.ref D,V.ref pc,V.non,V.ref po]) (i:=n/48%4) (cU _ (by decide)) (Ca _ (by decide))
     refine⟨_,rfl,_,_,rfl,rfl,⟨by decide,by decide⟩,_,_,rfl,rfl,(by show (0:Int)<4;decide),pl,_,_,_,rfl,rfl,zZ.of el',erv,kk _ _ ⟨v,rv,_,_,rfl,S4.trans (s5.trans (sc.trans (so.trans sl))),nt.same (sc.trans (so.trans sl))⟩⟩
    have k0:n%6≠0:=fun c=>e (decide_eq_true (congrArg V.int c))
    refine⟨_,rfl,_,_,rfl,rfl,s6,rfl,_,rfl,ye (fun e=>?_) (fun e=>?_)⟩
    ·have k1':n%6=1:=V.int.inj (of_decide_eq_true e)
     obtain rfl:i=6:=by omega
     refine⟨_,rfl,D,_,rfl,.inl ⟨zZ.of e24,fun pt ht=>?_⟩⟩
     have s5:=zq.upd (o:=.tup (rws.map V.str)) ht
     have e5:(upd H4 pt (.tup (rws.map V.str))) pt=some (.tup (rws.map V.str)):=zj
     generalize upd H4 pt (.tup (rws.map V.str))=H5 at s5 e5 ⊢
     refine fun pd Hd sd nd' ed=>⟨qa rfl,fun pl Hl sl nl' el'=>?_⟩
     obtain⟨rv,erv,mrv⟩:=yV (xs:=[V.ref pt,V.non,V.str "",V.int 5,V.ref pd,V.bl true]) (i:=n/48%6) (cU _ (by decide)) (Ca _ (by decide))
     refine⟨_,rfl,_,_,rfl,rfl,⟨by decide,by decide⟩,_,_,rfl,rfl,s6,pl,_,_,_,rfl,rfl,zZ.of el',erv,kk _ _ ⟨_,rv,_,_,rfl,S4.trans (s5.trans (sd.trans sl)),Y,rfl,Y0,Y1,.inl ?_⟩⟩
     simp only[cy,cA,or_false] at mrv
     rcases mrv with rfl | rfl | rfl | rfl | rfl | rfl
     ·exact ng (sl _ _ (sd _ _ e5))
     ·exact L8
     ·exact nJ _
     ·exact MN _
     ·exact Rh (sl _ _ ed)
     ·exact Rp true
    have k1':n%6≠1:=fun c=>e (decide_eq_true (congrArg V.int c))
    refine⟨_,rfl,_,_,rfl,rfl,s6,rfl,_,rfl,ye (fun e=>?_) (fun e=>?_)⟩
    ·have k2':n%6=2:=V.int.inj (of_decide_eq_true e)
     obtain rfl:i=6:=by omega
     refine⟨9,rfl,by decide,by decide,fun D' hD'=>jI vo (YT 9) hD' (by rw[Cj,sizeLine_eq];decide) (fun j=>.str (U1 ⟨#[("abcdefghi":Str).cps.toList.getD ((j:Nat):Int).toNat 0]⟩)) (fun j hj v H5 R s5 e5 r=>?_) (fun H5 s5 e5=>?_)⟩
     ·subst e5
      have hj:=Dp.mp hj
      exact⟨_,rfl,_,_,_,rfl,rfl,ZH (m:=9) (by decide +kernel) rfl,LA (by omega) (by show ((j:Nat):Int)<9;omega),_,_,rfl,rfl,(by rw[sizeLine_eq,show ("flat ":Str).length=5 by decide +kernel];show 5+1≤_;decide),_,_,rfl,rfl,(by rw[js,show ("flat ":Str).length=5 by decide +kernel,show (" 5":Str).length=2 by decide +kernel,sizeLine_eq];show 5+1+2≤_;decide),r _ (zq.refl _)⟩
     refine⟨_,rfl,D',_,rfl,zZ.of e5,fun p6 h6=>?_⟩
     obtain⟨nine,hnine⟩:∃ nine:List V,nine=(List.range 9).map fun j=>.str (U1 ⟨#[("abcdefghi":Str).cps.toList.getD ((j:Nat):Int).toNat 0]⟩):=⟨_,rfl⟩
     have n9:nine.length=9:=by rw[hnine,cw,Cj]
     rw[← hnine]
     have s6':=zq.upd (o:=.lst (qp nine none (some 8))) h6
     have e6:(upd H5 p6 (.lst (qp nine none (some 8)))) p6=some (.lst (nine.take 8)):=by rw[zj,show (8:Int)=((8:Nat):Int) from rfl,uG]
     generalize upd H5 p6 (.lst (qp nine none (some 8)))=H6 at s6' e6 ⊢
     refine⟨_,rfl,qa rfl,fun p7 H7 s7 n7 e7=>⟨p6,p7,_,_,rfl,rfl,s7 _ _ e6,e7,(by rw[Ci,n9,sizeLine_eq];show 8+1≤_;decide),fun p8 H8 s8 n8' e8=>kk _ _ ⟨_,_,_,_,rfl,S4.trans (s5.trans (s6'.trans (s7.trans s8))),Y,rfl,Y0,Y1,.inr ⟨p8,_,rfl,e8,.inl ?_⟩⟩⟩⟩
     rw[cG,Ci,n9]
     show 8<8+1
     decide
    have k2':n%6≠2:=fun c=>e (decide_eq_true (congrArg V.int c))
    refine⟨_,rfl,_,_,rfl,rfl,s6,rfl,_,rfl,ye (fun e=>?_) (fun e=>?_)⟩
    ·have k4':n%6=4:=V.int.inj (of_decide_eq_true e)
     obtain rfl:i=6:=by omega
     refine⟨_,rfl,_,rfl,D,_,rfl,zZ.of e24,fun p5 h5=>?_⟩
     have s5:=zq.upd (o:=.lst (qp (rws.map V.str) none (some 7))) h5
     have e5:(upd H4 p5 (.lst (qp (rws.map V.str) none (some 7)))) p5=some (.lst ((rws.take 7).map V.str)):=by rw[zj,show (7:Int)=((7:Nat):Int) from rfl,uG,← Dl]
     generalize upd H4 p5 (.lst (qp (rws.map V.str) none (some 7)))=H5 at s5 e5 ⊢
     refine⟨_,rfl,D,_,_,_,rfl,rfl,zZ.of (s5 _ _ e24),er0,qa rfl,fun p6 H6 s6' n6 e6=>?_⟩
     have few:=VV (zs:=rws) (k:=7) hd0 (by decide)
     refine⟨p5,p6,_,_,rfl,rfl,s6' _ _ e5,e6,(by rw[cw,Ci,sizeLine_eq];simp;omega),fun p7 H7 s7 n7 e7=>kk _ _ ⟨_,_,_,_,rfl,S4.trans (s5.trans (s6'.trans s7)),Y,rfl,Y0,Y1,.inr ⟨p7,_,rfl,e7,.inr ⟨?_,?_,?_⟩⟩⟩⟩
     ·have:=few.1
      rw[cG,Cp] at this
      rw[cG,cw,Cp]
      exact this
     ·intro x hx
      simp only[Cu,Cq] at hx
      rcases hx with hx | rfl
      ·obtain⟨r,hr',rfl⟩:=cH.mp hx
       exact rtx _ (cH.mpr ⟨r,CV hr',rfl⟩) _
      ·exact rtx _ mr0 _
     ·have hz:(nms.take kN).head? = some z0:=by
       rw[ez0]
       obtain⟨k',rfl⟩:∃ k',kN=k'+1:=⟨kN - 1,by omega⟩
       rfl
      have er:r0=U1 z0:=by
       rw[hrws,List.head?_map,hz] at hd0
       exact (Option.some.inj hd0).symm
      refine⟨((nms.take kN).take 7++[z0]).map fun z=>Rk.flat z 5,?_,?_⟩
      ·rw[← O7,er,hrws,← Dl,Ce,Ce,Ce,Ce]
       ·rfl
       ·intro z hz'
        rcases Cu.mp hz' with h | h
        ·exact rn z (CV (CV h))
        ·rw[Cq.mp h];exact rz0
      ·rw[Pz]
       exact (VV hz (by decide)).2
    have k4':n%6≠4:=fun c=>e (decide_eq_true (congrArg V.int c))
    obtain rfl:i=5:=by omega
    obtain⟨a,ha⟩:∃ a,a=n/7%(((rws.map V.str).length:Nat)+1):=⟨_,rfl⟩
    have a0:0≤a:=by rw[ha];exact at0
    have a8:a≤8:=by
     rw[ha]
     rw[cw,rl] at at1 ⊢
     omega
    refine⟨_,rfl,_,rfl,_,rfl,D,_,rfl,zZ.of e24,fun p1 h1=>?_⟩
    rw[← ha]
    have s5:=zq.upd (o:=.lst (qp (rws.map V.str) none (some a))) h1
    have e5:(upd H4 p1 (.lst (qp (rws.map V.str) none (some a)))) p1=some (.lst (qp (rws.map V.str) none (some a))):=zj
    generalize upd H4 p1 (.lst (qp (rws.map V.str) none (some a)))=H5 at s5 e5 ⊢
    refine⟨_,rfl,p1,_,rfl,zZ.of e5,fun p2 h2=>?_⟩
    have s6':=zq.upd (o:=.lst (qp (qp (rws.map V.str) none (some a)) none (some 7))) h2
    have e6:(upd H5 p2 (.lst (qp (qp (rws.map V.str) none (some a)) none (some 7)))) p2=some (.lst (qp (qp (rws.map V.str) none (some a)) none (some 7))):=zj
    generalize upd H5 p2 (.lst (qp (qp (rws.map V.str) none (some a)) none (some 7)))=H6 at s6' e6 ⊢
    have big:sizeLine=1048576∨100≤sizeLine:=.inr (by rw[sizeLine_eq];decide)
    have l7:(qp (qp (rws.map V.str) none (some a)) none (some 7)).length≤7:=ZT (k:=7)
    refine⟨_,rfl,qa rfl,fun p3 H7 s7 n7 e7=>⟨p2,p3,_,_,rfl,rfl,s7 _ _ e6,e7,(by rw[sizeLine_eq];simp only[Cp];omega),fun p4 H8 s8 n8' e8=>?_⟩⟩
    have e28:=s8 _ _ (s7 _ _ (s6' _ _ (s5 _ _ e24)))
    refine⟨_,rfl,_,rfl,_,rfl,D,_,rfl,zZ.of e28,fun p5 h5=>?_⟩
    rw[← ha]
    have s9:=zq.upd (o:=.lst (qp (rws.map V.str) (some a) none)) h5
    have e9:(upd H8 p5 (.lst (qp (rws.map V.str) (some a) none))) p5=some (.lst (qp (rws.map V.str) (some a) none)):=zj
    generalize upd H8 p5 (.lst (qp (rws.map V.str) (some a) none))=H9 at s9 e9 ⊢
    refine⟨_,rfl,_,_,rfl,_,_,rfl,rfl,_,rfl,p5,_,rfl,zZ.of e9,fun p6 h6=>?_⟩
    rw[← ha]
    obtain⟨c3,hc3⟩:∃ c3,c3=qp (qp (rws.map V.str) (some a) none) none (some (6 - (if (6:Int)<a then 6 else a))):=⟨_,rfl⟩
    rw[← hc3]
    have l3:c3.length≤8:=by
     rw[hc3]
     refine cJ (m:=(rws.map V.str).length) ?_ (by rw[cw,rl];exact k8)
     unfold qp
     simp only[Ci,dG]
     omega
    have s10:=zq.upd (o:=.lst c3) h6
    have e10:(upd H9 p6 (.lst c3)) p6=some (.lst c3):=zj
    generalize upd H9 p6 (.lst c3)=H10 at s10 e10 ⊢
    refine⟨p4,p6,_,_,rfl,rfl,s10 _ _ (s9 _ _ e8),e10,(by rw[sizeLine_eq,cG,Cp];omega),fun p7 H11 s11 n11 e11=>?_⟩
    have e211:=s11 _ _ (s10 _ _ (s9 _ _ e28))
    refine⟨_,rfl,D,_,_,_,rfl,rfl,zZ.of e211,er0,qa rfl,fun p8 H12 s12 n12 e12=>?_⟩
    have S12:=S4.trans (s5.trans (s6'.trans (s7.trans (s8.trans (s9.trans (s10.trans (s11.trans s12)))))))
    have tail:∀ m:Nat,m≤1→(m=0∨a<6)→Mh (.ref p8) (.int (m:Nat)) H12 fun v H'=>Mm (.ref p7) v H' fun v' H''=>Ek.nx [some (.ref B),some (.ref yl),some (.ref nl),some (.int n),some (.int Y),some v',some (.int (n/7%(((rws.map V.str).length:Nat)+1))),some ov,some (.str (rz 5)),none] H'':=fun m m1 m2=>by
     obtain⟨o8,oal,ome⟩:=Gr (o:=ov) a0 a8 mr0 m1 m2
     refine⟨p8,_,_,rfl,rfl,e12,by omega,by omega,(by rw[CG,Cp,sizeLine_eq];omega),fun p9 H13 s13 n13 e13=>⟨p7,p9,_,_,rfl,rfl,s13 _ _ (s12 _ _ e11),e13,(by rw[CG,X9,cG,cG,Cp,sizeLine_eq];omega),fun p10 H14 s14 n14 e14=>kk _ _ ⟨_,_,_,_,rfl,S12.trans (s13.trans s14),Y,rfl,Y0,Y1,p10,_,rfl,e14,?_⟩⟩⟩
     rw[CG,hc3]
     exact⟨o8,fun x hx=>(oal x hx).elim (fun h=>h ▸ otx _) (fun h=>rtx _ h _),ov,ome,ord⟩
    refine⟨_,rfl,_,_,rfl,rfl,s6,rfl,_,rfl,ye (fun e5'=>?_) (fun e5'=>?_)⟩
    ·refine⟨_,rfl,_,_,rfl,rfl,.inr ⟨_,rfl,?_⟩⟩
     rw[← ha]
     by_cases a6:a<6
     ·rw[if_pos (decide_eq_true a6)]
      exact tail 1 (by decide) (.inr a6)
     ·rw[if_neg (by rw[decide_eq_false a6];decide)]
      exact tail 0 (by decide) (.inl rfl)
    ·exact .inr ⟨_,rfl,tail 0 (by decide) (.inl rfl)⟩
   ·rintro σ H5 ⟨yv,rv,x6,x7,rfl,S5,bad⟩
    have B5:=BK.fr fun b o h=>S5 _ _ h
    have hi3:i=4∨i=5∨i=6:=by
     rcases hi with ⟨h,_⟩ | ⟨h,_⟩ | ⟨h,_⟩ <;> simp[h]
    subst hR
    refine⟨?_,?_⟩
    ·refine⟨_,rfl,B,dx,_,rfl,B5.ins,rfl,_,rfl,_,rfl,?_⟩
     dsimp only [yd]
     exact mq (d:=d) B5 (by omega) bad fun H6 s6=>⟨i,hi3,rfl,S5.trans s6,rfl⟩
    ·rintro ea oe vs cls σ' H' ⟨i',hi',rfl,s1',r8⟩ hne hcl hd1 hd2 h2 hlen
     have kd:JM K d (d i') i':=by
      rcases hi' with rfl | rfl | rfl
      ·exact Z4.kd
      ·exact Z5.kd
      ·exact Z6.kd
     refine⟨.ref ea,dY (by rw[hlen];show 9<10;decide),.inr ⟨ea,oe,vs,_,rfl,zj,hd2,h2.put hne⟩,ea,d i',i',rfl,⟨⟨oe,vs,zj,hcl,hd1,hd2⟩,kd.cls⟩,kd,(by rcases hi' with rfl | rfl | rfl <;> simp),fun H2' s2'=>⟨_,(by rw[Dq (by decide)];exact r8),rfl,?_⟩⟩
     rw[decide_eq_true rfl]
     exact q H2' ((s1'.trans (zq.upd hne)).trans s2')
end
end K11
namespace Pg
open PySem L2
theorem Lj {H H':Hp} {ys:List V} {cs:List (List V)} (k:FT H H') (T:qd H ys cs):qd H' ys cs:=⟨T.len,fun i c h=>by
 obtain⟨a,h1,h2⟩:=T.at_ i c h
 exact⟨a,h1,k _ _ h2⟩⟩
section
variable {C B dx t o al:Addr} {fx:List (Addr × HO)} {H H1 H2 H4:Hp} {es fs:List Be} {vs:List V} {ds:List (Int × List Int)}
end
structure Bx (C hl:Addr) (H:Hp) (B dx t o:Addr) (es fs:List Be):Prop where
 bk:Yl C H B dx t es
 ow:Vm H o fs
 ey:fs.map yr=es.map yr
 nr:∀ e∈es,e.2.1≠hl
 no:∀ e∈fs,e.2.1≠hl
structure W2 (C hl:Addr) (B dx t o:Nat→Addr) (fx:List (Addr × HO)) (H:Hp) (es fs:Nat→List Be) (hs:List V):Prop where
 b:∀ k,k<2→Bx C hl H (B k) (dx k) (t k) (o k) (es k) (fs k)
 hd:Xq H hl hs
 f:∀ q∈fx,H q.1=some q.2∧(∀ k,k<2→q.1≠t k∧q.1≠o k)∧q.1≠hl
 tt:∀ i j,i<2→j<2→i≠j→t i≠t j
 oo:∀ i j,i<2→j<2→i≠j→o i≠o j
 ot:∀ i j,i<2→j<2→t i≠o j
noncomputable def tU (f:Nat→List Be) (k:Nat) (v:List Be):Nat→List Be:=fun i=>if i=k then v else f i
theorem xT (f:Nat→List Be) (k:Nat) (v:List Be):tU f k v k=v:=if_pos rfl
theorem WI (f:Nat→List Be) {k i:Nat} (v:List Be) (h:i≠k):tU f k v i=f i:=if_neg h
section
variable {C hl:Addr} {B dx t o:Nat→Addr} {fx:List (Addr × HO)} {H H8 H9 Ha Hb Hd:Hp} {es fs:Nat→List Be} {hs hs':List V}
theorem W2.same (W:W2 C hl B dx t o fx H es fs hs) (s:zq H H8):W2 C hl B dx t o fx H8 es fs hs :=
 ⟨fun k hk=>⟨(W.b k hk).bk.fr fun b o h=>s _ _ h,(W.b k hk).ow.same s,(W.b k hk).ey,(W.b k hk).nr,(W.b k hk).no⟩,W.hd.same s,fun q hq=>⟨s _ _ (W.f q hq).1,(W.f q hq).2⟩,W.tt,W.oo,W.ot⟩
theorem W2.kp (W:W2 C hl B dx t o fx H es fs hs) (k:Kp H H8 hl) (hd:Xq H8 hl hs'):W2 C hl B dx t o fx H8 es fs hs':=by
 have z:∃ xs,H hl=some (.lst xs):=⟨_,W.hd.at_⟩
 exact⟨fun i hi=>⟨(W.b i hi).bk.kp k z (W.b i hi).nr,(W.b i hi).ow.kp k z (W.b i hi).no,(W.b i hi).ey,(W.b i hi).nr,(W.b i hi).no⟩,hd,fun q hq=>⟨k _ _ (W.f q hq).1 (W.f q hq).2.2,(W.f q hq).2⟩,W.tt,W.oo,W.ot⟩
theorem W2.put {k:Nat} (hk:k<2) {l D a:Addr} {Y:Int} {rs:List Rk} {xs:List V} (W:W2 C hl B dx t o fx H es fs hs) (s1:zq H H8) (l0:H l=none) (d1:vD H8 l rs) (s9:zq H8 H9) (D0:H8 D=none) (eD:H9 D=some (.lst xs)) (a0:H9 a=none) (Ba:Yl C Ha (B k) (dx k) (t k) (we (es k) Y a rs)) (ka:∀ b ox,H9 b=some ox→b≠t k→Ha b=some ox) (sb:zq Ha Hb) (kd:∀ b ox,Hb b=some ox→b≠D→b≠o k→Hd b=some ox) (od:Hd (o k)=some (.dK (jZ (we (fs k) Y l rs)))) :
  W2 C hl B dx t o fx Hd (tU es k (we (es k) Y a rs)) (tU fs k (we (fs k) Y l rs)) hs:=by
 have W8:=W.same s1
 have W9:=W8.same s9
 have big:∀ b ox,H8 b=some ox→b≠t k→b≠o k→Hd b=some ox:=fun b ox h n1 n2=>kd _ _ (sb _ _ (ka _ _ (s9 _ _ h) n1)) (zA h D0) n2
 have tk:=(W8.b k hk).bk.dic
 have ok':=(W8.b k hk).ow.dic
 have ls:∀ b ys,H8 b=some (.lst ys)→Hd b=some (.lst ys):=fun b ys h=>big _ _ h (qG h tk (by intro z;cases z)) (qG h ok' (by intro z;cases z))
 have tp:∀ b ys,H8 b=some (.tup ys)→Hd b=some (.tup ys):=fun b ys h=>big _ _ h (qG h tk (by intro z;cases z)) (qG h ok' (by intro z;cases z))
 have du:∀ b qs,vD H8 b qs→vD Hd b qs:=fun b qs h=>by
  obtain⟨ys,e,T⟩:=h
  refine⟨ys,ls _ _ e,T.len,fun i c hc=>?_⟩
  obtain⟨x,h1,h2⟩:=T.at_ i c hc
  exact⟨x,h1,tp _ _ h2⟩
 have hl8:=W8.hd.at_
 have D9:∀ {b ox},H8 b=some ox→b≠D:=fun h=>zA h D0
 refine⟨fun i hi=>?_,⟨ls _ _ hl8,fun v hv=>?_⟩,fun q hq=>?_,W.tt,W.oo,W.ot⟩
 ·by_cases e:i=k
  ·subst e
   rw[xT,xT]
   have oa:Ha (o i)=some (.dK (jZ (fs i))):=ka _ _ (s9 _ _ ok') (fun z=>W.ot i i hi hi z.symm)
   refine⟨⟨kd _ _ (sb _ _ Ba.ins) ?_ (qG Ba.ins oa (by intro z;cases z)),kd _ _ (sb _ _ Ba.dic) ?_ (W.ot i i hi hi),Ba.nd,fun e he=>kd _ _ (sb _ _ (Ba.row e he)) ?_ (qG (Ba.row e he) oa (by intro z;cases z)),Ba.ok⟩,⟨od,XZ (W.b i hi).ow.nd,fun e he=>?_⟩,by rw[Xm,Xm,(W.b i hi).ey],fun e he=>?_,fun e he=>?_⟩
   ·exact D9 (W8.b i hi).bk.ins
   ·exact D9 tk
   ·rcases vN he with rfl | he
    ·exact (zA eD a0).symm
    ·exact D9 ((W8.b i hi).bk.row e he)
   ·rcases vN he with rfl | he
    ·exact du _ _ d1
    ·exact du _ _ ((W8.b i hi).ow.due e he)
   ·rcases vN he with rfl | he
    ·exact (zA (s9 _ _ hl8) a0).symm
    ·exact (W.b i hi).nr e he
   ·rcases vN he with rfl | he
    ·exact (zA W.hd.at_ l0).symm
    ·exact (W.b i hi).no e he
  ·rw[WI _ _ e,WI _ _ e]
   have X:=W8.b i hi
   exact⟨⟨big _ _ X.bk.ins (qG X.bk.ins tk (by intro z;cases z)) (qG X.bk.ins ok' (by intro z;cases z)),big _ _ X.bk.dic (W.tt i k hi hk e) (W.ot i k hi hk),X.bk.nd,fun e he=>ls _ _ (X.bk.row e he),X.bk.ok⟩,⟨big _ _ X.ow.dic (fun z=>W.ot k i hk hi z.symm) (W.oo i k hi hk e),X.ow.nd,fun e he=>du _ _ (X.ow.due e he)⟩,X.ey,X.nr,X.no⟩
 ·obtain⟨p,a',b,ys,e,h1,h2,h3,fl,na,nb⟩:=W8.hd.ok v hv
  exact⟨p,a',b,ys,e,tp _ _ h1,ls _ _ h2,ls _ _ h3,fl,na,nb⟩
 ·obtain⟨h1,h2,h3⟩:=W8.f q hq
  exact⟨big _ _ h1 (h2 k hk).1 (h2 k hk).2,h2,h3⟩
end
theorem M8 (ns:List Int):∃ zs:List Int,qp (ns.map V.int) (some 3) (some 13)=zs.map V.int∧zs.length≤10:=by
 refine⟨(ns.drop (min 3 ns.length)).take (min 13 ns.length - min 3 ns.length),?_,?_⟩
 ·have e3:∀ n d,HT.Zx n d (some 3)=min 3 n:=fun n d=>HT.vH n d 3
  have e27:∀ n d,HT.Zx n d (some 13)=min 13 n:=fun n d=>HT.vH n d 13
  unfold qp
  rw[e3,e27,cw,Dl,List.map_drop]
 ·rw[Ci]
  omega
noncomputable def U0 {α:Type} (a b:α) (k:Nat):α:=if k=0 then a else b
theorem Tg {α:Type} {a b:α} {p:Nat→α→Prop} (h0:p 0 a) (h1:p 1 b):∀ k,k<2→p k (U0 a b k):=fun k hk=>by
 match k,hk with
 | 0,_=>exact h0
 | 1,_=>exact h1
theorem UN {rs:List Rk} (ok:YC rs):(yN rs).map Vy=rs.map some:=by
 unfold yN
 rw[cV]
 exact CW fun r hr=>kF (ok.gd r hr)
theorem j3 {f:Nat→Addr} {k:Nat} (hk:k<2):kT [V.ref (f 0),V.ref (f 1)] ((k:Nat):Int)=some (.ref (f k)):=by
 match k,hk with
 | 0,_=>rfl
 | 1,_=>rfl
noncomputable def Xl (K:BFr) (C cY cB cR:Addr):Sp:=fun vs H Q _=>ke K C cY cB cR vs H Q E0
theorem Ou {K:BFr} {C cY cB cR:Addr} {H:Hp} {B dx t l:Addr} {es:List Be} {Y:Int} {rs:List Rk} {Q:VK} {E:XK} (BK:Yl C H B dx t es) (el:es.length≤100) (Y0:0≤Y) (Y1:Y≤9999) (ok:YC rs) (e:H l=some (.lst (yN rs))) (q:∀ a H',H a=none→Yl C H' B dx t (we es Y a rs)→(∀ b o,H b=some o→b≠t→H' b=some o)→Q .non H'):Xl K C cY cB cR [.ref B,.int Y,.ref l] H Q E:=by
 have len:(yN rs).length≤8:=by unfold yN;rw[cw];exact ok.few
 refine⟨B,dx,t,es,_,_,rfl,BK,el,.inr ⟨Y,rfl,Y0,Y1,.inr ⟨l,_,rfl,e,fun z=>absurd z (by omega),fun _=>⟨fun x hx=>?_,fun⟨x,hx,hn⟩=>?_,fun rs' ers=>?_⟩⟩⟩⟩
 ·obtain⟨r,hr,rfl⟩:=cH.mp hx
  exact .inr ⟨_,rfl,cJ (wY (ok.gd r hr)) (by decide)⟩
 ·have:none∈rs.map some:=by rw[← UN ok,← hn];exact cH.mpr ⟨x,hx,rfl⟩
  obtain⟨_,_,z⟩:=cH.mp this
  cases z
 ·have:rs'=rs:=V6 (by rw[← ers,UN ok])
  subst this
  exact⟨fun z=>absurd ok.nd z,fun _=>q⟩
theorem GC {H:Hp} {hl:Addr} {hs:List V} (h:Xq H hl hs):q9 H hs hs (fun H v w=>v=w∧rm H hl v):=⟨rfl,fun i y e=>⟨y,e,fun H' s=>⟨rfl,(h.same s).ok y (CC e)⟩⟩⟩
end Pg
namespace K11
open PySem PySem.NumText L2 Pg
seal PE PA PT PW PS yW PG vq PI j7 PO PK
section
variable {P:Program} {w:World} {K:BFr} {mg:Str→Option Value} {base:Heap} {f:Addr} {fd:FuncData} {d:Nat→Addr} {cR:Addr}
set_option maxHeartbeats 32000000 in
theorem Mv {C cY cB cR:Addr} {J:Nat} (hJ:6≤J) (F:qJ K "law" "law" (top 92) f fd) (G:vw mg) (C_cell:qN P w K mg base z8 1 "_law_cell_at" ["_law_script","_law_k"] (gc K)) (C_mx:qN P w K mg base z8 1 "_law_mixed" ["_law_cell","_law_k"] yQ) (C_yr:qN P w K mg base z8 2 "_law_years" ["_law_cell"] Xu) (C_nm:qN P w K mg base z8 2 "_law_names" ["_law_cell","_law_many"] Xc) (C_ru:qN P w K mg base z8 6 "_law_rules" ["_law_cell","_law_names_here","_law_most"] (Zi K)) (C_row:qN P w K mg base z8 6 "_law_row" ["_law_rule_here"] (kC 4)) (NB:jP P w K mg base z8 1 "RuleBook" C ["self"] (Uo C)) (M_put:qU P w K mg base z8 J C "put" ["self","year","rows"] (Xl K C cY cB cR)) (C_rf:qN P w K mg base z8 J "_law_refused" ["_law_book","_law_years_here","_law_names_here","_law_number"] (X0 C)) (C_st:qN P w K mg base z8 J "_law_stands" ["_law_book","_law_own","_law_years_here","_law_cell","_law_held"] (oF C)):zL P w K mg base z8 (J+1) f fd ["_law_script"] (ZN K):=by
 obtain⟨J',rfl⟩:∃ J',J=J'+1:=⟨J - 1,by omega⟩
 have nd:(["_law_script","_law_years_here","_law_names_here","_law_books","_law_owns","_law_held","_law_cell","_law_at","_law_number","_law_year","_law_due","_law_handed","_law_k"]:List Str).Nodup:=by decide +kernel
 have nr:(["_law_rule_here"]:List Str).Nodup:=by decide +kernel
 have nq:(["_law_row_here","_law_name"]:List Str).Nodup:=by decide +kernel
 have np:(["_law_pair"]:List Str).Nodup:=by decide +kernel
 refine F.ok (N:=["_law_script","_law_years_here","_law_names_here","_law_books","_law_owns","_law_held","_law_cell","_law_at","_law_number","_law_year","_law_due","_law_handed","_law_k"]) (by walk_at"s") (fun vs H Q E h=>?_) (fun cdv A outer s H vs Q E hr h=>?_)
 ·obtain⟨a,ns,rfl,_⟩:=h
  rfl
 ·obtain⟨a,ns,rfl,hs,q⟩:=h
  have hu:=X3 hr
  have hu0:=hr.units0
  have un1:(A.deeper (PyProof.Rows.envOfC "law" (zO (top 92)) s.heap.objs.size f cdv)).units+1<cLine:=C6 (dh (by decide:1≤64) _) hr.units
  refine' ⟨_,(zh (zQ (i:=1) nd rfl (Or.inl rfl) (zp C_yr hr (by omega) zC (za (zp C_cell hr (by omega) zC (za (pv 0) (za ze zd))) zd)))
    (zh (zQ (i:=2) nd rfl (Or.inl rfl) (zp C_nm hr (by omega) zC (za (zp C_cell hr (by omega) zC (za (pv 0) (za ze zd))) (za ze zd))))
    (zh (zQ (i:=3) nd rfl (Or.inl rfl) (zS (za (U7 (j:=J') NB hr (by omega) zC) (za (U7 (j:=J') NB hr (by omega) zC) zd))))
    (zh (zQ (i:=4) nd rfl (Or.inl rfl) (zS (za wX (za wX zd))))
    (zh (zQ (i:=5) nd rfl (Or.inl rfl) (zS zd))
    (zh (Qu PassesOwn.never rfl (yI (yi jm (pv 0) (ym ze) (ym ze))) (zN (i:=6) nd rfl (Or.inl rfl)) (zh (zQ (i:=7) nd rfl (Or.inl rfl) (zu zW (zp C_mx hr (by omega) zC (za (pv 6) (za ze zd))) ze))
    (zh (zQ (i:=8) nd rfl (Or.inl rfl) (zp C_mx hr (by omega) zC (za (pv 6) (za ze zd))))
    (u7 (zX (zK qK (zu zW (pv 8) ze) ze (zI _)) (zi (zX (qu (qt (zp C_rf hr (by omega) zC (za (zD zw (pv 3) (pv 7)) (za (pv 1) (za (pv 2) (za (zu qE (pv 8) ze) zd))))))) (zi (zx yM)) zG)) (zh (zQ (i:=9) nd rfl (Or.inl rfl) (zD zw (pv 1) (zu zW (zu qE (pv 8) ze) ze)))
    (zh ?c462
    (zh ?c463
    (zh (zX (PW.pt (vE (zK mm (kH M_put hr (by omega) zC (zD zw (pv 3) (pv 7)) (za (pv 9) (za (pv 11) zd))) Zk (zI _)) (jU (zK JT (pv 11) ?c464 (zI _))))) (zi (zx yM)) zG)
    (zh (z4 (yL PySem.F.plainAttrs_list PySem.F.slot_list_append PySem.F.type_list_append ji (pv 11) (za zt zd)))
    (zi (XM hu (zD zw (pv 4) (pv 7)) (pv 9) (pv 10) rfl))))))))
    (zi (Qu PassesOwn.never rfl (yu rfl G.range (za ze zd)) (zN (i:=12) nd rfl (Or.inl rfl)) (zi (zX (qu (qt (zp C_st hr (by omega) zC (za (zD zw (pv 3) (pv 12)) (za (zD zw (pv 4) (pv 12)) (za (pv 1) (za (zu qA (pv 6) (pv 12)) (za (pv 5) zd)))))))) (zi (zx yM)) zG))))))))
    (zh (zX (zK (O4 hu0) ?c471 (zS zd) (zI _)) (zi (zx yM)) zG)
    (zi (zx (yO (zp C_st hr (by omega) zC (za (zD zw (pv 3) ze) (za (zD zw (pv 4) ze) (za (pv 1) (za ze (za (pv 5) zd)))))) (yX (zp C_st hr (by omega) zC (za (zD zw (pv 3) ze) (za (zD zw (pv 4) ze) (za (pv 1) (za ze (za (pv 5) zd))))))))))))))))),?main⟩
  case c462 =>
   refine' vG (i:=10) (Nc:=["_law_rule_here"]) (cl:=[]) (src:=[none]) (g:=z6 0) (tt:=qv) (wi:=uw K (fun σ H Q=>qi (zP 6) (qi (zP 2) (qi (tC (.int 8)) yd)) σ H fun vs H1=>Zi K vs H1 Q E0)) (te:=UB (qi (fun σ H Q=>qi (zP 0) yd σ H fun vs H1=>kC 4 vs H1 Q E0) (qi (jH (Zp K) (zP 0) (tC (.int 1))) yd)))
    nd rfl rfl (by walk_at"c0") rfl (yI (zp C_ru hr (by omega) zC (za (pv 6) (za (pv 2) (za ze zd))))) ?hb
   case hb =>
    intro fp C' s' H'
    exact⟨zN (i:=0) nr rfl (Or.inl rfl),qj,yg (za (zp C_row hr (by omega) zC (za (pv 0) zd)) (za (zD qI (pv 0) ze) zd))⟩
  case c463 =>
   refine' vG (i:=11) (Nc:=["_law_row_here","_law_name"]) (cl:=[]) (src:=[none,none]) (wi:=uw K (zP 10)) (g:=UI K 2 (vp (z6 0) (vp (z6 1) Uz))) (tt:=qv) (te:=zP 0)
    nd rfl rfl (by walk_at"c2") rfl (yI (pv 10)) ?hb
   case hb =>
    intro fp C' s' H'
    exact⟨QP rfl (y7 (zN (i:=0) nq rfl (Or.inl rfl)) (y7 (zN (i:=1) nq rfl (Or.inl rfl)) wW)),qj,pv 0⟩
  case c464 =>
   refine' qm (Nc:=["_law_row_here","_law_name"]) (cl:=[]) (src:=[none,none]) (wi:=uw K (zP 10)) (g:=UI K 2 (vp (z6 0) (vp (z6 1) Uz))) (tt:=qv) (te:=zP 0)
    (by walk_at"c2") rfl (yI (pv 10)) ?hb
   case hb =>
    intro fp C' s' H'
    exact⟨QP rfl (y7 (zN (i:=0) nq rfl (Or.inl rfl)) (y7 (zN (i:=1) nq rfl (Or.inl rfl)) wW)),qj,pv 0⟩
  case c471 =>
   refine' qm (Nc:=["_law_pair"]) (cl:=[]) (src:=[none]) (wi:=uw K (zP 5)) (g:=z6 0) (tt:=VI (jH (r6 K (A.deeper (PyProof.Rows.envOfC "law" (zO (top 92)) s.heap.objs.size f cdv)).units) (jH (Zp K) (zP 0) (tC (.int 0))) (jH (Zp K) (zP 0) (tC (.int 1))))) (te:=zP 0)
    (by walk_at"c0") rfl (yI (pv 5)) ?hb
   case hb =>
    intro fp C' s' H'
    exact⟨zN (i:=0) np rfl (Or.inl rfl),J8 (zK JT (zD qI (pv 0) ze) (zD qI (pv 0) ze) (zI _)),pv 0⟩
  walk_at"d4"
  refine⟨_,rfl,a,0,ns,rfl,hs,by decide,_,rfl,fun ys yl H1 y8 yb s1 n1 e1=>?_⟩
  refine⟨_,rfl,a,1,ns,rfl,s1.seq hs,by decide,_,8,rfl,by decide,fun nms nl H2 n8 rn nnd s2 n2 e2=>?_⟩
  have S2:=s1.trans s2
  refine fun B0 d0 B00 d00 dB0=>⟨B0,d0,rfl,zj,fun t0 H3 t00 BK0 fr=>⟨rfl,?_⟩⟩
  have ups:zq H2 (upd (upd H2 d0 (.own B0)) B0 (.ins C d0 [])):=fun b o hb=>by
   rw[zm (zA hb B00),zm (zA hb d00)]
   exact hb
  have s3:zq H2 H3:=fun b o hb=>fr b o (ups b o hb) (zA hb B00)
  clear ups fr t00 dB0 d00 B00
  refine fun B1 d1 B10 d10 dB1=>⟨B1,d1,rfl,zj,fun t1 H4 t10 BK1 fr=>⟨rfl,?_⟩⟩
  have ups:zq H3 (upd (upd H3 d1 (.own B1)) B1 (.ins C d1 [])):=fun b o hb=>by
   rw[zm (zA hb B10),zm (zA hb d10)]
   exact hb
  have s4:zq H3 H4:=fun b o hb=>fr b o (ups b o hb) (zA hb B10)
  have t01:t0≠t1:=zA (ups _ _ BK0.dic) t10
  clear ups fr t10 dB1 d10 B10
  refine⟨qa rfl,fun bl H5 s5 bl0 e5=>fun o0 H6 s6 o00 e6=>fun o1 H7 s7 o10 e7=>⟨qa rfl,fun ol H8 s8 ol0 e8=>⟨qa rfl,fun hl H9 s9 hl0 e9=>?_⟩⟩⟩
  have S48:zq H4 H9:=s5.trans (s6.trans (s7.trans (s8.trans s9)))
  have S9:=S2.trans (s3.trans (s4.trans S48))
  refine⟨_,rfl,_,rfl,_,rfl,a,_,rfl,S9.seq hs,fun sl sl0=>?_⟩
  obtain⟨zs,hz,zl⟩:=M8 ns
  rw[hz]
  have sA:zq H9 (upd H9 sl (.lst (zs.map V.int))):=zq.upd sl0
  have eA:(upd H9 sl (.lst (zs.map V.int))) sl=some (.lst (zs.map V.int)):=zj
  generalize upd H9 sl (.lst (zs.map V.int))=HA at sA eA
  have WA:W2 C hl (U0 B0 B1) (U0 d0 d1) (U0 t0 t1) (U0 o0 o1) [(yl,.lst (ys.map V.int)),(nl,.lst (nms.map V.str)),(bl,.lst [.ref (U0 B0 B1 0),.ref (U0 B0 B1 1)]),(ol,.lst [.ref (U0 o0 o1 0),.ref (U0 o0 o1 1)]),(sl,.lst (zs.map V.int))] HA (fun _=>[]) (fun _=>[]) []:=by
   have T0:HA t0=some (.dK (jZ [])):=sA _ _ (S48 _ _ (s4 _ _ BK0.dic))
   have T1:HA t1=some (.dK (jZ [])):=sA _ _ (S48 _ _ BK1.dic)
   have O0:HA o0=some (.dK (jZ [])):=sA _ _ (s9 _ _ (s8 _ _ (s7 _ _ e6)))
   have O1:HA o1=some (.dK (jZ [])):=sA _ _ (s9 _ _ (s8 _ _ e7))
   have fxs:∀ q∈[(yl,HO.lst (ys.map V.int)),(nl,.lst (nms.map V.str)),(bl,.lst [.ref (U0 B0 B1 0),.ref (U0 B0 B1 1)]),(ol,.lst [.ref (U0 o0 o1 0),.ref (U0 o0 o1 1)]),(sl,.lst (zs.map V.int))],∃ xs,q.2 = .lst xs∧HA q.1=some (.lst xs)∧q.1≠hl:=by
    have up:∀ {b ox},H4 b=some ox→HA b=some ox∧b≠hl:=fun h=>⟨sA _ _ (S48 _ _ h),zA (s8 _ _ (s7 _ _ (s6 _ _ (s5 _ _ h)))) hl0⟩
    intro q hq
    simp only[cy,cA,or_false] at hq
    rcases hq with rfl | rfl | rfl | rfl | rfl
    ·exact⟨_,rfl,up (s4 _ _ (s3 _ _ (s2 _ _ e1)))⟩
    ·exact⟨_,rfl,up (s4 _ _ (s3 _ _ e2))⟩
    ·exact⟨_,rfl,sA _ _ (s9 _ _ (s8 _ _ (s7 _ _ (s6 _ _ e5)))),zA (s8 _ _ (s7 _ _ (s6 _ _ e5))) hl0⟩
    ·exact⟨_,rfl,sA _ _ (s9 _ _ e8),zA e8 hl0⟩
    ·exact⟨_,rfl,eA,(zA e9 sl0).symm⟩
   refine⟨fun k hk=>?_,⟨sA _ _ e9,(fun v hv=>nomatch hv)⟩,fun q hq=>?_,fun i j hi hj ne=>?_,fun i j hi hj ne=>?_,fun i j hi hj=>?_⟩
   ·match k,hk with
    | 0,_=>exact⟨BK0.fr fun b o h=>sA _ _ (S48 _ _ (s4 _ _ h)),⟨O0,dq,(fun e he=>nomatch he)⟩,rfl,(fun e he=>nomatch he),(fun e he=>nomatch he)⟩
    | 1,_=>exact⟨BK1.fr fun b o h=>sA _ _ (S48 _ _ h),⟨O1,dq,(fun e he=>nomatch he)⟩,rfl,(fun e he=>nomatch he),(fun e he=>nomatch he)⟩
   ·obtain⟨xs,ex,hx,nx⟩:=fxs q hq
    refine⟨by rw[ex];exact hx,fun k hk=>?_,nx⟩
    match k,hk with
    | 0,_=>exact⟨qG hx T0 (by intro z;cases z),qG hx O0 (by intro z;cases z)⟩
    | 1,_=>exact⟨qG hx T1 (by intro z;cases z),qG hx O1 (by intro z;cases z)⟩
   ·match i,j,hi,hj with
    | 0,0,_,_=>exact absurd rfl ne
    | 0,1,_,_=>exact t01
    | 1,0,_,_=>exact t01.symm
    | 1,1,_,_=>exact absurd rfl ne
   ·have o01:o0≠o1:=zA e6 o10
    match i,j,hi,hj with
    | 0,0,_,_=>exact absurd rfl ne
    | 0,1,_,_=>exact o01
    | 1,0,_,_=>exact o01.symm
    | 1,1,_,_=>exact absurd rfl ne
   ·have x0:=s5 _ _ (s4 _ _ BK0.dic)
    have x1:=s5 _ _ BK1.dic
    match i,j,hi,hj with
    | 0,0,_,_=>exact zA x0 o00
    | 0,1,_,_=>exact zA (s6 _ _ x0) o10
    | 1,0,_,_=>exact zA x1 o00
    | 1,1,_,_=>exact zA (s6 _ _ x1) o10
  clear S48 S9 S2 BK0 BK1 s2 s3 s4 s5 s6 s7 s8 s9 sA e1 e2 e5 e6 e7 e8 e9 t01 n1 n2 bl0 o00 o10 ol0 hl0 sl0 s1 hz hs
  generalize U0 B0 B1=B at WA
  generalize U0 d0 d1=dx at WA
  generalize U0 t0 t1=t at WA
  generalize U0 o0 o1=o at WA
  obtain⟨fx,hfx⟩:∃ fx:List (Addr × HO),fx=[(yl,.lst (ys.map V.int)),(nl,.lst (nms.map V.str)),(bl,.lst [.ref (B 0),.ref (B 1)]),(ol,.lst [.ref (o 0),.ref (o 1)]),(sl,.lst (zs.map V.int))]:=⟨_,rfl⟩
  rw[← hfx] at WA
  have fy:(yl,HO.lst (ys.map V.int))∈fx:=by rw[hfx];simp
  have fn:(nl,HO.lst (nms.map V.str))∈fx:=by rw[hfx];simp
  have fb:(bl,HO.lst [.ref (B 0),.ref (B 1)])∈fx:=by rw[hfx];simp
  have fo:(ol,HO.lst [.ref (o 0),.ref (o 1)])∈fx:=by rw[hfx];simp
  have fs':(sl,HO.lst (zs.map V.int))∈fx:=by rw[hfx];simp
  clear hfx
  refine⟨sl,rfl,⟨_,zZ.of eA⟩,gW (K:=K) (a:=sl) (xs:=zs.map V.int) (fun i σ H'=>∃ x6 x7 x8 x9 x10 x11 x12 es fs hs,σ = [some (.ref a),some (.ref yl),some (.ref nl),some (.ref bl),some (.ref ol),some (.ref hl),x6,x7,x8,x9,x10,x11,x12]∧W2 C hl B dx t o fx H' es fs hs∧(∀ k,k<2→(es k).length≤i)∧hs.length≤18*i) ⟨_,_,_,_,_,_,_,_,_,_,rfl,WA,fun k hk=>cx _,cx _⟩ (fun i σ H' _ z=>?_) ?_ ?_⟩
  ·obtain⟨_,_,_,_,_,_,_,_,_,_,_,W,_⟩:=z
   exact zZ.of (W.f _ fs').1
  ·rintro i x σ H1 hx ⟨x6,x7,x8,x9,x10,x11,x12,es,fs,hs,rfl,W1,el,hl1⟩ E1 k1
   rw[cQ] at hx
   obtain⟨c,hc,rfl⟩:=Cd.mp hx
   have i8:i<10:=Cw (cW.mp hc).1 zl
   clear hc hx
   refine⟨_,rfl,c,1,rfl,fun m m0 m1=>⟨_,_,rfl,rfl,(by show (0:Int)<2;decide),?_⟩⟩
   obtain⟨k,hk,k2⟩:∃ k:Nat,m%2=(k:Int)∧k<2:=⟨(m%2).toNat,by omega,by omega⟩
   dsimp (config:={ proj:=false,iota:=false }) only
   rw[hk]
   refine⟨_,rfl,c,5,rfl,fun n n0 n1=>?_⟩
   refine Zf (fun σ H'=>∃ x9 x10 x11 es fs,σ = [some (.ref a),some (.ref yl),some (.ref nl),some (.ref bl),some (.ref ol),some (.ref hl),some (.int c),some (.int k),some (.int n),x9,x10,x11,x12]∧W2 C hl B dx t o fx H' es fs hs∧∀ k,k<2→(es k).length≤i+1) (fun Ek kk=>?_) ?_
   ·refine⟨_,rfl,_,_,rfl,rfl,(by show (0:Int)<3;decide),rfl,_,rfl,ye (fun _=>?_) (fun _=>?_)⟩
    ·have ek:=el k k2
     refine⟨_,rfl,_,rfl,bl,_,_,_,rfl,rfl,zZ.of (W1.f _ fb).1,j3 k2,_,rfl,_,rfl,_,rfl,_,_,rfl,rfl,⟨by decide,by decide⟩,B k,dx k,t k,yl,nl,es k,ys,nms,_,rfl,(W1.b k k2).bk,by omega,(W1.f _ fy).1,y8,yb,(W1.f _ fn).1,n8,rn,Dy n0 (by decide),fun H2 s2=>⟨true,rfl,qD (kk _ _ ⟨_,_,_,es,fs,rfl,W1.same s2,fun k hk=>Dx (el k hk)⟩)⟩⟩
    ·have ek:=el k k2
     obtain⟨yv,eyv,myv⟩:=yV (xs:=ys.map V.int) (i:=n/3%8) (cU _ (by decide)) (by rw[cw,y8];exact Ca _ (by decide))
     obtain⟨Y,hY,rfl⟩:=cH.mp myv
     obtain⟨Y0,Y1⟩:=yb Y hY
     refine⟨_,rfl,_,rfl,_,_,rfl,rfl,⟨by decide,by decide⟩,_,_,rfl,rfl,(by show (0:Int)<8;decide),yl,_,_,_,rfl,rfl,zZ.of (W1.f _ fy).1,eyv,?_⟩
     refine⟨_,rfl,_,rfl,c,nl,nms,8,rfl,by decide,zZ.of (W1.f _ fn).1,n8,rn,nnd,fun l rs H2 ok s2 l0 ⟨ys',e2,T2⟩=>?_⟩
     have few:=ok.few
     refine⟨l,rfl,⟨_,zZ.of e2⟩,fun D1 hD1=>Zh (yp (zZ.of e2)) T2 hD1 (by rw[sizeLine_eq];omega) mE (fun r hm v H3 R s3 rt rr=>?_) (fun us H3 s3 e3 TT=>?_)⟩
     ·obtain⟨ta,tl,rfl,ht,e1⟩:=rt.name (ok.gd r hm)
      exact⟨_,rfl,_,r,rfl,rt,ok.gd r hm,fun H4 s4=>⟨_,rfl,ta,tl,_,_,rfl,rfl,yj.of (s4 _ _ ht),e1,qa rfl,fun p Hp sp np ep=>rr p Hp (s4.trans sp) (uM s4 np) ep⟩⟩
     have D10:H1 D1=none:=s2.free hD1
     refine⟨_,rfl,D1,rfl,⟨_,zZ.of e3⟩,fun D2 hD2=>Zj (yp (zZ.of e3)) TT hD2 (by rw[sizeLine_eq];omega) (fun r=>V.str (jx r)) (fun r hm H4 R s4 rr=>⟨_,rfl,rr H4 (zq.refl _)⟩) (fun H4 s4 e4=>?_)⟩
     have S3:=s2.trans s3
     have W4:=W1.same (S3.trans s4)
     refine⟨_,rfl,_,rfl,bl,_,_,_,rfl,rfl,zZ.of (W4.f _ fb).1,j3 k2,B k,dx k,_,rfl,(W4.b k k2).bk.ins,rfl,_,rfl,_,rfl,Ou (E:=E0) (W4.b k k2).bk (by omega) Y0 Y1 ok e4 fun a5 H5 a50 B5 k5=>⟨rfl,_,rfl,qD ?_⟩⟩
     have tk:=(W4.b k k2).bk.dic
     have ft5:FT H4 H5:=fun b cc h=>k5 _ _ h (qG h tk (by intro z;cases z))
     have ls5:∀ b us,H4 b=some (.lst us)→H5 b=some (.lst us):=fun b us h=>k5 _ _ h (qG h tk (by intro z;cases z))
     have e35:=ls5 _ _ (s4 _ _ e3)
     have e45:=ls5 _ _ e4
     refine⟨_,rfl,_,rfl,D1,rfl,⟨_,zZ.of e35⟩,fun D3 hD3=>Zj (yp (zZ.of e35)) (Lj ft5 (TT.same s4)) hD3 (by rw[sizeLine_eq];omega) (fun r=>V.str (jx r)) (fun r hm H6 R s6 rr=>⟨_,rfl,rr H6 (zq.refl _)⟩) (fun H6 s6 e6=>?_)⟩
     refine⟨1,_,rfl,Is.flat (zZ.of (s6 _ _ e45)) (vY rs),Is.flat (zZ.of e6) (vY rs),un1,_,rfl,qD ?_⟩
     have e46:=s6 _ _ e45
     refine⟨_,rfl,.inl ⟨rfl,_,zZ.of e46⟩,D2,_,_,rfl,rfl,e46,(by rw[cw,sizeLine_eq];omega),?_⟩
     have k7:∀ b ox,H6 b=some ox→b≠D2→(upd H6 D2 (.lst (rs.map (fun r=>V.str (jx r))++[.str "none"]))) b=some ox:=fun b ox h ne=>by rw[zm ne];exact h
     generalize upd H6 D2 (.lst (rs.map (fun r=>V.str (jx r))++[.str "none"]))=H7 at k7
     have D20:H1 D2=none:=S3.free hD2
     have up:∀ b ox,H1 b=some ox→b≠t k→H7 b=some ox:=fun b ox h ne=>k7 _ _ (s6 _ _ (k5 _ _ (s4 _ _ (S3 _ _ h)) ne)) (zA h D20)
     have o7:=up _ _ (W1.b k k2).ow.dic (fun z=>W1.ot k k k2 k2 z.symm)
     have ol7:=up _ _ (W1.f _ fo).1 ((W1.f _ fo).2.1 k k2).1
     have fl:(fs k).length=(es k).length:=xR (W1.b k k2).ey
     refine⟨_,rfl,_,rfl,_,rfl,ol,_,_,_,rfl,rfl,zZ.of ol7,j3 k2,_,rfl,o k,_,rfl,GD.k (k:=Sum.inl Y) o7 (by unfold jZ;rw[cw,sizeLine_eq];omega),?_⟩
     rw[oy (a:=D1) (rs:=rs)]
     refine kk _ _ ⟨_,_,_,_,_,rfl,W1.put k2 (Y:=Y) (rs:=rs) S3 D10 ⟨us,e3,TT⟩ s4 hD2 e4 a50 B5 k5 s6 (fun b ox h n1 n2=>by rw[zm n2];exact k7 _ _ h n1) zj,fun k' hk'=>?_⟩
     by_cases ee:k'=k
     ·subst ee
      rw[xT]
      exact cJ (Ph _ _ _ _) (by omega)
     ·rw[WI _ _ ee]
      exact Dx (el k' hk')
   ·rintro σ H2 ⟨x9,x10,x11,es,fs,rfl,W2',el2⟩
    refine⟨2,rfl,by decide,by decide,uf (n:=2) (fun i2 σ H'=>∃ x12 hs',σ = [some (.ref a),some (.ref yl),some (.ref nl),some (.ref bl),some (.ref ol),some (.ref hl),some (.int c),some (.int k),some (.int n),x9,x10,x11,x12]∧W2 C hl B dx t o fx H' es fs hs'∧hs'.length≤18*i+9*i2) ⟨_,hs,rfl,W2',by omega⟩ ?_ ?_⟩
    ·rintro i2 σ H3 hi2 ⟨x12,hs',rfl,W3,hl3⟩ E3 k3
     have z0:(0:Int)+(i2:Nat)=(i2:Nat):=dm _
     rw[z0]
     have hi2:i2<2:=hi2
     have eli:=el2 i2 hi2
     have X:=W3.b i2 hi2
     refine⟨_,rfl,_,rfl,bl,_,_,_,rfl,rfl,zZ.of (W3.f _ fb).1,j3 hi2,_,rfl,_,rfl,ol,_,_,_,rfl,rfl,zZ.of (W3.f _ fo).1,j3 hi2,_,rfl,_,rfl,_,rfl,_,_,rfl,rfl,_,rfl,B i2,dx i2,t i2,o i2,yl,hl,es i2,fs i2,_,ys,hs',rfl,X.bk,X.ow,X.ey,by omega,(W3.f _ fy).1,(W3.f _ fy).2.2,y8,yb,X.nr,X.no,W3.hd,by omega,fun H4 hs4 kp hd4 hl4=>⟨true,rfl,qD (k3 _ _ ⟨_,hs4,rfl,W3.kp kp hd4,by omega⟩)⟩⟩
    ·rintro σ H3 ⟨x12,hs',rfl,W3,hl3⟩
     exact k1 _ _ ⟨_,_,_,_,_,_,_,es,fs,hs',rfl,W3,el2,by omega⟩
  ·rintro σ H1 ⟨x6,x7,x8,x9,x10,x11,x12,es,fs,hs,rfl,W1,el,hl1⟩
   rw[cw] at el hl1
   refine⟨_,rfl,hl,rfl,⟨_,zZ.of W1.hd.at_⟩,fun D hD=>pE (yp (zZ.of W1.hd.at_)) (GC W1.hd) hD (by rw[sizeLine_eq];omega) (fun _=>false) id (fun x hx v H2 R s2 e r=>?_) (fun x hx v H2 R s2 e r=>?_) (fun H2 s2 e2=>?_)⟩
   ·obtain⟨_,p,fa,fb',xs,rfl,h1,h2,h3,fl,_,_⟩:=e
    exact⟨_,rfl,p,_,_,_,rfl,rfl,yj.of h1,rfl,_,rfl,p,_,_,_,rfl,rfl,yj.of h1,rfl,1,_,rfl,Is.flat (zZ.of h2) fl,Is.flat (zZ.of h3) fl,un1,_,rfl,r H2 (zq.refl _)⟩
   ·obtain⟨rfl,_⟩:=e
    exact⟨_,rfl,r H2 (zq.refl _)⟩
   have e0:hs.filter (fun _=>false)=[]:=List.filter_eq_nil_iff.mpr fun _ _=>cZ
   rw[e0] at e2
   refine⟨qa rfl,fun pn H3 s3 npn epn=>⟨D,pn,[],rfl,rfl,zZ.of (s3 _ _ e2),zZ.of epn,fun _=>⟨_,rfl,qD ?_⟩,fun z=>absurd rfl z⟩⟩
   have W3:=W1.same (s2.trans s3)
   have el0:=el 0 (by decide)
   have el1:=el 1 (by decide)
   have X:=W3.b 0 (by decide)
   refine⟨_,rfl,bl,_,_,_,rfl,rfl,zZ.of (W3.f _ fb).1,j3 (f:=B) (k:=0) (by decide),_,rfl,ol,_,_,_,rfl,rfl,zZ.of (W3.f _ fo).1,j3 (f:=o) (k:=0) (by decide),_,rfl,_,rfl,B 0,dx 0,t 0,o 0,yl,hl,es 0,fs 0,_,ys,hs,rfl,X.bk,X.ow,X.ey,by omega,(W3.f _ fy).1,(W3.f _ fy).2.2,y8,yb,X.nr,X.no,W3.hd,by omega,fun H4 hs4 kp hd4 hl4=>⟨true,rfl,qV ?_⟩⟩
   have W4:=W3.kp kp hd4
   have X:=W4.b 1 (by decide)
   exact⟨_,rfl,bl,_,_,_,rfl,rfl,zZ.of (W4.f _ fb).1,j3 (f:=B) (k:=1) (by decide),_,rfl,ol,_,_,_,rfl,rfl,zZ.of (W4.f _ fo).1,j3 (f:=o) (k:=1) (by decide),_,rfl,_,rfl,B 1,dx 1,t 1,o 1,yl,hl,es 1,fs 1,_,ys,hs4,rfl,X.bk,X.ow,X.ey,by omega,(W4.f _ fy).1,(W4.f _ fy).2.2,y8,yb,X.nr,X.no,W4.hd,by omega,fun H5 hs5 kp5 hd5 hl5=>q H5⟩
end
end K11
set_option maxHeartbeats 8000000
namespace K11
open PySem L2 Pg
theorem NG {l:PySem.W.OpenLaw} {w:World} {K:BFr} {h:Heap} {mg:Str→Option Value} {fa:Addr} {c0 c1 c2 c3 c4 c5 c6 c7 c8 c9 c10 c11 c12 c13 c14 cR cRu cF cS cC cL cB cO cK:Addr} {t0 t1 t2 t3 t4 t5 t6 t7:Tok} {u0:Tok} {u1:Tok} (X:K.In h) (G:h.Ns mainGlobals mg) (hfa:mg "law" = some (.ref fa)) (Ui:qW K "is_number" (top 21)) (wJ:qW K "is_number_within" (top 22)) (Qf:qW K "is_parts" (top 23)) (Ul:qW K "is_way" (top 24)) (ko:qW K "is_word_of" (top 29)) (YY:qW K "is_name" (top 30)) (PL:qW K "rise" (top 31)) (Yh:qW K "are_figures" (top 33)) (kY:qW K "is_number_text" (top 34)) (Yx:qW K "read_number" (top 35)) (UW:qW K "need_year" (top 38)) (uR:qW K "is_rule_name" (top 42)) (vR:qW K "is_rule_amount" (top 43)) (vh:qW K "need_rule_amount" (top 44)) (kJ:qW K "need_share" (top 45)) (Jk:qW K "is_band" (top 53)) (Zs:qW K "are_bands" (top 54)) (Ud:qW K "number_of" (top 61)) (gG:qW K "band_of" (top 62)) (xo:qW K "bands_of" (top 63)) (Jx:qW K "plain_rule" (top 64)) (WY:qW K "is_ontop" (top 65)) (yC:qW K "rule_of_words" (top 66)) (GX:qW K "rule_of" (top 67)) (W7:qW K "need_few" (top 70)) (wc:qW K "need_unlike_names" (top 71)) (Qo:qW K "_law_cell_at" (top 74)) (JS:qW K "_law_mixed" (top 75)) (Yv:qW K "_law_amount" (top 76)) (JZ:qW K "_law_names" (top 77)) (Vn:qW K "_law_parts" (top 78)) (xa:qW K "_law_way" (top 79)) (JF:qW K "_law_pairs" (top 80)) (JJ:qW K "_law_plain" (top 81)) (Ub:qW K "_law_rule" (top 82)) (vf:qW K "_law_row" (top 83)) (JU:qW K "_law_rules" (top 84)) (UA:qW K "_law_word" (top 85)) (Vb:qW K "_law_years" (top 86)) (Qx:qW K "_law_no_year" (top 87)) (Qr:qW K "_law_refused" (top 88)) (VH:qW K "_law_told" (top 89)) (ZF:qW K "_law_is_right" (top 90)) (Yo:qW K "_law_stands" (top 91)) (RT:qW K "law" (top 92)) (n0:BnR K "BadAmount" c0) (n1:BnR K "BadShare" c1) (n2:BnR K "BadText" c2) (n3:BnR K "BadMonth" c3) (n4:BnR K "BadYear" c4) (n5:BnR K "BadRule" c5) (n6:BnR K "BadBook" c6) (n7:BnR K "NoYear" c7) (n8:BnR K "BadDay" c8) (n9:BnR K "BadEntry" c9) (n10:BnR K "NoMark" c10) (n11:BnR K "NoPerson" c11) (n12:BnR K "TooMany" c12) (n13:BnR K "BadClose" c13) (n14:BnR K "BadLine" c14) (nR:BnR K "RollError" cR) (gc0:BnI K "MOST_SIGNS" 8 t0) (gc1:BnI K "MOST_PARTS" 20000 t1) (gc2:BnI K "MOST_AMOUNT" 1000000000000 t2) (gc3:BnI K "MOST_BANDS" 12 t3) (gc4:BnI K "MOST_DEPTH" 3 t4) (gc5:BnI K "MOST_FIGURES" 13 t5) (gc6:BnI K "LAST_YEAR" 9999 t6) (gc7:BnI K "MOST_RULES" 8 t7) (s0:PySem.W.nsIn K mainGlobals "LETTERS" = some (some (.str "abcdefghijklmnopqrstuvwxyz" u0))) (s1:PySem.W.nsIn K mainGlobals "FIGURES" = some (some (.str "0123456789" u1))) (s2:tj K "WAYS" ["down","up","near","even"]) (s3:tj K "NO_RULE_NAMES" ["base","net","month","sums"]) (JQ:BnN K "isinstance") (R7:BnN K "int") (Mu:BnN K "bool") (R6:BnN K "str") (rM:BnN K "len") (lL:BnN K "range") (Vf:BnN K "ValueError") (MJ:BnN K "list") (LH:BnN K "tuple") (NF:BnN K "dict") (RB:BnN K "set") (RO:BnN K "all") (Rm:BnN K "any") (tR:BnN K "sum") (oV:BnN K "sorted") (tS:BnN K "abs") (R9:BnN K "max") (rO:BnN K "min") (rF:BnN K "zip") (V0:BnN K "enumerate") (Wf:BnN K "reversed") (x2:PySem.W.excIn K c2 vB "ValueError.__new__" = true) (e2:PySem.W.exmOne K (.ref c2) (.ref cR)=some true) (X2:XK.jn K c2) (v2:PySem.W.kitOne K (.ref c2) (.type "ValueError")=some true) (TB:BkO K c2 c0 false) (bF:BkO K c2 c1 false) (Bv:BkO K c2 c2 true) (Bp:BkO K c2 c3 false) (bD:BkO K c2 c4 false) (By:BkO K c2 c5 false) (Bg:BkO K c2 c6 false) (T8:BkO K c2 c7 false) (Bd:BkO K c2 c8 false) (bY:BkO K c2 c9 false) (Rx:BkO K c2 c10 false) (RF:BkO K c2 c11 false) (Rj:BkO K c2 c12 false) (Rv:BkO K c2 c13 false) (RS:BkO K c2 c14 false) (x4:PySem.W.excIn K c4 vB "ValueError.__new__" = true) (e4:PySem.W.exmOne K (.ref c4) (.ref cR)=some true) (X4:XK.jn K c4) (v4:PySem.W.kitOne K (.ref c4) (.type "ValueError")=some true) (Tt:BkO K c4 c0 false) (TR:BkO K c4 c1 false) (TV:BkO K c4 c2 false) (ba:BkO K c4 c3 false) (Bz:BkO K c4 c4 true) (b9:BkO K c4 c5 false) (Bl:BkO K c4 c6 false) (Bw:BkO K c4 c7 false) (bC:BkO K c4 c8 false) (bQ:BkO K c4 c9 false) (rL:BkO K c4 c10 false) (RU:BkO K c4 c11 false) (rE:BkO K c4 c12 false) (rV:BkO K c4 c13 false) (rB:BkO K c4 c14 false) (x5:PySem.W.excIn K c5 vB "ValueError.__new__" = true) (e5:PySem.W.exmOne K (.ref c5) (.ref cR)=some true) (X5:XK.jn K c5) (v5:PySem.W.kitOne K (.ref c5) (.type "ValueError")=some true) (TX:BkO K c5 c0 false) (b5:BkO K c5 c1 false) (TC:BkO K c5 c2 false) (br:BkO K c5 c3 false) (bN:BkO K c5 c4 false) (b8:BkO K c5 c5 true) (Tz:BkO K c5 c6 false) (Bq:BkO K c5 c7 false) (Br:BkO K c5 c8 false) (b6:BkO K c5 c9 false) (RD:BkO K c5 c10 false) (RL:BkO K c5 c11 false) (tQ:BkO K c5 c12 false) (Rb:BkO K c5 c13 false) (rN:BkO K c5 c14 false) (x6:PySem.W.excIn K c6 vB "ValueError.__new__" = true) (e6:PySem.W.exmOne K (.ref c6) (.ref cR)=some true) (X6:XK.jn K c6) (v6:PySem.W.kitOne K (.ref c6) (.type "ValueError")=some true) (bO:BkO K c6 c0 false) (Tq:BkO K c6 c1 false) (bP:BkO K c6 c2 false) (bw:BkO K c6 c3 false) (bf:BkO K c6 c4 false) (bc:BkO K c6 c5 false) (TL:BkO K c6 c6 true) (Bf:BkO K c6 c7 false) (TH:BkO K c6 c8 false) (Bk:BkO K c6 c9 false) (RZ:BkO K c6 c10 false) (Rt:BkO K c6 c11 false) (tG:BkO K c6 c12 false) (RY:BkO K c6 c13 false) (RH:BkO K c6 c14 false) (x7:PySem.W.excIn K c7 vB "ValueError.__new__" = true) (e7:PySem.W.exmOne K (.ref c7) (.ref cR)=some true) (X7:XK.jn K c7) (v7:PySem.W.kitOne K (.ref c7) (.type "ValueError")=some true) (Bn:BkO K c7 c0 false) (b7:BkO K c7 c1 false) (bZ:BkO K c7 c2 false) (Ts:BkO K c7 c3 false) (bp:BkO K c7 c4 false) (bE:BkO K c7 c5 false) (bH:BkO K c7 c6 false) (bR:BkO K c7 c7 true) (bV:BkO K c7 c8 false) (bu:BkO K c7 c9 false) (Rc:BkO K c7 c10 false) (Rr:BkO K c7 c11 false) (RE:BkO K c7 c12 false) (RP:BkO K c7 c13 false) (rH:BkO K c7 c14 false) (NS:BnR K "Rule" cRu) (my:PySem.W.plainGet K cRu Str.empty=true) (LK:PySem.W.hasDictIn K cRu=true) (LD:PySem.W.plainOver K cRu=true) (mO:BfS K cRu) (uB:jv K cRu "__init__" "Rule.__init__" (zE (top 46) 0)) (vK:v9 K cRu "__init__" = true) (nZ:BnR K "Flat" cF) (LJ:PySem.W.plainGet K cF Str.empty=true) (Lb:PySem.W.hasDictIn K cF=true) (mI:PySem.W.plainOver K cF=true) (mQ:BfS K cF) (uQ:zU K cF "name") (Ys:zU K cF "amount") (JR:zU K cF "parts") (Wv:zU K cF "way") (UX:zU K cF "most") (Vz:zU K cF "least") (uA:YG K cF "Flat.__init__" (zE (top 47) 0)) (VE:jv K cF "twin" "Flat.twin" (zE (top 47) 3)) (Ve:jv K cF "depth" "Rule.depth" (zE (top 46) 4)) (WD:jv K cF "row" "Flat.row" (zE (top 47) 2)) (Ln:BnR K "Share" cS) (pq:PySem.W.plainGet K cS Str.empty=true) (Pl:PySem.W.hasDictIn K cS=true) (PD:PySem.W.plainOver K cS=true) (OF:BfS K cS) (ud:zU K cS "name") (Qg:zU K cS "amount") (Yk:zU K cS "parts") (UY:zU K cS "way") (VA:zU K cS "most") (Yj:zU K cS "least") (vX:YG K cS "Share.__init__" (zE (top 48) 0)) (JV:jv K cS "twin" "Share.twin" (zE (top 48) 3)) (Yn:jv K cS "depth" "Rule.depth" (zE (top 46) 4)) (Ua:jv K cS "row" "Share.row" (zE (top 48) 2)) (P5:BnR K "Capped" cC) (Ga:PySem.W.plainGet K cC Str.empty=true) (gP:PySem.W.hasDictIn K cC=true) (GG:PySem.W.plainOver K cC=true) (gF:BfS K cC) (vI:zU K cC "name") (ZE:zU K cC "amount") (Qw:zU K cC "parts") (Vo:zU K cC "way") (Yp:zU K cC "most") (Qj:zU K cC "least") (vz:YG K cC "Capped.__init__" (zE (top 49) 0)) (YB:jv K cC "twin" "Capped.twin" (zE (top 49) 3)) (Qc:jv K cC "depth" "Rule.depth" (zE (top 46) 4)) (Vh:jv K cC "row" "Capped.row" (zE (top 49) 2)) (LL:BnR K "Least" cL) (Oh:PySem.W.plainGet K cL Str.empty=true) (PB:PySem.W.hasDictIn K cL=true) (px:PySem.W.plainOver K cL=true) (Od:BfS K cL) (uj:zU K cL "name") (Qt:zU K cL "amount") (YE:zU K cL "parts") (U2:zU K cL "way") (Jw:zU K cL "most") (Yq:zU K cL "least") (vZ:YG K cL "Least.__init__" (zE (top 50) 0)) (JE:jv K cL "twin" "Least.twin" (zE (top 50) 3)) (Yt:jv K cL "depth" "Rule.depth" (zE (top 46) 4)) (U4:jv K cL "row" "Least.row" (zE (top 50) 2)) (Ld:BnR K "Bands" cB) (Pw:PySem.W.plainGet K cB Str.empty=true) (oz:PySem.W.hasDictIn K cB=true) (Pp:PySem.W.plainOver K cB=true) (Py:BfS K cB) (ur:zU K cB "name") (YH:zU K cB "bands") (VF:zU K cB "way") (YI:zU K cB "parts") (QO:zU K cB "within") (vV:YG K cB "Bands.__init__" (zE (top 55) 0)) (Va:jv K cB "twin" "Bands.twin" (zE (top 55) 3)) (Yi:jv K cB "depth" "Rule.depth" (zE (top 46) 4)) (UO:jv K cB "row" "Bands.row" (zE (top 55) 2)) (mn:BnR K "OnTop" cO) (oK:PySem.W.plainGet K cO Str.empty=true) (P1:PySem.W.hasDictIn K cO=true) (PF:PySem.W.plainOver K cO=true) (oG:BfS K cO) (uc:zU K cO "name") (Yy:zU K cO "bands") (VJ:zU K cO "way") (YA:zU K cO "parts") (Qd:zU K cO "within") (yS:YG K cO "OnTop.__init__" (zE (top 58) 0)) (jW:jv K cO "twin" "OnTop.twin" (zE (top 58) 3)) (yZ:jv K cO "depth" "OnTop.depth" (zE (top 58) 4)) (vx:jv K cO "row" "OnTop.row" (zE (top 58) 2)) (W5:BnR K "RuleBook" cK) (VX:PySem.W.plainGet K cK Str.empty=true) (Ur:PySem.W.hasDictIn K cK=true) (V8:PySem.W.plainOver K cK=true) (VS:BfS K cK) (jd:zU K cK "told") (wb:YG K cK "RuleBook.__init__" (zE (top 72) 0)) (QC:jv K cK "put" "RuleBook.put" (zE (top 72) 1)) (ZI:jv K cK "rows" "RuleBook.rows" (zE (top 72) 2)) (Zc:jv K cK "rules" "RuleBook.rules" (zE (top 72) 3)) (Zo:jv K cK "years" "RuleBook.years" (zE (top 72) 4)) (xTT:PySem.W.exmOne K (.ref c2) (.ref c2)=some true) (xRT:PySem.W.exmOne K (.ref c5) (.ref c2)=some false) (ihn:PySem.W.specialIn K (.builtin "object.__class__") "__get__" = some (some (.builtin "getset_descriptor.__get__"))) (itk:PySem.W.takesIn K (.builtin "object.__class__")=some true) (TM:(!(Nat.beq cS cO))=true) (ia0:BfC K cF) (im0:PySem.W.mroIn K cF (.type "object")=some true) (ik0:BkO K cF cRu true) (ia1:BfC K cS) (im1:PySem.W.mroIn K cS (.type "object")=some true) (ik1:BkO K cS cRu true) (ia2:BfC K cC) (im2:PySem.W.mroIn K cC (.type "object")=some true) (ik2:BkO K cC cRu true) (ia3:BfC K cL) (im3:PySem.W.mroIn K cL (.type "object")=some true) (ik3:BkO K cL cRu true) (ia4:BfC K cB) (im4:PySem.W.mroIn K cB (.type "object")=some true) (ik4:BkO K cB cRu true) (ia5:BfC K cO) (im5:PySem.W.mroIn K cO (.type "object")=some true) (ik5:BkO K cO cRu true)
  : ∃ fd:FuncData,(∀ (s:Shared) (v:Value),BindsTo s fd ⟨[v],[]⟩ [("_law_script",v)])∧∀ base:Heap,K.In base→base.Ns mainGlobals mg→zL l.prog w K mg base z8 29 fa fd ["_law_script"] (ZN K):=by
 obtain⟨d,rfl,rfl,rfl,rfl,rfl,rfl,rfl,rfl,rfl,rfl,rfl,rfl,rfl,rfl,rfl⟩:∃ d:Nat→Addr,d 0=c0∧d 1=c1∧d 2=c2∧d 3=c3∧d 4=c4∧d 5=c5∧d 6=c6∧d 7=c7∧d 8=c8∧d 9=c9∧d 10=c10∧d 11=c11∧d 12=c12∧d 13=c13∧d 14=c14:=⟨fun i=>[c0,c1,c2,c3,c4,c5,c6,c7,c8,c9,c10,c11,c12,c13,c14].getD i 0,rfl,rfl,rfl,rfl,rfl,rfl,rfl,rfl,rfl,rfl,rfl,rfl,rfl,rfl,rfl⟩
 obtain⟨fl,fdl,al,Fl⟩:=RT
 have e:=hfa.symm.trans (Bmg_o X G al)
 cases e
 have k2:JM K d (d 2) 2:=⟨X2,v2,TB,bF,Bv,Bp,bD,By,Bg,T8,Bd,bY,Rx,RF,Rj,Rv,RS⟩
 have k4:JM K d (d 4) 4:=⟨X4,v4,Tt,TR,TV,ba,Bz,b9,Bl,Bw,bC,bQ,rL,RU,rE,rV,rB⟩
 have k5:JM K d (d 5) 5:=⟨X5,v5,TX,b5,TC,br,bN,b8,Tz,Bq,Br,b6,RD,RL,tQ,Rb,rN⟩
 have k6:JM K d (d 6) 6:=⟨X6,v6,bO,Tq,bP,bw,bf,bc,TL,Bf,TH,Bk,RZ,Rt,tG,RY,RH⟩
 have k7:JM K d (d 7) 7:=⟨X7,v7,Bn,b7,bZ,Ts,bp,bE,bH,bR,bV,bu,Rc,Rr,RE,RP,rH⟩
 have OO:rA K mg "WAYS" ["down","up","near","even"]:=s2.mg X G
 have uC:rA K mg "NO_RULE_NAMES" ["base","net","month","sums"]:=s3.mg X G
 have GL:vw mg:=⟨Bmg_n X G JQ,Bmg_n X G R7,Bmg_n X G Mu,Bmg_n X G R6,Bmg_n X G rM,Bmg_n X G lL,Bmg_n X G Vf,Bmg_n X G MJ,Bmg_n X G LH,Bmg_n X G NF,Bmg_n X G RB,Bmg_n X G RO,Bmg_n X G Rm,Bmg_n X G tR,Bmg_n X G oV,Bmg_n X G tS,Bmg_n X G R9,Bmg_n X G rO,Bmg_n X G rF,Bmg_n X G V0,Bmg_n X G Wf⟩
 have KD:BB mg d:=⟨Bmg_o X G n0,Bmg_o X G n1,Bmg_o X G n2,Bmg_o X G n3,Bmg_o X G n4,Bmg_o X G n5,Bmg_o X G n6,Bmg_o X G n7,Bmg_o X G n8,Bmg_o X G n9,Bmg_o X G n10,Bmg_o X G n11,Bmg_o X G n12,Bmg_o X G n13,Bmg_o X G n14⟩
 have mgR:mg "RollError" = some (.ref cR):=Bmg_o X G nR
 have ER2:Er K mg "BadText" (d 2):=⟨Bmg_o X G n2,x2⟩
 have RZ2:Rz K d cR 2:=⟨e2,k2⟩
 have ER4:Er K mg "BadYear" (d 4):=⟨Bmg_o X G n4,x4⟩
 have RZ4:Rz K d cR 4:=⟨e4,k4⟩
 have ER5:Er K mg "BadRule" (d 5):=⟨Bmg_o X G n5,x5⟩
 have RZ5:Rz K d cR 5:=⟨e5,k5⟩
 have ER6:Er K mg "BadBook" (d 6):=⟨Bmg_o X G n6,x6⟩
 have RZ6:Rz K d cR 6:=⟨e6,k6⟩
 have ER7:Er K mg "NoYear" (d 7):=⟨Bmg_o X G n7,x7⟩
 have RZ7:Rz K d cR 7:=⟨e7,k7⟩
 have kr:Z1 mg "MOST_SIGNS" 8:=⟨t0,Bmg_o X G gc0⟩
 have kq:Z1 mg "MOST_PARTS" 20000:=⟨t1,Bmg_o X G gc1⟩
 have wA:Z1 mg "MOST_AMOUNT" 1000000000000:=⟨t2,Bmg_o X G gc2⟩
 have wO:Z1 mg "MOST_BANDS" 12:=⟨t3,Bmg_o X G gc3⟩
 have yf:Z1 mg "MOST_DEPTH" 3:=⟨t4,Bmg_o X G gc4⟩
 have Q9:Z1 mg "MOST_FIGURES" 13:=⟨t5,Bmg_o X G gc5⟩
 have Uy:Z1 mg "LAST_YEAR" 9999:=⟨t6,Bmg_o X G gc6⟩
 have JA:Z1 mg "MOST_RULES" 8:=⟨t7,Bmg_o X G gc7⟩
 have YN:Pg.Txt mg "LETTERS" "abcdefghijklmnopqrstuvwxyz":=⟨_,Bmg_o X G s0⟩
 have gD:Pg.Txt mg "FIGURES" "0123456789":=⟨_,Bmg_o X G s1⟩
 have bl:=Fl.binds (ps:=["_law_script"]) (by walk_at"0")
 refine⟨fdl,fun s v=>?_,fun base _ _=>?_⟩
 ·obtain⟨oc,od,kV,doc,pm,an,cdv,ct,osl,rfl,lk,hcd⟩:=Fl.ex
  exact .of_eq rfl
 have Tb:wo K cRu:=⟨my,LK,LD,mO⟩
 have uV:mg "Rule" = some (.ref cRu):=Bmg_o X G NS
 have uh:wo K cF:=⟨LJ,Lb,mI,mQ⟩
 have Xf:mg "Flat" = some (.ref cF):=Bmg_o X G nZ
 have vk:wo K cS:=⟨pq,Pl,PD,OF⟩
 have V3:mg "Share" = some (.ref cS):=Bmg_o X G Ln
 have jy:wo K cC:=⟨Ga,gP,GG,gF⟩
 have Ji:mg "Capped" = some (.ref cC):=Bmg_o X G P5
 have vb:wo K cL:=⟨Oh,PB,px,Od⟩
 have Uh:mg "Least" = some (.ref cL):=Bmg_o X G LL
 have vd:wo K cB:=⟨Pw,oz,Pp,Py⟩
 have U8:mg "Bands" = some (.ref cB):=Bmg_o X G Ld
 have qL:wo K cO:=⟨oK,P1,PF,oG⟩
 have kj:mg "OnTop" = some (.ref cO):=Bmg_o X G mn
 have yx:wo K cK:=⟨VX,Ur,V8,VS⟩
 have VR:mg "RuleBook" = some (.ref cK):=Bmg_o X G W5
 obtain⟨Cs,rfl,rfl,rfl,rfl,rfl,rfl⟩:∃ Cs:Nat→Addr,Cs 0=cF∧Cs 1=cS∧Cs 2=cC∧Cs 3=cL∧Cs 4=cB∧Cs 5=cO:=⟨fun i=>[cF,cS,cC,cL,cB,cO].getD i 0,rfl,rfl,rfl,rfl,rfl,rfl⟩
 have RK:uD K Cs:=⟨tK uh vk jy vb,tK (t9 uQ Ys JR Wv UX Vz) (t9 ud Qg Yk UY VA Yj) (t9 vI ZE Qw Vo Yp Qj) (t9 uj Qt YE U2 Jw Yq)⟩
 have RX4:Qz K (Cs 4):=⟨vd,RR ur YH VF YI QO⟩
 have RX5:Qz K (Cs 5):=⟨qL,RR uc Yy VJ YA Qd⟩
 have RJ:MZ K Cs cRu:=⟨Qv ia0 ia1 ia2 ia3 ia4 ia5,ihn,itk,Qv im0 im1 im2 im3 im4 im5,Qv ik0 ik1 ik2 ik3 ik4 ik5,Qv uh vk jy vb vd qL,Gy TM⟩
 have C1:=Ui.cal (P:=l.prog) (w:=w) (base:=base) X G (by walk_at"0") fun _ _ F=>Vt F GL
 have C2:=wJ.cal (P:=l.prog) (w:=w) (base:=base) X G (by walk_at"1") fun _ _ F=>GZ F C1
 have C3:=Qf.cal (P:=l.prog) (w:=w) (base:=base) X G (by walk_at"0") fun _ _ F=>GU F kq C2
 have C4:=Ul.cal (P:=l.prog) (w:=w) (base:=base) X G (by walk_at"0") fun _ _ F=>mV F GL OO
 have C11:=ko.cal (P:=l.prog) (w:=w) (base:=base) X G (by walk_at"2") fun _ _ F=>mJ F GL kr
 have C12:=YY.cal (P:=l.prog) (w:=w) (base:=base) X G (by walk_at"0") fun _ _ F=>Lv F YN C11
 have C13:=uR.cal (P:=l.prog) (w:=w) (base:=base) X G (by walk_at"0") fun _ _ F=>GA F uC C12
 have C14:=vR.cal (P:=l.prog) (w:=w) (base:=base) X G (by walk_at"0") fun _ _ F=>pY F wA C2
 have C15:=vh.cal (P:=l.prog) (w:=w) (base:=base) X G (by walk_at"0") fun _ _ F=>Gz F C14
 have C16:=kJ.cal (P:=l.prog) (w:=w) (base:=base) X G (by walk_at"2") fun _ _ F=>Gv F C3 C4
 have C18:=PL.cal (P:=l.prog) (w:=w) (base:=base) X G (by walk_at"0") fun _ _ F=>oA F GL
 have C19:=Jk.cal (P:=l.prog) (w:=w) (base:=base) X G (by walk_at"0") fun _ _ F=>pR F GL C14 C3
 have C20:=Zs.cal (P:=l.prog) (w:=w) (base:=base) X G (by walk_at"0") fun _ _ F=>gZ F GL wO C19 C18
 have R0:=uB.calC (P:=l.prog) (w:=w) (mg:=mg) (base:=base) (ps:=["self","name"]) vK uV (by walk_at"2") fun f fd F=>gI F C13
 have R1:=R0.imp (pI RK)
 have I0:=uA.cal (P:=l.prog) (w:=w) (mg:=mg) (base:=base) Xf (by walk_at"1") fun _ _ F=>gT F RK R1 C15
 have I1:=vX.cal (P:=l.prog) (w:=w) (mg:=mg) (base:=base) V3 (by walk_at"3") fun _ _ F=>gj F RK R1 C16
 have I2:=vz.cal (P:=l.prog) (w:=w) (mg:=mg) (base:=base) Ji (by walk_at"4") fun _ _ F=>gq F RK R1 C16 C15
 have I3:=vZ.cal (P:=l.prog) (w:=w) (mg:=mg) (base:=base) Uh (by walk_at"4") fun _ _ F=>GS F RK R1 C16 C15
 have I4:=vV.cal (P:=l.prog) (w:=w) (mg:=mg) (base:=base) U8 (by walk_at"3") fun _ _ F=>OY F GL RX4 R0 C20 C4
 have E0:=Ve.cal (P:=l.prog) (w:=w) (mg:=mg) (base:=base) uh (by walk_at"0") fun _ _ F=>kD (Cs:=Cs) (d:=3) (k:=0) (by decide) F
 have E1:=Yn.cal (P:=l.prog) (w:=w) (mg:=mg) (base:=base) vk (by walk_at"0") fun _ _ F=>kD (Cs:=Cs) (d:=3) (k:=1) (by decide) F
 have E2:=Qc.cal (P:=l.prog) (w:=w) (mg:=mg) (base:=base) jy (by walk_at"0") fun _ _ F=>kD (Cs:=Cs) (d:=3) (k:=2) (by decide) F
 have E3:=Yt.cal (P:=l.prog) (w:=w) (mg:=mg) (base:=base) vb (by walk_at"0") fun _ _ F=>kD (Cs:=Cs) (d:=3) (k:=3) (by decide) F
 have E4:=Yi.cal (P:=l.prog) (w:=w) (mg:=mg) (base:=base) vd (by walk_at"0") fun _ _ F=>kD (Cs:=Cs) (d:=3) (k:=4) (by decide) F
 have E50:=yZ.cal (P:=l.prog) (w:=w) (mg:=mg) (base:=base) qL (by walk_at"0") fun _ _ F=>OD (Cs:=Cs) (j:=1)
 have ME0:=Xh E0 E1 E2 E3 E4 (d:=0) (by decide) (by decide) E50
 have E51:=yZ.cal (P:=l.prog) (w:=w) (mg:=mg) (base:=base) qL (by walk_at"0") fun _ _ F=>ZW F RX5 ME0
 have ME1:=Xh E0 E1 E2 E3 E4 (d:=1) (by decide) (by decide) E51
 have E52:=yZ.cal (P:=l.prog) (w:=w) (mg:=mg) (base:=base) qL (by walk_at"0") fun _ _ F=>ZW F RX5 ME1
 have ME2:=Xh E0 E1 E2 E3 E4 (d:=2) (by decide) (by decide) E52
 have E53:=yZ.cal (P:=l.prog) (w:=w) (mg:=mg) (base:=base) qL (by walk_at"0") fun _ _ F=>ZW F RX5 ME2
 have T0:=VE.cal (P:=l.prog) (w:=w) (mg:=mg) (base:=base) uh (by walk_at"0") fun _ _ F=>pD (d:=3) F RK I0
 have T1:=JV.cal (P:=l.prog) (w:=w) (mg:=mg) (base:=base) vk (by walk_at"0") fun _ _ F=>Ol (d:=3) F RK I1
 have T2:=YB.cal (P:=l.prog) (w:=w) (mg:=mg) (base:=base) jy (by walk_at"0") fun _ _ F=>ph (d:=3) F RK I2
 have T3:=JE.cal (P:=l.prog) (w:=w) (mg:=mg) (base:=base) vb (by walk_at"0") fun _ _ F=>P2 (d:=3) F RK I3
 have T4:=Va.cal (P:=l.prog) (w:=w) (mg:=mg) (base:=base) vd (by walk_at"0") fun _ _ F=>oX (d:=3) F RX4 I4
 have T50:=jW.cal (P:=l.prog) (w:=w) (mg:=mg) (base:=base) qL (by walk_at"0") fun _ _ F=>gN (Cs:=Cs) (j:=8)
 have MT0:=XD T0 T1 T2 T3 T4 (d:=0) (by decide) (by decide) T50
 have I50:=yS.cal (P:=l.prog) (w:=w) (mg:=mg) (base:=base) kj (by walk_at"4") fun _ _ F=>Z9 F GL RX5 RJ uV yf (by decide) (by decide) R0 C16 MT0 (E51.mono (by decide))
 have T51:=jW.cal (P:=l.prog) (w:=w) (mg:=mg) (base:=base) qL (by walk_at"0") fun _ _ F=>QJ F RX5 I50
 have MT1:=XD T0 T1 T2 T3 T4 (d:=1) (by decide) (by decide) T51
 have I51:=yS.cal (P:=l.prog) (w:=w) (mg:=mg) (base:=base) kj (by walk_at"4") fun _ _ F=>Z9 F GL RX5 RJ uV yf (by decide) (by decide) R0 C16 MT1 (E52.mono (by decide))
 have T52:=jW.cal (P:=l.prog) (w:=w) (mg:=mg) (base:=base) qL (by walk_at"0") fun _ _ F=>QJ F RX5 I51
 have MT2:=XD T0 T1 T2 T3 T4 (d:=2) (by decide) (by decide) T52
 have I52:=yS.cal (P:=l.prog) (w:=w) (mg:=mg) (base:=base) kj (by walk_at"4") fun _ _ F=>Z9 F GL RX5 RJ uV yf (by decide) (by decide) R0 C16 MT2 (E53.mono (by decide))
 have I5:=I52.mono (k:=16) (by decide)
 have ME3:=Xh E0 E1 E2 E3 E4 (d:=3) (by decide) (by decide) E53
 have E54:=yZ.cal (P:=l.prog) (w:=w) (mg:=mg) (base:=base) qL (by walk_at"0") fun _ _ F=>ZW F RX5 ME3
 have T53:=jW.cal (P:=l.prog) (w:=w) (mg:=mg) (base:=base) qL (by walk_at"0") fun _ _ F=>QJ F RX5 I52
 have MT3:=XD T0 T1 T2 T3 T4 (d:=3) (by decide) (by decide) T53
 have Bu:=ko.cal (P:=l.prog) (w:=w) (base:=base) X G (by walk_at"2") fun _ _ F=>Oy F GL kr
 have Bt:=YY.cal (P:=l.prog) (w:=w) (base:=base) X G (by walk_at"0") fun _ _ F=>OE F YN Bu
 have Tu:=uR.cal (P:=l.prog) (w:=w) (base:=base) X G (by walk_at"0") fun _ _ F=>gX F uC Bt
 have C4B:=Ul.cal (P:=l.prog) (w:=w) (base:=base) X G (by walk_at"0") fun _ _ F=>mz F GL OO
 have C3B:=Qf.cal (P:=l.prog) (w:=w) (base:=base) X G (by walk_at"0") fun _ _ F=>gA F kq C2
 have ti:=vR.cal (P:=l.prog) (w:=w) (base:=base) X G (by walk_at"0") fun _ _ F=>oE F wA C2
 have nu:=vh.cal (P:=l.prog) (w:=w) (base:=base) X G (by walk_at"0") fun _ _ F=>GF F ER5 ti
 have LO:=kJ.cal (P:=l.prog) (w:=w) (base:=base) X G (by walk_at"2") fun _ _ F=>GE F ER5 C3B C4B
 have bT:=Jk.cal (P:=l.prog) (w:=w) (base:=base) X G (by walk_at"0") fun _ _ F=>On F GL ti C3B
 have TN:=PL.cal (P:=l.prog) (w:=w) (base:=base) X G (by walk_at"0") fun _ _ F=>pX F GL
 have bK:=Zs.cal (P:=l.prog) (w:=w) (base:=base) X G (by walk_at"0") fun _ _ F=>Gj F GL wO bT TN
 have R0E:=uB.calC (P:=l.prog) (w:=w) (mg:=mg) (base:=base) (ps:=["self","name"]) vK uV (by walk_at"2") fun f fd F=>G3 F ER5 Tu
 have I0E:=uA.cal (P:=l.prog) (w:=w) (mg:=mg) (base:=base) Xf (by walk_at"1") fun _ _ F=>xE F RK R0E nu
 have I1E:=vX.cal (P:=l.prog) (w:=w) (mg:=mg) (base:=base) V3 (by walk_at"3") fun _ _ F=>WE F RK R0E LO
 have I2E:=vz.cal (P:=l.prog) (w:=w) (mg:=mg) (base:=base) Ji (by walk_at"4") fun _ _ F=>WH F RK R0E LO nu
 have I3E:=vZ.cal (P:=l.prog) (w:=w) (mg:=mg) (base:=base) Uh (by walk_at"4") fun _ _ F=>Wj F RK R0E LO nu
 have I4E:=vV.cal (P:=l.prog) (w:=w) (mg:=mg) (base:=base) U8 (by walk_at"3") fun _ _ F=>GK F ER5 RX4 R0E bK C4B
 have I5E:=yS.cal (P:=l.prog) (w:=w) (mg:=mg) (base:=base) kj (by walk_at"4") fun _ _ F=>gy F GL ER5 RX5 RJ uV yf (by decide) R0E LO MT3 (E54.mono (by decide))
 have Q1:=Yh.cal (P:=l.prog) (w:=w) (base:=base) X G (by walk_at"0") fun _ _ F=>Qe F GL gD
 have Q2:=kY.cal (P:=l.prog) (w:=w) (base:=base) X G (by walk_at"0") fun _ _ F=>mf F Q1
 have Q3:=Yx.cal (P:=l.prog) (w:=w) (base:=base) X G (by walk_at"2") fun _ _ F=>Mx F GL ER2 Q2
 have Q4:=Ud.cal (P:=l.prog) (w:=w) (base:=base) X G (by walk_at"0") fun _ _ F=>LN F Q9 Q3
 have Q5:=gG.cal (P:=l.prog) (w:=w) (base:=base) X G (by walk_at"0") fun _ _ F=>P4 F GL ER5 Q4
 have Q6:=xo.cal (P:=l.prog) (w:=w) (base:=base) X G (by walk_at"0") fun _ _ F=>Gc F GL Q5
 have Q7:=Jx.cal (P:=l.prog) (w:=w) (base:=base) X G (by walk_at"0") fun _ _ F=>La F GL ER5 Q4 Q6 I0 I1 I2 I3 I4 I0E I1E I2E I3E I4E
 have Q8:=WY.cal (P:=l.prog) (w:=w) (base:=base) X G (by walk_at"0") fun _ _ F=>oI F GL
 have W0:=yC.cal (P:=l.prog) (w:=w) (base:=base) X G (by walk_at"2") fun _ _ F=>Lz (Cs:=Cs) (cT:=d 2) (cB:=d 5) (j:=19)
 have W1:=yC.cal (P:=l.prog) (w:=w) (base:=base) X G (by walk_at"2") fun _ _ F=>Vv (by decide) F ER5 yf Q8 Q7 Q4 W0 I5 I5E
 have W2:=yC.cal (P:=l.prog) (w:=w) (base:=base) X G (by walk_at"2") fun _ _ F=>Vv (by decide) F ER5 yf Q8 Q7 Q4 W1 I5 I5E
 have W3:=yC.cal (P:=l.prog) (w:=w) (base:=base) X G (by walk_at"2") fun _ _ F=>Vv (by decide) F ER5 yf Q8 Q7 Q4 W2 I5 I5E
 have W4:=yC.cal (P:=l.prog) (w:=w) (base:=base) X G (by walk_at"2") fun _ _ F=>Vv (by decide) F ER5 yf Q8 Q7 Q4 W3 I5 I5E
 have Ro:=GX.cal (P:=l.prog) (w:=w) (base:=base) X G (by walk_at"0") fun _ _ F=>mh F GL ER5 ER2 xTT xRT W4
 have RW0:=WD.cal (P:=l.prog) (w:=w) (mg:=mg) (base:=base) uh (by walk_at"0") fun _ _ F=>L9 F GL RK
 have RW1:=Ua.cal (P:=l.prog) (w:=w) (mg:=mg) (base:=base) vk (by walk_at"0") fun _ _ F=>Le F GL RK
 have RW2:=Vh.cal (P:=l.prog) (w:=w) (mg:=mg) (base:=base) jy (by walk_at"0") fun _ _ F=>LP F GL RK
 have RW3:=U4.cal (P:=l.prog) (w:=w) (mg:=mg) (base:=base) vb (by walk_at"0") fun _ _ F=>lT F GL RK
 have RW4:=UO.cal (P:=l.prog) (w:=w) (mg:=mg) (base:=base) vd (by walk_at"0") fun _ _ F=>mj (d:=3) F GL RX4
 have bM:=vx.cal (P:=l.prog) (w:=w) (mg:=mg) (base:=base) qL (by walk_at"0") fun _ _ F=>pM (Cs:=Cs) (j:=1)
 have MR0:=gh RW0 RW1 RW2 RW3 RW4 (d:=0) (by decide) (by decide) bM
 have TU:=vx.cal (P:=l.prog) (w:=w) (mg:=mg) (base:=base) qL (by walk_at"0") fun _ _ F=>JN (by decide) F GL RX5 MR0
 have MR1:=gh RW0 RW1 RW2 RW3 RW4 (d:=1) (by decide) (by decide) TU
 have Tr:=vx.cal (P:=l.prog) (w:=w) (mg:=mg) (base:=base) qL (by walk_at"0") fun _ _ F=>JN (by decide) F GL RX5 MR1
 have MR2:=gh RW0 RW1 RW2 RW3 RW4 (d:=2) (by decide) (by decide) Tr
 have Bb:=vx.cal (P:=l.prog) (w:=w) (mg:=mg) (base:=base) qL (by walk_at"0") fun _ _ F=>JN (by decide) F GL RX5 MR2
 have MR:=gh RW0 RW1 RW2 RW3 RW4 (d:=3) (j:=4) (by decide) (by decide) Bb
 have RoC:=(qN.calm Ro).imp' Oc
 have Ny:=UW.cal (P:=l.prog) (w:=w) (base:=base) X G (by walk_at"0") fun _ _ F=>Vl F ER4 Uy C2
 have Fw:=W7.cal (P:=l.prog) (w:=w) (base:=base) X G (by walk_at"0") fun _ _ F=>Lm F GL ER6 JA
 have Un:=wc.cal (P:=l.prog) (w:=w) (base:=base) X G (by walk_at"0") fun _ _ F=>Lq F GL ER6 (Qv uh vk jy vb vd qL) (Qv uQ ud vI uj ur uc)
 have B_i:=wb.cal (P:=l.prog) (w:=w) (mg:=mg) (base:=base) VR (by walk_at"0") fun _ _ F=>oH F yx jd
 have B_p:=QC.cal (P:=l.prog) (w:=w) (mg:=mg) (base:=base) yx (by walk_at"1") fun _ _ F=>lU (by decide) F GL yx jd Ny Fw Ro Un MR
 have B_r:=ZI.cal (P:=l.prog) (w:=w) (mg:=mg) (base:=base) yx (by walk_at"2") fun _ _ F=>oW F GL ER7 yx jd Ny
 have B_l:=Zc.cal (P:=l.prog) (w:=w) (mg:=mg) (base:=base) yx (by walk_at"2") fun _ _ F=>gC (by decide) F B_r RoC
 have B_y:=Zo.cal (P:=l.prog) (w:=w) (mg:=mg) (base:=base) yx (by walk_at"0") fun _ _ F=>gL F GL yx jd
 have D1:=Qo.cal (P:=l.prog) (w:=w) (base:=base) X G (by walk_at"2") fun _ _ F=>xk F GL
 have D2:=JS.cal (P:=l.prog) (w:=w) (base:=base) X G (by walk_at"2") fun _ _ F=>L6 F
 have D4:=Yv.cal (P:=l.prog) (w:=w) (base:=base) X G (by walk_at"2") fun _ _ F=>lZ F D2
 have D6:=JZ.cal (P:=l.prog) (w:=w) (base:=base) X G (by walk_at"2") fun _ _ F=>lN F GL D2
 have D7:=Vn.cal (P:=l.prog) (w:=w) (base:=base) X G (by walk_at"2") fun _ _ F=>lV F D2
 have D8:=xa.cal (P:=l.prog) (w:=w) (base:=base) X G (by walk_at"2") fun _ _ F=>LX F D2
 have D9:=JF.cal (P:=l.prog) (w:=w) (base:=base) X G (by walk_at"0") fun _ _ F=>mC F GL D2 D7
 have D10:=JJ.cal (P:=l.prog) (w:=w) (base:=base) X G (by walk_at"1") fun _ _ F=>mi F D4 D7 D8 D9
 have D11:=Ub.cal (P:=l.prog) (w:=w) (base:=base) X G (by walk_at"2") fun _ _ F=>oB F GL D2 D10 D7 D8
 have nW:=JU.cal (P:=l.prog) (w:=w) (base:=base) X G (by walk_at"1") fun _ _ F=>gE F GL D2 D11
 have B0:=vf.cal (P:=l.prog) (w:=w) (base:=base) X G (by walk_at"0") fun _ _ F=>OQ (j:=2)
 have B1:=vf.cal (P:=l.prog) (w:=w) (base:=base) X G (by walk_at"0") fun _ _ F=>ZQ F GL (by decide) B0
 have B2:=vf.cal (P:=l.prog) (w:=w) (base:=base) X G (by walk_at"0") fun _ _ F=>ZQ F GL (by decide) B1
 have B3:=vf.cal (P:=l.prog) (w:=w) (base:=base) X G (by walk_at"0") fun _ _ F=>ZQ F GL (by decide) B2
 have B4:=vf.cal (P:=l.prog) (w:=w) (base:=base) X G (by walk_at"0") fun _ _ F=>ZQ F GL (by decide) B3
 have Yr:=Vb.cal (P:=l.prog) (w:=w) (base:=base) X G (by walk_at"0") fun _ _ F=>LR F GL D2
 have Nq:=Qx.cal (P:=l.prog) (w:=w) (base:=base) X G (by walk_at"0") fun _ _ F=>NK F
 have Wd:=UA.calQ (P:=l.prog) (w:=w) (base:=base) (ps:=["_law_e"]) X G (by walk_at"0") fun f fd F=>lY F GL KD
 have Td:=VH.cal (P:=l.prog) (w:=w) (base:=base) X G (by walk_at"1") fun _ _ F=>lR (by decide) F mgR RZ4 RZ7 (Qv uh vk jy vb vd qL) (Qv uQ ud vI uj ur uc) B_r B_l MR Wd
 have Ir:=ZF.cal (P:=l.prog) (w:=w) (base:=base) X G (by walk_at"4") fun _ _ F=>MW F GL Td (B_l.mono (by decide))
 have St:=Yo.cal (P:=l.prog) (w:=w) (base:=base) X G (by walk_at"4") fun _ _ F=>MA (by decide) F GL D2 Nq Td Ir B_y
 have Rf:=Qr.cal (P:=l.prog) (w:=w) (base:=base) X G (by walk_at"3") fun _ _ F=>Li (by decide) F GL mgR RZ4 RZ5 RZ6 Nq B_p Wd
 have RfJ:=Rf.mono (k:=28) (by decide)
 have PuJ:=(qU.calm B_p).mono (k:=28) (by decide)
 exact Mv (by decide) Fl GL D1 D2 Yr D6 nW B4 B_i PuJ RfJ St
theorem bB {l:PySem.W.OpenLaw} {q:Program} {loose:List Str} {XP:(Str→Option Value)→Heap→Prop} {YP:World→Heap→Prop} {d:DefRec} {K:Params→BFr} (hn:l.most=some 63) (hdf:d.params.defaults=[]) (hY:∀ (w:World) (h:Heap),YP w h→(K w.params).In h) (F:∀ (w:World) (mg:Str→Option Value) (fa:Addr) (h:Heap),(K w.params).In h→h.Ns mainGlobals mg→mg d.name=some (.ref fa) →
   ∃ fd:FuncData,(∀ (s:Shared) (u:Value),BindsTo s fd ⟨[u],[]⟩ [("_law_script",u)])∧∀ base:Heap,(K w.params).In base→base.Ns mainGlobals mg→zL l.prog w (K w.params) mg base z8 29 fa fd ["_law_script"] (ZN (K w.params))) :
  PySem.W.WalkO q loose XP YP l.row.toRowW d [] (fun f vs=>PySem.call f vs) :=
 L2.LZ (n:=63) (k:=29) (x:="_law_script") (CX:=fun _=>z8) (sp:=fun w=>(ZN (K w.params))) hn (by decide) hdf ⟨rfl,by decide,by decide⟩ hY F (fun _ _ a ns hl _ hS=>⟨a,ns,rfl,hS,fun _=>rfl⟩) fun _ _ _ _ _ z=>z
end K11
set_option maxHeartbeats 0
namespace K11
open PySem PySem.W PySem.Calls PyProof.Rows L2
theorem RQ:(defOf hQ "law").isSome=true:=by kernel_rfl
noncomputable def hD:DefRec:=((defOf hQ "law").get RQ).1
theorem rD:WalkO hQ [] (XL hQ []) (kc NH OI) (PySem.Challenge.rw_coinroll_k11_books_of_rules).row.toRowW hD [] (fun f vs=>PySem.call f vs):=by
 refine lF fun K e=>?_
 have hF:hFs.map (fun x=>jz K (nsIn K mainGlobals x.1))=hFs.map (fun x=>jC x.1 x.1 (top x.2)):=congrArg Prod.fst e
 have hM:hMs.map (fun x=>jz K (findIn K (.ref x.1) x.2.1))=hMs.map (fun x=>jC x.2.1 x.2.2.1 (zE (top x.2.2.2.1) x.2.2.2.2)):=congrArg (fun z=>z.2.1) e
 have hB:(ma K).all id=true:=congrArg (fun z=>z.2.2) e
 obtain⟨t0,gc0⟩:=uL (zg hB 16 rfl)
 obtain⟨t1,gc1⟩:=uL (zg hB 17 rfl)
 obtain⟨t2,gc2⟩:=uL (zg hB 18 rfl)
 obtain⟨t3,gc3⟩:=uL (zg hB 19 rfl)
 obtain⟨t4,gc4⟩:=uL (zg hB 20 rfl)
 obtain⟨t5,gc5⟩:=uL (zg hB 21 rfl)
 obtain⟨t6,gc6⟩:=uL (zg hB 22 rfl)
 obtain⟨t7,gc7⟩:=uL (zg hB 23 rfl)
 obtain⟨u0,s0⟩:=xK (zg hB 24 rfl)
 obtain⟨u1,s1⟩:=xK (zg hB 25 rfl)
 refine bB (l:=PySem.Challenge.rw_coinroll_k11_books_of_rules) (K:=fun _=>K) rfl (by kernel_rfl) (fun w h Y=>Y) ?_
 intro w mg fa h KX G hmg
 exact NG KX G hmg (zF (zB hF 0 rfl)) (zF (zB hF 1 rfl)) (zF (zB hF 2 rfl)) (zF (zB hF 3 rfl)) (zF (zB hF 4 rfl)) (zF (zB hF 5 rfl)) (zF (zB hF 6 rfl)) (zF (zB hF 7 rfl)) (zF (zB hF 8 rfl)) (zF (zB hF 9 rfl)) (zF (zB hF 10 rfl)) (zF (zB hF 11 rfl)) (zF (zB hF 12 rfl)) (zF (zB hF 13 rfl)) (zF (zB hF 14 rfl)) (zF (zB hF 15 rfl)) (zF (zB hF 16 rfl)) (zF (zB hF 17 rfl)) (zF (zB hF 18 rfl)) (zF (zB hF 19 rfl)) (zF (zB hF 20 rfl)) (zF (zB hF 21 rfl)) (zF (zB hF 22 rfl)) (zF (zB hF 23 rfl)) (zF (zB hF 24 rfl)) (zF (zB hF 25 rfl)) (zF (zB hF 26 rfl)) (zF (zB hF 27 rfl)) (zF (zB hF 28 rfl)) (zF (zB hF 29 rfl)) (zF (zB hF 30 rfl)) (zF (zB hF 31 rfl)) (zF (zB hF 32 rfl)) (zF (zB hF 33 rfl)) (zF (zB hF 34 rfl)) (zF (zB hF 35 rfl)) (zF (zB hF 36 rfl)) (zF (zB hF 37 rfl)) (zF (zB hF 38 rfl)) (zF (zB hF 39 rfl)) (zF (zB hF 40 rfl)) (zF (zB hF 41 rfl)) (zF (zB hF 42 rfl)) (zF (zB hF 43 rfl)) (zF (zB hF 44 rfl)) (qX (zg hB 0 rfl)) (qX (zg hB 1 rfl)) (qX (zg hB 2 rfl)) (qX (zg hB 3 rfl)) (qX (zg hB 4 rfl)) (qX (zg hB 5 rfl)) (qX (zg hB 6 rfl)) (qX (zg hB 7 rfl)) (qX (zg hB 8 rfl)) (qX (zg hB 9 rfl)) (qX (zg hB 10 rfl)) (qX (zg hB 11 rfl)) (qX (zg hB 12 rfl)) (qX (zg hB 13 rfl)) (qX (zg hB 14 rfl)) (qX (zg hB 15 rfl)) gc0 gc1 gc2 gc3 gc4 gc5 gc6 gc7 s0 s1 (Uw (zg hB 26 rfl)) (Uw (zg hB 27 rfl)) (qc (zg hB 28 rfl)) (qc (zg hB 29 rfl)) (qc (zg hB 30 rfl)) (qc (zg hB 31 rfl)) (qc (zg hB 32 rfl)) (qc (zg hB 33 rfl)) (qc (zg hB 34 rfl)) (qc (zg hB 35 rfl)) (qc (zg hB 36 rfl)) (qc (zg hB 37 rfl)) (qc (zg hB 38 rfl)) (qc (zg hB 39 rfl)) (qc (zg hB 40 rfl)) (qc (zg hB 41 rfl)) (qc (zg hB 42 rfl)) (qc (zg hB 43 rfl)) (qc (zg hB 44 rfl)) (qc (zg hB 45 rfl)) (qc (zg hB 46 rfl)) (qc (zg hB 47 rfl)) (qc (zg hB 48 rfl)) (zg hB 49 rfl) (zV (zg hB 50 rfl)) (uH (zg hB 51 rfl)) (zV (zg hB 52 rfl)) (zV (zg hB 53 rfl)) (zV (zg hB 54 rfl)) (zV (zg hB 55 rfl)) (zV (zg hB 56 rfl)) (zV (zg hB 57 rfl)) (zV (zg hB 58 rfl)) (zV (zg hB 59 rfl)) (zV (zg hB 60 rfl)) (zV (zg hB 61 rfl)) (zV (zg hB 62 rfl)) (zV (zg hB 63 rfl)) (zV (zg hB 64 rfl)) (zV (zg hB 65 rfl)) (zV (zg hB 66 rfl)) (zV (zg hB 67 rfl)) (zg hB 68 rfl) (zV (zg hB 69 rfl)) (uH (zg hB 70 rfl)) (zV (zg hB 71 rfl)) (zV (zg hB 72 rfl)) (zV (zg hB 73 rfl)) (zV (zg hB 74 rfl)) (zV (zg hB 75 rfl)) (zV (zg hB 76 rfl)) (zV (zg hB 77 rfl)) (zV (zg hB 78 rfl)) (zV (zg hB 79 rfl)) (zV (zg hB 80 rfl)) (zV (zg hB 81 rfl)) (zV (zg hB 82 rfl)) (zV (zg hB 83 rfl)) (zV (zg hB 84 rfl)) (zV (zg hB 85 rfl)) (zV (zg hB 86 rfl)) (zg hB 87 rfl) (zV (zg hB 88 rfl)) (uH (zg hB 89 rfl)) (zV (zg hB 90 rfl)) (zV (zg hB 91 rfl)) (zV (zg hB 92 rfl)) (zV (zg hB 93 rfl)) (zV (zg hB 94 rfl)) (zV (zg hB 95 rfl)) (zV (zg hB 96 rfl)) (zV (zg hB 97 rfl)) (zV (zg hB 98 rfl)) (zV (zg hB 99 rfl)) (zV (zg hB 100 rfl)) (zV (zg hB 101 rfl)) (zV (zg hB 102 rfl)) (zV (zg hB 103 rfl)) (zV (zg hB 104 rfl)) (zV (zg hB 105 rfl)) (zg hB 106 rfl) (zV (zg hB 107 rfl)) (uH (zg hB 108 rfl)) (zV (zg hB 109 rfl)) (zV (zg hB 110 rfl)) (zV (zg hB 111 rfl)) (zV (zg hB 112 rfl)) (zV (zg hB 113 rfl)) (zV (zg hB 114 rfl)) (zV (zg hB 115 rfl)) (zV (zg hB 116 rfl)) (zV (zg hB 117 rfl)) (zV (zg hB 118 rfl)) (zV (zg hB 119 rfl)) (zV (zg hB 120 rfl)) (zV (zg hB 121 rfl)) (zV (zg hB 122 rfl)) (zV (zg hB 123 rfl)) (zV (zg hB 124 rfl)) (zg hB 125 rfl) (zV (zg hB 126 rfl)) (uH (zg hB 127 rfl)) (zV (zg hB 128 rfl)) (zV (zg hB 129 rfl)) (zV (zg hB 130 rfl)) (zV (zg hB 131 rfl)) (zV (zg hB 132 rfl)) (zV (zg hB 133 rfl)) (zV (zg hB 134 rfl)) (zV (zg hB 135 rfl)) (zV (zg hB 136 rfl)) (zV (zg hB 137 rfl)) (zV (zg hB 138 rfl)) (zV (zg hB 139 rfl)) (zV (zg hB 140 rfl)) (zV (zg hB 141 rfl)) (zV (zg hB 142 rfl)) (zV (zg hB 143 rfl)) (qX (zg hB 144 rfl)) (zg hB 145 rfl) (zg hB 146 rfl) (zg hB 147 rfl) (yH (zg hB 148 rfl)) (qh (zB hM 0 rfl)) (zg hB 149 rfl) (qX (zg hB 150 rfl)) (zg hB 151 rfl) (zg hB 152 rfl) (zg hB 153 rfl) (yH (zg hB 154 rfl)) (qc (zg hB 155 rfl)) (qc (zg hB 156 rfl)) (qc (zg hB 157 rfl)) (qc (zg hB 158 rfl)) (qc (zg hB 159 rfl)) (qc (zg hB 160 rfl)) (jE (zB hM 1 rfl) (zg hB 161 rfl)) (qh (zB hM 2 rfl)) (qh (zB hM 3 rfl)) (qh (zB hM 4 rfl)) (qX (zg hB 162 rfl)) (zg hB 163 rfl) (zg hB 164 rfl) (zg hB 165 rfl) (yH (zg hB 166 rfl)) (qc (zg hB 167 rfl)) (qc (zg hB 168 rfl)) (qc (zg hB 169 rfl)) (qc (zg hB 170 rfl)) (qc (zg hB 171 rfl)) (qc (zg hB 172 rfl)) (jE (zB hM 5 rfl) (zg hB 173 rfl)) (qh (zB hM 6 rfl)) (qh (zB hM 7 rfl)) (qh (zB hM 8 rfl)) (qX (zg hB 174 rfl)) (zg hB 175 rfl) (zg hB 176 rfl) (zg hB 177 rfl) (yH (zg hB 178 rfl)) (qc (zg hB 179 rfl)) (qc (zg hB 180 rfl)) (qc (zg hB 181 rfl)) (qc (zg hB 182 rfl)) (qc (zg hB 183 rfl)) (qc (zg hB 184 rfl)) (jE (zB hM 9 rfl) (zg hB 185 rfl)) (qh (zB hM 10 rfl)) (qh (zB hM 11 rfl)) (qh (zB hM 12 rfl)) (qX (zg hB 186 rfl)) (zg hB 187 rfl) (zg hB 188 rfl) (zg hB 189 rfl) (yH (zg hB 190 rfl)) (qc (zg hB 191 rfl)) (qc (zg hB 192 rfl)) (qc (zg hB 193 rfl)) (qc (zg hB 194 rfl)) (qc (zg hB 195 rfl)) (qc (zg hB 196 rfl)) (jE (zB hM 13 rfl) (zg hB 197 rfl)) (qh (zB hM 14 rfl)) (qh (zB hM 15 rfl)) (qh (zB hM 16 rfl)) (qX (zg hB 198 rfl)) (zg hB 199 rfl) (zg hB 200 rfl) (zg hB 201 rfl) (yH (zg hB 202 rfl)) (qc (zg hB 203 rfl)) (qc (zg hB 204 rfl)) (qc (zg hB 205 rfl)) (qc (zg hB 206 rfl)) (qc (zg hB 207 rfl)) (jE (zB hM 17 rfl) (zg hB 208 rfl)) (qh (zB hM 18 rfl)) (qh (zB hM 19 rfl)) (qh (zB hM 20 rfl)) (qX (zg hB 209 rfl)) (zg hB 210 rfl) (zg hB 211 rfl) (zg hB 212 rfl) (yH (zg hB 213 rfl)) (qc (zg hB 214 rfl)) (qc (zg hB 215 rfl)) (qc (zg hB 216 rfl)) (qc (zg hB 217 rfl)) (qc (zg hB 218 rfl)) (jE (zB hM 21 rfl) (zg hB 219 rfl)) (qh (zB hM 22 rfl)) (qh (zB hM 23 rfl)) (qh (zB hM 24 rfl)) (qX (zg hB 220 rfl)) (zg hB 221 rfl) (zg hB 222 rfl) (zg hB 223 rfl) (yH (zg hB 224 rfl)) (qc (zg hB 225 rfl)) (jE (zB hM 25 rfl) (zg hB 226 rfl)) (qh (zB hM 26 rfl)) (qh (zB hM 27 rfl)) (qh (zB hM 28 rfl)) (qh (zB hM 29 rfl)) (zV (zg hB 227 rfl)) (zV (zg hB 228 rfl)) (yH (zg hB 229 rfl)) (zV (zg hB 230 rfl)) (zg hB 231 rfl) (yH (zg hB 232 rfl)) (zV (zg hB 233 rfl)) (zV (zg hB 234 rfl)) (yH (zg hB 235 rfl)) (zV (zg hB 236 rfl)) (zV (zg hB 237 rfl)) (yH (zg hB 238 rfl)) (zV (zg hB 239 rfl)) (zV (zg hB 240 rfl)) (yH (zg hB 241 rfl)) (zV (zg hB 242 rfl)) (zV (zg hB 243 rfl)) (yH (zg hB 244 rfl)) (zV (zg hB 245 rfl)) (zV (zg hB 246 rfl)) (yH (zg hB 247 rfl)) (zV (zg hB 248 rfl)) (zV (zg hB 249 rfl))
end K11
open PySem PySem.W PyProof.Rows
set_option maxRecDepth 100000 in
set_option maxHeartbeats 0 in
theorem PySem.Challenge.cw_coinroll_k11_books_of_rules_holds : PySem.Challenge.rw_coinroll_k11_books_of_rules.Holds := by
 w_on;o_law
 refine' holds_open (q:=K11.hQ) (d:=K11.hD) (kwd:=[]) K11.rJ ?a1 ?a2 ?a3 XL.keeps ?a4 ?a5 ?a6 ?a7 ?a8 ?a9 ?b1 ?b2 ?b3 K11.rD
 case a1=>exact fun w s e=>L2.lg w s e
 case a2=>exact L2.WQ
 case a3=>exact fun s e=>xl_of s (CO.mp e).1
 case a4=>exact L2.Lg K11.RQ (by kernel_rfl)
 case a5=>kernel_rfl
 case a6=>kernel_rfl
 case a7=>exact fun s e=>recFacts_of (CO.mp e).2
 case a8=>rfl
 case a9=>assumption
 case b1=>decide +kernel
 case b2=>exact⟨rfl,rfl,rfl,rfl,rfl,by decide +kernel⟩
 case b3=>w_witness2
#print axioms PySem.Challenge.cw_coinroll_k11_books_of_rules_holds
