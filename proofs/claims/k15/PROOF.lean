import PyProof.Rows.All
import Wide.All
import OpenK.AllK
import Wide.FinOn
import Lean
import PyProof.EqAt
import PyProof.EqKinds
import PyProof.TupleCall
import PyProof.NeKinds
import PyProof.SumWalkG
import PyProof.EnumMake
import KE.KIntText
import PyProof.StrLawsIn
import PyProof.StrCalls2
import PyProof.Rows.SortRuns
import KE.KSortTup
import KE.KSortKey
import PyProof.StrCalls
import PyProof.ListRange
import KE.IntTextLaws
import KE.IntTextText
import PyProof.Rows.FStr
import PyProof.SetKind
import PyProof.Rows.SetFrom
import PyProof.Walks
import KE.KItemsList
import KE.KDictOf
import PyProof.AttrMissHeap
import PyProof.AutoListH
import PyProof.Rows.ZipGen
import PyProof.Rows.EnumRows
import PyProof.EnumFor
import PyProof.WalksMore
import PyProof.TupleIter
import KE.KRevIter
import PyProof.CollectIter
import PyProof.JoinWalk
import PyProof.Rows.FactsT2
import PyProof.SeqI3
import PyProof.DictWalks
import PyProof.CollectWalk
import PyProof.Rows.SortWalk
import KE.KDictSum
import PySem.Challenge.RW_coinroll_k15_whole_years_by_a_text
set_option Elab.async false
set_option linter.all false
set_option genSizeOf false
set_option compiler.extract_closed false
set_option maxRecDepth 100000
noncomputable section
abbrev BFr:=PySem.W.Frag
abbrev BnR (K:BFr) (x:PySem.Str) (c:PySem.Addr):Prop:=PySem.W.nsIn K PySem.mainGlobals x=some (some (.ref c))
abbrev BnI (K:BFr) (x:PySem.Str) (i:Int) (t:PySem.Tok):Prop:=PySem.W.nsIn K PySem.mainGlobals x=some (some (.int i t))
abbrev BfS (K:BFr) (c:PySem.Addr):Prop:=PySem.W.findIn K (.ref c) "__setattr__"=some (some (.builtin "object.__setattr__"))
abbrev BfC (K:BFr) (c:PySem.Addr):Prop:=PySem.W.findIn K (.ref c) "__class__"=some (some (.builtin "object.__class__"))
abbrev BkO (K:BFr) (a b:PySem.Addr) (x:Bool):Prop:=PySem.W.kitOne K (.ref a) (.ref b)=some x
abbrev Bmg_o:=@PySem.W.mg_of
abbrev Bmg_n:=@PySem.W.mg_none_of
set_option hygiene false in
local macro_rules | `(tactic| walk_at "0") => `(tactic| exact fun _ _ _ _ _ _ us hl=>by obtain⟨a,rfl⟩:=zV hl;rfl)
set_option hygiene false in
local macro_rules | `(tactic| walk_at "1") => `(tactic| exact fun _ _ _ _ _ _ us hl=>by obtain⟨a,b,c,rfl⟩:=kK hl;rfl)
set_option hygiene false in
local macro_rules | `(tactic| walk_at "2") => `(tactic| exact fun _ _ _ _ _ _ us hl=>by obtain⟨a,b,c,d,rfl⟩:=Gh hl;rfl)
set_option hygiene false in
local macro_rules | `(tactic| walk_at "3") => `(tactic| exact fun _ _ _ _ _ _ us hl=>by obtain⟨a,b,rfl⟩:=qj hl;rfl)
set_option hygiene false in
local macro_rules | `(tactic| walk_at "4") => `(tactic| exact fun _ _ _ _ _ _ us hl=>by obtain⟨a,b,c,d,e,rfl⟩:=UB hl;rfl)
set_option hygiene false in
local macro_rules | `(tactic| walk_at "s") => `(tactic| exact ⟨rfl,rfl,rfl,by decide +kernel,rfl,by decide +kernel,by decide +kernel⟩)
set_option hygiene false in
local macro_rules | `(tactic| walk_at "c0") => `(tactic| exact ⟨rfl,rfl,by decide +kernel,by decide +kernel,(fun x c z=>nomatch z),qA (by rfl),zP z7,rfl⟩)
set_option hygiene false in
local macro_rules | `(tactic| walk_at "c1") => `(tactic| exact ⟨rfl,rfl,by decide +kernel,by decide +kernel,jv (kF rfl),qA (by rfl),zP (qu ⟨_,rfl,rfl,rfl,rfl⟩ z7),rfl⟩)
set_option hygiene false in
local macro_rules | `(tactic| walk_at "c2") => `(tactic| exact ⟨rfl,rfl,by decide +kernel,by decide +kernel,jv (Um rfl (kF rfl)),qA (by rfl),zP (qu ⟨_,rfl,rfl,rfl,rfl⟩ (qu ⟨_,rfl,rfl,rfl,rfl⟩ z7)),rfl⟩)
set_option hygiene false in
local macro_rules | `(tactic| walk_at "c3") => `(tactic| exact ⟨rfl,rfl,by decide +kernel,by decide +kernel,(fun x c z=>nomatch z),qA (by rfl),zP (zP z7),rfl⟩)
set_option hygiene false in
local macro_rules | `(tactic| walk_at "c4") => `(tactic| exact ⟨rfl,rfl,by decide +kernel,by decide +kernel,jv (Um rfl (Um rfl (kF rfl))),qA (by rfl),zP (qu ⟨_,rfl,rfl,rfl,rfl⟩ (qu ⟨_,rfl,rfl,rfl,rfl⟩ (qu ⟨_,rfl,rfl,rfl,rfl⟩ z7))),rfl⟩)
set_option hygiene false in
local macro_rules | `(tactic| walk_at "d5") => `(tactic| dsimp (config:={ proj:=false,iota:=false,beta:=false,eta:=false }) only [jc,vd])
abbrev BnN (K:BFr) (x:PySem.Str):Prop:=PySem.W.nsIn K PySem.mainGlobals x=some none
abbrev CY:=@List.length_map
abbrev CZ:=@Nat.le_refl
abbrev dc:=@List.mem_cons
abbrev de:=@List.getElem?_eq_getElem
abbrev dh:=@List.length_append
abbrev dj:=@List.getElem?_map
abbrev dk:=@List.mem_map
abbrev dm:=@List.not_mem_nil
abbrev dq:=@List.mem_cons_self
abbrev dw:=@PySem.Heap.lt_size
abbrev dz:=@List.map_append
abbrev dA:=@List.mem_append
abbrev dB:=@List.map_map
abbrev dC:=@Option.map_eq_some_iff
abbrev dD:=@List.size_toArray
abbrev dF:=@List.getElem?_eq_some_iff
abbrev dG:=@Nat.le_trans
abbrev dH:=@PySem.Heap.get?_push_of_some
abbrev dI:=@List.mem_singleton
abbrev dJ:=@Bool.false_ne_true
abbrev dM:=@Int.emod_nonneg
abbrev dN:=@List.map_cons
abbrev dO:=@Nat.ne_of_lt
abbrev dP:=@List.length_take
abbrev dQ:=@List.mem_cons_of_mem
abbrev dR:=@PySem.Heap.get?_push_size
abbrev dS:=@List.getElem?_append_right
abbrev dU:=@Int.emod_lt_of_pos
abbrev dW:=@List.length_cons
abbrev dX:=@Nat.le_of_ble_eq_true
abbrev dY:=@Bool.and_eq_true
abbrev dZ:=@List.mem_of_getElem?
abbrev d4:=@List.length_range
abbrev d6:=@Nat.zero_le
abbrev d7:=@List.getElem?_append_left
abbrev d8:=@List.append_assoc
abbrev d9:=@List.append_nil
abbrev Da:=@List.length_singleton
abbrev Dc:=@List.all_eq_true
abbrev Dd:=@Nat.lt_of_lt_of_le
abbrev De:=@Array.length_toList
abbrev Df:=@List.getD_eq_getElem?_getD
abbrev Dg:=@List.take_add_one
abbrev Dh:=@List.length_reverse
abbrev Di:=@Int.le_refl
abbrev Dj:=@List.take_length
abbrev Dk:=@Int.toNat_natCast
abbrev Dl:=@List.mem_append_right
abbrev Dm:=@List.nodup_cons
abbrev Dn:=@List.getElem?_eq_none
abbrev Do:=@List.take_of_length_le
abbrev Dp:=@List.contains_iff_mem
abbrev Dq:=@Int.mul_nonneg
abbrev Dr:=@List.length_drop
abbrev Ds:=@List.foldl_cons
abbrev Dv:=@Nat.min_eq_left
abbrev Dw:=@Bool.and_eq_true_iff
abbrev Dx:=@Array.getElem?_eq_some_iff
abbrev Dy:=@Int.eq_ofNat_of_zero_le
abbrev Dz:=@Bool.eq_iff_iff
abbrev DA:=@List.replicate_succ
abbrev DC:=@List.nil_append
abbrev DD:=@Int.zero_add
abbrev DE:=@List.pairwise_cons
abbrev DF:=@List.drop_zero
abbrev DG:=@List.map_nil
abbrev DH:=@List.mem_filter
abbrev DI:=@List.mem_range
abbrev DJ:=@Option.isSome_iff_exists
abbrev DK:=@Nat.le_of_not_lt
abbrev DM:=@List.getElem_mem
abbrev DN:=@Bool.false_eq_true
abbrev DO:=@List.ext_getElem?
abbrev DP:=@List.pairwise_iff_getElem
abbrev DQ:=@Nat.sub_zero
abbrev DS:=@List.nodup_nil
abbrev DU:=@List.mem_iff_getElem?
abbrev DV:=@List.map_congr_left
abbrev DW:=@Nat.zero_add
abbrev DX:=@List.all_cons
abbrev DY:=@List.filterMap_cons
abbrev DZ:=@PySem.Heap.size_push
abbrev ee:=@Nat.lt_succ_self
abbrev ei:=@List.find?_cons
abbrev eu:=@List.length_eq_zero_iff
abbrev eA:=@List.pairwise_append
abbrev eB:=@List.set_set
abbrev eC:=@Nat.le_add_right
abbrev eE:=@List.nodup_append
abbrev eF:=@List.mem_of_mem_take
abbrev eG:=@List.sum_cons
abbrev eI:=@List.cons_ne_nil
abbrev eJ:=@Array.toList_inj
abbrev eK:=@List.take_append_drop
abbrev eL:=@Nat.le_of_lt
abbrev eM:=@List.mem_append_left
abbrev eO:=@Bool.false_and
abbrev eP:=@List.of_mem_zip
abbrev eQ:=@List.any_cons
abbrev eS:=@List.flatten_cons
abbrev eT:=@PySem.Heap.get?_update_other
abbrev eU:=@Nat.lt_of_le_of_lt
abbrev eV:=@PySem.Heap.get?_update_self
abbrev eW:=@Nat.lt_succ_of_lt
abbrev eX:=@Int.natCast_nonneg
abbrev eZ:=@Nat.min_eq_right
abbrev Ec:=@Bool.true_and
abbrev Ed:=@List.foldl_append
abbrev Ee:=@List.pairwise_singleton
abbrev Ef:=@List.dropLast_concat_getLast
abbrev Eg:=@List.filter_append
abbrev Eh:=@List.getElem_range
abbrev Ei:=@Nat.sub_self
abbrev Ej:=@Nat.succ_le_succ
abbrev Ek:=@Int.mul_zero
abbrev El:=@Nat.le_succ_of_le
abbrev Em:=@List.mem_flatten
abbrev Eo:=@Nat.lt_irrefl
abbrev Ep:=@Nat.ne_of_gt
abbrev Es:=@Nat.add_le_add_left
abbrev Et:=@Bool.eq_false_iff
abbrev Eu:=@Nat.lt_trans
abbrev Ew:=@List.cons_append
abbrev Ex:=@List.getElem?_cons_succ
abbrev Ey:=@List.getElem?_reverse
abbrev Ez:=@List.drop_eq_getElem_cons
abbrev EA:=@Option.map_some
abbrev EB:=@List.getElem_map
abbrev EC:=@Int.add_zero
abbrev ED:=@List.pairwise_map
abbrev EE:=@Int.mul_le_mul_of_nonneg_right
abbrev EF:=@Int.zero_mul
abbrev EG:=@List.any_eq_true
abbrev EH:=@List.take_zero
abbrev EI:=@Array.toList_push
abbrev EJ:=@List.all_append
abbrev EK:=@Bool.not_eq_true'
abbrev EL:=@Bool.false_or
abbrev EM:=@PySem.Heap.get?_none_of_le
abbrev EN:=@List.getElem?_take_of_lt
abbrev EO:=@List.take_sublist
abbrev ER:=@List.length_replicate
abbrev ES:=@List.length_nil
abbrev ET:=@List.sum_append
abbrev EU:=@Array.getElem?_eq_getElem
abbrev EV:=@Bool.or_eq_true
abbrev EW:=@List.takeWhile_append_dropWhile
abbrev EY:=@Array.getElem?_toList
abbrev EZ:=@List.mem_iff_getElem
abbrev E6:=@List.drop_drop
abbrev E8:=@List.drop_of_length_le
abbrev E9:=@Bool.and_false
abbrev fb:=@List.getElem?_range
abbrev fc:=@List.getElem?_drop
abbrev fe:=@Nat.not_lt_of_le
abbrev ff:=@List.map_replicate
abbrev fh:=@List.length_tail
abbrev fj:=@Int.mul_le_mul_of_nonneg_left
abbrev fk:=@List.flatten_append
abbrev fq:=@List.mergeSort_perm
abbrev fu:=@Nat.le_add_left
abbrev fz:=@Option.bind_eq_some_iff
abbrev fA:=@List.getElem?_set_self
abbrev fB:=@List.range_succ_eq_map
abbrev fC:=@List.perm_append_singleton
abbrev fD:=@List.length_eq_one_iff
abbrev fE:=@List.length_erase_of_mem
abbrev fF:=@List.length_pos_of_mem
abbrev fG:=@List.nodup_iff_pairwise_ne
abbrev fH:=@List.pairwise_mergeSort
abbrev fI:=@List.append_ne_nil_of_right_ne_nil
namespace L2
open PySem PySem.W PySem.Calls PyProof.Rows
noncomputable def Xu (tb:String→Option Builtin) (p:Program) (w:World) (n₀:Nat) (ann:Option Value):Nat→SharedT→Thread→Option SharedT
 | 0,_,_=>none
 | n+1,s,t=>match through t with
  | true=>some s
  | false=>match stepOk n₀ ann t with
   | false=>none
   | true=>match stepT (denote tb) p w s t with
    | some (s',t')=>Xu tb p w n₀ ann n s' t'
    | none=>none
theorem tF {tb:String→Option Builtin} {p:Program} {w:World} {n₀:Nat} {ann:Option Value} (n:Nat):∀ {s s':SharedT} {t:Thread},Xu tb p w n₀ ann n s t=some s'→topRun tb p w n₀ ann n s.abs t=some s'.abs:=by
 induction n with
 | zero=>intro s s' t h;cases h
 | succ n ih =>
  intro s s' t h
  unfold Xu at h
  unfold topRun
  cases ht:through t with
  | true=>rw[ht] at h;cases h;rfl
  | false =>
   rw[ht] at h
   cases hk:stepOk n₀ ann t with
   | false=>rw[hk] at h;cases h
   | true =>
    rw[hk] at h
    cases hs:stepT (denote tb) p w s t with
    | none=>rw[hs] at h;cases h
    | some r =>
     obtain⟨s₂,t₂⟩:=r
     rw[hs] at h
     rw[stepT_spec hs]
     exact ih h
noncomputable def pK:List Obj→BT→Nat→Option BT
 | [],t,_=>some t
 | o::l,t,n=>match ((t.ins n o).get n).isSome with
  | true=>pK l (t.ins n o) (n+1)
  | false=>none
theorem Nb {life:Life} (l:List Obj):∀ {t t':BT} {n:Nat},pK l t n=some t'→(absHeap t' (n+l.length) life).objs.toList=(absHeap t n life).objs.toList++l:=by
 induction l with
 | nil=>intro t t' n h;cases h;rw[d9];rfl
 | cons o l ih =>
  intro t t' n h
  unfold pK at h
  cases e:((t.ins n o).get n).isSome with
  | false=>rw[e] at h;cases h
  | true =>
   rw[e] at h
   have:=ih h
   rw[dW,show n+(l.length+1)=n+1+l.length by omega,this,absHeap_ins e]
   show ((absHeap t n life).objs.push o).toList++l=_
   rw[EI,d8]
   rfl
noncomputable def PZ {β:Type} (p:Program) (m:Nat) (ann:Option Value) (M:Nat) (see:Shared→β) (w:World) (os:OsState):Option β :=
 (pK (boot_heap w.params).objs.toList .nil 0).bind fun t=>(Xu treeTable p w m ann M ⟨t,m,(boot_heap w.params).life,Array.mk [],boot_drawn,boot_toks,os⟩ (topStub p)).map fun s=>see s.abs
theorem oh {p q:Program} {loose:List Str} {Xt:Shared→Bool} {α:Type} {Yf:Shared→α} {Ya:World→α} {N M m:Nat} {g0:Bool} {ann:Option Value}
  (e:opening p=plainProg p.main.scope.names) (hN:Nat.ble 600 N=true) (f:∀ s,fenceModules? p s=some s) (le:Nat.ble M N=true) (size:∀ w:World,((boot_heap w.params).isNs mainGlobals,(boot_heap w.params).objs.toList.length,(boot_heap w.params).nsMap mainGlobals "__annotations__")=(true,m,ann)) (h:∀ (w:World) (os:OsState),PZ p m ann M (fun s=>((staticsOk (importedModules p.main.body) (boot_heap w.params) s.heap&&namesBound p s.heap&&gensDone s&&laidKept (boot_heap w.params) s.heap),openSeen q loose (importedModules p.main.body) Xt g0 s,Yf s)) w os=some (true,openGood q loose,Ya w)) :
  LeftO p q loose Xt Yf Ya N g0:=fun w=>by
 obtain⟨⟨hp,gs,d,k,os⟩,e1,e2⟩:=dC.mp (boot_open e hN f w)
 obtain⟨rfl,rfl,rfl,rfl⟩:hp=boot_heap w.params∧gs=Array.mk []∧d=boot_drawn∧k=boot_toks:=by
  have a:=congrArg Prod.fst e2
  have b:=congrArg (fun x=>x.2.1) e2
  have c:=congrArg (fun x=>x.2.2.1) e2
  have d:=congrArg (fun x=>x.2.2.2) e2
  exact⟨a,b,c,d⟩
 have sz:=size w
 have z1:(boot_heap w.params).isNs mainGlobals=true:=congrArg Prod.fst sz
 have z2:(boot_heap w.params).objs.toList.length=m:=congrArg (fun x=>x.2.1) sz
 have z3:(boot_heap w.params).nsMap mainGlobals "__annotations__" = ann:=congrArg (fun x=>x.2.2) sz
 have h:=h w os
 unfold PZ at h
 obtain⟨t,ht,h⟩:=fz.mp h
 obtain⟨s,hs,h⟩:=dC.mp h
 have ab:SharedT.abs ⟨t,m,(boot_heap w.params).life,Array.mk [],boot_drawn,boot_toks,os⟩=⟨boot_heap w.params,Array.mk [],boot_drawn,boot_toks,os⟩:=by
  have g:=Nb (life:=(boot_heap w.params).life) _ ht
  rw[DW,z2] at g
  have g':(absHeap t m (boot_heap w.params).life).objs.toList=(boot_heap w.params).objs.toList:=g
  have g2:absHeap t m (boot_heap w.params).life=boot_heap w.params:=by
   show Heap.mk (absHeap t m (boot_heap w.params).life).objs (boot_heap w.params).life=Heap.mk (boot_heap w.params).objs (boot_heap w.params).life
   exact congrArg (Heap.mk · _) (eJ.mp g')
  show Shared.mk (absHeap t m (boot_heap w.params).life) _ _ _ _=_
  rw[g2]
 have r:=tF M hs
 rw[ab] at r
 have r:=topRun_mono (N - M) _ _ _ _ r
 rw[show M+(N - M)=N by have:=dX le;omega] at r
 have l1:=congrArg Prod.fst h
 have l2:=congrArg Prod.snd h
 dsimp only at l1 l2
 have t:topFrom treeTable p w N ⟨boot_heap w.params,Array.mk [],boot_drawn,boot_toks,os⟩=some s.abs:=by
  unfold topFrom
  have c:((boot_heap w.params).isNs mainGlobals&&(Array.mk ([]:List GenState)).size==0)=true:=by rw[z1];rfl
  show (match (boot_heap w.params).isNs mainGlobals&&(Array.mk ([]:List GenState)).size==0 with | true=>_ | false=>none)=_
  rw[c]
  show (topRun treeTable p w (boot_heap w.params).objs.size ((boot_heap w.params).nsMap mainGlobals "__annotations__") N _ _).bind _=_
  rw[show (boot_heap w.params).objs.size=m from z2,z3,r]
  show (match _ with | true=>_ | false=>none)=_
  rw[l1]
 unfold openEnds
 rw[e1]
 show (topFrom treeTable p w N _).map _=_
 rw[t]
 exact congrArg some l2
end L2
namespace L2
open PySem PySem.Spec PyProof.Rows
noncomputable def zy (s:Stmt) (j:Nat):Stmt:=match s with
 | .ClassDef _ _ _ body _ _ _ _ _ _ _=>body.getD j (.Pass ⟨0,0,0,0⟩)
 | _=>.Pass ⟨0,0,0,0⟩
noncomputable def j8 (s:Stmt):Arguments:=match s with
 | .FunctionDef _ a _ _ _ _ _ _ _ _=>a
 | _=>{ posonlyargs:=[],args:=[],vararg:=none,kwonlyargs:=[],kw_defaults:=[],kwarg:=none,defaults:=[] }
noncomputable def jw (s:Stmt):List Stmt:=match s with
 | .FunctionDef _ _ b _ _ _ _ _ _ _=>b
 | _=>[]
noncomputable def qS (s:Stmt):Scope:=match s with
 | .FunctionDef _ _ _ _ _ _ sc _ _ _=>sc
 | _=>{ kind:=.function,names:=[],isGenerator:=false,isCoroutine:=false }
end L2
namespace L2
open PySem PySem.W PySem.Calls PyProof.Rows
noncomputable def jA (as:List Addr) (h:Heap):Frag:=as.filterMap fun a=>(h.get? a).map fun o=>(a,o)
structure X1 where
 name:Str
 qual:Str
 params:Arguments
 body:FuncBody
 scope:Scope
 globals:Addr
 closure:List (Str × Addr)
 defaults:Value
 builtins:Addr
 ok:Bool
noncomputable def jK (K:Frag) (v:Option (Option Value)):Option X1:=match v with
 | some (some (.ref f))=>match K.lookup f with
  | some ⟨_,_,.func fd,_⟩=>some ⟨fd.name,fd.qualname,fd.params,fd.body,fd.scope,fd.globals,fd.closure,fd.defaults,fd.builtins,codeIn K fd.code fd.qualname&&keepIn K (.ref f)&&isFn K (.ref f)⟩
  | _=>none
 | _=>none
noncomputable def jL (x qual:Str) (st:Stmt):Option X1:=some ⟨x,qual,j8 st,.stmts (jw st),qS st,mainGlobals,[],.none,builtinsNs,true⟩
abbrev Vj:List Value:=[.type "ValueError",.type "Exception",.type "BaseException",.type "object"]
noncomputable def qO (v:Option (Option Value)):Bool:=match v with
 | some none=>true
 | _=>false
noncomputable def isInt (z:Int) (v:Option (Option Value)):Bool:=match v with
 | some (some (.int y _))=>decide (y=z)
 | _=>false
noncomputable def JI (z:Str) (v:Option (Option Value)):Bool:=match v with
 | some (some (.str y _))=>decide (y=z)
 | _=>false
noncomputable def ju (z:Addr) (v:Option (Option Value)):Bool:=match v with
 | some (some (.ref y))=>Nat.beq y z
 | _=>false
noncomputable def je (z:String) (v:Option (Option Value)):Bool:=match v with
 | some (some (.builtin y))=>decide (y=z)
 | _=>false
noncomputable def ub (b:Bool) (v:Option Bool):Bool:=match v with
 | some c=>c==b
 | none=>false
noncomputable def Qf (K:Frag) (D:Addr):Bool:=(clsIn K D).isSome&&je "BaseException.__getattribute__" (findIn K (.ref D) "__getattribute__")&&qO (findIn K (.ref D) "__getattr__")&&je "object.__class__" (findIn K (.ref D) "__class__")&&je "getset_descriptor.__get__" (specialIn K (.builtin "object.__class__") "__get__")&&ub true (takesIn K (.builtin "object.__class__"))&&ub true (mroIn K D (.type "object"))&&ub true (mroIn K D (.type "BaseException"))
noncomputable def Z9:List Value→List Str→Bool
 | [],[]=>true
 | v::r,z::q=>JI z (some (some v))&&Z9 r q
 | _,_=>false
noncomputable def Ql (K:Frag) (x:Str) (zs:List Str):Bool:=match nsIn K mainGlobals x with
 | some (some (.ref a))=>match K.lookup a with
  | some ⟨.type n,_,.seq its _,_⟩=>decide (n = "tuple")&&Nat.ble its.size 1000&&Z9 its.toList zs
  | _=>false
 | _=>false
noncomputable def vG (K:BFr) (C:Addr) (m:Str):Bool :=
 (match PySem.W.specialIn K (.ref C) "__getattribute__" with | some (some (.builtin b))=>b == "type.__getattribute__" | _=>false)&&PySem.W.readsIn K C (.type "type") &&
 (match PySem.W.findIn K (.ref C) m,PySem.W.findCls K (.ref C) (.type "type") m with | some (some (.ref f)),some (.val (.ref g))=>Nat.beq f g | _,_=>false)
end L2
namespace L2
open PySem PySem.W
noncomputable def Xj (s:SharedT) (a:Addr):Option Obj:=match Nat.blt a s.n with
 | true=>alive ((s.tree.get a).getD default)
 | false=>none
theorem On (s:SharedT) (a:Addr):Xj s a=s.abs.heap.get? a:=by
 unfold Xj
 show _=(absHeap s.tree s.n s.life).get? a
 cases h:Nat.blt a s.n with
 | true =>
  have h:a<s.n:=Nat.blt_eq.mp h
  unfold Heap.get?
  rw[absHeap_at,if_pos h]
  generalize (s.tree.get a).getD default=o
  obtain⟨c,d,dt,sl⟩:=o
  cases dt <;> rfl
 | false =>
  have h:¬ a<s.n:=fun c=>by rw[Nat.blt_eq.mpr c] at h;cases h
  exact (abs_get_none h).symm
noncomputable def jR (as:List Addr) (s:SharedT):Frag:=as.filterMap fun a=>(Xj s a).map fun o=>(a,o)
theorem uQ (as:List Addr) (s:SharedT):jA as s.abs.heap=jR as s:=by
 unfold jA jR
 congr 1
 funext a
 rw[On]
end L2
set_option maxHeartbeats 4000000
namespace K15
open PySem
noncomputable def top (i:Nat):Stmt:=PySem.Challenge.pw_coinroll_k15_whole_years_by_a_text.main.body.getD i (.Pass ⟨0,0,0,0⟩)
end K15
set_option maxHeartbeats 0
namespace K15
open PySem PySem.W PySem.Calls PyProof.Rows L2
noncomputable def hQ:Program:=PySem.W.view PySem.Challenge.pw_coinroll_k15_whole_years_by_a_text [1,2,3,4,5,6,7,8,9,11,12,13,14,15,16,17,18,19,20,21,22,23,24,26,27,28,29,30,31,33,34,35,37,38,39,40,41,42,44,45,46,47,49,50,51,52,53,54,55,56,57,58,59,60,62,63,64,65,67,68,70,71,72,73,74,75,76,77,79,80,81,82,84,85,86,87,89,90,91,92,93,94,95,96,97,98,99,100,101,102,103,104,105,106,107,108,109,110,111,112]
noncomputable def OG:List Addr:=[2,3,15,22,23,24,25,28,35,36,37,40,47,48,49,52,59,60,61,64,71,72,73,76,83,84,85,88,95,96,97,100,107,108,109,112,119,120,121,124,125,127,128,130,131,132,134,135,137,138,139,141,142,144,145,146,148,149,151,152,153,155,156,158,159,160,162,163,165,166,167,169,170,172,173,174,176,177,179,180,181,183,184,186,187,188,190,191,193,194,195,198,199,200,202,203,205,206,207,210,211,212,215,216,217,219,220,222,223,224,226,227,229,230,231,233,234,236,237,238,240,241,243,244,245,247,248,250,251,252,255,256,257,260,261,262,264,265,267,268,269,271,272,274,275,276,277,279,280,282,283,284,286,287,289,290,291,293,294,296,297,298,300,301,303,304,305,308,309,317,319,320,322,323,324,326,327,329,330,331,333,334,336,337,338,340,341,343,344,345,347,348,350,351,352,354,355,357,358,359,360,361,362,363,366,373,375,376,378,379,380,382,383,385,386,387,389,390,392,393,394,396,397,399,400,401,402,403,406,413,415,416,418,419,420,422,423,425,426,427,429,430,432,433,434,436,437,439,440,441,442,443,446,453,455,456,458,459,460,462,463,465,466,467,469,470,472,473,474,476,477,479,480,481,482,483,486,493,495,496,498,499,500,502,503,505,506,507,509,510,512,513,514,516,517,519,520,521,522,523,526,528,529,531,532,533,536,537,538,545,548,549,550,552,553,555,556,557,560,561,562,564,565,567,568,569,570,571,574,581,583,584,586,587,588,590,591,593,594,595,597,598,600,601,602,604,605,607,608,609,611,612,614,615,616,617,618,621,623,624,626,627,628,630,631,633,634,635,638,639,640,642,643,645,646,647,649,650,652,653,654,656,657,659,660,661,663,664,666,667,668,670,671,673,674,675,678,679,687,689,690,692,693,694,697,698,699,702,703,704,707,708,709,711,712,714,715,716,717,718,719,720,723,725,726,728,729,730,732,733,735,736,737,740,741,742,744,745,747,748,749,751,752,754,755,756,758,759,761,762,763,765,766,768,769,770,772,773,775,776,777,780,781,782,784,785,787,788,789,791,792,794,795,796,798,799,801,802,803,805,806,808,809,810,812,813,815,816,817,819,820,822,823,824,826,827,829,830,831,834,835,836,838,839,841,842,843,846,847,848,851,852,853,856,857,858,861,862,863,865,866,868,869,870,873,874,875,878,879,880,882,883,885,886,887,890,891]
noncomputable def hFs:List (Str × Nat):=[(("is_number":Str),15),(("is_number_within":Str),16),(("is_parts":Str),17),(("is_way":Str),18),(("need_amount":Str),19),(("need_way":Str),20),(("half_goes_up":Str),21),(("goes_up":Str),22),(("rounded":Str),23),(("share_of":Str),24),(("is_word_of":Str),29),(("is_name":Str),30),(("rise":Str),31),(("are_figures":Str),33),(("is_number_text":Str),34),(("read_number":Str),35),(("need_month":Str),40),(("need_year":Str),41),(("year_of":Str),42),(("dues_of":Str),44),(("month_row":Str),45),(("statement_by":Str),46),(("statement":Str),47),(("is_rule_name":Str),51),(("is_rule_amount":Str),52),(("need_rule_amount":Str),53),(("need_share":Str),54),(("months_with_base":Str),55),(("is_band":Str),63),(("are_bands":Str),64),(("number_of":Str),71),(("band_of":Str),72),(("bands_of":Str),73),(("plain_rule":Str),74),(("is_ontop":Str),75),(("rule_of_words":Str),76),(("rule_of":Str),77),(("need_few":Str),80),(("need_unlike_names":Str),81),(("is_head":Str),85),(("parts_of":Str),86),(("book_of":Str),87),(("_law_cell_at":Str),89),(("_law_mixed":Str),90),(("_law_whole":Str),91),(("_law_amount":Str),92),(("_law_bases":Str),93),(("_law_names":Str),94),(("_law_parts":Str),95),(("_law_way":Str),96),(("_law_pairs":Str),97),(("_law_plain":Str),98),(("_law_rule":Str),99),(("_law_rounded":Str),100),(("_law_pieces":Str),101),(("_law_until":Str),102),(("_law_of_month":Str),103),(("_law_row":Str),104),(("_law_rules":Str),105),(("_law_dues":Str),106),(("_law_net":Str),107),(("_law_dues_right":Str),108),(("_law_text":Str),109),(("_law_months_right":Str),110),(("_law_is_early":Str),111),(("law":Str),112)]
noncomputable def hMs:List (Addr × Str × Str × Nat × Nat):=[(361,("__init__":Str),("Rule.__init__":Str),56,0),(403,("__init__":Str),("Flat.__init__":Str),57,0),(403,("until":Str),("Flat.until":Str),57,1),(403,("twin":Str),("Flat.twin":Str),57,3),(403,("depth":Str),("Rule.depth":Str),56,4),(403,("of_month":Str),("Rule.of_month":Str),56,5),(403,("row":Str),("Flat.row":Str),57,2),(443,("__init__":Str),("Share.__init__":Str),58,0),(443,("until":Str),("Share.until":Str),58,1),(443,("twin":Str),("Share.twin":Str),58,3),(443,("depth":Str),("Rule.depth":Str),56,4),(443,("of_month":Str),("Rule.of_month":Str),56,5),(443,("row":Str),("Share.row":Str),58,2),(483,("__init__":Str),("Capped.__init__":Str),59,0),(483,("until":Str),("Capped.until":Str),59,1),(483,("twin":Str),("Capped.twin":Str),59,3),(483,("depth":Str),("Rule.depth":Str),56,4),(483,("of_month":Str),("Rule.of_month":Str),56,5),(483,("row":Str),("Capped.row":Str),59,2),(523,("__init__":Str),("Least.__init__":Str),60,0),(523,("until":Str),("Least.until":Str),60,1),(523,("twin":Str),("Least.twin":Str),60,3),(523,("depth":Str),("Rule.depth":Str),56,4),(523,("of_month":Str),("Rule.of_month":Str),56,5),(523,("row":Str),("Least.row":Str),60,2),(571,("__init__":Str),("Bands.__init__":Str),65,0),(571,("until":Str),("Bands.until":Str),65,1),(571,("twin":Str),("Bands.twin":Str),65,3),(571,("depth":Str),("Rule.depth":Str),56,4),(571,("of_month":Str),("Rule.of_month":Str),56,5),(571,("row":Str),("Bands.row":Str),65,2),(618,("__init__":Str),("OnTop.__init__":Str),68,0),(618,("until":Str),("OnTop.until":Str),68,1),(618,("twin":Str),("OnTop.twin":Str),68,3),(618,("depth":Str),("OnTop.depth":Str),68,4),(618,("of_month":Str),("Rule.of_month":Str),56,5),(618,("row":Str),("OnTop.row":Str),68,2),(718,("__init__":Str),("RuleBook.__init__":Str),82,0),(718,("put":Str),("RuleBook.put":Str),82,1),(718,("rows":Str),("RuleBook.rows":Str),82,2),(718,("rules":Str),("RuleBook.rules":Str),82,3)]
noncomputable def nJ (K:Frag):List Bool:=[ju 37 (nsIn K mainGlobals "BadAmount"),ju 49 (nsIn K mainGlobals "BadShare"),ju 61 (nsIn K mainGlobals "BadText"),ju 73 (nsIn K mainGlobals "BadMonth"),ju 85 (nsIn K mainGlobals "BadYear"),ju 97 (nsIn K mainGlobals "BadRule"),ju 109 (nsIn K mainGlobals "BadBook"),ju 121 (nsIn K mainGlobals "NoYear"),ju 24 (nsIn K mainGlobals "RollError"),isInt 8 (nsIn K mainGlobals "MOST_SIGNS"),isInt 20000 (nsIn K mainGlobals "MOST_PARTS"),isInt 10000 (nsIn K mainGlobals "WHOLE"),isInt 5000 (nsIn K mainGlobals "HALF"),isInt 1000000000000 (nsIn K mainGlobals "MOST_AMOUNT"),isInt 12 (nsIn K mainGlobals "MOST_BANDS"),isInt 3 (nsIn K mainGlobals "MOST_DEPTH"),isInt 13 (nsIn K mainGlobals "MOST_FIGURES"),isInt 12 (nsIn K mainGlobals "YEAR_MONTHS"),isInt 9999 (nsIn K mainGlobals "LAST_YEAR"),isInt 119999 (nsIn K mainGlobals "LAST_MONTH"),isInt 8 (nsIn K mainGlobals "MOST_RULES"),JI "abcdefghijklmnopqrstuvwxyz" (nsIn K mainGlobals "LETTERS"),JI "0123456789" (nsIn K mainGlobals "FIGURES"),Ql K "WAYS" ["down","up","near","even"],Ql K "NO_RULE_NAMES" ["base","net","month","sums"],JI "year " (nsIn K mainGlobals "HEAD"),qO (nsIn K mainGlobals "isinstance"),qO (nsIn K mainGlobals "int"),qO (nsIn K mainGlobals "bool"),qO (nsIn K mainGlobals "str"),qO (nsIn K mainGlobals "len"),qO (nsIn K mainGlobals "range"),qO (nsIn K mainGlobals "ValueError"),qO (nsIn K mainGlobals "list"),qO (nsIn K mainGlobals "tuple"),qO (nsIn K mainGlobals "dict"),qO (nsIn K mainGlobals "set"),qO (nsIn K mainGlobals "all"),qO (nsIn K mainGlobals "any"),qO (nsIn K mainGlobals "sum"),qO (nsIn K mainGlobals "sorted"),qO (nsIn K mainGlobals "abs"),qO (nsIn K mainGlobals "max"),qO (nsIn K mainGlobals "min"),qO (nsIn K mainGlobals "zip"),qO (nsIn K mainGlobals "enumerate"),qO (nsIn K mainGlobals "reversed"),excIn K 73 Vj "ValueError.__new__",ub true (exmOne K (.ref 73) (.ref 24)),Qf K 73,ub true (kitOne K (.ref 73) (.type "ValueError")),ub false (kitOne K (.ref 73) (.ref 37)),ub false (kitOne K (.ref 73) (.ref 49)),ub false (kitOne K (.ref 73) (.ref 61)),ub true (kitOne K (.ref 73) (.ref 73)),ub false (kitOne K (.ref 73) (.ref 85)),ub false (kitOne K (.ref 73) (.ref 97)),ub false (kitOne K (.ref 73) (.ref 109)),ub false (kitOne K (.ref 73) (.ref 121)),excIn K 121 Vj "ValueError.__new__",ub true (exmOne K (.ref 121) (.ref 24)),Qf K 121,ub true (kitOne K (.ref 121) (.type "ValueError")),ub false (kitOne K (.ref 121) (.ref 37)),ub false (kitOne K (.ref 121) (.ref 49)),ub false (kitOne K (.ref 121) (.ref 61)),ub false (kitOne K (.ref 121) (.ref 73)),ub false (kitOne K (.ref 121) (.ref 85)),ub false (kitOne K (.ref 121) (.ref 97)),ub false (kitOne K (.ref 121) (.ref 109)),ub true (kitOne K (.ref 121) (.ref 121)),ju 361 (nsIn K mainGlobals "Rule"),plainGet K 361 Str.empty,hasDictIn K 361,plainOver K 361,je "object.__setattr__" (findIn K (.ref 361) "__setattr__"),vG K 361 "__init__",ju 403 (nsIn K mainGlobals "Flat"),plainGet K 403 Str.empty,hasDictIn K 403,plainOver K 403,je "object.__setattr__" (findIn K (.ref 403) "__setattr__"),qO (findIn K (.ref 403) "name"),qO (findIn K (.ref 403) "amount"),qO (findIn K (.ref 403) "parts"),qO (findIn K (.ref 403) "way"),qO (findIn K (.ref 403) "most"),qO (findIn K (.ref 403) "least"),makesIn K 403&&keepIn K (.ref 403),ju 443 (nsIn K mainGlobals "Share"),plainGet K 443 Str.empty,hasDictIn K 443,plainOver K 443,je "object.__setattr__" (findIn K (.ref 443) "__setattr__"),qO (findIn K (.ref 443) "name"),qO (findIn K (.ref 443) "amount"),qO (findIn K (.ref 443) "parts"),qO (findIn K (.ref 443) "way"),qO (findIn K (.ref 443) "most"),qO (findIn K (.ref 443) "least"),makesIn K 443&&keepIn K (.ref 443),ju 483 (nsIn K mainGlobals "Capped"),plainGet K 483 Str.empty,hasDictIn K 483,plainOver K 483,je "object.__setattr__" (findIn K (.ref 483) "__setattr__"),qO (findIn K (.ref 483) "name"),qO (findIn K (.ref 483) "amount"),qO (findIn K (.ref 483) "parts"),qO (findIn K (.ref 483) "way"),qO (findIn K (.ref 483) "most"),qO (findIn K (.ref 483) "least"),makesIn K 483&&keepIn K (.ref 483),ju 523 (nsIn K mainGlobals "Least"),plainGet K 523 Str.empty,hasDictIn K 523,plainOver K 523,je "object.__setattr__" (findIn K (.ref 523) "__setattr__"),qO (findIn K (.ref 523) "name"),qO (findIn K (.ref 523) "amount"),qO (findIn K (.ref 523) "parts"),qO (findIn K (.ref 523) "way"),qO (findIn K (.ref 523) "most"),qO (findIn K (.ref 523) "least"),makesIn K 523&&keepIn K (.ref 523),ju 571 (nsIn K mainGlobals "Bands"),plainGet K 571 Str.empty,hasDictIn K 571,plainOver K 571,je "object.__setattr__" (findIn K (.ref 571) "__setattr__"),qO (findIn K (.ref 571) "name"),qO (findIn K (.ref 571) "bands"),qO (findIn K (.ref 571) "way"),qO (findIn K (.ref 571) "parts"),qO (findIn K (.ref 571) "within"),makesIn K 571&&keepIn K (.ref 571),ju 618 (nsIn K mainGlobals "OnTop"),plainGet K 618 Str.empty,hasDictIn K 618,plainOver K 618,je "object.__setattr__" (findIn K (.ref 618) "__setattr__"),qO (findIn K (.ref 618) "name"),qO (findIn K (.ref 618) "bands"),qO (findIn K (.ref 618) "way"),qO (findIn K (.ref 618) "parts"),qO (findIn K (.ref 618) "within"),makesIn K 618&&keepIn K (.ref 618),ju 718 (nsIn K mainGlobals "RuleBook"),plainGet K 718 Str.empty,hasDictIn K 718,plainOver K 718,je "object.__setattr__" (findIn K (.ref 718) "__setattr__"),qO (findIn K (.ref 718) "told"),makesIn K 718&&keepIn K (.ref 718),je "getset_descriptor.__get__" (specialIn K (.builtin "object.__class__") "__get__"),ub true (takesIn K (.builtin "object.__class__")),(!(Nat.beq 443 618)),je "object.__class__" (findIn K (.ref 403) "__class__"),ub true (mroIn K 403 (.type "object")),ub true (kitOne K (.ref 403) (.ref 361)),je "object.__class__" (findIn K (.ref 443) "__class__"),ub true (mroIn K 443 (.type "object")),ub true (kitOne K (.ref 443) (.ref 361)),je "object.__class__" (findIn K (.ref 483) "__class__"),ub true (mroIn K 483 (.type "object")),ub true (kitOne K (.ref 483) (.ref 361)),je "object.__class__" (findIn K (.ref 523) "__class__"),ub true (mroIn K 523 (.type "object")),ub true (kitOne K (.ref 523) (.ref 361)),je "object.__class__" (findIn K (.ref 571) "__class__"),ub true (mroIn K 571 (.type "object")),ub true (kitOne K (.ref 571) (.ref 361)),je "object.__class__" (findIn K (.ref 618) "__class__"),ub true (mroIn K 618 (.type "object")),ub true (kitOne K (.ref 618) (.ref 361)),ub true (exmOne K (.ref 121) (.ref 121))]
noncomputable def Ra (K:Frag):=(hFs.map (fun x=>jK K (nsIn K mainGlobals x.1)),hMs.map (fun x=>jK K (findIn K (.ref x.1) x.2.1)),(nJ K).all id)
noncomputable def Lw:=(hFs.map (fun x=>jL x.1 x.1 (top x.2)),hMs.map (fun x=>jL x.2.1 x.2.2.1 (zy (top x.2.2.2.1) x.2.2.2.2)),true)
noncomputable def Bz (s:Shared):Bool:=xlAt hQ [] s&&recOk [] s
noncomputable def bV (w:World) (s:Shared):=((staticsOk (importedModules PySem.Challenge.pw_coinroll_k15_whole_years_by_a_text.main.body) (boot_heap w.params) s.heap&&namesBound PySem.Challenge.pw_coinroll_k15_whole_years_by_a_text s.heap&&gensDone s&&laidKept (boot_heap w.params) s.heap),openSeen hQ [] (importedModules PySem.Challenge.pw_coinroll_k15_whole_years_by_a_text.main.body) Bz true s,Ra (jA OG s.heap))
noncomputable def cW (K:Frag):List Bool:=nJ K
noncomputable def hX (w:World) (os:OsState):Option SharedT:=(pK (boot_heap w.params).objs.toList .nil 0).bind fun t=>(Xu treeTable PySem.Challenge.pw_coinroll_k15_whole_years_by_a_text w 11 (some (.ref 6)) 6898 ⟨t,11,(boot_heap w.params).life,Array.mk [],boot_drawn,boot_toks,os⟩ (topStub PySem.Challenge.pw_coinroll_k15_whole_years_by_a_text))
noncomputable def pT (w:World) (os:OsState):=(hX w os).map fun s=>(staticsOk (importedModules PySem.Challenge.pw_coinroll_k15_whole_years_by_a_text.main.body) (boot_heap w.params) s.abs.heap)&&((namesBound PySem.Challenge.pw_coinroll_k15_whole_years_by_a_text s.abs.heap&&gensDone s.abs&&laidKept (boot_heap w.params) s.abs.heap))
noncomputable def mn (_:World) (_:OsState):=some (true)
theorem XR:pT=pT:=rfl
theorem tW:mn=mn:=rfl
noncomputable def pN (w:World) (os:OsState):=(hX w os).map fun s=>seen ((recsOf hQ).map (·.name)) (ownsOf hQ) [] { s.abs with gens:=#[] }
noncomputable def Lx (_:World) (_:OsState):=some (expectedOf hQ)
theorem Xw:pN=pN:=rfl
theorem xX:Lx=Lx:=rfl
noncomputable def PF (w:World) (os:OsState):=(hX w os).map fun s=>s.abs.heap.bltView
noncomputable def Lf (_:World) (_:OsState):=some (bltViewBooted)
theorem XX:PF=PF:=rfl
theorem RR:Lf=Lf:=rfl
noncomputable def mh (w:World) (os:OsState):=(hX w os).map fun s=>(s.abs.heap.keysOk (looseW hQ []) ((recsOf hQ).map (·.name)) ((litsOf hQ).map (·.1)) ((clssOf hQ (looseW hQ [])).map (·.name)))&&((s.abs.heap.accountedOkI (importedModules PySem.Challenge.pw_coinroll_k15_whole_years_by_a_text.main.body))&&((s.abs.heap.isNs mainGlobals&&s.abs.heap.isNs builtinsNs&&tablesOk hQ s.abs.heap&&Bz s.abs&&(if true=true then s.abs.gens.size==0 else !leftWithCleanup s.abs.gens))))
noncomputable def mR (_:World) (_:OsState):=some (true)
theorem XF:mh=mh:=rfl
theorem tS:mR=mR:=rfl
noncomputable def Po (w:World) (os:OsState):=(hX w os).map fun s=>(tabsOk hQ s.abs,pinSeenD hQ (drecsOf hQ) s.abs,plainSeenD hQ [] s.abs,clsSeenW hQ [] s.abs)
noncomputable def Li (_:World) (_:OsState):=some ((true,pinGoodD (drecsOf hQ),plainGoodD hQ [],clsGoodW hQ []))
theorem XQ:Po=Po:=rfl
theorem Xy:Li=Li:=rfl
noncomputable def P9 (w:World) (os:OsState):=(hX w os).map fun s=>((plainsOf hQ (looseW hQ [])).take 10).map fun c=>s.abs.heap.plainShapeAt c.withCmp
noncomputable def LU (_:World) (_:OsState):=some (((plainsOf hQ (looseW hQ [])).take 10).map fun c=>some c.withCmp.plainShape)
theorem Xg:P9=P9:=rfl
theorem Xk:LU=LU:=rfl
noncomputable def lC (w:World) (os:OsState):=(hX w os).map fun s=>((plainsOf hQ (looseW hQ [])).drop 10).map fun c=>s.abs.heap.plainShapeAt c.withCmp
noncomputable def Ld (_:World) (_:OsState):=some (((plainsOf hQ (looseW hQ [])).drop 10).map fun c=>some c.withCmp.plainShape)
theorem X8:lC=lC:=rfl
theorem XH:Ld=Ld:=rfl
noncomputable def XN (w:World) (os:OsState):=(hX w os).map fun s=>(wdefsOf hQ).map fun d=>shapeAtK s.abs.heap d.1.name
noncomputable def Xl (_:World) (_:OsState):=some ((wdefsOf hQ).map fun d=>some d.1.shape)
theorem xj:XN=XN:=rfl
theorem WN:Xl=Xl:=rfl
noncomputable def xv (w:World) (os:OsState):=(hX w os).map fun s=>((wdefsOf hQ).all fun d=>s.abs.heap.restOk (hQ.nameAt false d.1.name) d.1.name&&dfltAt s.abs.heap d)&&(wlitsOf hQ).all (constAt s.abs.heap)
noncomputable def xT (_:World) (_:OsState):=some (true)
theorem WV:xv=xv:=rfl
theorem rm:xT=xT:=rfl
noncomputable def gB (w:World) (os:OsState):=(hX w os).map fun s=>((hFs.drop 0).take 80).map (fun x=>jK (jR OG s) (nsIn (jR OG s) mainGlobals x.1))
noncomputable def xS (_:World) (_:OsState):=some (((hFs.drop 0).take 80).map (fun x=>jL x.1 x.1 (top x.2)))
theorem UF:gB=gB:=rfl
theorem Wn:xS=xS:=rfl
noncomputable def xq (w:World) (os:OsState):=(hX w os).map fun s=>hMs.map (fun x=>jK (jR OG s) (findIn (jR OG s) (.ref x.1) x.2.1))
noncomputable def xp (_:World) (_:OsState):=some (hMs.map (fun x=>jL x.2.1 x.2.2.1 (zy (top x.2.2.2.1) x.2.2.2.2)))
theorem UK:xq=xq:=rfl
theorem Ww:xp=xp:=rfl
noncomputable def xO (w:World) (os:OsState):=(hX w os).map fun s=>(cW (jR OG s)).all id
noncomputable def Xo (_:World) (_:OsState):=some (true)
theorem UJ:xO=xO:=rfl
theorem rO:Xo=Xo:=rfl
end K15
noncomputable def PySem.W.Fast.tw10427718215663679261:PySem.Program:=by
 refine' (?g:(s:PySem.Program)→PySem.Challenge.pw_coinroll_k15_whole_years_by_a_text=s→PySem.Program) _ ?pf
 case g=>exact fun s _=>s
 case pf =>
  unfold PySem.Challenge.pw_coinroll_k15_whole_years_by_a_text
  simp only[PySem.Str.ofString_eq_byList,PySem.Str.ofStringByList,String.reduceToList,dN,↓Char.isValue,Char.reduceToNat,DG]
  rfl
theorem PySem.W.Fast.te10427718215663679261:PySem.Challenge.pw_coinroll_k15_whole_years_by_a_text=PySem.W.Fast.tw10427718215663679261:=by kernel_rfl
lay_quick L2.Xu K15.top
name_quick hRunQ0 for K15.pT by K15.XR
name_quick hRunQ2 for K15.pN by K15.Xw
name_quick hEndQ2 for K15.Lx by K15.xX
name_quick hRunQ3 for K15.PF by K15.XX
name_quick hRunQ4 for K15.mh by K15.XF
name_quick hRunQ7 for K15.Po by K15.XQ
name_quick hEndQ7 for K15.Li by K15.Xy
name_quick hRunQ8 for K15.P9 by K15.Xg
name_quick hEndQ8 for K15.LU by K15.Xk
name_quick hRunQ9 for K15.lC by K15.X8
name_quick hEndQ9 for K15.Ld by K15.XH
name_quick hRunQ10 for K15.XN by K15.xj
name_quick hEndQ10 for K15.Xl by K15.WN
name_quick hRunQ11 for K15.xv by K15.WV
name_quick hRunQ12 for K15.gB by K15.UF
name_quick hEndQ12 for K15.xS by K15.Wn
name_quick hRunQ13 for K15.xq by K15.UK
name_quick hEndQ13 for K15.xp by K15.Ww
name_quick hRunQ14 for K15.xO by K15.UJ
namespace K15
open PySem PySem.W PySem.Calls PyProof.Rows L2
theorem Tr:Fast.hRunQ0=mn:=by kernel_rfl
theorem RQ:Fast.hRunQ2=Fast.hEndQ2:=by kernel_rfl
theorem Ti:Fast.hRunQ3=Lf:=by kernel_rfl
theorem r6:Fast.hRunQ4=mR:=by kernel_rfl
theorem Th:Fast.hRunQ7=Fast.hEndQ7:=by kernel_rfl
theorem tZ:Fast.hRunQ8=Fast.hEndQ8:=by kernel_rfl
theorem Ta:Fast.hRunQ9=Fast.hEndQ9:=by kernel_rfl
theorem nB:Fast.hRunQ10=Fast.hEndQ10:=by kernel_rfl
theorem Mm:Fast.hRunQ11=xT:=by kernel_rfl
theorem nZ:Fast.hRunQ12=Fast.hEndQ12:=by kernel_rfl
theorem MN:Fast.hRunQ13=Fast.hEndQ13:=by kernel_rfl
theorem mZ:Fast.hRunQ14=Xo:=by kernel_rfl
theorem bM:LeftO PySem.Challenge.pw_coinroll_k15_whole_years_by_a_text hQ [] Bz (fun s=>Ra (jA OG s.heap)) (fun _=>Lw) 6898:=by
 refine oh (M:=6898) (m:=11) (ann:=some (.ref 6)) (by kernel_rfl) (by kernel_rfl) (fun s=>by kernel_rfl) (by kernel_rfl) (fun w=>by kernel_rfl) fun w os=>?_
 obtain⟨s,es,e0⟩:=dC.mp (show (hX w os).map _=some _ from congrFun (congrFun (Fast.hRunQ0_eq.trans Tr) w) os)
 obtain⟨s2,es2,e2⟩:=dC.mp (show (hX w os).map _=some _ from congrFun (congrFun (Fast.hRunQ2_eq.trans (RQ.trans Fast.hEndQ2_eq.symm)) w) os)
 obtain rfl:s=s2:=Option.some.inj (es.symm.trans es2)
 obtain⟨s3,es3,e3⟩:=dC.mp (show (hX w os).map _=some _ from congrFun (congrFun (Fast.hRunQ3_eq.trans Ti) w) os)
 obtain rfl:s=s3:=Option.some.inj (es.symm.trans es3)
 obtain⟨s4,es4,e4⟩:=dC.mp (show (hX w os).map _=some _ from congrFun (congrFun (Fast.hRunQ4_eq.trans r6) w) os)
 obtain rfl:s=s4:=Option.some.inj (es.symm.trans es4)
 obtain⟨s7,es7,e7⟩:=dC.mp (show (hX w os).map _=some _ from congrFun (congrFun (Fast.hRunQ7_eq.trans (Th.trans Fast.hEndQ7_eq.symm)) w) os)
 obtain rfl:s=s7:=Option.some.inj (es.symm.trans es7)
 obtain⟨s8,es8,e8⟩:=dC.mp (show (hX w os).map _=some _ from congrFun (congrFun (Fast.hRunQ8_eq.trans (tZ.trans Fast.hEndQ8_eq.symm)) w) os)
 obtain rfl:s=s8:=Option.some.inj (es.symm.trans es8)
 obtain⟨s9,es9,e9⟩:=dC.mp (show (hX w os).map _=some _ from congrFun (congrFun (Fast.hRunQ9_eq.trans (Ta.trans Fast.hEndQ9_eq.symm)) w) os)
 obtain rfl:s=s9:=Option.some.inj (es.symm.trans es9)
 obtain⟨s10,es10,e10⟩:=dC.mp (show (hX w os).map _=some _ from congrFun (congrFun (Fast.hRunQ10_eq.trans (nB.trans Fast.hEndQ10_eq.symm)) w) os)
 obtain rfl:s=s10:=Option.some.inj (es.symm.trans es10)
 obtain⟨s11,es11,e11⟩:=dC.mp (show (hX w os).map _=some _ from congrFun (congrFun (Fast.hRunQ11_eq.trans Mm) w) os)
 obtain rfl:s=s11:=Option.some.inj (es.symm.trans es11)
 obtain⟨s12,es12,e12⟩:=dC.mp (show (hX w os).map _=some _ from congrFun (congrFun (Fast.hRunQ12_eq.trans (nZ.trans Fast.hEndQ12_eq.symm)) w) os)
 obtain rfl:s=s12:=Option.some.inj (es.symm.trans es12)
 obtain⟨s13,es13,e13⟩:=dC.mp (show (hX w os).map _=some _ from congrFun (congrFun (Fast.hRunQ13_eq.trans (MN.trans Fast.hEndQ13_eq.symm)) w) os)
 obtain rfl:s=s13:=Option.some.inj (es.symm.trans es13)
 obtain⟨s14,es14,e14⟩:=dC.mp (show (hX w os).map _=some _ from congrFun (congrFun (Fast.hRunQ14_eq.trans mZ) w) os)
 obtain rfl:s=s14:=Option.some.inj (es.symm.trans es14)
 obtain⟨e0,e1⟩:=Dw.mp e0
 obtain⟨e4,e5⟩:=Dw.mp e4
 obtain⟨e5,e6⟩:=Dw.mp e5
 have ey:(nJ (jA OG s.abs.heap)).all id=true:=by
  rw[uQ]
  show (cW (jR OG s)).all id=true
  try simp only[EJ,dY]
  exact e14
 have el:bV w s.abs=(true,openGood hQ [],Lw):=by
  have a1:(staticsOk (importedModules PySem.Challenge.pw_coinroll_k15_whole_years_by_a_text.main.body) (boot_heap w.params) s.abs.heap&&namesBound PySem.Challenge.pw_coinroll_k15_whole_years_by_a_text s.abs.heap&&gensDone s.abs&&laidKept (boot_heap w.params) s.abs.heap)=true:=by
   have e1:=e1
   simp only[dY] at e1 ⊢
   exact⟨⟨⟨e0,e1.1.1⟩,e1.1.2⟩,e1.2⟩
  have ab:(s.abs.heap.keysOk (looseW hQ []) ((recsOf hQ).map (·.name)) ((litsOf hQ).map (·.1)) ((clssOf hQ (looseW hQ [])).map (·.name))&&s.abs.heap.accountedOkI (importedModules PySem.Challenge.pw_coinroll_k15_whole_years_by_a_text.main.body)&&s.abs.heap.isNs mainGlobals&&s.abs.heap.isNs builtinsNs&&tablesOk hQ s.abs.heap&&Bz s.abs&&(if true=true then s.abs.gens.size==0 else !leftWithCleanup s.abs.gens))=true:=by
   have e6:=e6
   simp only[dY] at e6 ⊢
   obtain⟨⟨⟨⟨g1,g2⟩,g3⟩,g4⟩,g5⟩:=e6
   exact⟨⟨⟨⟨⟨⟨e4,e5⟩,g1⟩,g2⟩,g3⟩,g4⟩,g5⟩
  have e8:=congr (congrArg HAppend.hAppend e8) e9
  rw[← dz,← dz,eK] at e8
  have a2:openSeen hQ [] (importedModules PySem.Challenge.pw_coinroll_k15_whole_years_by_a_text.main.body) Bz true s.abs=openGood hQ []:=congr (congrArg Prod.mk e2) (congr (congrArg Prod.mk e3) (congr (congrArg Prod.mk ab) (congr (congrArg Prod.mk (congrArg Prod.fst e7)) (congr (congrArg Prod.mk (congrArg (fun z=>z.2.1) e7)) (congr (congrArg Prod.mk e8) (congr (congrArg Prod.mk (congrArg (fun z=>z.2.2.1) e7)) (congr (congrArg Prod.mk (congr (congrArg Prod.mk e10) e11)) (congrArg (fun z=>z.2.2.2) e7))))))))
  have e12:((hFs.drop 0).take 80).map (fun x=>jK (jA OG s.abs.heap) (nsIn (jA OG s.abs.heap) mainGlobals x.1))=((hFs.drop 0).take 80).map (fun x=>jL x.1 x.1 (top x.2)):=by rw[uQ];exact e12
  have e13:hMs.map (fun x=>jK (jA OG s.abs.heap) (findIn (jA OG s.abs.heap) (.ref x.1) x.2.1))=hMs.map (fun x=>jL x.2.1 x.2.2.1 (zy (top x.2.2.2.1) x.2.2.2.2)):=by rw[uQ];exact e13
  have ef:=e12
  try simp only[← dz] at ef
  rw[show (hFs.drop 0).take 80=hFs by kernel_rfl] at ef
  exact congr (congrArg Prod.mk a1) (congr (congrArg Prod.mk a2) (congr (congrArg Prod.mk ef) (congr (congrArg Prod.mk e13) ey)))
 unfold PZ
 obtain⟨t,ht,hs⟩:=fz.mp es
 rw[ht]
 show (Xu _ _ w _ _ _ _ _).map _=_
 rw[hs]
 exact congrArg some el
end K15
namespace L2
open PySem PySem.Spec PyProof.Rows
noncomputable def pP:Expr→Bool
 | .Starred _ _=>true
 | _=>false
theorem qg {e:Expr} {es:List Expr} {env:Env} (h:pP e=false):starEach (e::es) env=(false,eval e env)::starEach es env:=by
 cases e <;> first | rfl | cases h
theorem jn {env:Env} {pos:Pos}:∀ {es:List Expr},es.all (fun e=>!pP e)=true→(backTo pos (starEach es env)).any (·.1)=false
 | [],_=>rfl
 | e::es,h=>by
  rw[DX,dY,EK] at h
  rw[qg h.1]
  show (false || (backTo pos (starEach es env)).any (·.1))=false
  rw[EL]
  exact jn h.2
abbrev yp:=Sum Int Str
noncomputable def JD:yp→Value→Bool
 | .inl k,v=>Value.isInt k v
 | .inr x,v=>Value.isStrOf x v
noncomputable def BQ (w:World):yp→Int
 | .inl k=>hashInt k
 | .inr x=>hashStr w x
theorem qV:∀ {k:yp} {v:Value},JD k v=true→(∃ i t,k=Sum.inl i∧v=Value.int i t)∨(∃ x t,k=Sum.inr x∧v=Value.str x t)
 | .inl i,v,h=>by
  obtain⟨t,e⟩:=Value.isInt_shape (k:=i) (v:=v) h
  exact .inl ⟨i,t,rfl,e⟩
 | .inr x,v,h=>by
  obtain⟨t,e⟩:=Value.isStrOf_shape (x:=x) (v:=v) h
  exact .inr ⟨x,t,rfl,e⟩
theorem ON (i:Int) (t:Tok):JD (.inl i) (.int i t)=true:=by simp[JD,Value.isInt]
theorem oW (x:Str) (t:Tok):JD (.inr x) (.str x t)=true:=by simp[JD,Value.isStrOf]
theorem ti (a b:Int):decide ((Sum.inl a:yp)=Sum.inl b)=(a==b):=by
 by_cases e:a=b
 ·subst e;simp
 ·have h:¬ (Sum.inl a:yp)=Sum.inl b:=fun q=>e (Sum.inl.inj q)
  rw[decide_eq_false h]
  exact (beq_eq_false_iff_ne.mpr e).symm
theorem R6 (a b:Str):decide ((Sum.inr a:yp)=Sum.inr b)=decide (a=b):=by
 by_cases e:a=b
 ·subst e;simp
 ·have h:¬ (Sum.inr a:yp)=Sum.inr b:=fun q=>e (Sum.inr.inj q)
  rw[decide_eq_false h,decide_eq_false e]
theorem RH (a:Int) (b:Str):decide ((Sum.inl a:yp)=Sum.inr b)=false:=decide_eq_false (fun q=>nomatch q)
theorem tj (a:Str) (b:Int):decide ((Sum.inr a:yp)=Sum.inl b)=false:=decide_eq_false (fun q=>nomatch q)
noncomputable def ya (prog:Program) (w:World):PySem.KeyKind prog w yp where
 is:=JD
 hash:=BQ w
 inj:=fun v a b ha hb=>by
  rcases qV ha with ⟨i,t,rfl,rfl⟩ | ⟨x,t,rfl,rfl⟩
  ·rcases qV hb with ⟨j,u,rfl,e⟩ | ⟨y,u,rfl,e⟩
   ·injection e with e1 _;rw[e1]
   ·exact nomatch e
  ·rcases qV hb with ⟨j,u,rfl,e⟩ | ⟨y,u,rfl,e⟩
   ·exact nomatch e
   ·injection e with e1 _;rw[e1]
 byValue:=fun k v h=>by
  rcases qV h with ⟨i,t,rfl,rfl⟩ | ⟨x,t,rfl,rfl⟩ <;> rfl
 pyHash:=fun hv h=>by
  rcases qV hv with ⟨i,t,rfl,rfl⟩ | ⟨x,t,rfl,rfl⟩
  ·exact wpAny_pyHash_int h
  ·exact wpAny_pyHash_str h
 eqBool:=fun hu hv h=>by
  rcases qV hu with ⟨i,t,rfl,rfl⟩ | ⟨x,t,rfl,rfl⟩
  ·rcases qV hv with ⟨j,u,rfl,rfl⟩ | ⟨y,u,rfl,rfl⟩
   ·rw[ti] at h;exact wpAny_eqBool_int h
   ·rw[RH] at h;exact SeqAt.EqAt.int_str i t y u _ _ _ _ h
  ·rcases qV hv with ⟨j,u,rfl,rfl⟩ | ⟨y,u,rfl,rfl⟩
   ·rw[tj] at h;exact SeqAt.EqAt.str_int x t j u _ _ _ _ h
   ·rw[R6] at h;exact wpAny_eqBool_str h
 «strs»:=fun k x t v h=>by
  rcases qV h with ⟨i,u,rfl,e⟩ | ⟨y,u,rfl,e⟩
  ·exact nomatch e
  ·injection e with e1 _
   subst e1
   cases v <;> rfl
theorem UU (prog:Program) (w:World) (i:Int) (t:Tok):(ya prog w).is (.inl i) (.int i t)=true:=ON i t
theorem xa (prog:Program) (w:World) (x:Str) (t:Tok):(ya prog w).is (.inr x) (.str x t)=true:=oW x t
inductive V where
 | non | bl (b:Bool) | int (i:Int) | str (x:Str) | byt (b:Array UInt8) | flt (b:UInt64) | ref (a:Addr) | ty (n:String)
 deriving DecidableEq
noncomputable def qt:V→Value→Prop
 | .non,u=>u=Value.none
 | .bl b,u=>u=Value.bool b
 | .int i,u=>∃ t,u=Value.int i t
 | .str x,u=>∃ t,u=Value.str x t
 | .byt b,u=>∃ t,u=Value.bytes b t
 | .flt b,u=>∃ t,u=Value.float b t
 | .ref a,u=>u=Value.ref a
 | .ty n,u=>u=Value.type n
abbrev zX:List V→List Value→Prop:=Paired qt
theorem zX.length {xs:List V} {us:List Value} (r:zX xs us):xs.length=us.length:=Paired.length r
theorem zX.get:∀ {xs:List V} {us:List Value} {i:Nat} {x:V},zX xs us→xs[i]? = some x→∃ u,us[i]? = some u∧qt x u
 | _,_,_,_,.nil,e=>by simp at e
 | _,_,0,_,.cons r _,e=>by simp at e;subst e;exact⟨_,rfl,r⟩
 | _,_,i+1,x,.cons _ t,e=>by
  obtain⟨u,h1,h2⟩:=zX.get (i:=i) (x:=x) t (by simpa using e)
  exact⟨u,by simpa using h1,h2⟩
theorem zX.append:∀ {xs ys:List V} {us ws:List Value},zX xs us→zX ys ws→zX (xs++ys) (us++ws)
 | _,_,_,_,.nil,s=>s
 | _,_,_,_,.cons r t,s=>.cons r (zX.append t s)
theorem zX.take:∀ {xs:List V} {us:List Value} (n:Nat),zX xs us→zX (xs.take n) (us.take n)
 | _,_,0,_=>.nil
 | _,_,_+1,.nil=>.nil
 | _,_,n+1,.cons r t=>.cons r (zX.take n t)
theorem zX.drop:∀ {xs:List V} {us:List Value} (n:Nat),zX xs us→zX (xs.drop n) (us.drop n)
 | _,_,0,r=>r
 | _,_,_+1,.nil=>.nil
 | _,_,n+1,.cons _ t=>zX.drop n t
noncomputable def um:Option V→Option Value→Prop
 | some v,some u=>qt v u
 | none,none=>True
 | _,_=>False
noncomputable def KV {κ:Type}:List (κ × V)→List (κ × Value)→Prop:=Paired fun (p:κ × V) (q:κ × Value)=>p.1=q.1∧qt p.2 q.2
noncomputable def kV:yp→V
 | .inl i=>.int i
 | .inr x=>.str x
inductive HO where
 | lst (xs:List V)
 | tup (xs:List V)
 | dK (kvs:List (yp × V)) | dT (kvs:List (List yp × V))
 | set (S:Int→Bool) (n:Nat)
 | ins (C dx:Addr) (fs:List (Str × V))
 | own (x:Addr)
 | xd (fs:List (Str × V))
 | met (f x:Addr)
 | rng (lo hi:Int)
 | frz (o:Obj) (u:HO)
 | tbl (ps:Array Value)
 | ext (φ:Heap→Prop)
abbrev Hp:=Addr→Option HO
noncomputable def upd (H:Hp) (a:Addr) (o:HO):Hp:=fun b=>if b=a then some o else H b
theorem zp {H:Hp} {a:Addr} {o:HO}:upd H a o a=some o:=by unfold upd;rw[if_pos rfl]
theorem zm {H:Hp} {a b:Addr} {o:HO} (h:b≠a):upd H a o b=H b:=by unfold upd;rw[if_neg h]
theorem gU {H:Hp} {a:Addr} {o u:HO}:upd (upd H a o) a u=upd H a u:=by
 funext b;unfold upd;split <;> rfl
theorem yQ {H:Hp} {a b:Addr} {o u:HO} (h:H a=some o) (h':H b=some u) (d:o≠u):a≠b:=by
 intro e;subst e;rw[h] at h';exact d (Option.some.inj h')
theorem zB {H:Hp} {a b:Addr} {o:HO} (h:H a=some o) (h':H b=none):a≠b:=by
 intro e;subst e;rw[h] at h';cases h'
section
variable (P:Program) (w:World)
noncomputable def yd (H:Hp) (h:Heap) (a:Addr):HO→Prop
 | .lst xs=>xs.length≤sizeLine∧∃ (its:List Value) (n:Nat),zX xs its∧h.get? a=some { cls:=.type "list",data:=.seq its.toArray n }
 | .tup xs=>xs.length≤sizeLine∧∃ its:List Value,zX xs its∧IsTup h a its.toArray
 | .dK kvs=>kvs.length≤sizeLine∧(a==sysModules)=false∧∃ vs,KV kvs vs∧h.DictOf (ya P w) a vs
 | .dT kvs=>kvs.length≤sizeLine∧(a==sysModules)=false∧∃ xs:List (List yp × Addr × Value),
   Paired (fun (p:List yp × V) (q:List yp × Addr × Value)=>p.1=q.1∧H q.2.1=some (.tup (p.1.map kV))∧qt p.2 q.2.2) kvs xs ∧
   ∃ o es ep,h.get? a=some o∧o.ExactDict∧o.data = .dict es ep∧es.toList=xs.map (entryOfKey (tupleKind (ya P w)))∧(xs.map (·.1)).Nodup
 | .set S n=>h.SetOf (intKind P w) a S n
 | .ins C dx fs=>H dx=some (.own a)∧fs.length≤1000∧dx≠a∧h.get? a=some (PySem.W.instObj C dx) ∧
   ∃ mA,h.Ns1 dx mA∧(∀ f,um (fs.lookup f) (mA f))∧PySem.Within mA (fs.map (·.1))
 | .own _=>∃ o,h.get? a=some o
 | .xd fs=>∃ mA,h.Ns1 a mA∧∀ f,um (fs.lookup f) (mA f)
 | .rng lo hi=>∃ t u v,h.get? a=some { cls:=.type "range",data:=.fields #[.int lo t,.int hi u,.int 1 v] }
 | .frz o u=>h.get? a=some o∧yd H h a u
 | .tbl ps=>h.get? a=some { cls:=.none,data:=.fields ps }
 | .met f x=>h.get? a=some (PySem.W.methodObj (.ref f) (.ref x))
 | .ext φ=>φ h∧(∃ o,h.get? a=some o)∧∀ h1 h2:Heap,φ h1→(∀ o,h1.get? a=some o→h2.get? a=some o)→φ h2
noncomputable def uK (H:Hp) (h:Heap):Prop:=∀ a o,H a=some o→yd P w H h a o
end
section
variable {P:Program} {w:World} {H H':Hp} {h h':Heap} {a:Addr} {o:HO}
theorem yd.lt (x:yd P w H h a o):a<h.objs.size:=by
 cases o with
 | lst xs=>obtain⟨_,_,_,_,e⟩:=x;exact dw e
 | tup xs=>obtain⟨_,_,_,p⟩:=x;exact p.lt
 | dK kvs=>obtain⟨_,_,_,_,o,_,_,e,_⟩:=x;exact dw e
 | dT kvs=>obtain⟨_,_,_,_,o,_,_,e,_⟩:=x;exact dw e
 | set S n=>obtain⟨o,_,_,_,e,_⟩:=x;exact dw e
 | ins C dx fs=>obtain⟨_,_,_,e,_⟩:=x;exact dw e
 | own y=>obtain⟨_,e⟩:=x;exact dw e
 | xd fs=>obtain⟨_,⟨_,_,_,e,_⟩,_⟩:=x;exact dw e
 | rng lo hi=>obtain⟨_,_,_,e⟩:=x;exact dw e
 | frz ob u=>obtain⟨e,_⟩:=x;exact dw e
 | tbl ps=>exact dw (show h.get? a=some _ from x)
 | met f y=>exact dw (show h.get? a=some _ from x)
 | ext φ=>obtain⟨_,⟨_,e⟩,_⟩:=x;exact dw e
theorem Paired.mapP {α β:Type} {F G:α→β→Prop}:∀ {l₁:List α} {l₂:List β},Paired F l₁ l₂→(∀ a b,F a b→G a b)→Paired G l₁ l₂
 | _,_,.nil,_=>.nil
 | _,_,.cons r t,f=>.cons (f _ _ r) (Paired.mapP t f)
theorem yd.stay (x:yd P w H h a o) (k:∀ b u,(b=a∨H b=some (.own a))→h.get? b=some u→h'.get? b=some u) (ho:∀ b,H b=some (.own a)→H' b=some (.own a)) (ht:∀ b xs,H b=some (.tup xs)→H' b=some (.tup xs)):yd P w H' h' a o:=by
 induction o with
 | lst xs=>obtain⟨z,its,n,r,e⟩:=x;exact⟨z,its,n,r,k _ _ (.inl rfl) e⟩
 | tup xs=>obtain⟨z,its,r,ob,e,c⟩:=x;exact⟨z,its,r,ob,k _ _ (.inl rfl) e,c⟩
 | dK kvs=>obtain⟨z,y,vs,r,ob,es,ep,e,c⟩:=x;exact⟨z,y,vs,r,ob,es,ep,k _ _ (.inl rfl) e,c⟩
 | dT kvs =>
  obtain⟨z,y,xs,r,ob,es,ep,e,c⟩:=x
  exact⟨z,y,xs,Paired.mapP r fun p q z=>⟨z.1,ht _ _ z.2.1,z.2.2⟩,ob,es,ep,k _ _ (.inl rfl) e,c⟩
 | set S n=>obtain⟨ob,es,ep,t,e,c⟩:=x;exact⟨ob,es,ep,t,k _ _ (.inl rfl) e,c⟩
 | ins C dx fs =>
  obtain⟨d,z,ne,e,mA,⟨od,es,ep,e2,c⟩,r⟩:=x
  exact⟨ho _ d,z,ne,k _ _ (.inl rfl) e,mA,⟨od,es,ep,k _ _ (.inr d) e2,c⟩,r⟩
 | own y=>obtain⟨ob,e⟩:=x;exact⟨ob,k _ _ (.inl rfl) e⟩
 | xd fs=>obtain⟨mA,⟨od,es,ep,e,c⟩,r⟩:=x;exact⟨mA,⟨od,es,ep,k _ _ (.inl rfl) e,c⟩,r⟩
 | rng lo hi=>obtain⟨t,u,v,e⟩:=x;exact⟨t,u,v,k _ _ (.inl rfl) e⟩
 | frz ob u ih=>obtain⟨e,q⟩:=x;exact⟨k _ _ (.inl rfl) e,ih q⟩
 | tbl ps =>
  have e:h.get? a=some { cls:=.none,data:=.fields ps }:=x
  show h'.get? a=some { cls:=.none,data:=.fields ps }
  exact k a _ (.inl rfl) e
 | met f y =>
  have e:h.get? a=some (PySem.W.methodObj (.ref f) (.ref y)):=x
  show h'.get? a=some (PySem.W.methodObj (.ref f) (.ref y))
  exact k a _ (.inl rfl) e
 | ext φ=>obtain⟨p,⟨o,e⟩,st⟩:=x;exact⟨st _ _ p fun o q=>k _ _ (.inl rfl) q,⟨o,k _ _ (.inl rfl) e⟩,st⟩
theorem uK.lt (x:uK P w H h) (e:H a=some o):a<h.objs.size:=(x a o e).lt
theorem uK.fresh (x:uK P w H h) (e:h.objs.size≤a):H a=none:=by
 cases q:H a with
 | none=>rfl
 | some u=>exact absurd (Dd (x.lt q) e) (Eo _)
theorem uK.kept (x:uK P w H h) (k:∀ b u,h.get? b=some u→h'.get? b=some u):uK P w H h':=fun a o e =>
 (x a o e).stay (fun b u _ q=>k b u q) (fun _ q=>q) fun _ _ q=>q
theorem uK.laid (x:uK P w H h) (k:∀ b u,h.get? b=some u→h'.get? b=some u) (hp:h.objs.size≤a) (new:yd P w (upd H a o) h' a o):uK P w (upd H a o) h':=fun b u e=>by
 have hn:=x.fresh hp
 by_cases hb:b=a
 ·subst hb;rw[zp] at e;cases e;exact new
 ·rw[zm hb] at e
  exact (x b u e).stay (fun c v _ q=>k c v q) (fun c q=>by rw[zm (zB q hn)];exact q) fun c xs q=>by rw[zm (zB q hn)];exact q
end
noncomputable def Rd (H:Hp) (a:Addr) (u:HO):Prop:=H a=some u∨∃ o,H a=some (.frz o u)
theorem Rd.ok {P:Program} {w:World} {H:Hp} {h:Heap} {a:Addr} {u:HO} (r:Rd H a u) (x:uK P w H h):yd P w H h a u:=by
 rcases r with r | ⟨o,r⟩
 ·exact x a u r
 ·obtain⟨_,q⟩:=x a _ r
  exact q
noncomputable def Bj:Option HO→Prop
 | some (.lst _)=>True
 | some (.dK _)=>True
 | some (.dT _)=>True
 | some (.set _ _)=>True
 | some (.ins _ _ _)=>True
 | some (.ext _)=>True
 | _=>False
section
variable {P:Program} {w:World} {H:Hp} {h h':Heap} {x e:Addr} {o':HO}
theorem uK.write (ok:uK P w H h) (mu:Bj (H x)) (he:e=x∨H e=some (.own x)) (k:∀ b u,b≠e→h.get? b=some u→h'.get? b=some u) (heo:∃ u,h'.get? e=some u) (new:yd P w (upd H x o') h' x o'):uK P w (upd H x o') h':=fun b u q=>by
 have nown:∀ c y,H c=some (.own y)→c≠x:=fun c y r z=>by subst z;rw[r] at mu;exact mu
 have ntup:∀ c xs,H c=some (.tup xs)→c≠x:=fun c xs r z=>by subst z;rw[r] at mu;exact mu
 by_cases hb:b=x
 ·subst hb;rw[zp] at q;cases q;exact new
 ·rw[zm hb] at q
  by_cases hbe:b=e
  ·have q':H b=some (.own x):=by
    rcases he with z | z
    ·exact absurd (hbe.trans z) hb
    ·rw[hbe];exact z
   rw[q] at q';cases q'
   obtain⟨v,hv⟩:=heo
   exact⟨v,by rw[hbe];exact hv⟩
  ·refine (ok b u q).stay (fun c v hc r=>k c v ?_ r) (fun c r=>by rw[zm (nown c b r)];exact r) fun c xs r=>by rw[zm (ntup c xs r)];exact r
   rcases hc with rfl | hc
   ·exact hbe
   ·rintro rfl
    rcases he with z | z
    ·exact nown c b hc z
    ·rw[hc] at z;cases z;exact hb rfl
end
structure Un (fs ex:List Addr) (H H':Hp) (h h':Heap):Prop where
 keep:∀ b o,h.get? b=some o→H b=none→b∉fs→b∉ex→h'.get? b=some o
 slot:∀ b o,h.get? b=some o→H b=none→b∈fs→b∉ex→∃ sl,h'.get? b=some { o with slots:=sl }
 free:∀ b o,h.get? b=some o→H b=none→b∉ex→H' b=none
 there:∀ b o,h.get? b=some o→b∉ex→∃ o',h'.get? b=some o'
 tups:∀ b xs,H b=some (.tup xs)→H' b=some (.tup xs)
 frzs:∀ b o u,H b=some (.frz o u)→H' b=some (.frz o u)
 tbls:∀ b ps,H b=some (.tbl ps)→∃ more,H' b=some (.tbl (ps++more))
section
variable {fs fs' ex ex':List Addr} {H H1 H2:Hp} {h h1 h2 h':Heap} {a x e:Addr} {o:HO}
theorem Un.any (u:Un fs ex H H1 h h1) {b:Addr} {ob:Obj} (q:h.get? b=some ob) (n:H b=none) (hx:b∉ex):∃ sl,h1.get? b=some { ob with slots:=sl }:=by
 by_cases hb:b∈fs
 ·exact u.slot b ob q n hb hx
 ·exact⟨ob.slots,u.keep b ob q n hb hx⟩
theorem Un.kept (k:∀ b u,h.get? b=some u→h'.get? b=some u):Un fs ex H H h h' :=
 ⟨fun b ob q _ _ _=>k b ob q,fun b ob q _ _ _=>⟨ob.slots,k b ob q⟩,fun _ _ _ n _=>n,fun b ob q _=>⟨ob,k b ob q⟩,fun _ _ q=>q,fun _ _ _ q=>q,fun _ ps q=>⟨#[],by rw[q];simp⟩⟩
theorem Un.refl:Un fs ex H H h h:=Un.kept fun _ _ q=>q
theorem Un.laid (k:∀ b u,h.get? b=some u→h'.get? b=some u) (hp:h.objs.size≤a) (hn:H a=none):Un fs ex H (upd H a o) h h' where
 keep:=fun b u q _ _ _=>k b u q
 slot:=fun b u q _ _ _=>⟨u.slots,k b u q⟩
 free:=fun b u q n _=>by rw[zm (dO (Dd (dw q) hp))];exact n
 there:=fun b u q _=>⟨u,k b u q⟩
 tups:=fun b xs q=>by rw[zm (zB q hn)];exact q
 frzs:=fun b u xs q=>by rw[zm (zB q hn)];exact q
 tbls:=fun b ps q=>⟨#[],by rw[zm (zB q hn),q];simp⟩
theorem Un.write (mu:Bj (H x)) (he:e=x∨H e=some (.own x)) (k:∀ b u,b≠e→h.get? b=some u→h'.get? b=some u) (heo:∃ u,h'.get? e=some u):Un fs ex H (upd H x o) h h':=by
 have hx:∀ b,H b=none→b≠x:=fun b n z=>by subst z;rw[n] at mu;exact mu
 have hb:∀ b,H b=none→b≠e:=fun b n z=>by
  subst z
  rcases he with r | r
  ·exact hx b n r
  ·rw[n] at r;cases r
 have hm:∀ b u,H b=some u→¬ Bj (some u)→b≠x:=fun b u q nm z=>by subst z;rw[q] at mu;exact nm mu
 refine⟨fun b u q n _ _=>k b u (hb b n) q,fun b u q n _ _=>⟨u.slots,k b u (hb b n) q⟩,fun b u q n _=>by rw[zm (hx b n)];exact n,fun b u q _=>?_,
  fun b xs q=>by rw[zm (hm b _ q fun z=>z)];exact q,fun b u xs q=>by rw[zm (hm b _ q fun z=>z)];exact q,fun b ps q=>⟨#[],by rw[zm (hm b _ q fun z=>z),q];simp⟩⟩
 by_cases hbe:b=e
 ·subst hbe;exact heo
 ·exact⟨u,k b u hbe q⟩
end
noncomputable def BA (h:Heap) (H:Hp):List Addr:=(List.range h.objs.size).filter fun a=>(H a).isSome
noncomputable def VH (h:Heap) (H:Hp):Heap:=PySem.W.hideAll h (BA h H)
theorem G3 (h:Heap) (H:Hp):(VH h H).objs.size=h.objs.size:=PySem.W.hideAll_size _ _
theorem p7 {h:Heap} {H:Hp} {b:Addr} {o:Obj} (e:h.get? b=some o) (n:H b=none):(VH h H).get? b=some o :=
 PySem.W.hideAll_get _ e fun hm=>by
  have q:(H b).isSome=true:=(DH.mp hm).2
  rw[n] at q;simp at q
theorem Mq {h:Heap} {H:Hp} {b:Addr} {o:Obj} (e:(VH h H).get? b=some o):h.get? b=some o∧H b=none:=by
 have e':h.get? b=some o:=PySem.W.of_hideAll (BA h H) e
 refine⟨e',?_⟩
 cases q:H b with
 | none=>rfl
 | some x =>
  have hm:b∈BA h H:=DH.mpr ⟨DI.mpr (dw e'),by simp[q]⟩
  have z:(VH h H).get? b=none:=PySem.W.hideAll_none (BA h H) hm
  rw[z] at e;cases e
noncomputable def MH (g h:Heap) (L:Addr):List (Addr × Obj):=(List.range h.objs.size).filterMap fun a=>if a=L∨(g.get? a).isSome=true then none else (h.get? a).map fun o=>(a,o)
noncomputable def rest (g h:Heap) (L d:Addr):List (Addr × Obj):=(MH g h L).filter fun p=>decide (p.1≠d)
structure Mod (K:BFr) (mg:Str→Option Value) (base:Heap):Prop where
 kin:K.In base
 glob:base.Ns mainGlobals mg
 blt:∃ mb,base.Ns builtinsNs mb∧∀ x:Str,x≠"__name__"→mb x=bootBuiltins x
 nolimit:base.NoLimit
structure Cx where
 prog:Program
 w:World
 K:BFr
 mg:Str→Option Value
 base:Heap
 A:Around
 N:List Str
 s₀:Shared
 H₀:Hp
 env:Env
 outer:List Env
 stack:List Env
 ex:List Addr
 fn:Str→Bool
 calm:Bool
 pn:List (Addr × Obj)
 xe:Value→Shared→Prop
noncomputable def OV (l:List Env):List Addr:=l.filterMap (·.frame)
abbrev Cx.fs (X:Cx):List Addr:=OV X.outer
noncomputable def BO (sc:Scope) (x:Str):Prop:=sc.names.lookup x=some .local∨sc.names.lookup x=some .cell∨sc.names.lookup x=some .free
noncomputable def BE (sc:Scope) (x:Str):Prop:=sc.names.lookup x=some .local∨sc.names.lookup x=some .cell
noncomputable def cU (env:Env) (h:Heap) (m:Str→Option Value) (x:Str) (u:Value):Prop :=
 (env.kindOf x=some .local∧m x=some u)∨((env.kindOf x=some .cell∨env.kindOf x=some .free)∧∃ c,env.cells.lookup x=some c∧h.IsCell c (some u))
structure Cx.Ok (X:Cx):Prop where
 mod:Mod X.K X.mg X.base
 kind:X.env.scope.kind = .function
 glob:X.env.globals=mainGlobals
 blt:X.env.builtins=builtinsNs
 above:X.s₀.heap.objs.size≤X.env.locals
 inj:∀ x y c,X.env.cells.lookup x=some c→X.env.cells.lookup y=some c→x=y
 has:∀ x,(X.env.kindOf x=some .cell∨X.env.kindOf x=some .free)→∃ c,X.env.cells.lookup x=some c
 cab:∀ x c,X.fn x=true→X.env.cells.lookup x=some c→X.s₀.heap.objs.size≤c
 hd:X.calm=true→X.A.handled=none
 frames:X.A.frames=some X.stack
 stk:X.stack=X.outer∨(X.stack=X.env::X.outer∧X.env.frame=some X.env.locals)
 exf:∀ b∈X.ex,b≠X.env.locals∧∀ x c,X.env.cells.lookup x=some c→c≠b
 bs:∀ b o,X.base.get? b=some o→X.s₀.heap.get? b=some o∧X.H₀ b=none
 bsz:X.base.objs.size≤X.s₀.heap.objs.size
 noex:∀ b o,X.base.get? b=some o→b∉X.ex
 exfs:∀ b∈X.ex,b∉X.fs
 funs:X.s₀.heap.FunFrames X.base X.outer
 frf:∀ b∈X.fs,X.H₀ b=none
structure zI (X:Cx) (pins:List (Addr × Obj)) (σ:List (Option V)) (H:Hp) (s:Shared):Prop where
 ok:X.Ok
 os:s.os=X.s₀.os
 bare:AllBare s.gens
 base:Un X.fs X.ex X.H₀ H X.s₀.heap s.heap
 loc:∃ m,s.heap.Ns X.env.locals m∧∀ (i:Nat) (x:Str) (v:V),X.N[i]? = some x→σ[i]? = some (some v)→BO X.env.scope x→∃ u,qt v u∧cU X.env s.heap m x u
 cell:∀ x c,X.env.cells.lookup x=some c→∃ v,s.heap.IsCell c v
 free:H X.env.locals=none
 freeC:∀ x c,X.env.cells.lookup x=some c→H c=none
 pin:∀ p∈X.pn++pins,s.heap.get? p.1=some p.2∧H p.1=none∧p.1≠X.env.locals∧p.1∉X.fs∧∀ v,p.2.data≠.cell v
 hok:uK X.prog X.w H s.heap
 len:σ.length=X.N.length
section
variable {X:Cx} {pins:List (Addr × Obj)} {σ:List (Option V)} {H H':Hp} {s:Shared} {h':Heap}
theorem Cx.Ok.nofr (ok:X.Ok) {b:Addr} {o:Obj} (e:X.base.get? b=some o):b∉X.fs:=fun hb=>by
 have:=(ok.funs.mem hb).1
 rw[e] at this;cases this
theorem zI.bs (I:zI X pins σ H s):∀ b o,X.base.get? b=some o→s.heap.get? b=some o∧H b=none:=fun b o e =>
 ⟨I.base.keep b o (I.ok.bs b o e).1 (I.ok.bs b o e).2 (I.ok.nofr e) (I.ok.noex b o e),I.base.free b o (I.ok.bs b o e).1 (I.ok.bs b o e).2 (I.ok.noex b o e)⟩
theorem zI.bk (I:zI X pins σ H s):∀ b o,X.base.get? b=some o→s.heap.get? b=some o:=fun b o e=>(I.bs b o e).1
theorem zI.mod (I:zI X pins σ H s):Mod X.K X.mg X.base:=I.ok.mod
theorem zI.kIn (I:zI X pins σ H s):X.K.In s.heap:=I.ok.mod.kin.keeps I.bk
theorem zI.lt (I:zI X pins σ H s):X.env.locals<s.heap.objs.size:=let ⟨_,hn,_⟩:=I.loc;hn.lt
theorem zI.sz (I:zI X pins σ H s):X.s₀.heap.objs.size≤s.heap.objs.size:=dG I.ok.above (eL I.lt)
theorem zI.nofs (I:zI X pins σ H s) {a:Addr} (h:s.heap.objs.size≤a):a∉X.fs:=fun hb=>by
 obtain⟨_,o,ho,_⟩:=I.ok.funs.mem hb
 exact absurd (Dd (dw ho) (dG I.sz h)) (Eo _)
theorem zI.cne (I:zI X pins σ H s):∀ x c,X.env.cells.lookup x=some c→c≠X.env.locals:=fun x c e z=>by
 obtain⟨v,o,ho,hd⟩:=I.cell x c e
 obtain⟨m,⟨o',es,ep,ho',hd',_⟩,_⟩:=I.loc
 rw[z,ho'] at ho;cases ho;rw[hd'] at hd;cases hd
theorem zI.funs (I:zI X pins σ H s):s.heap.FunFrames X.base X.outer:=by
 have all:∀ (l:List Env),(∀ b∈OV l,b∈X.fs)→X.s₀.heap.FunFrames X.base l→s.heap.FunFrames X.base l:=by
  intro l
  induction l with
  | nil=>intro _ _;trivial
  | cons env r ih =>
   intro hs hl
   obtain⟨hk,⟨L,o,hf,hn,ho,hd⟩,hr⟩:=hl
   have hL:L∈X.fs:=hs L (by unfold OV;rw[DY,hf];exact dq)
   obtain⟨sl,e⟩:=I.base.slot L o ho (I.ok.frf L hL) hL fun z=>I.ok.exfs L z hL
   exact⟨hk,⟨L,_,hf,hn,e,hd⟩,ih (fun b hb=>hs b (by unfold OV;rw[DY,hf];exact dQ _ hb)) hr⟩
 exact all X.outer (fun _ hb=>hb) I.ok.funs
theorem zI.stack (I:zI X pins σ H s):s.heap.FunFrames X.base X.stack:=by
 rcases I.ok.stk with e | ⟨e,hf⟩
 ·rw[e];exact I.funs
 ·rw[e]
  obtain⟨m,hn,_⟩:=I.loc
  refine .cons (by rw[I.ok.kind];decide) hf hn ?_ I.funs
  exact EM (dG I.ok.bsz I.ok.above)
theorem zI.stkSub (I:zI X pins σ H s):∀ b∈OV X.stack,b∈X.env.locals::X.fs:=fun b hb=>by
 rcases I.ok.stk with e | ⟨e,hf⟩
 ·rw[e] at hb;exact dQ _ hb
 ·rw[e] at hb
  unfold OV at hb
  rw[DY,hf] at hb
  exact hb
theorem zI.stkFree (I:zI X pins σ H s):∀ b∈OV X.stack,H b=none:=fun b hb=>by
 rcases dc.mp (I.stkSub b hb) with e | hb
 ·rw[e];exact I.free
 ·obtain⟨_,o,ho,_⟩:=I.ok.funs.mem hb
  exact I.base.free b o ho (I.ok.frf b hb) fun z=>I.ok.exfs b z hb
theorem zI.step {g':Array GenState} {t':Nat} {d':Drawn} {ch:List Addr} (I:zI X pins σ H s) (hch:∀ b∈ch,(b∈X.ex∨X.s₀.heap.get? b=none)∧b≠X.env.locals∧(∀ x c,X.env.cells.lookup x=some c→c≠b)∧∀ p∈X.pn++pins,p.1≠b) (keep:∀ b o,b≠X.env.locals→b∉X.fs→b∉ch→s.heap.get? b=some o→H b=none→h'.get? b=some o) (slot:∀ b o,b≠X.env.locals→b∈X.fs→b∉ch→s.heap.get? b=some o→H b=none→∃ sl,h'.get? b=some { o with slots:=sl }) (free:∀ b o,b∉ch→s.heap.get? b=some o→H b=none→H' b=none) (there:∀ b o,b∉ch→s.heap.get? b=some o→∃ o',h'.get? b=some o') (tups:∀ b xs,H b=some (.tup xs)→H' b=some (.tup xs)) (frzs:∀ b o u,H b=some (.frz o u)→H' b=some (.frz o u)) (tbls:∀ b ps,H b=some (.tbl ps)→∃ more,H' b=some (.tbl (ps++more))) (ns:∀ m,s.heap.Ns X.env.locals m→h'.Ns X.env.locals m) (hok:uK X.prog X.w H' h') (hg:AllBare g') :
  zI X pins σ H' { s with heap:=h',gens:=g',drawn:=d',toks:=t' }:=by
 have neL:∀ b o,X.s₀.heap.get? b=some o→b≠X.env.locals:=fun b o e=>dO (Dd (dw e) I.ok.above)
 have neC:∀ b o,X.s₀.heap.get? b=some o→b∉X.ex→b∉ch:=fun b o e hx hb=>by
  rcases (hch b hb).1 with z | z
  ·exact hx z
  ·rw[z] at e;cases e
 have cellK:∀ x c,X.env.cells.lookup x=some c→∀ v,s.heap.IsCell c v→h'.IsCell c v:=fun x c e v ⟨o,ho,hd⟩=>by
  have nch:c∉ch:=fun z=>(hch c z).2.2.1 x c e rfl
  by_cases hc:c∈X.fs
  ·obtain⟨sl,q⟩:=slot c o (I.cne x c e) hc nch ho (I.freeC x c e)
   exact⟨_,q,hd⟩
  ·exact⟨o,keep c o (I.cne x c e) hc nch ho (I.freeC x c e),hd⟩
 refine⟨I.ok,I.os,hg,⟨fun b o e n hb hx=>?_,fun b o e n hb hx=>?_,fun b o e n hx=>?_,fun b o e hx=>?_,fun b xs e=>tups b xs (I.base.tups b xs e),fun b o xs e=>frzs b o xs (I.base.frzs b o xs e),fun b ps e=>?_⟩,?_,fun x c e=>?_,?_,fun x c e=>?_,fun p hp=>?_,hok,I.len⟩
 ·exact keep b o (neL b o e) hb (neC b o e hx) (I.base.keep b o e n hb hx) (I.base.free b o e n hx)
 ·obtain⟨sl,e1⟩:=I.base.slot b o e n hb hx
  obtain⟨sl',e2⟩:=slot b _ (neL b o e) hb (neC b o e hx) e1 (I.base.free b o e n hx)
  exact⟨sl',e2⟩
 ·obtain⟨o',e1⟩:=I.base.there b o e hx
  exact free b o' (neC b o e hx) e1 (I.base.free b o e n hx)
 ·obtain⟨o',e1⟩:=I.base.there b o e hx
  exact there b o' (neC b o e hx) e1
 ·obtain⟨m1,e1⟩:=I.base.tbls b ps e
  obtain⟨m2,e2⟩:=tbls b _ e1
  exact⟨m1++m2,by rw[e2,Array.append_assoc]⟩
 ·obtain⟨m,hn,hl⟩:=I.loc
  refine⟨m,ns m hn,fun i x v e1 e2 e3=>?_⟩
  obtain⟨u,r,l⟩:=hl i x v e1 e2 e3
  refine⟨u,r,?_⟩
  rcases l with l | ⟨k,c,e,z⟩
  ·exact .inl l
  ·exact .inr ⟨k,c,e,cellK x c e _ z⟩
 ·obtain⟨v,z⟩:=I.cell x c e
  exact⟨v,cellK x c e v z⟩
 ·obtain⟨m,⟨o,_,_,ho,_⟩,_⟩:=I.loc
  exact free _ o (fun z=>(hch _ z).2.1 rfl) ho I.free
 ·obtain⟨v,o,ho,hd⟩:=I.cell x c e
  exact free c o (fun z=>(hch c z).2.2.1 x c e rfl) ho (I.freeC x c e)
 ·obtain⟨e,n,ne,nf,d⟩:=I.pin p hp
  have nch:p.1∉ch:=fun z=>(hch p.1 z).2.2.2 p hp rfl
  exact⟨keep p.1 p.2 ne nf nch e n,free p.1 p.2 nch e n,ne,nf,d⟩
theorem zI.un {t':Nat} (I:zI X pins σ H s) (u:Un X.fs [] H H' s.heap h') (hok:uK X.prog X.w H' h'):zI X pins σ H' { s with heap:=h',toks:=t' }:=by
 obtain⟨m,⟨o,es,ep,ho,r⟩,_⟩:=id I.loc
 obtain⟨sl,hL⟩:=u.any ho I.free (by simp)
 exact I.step (g':=s.gens) (d':=s.drawn) (ch:=[]) (fun _ z=>nomatch z) (fun b o _ hb _ e n=>u.keep b o e n hb (by simp)) (fun b o _ hb _ e n=>u.slot b o e n hb (by simp)) (fun b o _ e n=>u.free b o e n (by simp)) (fun b o _ e=>u.there b o e (by simp)) u.tups u.frzs u.tbls (fun m' hm=>by
  obtain⟨o',es',ep',ho',r'⟩:=hm
  rw[ho] at ho';cases ho'
  exact⟨_,es',ep',hL,r'⟩) hok I.bare
theorem zI.call {g':Array GenState} {t':Nat} {d':Drawn} {ch:List Addr} (I:zI X pins σ H s) (u:Un (OV X.stack) ch H H' s.heap h') (hok:uK X.prog X.w H' h') (hg:AllBare g') (hch:∀ b∈ch,(b∈X.ex∨X.s₀.heap.get? b=none)∧b≠X.env.locals∧(∀ x c,X.env.cells.lookup x=some c→c≠b)∧∀ p∈X.pn++pins,p.1≠b) :
  zI X pins σ H' { s with heap:=h',gens:=g',drawn:=d',toks:=t' }:=by
 obtain⟨m,⟨o,es,ep,ho,r⟩,_⟩:=id I.loc
 obtain⟨sl,hL⟩:=u.any ho I.free fun z=>(hch _ z).2.1 rfl
 exact I.step (ch:=ch) hch (fun b o hL hb hc e n=>u.keep b o e n (fun z=>(dc.mp (I.stkSub b z)).elim hL hb) hc) (fun b o _ _ hc e n=>u.any e n hc) (fun b o hc e n=>u.free b o e n hc) (fun b o hc e=>u.there b o e hc) u.tups u.frzs u.tbls (fun m' hm=>by
  obtain⟨o',es',ep',ho',r'⟩:=hm
  rw[ho] at ho';cases ho'
  exact⟨_,es',ep',hL,r'⟩) hok hg
theorem zI.turned {t':Nat} {it:Addr} (I:zI X pins σ H s) (k:∀ b o,b≠it→s.heap.get? b=some o→h'.get? b=some o) (hn:H it=none) (hL:it≠X.env.locals) (h1:it∈X.ex∨X.s₀.heap.get? it=none) (h2:∀ x c,X.env.cells.lookup x=some c→c≠it) (h3:∀ p∈X.pn++pins,p.1≠it):zI X pins σ H { s with heap:=h',toks:=t' }:=by
 have nit:∀ b u,H b=some u→b≠it:=fun b u e z=>by rw[z,hn] at e;cases e
 refine I.step (g':=s.gens) (d':=s.drawn) (ch:=[it]) (fun b hb=>?_) (fun b o _ _ hc e _=>k b o (fun z=>hc (by simp[z])) e) (fun b o _ _ hc e _=>⟨o.slots,k b o (fun z=>hc (by simp[z])) e⟩) (fun _ _ _ _ n=>n)
  (fun b o hc e=>⟨o,k b o (fun z=>hc (by simp[z])) e⟩) (fun _ _ e=>e) (fun _ _ _ e=>e) (fun b ps e=>⟨#[],by rw[e];simp⟩) (fun m hm=>?_) (fun b u e=>?_) I.bare
 ·have e:b=it:=by simpa using hb
  subst e
  exact⟨h1,hL,h2,h3⟩
 ·obtain⟨o,es,ep,ho,r⟩:=hm
  exact⟨o,es,ep,k _ o (Ne.symm hL) ho,r⟩
 ·refine (I.hok b u e).stay (fun c v hc q=>k c v ?_ q) (fun _ q=>q) fun _ _ q=>q
  rcases hc with z | z
  ·rw[z];exact nit b u e
  ·exact nit c _ z
theorem zI.tok (I:zI X pins σ H s) (t:Nat):zI X pins σ H { s with toks:=t }:=I.un (h':=s.heap) (t':=t) Un.refl I.hok
theorem zI.kept {t':Nat} (I:zI X pins σ H s) (k:∀ b u,s.heap.get? b=some u→h'.get? b=some u):zI X pins σ H { s with heap:=h',toks:=t' }:=I.un (Un.kept k) (I.hok.kept k)
theorem zI.laid {a:Addr} {o:HO} {t':Nat} (I:zI X pins σ H s) (k:∀ b u,s.heap.get? b=some u→h'.get? b=some u) (hp:s.heap.objs.size≤a) (new:yd X.prog X.w (upd H a o) h' a o) :
  zI X pins σ (upd H a o) { s with heap:=h',toks:=t' }:=I.un (Un.laid k hp (I.hok.fresh hp)) (I.hok.laid k hp new)
theorem zI.write {x e:Addr} {o:HO} {t':Nat} (I:zI X pins σ H s) (mu:Bj (H x)) (he:e=x∨H e=some (.own x)) (k:∀ b u,b≠e→s.heap.get? b=some u→h'.get? b=some u) (heo:∃ u,h'.get? e=some u) (new:yd X.prog X.w (upd H x o) h' x o):zI X pins σ (upd H x o) { s with heap:=h',toks:=t' }:=I.un (Un.write mu he k heo) (I.hok.write mu he k heo new)
theorem zI.pins_of {pins':List (Addr × Obj)} (I:zI X pins σ H s) (h:∀ p∈pins',s.heap.get? p.1=some p.2∧H p.1=none∧p.1≠X.env.locals∧p.1∉X.fs∧∀ v,p.2.data≠.cell v):zI X pins' σ H s :=
 ⟨I.ok,I.os,I.bare,I.base,I.loc,I.cell,I.free,I.freeC,fun p hp=>(dA.mp hp).elim (fun z=>I.pin p (eM _ z)) (h p),I.hok,I.len⟩
theorem Wy {N:List Str} (hN:N.Nodup) {i j:Nat} {x:Str} (a:N[i]? = some x) (b:N[j]? = some x):i=j:=by
 obtain⟨h1,e1⟩:=dF.mp a
 obtain⟨h2,e2⟩:=dF.mp b
 exact (List.getElem_inj hN).mp (e1.trans e2.symm)
theorem JG {M:Model} {A:Around} {E:Value→Shared→Prop} {i:Nat} {x:Str} {v:V} {u:Value} {Q:Unit→Shared→Prop} (I:zI X pins σ H s) (hN:X.N.Nodup) (hi:X.N[i]? = some x) (hx:BE X.env.scope x) (r:qt v u) (h:∀ s',zI X pins (σ.set i (some v)) H s'→(∃ a,Heap.SameBut a s.heap s'.heap∧(a=X.env.locals∨X.env.cells.lookup x=some a))→Q () s') (hf:X.fn x=true∨X.env.scope.names.lookup x=some .local:=by first | exact .inl rfl | exact .inr rfl | assumption):wpAny M A (storeName X.env x u) Q E s:=by
 obtain⟨m,hn,hl⟩:=id I.loc
 have hcls:(X.env.scope.kind == .class || (X.env.scope.kind == .module&&X.env.locals != X.env.globals))=false:=by rw[I.ok.kind];rfl
 have hiσ:i < σ.length:=by rw[I.len];exact (dF.mp hi).1
 have cne:=I.cne
 have tracked:∀ {a:Addr} {h':Heap},(∃ o,s.heap.get? a=some o∧H a=none)→Heap.SameBut a s.heap h'→uK X.prog X.w H h':=fun {a h'} ha hs b ob e=>by
  obtain⟨_,_,hfree⟩:=ha
  refine (I.hok b ob e).stay (fun c w' hc q=>(hs.2 c ?_).trans q) (fun _ q=>q) fun _ _ q=>q
  rintro rfl
  rcases hc with rfl | hc
  ·rw[hfree] at e;cases e
  ·rw[hfree] at hc;cases hc
 rcases hx with hk | hk
 ·refine wpAny_storeName_local hk hn (fun h' hn' hs=>?_) hcls
  obtain⟨oL,_,_,hoL,_⟩:=id hn
  refine h _ ⟨I.ok,I.os,I.bare,⟨fun b o e n hb hx=>?_,fun b o e n hb hx=>?_,I.base.free,fun b o e hx=>?_,I.base.tups,I.base.frzs,I.base.tbls⟩,⟨_,hn',fun j y v' e1 e2 e3=>?_⟩,fun y c e=>?_,I.free,I.freeC,fun p hp=>?_,tracked ⟨oL,hoL,I.free⟩ hs,by simpa using I.len⟩ ⟨_,hs,.inl rfl⟩
  ·exact (hs.2 b (dO (Dd (dw e) I.ok.above))).trans (I.base.keep b o e n hb hx)
  ·obtain⟨sl,e1⟩:=I.base.slot b o e n hb hx
   exact⟨sl,(hs.2 b (dO (Dd (dw e) I.ok.above))).trans e1⟩
  ·obtain⟨o',e1⟩:=I.base.there b o e hx
   exact⟨o',(hs.2 b (dO (Dd (dw e) I.ok.above))).trans e1⟩
  ·by_cases hj:j=i
   ·subst hj
    rw[hi] at e1;cases e1
    rw[fA hiσ] at e2
    cases e2
    exact⟨u,r,.inl ⟨hk,by simp⟩⟩
   ·rw[List.getElem?_set_ne (Ne.symm hj)] at e2
    obtain⟨u',r',q⟩:=hl j y v' e1 e2 e3
    refine⟨u',r',?_⟩
    rcases q with ⟨k,e⟩ | ⟨k,c,e,z⟩
    ·refine .inl ⟨k,?_⟩
     have:y≠x:=fun e=>hj (Wy hN e1 (e ▸ hi))
     simp[this,e]
    ·exact .inr ⟨k,c,e,z.sameBut hs (cne y c e)⟩
  ·obtain⟨w',z⟩:=I.cell y c e
   exact⟨w',z.sameBut hs (cne y c e)⟩
  ·obtain⟨e,n,ne,nf,d⟩:=I.pin p hp
   exact⟨(hs.2 p.1 ne).trans e,n,ne,nf,d⟩
 ·have hfn:X.fn x=true:=by
   rcases hf with z | z
   ·exact z
   ·rw[z] at hk;cases hk
  obtain⟨c,hc⟩:=I.ok.has x (.inl hk)
  obtain⟨w',z⟩:=I.cell x c hc
  refine wpAny_storeName_cell I.ok.kind hk hc z (fun h' hc' hs=>?_)
  obtain⟨oc,hoc,hocd⟩:=id z
  refine h { s with heap:=h' } ⟨I.ok,I.os,I.bare,⟨fun b o e n hb hx=>?_,fun b o e n hb hx=>?_,I.base.free,fun b o e hx=>?_,I.base.tups,I.base.frzs,I.base.tbls⟩,⟨m,hn.sameBut hs (Ne.symm (cne x c hc)),fun j y v' e1 e2 e3=>?_⟩,fun y c' e=>?_,I.free,I.freeC,fun p hp=>?_,tracked ⟨oc,hoc,I.freeC x c hc⟩ hs,by simpa using I.len⟩ ⟨c,hs,.inr hc⟩
  ·exact (hs.2 b (dO (Dd (dw e) (I.ok.cab x c hfn hc)))).trans (I.base.keep b o e n hb hx)
  ·obtain⟨sl,e1⟩:=I.base.slot b o e n hb hx
   exact⟨sl,(hs.2 b (dO (Dd (dw e) (I.ok.cab x c hfn hc)))).trans e1⟩
  ·obtain⟨o',e1⟩:=I.base.there b o e hx
   exact⟨o',(hs.2 b (dO (Dd (dw e) (I.ok.cab x c hfn hc)))).trans e1⟩
  ·by_cases hj:j=i
   ·subst hj
    rw[hi] at e1;cases e1
    rw[fA hiσ] at e2
    cases e2
    exact⟨u,r,.inr ⟨.inl hk,c,hc,hc'⟩⟩
   ·rw[List.getElem?_set_ne (Ne.symm hj)] at e2
    obtain⟨u',r',q⟩:=hl j y v' e1 e2 e3
    refine⟨u',r',?_⟩
    rcases q with q | ⟨k,c',e,z'⟩
    ·exact .inl q
    ·refine .inr ⟨k,c',e,z'.sameBut hs ?_⟩
     rintro rfl
     exact hj (Wy hN e1 (I.ok.inj _ _ _ e hc ▸ hi))
  ·by_cases hcc:c'=c
   ·subst hcc;exact⟨_,hc'⟩
   ·obtain⟨w2,z2⟩:=I.cell y c' e
    exact⟨w2,z2.sameBut hs hcc⟩
  ·obtain⟨e,n,ne,nf,d⟩:=I.pin p hp
   refine⟨(hs.2 p.1 ?_).trans e,n,ne,nf,d⟩
   intro q
   rw[q,hoc] at e
   have q':oc=p.2:=Option.some.inj e
   exact d w' (by rw[← q'];exact hocd)
theorem Wl {M:Model} {A:Around} {E:Value→Shared→Prop} {i:Nat} {x:Str} {v:V} {u:Value} {Q:Unit→Shared→Prop} (I:zI X pins σ H s) (hN:X.N.Nodup) (hi:X.N[i]? = some x) (hx:BE X.env.scope x) (r:qt v u) (h:∀ s',zI X pins (σ.set i (some v)) H s'→Q () s') (hf:X.fn x=true∨X.env.scope.names.lookup x=some .local:=by first | exact .inl rfl | exact .inr rfl | assumption):wpAny M A (storeName X.env x u) Q E s :=
 JG I hN hi hx r (fun s' I' _=>h s' I') hf
theorem zI.call' {s':Shared} {ch:List Addr} (I:zI X pins σ H s) (ho:s'.os=s.os) (u:Un (OV X.stack) ch H H' s.heap s'.heap) (hok:uK X.prog X.w H' s'.heap) (hg:AllBare s'.gens) (hch:∀ b∈ch,(b∈X.ex∨X.s₀.heap.get? b=none)∧b≠X.env.locals∧(∀ x c,X.env.cells.lookup x=some c→c≠b)∧∀ p∈X.pn++pins,p.1≠b):zI X pins σ H' s':=by
 obtain⟨h',g',d',t',o'⟩:=s'
 have e:o'=s.os:=ho
 subst e
 exact I.call (g':=g') (t':=t') (d':=d') u hok hg hch
end
abbrev XK:=Value→Option Addr→Hp→Prop
abbrev St:=List (Option V)
abbrev VK:=V→Hp→Prop
abbrev TE:=St→Hp→VK→Prop
abbrev TT:=St→Hp→(Bool→Hp→Prop)→Prop
abbrev TA:=St→Hp→(List V→Hp→Prop)→Prop
structure vE where
 nx:St→Hp→Prop
 rt:VK
 bk:St→Hp→Prop:=fun _ _=>False
 ct:St→Hp→Prop:=fun _ _=>False
abbrev TS:=vE→St→Hp→Prop
noncomputable def EP (X:Cx) (pins:List (Addr × Obj)) (σ:St) (Q:VK) (u:Value) (s':Shared):Prop:=∃ v H',zI X pins σ H' s'∧qt v u∧Q v H'
noncomputable def TP (X:Cx) (pins:List (Addr × Obj)) (σ:St) (Q:Bool→Hp→Prop) (b:Bool) (s':Shared):Prop:=∃ H',zI X pins σ H' s'∧Q b H'
noncomputable def AP (X:Cx) (pins:List (Addr × Obj)) (σ:St) (Q:List V→Hp→Prop) (us:List Value) (s':Shared):Prop:=∃ vs H',zI X pins σ H' s'∧zX vs us∧Q vs H'
noncomputable def SP (X:Cx) (pins:List (Addr × Obj)) (D:vE) (f:Flow) (s':Shared):Prop :=
 match f with
 | .next=>∃ σ' H',zI X pins σ' H' s'∧D.nx σ' H'
 | .brk=>∃ σ' H',zI X pins σ' H' s'∧D.bk σ' H'
 | .cont=>∃ σ' H',zI X pins σ' H' s'∧D.ct σ' H'
 | .ret u=>∃ v σ' H',zI X pins σ' H' s'∧qt v u∧D.rt v H'
noncomputable def PE (X:Cx) (e:Expr) (t:TE):Prop :=
 ∀ (pins:List (Addr × Obj)) (s:Shared) (σ:St) (H:Hp) (Q:VK),zI X pins σ H s→t σ H Q→wpAny (model X.prog X.w) X.A (eval e X.env) (EP X pins σ Q) X.xe s
noncomputable def PT (X:Cx) (e:Expr) (t:TT):Prop :=
 ∀ (pins:List (Addr × Obj)) (s:Shared) (σ:St) (H:Hp) (Q:Bool→Hp→Prop),zI X pins σ H s→t σ H Q→wpAny (model X.prog X.w) X.A (isTrue e X.env (eval e X.env)) (TP X pins σ Q) X.xe s
noncomputable def PW (X:Cx) (e:Expr) (t:TT):Prop :=
 ∀ (whole:Sem Value) (pins:List (Addr × Obj)) (s:Shared) (σ:St) (H:Hp) (Q:Bool→Hp→Prop),zI X pins σ H s→t σ H Q→wpAny (model X.prog X.w) X.A (isTrue e X.env whole) (TP X pins σ Q) X.xe s
theorem PW.pt {X:Cx} {e:Expr} {t:TT} (h:PW X e t):PT X e t:=h _
noncomputable def PA (X:Cx) (es:List Expr) (t:TA):Prop :=
 ∀ (pos:Pos) (pins:List (Addr × Obj)) (s:Shared) (σ:St) (H:Hp) (Q:List V→Hp→Prop),zI X pins σ H s→t σ H Q→wpAny (model X.prog X.w) X.A (spliced (backTo pos (starEach es X.env))) (AP X pins σ Q) X.xe s
noncomputable def PS (X:Cx) (st:Stmt) (t:TS):Prop :=
 ∀ (pins:List (Addr × Obj)) (s:Shared) (σ:St) (H:Hp) (D:vE),zI X pins σ H s→t D σ H→wpAny (model X.prog X.w) X.A (exec st X.env) (SP X pins D) X.xe s
noncomputable def jT (X:Cx) (st:List Stmt) (t:TS):Prop :=
 ∀ (pins:List (Addr × Obj)) (s:Shared) (σ:St) (H:Hp) (D:vE),zI X pins σ H s→t D σ H→wpAny (model X.prog X.w) X.A (execs st X.env) (SP X pins D) X.xe s
theorem yc {α:Type} {t:Sem α} {Q Q':α→Shared→Prop} {M:Model} {A:Around} {E:Value→Shared→Prop} {s:Shared} (h:wpAny M A t Q E s) (hQ:∀ a s,Q a s→Q' a s):wpAny M A t Q' E s:=wpAny_mono h hQ fun _ _ x=>x
section
variable {X:Cx}
theorem CW {a b:Expr} {ta tb:TE} (ha:PE X a ta) (hb:PE X b tb) {pins:List (Addr × Obj)} {s:Shared} {σ:St} {H:Hp} {R:V→V→Hp→Prop} (I:zI X pins σ H s) (h:ta σ H fun x H1=>tb σ H1 fun y H2=>R x y H2)
  {α:Type} {Q:α→Shared→Prop} {f:Value→Value→Sem α}
  (hf:∀ v u s2 x y H2,zI X pins σ H2 s2→qt x v→qt y u→R x y H2→wpAny (model X.prog X.w) X.A (f v u) Q X.xe s2) :
  wpAny (model X.prog X.w) X.A (eval a X.env) (fun v s₁=>wpAny (model X.prog X.w) X.A (eval b X.env) (fun u s₂=>wpAny (model X.prog X.w) X.A (f v u) Q X.xe s₂) X.xe s₁) X.xe s:=by
 refine yc (ha pins s σ H _ I h) fun v s1 ⟨x,H1,I1,r1,q1⟩=>?_
 refine yc (hb pins s1 σ H1 _ I1 q1) fun u s2 ⟨y,H2,I2,r2,q2⟩=>?_
 exact hf v u s2 x y H2 I2 r1 r2 q2
noncomputable def zM (i:Nat):TE:=fun σ H Q=>∃ v,σ[i]? = some (some v)∧Q v H
noncomputable def tC (v:V):TE:=fun _ H Q=>Q v H
theorem tT {i:Nat} {x:Str} {pos:Pos} (hN:X.N[i]? = some x) (hv:BO X.env.scope x) (hd:(x==("__debug__":Str))=false:=by decide) (hcd:(x==("__classdict__":Str))=false:=by decide):PE X (.Name x pos) (zM i):=by
 intro pins s σ H Q I h
 obtain⟨v,e,h⟩:=h
 obtain⟨m,hn,hl⟩:=I.loc
 obtain⟨u,r,l⟩:=hl i x v hN e hv
 have fin:EP X pins σ Q u s:=⟨v,H,I,r,h⟩
 rcases l with ⟨hk,hm⟩ | ⟨hk,c,hc,hcell⟩
 ·exact wpAny_Name (wpAny_loadName_local I.ok.kind hk hn hm fin) hd
 ·rcases hk with hk | hk
  ·exact wpAny_Name (wpAny_loadName_cell I.ok.kind hk hc hcell fin) hd
  ·exact wpAny_Name (wpAny_loadName_free I.ok.kind hk hc hcell fin hcd) hd
theorem ze {i j pos}:PE X (.Constant (.int i) j pos) (tC (.int i)):=fun _ _ _ H _ I h=>wpAny_Constant_int ⟨.int i,H,I.tok _,⟨_,rfl⟩,h⟩
theorem jY {b j pos}:PE X (.Constant (.bool b) j pos) (tC (.bl b)):=fun _ _ _ H _ I h=>Constant_bool ⟨.bl b,H,I,rfl,h⟩
theorem zC {x j pos}:PE X (.Constant (.str x) j pos) (tC (.str x)):=fun _ _ _ H _ I h=>Calls.Constant_str ⟨.str x,H,I.tok _,⟨_,rfl⟩,h⟩
noncomputable def Gl (X:Cx) (x:Str):Prop:=X.env.kindOf x=some .globalImplicit
theorem u5 {E:Value→Shared→Prop} {pins:List (Addr × Obj)} {s:Shared} {σ:St} {H:Hp} {x:Str} {u:Value} {pos:Pos} {Q:Value→Shared→Prop} (I:zI X pins σ H s) (hg:Gl X x) (hm:X.mg x=some u) (h:Q u s) (hd:(x==("__debug__":Str))=false:=by decide):wpAny (model X.prog X.w) X.A (eval (.Name x pos) X.env) Q E s :=
 Calls.Name_function_global I.ok.kind hg (Calls.loadGlobal_global (by rw[I.ok.glob];exact I.mod.glob.keeps I.bk) hm h) hd
theorem uA {E:Value→Shared→Prop} {pins:List (Addr × Obj)} {s:Shared} {σ:St} {H:Hp} {x:Str} {u:Value} {pos:Pos} {Q:Value→Shared→Prop} (I:zI X pins σ H s) (hg:Gl X x) (hm:X.mg x=none) (hv:bootBuiltins x=some u) (h:Q u s) (hn:x≠"__name__":=by decide) (hd:(x==("__debug__":Str))=false:=by decide):wpAny (model X.prog X.w) X.A (eval (.Name x pos) X.env) Q E s:=by
 obtain⟨mb,h1,h2⟩:=I.mod.blt
 exact Calls.Name_function_global I.ok.kind hg (Calls.loadGlobal_builtin (by rw[I.ok.glob];exact I.mod.glob.keeps I.bk) hm (by rw[I.ok.blt];exact h1.keeps I.bk) ((h2 x hn).trans hv) h) hd
theorem qE {x:Str} {v:V} {u:Value} {pos:Pos} (hg:Gl X x) (hm:X.mg x=some u) (r:qt v u) (hd:(x==("__debug__":Str))=false:=by decide):PE X (.Name x pos) (tC v) :=
 fun _ _ _ H _ I h=>u5 I hg hm ⟨v,H,I,r,h⟩ hd
theorem yF {x:Str} {v:V} {u:Value} {pos:Pos} (hg:Gl X x) (hm:X.mg x=none) (hv:bootBuiltins x=some u) (r:qt v u) (hn:x≠"__name__":=by decide) (hd:(x==("__debug__":Str))=false:=by decide):PE X (.Name x pos) (tC v) :=
 fun _ _ _ H _ I h=>uA I hg hm hv ⟨v,H,I,r,h⟩ hn hd
variable {a b:Expr} {ta tb:TE} {pos:Pos}
noncomputable def PC (X:Cx) (op:CmpOp) (a b:Expr) (t:TE):Prop :=
 ∀ (pins:List (Addr × Obj)) (s:Shared) (σ:St) (H:Hp) (Q:VK),zI X pins σ H s→t σ H Q →
  wpAny (model X.prog X.w) X.A (eval a X.env) (fun v s₁=>wpAny (model X.prog X.w) X.A (eval b X.env) (fun u s₂=>wpAny (model X.prog X.w) X.A (compareOp op v u) (EP X pins σ Q) X.xe s₂) X.xe s₁) X.xe s
noncomputable def tB (t:TE):TT:=fun σ H Q=>t σ H fun x H1=>∃ c,x = .bl c∧Q c H1
theorem BS {op:CmpOp} {t:TE} (h:PC X op a b t) (h1:behindInMarks op b=false:=by first | exact nobehind _ (by decide) (by decide) | rfl):PT X (.Compare a [op] [b] pos) (tB t):=by
 intro pins s σ H Q I hw
 refine wpAny_isTrue_Compare1 (yc (h pins s σ H _ I hw) fun v s1 h1=>yc h1 fun u s2 h2=>yc h2 fun c s3 ⟨x,H1,I1,r1,q1⟩=>?_) h1
 obtain⟨d,rfl,q⟩:=q1
 cases r1
 exact wpAny_truthy_bool ⟨H1,I1,q⟩
theorem qF {e:Expr} {t:TE} (h:PE X e t) (he:∀ whole,isTrue e X.env whole=(do let v ← whole;standAt e.pos;holding [v] (truthy v)):=by intro _;rfl):PT X e (tB t):=by
 intro pins s σ H Q I hw
 refine isTrue_plain (yc (h pins s σ H _ I hw) fun v s1 ⟨x,H1,I1,r1,q1⟩=>?_) (he _)
 obtain⟨d,rfl,q⟩:=q1
 cases r1
 exact wpAny_truthy_bool ⟨H1,I1,q⟩
variable {tA tB':TT} {rest:List Expr}
noncomputable def cy (t u:TT):TT:=fun σ H Q=>t σ H fun c H1=>if c=true then u σ H1 Q else Q false H1
noncomputable def Cv (t u:TT):TT:=fun σ H Q=>t σ H fun c H1=>if c=true then Q true H1 else u σ H1 Q
noncomputable def cg (t:TT):TT:=fun σ H Q=>t σ H fun c H1=>Q (!c) H1
theorem kq (ha:PT X a tA):PW X (.BoolOp .And [a] pos) tA:=by
 intro wh pins s σ H Q I h
 refine isTrue_and (yc (ha pins s σ H Q I h) fun c s1 e=>?_)
 cases c with
 | true=>exact isTrue_and_nil e
 | false=>exact e
theorem uT (ha:PT X a tA):PW X (.BoolOp .Or [a] pos) tA:=by
 intro wh pins s σ H Q I h
 refine isTrue_or (yc (ha pins s σ H Q I h) fun c s1 e=>?_)
 cases c with
 | false=>exact isTrue_or_nil e
 | true=>exact e
theorem Yt (ha:PT X a tA) (hb:PW X (.BoolOp .And (b::rest) pos) tB'):PW X (.BoolOp .And (a::b::rest) pos) (cy tA tB'):=by
 intro wh pins s σ H Q I h
 refine isTrue_and (yc (ha pins s σ H _ I h) fun c s1 ⟨H1,I1,q1⟩=>?_)
 cases c with
 | true=>exact hb wh pins s1 σ H1 Q I1 q1
 | false=>exact⟨H1,I1,q1⟩
theorem wC (ha:PT X a tA) (hb:PW X (.BoolOp .Or (b::rest) pos) tB'):PW X (.BoolOp .Or (a::b::rest) pos) (Cv tA tB'):=by
 intro wh pins s σ H Q I h
 refine isTrue_or (yc (ha pins s σ H _ I h) fun c s1 ⟨H1,I1,q1⟩=>?_)
 cases c with
 | true=>exact⟨H1,I1,q1⟩
 | false=>exact hb wh pins s1 σ H1 Q I1 q1
theorem qM (ha:PT X a tA):PT X (.UnaryOp .Not a pos) (cg tA):=by
 intro pins s σ H Q I h
 exact isTrue_not (ha pins s σ H (fun c H1=>Q (!c) H1) I h)
noncomputable def bK (ta tb:TE):TE:=fun σ H Q=>ta σ H fun x H1=>∃ c,x = .bl c∧if c=true then tb σ H1 Q else Q (.bl false) H1
noncomputable def BY (ta tb:TE):TE:=fun σ H Q=>ta σ H fun x H1=>∃ c,x = .bl c∧if c=true then Q (.bl true) H1 else tb σ H1 Q
noncomputable def TH (ta:TE):TE:=fun σ H Q=>ta σ H fun x H1=>∃ c,x = .bl c∧Q (.bl (!c)) H1
theorem ja {op} {t:TE} (h:PE X a t):PE X (.BoolOp op [a] pos) t:=fun pins s σ H Q I hw=>BoolOp_one (h pins s σ H Q I hw)
theorem yU (ha:PE X a ta) (hb:PE X (.BoolOp .And (b::rest) pos) tb):PE X (.BoolOp .And (a::b::rest) pos) (bK ta tb):=by
 intro pins s σ H Q I h
 refine BoolOp_and (yc (ha pins s σ H _ I h) fun v s1 ⟨x,H1,I1,r1,q1⟩=>?_)
 obtain⟨c,rfl,q1⟩:=q1
 cases r1
 refine wpAny_truthy_bool ?_
 cases c with
 | true=>exact hb pins s1 σ H1 Q I1 q1
 | false=>exact⟨.bl false,H1,I1,rfl,q1⟩
theorem rM (ha:PE X a ta) (hb:PE X (.BoolOp .Or (b::rest) pos) tb):PE X (.BoolOp .Or (a::b::rest) pos) (BY ta tb):=by
 intro pins s σ H Q I h
 refine BoolOp_or (yc (ha pins s σ H _ I h) fun v s1 ⟨x,H1,I1,r1,q1⟩=>?_)
 obtain⟨c,rfl,q1⟩:=q1
 cases r1
 refine wpAny_truthy_bool ?_
 cases c with
 | false=>exact hb pins s1 σ H1 Q I1 q1
 | true=>exact⟨.bl true,H1,I1,rfl,q1⟩
theorem gu (ha:PE X a ta):PE X (.UnaryOp .Not a pos) (TH ta):=by
 intro pins s σ H Q I h
 refine UnaryOp_ (yc (ha pins s σ H _ I h) fun v s1 ⟨x,H1,I1,r1,q1⟩=>?_)
 obtain⟨c,rfl,q1⟩:=q1
 cases r1
 exact not_of (wpAny_truthy_bool ⟨.bl (!c),H1,I1,rfl,q1⟩)
noncomputable def Ce (t:TT) (ta tb:TE):TE:=fun σ H Q=>t σ H fun c H1=>if c=true then ta σ H1 Q else tb σ H1 Q
theorem LR {c:Expr} (hc:PT X c tA) (ha:PE X a ta) (hb:PE X b tb):PE X (.IfExp c a b pos) (Ce tA ta tb):=by
 intro pins s σ H Q I h
 refine wpAny_IfExp (yc (hc pins s σ H _ I h) fun d s1 ⟨H1,I1,q1⟩=>?_)
 cases d with
 | true=>exact ha pins s1 σ H1 Q I1 q1
 | false=>exact hb pins s1 σ H1 Q I1 q1
end
noncomputable def zZ (K:BFr) (H:Hp) (a:Addr) (xs:List V):Prop :=
 Rd H a (.lst xs) ∨
  ∃ (o:Obj) (its:Array Value) (n:Nat),K.lookup a=some o∧o.cls = .type "list"∧o.dict=none∧o.data = .seq its n∧its.size≤sizeLine∧zX xs its.toList
noncomputable def qh (K:BFr) (H:Hp) (a:Addr) (xs:List V):Prop :=
 Rd H a (.tup xs) ∨
  ∃ (o:Obj) (its:Array Value) (n:Nat),K.lookup a=some o∧o.cls = .type "tuple"∧o.data = .seq its n∧its.size≤sizeLine∧zX xs its.toList
noncomputable def B9:Value→Option V
 | .none=>some .non
 | .bool b=>some (.bl b)
 | .int i _=>some (.int i)
 | .str x _=>some (.str x)
 | .bytes b _=>some (.byt b)
 | .float b _=>some (.flt b)
 | .ref a=>some (.ref a)
 | .type n=>some (.ty n)
 | _=>none
theorem qt.abs {x:V} {u:Value} (r:qt x u):B9 u=some x:=by
 cases x with
 | non=>cases r;rfl
 | bl _=>cases r;rfl
 | int _=>obtain⟨t,rfl⟩:=r;rfl
 | str _=>obtain⟨t,rfl⟩:=r;rfl
 | byt _=>obtain⟨t,rfl⟩:=r;rfl
 | flt _=>obtain⟨t,rfl⟩:=r;rfl
 | ref _=>cases r;rfl
 | ty _=>cases r;rfl
theorem qt.inj {x y:V} {u:Value} (r:qt x u) (q:qt y u):x=y:=Option.some.inj (r.abs.symm.trans q.abs)
theorem zX.inj:∀ {xs ys:List V} {us:List Value},zX xs us→zX ys us→xs=ys
 | _,_,_,.nil,.nil=>rfl
 | _,_,_,.cons r t,.cons r' t'=>by rw[r.inj r',zX.inj t t']
section
variable {X:Cx} {pins:List (Addr × Obj)} {σ:St} {H:Hp} {s:Shared} {a:Addr} {xs ys:List V}
theorem zZ.of {K:BFr} (h:H a=some (.lst xs)):zZ K H a xs:=.inl (.inl h)
theorem qh.of {K:BFr} (h:H a=some (.tup xs)):qh K H a xs:=.inl (.inl h)
theorem zI.list (I:zI X pins σ H s) (h:zZ X.K H a xs):∃ its:List Value,zX xs its∧PlainL s.heap a its.toArray∧xs.length≤sizeLine:=by
 rcases h with h | ⟨o,its,n,hk,hc,hd,hs,hz,r⟩
 ·obtain⟨z,its,n,r,e⟩:=h.ok I.hok
  exact⟨its,r,⟨_,n,e,rfl,rfl,rfl⟩,z⟩
 ·refine⟨its.toList,r,⟨o,n,I.kIn a o hk,hc,hd,by simpa using hs⟩,?_⟩
  have e:=r.length
  simp only[De] at e
  omega
theorem zI.tuple (I:zI X pins σ H s) (h:qh X.K H a xs):∃ its:List Value,zX xs its∧IsTup s.heap a its.toArray∧xs.length≤sizeLine:=by
 rcases h with h | ⟨o,its,n,hk,hc,hs,hz,r⟩
 ·obtain⟨z,its,r,p⟩:=h.ok I.hok
  exact⟨its,r,p,z⟩
 ·refine⟨its.toList,r,⟨o,I.kIn a o hk,hc,n,by simpa using hs⟩,?_⟩
  have e:=r.length
  simp only[De] at e
  omega
theorem zI.list_inj (I:zI X pins σ H s) (h:zZ X.K H a xs) (h':zZ X.K H a ys):xs=ys:=by
 obtain⟨its,r,⟨o,n,e,_,_,d⟩,_⟩:=I.list h
 obtain⟨its',r',⟨o',n',e',_,_,d'⟩,_⟩:=I.list h'
 rw[e] at e';cases e'
 rw[d] at d'
 injection d' with d1 _
 have:its=its':=by simpa using congrArg Array.toList d1
 subst this
 exact r.inj r'
theorem zI.tuple_inj (I:zI X pins σ H s) (h:qh X.K H a xs) (h':qh X.K H a ys):xs=ys:=by
 obtain⟨its,r,⟨o,e,_,n,d⟩,_⟩:=I.tuple h
 obtain⟨its',r',⟨o',e',_,n',d'⟩,_⟩:=I.tuple h'
 rw[e] at e';cases e'
 rw[d] at d'
 injection d' with d1 _
 have:its=its':=by simpa using congrArg Array.toList d1
 subst this
 exact r.inj r'
end
abbrev Cx.wish (X:Cx) (E:Value→Shared→Prop):Cx:={ X with xe:=E }
abbrev Cx.nox (X:Cx):Cx:=X.wish fun _ _=>False
theorem Cx.Ok.wish {X:Cx} (ok:X.Ok) (E:Value→Shared→Prop):(X.wish E).Ok :=
 ⟨ok.mod,ok.kind,ok.glob,ok.blt,ok.above,ok.inj,ok.has,ok.cab,ok.hd,ok.frames,ok.stk,ok.exf,ok.bs,ok.bsz,ok.noex,ok.exfs,ok.funs,ok.frf⟩
theorem Cx.Ok.unwish {X:Cx} {E:Value→Shared→Prop} (ok:(X.wish E).Ok):X.Ok :=
 ⟨ok.mod,ok.kind,ok.glob,ok.blt,ok.above,ok.inj,ok.has,ok.cab,ok.hd,ok.frames,ok.stk,ok.exf,ok.bs,ok.bsz,ok.noex,ok.exfs,ok.funs,ok.frf⟩
section
variable {X:Cx} {pins:List (Addr × Obj)} {σ:St} {H:Hp} {s:Shared} {E:Value→Shared→Prop}
theorem zI.wish (I:zI X pins σ H s) (E:Value→Shared→Prop):zI (X.wish E) pins σ H s:=⟨I.ok.wish E,I.os,I.bare,I.base,I.loc,I.cell,I.free,I.freeC,I.pin,I.hok,I.len⟩
theorem zI.unwish (I:zI (X.wish E) pins σ H s):zI X pins σ H s:=⟨I.ok.unwish,I.os,I.bare,I.base,I.loc,I.cell,I.free,I.freeC,I.pin,I.hok,I.len⟩
theorem SP.unwish {D:vE} {f:Flow} {s':Shared} (h:SP (X.wish E) pins D f s'):SP X pins D f s':=by
 cases f with
 | next=>obtain⟨σ',H',I,q⟩:=h;exact⟨σ',H',I.unwish,q⟩
 | brk=>obtain⟨σ',H',I,q⟩:=h;exact⟨σ',H',I.unwish,q⟩
 | cont=>obtain⟨σ',H',I,q⟩:=h;exact⟨σ',H',I.unwish,q⟩
 | ret u=>obtain⟨v,σ',H',I,r,q⟩:=h;exact⟨v,σ',H',I.unwish,r,q⟩
theorem jT.nox {st:List Stmt} {t:TS} (h:jT X.nox st t):jT X st t:=fun pins s σ H D I hw =>
 wpAny_mono (h pins s σ H D (I.wish _) hw) (fun _ _ q=>q.unwish) fun _ _ z=>False.elim z
end
section
variable {X:Cx} {st:Stmt} {rest:List Stmt} {t u:TS} {e:Expr} {te:TE} {pos:Pos}
noncomputable def bG:TS:=fun D σ H=>D.nx σ H
noncomputable def Rq (t u:TS):TS:=fun D σ H=>t { D with nx:=u D } σ H
theorem zA:jT X [] bG:=fun _ _ σ H _ I h=>wpAny_execs_nil ⟨σ,H,I,h⟩
theorem zg (h1:PS X st t) (h2:jT X rest u):jT X (st::rest) (Rq t u):=by
 intro pins s σ H D I h
 refine wpAny_execs_cons (yc (h1 pins s σ H { D with nx:=u D } I h) fun f s1 q=>?_)
 cases f with
 | next =>
  obtain⟨σ',H',I',q⟩:=q
  exact h2 pins s1 σ' H' D I' q
 | ret v=>exact q
 | brk=>exact q
 | cont=>exact q
theorem zi (h1:PS X st t):jT X [st] t:=by
 intro pins s σ H D I h
 refine wpAny_execs_cons (yc (h1 pins s σ H D I h) fun f s1 q=>?_)
 cases f with
 | next=>exact wpAny_execs_nil q
 | ret v=>exact q
 | brk=>exact q
 | cont=>exact q
theorem zI.quiet {pins:List (Addr × Obj)} {σ:St} {H:Hp} {s:Shared} (I:zI X pins σ H s):interactive X.env=false:=by simp[interactive,I.ok.kind]
noncomputable def rJ (te:TE):TS:=fun D σ H=>te σ H fun _ H1=>D.nx σ H1
theorem qm (he:PE X e te) (hs:swapsWith e none pos.line X.env=pure false:=by rfl):PS X (.Expr e pos) (rJ te):=by
 intro pins s σ H D I h
 exact wpAny_Expr_any (yc (he pins s σ H _ I h) fun v s1 ⟨x,H1,I1,r1,q1⟩=>⟨σ,H1,I1,q1⟩) I.quiet hs
noncomputable def Tc (te:TE):TS:=fun D σ H=>te σ H D.rt
theorem zu (he:PE X e te):PS X (.Return (some e) pos) (Tc te):=by
 intro pins s σ H D I h
 exact wpAny_Return_some (yc (he pins s σ H _ I h) fun v s1 ⟨x,H1,I1,r1,q1⟩=>⟨x,σ,H1,I1,r1,q1⟩)
noncomputable def BZ (c:TT) (t u:TS):TS:=fun D σ H=>c σ H fun b H1=>if b=true then t D σ H1 else u D σ H1
theorem zR {c:Expr} {a b:List Stmt} {tc:TT} (hc:PT X c tc) (ha:jT X a t) (hb:jT X b u):PS X (.If c a b pos) (BZ tc t u):=by
 intro pins s σ H D I h
 refine wpAny_If (yc (hc pins s σ H _ I h) fun d s1 ⟨H1,I1,q1⟩=>?_)
 cases d with
 | true=>exact ha pins s1 σ H1 D I1 q1
 | false=>exact hb pins s1 σ H1 D I1 q1
noncomputable def RG:TS:=fun _ _ _=>False
theorem qb {sts:List Stmt}:jT X sts RG:=fun _ _ _ _ _ _ h=>h.elim
end
abbrev TG:=V→St→Hp→(St→Hp→Prop)→Prop
abbrev tI:=List V→St→Hp→(St→Hp→Prop)→Prop
noncomputable def PG (X:Cx) (target:Expr) (t:TG):Prop :=
 ∀ (pins:List (Addr × Obj)) (s:Shared) (σ:St) (H:Hp) (v:V) (u:Value) (Q:St→Hp→Prop),zI X pins σ H s→qt v u→t v σ H Q →
  wpAny (model X.prog X.w) X.A (assign target X.env u) (fun _ s'=>∃ σ' H',zI X pins σ' H' s'∧Q σ' H') X.xe s
noncomputable def uv (X:Cx) (ts:List Expr) (t:tI):Prop :=
 ∀ (pins:List (Addr × Obj)) (s:Shared) (σ:St) (H:Hp) (vs:List V) (us:List Value) (Q:St→Hp→Prop),zI X pins σ H s→zX vs us→t vs σ H Q →
  wpAny (model X.prog X.w) X.A (assignInOrder ((assignEach ts X.env).map (·.2)) us) (fun _ s'=>∃ σ' H',zI X pins σ' H' s'∧Q σ' H') X.xe s
section
variable {X:Cx} {pos:Pos}
noncomputable def z4 (i:Nat):TG:=fun v σ H Q=>Q (σ.set i (some v)) H
theorem zJ {i:Nat} {x:Str} (hN:X.N.Nodup) (hi:X.N[i]? = some x) (hx:BE X.env.scope x) (hf:X.fn x=true∨X.env.scope.names.lookup x=some .local:=by first | exact .inl rfl | exact .inr rfl | assumption):PG X (.Name x pos) (z4 i):=by
 intro pins s σ H v u Q I r h
 exact wpAny_assign_Name (Wl I hN hi hx r (fun s' I'=>⟨_,H,I',h⟩) hf)
noncomputable def Xn:tI:=fun vs σ H Q=>vs=[]∧Q σ H
noncomputable def vH (t:TG) (u:tI):tI:=fun vs σ H Q=>∃ v r,vs=v::r∧t v σ H fun σ' H'=>u r σ' H' Q
theorem Qh:uv X [] Xn:=by
 intro pins s σ H vs us Q I r h
 obtain⟨e,h⟩:=h
 subst e
 cases r
 exact assignInOrder_nil ⟨σ,H,I,h⟩
theorem jQ {e:Expr} {es:List Expr} {t:TG} {u:tI} (h1:PG X e t) (h2:uv X es u) (hs:(assignEach (e::es) X.env).map (·.2)=assign e X.env::(assignEach es X.env).map (·.2):=by rfl):uv X (e::es) (vH t u):=by
 intro pins s σ H vs us Q I r h
 obtain⟨v,vr,e1,h⟩:=h
 subst e1
 cases r with
 | cons r rr =>
  rw[hs]
  refine assignInOrder_cons (yc (h1 pins s σ H _ _ _ I r h) fun _ s1 ⟨σ1,H1,I1,q1⟩=>?_)
  exact h2 pins s1 σ1 H1 _ _ Q I1 rr q1
noncomputable def Xp (K:BFr) (n:Nat) (t:tI):TG:=fun v σ H Q=>∃ a xs,v = .ref a∧qh K H a xs∧xs.length=n∧t xs σ H Q
theorem Uh {es:List Expr} {k:Nat} {t:tI} {n:Nat} (hc:X.calm=true) (h:uv X es t) (hn:(assignEach es X.env).length=n:=by rfl) (hst:(assignEach es X.env).findIdx? (·.1)=none:=by rfl):PG X (.Tuple es k pos) (Xp X.K n t):=by
 intro pins s σ H v u Q I r hw
 obtain⟨a,xs,e1,hq,hl,hw⟩:=hw
 subst e1
 cases r
 obtain⟨its,rv,ht,hz⟩:=I.tuple hq
 refine assign_Tuple_tuple (I.ok.hd hc) ht (by simp[hn,← hl,rv.length]) hst fun h' hx=>?_
 have I1:zI X pins σ H { s with heap:=h' }:=I.kept (t':=s.toks) fun b o e=>hx b o (dO (dw e)) e
 exact h pins _ σ H xs _ Q I1 (by simpa using rv) hw
noncomputable def My (te:TE) (g:TG):TS:=fun D σ H=>te σ H fun x H1=>g x σ H1 D.nx
theorem zF {i:Nat} {x:Str} {e:Expr} {te:TE} {pos':Pos} (hN:X.N.Nodup) (hi:X.N[i]? = some x) (hx:BE X.env.scope x) (he:PE X e te) (hs:swapsWith e (some (.Name x pos')) pos.line X.env=pure false:=by rfl) (hf:X.fn x=true∨X.env.scope.names.lookup x=some .local:=by first | exact .inl rfl | exact .inr rfl | assumption) :
  PS X (.Assign [.Name x pos'] e pos) (My te (z4 i)):=by
 intro pins s σ H D I h
 refine wpAny_Assign_Name (yc (he pins s σ H _ I h) fun v s1 ⟨y,H1,I1,r1,q1⟩=>?_) hs
 exact Wl I1 hN hi hx r1 (fun s2 I2=>⟨_,H1,I2,q1⟩) hf
end
section
variable {X:Cx} {pos:Pos}
end
structure It where
 go:Nat→Hp→Prop
 yld:Nat→Hp→V→Hp→Prop
 stop:Nat→Hp→Prop
noncomputable def jU (X:Cx) (pins:List (Addr × Obj)) (H:Hp) (b:Addr):Prop :=
 H b=none∧b≠X.env.locals∧b∉X.fs∧(b∈X.ex∨X.s₀.heap.get? b=none)∧(∀ x c,X.env.cells.lookup x=some c→c≠b)∧∀ p∈X.pn++pins,p.1≠b
theorem zI.fpOk {X:Cx} {pins:List (Addr × Obj)} {σ:St} {H H':Hp} {s:Shared} {b:Addr} (I:zI X pins σ H s) (hb:s.heap.objs.size≤b) (hn:H' b=none):jU X pins H' b:=by
 refine⟨hn,Ep (Dd I.lt hb),I.nofs hb,.inr (EM (dG I.sz hb)),fun x c e z=>?_,fun p hp z=>?_⟩
 ·obtain⟨v,q⟩:=I.cell x c e
  exact absurd (Dd q.lt (by rw[z];exact hb)) (Eo _)
 ·exact absurd (Dd (dw (I.pin p hp).1) (by rw[z];exact hb)) (Eo _)
structure Ue (P:Program) (w:World) (K:BFr) (tg:Expr) (J:It) (fp:List Addr) (it:Addr) (tn:Nat→Heap→Prop):Prop where
 mem:it∈fp
 obj:∀ i h,tn i h→∀ b∈fp,∃ o,h.get? b=some o∧∀ v,o.data≠.cell v
 keep:∀ i h h',tn i h→(∀ b∈fp,∀ o,h.get? b=some o→h'.get? b=some o)→tn i h'
 item:∀ (X:Cx),X.prog=P→X.w=w→X.K=K→X.calm=true→∀ (i:Nat) (pins:List (Addr × Obj)) (s:Shared) (σ:St) (H:Hp) (E:Value→Shared→Prop),zI X pins σ H s→(∀ b∈fp,jU X pins H b)→tn i s.heap→J.go i H →
  wpAny (model P w) X.A (pyNext (.ref it)) (fun r s1=>∃ u,r=some u ∧
   wpAny (model P w) X.A (letOwnedTupleGo tg (.ref it) u) (fun _ s2=>∃ x H',zI X pins σ H' s2∧qt x u∧J.yld i H x H'∧tn (i+1) s2.heap∧∀ b∈fp,H' b=none) E s1) E s
 done:∀ (X:Cx),X.prog=P→X.w=w→X.K=K→X.calm=true→∀ (i:Nat) (pins:List (Addr × Obj)) (s:Shared) (σ:St) (H:Hp) (E:Value→Shared→Prop),zI X pins σ H s→(∀ b∈fp,jU X pins H b)→tn i s.heap→J.stop i H →
  wpAny (model P w) X.A (pyNext (.ref it)) (fun r s1=>r=none∧zI X pins σ H s1) E s
 self:∀ (A:Around) (i:Nat) (s:Shared) (Q:Value→Shared→Prop) (E:Value→Shared→Prop),tn i s.heap→Q (.ref it) s→wpAny (model P w) A (pyIter (.ref it)) Q E s
abbrev TI:=St→Hp→(It→Hp→Prop)→Prop
noncomputable def cY (X:Cx) (pins:List (Addr × Obj)) (σ:St) (tg:Expr) (R:It→Hp→Prop) (itv:Value) (s2:Shared):Prop :=
 ∃ (it:Addr) (fp:List Addr) (tn:Nat→Heap→Prop) (J:It) (H':Hp),itv = .ref it∧zI X pins σ H' s2∧Ue X.prog X.w X.K tg J fp it tn∧tn 0 s2.heap∧(∀ b∈fp,jU X pins H' b)∧R J H'
noncomputable def PI (X:Cx) (tg iter:Expr) (wi:TI):Prop :=
 ∀ (pins:List (Addr × Obj)) (s:Shared) (σ:St) (H:Hp) (R:It→Hp→Prop),zI X pins σ H s→wi σ H R →
  wpAny (model X.prog X.w) X.A (eval iter X.env) (fun v s1=>wpAny (model X.prog X.w) X.A (pyIter v) (cY X pins σ tg R) X.xe s1) X.xe s
theorem Vb {M:Model} {A:Around} {E:Value→Shared→Prop} {s:Shared} {tg:Expr} {it:Addr} {u:Value} {o:Obj} {n:String} {vs:Array Value} {Q:Unit→Shared→Prop} (ho:s.heap.get? it=some o) (hc:o.cls = .type n) (hd:o.data = .fields vs) (hn:["enumerate","zip","dict_itemiterator","dict_reverseitemiterator","odict_iterator","itertools.zip_longest","itertools.pairwise"].contains n=false) (hQ:Q () s):wpAny M A (letOwnedTupleGo tg (.ref it) u) Q E s:=by
 unfold letOwnedTupleGo
 cases tg <;> first
  | exact wpAny_pure hQ
  | (cases u <;> first
    | exact wpAny_pure hQ
    | (refine wpAny_bind (wpAny_load ho ?_)
       rw[hc,hd]
       show wpAny M A (if (["enumerate","zip","dict_itemiterator","dict_reverseitemiterator","odict_iterator","itertools.zip_longest","itertools.pairwise"].contains n&&vs[0]? == some (rawInt _))=true then _ else _) Q E s
       rw[if_neg (by intro h;rw[hn,eO] at h;cases h)]
       exact wpAny_pure hQ))
noncomputable def RO (K:BFr) (a:Addr):It :=
 ⟨fun i H=>∃ xs x,zZ K H a xs∧xs[i]? = some x,fun i H x H'=>H'=H∧∀ xs,zZ K H a xs→xs[i]? = some x,fun i H=>∃ xs,zZ K H a xs∧xs.length≤i⟩
noncomputable def R8 (K:BFr) (a:Addr):It :=
 ⟨fun i H=>∃ xs x,qh K H a xs∧xs[i]? = some x,fun i H x H'=>H'=H∧∀ xs,qh K H a xs→xs[i]? = some x,fun i H=>∃ xs,qh K H a xs∧xs.length≤i⟩
noncomputable def rq (lo:Int) (n:Nat):It:=⟨fun i _=>i<n,fun i H x H'=>H'=H∧x = .int (lo+i),fun i _=>n≤i⟩
theorem OJ {P:Program} {w:World} {K:BFr} {tg:Expr} (a it:Addr):Ue P w K tg (RO K a) [it] it (fun i h=>h.IsListIter it a i) where
 mem:=by simp
 obj:=fun i h st b hb=>by
  have e:b=it:=by simpa using hb
  subst e
  obtain⟨o,e,c,d⟩:=st
  exact⟨o,e,fun v z=>by rw[d] at z;cases z⟩
 keep:=fun i h h' st k=>st.at fun o e=>k it (by simp) o e
 item:=by
  intro X hP hw hK hc i pins s σ H E I hf st hg
  subst hP hw hK
  obtain⟨xs,x,hq,hx⟩:=hg
  obtain⟨its,rv,p,hz⟩:=I.list hq
  obtain⟨u,hu,ru⟩:=rv.get hx
  obtain⟨f0,f1,f2,f3,f4,f5⟩:=hf it (by simp)
  refine wpAny_pyNext_list_item st p.isList (x:=u) (by simpa using hu) fun h' st' sb=>?_
  have I1:zI X pins σ H { s with heap:=h' }:=I.turned (t':=s.toks) (fun b o hb e=>(sb.2 b hb).trans e) f0 f1 f3 f4 f5
  obtain⟨o,e,c,d⟩:=id st'
  exact⟨u,rfl,Vb (s:={ s with heap:=h' }) e c d (by decide) ⟨x,H,I1,ru,⟨rfl,fun ys hy=>by rw[I.list_inj hy hq];exact hx⟩,st',fun b hb=>(hf b hb).1⟩⟩
 done:=by
  intro X hP hw hK hc i pins s σ H E I hf st hg
  subst hP hw hK
  obtain⟨xs,hq,hx⟩:=hg
  obtain⟨its,rv,p,hz⟩:=I.list hq
  obtain⟨f0,f1,f2,f3,f4,f5⟩:=hf it (by simp)
  have hl:=rv.length
  exact wpAny_pyNext_list_end (I.ok.hd hc) st p.isList (by simp;omega) fun h' eb=>⟨rfl,I.turned (t':=s.toks) (fun b o hb e=>eb b o hb e) f0 f1 f3 f4 f5⟩
 self:=fun _ _ _ _ _ st h=>wpAny_pyIter_listiter st h
theorem gh {P:Program} {w:World} {K:BFr} {tg:Expr} (a it:Addr):Ue P w K tg (R8 K a) [it] it (fun i h=>h.IsTupleIter it a i) where
 mem:=by simp
 obj:=fun i h st b hb=>by
  have e:b=it:=by simpa using hb
  subst e
  obtain⟨o,e,c,d⟩:=st
  exact⟨o,e,fun v z=>by rw[d] at z;cases z⟩
 keep:=fun i h h' st k=>st.at fun o e=>k it (by simp) o e
 item:=by
  intro X hP hw hK hc i pins s σ H E I hf st hg
  subst hP hw hK
  obtain⟨xs,x,hq,hx⟩:=hg
  obtain⟨its,rv,p,hz⟩:=I.tuple hq
  obtain⟨u,hu,ru⟩:=rv.get hx
  obtain⟨f0,f1,f2,f3,f4,f5⟩:=hf it (by simp)
  refine wpAny_pyNext_tuple_item st (show s.heap.IsTuple a its.toArray from p) (x:=u) (by simpa using hu) fun h' st' sb=>?_
  have I1:zI X pins σ H { s with heap:=h' }:=I.turned (t':=s.toks) (fun b o hb e=>(sb.2 b hb).trans e) f0 f1 f3 f4 f5
  obtain⟨o,e,c,d⟩:=id st'
  exact⟨u,rfl,Vb (s:={ s with heap:=h' }) e c d (by decide) ⟨x,H,I1,ru,⟨rfl,fun ys hy=>by rw[I.tuple_inj hy hq];exact hx⟩,st',fun b hb=>(hf b hb).1⟩⟩
 done:=by
  intro X hP hw hK hc i pins s σ H E I hf st hg
  subst hP hw hK
  obtain⟨xs,hq,hx⟩:=hg
  obtain⟨its,rv,p,hz⟩:=I.tuple hq
  obtain⟨f0,f1,f2,f3,f4,f5⟩:=hf it (by simp)
  have hl:=rv.length
  exact wpAny_pyNext_tuple_end (I.ok.hd hc) st (show s.heap.IsTuple a its.toArray from p) (by simp;omega) fun h' eb=>⟨rfl,I.turned (t':=s.toks) (fun b o hb e=>eb b o hb e) f0 f1 f3 f4 f5⟩
 self:=fun _ _ _ _ _ st h=>wpAny_pyIter_tupleiter st h
theorem XJ {P:Program} {w:World} {K:BFr} {tg:Expr} (it:Addr) (lo:Int) (n:Nat):Ue P w K tg (rq lo n) [it] it (fun i h=>IsRangeIter h it (lo+(i:Nat)*1) ((n:Int) - (i:Nat)) 1) where
 mem:=by simp
 obj:=fun i h st b hb=>by
  have e:b=it:=by simpa using hb
  subst e
  exact⟨_,st,fun v z=>by
   have z':Data.fields _=Data.cell v:=z
   cases z'⟩
 keep:=fun i h h' st k=>k it (by simp) _ st
 item:=by
  intro X hP hw hK hc i pins s σ H E I hf st hg
  subst hP hw hK
  obtain⟨f0,f1,f2,f3,f4,f5⟩:=hf it (by simp)
  have W:=Walks.range (prog:=X.prog) (w:=X.w) (I.ok.hd hc) it lo 1 n
  refine W.item i s _ _ hg st fun v h' tk hv st' kk=>?_
  obtain⟨t,rfl⟩:=hv
  have I1:zI X pins σ H { s with heap:=h',toks:=tk }:=I.turned (fun b o hb e=>kk b o (by simpa using hb) e) f0 f1 f3 f4 f5
  refine⟨_,rfl,Vb (s:={ s with heap:=h',toks:=tk }) (n:="range_iterator") st' rfl rfl (by decide) ⟨.int (lo+i),H,I1,⟨t,?_⟩,⟨rfl,rfl⟩,st',fun b hb=>(hf b hb).1⟩⟩
  rw[Int.mul_one]
 done:=by
  intro X hP hw hK hc i pins s σ H E I hf st hg
  subst hP hw hK
  obtain⟨f0,f1,f2,f3,f4,f5⟩:=hf it (by simp)
  exact wpAny_pyNext_range_end (I.ok.hd hc) st (by have:n≤i:=hg;omega) fun h' eb=>⟨rfl,I.turned (t':=s.toks) (fun b o hb e=>eb b o hb e) f0 f1 f3 f4 f5⟩
 self:=fun _ _ _ _ _ st h=>wpAny_pyIter_rangeiter st h
section
variable {X:Cx} {tg:Expr}
noncomputable def vO (K:BFr) (tl:TE):TI:=fun σ H R=>tl σ H fun x H1=>∃ a,x = .ref a∧(∃ xs,zZ K H1 a xs)∧R (RO K a) H1
noncomputable def Yv (K:BFr) (tl:TE):TI:=fun σ H R=>tl σ H fun x H1=>∃ a,x = .ref a∧(∃ xs,qh K H1 a xs)∧R (R8 K a) H1
theorem q9 {l:Expr} {tl:TE} (hl:PE X l tl):PI X tg l (vO X.K tl):=by
 intro pins s σ H R I h
 refine yc (hl pins s σ H _ I h) fun v s1 ⟨x,H1,I1,r1,q1⟩=>?_
 obtain⟨a,e,⟨xs,hq⟩,q⟩:=q1
 subst e
 cases r1
 obtain⟨its,rv,p,hz⟩:=I1.list hq
 refine wpAny_pyIter_list p.isList ?_
 refine⟨s1.heap.objs.size,[s1.heap.objs.size],_,_,H1,rfl,I1.kept (t':=s1.toks) fun b o e=>dH _ e,OJ a _,⟨_,dR _ rfl,rfl,rfl⟩,fun b hb=>?_,q⟩
 have e:b=s1.heap.objs.size:=by simpa using hb
 subst e
 exact I1.fpOk (CZ _) (I1.hok.fresh (CZ _))
theorem vq {l:Expr} {tl:TE} (hl:PE X l tl):PI X tg l (Yv X.K tl):=by
 intro pins s σ H R I h
 refine yc (hl pins s σ H _ I h) fun v s1 ⟨x,H1,I1,r1,q1⟩=>?_
 obtain⟨a,e,⟨xs,hq⟩,q⟩:=q1
 subst e
 cases r1
 obtain⟨its,rv,p,hz⟩:=I1.tuple hq
 refine wpAny_pyIter_tuple (show s1.heap.IsTuple a its.toArray from p) ?_
 refine⟨s1.heap.objs.size,[s1.heap.objs.size],_,_,H1,rfl,I1.kept (t':=s1.toks) fun b o e=>dH _ e,gh a _,⟨_,dR _ rfl,rfl,rfl⟩,fun b hb=>?_,q⟩
 have e:b=s1.heap.objs.size:=by simpa using hb
 subst e
 exact I1.fpOk (CZ _) (I1.hok.fresh (CZ _))
theorem pO {pins:List (Addr × Obj)} {σ:St} {H:Hp} {s:Shared} {R:It→Hp→Prop} {E:Value→Shared→Prop} {lo hi:Int} {t u v:Tok} {tk:Nat} (I:zI X pins σ H s) (h1:-(2 ^ 62)≤lo) (h2:lo<2 ^ 62) (h3:-(2 ^ 62)≤hi) (h4:hi<2 ^ 62) (q:R (rq lo (hi - lo).toNat) H):wpAny (model X.prog X.w) X.A (pyIter (.ref s.heap.objs.size)) (cY X pins σ tg R) E { s with heap:=s.heap.push { cls:=.type "range",data:=.fields #[.int lo t,.int hi u,.int 1 v] },toks:=tk }:=by
 refine wpAny_pyIter_range (IsRange.new ..) (small_one h1 h2 h3 h4) ?_
 have I1:zI X pins σ H { s with heap:=s.heap.push { cls:=.type "range",data:=.fields #[.int lo t,.int hi u,.int 1 v] },toks:=tk }:=I.kept fun b o e=>dH _ e
 refine⟨(s.heap.push { cls:=.type "range",data:=.fields #[.int lo t,.int hi u,.int 1 v] }).objs.size,[(s.heap.push { cls:=.type "range",data:=.fields #[.int lo t,.int hi u,.int 1 v] }).objs.size],_,_,H,rfl,
  I1.kept (t':=tk) fun b o e=>dH _ e,XJ _ lo (hi - lo).toNat,?_,fun b hb=>?_,q⟩
 ·have e1:lo+((0:Nat):Int)*1=lo:=by simp
  have e2:(((hi - lo).toNat:Nat):Int) - ((0:Nat):Int)=Builtin.Range.rangeSize lo hi 1:=by rw[rangeSize_one];split <;> omega
  show IsRangeIter _ _ (lo+((0:Nat):Int)*1) ((((hi - lo).toNat:Nat):Int) - ((0:Nat):Int)) 1
  rw[e1,e2]
  exact dR _ rfl
 ·have e:b=(s.heap.push { cls:=.type "range",data:=.fields #[.int lo t,.int hi u,.int 1 v] }).objs.size:=by simpa using hb
  subst e
  exact I1.fpOk (CZ _) (I1.hok.fresh (CZ _))
noncomputable def Ys (ta:TA):TI:=fun σ H R=>ta σ H fun vs H1=>∃ j:Int,vs=[.int j]∧-(2 ^ 62)≤j∧j<2 ^ 62∧R (rq 0 j.toNat) H1
theorem yf {a:Expr} {ta:TA} {p pos:Pos} (hg:Gl X "range") (hm:X.mg "range" = none) (ha:PA X [a] ta) (hs:starEach [a] X.env=[(false,eval a X.env)]:=by rfl):PI X tg (.Call (.Name "range" p) [a] [] pos) (Ys ta):=by
 intro pins s σ H R I h
 refine Call_ (uA I hg hm boot_range (PyProof.Rows.callWith_type1 (yc (ha pos pins s σ H _ I h) fun us s1 ⟨vs,H1,I1,r1,q1⟩=>?_) hs rfl))
 obtain⟨j,e,q1,q2,q⟩:=q1
 subst e
 cases r1 with
 | cons r rr =>
  cases rr
  obtain⟨t,rfl⟩:=r
  exact call_range_1 (pO I1 (by omega) (by omega) q1 q2 (by simpa using q))
noncomputable def bB (wi:TI) (g:TG) (tb:TS):TS:=fun D σ H=>wi σ H fun J H1=>∃ W:Nat→Nat→St→Hp→Prop,(∃ m,W 0 m σ H1)∧∀ i m σ H,W i m σ H →
 (J.stop i H∧D.nx σ H)∨(J.go i H∧∃ N:St→Hp→Prop,(∀ σ' H',N σ' H'→∃ m',m'<m∧W (i+1) m' σ' H')∧∀ x H',J.yld i H x H'→g x σ H' fun σ2 H2=>tb { D with nx:=N,ct:=N,bk:=D.nx } σ2 H2)
noncomputable def Q0 (fp:List Addr) (h:Heap):List (Addr × Obj):=fp.filterMap fun b=>(h.get? b).map fun o=>(b,o)
theorem vR {fp:List Addr} {h:Heap} {b:Addr} {o:Obj} (hb:b∈fp) (e:h.get? b=some o):(b,o)∈Q0 fp h:=List.mem_filterMap.mpr ⟨b,hb,by rw[e];rfl⟩
theorem GW {fp:List Addr} {h:Heap} {p:Addr × Obj} (hp:p∈Q0 fp h):p.1∈fp∧h.get? p.1=some p.2:=by
 obtain⟨b,hb,e⟩:=List.mem_filterMap.mp hp
 cases q:h.get? b with
 | none=>rw[q] at e;cases e
 | some o =>
  rw[q] at e
  have e':(b,o)=p:=Option.some.inj e
  subst e'
  exact⟨hb,q⟩
theorem zI.pinned {pins:List (Addr × Obj)} {σ:St} {H:Hp} {s:Shared} {fp:List Addr} (I:zI X pins σ H s) (hf:∀ b∈fp,jU X pins H b) (ho:∀ b∈fp,∃ o,s.heap.get? b=some o∧∀ v,o.data≠.cell v):zI X (pins++Q0 fp s.heap) σ H s :=
 I.pins_of fun p hp=>(dA.mp hp).elim (fun z=>I.pin p (Dl _ z)) fun z=>by
  obtain⟨hb,e⟩:=GW z
  obtain⟨f0,f1,f2,_⟩:=hf p.1 hb
  obtain⟨o,e',d⟩:=ho p.1 hb
  rw[e] at e';cases e'
  exact⟨e,f0,f1,f2,d⟩
theorem zI.unpinned {pins pl:List (Addr × Obj)} {σ:St} {H:Hp} {s:Shared} (I:zI X (pins++pl) σ H s):zI X pins σ H s:=I.pins_of fun p hp=>I.pin p (Dl _ (eM _ hp))
theorem jt {iter:Expr} {body:List Stmt} {wi:TI} {g:TG} {tb:TS} {pos:Pos} (hp:PassesOwn (model X.prog X.w) X.A X.env X.xe) (hc:X.calm=true) (hi:PI X tg iter wi) (hg:PG X tg g) (hb:jT X body tb) (hs:∀ x,foldedSetIterable iter X.env x=pure x:=by intro _;rfl):PS X (.For tg iter body [] pos) (bB wi g tb):=by
 intro pins s σ H D I h
 refine wpAny_For (yc (hi pins s σ H _ I h) fun v s1 h1=>yc h1 fun itv s2 h2=>?_) hs
 obtain⟨it,fp,tn,J,H2,e,I2,T,st2,f2,W,⟨m0,w0⟩,turn⟩:=h2
 subst e
 have stat:∀ {H':Hp},(∀ b∈fp,H' b=none)→∀ b∈fp,jU X pins H' b:=fun hn b hb=>⟨hn b hb,(f2 b hb).2⟩
 refine codeAny_forLoop_any (fun n s'=>∃ i σ' H',zI X pins σ' H' s'∧tn i s'.heap∧(∀ b∈fp,H' b=none)∧W i n σ' H') ?_ m0 ⟨0,σ,H2,I2,st2,fun b hb=>(f2 b hb).1,w0⟩
 rintro n s3 ⟨i,σ3,H3,I3,st3,fr3,w3⟩
 rcases turn i n σ3 H3 w3 with ⟨stop,qn⟩ | ⟨go,N,hN,step⟩
 ·refine wpAny_passesOwn hp (yc (T.done X rfl rfl rfl hc i pins s3 σ3 H3 X.xe I3 (stat fr3) st3 stop) fun r s4 ⟨hr,I4⟩=>?_)
  subst hr
  exact wpAny_execs_nil ⟨σ3,H3,I4,qn⟩
 ·refine wpAny_passesOwn hp (yc (T.item X rfl rfl rfl hc i pins s3 σ3 H3 X.xe I3 (stat fr3) st3 go) fun r s4 ⟨u,hr,h4⟩=>?_)
  subst hr
  refine wpAny_passesOwn hp (yc h4 fun _ s5 ⟨x,H5,I5,r5,y5,st5,fr5⟩=>?_)
  have I5':=I5.pinned (stat fr5) (T.obj _ _ st5)
  refine wpAny_passesOwn hp (yc (hg _ s5 σ3 H5 x u _ I5' r5 (step x H5 y5)) fun _ s6 ⟨σ6,H6,I6,q6⟩=>?_)
  refine wpAny_passesOwn hp (yc (hb _ s6 σ6 H6 _ I6 q6) fun f s7 q7=>?_)
  have again:∀ {σ7:St} {H7:Hp},zI X (pins++Q0 fp s5.heap) σ7 H7 s7→N σ7 H7→∃ m,m<n∧∃ i σ' H',zI X pins σ' H' s7∧tn i s7.heap∧(∀ b∈fp,H' b=none)∧W i m σ' H':=fun {σ7 H7} I7 n7=>by
   obtain⟨m',hm,w7⟩:=hN σ7 H7 n7
   refine⟨m',hm,i+1,σ7,H7,I7.unpinned,T.keep _ _ _ st5 fun b hb o e=>(I7.pin (b,o) (Dl _ (Dl _ (vR hb e)))).1,fun b hb=>?_,w7⟩
   obtain⟨o,e,d⟩:=T.obj _ _ st5 b hb
   exact (I7.pin (b,o) (Dl _ (Dl _ (vR hb e)))).2.1
  cases f with
  | next=>obtain⟨σ7,H7,I7,n7⟩:=q7;exact again I7 n7
  | cont=>obtain⟨σ7,H7,I7,n7⟩:=q7;exact again I7 n7
  | brk=>obtain⟨σ7,H7,I7,q7⟩:=q7;exact⟨σ7,H7,I7.unpinned,q7⟩
  | ret v=>obtain⟨x7,σ7,H7,I7,r7,q7⟩:=q7;exact⟨x7,σ7,H7,I7.unpinned,r7,q7⟩
end
theorem Lk {K:BFr} {a:Addr} {xs:List V} {g:TG} {tb:TS} {D:vE} {σ:St} {H:Hp} (Pv:Nat→St→Hp→Prop) (h0:Pv 0 σ H) (hl:∀ i σ H,i≤xs.length→Pv i σ H→zZ K H a xs) (hs:∀ i x σ H,xs[i]? = some x→Pv i σ H→g x σ H fun σ2 H2=>tb { D with nx:=Pv (i+1),ct:=Pv (i+1),bk:=D.nx } σ2 H2) (hd:∀ σ H,Pv xs.length σ H→D.nx σ H) :
  ∃ W:Nat→Nat→St→Hp→Prop,(∃ m,W 0 m σ H)∧∀ i m σ H,W i m σ H →
   ((RO K a).stop i H∧D.nx σ H)∨((RO K a).go i H∧∃ N:St→Hp→Prop,(∀ σ' H',N σ' H'→∃ m',m'<m∧W (i+1) m' σ' H')∧∀ x H',(RO K a).yld i H x H'→g x σ H' fun σ2 H2=>tb { D with nx:=N,ct:=N,bk:=D.nx } σ2 H2):=by
 refine⟨fun i m σ H=>m=xs.length - i∧i≤xs.length∧Pv i σ H,⟨xs.length,by simp,d6 _,h0⟩,?_⟩
 rintro i m σ H ⟨rfl,hi,p⟩
 have q:=hl i σ H hi p
 by_cases hlt:i<xs.length
 ·refine .inr ⟨⟨xs,xs[i],q,by simp[hlt]⟩,Pv (i+1),fun σ' H' p'=>⟨xs.length - (i+1),by omega,rfl,hlt,p'⟩,fun x H' y=>?_⟩
  obtain⟨e,y⟩:=y
  subst e
  exact hs i x σ _ (y xs q) p
 ·have e:i=xs.length:=by omega
  subst e
  exact .inl ⟨⟨xs,q,CZ _⟩,hd σ H p⟩
theorem m7 {K:BFr} {a:Addr} {xs:List V} {g:TG} {tb:TS} {D:vE} {σ:St} {H:Hp} (Pv:Nat→St→Hp→Prop) (h0:Pv 0 σ H) (hl:∀ i σ H,i≤xs.length→Pv i σ H→qh K H a xs) (hs:∀ i x σ H,xs[i]? = some x→Pv i σ H→g x σ H fun σ2 H2=>tb { D with nx:=Pv (i+1),ct:=Pv (i+1),bk:=D.nx } σ2 H2) (hd:∀ σ H,Pv xs.length σ H→D.nx σ H) :
  ∃ W:Nat→Nat→St→Hp→Prop,(∃ m,W 0 m σ H)∧∀ i m σ H,W i m σ H →
   ((R8 K a).stop i H∧D.nx σ H)∨((R8 K a).go i H∧∃ N:St→Hp→Prop,(∀ σ' H',N σ' H'→∃ m',m'<m∧W (i+1) m' σ' H')∧∀ x H',(R8 K a).yld i H x H'→g x σ H' fun σ2 H2=>tb { D with nx:=N,ct:=N,bk:=D.nx } σ2 H2):=by
 refine⟨fun i m σ H=>m=xs.length - i∧i≤xs.length∧Pv i σ H,⟨xs.length,by simp,d6 _,h0⟩,?_⟩
 rintro i m σ H ⟨rfl,hi,p⟩
 have q:=hl i σ H hi p
 by_cases hlt:i<xs.length
 ·refine .inr ⟨⟨xs,xs[i],q,by simp[hlt]⟩,Pv (i+1),fun σ' H' p'=>⟨xs.length - (i+1),by omega,rfl,hlt,p'⟩,fun x H' y=>?_⟩
  obtain⟨e,y⟩:=y
  subst e
  exact hs i x σ _ (y xs q) p
 ·have e:i=xs.length:=by omega
  subst e
  exact .inl ⟨⟨xs,q,CZ _⟩,hd σ H p⟩
theorem OX {lo:Int} {n:Nat} {g:TG} {tb:TS} {D:vE} {σ:St} {H:Hp} (Pv:Nat→St→Hp→Prop) (h0:Pv 0 σ H) (hs:∀ i σ H,i<n→Pv i σ H→g (.int (lo+i)) σ H fun σ2 H2=>tb { D with nx:=Pv (i+1),ct:=Pv (i+1),bk:=D.nx } σ2 H2) (hd:∀ σ H,Pv n σ H→D.nx σ H) :
  ∃ W:Nat→Nat→St→Hp→Prop,(∃ m,W 0 m σ H)∧∀ i m σ H,W i m σ H →
   ((rq lo n).stop i H∧D.nx σ H)∨((rq lo n).go i H∧∃ N:St→Hp→Prop,(∀ σ' H',N σ' H'→∃ m',m'<m∧W (i+1) m' σ' H')∧∀ x H',(rq lo n).yld i H x H'→g x σ H' fun σ2 H2=>tb { D with nx:=N,ct:=N,bk:=D.nx } σ2 H2):=by
 refine⟨fun i m σ H=>m=n - i∧i≤n∧Pv i σ H,⟨n,by simp,d6 _,h0⟩,?_⟩
 rintro i m σ H ⟨rfl,hi,p⟩
 by_cases hlt:i<n
 ·refine .inr ⟨hlt,Pv (i+1),fun σ' H' p'=>⟨n - (i+1),by omega,rfl,hlt,p'⟩,fun x H' y=>?_⟩
  obtain⟨e,y⟩:=y
  subst e y
  exact hs i σ _ hlt p
 ·have e:i=n:=by omega
  subst e
  exact .inl ⟨CZ _,hd σ H p⟩
abbrev R2:=V→V→Hp→VK→Prop
noncomputable def wH (X:Cx) (f:Value→Value→Sem Value) (r:R2):Prop :=
 ∀ (pins:List (Addr × Obj)) (s:Shared) (σ:St) (H:Hp) (x y:V) (v u:Value) (Q:VK),zI X pins σ H s→qt x v→qt y u→r x y H Q →
  wpAny (model X.prog X.w) X.A (f v u) (EP X pins σ Q) X.xe s
noncomputable def cb (X:Cx) (f:Value→Sem Value) (r:V→Hp→VK→Prop):Prop :=
 ∀ (pins:List (Addr × Obj)) (s:Shared) (σ:St) (H:Hp) (x:V) (v:Value) (Q:VK),zI X pins σ H s→qt x v→r x H Q →
  wpAny (model X.prog X.w) X.A (f v) (EP X pins σ Q) X.xe s
noncomputable def jD (X:Cx) (f:Value) (r:List V→Hp→VK→Prop):Prop :=
 ∀ (pins:List (Addr × Obj)) (s:Shared) (σ:St) (H:Hp) (xs:List V) (us:List Value) (Q:VK),zI X pins σ H s→zX xs us→r xs H Q →
  wpAny (model X.prog X.w) X.A (call f us) (EP X pins σ Q) X.xe s
noncomputable def jC (r:R2) (ta tb:TE):TE:=fun σ H Q=>ta σ H fun x H1=>tb σ H1 fun y H2=>r x y H2 Q
noncomputable def CM (r:V→Hp→VK→Prop) (ta:TE):TE:=fun σ H Q=>ta σ H fun x H1=>r x H1 Q
noncomputable def rI (C:Int→Int→Prop) (g:Int→Int→V):R2:=fun x y H Q=>∃ i j,x = .int i∧y = .int j∧C i j∧Q (g i j) H
noncomputable def YN (g:Int→Int→V):R2:=fun x y H Q=>∃ i j,x = .int i∧y = .int j∧Q (g i j) H
noncomputable def rU (g:Int→V):V→Hp→VK→Prop:=fun x H Q=>∃ i,x = .int i∧Q (g i) H
section
variable {X:Cx} {a b c:Expr} {ta tb tc:TE} {pos:Pos}
theorem RV (ha:PE X a ta) (hb:PE X b tb) {pins:List (Addr × Obj)} {s:Shared} {σ:St} {H:Hp} {R:V→V→Hp→Prop} (I:zI X pins σ H s) (h:ta σ H fun x H1=>tb σ H1 fun y H2=>R x y H2) {Q:Value→Shared→Prop} {f:Value→Value→Sem Value}
  (hf:∀ v u s2 x y H2,zI X pins σ H2 s2→qt x v→qt y u→R x y H2→wpAny (model X.prog X.w) X.A (f v u) Q X.xe s2) :
  wpAny (model X.prog X.w) X.A (eval a X.env) (fun v s₁=>wpAny (model X.prog X.w) X.A (eval b X.env) (fun u s₂=>wpAny (model X.prog X.w) X.A (f v u) Q X.xe s₂) X.xe s₁) X.xe s:=by
 refine yc (ha pins s σ H _ I h) fun v s1 ⟨x,H1,I1,r1,q1⟩=>?_
 refine yc (hb pins s1 σ H1 _ I1 q1) fun u s2 ⟨y,H2,I2,r2,q2⟩=>?_
 exact hf v u s2 x y H2 I2 r1 r2 q2
theorem zq {op:Operator} {r:R2} (ho:wH X (binaryOp op) r) (ha:PE X a ta) (hb:PE X b tb):PE X (.BinOp a op b pos) (jC r ta tb):=by
 intro pins s σ H Q I h
 exact wpAny_BinOp (RV ha hb I h fun v u s2 x y H2 I2 rx ry q=>ho pins s2 σ H2 x y v u Q I2 rx ry q)
theorem QT {op:UnaryOp} {r:V→Hp→VK→Prop} (ho:cb X (unaryOp op) r) (ha:PE X a ta):PE X (.UnaryOp op a pos) (CM r ta):=by
 intro pins s σ H Q I h
 exact UnaryOp_ (yc (ha pins s σ H _ I h) fun v s1 ⟨x,H1,I1,r1,q1⟩=>ho pins s1 σ H1 x v Q I1 r1 q1)
theorem BF {f:Value→Value→Sem Value} {C:Int→Int→Prop} {g:Int→Int→Int}
  (rule:∀ (i j:Int) (t u:Tok) (s:Shared) (Q:Value→Shared→Prop) (E:Value→Shared→Prop),C i j→Q (.int (g i j) s.toks) { s with toks:=s.toks+1 }→wpAny (model X.prog X.w) X.A (f (.int i t) (.int j u)) Q E s) :
  wH X f (rI C fun i j=>.int (g i j)):=by
 intro pins s σ H x y v u Q I rx ry h
 obtain⟨i,j,rfl,rfl,hc,q⟩:=h
 obtain⟨t,rfl⟩:=rx
 obtain⟨t',rfl⟩:=ry
 exact rule i j t t' s _ _ hc ⟨.int (g i j),H,I.tok _,⟨_,rfl⟩,q⟩
theorem Bh {f:Value→Value→Sem Value} {g:Int→Int→Int}
  (rule:∀ (i j:Int) (t u:Tok) (s:Shared) (Q:Value→Shared→Prop) (E:Value→Shared→Prop),Q (.int (g i j) s.toks) { s with toks:=s.toks+1 }→wpAny (model X.prog X.w) X.A (f (.int i t) (.int j u)) Q E s) :
  wH X f (YN fun i j=>.int (g i j)):=by
 intro pins s σ H x y v u Q I rx ry h
 obtain⟨i,j,rfl,rfl,q⟩:=h
 obtain⟨t,rfl⟩:=rx
 obtain⟨t',rfl⟩:=ry
 exact rule i j t t' s _ _ ⟨.int (g i j),H,I.tok _,⟨_,rfl⟩,q⟩
theorem NL {f:Value→Value→Sem Value} {g:Int→Int→Bool}
  (rule:∀ (i j:Int) (t u:Tok) (s:Shared) (Q:Value→Shared→Prop) (E:Value→Shared→Prop),Q (.bool (g i j)) s→wpAny (model X.prog X.w) X.A (f (.int i t) (.int j u)) Q E s) :
  wH X f (YN fun i j=>.bl (g i j)):=by
 intro pins s σ H x y v u Q I rx ry h
 obtain⟨i,j,rfl,rfl,q⟩:=h
 obtain⟨t,rfl⟩:=rx
 obtain⟨t',rfl⟩:=ry
 exact rule i j t t' s _ _ ⟨.bl (g i j),H,I,rfl,q⟩
noncomputable def RD (i j:Int):Prop:=0<j∧j<1073741824
noncomputable def BN (i j:Int):Prop:=0≤j∧j≤1000000∧i.natAbs<2 ^ 64
noncomputable def oF (i j:Int):Prop:=(-(2 ^ 64)<i∧i<2 ^ 64)∨(-(2 ^ 64)<j∧j<2 ^ 64)
theorem oF.ok {i j:Int} (h:oF i j):IntMulOk i j:=by
 rcases h with ⟨h1,h2⟩ | ⟨h1,h2⟩
 ·exact .of_left (intBits_le_64 h1 h2)
 ·exact .of_right (intBits_le_64 h1 h2)
theorem zU:wH X (binaryOp .Add) (YN fun i j=>.int (i+j)):=Bh fun _ _ _ _ _ _ _ q=>add_int q
theorem vn:wH X (binaryOp .Sub) (YN fun i j=>.int (i - j)):=Bh fun _ _ _ _ _ _ _ q=>sub_int q
theorem qR:wH X (binaryOp .Mult) (rI oF fun i j=>.int (i*j)):=BF fun _ _ _ _ _ _ _ hc q=>mul_int q hc.ok
theorem qZ:wH X (binaryOp .FloorDiv) (rI RD fun i j=>.int (i/j)):=BF fun i j _ _ _ _ _ hc q=>by
 have h1:(0:Int)<j:=hc.1
 have h2:j<1073741824:=hc.2
 exact floordiv_int (by omega) (by rw[Int.fdiv_eq_ediv_of_nonneg i (by omega)];exact q) (.inl (PyProof.noPylong_small (by omega)))
theorem qc:wH X (binaryOp .Mod) (rI (fun _ j=>0<j) fun i j=>.int (i%j)):=BF fun i j _ _ _ _ _ hc q=>by
 have h1:(0:Int)<j:=hc
 exact mod_int' (by omega) (by rw[Int.fmod_eq_emod_of_nonneg i (by omega)];exact q)
theorem Xd:wH X (binaryOp .Pow) (rI BN fun i j=>.int (i ^ j.toNat)):=BF fun _ _ _ _ _ _ _ hc q=>pow_int_small hc.1 hc.2.1 hc.2.2 q
theorem CV {f:Value→Sem Value} {g:Int→Int}
  (rule:∀ (i:Int) (t:Tok) (s:Shared) (Q:Value→Shared→Prop) (E:Value→Shared→Prop),Q (.int (g i) s.toks) { s with toks:=s.toks+1 }→wpAny (model X.prog X.w) X.A (f (.int i t)) Q E s) :
  cb X f (rU fun i=>.int (g i)):=by
 intro pins s σ H x v Q I rx h
 obtain⟨i,rfl,q⟩:=h
 obtain⟨t,rfl⟩:=rx
 exact rule i t s _ _ ⟨.int (g i),H,I.tok _,⟨_,rfl⟩,q⟩
theorem wQ:cb X (unaryOp .USub) (rU fun i=>.int (-i)):=CV fun _ _ _ _ _ q=>neg_int q
end
noncomputable def bY:V→V→Bool
 | .non,.non=>true | .non,.int _=>true | .int _,.non=>true | .non,.bl _=>true | .bl _,.non=>true | .non,.str _=>true | .str _,.non=>true
 | .int _,.int _=>true | .bl _,.bl _=>true | .str _,.str _=>true | .byt _,.byt _=>true
 | .int _,.str _=>true | .str _,.int _=>true | .bl _,.str _=>true | .str _,.bl _=>true
 | _,_=>false
noncomputable def CQ:R2:=fun x y H Q=>bY x y=true∧Q (.bl (decide (x=y))) H
noncomputable def Cg:R2:=fun x y H Q=>bY x y=true∧Q (.bl (!decide (x=y))) H
theorem gJ {i j:Int}:decide (V.int i=V.int j)=(i==j):=by
 rw[Dz]
 simp
theorem pZ {i j:Bool}:decide (V.bl i=V.bl j)=(i==j):=by
 rw[Dz]
 simp
theorem GI {i j:Str}:decide (V.str i=V.str j)=(i==j):=by
 rw[Dz]
 simp
theorem gY {i j:Array UInt8}:decide (V.byt i=V.byt j)=(i.toList==j.toList):=by
 rw[Dz]
 cases i
 cases j
 simp
section
variable {X:Cx} {a b c:Expr} {ta tb tc:TE} {pos:Pos}
theorem qG {pins:List (Addr × Obj)} {σ:St} {H:Hp} {s:Shared} {Q:VK} {k k':Bool} (I:zI X pins σ H s) (q:Q (.bl k) H) (e:k=k'):EP X pins σ Q (.bool k') s:=by
 subst e
 exact⟨.bl k,H,I,rfl,q⟩
theorem qC:wH X (compareOp .Eq) CQ:=by
 intro pins s σ H x y v u Q I rx ry h
 obtain⟨hs,q⟩:=h
 cases x with
 | non =>
  cases rx
  cases y with
  | non=>cases ry;exact PySem.EqNone.eq_none_none (qG I q (by simp))
  | bl j=>cases ry;exact PySem.EqNone.eq_none_bool (qG I q (by simp))
  | int j=>obtain⟨t',rfl⟩:=ry;exact PySem.EqNone.eq_none_int (qG I q (by simp))
  | str j=>obtain⟨t',rfl⟩:=ry;exact PySem.EqNone.eq_none_str (qG I q (by simp))
  | _=>exact absurd (show false=true from hs) dJ
 | bl i =>
  cases rx
  cases y with
  | non=>cases ry;exact PySem.EqNone.eq_bool_none (qG I q (by simp))
  | bl j=>cases ry;exact eq_bool (qG I q pZ)
  | str j=>obtain⟨t',rfl⟩:=ry;exact PySem.EqMixed.eq_bool_str (qG I q (by simp))
  | _=>exact absurd (show false=true from hs) dJ
 | int i =>
  obtain⟨t,rfl⟩:=rx
  cases y with
  | non=>cases ry;exact PySem.EqNone.eq_int_none (qG I q (by simp))
  | int j=>obtain⟨t',rfl⟩:=ry;exact eq_int (qG I q gJ)
  | str j=>obtain⟨t',rfl⟩:=ry;exact PySem.EqMixed.eq_int_str (qG I q (by simp))
  | _=>exact absurd (show false=true from hs) dJ
 | str i =>
  obtain⟨t,rfl⟩:=rx
  cases y with
  | non=>cases ry;exact PySem.EqNone.eq_str_none (qG I q (by simp))
  | bl j=>cases ry;exact PySem.EqMixed.eq_str_bool (qG I q (by simp))
  | int j=>obtain⟨t',rfl⟩:=ry;exact PySem.EqMixed.eq_str_int (qG I q (by simp))
  | str j=>obtain⟨t',rfl⟩:=ry;exact eq_str (qG I q GI)
  | _=>exact absurd (show false=true from hs) dJ
 | byt i =>
  obtain⟨t,rfl⟩:=rx
  cases y with
  | byt j=>obtain⟨t',rfl⟩:=ry;exact PySem.W.eq_bytes (qG I q gY)
  | _=>exact absurd (show false=true from hs) dJ
 | _=>cases y <;> exact absurd (show false=true from hs) dJ
theorem Pi:wH X (compareOp .NotEq) Cg:=by
 intro pins s σ H x y v u Q I rx ry h
 obtain⟨hs,q⟩:=h
 cases x with
 | non =>
  cases rx
  cases y with
  | non=>cases ry;exact PySem.EqNone.ne_none_none (qG I q (by simp))
  | bl j=>cases ry;exact PySem.EqNone.ne_none_bool (qG I q (by simp))
  | int j=>obtain⟨t',rfl⟩:=ry;exact PySem.EqNone.ne_none_int (qG I q (by simp))
  | str j=>obtain⟨t',rfl⟩:=ry;exact PySem.EqNone.ne_none_str (qG I q (by simp))
  | _=>exact absurd (show false=true from hs) dJ
 | bl i =>
  cases rx
  cases y with
  | non=>cases ry;exact PySem.EqNone.ne_bool_none (qG I q (by simp))
  | bl j=>cases ry;exact ne_bool (qG I q (congrArg not pZ))
  | str j=>obtain⟨t',rfl⟩:=ry;exact PySem.EqMixed.ne_bool_str (qG I q (by simp))
  | _=>exact absurd (show false=true from hs) dJ
 | int i =>
  obtain⟨t,rfl⟩:=rx
  cases y with
  | non=>cases ry;exact PySem.EqNone.ne_int_none (qG I q (by simp))
  | int j=>obtain⟨t',rfl⟩:=ry;exact ne_int (qG I q (congrArg not gJ))
  | str j=>obtain⟨t',rfl⟩:=ry;exact PySem.EqMixed.ne_int_str (qG I q (by simp))
  | _=>exact absurd (show false=true from hs) dJ
 | str i =>
  obtain⟨t,rfl⟩:=rx
  cases y with
  | non=>cases ry;exact PySem.EqNone.ne_str_none (qG I q (by simp))
  | bl j=>cases ry;exact PySem.EqMixed.ne_str_bool (qG I q (by simp))
  | int j=>obtain⟨t',rfl⟩:=ry;exact PySem.EqMixed.ne_str_int (qG I q (by simp))
  | str j=>obtain⟨t',rfl⟩:=ry;exact ne_str (qG I q (congrArg not GI))
  | _=>exact absurd (show false=true from hs) dJ
 | byt i =>
  obtain⟨t,rfl⟩:=rx
  cases y with
  | byt j=>obtain⟨t',rfl⟩:=ry;exact PySem.W.ne_bytes (qG I q (congrArg not gY))
  | _=>exact absurd (show false=true from hs) dJ
 | _=>cases y <;> exact absurd (show false=true from hs) dJ
theorem Yh:wH X (compareOp .Lt) (YN fun i j=>.bl (decide (i<j))):=NL fun _ _ _ _ _ _ _ q=>lt_int q
theorem WH:wH X (compareOp .LtE) (YN fun i j=>.bl (decide (i≤j))):=NL fun _ _ _ _ _ _ _ q=>le_int q
theorem jZ:wH X (compareOp .Gt) (YN fun i j=>.bl (decide (j<i))):=NL fun _ _ _ _ _ _ _ q=>gt_int q
theorem bf:wH X (compareOp .GtE) (YN fun i j=>.bl (decide (j≤i))):=NL fun _ _ _ _ _ _ _ q=>ge_int q
theorem JV:wH X (compareOp .In) (fun x y H Q=>∃ i j,x = .str i∧y = .str j∧Q (.bl (!(Builtin.Str.occurrences j i 0 j.length 1).isEmpty)) H):=by
 intro pins s σ H x y v u Q I rx ry h
 obtain⟨i,j,rfl,rfl,q⟩:=h
 obtain⟨t,rfl⟩:=rx
 obtain⟨t',rfl⟩:=ry
 exact in_str (qG I q rfl)
theorem zD (b:Expr) {op:CmpOp} (h:op≠.In:=by decide) (h2:op≠.NotIn:=by decide):behindInMarks op b=false:=by
 have e1:(op==CmpOp.In)=false:=by cases op <;> first | rfl | exact absurd rfl h
 have e2:(op==CmpOp.NotIn)=false:=by cases op <;> first | rfl | exact absurd rfl h2
 cases b <;> simp[behindInMarks,e1,e2]
theorem qJ {op:CmpOp} {r:R2} (ho:wH X (compareOp op) r) (ha:PE X a ta) (hb:PE X b tb) (hm:behindInMarks op b=false):PE X (.Compare a [op] [b] pos) (jC r ta tb):=by
 intro pins s σ H Q I h
 exact wpAny_Compare1 (RV ha hb I h fun v u s2 x y H2 I2 rx ry q=>ho pins s2 σ H2 x y v u Q I2 rx ry q) hm
noncomputable def Wc (t:TE):TT:=fun σ H Q=>t σ H fun x H'=>∃ k,x = .bl k∧Q k H'
theorem zE {op:CmpOp} {r:R2} (ho:wH X (compareOp op) r) (ha:PE X a ta) (hb:PE X b tb) (hm:behindInMarks op b=false):PT X (.Compare a [op] [b] pos) (Wc (jC r ta tb)):=by
 intro pins s σ H Q I h
 refine wpAny_isTrue_Compare1 (yc (ha pins s σ H _ I h) fun v s1 ⟨x,H1,I1,r1,q1⟩=>yc (hb pins s1 σ H1 _ I1 q1) fun u s2 ⟨y,H2,I2,r2,q2⟩ =>
  yc (ho pins s2 σ H2 x y v u _ I2 r1 r2 q2) fun c s3 ⟨z,H3,I3,r3,k,e,q3⟩=>?_) hm
 subst e
 cases r3
 exact wpAny_truthy_bool ⟨H3,I3,q3⟩
theorem ZG:(sizeLine:Nat)<2 ^ 63:=by rw[sizeLine_eq];decide
theorem qB:wH X (binaryOp .Add) (fun x y H Q=>∃ i j,x = .str i∧y = .str j∧i.length+j.length≤sizeLine∧Q (.str (i++j)) H):=by
 intro pins s σ H x y v u Q I rx ry h
 obtain⟨i,j,rfl,rfl,hz,q⟩:=h
 obtain⟨t,rfl⟩:=rx
 obtain⟨t',rfl⟩:=ry
 exact add_str (fun t' tk=>⟨.str (i++j),H,I.tok _,⟨_,rfl⟩,q⟩) hz
theorem vN {x:V} {us:List Value} (r:zX [x] us):∃ u,us=[u]∧qt x u:=by
 cases r with
 | cons r1 r2=>cases r2;exact⟨_,rfl,r1⟩
theorem gD {x y:V} {us:List Value} (r:zX [x,y] us):∃ u w',us=[u,w']∧qt x u∧qt y w':=by
 cases r with
 | cons r1 r2 =>
  cases r2 with
  | cons r3 r4=>cases r4;exact⟨_,_,rfl,r1,r3⟩
theorem Zk (hc:X.calm=true):jD X (.builtin "max") (fun xs H Q=>∃ i j,xs=[.int i,.int j]∧Q (.int (if j > i then j else i)) H):=by
 intro pins s σ H xs us Q I r h
 obtain⟨i,j,rfl,q⟩:=h
 obtain⟨u,w',rfl,⟨t,rfl⟩,⟨t',rfl⟩⟩:=gD r
 refine max_two_ints (I.ok.hd hc) fun h' tk k=>⟨_,H,I.kept k,?_,q⟩
 by_cases hj:j > i
 ·rw[if_pos hj,if_pos hj];exact⟨_,rfl⟩
 ·rw[if_neg hj,if_neg hj];exact⟨_,rfl⟩
theorem Zh (hc:X.calm=true):jD X (.builtin "min") (fun xs H Q=>∃ i j,xs=[.int i,.int j]∧Q (.int (if j<i then j else i)) H):=by
 intro pins s σ H xs us Q I r h
 obtain⟨i,j,rfl,q⟩:=h
 obtain⟨u,w',rfl,⟨t,rfl⟩,⟨t',rfl⟩⟩:=gD r
 refine min_two_ints (I.ok.hd hc) fun h' tk k=>⟨_,H,I.kept k,?_,q⟩
 by_cases hj:j<i
 ·rw[if_pos hj,if_pos hj];exact⟨_,rfl⟩
 ·rw[if_neg hj,if_neg hj];exact⟨_,rfl⟩
theorem Zo:jD X (.type "int") (fun xs H Q=>(∃ i,xs=[.int i]∧Q (.int i) H)∨∃ k,xs=[.bl k]∧Q (.int (if k then 1 else 0)) H):=by
 intro pins s σ H xs us Q I r h
 rcases h with ⟨i,rfl,q⟩ | ⟨k,rfl,q⟩
 ·obtain⟨u,rfl,t,rfl⟩:=vN r
  exact call_int_int ⟨.int i,H,I,⟨_,rfl⟩,q⟩
 ·obtain⟨u,rfl,r1⟩:=vN r
  cases r1
  exact call_int_bool ⟨.int (if k then 1 else 0),H,I.tok _,⟨_,rfl⟩,q⟩
theorem qo:jD X (.type "str") (fun xs H Q=>∃ i,xs=[.int i]∧i.natAbs.log2<1920∧Q (.str (toString i)) H):=by
 intro pins s σ H xs us Q I r h
 obtain⟨i,rfl,hz,q⟩:=h
 obtain⟨u,rfl,t,rfl⟩:=vN r
 exact PySem.P.str_of_int hz ⟨.str _,H,I.tok _,⟨_,rfl⟩,q⟩
end
structure gc (h:Heap) (x dx C:Addr) (mA:Str→Option Value):Prop where
 obj:h.get? x=some (PySem.W.instObj C dx)
 ns:h.Ns1 dx mA
 ne:dx≠x
theorem G6 {h:Heap} {dx:Addr} {mA:Str→Option Value} (n:h.Ns1 dx mA):∃ od,h.get? dx=some od∧∀ name,PySem.W.lookIn name od=some (mA name):=by
 obtain⟨o,es,ep,ho,hd,hk,_,hm⟩:=n
 refine⟨o,ho,fun name=>?_⟩
 have e:=hm name
 unfold nsFind findBy at e
 rw[← Array.find?_toList] at e
 unfold PySem.W.lookIn
 rw[hd]
 dsimp only
 split
 ·rename_i y q
  rw[q] at e
  exact congrArg some e
 ·rename_i q
  rw[q] at e
  have a:es.toList.any (·.refKey)=false:=by
   rw[List.any_eq_false]
   intro y hy
   obtain⟨z,t,hkey⟩:=hk y (Array.mem_toList_iff.mp hy)
   simp[DictEntry.refKey,hkey]
  have a':¬ es.toList.any (·.refKey)=true:=by rw[a];exact dJ
  rw[if_neg a']
  exact congrArg some e
theorem gc.look {h:Heap} {x dx C:Addr} {mA:Str→Option Value} (I:gc h x dx C mA):∃ od,PySem.W.InstAt h x (PySem.W.instObj C dx) C (some od)∧∀ name,PySem.W.lookIn name od=some (mA name) :=
 let ⟨od,ho,hl⟩:=G6 I.ns
 ⟨od,⟨I.obj,rfl,rfl,ho⟩,hl⟩
section
variable {prog:Program} {w:World} {A:Around} {E:Value→Shared→Prop} {s:Shared} {K:BFr} {x dx C f:Addr} {mA:Str→Option Value} {name:Str} {v:Value}
theorem Nq {expr:Bool} {Q:Value→Shared→Prop} (X:K.In s.heap) (I:gc s.heap x dx C mA) (hg:PySem.W.plainGet K C name=true) (hh:PySem.W.hasDictIn K C=true) (ha:PySem.W.findIn K (.ref C) name=some none) (hv:mA name=some v) (hv':PySem.W.handedIn v=true) (h:Q v { s with toks:=s.toks+1 }) :
  wpAny (model prog w) A (getAttr (.ref x) name expr) Q E s:=by
 obtain⟨od,J,hl⟩:=I.look
 exact PySem.W.get_value X J (PySem.W.plainGet_of hg).1 (PySem.W.findObj_own hh ha rfl (by rw[hl,hv])) hv' h
theorem LY {pl:Sem Bool} {Q:Value × List Value→Shared→Prop} (X:K.In s.heap) (I:gc s.heap x dx C mA) (hg:PySem.W.plainGet K C name=true) (hf:PySem.W.findIn K (.ref C) name=some (some (.ref f))) (ht:PySem.W.isFn K (.ref f)=true) (hv:mA name=none) (h:Q (.ref f,[.ref x]) s) :
  wpAny (model prog w) A (getMethod (.ref x) name pl) Q E s:=by
 obtain⟨od,J,hl⟩:=I.look
 exact PySem.W.method_fn X J (PySem.W.plainGet_of hg).1 (PySem.W.plainGet_of hg).2 hf (beq_iff_eq.mp ht) (by show (PySem.W.lookIn name od).map (·.isSome)=some false;rw[hl,hv];rfl) h
theorem M5 {ns:List Str} {Q:Unit→Shared→Prop} (X:K.In s.heap) (I:gc s.heap x dx C mA) (hs:BfS K C) (hp:PySem.W.plainOver K C=true) (ht:PySem.W.takerIn K C name=some none) (hh:PySem.W.hasDictIn K C=true) (hw:PySem.Within mA ns) (hsz:ns.length≤sizeLine) (h:∀ h',gc h' x dx C (fun y=>if y=name then some v else mA y)→Heap.SameBut dx s.heap h'→Q () { s with heap:=h',toks:=s.toks+2 }) :
  wpAny (model prog w) A (setAttr (.ref x) name v) Q E s:=by
 obtain⟨od,J,hl⟩:=I.look
 refine PySem.W.set_plain X J hs (PySem.W.osa_open (s:={ s with toks:=s.toks+1 }) (r:=none) X J hp ht fun b=>?_)
 obtain⟨cd,hc,hd'⟩:=PySem.W.any_some hh
 have hx:s.heap.get? x=some ⟨.ref C,some dx,.plain,#[]⟩:=I.obj
 refine wpAny_bind (wpAny_pure (wpAny_bind (wpAny_bind (wpAny_loadPart hx (wpAny_bind (PySem.W.Looks.here (s:={ s with toks:=s.toks+1 }) (PySem.W.looks_clsIn X hc) ?_))))))
 rw[hd']
 refine wpAny_pure (a:=some dx) (wpAny_bind (wpAny_pure (wpAny_bind ?_)))
 refine wpAny_nsSet1 (s:={ s with toks:=s.toks+1 }) I.ns fun h' hn2 hs2=>?_
 obtain⟨oD,esD,epD,hoD,hdD,hcD⟩:=hn2.count (PySem.Within.cons name v hw)
 refine wpAny_bind (wpAny_lookBehind hoD (by rw[hdD];exact pastItsLine_dict (dG hcD (by rw[dW];omega))) ?_)
 exact wpAny_pure (h _ ⟨(hs2.2 _ (Ne.symm I.ne)).trans I.obj,hn2,I.ne⟩ hs2)
theorem lu {R:Result→Shared→Prop} {vs:List Value} {kw:List (Str × Value)} (X:K.In s.heap) (hm:PySem.W.makesIn K C=true) (hi:PySem.W.findIn K (.ref C) "__init__" = some (some (.ref f))) (hf:PySem.W.typeIn K (.ref f)=some (.type "function")) (h:codeAny (model prog w) (A.under (.builtin "type.__call__" ⟨.ref C::vs,kw⟩)) (.call (.ref f) ⟨.ref (s.heap.objs.size+1)::vs,kw⟩) (PySem.W.InitBack (s.heap.objs.size+1) R)
   { s with heap:=(s.heap.push PySem.W.emptyDict).push (PySem.W.instObj C s.heap.objs.size) }) :
  codeAny (model prog w) A (.call (.ref C) ⟨vs,kw⟩) R s:=by
 obtain⟨hh,g,d,t,os⟩:=s
 exact PySem.W.make_core (PySem.W.makes_of X hm) (PySem.W.looks_findIn X hi) (fun self=>PySem.W.bind_fn X self hf) (.inl rfl) h
end
noncomputable def jE (f:Str) (v:V):List (Str × V)→List (Str × V)
 | []=>[(f,v)]
 | (g,x)::r=>if g=f then (g,v)::r else (g,x)::jE f v r
theorem ZS (f g:Str) (v:V):∀ fs:List (Str × V),(jE f v fs).lookup g=if g=f then some v else fs.lookup g
 | []=>by
  show List.lookup g [(f,v)]=_
  by_cases h:g=f
  ·have hb:(g==f)=true:=beq_iff_eq.mpr h
   simp only[List.lookup,hb,if_pos h]
  ·have hb:(g==f)=false:=beq_eq_false_iff_ne.mpr h
   simp only[List.lookup,hb,if_neg h]
 | (k,x)::r=>by
  have ih:=ZS f g v r
  rw[show jE f v ((k,x)::r)=(if k=f then (k,v)::r else (k,x)::jE f v r) from rfl]
  by_cases hk:k=f
  ·rw[if_pos hk]
   by_cases h:g=k
   ·have hb:(g==k)=true:=beq_iff_eq.mpr h
    simp only[List.lookup,hb,if_pos (h.trans hk)]
   ·have hb:(g==k)=false:=beq_eq_false_iff_ne.mpr h
    simp only[List.lookup,hb,if_neg (fun e:g=f=>h (e.trans hk.symm))]
  ·rw[if_neg hk]
   by_cases h:g=k
   ·have hb:(g==k)=true:=beq_iff_eq.mpr h
    simp only[List.lookup,hb,if_neg (fun e:g=f=>hk (h.symm.trans e))]
   ·have hb:(g==k)=false:=beq_eq_false_iff_ne.mpr h
    simp only[List.lookup,hb]
    exact ih
theorem Zn (f:Str) (v:V):∀ fs:List (Str × V),f∈(jE f v fs).map (·.1)∧∀ g,g∈fs.map (·.1)→g∈(jE f v fs).map (·.1)
 | []=>⟨by simp[jE],fun g h=>by simp at h⟩
 | (k,x)::r=>by
  obtain⟨i1,i2⟩:=Zn f v r
  rw[show jE f v ((k,x)::r)=(if k=f then (k,v)::r else (k,x)::jE f v r) from rfl]
  by_cases hk:k=f
  ·rw[if_pos hk]
   subst hk
   exact⟨by simp,fun g h=>by simpa using h⟩
  ·rw[if_neg hk]
   refine⟨?_,fun g h=>?_⟩
   ·rw[dN]
    exact dQ _ i1
   ·rw[dN] at h ⊢
    rcases dc.mp h with e | e
    ·exact dc.mpr (.inl e)
    ·exact dQ _ (i2 g e)
theorem ZP (f:Str) (v:V):∀ fs:List (Str × V),(jE f v fs).length≤fs.length+1
 | []=>by simp[jE]
 | (k,x)::r=>by
  have ih:=ZP f v r
  rw[show jE f v ((k,x)::r)=(if k=f then (k,v)::r else (k,x)::jE f v r) from rfl]
  by_cases hk:k=f
  ·rw[if_pos hk,dW,dW];omega
  ·rw[if_neg hk,dW,dW];omega
theorem um.some_of {v:V} {o:Option Value} (r:um (some v) o):∃ u,o=some u∧qt v u:=by
 cases o with
 | none=>exact (show False from r).elim
 | some u=>exact⟨u,rfl,r⟩
theorem um.none_of {o:Option Value} (r:um none o):o=none:=by
 cases o with
 | none=>rfl
 | some u=>exact (show False from r).elim
theorem G5 {v:V} {u:Value} (r:qt v u):PySem.W.handedIn u=true:=by
 cases v with
 | non=>cases (show u=Value.none from r);rfl
 | bl b=>cases (show u=Value.bool b from r);rfl
 | int i=>obtain⟨t,e⟩:=(show ∃ t,u=Value.int i t from r);cases e;rfl
 | str x=>obtain⟨t,e⟩:=(show ∃ t,u=Value.str x t from r);cases e;rfl
 | byt b=>obtain⟨t,e⟩:=(show ∃ t,u=Value.bytes b t from r);cases e;rfl
 | flt b=>obtain⟨t,e⟩:=(show ∃ t,u=Value.float b t from r);cases e;rfl
 | ref a=>cases (show u=Value.ref a from r);rfl
 | ty n=>cases (show u=Value.type n from r);rfl
section
variable {P:Program} {w:World} {H H':Hp} {h h':Heap} {a C dx:Addr} {fs fs':List (Str × V)}
theorem Qo (hok:uK P w H h) (e:H a=some (.ins C dx fs)):∃ mA,gc h a dx C mA∧(∀ f,um (fs.lookup f) (mA f))∧PySem.Within mA (fs.map (·.1))∧fs.length≤1000∧H dx=some (.own a):=by
 obtain⟨d,z,ne,ob,mA,n,r,q⟩:=(show yd P w H h a (.ins C dx fs) from hok a _ e)
 exact⟨mA,⟨ob,n,ne⟩,r,q,z,d⟩
end
structure w5 (K:BFr) (C:Addr):Prop where
 pg:PySem.W.plainGet K C Str.empty=true
 hd:PySem.W.hasDictIn K C=true
 po:PySem.W.plainOver K C=true
 sa:BfS K C
theorem w5.get {K:BFr} {C:Addr} (c:w5 K C) (f:Str):PySem.W.plainGet K C f=true:=c.pg
noncomputable def zT (K:BFr) (C:Addr) (f:Str):Prop:=PySem.W.findIn K (.ref C) f=some none
theorem zT.taker {K:BFr} {C:Addr} {f:Str} (n:zT K C f):PySem.W.takerIn K C f=some none:=by
 unfold PySem.W.takerIn
 rw[show PySem.W.findIn K (.ref C) f=some none from n]
 rfl
structure Xz (K:BFr) (C:Addr) (m:Str) (f:Addr):Prop where
 at_:PySem.W.findIn K (.ref C) m=some (some (.ref f))
 fn:PySem.W.isFn K (.ref f)=true
 kp:PySem.W.keepIn K (.ref f)=true
section
variable {X:Cx} {pins:List (Addr × Obj)} {σ:St} {H:Hp} {s:Shared} {a C dx:Addr} {fs:List (Str × V)} {f:Str} {v:V} {A:Around} {E:Value→Shared→Prop}
theorem gz {b:Bool} {Q:Value→Shared→Prop} (I:zI X pins σ H s) (e:H a=some (.ins C dx fs)) (c:w5 X.K C) (n:zT X.K C f) (l:fs.lookup f=some v) (h:∀ u s',zI X pins σ H s'→qt v u→Q u s'):wpAny (model X.prog X.w) A (getAttr (.ref a) f b) Q E s:=by
 obtain⟨mA,O,r,_,_,_⟩:=Qo I.hok e
 obtain⟨u,hu,ru⟩:=um.some_of (v:=v) (o:=mA f) (by rw[← l];exact r f)
 exact Nq I.kIn O (c.get f) c.hd n hu (G5 ru) (h u _ (I.tok _) ru)
theorem wO {m:Str} {g:Addr} {pl:Sem Bool} {Q:Value × List Value→Shared→Prop} (I:zI X pins σ H s) (e:H a=some (.ins C dx fs)) (c:w5 X.K C) (k:Xz X.K C m g) (l:fs.lookup m=none) (h:Q (.ref g,[.ref a]) s):wpAny (model X.prog X.w) A (getMethod (.ref a) m pl) Q E s:=by
 obtain⟨mA,O,r,_,_,_⟩:=Qo I.hok e
 have hn:mA m=none:=um.none_of (by rw[← l];exact r m)
 exact LY I.kIn O (c.get m) k.at_ k.fn hn h
theorem xH {y:V} {u:Value} {Q:Unit→Shared→Prop} (I:zI X pins σ H s) (e:H a=some (.ins C dx fs)) (c:w5 X.K C) (n:zT X.K C f) (hl:fs.length<1000) (ry:qt y u) (h:∀ s',zI X pins σ (upd H a (.ins C dx (jE f y fs))) s'→Q () s'):wpAny (model X.prog X.w) A (setAttr (.ref a) f u) Q E s:=by
 obtain⟨mA,O,r,wi,_,ho⟩:=Qo I.hok e
 have hz:(fs.map (·.1)).length≤sizeLine:=by rw[CY,sizeLine_eq];omega
 refine M5 I.kIn O c.sa c.po n.taker c.hd wi hz fun h' O' sb=>h _ ?_
 have hd:∃ o,h'.get? dx=some o:=let ⟨o,_,_,e',_⟩:=O'.ns;⟨o,e'⟩
 refine I.write (x:=a) (e:=dx) (by rw[e];exact True.intro) (.inr ho) (fun b q hb z=>(sb.2 b hb).trans z) hd ?_
 refine⟨by rw[zm O.ne];exact ho,?_,O.ne,O'.obj,_,O'.ns,fun g=>?_,fun g hg=>?_⟩
 ·have:=ZP f y fs;omega
 ·show um ((jE f y fs).lookup g) (if g=f then some u else mA g)
  rw[ZS]
  by_cases q:g=f
  ·rw[if_pos q,if_pos q];exact ry
  ·rw[if_neg q,if_neg q];exact r g
 ·by_cases q:g=f
  ·rw[q];exact (Zn f y fs).1
  ·refine (Zn f y fs).2 g (wi g fun z=>hg ?_)
   show (if g=f then some u else mA g)=none
   rw[if_neg q];exact z
theorem zI.made (I:zI X pins σ H s):zI X pins σ (upd (upd H s.heap.objs.size (.own (s.heap.objs.size+1))) (s.heap.objs.size+1) (.ins C s.heap.objs.size []))
  { s with heap:=(s.heap.push PySem.W.emptyDict).push (PySem.W.instObj C s.heap.objs.size) }:=by
 have e1:(s.heap.push PySem.W.emptyDict).get? s.heap.objs.size=some PySem.W.emptyDict:=dR s.heap rfl
 have e2:((s.heap.push PySem.W.emptyDict).push (PySem.W.instObj C s.heap.objs.size)).get? (s.heap.objs.size+1)=some (PySem.W.instObj C s.heap.objs.size):=by
  have:=dR (s.heap.push PySem.W.emptyDict) (o:=PySem.W.instObj C s.heap.objs.size) rfl
  rwa [DZ] at this
 have e3:(s.heap.push PySem.W.emptyDict).Ns s.heap.objs.size (fun _=>none):=⟨PySem.W.emptyDict,#[],_,e1,rfl,(fun e he=>absurd he (by simp)),fun _=>rfl⟩
 have I1:=I.laid (a:=s.heap.objs.size) (o:=.own (s.heap.objs.size+1)) (h':=s.heap.push PySem.W.emptyDict) (t':=s.toks) (fun b u q=>dH _ q) (CZ _) ⟨_,e1⟩
 refine I1.laid (a:=s.heap.objs.size+1) (o:=.ins C s.heap.objs.size []) (t':=s.toks) (fun b u q=>dH _ q) (Nat.le_of_eq (DZ _ _)) ?_
 have ne:s.heap.objs.size≠s.heap.objs.size+1:=dO (ee _)
 refine⟨by rw[zm ne,zp],d6 _,ne,e2,fun _=>none,(Heap.Ns1.of_empty e3).at fun o q=>dH _ q,fun _=>True.intro,fun y hy=>absurd rfl hy⟩
theorem MV {prog:Program} {w:World} {env:Env} {e:Expr} {f:Str} {pos:Pos} {s:Shared} {Q:Value→Shared→Prop} (hb:attributeBase e f env (eval e env)=eval e env) (h:wpAny (model prog w) A (eval e env) (fun o s₁=>wpAny (model prog w) A (getAttr o f true) Q E s₁) E s):wpAny (model prog w) A (eval (.Attribute e f pos) env) Q E s :=
 Attribute_any_ h (by rw[arm_eval_Attribute,hb])
end
noncomputable def Py (K:BFr) (ta:TE) (f:Str):TE:=fun σ H Q=>ta σ H fun x H1=>∃ a C dx fs v,x = .ref a∧H1 a=some (.ins C dx fs)∧w5 K C∧zT K C f∧fs.lookup f=some v∧Q v H1
noncomputable def cH (K:BFr) (ta tv:TE) (f:Str):TS:=fun D σ H=>tv σ H fun y H1=>ta σ H1 fun x H2=>∃ a C dx fs,x = .ref a∧H2 a=some (.ins C dx fs)∧w5 K C∧zT K C f∧fs.length<1000 ∧
 D.nx σ (upd H2 a (.ins C dx (jE f y fs)))
section
variable {X:Cx} {o e value:Expr} {f:Str} {pos pos' tpos:Pos} {ta tv:TE}
theorem zN (he:PE X e ta) (hb:attributeBase e f X.env (eval e X.env)=eval e X.env):PE X (.Attribute e f pos) (Py X.K ta f):=by
 intro pins s σ H Q I h
 refine MV hb (yc (he pins s σ H _ I h) fun u s1 ⟨x,H1,I1,rx,a,C,dx,fs,v,ex,ea,c,n,l,q⟩=>?_)
 subst ex
 obtain rfl:u=Value.ref a:=rx
 exact gz I1 ea c n l fun u' s2 I2 ru=>⟨v,H1,I2,ru,q⟩
theorem yS (ha:PE X o ta) (hv:PE X value tv) (hs:swapsWith value (some (.Attribute o f pos')) pos.line X.env=pure false):PS X (.Assign [.Attribute o f pos'] value pos) (cH X.K ta tv f):=by
 intro pins s σ H D I h
 refine plainObj_wpAny_Assign_Attribute (yc (hv pins s σ H _ I h) fun u s1 ⟨y,H1,I1,ry,q⟩=>yc (ha pins s1 σ H1 _ I1 q) fun ov s2 ⟨x,H2,I2,rx,a,C,dx,fs,ex,ea,c,n,l,q2⟩=>?_) hs
 subst ex
 obtain rfl:ov=Value.ref a:=rx
 exact xH I2 ea c n l ry fun s3 I3=>⟨σ,_,I3,q2⟩
theorem rF {pl:Sem Bool} {m:Str} {apos:Pos} {args:List Expr} {pins:List (Addr × Obj)} {s:Shared} {σ:St} {H:Hp} {Q:Value→Shared→Prop} {te:TE} (he:PE X e te) (I:zI X pins σ H s) (h:te σ H fun x H1=>∃ a C dx fs g,x = .ref a∧H1 a=some (.ins C dx fs)∧w5 X.K C∧Xz X.K C m g∧fs.lookup m=none ∧
   ∀ s1,zI X pins σ H1 s1→wpAny (model X.prog X.w) X.A (callWith pos (.ref g) [.ref a] (backTo pos (starEach args X.env)) (backToKw pos (keywordEach [] X.env))) Q X.xe s1) (ht:eval (.Call (.Attribute e m apos) args [] pos) X.env=(do
   let ov ← eval e X.env
   standAt apos.atName
   let (f,first) ← holding [ov] (getMethod ov m pl)
   callWith pos f first (backTo pos (starEach args X.env)) (backToKw pos (keywordEach [] X.env)))) :
  wpAny (model X.prog X.w) X.A (eval (.Call (.Attribute e m apos) args [] pos) X.env) Q X.xe s:=by
 refine PySem.W.methodCall_KW (pl:=pl) (yc (he pins s σ H _ I h) fun u s1 ⟨x,H1,I1,rx,a,C,dx,fs,g,ex,ea,c,k,l,q⟩=>?_) ht
 subst ex
 obtain rfl:u=Value.ref a:=rx
 exact wO I1 ea c k l (q s1 I1)
end
section
variable {X:Cx} {pins:List (Addr × Obj)} {σ:St} {H:Hp} {s:Shared} {A:Around} {E:Value→Shared→Prop} {Q:Value→Shared→Prop} {c:Value} {b:Bool}
inductive kg (K:BFr) (H:Hp):V→Value→Prop where
 | non:kg K H .non (.type "NoneType")
 | bl (x:Bool):kg K H (.bl x) (.type "bool")
 | int (i:Int):kg K H (.int i) (.type "int")
 | str (x:Str):kg K H (.str x) (.type "str")
 | flt (x:UInt64):kg K H (.flt x) (.type "float")
 | lst {a:Addr} {xs:List V} (e:H a=some (.lst xs)):kg K H (.ref a) (.type "list")
 | frz {a:Addr} {o:Obj} {xs:List V} (e:H a=some (.frz o (.lst xs))):kg K H (.ref a) (.type "list")
 | tup {a:Addr} {xs:List V} (e:H a=some (.tup xs)):kg K H (.ref a) (.type "tuple")
 | dK {a:Addr} {kvs:List (yp × V)} (e:H a=some (.dK kvs)):kg K H (.ref a) (.type "dict")
 | dT {a:Addr} {kvs:List (List yp × V)} (e:H a=some (.dT kvs)):kg K H (.ref a) (.type "dict")
 | ins {a C dx:Addr} {fs:List (Str × V)} (e:H a=some (.ins C dx fs)) (cl:w5 K C) (ha:BfC K C) (hn:PySem.W.specialIn K (.builtin "object.__class__") "__get__" = some (some (.builtin "getset_descriptor.__get__"))) (htk:PySem.W.takesIn K (.builtin "object.__class__")=some true) (hm:PySem.W.mroIn K C (.type "object")=some true):kg K H (.ref a) (.ref C)
theorem OR {x:V} {u t:Value} (I:zI X pins σ H s) (rx:qt x u) (ty:kg X.K H x t) (e:PySem.W.kitOne X.K t c=some b) (h:∀ tk,Q (.bool b) { s with toks:=tk }) :
  wpAny (model X.prog X.w) A (call (.builtin "isinstance") [u,c]) Q E s:=by
 cases ty with
 | non=>cases (show u=Value.none from rx);exact PySem.W.kia_one PySem.W.kitx_none I.kIn True.intro e (fun z=>nomatch z) h
 | bl y=>cases (show u=Value.bool y from rx);exact PySem.W.kia_one PySem.W.kitx_bool I.kIn True.intro e (fun z=>nomatch z) h
 | int i=>obtain⟨t,q⟩:=(show ∃ t,u=Value.int i t from rx);cases q;exact PySem.W.kia_one PySem.W.kitx_int I.kIn True.intro e (fun z=>nomatch z) h
 | str y=>obtain⟨t,q⟩:=(show ∃ t,u=Value.str y t from rx);cases q;exact PySem.W.kia_one PySem.W.kitx_str I.kIn True.intro e (fun z=>nomatch z) h
 | flt y=>obtain⟨t,q⟩:=(show ∃ t,u=Value.float y t from rx);cases q;exact PySem.W.kia_one PySem.W.kitx_float I.kIn True.intro e (fun z=>nomatch z) h
 | @lst a xs ea =>
  cases (show u=Value.ref a from rx)
  obtain⟨_,_,n,_,h1⟩:=(show yd X.prog X.w H s.heap a (.lst xs) from I.hok a _ ea)
  exact PySem.W.kia_one PySem.W.kitx_list I.kIn ⟨_,h1,rfl⟩ e (fun z=>nomatch z) h
 | @frz a ob xs ea =>
  cases (show u=Value.ref a from rx)
  obtain⟨_,_,_,n,_,h1⟩:=(show yd X.prog X.w H s.heap a (.frz ob (.lst xs)) from I.hok a _ ea)
  exact PySem.W.kia_one PySem.W.kitx_list I.kIn ⟨_,h1,rfl⟩ e (fun z=>nomatch z) h
 | @tup a xs ea =>
  cases (show u=Value.ref a from rx)
  obtain⟨_,_,_,p⟩:=(show yd X.prog X.w H s.heap a (.tup xs) from I.hok a _ ea)
  obtain⟨o,h1,h2,_⟩:=p
  exact PySem.W.kia_one PySem.W.kitx_tuple I.kIn ⟨o,h1,h2⟩ e (fun z=>nomatch z) h
 | @dK a kvs ea =>
  cases (show u=Value.ref a from rx)
  obtain⟨_,_,vs,_,p⟩:=(show yd X.prog X.w H s.heap a (.dK kvs) from I.hok a _ ea)
  obtain⟨o,es,ep,h1,h2,_⟩:=p
  exact PySem.W.kia_one PySem.W.kitx_dict I.kIn ⟨o,h1,h2.1⟩ e (fun z=>nomatch z) h
 | @dT a kvs ea =>
  cases (show u=Value.ref a from rx)
  obtain⟨_,_,xs,_,o,es,ep,h1,h2,_⟩:=(show yd X.prog X.w H s.heap a (.dT kvs) from I.hok a _ ea)
  exact PySem.W.kia_one PySem.W.kitx_dict I.kIn ⟨o,h1,h2.1⟩ e (fun z=>nomatch z) h
 | @ins a C dx fs ea cl ha hn htk hm =>
  cases (show u=Value.ref a from rx)
  obtain⟨mA,O,_⟩:=Qo I.hok ea
  obtain⟨od,J,_⟩:=O.look
  exact PySem.W.kia_one (PySem.W.kitx_own (cl.get _) cl.hd ha hn htk hm) I.kIn J e (fun z=>nomatch z) h
end
structure yD (k:Nat) (A:Around):Prop where
 hd:A.handled=none
 dp:A.depth+3*k+5<recursionLimit
 un:A.units+16*k+200<cLine
theorem yD.mono {j k:Nat} {A:Around} (r:yD k A) (h:j≤k):yD j A:=⟨r.hd,by have:=r.dp;omega,by have:=r.un;omega⟩
theorem yD.deeper {k:Nat} {A:Around} (r:yD (k+1) A) (env:Env):yD k (A.deeper env) :=
 ⟨r.hd,by have:=r.dp;show A.depth+1+3*k+5<_;omega,by have:=r.un;show A.units+3+16*k+200<_;omega⟩
theorem X0 {A:Around} {C:Addr} {us:List Value} {kw:List (Str × Value)}:(A.under (.builtin "type.__call__" ⟨.ref C::us,kw⟩)).depth=A.depth+1:=by
 first | rfl | simp[Around.under,Code.weight,Code.isCreation,Code.isGuard,Code.isCaller,Code.frames,Code.isFrame,guardIds]
theorem XS {A:Around} {C:Addr} {us:List Value} {kw:List (Str × Value)}:(A.under (.builtin "type.__call__" ⟨.ref C::us,kw⟩)).units=A.units+1:=by
 first | rfl | simp[Around.under,Code.cUnits,Code.frames,Code.isFrame]
theorem yD.make {k:Nat} {A:Around} (r:yD (k+1) A) (C:Addr) (us:List Value) (kw:List (Str × Value)):yD k (A.under (.builtin "type.__call__" ⟨.ref C::us,kw⟩)) :=
 ⟨r.hd,by have:=r.dp;rw[X0];omega,by have:=r.un;rw[XS];omega⟩
theorem yD.depth {k:Nat} {A:Around} (r:yD k A):A.depth<recursionLimit:=by have:=r.dp;omega
theorem yD.units {k:Nat} {A:Around} (r:yD k A):A.units+64<cLine:=by have:=r.un;omega
theorem yD.units0 {k:Nat} {A:Around} (r:yD k A):A.units<cLine:=by have:=r.un;omega
noncomputable def yn:TA:=fun _ H Q=>Q [] H
noncomputable def qi (ta:TE) (tr:TA):TA:=fun σ H Q=>ta σ H fun x H1=>tr σ H1 fun xs H2=>Q (x::xs) H2
section
variable {X:Cx} {e:Expr} {es:List Expr} {te:TE} {t:TA} {pos:Pos}
theorem zd:PA X [] yn:=fun _ _ _ _ H Q I h=>Calls.spliced_nil ⟨[],H,I,.nil,h⟩
theorem za (ha:PE X e te) (hr:PA X es t) (hs:starEach (e::es) X.env=(false,eval e X.env)::starEach es X.env:=by exact qg rfl):PA X (e::es) (qi te t):=by
 intro pos pins s σ H Q I h
 rw[hs]
 show wpAny _ _ (spliced ((false,eval e X.env)::backTo pos (starEach es X.env))) _ _ s
 refine Calls.spliced_cons (yc (ha pins s σ H _ I h) fun u s1 ⟨x,H1,I1,r1,q1⟩=>?_)
 exact yc (hr pos pins s1 σ H1 _ I1 q1) fun us s2 ⟨xs,H2,I2,r2,q2⟩=>⟨x::xs,H2,I2,.cons r1 r2,q2⟩
end
abbrev Sp:=List V→Hp→VK→XK→Prop
abbrev kT:=List Env→Hp→Shared→XK→Value→Shared→Prop
structure xV (P:Program) (w:World) (K:BFr) (mg:Str→Option Value) (base:Heap) (A:Around) (outer:List Env) (s:Shared) (H:Hp):Prop where
 frames:A.frames=some outer
 mod:Mod K mg base
 bs:∀ b o,base.get? b=some o→s.heap.get? b=some o∧H b=none
 bsz:base.objs.size≤s.heap.objs.size
 funs:s.heap.FunFrames base outer
 frf:∀ b∈OV outer,H b=none
 hok:uK P w H s.heap
 bare:AllBare s.gens
noncomputable def CE (outer:List Env) (P:Program) (w:World) (H:Hp) (s:Shared) (Q:VK) (u:Value) (s':Shared):Prop :=
 ∃ v H',s'.os=s.os∧AllBare s'.gens∧Un (OV outer) [] H H' s.heap s'.heap∧uK P w H' s'.heap∧qt v u∧Q v H'
noncomputable def CR (CX:kT) (outer:List Env) (P:Program) (w:World) (H:Hp) (s:Shared) (Q:VK) (E:XK) (r:Result) (s':Shared):Prop :=
 match r with
 | .ok (.ret u)=>CE outer P w H s Q u s'
 | .ok _=>False
 | .error e=>CX outer H s E e s'
structure zH (P:Program) (w:World) (K:BFr) (mg:Str→Option Value) (base:Heap) (CX:kT) (k:Nat) (f:Addr) (fd:FuncData) (ps:List Str) (sp:Sp):Prop where
 len:∀ vs H Q E,sp vs H Q E→vs.length=ps.length
 run:∀ (A:Around) (outer:List Env) (s:Shared) (H:Hp) (args:Args) (us:List Value) (vs:List V) (Q:VK) (E:XK),yD k A→xV P w K mg base A outer s H→BindsTo s fd args (ps.zip us)→zX vs us→sp vs H Q E →
  codeAny (model P w) A (.call (.ref f) args) (CR CX outer P w H s Q E) s
theorem zH.mono {P:Program} {w:World} {K:BFr} {mg:Str→Option Value} {base:Heap} {CX:kT} {j k:Nat} {f:Addr} {fd:FuncData} {ps:List Str} {sp:Sp} (F:zH P w K mg base CX j f fd ps sp) (h:j≤k) :
  zH P w K mg base CX k f fd ps sp:=⟨F.len,fun A outer s H args us vs Q E hr=>F.run A outer s H args us vs Q E (hr.mono h)⟩
theorem zH.imp {P:Program} {w:World} {K:BFr} {mg:Str→Option Value} {base:Heap} {CX:kT} {k:Nat} {f:Addr} {fd:FuncData} {ps:List Str} {sp sp':Sp} (F:zH P w K mg base CX k f fd ps sp) (h:∀ vs H Q E,sp' vs H Q E→sp vs H Q E):zH P w K mg base CX k f fd ps sp' :=
 ⟨fun vs H Q E q=>F.len vs H Q E (h _ _ _ _ q),fun A outer s H args us vs Q E hr he hb hv hs=>F.run A outer s H args us vs Q E hr he hb hv (h _ _ _ _ hs)⟩
theorem xV.make {P:Program} {w:World} {K:BFr} {mg:Str→Option Value} {base:Heap} {A:Around} {outer:List Env} {s:Shared} {H:Hp} (e:xV P w K mg base A outer s H) (C:Addr) (us:List Value) (kw:List (Str × Value)) :
  xV P w K mg base (A.under (.builtin "type.__call__" ⟨.ref C::us,kw⟩)) outer s H:=⟨by first | exact e.frames | (simpa [Around.under,Code.envs,Code.isFrame,pushEnvs] using e.frames),e.mod,e.bs,e.bsz,e.funs,e.frf,e.hok,e.bare⟩
section
variable {X:Cx} {pins:List (Addr × Obj)} {σ:St} {H:Hp} {s s':Shared}
theorem zI.env0 (I:zI X pins σ H s):xV X.prog X.w X.K X.mg X.base X.A X.stack s H :=
 ⟨I.ok.frames,I.ok.mod,I.bs,dG I.ok.bsz I.sz,I.stack,I.stkFree,I.hok,I.bare⟩
theorem zI.after {Q:VK} {u:Value} (I:zI X pins σ H s) (h:CE X.stack X.prog X.w H s Q u s'):EP X pins σ Q u s':=by
 obtain⟨v,H',os,bare,un,hok,r,q⟩:=h
 obtain⟨hh,g,d,t,os'⟩:=s'
 obtain rfl:os'=s.os:=os
 exact⟨v,H',I.call (h':=hh) (g':=g) (d':=d) (t':=t) (ch:=[]) un hok bare (fun b z=>absurd z (by simp)),r,q⟩
end
noncomputable def rB (sp:Sp) (dvs:List V) (E:XK) (t:TA):TE:=fun σ H Q=>t σ H fun vs H1=>sp (vs++dvs) H1 Q E
noncomputable def GQ (C:Addr) (m:Str) (sp:Sp) (dvs:List V) (E:XK) (ta:TE) (t:TA):TE:=fun σ H Q=>ta σ H fun x H1=>∃ a dx fs,x = .ref a∧H1 a=some (.ins C dx fs)∧fs.lookup m=none ∧
 t σ H1 fun vs H2=>sp (x::(vs++dvs)) H2 Q E
noncomputable def gF (C:Addr) (sp:Sp) (dvs:List V) (E:XK) (t:TA):TE:=fun σ H Q=>t σ H fun vs H1=>∀ x dx,H1 x=none→H1 dx=none→dx≠x →
 sp (.ref x::(vs++dvs)) (upd (upd H1 dx (.own x)) x (.ins C dx [])) (fun v H2=>v = .non∧Q (.ref x) H2) E
noncomputable def vx (K:BFr) (fd:FuncData) (ps:List Str) (ds:List Value):Prop :=
 ∀ (s:Shared) (us:List Value),K.In s.heap→(us++ds).length=ps.length→BindsTo s fd ⟨us,[]⟩ (ps.zip (us++ds))
theorem vx.all {K:BFr} {fd:FuncData} {ps:List Str} (h:∀ us:List Value,us.length=ps.length→bindArgs fd ⟨us,[]⟩=pure (ps.zip us)):vx K fd ps []:=fun s us _ hl=>by
 rw[d9] at hl ⊢
 exact .of_eq (h us hl)
noncomputable def yN (CX:kT) (X:Cx) (E:XK):Prop:=∀ (pins:List (Addr × Obj)) (σ:St) (H:Hp) (s:Shared) (e:Value) (s':Shared),zI X pins σ H s→CX X.stack H s E e s'→X.xe e s'
section
variable {X:Cx} {CX:kT} {k:Nat} {f C:Addr} {fd:FuncData} {ps:List Str} {sp:Sp} {dvs:List V} {ds:List Value} {E:XK} {x m:Str} {p pos apos:Pos} {e o:Expr} {es:List Expr} {ta:TE} {t:TA}
theorem V2 {pins:List (Addr × Obj)} {σ:St} {H:Hp} {s:Shared} {Q:VK} {us:List Value} {vs:List V} (F:zH X.prog X.w X.K X.mg X.base CX k f fd ps sp) (hr:yD k X.A) (hb:vx X.K fd ps ds) (hd:zX dvs ds) (hx:yN CX X E) (I:zI X pins σ H s) (r:zX vs us) (h:sp (vs++dvs) H Q E):wpAny (model X.prog X.w) X.A (call (.ref f) us) (EP X pins σ Q) X.xe s:=by
 have r2:zX (vs++dvs) (us++ds):=r.append hd
 have hl:(us++ds).length=ps.length:=by rw[← r2.length];exact F.len _ _ _ _ h
 refine wpAny_call (codeAny_mono (F.run X.A X.stack s H ⟨us,[]⟩ (us++ds) (vs++dvs) Q E hr I.env0 (hb s us I.kIn hl) r2 h) fun r s' hq=>?_)
 cases r with
 | error e=>exact hx pins σ H s e s' I hq
 | ok fl =>
  cases fl with
  | ret u=>exact I.after hq
  | next=>exact False.elim hq
  | brk=>exact False.elim hq
  | cont=>exact False.elim hq
theorem NI (F:zH X.prog X.w X.K X.mg X.base CX k f fd ps sp) (hr:yD k X.A) (hg:Gl X x) (hm:X.mg x=some (.ref f)) (hk:PySem.W.keepIn X.K (.ref f)=true) (hb:vx X.K fd ps ds) (hd:zX dvs ds) (hx:yN CX X E) (ha:PA X (e::es) t) (hdb:(x==("__debug__":Str))=false:=by decide) (he:starEach (e::es) X.env=(false,eval e X.env)::starEach es X.env:=by exact qg rfl) (hpl:(backTo pos (starEach es X.env)).any (·.1)=false:=by exact jn rfl) :
  PE X (.Call (.Name x p) (e::es) [] pos) (rB sp dvs E t):=by
 intro pins s σ H Q I h
 refine wpAny_Call_Name_kw (u5 I hg hm ?_ hdb)
 refine PySem.W.callWith_K (h₀:=X.base) I.ok.mod.kin hk (yc (ha pos pins s σ H _ I h) fun us s1 ⟨vs,H1,I1,r,q⟩=>⟨I1.kIn,?_⟩) he hpl
 exact V2 F hr hb hd hx I1 r q
theorem nq {pl:Sem Bool} (he:PE X o ta) (c:w5 X.K C) (hm:Xz X.K C m f) (F:zH X.prog X.w X.K X.mg X.base CX k f fd ps sp) (hr:yD k X.A) (hb:vx X.K fd ps ds) (hd:zX dvs ds) (hx:yN CX X E) (ha:PA X (e::es) t) (hst:starEach (e::es) X.env=(false,eval e X.env)::starEach es X.env:=by exact qg rfl) (hpl:(backTo pos (starEach es X.env)).any (·.1)=false:=by exact jn rfl) (ht:eval (.Call (.Attribute o m apos) (e::es) [] pos) X.env=(do
   let ov ← eval o X.env
   standAt apos.atName
   let (f,first) ← holding [ov] (getMethod ov m pl)
   callWith pos f first (backTo pos (starEach (e::es) X.env)) (backToKw pos (keywordEach [] X.env))):=by rfl) :
  PE X (.Call (.Attribute o m apos) (e::es) [] pos) (GQ C m sp dvs E ta t):=by
 intro pins s σ H Q I h
 refine PySem.W.methodCall_KW (pl:=pl) (yc (he pins s σ H _ I h) fun u s1 ⟨x,H1,I1,rx,a,dx,fs,ex,ea,l,q⟩=>?_) ht
 subst ex
 obtain rfl:u=Value.ref a:=rx
 refine wO I1 ea c hm l ?_
 refine PySem.W.callWith_K (first:=[.ref a]) (h₀:=X.base) I.ok.mod.kin hm.kp (yc (ha pos pins s1 σ H1 _ I1 q) fun us s2 ⟨vs,H2,I2,r,q2⟩=>⟨I2.kIn,?_⟩) hst hpl
 exact V2 (us:=.ref a::us) (vs:=.ref a::vs) F hr hb hd hx I2 (.cons rfl r) q2
theorem Pz {pl:Sem Bool} (he:PE X o ta) (c:w5 X.K C) (hm:Xz X.K C m f) (F:zH X.prog X.w X.K X.mg X.base CX k f fd ps sp) (hr:yD k X.A) (hb:vx X.K fd ps ds) (hd:zX dvs ds) (hx:yN CX X E) (ht:eval (.Call (.Attribute o m apos) [] [] pos) X.env=(do
   let ov ← eval o X.env
   standAt apos.atName
   let (f,first) ← holding [ov] (getMethod ov m pl)
   callWith pos f first (backTo pos (starEach [] X.env)) (backToKw pos (keywordEach [] X.env))):=by rfl) :
  PE X (.Call (.Attribute o m apos) [] [] pos) (GQ C m sp dvs E ta yn):=by
 intro pins s σ H Q I h
 refine PySem.W.methodCall_KW (pl:=pl) (yc (he pins s σ H _ I h) fun u s1 ⟨x,H1,I1,rx,a,dx,fs,ex,ea,l,q⟩=>?_) ht
 subst ex
 obtain rfl:u=Value.ref a:=rx
 refine wO I1 ea c hm l ?_
 exact PySem.W.callWith_K0 (first:=[.ref a]) I1.kIn hm.kp (V2 (us:=[.ref a]) (vs:=[.ref a]) F hr hb hd hx I1 (.cons rfl .nil) q)
structure Mk (K:BFr) (C f:Addr):Prop where
 makes:PySem.W.makesIn K C=true
 init:PySem.W.findIn K (.ref C) "__init__" = some (some (.ref f))
 fn:PySem.W.isFn K (.ref f)=true
 kp:PySem.W.keepIn K (.ref C)=true
theorem UN {pins:List (Addr × Obj)} {σ:St} {H:Hp} {s:Shared} {Q:VK} {us:List Value} {vs:List V} (M:Mk X.K C f) (F:zH X.prog X.w X.K X.mg X.base CX k f fd ps sp) (hr:yD (k+1) X.A) (hb:vx X.K fd ps ds) (hd:zX dvs ds) (hx:yN CX X E) (I:zI X pins σ H s) (r:zX vs us) (h:∀ x dx,H x=none→H dx=none→dx≠x→sp (.ref x::(vs++dvs)) (upd (upd H dx (.own x)) x (.ins C dx [])) (fun v H2=>v = .non∧Q (.ref x) H2) E) :
  wpAny (model X.prog X.w) X.A (call (.ref C) us) (EP X pins σ Q) X.xe s:=by
 have hq:=h (s.heap.objs.size+1) s.heap.objs.size (I.hok.fresh (Nat.le_succ _)) (I.hok.fresh (CZ _)) (dO (ee _))
 have I2:=zI.made (C:=C) I
 have r2:zX (V.ref (s.heap.objs.size+1)::(vs++dvs)) (Value.ref (s.heap.objs.size+1)::(us++ds)):=.cons rfl (r.append hd)
 have hl:(Value.ref (s.heap.objs.size+1)::us++ds).length=ps.length:=by
  have e:=r2.length
  rw[F.len _ _ _ _ hq] at e
  exact e.symm
 refine wpAny_call (lu (f:=f) I.kIn M.makes M.init (beq_iff_eq.mp M.fn) (codeAny_mono (F.run _ X.stack _ _ ⟨Value.ref (s.heap.objs.size+1)::us,[]⟩ (Value.ref (s.heap.objs.size+1)::(us++ds)) _ _ E (hr.make C us [])
  (I2.env0.make C us []) (hb _ (Value.ref (s.heap.objs.size+1)::us) I2.kIn hl) r2 hq) fun r s' hq'=>?_))
 cases r with
 | error e=>exact hx pins σ _ _ e s' I2 hq'
 | ok fl =>
  cases fl with
  | ret u =>
   obtain⟨v,H',I3,rv,ev,q3⟩:=I2.after hq'
   subst ev
   exact⟨rv,⟨V.ref (s.heap.objs.size+1),H',I3,rfl,q3⟩⟩
  | next=>exact False.elim hq'
  | brk=>exact False.elim hq'
  | cont=>exact False.elim hq'
theorem NK (M:Mk X.K C f) (F:zH X.prog X.w X.K X.mg X.base CX k f fd ps sp) (hr:yD (k+1) X.A) (hg:Gl X x) (hm:X.mg x=some (.ref C)) (hb:vx X.K fd ps ds) (hd:zX dvs ds) (hx:yN CX X E) (ha:PA X (e::es) t) (hdb:(x==("__debug__":Str))=false:=by decide) (he:starEach (e::es) X.env=(false,eval e X.env)::starEach es X.env:=by exact qg rfl) (hpl:(backTo pos (starEach es X.env)).any (·.1)=false:=by exact jn rfl) :
  PE X (.Call (.Name x p) (e::es) [] pos) (gF C sp dvs E t):=by
 intro pins s σ H Q I h
 refine wpAny_Call_Name_kw (u5 I hg hm ?_ hdb)
 refine PySem.W.callWith_K (h₀:=X.base) I.ok.mod.kin M.kp (yc (ha pos pins s σ H _ I h) fun us s1 ⟨vs,H1,I1,r,q⟩=>⟨I1.kIn,?_⟩) he hpl
 exact UN M F hr hb hd hx I1 r q
theorem Lg (M:Mk X.K C f) (F:zH X.prog X.w X.K X.mg X.base CX k f fd ps sp) (hr:yD (k+1) X.A) (hg:Gl X x) (hm:X.mg x=some (.ref C)) (hb:vx X.K fd ps ds) (hd:zX dvs ds) (hx:yN CX X E) (hdb:(x==("__debug__":Str))=false:=by decide):PE X (.Call (.Name x p) [] [] pos) (gF C sp dvs E yn):=by
 intro pins s σ H Q I h
 refine wpAny_Call_Name_kw (u5 I hg hm ?_ hdb)
 exact PySem.W.callWith_K0 I.kIn M.kp (UN (us:=[]) M F hr hb hd hx I .nil h)
end
noncomputable def PK (X:Cx) (kws:List Keyword) (t:TA):Prop :=
 ∀ (pos:Pos) (pins:List (Addr × Obj)) (s:Shared) (σ:St) (H:Hp) (Q:List V→Hp→Prop),zI X pins σ H s→t σ H Q→wpAny (model X.prog X.w) X.A (evalAll ((backToKw pos (keywordEach kws X.env)).map (·.2))) (AP X pins σ Q) X.xe s
section
variable {X:Cx} {CX:kT} {k:Nat} {f C:Addr} {fd:FuncData} {ps ks:List Str} {sp:Sp} {E:XK} {x m:Str} {p pos apos kpos:Pos} {e o:Expr} {es:List Expr} {kws:List Keyword} {te ta:TE} {t tk:TA} {nm:Option Str}
variable {g:List Value→List Value→List Value} {gV:List V→List V→List V}
end
structure Qe (N P:List Str) (sc:Scope):Prop where
 kind:sc.kind = .function
 co:sc.isCoroutine=false
 gen:sc.isGenerator=false
 nd:N.Nodup
 pre:N.take P.length=P
 par:∀ x∈P,sc.names.lookup x=some .local∨sc.names.lookup x=some .cell
 nofree:∀ y∈sc.names,y.2≠.free
theorem Vd {kindOf:Str→Option NameKind} {x:Str}:∀ {binds:List (Str × Value)} {m:Str→Option Value},(∀ v,(x,v)∉binds)→bindL kindOf binds m x=m x
 | [],_,_=>rfl
 | (n,v)::r,m,h=>by
  unfold bindL
  rw[Vd fun w hw=>h w (dQ _ hw)]
  split
  ·have:x≠n:=by rintro rfl;exact h v dq
   simp[this]
  ·rfl
theorem JP {kindOf:Str→Option NameKind} {x:Str}:∀ {binds:List (Str × Value)} {m:Str→Option Value},(∀ v,(x,v)∉binds)→bindC kindOf binds m x=m x
 | [],_,_=>rfl
 | (n,v)::r,m,h=>by
  unfold bindC
  rw[JP fun w hw=>h w (dQ _ hw)]
  split
  ·rfl
  ·have:x≠n:=by rintro rfl;exact h v dq
   simp[this]
theorem JL {kindOf:Str→Option NameKind} {x:Str} {v:Value}:∀ {P:List Str} {vs:List Value} {i:Nat} {m:Str→Option Value},P.Nodup→P[i]? = some x→vs[i]? = some v→kindOf x=some .local →
  bindL kindOf (P.zip vs) m x=some v
 | [],_,_,_,_,h,_,_=>by simp at h
 | _::_,[],_,_,_,_,h,_=>by simp at h
 | p::P,w::vs,0,m,nd,h1,h2,hk=>by
  simp at h1 h2;subst h1;subst h2
  show bindL kindOf ((p,w)::P.zip vs) m p=_
  unfold bindL
  rw[Vd fun v hv=>(Dm.mp nd).1 (eP hv).1,if_pos hk]
  simp
 | p::P,w::vs,i+1,m,nd,h1,h2,hk=>by
  show bindL kindOf ((p,w)::P.zip vs) m x=_
  unfold bindL
  exact JL (i:=i) (Dm.mp nd).2 (by simpa using h1) (by simpa using h2) hk
theorem Vg {kindOf:Str→Option NameKind} {x:Str} {v:Value}:∀ {P:List Str} {vs:List Value} {i:Nat} {m:Str→Option Value},P.Nodup→P[i]? = some x→vs[i]? = some v→kindOf x≠some .local →
  bindC kindOf (P.zip vs) m x=some v
 | [],_,_,_,_,h,_,_=>by simp at h
 | _::_,[],_,_,_,_,h,_=>by simp at h
 | p::P,w::vs,0,m,nd,h1,h2,hk=>by
  simp at h1 h2;subst h1;subst h2
  show bindC kindOf ((p,w)::P.zip vs) m p=_
  unfold bindC
  rw[JP fun v hv=>(Dm.mp nd).1 (eP hv).1,if_neg hk]
  simp
 | p::P,w::vs,i+1,m,nd,h1,h2,hk=>by
  show bindC kindOf ((p,w)::P.zip vs) m x=_
  unfold bindC
  exact Vg (i:=i) (Dm.mp nd).2 (by simpa using h1) (by simpa using h2) hk
noncomputable def kH (N:List Str) (vs:List V):St:=vs.map some++List.replicate (N.length - vs.length) none
noncomputable def Yx (CX:kT) (P:Program) (w:World) (K:BFr) (mg:Str→Option Value) (base:Heap) (N:List Str) (qual:Str) (scope:Scope) (f:Addr) (cd:Value) (A:Around) (outer:List Env) (s:Shared) (H:Hp) (E:XK):Cx where
 prog:=P
 w:=w
 K:=K
 mg:=mg
 base:=base
 A:=A.deeper (envOfC qual scope s.heap.objs.size f cd)
 N:=N
 s₀:=s
 H₀:=H
 env:=envOfC qual scope s.heap.objs.size f cd
 outer:=outer
 stack:=envOfC qual scope s.heap.objs.size f cd::outer
 ex:=[]
 calm:=true
 fn:=fun _=>true
 pn:=[]
 xe:=fun e s'=>wpAny (model P w) (A.deeper (envOfC qual scope s.heap.objs.size f cd)) (leaving (envOfC qual scope s.heap.objs.size f cd) e) (fun _ s''=>CX outer H s E e s'') (fun e' s''=>CX outer H s E e' s'') s'
theorem Wv {sc:Scope} {n:Nat} {x:Str} (h:sc.names.lookup x=some .cell):∃ c,(cellsFrom n sc.names []).lookup x=some c:=by
 have q:=PySem.W.cellsFrom_some sc.names n [] (.inl h)
 exact DJ.mp q
theorem oZ {CX:kT} {P:Program} {w:World} {K:BFr} {mg:Str→Option Value} {base:Heap} {N ps:List Str} {qual:Str} {scope:Scope} {f:Addr} {cd:Value} {A:Around} {outer:List Env} {s s1:Shared} {H:Hp} {E:XK} {us:List Value} {vs:List V}
  (S:Qe N ps scope) (hd:A.handled=none) (e0:xV P w K mg base A outer s H) (hl:vs.length=ps.length) (r:zX vs us) (x:InCallC s s.heap.objs.size (bindL (envOfC qual scope s.heap.objs.size f cd).kindOf (ps.zip us) fun _=>none) (cellsFrom (s.heap.objs.size+1) scope.names []) (bindC (envOfC qual scope s.heap.objs.size f cd).kindOf (ps.zip us) fun _=>none) s1) :
  zI (Yx CX P w K mg base N qual scope f cd A outer s H E) [] (kH N vs) H s1:=by
 have hpl:ps.length≤N.length:=by have:=congrArg List.length S.pre;rw[dP] at this;omega
 obtain⟨h1,tk,rfl,hk⟩:=x.done
 have noA:∀ b:Addr,b∉(Yx CX P w K mg base N qual scope f cd A outer s H E).ex:=fun b z=>absurd (show b∈([]:List Addr) from z) (by simp)
 refine⟨⟨e0.mod,S.kind,rfl,rfl,CZ _,fun y z c h1 h2=>?_,fun y hy=>?_,fun y c _ h=>?_,fun _=>hd,Around.frames_deeper e0.frames,.inr ⟨rfl,rfl⟩,fun b z=>absurd z (noA b),e0.bs,e0.bsz,fun b _ _=>noA b,fun b z=>absurd z (noA b),e0.funs,e0.frf⟩,
  rfl,e0.bare,Un.kept hk,⟨_,x.toInCall.ns,fun i y v h1 h2 h3=>?_⟩,fun y c h=>⟨_,x.cell y c h⟩,e0.hok.fresh (CZ _),fun y c h=>?_,fun p hp=>absurd (show p∈([]:List (Addr × Obj)) from hp) (by simp),e0.hok.kept hk,?_⟩
 ·exact name_of_addr x.apart (PySem.mem_of_lookup h1) (PySem.mem_of_lookup h2)
 ·have hy:scope.names.lookup y=some .cell∨scope.names.lookup y=some .free:=hy
  rcases hy with hy | hy
  ·exact Wv hy
  ·exact absurd rfl (S.nofree _ (PySem.mem_of_lookup hy))
 ·exact eL (x.above y c (PySem.mem_of_lookup h))
 ·have hi:i<vs.length:=by
   unfold kH at h2
   by_cases hi:i<vs.length
   ·exact hi
   ·rw[dS (by simpa using hi)] at h2
    rw[List.getElem?_replicate] at h2
    split at h2 <;> cases h2
  have ha:vs[i]? = some v:=by
   unfold kH at h2
   rw[d7 (by simpa using hi),dj] at h2
   cases e:vs[i]? with
   | none=>rw[e] at h2;cases h2
   | some a=>rw[e] at h2;cases h2;rfl
  obtain⟨u,hu,rv⟩:=r.get ha
  have hp:ps[i]? = some y:=by
   rw[← S.pre,EN (by omega)];exact h1
  have ndP:ps.Nodup:=by rw[← S.pre];exact S.nd.sublist (EO _ _)
  refine⟨u,rv,?_⟩
  rcases S.par y (dZ hp) with k | k
  ·exact .inl ⟨k,JL ndP hp hu k⟩
  ·obtain⟨c,e⟩:=Wv (n:=s.heap.objs.size+1) k
   refine .inr ⟨.inl k,c,e,?_⟩
   have q:=x.cell y c e
   rw[Vg ndP hp hu (by show scope.names.lookup y≠_;rw[k];decide)] at q
   exact q
 ·exact e0.hok.fresh (eL (x.above y c (PySem.mem_of_lookup h)))
 ·unfold kH
  show _=N.length
  rw[dh,CY,ER]
  omega
theorem rj {CX:kT} {P:Program} {w:World} {K:BFr} {mg:Str→Option Value} {base:Heap} {k:Nat} {f:Addr} {name qual:Str} {params:Arguments} {body:List Stmt} {scope:Scope} {dV kV doc pm cdv ct oc:Value} {an od:Option Addr}
  {osl:Array (Option Value)} {N ps:List Str} {sp:Sp} (lk:K.lookup f=some ⟨oc,od,.func (PySem.W.fnOf name qual params body scope dV kV doc pm an cdv ct),osl⟩) (hcd:PySem.W.codeIn K cdv qual=true) (S:Qe N ps scope) (len:∀ vs H Q E,sp vs H Q E→vs.length=ps.length) (hbody:∀ (A:Around) (outer:List Env) (s:Shared) (H:Hp) (vs:List V) (Q:VK) (E:XK),yD k (A.deeper (envOfC qual scope s.heap.objs.size f cdv))→sp vs H Q E →
   ∃ t,jT (Yx CX P w K mg base N qual scope f cdv A outer s H E) body t∧t { nx:=fun _ H'=>Q .non H',rt:=Q } (kH N vs) H) :
  zH P w K mg base CX (k+1) f (PySem.W.fnOf name qual params body scope dV kV doc pm an cdv ct) ps sp:=by
 refine⟨len,fun A outer s H args us vs Q E hr e0 hb r hsp=>?_⟩
 have hl:=len _ _ _ _ hsp
 have KX:K.In s.heap:=e0.mod.kin.keeps fun b o e=>(e0.bs b o e).1
 have lim:s.heap.NoLimit:=e0.mod.nolimit.keeps fun b o e=>(e0.bs b o e).1
 have hkind:∀ y∈ps.zip us,scope.names.lookup y.1=some .local∨(scope.names.lookup y.1=some .cell∧((cellsFrom (s.heap.objs.size+1) scope.names []).lookup y.1).isSome=true):=fun⟨n,v⟩ hy=>by
  rcases S.par n (eP hy).1 with q | q
  ·exact .inl q
  ·exact .inr ⟨q,PySem.W.cellsFrom_some _ _ _ (.inl q)⟩
 refine codeAny_call_function hr.depth (KX _ _ lk) rfl S.co S.gen rfl (PySem.W.codeRec_of KX hcd) (hb _ _ _ _ ?_)
 refine wpAny_newFunctionEnv_cells S.kind hkind fun env he s1 x=>?_
 subst he
 refine⟨lim.keeps x.toInCall.keep,codeAny_func ?_⟩
 obtain⟨t,ht,hq⟩:=hbody A outer s H vs Q E (hr.deeper _) hsp
 have I:zI (Yx CX P w K mg base N qual scope f cdv A outer s H E) [] (kH N vs) H s1:=oZ S hr.hd e0 hl r x
 refine wpAny_mono (ht [] s1 (kH N vs) H _ I hq) (fun fl s' hs=>?_) fun e s' hs=>hs
 have fin:∀ {σ':St} {H':Hp} {v:V} {u:Value},zI (Yx CX P w K mg base N qual scope f cdv A outer s H E) [] σ' H' s'→qt v u→Q v H'→CE outer P w H s Q u s' :=
  fun {σ' H' v u} J rv q=>⟨v,H',J.os,J.bare,J.base,J.hok,rv,q⟩
 cases fl with
 | ret u =>
  obtain⟨v,σ',H',J,rv,q⟩:=hs
  exact fin J rv q
 | next =>
  obtain⟨σ',H',J,q⟩:=hs
  exact fin (v:=V.non) (u:=Value.none) J rfl q
 | brk =>
  obtain⟨_,_,_,q⟩:=hs
  exact False.elim q
 | cont =>
  obtain⟨_,_,_,q⟩:=hs
  exact False.elim q
section
variable {X:Cx} {x:Str} {p pos:Pos} {e:Expr} {es:List Expr} {t:TA} {id T:String} {r:List V→Hp→VK→Prop}
noncomputable def NC (r:List V→Hp→VK→Prop) (t:TA):TE:=fun σ H Q=>t σ H fun vs H1=>r vs H1 Q
theorem zx (hc:jD X (.builtin id) r) (hg:Gl X x) (hm:X.mg x=none) (hv:bootBuiltins x=some (.builtin id)) (ha:PA X (e::es) t) (hn:x≠"__name__":=by decide) (hdb:(x==("__debug__":Str))=false:=by decide) (he:starEach (e::es) X.env=(false,eval e X.env)::starEach es X.env:=by exact qg rfl) (hpl:(backTo pos (starEach es X.env)).any (·.1)=false:=by exact jn rfl):PE X (.Call (.Name x p) (e::es) [] pos) (NC r t):=by
 intro pins s σ H Q I h
 refine wpAny_Call_Name_kw (uA I hg hm hv ?_ hn hdb)
 exact PyProof.Rows.callWith_builtin1 (yc (ha pos pins s σ H _ I h) fun us s1 ⟨vs,H1,I1,r1,q1⟩=>hc pins s1 σ H1 vs us Q I1 r1 q1) he hpl
theorem z6 (hc:jD X (.type T) r) (hg:Gl X x) (hm:X.mg x=none) (hv:bootBuiltins x=some (.type T)) (ha:PA X (e::es) t) (hn:x≠"__name__":=by decide) (hdb:(x==("__debug__":Str))=false:=by decide) (he:starEach (e::es) X.env=(false,eval e X.env)::starEach es X.env:=by exact qg rfl) (hpl:(backTo pos (starEach es X.env)).any (·.1)=false:=by exact jn rfl):PE X (.Call (.Name x p) (e::es) [] pos) (NC r t):=by
 intro pins s σ H Q I h
 refine wpAny_Call_Name_kw (uA I hg hm hv ?_ hn hdb)
 exact PyProof.Rows.callWith_type1 (yc (ha pos pins s σ H _ I h) fun us s1 ⟨vs,H1,I1,r1,q1⟩=>hc pins s1 σ H1 vs us Q I1 r1 q1) he hpl
end
end L2
namespace HT
open PySem PyProof.Rows
section
open PySem.SeqAt
open PySem.AutoSeq1 (wpAny_loadPart')
open PySem.MeetsSeq PySem.MeetsSeq2 PySem.MeetsSeq3
end
section
variable {prog:Program} {w:World} {A:Around} {E:Value→Shared→Prop} {s:Shared}
theorem ND {t b:Addr} {vs ws:List Value} {Q:Value→Shared→Prop} (ht:IsTup s.heap t vs.toArray) (hb:IsTup s.heap b ws.toArray) (hv:vs≠[]) (h1:ws=[]→Q (.ref t) s) (h2:ws≠[]→Q (.ref s.heap.objs.size) { s with heap:=s.heap.push { cls:=.type "tuple",data:=.seq (vs++ws).toArray } }) (hsz:vs.length+ws.length≤sizeLine):wpAny (model prog w) A (binaryOp .Add (.ref t) (.ref b)) Q E s:=by
 obtain⟨⟨cls,dd,data,sl⟩,ho,hc,n,hd⟩:=id ht
 obtain⟨⟨cls2,dd2,data2,sl2⟩,ho2,hc2,n2,hd2⟩:=id hb
 simp only at hc hd hc2 hd2
 subst hc hd hc2 hd2
 have e:vs.toArray++ws.toArray=(vs++ws).toArray:=by simp
 by_cases hw:ws=[]
 ·exact concat_meets ⟨_,ho,rfl⟩ ⟨_,ho2,rfl⟩ noFill_tuple_add seq_tuple_add PySem.F.slot_tuple_add PySem.F.entry_tuple_add (PySem.F.args_tuple_add_2 _ _)
   (tuple_addW1 t b vs.toArray ws.toArray n n2 dd dd2 sl sl2 (by simpa using hv) (by simp[hw])) ⟨ho,ho2,h1 hw⟩
 ·refine concat_meets ⟨_,ho,rfl⟩ ⟨_,ho2,rfl⟩ noFill_tuple_add seq_tuple_add PySem.F.slot_tuple_add PySem.F.entry_tuple_add (PySem.F.args_tuple_add_2 _ _)
   (tuple_addW2 t b vs.toArray ws.toArray n n2 dd dd2 sl sl2 (by simpa using hv) (by simpa using hw) (by rw[dD,dD];exact hsz)) ⟨ho,ho2,?_⟩
  rw[e]
  exact h2 hw
noncomputable def kZ (n d:Nat):Option Int→Nat
 | none=>d
 | some v=>if v<0 then (v+(n:Int)).toNat else min v.toNat n
theorem vh (n d:Nat):kZ n d none=d:=rfl
theorem vS (n d k:Nat):kZ n d (some (k:Int))=min k n:=by
 show (if (k:Int)<0 then ((k:Int)+(n:Int)).toNat else min (k:Int).toNat n)=min k n
 rw[if_neg (by omega),Dk]
theorem R7 (n d:Nat) (hd:d≤n) (o:Option Int):kZ n d o≤n:=by
 cases o with
 | none=>exact hd
 | some v =>
  show (if v<0 then (v+(n:Int)).toNat else min v.toNat n)≤n
  by_cases hv:v<0
  ·rw[if_pos hv];omega
  ·rw[if_neg hv];exact Nat.min_le_right _ _
end
end HT
namespace L2
open PySem PySem.Spec PyProof.Rows
abbrev TO:=St→Hp→(Option Int→Hp→Prop)→Prop
noncomputable def PO (X:Cx) (e:Option Expr) (t:TO):Prop :=
 ∀ (pins:List (Addr × Obj)) (s:Shared) (σ:St) (H:Hp) (Q:Option Int→Hp→Prop),zI X pins σ H s→t σ H Q →
  wpAny (model X.prog X.w) X.A (evalPart e X.env) (fun u s'=>∃ o H',zI X pins σ H' s'∧IsPart u o∧Q o H') X.xe s
noncomputable def kP:TO:=fun _ H Q=>Q none H
noncomputable def QL (t:TE):TO:=fun σ H Q=>t σ H fun x H1=>∃ i,x = .int i∧Q (some i) H1
section
variable {X:Cx} {e:Expr} {te:TE} {lo hi:Option Expr} {tl th:TO} {pos p2:Pos}
theorem jO:PO X none kP:=by
 intro pins s σ H Q I h
 rw[evalPart_none]
 exact wpAny_pure ⟨none,H,I,.none,h⟩
theorem yY (h:PE X e te):PO X (some e) (QL te):=by
 intro pins s σ H Q I hw
 rw[evalPart_some]
 refine yc (h pins s σ H _ I hw) fun u s1 ⟨x,H1,I1,r1,q1⟩=>?_
 obtain⟨i,rfl,q⟩:=q1
 obtain⟨t,rfl⟩:=r1
 exact⟨some i,H1,I1,.int i t,q⟩
noncomputable def cI (X:Cx) (r:V→Option Int→Option Int→Hp→VK→Prop):Prop :=
 ∀ (pins:List (Addr × Obj)) (s:Shared) (σ:St) (H:Hp) (x:V) (v vl vu:Value) (lo hi:Option Int) (sl:Addr) (Q:VK),zI X pins σ H s→qt x v→s.heap.IsSliceOf sl vl vu .none→IsPart vl lo→IsPart vu hi→r x lo hi H Q →
  ∃ T id,typeLookup (.type T) "__getitem__" = pure (some (.builtin id))∧s.TypeIs v T∧wpAny (model X.prog X.w) X.A (getItem v (.ref sl)) (EP X pins σ Q) X.xe s
noncomputable def TB (r:V→Option Int→Option Int→Hp→VK→Prop) (te:TE) (tl th:TO):TE:=fun σ H Q=>te σ H fun x H1=>tl σ H1 fun l H2=>th σ H2 fun u H3=>r x l u H3 Q
theorem yJ {r:V→Option Int→Option Int→Hp→VK→Prop} (hr:cI X r) (he:PE X e te) (hl:PO X lo tl) (hu:PO X hi th):PE X (.Subscript e (.Slice lo hi none p2) pos) (TB r te tl th):=by
 intro pins s σ H Q I h
 refine Subscript_ (yc (he pins s σ H _ I h) fun v s1 ⟨x,H1,I1,r1,q1⟩=>?_)
 refine wpAny_Slice (yc (hl pins s1 σ H1 _ I1 q1) fun vl s2 ⟨l,H2,I2,pl,q2⟩=>yc (hu pins s2 σ H2 _ I2 q2) fun vu s3 ⟨u,H3,I3,pu,q3⟩=>?_)
 rw[evalPart_none]
 refine wpAny_pure ?_
 have I4:zI X pins σ H3 { s3 with heap:=s3.heap.push { cls:=.type "slice",data:=.fields #[vl,vu,.none] } }:=I3.kept (t':=s3.toks) fun b ob q=>dH _ q
 obtain⟨T,id,hT,ht,hg⟩:=hr pins { s3 with heap:=s3.heap.push { cls:=.type "slice",data:=.fields #[vl,vu,.none] } } σ H3 x v vl vu l u s3.heap.objs.size Q I4 r1 (Heap.IsSliceOf.new ..) pl pu q3
 show wpAny (model X.prog X.w) X.A (subscriptTail e (.Slice lo hi none p2) v (.ref s3.heap.objs.size)) (EP X pins σ Q) X.xe { s3 with heap:=s3.heap.push { cls:=.type "slice",data:=.fields #[vl,vu,.none] } }
 exact tail_any (ops:=[.ref s3.heap.objs.size,v]) ht hT hg (by with_unfolding_all rfl)
noncomputable def vm (xs:List V) (lo hi:Option Int):List V:=(xs.drop (HT.kZ xs.length 0 lo)).take (HT.kZ xs.length xs.length hi - HT.kZ xs.length 0 lo)
theorem xb (xs:List V) (lo hi:Option Int):(vm xs lo hi).length≤xs.length:=by
 unfold vm
 rw[dP,Dr]
 omega
noncomputable def bj (K:BFr):R2:=fun x y H Q=>∃ a b xs ys,x = .ref a∧y = .ref b∧qh K H a xs∧qh K H b ys∧xs≠[]∧xs.length+ys.length≤sizeLine ∧
 (ys=[]→Q (.ref a) H)∧(ys≠[]→∀ p,H p=none→Q (.ref p) (upd H p (.tup (xs++ys))))
theorem zX.nil_iff {xs:List V} {us:List Value} (r:zX xs us):us=[]↔xs=[]:=by
 cases r with
 | nil=>simp
 | cons _ _=>simp
theorem nM:wH X (binaryOp .Add) (bj X.K):=by
 intro pins s σ H x y v u Q I rx ry h
 obtain⟨a,b,xs,ys,rfl,rfl,ha,hb,hx,hz,q1,q2⟩:=h
 cases rx
 cases ry
 obtain⟨its,r1,p1,_⟩:=I.tuple ha
 obtain⟨its2,r2,p2,_⟩:=I.tuple hb
 refine HT.ND p1 p2 (fun z=>hx (r1.nil_iff.mp z)) (fun z=>⟨.ref a,H,I,rfl,q1 (r2.nil_iff.mp z)⟩) (fun z=>?_) (by rw[← r1.length,← r2.length];exact hz)
 refine⟨.ref s.heap.objs.size,_,I.laid (t':=s.toks) (o:=.tup (xs++ys)) (fun b ob q=>dH _ q) (CZ _) ?_,rfl,q2 (fun w=>z (r2.nil_iff.mpr w)) _ (I.hok.fresh (CZ _))⟩
 exact⟨by rw[dh];exact hz,_,r1.append r2,IsTup.new _ _⟩
end
noncomputable def Mc (n:Nat) (i:Int):Option Nat:=if 0≤i then (if i<n then some i.toNat else none) else if -(n:Int)≤i then some (i+n).toNat else none
noncomputable def atI {α:Type} (xs:List α) (i:Int):Option α:=(Mc xs.length i).bind fun j=>xs[j]?
theorem nr {n:Nat} {i:Int} {j:Nat} (h:Mc n i=some j):seqIndex? i n=some j∧j<n∧-(n:Int)≤i∧i<n:=by
 unfold Mc at h
 by_cases h0:0≤i
 ·rw[if_pos h0] at h
  by_cases h1:i<n
  ·rw[if_pos h1] at h
   have e:i.toNat=j:=Option.some.inj h
   exact⟨by rw[seqIndex_of h0 h1,e],by omega,by omega,h1⟩
  ·rw[if_neg h1] at h;cases h
 ·rw[if_neg h0] at h
  by_cases h1:-(n:Int)≤i
  ·rw[if_pos h1] at h
   have e:(i+n).toNat=j:=Option.some.inj h
   exact⟨by rw[seqIndex_neg (by omega) h1,e],by omega,h1,by omega⟩
  ·rw[if_neg h1] at h;cases h
theorem Vo {α:Type} {xs:List α} {i:Int} {v:α} (h:atI xs i=some v):∃ j,seqIndex? i xs.length=some j∧xs[j]? = some v∧j<xs.length∧-(xs.length:Int)≤i∧i<xs.length:=by
 unfold atI at h
 cases e:Mc xs.length i with
 | none=>rw[e] at h;cases h
 | some j =>
  rw[e] at h
  obtain⟨h1,h2,h3,h4⟩:=nr e
  exact⟨j,h1,h,h2,h3,h4⟩
theorem q8 {α:Type} {xs:List α} {j:Nat} {v:α} (h:xs[j]? = some v):atI xs (j:Int)=some v:=by
 have hj:j<xs.length:=(dF.mp h).1
 have e:Mc xs.length (j:Int)=some j:=by
  unfold Mc
  rw[if_pos (by omega),if_pos (by omega)];simp
 unfold atI;rw[e];exact h
theorem W9 {α:Type} (xs:List α) (v:α):atI (xs++[v]) (-1)=some v:=by
 have hl:(xs++[v]).length=xs.length+1:=by simp
 have e:Mc (xs++[v]).length (-1)=some xs.length:=by
  unfold Mc
  rw[hl,if_neg (by decide),if_pos (by omega)]
  congr 1
  omega
 unfold atI
 rw[e]
 show (xs++[v])[xs.length]? = some v
 simp
noncomputable def Ga (b:Expr):Prop:=∀ o i,subscripted b false o i=operate [o,i] (getItem o i)
noncomputable def Bc (X:Cx) (r:R2):Prop :=
 ∀ (value slice:Expr) (pins:List (Addr × Obj)) (s:Shared) (σ:St) (H:Hp) (x y:V) (v u:Value) (Q:VK),zI X pins σ H s→qt x v→qt y u→r x y H Q →
  subscripted slice false v u=operate [v,u] (getItem v u)→wpAny (model X.prog X.w) X.A (subscriptTail value slice v u) (EP X pins σ Q) X.xe s
noncomputable def BJ (X:Cx) (id:String) (r:V→List V→Hp→VK→Prop):Prop :=
 ∀ (pins:List (Addr × Obj)) (s:Shared) (σ:St) (H:Hp) (x:V) (xs:List V) (v:Value) (us:List Value) (Q:VK),zI X pins σ H s→qt x v→zX xs us→r x xs H Q →
  wpAny (model X.prog X.w) X.A (call (.builtin id) (v::us)) (EP X pins σ Q) X.xe s
section
variable {X:Cx} {a b:Expr} {ta tb:TE} {pos:Pos}
theorem Bt {r:R2} (hr:Bc X r) (ha:PE X a ta) (hb:PE X b tb) (hs:Ga b):PE X (.Subscript a b pos) (jC r ta tb):=by
 intro pins s σ H Q I h
 exact Subscript_ (RV ha hb I h fun v u s2 x y H2 I2 rx ry q=>hr a b pins s2 σ H2 x y v u Q I2 rx ry q (hs _ _))
noncomputable def pB (K:BFr):R2:=fun x y H Q=>∃ p xs i v,x = .ref p∧y = .int i∧zZ K H p xs∧atI xs i=some v∧Q v H
noncomputable def wL (K:BFr):R2:=fun x y H Q=>∃ p xs i v,x = .ref p∧y = .int i∧qh K H p xs∧atI xs i=some v∧Q v H
noncomputable def tM:R2:=fun x y H Q=>∃ z i c,x = .str z∧y = .int i∧z.length≤sizeLine∧atI z.cps.toList i=some c∧Q (.str ⟨#[c]⟩) H
theorem zG:Bc X (pB X.K):=by
 intro value slice pins s σ H x y v u Q I rx ry h hs
 obtain⟨p,xs,i,z,rfl,rfl,hq,he,q⟩:=h
 cases rx
 obtain⟨t,rfl⟩:=ry
 obtain⟨its,r,pl,hz⟩:=I.list hq
 obtain⟨j,h1,h2,h3,h4,h5⟩:=Vo he
 obtain⟨w,ew,rw'⟩:=r.get h2
 have hl:=r.length
 have hn:=ZG
 have fin:EP X pins σ Q w s:=⟨z,H,I,rw',q⟩
 by_cases h0:0≤i
 ·have hj:i.toNat=j:=by
   rw[seqIndex_of h0 h5] at h1
   exact Option.some.inj h1
  exact item_listR pl.isList h0 (by omega) (by rw[hj];simpa using ew) fin hs
 ·have hj:(i+(its.toArray.size:Int)).toNat=j:=by
   rw[seqIndex_neg (by omega) h4] at h1
   rw[dD,← hl]
   exact Option.some.inj h1
  exact subscriptTail_builtinR (x:=w) pl.isList.typeIs slot_list_getitem.lookup
   (wpAny_getItem_list_neg (Q:=fun r s'=>r=w∧EP X pins σ Q r s') pl.isList (by omega) (by rw[dD] <;> omega) (by omega) (by rw[hj];simpa using ew) ⟨rfl,fin⟩) hs
theorem zK:Bc X (wL X.K):=by
 intro value slice pins s σ H x y v u Q I rx ry h hs
 obtain⟨p,xs,i,z,rfl,rfl,hq,he,q⟩:=h
 cases rx
 obtain⟨t,rfl⟩:=ry
 obtain⟨its,r,pl,hz⟩:=I.tuple hq
 obtain⟨j,h1,h2,h3,h4,h5⟩:=Vo he
 obtain⟨w,ew,rw'⟩:=r.get h2
 have hl:=r.length
 have hn:=ZG
 have fin:EP X pins σ Q w s:=⟨z,H,I,rw',q⟩
 exact subscriptTail_builtinR (x:=w) pl.typeIs slot_tuple_getitem.lookup
  (getItem_tuple (j:=j) (Q:=fun r s'=>r=w∧EP X pins σ Q r s') pl (by omega) (by omega) (by rw[dD,← hl];exact h1) (by simpa using ew) ⟨rfl,fin⟩) hs
theorem lR:Bc X tM:=by
 intro value slice pins s σ H x y v u Q I rx ry h hs
 obtain⟨z,i,c,rfl,rfl,hz,he,q⟩:=h
 obtain⟨t,rfl⟩:=rx
 obtain⟨t',rfl⟩:=ry
 obtain⟨j,h1,h2,h3,h4,h5⟩:=Vo he
 have hl:z.cps.toList.length=z.length:=by simp[Str.length]
 rw[hl] at h1 h4 h5
 have hn:=ZG
 exact tail_any (typeIs_str s z t) slot_str_getitem.lookup (getItem_str (c:=c) (by
  have e1:decide (i < -(2 ^ 63:Int))=false:=decide_eq_false (by omega)
  have e2:decide (i ≥ 2 ^ 63)=false:=decide_eq_false (by omega)
  rw[e1,e2,Bool.or_false]) (by rw[h1];simpa using h2) ⟨.str ⟨#[c]⟩,H,I.tok _,⟨_,rfl⟩,q⟩) hs
theorem Uu (lo hi:Option Int) (n:Nat):(sliceBounds lo hi none n).1=((HT.kZ n 0 lo:Nat):Int)∧(sliceBounds lo hi none n).2.1=((HT.kZ n n hi:Nat):Int)∧(sliceBounds lo hi none n).2.2=1:=by
 refine⟨?_,?_,rfl⟩
 ·cases lo with
  | none=>simp[sliceBounds,HT.kZ]
  | some i =>
   simp only[sliceBounds,HT.kZ,Option.getD_none,show (1:Int) > 0 by decide,if_true]
   by_cases h:i<0
   ·simp only[h,if_true] <;> omega
   ·simp only[h,if_false] <;> omega
 ·cases hi with
  | none=>simp[sliceBounds,HT.kZ]
  | some i =>
   simp only[sliceBounds,HT.kZ,Option.getD_none,show (1:Int) > 0 by decide,if_true]
   by_cases h:i<0
   ·simp only[h,if_true] <;> omega
   ·simp only[h,if_false] <;> omega
theorem wG (its:List Value) (lo hi:Option Int):slicePick its.toArray lo hi none=((its.drop (HT.kZ its.length 0 lo)).take (HT.kZ its.length its.length hi - HT.kZ its.length 0 lo)).toArray:=by
 obtain⟨h1,h2,h3⟩:=Uu lo hi its.toArray.size
 unfold slicePick
 rw[h1,h2,h3]
 simp only[sliceRange_one,pick_run,dD] <;> rfl
noncomputable def rY (K:BFr):V→Option Int→Option Int→Hp→VK→Prop:=fun x lo hi H Q=>∃ a xs,x = .ref a∧zZ K H a xs∧∀ p,H p=none→Q (.ref p) (upd H p (.lst (vm xs lo hi)))
theorem wa:cI X (rY X.K):=by
 intro pins s σ H x v vl vu lo hi sl Q I rx hs pl pu h
 obtain⟨a,xs,rfl,hx,q⟩:=h
 cases rx
 obtain⟨its,r,ht,hz⟩:=I.list hx
 have hlen:=r.length
 refine⟨"list",_,slot_list_getitem.lookup,ht.isList.typeIs,?_⟩
 refine wpAny_getItem_list_slice ht.isList hs pl pu .none (by simp) ?_ (by rw[dD] <;> omega)
 rw[wG,← hlen]
 refine⟨.ref s.heap.objs.size,_,I.laid (t':=s.toks) (o:=.lst (vm xs lo hi)) (fun b ob q=>dH _ q) (CZ _) ?_,rfl,q _ (I.hok.fresh (CZ _))⟩
 exact⟨dG (xb xs lo hi) hz,_,0,(r.drop (HT.kZ xs.length 0 lo)).take (HT.kZ xs.length xs.length hi - HT.kZ xs.length 0 lo),dR _ rfl⟩
noncomputable def uk:V→Bool
 | .non=>true
 | .bl _=>true
 | .int _=>true
 | .str _=>true
 | _=>false
noncomputable def mV:V→V→Bool
 | .non,.non=>true
 | .bl a,.bl b=>a==b
 | .bl a,.int b=>(if a then 1 else 0)==b
 | .int a,.bl b=>a==(if b then 1 else 0)
 | .int a,.int b=>a==b
 | .str a,.str b=>a==b
 | _,_=>false
theorem gb {A:Around} {s:Shared} {y x:V} {u v:Value} (ry:qt y u) (rx:qt x v) (fy:uk y=true) (fx:uk x=true):SeqAt.EqAt A s u v (mV y x):=by
 cases y with
 | non =>
  cases ry
  cases x with
  | non=>cases rx;exact SeqAt.EqAt.same _
  | bl b=>cases rx;exact SeqAt.EqAt.none_bool b
  | int b=>obtain⟨t,rfl⟩:=rx;exact SeqAt.EqAt.none_int b t
  | str b=>obtain⟨t,rfl⟩:=rx;exact SeqAt.EqAt.none_str b t
  | _=>exact absurd (show false=true from fx) dJ
 | bl a =>
  cases ry
  cases x with
  | non=>cases rx;exact SeqAt.EqAt.bool_none a
  | bl b=>cases rx;exact SeqAt.EqAt.bool_bool a b
  | int b=>obtain⟨t,rfl⟩:=rx;exact SeqAt.EqAt.bool_int a b t
  | str b=>obtain⟨t,rfl⟩:=rx;exact SeqAt.EqAt.bool_str a b t
  | _=>exact absurd (show false=true from fx) dJ
 | int a =>
  obtain⟨t',rfl⟩:=ry
  cases x with
  | non=>cases rx;exact SeqAt.EqAt.int_none a t'
  | bl b=>cases rx;exact SeqAt.EqAt.int_bool a t' b
  | int b=>obtain⟨t,rfl⟩:=rx;exact SeqAt.EqAt.int_int a t' b t
  | str b=>obtain⟨t,rfl⟩:=rx;exact SeqAt.EqAt.int_str a t' b t
  | _=>exact absurd (show false=true from fx) dJ
 | str a =>
  obtain⟨t',rfl⟩:=ry
  cases x with
  | non=>cases rx;exact SeqAt.EqAt.str_none a t'
  | bl b=>cases rx;exact SeqAt.EqAt.str_bool a t' b
  | int b=>obtain⟨t,rfl⟩:=rx;exact SeqAt.EqAt.str_int a t' b t
  | str b=>obtain⟨t,rfl⟩:=rx;exact SeqAt.EqAt.str_str a t' b t
  | _=>exact absurd (show false=true from fx) dJ
 | _=>exact absurd (show false=true from fy) dJ
noncomputable def xP (x:V) (u:Value):Bool:=match u with
 | .none=>mV .non x
 | .bool b=>mV (.bl b) x
 | .int i _=>mV (.int i) x
 | .str z _=>mV (.str z) x
 | _=>false
theorem Le {x y:V} {u:Value} (r:qt y u) (f:uk y=true):xP x u=mV y x:=by
 cases y with
 | non=>cases r;rfl
 | bl b=>cases r;rfl
 | int i=>obtain⟨t,rfl⟩:=r;rfl
 | str z=>obtain⟨t,rfl⟩:=r;rfl
 | _=>exact absurd (show false=true from f) dJ
theorem kB {x:V}:∀ {xs:List V} {us:List Value},zX xs us→xs.all uk=true→us.any (xP x)=xs.any fun y=>mV y x
 | _,_,.nil,_=>rfl
 | y::xs,u::us,.cons r t,f=>by
  rw[DX,dY] at f
  rw[eQ,eQ,Le r f.1,kB t f.2]
theorem uI {A:Around} {s:Shared} {x:V} {v:Value} (rx:qt x v) (fx:uk x=true):∀ {xs:List V} {us:List Value},zX xs us→xs.all uk=true→∀ u∈us,SeqAt.EqAt A s u v (xP x u)
 | _,_,.nil,_=>fun u hu=>by cases hu
 | y::xs,u::us,.cons r t,f=>fun u' hu=>by
  rw[DX,dY] at f
  rcases dc.mp hu with rfl | hu
  ·rw[Le r f.1];exact gb r rx f.1 fx
  ·exact uI rx fx t f.2 u' hu
noncomputable def BD (x:V) (xs:List V):Bool:=xs.any fun y=>mV y x
noncomputable def Cd (K:BFr) (neg:Bool):R2:=fun x y H Q=>∃ p xs,y = .ref p∧(zZ K H p xs∨qh K H p xs)∧uk x=true∧xs.all uk=true∧Q (.bl (if neg then !BD x xs else BD x xs)) H
theorem ot:wH X (compareOp .In) (Cd X.K false):=by
 intro pins s σ H x y v u Q I rx ry h
 obtain⟨p,xs,rfl,hq,fx,fs,q⟩:=h
 cases ry
 rcases hq with hq | hq
 ·obtain⟨its,r,pl,hz⟩:=I.list hq
  refine SeqAt.in_listAt (xP x) pl.isList (fun w hw=>uI rx fx r fs w (by simpa using hw)) ⟨.bl _,H,I,rfl,?_⟩
  rw[show its.toArray.any (xP x)=its.any (xP x) by simp,kB r fs]
  exact q
 ·obtain⟨its,r,pl,hz⟩:=I.tuple hq
  refine SeqAt.in_tupleAt (xP x) pl (fun w hw=>uI rx fx r fs w (by simpa using hw)) ⟨.bl _,H,I,rfl,?_⟩
  rw[show its.toArray.any (xP x)=its.any (xP x) by simp,kB r fs]
  exact q
theorem VQ:wH X (compareOp .NotIn) (Cd X.K true):=by
 intro pins s σ H x y v u Q I rx ry h
 obtain⟨p,xs,rfl,hq,fx,fs,q⟩:=h
 cases ry
 rcases hq with hq | hq
 ·obtain⟨its,r,pl,hz⟩:=I.list hq
  refine SeqAt.notIn_listAt (xP x) pl.isList (fun w hw=>uI rx fx r fs w (by simpa using hw)) ⟨.bl _,H,I,rfl,?_⟩
  rw[show its.toArray.any (xP x)=its.any (xP x) by simp,kB r fs]
  exact q
 ·obtain⟨its,r,pl,hz⟩:=I.tuple hq
  refine SeqAt.notIn_tupleAt (xP x) pl (fun w hw=>uI rx fx r fs w (by simpa using hw)) ⟨.bl _,H,I,rfl,?_⟩
  rw[show its.toArray.any (xP x)=its.any (xP x) by simp,kB r fs]
  exact q
theorem zQ:jD X (.builtin "len") (fun xs H Q=>∃ p ys,xs=[.ref p]∧(zZ X.K H p ys∨qh X.K H p ys)∧Q (.int ys.length) H):=by
 intro pins s σ H xs us Q I r h
 obtain⟨p,ys,rfl,hq,q⟩:=h
 obtain⟨u,rfl,rx⟩:=vN r
 cases rx
 have hn:=ZG
 rcases hq with hq | hq
 ·obtain⟨its,r',pl,hz⟩:=I.list hq
  have hlen:=r'.length
  exact Calls.call_len_list pl.isList (by simp only[dD] <;> omega) ⟨.int ys.length,H,I.tok _,⟨s.toks+1,by rw[dD,hlen]⟩,q⟩
 ·obtain⟨its,r',pl,hz⟩:=I.tuple hq
  have hlen:=r'.length
  exact len_tuple pl (by simp only[dD] <;> omega) ⟨.int ys.length,H,I.tok _,⟨s.toks+1,by rw[dD,hlen]⟩,q⟩
theorem qU:jD X (.builtin "len") (fun xs H Q=>∃ z,xs=[.str z]∧z.length≤sizeLine∧Q (.int z.length) H):=by
 intro pins s σ H xs us Q I r h
 obtain⟨z,rfl,hz,q⟩:=h
 obtain⟨u,rfl,t,rfl⟩:=vN r
 have hn:=ZG
 exact len_str (by omega) ⟨.int z.length,H,I.tok _,⟨_,rfl⟩,q⟩
theorem VL:jD X (.type "list") (fun xs H Q=>∃ p ys,xs=[.ref p]∧(zZ X.K H p ys∨qh X.K H p ys)∧∀ l,H l=none→Q (.ref l) (upd H l (.lst ys))):=by
 intro pins s σ H xs us Q I r h
 obtain⟨p,ys,rfl,hq,q⟩:=h
 obtain⟨u,rfl,rx⟩:=vN r
 cases rx
 have fin:∀ (its:List Value),zX ys its→ys.length≤sizeLine→∀ (h':Heap) (c':Nat),(∀ b o',s.heap.get? b=some o'→h'.get? b=some o') →
   h'.get? s.heap.objs.size=some { cls:=.type "list",dict:=none,data:=.seq its.toArray c',slots:=#[] }→EP X pins σ Q (.ref s.heap.objs.size) { s with heap:=h' }:=fun its r' hz h' c' kp e =>
  ⟨.ref s.heap.objs.size,_,I.laid (t':=s.toks) kp (CZ _) (show yd X.prog X.w _ h' _ (.lst ys) from ⟨hz,its,c',r',e⟩),rfl,q _ (I.hok.fresh (CZ _))⟩
 rcases hq with hq | hq
 ·obtain⟨its,r',pl,hz⟩:=I.list hq
  have hlen:=r'.length
  obtain⟨o,ho,hc,n,hd⟩:=pl.isList
  exact call_list_seq p (.inl rfl) ho hc hd (fun h' c' kp e=>fin its r' hz h' c' kp e) (by simp only[dD] <;> omega)
 ·obtain⟨its,r',pl,hz⟩:=I.tuple hq
  have hlen:=r'.length
  obtain⟨o,ho,hc,n,hd⟩:=pl
  exact call_list_seq p (.inr rfl) ho hc hd (fun h' c' kp e=>fin its r' hz h' c' kp e) (by simp only[dD] <;> omega)
theorem yX:jD X (.type "tuple") (fun xs H Q=>∃ p ys,xs=[.ref p]∧((zZ X.K H p ys∧∀ l,H l=none→Q (.ref l) (upd H l (.tup ys)))∨(qh X.K H p ys∧Q (.ref p) H))):=by
 intro pins s σ H xs us Q I r h
 obtain⟨p,ys,rfl,h⟩:=h
 obtain⟨u,rfl,rx⟩:=vN r
 cases rx
 rcases h with ⟨hq,q⟩ | ⟨hq,q⟩
 ·obtain⟨its,r',pl,hz⟩:=I.list hq
  have hlen:=r'.length
  refine call_tuple_list pl.isList (fun h' kp=>?_) (by simp only[dD] <;> omega)
  have I1:zI X pins σ H { s with heap:=h' }:=I.kept (t':=s.toks) kp
  have I2:zI X pins σ (upd H h'.objs.size (.tup ys)) { s with heap:=h'.push { cls:=.type "tuple",data:=.seq its.toArray } } :=
   I1.laid (t':=s.toks) (fun b o e=>dH _ e) (CZ _) (show yd X.prog X.w _ _ _ (.tup ys) from ⟨hz,its,r',IsTup.new _ _⟩)
  exact⟨.ref h'.objs.size,_,I2,rfl,q _ (I1.hok.fresh (CZ _))⟩
 ·obtain⟨its,r',pl,hz⟩:=I.tuple hq
  exact call_tuple_same pl ⟨.ref p,H,I,rfl,q⟩
noncomputable def Cb (K:BFr) (T:String) (x:V) (H:Hp):Prop:=match x with
 | .str _=>T = "str"
 | .int _=>T = "int"
 | .ref p=>(T = "list"∧∃ xs,zZ K H p xs)∨(T = "tuple"∧∃ o,K.lookup p=some o∧o.cls = .type "tuple"∧o.dict=none) ∨
   (T = "dict"∧((∃ kvs,H p=some (.dK kvs))∨∃ kvs,H p=some (.dT kvs)))∨(T = "set"∧∃ S n,H p=some (.set S n))
 | _=>False
theorem RU {pins:List (Addr × Obj)} {σ:St} {H:Hp} {s:Shared} {T:String} {x:V} {v:Value} (I:zI X pins σ H s) (r:qt x v) (ty:Cb X.K T x H) :
  s.TypeIs v T∧∀ a,v = .ref a→∃ ob,s.heap.get? a=some ob∧ob.dict=none:=by
 cases x with
 | str z =>
  obtain⟨t,rfl⟩:=r
  cases (show T = "str" from ty)
  exact⟨typeIs_str s z t,fun _ e=>nomatch e⟩
 | int i =>
  obtain⟨t,rfl⟩:=r
  cases (show T = "int" from ty)
  exact⟨typeIs_int s i t,fun _ e=>nomatch e⟩
 | ref p =>
  cases r
  rcases ty with ⟨rfl,xs,hq⟩ | ⟨rfl,o,hk,hc,hd⟩ | ⟨rfl,hk⟩ | ⟨rfl,S,n,hk⟩
  ·obtain⟨its,_,pl,_⟩:=I.list hq
   refine⟨pl.isList.typeIs,fun a e=>?_⟩
   cases e
   obtain⟨o,n,e,c,hd,_⟩:=pl
   exact⟨o,e,hd⟩
  ·refine⟨⟨o,I.kIn p o hk,hc⟩,fun a e=>?_⟩
   cases e
   exact⟨o,I.kIn _ o hk,hd⟩
  ·have z:∃ o,s.heap.get? p=some o∧o.ExactDict:=by
    rcases hk with ⟨kvs,hk⟩ | ⟨kvs,hk⟩
    ·obtain⟨_,_,_,_,o,_,_,e,ex,_⟩:=I.hok p _ hk
     exact⟨o,e,ex⟩
    ·obtain⟨_,_,_,_,o,_,_,e,ex,_⟩:=I.hok p _ hk
     exact⟨o,e,ex⟩
   obtain⟨o,e,ex⟩:=z
   refine⟨⟨o,e,ex.1⟩,fun a e2=>?_⟩
   cases e2
   exact⟨o,e,ex.2.1⟩
  ·obtain⟨o,_,_,_,e,ex,_⟩:=I.hok p _ hk
   refine⟨⟨o,e,ex.1⟩,fun a e2=>?_⟩
   cases e2
   exact⟨o,e,ex.2.1⟩
 | _=>exact False.elim ty
noncomputable def cZ (K:BFr) (T:String) (r:V→List V→Hp→VK→Prop) (to:TE) (t:TA):TE:=fun σ H Q=>to σ H fun x H1=>Cb K T x H1∧t σ H1 fun xs H2=>r x xs H2 Q
variable {o e:Expr} {es:List Expr} {to:TE} {t:TA} {name:Str} {apos cpos:Pos} {T id:String} {r:V→List V→Hp→VK→Prop}
theorem yH (pa:PlainAttrs T) (slot:Slot T name id) (hty:typeOf (.builtin id)=pure (.type "method_descriptor")) (hm:BJ X id r) (ho:PE X o to) (ha:PA X (e::es) t) (hbase:attributeBase o name X.env (eval o X.env)=eval o X.env:=by rfl) (hfew:((backTo cpos (starEach (e::es) X.env)).all (fun x=>!x.1)&&(backToKw cpos (keywordEach [] X.env)).all (fun x=>x.1.isSome)
   && decide ((e::es).length+([]:List Keyword).length+(if ([]:List Keyword).isEmpty then 0 else 1)<30))=true:=by rfl) (hline:(apos.endLine==cpos.line)=true:=by rfl) (hs:starEach (e::es) X.env=(false,eval e X.env)::starEach es X.env:=by exact qg rfl) (hplain:(backTo cpos (starEach es X.env)).any (·.1)=false:=by rfl) :
  PE X (.Call (.Attribute o name apos) (e::es) [] cpos) (cZ X.K T r to t):=by
 intro pins s σ H Q I h
 refine wpAny_Call_method_late hbase hfew hline rfl (yc (ho pins s σ H _ I h) fun v s1 ⟨x,H1,I1,r1,ty,q1⟩=>?_)
 obtain⟨h1,h2⟩:=RU I1 r1 ty
 refine⟨T,id,pa,slot,hty,h1,h2,?_⟩
 have hA:=ha cpos pins s1 σ H1 _ I1 q1
 rw[hs] at hA ⊢
 refine Calls.callWith_builtin (by show (false || (backTo cpos (starEach es X.env)).any (·.1))=false;rw[hplain] <;> rfl) (Calls.evalArgs_plain ?_)
 exact yc hA fun us s2 ⟨vs,H2,I2,r2,q2⟩=>hm pins s2 σ H2 x vs v us Q I2 r1 r2 q2
end
noncomputable def CI (X:Cx) (id:String) (r:V→List V→Hp→VK→Prop):Prop :=
 ∀ (pins:List (Addr × Obj)) (s:Shared) (σ:St) (H:Hp) (x:V) (xs:List V) (v:Value) (us:List Value) (Q:VK),zI X pins σ H s→qt x v→zX xs us→r x xs H Q →
  wpAny (model X.prog X.w) X.A (call (.builtin id) (v::us)) (EP X pins σ Q) X.xe s
theorem zX.one:∀ {x:V} {us:List Value},zX [x] us→∃ u,us=[u]∧qt x u
 | _,_,.cons r .nil=>⟨_,rfl,r⟩
theorem zX.dropLast {xs:List V} {us:List Value} (h:zX xs us):zX xs.dropLast us.dropLast:=by
 induction h with
 | nil=>exact .nil
 | cons r t ih =>
  cases t with
  | nil=>exact .nil
  | cons q t'=>exact .cons r ih
theorem zX.reverse {xs:List V} {us:List Value} (h:zX xs us):zX xs.reverse us.reverse:=by
 induction h with
 | nil=>exact .nil
 | cons r t ih=>rw[List.reverse_cons,List.reverse_cons];exact zX.append ih (.cons r .nil)
theorem zX.rep {xs:List V} {us:List Value} (h:zX xs us):∀ k:Nat,zX (List.replicate k xs).flatten (List.replicate k us).flatten
 | 0=>.nil
 | k+1=>by
  rw[DA,DA,eS,eS]
  exact zX.append h (zX.rep h k)
theorem Tb {α:Type} (l:List α):l.eraseIdx (l.length - 1)=l.dropLast:=by
 induction l with
 | nil=>rfl
 | cons a r ih =>
  cases r with
  | nil=>rfl
  | cons b r =>
   have e:(a::b::r).length - 1=((b::r).length - 1)+1:=by
    have h1:(a::b::r).length=r.length+2:=rfl
    have h2:(b::r).length=r.length+1:=rfl
    omega
   rw[e,List.eraseIdx_cons_succ,ih]
   all_goals rfl
theorem JU (its:List Value):∀ (k:Nat) (acc:List Value),
  List.foldl (fun x1 x2=>x1++x2) acc.toArray (List.replicate k its.toArray)=(acc++(List.replicate k its).flatten).toArray
 | 0,acc=>by simp
 | k+1,acc=>by
  have e:acc.toArray++its.toArray=(acc++its).toArray:=by simp
  have e2:(acc++its)++(List.replicate k its).flatten=acc++(List.replicate (k+1) its).flatten:=by
   rw[DA,eS,d8]
  rw[← e2,← JU its k (acc++its),← e,DA,Ds]
section
variable {X:Cx} {pins:List (Addr × Obj)} {σ:St} {H:Hp} {s:Shared} {l b:Addr} {xs ys zs:List V}
theorem zI.lset {its its':List Value} {n:Nat} {f:Array Value→Array Value} {t':Nat} (I:zI X pins σ H s) (hH:H l=some (.lst xs)) (e:s.heap.get? l=some { cls:=.type "list",data:=.seq its.toArray n }) (hf:f its.toArray=its'.toArray) (hv:zX ys its') (hz:ys.length≤sizeLine) :
  zI X pins σ (upd H l (.lst ys)) { s with heap:=s.heap.update l (Obj.mapSeq f),toks:=t' }:=by
 have q:=PySem.IsL.update e f
 rw[hf] at q
 refine I.write (x:=l) (e:=l) (by rw[hH];exact trivial) (.inl rfl) (fun b' u hb hu=>(eT s.heap (Obj.mapSeq f) (Ne.symm hb)).trans hu) ⟨_,q⟩ ?_
 exact⟨hz,its',_,hv,q⟩
theorem zI.lnew {its:List Value} {t':Nat} (I:zI X pins σ H s) (hv:zX ys its) (hz:ys.length≤sizeLine) :
  zI X pins σ (upd H s.heap.objs.size (.lst ys)) { s with heap:=s.heap.push { cls:=.type "list",data:=.seq its.toArray },toks:=t' } :=
 I.laid (fun _ _ q=>dH _ q) (CZ _) ⟨hz,its,0,hv,dR _ rfl⟩
theorem zI.fresh (I:zI X pins σ H s):H s.heap.objs.size=none:=I.hok.fresh (CZ _)
theorem zI.lstM (I:zI X pins σ H s) (hH:H l=some (.lst xs)):xs.length≤sizeLine∧∃ (its:List Value) (n:Nat),zX xs its∧xs.length=its.length∧s.heap.get? l=some { cls:=.type "list",data:=.seq its.toArray n }:=by
 obtain⟨z,its,n,r,e⟩:=I.hok l _ hH
 exact⟨z,its,n,r,r.length,e⟩
theorem lY {n:Nat} (h:n≤sizeLine):Builtin.List.listTooLong n=false:=by
 unfold Builtin.List.listTooLong
 exact decide_eq_false (by omega)
end
section
variable {X:Cx}
noncomputable def mX:V→List V→Hp→VK→Prop:=fun x vs H Q=>∃ l xs y,x = .ref l∧vs=[y]∧H l=some (.lst xs)∧xs.length<sizeLine∧Q .non (upd H l (.lst (xs++[y])))
theorem jI:CI X "list.append" mX:=by
 intro pins s σ H x vs v us Q I rx rv h
 obtain⟨l,xs,y,rfl,rfl,hH,hz,q⟩:=h
 cases rx
 obtain⟨u,rfl,ru⟩:=rv.one
 obtain⟨z,its,n,r,hl,e⟩:=I.lstM hH
 refine call_meets F.slot_list_append ⟨_,e,rfl⟩ F.entry_list_append (F.args_list_append_2 _ _) (PySem.list_append l its.toArray n u (by rw[dD];omega)) ⟨e,?_⟩
 refine⟨.non,_,I.lset (its':=its++[u]) hH e (by simp) (r.append (.cons ru .nil)) ?_,rfl,q⟩
 rw[dh,Da]
 omega
noncomputable def ck:R2:=fun x y H Q=>∃ l b xs zs,x = .ref l∧y = .ref b∧H l=some (.lst xs)∧H b=some (.lst zs)∧xs.length+zs.length≤sizeLine∧∀ p,H p=none→Q (.ref p) (upd H p (.lst (xs++zs)))
theorem Re:wH X (binaryOp .Add) ck:=by
 intro pins s σ H x y v u Q I rx ry h
 obtain⟨l,b,xs,zs,rfl,rfl,hH,hB,hz,q⟩:=h
 cases rx
 cases ry
 obtain⟨z,its,n,r,hl,e⟩:=I.lstM hH
 obtain⟨z2,its2,n2,r2,hl2,e2⟩:=I.lstM hB
 refine PySem.P.add_list e e2 ?_ (by rw[dD,dD];omega)
 have ea:its.toArray++its2.toArray=(its++its2).toArray:=by simp
 rw[ea]
 exact⟨.ref _,_,I.lnew (t':=s.toks) (r.append r2) (by rw[dh];omega),rfl,q _ I.fresh⟩
noncomputable def BV:R2:=fun x y H Q=>∃ l k xs,x = .ref l∧y = .int k∧H l=some (.lst xs)∧-(2 ^ 63)≤k∧k<2 ^ 63∧xs.length*k.toNat≤sizeLine ∧
 ∀ p,H p=none→Q (.ref p) (upd H p (.lst (List.replicate k.toNat xs).flatten))
theorem Gs {α:Type} (xs:List α) (k:Nat):(List.replicate k xs).flatten.length=k*xs.length:=by
 induction k with
 | zero=>simp
 | succ k ih=>rw[DA,eS,dh,ih,Nat.succ_mul,Nat.add_comm]
theorem tf:wH X (binaryOp .Mult) BV:=by
 intro pins s σ H x y v u Q I rx ry h
 obtain⟨l,k,xs,rfl,rfl,hH,h1,h2,hz,q⟩:=h
 cases rx
 obtain⟨t,rfl⟩:=ry
 obtain⟨z,its,n,r,hl,e⟩:=I.lstM hH
 have hlen:its.toArray.size*k.toNat≤sizeLine:=by rw[dD,← hl];exact hz
 have hcap:¬ its.toArray.size*k.toNat > (2 ^ 63 - 1)/8:=by
  have:(sizeLine:Nat)≤(2 ^ 63 - 1)/8:=by decide
  omega
 have hfit:¬ (!Builtin.List.listFitsIndex k)=true:=by
  rw[fitsIndex_both h1 h2]
  exact dJ
 have hlong:¬ Builtin.List.listTooLong (its.toArray.size*k.toNat)=true:=by
  rw[lY hlen]
  exact dJ
 have hnew:List.foldl (fun x1 x2=>x1++x2) #[] (List.replicate (if its.toArray.isEmpty=true then 0 else k.toNat) its.toArray)=(List.replicate k.toNat its).flatten.toArray:=by
  have f0:∀ m:Nat,List.foldl (fun x1 x2=>x1++x2) #[] (List.replicate m its.toArray)=(List.replicate m its).flatten.toArray:=fun m=>by
   have:=JU its m []
   rw[DC] at this
   exact this
  rw[f0]
  cases its with
  | nil=>simp
  | cons a r'=>rw[if_neg (by simp)]
 refine wpAny_binaryOp_repeat_ref (T:="list") (U:="int") (by decide) ⟨_,e,rfl⟩ (fun s'=>typeIs_int s' k t) noFill_list_mul F.fills_int_mul F.slot_int_rmul repeat_list F.slot_int_index.lookup
  (call_meets F.slot_int_rmul (typeIs_int s k t) F.entry_int_rmul (F.args_int_rmul_2 _ _) (int___rmul___int_list k t l its.toArray n)
   ⟨e,rfl,⟨_,e,rfl⟩,call_meets F.slot_list_mul ⟨_,e,rfl⟩ F.entry_list_mul (F.args_list_mul_2 _ _) (AutoListH.list___mul___list_int_3 l its.toArray n k t hfit hcap hlong) ⟨e,?_⟩⟩)
 rw[hnew]
 exact⟨.ref _,_,I.lnew (t':=s.toks) (r.rep k.toNat) (by rw[Gs,Nat.mul_comm];exact hz),rfl,q _ I.fresh⟩
end
section
variable {prog:Program} {w:World} {A:Around} {E:Value→Shared→Prop} {s:Shared}
end
section
variable {X:Cx}
end
end L2
namespace Att
open PySem PySem.W PySem.Calls PyProof.Rows
theorem ZV {P:Params} {h:Heap}:∀ (ns:List Int) (vs:List Value),WellAll P h vs (ns.map WData.int)→IntsAre vs ns:=by
 intro ns
 induction ns with
 | nil =>
  intro vs w
  rw[DG] at w
  cases w
  exact .nil
 | cons n ns ih =>
  intro vs w
  rw[dN] at w
  cases w with
  | cons a b =>
   cases a
   exact .cons _ _ (ih _ b)
theorem OS {l:OpenLaw} {n:Nat} (hn:l.most=some n) {P:Params} {h:Heap} {args:List WData} {vals:List Value}
  (hpre:l.row.toRowW.claim.pre args=true) (hwl:WellAll P h vals args) :
  ∃ a vs ns,vals=[Value.ref a]∧args=[WData.list (ns.map WData.int)]∧h.get? a=some { cls:=.type "list",data:=.seq vs.toArray }∧IntsAre vs ns∧ns.length≤n:=by
 have hsh:WShape.hasAll [] args [.list .int]=true:=(pre_splitW hpre).1
 have hc:l.pre.holds [] { args:=args } = true:=(pre_splitW hpre).2
 obtain⟨d,r,rfl,h1,h2⟩:=hasAllW_cons hsh
 obtain rfl:=hasAllW_nil h2
 obtain⟨xs,rfl,h3⟩:=hasW_list h1
 obtain⟨ns,rfl⟩:=items_int h3
 have hlen:ns.length≤n:=by
  unfold OpenLaw.pre at hc
  have h4:(WTm.not (.lt (.lit (.int (n:Int))) (.len (.arg 0)))).holds [] { args:=[.list (ns.map .int)] } = true:=by
   have h4:=(holds_andW hc).1
   rw[hn] at h4
   exact h4
  have h5:=condW_of h4 (w_not (w_lt w_lit (w_len_list (w_arg rfl))))
  rw[CY] at h5
  refine DK fun q=>?_
  have q':(n:Int)<((ns.length:Nat):Int):=by omega
  first
   | (rw[decide_eq_true q'] at h5;exact absurd h5 (by decide))
   | (simp at h5;omega)
 cases hwl with
 | cons w1 w2 =>
  cases w2
  cases w1 with
  | list ho hall=>exact⟨_,_,ns,rfl,rfl,ho,ZV ns _ hall,hlen⟩
theorem OT (l:OpenLaw) (args:List WData):l.row.toRowW.claim.post args (.bool true) args=true :=
 postW_of (r:=l.row.toRowW) (X:=(true==true))
  (show WShape.has [] (.bool true) .bool=true by first | rfl | decide | simp[WShape.has,WShape.arms,WShape.armsAll])
  (show (WTm.eq .res (.lit (.bool true))).value [] { args:=args,res:=some (.bool true),after:=args } = some (.bool (true==true)) from w_eq_bool (w_res rfl) w_lit) rfl
theorem UX {l:OpenLaw} {n:Nat} {q:Program} {loose:List Str} {XP:(Str→Option Value)→Heap→Prop} {YP:World→Heap→Prop} {d:DefRec}
  (hn:l.most=some n) (hdf:d.params.defaults=[]) (call:∀ (w:World) (s₀ s₁:Shared) (mg mb:Str→Option Value) (fa:Addr) (o:Obj) (pm cd doc:Value) (a:Addr) (vs:List Value) (ns:List Int),
   Ground q loose [] XP w s₀ mg mb s₁.heap→YP w s₁.heap →
   s₁.heap.get? fa=some o→o.data = .func (docDef d.name d.params d.body d.scope pm cd doc)→s₁.heap.CodeRec cd d.name→mg d.name=some (.ref fa) →
   s₁.heap.get? a=some { cls:=.type "list",data:=.seq vs.toArray }→IntsAre vs ns→ns.length≤n→s₁.gens = #[] →
   codeAny (model l.prog w) callerA (.call (.ref fa) ⟨[.ref a],[]⟩) (fun r s'=>r = .ok (.ret (.bool true))∧OldK s₁.heap s'.heap∧s'.os=s₁.os∧AllBare s'.gens) s₁) :
  WalkO q loose XP YP l.row.toRowW d [] (fun f vs=>PySem.call f vs):=by
 intro w s₀ s₁ mg mb G Y fa o pm cd doc dV kV ho hd hcd hD hmg hg args vals as hpre hlay hrd hwl hlo
 obtain rfl:dV = .none:=Dflts.none hD hdf
 obtain rfl:kV = .none:=Dflts.noKw hD
 obtain⟨a,vs,ns,rfl,rfl,hobj,hints,hlen⟩:=OS hn hpre hwl
 refine enter_call (codeAny_mono (call w s₀ s₁ mg mb fa o pm cd doc a vs ns G Y ho (fd_plain hd) hcd hmg hobj hints hlen hg) fun r s' hq=>?_)
 obtain⟨rfl,h2,h3,h4⟩:=hq
 exact⟨.inl ⟨.bool true,.bool true,[],rfl,fun _=>rfl,.bool true,OT l _,fun _=>⟨List.Pairwise.nil,fun _ hm=>(nomatch hm)⟩⟩,h2,h3,h4⟩
section
variable {prog:Program} {w:World} {A:Around} {E:Value→Shared→Prop} {s:Shared} {K:Frag}
end
end Att
namespace L2
open PySem PySem.Spec PyProof.Rows
theorem JX:∀ {vs:List Value} {ns:List Int},IntsAre vs ns→zX (ns.map V.int) vs
 | _,_,.nil=>.nil
 | _,_,.cons n t h=>.cons ⟨t,rfl⟩ (JX h)
noncomputable def tD (H:Hp):Prop:=∀ b,H b=none∨∃ o xs,H b=some (.frz o (.lst xs))
theorem Pm {P:Program} {w:World} {K:BFr} {mg mb:Str→Option Value} {CX:kT} {k:Nat} {fa a:Addr} {fd:FuncData} {x:Str} {sp:Sp} {s₁:Shared} {vs:List Value} {ns:List Int}
  (KX:K.In s₁.heap) (hns:s₁.heap.Ns mainGlobals mg) (hb:s₁.heap.Ns builtinsNs mb) (hbb:∀ x:Str,x≠"__name__"→mb x=bootBuiltins x) (hlim:s₁.heap.NoLimit) (hg:s₁.gens = #[]) (ha:s₁.heap.get? a=some { cls:=.type "list",data:=.seq vs.toArray }) (hi:IntsAre vs ns) (hl:ns.length≤sizeLine) (hr:yD k callerA) (F:∀ base:Heap,K.In base→base.Ns mainGlobals mg→zH P w K mg base CX k fa fd [x] sp) (hbind:∀ (s:Shared) (u:Value),BindsTo s fd ⟨[u],[]⟩ [(x,u)]) (hsp:∀ H:Hp,tD H→zZ K H a (ns.map V.int)→sp [.ref a] H (fun v _=>v = .bl true) fun _ _ _=>False) (hCX:∀ H e s',CX [] H s₁ (fun _ _ _=>False) e s'→False) :
  codeAny (model P w) callerA (.call (.ref fa) ⟨[.ref a],[]⟩) (fun r s'=>r = .ok (.ret (.bool true))∧OldK s₁.heap s'.heap∧s'.os=s₁.os∧AllBare s'.gens) s₁:=by
 have rv:=JX hi
 have lenV:=hi.length
 have core:∀ H:Hp,tD H→zZ K H a (ns.map V.int)→uK P w H s₁.heap→(∀ b,H b≠none→b=a)→(H a≠none→K.lookup a=none) →
   codeAny (model P w) callerA (.call (.ref fa) ⟨[.ref a],[]⟩) (fun r s'=>r = .ok (.ret (.bool true))∧OldK s₁.heap s'.heap∧s'.os=s₁.os∧AllBare s'.gens) s₁:=by
  intro H hO hS hok hA hK
  have base_of:∀ {b:Addr} {o:Obj},s₁.heap.get? b=some o→H b=none→(VH s₁.heap H).get? b=some o:=fun e n=>p7 e n
  have noA:∀ {b:Addr} {o:Obj} {es:Array DictEntry} {ep:Nat},s₁.heap.get? b=some o→o.data = .dict es ep→H b=none:=fun {b o es ep} e d=>by
   cases q:H b with
   | none=>rfl
   | some u =>
    have e':b=a:=hA b (by rw[q];simp)
    subst e'
    rw[ha] at e;cases e
    have d':Data.seq vs.toArray _=Data.dict es ep:=d
    cases d'
  have nsK:∀ {b:Addr} {m:Str→Option Value},s₁.heap.Ns b m→(VH s₁.heap H).Ns b m:=fun {b m} ⟨o,es,ep,e,d,r⟩=>⟨o,es,ep,base_of e (noA e d),d,r⟩
  have hKb:K.In (VH s₁.heap H):=fun b o e=>base_of (KX b o e) (by
   cases q:H b with
   | none=>rfl
   | some u =>
    have e':b=a:=hA b (by rw[q];simp)
    subst e'
    rw[hK (by rw[q];simp)] at e;cases e)
  have hM:Mod K mg (VH s₁.heap H):=⟨hKb,nsK hns,⟨mb,nsK hb,hbb⟩,let ⟨mc,h1,h2⟩:=hlim;⟨mc,nsK h1,h2⟩⟩
  have e0:xV P w K mg (VH s₁.heap H) callerA [] s₁ H:=⟨rfl,hM,fun b o e=>Mq e,Nat.le_of_eq (G3 _ _),trivial,fun b hb=>absurd (show b∈([]:List Addr) from hb) (by simp),hok,.of_eq hg⟩
  refine codeAny_mono ((F _ hKb (nsK hns)).run callerA [] s₁ H ⟨[.ref a],[]⟩ [.ref a] [.ref a] _ _ hr e0 (hbind s₁ (.ref a)) (.cons rfl .nil) (hsp H hO hS)) fun r s' h=>?_
  cases r with
  | error e=>exact (hCX H e s' h).elim
  | ok fl =>
   cases fl with
   | next=>exact False.elim h
   | brk=>exact False.elim h
   | cont=>exact False.elim h
   | ret u =>
    obtain⟨v,H',os,bare,un,hok',r',q⟩:=h
    have q':v = .bl true:=q
    subst q'
    obtain rfl:u=Value.bool true:=r'
    refine⟨rfl,OldK.of_keep fun b o e=>?_,os,bare⟩
    cases q:H b with
    | none=>exact un.keep b o e q (by intro z;exact absurd (show b∈([]:List Addr) from z) (by simp)) (by simp)
    | some u =>
     rcases hO b with z | ⟨ob,xs,z⟩
     ·rw[q] at z;cases z
     ·have z2:=un.frzs b ob _ z
      obtain⟨e1,_⟩:=hok b _ z
      obtain⟨e2,_⟩:=hok' b _ z2
      rw[e] at e1;cases e1
      exact e2
 cases hk:K.lookup a with
 | some o =>
  have e:=KX a o hk
  rw[ha] at e
  cases e
  refine core (fun _=>none) (fun _=>.inl rfl) (.inr ⟨_,vs.toArray,_,hk,rfl,rfl,rfl,by rw[dD,lenV];exact hl,by simpa using rv⟩) (fun b u z=>by have z':(none:Option HO)=some u:=z;cases z') (fun b z=>absurd rfl z) fun z=>absurd rfl z
 | none =>
  refine core (fun b=>if b=a then some (.frz { cls:=.type "list",data:=.seq vs.toArray } (.lst (ns.map V.int))) else none) (fun b=>?_) (.inl (.inr ⟨{ cls:=.type "list",data:=.seq vs.toArray },if_pos rfl⟩)) (fun b u z=>?_) (fun b z=>?_) fun _=>hk
  ·by_cases hb:b=a
   ·exact .inr ⟨_,_,if_pos hb⟩
   ·exact .inl (if_neg hb)
  ·by_cases hb:b=a
   ·have z':=(if_pos hb).symm.trans z
    cases z'
    subst hb
    exact⟨ha,by rw[CY];exact hl,vs,_,rv,ha⟩
   ·have z':=(if_neg hb).symm.trans z
    cases z'
  ·by_cases hb:b=a
   ·exact hb
   ·exact absurd (if_neg hb) z
theorem nQ {l:PySem.W.OpenLaw} {n k:Nat} {q:Program} {loose:List Str} {XP:(Str→Option Value)→Heap→Prop} {YP:World→Heap→Prop} {d:DefRec} {K:Params→BFr} {CX:World→kT} {sp:World→Sp} {x:Str}
  (hn:l.most=some n) (hn2:n≤sizeLine) (hdf:d.params.defaults=[]) (hr:yD k callerA) (hY:∀ (w:World) (h:Heap),YP w h→(K w.params).In h) (F:∀ (w:World) (mg:Str→Option Value) (fa:Addr) (h:Heap),(K w.params).In h→h.Ns mainGlobals mg→mg d.name=some (.ref fa) →
   ∃ fd:FuncData,(∀ (s:Shared) (u:Value),BindsTo s fd ⟨[u],[]⟩ [(x,u)]) ∧
    ∀ base:Heap,(K w.params).In base→base.Ns mainGlobals mg→zH l.prog w (K w.params) mg base (CX w) k fa fd [x] (sp w)) (hsp:∀ (w:World) (H:Hp) (a:Addr) (ns:List Int),ns.length≤n→tD H→zZ (K w.params) H a (ns.map V.int)→sp w [.ref a] H (fun v _=>v = .bl true) fun _ _ _=>False) (hCX:∀ (w:World) (H:Hp) (s:Shared) (e:Value) (s':Shared),CX w [] H s (fun _ _ _=>False) e s'→False) :
  PySem.W.WalkO q loose XP YP l.row.toRowW d [] (fun f vs=>PySem.call f vs):=by
 refine Att.UX hn hdf fun w s₀ s₁ mg mb fa o pm cd doc a vs ns G Y ho hd hcd hmg hobj hints hlen hg=>?_
 have KX:=hY w _ Y
 obtain⟨fd,hb,hF⟩:=F w mg fa _ KX G.T.g hmg
 exact Pm KX G.T.g G.T.b G.T.builtins G.T.nolimit hg hobj hints (dG hlen hn2) hr hF hb (fun H hO hS=>hsp w H a ns hlen hO hS) fun H e s'=>hCX w H s₁ e s'
abbrev zO:kT:=fun _ _ _ _ _ _=>False
abbrev E0:XK:=fun _ _ _=>False
theorem zt {X:Cx}:yN zO X E0:=fun _ _ _ _ _ _ _ h=>h.elim
structure qQ (K:BFr) (x qual:Str) (st:Stmt) (f:Addr) (fd:FuncData):Prop where
 ex:∃ (oc:Value) (od:Option Addr) (kV doc pm:Value) (an:Option Addr) (cdv ct:Value) (osl:Array (Option Value)),
  fd=PySem.W.fnOf x qual (j8 st) (jw st) (qS st) .none kV doc pm an cdv ct∧K.lookup f=some ⟨oc,od,.func fd,osl⟩∧PySem.W.codeIn K cdv qual=true
 kp:PySem.W.keepIn K (.ref f)=true
section
variable {P:Program} {w:World} {K:BFr} {mg:Str→Option Value} {base:Heap}
theorem qQ.ok {x qual:Str} {st:Stmt} {f:Addr} {fd:FuncData} {N ps:List Str} {k:Nat} {sp:Sp} (F:qQ K x qual st f fd) (S:Qe N ps (qS st)) (len:∀ vs H Q E,sp vs H Q E→vs.length=ps.length) (hbody:∀ (cdv:Value) (A:Around) (outer:List Env) (s:Shared) (H:Hp) (vs:List V) (Q:VK) (E:XK),yD k (A.deeper (envOfC qual (qS st) s.heap.objs.size f cdv))→sp vs H Q E →
   ∃ t,jT (Yx zO P w K mg base N qual (qS st) f cdv A outer s H E).nox (jw st) t∧t { nx:=fun _ H'=>Q .non H',rt:=Q } (kH N vs) H):zH P w K mg base zO (k+1) f fd ps sp:=by
 obtain⟨oc,od,kV,doc,pm,an,cdv,ct,osl,rfl,lk,hcd⟩:=F.ex
 refine rj lk hcd S len fun A outer s H vs Q E hr hsp=>?_
 obtain⟨t,h,q⟩:=hbody cdv A outer s H vs Q E hr hsp
 exact⟨t,h.nox,q⟩
theorem qQ.binds {x qual:Str} {st:Stmt} {f:Addr} {fd:FuncData} {ps:List Str} (F:qQ K x qual st f fd) (h:∀ (kV doc pm:Value) (an:Option Addr) (cdv ct:Value) (us:List Value),us.length=ps.length→bindArgs (PySem.W.fnOf x qual (j8 st) (jw st) (qS st) .none kV doc pm an cdv ct) ⟨us,[]⟩=pure (ps.zip us)):vx K fd ps []:=by
 obtain⟨oc,od,kV,doc,pm,an,cdv,ct,osl,rfl,lk,hcd⟩:=F.ex
 exact .all (h kV doc pm an cdv ct)
theorem rX {x qual:Str} {st:Stmt} {f:Addr} {oc:Value} {od an:Option Addr} {osl:Array (Option Value)} {kV doc pm cdv ct:Value} (l:K.lookup f=some ⟨oc,od,.func (PySem.W.fnOf x qual (j8 st) (jw st) (qS st) .none kV doc pm an cdv ct),osl⟩) (c:PySem.W.codeIn K cdv qual=true) (k:PySem.W.keepIn K (.ref f)=true):qQ K x qual st f (PySem.W.fnOf x qual (j8 st) (jw st) (qS st) .none kV doc pm an cdv ct):=⟨⟨oc,od,kV,doc,pm,an,cdv,ct,osl,rfl,l,c⟩,k⟩
end
theorem WC {A:Around} {k:Nat} (hr:yD k A):A.units+1<cLine:=eU (Es (by decide:1≤64) _) hr.units
section
variable {X:Cx}
theorem pv (i:Nat) {x:Str} {pos:Pos} (hN:X.N[i]? = some x:=by rfl) (hv:BO X.env.scope x:=by first | exact Or.inl rfl | exact Or.inr (Or.inl rfl) | exact Or.inr (Or.inr rfl)) (hd:(x==("__debug__":Str))=false:=by decide) (hcd:(x==("__classdict__":Str))=false:=by decide):PE X (.Name x pos) (zM i):=tT hN hv hd hcd
end
theorem qY {A B:Prop} (h:B):if false=true then A else B:=by
 rw[if_neg dJ]
 exact h
theorem jS {A B:Prop} (h:A):if true=true then A else B:=by
 rw[if_pos rfl]
 exact h
theorem yI {c A B:Prop} [Decidable c] (h1:c→A) (h2:¬ c→B):if c then A else B:=by
 by_cases h:c
 ·rw[if_pos h]
  exact h1 h
 ·rw[if_neg h]
  exact h2 h
noncomputable def zw (H H':Hp):Prop:=∀ b o,H b=some o→H' b=some o
theorem zw.refl (H:Hp):zw H H:=fun _ _ h=>h
theorem zw.trans {H H1 H2:Hp} (a:zw H H1) (b:zw H1 H2):zw H H2:=fun c o h=>b c o (a c o h)
theorem zw.free {H H':Hp} (e:zw H H') {l:Addr} (h:H' l=Option.none):H l=Option.none:=by
 cases q:H l with
 | none=>rfl
 | some o =>
  rw[e l o q] at h
  cases h
theorem zw.seq {K:BFr} {H H':Hp} {a:Addr} {xs:List V} (e:zw H H') (h:zZ K H a xs):zZ K H' a xs:=by
 rcases h with (h | ⟨o,h⟩) | h
 ·exact .inl (.inl (e _ _ h))
 ·exact .inl (.inr ⟨o,e _ _ h⟩)
 ·exact .inr h
end L2
namespace XK
open PySem PySem.W PySem.Spec PySem.Calls PyProof.Rows
section
variable {prog:Program} {w:World} {A:Around} {E:Value→Shared→Prop} {s:Shared} {K:Frag} {x D:Addr} {ox:Obj}
structure uf (K:Frag) (D:Addr):Prop where
 cls:(clsIn K D).isSome=true
 ga:findIn K (.ref D) "__getattribute__" = some (some (.builtin "BaseException.__getattribute__"))
 hook:findIn K (.ref D) "__getattr__" = some none
 ca:findIn K (.ref D) "__class__" = some (some (.builtin "object.__class__"))
 get:specialIn K (.builtin "object.__class__") "__get__" = some (some (.builtin "getset_descriptor.__get__"))
 tk:takesIn K (.builtin "object.__class__")=some true
 ob:mroIn K D (.type "object")=some true
 bx:mroIn K D (.type "BaseException")=some true
theorem bA (c:uf K D):findObj K D none "__class__" = some (.bind (.builtin "getset_descriptor.__get__") (.builtin "object.__class__")):=by
 obtain⟨cd,hc⟩:=DJ.mp c.cls
 unfold findObj
 rw[hc,Option.bind_some,c.ca,Option.bind_some]
 simp[c.get,c.tk]
theorem mB {nameV:Value} {M:Model} {Q:Unit→Shared→Prop} (X:K.In s.heap) (c:uf K D) (I:InstAt s.heap x ox D none) (h:Q () s) :
  wpAny M A (checkBuiltinCall "BaseException.__getattribute__" ⟨[.ref x,nameV],[]⟩) Q E s:=by
 have hk:builtinKind "BaseException.__getattribute__" = some .slot:=by decide +kernel
 have hsplit:splitId "BaseException.__getattribute__" = some ("BaseException","__getattribute__"):=by decide +kernel
 have ha:=F.args_bexc_ga (.ref x) nameV
 have L0:=I.type (M:=M)
 have L1:=looks_mroIn (M:=M) X c.bx
 obtain⟨hh,g,d,t,os⟩:=s
 simp only[checkBuiltinCall,hk,hsplit]
 unfold isInstance
 repeat (first | exact h | refine wpAny_bind (L0.at ?_) | refine wpAny_bind (L1.at ?_) | refine L0.at ?_ | refine L1.at ?_ | wp_step)
theorem mK {tk:Tok} {Q:Fin→Shared→Prop} (X:K.In s.heap) (c:uf K D) (I:InstAt s.heap x ox D none) (h:Q (.done (.ret (.ref D))) s) :
  wpAny (model prog w) A (Builtin.«object.__getattribute__» ⟨[.ref x,.str "__class__" tk],[]⟩) Q E s:=by
 have L0:=I.type (M:=model prog w)
 have L1:=looks_find (M:=model prog w) X I (bA c)
 obtain⟨hh,g,d,t,os⟩:=s
 unfold Builtin.«object.__getattribute__»
 repeat (first | refine wpAny_bind (L0.at ?_) | refine wpAny_bind (L1.at ?_) | wp_step)
 exact class_get X I c.ob (wpAny_pure h)
theorem N6 {Q:Option Value→Shared→Prop} (X:K.In s.heap) (c:uf K D) (I:InstAt s.heap x ox D none) (h:Q (some (.ref D)) { s with toks:=s.toks+1 }) :
  wpAny (model prog w) A (getAttr? (.ref x) "__class__") Q E s:=by
 have L0:=I.type (M:=model prog w)
 have L1:=looks_findIn (M:=model prog w) X c.ga
 have L2:=looks_findIn (M:=model prog w) X c.hook
 have f3:=PySem.F.attr_ValueError.ga.bind (.ref x)
 have hx2:(Value.builtin "BaseException.__getattribute__" == Value.builtin "object.__getattribute__")=false:=by decide +kernel
 have hx1:(onTheHeap (Value.ref D)&&Value.builtin "BaseException.__getattribute__" == Value.builtin "object.__getattribute__")=false:=by rw[hx2];rfl
 obtain⟨hh,g,d,t,os⟩:=s
 unfold getAttr? getAttrBy? getAttrBy
 refine wpAny_bind (wpAny_mkText (wpAny_bind (wpAny_attempt (wpAny_holding (wpAny_bind (L0.at (wpAny_bind (L1.at ?_))))))))
 dsimp only
 rw[hx1,if_neg dJ]
 unfold getAttrByItsOwn hookBefore
 rw[show onTheHeap (Value.ref D)=true from rfl,if_pos rfl]
 refine wpAny_bind (L2.at ?_)
 refine wpAny_bind (wpAny_attempt (wpAny_holding ?_))
 unfold callGetattribute
 rw[eO,if_neg dJ]
 unfold boundAndCalled
 rw[f3]
 refine wpAny_bind (wpAny_pure ?_)
 refine wpAny_call (codeAny_call_builtin PySem.F.attr_ValueError.ga.plain F.entry_bexc_ga (mB (s:=⟨hh,g,d,t+1,os⟩) X c I (mK (s:=⟨hh,g,d,t+1,os⟩) X c I ?_)))
 repeat (first | exact h | wp_step)
theorem lW (c:uf K D):KitX K (.ref x) (.ref D) (fun h=>InstAt h x ox D none) where
 ty:=fun _ _ _ I=>I.type
 it:=fun M h X _=>by
  obtain⟨cd,hc⟩:=DJ.mp c.cls
  unfold clsIn at hc
  split at hc
  ·rename_i ho
   intro A' Q' E' s' k q
   unfold isType loadHead
   exact wpAny_bind (wpAny_loadPart (k _ _ (X _ _ ho)) (wpAny_pure q))
  ·cases hc
 ne:=fun h tp dd its n sl X htp=>by
  obtain⟨cd,hc⟩:=DJ.mp c.cls
  refine Et.mpr fun q=>?_
  obtain rfl:D=tp:=Value.ref.inj (beq_iff_eq.mp q)
  unfold clsIn at hc
  split at hc
  ·rename_i ho
   cases (X _ _ ho).symm.trans htp
  ·cases hc
 ca:=fun X I k=>N6 X c I k
end
end XK
namespace L2
open PySem PySem.Spec PyProof.Rows
section
variable {M:Model} {A:Around} {E:Value→Shared→Prop} {s:Shared}
structure Nf (fl:List Addr) (e:Addr) (oe:Obj) (mark:Value) (h h':Heap) (T:Addr):Prop where
 keep:∀ b o,b≠e→b∉fl→h.get? b=some o→h'.get? b=some o
 slot:∀ b o,b≠e→h.get? b=some o→∃ sl,h'.get? b=some { o with slots:=sl }
 new:h.objs.size≤T
 recd:h'.get? e=some (oe.mapFields (·.setIfInBounds 1 (.ref T)))
 head:∃ oT ts,h'.get? T=some oT∧oT.data = .fields ts∧ts[3]? = some mark
theorem ma {base:Heap} {env:Env} {outer:List Env} {L e:Addr} {oe:Obj} {vs:Array Value} {head:Value} {b:Bool} {Q:Unit→Shared→Prop}
  (hfr:A.frames=some (env::outer)) (hl:s.heap.FunFrames base (env::outer)) (hf:env.frame=some L) (he:s.heap.get? e=some oe) (hd:oe.data = .fields vs) (hz:1<vs.size) (k:∀ h' T,Nf ((env::outer).filterMap (·.frame)) e oe (rawInt L) s.heap h' T→Q () { s with heap:=h' }) :
  wpAny M A (do setField (.ref e) 1 (← EntryCells.newEntry head (← frameOf env) .none (rawInt L) .none (← entryPlaceOf L b))) Q E s:=by
 have off:e∉(env::outer).filterMap (·.frame):=fun hm=>by
  obtain⟨_,o,ho,nf⟩:=hl.mem hm
  rw[he] at ho
  cases ho
  exact nf vs hd
 refine wpAny_bind (wpAny_frameOf_fun hfr hl hf fun g so=>?_)
 refine wpAny_bind (wpAny_entryPlaceOf fun pl place=>?_)
 refine wpAny_bind ?_
 unfold EntryCells.newEntry newFields
 refine wpAny_newObj_type ?_ (place.sizeOk5 _ _ _ _ _)
 have g1:g.get? e=some oe:=(so.2.1 e off).trans he
 have g2:=dH (h:=g) { cls:=.type "traceback",dict:=none,data:=.fields ([head,.ref L,.none,rawInt L,.none]++(if pl.isEmpty then List.replicate 6 Value.none else pl)).toArray } g1
 have ne:g.objs.size≠e:=Ep (dw g1)
 refine wpAny_setField g2 hd hz (k _ g.objs.size ?_)
 have oth:∀ c o,c≠e→g.get? c=some o→((g.push { cls:=.type "traceback",dict:=none,data:=.fields ([head,.ref L,.none,rawInt L,.none]++(if pl.isEmpty then List.replicate 6 Value.none else pl)).toArray }).update e (Obj.mapFields (·.setIfInBounds 1 (Value.ref g.objs.size)))).get? c=some o:=fun c o hc q=>by
  rw[eT _ _ (Ne.symm hc)]
  exact dH _ q
 refine⟨fun c o hc hm q=>oth c o hc ((so.2.1 c hm).trans q),fun c o hc q=>?_,by rw[so.1];exact CZ _,?_,?_⟩
 ·obtain⟨sl,z⟩:=so.2.2 c o q
  exact⟨sl,oth c _ hc z⟩
 ·exact eV _ g2 (Obj.isFreed_of_fields (Obj.data_mapFields hd _))
 ·refine⟨_,_,(eT _ _ (Ne.symm ne)).trans (dR g rfl),rfl,?_⟩
  simp
end
abbrev CT:=Hp→Array Value→Prop
noncomputable def C0:CT:=fun _ vs=>vs[2]? = some .none
noncomputable def bC:CT:=fun H vs=>vs[2]? = some .none∨∃ eb ob ws u,vs[2]? = some (.ref eb)∧H eb=some (.frz ob u)∧ob.data = .fields ws∧ws[2]? = some .none
class XZ (C:CT):Prop where
 keep:∀ {H:Hp} {vs:Array Value} {v:Value},C H vs→C H (vs.setIfInBounds 1 v)
 zero:∀ {H:Hp} {vs:Array Value},vs[2]? = some .none→C H vs
 ctx:∀ {H:Hp} {vs:Array Value},C H vs→bC H vs
theorem PL {vs:Array Value} {v:Value} {n:Value} (h:vs[2]? = some n):(vs.setIfInBounds 1 v)[2]? = some n:=by
 rw[Array.getElem?_setIfInBounds_ne (by decide)]
 exact h
noncomputable instance:XZ C0:=⟨PL,id,.inl⟩
noncomputable instance:XZ bC:=⟨fun h=>h.imp PL fun⟨eb,ob,ws,u,f1,f2⟩=>⟨eb,ob,ws,u,PL f1,f2⟩,.inl,id⟩
noncomputable def Jn (C:CT) (X:Cx) (pins:List (Addr × Obj)) (H:Hp) (ea:Addr) (cls fl:Value) (h:Heap):Prop :=
 jU X pins H ea∧∃ oe vs,h.get? ea=some oe∧(oe.cls=cls∧oe.dict=none)∧oe.data = .fields vs∧C H vs ∧
  ((vs[1]? = some .none∧fl = .none)∨∃ T oT ts,vs[1]? = some (.ref T)∧T≠ea∧jU X pins H T∧h.get? T=some oT∧oT.data = .fields ts∧ts[3]? = some fl)
section
variable {X:Cx} {pins:List (Addr × Obj)} {σ:St} {H:Hp} {s:Shared} {ea:Addr} {cls fl:Value} {M:Model} {A:Around} {E:Value→Shared→Prop} {Q:Unit→Shared→Prop} {C:CT} [ct:XZ C]
theorem zI.flown (I:zI X pins σ H s) {b:Addr} (f:jU X pins H b) {h':Heap} (k:∀ c o,c≠b→s.heap.get? c=some o→h'.get? c=some o):zI X pins σ H { s with heap:=h' } :=
 I.turned (t':=s.toks) k f.1 f.2.1 f.2.2.2.1 f.2.2.2.2.1 f.2.2.2.2.2
theorem yd.some {P:Program} {w:World} {h:Heap} {a:Addr} {o:HO} (x:yd P w H h a o):∃ u,h.get? a=some u:=by
 cases o with
 | lst xs=>obtain⟨_,_,_,_,e⟩:=x;exact⟨_,e⟩
 | tup xs=>obtain⟨_,_,_,u,e,_⟩:=x;exact⟨_,e⟩
 | dK kvs=>obtain⟨_,_,_,_,u,_,_,e,_⟩:=x;exact⟨u,e⟩
 | dT kvs=>obtain⟨_,_,_,_,u,_,_,e,_⟩:=x;exact⟨u,e⟩
 | set S n=>obtain⟨u,_,_,_,e,_⟩:=x;exact⟨u,e⟩
 | ins C dx fs=>obtain⟨_,_,_,e,_⟩:=x;exact⟨_,e⟩
 | own y=>exact x
 | xd fs=>obtain⟨_,⟨u,_,_,e,_⟩,_⟩:=x;exact⟨u,e⟩
 | rng lo hi=>obtain⟨_,_,_,e⟩:=x;exact⟨_,e⟩
 | frz ob u=>obtain⟨e,_⟩:=x;exact⟨_,e⟩
 | tbl ps=>exact⟨_,x⟩
 | met f y=>exact⟨_,x⟩
 | ext φ=>exact x.2.1
theorem zI.none_of (I:zI X pins σ H s) {b:Addr} (hb:s.heap.get? b=none):H b=none:=by
 cases q:H b with
 | none=>rfl
 | some o =>
  obtain⟨u,e⟩:=(I.hok b o q).some
  rw[hb] at e
  cases e
theorem zI.fpNone {H':Hp} (I:zI X pins σ H s) {b:Addr} (hb:s.heap.get? b=none) (hn:H' b=none):jU X pins H' b:=by
 refine⟨hn,fun z=>?_,fun z=>?_,?_,fun x c e z=>?_,fun p hp z=>?_⟩
 ·obtain⟨m,⟨o,_,_,e,_⟩,_⟩:=I.loc
  rw[← z,hb] at e
  cases e
 ·obtain⟨_,o,e,_⟩:=I.funs.mem z
  rw[hb] at e
  cases e
 ·by_cases hx:b∈X.ex
  ·exact .inl hx
  ·refine .inr ?_
   cases q:X.s₀.heap.get? b with
   | none=>rfl
   | some o =>
    obtain⟨o',e⟩:=I.base.there b o q hx
    rw[hb] at e
    cases e
 ·obtain⟨v,o,e',_⟩:=I.cell x c e
  rw[z,hb] at e'
  cases e'
 ·have e:=(I.pin p hp).1
  rw[z,hb] at e
  cases e
theorem Zu (I:zI X pins σ H s) (F:Jn C X pins H ea cls fl s.heap) (k:∀ s',zI X pins σ H s'→Jn C X pins H ea cls .none s'.heap→Q () s') :
  wpAny M A (setFlight (.ref ea) none) Q E s:=by
 obtain⟨f0,oe,vs,he,hc,hd,h2,hh⟩:=F
 unfold setFlight
 rcases hh with ⟨h1,rfl⟩ | ⟨T,oT,ts,h1,hne,fT,hT,hdT,h3⟩
 ·refine wpAny_bind (wpAny_field he hd h1 ?_)
  rw[if_neg (by decide)]
  exact wpAny_pure (k s I ⟨f0,oe,vs,he,hc,hd,h2,.inl ⟨h1,rfl⟩⟩)
 ·have hz:3<ts.size:=(Dx.mp h3).1
  refine wpAny_bind (wpAny_field he hd h1 ?_)
  rw[if_pos (show (Value.ref T != Value.none)=true by simp)]
  have oth:∀ c,c≠T→(s.heap.update T (Obj.mapFields (·.setIfInBounds 3 ((none:Option Addr).elim Value.none fun f=>rawInt f)))).get? c=s.heap.get? c:=fun c hc=>eT _ _ (Ne.symm hc)
  have hT':=eV (Obj.mapFields (·.setIfInBounds 3 ((none:Option Addr).elim Value.none fun f=>rawInt f))) hT (Obj.isFreed_of_fields (Obj.data_mapFields hdT _))
  refine wpAny_setField hT hdT hz (k _ (I.flown fT fun c o hc q=>(oth c hc).trans q) ⟨f0,oe,vs,(oth ea (Ne.symm hne)).trans he,hc,hd,h2,.inr ⟨T,_,_,h1,hne,fT,hT',Obj.data_mapFields hdT _,?_⟩⟩)
  simp[hz]
theorem QZ (f:Array Value→Array Value) (o:Obj):(Obj.mapFields f o).dict=o.dict:=by
 obtain⟨c,d,dt,sl⟩:=o
 cases dt <;> rfl
theorem JC (I:zI X pins σ H s) (hs:X.stack=X.env::X.outer) (hf:X.env.frame=some X.env.locals) (hfr:A.frames=some X.stack) {oe:Obj} {vs:Array Value} {head:Value} {b:Bool}
  (f0:jU X pins H ea) (he:s.heap.get? ea=some oe) (hc:oe.cls=cls∧oe.dict=none) (hd:oe.data = .fields vs) (h2:C H vs) (hz:1<vs.size) (k:∀ s',zI X pins σ H s'→Jn C X pins H ea cls (rawInt X.env.locals) s'.heap→Q () s') :
  wpAny M A (do setField (.ref ea) 1 (← EntryCells.newEntry head (← frameOf X.env) .none (rawInt X.env.locals) .none (← entryPlaceOf X.env.locals b))) Q E s:=by
 have stk:s.heap.FunFrames X.base (X.env::X.outer):=by
  have q:=I.stack
  rw[hs] at q
  exact q
 have fm:∀ b,b∈(X.env::X.outer).filterMap (·.frame)↔b=X.env.locals∨b∈X.fs:=fun b=>by
  rw[DY,hf]
  exact dc
 have fre:∀ b∈(X.env::X.outer).filterMap (·.frame),H b=none:=fun b hb=>I.stkFree b (by rw[hs];exact hb)
 refine ma (hfr.trans (congrArg some hs)) stk hf he hd hz fun h' T W=>?_
 have nT:ea≠T:=dO (Dd (dw he) W.new)
 have I':zI X pins σ H { s with heap:=h' }:=by
  refine I.step (g':=s.gens) (d':=s.drawn) (t':=s.toks) (ch:=[ea]) (fun b hb=>?_) (fun b o hL hb hc q _=>?_) (fun b o _ _ hc q _=>W.slot b o (fun z=>hc (by simp[z])) q) (fun _ _ _ _ n=>n)
   (fun b o hc q=>?_) (fun _ _ q=>q) (fun _ _ _ q=>q) (fun _ ps q=>⟨#[],by rw[q];simp⟩) (fun m hm=>?_) (fun b u q=>?_) I.bare
  ·obtain rfl:b=ea:=by simpa using hb
   exact⟨f0.2.2.2.1,f0.2.1,f0.2.2.2.2.1,f0.2.2.2.2.2⟩
  ·exact W.keep b o (fun z=>hc (by simp[z])) (fun z=>((fm b).mp z).elim hL hb) q
  ·obtain⟨sl,z⟩:=W.slot b o (fun z=>hc (by simp[z])) q
   exact⟨_,z⟩
  ·obtain⟨o,es,ep,ho,r⟩:=hm
   obtain⟨sl,z⟩:=W.slot _ o (Ne.symm f0.2.1) ho
   exact⟨_,es,ep,z,r⟩
  ·refine (I.hok b u q).stay (fun c v hc z=>?_) (fun _ z=>z) fun _ _ z=>z
   have nc:H c≠none:=by
    rcases hc with rfl | hc
    ·rw[q];simp
    ·rw[hc];simp
   exact W.keep c v (fun e=>nc (by rw[e];exact f0.1)) (fun e=>nc (fre c e)) z
 obtain⟨oT,ts,hT,hdT,h3⟩:=W.head
 refine k _ I' ⟨f0,_,_,W.recd,⟨(Obj.cls_mapFields _ _).trans hc.1,(QZ _ _).trans hc.2⟩,Obj.data_mapFields hd _,?_,.inr ⟨T,oT,ts,?_,Ne.symm nT,?_,hT,hdT,h3⟩⟩
 ·exact ct.keep h2
 ·simp[hz]
 ·exact I.fpOk W.new (I.hok.fresh W.new)
theorem gN (I:zI X pins σ H s) (F:Jn C X pins H ea cls fl s.heap) (hs:X.stack=X.env::X.outer) (hf:X.env.frame=some X.env.locals) (hfr:A.frames=some X.stack) (k:∀ s',zI X pins σ H s'→Jn C X pins H ea cls (rawInt X.env.locals) s'.heap→Q () s'):wpAny M A (noteFrame (.ref ea) X.env) Q E s:=by
 obtain⟨f0,oe,vs,he,hc,hd,h2,hh⟩:=F
 unfold noteFrame
 simp only[hf]
 rcases hh with ⟨h1,_⟩ | ⟨T,oT,ts,h1,hne,fT,hT,hdT,h3⟩
 ·refine wpAny_bind (wpAny_field he hd h1 ?_)
  rw[if_neg (by decide)]
  exact JC I hs hf hfr f0 he hc hd h2 (Dx.mp h1).1 k
 ·have hz:3<ts.size:=(Dx.mp h3).1
  refine wpAny_bind (wpAny_field he hd h1 ?_)
  rw[if_pos (show (Value.ref T != Value.none)=true by simp)]
  refine wpAny_bind (wpAny_field hT hdT h3 ?_)
  by_cases me:(fl==rawInt X.env.locals)=true
  ·rw[if_pos me]
   exact wpAny_pure (k s I ⟨f0,oe,vs,he,hc,hd,h2,.inr ⟨T,oT,ts,h1,hne,fT,hT,hdT,by rw[← eq_of_beq me];exact h3⟩⟩)
  rw[if_neg me]
  have oth:∀ c,c≠T→(s.heap.update T (Obj.mapFields (·.setIfInBounds 3 Value.none))).get? c=s.heap.get? c:=fun c hc=>eT _ _ (Ne.symm hc)
  refine wpAny_bind (wpAny_setField hT hdT hz ?_)
  exact JC (I.flown fT fun c o hc q=>(oth c hc).trans q) hs hf hfr f0 ((oth ea (Ne.symm hne)).trans he) hc hd h2 (Dx.mp h1).1 k
end
noncomputable def Tw (C:CT) (P:Program) (w:World):kT:=fun outer H s E e s'=>∃ (ea:Addr) (cls:Value) (H':Hp),e = .ref ea∧s'.os=s.os∧AllBare s'.gens∧Un (OV outer) [] H H' s.heap s'.heap∧uK P w H' s'.heap ∧
 (s.heap.get? ea=none∧H' ea=none∧∃ oe vs,s'.heap.get? ea=some oe∧(oe.cls=cls∧oe.dict=none)∧oe.data = .fields vs∧C H' vs ∧
  ((vs[1]? = some .none)∨∃ T oT ts,vs[1]? = some (.ref T)∧T≠ea∧s.heap.get? T=none∧H' T=none∧s'.heap.get? T=some oT∧oT.data = .fields ts∧ts[3]? = some .none))∧E cls none H'
abbrev Xi:=Tw C0
noncomputable def Qr (C:CT) (X:Cx) (E:XK):Prop:=∀ (pins:List (Addr × Obj)) (σ:St) (H:Hp) (s:Shared) (ea:Addr) (cls fl:Value),zI X pins σ H s→Jn C X pins H ea cls fl s.heap→E cls none H→X.xe (.ref ea) s
theorem ZM {C:CT} {P:Program} {w:World} {X:Cx} {E:XK} (hP:X.prog=P) (hw:X.w=w) (t:Qr C X E):yN (Tw C P w) X E:=by
 subst hP hw
 intro pins σ H s e s' I c
 obtain⟨ea,cls,H',rfl,os,bare,un,hok,⟨n0,f0,oe,vs,he,hc,hd,h2,hh⟩,q⟩:=c
 have I':zI X pins σ H' s':=I.call' (ch:=[]) os un hok bare fun b z=>absurd z (by simp)
 refine t pins σ H' s' ea cls .none I' ⟨I.fpNone n0 f0,oe,vs,he,hc,hd,h2,?_⟩ q
 rcases hh with h1 | ⟨T,oT,ts,h1,ne,nT,fT,hT,hdT,h3⟩
 ·exact .inl ⟨h1,rfl⟩
 ·exact .inr ⟨T,oT,ts,h1,ne,I.fpNone nT fT,hT,hdT,h3⟩
theorem ZE {C:CT} [ct:XZ C] {P:Program} {w:World} {K:BFr} {mg:Str→Option Value} {base:Heap} {N:List Str} {qual:Str} {scope:Scope} {f:Addr} {cd:Value} {A:Around} {outer:List Env} {s:Shared} {H:Hp} {E:XK} :
  Qr C (Yx (Tw C P w) P w K mg base N qual scope f cd A outer s H E) E:=by
 intro pins σ H' s' ea cls fl I F q
 show wpAny _ _ (leaving _ _) _ _ _
 unfold leaving
 refine wpAny_bind (gN I F rfl rfl I.ok.frames fun s1 I1 F1=>?_)
 refine Zu I1 F1 fun s2 I2 F2=>?_
 obtain⟨f0,oe,vs,he,hc,hd,h2,hh⟩:=F2
 have ge:∀ {b:Addr},jU (Yx (Tw C P w) P w K mg base N qual scope f cd A outer s H E) pins H' b→s.heap.get? b=none:=fun {b} z=>by
  rcases z.2.2.2.1 with z | z
  ·exact absurd (show b∈([]:List Addr) from z) (by simp)
  ·exact z
 refine⟨ea,cls,H',rfl,I2.os,I2.bare,I2.base,I2.hok,⟨ge f0,f0.1,oe,vs,he,hc,hd,h2,?_⟩,q⟩
 rcases hh with ⟨h1,_⟩ | ⟨T,oT,ts,h1,ne,fT,hT,hdT,h3⟩
 ·exact .inl h1
 ·exact .inr ⟨T,oT,ts,h1,ne,ge fT,fT.1,hT,hdT,h3⟩
theorem Np {K:BFr} {h:Heap} {C:Addr} {bmB:List Value} {newId:String} (X:K.In h) (q:PySem.W.excIn K C bmB newId=true) :
  ∃ bm N nm qn bs hd sn sub ab col dd k0 k1 k2 k3 k5 mN,h.get? C=some (excClassObj nm qn C N bs bm hd sn sub ab col dd k0 k1 k2 k3 k5 newId)∧h.Ns N mN∧mN "__init__" = none∧OwnTail h bmB bm:=by
 unfold PySem.W.excIn at q
 split at q
 case h_2=>cases q
 case h_1 dd cd sl lk =>
  split at q
  case h_2=>cases q
  case h_1 C' bm k0 k1 k2 k3 n k5 em es =>
   simp only[dY,beq_iff_eq,EK] at q
   obtain⟨⟨⟨⟨⟨e1,e2⟩,e3⟩,e4⟩,e5⟩,e6⟩:=q
   subst e1 e2
   obtain⟨c1,c2,c3,c4,c5,c6,c7,c8,c9,c10,c11⟩:=cd
   dsimp only at em e3 e5 e6
   subst em e3
   obtain⟨ls⟩:=sl
   dsimp only at es
   subst es
   exact⟨bm,c4,c1,c5,c2,c6,c7,c8,c9,c10,dd,k0,k1,k2,k3,k5,_,X _ _ lk,.of_isNs (PySem.W.isNs_of_in X e5),PySem.W.nsMap_none_of_in X e5 e6,PySem.W.tail_of_in X e4⟩
section
variable {X:Cx} {E:XK} {x:Str} {C:Addr} {Ct:CT} [ct:XZ Ct] {e₀:Expr} {rest:List Expr} {t:TA} {np cpos pos:Pos}
noncomputable def rS (E:XK) (C:Addr) (t:TA):TS:=fun _ σ H=>t σ H fun vs H1=>vs.length≤sizeLine∧E (.ref C) none H1
theorem UV (hE:Qr Ct X E) (hc:X.calm=true) (hg:Gl X x) (hm:X.mg x=some (.ref C)) (hx:PySem.W.excIn X.K C Vj "ValueError.__new__" = true) (ha:PA X (e₀ :: rest) t) (he:starEach (e₀ :: rest) X.env=(false,eval e₀ X.env)::starEach rest X.env:=by exact qg rfl) (hpl:(backTo cpos (starEach rest X.env)).any (·.1)=false:=by exact jn rfl) (hdb:(x==("__debug__":Str))=false:=by decide) :
  PS X (.Raise (some (.Call (.Name x np) (e₀ :: rest) [] cpos)) none pos) (rS E C t):=by
 intro pins s σ H D I h
 obtain⟨bm,N,nm,qn,bs,hd,sn,sub,ab,col,dd,k0,k1,k2,k3,k5,mN,oC,oN,ni,T⟩:=Np I.ok.mod.kin hx
 have FB:=PySem.F.excBase_ValueError
 refine wpAny_Raise_call_subT (C:=C) (nm:=nm) (q:=qn) (N:=N) (bs:=bs) (bm:=bm) (hdct:=hd) (sn:=sn) (sub:=sub) (ab:=ab) (col:=col) (dd:=dd) (k0:=k0) (k1:=k1) (k2:=k2) (k3:=k3) (k5:=k5) (mN:=mN)
  FB (T.hasType FB.hasBase) (I.ok.hd hc) (by rw[he];show (false || (backTo cpos (starEach rest X.env)).any (·.1))=false;rw[hpl];rfl) ni (u5 I hg hm ⟨rfl,?_⟩ hdb)
 have q:=ha cpos pins s σ H _ I h
 rw[he] at q ⊢
 refine Calls.evalArgs_plain (yc q fun us s2 ⟨vs,H1,I1,r,hl,w⟩=>⟨rfl,by show us.length≤sizeLine;rw[← r.length];exact hl,I1.bk _ _ oC,oN.keeps I1.bk,T.keeps I1.bk,fun h' e made=>?_⟩)
 obtain⟨t0,there,_,_⟩:=made.there
 exact hE pins σ H1 _ e (.ref C) .none (I1.kept (t':=s2.toks) made.keeps) ⟨I1.fpNone made.new (I1.none_of made.new),_,_,there,⟨rfl,rfl⟩,rfl,ct.zero rfl,.inl ⟨rfl,rfl⟩⟩ w
end
abbrev Cx.tr (X:Cx) (pn:List (Addr × Obj)) (E:Value→Shared→Prop):Cx:={ X with pn:=pn,xe:=E }
abbrev Cx.hdl (X:Cx) (pn:List (Addr × Obj)) (ea:Addr) (E:Value→Shared→Prop):Cx:={ X with pn:=pn,xe:=E,A:=X.A.mark (some (.ref ea)),calm:=false }
noncomputable def nF (ea:Addr) (oe:Obj):HO:=.frz oe (.ext fun h=>∃ o,h.get? ea=some o)
section
variable {X:Cx} {pn pins:List (Addr × Obj)} {σ:St} {H:Hp} {s:Shared} {E:Value→Shared→Prop} {ea:Addr}
theorem Cx.Ok.tr (ok:X.Ok):(X.tr pn E).Ok :=
 ⟨ok.mod,ok.kind,ok.glob,ok.blt,ok.above,ok.inj,ok.has,ok.cab,ok.hd,ok.frames,ok.stk,ok.exf,ok.bs,ok.bsz,ok.noex,ok.exfs,ok.funs,ok.frf⟩
theorem Cx.Ok.hdl (ok:X.Ok):(X.hdl pn ea E).Ok :=
 ⟨ok.mod,ok.kind,ok.glob,ok.blt,ok.above,ok.inj,ok.has,ok.cab,(fun z=>nomatch z),ok.frames,ok.stk,ok.exf,ok.bs,ok.bsz,ok.noex,ok.exfs,ok.funs,ok.frf⟩
theorem zI.tr (I:zI X pins σ H s):zI (X.tr (X.pn++pins) E) [] σ H s :=
 ⟨I.ok.tr,I.os,I.bare,I.base,I.loc,I.cell,I.free,I.freeC,fun p hp=>I.pin p (by simpa using hp),I.hok,I.len⟩
theorem zI.toHdl {E':Value→Shared→Prop} (I:zI (X.tr pn E') [] σ H s) (ok:X.Ok):zI (X.hdl pn ea E) [] σ H s :=
 ⟨ok.hdl,I.os,I.bare,I.base,I.loc,I.cell,I.free,I.freeC,I.pin,I.hok,I.len⟩
theorem zI.ofHdl (I:zI (X.hdl (X.pn++pins) ea E) [] σ H s) (ok:X.Ok):zI X pins σ H s :=
 ⟨ok,I.os,I.bare,I.base,I.loc,I.cell,I.free,I.freeC,fun p hp=>I.pin p (by simpa using hp),I.hok,I.len⟩
theorem zI.ofTr (I:zI (X.tr (X.pn++pins) E) [] σ H s) (ok:X.Ok):zI X pins σ H s :=
 ⟨ok,I.os,I.bare,I.base,I.loc,I.cell,I.free,I.freeC,fun p hp=>I.pin p (by simpa using hp),I.hok,I.len⟩
theorem Jn.toHdl {C:CT} {E':Value→Shared→Prop} {cls fl:Value} {h:Heap} {eb:Addr} (F:Jn C (X.tr pn E') [] H ea cls fl h):Jn C (X.hdl pn eb E) [] H ea cls fl h:=F
theorem zI.hold (I:zI X pins σ H s) (f:jU X pins H ea) {oe:Obj} (he:s.heap.get? ea=some oe):zI X pins σ (upd H ea (nF ea oe)) s:=by
 have off:∀ b u,H b=some u→b≠ea:=fun b u q z=>by rw[z,f.1] at q;cases q
 refine I.step (h':=s.heap) (g':=s.gens) (d':=s.drawn) (t':=s.toks) (ch:=[ea]) (fun b hb=>?_) (fun _ _ _ _ _ q _=>q) (fun b o _ _ _ q _=>⟨o.slots,q⟩) (fun b o hc _ n=>?_) (fun b o _ q=>⟨o,q⟩)
  (fun b xs q=>by rw[zm (off b _ q)];exact q) (fun b o u q=>by rw[zm (off b _ q)];exact q) (fun b ps q=>⟨#[],by rw[zm (off b _ q),q];simp⟩) (fun _ z=>z) (fun b u q=>?_) I.bare
 ·obtain rfl:b=ea:=by simpa using hb
  exact⟨f.2.2.2.1,f.2.1,f.2.2.2.2.1,f.2.2.2.2.2⟩
 ·rw[zm (fun z=>hc (by simp[z]))]
  exact n
 ·by_cases hb:b=ea
  ·subst hb
   rw[zp] at q
   cases q
   exact⟨he,⟨_,he⟩,⟨_,he⟩,fun h1 h2 ⟨o,e⟩ k=>⟨o,k o e⟩⟩
  ·rw[zm hb] at q
   exact (I.hok b u q).stay (fun _ _ _ z=>z) (fun c z=>by rw[zm (off c _ z)];exact z) fun c xs z=>by rw[zm (off c _ z)];exact z
end
noncomputable def MQ (C:CT) (X:Cx) (pn:List (Addr × Obj)) (R:XK):Value→Shared→Prop:=fun e s=>∃ (ea:Addr) (cls fl:Value) (σ:St) (H:Hp),e = .ref ea∧zI (X.tr pn fun _ _=>True) [] σ H s∧Jn C (X.tr pn fun _ _=>True) [] H ea cls fl s.heap∧R cls none H
abbrev cf:=MQ C0
theorem xy {C:CT} {X:Cx} {pn:List (Addr × Obj)} {R:XK}:Qr C (X.tr pn (MQ C X pn R)) R:=by
 intro pins σ H s ea cls fl I F q
 refine⟨ea,cls,fl,σ,H,rfl,⟨⟨I.ok.mod,I.ok.kind,I.ok.glob,I.ok.blt,I.ok.above,I.ok.inj,I.ok.has,I.ok.cab,I.ok.hd,I.ok.frames,I.ok.stk,I.ok.exf,I.ok.bs,I.ok.bsz,I.ok.noex,I.ok.exfs,I.ok.funs,I.ok.frf⟩,I.os,I.bare,I.base,I.loc,I.cell,I.free,I.freeC,fun p hp=>I.pin p ?_,I.hok,I.len⟩,?_,q⟩
 ·rw[d9] at hp
  exact eM _ hp
 ·have cut:∀ {b:Addr},jU (X.tr pn (MQ C X pn R)) pins H b→jU (X.tr pn fun _ _=>True) [] H b:=fun {b} f=>⟨f.1,f.2.1,f.2.2.1,f.2.2.2.1,f.2.2.2.2.1,fun p hp=>f.2.2.2.2.2 p (by rw[d9] at hp;exact eM _ hp)⟩
  obtain⟨f0,oe,vs,he,hc,hd,h2,hh⟩:=F
  refine⟨cut f0,oe,vs,he,hc,hd,h2,?_⟩
  rcases hh with z | ⟨T,oT,ts,h1,ne,fT,hT,hdT,h3⟩
  ·exact .inl z
  ·exact .inr ⟨T,oT,ts,h1,ne,cut fT,hT,hdT,h3⟩
section
variable {prog:Program} {w:World} {A:Around} {E:Value→Shared→Prop} {s:Shared}
end
section
variable {X:Cx} {pins:List (Addr × Obj)} {σ:St} {H:Hp} {s:Shared}
end
noncomputable def ui (X:Cx) (ifs:List Expr) (t:TT):Prop :=
 ∀ (pins:List (Addr × Obj)) (s:Shared) (σ:St) (H:Hp) (Q:Bool→Hp→Prop),zI X pins σ H s→t σ H Q →
  wpAny (model X.prog X.w) X.A (forIn ifs true fun c r=>if r=true then do let ok ← isTrue c X.env (eval c X.env);pure (ForInStep.yield ok) else pure (ForInStep.yield r)) (TP X pins σ Q) X.xe s
noncomputable def qK:TT:=fun _ H Q=>Q true H
theorem qd {X:Cx}:ui X [] qK:=fun _ _ _ H _ I h=>wpAny_tests_nil ⟨H,I,h⟩
theorem Qi {X:Cx} {c:Expr} {t:TT} (h:PT X c t):ui X [c] t:=fun pins s σ H Q I q=>wpAny_tests_one (h pins s σ H Q I q)
theorem oG {prog:Program} {w:World} {A:Around} {R:Result→Shared→Prop} {s:Shared} {elt tgt iter:Expr} {ifs:List Expr} {scope:Scope} {pos:Pos} {it acc:Value} {env:Env} {EX:Value→Shared→Prop} (hx:∀ x s',EX x s'→notedBy (model prog w) A env (fun e s'=>R (.error e) s') x s') (J:Nat→Shared→Prop) (turn:∀ n s,J n s→wpAny (model prog w) A (pyNext it) (fun r s1=>match r with
   | none=>R (.ok .next) s1
   | some v=>wpAny (model prog w) A (letOwnedTupleGo tgt it v) (fun _ s2=>wpAny (model prog w) A (assign tgt env v) (fun _ s3 =>
     wpAny (model prog w) A (forIn ifs true fun c r=>if r=true then do let ok ← isTrue c env (eval c env);pure (ForInStep.yield ok) else pure (ForInStep.yield r)) (fun ok s4 =>
      if ok=true then wpAny (model prog w) A (eval elt env) (fun x s5=>wpAny (model prog w) A (call (.builtin "list.append") [acc,x]) (fun _ s6=>∃ m,m<n∧J m s6) EX s5) EX s4
      else ∃ m,m<n∧J m s4) EX s3) EX s2) EX s1) EX s) (n:Nat) (h:J n s):codeAny (model prog w) A (.compLoop (.ListComp elt [⟨tgt,iter,ifs,0⟩] scope pos) 0 it acc env) R s:=by
 refine codeAny_loop rfl J (fun n s hJ=>?_) n h
 show wpAny _ A ((compTurn (.ListComp elt [⟨tgt,iter,ifs,0⟩] scope pos) 0 it acc env).onRaise (fun x=>do noteFrame x env;theTreesLotGoes x)) _ _ s
 refine wpAny_noted (wpAny_mono (E:=EX) ?_ (fun _ _ z=>z) hx)
 rw[compTurn_list]
 refine wpAny_bind (wpAny_standAt (wpAny_bind (yc (turn n s hJ) fun r s1 h1=>?_)))
 cases r with
 | none=>exact wpAny_pure h1
 | some v =>
  refine wpAny_bind (yc h1 fun _ s2 h2=>wpAny_bind (yc h2 fun _ s3 h3=>wpAny_bind (yc h3 fun ok s4 h4=>?_)))
  cases ok with
  | false=>exact wpAny_pure ⟨rfl,h4⟩
  | true=>exact wpAny_bind (wpAny_bind (yc h4 fun x s5 h5=>wpAny_bind (yc h5 fun _ s6 h6=>wpAny_pure (wpAny_pure ⟨rfl,h6⟩))))
noncomputable def Ph (src:List (Option Nat)) (σ:St):St:=src.map fun o=>o.bind fun j=>(σ[j]?).join
section
variable {X:Cx} {elt iter tgt:Expr} {ifs:List Expr} {scope:Scope} {cl:List (Str × Addr)} {Nc:List Str} {src:List (Option Nat)} {g:TG} {tt:TT} {te:TE}
structure gr (X:Cx) (Nc:List Str) (scope:Scope) (cl:List (Str × Addr)) (src:List (Option Nat)):Prop where
 clos:closureFor scope X.env=pure cl
 kind:scope.kind = .function
 cell:∀ y∈scope.names,y.2≠.cell
 names:∀ y∈scope.names,y.2 = .local→scope.names.lookup y.1=some .local
 sub:∀ x c,cl.lookup x=some c→X.env.cells.lookup x=some c
 has:∀ x,((relabel scope X.env).names.lookup x=some .cell∨(relabel scope X.env).names.lookup x=some .free)→∃ c,cl.lookup x=some c
 frm:∀ (i j:Nat),src[i]? = some (some j)→∃ x,Nc[i]? = some x∧X.N[j]? = some x∧X.env.scope.names.lookup x=some .cell∧(relabel scope X.env).names.lookup x=some .cell
 len:src.length=Nc.length
end
section
variable {P:Program} {w:World} {K:BFr} {mg:Str→Option Value} {base:Heap}
theorem qQ.okE {x qual:Str} {st:Stmt} {f:Addr} {fd:FuncData} {N ps:List Str} {k:Nat} {sp:Sp} (F:qQ K x qual st f fd) (S:Qe N ps (qS st)) (len:∀ vs H Q E,sp vs H Q E→vs.length=ps.length) (hbody:∀ (cdv:Value) (A:Around) (outer:List Env) (s:Shared) (H:Hp) (vs:List V) (Q:VK) (E:XK),yD k (A.deeper (envOfC qual (qS st) s.heap.objs.size f cdv))→sp vs H Q E →
   ∃ t,jT (Yx (Xi P w) P w K mg base N qual (qS st) f cdv A outer s H E) (jw st) t∧t { nx:=fun _ H'=>Q .non H',rt:=Q } (kH N vs) H):zH P w K mg base (Xi P w) (k+1) f fd ps sp:=by
 obtain⟨oc,od,kV,doc,pm,an,cdv,ct,osl,rfl,lk,hcd⟩:=F.ex
 exact rj lk hcd S len fun A outer s H vs Q E hr hsp=>hbody cdv A outer s H vs Q E hr hsp
theorem GG {N:List Str} {qual:Str} {scope:Scope} {f:Addr} {cd:Value} {A:Around} {outer:List Env} {s:Shared} {H:Hp} {E:XK}:yN (Xi P w) (Yx (Xi P w) P w K mg base N qual scope f cd A outer s H E) E:=ZM rfl rfl ZE
end
theorem Bx {X:Cx} {pn:List (Addr × Obj)} {R:XK}:yN (Xi X.prog X.w) (X.tr pn (cf X pn R)) R:=ZM rfl rfl xy
section
variable {X:Cx} {k:Nat} {f:Addr} {fd:FuncData} {ps:List Str} {sp:Sp} {x:Str} {p pos:Pos} {e:Expr} {es:List Expr} {t:TA}
end
noncomputable def cu:V→Option Value
 | .ref a=>some (.ref a)
 | .ty n=>some (.type n)
 | _=>none
noncomputable def CS (K:BFr) (H:Hp) (x:V) (t:Value):Prop :=
 kg K H x t∨∃ a oe C vs,x = .ref a∧t = .ref C∧H a=some (nF a oe)∧oe.cls = .ref C∧oe.dict=none∧oe.data = .fields vs∧XK.uf K C
section
variable {X:Cx}
theorem qp:jD X (.builtin "isinstance") (fun xs H Q=>∃ x c cv t b,xs=[x,c]∧cu c=some cv∧CS X.K H x t∧PySem.W.kitOne X.K t cv=some b∧Q (.bl b) H):=by
 intro pins s σ H xs us Q I r h
 obtain⟨x,c,cv,t,b,rfl,hc,ty,hk,q⟩:=h
 obtain⟨u,v,rfl,ru,rv⟩:=gD r
 obtain rfl:v=cv:=by
  cases c with
  | ref a=>cases hc;exact rv
  | ty n=>cases hc;exact rv
  | _=>cases hc
 rcases ty with ty | ⟨a,oe,C,vs,rfl,rfl,ha,e1,e2,e3,ec⟩
 ·exact OR I ru ty hk fun tk=>⟨.bl b,H,I.tok tk,rfl,q⟩
 ·cases ru
  have g:=(I.hok a _ ha).1
  have inst:PySem.W.InstAt s.heap a oe C none:=⟨g,e1,by unfold PySem.W.notCls;rw[e3],by rw[e2];trivial⟩
  exact PySem.W.kia_one (XK.lW (ox:=oe) ec) I.kIn inst hk (fun z=>nomatch z) fun tk=>⟨.bl b,H,I.tok tk,rfl,q⟩
end
noncomputable def qP (P:Program) (w:World) (K:BFr) (mg:Str→Option Value) (base:Heap) (CX:kT) (k:Nat) (x:Str) (ps:List Str) (sp:Sp):Prop :=
 ∃ f fd,mg x=some (.ref f)∧PySem.W.keepIn K (.ref f)=true∧vx K fd ps []∧zH P w K mg base CX k f fd ps sp
section
variable {X:Cx} {CX:kT} {j k:Nat} {ps:List Str} {sp:Sp} {x:Str} {p pos:Pos} {e:Expr} {es:List Expr} {t:TA} {E:XK}
theorem zj (C:qP X.prog X.w X.K X.mg X.base CX k x ps sp) (hr:yD j X.A) (hj:k≤j) (hx:yN CX X E) (ha:PA X (e::es) t) (hg:Gl X x:=by rfl) (hdb:(x==("__debug__":Str))=false:=by decide) (he:starEach (e::es) X.env=(false,eval e X.env)::starEach es X.env:=by exact qg rfl) (hpl:(backTo pos (starEach es X.env)).any (·.1)=false:=by exact jn rfl) :
  PE X (.Call (.Name x p) (e::es) [] pos) (fun σ H Q=>t σ H fun vs H1=>sp vs H1 Q E):=by
 obtain⟨f,fd,hm,hk,hb,F⟩:=C
 intro pins s σ H Q I h
 refine NI (dvs:=[]) F (hr.mono hj) hg hm hk hb .nil hx ha hdb he hpl pins s σ H Q I ?_
 unfold rB
 simp only[d9]
 exact h
end
theorem zS:bootBuiltins "isinstance" = some (.builtin "isinstance"):=by kernel_rfl
theorem yW:bootBuiltins "sum" = some (.builtin "sum"):=by kernel_rfl
theorem vc:bootBuiltins "int" = some (.type "int"):=by kernel_rfl
theorem Jy:bootBuiltins "bool" = some (.type "bool"):=by kernel_rfl
theorem qL:bootBuiltins "str" = some (.type "str"):=by kernel_rfl
theorem Vc:bootBuiltins "list" = some (.type "list"):=by kernel_rfl
theorem yq:bootBuiltins "tuple" = some (.type "tuple"):=by kernel_rfl
noncomputable def Nt:List (String × Bool × Bool × Bool × Bool):=[("NoneType",false,false,false,false),("bool",true,true,false,false),("int",true,false,false,false),("str",false,false,true,false),("list",false,false,false,true),("tuple",false,false,false,false),("dict",false,false,false,false)]
theorem nU {K:BFr}:∀ r∈Nt,PySem.W.kitOne K (.type r.1) (.type "int")=some r.2.1∧PySem.W.kitOne K (.type r.1) (.type "bool")=some r.2.2.1∧PySem.W.kitOne K (.type r.1) (.type "str")=some r.2.2.2.1∧PySem.W.kitOne K (.type r.1) (.type "list")=some r.2.2.2.2:=by
 intro r hr
 simp only[Nt,dc,dm,or_false] at hr
 rcases hr with rfl | rfl | rfl | rfl | rfl | rfl | rfl <;> exact⟨by rfl,by rfl,by rfl,by rfl⟩
noncomputable def pI (K:BFr) (H:Hp) (v:V):Prop:=∃ r∈Nt,kg K H v (.type r.1)∧r.1≠"int"
section
variable {κ:Type} [DecidableEq κ]
noncomputable def ur (kvs:List (κ × V)) (k:κ):Option V:=(kvs.find? fun kv=>decide (kv.1=k)).map (·.2)
noncomputable def uq (kvs:List (κ × V)) (k:κ) (v:V):List (κ × V) :=
 if (kvs.any fun kv=>decide (kv.1=k))=true then kvs.map (fun kv=>if kv.1=k then (kv.1,v) else kv) else kvs++[(k,v)]
theorem kO {p:κ × V} {r:List (κ × V)} {k:κ} (e:p.1=k):ur (p::r) k=some p.2:=by simp[ur,ei,e]
theorem kY {p:κ × V} {r:List (κ × V)} {k:κ} (e:¬ p.1=k):ur (p::r) k=ur r k:=by simp[ur,ei,e]
theorem W5 (k:κ):∀ kvs:List (κ × V),(kvs.any fun kv=>decide (kv.1=k))=(ur kvs k).isSome
 | []=>rfl
 | p::r=>by
  rw[eQ]
  by_cases e:p.1=k
  ·simp only[kO e,decide_eq_true e,Bool.true_or,Option.isSome_some]
  ·rw[kY e,decide_eq_false e,EL];exact W5 k r
theorem ZL (kvs:List (κ × V)) (k:κ) (v:V):(uq kvs k v).length≤kvs.length+1:=by
 unfold uq
 split
 ·rw[CY];omega
 ·rw[dh,dW,ES];omega
theorem um.isSome_eq {o:Option V} {u:Option Value} (r:um o u):o.isSome=u.isSome:=by
 cases o with
 | none=>cases u with
  | none=>rfl
  | some _=>exact (show False from r).elim
 | some _=>cases u with
  | none=>exact (show False from r).elim
  | some _=>rfl
theorem um.getD {o:Option V} {u:Option Value} {d:V} {d':Value} (r:um o u) (rd:qt d d'):qt (o.getD d) (u.getD d'):=by
 cases o with
 | none=>cases u with
  | none=>exact rd
  | some _=>exact (show False from r).elim
 | some _=>cases u with
  | none=>exact (show False from r).elim
  | some _=>exact r
theorem KV.val {kvs:List (κ × V)} {vs:List (κ × Value)} (r:KV kvs vs) (k:κ):um (ur kvs k) (valueAt vs k):=by
 unfold KV at r
 induction r with
 | nil=>exact True.intro
 | @cons p q ps qs h t ih =>
  obtain⟨h1,h2⟩:=h
  by_cases e:p.1=k
  ·have e':q.1=k:=h1.symm.trans e
   have b:valueAt (q::qs) k=some q.2:=by simp[valueAt,ei,e']
   rw[kO e,b];exact h2
  ·have e':¬ q.1=k:=fun z=>e (h1.trans z)
   have b:valueAt (q::qs) k=valueAt qs k:=by simp[valueAt,ei,e']
   rw[kY e,b];exact ih
theorem KV.any {kvs:List (κ × V)} {vs:List (κ × Value)} (r:KV kvs vs) (k:κ):(kvs.any fun kv=>decide (kv.1=k))=vs.any fun kv=>decide (kv.1=k):=by
 unfold KV at r
 induction r with
 | nil=>rfl
 | cons h t ih=>rw[eQ,eQ,ih,h.1]
theorem KV.repl {kvs:List (κ × V)} {vs:List (κ × Value)} (r:KV kvs vs) (k:κ) {y:V} {u:Value} (ry:qt y u) :
  KV (kvs.map fun kv=>if kv.1=k then (kv.1,y) else kv) (vs.map fun kv=>if kv.1=k then (kv.1,u) else kv):=by
 unfold KV at r ⊢
 induction r with
 | nil=>exact .nil
 | @cons p q ps qs h t ih =>
  rw[dN,dN]
  refine .cons ?_ ih
  obtain⟨h1,h2⟩:=h
  by_cases e:p.1=k
  ·rw[if_pos e,if_pos (h1.symm.trans e)];exact⟨h1,ry⟩
  ·rw[if_neg e,if_neg (fun z=>e (h1.trans z))];exact⟨h1,h2⟩
theorem KV.put {kvs:List (κ × V)} {vs:List (κ × Value)} (r:KV kvs vs) (k:κ) {y:V} {u:Value} (ry:qt y u):KV (uq kvs k y) (stored vs k u):=by
 unfold uq stored
 rw[r.any k]
 by_cases e:(vs.any fun kv=>decide (kv.1=k))=true
 ·rw[if_pos e,if_pos e];exact r.repl k ry
 ·rw[if_neg e,if_neg e];exact Paired.snoc r ⟨rfl,ry⟩
theorem KV.length {kvs:List (κ × V)} {vs:List (κ × Value)} (r:KV kvs vs):kvs.length=vs.length:=Paired.length r
end
theorem Gw {P:Program} {w:World} {k:yp} {u:Value} (r:qt (kV k) u):(ya P w).is k u=true:=by
 cases k with
 | inl i=>obtain⟨t,e⟩:=(show ∃ t,u=Value.int i t from r);subst e;exact UU P w i t
 | inr x=>obtain⟨t,e⟩:=(show ∃ t,u=Value.str x t from r);subst e;exact xa P w x t
theorem JQ {P:Program} {w:World}:∀ {ks:List yp} {us:List Value},zX (ks.map kV) us→ItemsAre (ya P w) ks us
 | [],_,r=>by rw[DG] at r;cases r;exact .nil
 | k::ks,_,r=>by
  rw[dN] at r
  cases r with
  | cons h t=>exact .cons (Gw h) (JQ t)
abbrev KT (H:Hp):List (List yp × V)→List (List yp × Addr × Value)→Prop:=Paired fun p q=>p.1=q.1∧H q.2.1=some (.tup (p.1.map kV))∧qt p.2 q.2.2
theorem KT.val {H:Hp} {kvs:List (List yp × V)} {xs:List (List yp × Addr × Value)} (r:KT H kvs xs) (k:List yp):um (ur kvs k) ((atKey xs k).map (·.2)):=by
 induction r with
 | nil=>exact True.intro
 | @cons p q ps qs h t ih =>
  obtain⟨h1,_,h2⟩:=h
  by_cases e:p.1=k
  ·have e':q.1=k:=h1.symm.trans e
   have b:atKey (q::qs) k=some q.2:=by simp[atKey,ei,e']
   rw[kO e,b];exact h2
  ·have e':¬ q.1=k:=fun z=>e (h1.trans z)
   have b:atKey (q::qs) k=atKey qs k:=by simp[atKey,ei,e']
   rw[kY e,b];exact ih
theorem KT.repl {H:Hp} {kvs:List (List yp × V)} {xs:List (List yp × Addr × Value)} (r:KT H kvs xs) (k:List yp) {y:V} {u:Value} (ry:qt y u) :
  KT H (kvs.map fun kv=>if kv.1=k then (kv.1,y) else kv) (xs.map (putAt k u)):=by
 induction r with
 | nil=>exact .nil
 | @cons p q ps qs h t ih =>
  rw[dN,dN]
  refine .cons ?_ ih
  obtain⟨h1,h2,h3⟩:=h
  unfold putAt
  by_cases e:p.1=k
  ·rw[if_pos e,if_pos (h1.symm.trans e)];exact⟨h1,h2,ry⟩
  ·rw[if_neg e,if_neg (fun z=>e (h1.trans z))];exact⟨h1,h2,h3⟩
theorem KT.put {H:Hp} {kvs:List (List yp × V)} {xs:List (List yp × Addr × Value)} (r:KT H kvs xs) (k:List yp) {b:Addr} {y:V} {u:Value} (hb:H b=some (.tup (k.map kV))) (ry:qt y u) :
  KT H (uq kvs k y) (storedH xs k b u):=by
 have e:(kvs.any fun kv=>decide (kv.1=k))=(atKey xs k).isSome:=by
  rw[W5,(r.val k).isSome_eq,Option.isSome_map]
 unfold uq storedH
 rw[e]
 by_cases q:(atKey xs k).isSome=true
 ·rw[if_pos q,if_pos q];exact r.repl k ry
 ·rw[if_neg q,if_neg q];exact Paired.snoc r ⟨rfl,hb,ry⟩
theorem KT.keeps {H H':Hp} {kvs:List (List yp × V)} {xs:List (List yp × Addr × Value)} (r:KT H kvs xs) (ht:∀ b ys,H b=some (.tup ys)→H' b=some (.tup ys)):KT H' kvs xs :=
 Paired.mapP r fun _ _ z=>⟨z.1,ht _ _ z.2.1,z.2.2⟩
section
variable {P:Program} {w:World} {H:Hp} {h:Heap} {a:Addr}
theorem rP {u:HO} (ok:uK P w H h) (e:Rd H a u):yd P w H h a u:=e.ok ok
theorem JJ {kvs:List (yp × V)} (ok:uK P w H h) (e:Rd H a (.dK kvs)):kvs.length≤sizeLine∧(a==sysModules)=false∧∃ vs,KV kvs vs∧h.DictOf (ya P w) a vs :=
 show yd P w H h a (.dK kvs) from rP ok e
theorem bI {kvs:List (yp × V)} (ok:uK P w H h) (e:H a=some (.dK kvs)):kvs.length≤sizeLine∧(a==sysModules)=false∧∃ vs,KV kvs vs∧h.DictOf (ya P w) a vs:=JJ ok (.inl e)
theorem Ug {ks:List yp} (ok:uK P w H h) (e:H a=some (.tup (ks.map kV))):(tupleKind (ya P w)).is h ks a:=by
 obtain⟨_,its,r,o,h1,h2,n,h3⟩:=(show yd P w H h a (.tup (ks.map kV)) from ok a _ e)
 exact⟨o,its.toArray,n,h1,h2,h3,by simpa using JQ r⟩
theorem Wi {kvs:List (List yp × V)} (ok:uK P w H h) (e:Rd H a (.dT kvs)):kvs.length≤sizeLine∧(a==sysModules)=false ∧
  ∃ xs,KT H kvs xs∧h.DictOfH (tupleKind (ya P w)) a xs:=by
 obtain⟨z,y,xs,r,o,es,ep,h1,h2,h3,h4,h5⟩:=(show yd P w H h a (.dT kvs) from rP ok e)
 refine⟨z,y,xs,r,o,es,ep,h1,h2,h3,h4,fun x hx=>?_,h5⟩
 have all:∀ {l:List (List yp × V)} {m:List (List yp × Addr × Value)},KT H l m→∀ x∈m,(tupleKind (ya P w)).is h x.1 x.2.1:=by
  intro l m q
  induction q with
  | nil=>intro x hx;exact nomatch hx
  | @cons p q ps qs hq t ih =>
   intro x hx
   rcases dc.mp hx with e | hx
   ·subst e
    exact Ug ok (by rw[← hq.1];exact hq.2.1)
   ·exact ih x hx
 exact all r x hx
theorem bX {kvs:List (List yp × V)} (ok:uK P w H h) (e:H a=some (.dT kvs)):kvs.length≤sizeLine∧(a==sysModules)=false ∧
  ∃ xs,KT H kvs xs∧h.DictOfH (tupleKind (ya P w)) a xs:=Wi ok (.inl e)
end
noncomputable def uY (H:Hp) (a:Addr) (y:V) (r:Option V):Prop :=
 (∃ kvs k,Rd H a (.dK kvs)∧y=kV k∧r=ur kvs k)∨∃ kvs k b,Rd H a (.dT kvs)∧y = .ref b∧H b=some (.tup (k.map kV))∧r=ur kvs k
noncomputable def X9 (H:Hp) (a:Addr) (y v:V) (H':Hp):Prop :=
 (∃ kvs k,H a=some (.dK kvs)∧y=kV k∧kvs.length<sizeLine∧H'=upd H a (.dK (uq kvs k v))) ∨
 ∃ kvs k b,H a=some (.dT kvs)∧y = .ref b∧H b=some (.tup (k.map kV))∧kvs.length<sizeLine∧H'=upd H a (.dT (uq kvs k v))
theorem uY.k {H:Hp} {a:Addr} {kvs:List (yp × V)} {k:yp} (e:H a=some (.dK kvs)):uY H a (kV k) (ur kvs k):=.inl ⟨kvs,k,.inl e,rfl,rfl⟩
theorem X9.k {H:Hp} {a:Addr} {kvs:List (yp × V)} {k:yp} {v:V} (e:H a=some (.dK kvs)) (hl:kvs.length<sizeLine):X9 H a (kV k) v (upd H a (.dK (uq kvs k v))):=.inl ⟨kvs,k,e,rfl,hl,rfl⟩
section
variable {X:Cx} {pins:List (Addr × Obj)} {σ:St} {H:Hp} {s:Shared} {a:Addr} {y v:V} {u r:Value} {o:Option V} {A:Around} {E:Value→Shared→Prop}
theorem zI.big (I:zI X pins σ H s):sysModules<s.heap.objs.size:=by
 have h:mainGlobals<s.heap.objs.size:=(I.mod.glob.keeps I.bk).lt
 exact Eu (by decide) h
theorem Oj {Q:Value→Shared→Prop} (hu:A.units+1<cLine) (I:zI X pins σ H s) (g:uY H a y (some v)) (ry:qt y u) (h:∀ w' s',zI X pins σ H s'→qt v w'→Q w' s') :
  wpAny (model X.prog X.w) A (getItem (.ref a) u) Q E s:=by
 rcases g with ⟨kvs,k,e,ey,l⟩ | ⟨kvs,k,b,e,ey,eb,l⟩
 ·subst ey
  obtain⟨z,hd,vs,rel,dd⟩:=JJ I.hok e
  obtain⟨w',hw,rw'⟩:=um.some_of (v:=v) (o:=valueAt vs k) (by rw[l];exact rel.val k)
  exact wpAny_getItem_of (Gw ry) dd.mapOf hw (h w' _ (I.tok _) rw')
 ·subst ey
  cases (show u=Value.ref b from ry)
  obtain⟨z,hd,xs,rel,dd⟩:=Wi I.hok e
  obtain⟨w',hw,rw'⟩:=um.some_of (v:=v) (o:=(atKey xs k).map (·.2)) (by rw[l];exact rel.val k)
  obtain⟨p,hp,hp2⟩:=dC.mp hw
  refine wpAny_getItem_heap (tupleKind_room_in1 hu) (Ug I.hok eb) dd hp ?_
  rw[hp2]
  exact h w' _ (I.tok _) rw'
theorem gQ {h':Heap} {t':Nat} {ob:HO} (I:zI X pins σ H s) (mu:Bj (H a)) (hs:Heap.SameBut a s.heap h') (he:∃ q,h'.get? a=some q) (new:yd X.prog X.w (upd H a ob) h' a ob) :
  zI X pins σ (upd H a ob) { s with heap:=h',toks:=t' } :=
 I.write (x:=a) (e:=a) mu (.inl rfl) (fun b q hb z=>(hs.2 b hb).trans z) he new
theorem r9 {P:Program} {w:World} {H':Hp} {h':Heap} {kvs:List (yp × V)} {vs:List (yp × Value)} (z:kvs.length≤sizeLine) (hd:(a==sysModules)=false) (rel:KV kvs vs) (dd:h'.DictOf (ya P w) a vs) :
  yd P w H' h' a (.dK kvs):=⟨z,hd,vs,rel,dd⟩
theorem GY {H':Hp} {Q:Unit→Shared→Prop} (hu:A.units+1<cLine) (I:zI X pins σ H s) (g:X9 H a y v H') (ry:qt y u) (rv:qt v r) (h:∀ s',zI X pins σ H' s'→Q () s') :
  wpAny (model X.prog X.w) A (setItem (.ref a) u r) Q E s:=by
 rcases g with ⟨kvs,k,e,ey,l,eH⟩ | ⟨kvs,k,b,e,ey,eb,l,eH⟩
 ·subst ey eH
  obtain⟨z,hd,vs,rel,dd⟩:=bI I.hok e
  have hz:vs.length≤sizeLine:=by rw[← rel.length];exact z
  have hl:(uq kvs k v).length≤sizeLine:=by have:=ZL kvs k v;omega
  refine wpAny_setItem_pairs (hsz:=hz) (Gw ry) dd fun h' dd' hs=>h _ ?_
  have he:∃ q,h'.get? a=some q:=let ⟨q,_,_,hq,_⟩:=dd';⟨q,hq⟩
  exact gQ I (by rw[e];exact True.intro) hs he (r9 hl hd (rel.put k rv) dd')
 ·subst ey eH
  cases (show u=Value.ref b from ry)
  obtain⟨z,hd,xs,rel,dd⟩:=bX I.hok e
  have hz:xs.length≤sizeLine:=by rw[← Paired.length rel];exact z
  have hl:(uq kvs k v).length≤sizeLine:=by have:=ZL kvs k v;omega
  refine wpAny_setItem_heap (hsz:=hz) (tupleKind_room_in1 hu) (Ug I.hok eb) dd fun h' dd' hs=>h _ ?_
  obtain⟨q,es,ep,hq,h2,h3,h4,_,h5⟩:=dd'
  refine gQ I (by rw[e];exact True.intro) hs ⟨q,hq⟩ ⟨hl,hd,_,(rel.put k eb rv).keeps fun c ys ec=>?_,q,es,ep,hq,h2,h3,h4,h5⟩
  rw[zm (yQ ec e (fun z=>nomatch z))]
  exact ec
end
section
variable {X:Cx} {pins:List (Addr × Obj)} {σ:St} {H:Hp} {s:Shared} {a:Addr} {kvs:List (yp × V)} {k:yp} {u:Value} {A:Around} {E:Value→Shared→Prop}
end
noncomputable def bZ (i:Expr):Prop:=∀ ov iv,subscripted i false ov iv=operate [ov,iv] (getItem ov iv)
theorem Nu {prog:Program} {w:World} {A:Around} {E:Value→Shared→Prop} {s:Shared} {env:Env} {value slice:Expr} {pos:Pos} {T id:String} {Q:Value→Shared→Prop}
  (hl:typeLookup (.type T) "__getitem__" = pure (some (.builtin id))) (hs:bZ slice) (h:wpAny (model prog w) A (eval value env) (fun o s₁=>wpAny (model prog w) A (eval slice env) (fun i s₂=>s₂.TypeIs o T∧wpAny (model prog w) A (getItem o i) Q E s₂) E s₁) E s) :
  wpAny (model prog w) A (eval (.Subscript value slice pos) env) Q E s:=by
 refine Subscript_ (wpAny_mono h (fun o s₁ h₁=>wpAny_mono h₁ (fun i s₂ h₂=>?_) fun _ _ x=>x) fun _ _ x=>x)
 obtain⟨hT,h₂⟩:=h₂
 unfold subscriptTail
 refine wpAny_bind ?_
 rw[getitemInPython_of_ne hT.not_modules]
 refine wpAny_bind (wpAny_specialOf hT hl ?_)
 have fin:wpAny (model prog w) A (subscripted slice false o i) (fun r s₃=>wpAny (model prog w) A (letTemporaryGo value o r >>= fun _=>pure r) Q E s₃) E s₂:=by
  rw[hs o i]
  exact wpAny_operating (wpAny_mono h₂ (fun r s₃ h₃=>wpAny_bind (wpAny_letTemporaryGo (wpAny_pure h₃))) fun _ _ x=>x)
 first
  | exact wpAny_pure (wpAny_bind fin)
  | exact wpAny_bind (wpAny_pure (wpAny_bind fin))
  | exact wpAny_bind fin
theorem WZ {X:Cx} {pins:List (Addr × Obj)} {σ:St} {H:Hp} {s:Shared} {a:Addr} {y:V} {o:Option V} (I:zI X pins σ H s) (g:uY H a y o):s.TypeIs (.ref a) "dict":=by
 rcases g with ⟨kvs,k,e,_,_⟩ | ⟨kvs,k,b,e,_,_,_⟩
 ·obtain⟨_,_,vs,_,dd⟩:=JJ I.hok e
  exact dd.typeIs
 ·obtain⟨_,_,xs,_,dd⟩:=Wi I.hok e
  exact dd.typeIs
noncomputable def rC (td ty:TE):TE:=fun σ H Q=>td σ H fun x H1=>ty σ H1 fun y H2=>∃ a v,x = .ref a∧uY H2 a y (some v)∧Q v H2
noncomputable def Bm (td ty tv:TE):TS:=fun D σ H=>tv σ H fun v H1=>td σ H1 fun x H2=>ty σ H2 fun y H3=>∃ a H4,x = .ref a∧X9 H3 a y v H4∧D.nx σ H4
section
variable {X:Cx} {o i e value:Expr} {pos pos' tpos:Pos} {td ty tv:TE}
theorem kr (hu:X.A.units+1<cLine) (ho:PE X o td) (hi:PE X i ty) (hs:bZ i):PE X (.Subscript o i pos) (rC td ty):=by
 intro pins s σ H Q I h
 refine Nu PySem.F.slot_dict_getitem.lookup hs (yc (ho pins s σ H _ I h) fun u s1 ⟨x,H1,I1,rx,q1⟩=>yc (hi pins s1 σ H1 _ I1 q1) fun iv s2 ⟨y,H2,I2,ry,a,v,ex,g,q2⟩=>?_)
 subst ex
 obtain rfl:u=Value.ref a:=rx
 exact⟨WZ I2 g,Oj hu I2 g ry fun w' s3 I3 rw'=>⟨v,H2,I3,rw',q2⟩⟩
theorem Vv (hu:X.A.units+1<cLine) (ho:PE X o td) (hi:PE X i ty) (hv:PE X value tv) (hs:swapsWith value (some (.Subscript o i pos')) pos.line X.env=pure false) :
  PS X (.Assign [.Subscript o i pos'] value pos) (Bm td ty tv):=by
 intro pins s σ H D I h
 refine wpAny_Assign_Subscript (yc (hv pins s σ H _ I h) fun r s1 ⟨v,H1,I1,rv,q1⟩=>yc (ho pins s1 σ H1 _ I1 q1) fun u s2 ⟨x,H2,I2,rx,q2⟩=>yc (hi pins s2 σ H2 _ I2 q2) fun iv s3 ⟨y,H3,I3,ry,a,H4,ex,g,q3⟩=>?_) hs
 subst ex
 obtain rfl:u=Value.ref a:=rx
 exact GY hu I3 g ry rv fun s4 I4=>⟨σ,H4,I4,q3⟩
end
theorem mI {P:Program} {w:World} {H:Hp} (h:Heap) (hb:sysModules<h.objs.size):yd P w H (h.push { cls:=.type "dict",data:=.dict #[] }) h.objs.size (.dK []) :=
 ⟨d6 _,beq_eq_false_iff_ne.mpr (Ne.symm (dO hb)),[],.nil,Heap.DictOf.new h⟩
noncomputable def RP:TE:=fun _ H Q=>∀ p,H p=none→Q (.ref p) (upd H p (.dK []))
section
variable {X:Cx} {pos:Pos}
theorem mw:PE X (.Dict [] [] pos) RP:=fun pins s σ H Q I h =>
 wpAny_Dict_empty ⟨.ref s.heap.objs.size,_,I.laid (a:=s.heap.objs.size) (o:=.dK []) (t':=s.toks) (fun _ _ q=>dH _ q) (CZ _) (mI s.heap I.big),rfl,h _ (I.hok.fresh (CZ _))⟩
end
structure M1 (X:Cx) (o:Expr) (m:Str) (apos:Pos) (e:Expr) (cpos:Pos):Prop where
 base:attributeBase o m X.env (eval o X.env)=eval o X.env
 few:((backTo cpos (starEach [e] X.env)).all (fun x=>!x.1)&&(backToKw cpos (keywordEach [] X.env)).all (fun x=>x.1.isSome)
  && decide (([e]:List Expr).length+([]:List Keyword).length+(if ([]:List Keyword).isEmpty then 0 else 1)<30))=true
 line:(apos.endLine==cpos.line)=true
 trees:backTo cpos (starEach [e] X.env)=[(false,eval e X.env)]
structure M2 (X:Cx) (o:Expr) (m:Str) (apos:Pos) (e f:Expr) (cpos:Pos):Prop where
 base:attributeBase o m X.env (eval o X.env)=eval o X.env
 few:((backTo cpos (starEach [e,f] X.env)).all (fun x=>!x.1)&&(backToKw cpos (keywordEach [] X.env)).all (fun x=>x.1.isSome)
  && decide (([e,f]:List Expr).length+([]:List Keyword).length+(if ([]:List Keyword).isEmpty then 0 else 1)<30))=true
 line:(apos.endLine==cpos.line)=true
 trees:backTo cpos (starEach [e,f] X.env)=[(false,eval e X.env),(false,eval f X.env)]
noncomputable def cX (H:Hp) (a:Addr):Prop:=(∃ kvs,Rd H a (.dK kvs))∨∃ kvs,Rd H a (.dT kvs)
theorem RY {X:Cx} {pins:List (Addr × Obj)} {σ:St} {H:Hp} {s:Shared} {a:Addr} (I:zI X pins σ H s) (d:cX H a) :
  s.TypeIs (.ref a) "dict"∧(∀ b,Value.ref a = .ref b→∃ ob,s.heap.get? b=some ob∧ob.dict=none)∧(a==sysModules)=false:=by
 rcases d with ⟨kvs,e⟩ | ⟨kvs,e⟩
 ·obtain⟨_,hd,vs,_,dd⟩:=JJ I.hok e
  refine⟨dd.typeIs,fun b q=>?_,hd⟩
  cases q
  obtain⟨ob,_,_,h1,h2,_⟩:=dd
  exact⟨ob,h1,h2.2.1⟩
 ·obtain⟨_,hd,xs,_,dd⟩:=Wi I.hok e
  refine⟨dd.typeIs,fun b q=>?_,hd⟩
  cases q
  obtain⟨ob,_,_,h1,h2,_⟩:=dd
  exact⟨ob,h1,h2.2.1⟩
section
variable {X:Cx} {pins:List (Addr × Obj)} {σ:St} {H:Hp} {s:Shared} {a:Addr} {y d:V} {u r:Value} {o:Option V} {A:Around} {E:Value→Shared→Prop}
theorem tN {Q:Value→Shared→Prop} (hu:A.units+1<cLine) (I:zI X pins σ H s) (g:uY H a y o) (ry:qt y u) (rd:qt d r) (h:∀ w' s',zI X pins σ H s'→qt (o.getD d) w'→Q w' s') :
  wpAny (model X.prog X.w) A (call (.builtin "dict.get") [.ref a,u,r]) Q E s:=by
 rcases g with ⟨kvs,k,e,ey,l⟩ | ⟨kvs,k,b,e,ey,eb,l⟩
 ·subst ey
  obtain⟨z,hd,vs,rel,dd⟩:=JJ I.hok e
  refine call_meetsIn PySem.F.slot_dict_get dd.typeIs PySem.F.entry_dict_get (PySem.F.args_dict_get_3 _ _ _) (meets_dict_get_default (ya X.prog X.w) a (Gw ry) hd r) ⟨_,dd.mapOf,h _ _ (I.tok _) ?_⟩
  rw[l]
  exact (rel.val k).getD rd
 ·subst ey
  cases (show u=Value.ref b from ry)
  obtain⟨z,hd,xs,rel,dd⟩:=Wi I.hok e
  refine call_meetsIn PySem.F.slot_dict_get dd.typeIs PySem.F.entry_dict_get (PySem.F.args_dict_get_3 _ _ _) (meetsH_dict_get_default (tupleKind (ya X.prog X.w)) a b hd r) ⟨tupleKind_room_in1 hu,k,xs,Ug I.hok eb,dd,h _ _ (I.tok _) ?_⟩
  rw[l]
  exact (rel.val k).getD rd
end
noncomputable def tq (td ty tx:TE):TE:=fun σ H Q=>td σ H fun x H1=>∃ a,x = .ref a∧cX H1 a∧ty σ H1 fun y H2=>tx σ H2 fun z H3=>∃ o,uY H3 a y o∧Q (o.getD z) H3
section
variable {X:Cx} {o e f:Expr} {apos cpos:Pos} {td ty tx:TE}
theorem p9 (hu:X.A.units+1<cLine) (ho:PE X o td) (he:PE X e ty) (hf:PE X f tx) (m:M2 X o "get" apos e f cpos):PE X (.Call (.Attribute o "get" apos) [e,f] [] cpos) (tq td ty tx):=by
 intro pins s σ H Q I h
 refine wpAny_Call_method m.base m.few m.line PySem.F.plainAttrs_dict PySem.F.slot_dict_get PySem.F.type_dict_get (yc (ho pins s σ H _ I h) fun u s1 ⟨x,H1,I1,rx,a,ex,d,q1⟩=>?_)
 subst ex
 obtain rfl:u=Value.ref a:=rx
 obtain⟨t1,t2,_⟩:=RY I1 d
 refine⟨t1,t2,?_⟩
 rw[m.trees]
 refine Calls.callWith_builtin rfl (Calls.evalArgs_plain (Calls.spliced_cons (yc (he pins s1 σ H1 _ I1 q1) fun iv s2 ⟨y,H2,I2,ry,q2⟩ =>
  Calls.spliced_cons (yc (hf pins s2 σ H2 _ I2 q2) fun fv s3 ⟨z,H3,I3,rz,ov,g,q3⟩=>Calls.spliced_nil ?_))))
 exact tN hu I3 g ry rz fun w' s4 I4 rw'=>⟨_,H3,I4,rw',q3⟩
end
section
variable {X:Cx} {pins:List (Addr × Obj)} {σ:St} {H:Hp} {s:Shared} {a:Addr} {kvs:List (yp × V)} {A:Around} {E:Value→Shared→Prop}
end
section
variable {X:Cx} {pins:List (Addr × Obj)} {σ:St} {H:Hp} {s:Shared} {a:Addr} {y:V} {u:Value} {A:Around} {E:Value→Shared→Prop}
end
section
variable {X:Cx}
end
section
variable {κ:Type} [DecidableEq κ]
end
theorem zw.upd {H:Hp} {p:Addr} {o:HO} (hp:H p=none):zw H (L2.upd H p o):=fun b u e=>by
 rw[zm (zB e hp)]
 exact e
theorem zw.tup {K:BFr} {H H':Hp} {a:Addr} {xs:List V} (e:zw H H') (h:qh K H a xs):qh K H' a xs:=by
 rcases h with (h | ⟨o,h⟩) | h
 ·exact .inl (.inl (e _ _ h))
 ·exact .inl (.inr ⟨o,e _ _ h⟩)
 ·exact .inr h
section
variable {K:BFr} {H:Hp}
end
noncomputable def bH:Expr→Bool
 | .Slice _ _ _ _=>true
 | _=>false
theorem pJ {b:Expr} (h:bH b=false):Ga b:=fun o i=>by
 cases b <;> first | rfl | cases h
theorem zz {X:Cx} {a b:Expr} {ta tb:TE} {pos:Pos} {r:R2} (hr:Bc X r) (ha:PE X a ta) (hb:PE X b tb) (hs:bH b=false:=by rfl):PE X (.Subscript a b pos) (jC r ta tb):=Bt hr ha hb (pJ hs)
theorem Xb {α:Type} {xs:List α} {i:Int} {v:α} (h0:0≤i) (h:xs[i.toNat]? = some v):atI xs i=some v:=by
 have e:=q8 h
 rwa [Int.toNat_of_nonneg h0] at e
theorem uE {α:Type} {xs:List α} {i:Int} (h0:0≤i) (h1:i<xs.length):∃ v,atI xs i=some v∧v∈xs:=by
 have hl:i.toNat<xs.length:=by omega
 exact⟨xs[i.toNat],Xb h0 (de hl),DM hl⟩
theorem ZW {a b:Str}:(decide (V.str a=V.str b)=true)↔a=b:=by rw[decide_eq_true_iff];exact⟨fun h=>V.str.inj h,fun h=>congrArg V.str h⟩
theorem wu {a b:Int}:(decide (V.int a=V.int b)=true)↔a=b:=by rw[decide_eq_true_iff];exact⟨fun h=>V.int.inj h,fun h=>congrArg V.int h⟩
theorem Bp (a b:Int):decide (V.int a=V.int b)=decide (a=b):=Dz.mpr (wu.trans decide_eq_true_iff.symm)
noncomputable def JY (ns:List Int) (k:Int):Int:=ns.getD k.toNat 0
theorem N9 {ns:List Int} {k:Int} (h0:0≤k) (h:k<((ns.map V.int).length:Nat)):atI (ns.map V.int) k=some (.int (JY ns k)):=by
 rw[CY] at h
 have hl:k.toNat<ns.length:=by omega
 refine Xb h0 ?_
 unfold JY
 rw[dj,de hl,Df,de hl]
 rfl
theorem lN {ns:List Int} {k:Int} (h:¬ k<((ns.map V.int).length:Nat)):JY ns k=0:=by
 rw[CY] at h
 unfold JY
 rw[Df,Dn (by omega)]
 rfl
theorem qv {n:Nat} (h:Nat.ble n 1000=true):n≤sizeLine:=dG (dX h) (by decide)
noncomputable def Qy (H:Hp) (o:HO) (Q:VK):Prop:=∀ p H',zw H H'→H p=none→H' p=some o→Q (.ref p) H'
theorem Qy.at {H:Hp} {o:HO} {Q:VK} (h:Qy H o Q) {p:Addr} (hp:H p=none):Q (.ref p) (upd H p o):=h p _ (zw.upd hp) hp zp
noncomputable def Wz (t:TA):TE:=fun σ H Q=>t σ H fun xs H1=>xs.length≤sizeLine∧Qy H1 (.tup xs) Q
noncomputable def bw (t:TA):TE:=fun σ H Q=>t σ H fun xs H1=>xs.length≤sizeLine∧Qy H1 (.lst xs) Q
section
variable {X:Cx} {es:List Expr} {t:TA} {pos:Pos}
theorem ym {x1} (h:PA X es t):PE X (.Tuple es x1 pos) (Wz t):=by
 intro pins s σ H Q I hq
 refine wpAny_Tuple_spliced (yc (h pos pins s σ H _ I hq) fun us s1 ⟨xs,H1,I1,r,z,q⟩=>⟨by rw[← r.length];exact z,?_⟩)
 have hf:H1 s1.heap.objs.size=none:=I1.hok.fresh (CZ _)
 refine⟨.ref s1.heap.objs.size,upd H1 s1.heap.objs.size (.tup xs),I1.laid (t':=s1.toks) (fun b u e=>dH _ e) (CZ _) ?_,rfl,q.at hf⟩
 exact⟨z,us,r,⟨_,dR _ rfl,rfl,_,rfl⟩⟩
theorem qy (h:PA X es t):PE X (.List es pos) (bw t):=by
 intro pins s σ H Q I hq
 refine wpAny_List_spliced (yc (h pos pins s σ H _ I hq) fun us s1 ⟨xs,H1,I1,r,z,q⟩=>⟨by rw[← r.length];exact z,?_⟩)
 have hf:H1 s1.heap.objs.size=none:=I1.hok.fresh (CZ _)
 refine⟨.ref s1.heap.objs.size,upd H1 s1.heap.objs.size (.lst xs),I1.laid (t':=s1.toks) (fun b u e=>dH _ e) (CZ _) ?_,rfl,q.at hf⟩
 exact⟨z,us,0,r,dR _ rfl⟩
noncomputable def Rt:TE:=fun _ H Q=>Qy H (.dK []) Q
theorem QK:PE X (.Dict [] [] pos) Rt:=fun pins s σ H Q I h=>mw pins s σ H Q I fun p hp=>h.at hp
noncomputable def TU:R2:=fun x y H Q=>∃ l b xs zs,x = .ref l∧y = .ref b∧H l=some (.lst xs)∧H b=some (.lst zs)∧xs.length+zs.length≤sizeLine∧Qy H (.lst (xs++zs)) Q
theorem nj:wH X (binaryOp .Add) TU:=fun pins s σ H x y v u Q I rx ry ⟨l,b,xs,zs,e1,e2,h1,h2,hz,q⟩=>Re pins s σ H x y v u Q I rx ry ⟨l,b,xs,zs,e1,e2,h1,h2,hz,fun p hp=>q.at hp⟩
noncomputable def bc:R2:=fun x y H Q=>∃ l k xs,x = .ref l∧y = .int k∧H l=some (.lst xs)∧-(2 ^ 63)≤k∧k<2 ^ 63∧xs.length*k.toNat≤sizeLine∧Qy H (.lst (List.replicate k.toNat xs).flatten) Q
theorem Mv:wH X (binaryOp .Mult) bc:=fun pins s σ H x y v u Q I rx ry ⟨l,k,xs,e1,e2,h1,h2,h3,hz,q⟩=>tf pins s σ H x y v u Q I rx ry ⟨l,k,xs,e1,e2,h1,h2,h3,hz,fun p hp=>q.at hp⟩
end
section
variable {X:Cx}
theorem zI.walked {pins:List (Addr × Obj)} {σ:St} {H:Hp} {s:Shared} (I:zI X pins σ H s) {u:Obj} {h':Heap} {tk:Nat} (hk:∀ b o,b∉[s.heap.objs.size]→(s.heap.push u).get? b=some o→h'.get? b=some o) :
  zI X pins σ H { s with heap:=h',toks:=tk } :=
 I.kept (t':=tk) fun b o e=>hk b o (by simp;exact dO (dw e)) (dH _ e)
theorem oz {α:Type} (bs:List α) (d:α) (p:α→Bool):(List.range bs.length).all (fun i=>p (bs.getD i d))=bs.all p:=by
 induction bs with
 | nil=>rfl
 | cons b r ih =>
  rw[dW,fB,DX,List.all_map,DX]
  congr 1
theorem rV {bs:List Bool} {its:List Value} (rv:zX (bs.map V.bl) its) {i:Nat} {v:Value} (e:its.toArray[i]? = some v):v = .bool (bs.getD i false):=by
 have hl:=rv.length
 rw[CY] at hl
 have hi:i<its.length:=by
  have:=(Dx.mp e).1
  simpa using this
 have hx:(bs.map V.bl)[i]? = some (V.bl (bs.getD i false)):=by
  rw[dj,de (by omega),Df,de (by omega)]
  rfl
 obtain⟨u,e1,e2⟩:=rv.get hx
 have e3:its[i]? = some v:=by simpa using e
 rw[e1] at e3
 cases e3
 exact e2
theorem wm (hc:X.calm=true):jD X (.builtin "all") (fun xs H Q=>∃ (a:Addr) (bs:List Bool),xs=[.ref a]∧zZ X.K H a (bs.map V.bl)∧Q (.bl (bs.all id)) H):=by
 intro pins s σ H xs us Q I r h
 obtain⟨a,bs,rfl,hS,q⟩:=h
 obtain⟨u,rfl,ru⟩:=vN r
 cases ru
 obtain⟨its,rv,pl,hz⟩:=I.list hS
 have hl:its.length=bs.length:=by rw[← rv.length,CY]
 have hlt:a≠s.heap.objs.size:=by obtain⟨o,e,_⟩:=pl.isList;exact dO (dw e)
 refine call_all_walk (wpAny_pyIter_list pl.isList ?_)
 refine⟨s.heap.objs.size,_,_,_,_,_,fun i=>bs.getD i false,rfl,Walks.list (A:=X.A.in1) (I.ok.hd hc) _ a hlt its.toArray,⟨⟨_,dR _ rfl,rfl,rfl⟩,pl.isList.push _⟩,fun i v s' Q' E' hP hQ=>?_,fun h' tk hk=>?_⟩
 ·rw[rV rv hP]
  exact wpAny_truthy_bool hQ
 ·refine⟨.bl _,H,I.walked hk,rfl,?_⟩
  have e:(List.range its.toArray.size).all (fun i=>bs.getD i false)=bs.all id:=by
   rw[dD,hl]
   exact oz bs false id
  rw[e]
  exact q
theorem Qn {ns:List Int} {its:List Value} (rv:zX (ns.map V.int) its) {i:Nat} {v:Value} (e:its.toArray[i]? = some v):∃ t,v = .int (ns.getD i 0) t:=by
 have hl:=rv.length
 rw[CY] at hl
 have hi:i<its.length:=by
  have:=(Dx.mp e).1
  simpa using this
 have hx:(ns.map V.int)[i]? = some (V.int (ns.getD i 0)):=by
  rw[dj,de (by omega),Df,de (by omega)]
  rfl
 obtain⟨u,e1,e2⟩:=rv.get hx
 have e3:its[i]? = some v:=by simpa using e
 rw[e1] at e3
 cases e3
 exact e2
theorem ZT (l:List Int):∀ j,preSum (fun i=>l.getD i 0) j=(l.take j).sum
 | 0=>by simp[preSum]
 | j+1=>by
  rw[preSum,ZT l j]
  by_cases h:j<l.length
  ·have e:l.take (j+1)=l.take j++[l[j]]:=by rw[List.take_succ,de h];rfl
   rw[e,ET,Df,de h]
   simp
  ·rw[Do (by omega),Do (by omega),Df,Dn (by omega)]
   simp
theorem yB (hc:X.calm=true):jD X (.builtin "sum") (fun xs H Q=>∃ (a:Addr) (ns:List Int),xs=[.ref a]∧zZ X.K H a (ns.map V.int)∧Q (.int ns.sum) H):=by
 intro pins s σ H xs us Q I r h
 obtain⟨a,ns,rfl,hS,q⟩:=h
 obtain⟨u,rfl,ru⟩:=vN r
 cases ru
 obtain⟨its,rv,pl,hz⟩:=I.list hS
 have hl:its.length=ns.length:=by rw[← rv.length,CY]
 have hlt':a<s.heap.objs.size:=by obtain⟨o,e,_⟩:=pl.isList;exact dw e
 have hlt:a≠s.heap.objs.size:=dO hlt'
 refine call_sum_walkG (wpAny_pyIter_list pl.isList ?_)
 refine⟨s.heap.objs.size,_,_,_,_,_,fun i=>ns.getD i 0,rfl,Walks.list (A:=X.A.in1) (I.ok.hd hc) _ a hlt its.toArray,⟨⟨_,dR _ rfl,rfl,rfl⟩,pl.isList.push _⟩,fun b hb=>?_,fun i v hP=>Qn rv hP,fun h' tk t' hk=>?_⟩
 ·show b<(s.heap.push _).objs.size
  rw[DZ]
  rcases dc.mp hb with rfl | hb
  ·exact ee _
  ·rw[dI.mp hb]
   exact eW hlt'
 ·refine⟨.int _,H,I.walked hk,⟨t',rfl⟩,?_⟩
  have e:preSum (fun i=>ns.getD i 0) its.toArray.size=ns.sum:=by
   rw[dD,hl,ZT,Do (CZ _)]
  rw[e]
  exact q
end
noncomputable def Xq (l:List Nat) (lo hi:Option Int):List Nat:=(l.drop (HT.kZ l.length 0 lo)).take (HT.kZ l.length l.length hi - HT.kZ l.length 0 lo)
theorem Qb (n d:Nat) (v:Int):max 0 (min (if v<0 then v+(n:Int) else v) (n:Int))=((HT.kZ n d (some v):Nat):Int):=by
 show _=(((if v<0 then (v+(n:Int)).toNat else min v.toNat n):Nat):Int)
 by_cases hv:v<0
 ·have le:=Int.add_le_add_right (Int.le_of_lt hv) (n:Int)
  rw[DD] at le
  rw[if_pos hv,if_pos hv,Int.min_eq_left le,Int.ofNat_toNat,Int.max_comm]
 ·obtain⟨m,rfl⟩:=Dy (Int.not_lt.mp hv)
  rw[if_neg hv,if_neg hv,Dk,Int.max_eq_right (Int.le_min.mpr ⟨eX m,eX n⟩)]
  rcases Nat.le_total m n with c | c
  ·rw[Dv c,Int.min_eq_left (Int.ofNat_le.mpr c)]
  ·rw[eZ c,Int.min_eq_right (Int.ofNat_le.mpr c)]
theorem Lu (lo hi:Option Int) (n:Nat):Builtin.Str.strSliceIndices lo hi 1 n=sliceRange ((HT.kZ n 0 lo:Nat):Int) ((HT.kZ n n hi:Nat):Int) 1:=by
 unfold Builtin.Str.strSliceIndices
 simp only[show (1:Int) > 0 by decide,if_true]
 cases lo with
 | none =>
  cases hi with
  | none=>rfl
  | some j=>simp only[Qb n n j];rfl
 | some i =>
  cases hi with
  | none=>simp only[Qb n 0 i];rfl
  | some j=>simp only[Qb n 0 i,Qb n n j]
theorem ux (z:Str) (lo hi:Option Int):(Txt.slice z lo hi).cps.toList=Xq z.cps.toList lo hi:=by
 have len:z.length=z.cps.toList.length:=De.symm
 have ix:=(Lu lo hi z.length).trans (sliceRange_one _ _)
 have key:(Builtin.Str.strSliceIndices lo hi 1 z.length).filterMap (z.cps[·]?)=Xq z.cps.toList lo hi:=by
  rw[ix,pick_run,len]
  rfl
 unfold Txt.slice
 split
 ·rename_i h
  have h:(Builtin.Str.strSliceIndices lo hi 1 z.length).length=z.length:=by simpa using h
  rw[ix,CY,d4,len] at h
  have a2:=HT.R7 z.cps.toList.length z.cps.toList.length (CZ _) hi
  have hl:(Xq z.cps.toList lo hi).length=z.cps.toList.length:=by
   unfold Xq
   rw[dP,Dr,h]
   exact Dv (dG (Nat.le_of_eq h.symm) (Nat.sub_le_sub_right a2 _))
  exact (((EO _ _).trans (List.drop_sublist _ _)).eq_of_length hl).symm
 ·exact key
noncomputable def NR:V→Option Int→Option Int→Hp→VK→Prop:=fun x lo hi H Q=>∃ z,x = .str z∧z.length≤sizeLine∧Q (.str (Txt.slice z lo hi)) H
theorem Va {v:Value} {o:Option Int} (p:IsPart v o):∃ l:Option (Int × Tok),v=partValue l∧o=l.map (·.1):=by
 cases p with
 | none=>exact⟨none,rfl,rfl⟩
 | int i t=>exact⟨some (i,t),rfl,rfl⟩
theorem YE {X:Cx}:cI X NR:=by
 intro pins s σ H x v vl vu lo hi sl Q I rx hs pl pu h
 obtain⟨z,rfl,hz,q⟩:=h
 obtain⟨t,rfl⟩:=rx
 obtain⟨l,rfl,rfl⟩:=Va pl
 obtain⟨u,rfl,rfl⟩:=Va pu
 refine⟨"str",_,F.slot_str_getitem.lookup,typeIs_str _ _ _,wpAny_getItem_str_slice (l:=l) (u:=u) (st:=none) hs rfl ?_⟩
 exact post_val_or_str ⟨dG (Txt.slice_le z _ _) hz,fun t' k=>⟨.str _,H,I.tok k,⟨t',rfl⟩,q⟩⟩
noncomputable def yu (xe:Value→Shared→Prop) (X:Cx) (Nc:List Str) (scope:Scope) (cl:List (Str × Addr)) (C:Addr) (fp:List Addr) (s:Shared) (H:Hp):Cx :=
 { X with N:=Nc,s₀:=s,H₀:=H,env:=compEnvC scope cl C X.env,outer:=X.stack,ex:=fp,fn:=fun _=>false,pn:=[],xe:=xe }
abbrev wo:=yu fun _ _=>False
noncomputable def jj (J:It) (D:Addr) (g:TG) (tt:TT) (te:TE) (fin:List V→Hp→Prop) (σ:St) (H:Hp):Prop :=
 ∃ W:Nat→Nat→List V→St→Hp→Prop,(∃ m,W 0 m [] σ H)∧(∀ i m ys σ H,W i m ys σ H→H D=some (.lst ys)) ∧
  ∀ i m ys σ H,W i m ys σ H→(J.stop i H∧fin ys H) ∨
   (J.go i H∧∃ N:List V→St→Hp→Prop,(∀ ys' σ' H',N ys' σ' H'→∃ m',m'<m∧W (i+1) m' ys' σ' H') ∧
    ∀ x H',J.yld i H x H'→g x σ H' fun σ1 H1=>tt σ1 H1 fun b H2=>if b=true then te σ1 H2 fun y H3=>H3 D=some (.lst ys)∧ys.length<sizeLine∧N (ys++[y]) σ1 (upd H3 D (.lst (ys++[y]))) else N ys σ1 H2)
noncomputable def xI (src:List (Option Nat)) (wi:TI) (g:TG) (tt:TT) (te:TE):TE:=fun σ H Q=>wi σ H fun J H1=>∀ D,H1 D=none→jj J D g tt te (fun ys H2=>Q (.ref D) H2) (Ph src σ) (upd H1 D (.lst []))
section
variable {X:Cx} {elt iter tgt:Expr} {ifs:List Expr} {scope:Scope} {cl:List (Str × Addr)} {Nc:List Str} {src:List (Option Nat)} {g:TG} {tt:TT} {te:TE}
theorem ZO {xe:Value→Shared→Prop} {pins:List (Addr × Obj)} {σ:St} {H:Hp} {s:Shared} {D it:Addr} {fp:List Addr} {tn:Nat→Heap→Prop} {J:It} {R:Addr→Result→Shared→Prop} {fin:List V→Hp→Prop} {pos:Pos} {E:Value→Shared→Prop}
  (c:gr X Nc scope cl src) (hcalm:X.calm=true) (I:zI X pins σ H s) (T:Ue X.prog X.w X.K tgt J fp it tn) (st0:tn 0 s.heap) (f:∀ b∈fp,jU X pins H b) (hb:PG (yu xe X Nc scope cl s.heap.objs.size fp s H) tgt g∧ui (yu xe X Nc scope cl s.heap.objs.size fp s H) ifs tt∧PE (yu xe X Nc scope cl s.heap.objs.size fp s H) elt te) (h:jj J D g tt te fin (Ph src σ) H) (hx:∀ x s',xe x s'→notedBy (model X.prog X.w) X.A (compEnvC scope cl s.heap.objs.size X.env) (fun e s'=>R s.heap.objs.size (.error e) s') x s') (kend:∀ C ys σ' H' s',H C=none→zI (yu xe X Nc scope cl C fp s H) [] σ' H' s'→H' D=some (.lst ys)→fin ys H'→R C (.ok .next) s') :
  wpAny (model X.prog X.w) X.A (newFunctionEnv scope X.env.globals cl [] X.env.qual none .none (some X.env)) (fun cenv s4 =>
   codeAny (model X.prog X.w) X.A (.compStart (.ListComp elt [⟨tgt,iter,ifs,0⟩] scope pos) 0 (.ref it) (.ref D) { cenv with scope:=relabel scope X.env }) (R cenv.locals) s4) E s:=by
 obtain⟨W,⟨m0,w0⟩,wi,wt⟩:=h
 refine wpAny_newFunctionEnv c.cell (by intro y hy;simp at hy) (fun h1 hn1 hs1=>?_) c.kind
 have hC0:H s.heap.objs.size=none:=I.hok.fresh (CZ _)
 have old:∀ b o,s.heap.get? b=some o→h1.get? b=some o:=fun b o e=>hs1.extBut b o (dO (dw e)) (dH _ e)
 have fplt:∀ b∈fp,b<s.heap.objs.size:=fun b hb=>by
  obtain⟨o,e,_⟩:=T.obj 0 _ st0 b hb
  exact dw e
 have inStk:∀ b∈fp,b∉OV X.stack:=fun b hb z=>(dc.mp (I.stkSub b z)).elim (f b hb).2.1 (f b hb).2.2.1
 have Yok:(yu xe X Nc scope cl s.heap.objs.size fp s H).Ok:=by
  refine⟨I.ok.mod,c.kind,I.ok.glob,I.ok.blt,CZ _,fun x y b h1 h2=>I.ok.inj x y b (c.sub x b h1) (c.sub y b h2),fun x hx=>c.has x hx,(fun x b h1 _=>nomatch h1),I.ok.hd,I.ok.frames,.inl rfl,fun b hb=>?_,fun b o e=>I.bs b o e,dG I.ok.bsz I.sz,fun b o e hb=>?_,fun b hb=>?_,I.stack,I.stkFree⟩
  ·exact⟨dO (fplt b hb),fun x b' e=>(f b hb).2.2.2.2.1 x b' (c.sub x b' e)⟩
  ·have e0:=(I.ok.bs b o e).1
   rcases (f b hb).2.2.2.1 with z | z
   ·exact I.ok.noex b o e z
   ·rw[z] at e0;cases e0
  ·exact inStk b hb
 have J0:zI (yu xe X Nc scope cl s.heap.objs.size fp s H) [] (Ph src σ) H { s with heap:=h1,toks:=s.toks+([]:List (Str × Value)).length }:=by
  refine⟨Yok,rfl,I.bare,Un.kept old,⟨_,hn1,fun i x v e1 e2 e3=>?_⟩,fun x b e=>?_,hC0,fun x b e=>I.freeC x b (c.sub x b e),fun p hp=>absurd (show p∈([]:List (Addr × Obj)) from hp) (by simp),I.hok.kept old,?_⟩
  ·unfold Ph at e2
   rw[dj] at e2
   cases q:src[i]? with
   | none=>rw[q] at e2;cases e2
   | some oj =>
    rw[q] at e2
    cases oj with
    | none=>cases e2
    | some j =>
     obtain⟨y,y1,y2,y3,y4⟩:=c.frm i j q
     obtain rfl:y=x:=Option.some.inj (y1.symm.trans e1)
     have e2':(σ[j]?).join=some v:=Option.some.inj e2
     have e2s:σ[j]? = some (some v):=by
      cases z:σ[j]? with
      | none=>rw[z] at e2';cases e2'
      | some ov=>rw[z] at e2';exact congrArg some e2'
     obtain⟨m,hn,hl⟩:=I.loc
     obtain⟨u,r,l⟩:=hl j y v y2 e2s (.inr (.inl y3))
     refine⟨u,r,.inr ⟨.inl y4,?_⟩⟩
     rcases l with ⟨k1,_⟩ | ⟨_,b,k2,k3⟩
     ·exact absurd (k1.symm.trans y3) (by intro z;cases z)
     ·obtain⟨b',k4⟩:=c.has y (.inl y4)
      have k5:=c.sub y b' k4
      rw[k2] at k5
      cases k5
      obtain⟨o,ho,hd⟩:=k3
      exact⟨b,k4,o,old b o ho,hd⟩
  ·obtain⟨v,o,ho,hd⟩:=I.cell x b (c.sub x b e)
   exact⟨v,o,old b o ho,hd⟩
  ·unfold Ph
   rw[CY]
   exact c.len
 have st1:tn 0 h1:=T.keep _ _ _ st0 fun b _ o e=>old b o e
 obtain⟨bg,bi,be⟩:=hb
 have fpY:∀ {H2:Hp},(∀ b∈fp,H2 b=none)→∀ b∈fp,jU (yu xe X Nc scope cl s.heap.objs.size fp s H) [] H2 b:=fun {H2} n b hb =>
  ⟨n b hb,dO (fplt b hb),inStk b hb,.inl hb,fun x b' e=>(f b hb).2.2.2.2.1 x b' (c.sub x b' e),fun p hp=>absurd (show p∈([]:List (Addr × Obj)) from hp) (by simp)⟩
 have loop:codeAny (model X.prog X.w) X.A (.compLoop (.ListComp elt [⟨tgt,iter,ifs,0⟩] scope pos) 0 (.ref it) (.ref D) (compEnvC scope cl s.heap.objs.size X.env)) (R s.heap.objs.size) { s with heap:=h1,toks:=s.toks+([]:List (Str × Value)).length }:=by
  refine oG (EX:=xe) hx (fun n s'=>∃ i ys σ' H',zI (yu xe X Nc scope cl s.heap.objs.size fp s H) [] σ' H' s'∧tn i s'.heap∧(∀ b∈fp,H' b=none)∧W i n ys σ' H') ?_ m0 ⟨0,[],_,H,J0,st1,fun b hb=>(f b hb).1,w0⟩
  rintro n s2 ⟨i,ys,σ2,H2,J2,st2,fr2,w2⟩
  have q2:=wi i n ys σ2 H2 w2
  rcases wt i n ys σ2 H2 w2 with ⟨stop,qn⟩ | ⟨go,N,hN,step⟩
  ·refine yc (T.done (yu xe X Nc scope cl s.heap.objs.size fp s H) rfl rfl rfl hcalm i [] s2 σ2 H2 _ J2 (fpY fr2) st2 stop) fun r s4 ⟨hr,I4⟩=>?_
   subst hr
   exact kend _ ys σ2 H2 _ hC0 I4 q2 qn
  ·refine yc (T.item (yu xe X Nc scope cl s.heap.objs.size fp s H) rfl rfl rfl hcalm i [] s2 σ2 H2 _ J2 (fpY fr2) st2 go) fun r s4 ⟨u,hr,h4⟩=>?_
   subst hr
   refine yc h4 fun _ s5 ⟨x,H5,I5,r5,y5,st5,fr5⟩=>?_
   have I5':=I5.pinned (fpY fr5) (T.obj _ _ st5)
   have back:∀ {σ7:St} {H7:Hp} {s7:Shared},zI (yu xe X Nc scope cl s.heap.objs.size fp s H) ([]++Q0 fp s5.heap) σ7 H7 s7→zI (yu xe X Nc scope cl s.heap.objs.size fp s H) [] σ7 H7 s7∧tn (i+1) s7.heap∧∀ b∈fp,H7 b=none:=fun {σ7 H7 s7} I7=>by
    refine⟨I7.unpinned,T.keep _ _ _ st5 fun b hb o e=>(I7.pin (b,o) (Dl _ (Dl _ (vR hb e)))).1,fun b hb=>?_⟩
    obtain⟨o,e,d⟩:=T.obj _ _ st5 b hb
    exact (I7.pin (b,o) (Dl _ (Dl _ (vR hb e)))).2.1
   refine yc (bg _ s5 σ2 H5 x u _ I5' r5 (step x H5 y5)) fun _ s6 ⟨σ6,H6,I6,q6⟩=>?_
   refine yc (bi _ s6 σ6 H6 _ I6 q6) fun b s7 ⟨H7,I7,q7⟩=>?_
   cases b with
   | false =>
    obtain⟨m',hm,w7⟩:=hN _ _ _ q7
    obtain⟨J7,st7,fr7⟩:=back I7
    exact⟨m',hm,i+1,ys,σ6,H7,J7,st7,fr7,w7⟩
   | true =>
    refine yc (be _ s7 σ6 H7 _ I7 q7) fun y s8 ⟨vy,H8,I8,ry,hD8,hl8,n8⟩=>?_
    refine yc (jI (X:=yu xe X Nc scope cl s.heap.objs.size fp s H) _ s8 σ6 H8 (.ref D) [vy] (.ref D) [y] (fun _ H'=>H'=upd H8 D (.lst (ys++[vy]))) I8 rfl (.cons ry .nil) ⟨D,ys,vy,rfl,rfl,hD8,hl8,rfl⟩) fun _ s9 ⟨_,H9,I9,_,e9⟩=>?_
    subst e9
    obtain⟨m',hm,w8⟩:=hN _ _ _ n8
    obtain⟨J9,st9,fr9⟩:=back I9
    exact⟨m',hm,i+1,ys++[vy],σ6,_,J9,st9,fr9,w8⟩
 exact codeAny_compStart_list loop (T.self _ 0 _ _ _ st1 loop)
theorem YL {xe:Value→Shared→Prop} {pins:List (Addr × Obj)} {σ σ':St} {H H':Hp} {s s':Shared} {C:Addr} {fp:List Addr} {h':Heap} (I:zI X pins σ H s) (f:∀ b∈fp,jU X pins H b) (J:zI (yu xe X Nc scope cl C fp s H) [] σ' H' s') (hs:Heap.SameBut C s'.heap h') :
  zI X pins σ H' { s' with heap:=h' }:=by
 have nC:∀ b o,s.heap.get? b=some o→b≠C:=fun b o e=>dO (Dd (dw e) J.ok.above)
 have B:=J.base
 refine I.call' (s':={ s' with heap:=h' }) (ch:=fp) J.os ⟨fun b o e n hb hx=>(hs.2 b (nC b o e)).trans (B.keep b o e n hb hx),fun b o e n hb hx=>?_,B.free,fun b o e hx=>?_,B.tups,B.frzs,B.tbls⟩ (fun b u q=>?_) J.bare fun b hb=>?_
 ·obtain⟨sl,z⟩:=B.slot b o e n hb hx
  exact⟨sl,(hs.2 b (nC b o e)).trans z⟩
 ·obtain⟨o',z⟩:=B.there b o e hx
  exact⟨o',(hs.2 b (nC b o e)).trans z⟩
 ·have hC:H' C=none:=J.free
  refine (J.hok b u q).stay (fun c v hc z=>(hs.2 c ?_).trans z) (fun _ z=>z) fun _ _ z=>z
  rintro rfl
  rcases hc with hc | hc
  ·rw[← hc,hC] at q;cases q
  ·rw[hC] at hc;cases hc
 ·exact⟨(f b hb).2.2.2.1,(f b hb).2.1,(f b hb).2.2.2.2.1,(f b hb).2.2.2.2.2⟩
theorem z8 {wi:TI} {pos:Pos} (c:gr X Nc scope cl src) (hcalm:X.calm=true) (hi:PI X tgt iter wi) (hb:∀ fp C s' H',PG (wo X Nc scope cl C fp s' H') tgt g∧ui (wo X Nc scope cl C fp s' H') ifs tt∧PE (wo X Nc scope cl C fp s' H') elt te) (hs:∀ x,foldedSetIterable iter X.env x=pure x:=by intro _;rfl):PE X (.ListComp elt [⟨tgt,iter,ifs,0⟩] scope pos) (xI src wi g tt te):=by
 intro pins s σ H Q I h
 rw[eval_ListComp]
 refine wpAny_comprehension_free (use:=none) rfl hs c.clos c.kind c.names (yc (hi pins s σ H _ I h) fun v s1 h1=>yc h1 fun itv s2 h2=>?_)
 obtain⟨it,fp,tn,J,H2,e,I2,T,st2,f2,hT⟩:=h2
 subst e
 refine wpAny_newObj_type ?_ (by size_fits)
 have old:∀ b o,s2.heap.get? b=some o→(s2.heap.push { cls:=.type "list",data:=.seq ([]:List Value).toArray }).get? b=some o:=fun b o e=>dH _ e
 have I3:=I2.laid (a:=s2.heap.objs.size) (o:=.lst []) (t':=s2.toks) (h':=s2.heap.push { cls:=.type "list",data:=.seq ([]:List Value).toArray }) old (CZ _) ⟨d6 _,[],0,.nil,dR _ rfl⟩
 have ne:∀ b∈fp,b≠s2.heap.objs.size:=fun b hb=>by
  obtain⟨o,e,_⟩:=T.obj 0 _ st2 b hb
  exact dO (dw e)
 have f3:∀ b∈fp,jU X pins (upd H2 s2.heap.objs.size (.lst [])) b:=fun b hb=>⟨by rw[zm (ne b hb)];exact (f2 b hb).1,(f2 b hb).2⟩
 refine ZO (it:=it) (R:=fun C=>compPost (model X.prog X.w) X.A X.xe none (EP X pins σ Q) _ C) c hcalm I3 T (T.keep _ _ _ st2 fun b _ o e=>old b o e) f3 (hb fp _ _ _) (hT _ (I2.hok.fresh (CZ _))) (fun _ _ z=>z.elim) fun C ys σ' H' s' hC J' hD q=>?_
 obtain⟨m,hn,_⟩:=id J'.loc
 exact⟨m,hn,fun h' hs'=>⟨.ref _,H',YL I3 f3 J' hs',rfl,q⟩⟩
end
section
variable {K:BFr} {a D:Addr} {xs:List V} {g:TG} {tt:TT} {te:TE} {fin:List V→Hp→Prop} {σ:St} {H:Hp}
noncomputable def Jt (D:Addr) (g:TG) (tt:TT) (te:TE) (x:V) (ys:List V) (N:List V→St→Hp→Prop) (σ:St) (H:Hp):Prop :=
 g x σ H fun σ1 H1=>tt σ1 H1 fun b H2=>if b=true then te σ1 H2 fun y H3=>H3 D=some (.lst ys)∧ys.length<sizeLine∧N (ys++[y]) σ1 (upd H3 D (.lst (ys++[y]))) else N ys σ1 H2
end
noncomputable def BI (z:Str):It:=⟨fun i _=>i<z.cps.size,fun i H x H'=>H'=H∧∃ c,z.cps[i]? = some c∧x = .str ⟨#[c]⟩,fun i _=>z.cps.size≤i⟩
theorem Vl (z:Str):strIterType z = "str_ascii_iterator"∨strIterType z = "str_iterator":=by
 unfold strIterType
 split
 ·exact .inl rfl
 ·exact .inr rfl
theorem PR {P:Program} {w:World} {K:BFr} {tg:Expr} (z:Str) (t:Tok) (it:Addr):Ue P w K tg (BI z) [it] it (fun i h=>h.IsStrIter it (strIterType z) z t i) where
 mem:=by simp
 obj:=fun i h st b hb=>by
  have e:b=it:=by simpa using hb
  subst e
  obtain⟨o,e,c,d⟩:=st
  exact⟨o,e,fun v q=>by rw[d] at q;cases q⟩
 keep:=fun i h h' st k=>by
  obtain⟨o,e,r⟩:=st
  exact⟨o,k it (by simp) o e,r⟩
 item:=by
  intro X hP hw hK hc i pins s σ H E I hf st hg
  subst hP hw hK
  have hg':i<z.cps.size:=hg
  have hx:z.cps[i]? = some z.cps[i]:=EU hg'
  obtain⟨f0,f1,f2,f3,f4,f5⟩:=hf it (by simp)
  have fin:∀ h':Heap,h'.IsStrIter it (strIterType z) z t (i+1)→Heap.SameBut it s.heap h'→∃ u,some (Value.str ⟨#[z.cps[i]]⟩ s.toks)=some u ∧
    wpAny (model X.prog X.w) X.A (letOwnedTupleGo tg (.ref it) u) (fun _ s2=>∃ x H',zI X pins σ H' s2∧qt x u∧(BI z).yld i H x H'∧s2.heap.IsStrIter it (strIterType z) z t (i+1)∧∀ b∈[it],H' b=none) E { s with heap:=h',toks:=s.toks+1 }:=fun h' st' sb=>by
   have I1:zI X pins σ H { s with heap:=h',toks:=s.toks+1 }:=I.turned (t':=s.toks+1) (fun b o hb e=>(sb.2 b hb).trans e) f0 f1 f3 f4 f5
   obtain⟨o,e,c,d⟩:=id st'
   refine⟨_,rfl,Vb (s:={ s with heap:=h',toks:=s.toks+1 }) e c d ?_ ⟨.str ⟨#[z.cps[i]]⟩,H,I1,⟨_,rfl⟩,⟨rfl,_,hx,rfl⟩,st',fun b hb=>(hf b hb).1⟩⟩
   rcases Vl z with q | q <;> rw[q] <;> decide
  rcases Vl z with q | q
  ·rw[q] at st fin ⊢
   exact wpAny_pyNext_ascii_item st hx fun h' st' sb=>fin h' st' sb
  ·rw[q] at st fin ⊢
   exact wpAny_pyNext_wide_item st hx fun h' st' sb=>fin h' st' sb
 done:=by
  intro X hP hw hK hc i pins s σ H E I hf st hg
  subst hP hw hK
  have hg':z.cps.size≤i:=hg
  have hx:z.cps[i]? = none:=Array.getElem?_eq_none hg'
  obtain⟨f0,f1,f2,f3,f4,f5⟩:=hf it (by simp)
  have fin:∀ h':Heap,Heap.ExtBut it s.heap h'→(none:Option Value)=none∧zI X pins σ H { s with heap:=h' }:=fun h' eb=>⟨rfl,I.turned (t':=s.toks) (fun b o hb e=>eb b o hb e) f0 f1 f3 f4 f5⟩
  rcases Vl z with q | q
  ·rw[q] at st
   exact wpAny_pyNext_ascii_end (I.ok.hd hc) st hx fin
  ·rw[q] at st
   exact wpAny_pyNext_wide_end (I.ok.hd hc) st hx fin
 self:=fun _ _ _ _ _ st h=>by
  rcases Vl z with q | q
  ·rw[q] at st
   exact wpAny_pyIter_striter_ascii st h
  ·rw[q] at st
   exact wpAny_pyIter_striter_wide st h
noncomputable def tK (tl:TE):TI:=fun σ H R=>tl σ H fun x H1=>∃ z,x = .str z∧R (BI z) H1
theorem mm {X:Cx} {tg l:Expr} {tl:TE} (hl:PE X l tl):PI X tg l (tK tl):=by
 intro pins s σ H R I h
 refine yc (hl pins s σ H _ I h) fun v s1 ⟨x,H1,I1,r1,q1⟩=>?_
 obtain⟨z,e,q⟩:=q1
 subst e
 obtain⟨t,rfl⟩:=r1
 refine wpAny_pyIter_strU ?_
 refine⟨s1.heap.objs.size,[s1.heap.objs.size],_,_,H1,rfl,I1.kept (t':=s1.toks) fun b o e=>dH _ e,PR z t _,⟨_,dR _ rfl,rfl,rfl⟩,fun b hb=>?_,q⟩
 have e:b=s1.heap.objs.size:=by simpa using hb
 subst e
 exact I1.fpOk (CZ _) (I1.hok.fresh (CZ _))
noncomputable def Ci (c:Nat):V:=.str ⟨#[c]⟩
section
variable {D:Addr} {g:TG} {tt:TT} {te:TE} {fin:List V→Hp→Prop} {σ:St} {H:Hp} {z:Str}
end
section
variable {X:Cx}
theorem gM (x:Str) (c:Nat):(!(Builtin.Str.occurrences x ⟨#[c]⟩ 0 x.length 1).isEmpty)=x.cps.toList.contains c:=by
 rw[Dz,StrLaws.found_iff,Dp]
 constructor
 ·rintro ⟨i,h⟩
  exact dZ ((StrLaws.subAt_one x c i).mp h)
 ·intro h
  obtain⟨i,hi⟩:=List.getElem?_of_mem h
  exact⟨i,(StrLaws.subAt_one x c i).mpr hi⟩
noncomputable def jx (z:Str) (n:Int):Str:=⟨(List.replicate n.toNat z.cps.toList).flatten.toArray⟩
theorem JK (a:Array Nat):∀ (k:Nat) (acc:Array Nat),((List.replicate k a).foldl (· ++ ·) acc).toList=acc.toList++(List.replicate k a.toList).flatten
 | 0,acc=>by simp
 | k+1,acc=>by
  rw[DA,Ds,JK a k,DA,eS,Array.toList_append,d8]
theorem xm:wH X (binaryOp .Mult) (fun x y H Q=>∃ z n,x = .str z∧y = .int n∧-(2 ^ 63)≤n∧n<2 ^ 63∧z.length*n.toNat≤sizeLine∧Q (.str (jx z n)) H):=by
 intro pins s σ H x y v u Q I rx ry h
 obtain⟨z,n,rfl,rfl,h1,h2,hz,q⟩:=h
 obtain⟨t,rfl⟩:=rx
 obtain⟨t',rfl⟩:=ry
 have lenz:z.length=z.cps.size:=rfl
 have e1:n<1→jx z n=Str.empty:=fun hn=>by
  unfold jx
  rw[show n.toNat=0 by omega]
  rfl
 have e2:(n==1 || z.length==0)=true→¬ n<1→jx z n=z:=fun hc hn=>by
  unfold jx
  rw[EV,beq_iff_eq,beq_iff_eq] at hc
  rcases hc with rfl | hc
  ·simp
  ·have:z.cps = #[]:=Array.eq_empty_of_size_eq_zero hc
   obtain⟨c⟩:=z
   simp at this
   subst this
   simp
 refine PySem.P.mul_str (by rw[decide_eq_false (by omega),decide_eq_false (by omega)];rfl) (fun hn hc=>?_) (fun hn hc=>?_) ?_
 ·intro hgt
  have hb:(z.length:Int)*n≤2 ^ 63 - 1:=by
   have hs:(sizeLine:Int)≤2 ^ 63 - 1:=by have:=ZG;omega
   have:((z.length*n.toNat:Nat):Int)≤(sizeLine:Int):=by exact_mod_cast hz
   rw[Int.natCast_mul,Int.toNat_of_nonneg (by omega)] at this
   omega
  have:=(Int.le_ediv_iff_mul_le (by omega:(0:Int)<n)).mpr hb
  omega
 ·unfold Builtin.Str.tooLong
  exact decide_eq_false (by omega)
 ·by_cases hn:n<1
  ·rw[if_pos hn]
   rw[e1 hn] at q
   exact⟨by decide,.str _,H,I.tok _,⟨_,rfl⟩,q⟩
  ·rw[if_neg hn]
   by_cases hc:(n==1 || z.length==0)=true
   ·rw[if_pos hc]
    rw[e2 hc hn] at q
    exact⟨.str z,H,I,⟨t,rfl⟩,q⟩
   ·rw[if_neg hc]
    have e3:(⟨(List.replicate n.toNat z.cps).foldl (· ++ ·) #[]⟩:Str)=jx z n:=by
     unfold jx
     congr 1
     apply eJ.mp
     rw[JK]
     simp
    rw[e3]
    refine⟨?_,.str _,H,I.tok _,⟨_,rfl⟩,q⟩
    show (jx z n).cps.size≤sizeLine
    unfold jx
    rw[dD,Gs,Nat.mul_comm]
    simpa [lenz] using hz
theorem wF:jD X (.type "int") (fun xs H Q=>∃ z n,xs=[.str z]∧PySem.intText? z=some n∧z.length≤640∧Q (.int n) H):=by
 intro pins s σ H xs us Q I r h
 obtain⟨z,n,rfl,hn,hl,q⟩:=h
 obtain⟨u,rfl,ru⟩:=vN r
 obtain⟨t,rfl⟩:=ru
 exact PySem.W.KIN.call_text hn hl ⟨.int n,H,I.tok _,⟨_,rfl⟩,q⟩
end
open Builtin.Str (occurrences partsBetween)
theorem Vf:∀ {zs:List Str} {its:List Value},zX (zs.map V.str) its→∃ l:List (Str × Tok),l.map (·.1)=zs∧its=strValues l
 | [],_,.nil=>⟨[],rfl,rfl⟩
 | z::zs,_,.cons ⟨t,e⟩ r=>by
  obtain⟨l,e1,e2⟩:=Vf r
  subst e e2
  exact⟨(z,t)::l,by rw[dN,e1],rfl⟩
theorem Ju:∀ (l:List (Str × Tok)),zX ((l.map (·.1)).map V.str) (strValues l)
 | []=>.nil
 | p::r=>.cons ⟨p.2,rfl⟩ (Ju r)
section
variable {X:Cx}
theorem yZ:BJ X "str.join" (fun x vs H Q=>∃ sep zs a,x = .str sep∧vs=[.ref a]∧zZ X.K H a (zs.map V.str)∧JoinOk sep zs=true∧Q (.str (Txt.join sep zs)) H):=by
 intro pins s σ H x xs v us Q I rx rv h
 obtain⟨sep,zs,a,rfl,rfl,hS,hj,q⟩:=h
 obtain⟨t,rfl⟩:=rx
 obtain⟨u,rfl,ru⟩:=zX.one rv
 cases ru
 obtain⟨its,r,pl,hz⟩:=I.list hS
 obtain⟨l,e1,rfl⟩:=Vf r
 exact SC.join pl.isList e1 hj fun t' k=>⟨.str _,H,I.tok k,⟨t',rfl⟩,q⟩
theorem kj:BJ X "str.split" (fun x vs H Q=>∃ z y,x = .str z∧vs=[.str y]∧(y.length==0)=false∧z.length≤sizeLine∧(partsBetween z (occurrences z y 0 z.length (z.length+1)) y.length).length≤sizeLine∧Qy H (.lst ((Txt.split z y).map V.str)) Q):=by
 intro pins s σ H x xs v us Q I rx rv h
 obtain⟨z,y,rfl,rfl,hy,h1,h2,q⟩:=h
 obtain⟨t,rfl⟩:=rx
 obtain⟨u,rfl,ru⟩:=zX.one rv
 obtain⟨tu,rfl⟩:=ru
 have fin:∀ (l:List (Str × Tok)) (k:Nat),l.map (·.1)=Txt.split z y→(Txt.split z y).length≤sizeLine→EP X pins σ Q (.ref s.heap.objs.size) { s with toks:=k,heap:=s.heap.push { cls:=.type "list",data:=.seq (strValues l).toArray } }:=fun l k e hl=>by
  refine⟨.ref _,upd H s.heap.objs.size (.lst ((Txt.split z y).map V.str)),I.laid (t':=k) (fun b o e=>dH _ e) (CZ _) ⟨by rw[CY];exact hl,strValues l,0,by rw[← e];exact Ju l,dR _ rfl⟩,rfl,q.at (I.hok.fresh (CZ _))⟩
 have one:∀ e:Txt.split z y=[z],(Txt.split z y).length≤sizeLine:=fun e=>by rw[e];exact qv rfl
 cases c1:(decide (z.length<y.length) || decide (Builtin.Str.strKind z<Builtin.Str.strKind y))
 ·cases hf:(occurrences z y 0 z.length (z.length+1)).isEmpty
  ·refine call_meets F.slot_str_split (typeIs_str _ _ _) F.entry_str_split (F.args_str_split_2 _ _) (meets_str_split_sep z y t tu c1 hy hf h1 h2) ?_
   show wants _ _ _ { s with toks:=_,heap:=s.heap.push { cls:=.type "list",data:=.seq (strsFrom s.toks (partsBetween z (occurrences z y 0 z.length (z.length+1)) y.length)).toArray } }
   rw[strsFrom_eq]
   have e:Txt.split z y=partsBetween z (occurrences z y 0 z.length (z.length+1)) y.length:=(if_neg (ne_true_of_eq_false c1)).trans (if_neg (ne_true_of_eq_false hf))
   exact fin (numbered s.toks _) _ ((numbered_texts _ _).trans e.symm) (by rw[e];exact h2)
  ·have e:Txt.split z y=[z]:=(if_neg (ne_true_of_eq_false c1)).trans (if_pos hf)
   exact call_meets F.slot_str_split (typeIs_str _ _ _) F.entry_str_split (F.args_str_split_2 _ _) (meets_str_split_not_found z y t tu c1 hy hf) (fin [(z,t)] s.toks e.symm (one e))
 ·have e:Txt.split z y=[z]:=if_pos c1
  exact call_meets F.slot_str_split (typeIs_str _ _ _) F.entry_str_split (F.args_str_split_2 _ _) (meets_str_split_cannot_occur z y t tu c1) (fin [(z,t)] s.toks e.symm (one e))
end
end L2
namespace L2
open PySem PySem.Spec PyProof.Rows
inductive Dt where
 | v (x:V)
 | l (xs:List Dt)
 | t (xs:List Dt)
inductive Is (K:BFr) (H:Hp):Nat→V→Dt→Prop where
 | v {n:Nat} {x:V}:uk x=true→Is K H n x (.v x)
 | l {n:Nat} {a:Addr} {xs:List V} {ds:List Dt}:zZ K H a xs→xs.length=ds.length→(∀ (j:Nat) x d,xs[j]? = some x→ds[j]? = some d→Is K H n x d)→Is K H (n+1) (.ref a) (.l ds)
 | t {n:Nat} {a:Addr} {xs:List V} {ds:List Dt}:qh K H a xs→xs.length=ds.length→(∀ (j:Nat) x d,xs[j]? = some x→ds[j]? = some d→Is K H n x d)→Is K H (n+1) (.ref a) (.t ds)
theorem Is.flatT {K:BFr} {H:Hp} {a:Addr} {xs:List V} (h:qh K H a xs) (f:xs.all uk=true):Is K H 1 (.ref a) (.t (xs.map Dt.v)):=by
 refine .t h (by simp) fun j x d e1 e2=>?_
 rw[dj,e1] at e2
 cases e2
 exact .v (Dc.mp f x (dZ e1))
theorem UA {x:V} (f:uk x=true):mV x x=true:=by
 cases x <;> simp[uk] at f <;> simp[mV]
theorem vg (n:Nat):(List.range n).all (fun _=>true)=true:=by
 rw[Dc]
 intro _ _
 rfl
section
variable {X:Cx} {pins:List (Addr × Obj)} {σ:St} {H:Hp} {s:Shared}
theorem JO {xs:List V} {its:List Value} (r:zX xs its) {j:Nat} (h:j<its.toArray.size):∃ x,xs[j]? = some x∧qt x its.toArray[j]:=by
 have hl:=r.length
 have hj:j<xs.length:=by rw[hl];simpa using h
 refine⟨xs[j],de hj,?_⟩
 obtain⟨u,e1,e2⟩:=r.get (de hj)
 have:its[j]? = some its.toArray[j]:=by simp at h ⊢
 rw[this] at e1
 cases e1
 exact e2
theorem oU (I:zI X pins σ H s):∀ (n:Nat) (d:Dt) (x y:V) (u v:Value) (A:Around),Is X.K H n x d→Is X.K H n y d→qt x u→qt y v→A.units+n<cLine→SeqAt.EqAt A s u v true:=by
 intro n
 induction n with
 | zero =>
  intro d x y u v A hx hy ru rv hu
  cases hx with
  | v f =>
   cases hy with
   | v f' =>
    have e:=gb (A:=A) (s:=s) ru rv f f
    rw[UA f] at e
    exact e
 | succ n ih =>
  intro d x y u v A hx hy ru rv hu
  cases hx with
  | v f =>
   cases hy with
   | v f' =>
    have e:=gb (A:=A) (s:=s) ru rv f f
    rw[UA f] at e
    exact e
  | l h1 h2 h3 =>
   cases hy with
   | l g1 g2 g3 =>
    cases ru
    cases rv
    rename_i a xs ds b ys
    by_cases hab:a=b
    ·subst hab
     exact SeqAt.EqAt.same _
    ·obtain⟨us,r1,p1,_⟩:=I.list h1
     obtain⟨ws,r2,p2,_⟩:=I.list g1
     have e:=SeqAt.RcAt.lists (A:=A) (e:=fun _=>true) p1.isList p2.isList (by rw[dD,dD,← r1.length,← r2.length,h2,g2]) (by omega) fun j k1 k2=>by
      obtain⟨x,ex,rx⟩:=JO r1 k1
      obtain⟨y,ey,ry⟩:=JO r2 k2
      have hj:j<ds.length:=by
       have:=(dF.mp ex).1
       omega
      exact ih ds[j] x y _ _ A.in1 (h3 j x _ ex (de hj)) (g3 j y _ ey (de hj)) rx ry (by show A.units+1+n<cLine;omega)
     rw[vg] at e
     exact SeqAt.EqAt.of_refs hab e
  | t h1 h2 h3 =>
   cases hy with
   | t g1 g2 g3 =>
    cases ru
    cases rv
    rename_i a xs ds b ys
    by_cases hab:a=b
    ·subst hab
     exact SeqAt.EqAt.same _
    ·obtain⟨us,r1,p1,_⟩:=I.tuple h1
     obtain⟨ws,r2,p2,_⟩:=I.tuple g1
     have e:=SeqAt.RcAt.tuples (A:=A) (e:=fun _=>true) (show s.heap.IsTuple a us.toArray from p1) (show s.heap.IsTuple b ws.toArray from p2) (by omega) fun j k1 k2=>by
      obtain⟨x,ex,rx⟩:=JO r1 k1
      obtain⟨y,ey,ry⟩:=JO r2 k2
      have hj:j<ds.length:=by
       have:=(dF.mp ex).1
       omega
      exact ih ds[j] x y _ _ A.in1 (h3 j x _ ex (de hj)) (g3 j y _ ey (de hj)) rx ry (by show A.units+1+n<cLine;omega)
     rw[vg,Ec,show (us.toArray.size==ws.toArray.size)=true by rw[beq_iff_eq,dD,dD,← r1.length,← r2.length,h2,g2]] at e
     exact SeqAt.EqAt.of_refs hab e
theorem b9 (I:zI X pins σ H s) {n:Nat} {ds:List Dt} {xs ys:List V} {us ws:List Value} {A:Around} (r1:zX xs us) (r2:zX ys ws) (h2:xs.length=ds.length) (h3:∀ (j:Nat) x d,xs[j]? = some x→ds[j]? = some d→Is X.K H n x d) (g3:∀ (j:Nat) x d,ys[j]? = some x→ds[j]? = some d→Is X.K H n x d) (hu:A.units+(n+1)<cLine) :
  ∀ j (k1:j<us.toArray.size) (k2:j<ws.toArray.size),SeqAt.EqAt A.in1 s us.toArray[j] ws.toArray[j] ((fun _=>true) j):=fun j k1 k2=>by
 obtain⟨x,ex,rx⟩:=JO r1 k1
 obtain⟨y,ey,ry⟩:=JO r2 k2
 have hj:j<ds.length:=by
  have:=(dF.mp ex).1
  omega
 exact oU I n ds[j] x y _ _ A.in1 (h3 j x _ ex (de hj)) (g3 j y _ ey (de hj)) rx ry (by show A.units+1+n<cLine;omega)
end
section
variable {X:Cx}
noncomputable def rL:Dt→Bool
 | .v _=>false
 | _=>true
noncomputable def bU (X:Cx) (neg:Bool):R2:=fun x y H Q=>∃ n d,rL d=true∧Is X.K H n x d∧Is X.K H n y d∧X.A.units+n<cLine∧Q (.bl (!neg)) H
theorem Te:wH X (compareOp .NotEq) (bU X true):=by
 intro pins s σ H x y v u Q I rx ry h
 obtain⟨n,d,hq,hx,hy,hu,q⟩:=h
 cases hx with
 | v f=>cases hq
 | l h1 h2 h3 =>
  cases hy with
  | l g1 g2 g3 =>
   cases rx
   cases ry
   obtain⟨us,r1,p1,_⟩:=I.list h1
   obtain⟨ws,r2,p2,_⟩:=I.list g1
   refine SeqAt.RcNeAt.lists (e:=fun _=>true) p1.isList p2.isList (by rw[dD,dD,← r1.length,← r2.length,h2,g2]) (by omega) (b9 I r1 r2 h2 h3 g3 hu) _ _ _ _ ?_
   rw[vg]
   exact⟨.bl false,H,I,rfl,q⟩
 | t h1 h2 h3 =>
  cases hy with
  | t g1 g2 g3 =>
   cases rx
   cases ry
   obtain⟨us,r1,p1,_⟩:=I.tuple h1
   obtain⟨ws,r2,p2,_⟩:=I.tuple g1
   refine SeqAt.RcNeAt.tuples (e:=fun _=>true) (show s.heap.IsTuple _ us.toArray from p1) (show s.heap.IsTuple _ ws.toArray from p2) (by omega) (b9 I r1 r2 h2 h3 g3 hu) _ _ _ _ ?_
   rw[vg,Ec,show (us.toArray.size==ws.toArray.size)=true by rw[beq_iff_eq,dD,dD,← r1.length,← r2.length,h2,g2]]
   exact⟨.bl false,H,I,rfl,q⟩
end
end L2
set_option maxHeartbeats 1000000
namespace SG
open PySem PyProof.Rows
class Rk where
 num:Value→Int
 knd:SortKind
variable [Rk]
noncomputable def K (xs:Array Keyed) (i:Nat):Int:=match xs[i]? with
 | some q=>Rk.num q.1
 | none=>0
noncomputable def vf (xs:Array Keyed) (n:Nat):Prop:=∀ a b,a≤b→b<n→K xs a≤K xs b
structure j0 (b₀:Array Keyed) (st:SortSt):Prop where
 perm:(arrOf st).Perm b₀
 kind:kindOf st=Rk.knd
 failed:failedOf st=none
 pend:pendingOf st = #[]
theorem j0.size {b₀:Array Keyed} {st:SortSt} (h:j0 b₀ st):(arrOf st).size=b₀.size:=h.perm.size_eq
theorem j0.setArr {b₀:Array Keyed} {st:SortSt} (h:j0 b₀ st) {ys:Array Keyed} (q:ys.Perm (arrOf st)):j0 b₀ (PyProof.Rows.setArr st ys):=⟨q.trans h.perm,h.kind,h.failed,h.pend⟩
noncomputable def MC (prog:Program) (w:World) (A:Around) (s:Shared) (b₀:Array Keyed):Prop :=
 ∀ p∈b₀.toList,∀ q∈b₀.toList,∀ (Q:Bool→Shared→Prop) (E:Value→Shared→Prop),Q (decide (Rk.num p.1<Rk.num q.1)) s→wpAny (model prog w) A (keyLt' Rk.knd p.1 q.1) Q E s
section
variable {prog:Program} {w:World} {A:Around} {E:Value→Shared→Prop} {s:Shared} {b₀:Array Keyed}
theorem j0.mem {st:SortSt} (h:j0 b₀ st) {i:Nat} (hi:i<b₀.size):∃ p,(arrOf st)[i]? = some p∧p∈b₀.toList:=by
 have hi':i<(arrOf st).size:=by rw[h.size];exact hi
 exact⟨_,getElem?_pos _ i hi',(Array.perm_iff_toList_perm.mp h.perm).mem_iff.mp (by simp)⟩
theorem kh {st:SortSt} {i j:Nat} {Q:Option Bool→SortSt→Prop} (hB:j0 b₀ st) (hk:MC prog w A s b₀) (hi:i<b₀.size) (hj:j<b₀.size) (h:Q (some (decide (K (arrOf st) i<K (arrOf st) j))) st):wpS (model prog w) A E s (ltAt' i j) Q st:=by
 obtain⟨p,e1,m1⟩:=hB.mem hi
 obtain⟨q,e2,m2⟩:=hB.mem hj
 have k1:K (arrOf st) i=Rk.num p.1:=by unfold K;rw[e1]
 have k2:K (arrOf st) j=Rk.num q.1:=by unfold K;rw[e2]
 rw[k1,k2] at h
 rw[ltAt'_eq];refine wpS_bind (wpS_get ?_)
 show wpS _ _ _ _ (do let u ← elem' (arrOf st) i;let v ← elem' (arrOf st) j;lt' u v) Q st
 rw[elem'_eq,elem'_eq,e1,e2]
 refine wpS_bind (wpS_pure (wpS_bind (wpS_pure (?_))))
 rw[lt'_eq];refine wpS_bind (wpS_get ?_)
 rw[hB.kind]
 refine wpS_bind (wpS_lift (wpAny_attempt (hk p m1 q m2 _ _ ⟨rfl,?_⟩)))
 exact wpS_pure h
theorem ZQ {st:SortSt} {a N:Nat} {Q:AscSt→SortSt→Prop} (hk:MC prog w A s b₀) (hN:N≤b₀.size) (h1:1≤a) (ha:a≤N) (hB:j0 b₀ st) (hs:vf (arrOf st) a) (h:∀ m,a≤m→m≤N→vf (arrOf st) m→(m=N∨K (arrOf st) m<K (arrOf st) (m - 1))→Q (none,m) st):wpS (model prog w) A E s (ascLoop a N) Q st:=by
 unfold ascLoop
 refine wpS_forRange (I:=fun x c st'=>st'=st∧c=(none,x)∧vf (arrOf st) x) ?turn ?done ⟨rfl,rfl,hs⟩
 case done =>
  rintro c st' ⟨rfl,rfl,z⟩
  have e:max a N=N:=by omega
  rw[e] at z ⊢
  exact h N ha (CZ _) z (.inl rfl)
 case turn =>
  rintro x c st' hx1 hx2 ⟨rfl,rfl,z⟩
  dsimp only
  refine wpS_bind (kh hB hk (by omega) (by omega) ?_)
  by_cases lt:K (arrOf st') x<K (arrOf st') (x - 1)
  ·simp only[lt,decide_true,if_true];exact wpS_pure (h x hx1 (by omega) z (.inr lt))
  ·simp only[lt,decide_false,DN,if_false]
   refine wpS_pure ⟨rfl,rfl,fun i j hij hj=>?_⟩
   by_cases c1:j<x
   ·exact z i j hij c1
   ·obtain rfl:j=x:=by omega
    by_cases c2:i=j
    ·rw[c2];exact Di _
    ·have:=z i (j - 1) (by omega) (by omega)
     omega
end
end SG
namespace SG
open PySem PyProof.Rows
variable [Rk]
abbrev ky (p:Keyed):Int:=Rk.num p.1
noncomputable def put (x:Keyed) (l:List Keyed):List Keyed:=l.takeWhile (fun y=>decide (ky y≤ky x))++x::l.dropWhile (fun y=>decide (ky y≤ky x))
noncomputable def jB (l:List Keyed):List Keyed:=l.foldl (fun acc x=>put x acc) []
theorem QU (l:List Keyed) (x:Keyed):jB (l++[x])=put x (jB l):=by
 unfold jB
 rw[Ed]
 rfl
theorem Lz {p:Keyed→Bool}:∀ {a b:List Keyed},(∀ y∈a,p y=true)→(∀ y∈b,p y=false)→(a++b).takeWhile p=a∧(a++b).dropWhile p=b
 | [],[],_,_=>⟨rfl,rfl⟩
 | [],y::b,_,h=>by
  have:=h y dq
  simp[List.takeWhile,List.dropWhile,this]
 | x::a,b,h1,h2=>by
  have hx:=h1 x dq
  obtain⟨e1,e2⟩:=Lz (fun y hy=>h1 y (dQ _ hy)) h2
  simp only[Ew,List.takeWhile,List.dropWhile,hx]
  exact⟨by rw[e1],e2⟩
theorem xt {x:Keyed} {a b:List Keyed} (h1:∀ y∈a,ky y≤ky x) (h2:∀ y∈b,ky x<ky y):put x (a++b)=a++x::b:=by
 unfold put
 obtain⟨e1,e2⟩:=Lz (p:=fun y=>decide (ky y≤ky x)) (a:=a) (b:=b) (fun y hy=>decide_eq_true (h1 y hy)) (fun y hy=>decide_eq_false (by have:=h2 y hy;omega))
 rw[e1,e2]
theorem Wd (x:Keyed) (l:List Keyed):(put x l).Perm (l++[x]):=by
 unfold put
 refine List.perm_middle.trans ?_
 rw[EW]
 exact (fC x l).symm
theorem UP (l:List Keyed):(jB l).Perm l:=by
 have:∀ (l acc:List Keyed),(l.foldl (fun acc x=>put x acc) acc).Perm (acc++l):=by
  intro l
  induction l with
  | nil=>intro acc;simp
  | cons x r ih =>
   intro acc
   rw[Ds]
   refine (ih _).trans ?_
   have:=(Wd x acc).append_right r
   simpa using this
 have q:=this l []
 rw[DC] at q
 exact q
theorem Nk {l:List Keyed} {y:Keyed}:y∈jB l↔y∈l:=(UP l).mem_iff
theorem jf (l:List Keyed):(jB l).length=l.length:=(UP l).length_eq
abbrev Up (l:List Keyed):Prop:=l.Pairwise fun a b=>ky a≤ky b
theorem tP {x:Keyed} {l:List Keyed} (h:Up l):Up (put x l):=by
 have:∀ l:List Keyed,Up l→Up (put x l):=by
  intro l
  induction l with
  | nil=>intro _;exact Ee _ _
  | cons y r ih =>
   intro h
   obtain⟨h1,h2⟩:=DE.mp h
   by_cases hy:ky y≤ky x
   ·have e:put x (y::r)=y::put x r:=by
     unfold put
     simp[List.takeWhile,List.dropWhile,hy]
    rw[e]
    refine DE.mpr ⟨fun z hz=>?_,ih h2⟩
    rcases dA.mp ((Wd x r).mem_iff.mp hz) with q | q
    ·exact h1 z q
    ·rw[dI.mp q];exact hy
   ·have e:put x (y::r)=x::y::r:=by
     unfold put
     simp[List.takeWhile,List.dropWhile,hy]
    rw[e]
    refine DE.mpr ⟨fun z hz=>?_,h⟩
    rcases dc.mp hz with rfl | q
    ·omega
    ·have:=h1 z q;omega
 exact this l h
theorem Rr (l:List Keyed):Up (jB l):=by
 have:∀ (l acc:List Keyed),Up acc→Up (l.foldl (fun acc x=>put x acc) acc):=by
  intro l
  induction l with
  | nil=>intro acc h;exact h
  | cons x r ih=>intro acc h;exact ih _ (tP h)
 exact this l [] List.Pairwise.nil
theorem xh (xs:List Keyed):∀ (n:Nat) (b:List Keyed),b.length=n→Up (jB xs++b)→jB (xs++b)=jB xs++b:=by
 intro n
 induction n with
 | zero =>
  intro b hb _
  rw[eu.mp hb]
  simp
 | succ n ih =>
  intro b hb h
  obtain⟨c,z,rfl⟩:∃ c z,b=c++[z]:=⟨b.dropLast,b.getLast (by intro e;rw[e] at hb;cases hb),(Ef _).symm⟩
  rw[dh] at hb
  have h':Up ((jB xs++c)++[z]):=by rw[d8];exact h
  obtain⟨u1,_,u3⟩:=eA.mp h'
  rw[← d8,QU,ih c (by simp at hb;exact hb) u1]
  have:=xt (x:=z) (a:=jB xs++c) (b:=[]) (fun y hy=>u3 y hy z (dI.mpr rfl)) (fun y hy=>absurd hy (by simp))
  rw[d9] at this
  rw[this,d8]
theorem lO {l:List Keyed} (h:Up l):jB l=l:=by
 have:=xh [] l.length l rfl (by simpa [jB] using h)
 simpa [jB] using this
theorem Ve {xs:List Keyed} {v:Int} (h1:∀ y∈xs,v<ky y):∀ (n:Nat) (b:List Keyed),b.length=n→(∀ y∈b,ky y=v)→jB (xs++b)=b++jB xs:=by
 intro n
 induction n with
 | zero =>
  intro b hb _
  rw[eu.mp hb]
  simp
 | succ n ih =>
  intro b hb h
  obtain⟨c,z,rfl⟩:∃ c z,b=c++[z]:=⟨b.dropLast,b.getLast (by intro e;rw[e] at hb;cases hb),(Ef _).symm⟩
  rw[dh] at hb
  have hz:ky z=v:=h z (by simp)
  rw[← d8,QU,ih c (by simp at hb;exact hb) fun y hy=>h y (by simp[hy])]
  have:=xt (x:=z) (a:=c) (b:=jB xs) (fun y hy=>by rw[h y (by simp[hy]),hz];exact Di _) (fun y hy=>by rw[hz];exact h1 y (Nk.mp hy))
  rw[this]
  simp
theorem Gz {α:Type} {xs:Array α} {l:List α} (h:xs.toList=l) (i:Nat):xs[i]? = l[i]?:=by rw[← h];simp
theorem UT {xs:Array Keyed} {p q r:List Keyed} {x:Keyed} (h:xs.toList=p++(q++x::r)):(bubble xs (p.length+q.length) q.length).toList=p++(x::(q++r)):=by
 have hs:p.length+q.length<xs.size:=by
  have:xs.size=(p++(q++x::r)).length:=by rw[← h];simp
  rw[this];simp only[dh,dW];omega
 refine DO fun i=>?_
 have e:=getElem?_bubble hs q.length (by omega) i
 rw[EY,e,Gz h,Gz h,Gz h,show p.length+q.length - q.length=p.length by omega]
 by_cases h1:i=p.length
 ·have e1:(p++(q++x::r))[p.length+q.length]? = some x:=by
   rw[dS (by omega),dS (by omega)]
   simp
  have e2:(p++(x::(q++r)))[i]? = some x:=by
   rw[dS (by omega),h1]
   simp
  rw[if_pos h1,e1,e2]
 ·rw[if_neg h1]
  by_cases h2:p.length<i∧i≤p.length+q.length
  ·obtain⟨j,hj⟩:∃ j,i=p.length+(j+1):=⟨i - p.length - 1,by omega⟩
   have e1:(p++(q++x::r))[i - 1]? = q[j]?:=by
    rw[dS (by omega),d7 (by omega)]
    congr 1
    omega
   have e2:(p++(x::(q++r)))[i]? = q[j]?:=by
    rw[dS (by omega),show i - p.length=j+1 by omega,Ex,d7 (by omega)]
   rw[if_pos h2,e1,e2]
  ·rw[if_neg h2]
   by_cases h3:i<p.length
   ·rw[d7 h3,d7 h3]
   ·obtain⟨j,hj⟩:∃ j,i=p.length+q.length+(j+1):=⟨i - p.length - q.length - 1,by omega⟩
    have e1:(p++(q++x::r))[i]? = r[j]?:=by
     rw[dS (by omega),dS (by omega),show i - p.length - q.length=j+1 by omega,Ex]
    have e2:(p++(x::(q++r)))[i]? = r[j]?:=by
     rw[dS (by omega),show i - p.length=(q.length+j)+1 by omega,Ex,dS (by omega)]
     congr 1
     omega
    rw[e1,e2]
theorem uJ {xs:Array Keyed} {p m r:List Keyed} (h:xs.toList=p++(m++r)) {i j:Nat} (hi:i=p.length) (hj:j=p.length+m.length):(mirror xs i j ((j - i)/2)).toList=p++(m.reverse++r):=by
 subst hi hj
 have hs:p.length+m.length≤xs.size:=by
  have:xs.size=(p++(m++r)).length:=by rw[← h];simp
  rw[this];simp only[dh];omega
 refine DO fun k=>?_
 have e:=getElem?_mirror_all (i:=p.length) hs k
 rw[EY,e,Gz h,Gz h]
 by_cases h1:p.length≤k∧k<p.length+m.length
 ·obtain⟨n,hn⟩:∃ n,k=p.length+n:=⟨k - p.length,by omega⟩
  have e1:(p++(m++r))[p.length+(p.length+m.length) - 1 - k]? = m[m.length - 1 - n]?:=by
   rw[dS (by omega),d7 (by omega)]
   congr 1
   omega
  have e2:(p++(m.reverse++r))[k]? = m[m.length - 1 - n]?:=by
   rw[dS (by omega),d7 (by rw[Dh];omega),Ey (by omega)]
   congr 1
   omega
  rw[if_pos h1,e1,e2]
 ·rw[if_neg h1]
  by_cases h2:k<p.length
  ·rw[d7 h2,d7 h2]
  ·have e1:(p++(m++r))[k]? = r[k - p.length - m.length]?:=by
    rw[dS (by omega),dS (by omega)]
   have e2:(p++(m.reverse++r))[k]? = r[k - p.length - m.length]?:=by
    rw[dS (by omega),dS (by rw[Dh];omega),Dh]
   rw[e1,e2]
theorem YQ {xs:Array Keyed} {i:Nat} {p:Keyed} (h:xs[i]? = some p):K xs i=ky p:=by
 unfold K
 rw[h]
theorem rE {xs:Array Keyed} {l r:List Keyed} (h:xs.toList=l++r) (hs:vf xs l.length):Up l:=by
 refine DP.mpr fun i j hi hj hij=>?_
 have e1:xs[i]? = some l[i]:=by rw[Gz h,d7 hi];exact de hi
 have e2:xs[j]? = some l[j]:=by rw[Gz h,d7 hj];exact de hj
 have:=hs i j (eL hij) hj
 rw[YQ e1,YQ e2] at this
 exact this
theorem bh {xs:Array Keyed} {l r:List Keyed} (h:xs.toList=l++r) (hu:Up l):vf xs l.length:=by
 intro i j hij hj
 have hi:i<l.length:=by omega
 have e1:xs[i]? = some l[i]:=by rw[Gz h,d7 hi];exact de hi
 have e2:xs[j]? = some l[j]:=by rw[Gz h,d7 hj];exact de hj
 rw[YQ e1,YQ e2]
 by_cases q:i=j
 ·subst q;exact Di _
 ·exact DP.mp hu i j hi hj (by omega)
end SG
namespace SG
open PySem PyProof.Rows
variable [Rk]
section
variable {prog:Program} {w:World} {A:Around} {E:Value→Shared→Prop} {s:Shared} {b₀:Array Keyed}
structure ZR (b₀:Array Keyed) (st:SortSt) (n:Nat):Prop where
 base:j0 b₀ st
 list:(arrOf st).toList=jB (b₀.toList.take n)++b₀.toList.drop n
theorem ZU (b₀:Array Keyed):b₀.toList.length=b₀.size:=by simp
theorem ZR.len {st:SortSt} {n:Nat} (g:ZR b₀ st n) (hn:n≤b₀.size):(jB (b₀.toList.take n)).length=n:=by
 rw[jf,dP,ZU]
 omega
theorem ZR.up {st:SortSt} {n:Nat} (g:ZR b₀ st n) (hn:n≤b₀.size):vf (arrOf st) n:=by
 have:=bh g.list (Rr _)
 rw[g.len hn] at this
 exact this
theorem kN {k:Nat} (hk:k<b₀.size):b₀.toList.drop k=b₀[k]::b₀.toList.drop (k+1):=by
 rw[Ez (by rw[ZU];exact hk)]
 simp
theorem Ua {k:Nat} (hk:k<b₀.size):b₀.toList.take (k+1)=b₀.toList.take k++[b₀[k]]:=by
 rw[List.take_succ,de (by rw[ZU];exact hk)]
 simp
theorem ZR.next {st:SortSt} {k:Nat} (g:ZR b₀ st k) (hk:k<b₀.size):(arrOf st)[k]? = some b₀[k]:=by
 rw[Gz g.list,dS (by rw[g.len (by omega)];exact CZ _),g.len (by omega),kN hk]
 simp
theorem ZR.atI {st:SortSt} {n i:Nat} (g:ZR b₀ st n) (hn:n≤b₀.size) (hi:i<n):∃ y,(jB (b₀.toList.take n))[i]? = some y∧K (arrOf st) i=ky y:=by
 have hl:=g.len hn
 have e:=de (l:=jB (b₀.toList.take n)) (i:=i) (by rw[hl];exact hi)
 exact⟨_,e,YQ (by rw[Gz g.list,d7 (by rw[hl];exact hi)];exact e)⟩
theorem ZR.insert {st:SortSt} {k c:Nat} (g:ZR b₀ st k) (hk:k<b₀.size) (hc:c≤k) (lo:∀ i,i<c→K (arrOf st) i≤K (arrOf st) k) (hi:∀ i,c≤i→i<k→K (arrOf st) k<K (arrOf st) i) :
  ZR b₀ (setArr st (bubble (arrOf st) k (k - c))) (k+1):=by
 have hl:=g.len (by omega:k≤b₀.size)
 have ex:K (arrOf st) k=ky b₀[k]:=YQ (g.next hk)
 have e0:jB (b₀.toList.take k)=(jB (b₀.toList.take k)).take c++(jB (b₀.toList.take k)).drop c:=(eK _ _).symm
 have lp:((jB (b₀.toList.take k)).take c).length=c:=by rw[dP,hl];omega
 have lq:((jB (b₀.toList.take k)).drop c).length=k - c:=by rw[Dr,hl]
 have li:(arrOf st).toList=(jB (b₀.toList.take k)).take c++((jB (b₀.toList.take k)).drop c++b₀[k]::b₀.toList.drop (k+1)):=by
  rw[g.list,kN hk,← d8,← e0]
 refine⟨g.base.setArr (bubble_perm _ _ _),?_⟩
 have mv:=UT li
 rw[lp,lq,show c+(k - c)=k by omega] at mv
 show (bubble (arrOf st) k (k - c)).toList=_
 rw[mv,Ua hk,QU]
 have pa:=xt (x:=b₀[k]) (a:=(jB (b₀.toList.take k)).take c) (b:=(jB (b₀.toList.take k)).drop c) (fun y hy=>?_) (fun y hy=>?_)
 ·rw[← e0] at pa
  rw[pa]
  simp
 ·obtain⟨i,hi',e⟩:=EZ.mp hy
  rw[lp] at hi'
  obtain⟨z,ez,kz⟩:=g.atI (by omega) (by omega:i<k)
  have:z=y:=by
   rw[List.getElem_take] at e
   rw[de (by rw[hl];omega)] at ez
   rw[← e]
   exact (Option.some.inj ez).symm
  have q:=lo i hi'
  rw[kz,ex,this] at q
  exact q
 ·obtain⟨i,hi',e⟩:=EZ.mp hy
  rw[lq] at hi'
  obtain⟨z,ez,kz⟩:=g.atI (by omega) (by omega:c+i<k)
  have:z=y:=by
   rw[List.getElem_drop] at e
   rw[de (by rw[hl];omega)] at ez
   rw[← e]
   exact (Option.some.inj ez).symm
  have q:=hi (c+i) (by omega) (by omega)
  rw[kz,ex,this] at q
  exact q
theorem Mi {st:SortSt} {n m:Nat} {Q:Bool→SortSt→Prop} (hk:MC prog w A s b₀) (hn:n≤b₀.size) (hm:m≤n) (hm1:1≤m) (g:ZR b₀ st m) (fin:∀ st',ZR b₀ st' n→Q true st') :
  wpS (model prog w) A E s (binarySort' 0 n m) Q st:=by
 rw[binarySort'_eq]
 simp only[DW]
 refine wpS_bind (wpS_mono (wpS_forRange (I:=fun k c st'=>c=(none,())∧ZR b₀ st' k) (Q:=fun c st'=>c=(none,())∧ZR b₀ st' n) ?turn ?done ?begin) ?after)
 case after =>
  rintro _ st' ⟨rfl,g'⟩
  exact wpS_pure (fin st' g')
 case begin =>
  rw[show max m 1=m by omega]
  exact⟨rfl,g⟩
 case done =>
  rintro c st' ⟨hc,g'⟩
  rw[show max (max m 1) n=n by omega] at g'
  exact⟨hc,g'⟩
 case turn =>
  rintro k _ st' lo hi ⟨rfl,g'⟩
  have kz:k<b₀.size:=by omega
  have srtd:=g'.up (by omega:k≤b₀.size)
  refine wpS_bind (wpS_mono (wpS_forRange
   (I:=fun x c st2=>st2=st'∧∃ l r,c=(none,l,r)∧(l≤r∧r≤k∧r - l≤k - x)∧(∀ i,i<l→K (arrOf st') i≤K (arrOf st') k)∧∀ i,r≤i→i<k→K (arrOf st') k<K (arrOf st') i) (Q:=fun c st2=>st2=st'∧∃ l r,c=(none,l,r)∧l≤k∧(∀ i,i<l→K (arrOf st') i≤K (arrOf st') k)∧∀ i,l≤i→i<k→K (arrOf st') k<K (arrOf st') i) ?t2 ?d2 ?b2) ?a2)
  case b2=>exact⟨rfl,0,k,rfl,⟨by omega,by omega,by omega⟩,fun i hi=>absurd hi (by omega),fun i h1 h2=>absurd h2 (by omega)⟩
  case d2 =>
   rintro c st2 ⟨rfl,l,r,rfl,⟨q1,q2,q3⟩,q4,q5⟩
   obtain rfl:l=r:=by omega
   exact⟨rfl,l,l,rfl,q2,q4,q5⟩
  case t2 =>
   rintro x c st2 _ _ ⟨rfl,l,r,rfl,⟨q1,q2,q3⟩,q4,q5⟩
   dsimp only
   by_cases end':l ≥ r
   ·rw[if_pos end']
    obtain rfl:l=r:=by omega
    exact wpS_pure ⟨rfl,l,l,rfl,q2,q4,q5⟩
   rw[if_neg end']
   refine wpS_bind (kh g'.base hk kz (by omega) ?_)
   by_cases less:K (arrOf st2) k<K (arrOf st2) ((l+r)/2)
   ·rw[decide_eq_true less]
    simp only[if_true]
    exact wpS_pure ⟨rfl,l,(l+r)/2,rfl,⟨by omega,by omega,by omega⟩,q4,fun i h1 h2=>Int.lt_of_lt_of_le less (srtd _ _ h1 h2)⟩
   ·rw[decide_eq_false less]
    simp only[DN,if_false]
    refine wpS_pure ⟨rfl,(l+r)/2+1,r,rfl,⟨by omega,by omega,by omega⟩,fun i h1=>?_,q5⟩
    have:=srtd i ((l+r)/2) (by omega) (by omega)
    omega
  case a2 =>
   rintro c st2 ⟨rfl,l,r,rfl,q1,q2,q3⟩
   show wpS _ _ _ _ (do moveDown' k l;pure (ForInStep.yield (none,()))) _ _
   rw[moveDown'_eq]
   exact wpS_bind (wpS_modify (wpS_pure ⟨rfl,g'.insert kz q1 q2 q3⟩))
end
end SG
namespace SG
open PySem PyProof.Rows
variable [Rk]
section
variable {prog:Program} {w:World} {A:Around} {E:Value→Shared→Prop} {s:Shared} {b₀:Array Keyed}
theorem ZR.on {st:SortSt} {n m:Nat} (g:ZR b₀ st n) (h1:n≤m) (h2:m≤b₀.size) (hs:vf (arrOf st) m):ZR b₀ st m:=by
 have et:b₀.toList.take m=b₀.toList.take n++(b₀.toList.drop n).take (m - n):=by
  have:=List.take_add (l:=b₀.toList) (i:=n) (j:=m - n)
  rwa [show n+(m - n)=m by omega] at this
 have ed:b₀.toList.drop n=(b₀.toList.drop n).take (m - n)++b₀.toList.drop m:=by
  have:=(eK (m - n) (b₀.toList.drop n)).symm
  rwa [E6,show n+(m - n)=m by omega] at this
 have li:(arrOf st).toList=(jB (b₀.toList.take n)++(b₀.toList.drop n).take (m - n))++b₀.toList.drop m:=by
  rw[g.list,d8,← ed]
 have ln:(jB (b₀.toList.take n)++(b₀.toList.drop n).take (m - n)).length=m:=by
  rw[dh,g.len (by omega),dP,Dr,ZU]
  omega
 refine⟨g.base,?_⟩
 rw[et,xh _ _ _ rfl (rE li (by rw[ln];exact hs))]
 exact li
theorem Gc {st:SortSt} {n N:Nat} {Q:Option Nat→SortSt→Prop} (hk:MC prog w A s b₀) (hN:N≤b₀.size) (h1:1≤n) (hn:n≤N) (hB:j0 b₀ st) (li:(arrOf st).toList=(jB (b₀.toList.take n)).reverse++b₀.toList.drop n) (fin:∀ m st',ZR b₀ st' m→1≤m→m≤N→Q (some m) st'):wpS (model prog w) A E s (tail3 n N) Q st:=by
 unfold tail3
 have ln:(jB (b₀.toList.take n)).length=n:=by rw[jf,dP,ZU];omega
 refine wpS_bind (wpS_reverse ?_)
 have g:ZR b₀ (setArr st (mirror (arrOf st) 0 n ((n - 0)/2))) n:=by
  refine⟨hB.setArr (mirror_perm _ _ _ _),?_⟩
  have e:=uJ (xs:=arrOf st) (p:=[]) (m:=(jB (b₀.toList.take n)).reverse) (r:=b₀.toList.drop n) (i:=0) (j:=n) (by rw[DC];exact li) rfl (by rw[Dh,ln];simp)
  rw[List.reverse_reverse,DC] at e
  exact e
 refine wpS_bind (ZQ hk hN h1 hn g.base (g.up (by omega)) fun m a1 a2 a3 _=>?_)
 exact wpS_pure (fin m _ (g.on a1 (by omega) a3) (by omega) a2)
structure kb (b₀:Array Keyed) (st:SortSt) (x q:Nat) (xs b:List Keyed) (v:Int):Prop where
 base:j0 b₀ st
 cut:b₀.toList.take x=xs++b
 list:(arrOf st).toList=(jB xs).reverse++(b++b₀.toList.drop x)
 len:b.length=q+1
 same:∀ y∈b,ky y=v
 less:∀ y∈xs,v<ky y
theorem kb.size {st:SortSt} {x q:Nat} {xs b:List Keyed} {v:Int} (f:kb b₀ st x q xs b v) (hx:x≤b₀.size):xs.length+(q+1)=x:=by
 have:=congrArg List.length f.cut
 rw[dP,ZU,dh,f.len] at this
 omega
theorem kb.next {st:SortSt} {x q:Nat} {xs b:List Keyed} {v:Int} (f:kb b₀ st x q xs b v) (hx:x<b₀.size):K (arrOf st) x=ky b₀[x]:=by
 have sz:=f.size (by omega)
 refine YQ ?_
 rw[Gz f.list,dS (by rw[Dh,jf];omega),dS (by rw[Dh,jf,f.len];omega),kN hx,Dh,jf,f.len,show x - xs.length - (q+1)=0 by omega]
 rfl
theorem kb.last {st:SortSt} {x q:Nat} {xs b:List Keyed} {v:Int} (f:kb b₀ st x q xs b v) (hx:x≤b₀.size):K (arrOf st) (x - 1)=v:=by
 have sz:=f.size hx
 have hq:q<b.length:=by rw[f.len];omega
 have e:(arrOf st)[x - 1]? = some b[q]:=by
  rw[Gz f.list,dS (by rw[Dh,jf];omega),d7 (by rw[Dh,jf,f.len];omega),Dh,jf,show x - 1 - xs.length=q by omega]
  exact de hq
 rw[YQ e]
 exact f.same _ (DM hq)
theorem kb.turned {st:SortSt} {x q:Nat} {xs b:List Keyed} {v:Int} (f:kb b₀ st x q xs b v) (hx:x≤b₀.size):(mirror (arrOf st) (x - (q+1)) x ((x - (x - (q+1)))/2)).toList=(jB (b₀.toList.take x)).reverse++b₀.toList.drop x:=by
 have sz:=f.size hx
 have e:=uJ (xs:=arrOf st) (p:=(jB xs).reverse) (m:=b) (r:=b₀.toList.drop x) (i:=x - (q+1)) (j:=x) f.list (by rw[Dh,jf];omega) (by rw[Dh,jf,f.len];omega)
 rw[e,f.cut,Ve f.less _ _ rfl f.same,List.reverse_append,d8]
theorem kb.still {st:SortSt} {x:Nat} {xs b:List Keyed} {v:Int} (f:kb b₀ st x 0 xs b v):(arrOf st).toList=(jB (b₀.toList.take x)).reverse++b₀.toList.drop x:=by
 obtain⟨y,hy⟩:∃ y,b=[y]:=fD.mp f.len
 rw[f.list,f.cut,Ve f.less _ _ rfl f.same,List.reverse_append,d8,hy]
 rfl
theorem VC {st:SortSt} {x:Nat} (hB:j0 b₀ st) (hx:x<b₀.size) (li:(arrOf st).toList=(jB (b₀.toList.take x)).reverse++b₀.toList.drop x) (hl:∀ y∈b₀.toList.take x,ky b₀[x]<ky y) :
  kb b₀ st (x+1) 0 (b₀.toList.take x) [b₀[x]] (ky b₀[x]):=by
 refine⟨hB,Ua hx,?_,rfl,fun y hy=>by rw[dI.mp hy],hl⟩
 rw[li,kN hx]
 rfl
theorem GV {st:SortSt} {n N:Nat} {Q:DescSt→SortSt→Prop} (hk:MC prog w A s b₀) (hN:N≤b₀.size) (h1:1≤n) (hn:n≤N) {q0:Nat} {xs0 c0:List Keyed} {v0:Int} (hq0:q0=0) (f0:kb b₀ st n q0 xs0 c0 v0) (fin:∀ m q st' xs b v,kb b₀ st' m q xs b v→n≤m→m≤N→Q (none,m,q) st'):wpS (model prog w) A E s (descLoop n N) Q st:=by
 subst hq0
 unfold descLoop
 refine wpS_forRange (I:=fun x c st'=>∃ q xs b v,c=(none,x,q)∧kb b₀ st' x q xs b v) ?turn ?done ⟨0,xs0,c0,v0,rfl,f0⟩
 case done =>
  rintro c st' ⟨q,xs,b,v,rfl,f⟩
  rw[show max n N=N by omega] at f ⊢
  exact fin N q st' xs b v f hn (CZ _)
 case turn =>
  rintro x c st' lo hi ⟨q,xs,b,v,rfl,f⟩
  dsimp only
  have hx:x<b₀.size:=by omega
  have kx:=f.next hx
  have kl:=f.last (by omega)
  refine wpS_bind (kh f.base hk (by omega) (by omega) ?_)
  by_cases less:K (arrOf st') x<K (arrOf st') (x - 1)
  ·rw[decide_eq_true less]
   simp only[if_true]
   have hl:∀ y∈b₀.toList.take x,ky b₀[x]<ky y:=fun y hy=>by
    rw[kx,kl] at less
    rw[f.cut] at hy
    rcases dA.mp hy with z | z
    ·have:=f.less y z;omega
    ·rw[f.same y z];exact less
   by_cases hq:q > 0
   ·rw[if_pos hq]
    exact wpS_bind (wpS_reverse (wpS_pure ⟨0,_,_,_,rfl,VC (f.base.setArr (mirror_perm _ _ _ _)) hx (f.turned (by omega)) hl⟩))
   ·rw[if_neg hq]
    obtain rfl:q=0:=by omega
    exact wpS_pure ⟨0,_,_,_,rfl,VC f.base hx f.still hl⟩
  ·rw[decide_eq_false less]
   simp only[DN,if_false]
   refine wpS_bind (kh f.base hk (by omega) (by omega) ?_)
   by_cases more:K (arrOf st') (x - 1)<K (arrOf st') x
   ·rw[decide_eq_true more]
    simp only[if_true]
    exact wpS_pure (fin x q st' xs b v f lo (by omega))
   ·rw[decide_eq_false more]
    simp only[DN,if_false]
    have eq:ky b₀[x]=v:=by rw[kx,kl] at less more;omega
    refine wpS_pure ⟨q+1,xs,b++[b₀[x]],v,rfl,f.base,?_,?_,by rw[dh,f.len];rfl,fun y hy=>?_,f.less⟩
    ·rw[Ua hx,f.cut,d8]
    ·rw[f.list,kN hx,d8]
     rfl
    ·rcases dA.mp hy with z | z
     ·exact f.same y z
     ·rw[dI.mp z];exact eq
theorem JA {st:SortSt} {n N:Nat} {Q:Option Nat→SortSt→Prop} (hk:MC prog w A s b₀) (hN:N≤b₀.size) (hn:n+1≤N) (hB:j0 b₀ st) (li:(arrOf st).toList=(jB (b₀.toList.take n)).reverse++b₀.toList.drop n) (hl:∀ (h:n<b₀.size),∀ y∈b₀.toList.take n,ky b₀[n]<ky y) (fin:∀ m st',ZR b₀ st' m→1≤m→m≤N→Q (some m) st'):wpS (model prog w) A E s (descPart n N) Q st:=by
 unfold descPart
 refine wpS_bind (wpS_lift (wpAny_rule ⟨rfl,?_⟩))
 have hx:n<b₀.size:=by omega
 refine wpS_bind (GV hk hN (by omega) hn rfl (VC hB hx li (hl hx)) fun m q st' xs b v f a1 a2=>?_)
 dsimp only
 by_cases hq:q > 0
 ·rw[if_pos hq]
  exact wpS_bind (wpS_reverse (Gc hk hN (by omega) a2 (f.base.setArr (mirror_perm _ _ _ _)) (f.turned (by omega)) fin))
 ·rw[if_neg hq]
  obtain rfl:q=0:=by omega
  exact Gc hk hN (by omega) a2 f.base f.still fin
theorem lV {st:SortSt} {N:Nat} {Q:Option Nat→SortSt→Prop} (hk:MC prog w A s b₀) (hN:N≤b₀.size) (h1:1≤N) (hB:j0 b₀ st) (h0:(arrOf st).toList=b₀.toList) (fin:∀ m st',ZR b₀ st' m→1≤m→m≤N→Q (some m) st'):wpS (model prog w) A E s (countRun' 0 N) Q st:=by
 rw[countRun0_eq]
 have g0:ZR b₀ st 0:=⟨hB,by rw[h0];rfl⟩
 refine wpS_bind (ZQ hk hN (CZ 1) h1 hB (fun i j a b=>by
  obtain rfl:i=j:=by omega
  exact Di _) fun n a1 a2 up stop=>?_)
 dsimp only
 have gn:ZR b₀ st n:=g0.on (d6 _) (by omega) up
 by_cases e:n=N
 ·rw[if_pos (by simpa using e)]
  exact wpS_pure (fin n st gn a1 a2)
 rw[if_neg (by simpa using e)]
 have dn:K (arrOf st) n<K (arrOf st) (n - 1):=stop.resolve_left e
 have hn:n<b₀.size:=by omega
 have kn:K (arrOf st) n=ky b₀[n]:=YQ (gn.next hn)
 have li:(arrOf st).toList=b₀.toList.take n++b₀.toList.drop n:=by rw[h0,eK]
 have lt:(b₀.toList.take n).length=n:=by rw[dP,ZU];omega
 have id':jB (b₀.toList.take n)=b₀.toList.take n:=lO (rE li (by rw[lt];exact up))
 have kat:∀ y∈b₀.toList.take n,∃ i,i<n∧K (arrOf st) i=ky y:=fun y hy=>by
  obtain⟨i,hi,rfl⟩:=EZ.mp hy
  rw[lt] at hi
  exact⟨i,hi,YQ (by rw[Gz li,d7 (by rw[lt];exact hi)];exact de _)⟩
 by_cases two:n > 1
 ·rw[if_pos two]
  refine wpS_bind (kh hB hk (by omega) (by omega) ?_)
  by_cases rose:K (arrOf st) 0<K (arrOf st) (n - 1)
  ·rw[decide_eq_true rose]
   simp only[if_true]
   exact wpS_pure (fin n st gn a1 a2)
  ·rw[decide_eq_false rose]
   simp only[DN,if_false]
   refine wpS_bind (wpS_reverse (JA hk hN (by omega) (hB.setArr (mirror_perm _ _ _ _)) ?_ (fun _ y hy=>?_) fin))
   ·have e:=uJ (xs:=arrOf st) (p:=[]) (m:=b₀.toList.take n) (r:=b₀.toList.drop n) (i:=0) (j:=n) (by rw[DC];exact li) rfl (by rw[lt];simp)
    rw[id']
    exact e
   ·obtain⟨i,hi,ki⟩:=kat y hy
    have u1:=up 0 i (by omega) hi
    have u2:=up i (n - 1) (by omega) (by omega)
    rw[← ki,← kn]
    omega
 ·rw[if_neg two]
  obtain rfl:n=1:=by omega
  refine JA hk hN (by omega) hB ?_ (fun _ y hy=>?_) fin
  ·rw[id']
   obtain⟨z,hz⟩:∃ z,b₀.toList.take 1=[z]:=fD.mp lt
   rw[hz]
   rw[hz] at li
   exact li
  ·obtain⟨i,hi,ki⟩:=kat y hy
   obtain rfl:i=0:=by omega
   rw[← ki,← kn]
   exact dn
theorem Mw {st:SortSt} {Q:Unit→SortSt→Prop} (hk:MC prog w A s b₀) (hB:j0 b₀ st) (h0:(arrOf st).toList=b₀.toList) (h2:2≤b₀.size) (h64:b₀.size<64) (fin:∀ st',failedOf st'=none→(arrOf st').toList=jB b₀.toList→Q () st'):wpS (model prog w) A E s sortRuns' Q st:=by
 rw[sortRuns'_eq]
 refine wpS_bind (wpS_get ?_)
 dsimp only
 have mr:minRun' b₀.size b₀.size 0=b₀.size:=by
  obtain⟨f,hf⟩:∃ f,b₀.size=f+1:=⟨b₀.size - 1,by omega⟩
  have q:minRun' (f+1) b₀.size 0=b₀.size:=by
   rw[minRun'_succ,if_pos h64]
   rfl
  rwa [← hf] at q
 simp only[hB.size,mr]
 have whole:∀ {st':SortSt},ZR b₀ st' b₀.size→(arrOf st').toList=jB b₀.toList:=fun {st'} g=>by
  have:=g.list
  rw[← ZU,Do (CZ _),E8 (CZ _),d9] at this
  exact this
 refine wpS_bind (wpS_mono (wpS_forRange
  (I:=fun x c st'=>(x=0∧c=(none,0)∧st'=st)∨(1≤x∧c=(none,b₀.size)∧failedOf st'=none∧pendingOf st' = #[(0,b₀.size,0)]∧(arrOf st').toList=jB b₀.toList)) (Q:=fun c st'=>c=(none,b₀.size)∧failedOf st'=none∧pendingOf st' = #[(0,b₀.size,0)]∧(arrOf st').toList=jB b₀.toList) ?turn ?done (.inl ⟨rfl,rfl,rfl⟩)) ?after)
 case done =>
  rintro c st' (⟨z,_⟩ | ⟨_,z⟩)
  ·omega
  ·exact z
 case turn =>
  rintro x c st' _ hx (⟨rfl,rfl,rfl⟩ | ⟨x1,rfl,z⟩)
  ·dsimp only
   rw[if_neg (by omega)]
   simp only[DQ,Nat.min_self,DW]
   refine wpS_bind (lV hk (CZ _) (by omega) hB h0 fun m st2 g m1 m2=>?_)
   dsimp only
   have fin2:∀ {st3:SortSt},ZR b₀ st3 b₀.size→(failedOf (setPending st3 ((pendingOf st3).push (0,b₀.size,0)))=none∧pendingOf (setPending st3 ((pendingOf st3).push (0,b₀.size,0))) = #[(0,b₀.size,0)]∧(arrOf (setPending st3 ((pendingOf st3).push (0,b₀.size,0)))).toList=jB b₀.toList):=fun {st3} g3 =>
    ⟨g3.base.failed,by show (pendingOf st3).push _=_;rw[g3.base.pend];rfl,show (arrOf st3).toList=jB b₀.toList from whole g3⟩
   by_cases lt:m<b₀.size
   ·rw[if_pos lt]
    refine wpS_bind (wpS_lift (wpAny_rule ⟨rfl,?_⟩))
    refine wpS_bind (Mi hk (CZ _) m2 m1 g fun st3 g3=>?_)
    simp only[Bool.not_true,DN,if_false]
    refine wpS_bind (wpS_get ?_)
    rw[show (pendingOf st3).back? = none by rw[g3.base.pend];rfl]
    dsimp only
    exact wpS_bind (wpS_modify (wpS_pure (.inr ⟨by omega,rfl,fin2 g3⟩)))
   ·rw[if_neg lt]
    obtain rfl:m=b₀.size:=by omega
    refine wpS_bind (wpS_get ?_)
    rw[show (pendingOf st2).back? = none by rw[g.base.pend];rfl]
    dsimp only
    exact wpS_bind (wpS_modify (wpS_pure (.inr ⟨by omega,rfl,fin2 g⟩)))
  ·dsimp only
   rw[if_pos (CZ _)]
   exact wpS_pure ⟨rfl,z⟩
 case after =>
  rintro c st' ⟨rfl,z1,z2,z3⟩
  dsimp only
  refine wpS_bind (wpS_mono (wpS_forRange (I:=fun _ c st2=>st2=st'∧c=(none,())) (Q:=fun c st2=>st2=st'∧c=(none,())) ?_ (fun _ _ q=>q) ⟨rfl,rfl⟩) ?_)
  ·rintro x c st2 _ _ ⟨rfl,rfl⟩
   refine wpS_bind (wpS_get ?_)
   rw[if_pos (by rw[z2];exact CZ 1)]
   exact wpS_pure ⟨rfl,rfl⟩
  ·rintro c st2 ⟨rfl,rfl⟩
   exact wpS_pure (fin _ z1 z3)
end
end SG
namespace SS
open PySem PyProof.Rows
@[reducible] noncomputable def rk:SG.Rk:=⟨numOf,oneType'⟩
local instance:SG.Rk:=rk
abbrev ky (p:Keyed):Int:=numOf p.1
abbrev put (x:Keyed) (l:List Keyed):List Keyed:=@SG.put rk x l
abbrev jB (l:List Keyed):List Keyed:=@SG.jB rk l
abbrev Up (l:List Keyed):Prop:=@SG.Up rk l
end SS
namespace L2
open PySem PySem.Spec PyProof.Rows
section
variable {X:Cx} {A:Around} {p:Str} {Nr:List Str} {scope:Scope} {cl:List (Str × Addr)} {src:List (Option Nat)} {pins:List (Addr × Obj)} {σ:St} {H:Hp} {s:Shared} {f c':Addr} {name qual:Str} {params:Arguments} {body:Expr} {pm ctv u:Value} {v:V} {te:TE} {Q:VK}
end
end L2
namespace SS
open PySem PyProof.Rows
noncomputable def ku (k:Nat→Int) (x:Nat) (l:List Nat):List Nat:=l.takeWhile (fun y=>decide (k y≤k x))++x::l.dropWhile (fun y=>decide (k y≤k x))
noncomputable def Lq (k:Nat→Int) (l:List Nat):List Nat:=l.foldl (fun acc x=>ku k x acc) []
end SS
namespace SG
open PySem PyProof.Rows
variable [Rk]
theorem Pa {R:Nat→Keyed→Prop} {k:Nat→Int} (hR:∀ i p,R i p→ky p=k i) {i:Nat} {p:Keyed} (h:R i p) {l:List Nat} {l':List Keyed} (u:Paired R l l'):Paired R (SS.ku k i l) (put p l'):=by
 induction u with
 | nil=>exact .cons h .nil
 | @cons x y l l' r t ih =>
  by_cases q:k x≤k i
  ·have q':ky y≤ky p:=by rw[hR _ _ r,hR _ _ h];exact q
   have e1:SS.ku k i (x::l)=x::SS.ku k i l:=by unfold SS.ku;simp[List.takeWhile,List.dropWhile,q]
   have e2:put p (y::l')=y::put p l':=by unfold put;simp[List.takeWhile,List.dropWhile,q']
   rw[e1,e2]
   exact .cons r ih
  ·have q':¬ ky y≤ky p:=by rw[hR _ _ r,hR _ _ h];exact q
   have e1:SS.ku k i (x::l)=i::x::l:=by unfold SS.ku;simp[List.takeWhile,List.dropWhile,q]
   have e2:put p (y::l')=p::y::l':=by unfold put;simp[List.takeWhile,List.dropWhile,q']
   rw[e1,e2]
   exact .cons h (.cons r t)
theorem pV {R:Nat→Keyed→Prop} {k:Nat→Int} (hR:∀ i p,R i p→ky p=k i) {l:List Nat} {l':List Keyed} (h:Paired R l l'):Paired R (SS.Lq k l) (jB l'):=by
 have:∀ (l:List Nat) (l':List Keyed) (a:List Nat) (a':List Keyed),Paired R l l'→Paired R a a'→Paired R (l.foldl (fun acc x=>SS.ku k x acc) a) (l'.foldl (fun acc x=>put x acc) a'):=by
  intro l l' a a' h
  induction h generalizing a a' with
  | nil=>intro q;exact q
  | cons r t ih=>intro q;exact ih _ _ (Pa hR r q)
 exact this l l' [] [] h .nil
end SG
namespace SS
open PySem PyProof.Rows
end SS
namespace L2
open PySem PySem.Spec PyProof.Rows
section
variable {X:Cx} {A:Around} {E:Value→Shared→Prop} {pins:List (Addr × Obj)} {σ:St} {H:Hp} {s:Shared} {a kS:Addr} {e e1:Nat} {keys:Array Value} {vs:List Value} {kz:List Int} {P:PySem.Fin→Shared→Prop}
theorem zI.turn1 (I:zI X pins σ H s) (f:jU X pins H a) {h':Heap} (hs:Heap.SameBut a s.heap h'):zI X pins σ H { s with heap:=h' } :=
 I.turned (t':=s.toks) (fun b o n q=>(hs.2 b n).trans q) f.1 f.2.1 f.2.2.2.1 f.2.2.2.2.1 f.2.2.2.2.2
theorem zI.adopt {xs:List V} {us:List Value} {n:Nat} (I:zI X pins σ H s) (f:jU X pins H a) (ha:s.heap.get? a=some (seqObj "list" us.toArray n)) (r:zX xs us) (hz:xs.length≤sizeLine):zI X pins σ (upd H a (.lst xs)) s:=by
 have ne:∀ b o,H b=some o→b≠a:=fun b o q=>zB q f.1
 refine⟨I.ok,I.os,I.bare,⟨I.base.keep,I.base.slot,fun b o q n hx=>?_,I.base.there,fun b ys q=>?_,fun b o u q=>?_,fun b ps q=>?_⟩,I.loc,I.cell,?_,fun x c q=>?_,fun p hp=>?_,fun b o q=>?_,I.len⟩
 ·have nb:b≠a:=fun z=>by
   subst z
   rcases f.2.2.2.1 with z | z
   ·exact hx z
   ·rw[z] at q;cases q
  rw[zm nb]
  exact I.base.free b o q n hx
 ·have z:=I.base.tups b ys q
  rw[zm (ne _ _ z)];exact z
 ·have z:=I.base.frzs b o u q
  rw[zm (ne _ _ z)];exact z
 ·obtain⟨m,z⟩:=I.base.tbls b ps q
  exact⟨m,by rw[zm (ne _ _ z)];exact z⟩
 ·rw[zm (Ne.symm f.2.1)];exact I.free
 ·rw[zm (f.2.2.2.2.1 x c q)];exact I.freeC x c q
 ·obtain⟨p1,p2,p3,p4,p5⟩:=I.pin p hp
  exact⟨p1,by rw[zm (f.2.2.2.2.2 p hp)];exact p2,p3,p4,p5⟩
 ·by_cases nb:b=a
  ·subst nb
   rw[zp] at q
   cases q
   exact⟨hz,us,n,r,ha⟩
  ·rw[zm nb] at q
   refine (I.hok b o q).stay (fun c u _ z=>z) (fun c z=>?_) fun c ys z=>?_
   ·rw[zm (ne _ _ z)];exact z
   ·rw[zm (ne _ _ z)];exact z
end
theorem Zy {α β:Type} {F:α→β→Prop}:∀ {l₁:List α} {l₂:List β},l₁.length=l₂.length→(∀ (i:Nat) a b,l₁[i]? = some a→l₂[i]? = some b→F a b)→Paired F l₁ l₂
 | [],[],_,_=>.nil
 | [],_::_,h,_=>by simp at h
 | _::_,[],h,_=>by simp at h
 | a::l,b::m,h,f=>.cons (f 0 a b rfl rfl) (Zy (by simpa using h) fun i x y e1 e2=>f (i+1) x y (by simpa using e1) (by simpa using e2))
section
variable {X:Cx} {A:Around} {E:Value→Shared→Prop} {pins:List (Addr × Obj)} {σ:St} {H:Hp} {s:Shared} {r q:Addr} {xs:List V} {k:Nat→Int} {Q:VK}
end
open PySem.W
section
variable {X:Cx} {p:Str} {Nr:List Str} {scope:Scope} {cl:List (Str × Addr)} {src:List (Option Nat)} {pins:List (Addr × Obj)} {σ:St} {H:Hp} {s:Shared} {c P:Addr} {params:Arguments} {body:Expr} {pos:Pos} {E:Value→Shared→Prop}
end
end L2
namespace L2
open PySem PySem.Spec PyProof.Rows
noncomputable def qw (K:BFr) (x:Str) (st:Stmt):Prop:=∃ f fd,PySem.W.nsIn K mainGlobals x=some (some (.ref f))∧qQ K x x st f fd
section
variable {P:Program} {w:World} {K:BFr} {mg:Str→Option Value} {base:Heap} {x:Str} {st:Stmt} {CX:kT} {k:Nat} {ps:List Str} {sp:Sp} {h0:Heap}
theorem qw.cal (h:qw K x st) (X:K.In h0) (G:h0.Ns mainGlobals mg) (hb:∀ (kV doc pm:Value) (an:Option Addr) (cdv ct:Value) (us:List Value),us.length=ps.length→bindArgs (PySem.W.fnOf x x (j8 st) (jw st) (qS st) .none kV doc pm an cdv ct) ⟨us,[]⟩=pure (ps.zip us)) (ok:∀ f fd,qQ K x x st f fd→zH P w K mg base CX k f fd ps sp):qP P w K mg base CX k x ps sp:=by
 obtain⟨f,fd,a,F⟩:=h
 exact⟨f,fd,Bmg_o X G a,F.kp,F.binds hb,ok f fd F⟩
end
theorem zV {α:Type} {us:List α} (h:us.length=1):∃ a,us=[a]:=by
 match us,h with
 | [a],_=>exact⟨a,rfl⟩
theorem qj {α:Type} {us:List α} (h:us.length=2):∃ a b,us=[a,b]:=by
 match us,h with
 | [a,b],_=>exact⟨a,b,rfl⟩
theorem kK {α:Type} {us:List α} (h:us.length=3):∃ a b c,us=[a,b,c]:=by
 match us,h with
 | [a,b,c],_=>exact⟨a,b,c,rfl⟩
theorem Gh {α:Type} {us:List α} (h:us.length=4):∃ a b c d,us=[a,b,c,d]:=by
 match us,h with
 | [a,b,c,d],_=>exact⟨a,b,c,d,rfl⟩
theorem UB {α:Type} {us:List α} (h:us.length=5):∃ a b c d e,us=[a,b,c,d,e]:=by
 match us,h with
 | [a,b,c,d,e],_=>exact⟨a,b,c,d,e,rfl⟩
open PySem.W
end L2
namespace SS
theorem XE (k:Nat→Int) (x:Nat) (l:List Nat):(ku k x l).Perm (l++[x]):=by
 unfold ku
 refine List.perm_middle.trans ?_
 rw[EW]
 exact (fC x l).symm
theorem xA (k:Nat→Int) (l:List Nat):(Lq k l).Perm l:=by
 have:∀ (l acc:List Nat),(l.foldl (fun acc x=>ku k x acc) acc).Perm (acc++l):=by
  intro l
  induction l with
  | nil=>intro acc;simp
  | cons x r ih =>
   intro acc
   rw[Ds]
   refine (ih _).trans ?_
   have:=(XE k x acc).append_right r
   simpa using this
 have q:=this l []
 rw[DC] at q
 exact q
end SS
namespace L2
open PySem PySem.Spec PyProof.Rows PySem.W
section
variable {prog:Program} {w:World} {A:Around} {E:Value→Shared→Prop} {s:Shared}
end
section
variable {X:Cx} {A:Around} {E:Value→Shared→Prop} {pins:List (Addr × Obj)} {σ:St} {H:Hp} {s:Shared} {a:Addr} {its:List Value} {ts:List V} {nsOf:Nat→List Int} {rk:Nat→Int} {P:PySem.Fin→Shared→Prop}
open Classical in
noncomputable def uR (its:List Value) (rk:Nat→Int):Value→Int:=fun v=>if h:∃ i,its[i]? = some v then rk h.choose else 0
end
end L2
namespace L2
open PySem PySem.Spec PyProof.Rows
section
variable {X:Cx}
theorem wD:BJ X "str.startswith" (fun x vs H Q=>∃ z y,x = .str z∧vs=[.str y]∧Q (.bl (Txt.startswith z y)) H):=by
 intro pins s σ H x xs v us Q I rx rv h
 obtain⟨z,y,rfl,rfl,q⟩:=h
 obtain⟨t,rfl⟩:=rx
 obtain⟨u,rfl,ru⟩:=zX.one rv
 obtain⟨tu,rfl⟩:=ru
 exact SC.startswith ⟨.bl _,H,I,rfl,q⟩
end
open PySem.W
section
variable {X:Cx} {p:Str} {Nr:List Str} {scope:Scope} {cl:List (Str × Addr)} {src:List (Option Nat)} {c P:Addr} {params:Arguments} {body a:Expr} {pos lpos kpos p1 p2 p3:Pos} {ta:TA} {te:TE}
end
end L2
namespace L2
open PySem PySem.Spec PyProof.Rows
theorem kM:bootBuiltins "all" = some (.builtin "all"):=by kernel_rfl
theorem qA {l:List (Str × NameKind)} {cl:List (Str × Addr)} (h:l.all (fun y=>match y.2 with | .cell | .free=>(cl.lookup y.1).isSome | _=>true)=true) (x:Str) (z:l.lookup x=some .cell∨l.lookup x=some .free):∃ c,cl.lookup x=some c:=by
 rcases z with z | z
 ·have:=Dc.mp h _ (PySem.mem_of_lookup z)
  exact DJ.mp this
 ·have:=Dc.mp h _ (PySem.mem_of_lookup z)
  exact DJ.mp this
theorem jv {cl cs:List (Str × Addr)} (h:∀ q∈cl,cs.lookup q.1=some q.2) (x:Str) (c:Addr) (z:cl.lookup x=some c):cs.lookup x=some c:=h _ (PySem.mem_of_lookup z)
theorem z7 {C:Nat→Nat→Prop} (i j:Nat) (z:([]:List (Option Nat))[i]? = some (some j)):C i j:=by simp at z
theorem zP {l:List (Option Nat)} {C:Nat→Nat→Prop} (h:∀ i j,l[i]? = some (some j)→C (i+1) j) (i j:Nat) (z:(none::l)[i]? = some (some j)):C i j:=by
 cases i with
 | zero=>simp at z
 | succ i=>exact h i j (by simpa using z)
theorem qu {l:List (Option Nat)} {k:Nat} {C:Nat→Nat→Prop} (h0:C 0 k) (h:∀ i j,l[i]? = some (some j)→C (i+1) j) (i j:Nat) (z:(some k::l)[i]? = some (some j)):C i j:=by
 cases i with
 | zero =>
  have:some k=some j:=by simpa using z
  cases this
  exact h0
 | succ i=>exact h i j (by simpa using z)
section
variable {X:Cx} {a b c:Expr} {ta:TA} {te:TE} {p1 p2 p3 pos:Pos}
end
section
variable {X:Cx} {elt iter tgt:Expr} {ifs:List Expr} {scope:Scope} {cl:List (Str × Addr)} {Nc:List Str} {src:List (Option Nat)} {g:TG} {tt:TT} {te:TE}
theorem we {i:Nat} {x:Str} {wi:TI} {pos pos' cpos:Pos} (hN:X.N.Nodup) (hx:X.N[i]? = some x) (hl:X.env.scope.names.lookup x=some .local) (c:gr X Nc scope cl src) (hcalm:X.calm=true) (hi:PI X tgt iter wi) (hb:∀ fp C s' H',PG (wo X Nc scope cl C fp s' H') tgt g∧ui (wo X Nc scope cl C fp s' H') ifs tt∧PE (wo X Nc scope cl C fp s' H') elt te) (hsw:swapsWith (.ListComp elt [⟨tgt,iter,ifs,0⟩] scope cpos) (some (.Name x pos')) pos.line X.env=pure true:=by rfl) (hs:∀ x,foldedSetIterable iter X.env x=pure x:=by intro _;rfl):PS X (.Assign [.Name x pos'] (.ListComp elt [⟨tgt,iter,ifs,0⟩] scope cpos) pos) (My (xI src wi g tt te) (z4 i)):=by
 intro pins s σ H D I h
 rw[exec_Assign_Name_used _ _ _ _ hsw]
 refine wpAny_bind (wpAny_standAt (wpAny_bind ?_))
 show wpAny _ X.A (do let _ ← comprehension (.ListComp elt [⟨tgt,iter,ifs,0⟩] scope cpos) scope X.env _ (newList []) false (eval iter X.env) (some (assign (.Name x pos') X.env))) _ _ s
 refine wpAny_bind (wpAny_mono (wpAny_comprehension_free (use:=some (assign (.Name x pos') X.env)) (Q:=fun _ s'=>∃ σ' H',zI X pins σ' H' s'∧D.nx σ' H') rfl hs c.clos c.kind c.names (yc (hi pins s σ H _ I h) fun v s1 h1=>yc h1 fun itv s2 h2=>?_)) (fun _ s' hq=>wpAny_pure (wpAny_pure hq)) fun _ _ z=>z)
 obtain⟨it,fp,tn,J,H2,e,I2,T,st2,f2,hT⟩:=h2
 subst e
 refine wpAny_newObj_type ?_ (by size_fits)
 have old:∀ b o,s2.heap.get? b=some o→(s2.heap.push { cls:=.type "list",data:=.seq ([]:List Value).toArray }).get? b=some o:=fun b o e=>dH _ e
 have I3:=I2.laid (a:=s2.heap.objs.size) (o:=.lst []) (t':=s2.toks) (h':=s2.heap.push { cls:=.type "list",data:=.seq ([]:List Value).toArray }) old (CZ _) ⟨d6 _,[],0,.nil,dR _ rfl⟩
 have ne:∀ b∈fp,b≠s2.heap.objs.size:=fun b hb=>by
  obtain⟨o,e,_⟩:=T.obj 0 _ st2 b hb
  exact dO (dw e)
 have f3:∀ b∈fp,jU X pins (upd H2 s2.heap.objs.size (.lst [])) b:=fun b hb=>⟨by rw[zm (ne b hb)];exact (f2 b hb).1,(f2 b hb).2⟩
 refine ZO (it:=it) (R:=fun C=>compPost (model X.prog X.w) X.A X.xe (some (assign (.Name x pos') X.env)) (fun _ s'=>∃ σ' H',zI X pins σ' H' s'∧D.nx σ' H') _ C) c hcalm I3 T (T.keep _ _ _ st2 fun b _ o e=>old b o e) f3 (hb fp _ _ _) (hT _ (I2.hok.fresh (CZ _))) (fun _ _ z=>z.elim) fun C ys σ' H' s' hC J' hD q=>?_
 obtain⟨m,hn,_⟩:=id J'.loc
 have B:zI X pins σ H' s':=YL I3 f3 J' ⟨rfl,fun _ _=>rfl⟩
 have Cge:∀ b o,(s2.heap.push { cls:=.type "list",data:=.seq ([]:List Value).toArray }).get? b=some o→b≠C:=fun b o e=>dO (Dd (dw e) J'.ok.above)
 have CL:C≠X.env.locals:=fun z=>by
  obtain⟨m3,⟨o,_,_,ho,_⟩,_⟩:=I3.loc
  exact Cge _ o ho z.symm
 refine wpAny_assign_Name (JG B hN hx (.inl hl) (v:=.ref s2.heap.objs.size) rfl (fun s5 I5 hsb=>?_) (.inr hl))
 obtain⟨a,sb,ha⟩:=hsb
 have aL:a≠C:=by
  rcases ha with rfl | ha
  ·exact CL.symm
  ·obtain⟨v,o,ho,_⟩:=I3.cell x a ha
   exact Cge _ o ho
 refine⟨m,hn.sameBut sb aL.symm,fun h' hs'=>⟨_,H',I5.turned (t':=s5.toks) (fun b o n e=>(hs'.2 b n).trans e) J'.free CL ?_ (fun y b e z=>?_) (fun p hp z=>?_),q⟩⟩
 ·exact .inr (EM (dG I3.sz J'.ok.above))
 ·obtain⟨v,o,ho,_⟩:=I3.cell y b e
  exact Cge _ o ho z
 ·exact Cge _ _ (I3.pin p hp).1 z
end
end L2
namespace L2
open PySem
end L2
namespace Pg
open PySem L2
structure jP (mg:Str→Option Value):Prop where
 isinstance:mg "isinstance" = none
 int:mg "int" = none
 bool:mg "bool" = none
 str:mg "str" = none
 len:mg "len" = none
 range:mg "range" = none
 ve:mg "ValueError" = none
 list:mg "list" = none
 tuple:mg "tuple" = none
 dict:mg "dict" = none
 set:mg "set" = none
 all:mg "all" = none
 any:mg "any" = none
 sum:mg "sum" = none
 sorted:mg "sorted" = none
 abs:mg "abs" = none
 max:mg "max" = none
 min:mg "min" = none
 zip:mg "zip" = none
 enumerate:mg "enumerate" = none
 reversed:mg "reversed" = none
structure Er (K:BFr) (mg:Str→Option Value) (x:Str) (c:Addr):Prop where
 at':mg x=some (.ref c)
 ex:PySem.W.excIn K c Vj "ValueError.__new__" = true
noncomputable def Z1 (mg:Str→Option Value) (x:Str) (n:Int):Prop:=∃ t,mg x=some (.int n t)
noncomputable def Txt (mg:Str→Option Value) (x:Str) (z:Str):Prop:=∃ t,mg x=some (.str z t)
noncomputable def vX (K:BFr):Sp:=fun vs H Q _=>∃ v,vs=[v]∧((∃ z,v = .int z∧Q (.bl true) H)∨(pI K H v∧Q (.bl false) H))
noncomputable def vP (K:BFr):Sp:=fun vs H Q _=>∃ v a b,vs=[v,.int a,.int b]∧((∃ z,v = .int z∧Q (.bl (decide (a≤z∧z≤b))) H)∨(pI K H v∧Q (.bl false) H))
noncomputable def L6 (K:BFr) (H:Hp) (m:Int) (v:V):Prop:=pI K H v∨∃ z,v = .int z∧¬ (0≤z∧z≤m)
noncomputable def gL (K:BFr) (c:Addr) (m:Int):Sp:=fun vs H Q E=>∃ v,vs=[v]∧((∃ z,v = .int z∧0≤z∧z≤m∧Q .non H)∨(L6 K H m v∧E (.ref c) none H))
noncomputable def GB (K:BFr):Sp:=fun vs H Q _=>∃ a k ns,vs=[.ref a,.int k]∧zZ K H a (ns.map V.int)∧0≤k∧Q (.int (JY ns k)) H
noncomputable def YI:Sp:=fun vs H Q _=>∃ z,vs=[.int z]∧Q (.bl true) H
noncomputable def Qk (K:BFr):Sp:=fun vs H Q _=>∃ (a:Addr) (ns:List Int),vs=[.ref a]∧zZ K H a (ns.map V.int)∧∀ H',Q (.bl true) H'
theorem kF {cs:List (Str × Addr)} {k:Str} {a:Addr} (h:cs.lookup k=some a):∀ q∈[(k,a)],cs.lookup q.1=some q.2:=fun q hq=>by rw[dI.mp hq];exact h
theorem Um {cs cl:List (Str × Addr)} {k:Str} {a:Addr} (h:cs.lookup k=some a) (t:∀ q∈cl,cs.lookup q.1=some q.2):∀ q∈(k,a)::cl,cs.lookup q.1=some q.2:=fun q hq=>by
 rcases dc.mp hq with rfl | hq
 ·exact h
 ·exact t q hq
noncomputable def YD (K:BFr) (c:Addr):Sp:=fun vs H Q E=>∃ v,vs=[v]∧((∃ z,v = .int z∧0≤z∧z≤119999∧Q (.int (z/12)) H)∨(L6 K H 119999 v∧E (.ref c) none H))
end Pg
namespace L2
open PySem PySem.Spec PyProof.Rows
noncomputable def qW (P:Program) (w:World) (K:BFr) (mg:Str→Option Value) (base:Heap) (CX:kT) (k:Nat) (C:Addr) (m:Str) (ps:List Str) (sp:Sp):Prop :=
 w5 K C∧∃ f fd,Xz K C m f∧vx K fd ps []∧zH P w K mg base CX k f fd ps sp
noncomputable def ug (P:Program) (w:World) (K:BFr) (mg:Str→Option Value) (base:Heap) (CX:kT) (k:Nat) (x:Str) (C:Addr) (ps:List Str) (sp:Sp):Prop :=
 mg x=some (.ref C)∧∃ f fd,Mk K C f∧vx K fd ps []∧zH P w K mg base CX k f fd ps sp
section
variable {X:Cx} {CX:kT} {j k:Nat} {C:Addr} {ps:List Str} {sp:Sp} {x m:Str} {p apos pos:Pos} {o e:Expr} {es:List Expr} {ta:TE} {t:TA} {E:XK}
noncomputable def Tu (C:Addr) (m:Str) (sp:Sp) (E:XK) (ta:TE) (t:TA):TE:=fun σ H Q=>ta σ H fun x H1=>∃ a dx fs,x = .ref a∧H1 a=some (.ins C dx fs)∧fs.lookup m=none∧t σ H1 fun vs H2=>sp (x::vs) H2 Q E
theorem vY {pl:Sem Bool} (M:qW X.prog X.w X.K X.mg X.base CX k C m ps sp) (hr:yD j X.A) (hj:k≤j) (hx:yN CX X E) (he:PE X o ta) (ha:PA X (e::es) t) (hst:starEach (e::es) X.env=(false,eval e X.env)::starEach es X.env:=by exact qg rfl) (hpl:(backTo pos (starEach es X.env)).any (·.1)=false:=by exact jn rfl) (ht:eval (.Call (.Attribute o m apos) (e::es) [] pos) X.env=(do
   let ov ← eval o X.env
   standAt apos.atName
   let (f,first) ← holding [ov] (getMethod ov m pl)
   callWith pos f first (backTo pos (starEach (e::es) X.env)) (backToKw pos (keywordEach [] X.env))):=by rfl) :
  PE X (.Call (.Attribute o m apos) (e::es) [] pos) (Tu C m sp E ta t):=by
 obtain⟨c,f,fd,hm,hb,F⟩:=M
 intro pins s σ H Q I h
 refine nq (dvs:=[]) he c hm F (hr.mono hj) hb .nil hx ha hst hpl ht pins s σ H Q I ?_
 unfold GQ
 simp only[d9]
 exact h
theorem uH {pl:Sem Bool} (M:qW X.prog X.w X.K X.mg X.base CX k C m ps sp) (hr:yD j X.A) (hj:k≤j) (hx:yN CX X E) (he:PE X o ta) (ht:eval (.Call (.Attribute o m apos) [] [] pos) X.env=(do
   let ov ← eval o X.env
   standAt apos.atName
   let (f,first) ← holding [ov] (getMethod ov m pl)
   callWith pos f first (backTo pos (starEach [] X.env)) (backToKw pos (keywordEach [] X.env))):=by rfl) :
  PE X (.Call (.Attribute o m apos) [] [] pos) (Tu C m sp E ta yn):=by
 obtain⟨c,f,fd,hm,hb,F⟩:=M
 intro pins s σ H Q I h
 refine Pz (dvs:=[]) he c hm F (hr.mono hj) hb .nil hx ht pins s σ H Q I ?_
 unfold GQ
 simp only[d9]
 exact h
noncomputable def Ca (C:Addr) (sp:Sp) (E:XK) (t:TA):TE:=fun σ H Q=>t σ H fun vs H1=>∀ x dx,H1 x=none→H1 dx=none→dx≠x →
 sp (.ref x::vs) (upd (upd H1 dx (.own x)) x (.ins C dx [])) (fun v H2=>v = .non∧Q (.ref x) H2) E
theorem lB (M:ug X.prog X.w X.K X.mg X.base CX k x C ps sp) (hr:yD (j+1) X.A) (hj:k≤j) (hx:yN CX X E) (hg:Gl X x:=by rfl) (hdb:(x==("__debug__":Str))=false:=by decide):PE X (.Call (.Name x p) [] [] pos) (Ca C sp E yn):=by
 obtain⟨hm,f,fd,M,hb,F⟩:=M
 intro pins s σ H Q I h
 refine Lg (dvs:=[]) M (F.mono hj) hr hg hm hb .nil hx hdb pins s σ H Q I ?_
 unfold gF
 simp only[d9]
 exact h
end
noncomputable def yt (K:BFr) (C:Addr) (m qual:Str) (st:Stmt):Prop:=∃ f fd,Xz K C m f∧qQ K m qual st f fd
noncomputable def Jh (K:BFr) (C:Addr) (qual:Str) (st:Stmt):Prop:=∃ f fd,Mk K C f∧qQ K "__init__" qual st f fd
section
variable {P:Program} {w:World} {K:BFr} {mg:Str→Option Value} {base:Heap} {C:Addr} {x m qual:Str} {st:Stmt} {CX:kT} {k:Nat} {ps:List Str} {sp:Sp}
theorem yt.cal (h:yt K C m qual st) (cl:w5 K C) (hb:∀ (kV doc pm:Value) (an:Option Addr) (cdv ct:Value) (us:List Value),us.length=ps.length→bindArgs (PySem.W.fnOf m qual (j8 st) (jw st) (qS st) .none kV doc pm an cdv ct) ⟨us,[]⟩=pure (ps.zip us)) (ok:∀ f fd,qQ K m qual st f fd→zH P w K mg base CX k f fd ps sp):qW P w K mg base CX k C m ps sp:=by
 obtain⟨f,fd,M,F⟩:=h
 exact⟨cl,f,fd,M,F.binds hb,ok f fd F⟩
theorem Jh.cal (h:Jh K C qual st) (hm:mg x=some (.ref C)) (hb:∀ (kV doc pm:Value) (an:Option Addr) (cdv ct:Value) (us:List Value),us.length=ps.length→bindArgs (PySem.W.fnOf "__init__" qual (j8 st) (jw st) (qS st) .none kV doc pm an cdv ct) ⟨us,[]⟩=pure (ps.zip us)) (ok:∀ f fd,qQ K "__init__" qual st f fd→zH P w K mg base CX k f fd ps sp):ug P w K mg base CX k x C ps sp:=by
 obtain⟨f,fd,M,F⟩:=h
 exact⟨hm,f,fd,M,F.binds hb,ok f fd F⟩
end
end L2
namespace L2
open PySem PySem.W PySem.Calls PyProof.Rows
theorem M6 (as:List Addr) (h:Heap):(jA as h).In h:=by
 intro a o e
 induction as with
 | nil=>cases e
 | cons b r ih =>
  unfold jA at e
  rw[DY] at e
  cases q:h.get? b with
  | none=>rw[q] at e;exact ih e
  | some o' =>
   rw[q] at e
   by_cases c:a=b
   ·subst c
    have e:List.lookup a ((a,o')::jA r h)=some o:=e
    rw[List.lookup_cons_self] at e
    cases e
    exact q
   ·have e:List.lookup a ((b,o')::jA r h)=some o:=e
    rw[List.lookup_cons,show (a==b)=false from beq_eq_false_iff_ne.mpr c] at e
    exact ih e
section
variable {K:Frag} {v:Option (Option Value)} {x qual m:Str} {st:Stmt} {C a:Addr}
theorem V3 (h:jK K v=jL x qual st):∃ f fd,v=some (some (.ref f))∧qQ K x qual st f fd∧isFn K (.ref f)=true∧keepIn K (.ref f)=true:=by
 unfold jK jL at h
 split at h
 ·rename_i f
  split at h
  ·rename_i oc od fd osl e
   obtain⟨nm,qn,pr,bd,sc,gl,cl,df,kV,doc,pm,an,cdv,ct,bl⟩:=fd
   simp only[Option.some.injEq,X1.mk.injEq,dY] at h
   obtain⟨rfl,rfl,rfl,rfl,rfl,rfl,rfl,rfl,rfl,⟨h1,h2⟩,h3⟩:=h
   exact⟨f,_,rfl,rX e h1 h2,h3,h2⟩
  ·cases h
 ·cases h
theorem zv (h:jK K (nsIn K mainGlobals x)=jL x x st):qw K x st:=by
 obtain⟨f,fd,h1,h2,_,_⟩:=V3 h
 exact⟨f,fd,h1,h2⟩
theorem zL (h:jK K (findIn K (.ref C) m)=jL m qual st):yt K C m qual st:=by
 obtain⟨f,fd,h1,h2,h3,h4⟩:=V3 h
 exact⟨f,fd,⟨h1,h3,h4⟩,h2⟩
theorem jH (h:jK K (findIn K (.ref C) "__init__")=jL "__init__" qual st) (g:(makesIn K C&&keepIn K (.ref C))=true):Jh K C qual st:=by
 obtain⟨f,fd,h1,h2,h3,_⟩:=V3 h
 obtain⟨g1,g2⟩:=Dw.mp g
 exact⟨f,fd,⟨g1,h1,h3,g2⟩,h2⟩
theorem qa (h:qO v=true):v=some none:=by
 unfold qO at h
 split at h
 ·rfl
 ·cases h
theorem jW {z:Int} (h:isInt z v=true):∃ t,v=some (some (.int z t)):=by
 unfold isInt at h
 split at h
 ·rw[of_decide_eq_true h];exact⟨_,rfl⟩
 ·cases h
theorem Uv {z:Str} (h:JI z v=true):∃ t,v=some (some (.str z t)):=by
 unfold JI at h
 split at h
 ·rw[of_decide_eq_true h];exact⟨_,rfl⟩
 ·cases h
theorem yL (h:ju a v=true):v=some (some (.ref a)):=by
 unfold ju at h
 split at h
 ·rw[Nat.eq_of_beq_eq_true h]
 ·cases h
theorem yE {z:String} (h:je z v=true):v=some (some (.builtin z)):=by
 unfold je at h
 split at h
 ·rw[of_decide_eq_true h]
 ·cases h
theorem yC {b:Bool} {v:Option Bool} (h:ub b v=true):v=some b:=by
 unfold ub at h
 split at h
 ·rw[eq_of_beq h]
 ·cases h
theorem W6 {D:Addr} (h:Qf K D=true):XK.uf K D:=by
 unfold Qf at h
 simp only[dY] at h
 obtain⟨⟨⟨⟨⟨⟨⟨h1,h2⟩,h3⟩,h4⟩,h5⟩,h6⟩,h7⟩,h8⟩:=h
 exact⟨h1,yE h2,qa h3,yE h4,yE h5,yC h6,yC h7,yC h8⟩
end
theorem zh {bs:List Bool} (h:bs.all id=true) {b:Bool} (i:Nat) (e:bs[i]? = some b):b=true:=Dc.mp h b (dZ e)
theorem zk {α β:Type} {l:List α} {f g:α→β} (h:l.map f=l.map g) {x:α} (i:Nat) (e:l[i]? = some x):f x=g x:=by
 have:(l.map f)[i]? = (l.map g)[i]?:=by rw[h]
 rw[dj,dj,e] at this
 exact Option.some.inj this
noncomputable def kR {α:Type} (facts:Frag→α) (good:α) (_:World) (h:Heap):Prop:=∃ K:Frag,K.In h∧facts K=good
theorem pH {α:Type} {facts:Frag→α} {good:α} {as:List Addr} (w:World) (s:Shared) (e:facts (jA as s.heap)=good):kR facts good w s.heap:=⟨_,M6 as s.heap,e⟩
theorem xM {α:Type} {facts:Frag→α} {good:α} (w:World) (h h':Heap) (y:kR facts good w h) (k:∀ b o,h.get? b=some o→h'.get? b=some o):kR facts good w h':=by
 obtain⟨K,X,e⟩:=y
 exact⟨K,X.keeps k,e⟩
theorem MP {q:Program} {loose:List Str} {XP:(Str→Option Value)→Heap→Prop} {α:Type} {facts:Frag→α} {good:α} {r:RowW} {d:DefRec} {kwd:List (Str × Expr)} {run:Value→List Value→Sem Value}
  (h:∀ K:Frag,facts K=good→WalkO q loose XP (fun _ h=>K.In h) r d kwd run):WalkO q loose XP (kR facts good) r d kwd run:=by
 intro w s₀ s₁ mg mb G Y
 obtain⟨K,X,e⟩:=Y
 exact h K e w s₀ s₁ mg mb G X
theorem Mx {q:Program} {n:Str} (h:(defOf q n).isSome=true) (k:((defOf q n).map (·.2.isEmpty))=some true):defOf q n=some (((defOf q n).get h).1,[]):=by
 obtain⟨⟨d,kwd⟩,e⟩:=DJ.mp h
 have e2:(defOf q n).get h=(d,kwd):=Option.get_of_eq_some h e
 rw[e2,e]
 rw[e] at k
 have:kwd.isEmpty=true:=Option.some.inj k
 rw[List.isEmpty_iff.mp this]
end L2
namespace L2
open PySem PySem.Spec PyProof.Rows
structure rA (K:BFr) (C:Addr) (m:Str) (f:Addr):Prop where
 ga:PySem.W.specialIn K (.ref C) "__getattribute__" = some (some (.builtin "type.__getattribute__"))
 rd:PySem.W.readsIn K C (.type "type")=true
 at_:PySem.W.findCls K (.ref C) (.type "type") m=some (.val (.ref f))
 kp:PySem.W.keepIn K (.ref f)=true
noncomputable def QB (P:Program) (w:World) (K:BFr) (mg:Str→Option Value) (base:Heap) (CX:kT) (k:Nat) (x m:Str) (ps:List Str) (sp:Sp):Prop :=
 ∃ C f fd,mg x=some (.ref C)∧rA K C m f∧vx K fd ps []∧zH P w K mg base CX k f fd ps sp
section
variable {X:Cx} {CX:kT} {j k:Nat} {C:Addr} {ps:List Str} {sp:Sp} {x m:Str} {p apos pos:Pos} {o e:Expr} {es:List Expr} {ta:TE} {t:TA} {E:XK}
noncomputable def CA (sp:Sp) (E:XK) (t:TA):TE:=fun σ H Q=>t σ H fun vs H2=>sp vs H2 Q E
theorem wq {pl:Sem Bool} (M:QB X.prog X.w X.K X.mg X.base CX k x m ps sp) (hr:yD j X.A) (hj:k≤j) (hx:yN CX X E) (ha:PA X (e::es) t) (hg:Gl X x:=by rfl) (hdb:(x==("__debug__":Str))=false:=by decide) (hst:starEach (e::es) X.env=(false,eval e X.env)::starEach es X.env:=by exact qg rfl) (hpl:(backTo pos (starEach es X.env)).any (·.1)=false:=by exact jn rfl) (ht:eval (.Call (.Attribute (.Name x p) m apos) (e::es) [] pos) X.env=(do
   let ov ← eval (.Name x p) X.env
   standAt apos.atName
   let (f,first) ← holding [ov] (getMethod ov m pl)
   callWith pos f first (backTo pos (starEach (e::es) X.env)) (backToKw pos (keywordEach [] X.env))):=by rfl) :
  PE X (.Call (.Attribute (.Name x p) m apos) (e::es) [] pos) (CA sp E t):=by
 obtain⟨C,f,fd,hm,c,hb,F⟩:=M
 intro pins s σ H Q I h
 refine PySem.W.methodCall_KW (pl:=pl) (yc (qE (v:=.ref C) hg hm rfl hdb pins s σ H (fun v H1=>v = .ref C∧H1=H) I ⟨rfl,rfl⟩) fun u s1 ⟨y,H1,I1,rx,e1,e2⟩=>?_) ht
 subst e1 e2
 obtain rfl:u=Value.ref C:=rx
 refine PySem.W.method_cls I1.kIn c.ga (PySem.W.cls_value I1.kIn c.rd c.at_ rfl ?_)
 have I2:=I1.tok (s1.toks+1)
 refine PySem.W.callWith_K (first:=[]) (h₀:=X.base) I.ok.mod.kin c.kp (yc (ha pos pins _ σ H1 _ I2 h) fun us s2 ⟨vs,H2,I3,r,q2⟩=>⟨I3.kIn,?_⟩) hst hpl
 exact V2 (dvs:=[]) (us:=us) (vs:=vs) F (hr.mono hj) hb .nil hx I3 r (by rw[d9];exact q2)
theorem y6 (M:ug X.prog X.w X.K X.mg X.base CX k x C ps sp) (hr:yD (j+1) X.A) (hj:k≤j) (hx:yN CX X E) (ha:PA X (e::es) t) (hg:Gl X x:=by rfl) (hdb:(x==("__debug__":Str))=false:=by decide) (hst:starEach (e::es) X.env=(false,eval e X.env)::starEach es X.env:=by exact qg rfl) (hpl:(backTo pos (starEach es X.env)).any (·.1)=false:=by exact jn rfl) :
  PE X (.Call (.Name x p) (e::es) [] pos) (Ca C sp E t):=by
 obtain⟨hm,f,fd,M,hb,F⟩:=M
 intro pins s σ H Q I h
 refine NK (dvs:=[]) M (F.mono hj) hr hg hm hb .nil hx ha hdb hst hpl pins s σ H Q I ?_
 unfold gF
 simp only[d9]
 exact h
theorem wk {α:Type} {p:α→Prop} {e:Expr} {T:α→TE} (h:∀ i,p i→PE X e (T i)):PE X e (fun σ H Q=>∃ i,p i∧T i σ H Q):=fun pins s σ H Q I ⟨i,hp,g⟩=>h i hp pins s σ H Q I g
theorem GT:jD X (.type "str") (fun xs H Q=>(∃ i,xs=[.int i]∧i.natAbs.log2<1920∧Q (.str (toString i)) H)∨∃ z,xs=[.str z]∧Q (.str z) H):=by
 intro pins s σ H xs us Q I r h
 rcases h with h | ⟨z,rfl,q⟩
 ·exact qo pins s σ H xs us Q I r h
 ·obtain⟨u,rfl,t,rfl⟩:=vN r
  exact PySem.P.str_of_str ⟨.str _,H,I,⟨_,rfl⟩,q⟩
end
section
variable {P:Program} {w:World} {K:BFr} {mg:Str→Option Value} {base:Heap} {C:Addr} {x m qual:Str} {st:Stmt} {CX:kT} {k:Nat} {ps:List Str} {sp:Sp}
theorem Tg {f:Addr} (h:vG K C m=true) (M:Xz K C m f):rA K C m f:=by
 unfold vG at h
 obtain⟨h,h3⟩:=Dw.mp h
 obtain⟨h1,h2⟩:=Dw.mp h
 refine⟨?_,h2,?_,M.kp⟩
 ·split at h1
  ·rename_i b e
   rw[e,beq_iff_eq.mp h1]
  ·cases h1
 ·rw[M.at_] at h3
  split at h3
  ·rename_i f' g e1 e2
   cases e1
   rw[e2,Nat.eq_of_beq_eq_true h3]
  ·cases h3
theorem yt.calC (h:yt K C m qual st) (see:vG K C m=true) (hm:mg x=some (.ref C)) (hb:∀ (kV doc pm:Value) (an:Option Addr) (cdv ct:Value) (us:List Value),us.length=ps.length→bindArgs (PySem.W.fnOf m qual (j8 st) (jw st) (qS st) .none kV doc pm an cdv ct) ⟨us,[]⟩=pure (ps.zip us)) (ok:∀ f fd,qQ K m qual st f fd→zH P w K mg base CX k f fd ps sp):QB P w K mg base CX k x m ps sp:=by
 obtain⟨f,fd,M,F⟩:=h
 exact⟨C,f,fd,hm,Tg see M,F.binds hb,ok f fd F⟩
end
end L2
namespace L2
open PySem PySem.W PyProof.Rows
noncomputable def Bn (K:Frag) (x:Str) (zs:List Str):Prop:=∃ a,nsIn K mainGlobals x=some (some (.ref a))∧∀ H,qh K H a (zs.map V.str)
theorem Q9:∀ {its:List Value} {zs:List Str},Z9 its zs=true→zX (zs.map V.str) its
 | [],[],_=>.nil
 | v::r,z::q,h=>by
  unfold Z9 at h
  obtain⟨h1,h2⟩:=Dw.mp h
  obtain⟨t,e⟩:=Uv h1
  cases e
  exact .cons ⟨t,rfl⟩ (Q9 h2)
 | [],z::q,h=>by cases h
 | v::r,[],h=>by cases h
theorem We {K:Frag} {x:Str} {zs:List Str} (h:Ql K x zs=true):Bn K x zs:=by
 unfold Ql at h
 split at h
 ·rename_i a e
  split at h
  ·rename_i n od its k sl e2
   rw[dY,dY] at h
   obtain⟨⟨h1,h2⟩,h3⟩:=h
   refine⟨a,e,fun H=>.inr ⟨_,its,k,e2,?_,rfl,qv h2,Q9 h3⟩⟩
   rw[of_decide_eq_true h1]
  ·cases h
 ·cases h
theorem Bn.mg {K:Frag} {x:Str} {zs:List Str} {h:Heap} {mg:Str→Option Value} (T:Bn K x zs) (X:K.In h) (G:h.Ns mainGlobals mg):∃ a,mg x=some (.ref a)∧∀ H,qh K H a (zs.map V.str):=by
 obtain⟨a,e,t⟩:=T
 exact⟨a,mg_of X G e,t⟩
end L2
set_option maxHeartbeats 4000000
namespace K15
open PySem PySem.NumText L2 Pg
seal PE PA PT PW PS jT PG uv PI ui PO PK
section
variable {P:Program} {w:World} {K:BFr} {mg:Str→Option Value} {base:Heap} {f:Addr} {fd:FuncData} {d:Nat→Addr} {cR:Addr}
theorem Ux (F:qQ K "is_number" "is_number" (top 15) f fd) (G:jP mg):zH P w K mg base zO 1 f fd ["thing"] (vX K):=by
 refine F.ok (N:=["thing"]) (by walk_at"s") (fun vs H Q E h=>?_) (fun cdv A outer s H vs Q E hr h=>?_)
 ·obtain⟨v,rfl,_⟩:=h
  rfl
 ·obtain⟨v,rfl,h⟩:=h
  refine⟨_,zi (zu (yU (zx qp rfl G.isinstance zS (za (pv 0) (za (yF (v:=.ty "int") rfl G.int vc rfl) zd)))
   (ja (gu (zx qp rfl G.isinstance zS (za (pv 0) (za (yF (v:=.ty "bool") rfl G.bool Jy rfl) zd))))))),?_⟩
  rcases h with ⟨z,rfl,q⟩ | ⟨⟨r,hr',ty,ne⟩,q⟩
  ·refine⟨_,rfl,_,_,_,_,true,rfl,rfl,.inl (.int z),rfl,true,rfl,jS ?_⟩
   exact⟨_,rfl,_,_,_,_,false,rfl,rfl,.inl (.int z),rfl,false,rfl,q⟩
  ·obtain⟨k1,k2,_⟩:=nU (K:=K) r hr'
   refine⟨_,rfl,_,_,_,_,r.2.1,rfl,rfl,.inl ty,k1,r.2.1,rfl,?_⟩
   cases e:r.2.1 with
   | false=>exact qY q
   | true =>
    refine jS ⟨_,rfl,_,_,_,_,r.2.2.1,rfl,rfl,.inl ty,k2,r.2.2.1,rfl,?_⟩
    have:r.2.2.1=true:=by
     simp only[Nt,dc,dm,or_false] at hr'
     rcases hr' with rfl | rfl | rfl | rfl | rfl | rfl | rfl <;> first | rfl | (exact absurd rfl ne) | (cases e)
    rw[this]
    exact q
theorem OY (F:qQ K "is_number_within" "is_number_within" (top 16) f fd) (C1:qP P w K mg base zO 1 "is_number" ["thing"] (vX K)):zH P w K mg base zO 2 f fd ["thing","least","most"] (vP K):=by
 refine F.ok (N:=["thing","least","most"]) (by walk_at"s") (fun vs H Q E h=>?_) (fun cdv A outer s H vs Q E hr h=>?_)
 ·obtain⟨v,a,b,rfl,_⟩:=h
  rfl
 ·obtain⟨v,a,b,rfl,h⟩:=h
  refine⟨_,zi (zu (yU (zj C1 hr (by decide) zt (za (pv 0) zd)) (yU (qJ WH (pv 1) (pv 0) (zD _)) (ja (qJ WH (pv 0) (pv 2) (zD _)))))),?_⟩
  rcases h with ⟨z,rfl,q⟩ | ⟨nn,q⟩
  ·refine⟨_,rfl,_,rfl,.inl ⟨z,rfl,true,rfl,jS ⟨_,rfl,_,rfl,_,_,rfl,rfl,_,rfl,?_⟩⟩⟩
   refine yI (fun e=>⟨_,rfl,_,rfl,_,_,rfl,rfl,?_⟩) (fun e=>?_)
   ·have e1:a≤z:=of_decide_eq_true e
    show Q (.bl (decide (z≤b))) H
    rw[show decide (z≤b)=decide (a≤z∧z≤b) by simp[e1]]
    exact q
   ·have e1:¬ a≤z:=fun c=>e (decide_eq_true c)
    show Q (.bl false) H
    rw[show false=decide (a≤z∧z≤b) by simp[e1]]
    exact q
  ·exact⟨_,rfl,_,rfl,.inr ⟨nn,false,rfl,qY q⟩⟩
end
end K15
namespace Pg
open PySem PySem.NumText L2
noncomputable def M8 (z:Int):Str:=toString z
noncomputable def dg (n:Nat):List Nat:=(Nat.toDigits 10 n).map Char.toNat
theorem wU (n:Nat):(M8 (n:Nat)).cps.toList=dg n:=PySem.W.KIN.signs_num n
theorem va (n:Nat):AllDigits (dg n):=by
 intro c hc
 obtain⟨ch,hch,e⟩:=dk.mp hc
 have r:=PyProof.Rows.digit_range (Nat.isDigit_of_mem_toDigits (by decide) (by decide) hch)
 rw[← e]
 exact r
theorem vk (n:Nat):1≤(dg n).length:=by unfold dg;rw[CY];exact PySem.toDigits_len_ge 10 n
theorem Zq {k n:Nat} (hk:1≤k) (hn:n<10 ^ k):(dg n).length≤k:=by unfold dg;rw[CY];exact PySem.toDigits_len_pow (by decide) hk hn
theorem V8 {a b:Str} (h:a.cps.toList=b.cps.toList):a=b:=by
 obtain⟨a⟩:=a
 obtain⟨b⟩:=b
 have:a=b:=eJ.mp h
 rw[this]
noncomputable def uS (k:Nat) (l:List Nat):List Nat:=List.replicate (k - l.length) 48++l
theorem Pf {k:Nat} {l:List Nat} (h:l.length≤k):(uS k l).length=k:=by unfold uS;rw[dh,ER];omega
theorem xg {z:Str} {k:Nat} (h:AllDigits z.cps.toList) (hz:z.cps.toList≠[]):(Txt.zfill z (k:Nat)).cps.toList=uS k z.cps.toList:=by
 have hl:z.length=z.cps.toList.length:=by show z.cps.size=_;simp
 unfold Txt.zfill uS
 by_cases hk:((k:Nat):Int)≤z.length
 ·rw[if_pos hk,show k - z.cps.toList.length=0 by omega]
  rfl
 ·rw[if_neg hk]
  have h0:0<z.cps.size:=by
   cases e:z.cps.toList with
   | nil=>exact absurd e hz
   | cons c r =>
    have:=congrArg List.length e
    simp at this
    omega
  have hc:z.cps[0]? = some z.cps[0]:=EU h0
  have hd:=h z.cps[0] (by simp)
  have e:PySem.zfilled z (((k:Nat):Int).toNat - z.length)=Builtin.Str.padded z (((k:Nat):Int).toNat - z.length) 0 48:=by
   unfold PySem.zfilled
   rw[hc]
   split
   ·rename_i e;have:=Option.some.inj e;omega
   ·rename_i e;have:=Option.some.inj e;omega
   ·rfl
  rw[e]
  unfold Builtin.Str.padded
  simp[hl]
theorem Om {n k:Nat}:(Txt.zfill (M8 (n:Nat)) (k:Nat)).cps.toList=uS k (dg n):=by
 have e:=wU n
 rw[xg (by rw[e];exact va n) (by
  rw[e];intro z
  have:=vk n
  rw[z] at this;simp at this),e]
theorem ZH {z:Int} (h0:0≤z) (h1:z<2 ^ 64):z.natAbs.log2<1920:=by
 by_cases h:z.natAbs=0
 ·rw[h];decide
 ·exact Eu ((Nat.log2_lt h).mpr (show z.natAbs<2 ^ 64 by omega)) (by decide)
theorem qT (a b:Str):(a++b).cps.toList=a.cps.toList++b.cps.toList:=by
 show (a.cps++b.cps).toList=_
 simp
theorem zY (z:Str):z.length=z.cps.toList.length:=by show z.cps.size=_;simp
theorem kc (a b:Str):(a++b).length=a.length+b.length:=by rw[zY,qT,dh,← zY,← zY]
theorem Tp {a b:Str} {m n:Nat} (h1:a.length≤m) (h2:b.length≤n):(a++b).length≤m+n:=by rw[kc];exact Nat.add_le_add h1 h2
theorem Xf {n m:Nat} (h:n≤m) (k:Nat.ble m 1000000=true):n≤sizeLine:=dG h (dG (dX k) (by rw[sizeLine_eq];decide))
theorem bE {a b m n:Nat} (h1:a≤m) (h2:b≤n) (k:Nat.ble (m+n) 1000000=true):a+b≤sizeLine:=Xf (Nat.add_le_add h1 h2) k
noncomputable def Px (c:Nat):Bool:=decide (48≤c)&&decide (c≤57)
noncomputable def Za (l:List Nat):Bool:=!l.isEmpty&&l.all Px
theorem Wt {l:List Nat} (h:Za l=true):AllDigits l∧l≠[]:=by
 unfold Za at h
 rw[dY] at h
 refine⟨fun c hc=>?_,fun e=>by rw[e] at h;simp at h⟩
 have:=Dc.mp h.2 c hc
 unfold Px at this
 rw[dY] at this
 exact⟨of_decide_eq_true this.1,of_decide_eq_true this.2⟩
theorem tH (c:Nat):(!(Builtin.Str.occurrences ("0123456789":Str) ⟨#[c]⟩ 0 ("0123456789":Str).length 1).isEmpty)=Px c:=by
 rw[gM]
 have e:("0123456789":Str).cps.toList=[48,49,50,51,52,53,54,55,56,57]:=by decide +kernel
 rw[e]
 by_cases h:c<58
 ·have all:∀ c<58,[48,49,50,51,52,53,54,55,56,57].contains c=Px c:=by decide +kernel
  exact all c h
 ·have e1:Px c=false:=by
   unfold Px
   rw[decide_eq_false (p:=c≤57) (fun z=>h (Nat.lt_succ_of_le z)),E9]
  rw[e1,Et]
  intro z
  have all:∀ x∈[48,49,50,51,52,53,54,55,56,57],x<58:=by decide +kernel
  exact h (all c (Dp.mp z))
noncomputable def Vu:Sp:=fun vs H Q _=>∃ z,vs=[.str z]∧z.length≤100000∧∀ H',zw H H'→Q (.bl (Za z.cps.toList)) H'
noncomputable def rH (y:Int):Str:=Txt.zfill (M8 y) 4
end Pg
namespace L2
open PySem PySem.Spec PyProof.Rows
abbrev TJ:=St→Hp→(List Str→Hp→Prop)→Prop
section
variable {X:Cx} {e:Expr} {es:List Expr} {te:TE} {t:TJ} {pos:Pos}
end
end L2
namespace Pg
open PySem L2
theorem Gg {n:Nat} (h:10≤n):dg n=dg (n/10)++[48+n%10]:=by
 unfold dg
 rw[Nat.toDigits_of_base_le (by decide) h,dz,List.map_singleton]
 congr 2
 have:n%10<10:=Nat.mod_lt _ (by decide)
 generalize n%10=d at this
 match d,this with
 | 0,_=>rfl
 | 1,_=>rfl
 | 2,_=>rfl
 | 3,_=>rfl
 | 4,_=>rfl
 | 5,_=>rfl
 | 6,_=>rfl
 | 7,_=>rfl
 | 8,_=>rfl
 | 9,_=>rfl
 | d+10,h=>omega
theorem LX {n:Nat} (h:n<10):dg n=[48+n]:=by
 match n,h with
 | 0,_=>rfl
 | 1,_=>rfl
 | 2,_=>rfl
 | 3,_=>rfl
 | 4,_=>rfl
 | 5,_=>rfl
 | 6,_=>rfl
 | 7,_=>rfl
 | 8,_=>rfl
 | 9,_=>rfl
 | d+10,h=>omega
theorem WD (sep z:Str):Txt.join sep [z]=z:=rfl
theorem vb (sep z:Str) {zs:List Str} (h:zs≠[]):Txt.join sep (zs++[z])=Txt.join sep zs++sep++z:=by
 cases zs with
 | nil=>exact absurd rfl h
 | cons a r =>
  unfold Txt.join Builtin.Str.glued
  show Str.mk ((r++[z]).foldl _ _)=Str.mk (_++_++_)
  rw[Ed]
  rfl
theorem Yj {z:Int} {k:Nat} (h0:0≤z) (hk:1≤k) (h1:z.toNat<10 ^ k):(M8 z).length≤k:=by
 obtain⟨n,rfl⟩:=Dy h0
 rw[zY,wU]
 exact Zq hk (by simpa using h1)
end Pg
namespace L2
open PySem PySem.Spec PyProof.Rows
structure Zw (J:It) (H:Hp) (xs:List V):Prop where
 go:∀ i x H',xs[i]? = some x→zw H H'→J.go i H'∧∀ y H'',J.yld i H' y H''→H''=H'∧y=x
 stop:∀ H',zw H H'→J.stop xs.length H'
theorem qX {K:BFr} {a:Addr} {xs:List V} {H:Hp} (h:zZ K H a xs):Zw (RO K a) H xs :=
 ⟨fun i x H' e s=>⟨⟨xs,x,s.seq h,e⟩,fun y H'' ⟨e1,e2⟩=>⟨e1,Option.some.inj ((e2 xs (s.seq h)).symm.trans e)⟩⟩,fun H' s=>⟨xs,s.seq h,CZ _⟩⟩
theorem jk {K:BFr} {a:Addr} {xs:List V} {H:Hp} (h:qh K H a xs):Zw (R8 K a) H xs :=
 ⟨fun i x H' e s=>⟨⟨xs,x,s.tup h,e⟩,fun y H'' ⟨e1,e2⟩=>⟨e1,Option.some.inj ((e2 xs (s.tup h)).symm.trans e)⟩⟩,fun H' s=>⟨xs,s.tup h,CZ _⟩⟩
theorem vK {lo:Int} {n:Nat} {H:Hp}:Zw (rq lo n) H ((List.range n).map fun k=>V.int (lo+(k:Nat))):=by
 refine⟨fun i x H' e s=>?_,fun H' s=>by rw[CY,d4];exact CZ n⟩
 rw[dj] at e
 obtain⟨k,hk,rfl⟩:=dC.mp e
 obtain⟨h1,h2⟩:=dF.mp hk
 simp at h1 h2
 exact⟨by show i<n;omega,fun y H'' ⟨e1,e2⟩=>⟨e1,by rw[e2,← h2]⟩⟩
theorem W7 {z:Str} {H:Hp}:Zw (BI z) H (z.cps.toList.map Ci):=by
 refine⟨fun i x H' e s=>?_,fun H' s=>by rw[CY,De];exact CZ _⟩
 rw[dj] at e
 obtain⟨c,hc,rfl⟩:=dC.mp e
 have hc':z.cps[i]? = some c:=by simpa using hc
 exact⟨(Dx.mp hc').1,fun y H'' ⟨e1,c',h1,e2⟩=>⟨e1,by rw[e2,Option.some.inj (h1.symm.trans hc')];rfl⟩⟩
section
variable {J:It} {D:Addr} {g:TG} {tt:TT} {te:TE} {fin:List V→Hp→Prop} {σ:St} {H:Hp} {xs:List V}
theorem jJ (W:Zw J H xs) (hD:H D=none) (vw:Nat→List V→Hp→Prop) (Sg:St→Prop) (s0:Sg σ) (g0:vw 0 [] (upd H D (.lst []))) (hs:∀ i x ys σ' H',xs[i]? = some x→Sg σ'→zw H H'→H' D=some (.lst ys)→ys.length≤i→vw i ys H'→Jt D g tt te x ys (fun ys' σ2 H2=>Sg σ2∧zw H H2∧H2 D=some (.lst ys')∧ys'.length≤i+1∧vw (i+1) ys' H2) σ' H') (hf:∀ ys H',zw H H'→H' D=some (.lst ys)→ys.length≤xs.length→vw xs.length ys H'→fin ys H'):jj J D g tt te fin σ (upd H D (.lst [])):=by
 refine⟨fun i m ys σ' H'=>m=xs.length - i∧i≤xs.length∧Sg σ'∧zw H H'∧H' D=some (.lst ys)∧ys.length≤i∧vw i ys H',⟨xs.length,by simp,d6 _,s0,zw.upd hD,zp,CZ _,g0⟩,fun i m ys σ H ⟨_,_,_,_,h,_⟩=>h,?_⟩
 rintro i m ys σ' H' ⟨rfl,hi,h1,h2,h3,h4,h5⟩
 by_cases hlt:i<xs.length
 ·have hx:xs[i]? = some xs[i]:=de hlt
  obtain⟨w1,w2⟩:=W.go i _ H' hx h2
  refine .inr ⟨w1,fun ys' σ2 H2=>Sg σ2∧zw H H2∧H2 D=some (.lst ys')∧ys'.length≤i+1∧vw (i+1) ys' H2,fun ys' σ2 H2 p=>⟨xs.length - (i+1),by omega,rfl,hlt,p⟩,fun y H'' hy=>?_⟩
  obtain⟨e1,e2⟩:=w2 y H'' hy
  subst e1 e2
  exact hs i _ ys σ' _ hx h1 h2 h3 h4 h5
 ·have e:i=xs.length:=by omega
  subst e
  exact .inl ⟨W.stop H' h2,hf ys H' h2 h3 h4 h5⟩
theorem Qa (W:Zw J H xs) (hD:H D=none) (hz:xs.length<sizeLine) (p:V→Bool) (φ:V→V) (ht:∀ x∈xs,∀ H' R,zw H H'→R (p x) H'→tt (σ.set 0 (some x)) H' R) (he:∀ x∈xs,p x=true→∀ H' R,zw H H'→R (φ x) H'→te (σ.set 0 (some x)) H' R) (hf:fin ((xs.filter p).map φ) (upd H D (.lst ((xs.filter p).map φ)))):jj J D (z4 0) tt te fin σ (upd H D (.lst [])):=by
 refine jJ W hD (fun i ys H'=>ys=((xs.take i).filter p).map φ∧H'=upd H D (.lst ys)) (fun σ'=>∀ x,σ'.set 0 (some x) = σ.set 0 (some x)) (fun _=>rfl) ⟨rfl,rfl⟩ ?_ ?_
 ·rintro i x ys σ' H' hx hσ s hd hl ⟨rfl,rfl⟩
  have hi:i<xs.length:=(dF.mp hx).1
  have hm:=dZ hx
  have tk:xs.take (i+1)=xs.take i++[x]:=by rw[Dg,hx];rfl
  have hσ2:∀ y,(σ'.set 0 (some x)).set 0 (some y) = σ.set 0 (some y):=fun y=>by rw[eB];exact hσ y
  show tt (σ'.set 0 (some x)) _ _
  rw[hσ x]
  refine ht x hm _ _ s ?_
  rw[hσ x] at hσ2
  cases hp:p x with
  | true =>
   refine jS (he x hm hp _ _ s ⟨hd,by omega,hσ2,?_,zp,?_,?_,gU⟩)
   ·rw[gU];exact zw.upd hD
   ·rw[dh,Da];omega
   ·rw[tk,Eg,dz];simp[hp]
  | false =>
   refine qY ⟨hσ2,s,hd,by omega,?_,rfl⟩
   rw[tk,Eg,dz];simp[hp]
 ·rintro ys H' s hd hl ⟨rfl,rfl⟩
  rw[Dj]
  exact hf
end
end L2
namespace L2
theorem Oo {p q:Nat→Bool} {l:List Nat} (h:∀ x∈l,p x=true→q x=true) (w:∃ x∈l,q x=true∧p x=false):l.countP p<l.countP q:=by
 induction l with
 | nil =>
  obtain⟨x,hx,_⟩:=w
  cases hx
 | cons a l ih =>
  rw[List.countP_cons,List.countP_cons]
  have hl:∀ x∈l,p x=true→q x=true:=fun x hx=>h x (dQ _ hx)
  obtain⟨x,hx,h1,h2⟩:=w
  rcases dc.mp hx with rfl | hx
  ·rw[h1,h2,if_pos rfl,if_neg dJ]
   exact Nat.lt_succ_of_le (List.countP_mono_left hl)
  ·have:=ih hl ⟨x,hx,h1,h2⟩
   cases e:p a with
   | false =>
    rw[if_neg dJ]
    exact Dd this (eC _ _)
   | true =>
    rw[h a dq e,if_pos rfl]
    exact Nat.add_lt_add_right this 1
noncomputable def Tv (key:Nat→List Nat) (n i:Nat):Int:=((List.range n).countP fun j=>decide (key j<key i):Nat)
theorem pU {key:Nat→List Nat} {n i j:Nat} (hi:i<n):decide (key i<key j)=decide (Tv key n i<Tv key n j):=by
 refine decide_eq_decide.mpr ⟨fun h=>?_,fun h=>?_⟩
 ·refine Int.ofNat_lt.mpr (Oo (fun x _ e=>decide_eq_true (List.lt_trans (of_decide_eq_true e) h)) ⟨i,DI.mpr hi,decide_eq_true h,decide_eq_false (List.lt_irrefl _)⟩)
 ·have h:=Int.ofNat_lt.mp h
  refine Classical.byContradiction fun c=>Nat.not_lt.mpr (List.countP_mono_left fun x _ e=>?_) h
  have e:=of_decide_eq_true e
  refine decide_eq_true (Classical.byContradiction fun d=>c (List.lt_of_le_of_lt d e))
theorem pM {key:Nat→List Nat} {n i j:Nat} (h:key i=key j):Tv key n i=Tv key n j:=by
 have:(fun k=>decide (key k<key i))=fun k=>decide (key k<key j):=funext fun k=>decide_eq_decide.mpr (by rw[h])
 unfold Tv
 rw[this]
theorem GH {α:Type} [DecidableEq α] {l m:List α} (hn:l.Nodup) (hs:∀ x∈l,x∈m):l.length≤m.length:=by
 induction l generalizing m with
 | nil=>exact d6 _
 | cons a l ih =>
  obtain⟨h1,h2⟩:=Dm.mp hn
  have ha:=hs a dq
  have:=ih (m:=m.erase a) h2 fun x hx=>(List.mem_erase_of_ne (show x≠a from fun e=>h1 (e ▸ hx))).mpr (hs x (dQ _ hx))
  rw[fE ha] at this
  have:0<m.length:=fF ha
  rw[dW]
  omega
theorem VO {α:Type} [DecidableEq α] {l m:List α} (hn:l.Nodup) (hs:∀ x,x∈l↔x∈m) (hl:m.length≤l.length):m.Nodup:=by
 induction m generalizing l with
 | nil=>exact DS
 | cons a m ih =>
  have ha:a∈l:=(hs a).mpr dq
  have no:¬ a∈m:=fun c=>by
   have:∀ x∈l,x∈m:=fun x hx=>by
    rcases dc.mp ((hs x).mp hx) with rfl | h
    ·exact c
    ·exact h
   have:=GH hn this
   rw[dW] at hl
   omega
  refine Dm.mpr ⟨no,ih (l:=l.erase a) (hn.erase a) (fun x=>?_) ?_⟩
  ·rw[hn.mem_erase_iff,hs x,dc]
   exact⟨fun⟨h1,h2⟩=>h2.resolve_left h1,fun h=>⟨fun e=>no (e ▸ h),.inr h⟩⟩
  ·rw[fE ha]
   rw[dW] at hl
   omega
theorem XW {α:Type} [DecidableEq α] {l m:List α} (hn:l.Nodup) (hs:∀ x,x∈l↔x∈m):l.length<m.length↔¬ m.Nodup :=
 ⟨fun h c=>Nat.not_lt.mpr (GH c fun x hx=>(hs x).mpr hx) h,fun h=>Nat.lt_of_not_le fun c=>h (VO hn hs c)⟩
end L2
set_option maxHeartbeats 1000000
namespace SS
theorem nh {k:Nat→Int} {x:Nat} {l:List Nat} (h:l.Pairwise fun a b=>k a≤k b):(ku k x l).Pairwise fun a b=>k a≤k b:=by
 unfold ku
 have h':=h
 rw[← EW (p:=fun y=>decide (k y≤k x)) (l:=l),eA] at h'
 obtain⟨h1,h2,h3⟩:=h'
 have lo:∀ y∈l.takeWhile (fun y=>decide (k y≤k x)),k y≤k x:=fun y hy=>of_decide_eq_true (Dc.mp List.all_takeWhile y hy)
 have hi:∀ y∈l.dropWhile (fun y=>decide (k y≤k x)),k x≤k y:=by
  cases e:l.dropWhile (fun y=>decide (k y≤k x)) with
  | nil=>intro y hy;cases hy
  | cons a r =>
   have ha:decide (k a≤k x)=false:=by
    have:=List.head?_dropWhile_not (fun y=>decide (k y≤k x)) l
    rw[e] at this
    simpa using this
   have ha:=of_decide_eq_false ha
   rw[e] at h2
   intro y hy
   rcases dc.mp hy with rfl | hy
   ·omega
   ·have:=(DE.mp h2).1 y hy
    omega
 refine eA.mpr ⟨h1,DE.mpr ⟨hi,h2⟩,fun a ha b hb=>?_⟩
 rcases dc.mp hb with rfl | hb
 ·exact lo a ha
 ·exact h3 a ha b hb
theorem Ms (k:Nat→Int) (l:List Nat):(Lq k l).Pairwise fun a b=>k a≤k b:=by
 have:∀ (l acc:List Nat),acc.Pairwise (fun a b=>k a≤k b)→(l.foldl (fun acc x=>ku k x acc) acc).Pairwise fun a b=>k a≤k b:=by
  intro l
  induction l with
  | nil=>intro acc h;exact h
  | cons x r ih =>
   intro acc h
   rw[Ds]
   exact ih _ (nh h)
 exact this l [] List.Pairwise.nil
end SS
namespace L2
open PySem PySem.Spec PyProof.Rows PySem.W
section
variable {prog:Program} {w:World} {A:Around} {s:Shared}
theorem LD {Q:Bool→Shared→Prop} {a c:Str} {t t2 u u2:Tok} {x y:Int} (h1:a=c→x=y) (h:Q (decide (a.cps.toList<c.cps.toList)) s) :
  KatLex prog w A true (decide (2<2)) Q ([Value.str a t,Value.int x t2].zip [Value.str c u,Value.int y u2]) 0 s:=by
 refine kat_cons (wpAny_eqBool_str (kat_go (fun e=>kat_yes ?_) fun e=>kat_no ?_))
 ·have e:=of_decide_eq_true e
  have e2:=h1 e
  subst e e2
  refine kat_cons (wpAny_eqBool_int (kat_go (fun e=>kat_yes ?_) fun e=>?_))
  ·have h:Q (decide (a.cps.toList<a.cps.toList)) s:=h
   rw[decide_eq_false (List.lt_irrefl _)] at h
   exact h
  ·simp at e
 ·exact oneLt_str h
end
section
variable {X:Cx} {A:Around} {E:Value→Shared→Prop} {pins:List (Addr × Obj)} {σ:St} {H:Hp} {s:Shared} {a:Addr} {its:List Value} {ts:List V} {nm:Nat→Str} {am:Nat→Int} {P:PySem.Fin→Shared→Prop}
structure wM (H:Hp) (ts:List V) (nm:Nat→Str) (am:Nat→Int):Prop where
 at_:∀ i,i<ts.length→∃ t,ts[i]? = some (.ref t)∧H t=some (.tup [.str (nm i),.int (am i)])
 one:∀ i j,i<ts.length→j<ts.length→nm i=nm j→am i=am j
abbrev GE (nm:Nat→Str) (n:Nat):Nat→Int:=Tv (fun i=>(nm i).cps.toList) n
theorem uN (T:wM H ts nm am) (rv:zX ts its) {P:Program} {w:World} {h:Heap} (ok:uK P w H h) {i:Nat} {v:Value} (hv:its[i]? = some v):∃ t o k1 k2 n,v = .ref t∧H t=some (.tup [.str (nm i),.int (am i)])∧h.get? t=some o∧o.cls = .type "tuple"∧o.data = .seq #[Value.str (nm i) k1,Value.int (am i) k2] n:=by
 have hi:i<ts.length:=by rw[rv.length];exact (dF.mp hv).1
 obtain⟨t,e1,e2⟩:=T.at_ i hi
 obtain⟨u,hu,ru⟩:=rv.get e1
 rw[hv] at hu
 cases hu
 cases ru
 obtain⟨_,us,rv,o,ho,hc,n,hd⟩:=ok t _ e2
 obtain⟨u1,u2,rfl,⟨k1,r1⟩,⟨k2,r2⟩⟩:=gD rv
 subst r1 r2
 exact⟨t,o,k1,k2,n,rfl,e2,ho,hc,hd⟩
theorem ZC (T:wM H ts nm am) (rv:zX ts its) {P:Program} {w:World} {h:Heap} (ok:uK P w H h) {i:Nat} {v:Value} (hv:its[i]? = some v):uR its (GE nm ts.length) v=GE nm ts.length i:=by
 have ex:∃ i,its[i]? = some v:=⟨i,hv⟩
 unfold uR
 rw[dif_pos ex]
 have hj:=ex.choose_spec
 generalize ex.choose=j at hj
 obtain⟨t,_,_,_,_,e1,e2,_⟩:=uN T rv ok hv
 obtain⟨t',_,_,_,_,e1',e2',_⟩:=uN T rv ok hj
 rw[e1] at e1'
 cases e1'
 rw[e2] at e2'
 have en:nm i=nm j:=by
  have:=HO.tup.inj (Option.some.inj e2')
  exact V.str.inj (List.cons.inj this).1
 exact pM (congrArg (fun z:Str=>z.cps.toList) en.symm)
theorem G0 (T:wM H ts nm am) (rv:zX ts its) {P:Program} {w:World} (ok:uK P w H s.heap) :
  @SG.MC ⟨uR its (GE nm ts.length),tuples' true⟩ P w A s (its.toArray.zip its.toArray):=by
 intro p hp q hq Q E h
 rw[ksk_zip] at hp hq
 obtain⟨x,x'⟩:=p
 obtain⟨y,y'⟩:=q
 obtain⟨i,hi⟩:=DU.mp (eP hp).1
 obtain⟨j,hj⟩:=DU.mp (eP hq).1
 rw[ksk_tl] at hi hj
 have li:i<ts.length:=by rw[rv.length];exact (dF.mp hi).1
 have lj:j<ts.length:=by rw[rv.length];exact (dF.mp hj).1
 have h':Q (decide (uR its (GE nm ts.length) x<uR its (GE nm ts.length) y)) s:=h
 rw[ZC T rv ok hi,ZC T rv ok hj,← pU li] at h'
 obtain⟨t,o,k1,k2,n,e1,_,e3,_,e5⟩:=uN T rv ok hi
 obtain⟨t',o',l1,l2,n',f1,_,f3,_,f5⟩:=uN T rv ok hj
 show wpAny (model P w) A (keyLt' (tuples' true) x y) Q E s
 rw[e1,f1]
 exact kat_lt e3 e5 f3 f5 (LD (T.one i j li lj) h')
theorem WQ (T:wM H ts nm am) (rv:zX ts its) {P:Program} {w:World} {h:Heap} (ok:uK P w H h) :
  zX ((SS.Lq (GE nm ts.length) (List.range ts.length)).map fun i=>ts.getD i .non) ((@SG.jB ⟨uR its (GE nm ts.length),tuples' true⟩ (its.zip its)).map (·.2)):=by
 letI:SG.Rk:=⟨uR its (GE nm ts.length),tuples' true⟩
 have tl:=rv.length
 have P0:Paired (fun (i:Nat) (p:Keyed)=>SG.ky p=GE nm ts.length i∧qt (ts.getD i .non) p.2) (List.range ts.length) (its.zip its):=by
  refine Zy (by rw[d4,List.length_zip,Nat.min_self,tl]) fun i j p e1 e2=>?_
  obtain⟨hi,rfl⟩:i<ts.length∧i=j:=by
   rw[dF] at e1
   obtain⟨h1,h2⟩:=e1
   rw[Eh] at h2
   exact⟨by simpa using h1,h2⟩
  have e3:its[i]? = some p.1∧its[i]? = some p.2:=List.getElem?_zip_eq_some.mp e2
  refine⟨ZC T rv ok e3.1,?_⟩
  obtain⟨u,hu,rv⟩:=rv.get (i:=i) (x:=ts.getD i .non) (by rw[Df,de hi];rfl)
  rw[e3.2] at hu
  cases hu
  exact rv
 have P1:=SG.pV (k:=GE nm ts.length) (fun i p h=>h.1) P0
 have:∀ {l:List Nat} {m:List Keyed},Paired (fun (i:Nat) (p:Keyed)=>SG.ky p=GE nm ts.length i∧qt (ts.getD i .non) p.2) l m→zX (l.map fun i=>ts.getD i .non) (m.map (·.2)):=by
  intro l m h
  induction h with
  | nil=>exact .nil
  | cons r _ ih=>exact .cons r.2 ih
 exact this P1
theorem Nv {h:Heap} {its:List Value} (H:∀ v∈its,∃ a o xs n k t,v=Value.ref a∧h.get? a=some o∧o.cls = .type "tuple"∧o.data = .seq xs n∧xs[0]? = some (Value.str k t)):∃ fs,KatTups h its fs∧fs.length=its.length∧∀ f∈fs,∃ k t,f=Value.str k t:=by
 induction its with
 | nil=>exact⟨[],trivial,rfl,fun f hf=>absurd hf (by simp)⟩
 | cons v its ih =>
  obtain⟨fs,t1,t2,t3⟩:=ih fun v hv=>H v (dQ _ hv)
  obtain⟨a,o,xs,n,k,t,e1,e2,e3,e4,e5⟩:=H v dq
  refine⟨.str k t::fs,⟨⟨a,o,xs,n,e1,e2,e3,e4,e5⟩,t1⟩,by rw[dW,dW,t2],fun f hf=>?_⟩
  rcases dc.mp hf with rfl | hf
  ·exact⟨k,t,rfl⟩
  ·exact t3 f hf
theorem Og {n:Nat} (I:zI X pins σ H s) (ha:s.heap.get? a=some (seqObj "list" its.toArray n)) (fa:jU X pins H a) (h64:its.length<64) (T:wM H ts nm am) (rv:zX ts its) (h:∀ s' c out,zX ((SS.Lq (GE nm ts.length) (List.range ts.length)).map fun i=>ts.getD i .non) out→zI X pins σ H s'→s'.heap.get? a=some (seqObj "list" out.toArray c)→P (.done (.ret .none)) s') :
  wpAny (model X.prog X.w) A (Builtin.«list.sort» ⟨[.ref a],[]⟩) P E s:=by
 letI:SG.Rk:=⟨uR its (GE nm ts.length),tuples' true⟩
 have u1:=Heap.SameBut.update s.heap a (Obj.mapSeq fun _=>(#[]:Array Value))
 obtain⟨e1,g1⟩:∃ e1,(s.heap.update a (Obj.mapSeq fun _=>(#[]:Array Value))).get? a=some (seqObj "list" #[] e1):=⟨_,get?_update_seq ha fun _=>#[]⟩
 have J1:=I.turn1 fa u1
 have J2:=J1.kept (t':=s.toks) (h':=(s.heap.update a (Obj.mapSeq fun _=>(#[]:Array Value))).push (seqObj "tuple" its.toArray 0)) fun b o q=>dH _ q
 have J3:=J2.kept (t':=s.toks) (h':=((s.heap.update a (Obj.mapSeq fun _=>(#[]:Array Value))).push (seqObj "tuple" its.toArray 0)).push (seqObj "list" #[] 0)) fun b o q=>dH _ q
 have g3:(((s.heap.update a (Obj.mapSeq fun _=>(#[]:Array Value))).push (seqObj "tuple" its.toArray 0)).push (seqObj "list" #[] 0)).get? a=some (seqObj "list" #[] e1):=dH _ (dH _ g1)
 rw[list_sort_plain]
 refine wpAny_bind (listItems_at ha rfl (wpAny_bind (listUpdate_at ha rfl (wpAny_bind (seqEpoch_at g1 rfl (wpAny_bind (wpAny_newTuple (wpAny_bind (wpAny_newList (wpAny_holding ?_) (d6 _))) (by show its.length≤_;rw[sizeLine_eq];omega))))) (by rw[dD,sizeLine_eq];omega) (d6 _))))
 dsimp only
 have ov:=WQ T rv J3.hok
 have zl:(its.zip its).length=its.length:=by rw[List.length_zip,Nat.min_self]
 have zs:(its.toArray.zip its.toArray).size=its.length:=by rw[← zl,← ksk_tl its,← ksk_zip,De,ksk_tl]
 have fin:∀ (st:SortSt),(arrOf st).toList=SG.jB (its.zip its)→failedOf st=none→wpAny (model X.prog X.w) A (do
   let touched:=(← seqEpoch a) != e1
   Builtin.List.listUpdate (.ref a) fun _=>(arrOf st).map (·.2)
   if let some e:=failedOf st then rule "list.sort.comparison-raised";throw e
   if touched then rule "list.sort.modified";raiseError "ValueError" "list modified during sort"
   ret .none) P E { s with heap:=((s.heap.update a (Obj.mapSeq fun _=>(#[]:Array Value))).push (seqObj "tuple" its.toArray 0)).push (seqObj "list" #[] 0) }:=fun st e3 e2=>by
  have ez:((arrOf st).map (·.2))=((SG.jB (its.zip its)).map (·.2)).toArray:=by rw[← e3,← Array.toList_map,Array.toArray_toList]
  have sz:((arrOf st).map (·.2)).size≤64:=by rw[ez];simp only[dD,CY];rw[SG.jf,zl];omega
  have u3:=Heap.SameBut.update (((s.heap.update a (Obj.mapSeq fun _=>(#[]:Array Value))).push (seqObj "tuple" its.toArray 0)).push (seqObj "list" #[] 0)) a (Obj.mapSeq fun _=>(arrOf st).map (·.2))
  have a3:=get?_update_seq g3 fun _=>(arrOf st).map (·.2)
  refine wpAny_bind (seqEpoch_at g3 rfl (wpAny_bind (listUpdate_at g3 rfl ?_ (d6 _) (dG sz (by rw[sizeLine_eq];omega)))))
  rw[e2]
  simp only[bne_self_eq_false,DN,if_false]
  have a4:∃ c,((((s.heap.update a (Obj.mapSeq fun _=>(#[]:Array Value))).push (seqObj "tuple" its.toArray 0)).push (seqObj "list" #[] 0)).update a (Obj.mapSeq fun _=>(arrOf st).map (·.2))).get? a=some (seqObj "list" ((SG.jB (its.zip its)).map (·.2)).toArray c):=⟨_,by rw[← ez];exact a3⟩
  obtain⟨c,a4⟩:=a4
  exact wpAny_pure (h _ c _ ov (J3.turn1 fa u3) a4)
 by_cases h2:its.toArray.size<2
 ·rw[if_pos h2,if_pos h2]
  refine wpAny_bind (wpAny_pure ?_)
  rw[StateT.run_pure]
  refine wpAny_bind (wpAny_pure ?_)
  have h2':its.length<2:=by simpa using h2
  refine fin _ ?_ rfl
  have up:SG.Up (its.zip its):=by
   cases q:its.zip its with
   | nil=>exact List.Pairwise.nil
   | cons x r =>
    cases r with
    | nil=>exact Ee _ _
    | cons y r=>rw[q] at zl;simp at zl;omega
  rw[SG.lO up]
  exact ksk_zip its.toArray its
 ·rw[if_neg h2,if_neg h2]
  have h2':2≤its.length:=by simpa using h2
  obtain⟨fs,k1,k2,k3⟩:=Nv (h:=(((s.heap.update a (Obj.mapSeq fun _=>(#[]:Array Value))).push (seqObj "tuple" its.toArray 0)).push (seqObj "list" #[] 0))) (its:=its) fun v hv=>by
   obtain⟨i,hi⟩:=DU.mp hv
   obtain⟨t,o,k1,k2,n',y1,_,y3,y4,y5⟩:=uN T rv J3.hok hi
   exact⟨t,o,_,n',_,k1,y1,y3,y4,y5,rfl⟩
  refine wpAny_bind (kat_kind (T:=.type "str") k1 (by omega) (fun v hv=>?_) rfl ?_)
  ·obtain⟨k,t,rfl⟩:=k3 v hv
   exact .now
  refine wpAny_bind (wpAny_mono (SG.Mw (b₀:=its.toArray.zip its.toArray) (st:=SortSt.mk' (tuples' true) (its.toArray.zip its.toArray) #[] 7 none) (Q:=fun _ st'=>failedOf st'=none∧(arrOf st').toList=SG.jB (its.toArray.zip its.toArray).toList) (G0 T rv J3.hok) ⟨.refl _,rfl,rfl,rfl⟩ rfl (by omega) (by omega) fun st' z1 z2=>⟨z1,z2⟩) ?_ fun _ _ z=>z)
  rintro ⟨⟨⟩,st'⟩ s' ⟨rfl,z1,z2⟩
  rw[ksk_zip] at z2
  exact fin st' z2 z1
noncomputable def To (K:BFr):List V→Hp→VK→Prop:=fun xs H Q=>∃ (a:Addr) (ts:List V) (nm:Nat→Str) (am:Nat→Int),xs=[.ref a]∧zZ K H a ts∧ts.length<64∧wM H ts nm am ∧
 ∀ is:List Nat,is.Perm (List.range ts.length)→is.Pairwise (fun i j=>¬ (nm j).cps.toList<(nm i).cps.toList)→Qy H (.lst (is.map fun i=>ts.getD i .non)) Q
theorem Yl:jD X (.builtin "sorted") (To X.K):=by
 intro pins s σ H xs us Q I r h
 obtain⟨a,ts,nm,am,rfl,ha,h64,T,q⟩:=h
 cases r with
 | cons r1 rr =>
  cases rr
  cases r1
  obtain⟨its,rv,pl,hz⟩:=I.list ha
  have tl:=rv.length
  refine Calls.call_function_entry kind_sorted plain_sorted entry_sorted (args_sorted1 _) ?_
  unfold Builtin.«sorted»
  refine wpAny_bind (m:=checkCount "sorted" 1 1 _) (wpAny_pure (wpAny_bind (collect_list pl.isList (wpAny_bind (wpAny_newList ?_ (by rw[sizeLine_eq];omega))) (by rw[sizeLine_eq];omega))))
  have u0:=Heap.SameBut.update (s.heap.push (seqObj "list" #[] 0)) s.heap.objs.size (Obj.mapSeq (· ++ its.toArray))
  have J1:=I.kept (t':=s.toks) (h':=(s.heap.push (seqObj "list" #[] 0)).update s.heap.objs.size (Obj.mapSeq (· ++ its.toArray))) fun b o e=>(u0.2 b (dO (dw e))).trans (dH _ e)
  have J2:=J1.kept (t':=s.toks) (h':=((s.heap.push (seqObj "list" #[] 0)).update s.heap.objs.size (Obj.mapSeq (· ++ its.toArray))).push (seqObj "list" its.toArray 0)) fun b o e=>dH _ e
  have hn:H ((s.heap.push (seqObj "list" #[] 0)).update s.heap.objs.size (Obj.mapSeq (· ++ its.toArray))).objs.size=none:=J1.hok.fresh (CZ _)
  have fa:=J1.fpOk (CZ _) hn
  refine wpAny_bind (wpAny_holding (wpAny_call_entry slot_list_sort ⟨_,dR _ rfl,rfl⟩ entry_list_sort ?body (args_list_sort _)))
  case body =>
   refine Og (X:=X) (pins:=pins) (σ:=σ) (H:=H) J2 (dR _ rfl) fa (by omega) T rv fun s' c out ov J hq=>⟨_,rfl,wpAny_pure ⟨_,rfl,?_⟩⟩
   have pm:=SS.xA (GE nm ts.length) (List.range ts.length)
   refine⟨.ref _,_,J.adopt fa hq ov ?_,rfl,(q _ pm ((SS.Ms _ _).imp_of_mem fun {i j} hi hj hl c=>?_)).at hn⟩
   ·rw[CY,pm.length_eq,d4,sizeLine_eq]
    omega
   ·have hj:=DI.mp (pm.mem_iff.mp hj)
    have e:=pU (key:=fun i=>(nm i).cps.toList) (j:=i) hj
    rw[decide_eq_true c] at e
    exact absurd (of_decide_eq_true e.symm) (Int.not_lt.mpr hl)
end
end L2
namespace L2
open PySem PySem.Spec PyProof.Rows
structure z5 (H:Hp) (ys:List V) (cs:List (List V)):Prop where
 len:ys.length=cs.length
 at_:∀ (i:Nat) (c:List V),cs[i]? = some c→∃ a,ys[i]? = some (V.ref a)∧H a=some (.tup c)
section
variable {H H':Hp} {ys:List V} {cs:List (List V)}
theorem z5.nil:z5 H [] []:=⟨rfl,fun i c e=>by cases e⟩
theorem z5.mono (T:z5 H ys cs) (k:∀ b c,H b=some (.tup c)→H' b=some (.tup c)):z5 H' ys cs:=⟨T.len,fun i c e=>by
 obtain⟨a,h1,h2⟩:=T.at_ i c e
 exact⟨a,h1,k _ _ h2⟩⟩
theorem z5.same (T:z5 H ys cs) (s:zw H H'):z5 H' ys cs:=T.mono fun _ _ h=>s _ _ h
theorem z5.upd {p:Addr} {o:HO} (T:z5 H ys cs) (n:∀ c,H p≠some (.tup c)):z5 (upd H p o) ys cs:=T.mono fun b c h=>by
 rw[zm (show b≠p from fun e=>n c (by rw[← e];exact h))]
 exact h
theorem z5.snoc {a:Addr} {c:List V} (T:z5 H ys cs) (h:H a=some (.tup c)):z5 H (ys++[.ref a]) (cs++[c]):=by
 refine⟨by rw[dh,dh,T.len];rfl,fun i d e=>?_⟩
 by_cases hi:i<cs.length
 ·rw[d7 hi] at e
  rw[d7 (by rw[T.len];exact hi)]
  exact T.at_ i d e
 ·have hi:=DK hi
  rw[dS hi] at e
  rw[dS (by rw[T.len];exact hi),T.len]
  cases q:i - cs.length with
  | zero =>
   rw[q] at e
   cases e
   exact⟨a,rfl,h⟩
  | succ n =>
   rw[q] at e
   cases e
theorem z5.of_at (T:z5 H ys cs) {i:Nat} {y:V} (h:ys[i]? = some y):∃ a c,y = .ref a∧cs[i]? = some c∧H a=some (.tup c):=by
 have hi:i<cs.length:=by rw[← T.len];exact (dF.mp h).1
 obtain⟨a,h1,h2⟩:=T.at_ i _ (de hi)
 rw[h] at h1
 exact⟨a,_,Option.some.inj h1,de hi,h2⟩
end
noncomputable def cP (p:Str × Int):List V:=[.str p.1,.int p.2]
noncomputable def O9 (prs:List (Str × Int)) (i:Nat):Str × Int:=prs.getD i (Str.empty,0)
theorem Yg {prs:List (Str × Int)} {i:Nat} {p:Str × Int} (h:prs[i]? = some p):O9 prs i=p:=by
 unfold O9
 rw[Df,h]
 rfl
theorem o2 (prs:List (Str × Int)):(List.range prs.length).map (O9 prs)=prs:=by
 apply DO
 intro i
 rw[dj]
 by_cases h:i<prs.length
 ·rw[fb h,EA,de h,Yg (de h)]
 ·rw[Dn (by simpa using h),Dn (DK h)]
  rfl
theorem gX {H:Hp} {ts:List V} {prs:List (Str × Int)} (T:z5 H ts (prs.map cP)) (nd:(prs.map (·.1)).Nodup):wM H ts (fun i=>(O9 prs i).1) (fun i=>(O9 prs i).2):=by
 have tl:ts.length=prs.length:=by rw[T.len,CY]
 refine⟨fun i hi=>?_,fun i j hi hj e=>?_⟩
 ·have hp:=de (tl ▸ hi)
  rw[Yg hp]
  exact T.at_ i _ (by rw[dj,hp];rfl)
 ·have e1:(O9 prs i).1=(O9 prs j).1:=e
  have hp:=de (tl ▸ hi)
  have hq:=de (tl ▸ hj)
  have:i=j:=by
   have li:i<(prs.map (·.1)).length:=by rw[CY];exact tl ▸ hi
   have lj:j<(prs.map (·.1)).length:=by rw[CY];exact tl ▸ hj
   refine (List.getElem_inj (h₀:=li) (h₁:=lj) nd).mp ?_
   rw[EB,EB,← Yg hp,← Yg hq]
   exact e1
  rw[this]
theorem Yn {H:Hp} {ts:List V} {prs:List (Str × Int)} (T:z5 H ts (prs.map cP)) {is:List Nat} (pm:is.Perm (List.range ts.length)) :
  (is.map (O9 prs)).Perm prs∧z5 H (is.map fun i=>ts.getD i .non) ((is.map (O9 prs)).map cP):=by
 have tl:ts.length=prs.length:=by rw[T.len,CY]
 rw[tl] at pm
 constructor
 ·have:=pm.map (O9 prs)
  rw[o2] at this
  exact this
 ·refine⟨by simp,fun i c e=>?_⟩
  rw[dj,dj] at e
  obtain⟨q,hq,rfl⟩:=dC.mp e
  obtain⟨j,hj,rfl⟩:=dC.mp hq
  have lj:j<prs.length:=DI.mp (pm.mem_iff.mp (dZ hj))
  have hp:=de lj
  obtain⟨a,h1,h2⟩:=T.at_ j _ (by rw[dj,hp];rfl)
  rw[Yg hp]
  refine⟨a,?_,h2⟩
  rw[dj,hj,EA,Df,h1]
  rfl
section
variable {J:It} {D a:Addr} {g:TG} {tt:TT} {te:TE} {fin:List V→Hp→Prop} {σ:St} {H:Hp} {xs:List V} {K:BFr}
end
end L2
namespace ST
open PySem
noncomputable def WA (xs:Array Nat):Prop:=∀ i j,i<j→j<xs.size→xs.getD i 0<xs.getD j 0
theorem Lj {xs:Array Nat} {i:Nat} (h:i<xs.size) (d e:Nat):xs.getD i d=xs.getD i e:=by
 simp[Array.getD,h]
theorem Us {xs:Array Nat} (hr:WA xs) (j:Nat):∀ (fuel lo hi:Nat),hi - lo≤fuel→lo≤hi→hi≤xs.size→(∀ i,i<lo→xs.getD i 0<j)→(∀ i,hi≤i→i<xs.size→j≤xs.getD i 0) →
  (SetTable.below.go xs j fuel lo hi≤xs.size∧(∀ i,i<SetTable.below.go xs j fuel lo hi→xs.getD i 0<j)∧∀ i,SetTable.below.go xs j fuel lo hi≤i→i<xs.size→j≤xs.getD i 0)
 | 0,lo,hi,hf,hl,hs,h1,h2=>by
  have e:lo=hi:=by omega
  subst e
  exact⟨hs,h1,h2⟩
 | fuel+1,lo,hi,hf,hl,hs,h1,h2=>by
  unfold SetTable.below.go
  by_cases hlt:lo<hi
  ·rw[if_pos hlt]
   have hm:(lo+hi)/2<hi:=by omega
   have hm2:lo≤(lo+hi)/2:=by omega
   have hms:(lo+hi)/2<xs.size:=by omega
   show (if xs.getD ((lo+hi)/2) j<j then _ else _)≤_∧_
   simp only
   rw[Lj hms j 0]
   by_cases hc:xs.getD ((lo+hi)/2) 0<j
   ·rw[if_pos hc]
    refine Us hr j fuel _ hi (by omega) (by omega) hs (fun i hi'=>?_) h2
    by_cases e:i=(lo+hi)/2
    ·rw[e];exact hc
    ·exact Eu (hr i _ (by omega) hms) hc
   ·rw[if_neg hc]
    refine Us hr j fuel lo _ (by omega) hm2 (by omega) h1 (fun i hi' his=>?_)
    by_cases e:i=(lo+hi)/2
    ·rw[e];exact DK hc
    ·exact dG (DK hc) (eL (hr _ i (by omega) his))
  ·rw[if_neg hlt]
   have e:lo=hi:=by omega
   subst e
   exact⟨hs,h1,h2⟩
theorem Xh {xs:Array Nat} (hr:WA xs) (j:Nat):SetTable.below xs j≤xs.size∧(∀ i,i<SetTable.below xs j→xs.getD i 0<j)∧∀ i,SetTable.below xs j≤i→i<xs.size→j≤xs.getD i 0 :=
 Us hr j xs.size 0 xs.size (by omega) (by omega) (CZ _) (fun i h=>absurd h (Nat.not_lt_zero i)) (fun i h1 h2=>absurd h2 (Nat.not_lt.mpr h1))
theorem ZI {xs:Array Nat} {p x k:Nat} (hp:p≤xs.size):(SetTable.insertAt xs p x).getD k 0=if k<p then xs.getD k 0 else if k=p then x else xs.getD (k - 1) 0:=by
 unfold SetTable.insertAt
 have e:∀ (ys:Array Nat) (k:Nat),ys.getD k 0=(ys.toList[k]?).getD 0:=fun ys k=>by simp[Array.getD_eq_getD_getElem?]
 rw[e,e,e]
 have l:((xs.extract 0 p).push x++xs.extract p xs.size).toList=xs.toList.take p++x::xs.toList.drop p:=by
  simp[Array.toList_extract]
  rw[Do (by simp:_≤_)]
 rw[l]
 by_cases h1:k<p
 ·rw[if_pos h1,d7 (by rw[dP,De];omega),EN h1]
 ·rw[if_neg h1,dS (by rw[dP,De];omega),dP,De,Dv hp]
  by_cases h2:k=p
  ·rw[if_pos h2,h2,Ei];rfl
  ·rw[if_neg h2]
   obtain⟨m,hm⟩:∃ m,k - p=m+1:=⟨k - p - 1,by omega⟩
   rw[hm,Ex,fc]
   congr 2
   omega
theorem UM {xs:Array Nat} {p x:Nat} (hp:p≤xs.size):(SetTable.insertAt xs p x).size=xs.size+1:=by
 unfold SetTable.insertAt
 simp
 omega
theorem lT {xs:Array Nat} (hr:WA xs) {j:Nat} (hj:xs[SetTable.below xs j]?≠some j):WA (SetTable.insertAt xs (SetTable.below xs j) j):=by
 obtain⟨h1,h2,h3⟩:=Xh hr j
 have h4:∀ i,SetTable.below xs j≤i→i<xs.size→j<xs.getD i 0:=fun i a b=>by
  refine Nat.lt_of_le_of_ne (h3 i a b) fun e=>?_
  by_cases q:i=SetTable.below xs j
  ·apply hj
   rw[← q,EU b]
   have:xs.getD i 0=xs[i]:=by simp[Array.getD,b]
   rw[← this,← e]
  ·have:=hr (SetTable.below xs j) i (by omega) b
   have:=h3 (SetTable.below xs j) (CZ _) (by omega)
   omega
 intro a b hab hb
 rw[UM h1] at hb
 rw[ZI h1,ZI h1]
 by_cases c1:b<SetTable.below xs j
 ·rw[if_pos (by omega:a<SetTable.below xs j),if_pos c1]
  exact hr a b hab (by omega)
 ·rw[if_neg c1]
  by_cases c2:b=SetTable.below xs j
  ·rw[if_pos c2,if_pos (by omega:a<SetTable.below xs j)]
   exact h2 a (by omega)
  ·rw[if_neg c2]
   by_cases c3:a<SetTable.below xs j
   ·rw[if_pos c3]
    exact Eu (h2 a c3) (h4 (b - 1) (by omega) (by omega))
   ·rw[if_neg c3]
    by_cases c4:a=SetTable.below xs j
    ·rw[if_pos c4]
     exact h4 (b - 1) (by omega) (by omega)
    ·rw[if_neg c4]
     exact hr (a - 1) (b - 1) (by omega) (by omega)
theorem gx (n:Nat):WA (Array.range n):=by
 intro i j hij hj
 have hj':j<n:=by simpa using hj
 have hi':i<n:=by omega
 simp[Array.getD,hj',hi',hij]
theorem Zm {l:List Nat} (h:l.Pairwise (· < ·)):WA l.toArray:=by
 intro i j hij hj
 have hj':j<l.length:=by simpa using hj
 have hi':i<l.length:=by omega
 have:=DP.mp h i j hi' hj' hij
 simpa [Array.getD,hi',hj'] using this
theorem oY {mask finger moves:Nat} {led plain:Bool} {hashes:Array Int} {t:SetTable} {order:Array Nat} (h:SetTable.laid mask finger moves led plain hashes=some (t,order)):WA t.place∧t.led=led∧t.plain=plain:=by
 unfold SetTable.laid at h
 cases e:SetTable.layClean mask hashes with
 | none =>
  rw[e] at h
  cases h
 | some owner =>
  rw[e] at h
  cases h
  refine⟨Zm ?_,rfl,rfl⟩
  rw[List.map_filterMap]
  refine List.Pairwise.filterMap _ (R:=(· < ·)) ?_ List.pairwise_lt_range
  intro a b hab x hx y hy
  simp only[Option.map_map,Option.mem_def,dC] at hx hy
  obtain⟨_,_,rfl⟩:=hx
  obtain⟨_,_,rfl⟩:=hy
  exact hab
noncomputable def QG (t:SetTable) (j:Nat):Prop:=t.place[SetTable.below t.place j]?≠some j
theorem GS {t:SetTable} {j:Nat} (h:∀ i,t.slot j≠.live i):QG t j:=by
 intro e
 unfold SetTable.slot at h
 simp only at h
 rw[if_pos (by rw[e];simp)] at h
 exact h _ rfl
theorem wN {t:SetTable} {f:Nat→Int} {h:Int}:∀ (fuel:Nat) (p:SetTable.Probe),(∀ d,p.dummy=some d→QG t d)→∀ j d,SetTable.probe.go t f h fuel p=some (.empty j d)→QG t j∧∀ e,d=some e→QG t e
 | 0,p,_,j,d,q=>by
  unfold SetTable.probe.go at q
  cases q
 | fuel+1,p,hp,j,d,q=>by
  unfold SetTable.probe.go at q
  cases hs:t.slot p.j with
  | empty =>
   rw[hs] at q
   simp only[Option.some.injEq,SetTable.Met.empty.injEq] at q
   obtain⟨e1,e2⟩:=q
   subst e1 e2
   exact⟨GS fun i=>by rw[hs];simp,hp⟩
  | dummy =>
   rw[hs] at q
   refine wN fuel _ (fun e he=>?_) j d q
   have:(SetTable.advance t { p with dummy:=some p.j }).dummy=some p.j:=by
    unfold SetTable.advance
    split <;> rfl
   rw[this] at he
   cases he
   exact GS fun i=>by rw[hs];simp
  | live i =>
   rw[hs] at q
   simp only at q
   split at q
   ·cases q
   ·refine wN fuel _ (fun e he=>?_) j d q
    have:(SetTable.advance t p).dummy=p.dummy:=by
     unfold SetTable.advance
     split <;> rfl
    rw[this] at he
    exact hp e he
theorem MW {t:SetTable} {h:Int} {s:Nat} {wd:Bool} (q:t.freeSlot h=some (s,wd)):QG t s:=by
 unfold SetTable.freeSlot at q
 cases e:t.probe (fun _=>h+1) h (t.probeStart h) with
 | none=>rw[e] at q;cases q
 | some m =>
  rw[e] at q
  cases m with
  | candidate j i n=>cases q
  | empty j d =>
   have hp:=wN _ _ (by intro d hd;cases hd) j d e
   simp only[Option.some.injEq,Prod.mk.injEq] at q
   obtain⟨q1,_⟩:=q
   cases d with
   | none=>rw[← q1];exact hp.1
   | some d=>rw[← q1];exact hp.2 d rfl
structure vw (b:Bool) (t:SetTable):Prop where
 led:t.led=b
 rise:WA t.place
theorem vU {b:Bool} {t:SetTable} (g:vw b t) (n:Nat):vw b (t.standIn n):=⟨g.led,gx n⟩
theorem Xe {b:Bool} {t:SetTable} (g:vw b t) (p:Bool):vw b { t with plain:=p }:=⟨g.led,g.rise⟩
theorem lM {b:Bool} {t:SetTable} (g:vw b t) (es:Array (Int × Value)) (h:Int) (x:Value):vw b (layNew t es h x).2.1:=by
 unfold layNew
 cases e:t.freeSlot h with
 | none=>exact vU g _
 | some q =>
  obtain⟨s,wd⟩:=q
  have gp:vw b (t.put s).1:=⟨g.led,lT g.rise (MW e)⟩
  show vw b ((t.put s).1.orStandIn _)
  unfold SetTable.orStandIn
  split
  ·exact gp
  ·exact vU gp _
theorem xW {b:Bool} {t:SetTable} (g:vw b t) (es:Array (Int × Value)) (n:Nat):vw b (relayAll t es n).2.1:=by
 unfold relayAll
 cases e:t.relaid (es.map (·.1)) n with
 | none=>exact vU g _
 | some q =>
  obtain⟨t',order⟩:=q
  simp only
  split
  ·obtain⟨r1,r2,_⟩:=oY e
   exact⟨r2.trans g.led,r1⟩
  ·exact vU g _
theorem X5 (b:Bool):vw b (SetTable.fresh 0 0 b):=⟨rfl,fun i j _ h=>absurd h (Nat.not_lt_zero _)⟩
open PySem.Spec
section
variable {prog:Program} {w:World} {K:Type} [DecidableEq K] [BEq K] [LawfulBEq K] {knd:KeyKind prog w K} {A:Around} {E:Value→Shared→Prop} {s:Shared}
structure At (knd:KeyKind prog w K) (b:Bool) (h:Heap) (a:Addr) (es:Array (Int × Value)):Prop where
 ex:∃ o ep t,h.get? a=some o∧o.ExactSet∧o.data = .set es ep t∧t.fits es.size=true∧vw b t
 el:ElemsOf knd es.toList
theorem Wg {b:Bool} {h:Heap} {a:Addr} {o:Obj} {es es':Array (Int × Value)} {ep:Nat} {t t':SetTable} (og:h.get? a=some o) (hx:o.ExactSet) (dg:o.data = .set es ep t) (el:ElemsOf knd es'.toList) (fg:t'.fits es'.size=true) (g:vw b t') :
  (h.update a (Obj.putSet es' t')).get? a=some { o with data:=.set es' (ep+1) t' }∧At knd b (h.update a (Obj.putSet es' t')) a es':=by
 have e:(h.update a (Obj.putSet es' t')).get? a=some { o with data:=.set es' (ep+1) t' }:=by
  rw[← putSet_of es' t' dg]
  exact eV _ og (by rw[putSet_of es' t' dg];rfl)
 exact⟨e,⟨_,_,_,e,hx,rfl,fg,g⟩,el⟩
noncomputable def rK (knd:KeyKind prog w K) (k:K) (x:Value) (es es':Array (Int × Value)):Prop :=
 ((∃ e∈es.toList,knd.is k e.2=true)∧es'=es)∨((∀ e∈es.toList,knd.is k e.2=false)∧es'.toList.Perm (es.toList++[(knd.hash k,x)]))
theorem lF {b:Bool} {a:Addr} {es:Array (Int × Value)} {k:K} {x:Value} {Q:Bool→Shared→Prop} (hk:knd.is k x=true) (hx:x.scannable=true) (hA:At knd b s.heap a es) (hb:es.size+1<scanBound) (h:∀ h' es' r,Heap.SameBut a s.heap h'→At knd b h' a es'→rK knd k x es es'→Q r { s with heap:=h' }):wpAny (model prog w) A (setAddHashed a x (knd.hash k)) Q E s:=by
 obtain⟨⟨o,ep,t,og,hex,dg,fg,g⟩,el⟩:=hA
 unfold setAddHashed
 unfold setAddHashedIn
 refine wpAny_holding (wpAny_bind (wpAny_setState_of og dg fg ?_))
 dsimp only
 rw[byScan_of hx (Nat.lt_of_succ_lt hb) el]
 simp only[↓reduceIte]
 unfold setAddByScan
 refine wpAny_bind (wpAny_bind (wpAny_rule (wpAny_bind (wpAny_setScan_of hk og dg fg el ?_))))
 cases met:List.findIdx? (fun u=>knd.is k u.2) es.toList with
 | some j =>
  dsimp only
  obtain⟨j1,j2,_⟩:=List.findIdx?_eq_some_iff_getElem.mp met
  refine wpAny_pure (wpAny_pure ?_)
  have z:=h s.heap es false (Heap.SameBut.refl a s.heap) ⟨⟨o,ep,t,og,hex,dg,fg,g⟩,el⟩ (.inl ⟨⟨_,DM j1,j2⟩,rfl⟩)
  exact z
 | none =>
  dsimp only
  have none_is:∀ e∈es.toList,knd.is k e.2=false:=fun e he=>by
   have z:=List.findIdx?_eq_none_iff.mp met e he
   simpa using z
  have gw:∀ (c:Bool) {s₁:Shared} {R:Unit→Shared→Prop},R () s₁→wpAny (model prog w) A (match c with | true=>rule "set.scan.the-table-gave-way" | false=>pure ()) R E s₁:=fun c s₁ R q=>by
   cases c
   ·exact wpAny_pure q
   ·exact wpAny_rule q
  have pm:=layNew_perm t es (knd.hash k) x
  have ft:=layNew_fits t es (knd.hash k) x
  have gl:=lM g es (knd.hash k) x
  obtain⟨L,hL⟩:∃ L,layNew t es (knd.hash k) x=L:=⟨_,rfl⟩
  rw[hL] at pm ft gl ⊢
  obtain⟨es1,t1,wd,gv⟩:=L
  dsimp only at pm ft gl ⊢
  rw[EI] at pm
  have el1:ElemsOf knd es1.toList:=(el.push hk hx).perm pm
  have sz1:es1.size=es.size+1:=by rw[← De,pm.length_eq,dh,De];rfl
  have tail:∀ tb:SetTable,tb.fits es1.size=true→vw b tb→∀ R:Option Bool→Shared→Prop,(∀ h' es',Heap.SameBut a s.heap h'→At knd b h' a es'→es'.toList.Perm es1.toList→R (some true) { s with heap:=h' }) →
    wpAny (model prog w) A (do
     storeSet a es1 tb
     if (!wd&&tb.tooFull)=true then do
       (match (relayAll tb es1 (SetTable.grown es1.size)).2.2 with | true=>rule "set.scan.the-table-gave-way" | false=>pure ())
       storeSet a (relayAll tb es1 (SetTable.grown es1.size)).1 (relayAll tb es1 (SetTable.grown es1.size)).2.1
       pure (some true)
      else pure (some true)) R E s:=fun tb f2 g2 R q=>by
   have fit1:es1.size≤sizeLine:=fits_of_scanBound (by rw[sz1];exact hb)
   refine wpAny_bind (wpAny_storeSet_of og dg ?_ fit1)
   obtain⟨o1,A1⟩:=Wg (knd:=knd) og hex dg el1 f2 g2
   have sb1:=Heap.SameBut.update s.heap a (Obj.putSet es1 tb)
   split
   ·have rp:=relayAll_perm tb es1 (SetTable.grown es1.size)
    have rf:=relayAll_fits tb es1 (SetTable.grown es1.size)
    have rg:=xW g2 es1 (SetTable.grown es1.size)
    have rs:(relayAll tb es1 (SetTable.grown es1.size)).1.size=es1.size:=by rw[← De,rp.length_eq,De]
    refine wpAny_bind (gw _ ?_)
    refine wpAny_bind (wpAny_storeSet_of o1 rfl ?_ (by rw[rs];exact fit1))
    obtain⟨_,A2⟩:=Wg (knd:=knd) o1 hex rfl (el1.perm rp) rf rg
    exact wpAny_pure (q _ _ (sb1.trans (Heap.SameBut.update _ a _)) A2 rp)
   ·exact wpAny_pure (q _ _ sb1 A1 (List.Perm.refl _))
  have fin:∀ h' es',Heap.SameBut a s.heap h'→At knd b h' a es'→es'.toList.Perm es1.toList→Q true { s with heap:=h' }:=fun h' es' sb A2 p=>h h' es' true sb A2 (.inr ⟨none_is,p.trans pm⟩)
  refine wpAny_bind (gw _ ?_)
  split
  ·refine wpAny_bind ?_
   rw[hashByValue_scannable 8 hx]
   refine wpAny_pure ?_
   refine tail _ ?_ ?_ _ fun h' es' sb A2 p=>?_
   ·split
    ·exact ft
    ·exact SetTable.fits_plain_off ft
   ·split
    ·exact gl
    ·exact Xe gl _
   ·dsimp only
    exact wpAny_pure (fin h' es' sb A2 p)
  ·refine wpAny_bind (wpAny_pure ?_)
   simp only[↓reduceIte]
   refine tail _ ft gl _ fun h' es' sb A2 p=>?_
   dsimp only
   exact wpAny_pure (fin h' es' sb A2 p)
end
noncomputable def wX (w:World):Bool:=w.params.followText "set-order"
section
variable {prog:Program} {w:World} {A:Around} {E:Value→Shared→Prop} {s:Shared}
abbrev jX (w:World):Obj:={ cls:=.type "set",dict:=none,data:=.set #[] 0 (.fresh 0 0 (!wX w)) }
theorem mG (v:Value) {Q:Value→Shared→Prop} (h:Q (.ref s.heap.objs.size) { s with heap:=s.heap.push (jX w) }) :
  codeAny (model prog w) A (.call (.builtin "set.__new__") ⟨[.type "set",v],[]⟩) (wants Q E) s:=by
 refine codeAny_of_tree ?_
 show wpAny _ A.in1 (checkBuiltinCall "set.__new__" ⟨[.type "set",v],[]⟩ >>= fun _=>again (.builtin "set.__new__" ⟨[.type "set",v],[]⟩)) _ _ s
 refine wpAny_bind (wpAny_of_eq (F.newCall_set_1 v) (wpAny_pure ⟨plainId_quiet F.plain_set_new _,codeAny_builtin F.entry_set_new ?_⟩))
 rw[Around.under_plainId F.plain_set_new _]
 unfold Builtin.«set.__new__»
 unfold Builtin.Frozenset.newClass
 have sub:=sub_set_self
 obtain⟨hp,g,d,tk,os⟩:=s
 dsimp only
 wp_walk
 refine wpAny_askSetting (wpAny_pure ?_)
 dsimp only
 simp only[newObj]
 refine wpAny_bind (wpAny_alloc (wpAny_pure ?_))
 exact wpAny_pure h
end
open PyProof.Rows
section
variable {prog:Program} {w:World} {K:Type} [DecidableEq K] [BEq K] [LawfulBEq K] {knd:KeyKind prog w K} {A:Around} {E:Value→Shared→Prop} {s:Shared}
structure xo (kf:Value→K) (es:Array (Int × Value)) (l:List K):Prop where
 nd:(es.toList.map fun e=>kf e.2).Nodup
 mem:∀ k,k∈es.toList.map (fun e=>kf e.2)↔k∈l
 len:es.size≤l.length
theorem Ow (kf:Value→K):xo kf #[] []:=⟨DS,fun k=>Iff.rfl,CZ _⟩
theorem lX {kf:Value→K} (hkf:∀ k v,knd.is k v=true→kf v=k) {es es':Array (Int × Value)} {l:List K} {k:K} {x:Value} (el:ElemsOf knd es.toList) (hk:knd.is k x=true) (c:xo kf es l) (a:rK knd k x es es'):xo kf es' (l++[k]):=by
 rcases a with ⟨⟨e,he,h1⟩,rfl⟩ | ⟨no,pm⟩
 ·refine⟨c.nd,fun q=>?_,by rw[dh];exact Nat.le_add_right_of_le c.len⟩
  rw[c.mem,dA,dI]
  refine⟨.inl,fun z=>z.elim id fun z=>?_⟩
  rw[z,← c.mem]
  exact dk.mpr ⟨e,he,hkf _ _ h1⟩
 ·have pk:(es'.toList.map fun e=>kf e.2).Perm ((es.toList.map fun e=>kf e.2)++[k]):=by
   have:=pm.map fun e=>kf e.2
   rw[dz] at this
   simpa [hkf k x hk] using this
  have nk:¬ k∈es.toList.map fun e=>kf e.2:=fun m=>by
   obtain⟨e,he,e1⟩:=dk.mp m
   obtain⟨⟨k',h1,_⟩,_⟩:=el e he
   have e2:=hkf _ _ h1
   have:=no e he
   rw[← e1,e2,h1] at this
   cases this
  refine⟨pk.nodup_iff.mpr ?_,fun q=>?_,?_⟩
  ·rw[eE]
   refine⟨c.nd,by simp,fun a ha b hb z=>?_⟩
   rw[dI.mp hb] at z
   exact nk (z ▸ ha)
  ·rw[pk.mem_iff,dA,dA,c.mem]
  ·rw[← De,pm.length_eq,dh,dh,De]
   exact Nat.add_le_add_right c.len _
theorem gK {b:Bool} {h h':Heap} {a:Addr} {es:Array (Int × Value)} (x:At knd b h a es) (k:∀ o,h.get? a=some o→h'.get? a=some o):At knd b h' a es:=by
 obtain⟨⟨o,ep,t,e,r⟩,el⟩:=x
 exact⟨⟨o,ep,t,k o e,r⟩,el⟩
theorem Ot {b:Bool} {I:Addr} {fp wr:List Addr} {n:Nat} {P:Nat→Value→Prop} {St:Nat→Heap→Prop} (W:Walks prog w A.in1 I fp wr n P St) (S:Addr) (hS:S∉fp) {kf:Value→K} (hkf:∀ k v,knd.is k v=true→kf v=k) (key:Nat→K) (hv:∀ i v,P i v→knd.is (key i) v=true∧v.scannable=true) (hb:n+1<scanBound) {R:Result→Shared→Prop} :
  ∀ (m i:Nat) (s:Shared) (es:Array (Int × Value)),n - i=m→i≤n→St i s.heap→At knd b s.heap S es→xo kf es ((List.range i).map key) →
   (∀ h' tk es',(∀ c o,c∉wr→c≠S→s.heap.get? c=some o→h'.get? c=some o)→At knd b h' S es'→xo kf es' ((List.range n).map key)→R (.ok (.ret .none)) { s with heap:=h',toks:=tk }) →
   codeAny (model prog w) A (.builtin "set.update.loop" ⟨[.ref S,.ref I],[]⟩) R s:=by
 have hSw:S∉wr:=fun z=>hS (W.sub _ z)
 intro m
 induction m with
 | zero =>
  intro i s es hm hi st hA hK hR
  obtain rfl:i=n:=by omega
  refine codeAny_builtin F.entry_set_update_loop ?_
  rw[Around.under_plainId F.plain_set_update_loop _]
  refine wpAny_bind (W.done s _ _ st fun h' tk keep=>?_)
  exact wpAny_pure (hR h' tk es (fun c o c1 _ e=>keep c o c1 e) (gK hA fun o e=>keep _ o hSw e) hK)
 | succ m ih =>
  intro i s es hm hi st hA hK hR
  have lt:i<n:=by omega
  refine codeAny_builtin F.entry_set_update_loop ?_
  rw[Around.under_plainId F.plain_set_update_loop _]
  refine wpAny_bind (W.item i s _ _ lt st fun v h' tk hP st' keep=>?_)
  obtain⟨v1,v2⟩:=hv i v hP
  have hA':At knd b h' S es:=gK hA fun o e=>keep _ o hSw e
  refine wpAny_bind (wpAny_holding ?_)
  unfold setAdd
  refine wpAny_holding (wpAny_bind (knd.pyHash v1 ?_))
  have room:es.size+1<scanBound:=by
   have:=hK.len
   rw[CY,d4] at this
   omega
  refine lF (knd:=knd) (s:={ s with heap:=h',toks:=tk+1 }) v1 v2 hA' room fun h2 es2 r sb A2 ad=>?_
  have K2:xo kf es2 ((List.range (i+1)).map key):=by
   rw[List.range_succ,dz]
   exact lX hkf hA.el v1 hK ad
  refine wpAny_pure ⟨plainId_quiet F.plain_set_update_loop _,ih (i+1) _ es2 (by omega) lt (W.frame _ _ _ st' fun c hc o e=>?_) A2 K2 fun h3 tk3 es3 keep3 A3 K3=>?_⟩
  ·exact (sb.2 c fun z=>hS (z ▸ hc)).trans e
  ·exact hR h3 tk3 es3 (fun c o c1 c2 e=>keep3 c o c1 c2 ((sb.2 c c2).trans (keep c o c1 e))) A3 K3
end
section
variable {prog:Program} {w:World} {K:Type} [DecidableEq K] [BEq K] [LawfulBEq K] {knd:KeyKind prog w K} {A:Around} {E:Value→Shared→Prop} {s:Shared}
structure TM (knd:KeyKind prog w K) (kf:Value→K) (l:List K) (h₀ h:Heap):Prop where
 ex:∃ es,At knd (!wX w) h h₀.objs.size es∧xo kf es l
 keep:∀ c o,c<h₀.objs.size→h₀.get? c=some o→h.get? c=some o
theorem p8 {h:Heap} {a:Addr} (e:h.get? a=some (jX w)):At knd (!wX w) h a #[] :=
 ⟨⟨_,_,_,e,⟨rfl,rfl,rfl⟩,rfl,rfl,X5 _⟩,fun _ m=>by cases m⟩
theorem Ol {l:Addr} {items:Array Value} (hh:A.handled=none) (hl:s.heap.IsList l items) {kf:Value→K} (hkf:∀ k v,knd.is k v=true→kf v=k) {ks:List K}
  (hv:∀ (i:Nat) (v:Value),items[i]? = some v→∃ k,ks[i]? = some k∧knd.is k v=true∧v.scannable=true) (hn:ks.length=items.size) (hb:items.size+1<scanBound) [Inhabited K] :
  codeAny (model prog w) A (.call (.builtin "set.__init__") ⟨[.ref s.heap.objs.size,.ref l],[]⟩)
   (wants (fun r s'=>r = .none∧∃ h tk,s' = { s with heap:=h,toks:=tk }∧TM knd kf ks s.heap h) E) { s with heap:=s.heap.push (jX w) }:=by
 have e0:(s.heap.push (jX w)).get? s.heap.objs.size=some (jX w):=dR _ rfl
 refine codeAny_call_builtin F.called_set.init.plain F.entry_set_init (check_set_init_1 ⟨_,e0,rfl⟩ ?_)
 have lt:l<s.heap.objs.size:=by
  obtain⟨o,e,_⟩:=hl
  exact dw e
 have hl1:(s.heap.push (jX w)).IsList l items:=hl.push _
 have sz:(s.heap.push (jX w)).objs.size=s.heap.objs.size+1:=DZ _ _
 obtain⟨⟨cl,di,da,sl⟩,og,oc,nl,od⟩:=id hl1
 dsimp only at oc od
 cases oc
 cases od
 have q1:=F.sub_list_set
 have q2:=F.sub_list_frozenset
 have q3:(Value.type "list" == Value.type "dict")=false:=rfl
 unfold Builtin.«set.__init__»
 unfold noKeywords
 unfold Builtin.Frozenset.updateFrom
 generalize z:pyIter=it
 wp_walk
 subst z
 refine wpAny_pyIter_list hl1 (wpAny_bind (wpAny_runValue ?_))
 have nI:l≠(s.heap.push (jX w)).objs.size:=by rw[sz];exact dO (eW lt)
 refine Ot (knd:=knd) (b:=!wX w) (Walks.list (by simp[hh]) _ l nI items) s.heap.objs.size ?_ hkf (fun i=>ks.getD i default) (fun i v e=>?_) hb _ 0 _ #[] rfl (d6 _)
  ⟨⟨_,dR _ rfl,rfl,rfl⟩,hl1.push _⟩ (p8 (dH _ e0)) (Ow _) fun h tk es keep A1 K1=>?_
 ·rw[sz]
  intro m
  rcases dc.mp m with m | m
  ·exact dO (ee _) m
  ·exact Ep lt (dI.mp m)
 ·obtain⟨k,k1,k2⟩:=hv i v e
  have:ks.getD i default=k:=by rw[Df,k1];rfl
  exact this ▸ k2
 ·have ek:(List.range items.size).map (fun i=>ks.getD i default)=ks:=by
   apply DO
   intro i
   rw[dj]
   by_cases c:i<items.size
   ·rw[fb c,EA,Df,de (hn ▸ c)];rfl
   ·rw[Dn (by simpa using c),Dn (by omega)];rfl
  rw[ek] at K1
  refine wpAny_pure (wpAny_pure ⟨rfl,h,tk,rfl,⟨es,A1,K1⟩,fun c o c1 c2=>?_⟩)
  refine keep c o ?_ (dO c1) (dH _ (dH _ c2))
  rw[sz]
  intro m
  exact dO (eW c1) (dI.mp m)
end
section
variable {prog:Program} {w:World} {K:Type} [DecidableEq K] [BEq K] [LawfulBEq K] [Inhabited K] {knd:KeyKind prog w K} {A:Around} {E:Value→Shared→Prop} {s:Shared}
set_option maxHeartbeats 3200000 in
theorem Oh {l:Addr} {items:Array Value} (hh:A.handled=none) (hl:s.heap.IsList l items) {kf:Value→K} (hkf:∀ k v,knd.is k v=true→kf v=k) {ks:List K}
  (hv:∀ (i:Nat) (v:Value),items[i]? = some v→∃ k,ks[i]? = some k∧knd.is k v=true∧v.scannable=true) (hn:ks.length=items.size) (hb:items.size+1<scanBound) {Q:Value→Shared→Prop}
  (q:∀ h tk,TM knd kf ks s.heap h→Q (.ref s.heap.objs.size) { s with heap:=h,toks:=tk }):wpAny (model prog w) A (call (.type "set") [.ref l]) Q E s:=by
 obtain⟨_,_,m⟩:=F.called_set.mro
 have md:=F.called_set.made
 have sb:=F.called_set.sub
 have nt:=F.called_set.notType
 have cc:=F.called_set.canCreate
 have tc:=F.typeCall_set_1 (.ref l)
 refine wpAny_call (codeAny_of_tree (show wpAny _ _ (callAny (.type "set") _) _ _ _ from ?_))
 refine wpAny_pure ⟨Code.quiet_builtin _ (by decide +kernel),codeAny_builtin F.entry_type_call ?_⟩
 rw[Around.under_plain (weight_type_call_type "set" _ _) rfl]
 repeat' (first | assumption | wp_step)
 refine codeAny_mono (mG (.ref l) (E:=E) (Q:=fun v t=>v = .ref s.heap.objs.size∧t = { s with heap:=s.heap.push (jX w) }) ⟨rfl,rfl⟩) fun r t hr=>?_
 match r,hr with
 | .error e,hr=>exact hr
 | .ok (.ret v),hr =>
  obtain⟨e1,e2⟩:=hr
  subst e1 e2
  have e0:(s.heap.push (jX w)).get? s.heap.objs.size=some (jX w):=dR _ rfl
  have ty:Shared.TypeIs { s with heap:=s.heap.push (jX w) } (.ref s.heap.objs.size) "set":=⟨_,e0,rfl⟩
  have i1:=F.called_set.init.lookup
  have i2:=F.called_set.init.bind (.ref s.heap.objs.size)
  repeat' (first | assumption | wp_step)
  refine codeAny_mono (Ol (knd:=knd) (E:=E) (by simp[hh]) hl hkf hv hn hb) fun r2 t2 hr2=>?_
  match r2,hr2 with
  | .error e,hr2=>exact hr2
  | .ok (.ret v2),hr2 =>
   obtain⟨f1,h,tk,f2,L⟩:=hr2
   subst f1 f2
   repeat' (first | assumption | wp_step)
   exact q h tk L
end
end ST
namespace L2
open PySem PySem.Spec PyProof.Rows
noncomputable def T7:Value→Str
 | .str z _=>z
 | _=>default
section
variable {X:Cx} {pins:List (Addr × Obj)} {σ:St} {H:Hp} {s:Shared} {a:Expr} {ta:TA} {p1 p2 p3 pos:Pos}
noncomputable def Nz (K:BFr) (ta:TA):TE:=fun σ H Q=>ta σ H fun vs H1=>∃ (l:Addr) (zs:List Str),vs=[.ref l]∧zZ K H1 l (zs.map V.str)∧zs.length<64 ∧
 ∀ n:Nat,n≤zs.length→(n<zs.length↔¬ zs.Nodup)→Q (.int n) H1
theorem GX (hcalm:X.calm=true) (hg1:Gl X "len") (hm1:X.mg "len" = none) (hg2:Gl X "set") (hm2:X.mg "set" = none) (ha:PA X [a] ta) (hs:starEach [a] X.env=[(false,eval a X.env)]:=by rfl) (hs1:starEach [.Call (.Name "set" p2) [a] [] p3] X.env=[(false,eval (.Call (.Name "set" p2) [a] [] p3) X.env)]:=by rfl) :
  PE X (.Call (.Name "len" p1) [.Call (.Name "set" p2) [a] [] p3] [] pos) (Nz X.K ta):=by
 intro pins s σ H Q I h
 refine Call_ (uA I hg1 hm1 boot_len (PyProof.Rows.callWith_builtin1 ?_ hs1 rfl))
 rw[hs1]
 show wpAny _ _ (spliced ((false,eval (.Call (.Name "set" p2) [a] [] p3) X.env)::[])) _ _ s
 refine Calls.spliced_cons ?_
 refine Call_ (uA I hg2 hm2 boot_set (PyProof.Rows.callWith_type1 (yc (ha p3 pins s σ H _ I h) fun us s1 z=>?_) hs rfl))
 obtain⟨vs,H1,I1,r1,l,zs,e,hS,h64,q⟩:=z
 subst e
 cases r1 with
 | cons r rr =>
  cases rr
  cases r
  obtain⟨its,rv,pl,hz⟩:=I1.list hS
  have il:=rv.length
  rw[CY] at il
  have hh:=I1.ok.hd hcalm
  refine ST.Oh (knd:=strKind X.prog X.w) (kf:=T7) (ks:=zs) hh pl.isList (fun k v hv=>?_) (fun i v hi=>?_) ?_ ?_ fun h1 tk1 L=>Calls.spliced_nil ?_
  ·obtain⟨t,rfl⟩:=Value.isStrOf_shape hv
   rfl
  ·have hi':i<zs.length:=by
    rw[il]
    have:=(Dx.mp hi).1
    simpa using this
   obtain⟨u,hu,⟨t,rt⟩⟩:=rv.get (i:=i) (x:=.str zs[i]) (by rw[dj,de hi'];rfl)
   have:v = .str zs[i] t:=by
    have h1:its[i]? = some v:=by simpa using hi
    rw[hu,rt] at h1
    exact (Option.some.inj h1).symm
   subst this
   exact⟨_,de hi',strKind_is _ _ _ _,rfl⟩
  ·simpa using il
  ·rw[dD,← il]
   unfold scanBound
   omega
  ·have J1:zI X pins σ H1 { s1 with heap:=h1,toks:=tk1 }:=I1.kept fun b o e=>L.keep b o (dw e) e
   obtain⟨⟨es,⟨⟨o,ep,t,og,ex,od,ft,_⟩,_⟩,K1⟩,_⟩:=L
   have n1:es.size≤zs.length:=K1.len
   refine PySem.call_len_set (s:={ s1 with heap:=h1,toks:=tk1 }) og ex od ft (by omega) ⟨.int es.size,H1,J1.tok _,⟨_,rfl⟩,q _ n1 ?_⟩
   have:=XW K1.nd K1.mem
   rw[CY,De] at this
   exact this
end
open PySem.W
section
variable {X:Cx} {pins:List (Addr × Obj)} {σ:St} {H:Hp} {s:Shared} {a:Addr}
theorem zI.adoptO {o:HO} (I:zI X pins σ H s) (f:jU X pins H a) (new:yd X.prog X.w (upd H a o) s.heap a o):zI X pins σ (upd H a o) s:=by
 have ne:∀ b o,H b=some o→b≠a:=fun b o q=>zB q f.1
 refine⟨I.ok,I.os,I.bare,⟨I.base.keep,I.base.slot,fun b o q n hx=>?_,I.base.there,fun b ys q=>?_,fun b o u q=>?_,fun b ps q=>?_⟩,I.loc,I.cell,?_,fun x c q=>?_,fun p hp=>?_,fun b o q=>?_,I.len⟩
 ·have nb:b≠a:=fun z=>by
   subst z
   rcases f.2.2.2.1 with z | z
   ·exact hx z
   ·rw[z] at q;cases q
  rw[zm nb]
  exact I.base.free b o q n hx
 ·have z:=I.base.tups b ys q
  rw[zm (ne _ _ z)];exact z
 ·have z:=I.base.frzs b o u q
  rw[zm (ne _ _ z)];exact z
 ·obtain⟨m,z⟩:=I.base.tbls b ps q
  exact⟨m,by rw[zm (ne _ _ z)];exact z⟩
 ·rw[zm (Ne.symm f.2.1)];exact I.free
 ·rw[zm (f.2.2.2.2.1 x c q)];exact I.freeC x c q
 ·obtain⟨p1,p2,p3,p4,p5⟩:=I.pin p hp
  exact⟨p1,by rw[zm (f.2.2.2.2.2 p hp)];exact p2,p3,p4,p5⟩
 ·by_cases nb:b=a
  ·subst nb
   rw[zp] at q
   cases q
   exact new
  ·rw[zm nb] at q
   refine (I.hok b o q).stay (fun c u _ z=>z) (fun c z=>?_) fun c ys z=>?_
   ·rw[zm (ne _ _ z)];exact z
   ·rw[zm (ne _ _ z)];exact z
end
theorem Jz {α β:Type} {F:α→β→Prop} {l:List α} {m:List β} (h:Paired F l m) {j:Nat} {b:β} (e:m[j]? = some b):∃ a,l[j]? = some a∧F a b:=by
 induction h generalizing j with
 | nil=>cases e
 | cons r _ ih =>
  cases j with
  | zero =>
   cases e
   exact⟨_,rfl,r⟩
  | succ j=>exact ih e
theorem GD {P:Program} {w:World} {k:yp} {v:Value} (h:(ya P w).is k v=true):qt (kV k) v:=by
 rcases qV h with ⟨i,t,rfl,rfl⟩ | ⟨x,t,rfl,rfl⟩
 ·exact⟨t,rfl⟩
 ·exact⟨t,rfl⟩
section
variable {X:Cx}
end
end L2
namespace Pg
open PySem L2
noncomputable def xl (c:Nat):Bool:=decide (97≤c)&&decide (c≤122)
theorem wJ:("abcdefghijklmnopqrstuvwxyz":Str).cps.toList=List.range' 97 26:=by decide +kernel
theorem NJ {c:Nat}:c∈List.range' 97 26↔xl c=true:=by
 rw[List.mem_range'_1]
 unfold xl
 rw[dY,decide_eq_true_iff,decide_eq_true_iff]
 omega
theorem o3 (c:Nat):(!(Builtin.Str.occurrences ("abcdefghijklmnopqrstuvwxyz":Str) ⟨#[c]⟩ 0 ("abcdefghijklmnopqrstuvwxyz":Str).length 1).isEmpty)=xl c:=by
 rw[gM,wJ,Dz,Dp,NJ]
structure gm (z:Str):Prop where
 lo:1≤z.length
 hi:z.length≤8
 all:z.cps.toList.all xl=true
noncomputable def Gr:Sp:=fun vs H Q _=>∃ z,vs=[.str z,.str "abcdefghijklmnopqrstuvwxyz"]∧gm z∧∀ H',zw H H'→Q (.bl true) H'
noncomputable def Gq:Sp:=fun vs H Q _=>∃ z,vs=[.str z]∧gm z∧∀ H',zw H H'→Q (.bl true) H'
noncomputable def cM (p:Int × Str × Int):List V:=[.int p.1,.str p.2.1,.int p.2.2]
theorem Oy (cs:List Nat) (acc:Array Nat):((cs.map fun c=>(⟨#[c]⟩:Str)).foldl (fun acc p=>acc++("":Str).cps++p.cps) acc).toList=acc.toList++cs:=by
 induction cs generalizing acc with
 | nil=>simp
 | cons c r ih =>
  rw[dN,Ds,ih]
  have:("":Str).cps = #[]:=by decide +kernel
  rw[this]
  simp
theorem X6 (cs:List Nat):(Txt.join ("":Str) (cs.map fun c=>(⟨#[c]⟩:Str))).cps.toList=cs:=by
 unfold Txt.join Builtin.Str.glued
 cases cs with
 | nil=>rfl
 | cons c r =>
  show (((r.map fun c=>(⟨#[c]⟩:Str)).foldl (fun acc p=>acc++("":Str).cps++p.cps) #[c])).toList=c::r
  rw[Oy]
  rfl
theorem UQ:("abcdefghijklmnopqrstuvwxyz":Str).length≤sizeLine:=Xf (m:=26) (by decide +kernel) rfl
end Pg
namespace DL
open PySem PySem.Spec PyProof.Rows
section
variable {prog:Program} {w:World} {A:Around} {E:Value→Shared→Prop} {s:Shared}
variable {K:Type} [DecidableEq K] {knd:KeyKind prog w K}
end
end DL
namespace L2
open PySem PySem.Spec PyProof.Rows
section
variable {X:Cx}
end
section
variable {X:Cx}
end
end L2
namespace Pg
open PySem L2
section
variable {C:Addr} {S S':List Addr} {H H' H1:Hp}
end
structure By where
 L:Addr
 dx:Addr
 t:Addr
 m:Addr
 o:Addr
 pd:Addr
 ml:Addr
 hl:Addr
 tl:Addr
 nl:Addr
 L2:Addr
 dx2:Addr
 t2:Addr
 m2:Addr
 nms:List Str
noncomputable def By.us (A:By):List Addr:=[A.hl,A.tl,A.ml,A.pd,A.o,A.m2,A.t2,A.L2,A.m,A.t,A.L,A.nl]
noncomputable def By.S (A:By):List Addr:=[A.L,A.t,A.m,A.o,A.pd,A.ml,A.hl,A.tl]
section
variable {C:Addr} {S:List Addr} {H H':Hp} {A:By} {TQ told':List (Str × Int)} {n n':Nat}
end
end Pg
namespace L2
open PySem PySem.Spec PyProof.Rows
section
variable {X:Cx} {pins:List (Addr × Obj)} {σ:St} {H:Hp} {s:Shared}
theorem zI.turnedS {t':Nat} {h':Heap} {fp:List Addr} (I:zI X pins σ H s) (k:∀ b o,¬ b∈fp→s.heap.get? b=some o→h'.get? b=some o) (hf:∀ b∈fp,jU X pins H b):zI X pins σ H { s with heap:=h',toks:=t' }:=by
 have nit:∀ b u,H b=some u→¬ b∈fp:=fun b u e z=>by rw[(hf b z).1] at e;cases e
 refine I.step (g':=s.gens) (d':=s.drawn) (ch:=fp) (fun b hb=>?_) (fun b o _ _ hc e _=>k b o hc e) (fun b o _ _ hc e _=>⟨o.slots,k b o hc e⟩) (fun _ _ _ _ n=>n)
  (fun b o hc e=>⟨o,k b o hc e⟩) (fun _ _ e=>e) (fun _ _ _ e=>e) (fun b ps e=>⟨#[],by rw[e];simp⟩) (fun m hm=>?_) (fun b u e=>?_) I.bare
 ·obtain⟨_,h2,_,h4,h5,h6⟩:=hf b hb
  exact⟨h4,h2,h5,h6⟩
 ·obtain⟨o,es,ep,ho,r⟩:=hm
  exact⟨o,es,ep,k _ o (fun z=>(hf _ z).2.1 rfl) ho,r⟩
 ·refine (I.hok b u e).stay (fun c v hc q=>k c v ?_ q) (fun _ q=>q) fun _ _ q=>q
  rcases hc with z | z
  ·rw[z];exact nit b u e
  ·exact nit c _ z
theorem zI.pair {h':Heap} {t':Nat} {v w:V} {x y:Value} (I:zI X pins σ H s) (J:zI X pins σ H { s with heap:=h',toks:=t' }) (hv:qt v x) (hw:qt w y) (hp:IsPair h' s.heap.objs.size x y) :
  zI X pins σ (upd H s.heap.objs.size (.tup [v,w])) { s with heap:=h',toks:=t' } :=
 J.adoptO (o:=.tup [v,w]) (I.fpOk (CZ _) (I.hok.fresh (CZ _))) ⟨qv rfl,[x,y],.cons hv (.cons hw .nil),_,hp,rfl,_,rfl⟩
end
noncomputable def cD (K:BFr) (a b:Addr):It :=
 ⟨fun i H=>∃ xs ys x y,zZ K H a xs∧zZ K H b ys∧xs[i]? = some x∧ys[i]? = some y,
  fun i H z H'=>∃ p x y,z = .ref p∧H p=none∧H'=upd H p (.tup [x,y])∧∀ xs ys,zZ K H a xs→zZ K H b ys→xs[i]? = some x∧ys[i]? = some y,
  fun i H=>∃ xs ys,zZ K H a xs∧zZ K H b ys∧(xs.length≤i∨ys.length≤i)⟩
theorem mT {P:Program} {w:World} {K:BFr} {es:List Expr} {n:Nat} {pos:Pos} {z TI TO i1 i2 a b:Addr} (D:ZipApart z TI TO i1 i2 a b) :
  Ue P w K (.Tuple es n pos) (cD K a b) [z,TI,TO,i1,i2] z (fun i h=>IsZip h z TI TO .none∧IsPair h TI (.ref i1) (.ref i2)∧(∃ u v,IsPair h TO u v)∧h.IsListIter i1 a i∧h.IsListIter i2 b i) where
 mem:=by simp
 obj:=fun i h st c hc=>by
  obtain⟨h1,h2,⟨u,v,h3⟩,h4,h5⟩:=st
  simp only[dc,dm,or_false] at hc
  rcases hc with rfl | rfl | rfl | rfl | rfl
  ·exact⟨_,h1,fun v q=>nomatch q⟩
  ·exact⟨_,h2,fun v q=>nomatch q⟩
  ·exact⟨_,h3,fun v q=>nomatch q⟩
  ·obtain⟨o,e,c,d⟩:=h4
   exact⟨o,e,fun v q=>by rw[d] at q;cases q⟩
  ·obtain⟨o,e,c,d⟩:=h5
   exact⟨o,e,fun v q=>by rw[d] at q;cases q⟩
 keep:=fun i h h' st k=>by
  obtain⟨h1,h2,⟨u,v,h3⟩,h4,h5⟩:=st
  exact⟨k z (by simp) _ h1,k TI (by simp) _ h2,⟨u,v,k TO (by simp) _ h3⟩,h4.at fun o e=>k i1 (by simp) o e,h5.at fun o e=>k i2 (by simp) o e⟩
 item:=by
  intro X hP hw hK hc i pins s σ H E I hf st hg
  subst hP hw hK
  obtain⟨h1,h2,⟨u,v,h3⟩,h4,h5⟩:=st
  obtain⟨xs,ys,x,y,q1,q2,hx,hy⟩:=hg
  obtain⟨its,rv,p,hz⟩:=I.list q1
  obtain⟨jts,rw',p',hz'⟩:=I.list q2
  obtain⟨x',hx',rx⟩:=rv.get hx
  obtain⟨y',hy',ry⟩:=rw'.get hy
  have lt:∀ c∈[z,TI,TO,i1,i2],c<s.heap.objs.size:=fun c hc=>by
   obtain⟨o4,e4,_⟩:=h4
   obtain⟨o5,e5,_⟩:=h5
   simp only[dc,dm,or_false] at hc
   rcases hc with rfl | rfl | rfl | rfl | rfl
   ·exact dw h1
   ·exact dw h2
   ·exact dw h3
   ·exact dw e4
   ·exact dw e5
  refine wpAny_pyNext_zip_item D h1 h2 h3 h4 h5 p.isList p'.isList (x:=x') (y:=y') (by simpa using hx') (by simpa using hy') fun h' k1 k2 k3 k4 k5 k6 k7=>?_
  refine⟨_,rfl,wpAny_letOwnedTupleGo_zip k1 fun h2' m1 sb=>?_⟩
  have sb:Heap.SameBut z h' h2':=sb
  have kk:∀ c o,¬ c∈[z,TI,TO,i1,i2]→s.heap.get? c=some o→h2'.get? c=some o:=fun c o hc e=>by
   simp only[dc,dm,or_false,not_or] at hc
   exact sb.extBut _ _ hc.1 (k7 c o hc.1 hc.2.2.1 hc.2.2.2.1 hc.2.2.2.2 e)
  have nz:s.heap.objs.size≠z:=Ep (lt z (by simp))
  have J:zI X pins σ H { s with heap:=h2',toks:=s.toks }:=I.turnedS kk hf
  refine⟨.ref s.heap.objs.size,_,I.pair J rx ry (sb.extBut _ _ nz k5),rfl,⟨_,x,y,rfl,I.hok.fresh (CZ _),rfl,fun xs' ys' r1 r2=>?_⟩,⟨m1,?_,⟨_,_,sb.extBut _ _ D.TOz k2⟩,k3.extBut sb.extBut D.i1z,k4.extBut sb.extBut D.i2z⟩,fun c hc=>?_⟩
  ·rw[I.list_inj r1 q1,I.list_inj r2 q2]
   exact⟨hx,hy⟩
  ·exact sb.extBut _ _ D.TIz (k7 _ _ D.TIz D.TITO D.TIi1 D.TIi2 h2)
  ·rw[zm (dO (lt c hc))]
   exact (hf c hc).1
 done:=by
  intro X hP hw hK hc i pins s σ H E I hf st hg
  subst hP hw hK
  obtain⟨h1,h2,⟨u,v,h3⟩,h4,h5⟩:=st
  obtain⟨xs,ys,q1,q2,hl⟩:=hg
  obtain⟨its,rv,p,hz⟩:=I.list q1
  obtain⟨jts,rw',p',hz'⟩:=I.list q2
  have l1:=rv.length
  have l2:=rw'.length
  refine wpAny_pyNext_zip_end (I.ok.hd hc) D h1 h2 h3 h4 h5 p.isList p'.isList ?_ fun h' k=>⟨rfl,I.turnedS (t':=s.toks) (fun c o hc e=>?_) hf⟩
  ·rcases hl with hl | hl
   ·exact .inl (by simp;omega)
   ·exact .inr (by simp;omega)
  ·simp only[dc,dm,or_false,not_or] at hc
   exact k c o hc.1 hc.2.2.1 hc.2.2.2.1 hc.2.2.2.2 e
 self:=fun _ _ _ _ _ st h=>wpAny_pyIter_zip st.1 h
noncomputable def Bs (K:BFr) (ta:TA):TI:=fun σ H R=>ta σ H fun vs H1=>∃ a b,vs=[.ref a,.ref b]∧(∃ xs,zZ K H1 a xs)∧(∃ ys,zZ K H1 b ys)∧R (cD K a b) H1
section
variable {X:Cx} {es:List Expr} {n:Nat} {tpos:Pos}
theorem Rf {a b:Expr} {ta:TA} {p pos:Pos} (hg:Gl X "zip") (hm:X.mg "zip" = none) (ha:PA X [a,b] ta) (hs:starEach [a,b] X.env=[(false,eval a X.env),(false,eval b X.env)]:=by rfl) (hs2:starEach [b] X.env=[(false,eval b X.env)]:=by rfl) :
  PI X (.Tuple es n tpos) (.Call (.Name "zip" p) [a,b] [] pos) (Bs X.K ta):=by
 intro pins s σ H R I h
 refine Call_ (uA I hg hm boot_zip (PyProof.Rows.callWith_type1 (yc (ha pos pins s σ H _ I h) fun us s1 ⟨vs,H1,I1,r1,q1⟩=>?_) (by rw[hs,hs2]) (by rw[hs2];rfl)))
 obtain⟨l1,l2,e,⟨xs,h1⟩,⟨ys,h2⟩,q⟩:=q1
 subst e
 cases r1 with
 | cons r rr =>
  cases rr with
  | cons r' rr =>
   cases rr
   cases r
   cases r'
   obtain⟨its,rv,p,hz⟩:=I1.list h1
   obtain⟨jts,rw',p',hz'⟩:=I1.list h2
   have a1:l1<s1.heap.objs.size:=by obtain⟨_,e,_⟩:=p.isList;exact dw e
   have a2:l2<s1.heap.objs.size:=by obtain⟨_,e,_⟩:=p'.isList;exact dw e
   refine call_zip_2 p.isList p'.isList fun h' k1 k2 k3 k4 k5 k6 k7=>?_
   refine wpAny_pyIter_zip k1 ?_
   refine⟨_,_,_,_,H1,rfl,I1.kept (t':=s1.toks) k7,mT (zipApart_new a1 a2),⟨k1,k2,⟨_,_,k3⟩,k4,k5⟩,fun c hc=>?_,q⟩
   have hc:s1.heap.objs.size≤c:=by
    simp only[dc,dm,or_false] at hc
    rcases hc with rfl | rfl | rfl | rfl | rfl
    ·exact eC _ _
    ·exact eC _ _
    ·exact eC _ _
    ·exact CZ _
    ·exact eC _ _
   exact I1.fpOk hc (I1.hok.fresh hc)
end
open PySem.W
end L2
namespace DT
open PySem PySem.Spec PyProof.Rows
section
variable {prog:Program} {w:World} {A:Around} {E:Value→Shared→Prop} {s:Shared}
variable {K:Type} [DecidableEq K] {knd:KeyKind prog w K}
end
end DT
namespace L2
open PySem PySem.Spec PyProof.Rows
section
variable {X:Cx}
end
section
variable {X:Cx} {a b:Expr} {rest:List Expr} {ta tb:TE} {pos:Pos}
end
open Builtin Builtin.Str
section
variable {prog:Program} {w:World} {A:Around} {E:Value→Shared→Prop} {s:Shared} {J l:Addr} {items:Array Value}
end
section
variable {X:Cx} {a:Expr} {ta:TA} {p1 p2 p3 apos cpos:Pos} {sep:Str} {kn:Nat}
end
end L2
namespace L2
open PySem PySem.Spec PyProof.Rows
section
variable {X:Cx}
theorem JR (hc:X.calm=true):jD X (.builtin "max") (fun xs H Q=>∃ (a:Addr) (ns:List Int) (m:Int),xs=[.ref a]∧zZ X.K H a (ns.map V.int)∧m∈ns∧(∀ x∈ns,x≤m)∧Q (.int m) H):=by
 intro pins s σ H xs us Q I r h
 obtain⟨a,ns,m,rfl,hS,hm,hx,q⟩:=h
 obtain⟨u,rfl,ru⟩:=vN r
 cases ru
 obtain⟨its,rv,pl,hz⟩:=I.list hS
 have hl:its.length=ns.length:=by rw[← rv.length,CY]
 have hn:0<ns.length:=fF hm
 have hlt':a<s.heap.objs.size:=by obtain⟨o,e,_⟩:=pl.isList;exact dw e
 have hlt:a≠s.heap.objs.size:=dO hlt'
 refine call_max_walk (wpAny_pyIter_list pl.isList ?_)
 refine⟨s.heap.objs.size,_,_,_,_,_,fun i j=>decide (ns.getD i 0 > ns.getD j 0),rfl,Walks.list (A:=X.A.in1) (I.ok.hd hc) _ a hlt its.toArray,⟨⟨_,dR _ rfl,rfl,rfl⟩,pl.isList.push _⟩,fun b hb=>?_,by rw[dD];omega,fun i j vi vj s' Q' E' h1 h2 h3=>?_,fun v h' tk hv hk=>?_⟩
 ·show b<(s.heap.push _).objs.size
  rw[DZ]
  rcases dc.mp hb with rfl | hb
  ·exact ee _
  ·rw[dI.mp hb]
   exact eW hlt'
 ·obtain⟨t1,rfl⟩:=Qn rv h1
  obtain⟨t2,rfl⟩:=Qn rv h2
  exact gt_int h3
 ·obtain⟨t,rfl⟩:=Qn rv hv
  obtain⟨b1,b2⟩:=argBest_gt (fun i=>ns.getD i 0) (its.toArray.size - 1)
  rw[dD] at b1 b2
  have hi:argBest (fun i j=>decide (ns.getD i 0 > ns.getD j 0)) (its.length - 1)<ns.length:=by omega
  have e:ns.getD (argBest (fun i j=>decide (ns.getD i 0 > ns.getD j 0)) (its.length - 1)) 0=m:=by
   refine Int.le_antisymm (hx _ ?_) ?_
   ·rw[Df,de hi]
    exact DM hi
   ·obtain⟨j,hj,rfl⟩:=List.getElem_of_mem hm
    have:=b2 j (by omega)
    rw[Df,de hj] at this
    exact this
  refine⟨.int m,H,I.walked hk,⟨t,?_⟩,q⟩
  rw[← e,dD]
end
theorem Pc {σ:St} {H:Hp} {A B:Hp→Prop} (h:A H):qK σ H fun b H2=>if b=true then A H2 else B H2:=by
 show if true=true then A H else B H
 exact jS h
structure qN {α:Type} (H:Hp) (ys:List V) (xs:List α) (P:Hp→V→α→Prop):Prop where
 len:ys.length=xs.length
 at_:∀ (i:Nat) (y:V),ys[i]? = some y→∃ x,xs[i]? = some x∧∀ H',zw H H'→P H' y x
section
variable {J:It} {D:Addr} {te:TE} {fin:List V→Hp→Prop} {σ:St} {H:Hp} {ys:List V} {α:Type} {xs:List α} {P:Hp→V→α→Prop}
theorem y9 (W:Zw J H ys) (T:qN H ys xs P) (hD:H D=none) (hz:xs.length<sizeLine) (φ:α→V) (he:∀ x∈xs,∀ v H' R,zw H H'→P H' v x→(∀ H'',zw H' H''→R (φ x) H'')→te (σ.set 0 (some v)) H' R) (hf:∀ H',zw H H'→H' D=some (.lst (xs.map φ))→fin (xs.map φ) H'):jj J D (z4 0) qK te fin σ (upd H D (.lst [])):=by
 refine jJ W hD (fun i zs H'=>zs=(xs.take i).map φ) (fun σ'=>∀ x,σ'.set 0 (some x) = σ.set 0 (some x)) (fun _=>rfl) rfl ?_ ?_
 ·rintro i y zs σ' H' hy hσ s hd hl rfl
  obtain⟨x,hx,hP⟩:=T.at_ i y hy
  have tk:xs.take (i+1)=xs.take i++[x]:=by rw[Dg,hx];rfl
  have hi:i<xs.length:=(dF.mp hx).1
  have hσ2:∀ z,(σ'.set 0 (some y)).set 0 (some z) = σ.set 0 (some z):=fun z=>by rw[eB];exact hσ z
  unfold Jt z4
  dsimp only
  refine Pc ?_
  rw[hσ y] at hσ2 ⊢
  refine he x (dZ hx) y _ _ s (hP _ s) fun H3 s3=>⟨s3 _ _ hd,by omega,hσ2,fun b o z=>?_,zp,?_,?_⟩
  ·rw[zm (zB z hD)]
   exact s3 _ _ (s _ _ z)
  ·rw[dh,Da];omega
  ·rw[tk,dz];rfl
 ·rintro zs H' s hd hl rfl
  rw[T.len,Dj] at hd ⊢
  exact hf H' s hd
theorem Wa {tt:TT} (W:Zw J H ys) (T:qN H ys xs P) (hD:H D=none) (hz:xs.length<sizeLine) (p:α→Bool) (φ:α→V) (ht:∀ x∈xs,∀ v H' R,zw H H'→P H' v x→(∀ H'',zw H' H''→R (p x) H'')→tt (σ.set 0 (some v)) H' R) (he:∀ x∈xs,∀ v H' R,zw H H'→P H' v x→(∀ H'',zw H' H''→R (φ x) H'')→te (σ.set 0 (some v)) H' R) (hf:∀ H',zw H H'→H' D=some (.lst ((xs.filter p).map φ))→fin ((xs.filter p).map φ) H'):jj J D (z4 0) tt te fin σ (upd H D (.lst [])):=by
 refine jJ W hD (fun i zs H'=>zs=((xs.take i).filter p).map φ) (fun σ'=>∀ x,σ'.set 0 (some x) = σ.set 0 (some x)) (fun _=>rfl) rfl ?_ ?_
 ·rintro i y zs σ' H' hy hσ s hd hl rfl
  obtain⟨x,hx,hP⟩:=T.at_ i y hy
  have tk:xs.take (i+1)=xs.take i++[x]:=by rw[Dg,hx];rfl
  have hi:i<xs.length:=(dF.mp hx).1
  have hm:=dZ hx
  have hσ2:∀ z,(σ'.set 0 (some y)).set 0 (some z) = σ.set 0 (some z):=fun z=>by rw[eB];exact hσ z
  unfold Jt z4
  dsimp only
  rw[hσ y] at hσ2 ⊢
  refine ht x hm y _ _ s (hP _ s) fun H2 s2=>?_
  cases q:p x with
  | true =>
   refine jS (he x hm y _ _ (s.trans s2) (hP _ (s.trans s2)) fun H3 s3=>⟨s3 _ _ (s2 _ _ hd),by omega,hσ2,fun b o z=>?_,zp,?_,?_⟩)
   ·rw[zm (zB z hD)]
    exact s3 _ _ (s2 _ _ (s _ _ z))
   ·rw[dh,Da];omega
   ·rw[tk,Eg,dz];simp[q]
  | false =>
   refine qY ⟨hσ2,s.trans s2,s2 _ _ hd,by omega,?_⟩
   rw[tk,Eg,dz];simp[q]
 ·rintro zs H' s hd hl rfl
  rw[T.len,Dj] at hd ⊢
  exact hf H' s hd
theorem uD (W:Zw J H ys) (hl:ys.length=xs.length) (hD:H D=none) (hz:xs.length<sizeLine) (S:V→α→Prop) (he:∀ (i:Nat) x v,xs[i]? = some x→ys[i]? = some v→∀ H' R,zw H H'→(∀ u H'',S u x→zw H' H''→R u H'')→te (σ.set 0 (some v)) H' R) (hf:∀ zs H',zw H H'→zs.length=xs.length→(∀ (i:Nat) u,zs[i]? = some u→∃ x,xs[i]? = some x∧S u x)→H' D=some (.lst zs)→fin zs H'):jj J D (z4 0) qK te fin σ (upd H D (.lst [])):=by
 refine jJ W hD (fun i zs H'=>zs.length=i∧∀ (j:Nat) u,zs[j]? = some u→∃ x,xs[j]? = some x∧S u x) (fun σ'=>∀ x,σ'.set 0 (some x) = σ.set 0 (some x)) (fun _=>rfl) ⟨rfl,fun j u e=>by cases e⟩ ?_ ?_
 ·rintro i y zs σ' H' hy hσ s hd hl' ⟨g1,g2⟩
  have hi:i<xs.length:=by rw[← hl];exact (dF.mp hy).1
  have hx:=de hi
  have hσ2:∀ z,(σ'.set 0 (some y)).set 0 (some z) = σ.set 0 (some z):=fun z=>by rw[eB];exact hσ z
  unfold Jt z4
  dsimp only
  refine Pc ?_
  rw[hσ y] at hσ2 ⊢
  refine he i _ y hx hy _ _ s fun u H3 hu s3=>⟨s3 _ _ hd,by omega,hσ2,fun b o z=>?_,zp,?_,?_,fun j w e=>?_⟩
  ·rw[zm (zB z hD)]
   exact s3 _ _ (s _ _ z)
  ·rw[dh,Da];omega
  ·rw[dh,Da,g1]
  ·by_cases hj:j<zs.length
   ·rw[d7 hj] at e
    exact g2 j w e
   ·rw[dS (DK hj)] at e
    cases q:j - zs.length with
    | zero =>
     rw[q] at e
     cases e
     have:j=i:=by omega
     subst this
     exact⟨_,hx,hu⟩
    | succ n =>
     rw[q] at e
     cases e
 ·rintro zs H' s hd _ ⟨g1,g2⟩
  exact hf zs H' s (g1.trans hl) g2 hd
theorem UO {K:BFr} {prs:List (Str × Int)} (W:Zw J H ys) (T:z5 H ys (prs.map cP)) (hD:H D=none) (hz:prs.length<sizeLine) (φ:Str × Int→V) (he:∀ q∈prs,∀ H' R,zw H H'→(∀ H'',zw H' H''→R (φ q) H'')→te ((σ.set 0 (some (.str q.1))).set 1 (some (.int q.2))) H' R) (hf:∀ H',zw H H'→H' D=some (.lst (prs.map φ))→fin (prs.map φ) H'):jj J D (Xp K 2 (vH (z4 0) (vH (z4 1) Xn))) qK te fin σ (upd H D (.lst [])):=by
 have tl:ys.length=prs.length:=by rw[T.len,CY]
 refine jJ W hD (fun i zs H'=>zs=(prs.take i).map φ) (fun σ'=>∀ x y,(σ'.set 0 x).set 1 y=(σ.set 0 x).set 1 y) (fun _ _=>rfl) rfl ?_ ?_
 ·rintro i y zs σ' H' hy hσ s hd hl rfl
  obtain⟨b,c,rfl,h1,h2⟩:=T.of_at hy
  rw[dj] at h1
  obtain⟨q,hq,rfl⟩:=dC.mp h1
  have tk:prs.take (i+1)=prs.take i++[q]:=by rw[Dg,hq];rfl
  have hi:i<prs.length:=(dF.mp hq).1
  refine⟨b,_,rfl,qh.of (s _ _ h2),rfl,_,_,rfl,_,_,rfl,rfl,Pc ?_⟩
  rw[hσ]
  have hσ2:∀ x y,((((σ.set 0 (some (.str q.1))).set 1 (some (.int q.2))).set 0 x).set 1 y)=(σ.set 0 x).set 1 y:=fun x y=>by
   rcases σ with _ | ⟨_,_ | ⟨_,_⟩⟩ <;> rfl
  refine he q (dZ hq) _ _ s fun H3 s3=>⟨s3 _ _ hd,by omega,hσ2,fun b o z=>?_,zp,?_,?_⟩
  ·rw[zm (zB z hD)]
   exact s3 _ _ (s _ _ z)
  ·rw[dh,Da];omega
  ·rw[tk,dz];rfl
 ·rintro zs H' s hd hl rfl
  rw[tl,Dj] at hd ⊢
  exact hf H' s hd
end
section
variable {X:Cx} {elt iter tgt:Expr} {ifs:List Expr} {scope:Scope} {cl:List (Str × Addr)} {Nc:List Str} {src:List (Option Nat)} {g:TG} {tt:TT} {te:TE} {x0:Str}
end
end L2
namespace Pg
open PySem L2
section
variable {H H':Hp} {ys:List V} {tab:List (List Str)}
end
section
variable {tab:List (List Str)} {n:Nat}
end
theorem xn (sep:Str) (m:Nat):∀ (zs:List Str) (acc:Nat),(∀ z∈zs,z.length≤m)→zs.foldl (fun a z=>a+z.length+sep.length) acc≤acc+zs.length*(m+sep.length):=by
 intro zs
 induction zs with
 | nil=>intro acc _;simp
 | cons z r ih =>
  intro acc h
  rw[Ds]
  have h1:=ih (acc+z.length+sep.length) fun z hz=>h z (dQ _ hz)
  have h2:=h z dq
  rw[dW,Nat.succ_mul]
  omega
theorem Wb {sep:Str} {m:Nat} (hs:sep.length≤2):∀ (k:Nat) (zs:List Str),zs.length=k→(∀ z∈zs,z.length≤m)→(Txt.join sep zs).length≤k*(m+2):=by
 intro k
 induction k with
 | zero =>
  intro zs e _
  rw[eu.mp e]
  exact d6 _
 | succ k ih =>
  intro zs e h
  rcases List.eq_nil_or_concat zs with rfl | ⟨r,z,rfl⟩
  ·cases e
  ·rw[List.concat_eq_append] at e h ⊢
   have er:r.length=k:=by rw[dh,Da] at e;omega
   have hz:=h z (Dl _ dq)
   have hr:=ih r er fun z hz=>h z (eM _ hz)
   rw[Nat.succ_mul]
   by_cases c:r=[]
   ·subst c
    rw[DC,WD]
    omega
   ·rw[vb _ _ c,kc,kc]
    omega
theorem yi {sep:Str} {zs:List Str} {m k:Nat} (h:∀ z∈zs,z.length≤m) (hk:zs.length≤k) (hs:sep.length≤2) (hz:Nat.ble (k*(m+2)) 1000000=true):JoinOk sep zs=true∧(Txt.join sep zs).length≤k*(m+2):=by
 have h1:=xn sep m zs 0 h
 have h2:zs.length*(m+sep.length)≤k*(m+2):=Nat.mul_le_mul hk (Es hs _)
 have h3:=dX hz
 constructor
 ·unfold JoinOk Builtin.Str.tooLong
  rw[List.foldl_toArray,EK,decide_eq_false_iff_not,sizeLine_eq]
  omega
 ·exact dG (Wb hs _ zs rfl h) (Nat.mul_le_mul_right _ hk)
noncomputable def Qv:Sp:=fun vs H Q _=>∃ i,vs=[.int i]∧Q .non H
theorem Js {H:Hp} (n:Nat):qN H ((List.range n).map fun k=>V.int (0+(k:Nat))) (List.range n) (fun _ v k=>v = .int (k:Nat)) :=
 ⟨CY _,fun i y h=>by
  rw[dj] at h
  obtain⟨z,h1,rfl⟩:=dC.mp h
  exact⟨z,h1,fun _ _=>by rw[DD]⟩⟩
end Pg
set_option maxHeartbeats 4000000
namespace K15
open PySem PySem.NumText L2 Pg
seal PE PA PT PW PS jT PG uv PI ui PO PK
section
variable {P:Program} {w:World} {K:BFr} {mg:Str→Option Value} {base:Heap} {f:Addr} {fd:FuncData} {d:Nat→Addr} {cR:Addr}
theorem PJ (F:qQ K "need_amount" "need_amount" (top 19) f fd) (C1:qP P w K mg base zO 1 "is_number" ["thing"] (vX K)):zH P w K mg base zO 2 f fd ["thing"] Qv:=by
 refine F.ok (N:=["thing"]) (by walk_at"s") (fun vs H Q E h=>?_) (fun cdv A outer s H vs Q E hr h=>?_)
 ·obtain⟨i,rfl,_⟩:=h
  rfl
 ·obtain⟨i,rfl,q⟩:=h
  refine⟨_,zi (zR (qM (qF (zj C1 hr (by decide) zt (za (pv 0) zd)))) qb zA),?_⟩
  exact⟨_,rfl,_,rfl,.inl ⟨i,rfl,true,rfl,qY q⟩⟩
theorem ny (F:qQ K "is_word_of" "is_word_of" (top 29) f fd) (G:jP mg) (N1:Z1 mg "MOST_SIGNS" 8):zH P w K mg base zO 1 f fd ["thing","signs"] Gr:=by
 obtain⟨tm,hm⟩:=N1
 have nc:(["sign","signs"]:List Str).Nodup:=by decide +kernel
 refine F.ok (N:=["thing","signs"]) (by walk_at"s") (fun vs H Q E h=>?_) (fun cdv A outer s H vs Q E hr h=>?_)
 ·obtain⟨z,rfl,_⟩:=h
  rfl
 ·obtain⟨z,rfl,hz,q⟩:=h
  have l1:=hz.lo
  have l8:=hz.hi
  have fit:z.length≤sizeLine:=Xf l8 rfl
  refine' ⟨_,(zg (zR (qM (qF (zx qp rfl G.isinstance zS (za (pv 0) (za (yF (v:=.ty "str") rfl G.str qL rfl) zd))))) (zi (zu jY)) zA)
    (zg (zR (PW.pt (wC (zE Yh (zx qU rfl G.len boot_len (za (pv 0) zd)) ze (zD _)) (uT (zE jZ (zx qU rfl G.len boot_len (za (pv 0) zd)) (qE (v:=.int 8) rfl hm ⟨_,rfl⟩) (zD _))))) (zi (zu jY)) zA)
    (zi (zu (zx (wm rfl) rfl G.all kM (za ?comp zd)))))),?main⟩
  case comp =>
   refine' z8 (Nc:=["sign","signs"]) (cl:=[("signs",s.heap.objs.size+1)]) (src:=[none,some 1]) (wi:=tK (zM 0)) (g:=z4 0) (tt:=qK) (te:=jC (fun x y H Q=>∃ i j,x = .str i∧y = .str j∧Q (.bl (!(Builtin.Str.occurrences j i 0 j.length 1).isEmpty)) H) (zM 0) (zM 1)) (by walk_at"c1") rfl (mm (pv 0)) ?hb
   case hb =>
    intro fp C' s' H'
    exact⟨zJ (i:=0) nc rfl (Or.inl rfl),qd,qJ JV (pv 0) (pv 1) (by rfl)⟩
  refine⟨_,rfl,_,_,_,_,true,rfl,rfl,.inl (.str z),rfl,true,rfl,qY ?_⟩
  refine⟨_,rfl,z,rfl,fit,_,_,rfl,rfl,_,rfl,yI (fun e=>absurd (of_decide_eq_true e) (by omega)) (fun _=>⟨_,rfl,z,rfl,fit,_,_,rfl,rfl,_,rfl,yI (fun e=>absurd (of_decide_eq_true e) (by omega)) (fun _=>?_)⟩)⟩
  refine⟨_,rfl,z,rfl,fun D hD=>?_⟩
  refine Qa (W7 (z:=z)) hD (by rw[CY,← zY,sizeLine_eq];omega) (fun _=>true) (fun x=>match x with | .str y=>.bl (xl (y.cps.getD 0 0)) | v=>v) (fun x _ H' R _ r=>r) (fun x hx _ H' R _ r=>?_) ?_
  ·obtain⟨c,_,rfl⟩:=dk.mp hx
   refine⟨_,rfl,_,rfl,_,_,rfl,rfl,?_⟩
   rw[o3]
   exact r
  ·rw[List.filter_eq_self.mpr fun _ _=>rfl,dB]
   refine⟨D,z.cps.toList.map xl,rfl,zZ.of (by rw[dB];exact zp),?_⟩
   have e2:(z.cps.toList.map xl).all id=true:=by
    rw[List.all_map]
    exact hz.all
   rw[e2]
   exact q _ (zw.upd hD)
theorem Ni (F:qQ K "is_name" "is_name" (top 30) f fd) (N1:Txt mg "LETTERS" "abcdefghijklmnopqrstuvwxyz") (C1:qP P w K mg base zO 1 "is_word_of" ["thing","signs"] Gr):zH P w K mg base zO 2 f fd ["thing"] Gq:=by
 obtain⟨tm,hm⟩:=N1
 refine F.ok (N:=["thing"]) (by walk_at"s") (fun vs H Q E h=>?_) (fun cdv A outer s H vs Q E hr h=>?_)
 ·obtain⟨z,rfl,_⟩:=h
  rfl
 ·obtain⟨z,rfl,hz,q⟩:=h
  exact⟨_,zi (zu (zj C1 hr (by decide) zt (za (pv 0) (za (qE (v:=.str "abcdefghijklmnopqrstuvwxyz") rfl hm ⟨_,rfl⟩) zd)))),_,rfl,z,rfl,hz,q⟩
theorem xC (F:qQ K "_law_cell_at" "_law_cell_at" (top 89) f fd) (G:jP mg):zH P w K mg base zO 1 f fd ["_law_script","_law_k"] (GB K):=by
 refine F.ok (N:=["_law_script","_law_k"]) (by walk_at"s") (fun vs H Q E h=>?_) (fun cdv A outer s H vs Q E hr h=>?_)
 ·obtain⟨a,k,ns,rfl,_⟩:=h
  rfl
 ·obtain⟨a,k,ns,rfl,hs,hk,q⟩:=h
  refine⟨_,(zg (zR (zE Yh (pv 1) (zx zQ rfl G.len PySem.boot_len (za (pv 0) zd)) (zD _)) (zi (zu (zz zG (pv 0) (pv 1)))) zA)
    (zi (zu ze))),?_⟩
  refine⟨_,rfl,_,rfl,a,_,rfl,.inl hs,_,_,rfl,rfl,_,rfl,yI (fun e=>?_) (fun e=>?_)⟩
  ·exact⟨_,rfl,_,rfl,a,_,_,_,rfl,rfl,hs,N9 hk (of_decide_eq_true e),q⟩
  ·rw[lN fun c=>e (decide_eq_true c)] at q
   exact q
theorem pD (F:qQ K "_law_whole" "_law_whole" (top 91) f fd) (G:jP mg):zH P w K mg base zO 1 f fd ["_law_found"] YI:=by
 refine F.ok (N:=["_law_found"]) (by walk_at"s") (fun vs H Q E h=>?_) (fun cdv A outer s H vs Q E hr h=>?_)
 ·obtain⟨v,rfl,_⟩:=h
  rfl
 ·obtain⟨z,rfl,q⟩:=h
  refine⟨_,zi (zu (yU (zx qp rfl G.isinstance zS (za (pv 0) (za (yF (v:=.ty "int") rfl G.int vc rfl) zd)))
   (ja (gu (zx qp rfl G.isinstance zS (za (pv 0) (za (yF (v:=.ty "bool") rfl G.bool Jy rfl) zd))))))),?_⟩
  refine⟨_,rfl,_,_,_,_,true,rfl,rfl,.inl (.int z),rfl,true,rfl,jS ?_⟩
  exact⟨_,rfl,_,_,_,_,false,rfl,rfl,.inl (.int z),rfl,false,rfl,q⟩
end
end K15
namespace Pg
open PySem L2
noncomputable def KT (H H':Hp):Prop:=∀ b c,(H b=some (.tup c)→H' b=some (.tup c))∧∀ o,H b=some (.frz o (.tup c))→H' b=some (.frz o (.tup c))
theorem Jv {H:Hp} (ts:List Int):qN H (ts.map V.int) ts (fun _ v o=>v = .int o) :=
 ⟨CY _,fun i y h=>by
  rw[dj] at h
  obtain⟨z,h1,rfl⟩:=dC.mp h
  exact⟨z,h1,fun _ _=>rfl⟩⟩
theorem Xs {i:Int} (h0:0≤i) (h1:i<26):atI ("abcdefghijklmnopqrstuvwxyz":Str).cps.toList i=some (97+i.toNat):=by
 obtain⟨n,rfl⟩:=Dy h0
 rw[wJ]
 refine q8 ?_
 rw[List.getElem?_range' (by omega)]
 rw[Dk]
 congr 1
 omega
noncomputable def wayL:List Str:=["down","up","near","even"]
noncomputable def BC (K:BFr) (mg:Str→Option Value) (x:Str) (zs:List Str):Prop:=∃ a,mg x=some (.ref a)∧∀ H,qh K H a (zs.map V.str)
noncomputable def wZ (z l:Int) (x:Str):Bool:=if x = "near" then decide (0<z) else decide (l%2=1)
noncomputable def uF (z l r:Int) (x:Str):Bool:=if x = "down" then false else if x = "up" then decide (0<r) else if r=5000 then wZ z l x else decide (5000<r)
noncomputable def uc (z:Int) (x:Str):Int:=if uF z (z/10000) (z%10000) x=true then z/10000+1 else z/10000
theorem UL (x:Str) (zs:List Str):BD (.str x) (zs.map V.str)=zs.contains x:=by
 unfold BD
 rw[List.any_map,List.contains_eq_any_beq]
 congr 1
 funext y
 show (y==x)=(x==y)
 exact Bool.beq_comm ..
noncomputable def u6:Sp:=fun vs H Q _=>∃ z,vs=[.int z]∧0≤z∧z≤20000∧Q (.bl true) H
noncomputable def Qj:Sp:=fun vs H Q _=>∃ x,vs=[.str x]∧wayL.contains x=true∧Q (.bl true) H
noncomputable def JZ:Sp:=fun vs H Q _=>∃ x,vs=[.str x]∧wayL.contains x=true∧Q .non H
noncomputable def gG:Sp:=fun vs H Q _=>∃ z l x,vs=[.int z,.int l,.str x]∧Q (.bl (wZ z l x)) H
noncomputable def Gx:Sp:=fun vs H Q _=>∃ z l r x,vs=[.int z,.int l,.int r,.str x]∧Q (.bl (uF z l r x)) H
noncomputable def Vq:Sp:=fun vs H Q _=>∃ z x,vs=[.int z,.str x]∧wayL.contains x=true∧Q (.int (uc z x)) H
noncomputable def vL:Sp:=fun vs H Q _=>∃ z n x,vs=[.int z,.int n,.str x]∧0≤n∧n≤20000∧wayL.contains x=true∧Q (.int (uc (z*n) x)) H
noncomputable def xr (z:Int) (x:Str):Int:=if x = "down" then z/10000 else if x = "up" then z/10000+(if 0<z%10000 then 1 else 0) else if x = "near" then z/10000+(if 5000≤z%10000 then 1 else 0) else z/10000+(if 5000<z%10000∨(z%10000=5000∧z/10000%2=1) then 1 else 0)
theorem N8 {z:Int} {x:Str} (h:0≤z):xr z x=uc z x:=by
 unfold xr uc uF wZ
 by_cases h1:x = "down"
 ·rw[if_pos h1,if_pos h1,if_neg dJ]
 rw[if_neg h1,if_neg h1]
 by_cases h2:x = "up"
 ·rw[if_pos h2,if_pos h2]
  by_cases c:0<z%10000
  ·rw[if_pos c,if_pos (decide_eq_true c)]
  ·rw[if_neg c,if_neg fun k=>c (of_decide_eq_true k),EC]
 rw[if_neg h2,if_neg h2]
 by_cases h3:x = "near"
 ·rw[if_pos h3,if_pos h3]
  by_cases c:z%10000=5000
  ·rw[if_pos c,if_pos (by omega),if_pos (decide_eq_true (by omega))]
  ·rw[if_neg c]
   by_cases e:5000<z%10000
   ·rw[if_pos (by omega),if_pos (decide_eq_true e)]
   ·rw[if_neg (by omega),if_neg fun k=>e (of_decide_eq_true k),EC]
 ·rw[if_neg h3,if_neg h3]
  by_cases c:z%10000=5000
  ·rw[if_pos c]
   by_cases e:z/10000%2=1
   ·rw[if_pos (.inr ⟨c,e⟩),if_pos (decide_eq_true e)]
   ·rw[if_neg (by omega),if_neg fun k=>e (of_decide_eq_true k),EC]
  ·rw[if_neg c]
   by_cases e:5000<z%10000
   ·rw[if_pos (.inl e),if_pos (decide_eq_true e)]
   ·rw[if_neg (by omega),if_neg fun k=>e (of_decide_eq_true k),EC]
inductive Rk where
 | flat (n:Str) (a:Int)
 | share (n:Str) (p:Int) (w:Str)
 | capped (n:Str) (p m:Int) (w:Str)
 | least (n:Str) (p l:Int) (w:Str)
 | bands (n:Str) (ps:List (Int × Int)) (w:Str)
 | ontop (n:Str) (p:Int) (w:Str) (r:Rk)
noncomputable def Rk.name:Rk→Str
 | .flat n _=>n
 | .share n _ _=>n
 | .capped n _ _ _=>n
 | .least n _ _ _=>n
 | .bands n _ _=>n
 | .ontop n _ _ _=>n
noncomputable def Rk.kd:Rk→Nat
 | .flat ..=>0
 | .share ..=>1
 | .capped ..=>2
 | .least ..=>3
 | .bands ..=>4
 | .ontop ..=>5
noncomputable def noNames:List Str:=["base","net","month","sums"]
structure yh (z:Str):Prop where
 ok:gm z
 no:noNames.contains z=false
noncomputable def YT (p:Int):Prop:=0≤p∧p≤20000
noncomputable def JM (a:Int):Prop:=0≤a∧a≤1000000000000
noncomputable def YR (w:Str):Prop:=wayL.contains w=true
inductive Vx:Rk→Prop where
 | flat {n:Str} {a:Int}:yh n→JM a→Vx (.flat n a)
 | share {n:Str} {p:Int} {w:Str}:yh n→YT p→YR w→Vx (.share n p w)
 | capped {n:Str} {p m:Int} {w:Str}:yh n→YT p→JM m→YR w→Vx (.capped n p m w)
 | least {n:Str} {p l:Int} {w:Str}:yh n→YT p→JM l→YR w→Vx (.least n p l w)
noncomputable def pos (bs:List Int):Int:=((bs.filter fun b=>decide (0<b)).length:Nat)
noncomputable def nH (r:Rk) (bs:List Int):Int:=match r with
 | .flat _ a=>a*pos bs
 | .share _ p w=>uc (bs.sum*p) w
 | .capped _ p m w=>uc ((if m<bs.sum then m else bs.sum)*p) w
 | .least _ p l w=>if l*pos bs > uc (bs.sum*p) w then l*pos bs else uc (bs.sum*p) w
 | _=>0
noncomputable def vp (r:Rk):List V:=match r with
 | .flat n a=>[.str "flat",.str n,.int a]
 | .share n p w=>[.str "share",.str n,.int p,.str w]
 | .capped n p m w=>[.str "capped",.str n,.int p,.int m,.str w]
 | .least n p l w=>[.str "least",.str n,.int p,.int l,.str w]
 | _=>[]
noncomputable def Jm:V→Str
 | .str z=>z
 | .int i=>toString i
 | _=>Str.empty
noncomputable def gC (r:Rk):Str:=Txt.join " " ((vp r).map Jm)
noncomputable def lJ (H:Hp) (v:V) (r:Rk):Prop:=∃ t,v = .ref t∧H t=some (.tup (vp r))
theorem lJ.same {H H':Hp} {v:V} {r:Rk} (s:zw H H') (h:lJ H v r):lJ H' v r:=by
 obtain⟨t,e,h⟩:=h
 exact⟨t,e,s _ _ h⟩
noncomputable def Tt (r:Rk):List (Str × V):=match r with
 | .flat n a=>[("name",.str n),("amount",.int a)]
 | .share n p w=>[("name",.str n),("parts",.int p),("way",.str w)]
 | .capped n p m w=>[("name",.str n),("parts",.int p),("most",.int m),("way",.str w)]
 | .least n p l w=>[("name",.str n),("parts",.int p),("least",.int l),("way",.str w)]
 | _=>[]
noncomputable def xE (Cs:Nat→Addr) (H:Hp) (v:V) (r:Rk):Prop:=∃ o dx,v = .ref o∧H o=some (.ins (Cs r.kd) dx (Tt r))
theorem xE.same {Cs:Nat→Addr} {H H':Hp} {v:V} {r:Rk} (s:zw H H') (h:xE Cs H v r):xE Cs H' v r:=by
 obtain⟨t,dx,e,h⟩:=h
 exact⟨t,dx,e,s _ _ h⟩
structure uu (K:BFr) (Cs:Nat→Addr):Prop where
 cls:∀ i,i<4→w5 K (Cs i)
 no:∀ i,i<4→∀ x∈(["name","amount","parts","way","most","least"]:List Str),zT K (Cs i) x
noncomputable def JW:Sp:=fun vs H Q _=>∃ z,vs=[.str z]∧yh z∧∀ H',zw H H'→Q (.bl true) H'
noncomputable def QA:Sp:=fun vs H Q _=>∃ z,vs=[.int z]∧JM z∧Q (.bl true) H
noncomputable def wj:Sp:=fun vs H Q _=>∃ z,vs=[.int z]∧JM z∧Q .non H
noncomputable def vF:Sp:=fun vs H Q _=>∃ p w,vs=[.int p,.str w]∧YT p∧YR w∧Q .non H
noncomputable def X4 (K:BFr):Sp:=fun vs H Q _=>∃ b bs,vs=[.ref b]∧zZ K H b (bs.map V.int)∧bs.length≤100∧∀ H',zw H H'→Q (.int (pos bs)) H'
noncomputable def uG (Cs:Nat→Addr):Sp:=fun vs H Q _=>∃ i o dx z,vs=[.ref o,.str z]∧i<4∧H o=some (.ins (Cs i) dx [])∧yh z∧∀ H',(∀ b x,H b=some x→b≠o→H' b=some x)→H' o=some (.ins (Cs i) dx [("name",.str z)])→Q .non H'
noncomputable def T9 (r:Rk):List V:=(vp r).drop 1
noncomputable def yA (k:Nat) (Cs:Nat→Addr):Sp:=fun vs H Q _=>∃ o dx r,vs = .ref o::T9 r∧r.kd=k∧Vx r∧H o=some (.ins (Cs k) dx [])∧∀ H',(∀ b x,H b=some x→b≠o→H' b=some x)→H' o=some (.ins (Cs k) dx (Tt r))→Q .non H'
noncomputable def vW (K:BFr) (k:Nat) (Cs:Nat→Addr):Sp:=fun vs H Q _=>∃ v r b bs,vs=[v,.ref b]∧r.kd=k∧xE Cs H v r∧Vx r∧zZ K H b (bs.map V.int)∧bs.length≤100∧∀ H',zw H H'→Q (.int (nH r bs)) H'
noncomputable def dl (bs:List Int):List Int:=(bs.drop (HT.kZ bs.length 0 none)).take (HT.kZ bs.length bs.length (some (-1)) - HT.kZ bs.length 0 none)
theorem La (bs:List Int):vm (bs.map V.int) none (some (-1))=(dl bs).map V.int:=by
 unfold vm dl
 rw[CY,List.map_take,List.map_drop]
theorem Pb (bs:List Int):(dl bs).length≤bs.length:=by
 unfold dl
 rw[dP,Dr]
 omega
theorem r8 {bs:List Int} {b:Int} (h:b∈dl bs):b∈bs:=List.mem_of_mem_drop (eF h)
noncomputable def j6 (k:Nat) (Cs:Nat→Addr):Sp:=fun vs H Q _=>∃ v r,vs=[v]∧r.kd=k∧xE Cs H v r∧Vx r∧∀ H',zw H H'→Q (.str (gC r)) H'
theorem WB {r:Rk} (h:Vx r):∀ z∈(vp r).map Jm,z.length≤20:=by
 have nl:∀ {z:Str},yh z→z.length≤20:=fun h=>dG h.ok.hi (by decide)
 have il:∀ {i:Int},0≤i→i≤1000000000000→(Jm (.int i)).length≤20:=fun h0 h1=>dG (Yj (k:=13) h0 (by decide) (by omega)) (by decide)
 have wl:∀ {w:Str},YR w→w.length≤20:=fun {w} h=>by
  have h:=Dp.mp h
  unfold wayL at h
  simp only[dc,dm,or_false] at h
  rcases h with rfl | rfl | rfl | rfl <;> decide +kernel
 intro z hz
 obtain⟨v,hv,rfl⟩:=dk.mp hz
 cases h with
 | flat hn ha =>
  simp only[vp,dc,dm,or_false] at hv
  rcases hv with rfl | rfl | rfl
  ·decide +kernel
  ·exact nl hn
  ·exact il ha.1 ha.2
 | share hn hp hw =>
  simp only[vp,dc,dm,or_false] at hv
  rcases hv with rfl | rfl | rfl | rfl
  ·decide +kernel
  ·exact nl hn
  ·exact il hp.1 (Int.le_trans hp.2 (by decide))
  ·exact wl hw
 | capped hn hp ha hw =>
  simp only[vp,dc,dm,or_false] at hv
  rcases hv with rfl | rfl | rfl | rfl | rfl
  ·decide +kernel
  ·exact nl hn
  ·exact il hp.1 (Int.le_trans hp.2 (by decide))
  ·exact il ha.1 ha.2
  ·exact wl hw
 | least hn hp ha hw =>
  simp only[vp,dc,dm,or_false] at hv
  rcases hv with rfl | rfl | rfl | rfl | rfl
  ·decide +kernel
  ·exact nl hn
  ·exact il hp.1 (Int.le_trans hp.2 (by decide))
  ·exact il ha.1 ha.2
  ·exact wl hw
theorem QR {r:Rk} (h:Vx r):JoinOk " " ((vp r).map Jm)=true:=(yi (m:=20) (k:=5) (WB h) (by cases h <;> exact dX rfl) (by decide +kernel) rfl).1
theorem wB {p:Int} (h:YT p):p.natAbs.log2<1920:=ZH h.1 (by have:=h.2;omega)
theorem ZK {p:Int} (h:JM p):p.natAbs.log2<1920:=ZH h.1 (by have:=h.2;omega)
theorem CD (n:Str):jE "name" (.str n) []=[((("name":Str)),V.str n)]:=rfl
theorem Tz (n x:Str) (v:V) (h:("name":Str)≠x):jE x v [(("name":Str),V.str n)]=[(("name":Str),V.str n),(x,v)]:=by
 unfold jE
 rw[if_neg h]
 rfl
theorem bF (n x y:Str) (u v:V) (h:("name":Str)≠x) (h2:y≠x):jE x v [(("name":Str),V.str n),(y,u)]=[(("name":Str),V.str n),(y,u),(x,v)]:=by
 unfold jE
 rw[if_neg h]
 unfold jE
 rw[if_neg h2]
 rfl
theorem cj (n x y z:Str) (u v w:V) (h:("name":Str)≠x) (h2:y≠x) (h3:z≠x):jE x v [(("name":Str),V.str n),(y,u),(z,w)]=[(("name":Str),V.str n),(y,u),(z,w),(x,v)]:=by
 unfold jE
 rw[if_neg h]
 unfold jE
 rw[if_neg h2]
 unfold jE
 rw[if_neg h3]
 rfl
end Pg
namespace K15
open PySem PySem.NumText L2 Pg
seal PE PA PT PW PS jT PG uv PI ui PO PK
section
variable {P:Program} {w:World} {K:BFr} {mg:Str→Option Value} {base:Heap} {f:Addr} {fd:FuncData} {d:Nat→Addr} {cR:Addr}
theorem Oe (F:qQ K "is_parts" "is_parts" (top 17) f fd) (N1:Z1 mg "MOST_PARTS" 20000) (C1:qP P w K mg base zO 2 "is_number_within" ["thing","least","most"] (vP K)):zH P w K mg base zO 3 f fd ["thing"] u6:=by
 obtain⟨t,em⟩:=N1
 refine F.ok (N:=["thing"]) (by walk_at"s") (fun vs H Q E h=>?_) (fun cdv A outer s H vs Q E hr h=>?_)
 ·obtain⟨z,rfl,_⟩:=h
  rfl
 ·obtain⟨z,rfl,h0,h1,q⟩:=h
  refine⟨_,zi (zu (zj C1 hr (by decide) zt (za (pv 0) (za ze (za (qE (v:=.int 20000) rfl em ⟨t,rfl⟩) zd))))),_,rfl,_,0,20000,rfl,.inl ⟨z,rfl,?_⟩⟩
  rw[decide_eq_true (⟨h0,h1⟩:(0:Int)≤z∧z≤20000)]
  exact q
theorem NN (F:qQ K "is_way" "is_way" (top 18) f fd) (G:jP mg) (W:BC K mg "WAYS" wayL):zH P w K mg base zO 1 f fd ["thing"] Qj:=by
 obtain⟨aw,ew,tw⟩:=W
 refine F.ok (N:=["thing"]) (by walk_at"s") (fun vs H Q E h=>?_) (fun cdv A outer s H vs Q E hr h=>?_)
 ·obtain⟨x,rfl,_⟩:=h
  rfl
 ·obtain⟨x,rfl,hx,q⟩:=h
  refine⟨_,zi (zu (yU (zx qp rfl G.isinstance zS (za (pv 0) (za (yF (v:=.ty "str") rfl G.str qL rfl) zd)))
   (ja (qJ ot (pv 0) (qE (v:=.ref aw) rfl ew rfl) (by rfl))))),?_⟩
  refine⟨_,rfl,_,_,_,_,true,rfl,rfl,.inl (.str x),rfl,true,rfl,jS ⟨_,rfl,aw,_,rfl,.inr (tw H),rfl,rfl,?_⟩⟩
  rw[if_neg dJ,UL,hx]
  exact q
theorem O8 (F:qQ K "need_way" "need_way" (top 20) f fd) (C1:qP P w K mg base zO 1 "is_way" ["thing"] Qj):zH P w K mg base zO 2 f fd ["thing"] JZ:=by
 refine F.ok (N:=["thing"]) (by walk_at"s") (fun vs H Q E h=>?_) (fun cdv A outer s H vs Q E hr h=>?_)
 ·obtain⟨x,rfl,_⟩:=h
  rfl
 ·obtain⟨x,rfl,hx,q⟩:=h
  exact⟨_,zi (zR (qM (qF (zj C1 hr (by decide) zt (za (pv 0) zd)))) qb zA),_,rfl,x,rfl,hx,true,rfl,qY q⟩
theorem nv (F:qQ K "half_goes_up" "half_goes_up" (top 21) f fd):zH P w K mg base zO 1 f fd ["number","lesser","way"] gG:=by
 refine F.ok (N:=["number","lesser","way"]) (by walk_at"s") (fun vs H Q E h=>?_) (fun cdv A outer s H vs Q E hr h=>?_)
 ·obtain⟨z,l,x,rfl,_⟩:=h
  rfl
 ·obtain⟨z,l,x,rfl,q⟩:=h
  refine⟨_,(zg (zR (zE qC (pv 2) zC (zD _)) (zi (zu (qJ jZ (pv 0) ze (zD _)))) zA)
    (zi (zu (qJ qC (zq qc (pv 1) ze) ze (zD _))))),?_⟩
  refine⟨_,rfl,rfl,_,rfl,yI (fun e=>?_) (fun e=>?_)⟩
  ·rw[ZW] at e
   refine⟨_,rfl,_,_,rfl,rfl,?_⟩
   unfold wZ at q
   rw[if_pos e] at q
   exact q
  ·rw[ZW] at e
   refine⟨_,rfl,_,_,rfl,rfl,(by show (0:Int)<2;decide),rfl,?_⟩
   unfold wZ at q
   rw[if_neg e] at q
   rw[show (decide (V.int (l%2)=V.int 1))=decide (l%2=1) from Dz.mpr (wu.trans decide_eq_true_iff.symm)]
   exact q
theorem Ml (F:qQ K "goes_up" "goes_up" (top 22) f fd) (N1:Z1 mg "HALF" 5000) (C1:qP P w K mg base zO 1 "half_goes_up" ["number","lesser","way"] gG):zH P w K mg base zO 2 f fd ["number","lesser","rest","way"] Gx:=by
 obtain⟨t,eh⟩:=N1
 refine F.ok (N:=["number","lesser","rest","way"]) (by walk_at"s") (fun vs H Q E h=>?_) (fun cdv A outer s H vs Q E hr h=>?_)
 ·obtain⟨z,l,r,x,rfl,_⟩:=h
  rfl
 ·obtain⟨z,l,r,x,rfl,q⟩:=h
  refine⟨_,(zg (zR (zE qC (pv 3) zC (zD _)) (zi (zu jY)) zA)
    (zg (zR (zE qC (pv 3) zC (zD _)) (zi (zu (qJ jZ (pv 2) ze (zD _)))) zA)
    (zg (zR (zE qC (pv 2) (qE (v:=.int 5000) rfl eh ⟨t,rfl⟩) (zD _)) (zi (zu (zj C1 hr (by decide) zt (za (pv 0) (za (pv 1) (za (pv 3) zd)))))) zA)
    (zi (zu (qJ jZ (pv 2) (qE (v:=.int 5000) rfl eh ⟨t,rfl⟩) (zD _))))))),?_⟩
  unfold uF at q
  refine⟨_,rfl,rfl,_,rfl,yI (fun e=>?_) (fun e=>?_)⟩
  ·rw[ZW] at e
   rw[if_pos e] at q
   exact q
  rw[ZW] at e
  rw[if_neg e] at q
  refine⟨_,rfl,rfl,_,rfl,yI (fun e=>?_) (fun e=>?_)⟩
  ·rw[ZW] at e
   rw[if_pos e] at q
   exact⟨_,rfl,_,_,rfl,rfl,q⟩
  rw[ZW] at e
  rw[if_neg e] at q
  refine⟨_,rfl,rfl,_,rfl,yI (fun e=>?_) (fun e=>?_)⟩
  ·rw[wu] at e
   rw[if_pos e] at q
   exact⟨_,rfl,_,rfl,_,rfl,_,_,_,rfl,q⟩
  ·rw[wu] at e
   rw[if_neg e] at q
   exact⟨_,rfl,_,_,rfl,rfl,q⟩
theorem MM (F:qQ K "rounded" "rounded" (top 23) f fd) (N1:Z1 mg "WHOLE" 10000) (C1:qP P w K mg base zO 2 "need_amount" ["thing"] Qv) (C2:qP P w K mg base zO 2 "need_way" ["thing"] JZ) (C3:qP P w K mg base zO 2 "goes_up" ["number","lesser","rest","way"] Gx):zH P w K mg base zO 3 f fd ["number","way"] Vq:=by
 obtain⟨t,eh⟩:=N1
 have nd:(["number","way","lesser","rest"]:List Str).Nodup:=by decide +kernel
 refine F.ok (N:=["number","way","lesser","rest"]) (by walk_at"s") (fun vs H Q E h=>?_) (fun cdv A outer s H vs Q E hr h=>?_)
 ·obtain⟨z,x,rfl,_⟩:=h
  rfl
 ·obtain⟨z,x,rfl,hx,q⟩:=h
  refine⟨_,(zg (qm (zj C1 hr (by decide) zt (za (pv 0) zd)))
    (zg (qm (zj C2 hr (by decide) zt (za (pv 1) zd)))
    (zg (zF (i:=2) nd rfl (Or.inl rfl) (zq qZ (pv 0) (qE (v:=.int 10000) rfl eh ⟨t,rfl⟩)))
    (zg (zF (i:=3) nd rfl (Or.inl rfl) (zq qc (pv 0) (qE (v:=.int 10000) rfl eh ⟨t,rfl⟩)))
    (zg (zR (qF (zj C3 hr (by decide) zt (za (pv 0) (za (pv 2) (za (pv 3) (za (pv 1) zd)))))) (zi (zu (zq zU (pv 2) ze))) zA)
    (zi (zu (pv 2)))))))),?_⟩
  refine⟨_,rfl,z,rfl,_,rfl,x,rfl,hx,_,rfl,_,_,rfl,rfl,⟨by decide,by decide⟩,_,rfl,_,_,rfl,rfl,(by show (0:Int)<10000;decide),?_⟩
  unfold uc at q
  refine⟨_,rfl,_,rfl,_,rfl,_,rfl,z,_,_,x,rfl,_,rfl,yI (fun e=>?_) (fun e=>?_)⟩
  ·rw[if_pos e] at q
   exact⟨_,rfl,_,_,rfl,rfl,q⟩
  ·rw[if_neg e] at q
   exact⟨_,rfl,q⟩
theorem ou (F:qQ K "share_of" "share_of" (top 24) f fd) (C1:qP P w K mg base zO 2 "need_amount" ["thing"] Qv) (C2:qP P w K mg base zO 3 "is_parts" ["thing"] u6) (C3:qP P w K mg base zO 3 "rounded" ["number","way"] Vq):zH P w K mg base zO 4 f fd ["amount","parts","way"] vL:=by
 refine F.ok (N:=["amount","parts","way"]) (by walk_at"s") (fun vs H Q E h=>?_) (fun cdv A outer s H vs Q E hr h=>?_)
 ·obtain⟨z,n,x,rfl,_⟩:=h
  rfl
 ·obtain⟨z,n,x,rfl,n0,n1,hx,q⟩:=h
  exact⟨_,(zg (qm (zj C1 hr (by decide) zt (za (pv 0) zd)))
    (zg (zR (qM (qF (zj C2 hr (by decide) zt (za (pv 1) zd)))) qb zA)
    (zi (zu (zj C3 hr (by decide) zt (za (zq qR (pv 0) (pv 1)) (za (pv 2) zd))))))),
   _,rfl,z,rfl,_,rfl,n,rfl,n0,n1,true,rfl,qY ⟨_,rfl,_,rfl,_,_,rfl,rfl,.inr ⟨by omega,by omega⟩,_,rfl,_,x,rfl,hx,q⟩⟩
theorem O7 (F:qQ K "is_rule_name" "is_rule_name" (top 51) f fd) (W:BC K mg "NO_RULE_NAMES" noNames) (C1:qP P w K mg base zO 2 "is_name" ["thing"] Gq):zH P w K mg base zO 3 f fd ["thing"] JW:=by
 obtain⟨aw,ew,tw⟩:=W
 refine F.ok (N:=["thing"]) (by walk_at"s") (fun vs H Q E h=>?_) (fun cdv A outer s H vs Q E hr h=>?_)
 ·obtain⟨z,rfl,_⟩:=h
  rfl
 ·obtain⟨z,rfl,hz,q⟩:=h
  refine⟨_,zi (zu (yU (zj C1 hr (by decide) zt (za (pv 0) zd)) (ja (qJ VQ (pv 0) (qE (v:=.ref aw) rfl ew rfl) (by rfl))))),?_⟩
  refine⟨_,rfl,z,rfl,hz.ok,fun H1 s1=>⟨true,rfl,jS ⟨_,rfl,aw,_,rfl,.inr (tw H1),rfl,rfl,?_⟩⟩⟩
  rw[if_pos rfl,UL,hz.no]
  exact q H1 s1
theorem L5 (F:qQ K "is_rule_amount" "is_rule_amount" (top 52) f fd) (N1:Z1 mg "MOST_AMOUNT" 1000000000000) (C1:qP P w K mg base zO 2 "is_number_within" ["thing","least","most"] (vP K)):zH P w K mg base zO 3 f fd ["thing"] QA:=by
 obtain⟨t,em⟩:=N1
 refine F.ok (N:=["thing"]) (by walk_at"s") (fun vs H Q E h=>?_) (fun cdv A outer s H vs Q E hr h=>?_)
 ·obtain⟨z,rfl,_⟩:=h
  rfl
 ·obtain⟨z,rfl,h0,q⟩:=h
  refine⟨_,zi (zu (zj C1 hr (by decide) zt (za (pv 0) (za ze (za (qE (v:=.int 1000000000000) rfl em ⟨t,rfl⟩) zd))))),_,rfl,_,0,1000000000000,rfl,.inl ⟨z,rfl,?_⟩⟩
  rw[show decide ((0:Int)≤z∧z≤1000000000000)=true from decide_eq_true h0]
  exact q
theorem oA (F:qQ K "need_rule_amount" "need_rule_amount" (top 53) f fd) (C1:qP P w K mg base zO 3 "is_rule_amount" ["thing"] QA):zH P w K mg base zO 4 f fd ["thing"] wj:=by
 refine F.ok (N:=["thing"]) (by walk_at"s") (fun vs H Q E h=>?_) (fun cdv A outer s H vs Q E hr h=>?_)
 ·obtain⟨x,rfl,_⟩:=h
  rfl
 ·obtain⟨x,rfl,hx,q⟩:=h
  exact⟨_,zi (zR (qM (qF (zj C1 hr (by decide) zt (za (pv 0) zd)))) qb zA),_,rfl,x,rfl,hx,true,rfl,qY q⟩
theorem OI (F:qQ K "need_share" "need_share" (top 54) f fd) (C1:qP P w K mg base zO 3 "is_parts" ["thing"] u6) (C2:qP P w K mg base zO 1 "is_way" ["thing"] Qj):zH P w K mg base zO 4 f fd ["parts","way"] vF:=by
 refine F.ok (N:=["parts","way"]) (by walk_at"s") (fun vs H Q E h=>?_) (fun cdv A outer s H vs Q E hr h=>?_)
 ·obtain⟨p,x,rfl,_⟩:=h
  rfl
 ·obtain⟨p,x,rfl,hp,hx,q⟩:=h
  exact⟨_,zg (zR (qM (qF (zj C1 hr (by decide) zt (za (pv 0) zd)))) qb zA) (zi (zR (qM (qF (zj C2 hr (by decide) zt (za (pv 1) zd)))) qb zA)),_,rfl,p,rfl,hp.1,hp.2,true,rfl,qY ⟨_,rfl,x,rfl,hx,true,rfl,qY q⟩⟩
theorem RC (F:qQ K "months_with_base" "months_with_base" (top 55) f fd) (G:jP mg):zH P w K mg base zO 1 f fd ["bases"] (X4 K):=by
 have nc:(["base"]:List Str).Nodup:=by decide +kernel
 refine F.ok (N:=["bases"]) (by walk_at"s") (fun vs H Q E h=>?_) (fun cdv A outer s H vs Q E hr h=>?_)
 ·obtain⟨b,bs,rfl,_⟩:=h
  rfl
 ·obtain⟨b,bs,rfl,hb,bl,q⟩:=h
  refine' ⟨_,zi (zu (zx zQ rfl G.len boot_len (za ?comp zd))),?main⟩
  case comp =>
   refine' z8 (Nc:=["base"]) (cl:=[]) (src:=[none]) (wi:=vO K (zM 0)) (g:=z4 0) (tt:=Wc (jC (YN fun i j=>.bl (decide (j<i))) (zM 0) (tC (.int 0)))) (te:=zM 0)
    (by walk_at"c0") rfl (q9 (pv 0)) ?hb
   case hb =>
    intro fp C' s' H'
    exact⟨zJ (i:=0) nc rfl (Or.inl rfl),Qi (zE jZ (pv 0) ze (zD _)),pv 0⟩
  refine⟨_,rfl,b,rfl,⟨_,hb⟩,fun D hD=>Wa (qX hb) (Jv bs) hD (by rw[sizeLine_eq];omega) (fun i=>decide (0<i)) V.int (fun i hi v H1 R s1 e1 r=>?_) (fun i hi v H1 R s1 e1 r=>?_) (fun H1 s1 e1=>?_)⟩
  ·subst e1
   exact⟨_,rfl,_,_,rfl,rfl,_,rfl,r _ (zw.refl _)⟩
  ·subst e1
   exact⟨_,rfl,r _ (zw.refl _)⟩
  ·refine⟨D,_,rfl,.inl (zZ.of e1),?_⟩
   rw[CY]
   exact q H1 s1
theorem OA {Cs:Nat→Addr} (F:qQ K "__init__" "Flat.__init__" (zy (top 57) 0) f fd) (RK:uu K Cs) (CR:QB P w K mg base zO 4 "Rule" "__init__" ["self","name"] (uG Cs)) (C1:qP P w K mg base zO 4 "need_rule_amount" ["thing"] wj):zH P w K mg base zO 5 f fd ["self","name","amount"] (yA 0 Cs):=by
 refine F.ok (N:=["self","name","amount"]) (by walk_at"s") (fun vs H Q E h=>?_) (fun cdv A outer s H vs Q E hr h=>?_)
 ·obtain⟨o,dx,r,rfl,hk,pl,_⟩:=h
  cases pl <;> first | rfl | cases hk
 ·obtain⟨o,dx,r,rfl,hk,pl,ho,q⟩:=h
  cases pl with
  | flat hn ha =>
   refine⟨_,zg (qm (wq CR hr (by decide) zt (za (pv 0) (za (pv 1) zd)))) (zg (qm (zj C1 hr (by decide) zt (za (pv 2) zd))) (zi (yS (pv 0) (pv 2) rfl))),?_⟩
   refine⟨_,rfl,_,rfl,0,o,dx,_,rfl,by decide,ho,hn,fun H1 f1 e1=>⟨_,rfl,_,rfl,ha,_,rfl,_,rfl,o,_,dx,_,rfl,e1,RK.cls 0 (by decide),RK.no 0 (by decide) "amount" (by decide),by show 1<1000;decide,?_⟩⟩
   rw[Tz _ _ _ (by decide +kernel)]
   exact q _ (fun b x hb ne=>by rw[zm ne];exact f1 _ _ hb ne) zp
  | share hn hp hw=>cases hk
  | capped hn hp ha hw=>cases hk
  | least hn hp ha hw=>cases hk
theorem Os {Cs:Nat→Addr} (F:qQ K "__init__" "Share.__init__" (zy (top 58) 0) f fd) (RK:uu K Cs) (CR:QB P w K mg base zO 4 "Rule" "__init__" ["self","name"] (uG Cs)) (C1:qP P w K mg base zO 4 "need_share" ["parts","way"] vF):zH P w K mg base zO 5 f fd ["self","name","parts","way"] (yA 1 Cs):=by
 refine F.ok (N:=["self","name","parts","way"]) (by walk_at"s") (fun vs H Q E h=>?_) (fun cdv A outer s H vs Q E hr h=>?_)
 ·obtain⟨o,dx,r,rfl,hk,pl,_⟩:=h
  cases pl <;> first | rfl | cases hk
 ·obtain⟨o,dx,r,rfl,hk,pl,ho,q⟩:=h
  cases pl with
  | share hn hp hw =>
   refine⟨_,zg (qm (wq CR hr (by decide) zt (za (pv 0) (za (pv 1) zd)))) (zg (qm (zj C1 hr (by decide) zt (za (pv 2) (za (pv 3) zd)))) (zg (yS (pv 0) (pv 2) rfl) (zi (yS (pv 0) (pv 3) rfl)))),?_⟩
   refine⟨_,rfl,_,rfl,1,o,dx,_,rfl,by decide,ho,hn,fun H1 f1 e1=>⟨_,rfl,_,rfl,_,_,rfl,hp,hw,_,rfl,_,rfl,o,_,dx,_,rfl,e1,RK.cls 1 (by decide),RK.no 1 (by decide) "parts" (by decide),by show 1<1000;decide,?_⟩⟩
   rw[Tz _ _ _ (by decide +kernel)]
   refine⟨_,rfl,_,rfl,o,_,dx,_,rfl,zp,RK.cls 1 (by decide),RK.no 1 (by decide) "way" (by decide),by show 2<1000;decide,?_⟩
   rw[bF _ _ _ _ _ (by decide +kernel) (by decide +kernel)]
   exact q _ (fun b x hb ne=>by rw[zm ne,zm ne];exact f1 _ _ hb ne) zp
  | flat hn ha=>cases hk
  | capped hn hp ha hw=>cases hk
  | least hn hp ha hw=>cases hk
theorem OQ {Cs:Nat→Addr} (F:qQ K "__init__" "Capped.__init__" (zy (top 59) 0) f fd) (RK:uu K Cs) (CR:QB P w K mg base zO 4 "Rule" "__init__" ["self","name"] (uG Cs)) (C1:qP P w K mg base zO 4 "need_share" ["parts","way"] vF) (C2:qP P w K mg base zO 4 "need_rule_amount" ["thing"] wj):zH P w K mg base zO 5 f fd ["self","name","parts","most","way"] (yA 2 Cs):=by
 refine F.ok (N:=["self","name","parts","most","way"]) (by walk_at"s") (fun vs H Q E h=>?_) (fun cdv A outer s H vs Q E hr h=>?_)
 ·obtain⟨o,dx,r,rfl,hk,pl,_⟩:=h
  cases pl <;> first | rfl | cases hk
 ·obtain⟨o,dx,r,rfl,hk,pl,ho,q⟩:=h
  cases pl with
  | capped hn hp ha hw =>
   refine⟨_,zg (qm (wq CR hr (by decide) zt (za (pv 0) (za (pv 1) zd)))) (zg (qm (zj C1 hr (by decide) zt (za (pv 2) (za (pv 4) zd)))) (zg (qm (zj C2 hr (by decide) zt (za (pv 3) zd))) (zg (yS (pv 0) (pv 2) rfl) (zg (yS (pv 0) (pv 3) rfl) (zi (yS (pv 0) (pv 4) rfl)))))),?_⟩
   refine⟨_,rfl,_,rfl,2,o,dx,_,rfl,by decide,ho,hn,fun H1 f1 e1=>⟨_,rfl,_,rfl,_,_,rfl,hp,hw,_,rfl,_,rfl,ha,_,rfl,_,rfl,o,_,dx,_,rfl,e1,RK.cls 2 (by decide),RK.no 2 (by decide) "parts" (by decide),by show 1<1000;decide,?_⟩⟩
   rw[Tz _ _ _ (by decide +kernel)]
   refine⟨_,rfl,_,rfl,o,_,dx,_,rfl,zp,RK.cls 2 (by decide),RK.no 2 (by decide) "most" (by decide),by show 2<1000;decide,?_⟩
   rw[bF _ _ _ _ _ (by decide +kernel) (by decide +kernel)]
   refine⟨_,rfl,_,rfl,o,_,dx,_,rfl,zp,RK.cls 2 (by decide),RK.no 2 (by decide) "way" (by decide),by show 3<1000;decide,?_⟩
   rw[cj _ _ _ _ _ _ _ (by decide +kernel) (by decide +kernel) (by decide +kernel)]
   exact q _ (fun b x hb ne=>by rw[zm ne,zm ne,zm ne];exact f1 _ _ hb ne) zp
  | flat hn ha=>cases hk
  | share hn hp hw=>cases hk
  | least hn hp ha hw=>cases hk
theorem G8 {Cs:Nat→Addr} (F:qQ K "__init__" "Least.__init__" (zy (top 60) 0) f fd) (RK:uu K Cs) (CR:QB P w K mg base zO 4 "Rule" "__init__" ["self","name"] (uG Cs)) (C1:qP P w K mg base zO 4 "need_share" ["parts","way"] vF) (C2:qP P w K mg base zO 4 "need_rule_amount" ["thing"] wj):zH P w K mg base zO 5 f fd ["self","name","parts","least","way"] (yA 3 Cs):=by
 refine F.ok (N:=["self","name","parts","least","way"]) (by walk_at"s") (fun vs H Q E h=>?_) (fun cdv A outer s H vs Q E hr h=>?_)
 ·obtain⟨o,dx,r,rfl,hk,pl,_⟩:=h
  cases pl <;> first | rfl | cases hk
 ·obtain⟨o,dx,r,rfl,hk,pl,ho,q⟩:=h
  cases pl with
  | least hn hp ha hw =>
   refine⟨_,zg (qm (wq CR hr (by decide) zt (za (pv 0) (za (pv 1) zd)))) (zg (qm (zj C1 hr (by decide) zt (za (pv 2) (za (pv 4) zd)))) (zg (qm (zj C2 hr (by decide) zt (za (pv 3) zd))) (zg (yS (pv 0) (pv 2) rfl) (zg (yS (pv 0) (pv 3) rfl) (zi (yS (pv 0) (pv 4) rfl)))))),?_⟩
   refine⟨_,rfl,_,rfl,3,o,dx,_,rfl,by decide,ho,hn,fun H1 f1 e1=>⟨_,rfl,_,rfl,_,_,rfl,hp,hw,_,rfl,_,rfl,ha,_,rfl,_,rfl,o,_,dx,_,rfl,e1,RK.cls 3 (by decide),RK.no 3 (by decide) "parts" (by decide),by show 1<1000;decide,?_⟩⟩
   rw[Tz _ _ _ (by decide +kernel)]
   refine⟨_,rfl,_,rfl,o,_,dx,_,rfl,zp,RK.cls 3 (by decide),RK.no 3 (by decide) "least" (by decide),by show 2<1000;decide,?_⟩
   rw[bF _ _ _ _ _ (by decide +kernel) (by decide +kernel)]
   refine⟨_,rfl,_,rfl,o,_,dx,_,rfl,zp,RK.cls 3 (by decide),RK.no 3 (by decide) "way" (by decide),by show 3<1000;decide,?_⟩
   rw[cj _ _ _ _ _ _ _ (by decide +kernel) (by decide +kernel) (by decide +kernel)]
   exact q _ (fun b x hb ne=>by rw[zm ne,zm ne,zm ne];exact f1 _ _ hb ne) zp
  | flat hn ha=>cases hk
  | share hn hp hw=>cases hk
  | capped hn hp ha hw=>cases hk
theorem m8 {Cs:Nat→Addr} (F:qQ K "until" "Flat.until" (zy (top 57) 1) f fd) (RK:uu K Cs) (C1:qP P w K mg base zO 1 "months_with_base" ["bases"] (X4 K)):zH P w K mg base zO 5 f fd ["self","bases"] (vW K 0 Cs):=by
 refine F.ok (N:=["self","bases"]) (by walk_at"s") (fun vs H Q E h=>?_) (fun cdv A outer s H vs Q E hr h=>?_)
 ·obtain⟨v,r,b,bs,rfl,_⟩:=h
  rfl
 ·obtain⟨v,r,b,bs,rfl,hk,⟨o,dx,rfl,ho⟩,pl,hb,bl,q⟩:=h
  cases pl with
  | flat hn ha =>
   refine⟨_,zi (zu (zq qR (zN (pv 0) rfl) (zj C1 hr (by decide) zt (za (pv 1) zd)))),?_⟩
   have a1:=ha.2
   have a0:=ha.1
   exact⟨_,rfl,o,_,dx,_,_,rfl,ho,RK.cls 0 (by decide),RK.no 0 (by decide) "amount" (by decide),rfl,_,rfl,b,bs,rfl,hb,bl,fun H1 s1=>⟨_,_,rfl,rfl,.inl ⟨by omega,by omega⟩,q H1 s1⟩⟩
  | share hn hp hw=>cases hk
  | capped hn hp ha hw=>cases hk
  | least hn hp ha hw=>cases hk
theorem MG {Cs:Nat→Addr} (F:qQ K "until" "Share.until" (zy (top 58) 1) f fd) (G:jP mg) (RK:uu K Cs) (C1:qP P w K mg base zO 4 "share_of" ["amount","parts","way"] vL):zH P w K mg base zO 5 f fd ["self","bases"] (vW K 1 Cs):=by
 refine F.ok (N:=["self","bases"]) (by walk_at"s") (fun vs H Q E h=>?_) (fun cdv A outer s H vs Q E hr h=>?_)
 ·obtain⟨v,r,b,bs,rfl,_⟩:=h
  rfl
 ·obtain⟨v,r,b,bs,rfl,hk,⟨o,dx,rfl,ho⟩,pl,hb,bl,q⟩:=h
  cases pl with
  | share hn hp hw =>
   refine⟨_,zi (zu (zj C1 hr (by decide) zt (za (zx (yB rfl) rfl G.sum yW (za (pv 1) zd)) (za (zN (pv 0) rfl) (za (zN (pv 0) rfl) zd))))),?_⟩
   exact⟨_,rfl,b,bs,rfl,hb,_,rfl,o,_,dx,_,_,rfl,ho,RK.cls 1 (by decide),RK.no 1 (by decide) "parts" (by decide),rfl,_,rfl,o,_,dx,_,_,rfl,ho,RK.cls 1 (by decide),RK.no 1 (by decide) "way" (by decide),rfl,_,_,_,rfl,hp.1,hp.2,hw,q H (zw.refl _)⟩
  | flat hn ha=>cases hk
  | capped hn hp ha hw=>cases hk
  | least hn hp ha hw=>cases hk
theorem NG {Cs:Nat→Addr} (F:qQ K "until" "Capped.until" (zy (top 59) 1) f fd) (G:jP mg) (RK:uu K Cs) (C1:qP P w K mg base zO 4 "share_of" ["amount","parts","way"] vL):zH P w K mg base zO 5 f fd ["self","bases"] (vW K 2 Cs):=by
 refine F.ok (N:=["self","bases"]) (by walk_at"s") (fun vs H Q E h=>?_) (fun cdv A outer s H vs Q E hr h=>?_)
 ·obtain⟨v,r,b,bs,rfl,_⟩:=h
  rfl
 ·obtain⟨v,r,b,bs,rfl,hk,⟨o,dx,rfl,ho⟩,pl,hb,bl,q⟩:=h
  cases pl with
  | capped hn hp ha hw =>
   refine⟨_,zi (zu (zj C1 hr (by decide) zt (za (zx (Zh rfl) rfl G.min PyProof.Rows.boot_min (za (zx (yB rfl) rfl G.sum yW (za (pv 1) zd)) (za (zN (pv 0) rfl) zd))) (za (zN (pv 0) rfl) (za (zN (pv 0) rfl) zd))))),?_⟩
   exact⟨_,rfl,b,bs,rfl,hb,_,rfl,o,_,dx,_,_,rfl,ho,RK.cls 2 (by decide),RK.no 2 (by decide) "most" (by decide),rfl,_,_,rfl,_,rfl,o,_,dx,_,_,rfl,ho,RK.cls 2 (by decide),RK.no 2 (by decide) "parts" (by decide),rfl,_,rfl,o,_,dx,_,_,rfl,ho,RK.cls 2 (by decide),RK.no 2 (by decide) "way" (by decide),rfl,_,_,_,rfl,hp.1,hp.2,hw,q H (zw.refl _)⟩
  | flat hn ha=>cases hk
  | share hn hp hw=>cases hk
  | least hn hp ha hw=>cases hk
theorem NW {Cs:Nat→Addr} (F:qQ K "until" "Least.until" (zy (top 60) 1) f fd) (G:jP mg) (RK:uu K Cs) (C1:qP P w K mg base zO 4 "share_of" ["amount","parts","way"] vL) (C2:qP P w K mg base zO 1 "months_with_base" ["bases"] (X4 K)):zH P w K mg base zO 5 f fd ["self","bases"] (vW K 3 Cs):=by
 have nd:(["self","bases","share"]:List Str).Nodup:=by decide +kernel
 refine F.ok (N:=["self","bases","share"]) (by walk_at"s") (fun vs H Q E h=>?_) (fun cdv A outer s H vs Q E hr h=>?_)
 ·obtain⟨v,r,b,bs,rfl,_⟩:=h
  rfl
 ·obtain⟨v,r,b,bs,rfl,hk,⟨o,dx,rfl,ho⟩,pl,hb,bl,q⟩:=h
  cases pl with
  | least hn hp ha hw =>
   have a1:=ha.2
   have a0:=ha.1
   refine⟨_,zg (zF (i:=2) nd rfl (Or.inl rfl) (zj C1 hr (by decide) zt (za (zx (yB rfl) rfl G.sum yW (za (pv 1) zd)) (za (zN (pv 0) rfl) (za (zN (pv 0) rfl) zd)))))
    (zi (zu (zx (Zk rfl) rfl G.max PyProof.Rows.boot_max (za (pv 2) (za (zq qR (zN (pv 0) rfl) (zj C2 hr (by decide) zt (za (pv 1) zd))) zd))))),?_⟩
   exact⟨_,rfl,b,bs,rfl,hb,_,rfl,o,_,dx,_,_,rfl,ho,RK.cls 3 (by decide),RK.no 3 (by decide) "parts" (by decide),rfl,_,rfl,o,_,dx,_,_,rfl,ho,RK.cls 3 (by decide),RK.no 3 (by decide) "way" (by decide),rfl,_,_,_,rfl,hp.1,hp.2,hw,
    _,rfl,_,rfl,o,_,dx,_,_,rfl,ho,RK.cls 3 (by decide),RK.no 3 (by decide) "least" (by decide),rfl,_,rfl,b,bs,rfl,hb,bl,fun H1 s1=>⟨_,_,rfl,rfl,.inl ⟨by omega,by omega⟩,_,_,rfl,q H1 s1⟩⟩
  | flat hn ha=>cases hk
  | share hn hp hw=>cases hk
  | capped hn hp ha hw=>cases hk
theorem NP {Cs:Nat→Addr} (F:qQ K "row" "Flat.row" (zy (top 57) 2) f fd) (G:jP mg) (RK:uu K Cs):zH P w K mg base zO 1 f fd ["self"] (j6 0 Cs):=by
 refine F.ok (N:=["self"]) (by walk_at"s") (fun vs H Q E h=>?_) (fun cdv A outer s H vs Q E hr h=>?_)
 ·obtain⟨v,r,rfl,_⟩:=h
  rfl
 ·obtain⟨v,r,rfl,hk,⟨o,dx,rfl,ho⟩,pl,q⟩:=h
  have jo:=QR pl
  cases pl with
  | flat hn ha =>
   refine⟨_,zi (zu (yH PySem.F.plainAttrs_str PySem.F.slot_str_join PySem.F.type_str_join yZ zC (za (qy (za zC (za (zN (pv 0) rfl) (za (z6 qo rfl G.str qL (za (zN (pv 0) rfl) zd)) zd)))) zd))),?_⟩
   exact⟨rfl,_,rfl,o,_,dx,_,_,rfl,ho,RK.cls 0 (by decide),RK.no 0 (by decide) "name" (by decide),rfl,_,rfl,o,_,dx,_,_,rfl,ho,RK.cls 0 (by decide),RK.no 0 (by decide) "amount" (by decide),rfl,_,rfl,ZK ha,qv rfl,fun l H1 s1 n1 e1=>⟨_,(vp (Rk.flat _ _)).map Jm,l,rfl,rfl,zZ.of e1,jo,q H1 s1⟩⟩
  | share hn hp hw=>cases hk
  | capped hn hp ha hw=>cases hk
  | least hn hp ha hw=>cases hk
theorem NX {Cs:Nat→Addr} (F:qQ K "row" "Share.row" (zy (top 58) 2) f fd) (G:jP mg) (RK:uu K Cs):zH P w K mg base zO 1 f fd ["self"] (j6 1 Cs):=by
 refine F.ok (N:=["self"]) (by walk_at"s") (fun vs H Q E h=>?_) (fun cdv A outer s H vs Q E hr h=>?_)
 ·obtain⟨v,r,rfl,_⟩:=h
  rfl
 ·obtain⟨v,r,rfl,hk,⟨o,dx,rfl,ho⟩,pl,q⟩:=h
  have jo:=QR pl
  cases pl with
  | share hn hp hw =>
   refine⟨_,zi (zu (yH PySem.F.plainAttrs_str PySem.F.slot_str_join PySem.F.type_str_join yZ zC (za (qy (za zC (za (zN (pv 0) rfl) (za (z6 qo rfl G.str qL (za (zN (pv 0) rfl) zd)) (za (zN (pv 0) rfl) zd))))) zd))),?_⟩
   exact⟨rfl,_,rfl,o,_,dx,_,_,rfl,ho,RK.cls 1 (by decide),RK.no 1 (by decide) "name" (by decide),rfl,_,rfl,o,_,dx,_,_,rfl,ho,RK.cls 1 (by decide),RK.no 1 (by decide) "parts" (by decide),rfl,_,rfl,wB hp,_,rfl,o,_,dx,_,_,rfl,ho,RK.cls 1 (by decide),RK.no 1 (by decide) "way" (by decide),rfl,qv rfl,fun l H1 s1 n1 e1=>⟨_,(vp (Rk.share _ _ _)).map Jm,l,rfl,rfl,zZ.of e1,jo,q H1 s1⟩⟩
  | flat hn ha=>cases hk
  | capped hn hp ha hw=>cases hk
  | least hn hp ha hw=>cases hk
theorem NO {Cs:Nat→Addr} (F:qQ K "row" "Capped.row" (zy (top 59) 2) f fd) (G:jP mg) (RK:uu K Cs):zH P w K mg base zO 1 f fd ["self"] (j6 2 Cs):=by
 refine F.ok (N:=["self"]) (by walk_at"s") (fun vs H Q E h=>?_) (fun cdv A outer s H vs Q E hr h=>?_)
 ·obtain⟨v,r,rfl,_⟩:=h
  rfl
 ·obtain⟨v,r,rfl,hk,⟨o,dx,rfl,ho⟩,pl,q⟩:=h
  have jo:=QR pl
  cases pl with
  | capped hn hp ha hw =>
   refine⟨_,zi (zu (yH PySem.F.plainAttrs_str PySem.F.slot_str_join PySem.F.type_str_join yZ zC (za (qy (za zC (za (zN (pv 0) rfl) (za (z6 qo rfl G.str qL (za (zN (pv 0) rfl) zd)) (za (z6 qo rfl G.str qL (za (zN (pv 0) rfl) zd)) (za (zN (pv 0) rfl) zd)))))) zd))),?_⟩
   exact⟨rfl,_,rfl,o,_,dx,_,_,rfl,ho,RK.cls 2 (by decide),RK.no 2 (by decide) "name" (by decide),rfl,_,rfl,o,_,dx,_,_,rfl,ho,RK.cls 2 (by decide),RK.no 2 (by decide) "parts" (by decide),rfl,_,rfl,wB hp,_,rfl,o,_,dx,_,_,rfl,ho,RK.cls 2 (by decide),RK.no 2 (by decide) "most" (by decide),rfl,_,rfl,ZK ha,_,rfl,o,_,dx,_,_,rfl,ho,RK.cls 2 (by decide),RK.no 2 (by decide) "way" (by decide),rfl,qv rfl,fun l H1 s1 n1 e1=>⟨_,(vp (Rk.capped _ _ _ _)).map Jm,l,rfl,rfl,zZ.of e1,jo,q H1 s1⟩⟩
  | flat hn ha=>cases hk
  | share hn hp hw=>cases hk
  | least hn hp ha hw=>cases hk
theorem NZ {Cs:Nat→Addr} (F:qQ K "row" "Least.row" (zy (top 60) 2) f fd) (G:jP mg) (RK:uu K Cs):zH P w K mg base zO 1 f fd ["self"] (j6 3 Cs):=by
 refine F.ok (N:=["self"]) (by walk_at"s") (fun vs H Q E h=>?_) (fun cdv A outer s H vs Q E hr h=>?_)
 ·obtain⟨v,r,rfl,_⟩:=h
  rfl
 ·obtain⟨v,r,rfl,hk,⟨o,dx,rfl,ho⟩,pl,q⟩:=h
  have jo:=QR pl
  cases pl with
  | least hn hp ha hw =>
   refine⟨_,zi (zu (yH PySem.F.plainAttrs_str PySem.F.slot_str_join PySem.F.type_str_join yZ zC (za (qy (za zC (za (zN (pv 0) rfl) (za (z6 qo rfl G.str qL (za (zN (pv 0) rfl) zd)) (za (z6 qo rfl G.str qL (za (zN (pv 0) rfl) zd)) (za (zN (pv 0) rfl) zd)))))) zd))),?_⟩
   exact⟨rfl,_,rfl,o,_,dx,_,_,rfl,ho,RK.cls 3 (by decide),RK.no 3 (by decide) "name" (by decide),rfl,_,rfl,o,_,dx,_,_,rfl,ho,RK.cls 3 (by decide),RK.no 3 (by decide) "parts" (by decide),rfl,_,rfl,wB hp,_,rfl,o,_,dx,_,_,rfl,ho,RK.cls 3 (by decide),RK.no 3 (by decide) "least" (by decide),rfl,_,rfl,ZK ha,_,rfl,o,_,dx,_,_,rfl,ho,RK.cls 3 (by decide),RK.no 3 (by decide) "way" (by decide),rfl,qv rfl,fun l H1 s1 n1 e1=>⟨_,(vp (Rk.least _ _ _ _)).map Jm,l,rfl,rfl,zZ.of e1,jo,q H1 s1⟩⟩
  | flat hn ha=>cases hk
  | share hn hp hw=>cases hk
  | capped hn hp ha hw=>cases hk
end
end K15
namespace L2
open PySem PySem.Spec PyProof.Rows
section
variable {X:Cx} {pins:List (Addr × Obj)} {σ:St} {H:Hp} {s:Shared} {d:Addr} {kvs:List (yp × V)}
theorem zI.freeze (I:zI X pins σ H s) (hd:H d=some (.dK kvs)):∃ o,zI X pins σ (upd H d (.frz o (.dK kvs))) s:=by
 have ok:=I.hok d _ hd
 obtain⟨_,_,vs,rel,o,es,ep,ho,r⟩:=id ok
 have ne:∀ b (u:HO),H b=some u→(∀ k,u≠.dK k)→b≠d:=fun b u q n e=>by
  subst e
  rw[hd] at q
  exact n _ (Option.some.inj q).symm
 have nn:∀ b,H b=none→b≠d:=fun b q e=>by rw[e,hd] at q;cases q
 refine⟨o,I.ok,I.os,I.bare,⟨I.base.keep,I.base.slot,fun b u q n hx=>?_,I.base.there,fun b ys q=>?_,fun b u v q=>?_,fun b ps q=>?_⟩,I.loc,I.cell,?_,fun x c q=>?_,fun p hp=>?_,fun b u q=>?_,I.len⟩
 ·have z:=I.base.free b u q n hx
  rw[zm (nn b z)];exact z
 ·have z:=I.base.tups b ys q
  rw[zm (ne _ _ z fun _ e=>nomatch e)];exact z
 ·have z:=I.base.frzs b u v q
  rw[zm (ne _ _ z fun _ e=>nomatch e)];exact z
 ·obtain⟨m,z⟩:=I.base.tbls b ps q
  exact⟨m,by rw[zm (ne _ _ z fun _ e=>nomatch e)];exact z⟩
 ·rw[zm (nn _ I.free)];exact I.free
 ·have z:=I.freeC x c q
  rw[zm (nn _ z)];exact z
 ·obtain⟨p1,p2,p3,p4,p5⟩:=I.pin p hp
  exact⟨p1,by rw[zm (nn _ p2)];exact p2,p3,p4,p5⟩
 ·by_cases nb:b=d
  ·subst nb
   rw[zp] at q
   cases q
   exact⟨ho,ok⟩
  ·rw[zm nb] at q
   refine (I.hok b u q).stay (fun c u _ z=>z) (fun c z=>?_) fun c ys z=>?_
   ·rw[zm (ne _ _ z fun _ e=>nomatch e)];exact z
   ·rw[zm (ne _ _ z fun _ e=>nomatch e)];exact z
end
noncomputable def cz (d:Addr) (o:Obj) (kvs:List (yp × V)):It :=
 ⟨fun i H=>H d=some (.frz o (.dK kvs))∧i<kvs.length,fun i H x H'=>H'=H∧∃ p,kvs[i]? = some p∧x=kV p.1,fun i H=>H d=some (.frz o (.dK kvs))∧kvs.length≤i⟩
theorem xw {X:Cx} {pins:List (Addr × Obj)} {σ:St} {H:Hp} {s:Shared} {d:Addr} {o:Obj} {kvs:List (yp × V)} (I:zI X pins σ H s) (hd:H d=some (.frz o (.dK kvs))) :
  (d==sysModules)=false∧∃ vs es ep,o.data = .dict es ep∧KV kvs vs∧s.heap.DictAt (ya X.prog X.w) d vs ep:=by
 obtain⟨h1,h2,h3,vs,rel,o',es,ep,h4,h5,h6,h7⟩:=I.hok d _ hd
 rw[h1] at h4
 cases h4
 exact⟨h3,vs,es,ep,h6,rel,o,es,h1,h5,h6,h7⟩
theorem Ou {P:Program} {w:World} {K:BFr} {tg:Expr} {d it:Addr} {o:Obj} {kvs:List (yp × V)} {es:Array DictEntry} {ep:Nat} (he:o.data = .dict es ep) :
  Ue P w K tg (cz d o kvs) [it] it (fun i h=>h.IsKeyIter it d i kvs.length ep) where
 mem:=by simp
 obj:=fun i h st b hb=>by
  have e:b=it:=by simpa using hb
  subst e
  obtain⟨o,e,c,d⟩:=st
  exact⟨o,e,fun v z=>by rw[d] at z;cases z⟩
 keep:=fun i h h' st k=>st.at fun o e=>k it (by simp) o e
 item:=by
  intro X hP hw hK hc i pins s σ H E I hf st hg
  subst hP hw hK
  obtain⟨hd,hi⟩:=hg
  obtain⟨_,vs,es',ep',e1,rel,D⟩:=xw I hd
  rw[he] at e1
  cases e1
  have rl:kvs.length=vs.length:=Paired.length rel
  obtain⟨⟨k,v⟩,hx⟩:∃ q,vs[i]? = some q:=⟨_,de (show i<vs.length by omega)⟩
  obtain⟨p,f1,f2,f3⟩:=Jz rel hx
  obtain⟨f0,f1',f2',f3',f4,f5⟩:=hf it (by simp)
  rw[rl] at st
  refine wpAny_pyNext_dict_item st D hx fun key h' hk st' sb=>?_
  have I1:zI X pins σ H { s with heap:=h' }:=I.turned (t':=s.toks) (fun b o hb e=>(sb.2 b hb).trans e) f0 f1' f3' f4 f5
  have st2:=st'
  rw[← rl] at st2
  obtain⟨o',e,c,dd⟩:=id st'
  have g:=GD hk
  have f2:p.1=k:=f2
  rw[← f2] at g
  exact⟨key,rfl,Vb (s:={ s with heap:=h' }) e c dd (by decide) ⟨_,H,I1,g,⟨rfl,p,f1,rfl⟩,st2,fun b hb=>(hf b hb).1⟩⟩
 done:=by
  intro X hP hw hK hc i pins s σ H E I hf st hg
  subst hP hw hK
  obtain⟨hd,hi⟩:=hg
  obtain⟨_,vs,es',ep',e1,rel,D⟩:=xw I hd
  rw[he] at e1
  cases e1
  have rl:kvs.length=vs.length:=Paired.length rel
  obtain⟨f0,f1,f2,f3,f4,f5⟩:=hf it (by simp)
  rw[rl] at st
  exact wpAny_pyNext_dict_end (I.ok.hd hc) st D (Dn (by omega)) fun h' eb=>⟨rfl,I.turned (t':=s.toks) (fun b o hb e=>eb b o hb e) f0 f1 f3 f4 f5⟩
 self:=fun _ _ _ _ _ st h=>wpAny_pyIter_keyiter st h
noncomputable def Gf (tl:TE):TI:=fun σ H R=>tl σ H fun x H1=>∃ d o kvs,x = .ref d∧H1 d=some (.frz o (.dK kvs))∧R (cz d o kvs) H1
theorem Uj {X:Cx} {tg l:Expr} {tl:TE} (hl:PE X l tl):PI X tg l (Gf tl):=by
 intro pins s σ H R I h
 refine yc (hl pins s σ H _ I h) fun v s1 ⟨x,H1,I1,r1,q1⟩=>?_
 obtain⟨d,o,kvs,e,hd,q⟩:=q1
 subst e
 cases r1
 obtain⟨h0,vs,es,ep,e1,rel,D⟩:=xw I1 hd
 have rl:kvs.length=vs.length:=Paired.length rel
 refine wpAny_pyIter_dict h0 D ?_
 refine⟨s1.heap.objs.size,[s1.heap.objs.size],_,_,H1,rfl,I1.kept (t':=s1.toks) fun b o e=>dH _ e,Ou e1,?_,fun b hb=>?_,q⟩
 ·rw[rl]
  exact⟨_,dR _ rfl,rfl,rfl⟩
 ·have e:b=s1.heap.objs.size:=by simpa using hb
  subst e
  exact I1.fpOk (CZ _) (I1.hok.fresh (CZ _))
theorem ZA {H:Hp} {d:Addr} {o:Obj} {kvs:List (yp × V)} (hd:H d=some (.frz o (.dK kvs))):Zw (cz d o kvs) H (kvs.map fun p=>kV p.1):=by
 refine⟨fun i x H' e s=>?_,fun H' s=>⟨s _ _ hd,by rw[CY];exact CZ _⟩⟩
 rw[dj] at e
 obtain⟨p,hp,rfl⟩:=dC.mp e
 exact⟨⟨s _ _ hd,(dF.mp hp).1⟩,fun y H'' ⟨e1,p',h1,h2⟩=>⟨e1,by rw[hp] at h1;cases h1;exact h2⟩⟩
section
variable {X:Cx}
theorem Nh {α β:Type} {f:α→Option β} {g:α→β} (l:List α) (h:∀ k∈l,f k=some (g k)):l.filterMap f=l.map g:=by
 induction l with
 | nil=>rfl
 | cons a r ih =>
  rw[DY,h a dq,dN,ih fun k hk=>h k (dQ _ hk)]
theorem ly (its:List Value):slicePick its.toArray none none (some (-1))=its.reverse.toArray:=by
 have e1:sliceBounds none none (some (-1)) its.toArray.size=((its.length:Int) - 1,-1,-1):=by
  unfold sliceBounds
  simp
 have e2:sliceRange ((its.length:Int) - 1) (-1) (-1)=(List.range its.length).map fun k=>its.length - 1 - k:=by
  unfold sliceRange
  have c:(if (-1:Int) > 0 then (if (its.length:Int) - 1 < -1 then (-1 - ((its.length:Int) - 1) + -1 - 1) / -1 else 0) else if (its.length:Int) - 1 > -1 then ((its.length:Int) - 1 - -1 - -1 - 1)/(- -1) else 0).toNat=its.length:=by
   rw[if_neg (by decide)]
   split
   ·rw[show (- -1:Int)=1 by decide,Int.ediv_one]
    omega
   ·omega
  simp only[c]
  refine DV fun k hk=>?_
  have:=DI.mp hk
  omega
 unfold slicePick
 rw[e1]
 show ((sliceRange ((its.length:Int) - 1) (-1) (-1)).filterMap (its.toArray[·]?)).toArray=_
 rw[e2,List.filterMap_map]
 congr 1
 apply DO
 intro i
 have e3:(List.range its.length).filterMap ((its.toArray[·]?) ∘ fun k=>its.length - 1 - k)=(List.range its.length).map fun k=>its.getD (its.length - 1 - k) .none:=by
  refine Nh _ fun k hk=>?_
  have:=DI.mp hk
  have hl:its.length - 1 - k<its.length:=by omega
  show its.toArray[its.length - 1 - k]? = some _
  rw[List.getElem?_toArray,Df,de hl]
  rfl
 rw[e3,dj]
 by_cases h:i<its.length
 ·rw[fb h,Ey h,EA,Df,de (show its.length - 1 - i<its.length by omega)]
  rfl
 ·rw[Dn (by simpa using h),Dn (by simpa using h)]
  rfl
end
inductive bP (a b c d:Prop):Prop where
 | mk (h1:a) (h2:b) (h3:c) (h4:d):bP a b c d
section
variable {J:It} {D:Addr} {tt:TT} {te:TE} {fin:List V→Hp→Prop} {σ:St} {H:Hp} {ys:List V} {α:Type} {xs:List α} {P:Hp→V→α→Prop} {K:BFr}
theorem Wq {H' H3:Hp} {zs:List V} {cs:List (List V)} {t:Addr} {c:List V} (G:z5 H' zs cs) (hd:H' D=some (.lst zs)) (s3:zw H' H3) (e3:H3 t=some (.tup c)):z5 (upd H3 D (.lst (zs++[.ref t]))) (zs++[.ref t]) (cs++[c]):=by
 refine z5.snoc ((G.same s3).upd fun c z=>?_) ?_
 ·rw[s3 _ _ hd] at z
  cases z
 ·rw[zm (yQ e3 (s3 _ _ hd) (by intro z;cases z))]
  exact e3
theorem wb (W:Zw J H ys) (T:qN H ys xs P) (hD:H D=none) (hz:xs.length<sizeLine) (ψ:α→List V) (he:∀ x∈xs,∀ v H' R,zw H H'→P H' v x→Qy H' (.tup (ψ x)) R→te (σ.set 0 (some v)) H' R) (hf:∀ zs H',zw H H'→H' D=some (.lst zs)→z5 H' zs (xs.map ψ)→fin zs H'):jj J D (z4 0) qK te fin σ (upd H D (.lst [])):=by
 refine jJ W hD (fun i zs H'=>z5 H' zs ((xs.take i).map ψ)) (fun σ'=>∀ x,σ'.set 0 (some x) = σ.set 0 (some x)) (fun _=>rfl) z5.nil ?_ ?_
 ·rintro i y zs σ' H' hy hσ s hd hl G
  obtain⟨x,hx,hP⟩:=T.at_ i y hy
  have tk:xs.take (i+1)=xs.take i++[x]:=by rw[Dg,hx];rfl
  have hi:i<xs.length:=(dF.mp hx).1
  have hσ2:∀ z,(σ'.set 0 (some y)).set 0 (some z) = σ.set 0 (some z):=fun z=>by rw[eB];exact hσ z
  unfold Jt z4
  dsimp only
  refine Pc ?_
  rw[hσ y] at hσ2 ⊢
  refine he x (dZ hx) y _ _ s (hP _ s) fun t H3 s3 n3 e3=>⟨s3 _ _ hd,by omega,hσ2,fun b o z=>?_,zp,?_,?_⟩
  ·rw[zm (zB z hD)]
   exact s3 _ _ (s _ _ z)
  ·rw[dh,Da];omega
  ·rw[tk,dz]
   exact Wq G hd s3 e3
 ·rintro zs H' s hd hl G
  rw[T.len,Dj] at G
  exact hf zs H' s hd G
end
theorem qN.same {α:Type} {H H':Hp} {ys:List V} {xs:List α} {P:Hp→V→α→Prop} (T:qN H ys xs P) (s:zw H H'):qN H' ys xs P:=⟨T.len,fun i y e=>by
 obtain⟨x,h1,h2⟩:=T.at_ i y e
 exact⟨x,h1,fun H'' s'=>h2 H'' (s.trans s')⟩⟩
section
variable {K:BFr} {a b:Addr} {xs ys:List V} {g:TG} {tb:TS} {D:vE} {σ:St} {H:Hp} {lo:Int} {n:Nat}
abbrev MY (J:It) (g:TG) (tb:TS) (D:vE) (σ:St) (H:Hp):Prop:=∃ W:Nat→Nat→St→Hp→Prop,(∃ m,W 0 m σ H)∧∀ i m σ H,W i m σ H →
   (J.stop i H∧D.nx σ H)∨(J.go i H∧∃ N:St→Hp→Prop,(∀ σ' H',N σ' H'→∃ m',m'<m∧W (i+1) m' σ' H')∧∀ x H',J.yld i H x H'→g x σ H' fun σ2 H2=>tb { D with nx:=N,ct:=N,bk:=D.nx } σ2 H2)
theorem vI (Pv:Nat→St→Hp→Prop) (h0:Pv 0 σ H) (hl:∀ i σ H,i≤xs.length→Pv i σ H→zZ K H a xs) (hs:∀ i x σ H,xs[i]? = some x→Pv i σ H→∀ E:vE,(∀ σ' H',Pv (i+1) σ' H'→E.nx σ' H')→g x σ H fun σ2 H2=>tb E σ2 H2) (hd:∀ σ H,Pv xs.length σ H→D.nx σ H):MY (RO K a) g tb D σ H :=
 Lk Pv h0 hl (fun i x σ H hx p=>hs i x σ H hx p _ fun _ _ h=>h) hd
theorem WY (Pv:Nat→St→Hp→Prop) (h0:Pv 0 σ H) (hl:∀ i σ H,i≤xs.length→Pv i σ H→qh K H a xs) (hs:∀ i x σ H,xs[i]? = some x→Pv i σ H→∀ E:vE,(∀ σ' H',Pv (i+1) σ' H'→E.nx σ' H')→g x σ H fun σ2 H2=>tb E σ2 H2) (hd:∀ σ H,Pv xs.length σ H→D.nx σ H):MY (R8 K a) g tb D σ H :=
 m7 Pv h0 hl (fun i x σ H hx p=>hs i x σ H hx p _ fun _ _ h=>h) hd
theorem jG (Pv:Nat→St→Hp→Prop) (h0:Pv 0 σ H) (hs:∀ (i:Nat) σ H,i<n→Pv i σ H→∀ E:vE,(∀ σ' H',Pv (i+1) σ' H'→E.nx σ' H')→g (.int (lo+i)) σ H fun σ2 H2=>tb E σ2 H2) (hd:∀ σ H,Pv n σ H→D.nx σ H):MY (rq lo n) g tb D σ H :=
 OX Pv h0 (fun i σ H hx p=>hs i σ H hx p _ fun _ _ h=>h) hd
end
noncomputable def TL (t u:TS):TS:=fun D σ H=>∃ P:St→Hp→Prop,t { D with nx:=P } σ H∧∀ σ' H',P σ' H'→u D σ' H'
theorem gE {X:Cx} {st:Stmt} {rest:List Stmt} {t u:TS} (h1:PS X st t) (h2:jT X rest u):jT X (st::rest) (TL t u):=by
 intro pins s σ H D I h
 obtain⟨P,h,k⟩:=h
 refine wpAny_execs_cons (yc (h1 pins s σ H { D with nx:=P } I h) fun f s1 q=>?_)
 cases f with
 | next =>
  obtain⟨σ',H',I',q⟩:=q
  exact h2 pins s1 σ' H' D I' (k _ _ q)
 | ret v=>exact q
 | brk=>exact q
 | cont=>exact q
noncomputable def Rp (K:BFr):R2:=fun x y H Q=>∃ a b xs,x = .ref a∧y = .ref b∧zZ K H a xs∧zZ K H b []∧(xs=[]→Q (.bl true) H)∧(xs≠[]→Q (.bl false) H)
theorem P7 {X:Cx} (hu:X.A.units<cLine):wH X (compareOp .Eq) (Rp X.K):=by
 intro pins s σ H x y v u Q I rx ry h
 obtain⟨a,b,xs,rfl,rfl,h1,h2,q1,q2⟩:=h
 cases rx
 cases ry
 obtain⟨us,r1,p1,_⟩:=I.list h1
 obtain⟨ws,r2,p2,_⟩:=I.list h2
 have l1:=r1.length
 have l2:=r2.length
 rw[ES] at l2
 by_cases hl:xs=[]
 ·subst hl
  rw[ES] at l1
  refine SeqAt.eq_listAt p1.isList p2.isList (by simp;omega) hu (e:=fun _=>true) (fun j h1 h2=>?_) ?_
  ·simp at h1
   omega
  ·have:us=[]:=eu.mp l1.symm
   subst this
   exact⟨.bl true,H,I,rfl,q1 rfl⟩
 ·have:0<xs.length:=List.length_pos_iff.mpr hl
  exact SeqAt.eq_list_lengthsAt p1.isList p2.isList (by simp;omega) hu ⟨.bl false,H,I,rfl,q2 hl⟩
theorem Pd {t u:TS} {D:vE} {σ:St} {H:Hp} (P0:St→Hp→Prop) (h1:∀ E:vE,(∀ σ' H',P0 σ' H'→E.nx σ' H')→t E σ H) (h2:∀ σ' H',P0 σ' H'→u D σ' H'):TL t u D σ H:=⟨P0,h1 _ fun _ _ h=>h,h2⟩
theorem jc {CX:kT} {P:Program} {w:World} {K:BFr} {mg:Str→Option Value} {base:Heap} {N:List Str} {qual:Str} {scope:Scope} {f:Addr} {cd:Value} {A:Around} {outer:List Env} {s:Shared} {H:Hp} {E:XK}:(Yx CX P w K mg base N qual scope f cd A outer s H E).K=K:=rfl
theorem vd {X:Cx}:X.nox.K=X.K:=rfl
noncomputable def cG (K:BFr) (u:Nat):R2:=fun x y H Q=>∃ n d,rL d=true∧Is K H n x d∧Is K H n y d∧u+n<cLine∧Q (.bl false) H
theorem LW {X:Cx}:wH X (compareOp .NotEq) (cG X.K X.A.units):=Te
section
variable {X:Cx}
theorem Lh:wH X (binaryOp .Add) (fun x y H Q=>∃ a b xs ys,x = .ref a∧y = .ref b∧qh X.K H a xs∧qh X.K H b ys∧ys≠[]∧xs.length+ys.length≤sizeLine ∧
  (xs=[]→Q (.ref b) H)∧(xs≠[]→Qy H (.tup (xs++ys)) Q)):=by
 intro pins s σ H x y v u Q I rx ry h
 obtain⟨a,b,xs,ys,rfl,rfl,ha,hb,hy,hz,q1,q2⟩:=h
 by_cases e:xs=[]
 ·subst e
  cases rx
  cases ry
  obtain⟨its,r1,p1,_⟩:=I.tuple ha
  obtain⟨its2,r2,p2,_⟩:=I.tuple hb
  cases r1
  obtain⟨⟨cls,dd,data,sl⟩,ho,hc,n,hd⟩:=id p1
  obtain⟨⟨cls2,dd2,data2,sl2⟩,ho2,hc2,n2,hd2⟩:=id p2
  simp only at hc hd hc2 hd2
  subst hc hd hc2 hd2
  exact concat_meets ⟨_,ho,rfl⟩ ⟨_,ho2,rfl⟩ noFill_tuple_add seq_tuple_add PySem.F.slot_tuple_add PySem.F.entry_tuple_add (PySem.F.args_tuple_add_2 _ _) (tuple_addW0 a b _ _ n n2 dd dd2 sl sl2 rfl) ⟨ho,ho2,.ref b,H,I,rfl,q1 rfl⟩
 ·exact nM pins s σ H _ _ v u Q I rx ry ⟨a,b,xs,ys,rfl,rfl,ha,hb,e,hz,fun z=>absurd z hy,fun _ p hp=>(q2 e).at hp⟩
end
end L2
namespace Pg
open PySem L2
noncomputable def js:Sp:=fun vs H Q _=>∃ c k,vs=[.int c,.int k]∧∀ m,0≤m→m<1000003→Q (.int m) H
noncomputable def Vz:Sp:=fun vs H Q _=>∃ c k,vs=[.int c,.int k]∧∀ a H',JM a→zw H H'→Q (.int a) H'
noncomputable def Qd:Sp:=fun vs H Q _=>∃ c k,vs=[.int c,.int k]∧∀ a H',YT a→zw H H'→Q (.int a) H'
noncomputable def Ul:Sp:=fun vs H Q _=>∃ c k,vs=[.int c,.int k]∧∀ w H',YR w→zw H H'→Q (.str w) H'
noncomputable def pe (bs:List Int):Prop:=∀ b∈bs,0≤b
noncomputable def Gk:Sp:=fun vs H Q _=>∃ (c:Int) (n:Nat),vs=[.int c,.int (n:Nat)]∧n≤50∧∀ (bs:List Int) l H',bs.length=n→pe bs→zw H H'→H l=none→H' l=some (.lst (bs.map V.int))→Q (.ref l) H'
noncomputable def GN:Sp:=fun vs H Q _=>∃ z w,vs=[.int z,.str w]∧0≤z∧Q (.int (uc z w)) H
theorem uj {z:Str} {A B:Prop} (h:A):if decide (V.str z=V.str z)=true then A else B:=by
 rw[if_pos (decide_eq_true rfl)]
 exact h
theorem yj {x y:Str} {A B:Prop} (n:x≠y) (h:B):if decide (V.str x=V.str y)=true then A else B:=by
 rw[if_neg fun k=>n (V.str.inj (of_decide_eq_true k))]
 exact h
theorem bQ:("share":Str)≠"flat":=by decide +kernel
theorem Bw:("capped":Str)≠"flat":=by decide +kernel
theorem Bi:("capped":Str)≠"share":=by decide +kernel
theorem b4:("least":Str)≠"flat":=by decide +kernel
theorem bq:("least":Str)≠"share":=by decide +kernel
theorem Bq:("least":Str)≠"capped":=by decide +kernel
theorem lI {bs:List Int} (h:pe bs):0≤bs.sum:=by
 induction bs with
 | nil=>exact Di _
 | cons a r ih =>
  rw[eG]
  exact Int.add_nonneg (h a dq) (ih fun b hb=>h b (dQ _ hb))
theorem RB {i:Int} (h0:0≤i) (h1:i<4):∃ w,atI [V.str "down",.str "up",.str "near",.str "even"] i=some (.str w)∧YR w:=by
 obtain⟨v,ev,mv⟩:=uE (xs:=[V.str "down",.str "up",.str "near",.str "even"]) (i:=i) h0 h1
 simp only[dc,dm,or_false] at mv
 rcases mv with rfl | rfl | rfl | rfl
 ·exact⟨_,ev,by unfold YR;decide +kernel⟩
 ·exact⟨_,ev,by unfold YR;decide +kernel⟩
 ·exact⟨_,ev,by unfold YR;decide +kernel⟩
 ·exact⟨_,ev,by unfold YR;decide +kernel⟩
theorem Xv {H:Hp} (xs:List V):qN H xs xs (fun _ v x=>v=x):=⟨rfl,fun i y h=>⟨y,h,fun _ _=>rfl⟩⟩
theorem OP {r:Rk} (h:Vx r):∀ v∈vp r,(∃ i,v = .int i∧i.natAbs.log2<1920)∨∃ z,v = .str z:=by
 intro v hv
 cases h with
 | flat hn ha =>
  simp only[vp,dc,dm,or_false] at hv
  rcases hv with rfl | rfl | rfl
  ·exact .inr ⟨_,rfl⟩
  ·exact .inr ⟨_,rfl⟩
  ·exact .inl ⟨_,rfl,ZK ha⟩
 | share hn hp hw =>
  simp only[vp,dc,dm,or_false] at hv
  rcases hv with rfl | rfl | rfl | rfl
  ·exact .inr ⟨_,rfl⟩
  ·exact .inr ⟨_,rfl⟩
  ·exact .inl ⟨_,rfl,wB hp⟩
  ·exact .inr ⟨_,rfl⟩
 | capped hn hp ha hw =>
  simp only[vp,dc,dm,or_false] at hv
  rcases hv with rfl | rfl | rfl | rfl | rfl
  ·exact .inr ⟨_,rfl⟩
  ·exact .inr ⟨_,rfl⟩
  ·exact .inl ⟨_,rfl,wB hp⟩
  ·exact .inl ⟨_,rfl,ZK ha⟩
  ·exact .inr ⟨_,rfl⟩
 | least hn hp ha hw =>
  simp only[vp,dc,dm,or_false] at hv
  rcases hv with rfl | rfl | rfl | rfl | rfl
  ·exact .inr ⟨_,rfl⟩
  ·exact .inr ⟨_,rfl⟩
  ·exact .inl ⟨_,rfl,wB hp⟩
  ·exact .inl ⟨_,rfl,ZK ha⟩
  ·exact .inr ⟨_,rfl⟩
theorem pX {r:Rk} (h:Vx r):∃ z l,vp r = .str z::l∧z≠"bands"∧z≠"ontop"∧l.length≤4:=by
 cases h with
 | flat hn ha=>exact⟨_,_,rfl,by decide +kernel,by decide +kernel,dX rfl⟩
 | share hn hp hw=>exact⟨_,_,rfl,by decide +kernel,by decide +kernel,dX rfl⟩
 | capped hn hp ha hw=>exact⟨_,_,rfl,by decide +kernel,by decide +kernel,dX rfl⟩
 | least hn hp ha hw=>exact⟨_,_,rfl,by decide +kernel,by decide +kernel,dX rfl⟩
theorem N7 {r:Rk} (h:Vx r):(Tt r).lookup ("name":Str)=some (.str r.name):=by cases h <;> rfl
theorem Rl {r:Rk} (h:Vx r):atI (vp r) 1=some (.str r.name):=by cases h <;> rfl
theorem ye {H H':Hp} {o dx C:Addr} (o0:H o=none) (d0:H dx=none) (fr:∀ b x,(upd (upd H dx (.own o)) o (.ins C dx [])) b=some x→b≠o→H' b=some x):zw H H':=fun b x hb=>by
 have bo:=zB hb o0
 refine fr b x ?_ bo
 rw[zm bo,zm (zB hb d0)]
 exact hb
theorem mF {bs:List Int} {k:Nat} (h:k<bs.length):atI (bs.map V.int) ((k:Nat):Int)=some (.int (bs.getD k 0)):=q8 (by rw[dj,de h,Df,de h];rfl)
section
variable {K:BFr} {ea C:Addr} {σ:St}
end
open PySem.NumText
noncomputable def wh (u:List Nat):List Nat:=u.take (u.length - 3)
noncomputable def GO (l:List Nat):Bool:=Za l&&(decide (l=[48]) || !decide (l.head? = some 48))
noncomputable def gS:Sp:=fun vs H Q _=>∃ z,vs=[.str z]∧z.length≤1000∧∀ H',zw H H'→Q (.bl (GO z.cps.toList)) H'
theorem gq (z y:Str):decide (V.str z=V.str y)=decide (z.cps.toList=y.cps.toList):=decide_eq_decide.mpr ⟨fun h=>by injection h with h;rw[h],fun h=>by rw[V8 h]⟩
theorem Xx (z:Str) (c:Nat):Txt.startswith z ⟨#[c]⟩=decide (z.cps.toList.head? = some c):=by
 unfold Txt.startswith Builtin.Str.subAt
 obtain⟨⟨l⟩⟩:=z
 show (decide (0+1≤l.length)&&((Array.mk l).extract 0 (0+1) == #[c]))=decide (l.head? = some c)
 cases l with
 | nil=>rfl
 | cons a l =>
  have e:(Array.mk (a::l)).extract 0 (0+1) = #[a]:=by
   apply Array.ext'
   simp
  rw[e,decide_eq_true (by rw[dW];omega),Ec]
  by_cases h:a=c
  ·subst h
   simp
  ·rw[decide_eq_false (by intro q;exact h (Option.some.inj q))]
   simp[h]
theorem U6:("0":Str)=⟨#[48]⟩:=by decide +kernel
end Pg
namespace Pg
open PySem L2
noncomputable def smC:List Nat:=[97,99,100,102,103,104,105,106,107,108,111,112,113,114,116,117,118,119,120,121,122]
noncomputable def ZX (c:Nat):Bool:=smC.contains c
theorem mO:("acdfghijklopqrtuvwxyz":Str).cps.toList=smC:=by decide +kernel
theorem bT {i:Int} (h0:0≤i) (h1:i<21):∃ c,atI ("acdfghijklopqrtuvwxyz":Str).cps.toList i=some c∧ZX c=true:=by
 rw[mO]
 obtain⟨c,e,m⟩:=uE (xs:=smC) h0 h1
 exact⟨c,e,Dp.mpr m⟩
theorem Xm {c:Nat} (h:ZX c=true):xl c=true:=by
 have m:=Dp.mp h
 have all:smC.all xl=true:=by decide +kernel
 exact Dc.mp all c m
theorem QP {z:Str} (h1:1≤z.cps.toList.length) (h2:z.cps.toList.length≤8) (h3:z.cps.toList.all xl=true) (h4:∀ w∈noNames,z.cps.toList≠w.cps.toList):yh z:=by
 refine⟨⟨by rw[zY];exact h1,by rw[zY];exact h2,h3⟩,?_⟩
 cases e:noNames.contains z with
 | false=>rfl
 | true=>exact absurd rfl (h4 z (Dp.mp e))
theorem tG:∀ w∈noNames,2≤w.cps.toList.countP (fun c=>!ZX c):=by
 have all:(noNames.all fun w=>decide (2≤w.cps.toList.countP (fun c=>!ZX c)))=true:=by decide +kernel
 exact fun w h=>of_decide_eq_true (Dc.mp all w h)
theorem B5:∀ w∈noNames,w.cps.toList.head?≠some 113:=by
 have all:(noNames.all fun w=>decide (w.cps.toList.head?≠some 113))=true:=by decide +kernel
 exact fun w h=>of_decide_eq_true (Dc.mp all w h)
theorem QE {l:List Nat} (h:∀ c∈l,ZX c=true):l.countP (fun c=>!ZX c)=0:=by
 rw[List.countP_eq_zero]
 intro c hc
 rw[h c hc]
 decide
theorem G1 {z:Str} {fs:List Nat} {c k m:Nat} (hf:∀ c∈fs,ZX c=true) (hl:fs.length=7) (hc:xl c=true) (hk:k≤m) (hm:m≤7) (e:z.cps.toList=fs.take k++[c]++(fs.drop k).take (m - k)):yh z:=by
 have ha:∀ x∈fs.take k,ZX x=true:=fun x hx=>hf x (eF hx)
 have hb:∀ x∈(fs.drop k).take (m - k),ZX x=true:=fun x hx=>hf x (List.mem_of_mem_drop (eF hx))
 have len:z.cps.toList.length=m+1:=by
  rw[e,dh,dh,dP,dP,Dr,hl,Da]
  omega
 refine QP (by omega) (by omega) ?_ fun w hw ew=>?_
 ·rw[e,EJ,EJ,dY,dY]
  refine⟨⟨Dc.mpr fun x hx=>Xm (ha x hx),?_⟩,Dc.mpr fun x hx=>Xm (hb x hx)⟩
  show (xl c&&true)=true
  rw[hc]
  rfl
 ·have t:=tG w hw
  rw[← ew,e,List.countP_append,List.countP_append,QE ha,QE hb] at t
  have:[c].countP (fun c=>!ZX c)≤1:=List.countP_le_length
  omega
theorem Me {z:Str} {fs:List Nat} {k:Nat} (hf:∀ c∈fs,ZX c=true) (hl:fs.length=7) (e:z.cps.toList=113::fs.take k):yh z:=by
 refine QP ?_ ?_ ?_ fun w hw ew=>?_
 ·rw[e]
  exact Ej (d6 _)
 ·rw[e,dW,dP,hl]
  omega
 ·rw[e,DX,dY]
  exact⟨by decide +kernel,Dc.mpr fun x hx=>Xm (hf x (eF hx))⟩
 ·have t:=B5 w hw
  rw[← ew,e] at t
  exact t rfl
noncomputable def okNames:List Str:=["bases","nets","months","sum","ne","basis","bet","sumsum","netnet","mont"]
theorem xQ:∀ z∈okNames,yh z:=by
 have all:(okNames.all fun z=>decide (1≤z.cps.toList.length)&&decide (z.cps.toList.length≤8)&&z.cps.toList.all xl&&noNames.all fun w=>decide (z.cps.toList≠w.cps.toList))=true:=by decide +kernel
 intro z hz
 have h:=Dc.mp all z hz
 rw[dY,dY,dY] at h
 exact QP (of_decide_eq_true h.1.1.1) (of_decide_eq_true h.1.1.2) h.1.2 fun w hw=>of_decide_eq_true (Dc.mp h.2 w hw)
theorem kQ (z:Str) (k:Nat):(Txt.slice z none (some ((k:Nat):Int))).cps.toList=z.cps.toList.take k:=by
 rw[ux]
 unfold Xq
 rw[HT.vS,HT.vh,DF,DQ]
 by_cases h:k≤z.cps.toList.length
 ·rw[Dv h]
 ·rw[eZ (by omega),Do (CZ _),Do (by omega)]
theorem Md (z:Str) (k m:Nat) (h:m≤z.cps.toList.length) (hk:k≤m):(Txt.slice z (some ((k:Nat):Int)) (some ((m:Nat):Int))).cps.toList=(z.cps.toList.drop k).take (m - k):=by
 rw[ux]
 unfold Xq
 rw[HT.vS,HT.vS,Dv h,Dv (dG hk h)]
theorem P8 {p:Str→Prop}:∀ {zs:List V},(∀ u∈zs,∃ z,u = .str z∧p z)→∃ nms:List Str,zs=nms.map V.str∧∀ z∈nms,p z:=by
 intro zs
 induction zs with
 | nil=>exact fun _=>⟨[],rfl,fun z h=>nomatch h⟩
 | cons u r ih =>
  intro h
  obtain⟨z,rfl,hz⟩:=h u dq
  obtain⟨nms,e,hn⟩:=ih fun v hv=>h v (dQ _ hv)
  refine⟨z::nms,by rw[e];rfl,fun y hy=>?_⟩
  rcases dc.mp hy with rfl | hy
  ·exact hz
  ·exact hn y hy
theorem LM {p:Nat→Prop}:∀ {zs:List V},(∀ u∈zs,∃ c,u = .str ⟨#[c]⟩∧p c)→∃ cs:List Nat,zs=(cs.map fun c=>(⟨#[c]⟩:Str)).map V.str∧∀ c∈cs,p c:=by
 intro zs
 induction zs with
 | nil=>exact fun _=>⟨[],rfl,fun z h=>nomatch h⟩
 | cons u r ih =>
  intro h
  obtain⟨z,rfl,hz⟩:=h u dq
  obtain⟨nms,e,hn⟩:=ih fun v hv=>h v (dQ _ hv)
  refine⟨z::nms,by rw[e];rfl,fun y hy=>?_⟩
  rcases dc.mp hy with rfl | hy
  ·exact hz
  ·exact hn y hy
theorem Mu {α:Type} {zs:List V} {xs:List α} {p:V→Prop} (h:∀ (i:Nat) u,zs[i]? = some u→∃ x,xs[i]? = some x∧p u):∀ u∈zs,p u:=fun u hu=>by
 obtain⟨i,hi⟩:=DU.mp hu
 obtain⟨_,_,hp⟩:=h i u hi
 exact hp
theorem bW {p:Nat→Prop} (h0:p 0) (h1:p 1) (h2:p 2) (h3:p 3):∀ i,i<4→p i
 | 0,_=>h0
 | 1,_=>h1
 | 2,_=>h2
 | 3,_=>h3
theorem BB {p:Str→Prop} (h1:p "name") (h2:p "amount") (h3:p "parts") (h4:p "way") (h5:p "most") (h6:p "least"):∀ x∈(["name","amount","parts","way","most","least"]:List Str),p x:=by
 intro x hx
 simp only[dc,dm,or_false] at hx
 rcases hx with rfl | rfl | rfl | rfl | rfl | rfl <;> assumption
end Pg
namespace ST
open PySem PySem.Spec PyProof.Rows
noncomputable def own:List Char:="set_iterator".toList.reverse
section
variable {prog:Program} {w:World} {A:Around} {E:Value→Shared→Prop} {s:Shared}
end
section
variable {prog:Program} {w:World} {A:Around} {E:Value→Shared→Prop} {s:Shared}
noncomputable def Bo (first:Value) (i n ep:Nat) (S:Addr):Obj:={ cls:=.type "set_iterator",dict:=none,data:=.fields #[first,rawInt i,.ref S,rawInt n,rawInt ep],slots:=#[] }
noncomputable def MA (es:Array (Int × Value)) (t:SetTable):Bool:=!t.plain&&decide (es.size > 1)
noncomputable def Tj (t:SetTable) (i:Nat):Nat:=if i=0 then 0 else t.place.getD (i - 1) 0+1
inductive Gj (w:World) (es:Array (Int × Value)) (ep:Nat) (t:SetTable) (S T:Addr) (ord:List Value) (h:Heap) (i:Nat):Value→Prop
 | text (k:Nat):wX w=true→ord=(pickOrder (w.params.setOrder S ep) es).toList.map (·.2)→Gj w es ep t S T ord h i (rawInt k)
 | table:wX w=false→MA es t=false→vw true t→ord=es.toList.map (·.2)→Gj w es ep t S T ord h i (rawInt (Tj t i))
 | drawn (ps:List Nat):wX w=false→h.get? T=some (seqObj "tuple" (ps.map fun (p:Nat)=>rawInt p).toArray 0)→ps.Perm (List.range es.size)→ord=ps.map (fun p=>(es.getD p (0,.none)).2)→Gj w es ep t S T ord h i (.ref T)
end
section
variable {prog:Program} {w:World} {A:Around} {E:Value→Shared→Prop} {s:Shared}
structure It (w:World) (es:Array (Int × Value)) (ep:Nat) (t:SetTable) (S T I:Addr) (ord:List Value) (i:Nat) (h:Heap):Prop where
 it:∃ first,h.get? I=some (Bo first i es.size ep S)∧Gj w es ep t S T ord h i first
 set:∃ o,h.get? S=some o∧o.data = .set es ep t
 fits:t.fits es.size=true
end
section
variable {prog:Program} {w:World} {A:Around} {E:Value→Shared→Prop} {s:Shared}
end
section
variable {prog:Program} {w:World} {A:Around} {E:Value→Shared→Prop} {s:Shared}
end
section
variable {prog:Program} {w:World} {A:Around} {E:Value→Shared→Prop} {s:Shared}
end
section
variable {prog:Program} {w:World} {A:Around} {E:Value→Shared→Prop} {s:Shared}
end
end ST
namespace L2
open PySem PySem.Spec PyProof.Rows
section
variable {X:Cx} {pins:List (Addr × Obj)} {σ:St} {H:Hp} {s:Shared} {a:Expr} {ta:TA} {p1 p2 p3 pos:Pos}
theorem Jx:∀ {us:List Value} {ys:List Int},IntsAre us ys→zX (ys.map V.int) us:=by
 intro us ys h
 induction h with
 | nil=>exact .nil
 | cons n t _ ih=>exact .cons ⟨t,rfl⟩ ih
end
section
variable {X:Cx} {A:Around} {E:Value→Shared→Prop} {pins:List (Addr × Obj)} {σ:St} {H:Hp} {s:Shared} {r:Addr} {Q:VK} {OK:List Str→Prop}
end
section
variable {X:Cx} {a:Expr} {ta:TA} {p1 p2 p3 pos:Pos}
end
section
variable {X:Cx} {tg a:Expr} {ta:TA} {p pos:Pos}
end
end L2
namespace PySem
namespace F
theorem JT:Manifest.owners.lookup (String.ofList ['d','e','s','r','e','v','e','r'].reverse)=some Manifest.sig_reversed:=by kernel_rfl
theorem Jl:Slot "reversed" "__init__" "object.__init__" :=
 .of (owner:="object") (n:="__init__") (by rw[typeLookup_type,builtinLookup_eq_fast];kernel_rfl) (by decide +kernel) (by decide +kernel) (by decide +kernel)
  (by first | exact .inl (by decide +kernel) | exact .inr (by decide +kernel)) (by rw[isSubtype_type];kernel_rfl)
theorem yV:Slot "reversed" "__next__" "reversed.__next__" :=
 .of (owner:="reversed") (n:="__next__") (by rw[typeLookup_type,builtinLookup_eq_fast];kernel_rfl) (by decide +kernel) (by decide +kernel) (by decide +kernel)
  (by first | exact .inl (by decide +kernel) | exact .inr (by decide +kernel)) (by rw[isSubtype_type];kernel_rfl)
theorem uy:entryFor table "reversed.__next__" = some Builtin.«reversed.__next__»:=entryFor_of_tree (by kernel_rfl)
theorem uh (a:Value):argsOk "reversed.__next__" ⟨[a],[]⟩:=by
 unfold argsOk;rw[signature?_of (id:="reversed.__next__") (n:=['_','_','t','x','e','n','_','_']) (o:=['d','e','s','r','e','v','e','r']) (by kernel_rfl) JT];kernel_rfl
theorem wK:Slot "reversed" "__iter__" "reversed.__iter__" :=
 .of (owner:="reversed") (n:="__iter__") (by rw[typeLookup_type,builtinLookup_eq_fast];kernel_rfl) (by decide +kernel) (by decide +kernel) (by decide +kernel)
  (by first | exact .inl (by decide +kernel) | exact .inr (by decide +kernel)) (by rw[isSubtype_type];kernel_rfl)
theorem Z7 (a:Value):argsOk "reversed.__iter__" ⟨[a],[]⟩:=by
 unfold argsOk;rw[signature?_of (id:="reversed.__iter__") (n:=['_','_','r','e','t','i','_','_']) (o:=['d','e','s','r','e','v','e','r']) (by kernel_rfl) JT];kernel_rfl
theorem Yr:entryFor table "reversed.__iter__" = some Builtin.«dict_keyiterator.__iter__» :=
 entryFor_alias (id':="dict_keyiterator.__iter__") (by kernel_rfl) (by first | rfl | decide +kernel | (unfold String.splitOn;simp +decide [String.splitOnAux])) (by decide +kernel) (by kernel_rfl)
theorem XA:TypeCalled "reversed" "reversed.__new__" "object.__init__" :=
 ⟨by decide +kernel,by decide +kernel,⟨_,_,mro_reversed⟩,madeBy_type mro_reversed lookup_reversed_new (by decide +kernel),by decide +kernel,by rw[isSubtype_type];kernel_rfl,Jl⟩
theorem WG:typeLookup (.type "tuple") "__reversed__" = pure none:=by rw[typeLookup_type,builtinLookup_eq_fast];kernel_rfl
end F
end PySem
namespace L2
open PySem PySem.Spec PyProof.Rows
noncomputable def XI (l:Addr) (i:Int):Obj:={ cls:=.type "reversed",data:=.fields #[.ref l,rawInt i] }
noncomputable def uM (h:Heap) (a l:Addr) (i:Int):Prop:=∃ o,h.get? a=some o∧o.cls = .type "reversed"∧o.data = .fields #[.ref l,rawInt i]
theorem uM.typeIs {s:Shared} {a l:Addr} {i:Int} (x:uM s.heap a l i):s.TypeIs (.ref a) "reversed":=let ⟨o,ho,hc,_⟩:=x;⟨o,ho,hc⟩
theorem uM.at {h h':Heap} {a l:Addr} {i:Int} (x:uM h a l i) (e:∀ o,h.get? a=some o→h'.get? a=some o):uM h' a l i:=let ⟨o,ho,r⟩:=x;⟨o,e _ ho,r⟩
section
variable {prog:Program} {w:World} {A:Around} {E:Value→Shared→Prop} {s:Shared}
theorem Jf (t:Addr) (items:Array Value) (hfit:(items.size:Int)<2 ^ 63) :
  Meets (Builtin.«reversed.__new__» ⟨[.type "reversed",.ref t],[]⟩) (fun _ R s=>IsTup s.heap t items∧∀ tk,R (.ok (.ret (.ref s.heap.objs.size))) { s with heap:=s.heap.push (XI t ((items.size:Int) - 1)),toks:=tk }) :=
 .of_wp fun prog w A R s h=>by
  obtain⟨ht,h⟩:=h
  unfold Builtin.«reversed.__new__»
  refine wpAny_bind (wpAny_of_eq (newClass_reversed _) ?_)
  try dsimp only
  refine wpAny_bind (wpAny_of_eq (a:=()) (by first | rfl | kernel_rfl) ?_)
  refine wpAny_bind (wpAny_of_eq (a:=()) (by first | rfl | kernel_rfl) ?_)
  try dsimp only
  refine wpAny_bind (wpAny_specialOf ht.typeIs F.WG ?_)
  try dsimp only
  refine wpAny_bind (wpAny_bind (wpAny_isInstance ht.typeIs F.sub_tuple_dict ?_))
  rw[if_neg dJ]
  refine wpAny_bind (wpAny_specialOf ht.typeIs F.slot_tuple_getitem.lookup ?_)
  try dsimp only
  rw[if_pos (by decide +kernel)]
  refine wpAny_pure ?_
  try dsimp only
  rw[if_neg (by decide)]
  refine wpAny_bind (len_tuple ht hfit ?_)
  try dsimp only
  refine wpAny_bind (wpAny_of_eq (a:=some (items.size:Int)) rfl ?_)
  try dsimp only
  refine wpAny_bind (m:=newObj (.type "reversed") (.fields #[.ref t,rawInt ((items.size:Int) - 1)])) (wpAny_newObj_type ?_)
  exact wpAny_pure ⟨_,rfl,h _⟩
theorem pE {t:Addr} {items:Array Value} {Q:Value→Shared→Prop} (ht:IsTup s.heap t items) (hfit:(items.size:Int)<2 ^ 63) (h:∀ tk,Q (.ref s.heap.objs.size) { s with heap:=s.heap.push (XI t ((items.size:Int) - 1)),toks:=tk }):wpAny (model prog w) A (call (.type "reversed") [.ref t]) Q E s:=by
 refine callType_new F.XA (by decide) (F.typeCall_reversed_1 _) (F.newCall_reversed_1 _) (fun obj=>F.args_object_init_2 obj _) F.entry_reversed_new (Jf t items hfit) ⟨ht,fun tk=>?_⟩
 exact⟨⟨_,dR _ rfl,rfl⟩,h tk⟩
theorem Y4 {it t:Addr} {i:Nat} {items:Array Value} {x:Value} {Q:Option Value→Shared→Prop} (hit:uM s.heap it t (i:Int)) (ht:IsTup s.heap t items) (hx:items[i]? = some x) (hfit:(items.size:Int)<2 ^ 63) (hQ:∀ h' tk,uM h' it t ((i:Int) - 1)→Heap.SameBut it s.heap h'→Q (some x) { s with heap:=h',toks:=tk }):wpAny (model prog w) A (pyNext (.ref it)) Q E s:=by
 obtain⟨o,ho,hc,hd⟩:=id hit
 have hi:i<items.size:=(Dx.mp hx).1
 unfold pyNext
 refine wpAny_bind (wpAny_attempt (wpAny_callSpecial?_slot (name:=Str.ofString "__next__") hit.typeIs F.yV
  (wpAny_call_entry F.yV hit.typeIs F.uy ?_ (F.uh _))))
 unfold Builtin.«reversed.__next__»
 refine wpAny_bind (wpAny_of_eq (a:=(Value.ref it,[])) rfl ?_)
 try dsimp only
 refine wpAny_bind (wpAny_field ho hd (x:=.ref t) rfl ?_)
 refine wpAny_bind (wpAny_field ho hd (x:=rawInt (i:Int)) rfl ?_)
 show wpAny _ _ (if (i:Int)<0 then _ else _) _ _ s
 rw[if_neg (by omega)]
 refine wpAny_bind (wpAny_specialOf ht.typeIs F.slot_tuple_getitem.lookup ?_)
 try dsimp only
 rw[if_neg (by simp)]
 refine wpAny_bind (wpAny_mkInt ?_)
 refine wpAny_bind (wpAny_attempt (getItem_tuple (s:={ s with toks:=s.toks+1 }) ht (by omega) (by omega) (j:=i) (x:=x) ?_ hx ?_))
 ·exact PySem.seqIndex_of (by omega) (by omega)
 try dsimp only
 refine wpAny_bind (wpAny_field ho hd (x:=rawInt (i:Int)) rfl ?_)
 show wpAny _ _ (setField (.ref it) 1 (rawInt ((i:Int) - 1)) >>= _) _ _ _
 refine wpAny_bind (wpAny_setField ho hd (by simp) ?_)
 first
 | refine wpAny_pure ⟨x,rfl,wpAny_pure (hQ _ _ ?_ (Heap.SameBut.update ..))⟩
 | refine wpAny_bind (wpAny_pure (wpAny_pure ⟨x,rfl,wpAny_pure (hQ _ _ ?_ (Heap.SameBut.update ..))⟩))
 exact⟨_,eV _ ho (Obj.isFreed_of_fields (Obj.data_mapFields hd _)),(Obj.cls_mapFields ..).trans hc,by
  rw[Obj.data_mapFields hd];simp⟩
theorem VZ {it t:Addr} {Q:Option Value→Shared→Prop} (hh:A.handled=none) (hit:uM s.heap it t (-1)) (hQ:∀ h',Heap.ExtBut it s.heap h'→Q none { s with heap:=h' }):wpAny (model prog w) A (pyNext (.ref it)) Q E s:=by
 obtain⟨o,ho,hc,hd⟩:=id hit
 unfold pyNext
 refine wpAny_bind (wpAny_attempt (wpAny_callSpecial?_slot (name:=Str.ofString "__next__") hit.typeIs F.yV
  (wpAny_call_entry F.yV hit.typeIs F.uy ?_ (F.uh _))))
 unfold Builtin.«reversed.__next__»
 refine wpAny_bind (wpAny_of_eq (a:=(Value.ref it,[])) rfl ?_)
 try dsimp only
 refine wpAny_bind (wpAny_field ho hd (x:=.ref t) rfl ?_)
 refine wpAny_bind (wpAny_field ho hd (x:=rawInt (-1)) rfl ?_)
 show wpAny _ _ (if (-1:Int)<0 then _ else _) _ _ s
 rw[if_pos (by decide)]
 refine wpAny_bind (wpAny_rule ?_)
 refine wpAny_bind (wpAny_bind (wpAny_setField ho hd (by simp) ?_))
 have hd2:(o.mapFields fun fs=>fs.set! 1 (rawInt (-1))).data = .fields #[.ref t,rawInt (-1)]:=by rw[Obj.data_mapFields hd];rfl
 refine wpAny_setField (eV _ ho (Obj.isFreed_of_fields (Obj.data_mapFields hd _))) hd2 (by simp) ?_
 first
 | show wpAny _ _ (newExc (.type "StopIteration") [] >>= _) _ _ _
 | (refine wpAny_bind ?_;show wpAny _ _ (newExc (.type "StopIteration") [] >>= _) _ _ _)
 refine wpAny_bind ?_
 simp only[newExc,newTuple]
 refine wpAny_bind (wpAny_newObj_type ?_ (by size_fits))
 refine wpAny_bind (m:=firstArgMember _ _) (wpAny_of_eq (a:=Value.none) (by first | rfl | (simp only[firstArgMember];rfl)) ?_)
 refine wpAny_newObj_type ?_ (by size_fits)
 simp only[raiseNew]
 refine wpAny_bind (wpAny_handled ?_)
 first | rw[show A.in1.handled=none from hh] | rw[hh]
 refine wpAny_bind (wpAny_pure (wpAny_throw ?_))
 refine wpAny_bind (wpAny_isInstance (T:="StopIteration") (b:=true) ⟨_,dR _ rfl,rfl⟩ isSubtype_stop ?_)
 exact wpAny_pure (hQ _ (((((Heap.SameBut.update ..).extBut.trans (Heap.SameBut.update ..).extBut)).push _).push _))
theorem Wo {it t:Addr} {i:Int} {Q:Value→Shared→Prop} (hit:uM s.heap it t i) (h:Q (.ref it) s):wpAny (model prog w) A (pyIter (.ref it)) Q E s:=by
 refine wpAny_pyIter_slot hit.typeIs F.wK (wpAny_call_entry F.wK hit.typeIs F.Yr ?_ (F.Z7 _))
 show wpAny _ _ (ret (.ref it)) _ _ s
 exact wpAny_pure ⟨_,rfl,"reversed",_,hit.typeIs,F.yV.lookup,h⟩
end
noncomputable def RM (K:BFr) (a:Addr) (n:Nat):It :=
 ⟨fun i H=>i<n∧∃ xs,qh K H a xs∧xs.length=n,fun i H x H'=>H'=H∧∀ xs,qh K H a xs→xs[n - 1 - i]? = some x,fun i _=>i=n⟩
theorem lU {P:Program} {w:World} {K:BFr} {tg:Expr} (a it:Addr) (n:Nat):Ue P w K tg (RM K a n) [it] it (fun i h=>uM h it a ((n:Int) - 1 - (i:Nat))) where
 mem:=by simp
 obj:=fun i h st b hb=>by
  have e:b=it:=by simpa using hb
  subst e
  obtain⟨o,e,c,d⟩:=st
  exact⟨o,e,fun v z=>by rw[d] at z;cases z⟩
 keep:=fun i h h' st k=>st.at fun o e=>k it (by simp) o e
 item:=by
  intro X hP hw hK hc i pins s σ H E I hf st hg
  subst hP hw hK
  obtain⟨hi,xs,hq,hn⟩:=hg
  obtain⟨its,rv,p,hz⟩:=I.tuple hq
  have hl:=rv.length
  rw[sizeLine_eq] at hz
  obtain⟨x,hx⟩:∃ x,xs[n - 1 - i]? = some x:=⟨_,de (show n - 1 - i<xs.length by omega)⟩
  obtain⟨u,hu,ru⟩:=rv.get hx
  obtain⟨f0,f1,f2,f3,f4,f5⟩:=hf it (by simp)
  have e1:((n:Int) - 1 - (i:Nat))=((n - 1 - i:Nat):Int):=by omega
  have st:=st
  rw[e1] at st
  refine Y4 st p (x:=u) (by simpa using hu) (by rw[dD];omega) fun h' tk st' sb=>?_
  have I1:zI X pins σ H { s with heap:=h',toks:=tk }:=I.turned (t':=tk) (fun b o hb e=>(sb.2 b hb).trans e) f0 f1 f3 f4 f5
  obtain⟨o,e,c,d⟩:=id st'
  have e2:((n - 1 - i:Nat):Int) - 1=((n:Int) - 1 - ((i+1:Nat):Int)):=by omega
  rw[e2] at st'
  exact⟨u,rfl,Vb (s:={ s with heap:=h',toks:=tk }) e c d (by decide) ⟨x,H,I1,ru,⟨rfl,fun ys hy=>by rw[I.tuple_inj hy hq];exact hx⟩,st',fun b hb=>(hf b hb).1⟩⟩
 done:=by
  intro X hP hw hK hc i pins s σ H E I hf st hg
  subst hP hw hK
  have hg:i=n:=hg
  subst hg
  obtain⟨f0,f1,f2,f3,f4,f5⟩:=hf it (by simp)
  have st:=st
  rw[show ((i:Int) - 1 - (i:Nat)) = -1 by omega] at st
  exact VZ (I.ok.hd hc) st fun h' eb=>⟨rfl,I.turned (t':=s.toks) (fun b o hb e=>eb b o hb e) f0 f1 f3 f4 f5⟩
 self:=fun _ _ _ _ _ st h=>Wo st h
noncomputable def b8 (K:BFr) (ta:TA):TI:=fun σ H R=>ta σ H fun vs H1=>∃ a xs,vs=[.ref a]∧qh K H1 a xs∧R (RM K a xs.length) H1
section
variable {X:Cx} {tg a:Expr} {ta:TA} {p pos:Pos}
theorem Ry (hg:Gl X "reversed") (hm:X.mg "reversed" = none) (ha:PA X [a] ta) (hs:starEach [a] X.env=[(false,eval a X.env)]:=by rfl) :
  PI X tg (.Call (.Name "reversed" p) [a] [] pos) (b8 X.K ta):=by
 intro pins s σ H R I h
 refine Call_ (uA I hg hm boot_reversed (PyProof.Rows.callWith_type1 (yc (ha pos pins s σ H _ I h) fun us s1 ⟨vs,H1,I1,r1,q1⟩=>?_) hs rfl))
 obtain⟨l,xs,e,h1,q⟩:=q1
 subst e
 cases r1 with
 | cons r rr =>
  cases rr
  cases r
  obtain⟨its,rv,pl,hz⟩:=I1.tuple h1
  have hl:=rv.length
  rw[sizeLine_eq] at hz
  refine pE pl (by rw[dD];omega) fun tk=>?_
  have hd:uM (s1.heap.push (XI l ((its.toArray.size:Int) - 1))) s1.heap.objs.size l ((xs.length:Int) - 1):=⟨_,dR _ rfl,rfl,by
   show Data.fields #[.ref l,rawInt ((its.toArray.size:Int) - 1)]=_
   rw[dD,hl]⟩
  refine Wo hd ?_
  refine⟨s1.heap.objs.size,[s1.heap.objs.size],_,_,H1,rfl,I1.kept (t':=tk) fun b o e=>dH _ e,lU l _ xs.length,?_,fun b hb=>?_,q⟩
  ·rw[Int.natCast_zero,Int.sub_zero]
   exact hd
  have e:b=s1.heap.objs.size:=by simpa using hb
  subst e
  exact I1.fpOk (CZ _) (I1.hok.fresh (CZ _))
end
theorem Pe {K:BFr} {a:Addr} {xs:List V} {g:TG} {tb:TS} {D:vE} {σ:St} {H:Hp} (Pv:Nat→St→Hp→Prop) (h0:Pv 0 σ H) (hl:∀ i σ H,i≤xs.length→Pv i σ H→qh K H a xs) (hs:∀ i x σ H,i<xs.length→xs[xs.length - 1 - i]? = some x→Pv i σ H→∀ E:vE,(∀ σ' H',Pv (i+1) σ' H'→E.nx σ' H')→E.rt=D.rt→g x σ H fun σ2 H2=>tb E σ2 H2) (hd:∀ σ H,Pv xs.length σ H→D.nx σ H):MY (RM K a xs.length) g tb D σ H:=by
 refine⟨fun i m σ H=>m=xs.length - i∧i≤xs.length∧Pv i σ H,⟨xs.length,by simp,d6 _,h0⟩,?_⟩
 rintro i m σ H ⟨rfl,hi,p⟩
 have q:=hl i σ H hi p
 by_cases hlt:i<xs.length
 ·refine .inr ⟨⟨hlt,xs,q,rfl⟩,Pv (i+1),fun σ' H' p'=>⟨xs.length - (i+1),by omega,rfl,hlt,p'⟩,fun x H' y=>?_⟩
  obtain⟨rfl,y⟩:=y
  exact hs i x σ _ hlt (y xs q) p _ (fun _ _ h=>h) rfl
 ·have e:i=xs.length:=by omega
  subst e
  exact .inl ⟨rfl,hd σ H p⟩
end L2
namespace Pg
open PySem L2
noncomputable def rG (a b:Int):Int:=if b > a then b else a
noncomputable def g7 (a b:Int):Int:=if b<a then b else a
noncomputable def oO (r:List (Int × Int)) (t:Int):Int:=match r with
 | []=>t
 | q::_=>g7 t q.1
noncomputable def pc (b:Int) (r:List (Int × Int)) (t:Int):Int:=rG 0 (oO r t - b)
noncomputable def mU:List (Int × Int)→Int→List Int
 | [],_=>[]
 | q::r,t=>pc q.1 r t::mU r t
noncomputable def kI:List (Int × Int)→Int→Int
 | [],_=>0
 | q::r,t=>q.2*pc q.1 r t+kI r t
noncomputable def Up (ps:List (Int × Int)):Prop:=ps.Pairwise fun x y=>x.1<y.1
noncomputable def Ba (q s:Int × Int):Int × Int:=if s.1 > q.1 then (q.1,s.2+(s.1 - q.1)*q.2) else s
theorem R9 (r:List (Int × Int)) (t:Int):oO r t≤t:=by
 cases r with
 | nil=>exact Di _
 | cons q r =>
  show g7 t q.1≤t
  unfold g7
  split <;> omega
theorem Bu (b:Int) (r:List (Int × Int)) (t:Int):0≤pc b r t:=by
 unfold pc rG
 split <;> omega
theorem pY {ps:List (Int × Int)} (h:Up ps) (t:Int):ps.foldr Ba (t,0)=(oO ps t,kI ps t):=by
 induction ps with
 | nil=>rfl
 | cons q r ih =>
  have h2:=DE.mp h
  rw[List.foldr_cons,ih h2.2]
  have le:=R9 r t
  show (if oO r t > q.1 then (q.1,kI r t+(oO r t - q.1)*q.2) else (oO r t,kI r t))=(g7 t q.1,q.2*pc q.1 r t+kI r t)
  unfold pc rG g7
  by_cases c:oO r t > q.1
  ·rw[if_pos c,if_pos (show q.1<t by omega),if_pos (by omega),Int.mul_comm q.2,Int.add_comm]
  ·rw[if_neg c,if_neg (show ¬ oO r t - q.1 > 0 by omega),Ek,DD]
   refine Prod.ext ?_ rfl
   show oO r t=if q.1<t then q.1 else t
   cases r with
   | nil =>
    have c:¬ t > q.1:=c
    rw[if_neg (by omega)]
    rfl
   | cons q' r' =>
    have lt:=h2.1 q' dq
    have c:¬ g7 t q'.1 > q.1:=c
    show g7 t q'.1=_
    unfold g7 at c ⊢
    by_cases d:q'.1<t
    ·rw[if_pos d] at c
     omega
    ·rw[if_neg d] at c ⊢
     rw[if_neg (by omega)]
theorem nu {q:Int × Int} {r:List (Int × Int)} (h:Up (q::r)) {t:Int} (ht:t≤q.1):kI (q::r) t=0:=by
 induction r generalizing q with
 | nil =>
  show q.2*rG 0 (t - q.1)+0=0
  unfold rG
  rw[if_neg (by omega),Ek]
  rfl
 | cons q' r' ih =>
  have h2:=DE.mp h
  have lt:=h2.1 q' dq
  show q.2*rG 0 (g7 t q'.1 - q.1)+kI (q'::r') t=0
  rw[ih h2.2 (by omega)]
  unfold rG g7
  rw[if_neg (show ¬ q'.1<t by omega),if_neg (by omega),Ek]
  rfl
theorem rQ {ps:List (Int × Int)} (h:∀ q∈ps,0≤q.2) (t:Int):0≤kI ps t:=by
 induction ps with
 | nil=>exact Di _
 | cons q r ih=>exact Int.add_nonneg (Dq (h q dq) (Bu _ _ _)) (ih fun p hp=>h p (dQ _ hp))
theorem VA (ps:List (Int × Int)) (t:Int):(mU ps t).length=ps.length:=by
 induction ps with
 | nil=>rfl
 | cons q r ih=>exact congrArg Nat.succ ih
theorem tV {ps:List (Int × Int)} {t:Int} {k:Nat} {q:Int × Int} (h:ps[k]? = some q):(mU ps t)[k]? = some (pc q.1 (ps.drop (k+1)) t):=by
 induction ps generalizing k with
 | nil=>cases h
 | cons p r ih =>
  cases k with
  | zero =>
   cases h
   rfl
  | succ k=>exact ih (k:=k) h
theorem LV {ps:List (Int × Int)} {t:Int} {k:Nat} {q:Int × Int} (h:ps[k]? = some q):(mU ps t).take (k+1)=(mU ps t).take k++[pc q.1 (ps.drop (k+1)) t]:=by
 rw[Dg,tV h]
 rfl
theorem PX (ps:List (Int × Int)) (t:Int):((List.range ps.length).map fun k=>(ps.map (·.2)).getD k 0*(mU ps t).getD k 0).sum=kI ps t:=by
 induction ps with
 | nil=>rfl
 | cons q r ih =>
  rw[dW,fB,dN,eG,dB]
  show q.2*pc q.1 r t+_=q.2*pc q.1 r t+kI r t
  rw[← ih]
  rfl
theorem W8 {ps:List (Int × Int)} {t:Int} {k:Nat}:oO (ps.drop k) t=match ps[k]? with | none=>t | some q=>g7 t q.1:=by
 induction ps generalizing k with
 | nil=>cases k <;> rfl
 | cons q r ih =>
  cases k with
  | zero=>rfl
  | succ k=>exact ih
noncomputable def cB (q:Int × Int):List V:=[.int q.1,.int q.2]
noncomputable def vz (H:Hp) (u:Addr) (ps:List (Int × Int)):Prop:=∃ ys,H u=some (.tup ys)∧z5 H ys (ps.map cB)
theorem vz.same {H H':Hp} {u:Addr} {ps:List (Int × Int)} (s:zw H H') (h:vz H u ps):vz H' u ps:=by
 obtain⟨ys,e,t⟩:=h
 exact⟨ys,s _ _ e,t.same s⟩
structure Zv (ps:List (Int × Int)):Prop where
 few:ps.length≤12
 hd:∃ p r,ps=((0:Int),p)::r
 ok:∀ q∈ps,JM q.1∧YT q.2
 up:Up ps
inductive Gd:Nat→Rk→Prop where
 | pln {d:Nat} {r:Rk}:Vx r→Gd d r
 | bands {d:Nat} {n w:Str} {ps:List (Int × Int)}:yh n→Zv ps→YR w→Gd d (.bands n ps w)
 | ontop {d:Nat} {n w:Str} {p:Int} {r:Rk}:yh n→YT p→YR w→Gd d r→Gd (d+1) (.ontop n p w r)
theorem Gd.mono {d:Nat} {r:Rk} (h:Gd d r):Gd (d+1) r:=by
 induction h with
 | pln h=>exact .pln h
 | bands h1 h2 h3=>exact .bands h1 h2 h3
 | ontop h1 h2 h3 _ ih=>exact .ontop h1 h2 h3 ih
inductive wg (Cs:Nat→Addr) (H:Hp):Rk→V→Prop where
 | pln {r:Rk} {v:V}:r.kd<4→xE Cs H v r→wg Cs H r v
 | bands {n w:Str} {ps:List (Int × Int)} {o dx u:Addr}:H o=some (.ins (Cs 4) dx [("name",.str n),("bands",.ref u),("way",.str w)])→vz H u ps→wg Cs H (.bands n ps w) (.ref o)
 | ontop {n w:Str} {p:Int} {r:Rk} {o dx:Addr} {x:V}:H o=some (.ins (Cs 5) dx [("name",.str n),("parts",.int p),("way",.str w),("within",x)])→wg Cs H r x→wg Cs H (.ontop n p w r) (.ref o)
theorem wg.same {Cs:Nat→Addr} {H H':Hp} {r:Rk} {v:V} (s:zw H H') (h:wg Cs H r v):wg Cs H' r v:=by
 induction h with
 | pln k h=>exact .pln k (h.same s)
 | bands h b=>exact .bands (s _ _ h) (b.same s)
 | ontop h _ ih=>exact .ontop (s _ _ h) ih
inductive Qc (H:Hp):Rk→V→Prop where
 | pln {r:Rk} {v:V}:r.kd<4→lJ H v r→Qc H r v
 | bands {n w:Str} {ps:List (Int × Int)} {t u:Addr}:H t=some (.tup [.str "bands",.str n,.ref u,.str w])→vz H u ps→Qc H (.bands n ps w) (.ref t)
 | ontop {n w:Str} {p:Int} {r:Rk} {t:Addr} {x:V}:H t=some (.tup [.str "ontop",.str n,.int p,.str w,x])→Qc H r x→Qc H (.ontop n p w r) (.ref t)
theorem Qc.same {H H':Hp} {r:Rk} {v:V} (s:zw H H') (h:Qc H r v):Qc H' r v:=by
 induction h with
 | pln k h=>exact .pln k (h.same s)
 | bands h b=>exact .bands (s _ _ h) (b.same s)
 | ontop h _ ih=>exact .ontop (s _ _ h) ih
noncomputable def yM:Rk→List Int→Int
 | .bands _ ps w,bs=>uc (kI ps bs.sum) w
 | .ontop _ p w r,bs=>uc (yM r bs*p) w
 | .flat n a,bs=>nH (.flat n a) bs
 | .share n p w,bs=>nH (.share n p w) bs
 | .capped n p m w,bs=>nH (.capped n p m w) bs
 | .least n p l w,bs=>nH (.least n p l w) bs
noncomputable def wx (r:Rk) (bs:List Int):Int:=yM r bs - yM r (dl bs)
noncomputable def yw (q:Int × Int):Str:=(toString q.1:Str) ++ ":" ++ (toString q.2:Str)
noncomputable def j7 (ps:List (Int × Int)):Str:=Txt.join "," (ps.map yw)
noncomputable def gO:List V→Hp→VK→Prop:=fun xs H Q=>∃ i,xs=[.int i]∧i.natAbs.log2<1920∧Q (.str (toString i)) H
noncomputable def GJ:R2:=fun x y H Q=>∃ i j,x = .str i∧y = .str j∧i.length+j.length≤sizeLine∧Q (.str (i++j)) H
noncomputable def yK:Rk→Str
 | .bands n ps w=>Txt.join " " ["bands",n,j7 ps,w]
 | .ontop n p w r=>Txt.join " " ["ontop",n,toString p,w,"of",yK r]
 | .flat n a=>gC (.flat n a)
 | .share n p w=>gC (.share n p w)
 | .capped n p m w=>gC (.capped n p m w)
 | .least n p l w=>gC (.least n p l w)
theorem uL {r:Rk} (h:Vx r):yM r=nH r:=by cases h <;> rfl
theorem QY {r:Rk} (h:Vx r):yK r=gC r:=by cases h <;> rfl
theorem QC {z:Int} {w:Str} (h:0≤z):0≤uc z w:=by
 unfold uc
 split <;> omega
theorem LQ (bs:List Int):0≤pos bs:=eX _
theorem rZ {r:Rk} (h:Vx r) {bs:List Int} (b:pe bs):0≤nH r bs:=by
 have sn:=lI b
 cases h with
 | flat hn ha=>exact Dq ha.1 (LQ _)
 | share hn hp hw=>exact QC (Dq sn hp.1)
 | capped hn hp ha hw =>
  refine QC (Dq ?_ hp.1)
  have:=ha.1
  split <;> omega
 | @least n p l w hn hp ha hw =>
  have h2:=Dq ha.1 (LQ bs)
  show 0≤if l*pos bs > uc (bs.sum*p) w then l*pos bs else uc (bs.sum*p) w
  split
  ·exact h2
  ·exact QC (Dq sn hp.1)
theorem nX {d:Nat} {r:Rk} (h:Gd d r) {bs:List Int} (b:pe bs):0≤yM r bs:=by
 induction h with
 | pln h=>rw[uL h];exact rZ h b
 | bands h1 h2 h3=>exact QC (rQ (fun q hq=>(h2.ok q hq).2.1) _)
 | ontop h1 h2 h3 _ ih=>exact QC (Dq ih h2.1)
structure Yi (K:BFr) (C:Addr):Prop where
 cls:w5 K C
 no:∀ x∈(["name","bands","way","parts","within"]:List Str),zT K C x
noncomputable def Yw (K:BFr):Sp:=fun vs H Q _=>∃ (l:Addr) (zs:List Int),vs=[.ref l]∧zZ K H l (zs.map V.int)∧zs.length≤50∧zs.Pairwise (fun x y:Int=>x<y)∧∀ H',zw H H'→Q (.bl true) H'
noncomputable def YJ:Sp:=fun vs H Q _=>∃ a q,vs=[.ref a]∧H a=some (.tup (cB q))∧JM q.1∧YT q.2∧Q (.bl true) H
noncomputable def JH:Sp:=fun vs H Q _=>∃ u ps,vs=[.ref u]∧vz H u ps∧Zv ps∧∀ H',zw H H'→Q (.bl true) H'
noncomputable def u7 (K:BFr):Sp:=fun vs H Q _=>∃ C o dx z,vs=[.ref o,.str z]∧w5 K C∧zT K C "name"∧H o=some (.ins C dx [])∧yh z∧∀ H',(∀ b x,H b=some x→b≠o→H' b=some x)→H' o=some (.ins C dx [("name",.str z)])→Q .non H'
noncomputable def YH (C:Addr):Sp:=fun vs H Q _=>∃ o dx n u ps w,vs=[.ref o,.str n,.ref u,.str w]∧yh n∧Zv ps∧YR w∧vz H u ps∧H o=some (.ins C dx []) ∧
 ∀ H' u',(∀ b x,H b=some x→b≠o→H' b=some x)→H' o=some (.ins C dx [("name",.str n),("bands",.ref u'),("way",.str w)])→vz H' u' ps→Q .non H'
noncomputable def jq (K:BFr) (d k:Nat) (Cs:Nat→Addr):Sp:=fun vs H Q _=>∃ v r b bs,vs=[v,.ref b]∧r.kd=k∧wg Cs H r v∧Gd d r∧zZ K H b (bs.map V.int)∧bs.length≤100∧∀ H',zw H H'→Q (.int (yM r bs)) H'
noncomputable def VP (K:BFr) (d k:Nat) (Cs:Nat→Addr):Sp:=fun vs H Q _=>∃ v r b bs,vs=[v,.ref b]∧r.kd=k∧wg Cs H r v∧Gd d r∧zZ K H b (bs.map V.int)∧bs.length≤100∧∀ H',zw H H'→Q (.int (wx r bs)) H'
noncomputable def y8 (d k:Nat) (Cs:Nat→Addr):Sp:=fun vs H Q _=>∃ v r,vs=[v]∧r.kd=k∧wg Cs H r v∧Gd d r∧∀ H',zw H H'→Q (.str (yK r)) H'
noncomputable def Gu:Sp:=fun vs H Q _=>∃ u ps t,vs=[.ref u,.int t]∧vz H u ps∧Zv ps∧∀ l H',zw H H'→H l=none→H' l=some (.lst ((mU ps t).map V.int))→Q (.ref l) H'
noncomputable def Gb:Sp:=fun vs H Q _=>∃ c,vs=[.int c]∧∀ u ps H',Zv ps→zw H H'→vz H' u ps→Q (.ref u) H'
noncomputable def Ge:Sp:=fun vs H Q _=>∃ c z k,vs=[.int c,.str z,.int k]∧yh z∧0≤k∧k<5∧∀ v r H',Gd 0 r→r.name=z→(r.kd:Int)=k→zw H H'→Qc H' r v→Q v H'
noncomputable def kU (K:BFr):Nat→Sp
 | 0=>fun _ _ _ _=>False
 | d+1=>fun vs H Q _=>∃ v r b bs,vs=[v,.ref b]∧Qc H r v∧Gd d r∧zZ K H b (bs.map V.int)∧bs.length≤100∧pe bs∧∀ H',zw H H'→Q (.int (yM r bs)) H'
noncomputable def Vt (K:BFr) (d:Nat):Sp:=fun vs H Q _=>∃ v r b bs,vs=[v,.ref b]∧Qc H r v∧Gd d r∧zZ K H b (bs.map V.int)∧bs.length≤100∧pe bs∧∀ H',zw H H'→Q (.int (wx r bs)) H'
noncomputable def kE:Nat→Sp
 | 0=>fun _ _ _ _=>False
 | d+1=>fun vs H Q _=>∃ v r,vs=[v]∧Qc H r v∧Gd d r∧∀ H',zw H H'→Q (.str (yK r)) H'
theorem wg.obj {Cs:Nat→Addr} {H:Hp} {r:Rk} {v:V} {d:Nat} (h:wg Cs H r v) (g:Gd d r):∃ o dx fs,v = .ref o∧H o=some (.ins (Cs r.kd) dx fs)∧fs.lookup ("name":Str)=some (.str r.name) ∧
  ∀ x∈(["until","of_month","row","twin","depth"]:List Str),fs.lookup x=none:=by
 cases h with
 | pln k h =>
  obtain⟨o,dx,rfl,h⟩:=h
  cases g with
  | pln p =>
   refine⟨o,dx,_,rfl,h,N7 p,fun x hx=>?_⟩
   simp only[dc,dm,or_false] at hx
   cases p <;> rcases hx with rfl | rfl | rfl | rfl | rfl <;> rfl
  | bands=>exact absurd k (by show ¬ (_:Nat)<4;exact fe (dX rfl))
  | ontop=>exact absurd k (by show ¬ (_:Nat)<4;exact fe (dX rfl))
 | bands h b =>
  refine⟨_,_,_,rfl,h,rfl,fun x hx=>?_⟩
  simp only[dc,dm,or_false] at hx
  rcases hx with rfl | rfl | rfl | rfl | rfl <;> rfl
 | ontop h b =>
  refine⟨_,_,_,rfl,h,rfl,fun x hx=>?_⟩
  simp only[dc,dm,or_false] at hx
  rcases hx with rfl | rfl | rfl | rfl | rfl <;> rfl
theorem j9 {H:Hp} {ys:List V} {ps:List (Int × Int)} (T:z5 H ys (ps.map cB)):qN H ys ps (fun H' v q=>∃ a,v = .ref a∧H' a=some (.tup (cB q))):=by
 refine⟨by rw[T.len,CY],fun i y e=>?_⟩
 obtain⟨a,c,rfl,h1,h2⟩:=T.of_at e
 rw[dj] at h1
 obtain⟨q,hq,rfl⟩:=dC.mp h1
 exact⟨q,hq,fun H' s=>⟨a,rfl,s _ _ h2⟩⟩
theorem VG {H:Hp} {ys:List V} {ps:List (Int × Int)} (T:z5 H ys (ps.map cB)) {i:Nat} {q:Int × Int} (h:ps[i]? = some q):∃ a,ys[i]? = some (.ref a)∧H a=some (.tup (cB q)) :=
 T.at_ i _ (by rw[dj,h];rfl)
theorem vg (n:Nat):(List.replicate n true).all id=true:=by
 rw[Dc]
 intro x hx
 exact (List.mem_replicate.mp hx).2
theorem L7 (zs:List Int):vm (zs.map V.int) (some 1) none=zs.tail.map V.int:=by
 unfold vm
 rw[show (1:Int)=((1:Nat):Int) from rfl,HT.vS,HT.vh,CY]
 cases zs with
 | nil=>rfl
 | cons z r =>
  rw[Dv (show 1≤(z::r).length from Ej (d6 _))]
  show ((r.map V.int)).take (r.length+1 - 1)=r.map V.int
  rw[Do (by rw[CY];omega)]
theorem bR {zs:List Int} (h:zs.Pairwise fun x y:Int=>x<y) {i:Nat} {a b:Int} (ha:zs[i]? = some a) (hb:zs.tail[i]? = some b):a<b:=by
 rw[List.getElem?_tail] at hb
 obtain⟨h1,rfl⟩:=dF.mp ha
 obtain⟨h2,rfl⟩:=dF.mp hb
 exact DP.mp h i (i+1) h1 h2 (ee _)
theorem l9 (xs ys:List V):List.zipWith (fun _ _=>V.bl true) xs ys=(List.replicate (min xs.length ys.length) true).map V.bl:=by
 rw[ff]
 apply List.ext_getElem
 ·rw[List.length_zipWith,ER]
 ·intro i h1 h2
  rw[List.getElem_zipWith,List.getElem_replicate]
theorem LL {α:Type} (xs:List α):xs.map (fun _=>V.bl true)=(List.replicate xs.length true).map V.bl:=by
 rw[ff]
 induction xs with
 | nil=>rfl
 | cons x r ih=>exact congrArg (V.bl true :: ·) ih
theorem uV {i:Int} (h:JM i):(toString i:Str).length≤13:=Yj (k:=13) h.1 (by decide) (by have:=h.2;have:=h.1;omega)
theorem vJ {i:Int} (h:YT i):(toString i:Str).length≤5:=Yj (k:=5) h.1 (by decide) (by have:=h.2;have:=h.1;omega)
theorem JE {q:Int × Int} (h:JM q.1) (k:YT q.2):(yw q).length≤19:=by
 have l1:=uV h
 have l2:=vJ k
 have l3:((toString q.1:Str) ++ ":" ++ (toString q.2:Str)).length=(toString q.1:Str).length+1+(toString q.2:Str).length:=by rw[Str.length_append,Str.length_append];rfl
 unfold yw
 omega
theorem vo {ps:List (Int × Int)} (ok:Zv ps):JoinOk "," (ps.map yw)=true∧(j7 ps).length≤252:=yi (m:=19) (k:=12) (fun z hz=>by
 obtain⟨q,hq,rfl⟩:=dk.mp hz
 exact JE (ok.ok q hq).1 (ok.ok q hq).2) (by rw[CY];exact ok.few) (by decide +kernel) rfl
theorem wc {w:Str} (h:YR w):w.length≤4:=by
 have h:=Dp.mp h
 unfold wayL at h
 simp only[dc,dm,or_false] at h
 rcases h with rfl | rfl | rfl | rfl <;> decide +kernel
theorem Uo {n w:Str} {ps:List (Int × Int)} (hn:yh n) (ok:Zv ps) (hw:YR w):JoinOk " " ["bands",n,j7 ps,w]=true:=by
 refine (yi (m:=252) (k:=4) (fun z hz=>?_) (CZ _) (by decide +kernel) rfl).1
 have h1:=hn.ok.hi
 have h2:=(vo ok).2
 have h3:=wc hw
 simp only[dc,dm,or_false] at hz
 rcases hz with rfl | rfl | rfl | rfl
 ·decide +kernel
 ·omega
 ·omega
 ·omega
theorem QI {xs:List V} {v:V} (h:xs.head? = some v):atI xs 0=some v:=by
 cases xs with
 | nil=>cases h
 | cons x r =>
  cases h
  exact q8 (j:=0) rfl
end Pg
namespace L2
open PySem PySem.Spec PyProof.Rows
theorem Od {K:BFr} {D a b:Addr} {te:TE} {fin:List V→Hp→Prop} {σ:St} {H:Hp} {xs ys:List V} (ha:zZ K H a xs) (hb:zZ K H b ys) (hD:H D=none) (hz:ys.length<sizeLine) (hxy:ys.length≤xs.length) (φ:V→V→V) (he:∀ (i:Nat) x y,xs[i]? = some x→ys[i]? = some y→∀ H' R,zw H H'→(∀ H'',zw H' H''→R (φ x y) H'')→te ((σ.set 0 (some x)).set 1 (some y)) H' R) (hf:∀ H',zw H H'→H' D=some (.lst (List.zipWith φ xs ys))→fin (List.zipWith φ xs ys) H') :
  jj (cD K a b) D (Xp K 2 (vH (z4 0) (vH (z4 1) Xn))) qK te fin σ (upd H D (.lst [])):=by
 refine⟨fun i m zs σ' H'=>m=ys.length - i∧i≤ys.length∧(∀ x y,(σ'.set 0 x).set 1 y=(σ.set 0 x).set 1 y)∧zw H H'∧H' D=some (.lst zs)∧zs=List.zipWith φ (xs.take i) (ys.take i),⟨ys.length,by simp,d6 _,fun _ _=>rfl,zw.upd hD,zp,rfl⟩,fun i m zs σ H ⟨_,_,_,_,h,_⟩=>h,?_⟩
 rintro i m zs σ' H' ⟨rfl,hi,hσ,s,hd,rfl⟩
 by_cases hlt:i<ys.length
 ·have hx:=de (show i<xs.length by omega)
  have hy:=de hlt
  have tx:xs.take (i+1)=xs.take i++[xs[i]]:=by rw[Dg,hx];rfl
  have ty:ys.take (i+1)=ys.take i++[ys[i]]:=by rw[Dg,hy];rfl
  refine .inr ⟨⟨xs,ys,_,_,s.seq ha,s.seq hb,hx,hy⟩,fun zs' σ2 H2=>(∀ x y,(σ2.set 0 x).set 1 y=(σ.set 0 x).set 1 y)∧zw H H2∧H2 D=some (.lst zs')∧zs'=List.zipWith φ (xs.take (i+1)) (ys.take (i+1)),fun zs' σ2 H2 p=>⟨ys.length - (i+1),by omega,rfl,hlt,p⟩,fun v H'' hy'=>?_⟩
  obtain⟨c,x,y,e1,e2,e3,e4⟩:=hy'
  obtain⟨e5,e6⟩:=e4 xs ys (s.seq ha) (s.seq hb)
  subst e1 e3
  rw[hx] at e5
  rw[hy] at e6
  cases e5
  cases e6
  refine⟨c,_,rfl,qh.of zp,rfl,_,_,rfl,_,_,rfl,rfl,?_⟩
  have s2:zw H' (upd H' c (.tup [xs[i],ys[i]])):=zw.upd e2
  unfold qK
  dsimp only
  refine jS ?_
  show te ((σ'.set 0 _).set 1 _) _ _
  rw[hσ]
  refine he i _ _ hx hy _ _ (s.trans s2) fun H3 s3=>⟨s3 _ _ (s2 _ _ hd),?_,?_,?_,zp,?_⟩
  ·rw[List.length_zipWith,dP,dP];omega
  ·intro x y
   rcases σ with _ | ⟨_,_ | ⟨_,_⟩⟩ <;> rfl
  ·intro b o z
   rw[zm (zB z hD)]
   exact s3 _ _ (s2 _ _ (s _ _ z))
  ·rw[tx,ty,List.zipWith_append (by rw[dP,dP];omega)]
   rfl
 ·have e:i=ys.length:=by omega
  subst e
  refine .inl ⟨⟨xs,ys,s.seq ha,s.seq hb,.inr (CZ _)⟩,?_⟩
  have e3:List.zipWith φ (xs.take ys.length) ys=List.zipWith φ xs ys:=by
   apply DO
   intro j
   rw[List.getElem?_zipWith,List.getElem?_zipWith,List.getElem?_take]
   by_cases h:j<ys.length
   ·rw[if_pos h]
   ·rw[if_neg h,Dn (l:=ys) (by omega)]
    cases xs[j]? <;> rfl
  rw[Dj,e3] at hd ⊢
  exact hf H' s hd
end L2
namespace K15
open PySem PySem.NumText L2 Pg
seal PE PA PT PW PS jT PG uv PI ui PO PK
section
variable {P:Program} {w:World} {K:BFr} {mg:Str→Option Value} {base:Heap} {f:Addr} {fd:FuncData} {d:Nat→Addr} {cR:Addr}
theorem LB (F:qQ K "rise" "rise" (top 31) f fd) (G:jP mg):zH P w K mg base zO 1 f fd ["things"] (Yw K):=by
 have nc:(["thing","after"]:List Str).Nodup:=by decide +kernel
 refine F.ok (N:=["things"]) (by walk_at"s") (fun vs H Q E h=>?_) (fun cdv A outer s H vs Q E hr h=>?_)
 ·obtain⟨l,zs,rfl,_⟩:=h
  rfl
 ·obtain⟨l,zs,rfl,hl,zl,up,q⟩:=h
  refine' ⟨_,zi (zu (zx (wm rfl) rfl G.all kM (za ?comp zd))),?main⟩
  case comp =>
   refine' z8 (Nc:=["thing","after"]) (cl:=[]) (src:=[none,none]) (wi:=Bs K (qi (zM 0) (qi (TB (rY K) (zM 0) (QL (tC (.int 1))) kP) yn))) (g:=Xp K 2 (vH (z4 0) (vH (z4 1) Xn))) (tt:=qK) (te:=jC (YN fun i j=>.bl (decide (i<j))) (zM 0) (zM 1))
    (by walk_at"c3") rfl (Rf rfl G.zip (za (pv 0) (za (yJ wa (pv 0) (yY ze) jO) zd))) ?hb
   case hb =>
    intro fp C' s' H'
    exact⟨Uh rfl (jQ (zJ (i:=0) nc rfl (Or.inl rfl)) (jQ (zJ (i:=1) nc rfl (Or.inl rfl)) Qh)),qd,qJ Yh (pv 0) (pv 1) (zD _)⟩
  refine⟨_,rfl,_,rfl,_,rfl,l,_,rfl,hl,fun p p0=>?_⟩
  have s1:zw H (upd H p (.lst (vm (zs.map V.int) (some 1) none))):=zw.upd p0
  have e1:(upd H p (.lst (vm (zs.map V.int) (some 1) none))) p=some (.lst (zs.tail.map V.int)):=by rw[zp,L7]
  refine⟨l,p,rfl,⟨_,s1.seq hl⟩,⟨_,zZ.of e1⟩,fun D hD=>Od (s1.seq hl) (zZ.of e1) hD (by rw[CY,fh,sizeLine_eq];omega) (by rw[CY,CY,fh];omega) (fun _ _=>V.bl true) (fun i x y hx hy H1 R s2 r=>?_) (fun H1 s2 e2=>?_)⟩
  ·rw[dj] at hx hy
   obtain⟨a,ha,rfl⟩:=dC.mp hx
   obtain⟨b,hb,rfl⟩:=dC.mp hy
   refine⟨_,rfl,_,rfl,a,b,rfl,rfl,?_⟩
   show R (V.bl (decide (a<b))) H1
   rw[decide_eq_true (bR up ha hb)]
   exact r H1 (zw.refl _)
  ·refine⟨D,List.replicate (zs.length - 1) true,rfl,zZ.of ?_,?_⟩
   ·rw[e2,l9,CY,CY,fh,eZ (by omega)]
   ·rw[Pg.vg]
    exact q H1 (s1.trans s2)
theorem ph (F:qQ K "is_band" "is_band" (top 63) f fd) (G:jP mg) (C1:qP P w K mg base zO 3 "is_rule_amount" ["thing"] QA) (C2:qP P w K mg base zO 3 "is_parts" ["thing"] u6):zH P w K mg base zO 4 f fd ["thing"] YJ:=by
 refine F.ok (N:=["thing"]) (by walk_at"s") (fun vs H Q E h=>?_) (fun cdv A outer s H vs Q E hr h=>?_)
 ·obtain⟨a,p,rfl,_⟩:=h
  rfl
 ·obtain⟨a,p,rfl,ha,h1,h2,q⟩:=h
  refine⟨_,(zg (zR (PW.pt (wC (qM (qF (zx qp rfl G.isinstance zS (za (pv 0) (za (yF (v:=.ty "tuple") rfl G.tuple yq rfl) zd))))) (uT (zE Pi (zx zQ rfl G.len boot_len (za (pv 0) zd)) ze (zD _))))) (zi (zu jY)) zA)
    (zi (zu (yU (zj C1 hr (by decide) zt (za (zz zK (pv 0) ze) zd)) (ja (zj C2 hr (by decide) zt (za (zz zK (pv 0) ze) zd))))))),?_⟩
  refine⟨_,rfl,_,_,_,_,true,rfl,rfl,.inl (.tup ha),rfl,true,rfl,qY ⟨_,rfl,a,_,rfl,.inr (qh.of ha),rfl,_,rfl,qY ?_⟩⟩
  refine⟨_,rfl,a,_,_,_,rfl,rfl,qh.of ha,rfl,_,rfl,h1,true,rfl,jS ⟨_,rfl,a,_,_,_,rfl,rfl,qh.of ha,rfl,_,rfl,h2.1,h2.2,q⟩⟩
theorem Oi (F:qQ K "are_bands" "are_bands" (top 64) f fd) (G:jP mg) (N1:Z1 mg "MOST_BANDS" 12) (C1:qP P w K mg base zO 4 "is_band" ["thing"] YJ) (C2:qP P w K mg base zO 1 "rise" ["things"] (Yw K)):zH P w K mg base zO 5 f fd ["thing"] JH:=by
 obtain⟨tk,em⟩:=N1
 have nd:(["thing","borders"]:List Str).Nodup:=by decide +kernel
 have nc:(["row"]:List Str).Nodup:=by decide +kernel
 refine F.ok (N:=["thing","borders"]) (by walk_at"s") (fun vs H Q E h=>?_) (fun cdv A outer s H vs Q E hr h=>?_)
 ·obtain⟨u,ps,rfl,_⟩:=h
  rfl
 ·obtain⟨u,ps,rfl,⟨ys,hu,T⟩,ok,q⟩:=h
  refine' ⟨_,(zg (zR (PW.pt (wC (qM (qF (zx qp rfl G.isinstance zS (za (pv 0) (za (yF (v:=.ty "tuple") rfl G.tuple yq rfl) zd))))) (wC (zE Yh (zx zQ rfl G.len boot_len (za (pv 0) zd)) ze (zD _)) (uT (zE jZ (zx zQ rfl G.len boot_len (za (pv 0) zd)) (qE (v:=.int 12) rfl em ⟨tk,rfl⟩) (zD _)))))) (zi (zu jY)) zA)
    (zg (zR (qM (qF (zx (wm rfl) rfl G.all kM (za ?comp_2 zd)))) (zi (zu jY)) zA)
    (zg ?st_1
    (zi (zu (yU (qJ qC (zz zG (pv 1) ze) ze (zD _)) (ja (zj C2 hr (by decide) zt (za (pv 1) zd))))))))),?main⟩
  case comp_2 =>
   refine' z8 (Nc:=["row"]) (cl:=[]) (src:=[none]) (wi:=Yv K (zM 0)) (g:=z4 0) (tt:=qK) (te:=fun σ H Q=>qi (zM 0) yn σ H fun vs H1=>YJ vs H1 Q E0)
    (by walk_at"c0") rfl (vq (pv 0)) ?hb
   case hb =>
    intro fp C' s' H'
    exact⟨zJ (i:=0) nc rfl (Or.inl rfl),qd,zj C1 hr (by decide) zt (za (pv 0) zd)⟩
  case st_1 =>
   refine' we (i:=1) (Nc:=["row"]) (cl:=[]) (src:=[none]) (wi:=Yv K (zM 0)) (g:=z4 0) (tt:=qK) (te:=jC (wL K) (zM 0) (tC (.int 0))) nd rfl rfl
    (by walk_at"c0") rfl (vq (pv 0)) ?hb
   case hb =>
    intro fp C' s' H'
    exact⟨zJ (i:=0) nc rfl (Or.inl rfl),qd,zz zK (pv 0) ze⟩
  have few:=ok.few
  have yl:ys.length=ps.length:=by rw[T.len,CY]
  obtain⟨p0,r0,ep⟩:=ok.hd
  have ne:1≤ps.length:=by rw[ep];exact Ej (d6 _)
  have hs:ps.length<sizeLine:=by rw[sizeLine_eq];omega
  refine⟨_,rfl,_,_,_,_,true,rfl,rfl,.inl (.tup hu),rfl,true,rfl,qY ⟨_,rfl,u,_,rfl,.inr (qh.of hu),_,_,rfl,rfl,_,rfl,yI (fun e=>?_) (fun _=>?_)⟩⟩
  ·have:=of_decide_eq_true e
   omega
  refine⟨_,rfl,u,_,rfl,.inr (qh.of hu),_,_,rfl,rfl,_,rfl,yI (fun e=>?_) (fun _=>?_)⟩
  ·have:=of_decide_eq_true e
   omega
  refine⟨_,rfl,u,rfl,⟨_,qh.of hu⟩,fun D hD=>y9 (jk (qh.of hu)) (j9 T) hD hs (fun _=>V.bl true) (fun p hp v H1 R s1 e1 r=>?_) (fun H1 s1 e1=>?_)⟩
  ·obtain⟨a,rfl,ha⟩:=e1
   exact⟨_,rfl,a,p,rfl,ha,(ok.ok p hp).1,(ok.ok p hp).2,r H1 (zw.refl _)⟩
  refine⟨D,List.replicate ps.length true,rfl,zZ.of (by rw[e1,LL]),?_⟩
  rw[Pg.vg]
  refine⟨true,rfl,qY ⟨_,rfl,u,rfl,⟨_,qh.of (s1 _ _ hu)⟩,fun D2 hD2=>y9 (jk (qh.of (s1 _ _ hu))) (j9 (T.same s1)) hD2 hs (fun p=>V.int p.1) (fun p hp v H2 R s2 e2 r=>?_) (fun H2 s2 e2=>?_)⟩⟩
  ·obtain⟨a,rfl,ha⟩:=e2
   exact⟨_,rfl,a,_,_,_,rfl,rfl,qh.of ha,rfl,r H2 (zw.refl _)⟩
  have e2':H2 D2=some (.lst ((ps.map (·.1)).map V.int)):=by rw[e2,dB];rfl
  refine⟨_,rfl,D2,_,_,.int 0,rfl,rfl,zZ.of e2',QI (by rw[ep];rfl),rfl,true,rfl,jS ⟨_,rfl,D2,_,rfl,zZ.of e2',by rw[CY];omega,?_,fun H3 s3=>q H3 (s1.trans (s2.trans s3))⟩⟩
  exact ED.mpr ok.up
theorem oy (F:qQ K "__init__" "Rule.__init__" (zy (top 56) 0) f fd) (C1:qP P w K mg base zO 3 "is_rule_name" ["thing"] JW):zH P w K mg base zO 4 f fd ["self","name"] (u7 K):=by
 refine F.ok (N:=["self","name"]) (by walk_at"s") (fun vs H Q E h=>?_) (fun cdv A outer s H vs Q E hr h=>?_)
 ·obtain⟨i,o,dx,z,rfl,_⟩:=h
  rfl
 ·obtain⟨C,o,dx,z,rfl,cl,no,ho,hz,q⟩:=h
  refine⟨_,zg (zR (qM (qF (zj C1 hr (by decide) zt (za (pv 1) zd)))) qb zA) (zi (yS (pv 0) (pv 1) rfl)),?_⟩
  refine⟨_,rfl,z,rfl,hz,fun H1 s1=>⟨true,rfl,qY ⟨_,rfl,_,rfl,o,_,dx,[],rfl,s1 _ _ ho,cl,no,by decide,?_⟩⟩⟩
  rw[CD]
  exact q _ (fun b x hb ne=>by rw[zm ne];exact s1 _ _ hb) zp
theorem PD {C:Addr} (F:qQ K "__init__" "Bands.__init__" (zy (top 65) 0) f fd) (G:jP mg) (RX:Yi K C) (CR:QB P w K mg base zO 4 "Rule" "__init__" ["self","name"] (u7 K)) (C1:qP P w K mg base zO 5 "are_bands" ["thing"] JH) (C2:qP P w K mg base zO 1 "is_way" ["thing"] Qj):zH P w K mg base zO 6 f fd ["self","name","rows","way"] (YH C):=by
 have nc:(["row"]:List Str).Nodup:=by decide +kernel
 refine F.ok (N:=["self","name","rows","way"]) (by walk_at"s") (fun vs H Q E h=>?_) (fun cdv A outer s H vs Q E hr h=>?_)
 ·obtain⟨o,dx,n,u,ps,x,rfl,_⟩:=h
  rfl
 ·obtain⟨o,dx,n,u,ps,x,rfl,hn,ok,hw,bd,ho,q⟩:=h
  refine' ⟨_,zg (qm (wq CR hr (by decide) zt (za (pv 0) (za (pv 1) zd)))) (zg (zR (qM (qF (zj C1 hr (by decide) zt (za (pv 2) zd)))) qb zA) (zg (zR (qM (qF (zj C2 hr (by decide) zt (za (pv 3) zd)))) qb zA) (zg (yS (pv 0) (z6 yX rfl G.tuple yq (za ?comp zd)) rfl) (zi (yS (pv 0) (pv 3) rfl))))),?main⟩
  case comp =>
   refine' z8 (Nc:=["row"]) (cl:=[]) (src:=[none]) (wi:=Yv K (zM 2)) (g:=z4 0) (tt:=qK) (te:=Wz (qi (jC (wL K) (zM 0) (tC (.int 0))) (qi (jC (wL K) (zM 0) (tC (.int 1))) yn)))
    (by walk_at"c0") rfl (vq (pv 2)) ?hb
   case hb =>
    intro fp C' s' H'
    exact⟨zJ (i:=0) nc rfl (Or.inl rfl),qd,ym (za (zz zK (pv 0) ze) (za (zz zK (pv 0) ze) zd))⟩
  obtain⟨ys,hu,T⟩:=bd
  have few:=ok.few
  have uo:u≠o:=yQ hu ho (by intro z;cases z)
  have nt:∀ c,H o≠some (.tup c):=fun c z=>by rw[ho] at z;cases z
  refine⟨_,rfl,_,rfl,C,o,dx,_,rfl,RX.cls,RX.no "name" (by decide),ho,hn,fun H1 f1 e1=>?_⟩
  have hu1:=f1 _ _ hu uo
  have T1:z5 H1 ys (ps.map cB):=T.mono fun b c h=>f1 _ _ h (yQ h ho (by intro z;cases z))
  refine⟨_,rfl,u,ps,rfl,⟨ys,hu1,T1⟩,ok,fun H2 s2=>⟨true,rfl,qY ⟨_,rfl,x,rfl,hw,true,rfl,qY ?_⟩⟩⟩
  have hu2:=s2 _ _ hu1
  have T2:=T1.same s2
  refine⟨_,rfl,u,rfl,⟨_,qh.of hu2⟩,fun D hD=>wb (jk (qh.of hu2)) (j9 T2) hD (by rw[sizeLine_eq];omega) cB (fun p hp v H3 R s3 e3 r=>?_) (fun zs H3 s3 e3 T3=>?_)⟩
  ·obtain⟨a,rfl,ha⟩:=e3
   exact⟨_,rfl,a,_,_,_,rfl,rfl,qh.of ha,rfl,_,rfl,a,_,_,_,rfl,rfl,qh.of ha,rfl,qv rfl,r⟩
  refine⟨D,zs,rfl,.inl ⟨zZ.of e3,fun l l0=>?_⟩⟩
  have s4:zw H3 (upd H3 l (.tup zs)):=zw.upd l0
  have e4:(upd H3 l (.tup zs)) l=some (.tup zs):=zp
  generalize upd H3 l (.tup zs)=H4 at s4 e4
  have s24:=s2.trans (s3.trans s4)
  have eo:=s24 _ _ e1
  refine⟨_,rfl,o,_,dx,_,rfl,eo,RX.cls,RX.no "bands" (by decide),by show 1<1000;decide,?_⟩
  rw[Tz _ _ _ (by decide +kernel)]
  refine⟨_,rfl,_,rfl,o,_,dx,_,rfl,zp,RX.cls,RX.no "way" (by decide),by show 2<1000;decide,?_⟩
  rw[bF _ _ _ _ _ (by decide +kernel) (by decide +kernel)]
  have lo:l≠o:=yQ e4 eo (by intro z;cases z)
  have nt4:∀ c,H4 o≠some (.tup c):=fun c z=>by rw[eo] at z;cases z
  refine q _ l (fun b y hb ne=>by rw[zm ne,zm ne];exact s24 _ _ (f1 _ _ hb ne)) zp ⟨zs,by rw[zm lo,zm lo];exact e4,((T3.same s4).upd nt4).upd fun c z=>?_⟩
  rw[zp] at z
  cases z
set_option maxHeartbeats 4000000 in
theorem nS {Cs:Nat→Addr} {d:Nat} (F:qQ K "until" "Bands.until" (zy (top 65) 1) f fd) (G:jP mg) (RX:Yi K (Cs 4)) (C1:qP P w K mg base zO 3 "rounded" ["number","way"] Vq):zH P w K mg base zO 4 f fd ["self","bases"] (jq K d 4 Cs):=by
 have nd:(["self","bases","left","together","band"]:List Str).Nodup:=by decide +kernel
 refine F.ok (N:=["self","bases","left","together","band"]) (by walk_at"s") (fun vs H Q E h=>?_) (fun cdv A outer s H vs Q E hr h=>?_)
 ·obtain⟨v,r,b,bs,rfl,_⟩:=h
  rfl
 ·obtain⟨v,r,b,bs,rfl,hk,ro,gd,hb,bl,q⟩:=h
  cases gd with
  | pln p=>cases p <;> cases hk
  | ontop=>cases hk
  | @bands _ n x ps hn ok hw =>
   cases ro with
   | pln k _=>exact absurd k (by show ¬ (4:Nat)<4;decide)
   | @bands _ _ _ o dx u ho bd =>
    obtain⟨ys,hu,T⟩:=bd
    have yl:ys.length=ps.length:=by rw[T.len,CY]
    refine⟨_,zg (zF (i:=2) nd rfl (Or.inl rfl) (zx (yB rfl) rfl G.sum yW (za (pv 1) zd))) (zg (zF (i:=3) nd rfl (Or.inl rfl) ze) (zg (jt PassesOwn.never rfl (Ry rfl G.reversed (za (zN (pv 0) rfl) zd)) (zJ (i:=4) nd rfl (Or.inl rfl))
     (zi (zR (zE jZ (pv 2) (zz zK (pv 4) ze) (zD _)) (zg (zF (i:=3) nd rfl (Or.inl rfl) (zq zU (pv 3) (zq qR (zq vn (pv 2) (zz zK (pv 4) ze)) (zz zK (pv 4) ze)))) (zi (zF (i:=2) nd rfl (Or.inl rfl) (zz zK (pv 4) ze)))) zA)))
     (zi (zu (zj C1 hr (by decide) zt (za (pv 3) (za (zN (pv 0) rfl) zd))))))),?_⟩
    refine⟨_,rfl,b,bs,rfl,hb,_,rfl,o,_,dx,_,_,rfl,ho,RX.cls,RX.no "bands" (by decide),rfl,u,ys,rfl,qh.of hu,Pe (fun i σ H'=>∃ x4,σ = [some (.ref o),some (.ref b),some (.int ((ps.drop (ps.length - i)).foldr Ba (bs.sum,0)).1),some (.int ((ps.drop (ps.length - i)).foldr Ba (bs.sum,0)).2),x4]∧H'=H) ?_ ?_ ?_ ?_⟩
    ·refine⟨none,?_,rfl⟩
     rw[DQ,List.drop_length]
     rfl
    ·rintro i σ H' hi ⟨x4,rfl,rfl⟩
     exact qh.of hu
    ·rintro i y σ H' hi hy ⟨x4,rfl,rfl⟩ E2 k2 _
     rw[yl] at hi hy
     have hq:=de (show ps.length - 1 - i<ps.length by omega)
     obtain⟨a,ea,ha⟩:=VG T hq
     rw[hy] at ea
     cases ea
     have dr:ps.drop (ps.length - (i+1))=ps[ps.length - 1 - i]::ps.drop (ps.length - i):=by
      rw[show ps.length - (i+1)=ps.length - 1 - i by omega,Ez (show ps.length - 1 - i<ps.length by omega),show ps.length - 1 - i+1=ps.length - i by omega]
     have pt:=(ok.ok _ (dZ hq)).2
     have p0:=pt.1
     have p1:=pt.2
     rw[dr,List.foldr_cons] at k2
     generalize ps[ps.length - 1 - i]=g at ha k2 p0 p1
     generalize (ps.drop (ps.length - i)).foldr Ba (bs.sum,0)=z at k2
     unfold Ba at k2
     refine⟨_,rfl,_,rfl,a,_,_,_,rfl,rfl,qh.of ha,rfl,_,_,rfl,rfl,_,rfl,yI (fun e=>?_) (fun e=>?_)⟩
     ·have e:=of_decide_eq_true e
      rw[if_pos e] at k2
      exact⟨_,rfl,_,rfl,_,rfl,a,_,_,_,rfl,rfl,qh.of ha,rfl,_,_,rfl,rfl,_,rfl,a,_,_,_,rfl,rfl,qh.of ha,rfl,_,_,rfl,rfl,.inr ⟨by omega,by omega⟩,_,_,rfl,rfl,_,rfl,a,_,_,_,rfl,rfl,qh.of ha,rfl,k2 _ _ ⟨_,rfl,rfl⟩⟩
     ·rw[if_neg fun c=>e (decide_eq_true c)] at k2
      exact k2 _ _ ⟨_,rfl,rfl⟩
    ·rintro σ H' ⟨x4,rfl,rfl⟩
     have e:=pY ok.up bs.sum
     rw[yl,Ei,DF,e]
     exact⟨_,rfl,_,rfl,o,_,dx,_,_,rfl,ho,RX.cls,RX.no "way" (by decide),rfl,_,_,rfl,hw,q _ (zw.refl _)⟩
theorem M4 {Cs:Nat→Addr} {d:Nat} (F:qQ K "row" "Bands.row" (zy (top 65) 2) f fd) (G:jP mg) (RX:Yi K (Cs 4)):zH P w K mg base zO 1 f fd ["self"] (y8 d 4 Cs):=by
 have nd:(["self","pairs"]:List Str).Nodup:=by decide +kernel
 have nc:(["band"]:List Str).Nodup:=by decide +kernel
 refine F.ok (N:=["self","pairs"]) (by walk_at"s") (fun vs H Q E h=>?_) (fun cdv A outer s H vs Q E hr h=>?_)
 ·obtain⟨v,r,rfl,_⟩:=h
  rfl
 ·obtain⟨v,r,rfl,hk,ro,gd,q⟩:=h
  cases gd with
  | pln p=>cases p <;> cases hk
  | ontop=>cases hk
  | @bands _ n x ps hn ok hw =>
   cases ro with
   | pln k _=>exact absurd k (by show ¬ (4:Nat)<4;decide)
   | @bands _ _ _ o dx u ho bd =>
    obtain⟨ys,hu,T⟩:=bd
    have few:=ok.few
    refine' ⟨_,zg (zF (i:=1) nd rfl (Or.inl rfl) (yH PySem.F.plainAttrs_str PySem.F.slot_str_join PySem.F.type_str_join yZ zC (za ?comp zd))) (zi (zu (yH PySem.F.plainAttrs_str PySem.F.slot_str_join PySem.F.type_str_join yZ zC (za (qy (za zC (za (zN (pv 0) rfl) (za (pv 1) (za (zN (pv 0) rfl) zd))))) zd)))),?main⟩
    case comp =>
     refine' z8 (Nc:=["band"]) (cl:=[]) (src:=[none]) (wi:=Yv K (Py K (zM 0) "bands")) (g:=z4 0) (tt:=qK) (te:=jC GJ (jC GJ (NC gO (qi (jC (wL K) (zM 0) (tC (.int 0))) yn)) (tC (.str ":"))) (NC gO (qi (jC (wL K) (zM 0) (tC (.int 1))) yn)))
      (by walk_at"c0") rfl (vq (zN (pv 0) rfl)) ?hb
     case hb =>
      intro fp C' s' H'
      exact⟨zJ (i:=0) nc rfl (Or.inl rfl),qd,zq qB (zq qB (z6 qo rfl G.str qL (za (zz zK (pv 0) ze) zd)) zC) (z6 qo rfl G.str qL (za (zz zK (pv 0) ze) zd))⟩
    refine⟨rfl,_,rfl,o,_,dx,_,_,rfl,ho,RX.cls,RX.no "bands" (by decide),rfl,u,rfl,⟨_,qh.of hu⟩,fun D hD=>y9 (jk (qh.of hu)) (j9 T) hD (by rw[sizeLine_eq];omega) (fun p=>.str (yw p)) (fun p hp v H1 R s1 e1 r=>?_) (fun H1 s1 e1=>?_)⟩
    ·obtain⟨a,rfl,ha⟩:=e1
     have hb:=ok.ok p hp
     have l1:=uV hb.1
     have l2:=vJ hb.2
     have l3:((toString p.1:Str) ++ ":").length=(toString p.1:Str).length+1:=Str.length_append ..
     exact⟨_,rfl,a,_,_,_,rfl,rfl,qh.of ha,rfl,_,rfl,ZK hb.1,_,_,rfl,rfl,by rw[sizeLine_eq];show (toString p.1:Str).length+1≤_;omega,_,rfl,a,_,_,_,rfl,rfl,qh.of ha,rfl,_,rfl,wB hb.2,_,_,rfl,rfl,by rw[l3,sizeLine_eq];omega,r H1 (zw.refl _)⟩
    ·have jb:=vo ok
     have jr:=Uo hn ok hw
     have ho1:=s1 _ _ ho
     refine⟨_,ps.map yw,D,rfl,rfl,zZ.of (by rw[e1,dB];rfl),jb.1,rfl,_,rfl,o,_,dx,_,_,rfl,ho1,RX.cls,RX.no "name" (by decide),rfl,_,rfl,_,rfl,o,_,dx,_,_,rfl,ho1,RX.cls,RX.no "way" (by decide),rfl,qv rfl,fun l H2 s2 n2 e2=>⟨_,["bands",n,j7 ps,x],l,rfl,rfl,zZ.of e2,jr,q H2 (s1.trans s2)⟩⟩
theorem u9 {Cs:Nat→Addr} {k d j:Nat} (F:qQ K "of_month" "Rule.of_month" (zy (top 56) 5) f fd) (M:qW P w K mg base zO j (Cs k) "until" ["self","bases"] (jq K d k Cs)):zH P w K mg base zO (j+1) f fd ["self","bases"] (VP K d k Cs):=by
 refine F.ok (N:=["self","bases"]) (by walk_at"s") (fun vs H Q E h=>?_) (fun cdv A outer s H vs Q E hr h=>?_)
 ·obtain⟨v,r,b,bs,rfl,_⟩:=h
  rfl
 ·obtain⟨v,r,b,bs,rfl,hk,ro,gd,hb,bl,q⟩:=h
  obtain⟨o,dx,fs,rfl,ho,_,no⟩:=ro.obj gd
  have no:=no "until" (by decide)
  rw[hk] at ho
  refine⟨_,zi (zu (zq vn (vY M hr (CZ _) zt (pv 0) (za (pv 1) zd)) (vY M hr (CZ _) zt (pv 0) (za (yJ wa (pv 1) jO (yY (QT wQ ze))) zd)))),?_⟩
  refine⟨_,rfl,o,dx,_,rfl,ho,no,_,rfl,_,r,b,bs,rfl,hk,ro,gd,hb,bl,fun H1 s1=>?_⟩
  refine⟨_,rfl,o,dx,_,rfl,s1 _ _ ho,no,_,rfl,_,rfl,_,rfl,b,_,rfl,s1.seq hb,fun p p0=>?_⟩
  have s2:zw H1 (upd H1 p (.lst (vm (bs.map V.int) none (some (-1))))):=zw.upd p0
  refine⟨_,r,p,dl bs,rfl,hk,(ro.same s1).same s2,gd,zZ.of (by rw[← La];exact zp),dG (Pb bs) bl,fun H2 s3=>⟨_,_,rfl,rfl,q H2 (s1.trans (s2.trans s3))⟩⟩
end
end K15
set_option maxHeartbeats 1000000
namespace L2
open PySem PySem.Spec PyProof.Rows PySem.W
section
variable {X:Cx} {A:Around} {E:Value→Shared→Prop} {pins:List (Addr × Obj)} {σ:St} {H:Hp} {s:Shared} {a kS:Addr} {e e1:Nat} {keys:Array Value} {vs:List Value} {m:Nat→Int} {nm:Nat→Str} {P:PySem.Fin→Shared→Prop}
end
section
variable {X:Cx} {p:Str} {scope:Scope} {c P:Addr} {params:Arguments} {body a:Expr} {pos lpos kpos p1:Pos} {ta te:TE}
end
end L2
namespace L2
open PySem PySem.Spec PyProof.Rows
end L2
namespace Pg
open PySem L2
noncomputable def less (prs:List (Str × Int)):List (Str × Int):=prs.map fun p=>(p.1,-p.2)
noncomputable def Rc (a b:Str):Bool:=decide (¬ b.cps.toList<a.cps.toList)
noncomputable def cA (ks:List Str):List Str:=ks.mergeSort Rc
theorem Ts {a b:Str} (h1:¬ b.cps.toList<a.cps.toList) (h2:¬ a.cps.toList<b.cps.toList):a=b:=by
 have e:a.cps.toList=b.cps.toList:=List.le_antisymm h1 h2
 cases a
 cases b
 exact congrArg Str.mk (eJ.mp e)
noncomputable def lq:Str:=("differences":Str) ++ ".<locals>." ++ "<lambda>"
section
variable {α:Type} {H:Hp} {ys zs:List V} {xs us:List α} {P:Hp→V→α→Prop}
theorem RE (T:qN H ys xs P):qN H ys.reverse xs.reverse P:=⟨by rw[Dh,Dh,T.len],fun i y e=>by
 have hi:i<ys.length:=by
  have:=(dF.mp e).1
  rwa [Dh] at this
 rw[Ey hi] at e
 rw[Ey (by rw[← T.len];exact hi),← T.len]
 exact T.at_ _ y e⟩
end
end Pg
namespace L2
open PySem PySem.Spec PyProof.Rows
noncomputable def FT (H H':Hp):Prop:=∀ b c,H b=some (.tup c)→H' b=some (.tup c)
noncomputable def Up {α:Type} (P:Hp→V→α→Prop):Prop:=∀ H H' v x,FT H H'→P H v x→P H' v x
section
variable {α β:Type} {J:It} {D:Addr} {tt:TT} {te:TE} {fin:List V→Hp→Prop} {σ:St} {H H':Hp} {ys zs:List V} {xs:List α} {P:Hp→V→α→Prop} {K:BFr}
end
end L2
namespace Pg
open PySem L2
inductive En where
 | wage (p:Str) (m r a:Int)
 | extra (p:Str) (m a:Int)
noncomputable def cE:En→List V
 | .wage p m r a=>[.str "wage",.str p,.int m,.int r,.int a]
 | .extra p m a=>[.str "extra",.str p,.int m,.int a]
structure Pt where
 d:Int
 k:Str
 t:Option En
noncomputable def cm (l:List Str):List Str:=l.foldr (fun x r=>if x∈r then r else x::r) []
noncomputable def TQ (z:Str) (ps:List Pt):List (Int × Option En):=(ps.filter fun p=>decide (p.k=z)).map fun p=>(p.d,p.t)
noncomputable def Cu (l:List (Int × Option En)) (D:Int):Option En:=(l.reverse.find? fun q=>decide (q.1≤D)).bind (·.2)
noncomputable def CG (ps:List Pt):List Str:=cA (cm (ps.map (·.k)))
noncomputable def kn (ps:List Pt) (D:Int):List (Str × En):=(CG ps).filterMap fun z=>(Cu (TQ z ps) D).map fun e=>(z,e)
noncomputable def own (J t:Addr) (ms:List (Str × Addr)):List Addr:=J::t::ms.map (·.2)
noncomputable def dE (e:En):Dt:=.t ((cE e).map Dt.v)
noncomputable def Cp (q:Str × En):Dt:=.t [.v (.str q.1),dE q.2]
inductive Fd where
 | k (ks:List (Str × En))
 | n (ss:List Str)
noncomputable def Fd.dt:Fd→List Dt
 | .k ks=>ks.map Cp
 | .n ss=>ss.map fun z=>.v (.str z)
section
variable {C:Addr} {H H':Hp} {J dx t:Addr} {ms:List (Str × Addr)} {ld:Int} {ps:List Pt}
end
theorem uC {H H':Hp} {l:Addr} (s:zw H H') (h:H' l=none):H l=none:=by
 cases e:H l with
 | none=>rfl
 | some o=>rw[s _ _ e] at h;cases h
noncomputable def bD (K:BFr):List V→Hp→VK→Prop:=fun xs H Q=>∃ p ys,xs=[.ref p]∧(zZ K H p ys∨qh K H p ys)∧Q (.int ys.length) H
structure oJ (ps:List (Int × Int)) (n:Nat):Prop where
 few:ps.length≤n+1
 hd:∃ p r,ps=((0:Int),p)::r
 ok:∀ q∈ps,JM q.1∧YT q.2
 up:Up ps
theorem oJ.done {ps:List (Int × Int)} {n:Nat} (h:oJ ps n) (hn:n≤11):Zv ps:=⟨by have:=h.few;omega,h.hd,h.ok,h.up⟩
theorem oJ.one {p:Int} (h:YT p):oJ [((0:Int),p)] 0:=⟨CZ _,⟨p,[],rfl⟩,fun q hq=>by
 rw[dI.mp hq]
 exact⟨⟨Di _,by show (0:Int)≤1000000000000;decide⟩,h⟩,Ee _ _⟩
theorem oJ.mono {ps:List (Int × Int)} {n:Nat} (h:oJ ps n):oJ ps (n+1):=⟨El h.few,h.hd,h.ok,h.up⟩
theorem oJ.last {ps:List (Int × Int)} {n:Nat} (h:oJ ps n):∃ qs q,ps=qs++[q]:=by
 obtain⟨p,r,e⟩:=h.hd
 refine⟨ps.dropLast,ps.getLast (by rw[e];exact eI _ _),(Ef _).symm⟩
theorem nV {qs:List (Int × Int)} {q:Int × Int} (h:Up (qs++[q])):∀ x∈qs++[q],x.1≤q.1:=fun x hx=>by
 rcases dA.mp hx with hx | hx
 ·exact Int.le_of_lt ((eA.mp h).2.2 x hx q (dI.mpr rfl))
 ·rw[dI.mp hx]
  exact Di _
theorem oJ.snoc {qs:List (Int × Int)} {q:Int × Int} {n:Nat} {s p:Int} (h:oJ (qs++[q]) n) (s1:1≤s) (b:q.1+s≤1000000000000) (hp:YT p):oJ (qs++[q]++[(q.1+s,p)]) (n+1):=by
 refine⟨?_,?_,fun x hx=>?_,?_⟩
 ·have:=h.few
  rw[dh,Da]
  omega
 ·obtain⟨p0,r,e⟩:=h.hd
  exact⟨p0,r++[(q.1+s,p)],by rw[e];rfl⟩
 ·rcases dA.mp hx with hx | hx
  ·exact h.ok x hx
  ·rw[dI.mp hx]
   have:=(h.ok q (Dl _ (dI.mpr rfl))).1.1
   exact⟨⟨by show 0≤q.1+s;omega,b⟩,hp⟩
 ·refine eA.mpr ⟨h.up,Ee _ _,fun x hx y hy=>?_⟩
  rw[dI.mp hy]
  have:=nV h.up x hx
  show x.1<q.1+s
  omega
theorem LK {H:Hp} {ys:List V} {qs:List (Int × Int)} {q:Int × Int} (T:z5 H ys ((qs++[q]).map cB)):∃ a,atI ys (-1)=some (.ref a)∧H a=some (.tup (cB q)):=by
 have yl:ys.length=qs.length+1:=by rw[T.len,CY,dh,Da]
 obtain⟨a,e,h⟩:=VG T (i:=qs.length) (q:=q) (by rw[dS (CZ _),Ei];rfl)
 have ne:ys≠[]:=fun z=>by rw[z] at yl;cases yl
 refine⟨a,?_,h⟩
 have e2:=Ef ne
 rw[← e2,W9,List.getLast_eq_getElem]
 rw[de (by omega)] at e
 have e3:=Option.some.inj e
 rw[← e3]
 congr 2
 omega
theorem rb {a b c d e:V} {i:Int} (h0:0≤i) (h1:i<5):∃ v,atI [a,b,c,d,e] i=some v∧(i=0∧v=a∨i=1∧v=b∨i=2∧v=c∨i=3∧v=d∨i=4∧v=e):=by
 obtain⟨n,rfl⟩:=Dy h0
 match n,h1 with
 | 0,_=>exact⟨a,q8 rfl,.inl ⟨rfl,rfl⟩⟩
 | 1,_=>exact⟨b,q8 rfl,.inr (.inl ⟨rfl,rfl⟩)⟩
 | 2,_=>exact⟨c,q8 rfl,.inr (.inr (.inl ⟨rfl,rfl⟩))⟩
 | 3,_=>exact⟨d,q8 rfl,.inr (.inr (.inr (.inl ⟨rfl,rfl⟩)))⟩
 | 4,_=>exact⟨e,q8 rfl,.inr (.inr (.inr (.inr ⟨rfl,rfl⟩)))⟩
 | k+5,h=>exact absurd h (by omega)
theorem bO:("bands":Str)≠"flat":=by decide +kernel
theorem b7:("bands":Str)≠"share":=by decide +kernel
theorem TC:("bands":Str)≠"capped":=by decide +kernel
theorem Br:("bands":Str)≠"least":=by decide +kernel
theorem cQ:("ontop":Str)≠"flat":=by decide +kernel
theorem cT:("ontop":Str)≠"share":=by decide +kernel
theorem BP:("ontop":Str)≠"capped":=by decide +kernel
theorem cV:("ontop":Str)≠"least":=by decide +kernel
theorem bS:("ontop":Str)≠"bands":=by decide +kernel
theorem Wk (n b w:Str):("bands ":Str)++n ++ " " ++ b ++ " " ++ w=Txt.join " " ["bands",n,b,w]:=by
 rw[show ([("bands":Str),n,b,w]:List Str)=[("bands":Str),n,b]++[w] from rfl,vb " " w (eI _ _),show ([("bands":Str),n,b]:List Str)=[("bands":Str),n]++[b] from rfl,vb " " b (eI _ _),show ([("bands":Str),n]:List Str)=[("bands":Str)]++[n] from rfl,vb " " n (eI _ _),WD]
 rw[show (("bands ":Str)) = "bands" ++ " " by decide +kernel]
theorem Yu (n p w r:Str):Txt.join " " ["ontop",n,p,w] ++ " of " ++ r=Txt.join " " ["ontop",n,p,w,"of",r]:=by
 rw[show ([("ontop":Str),n,p,w,"of",r]:List Str)=[("ontop":Str),n,p,w,"of"]++[r] from rfl,vb " " r (eI _ _),show ([("ontop":Str),n,p,w,"of"]:List Str)=[("ontop":Str),n,p,w]++[("of":Str)] from rfl,vb " " "of" (eI _ _)]
 rw[Str.append_assoc,Str.append_assoc,Str.append_assoc,show (" of ":Str) = " " ++ ("of" ++ " ") by decide +kernel,Str.append_assoc,Str.append_assoc,Str.append_assoc]
theorem km {d:Nat} {r:Rk} (h:Gd d r):(yK r).length≤1016+200*d:=by
 induction h with
 | @pln d r h =>
  rw[QY h]
  have:=(yi (sep:=" ") (m:=20) (k:=5) (WB h) (by cases h <;> exact dX rfl) (by decide +kernel) rfl).2
  unfold gC
  omega
 | @bands d n w ps h1 h2 h3 =>
  have:=(yi (sep:=" ") (zs:=["bands",n,j7 ps,w]) (m:=252) (k:=4) (fun z hz=>?_) (CZ _) (by decide +kernel) rfl).2
  ·show (Txt.join " " ["bands",n,j7 ps,w]).length≤_
   omega
  ·have k1:=h1.ok.hi
   have k2:=(vo h2).2
   have k3:=wc h3
   simp only[dc,dm,or_false] at hz
   rcases hz with rfl | rfl | rfl | rfl
   ·decide +kernel
   ·omega
   ·omega
   ·omega
 | @ontop d n w p r h1 h2 h3 _ ih =>
  show (Txt.join " " ["ontop",n,toString p,w,"of",yK r]).length≤_
  rw[← Yu,Str.length_append,Str.length_append]
  have k:=(yi (sep:=" ") (zs:=["ontop",n,toString p,w]) (m:=8) (k:=4) (fun z hz=>?_) (CZ _) (by decide +kernel) rfl).2
  ·have:(" of ":Str).length=4:=by decide +kernel
   omega
  ·have k1:=h1.ok.hi
   have k2:=vJ h2
   have k3:=wc h3
   simp only[dc,dm,or_false] at hz
   rcases hz with rfl | rfl | rfl | rfl
   ·decide +kernel
   ·omega
   ·omega
   ·omega
end Pg
namespace L2
open PySem PySem.Spec PyProof.Rows
noncomputable def uz (H H':Hp):Prop:=∀ b o,H b=some o→(∀ xs,o≠.lst xs)→H' b=some o
theorem lP {H:Hp} {D:Addr} {xs ys:List V} (h:H D=some (.lst xs)):uz H (upd H D (.lst ys)):=fun b o e n=>by
 rw[zm fun z=>?_]
 ·exact e
 ·subst z
  rw[h] at e
  cases e
  exact n _ rfl
structure gf {α:Type} (H:Hp) (zs:List V) (xs:List α) (S:Hp→V→α→Prop):Prop where
 len:zs.length=xs.length
 at_:∀ (i:Nat) (x:α),xs[i]? = some x→∃ u,zs[i]? = some u∧S H u x
section
variable {J:It} {D:Addr} {te:TE} {fin:List V→Hp→Prop} {σ:St} {H:Hp} {ys:List V} {α:Type} {xs:List α} {P:Hp→V→α→Prop}
theorem kA (W:Zw J H ys) (T:qN H ys xs P) (hD:H D=none) (hz:xs.length<sizeLine) (S:Hp→V→α→Prop) (mono:∀ {H H':Hp} {v:V} {x:α},uz H H'→S H v x→S H' v x) (he:∀ (i:Nat) x,xs[i]? = some x→∀ v H' R,zw H H'→P H' v x→(∀ u H'',zw H' H''→S H'' u x→R u H'')→te (σ.set 0 (some v)) H' R) (hf:∀ zs H',zw H H'→H' D=some (.lst zs)→gf H' zs xs S→fin zs H'):jj J D (z4 0) qK te fin σ (upd H D (.lst [])):=by
 refine jJ W hD (fun i zs H'=>gf H' zs (xs.take i) S) (fun σ'=>∀ x,σ'.set 0 (some x) = σ.set 0 (some x)) (fun _=>rfl) ⟨rfl,fun i x h=>by cases h⟩ ?_ ?_
 ·rintro i y zs σ' H' hy hσ s hd hl G
  obtain⟨x,hx,hP⟩:=T.at_ i y hy
  have tk:xs.take (i+1)=xs.take i++[x]:=by rw[Dg,hx];rfl
  have hi:i<xs.length:=(dF.mp hx).1
  have zl:zs.length=i:=by rw[G.len,dP];omega
  have hσ2:∀ z,(σ'.set 0 (some y)).set 0 (some z) = σ.set 0 (some z):=fun z=>by rw[eB];exact hσ z
  unfold Jt z4
  dsimp only
  refine Pc ?_
  rw[hσ y] at hσ2 ⊢
  refine he i x hx y _ _ s (hP _ s) fun u H3 s3 hu=>⟨s3 _ _ hd,by omega,hσ2,fun b o z=>?_,zp,?_,?_⟩
  ·rw[zm (zB z hD)]
   exact s3 _ _ (s _ _ z)
  ·rw[dh,Da];omega
  ·have kp:=lP (ys:=zs++[u]) (s3 _ _ hd)
   refine⟨by rw[tk,dh,dh,G.len];rfl,fun j w hw=>?_⟩
   rw[tk] at hw
   by_cases hj:j<(xs.take i).length
   ·rw[d7 hj] at hw
    obtain⟨u',h1,h2⟩:=G.at_ j w hw
    exact⟨u',by rw[d7 (by rw[G.len];exact hj)];exact h1,mono (fun b o e n=>kp b o (s3 _ _ e) n) h2⟩
   ·have hj:=DK hj
    rw[dS hj] at hw
    have e0:j - (xs.take i).length=0:=by
     cases q:j - (xs.take i).length with
     | zero=>rfl
     | succ n=>rw[q] at hw;cases hw
    rw[e0] at hw
    cases hw
    refine⟨u,?_,mono kp hu⟩
    rw[dS (by rw[G.len];exact hj),G.len,e0]
    rfl
 ·rintro zs H' s hd hl G
  rw[T.len,Dj] at G
  exact hf zs H' s hd G
end
end L2
namespace Pg
open PySem L2
theorem z5.keep {H H':Hp} {ys:List V} {cs:List (List V)} (k:uz H H') (T:z5 H ys cs):z5 H' ys cs:=T.mono fun b c h=>k b _ h fun xs z=>by cases z
theorem vz.keep {H H':Hp} {u:Addr} {ps:List (Int × Int)} (k:uz H H') (h:vz H u ps):vz H' u ps:=by
 obtain⟨ys,e,t⟩:=h
 exact⟨ys,k _ _ e (fun xs z=>nomatch z),z5.keep k t⟩
theorem Qc.keep {H H':Hp} {r:Rk} {v:V} (k:uz H H') (h:Qc H r v):Qc H' r v:=by
 induction h with
 | pln e h =>
  obtain⟨t,rfl,h⟩:=h
  exact .pln e ⟨t,rfl,k _ _ h fun xs z=>by cases z⟩
 | bands h b=>exact .bands (k _ _ h fun xs z=>by cases z) (b.keep k)
 | ontop h _ ih=>exact .ontop (k _ _ h fun xs z=>by cases z) ih
theorem wg.keep {Cs:Nat→Addr} {H H':Hp} {r:Rk} {v:V} (k:uz H H') (h:wg Cs H r v):wg Cs H' r v:=by
 induction h with
 | pln e h =>
  obtain⟨t,dx,rfl,h⟩:=h
  exact .pln e ⟨t,dx,rfl,k _ _ h fun xs z=>by cases z⟩
 | bands h b=>exact .bands (k _ _ h fun xs z=>by cases z) (b.keep k)
 | ontop h _ ih=>exact .ontop (k _ _ h fun xs z=>by cases z) ih
abbrev DB:=Str × List (Int × Int) × Str
noncomputable def CJ (d:DB):Rk:=.bands d.1 d.2.1 d.2.2
noncomputable def CH (d:DB):Prop:=yh d.1∧Zv d.2.1∧YR d.2.2
theorem BH {x:V} {c:Int} (mv:x∈[V.int 0,.int 1,.int 2,.int 3,.int 5,.int 12,.int 12,.int (c/56%13)]) (f0:0≤c/56%13) (f1:c/56%13<13):∃ n:Nat,x = .int (n:Nat)∧n≤50:=by
 simp only[dc,dm,or_false] at mv
 rcases mv with rfl | rfl | rfl | rfl | rfl | rfl | rfl | rfl
 ·exact⟨0,rfl,by decide⟩
 ·exact⟨1,rfl,by decide⟩
 ·exact⟨2,rfl,by decide⟩
 ·exact⟨3,rfl,by decide⟩
 ·exact⟨5,rfl,by decide⟩
 ·exact⟨12,rfl,by decide⟩
 ·exact⟨12,rfl,by decide⟩
 ·obtain⟨k,hk⟩:=Dy f0
  exact⟨k,by rw[hk],by omega⟩
theorem uZ (w:Str):uc 0 w=0:=by
 unfold uc uF wZ
 by_cases h1:w = "down"
 ·rw[if_pos h1,if_neg dJ]
  rfl
 rw[if_neg h1]
 by_cases h2:w = "up"
 ·rw[if_pos h2,if_neg (by decide)]
  rfl
 ·rw[if_neg h2]
  rfl
theorem M9 {d:DB} (h:CH d):yM (CJ d) []=0:=by
 obtain⟨_,ok,_⟩:=h
 show uc (kI d.2.1 0) d.2.2=0
 obtain⟨p,r,e⟩:=ok.hd
 have up:=ok.up
 rw[e] at up ⊢
 rw[nu up (Di _)]
 exact uZ _
theorem bu {p:Str→Prop} (h1:p "name") (h2:p "bands") (h3:p "way") (h4:p "parts") (h5:p "within"):∀ x∈(["name","bands","way","parts","within"]:List Str),p x:=by
 intro x hx
 simp only[dc,dm,or_false] at hx
 rcases hx with rfl | rfl | rfl | rfl | rfl <;> assumption
end Pg
namespace L2
open PySem
section
variable {P:Program} {w:World} {K:BFr} {mg:Str→Option Value} {base:Heap} {CX:kT} {j k:Nat} {C:Addr} {x m:Str} {ps:List Str} {sp sp':Sp}
theorem qW.mono (M:qW P w K mg base CX j C m ps sp) (h:j≤k):qW P w K mg base CX k C m ps sp:=by
 obtain⟨c,f,fd,a,b,F⟩:=M
 exact⟨c,f,fd,a,b,F.mono h⟩
theorem qW.imp (M:qW P w K mg base CX k C m ps sp) (h:∀ vs H Q E,sp' vs H Q E→sp vs H Q E):qW P w K mg base CX k C m ps sp':=by
 obtain⟨c,f,fd,a,b,F⟩:=M
 exact⟨c,f,fd,a,b,F.imp h⟩
theorem QB.imp (M:QB P w K mg base CX k x m ps sp) (h:∀ vs H Q E,sp' vs H Q E→sp vs H Q E):QB P w K mg base CX k x m ps sp':=by
 obtain⟨C,f,fd,a,b,c,F⟩:=M
 exact⟨C,f,fd,a,b,c,F.imp h⟩
theorem qP.mono (M:qP P w K mg base CX j x ps sp) (h:j≤k):qP P w K mg base CX k x ps sp:=by
 obtain⟨f,fd,a,b,c,F⟩:=M
 exact⟨f,fd,a,b,c,F.mono h⟩
end
end L2
namespace Pg
open PySem L2
noncomputable def Bv:Rk→Int
 | .ontop _ _ _ r=>Bv r+1
 | _=>0
theorem tX {d:Nat} {r:Rk} (h:Gd d r):Bv r≤d:=by
 induction h with
 | pln h=>cases h <;> exact eX _
 | bands=>exact eX _
 | ontop _ _ _ _ ih =>
  show Bv _+1≤_
  omega
theorem pL {r:Rk} (h:r.kd<5):Bv r=0:=by
 cases r with
 | ontop=>exact absurd h (fe (dX rfl))
 | _=>rfl
structure bb (K:BFr) (Cs:Nat→Addr) (cR:Addr):Prop where
 ha:∀ i,i<6→PySem.W.findIn K (.ref (Cs i)) "__class__" = some (some (.builtin "object.__class__"))
 hn:PySem.W.specialIn K (.builtin "object.__class__") "__get__" = some (some (.builtin "getset_descriptor.__get__"))
 htk:PySem.W.takesIn K (.builtin "object.__class__")=some true
 hm:∀ i,i<6→PySem.W.mroIn K (Cs i) (.type "object")=some true
 kt:∀ i,i<6→PySem.W.kitOne K (.ref (Cs i)) (.ref cR)=some true
 cls:∀ i,i<6→w5 K (Cs i)
 ne:Cs 1≠Cs 5
theorem Tf (r:Rk):r.kd<6:=by cases r <;> exact dX rfl
theorem Gd.pl {d:Nat} {r:Rk} (h:Gd d r) (k:r.kd<4):Vx r:=by
 cases h with
 | pln p=>exact p
 | bands=>exact absurd k (by show ¬ (4:Nat)<4;decide)
 | ontop=>exact absurd k (by show ¬ (5:Nat)<4;decide)
theorem wg.pl {Cs:Nat→Addr} {H:Hp} {r:Rk} {v:V} (h:wg Cs H r v) (k:r.kd<4):xE Cs H v r:=by
 cases h with
 | pln _ p=>exact p
 | bands=>exact absurd k (by show ¬ (4:Nat)<4;decide)
 | ontop=>exact absurd k (by show ¬ (5:Nat)<4;decide)
theorem wg.frame {Cs:Nat→Addr} {H H':Hp} {r:Rk} {v:V} {o C dx:Addr} {d:Nat} (h:wg Cs H r v) (g:Gd d r) (ho:H o=some (.ins C dx [])) (fr:∀ b y,H b=some y→b≠o→H' b=some y):wg Cs H' r v:=by
 induction h generalizing d with
 | pln k h =>
  obtain⟨t,dy,rfl,h⟩:=h
  refine .pln k ⟨t,dy,rfl,fr _ _ h fun e=>?_⟩
  subst e
  rw[h] at ho
  cases g.pl k <;> exact nomatch ho
 | bands h b =>
  obtain⟨ys,hu,T⟩:=b
  have nt:∀ b c,H b=some (.tup c)→H' b=some (.tup c):=fun b c h=>fr _ _ h (yQ h ho (by intro z;cases z))
  exact .bands (fr _ _ h fun e=>by subst e;rw[h] at ho;cases ho) ⟨ys,nt _ _ hu,T.mono nt⟩
 | ontop h _ ih =>
  cases g with
  | pln p=>cases p
  | ontop _ _ _ g=>exact .ontop (fr _ _ h fun e=>by subst e;rw[h] at ho;cases ho) (ih g)
theorem wg.frame3 {Cs:Nat→Addr} {H H':Hp} {r:Rk} {v:V} {o dx:Addr} {d:Nat} {n w:Str} {p:Int} (ne:Cs 1≠Cs 5) (h:wg Cs H r v) (g:Gd d r) (ho:H o=some (.ins (Cs 5) dx [("name",.str n),("parts",.int p),("way",.str w)])) (fr:∀ b y,H b=some y→b≠o→H' b=some y):wg Cs H' r v:=by
 induction h generalizing d with
 | pln k h =>
  obtain⟨t,dy,rfl,h⟩:=h
  refine .pln k ⟨t,dy,rfl,fr _ _ h fun e=>?_⟩
  subst e
  rw[h] at ho
  have ho:=Option.some.inj ho
  cases g.pl k with
  | flat=>exact nomatch (HO.ins.inj ho).2.2
  | share=>exact ne (HO.ins.inj ho).1
  | capped=>exact nomatch (HO.ins.inj ho).2.2
  | least=>exact nomatch (HO.ins.inj ho).2.2
 | bands h b =>
  obtain⟨ys,hu,T⟩:=b
  have nt:∀ b c,H b=some (.tup c)→H' b=some (.tup c):=fun b c h=>fr _ _ h (yQ h ho (by intro z;cases z))
  refine .bands (fr _ _ h fun e=>?_) ⟨ys,nt _ _ hu,T.mono nt⟩
  subst e
  rw[h] at ho
  have k:=(HO.ins.inj (Option.some.inj ho)).2.2
  have k2:=congrArg (fun l=>(l.map Prod.fst)[1]?) k
  exact absurd (show ("bands":Str) = "parts" from Option.some.inj k2) (by decide +kernel)
 | ontop h _ ih =>
  cases g with
  | pln p=>cases p
  | ontop _ _ _ g =>
   refine .ontop (fr _ _ h fun e=>?_) (ih g)
   subst e
   rw[h] at ho
   exact nomatch (HO.ins.inj (Option.some.inj ho)).2.2
noncomputable def yG (d k:Nat) (Cs:Nat→Addr):Sp:=fun vs H Q _=>∃ v r,vs=[v]∧r.kd=k∧wg Cs H r v∧Gd d r∧Q (.int (Bv r)) H
noncomputable def yg (d k:Nat) (Cs:Nat→Addr):Sp:=fun vs H Q _=>∃ v r,vs=[v]∧r.kd=k∧wg Cs H r v∧Gd d r∧∀ o H',zw H H'→wg Cs H' r o→Q o H'
noncomputable def YA (d:Nat) (Cs:Nat→Addr):Sp:=fun vs H Q _=>∃ o dx n p x u r,vs=[.ref o,.str n,.int p,.str x,u]∧yh n∧YT p∧YR x∧wg Cs H r u∧Gd d r∧H o=some (.ins (Cs 5) dx []) ∧
 ∀ H' u',(∀ b y,H b=some y→b≠o→H' b=some y)→H' o=some (.ins (Cs 5) dx [("name",.str n),("parts",.int p),("way",.str x),("within",u')])→wg Cs H' r u'→Q .non H'
noncomputable def Qx:Sp:=fun vs H Q _=>∃ c z,vs=[.int c,.str z]∧yh z∧∀ v r H',Gd 3 r→r.name=z→zw H H'→Qc H' r v→Q v H'
theorem lz {d:Nat} {r:Rk} (h:Gd d r) (k:r.kd=5):∃ d' n p x r',d=d'+1∧r = .ontop n p x r'∧yh n∧YT p∧YR x∧Gd d' r':=by
 cases h with
 | pln p=>cases p <;> cases k
 | bands=>cases k
 | ontop h1 h2 h3 h4=>exact⟨_,_,_,_,_,rfl,rfl,h1,h2,h3,h4⟩
theorem V7 {K:BFr} {d k:Nat} {Cs:Nat→Addr} (hk:k<4):∀ vs H Q E,jq K d k Cs vs H Q E→vW K k Cs vs H Q E:=by
 rintro vs H Q E ⟨v,r,b,bs,rfl,e,ro,g,hb,bl,q⟩
 have pl:=g.pl (by omega)
 exact⟨v,r,b,bs,rfl,e,ro.pl (by omega),pl,hb,bl,by rw[uL pl] at q;exact q⟩
theorem Pj {K:BFr} {Cs:Nat→Addr} (RK:uu K Cs):∀ vs H Q E,uG Cs vs H Q E→u7 K vs H Q E:=by
 rintro vs H Q E ⟨i,o,dx,z,rfl,hi,ho,hz,q⟩
 exact⟨Cs i,o,dx,z,rfl,RK.cls i hi,RK.no i hi "name" (by decide),ho,hz,q⟩
theorem VB {d k:Nat} {Cs:Nat→Addr} (hk:k<4):∀ vs H Q E,y8 d k Cs vs H Q E→j6 k Cs vs H Q E:=by
 rintro vs H Q E ⟨v,r,rfl,e,ro,g,q⟩
 have pl:=g.pl (by omega)
 exact⟨v,r,rfl,e,ro.pl (by omega),pl,by rw[QY pl] at q;exact q⟩
theorem Zj {p:Nat→Prop} (h0:p 0) (h1:p 1) (h2:p 2) (h3:p 3) (h4:p 4) (h5:p 5):∀ i,i<6→p i
 | 0,_=>h0
 | 1,_=>h1
 | 2,_=>h2
 | 3,_=>h3
 | 4,_=>h4
 | 5,_=>h5
theorem zw.made {H:Hp} {o dx C:Addr} (o0:H o=none) (d0:H dx=none):zw H (upd (upd H dx (.own o)) o (.ins C dx [])):=fun b x hb=>by
 rw[zm (zB hb o0),zm (zB hb d0)]
 exact hb
end Pg
set_option maxHeartbeats 4000000
namespace K15
open PySem PySem.NumText L2 Pg
seal PE PA PT PW PS jT PG uv PI ui PO PK
section
variable {P:Program} {w:World} {K:BFr} {mg:Str→Option Value} {base:Heap} {f:Addr} {fd:FuncData} {d:Nat→Addr} {cR:Addr}
theorem kC {Cs:Nat→Addr} {d k:Nat} (hk:k<5) (F:qQ K "depth" "Rule.depth" (zy (top 56) 4) f fd):zH P w K mg base zO 1 f fd ["self"] (yG d k Cs):=by
 refine F.ok (N:=["self"]) (by walk_at"s") (fun vs H Q E h=>?_) (fun cdv A outer s H vs Q E hr h=>?_)
 ·obtain⟨v,r,rfl,_⟩:=h
  rfl
 ·obtain⟨v,r,rfl,e,ro,gd,q⟩:=h
  refine⟨_,zi (zu ze),?_⟩
  rw[pL (by omega)] at q
  exact q
theorem Vw {Cs:Nat→Addr} {d j:Nat} (F:qQ K "depth" "OnTop.depth" (zy (top 68) 4) f fd) (RX:Yi K (Cs 5)) (MD:∀ k,k<6→qW P w K mg base zO j (Cs k) "depth" ["self"] (yG d k Cs)):zH P w K mg base zO (j+1) f fd ["self"] (yG (d+1) 5 Cs):=by
 refine F.ok (N:=["self"]) (by walk_at"s") (fun vs H Q E h=>?_) (fun cdv A outer s H vs Q E hr h=>?_)
 ·obtain⟨v,r,rfl,_⟩:=h
  rfl
 ·obtain⟨v,r,rfl,e,ro,gd,q⟩:=h
  obtain⟨d',n,p,x,r',ed,rfl,hn,hp,hw,g'⟩:=lz gd e
  cases ed
  cases ro with
  | pln kk _=>exact absurd kk (by show ¬ (5:Nat)<4;decide)
  | @ontop _ _ _ _ o dx u ho ri =>
   obtain⟨oi,dxi,fsi,rfl,hoi,_,noi⟩:=ri.obj g'
   refine⟨_,zi (zu (zq zU (wk (p:=fun k=>k<6) fun k hk=>uH (MD k hk) hr (CZ _) zt (zN (pv 0) rfl)) ze)),?_⟩
   exact⟨r'.kd,Tf r',_,rfl,o,_,dx,_,_,rfl,ho,RX.cls,RX.no "within" (by decide),rfl,oi,dxi,fsi,rfl,hoi,noi "depth" (by decide),_,r',rfl,rfl,ri,g',_,_,rfl,rfl,q⟩
theorem Lp {Cs:Nat→Addr} {j:Nat}:zH P w K mg base zO j f fd ["self"] (yG 0 5 Cs):=⟨fun vs H Q E ⟨v,r,h,e,ro,g,_⟩=>by rw[h];rfl,fun _ _ _ _ _ _ _ _ _ _ _ _ _ ⟨v,r,h,e,ro,g,_⟩=>by obtain⟨_,_,_,_,_,z,_⟩:=lz g e;cases z⟩
theorem Pr {Cs:Nat→Addr} {j:Nat}:zH P w K mg base zO j f fd ["self","bases"] (jq K 0 5 Cs):=⟨fun vs H Q E ⟨v,r,b,bs,h,_⟩=>by rw[h];rfl,fun _ _ _ _ _ _ _ _ _ _ _ _ _ ⟨v,r,b,bs,h,e,ro,g,_⟩=>by obtain⟨_,_,_,_,_,z,_⟩:=lz g e;cases z⟩
theorem mi {Cs:Nat→Addr} {j:Nat}:zH P w K mg base zO j f fd ["self"] (y8 0 5 Cs):=⟨fun vs H Q E ⟨v,r,h,_⟩=>by rw[h];rfl,fun _ _ _ _ _ _ _ _ _ _ _ _ _ ⟨v,r,h,e,ro,g,_⟩=>by obtain⟨_,_,_,_,_,z,_⟩:=lz g e;cases z⟩
theorem Ov {Cs:Nat→Addr} {j:Nat}:zH P w K mg base zO j f fd ["self"] (yg 0 5 Cs):=⟨fun vs H Q E ⟨v,r,h,_⟩=>by rw[h];rfl,fun _ _ _ _ _ _ _ _ _ _ _ _ _ ⟨v,r,h,e,ro,g,_⟩=>by obtain⟨_,_,_,_,_,z,_⟩:=lz g e;cases z⟩
theorem Ub {Cs:Nat→Addr} {d j:Nat} (F:qQ K "until" "OnTop.until" (zy (top 68) 1) f fd) (RX:Yi K (Cs 5)) (hj:4≤j) (MU:∀ k,k<6→qW P w K mg base zO j (Cs k) "until" ["self","bases"] (jq K d k Cs)) (C1:qP P w K mg base zO 4 "share_of" ["amount","parts","way"] vL):zH P w K mg base zO (j+1) f fd ["self","bases"] (jq K (d+1) 5 Cs):=by
 refine F.ok (N:=["self","bases"]) (by walk_at"s") (fun vs H Q E h=>?_) (fun cdv A outer s H vs Q E hr h=>?_)
 ·obtain⟨v,r,b,bs,rfl,_⟩:=h
  rfl
 ·obtain⟨v,r,b,bs,rfl,e,ro,gd,hb,bl,q⟩:=h
  obtain⟨d',n,p,x,r',ed,rfl,hn,hp,hw,g'⟩:=lz gd e
  cases ed
  cases ro with
  | pln kk _=>exact absurd kk (by show ¬ (5:Nat)<4;decide)
  | @ontop _ _ _ _ o dx u ho ri =>
   obtain⟨oi,dxi,fsi,rfl,hoi,_,noi⟩:=ri.obj g'
   refine⟨_,zi (zu (zj C1 hr hj zt (za (wk (p:=fun k=>k<6) fun k hk=>vY (MU k hk) hr (CZ _) zt (zN (pv 0) rfl) (za (pv 1) zd)) (za (zN (pv 0) rfl) (za (zN (pv 0) rfl) zd))))),?_⟩
   refine⟨r'.kd,Tf r',_,rfl,o,_,dx,_,_,rfl,ho,RX.cls,RX.no "within" (by decide),rfl,oi,dxi,fsi,rfl,hoi,noi "until" (by decide),_,rfl,_,r',b,bs,rfl,rfl,ri,g',hb,bl,fun H1 s1=>?_⟩
   have ho1:=s1 _ _ ho
   exact⟨_,rfl,o,_,dx,_,_,rfl,ho1,RX.cls,RX.no "parts" (by decide),rfl,_,rfl,o,_,dx,_,_,rfl,ho1,RX.cls,RX.no "way" (by decide),rfl,_,_,_,rfl,hp.1,hp.2,hw,q H1 s1⟩
theorem Lb {Cs:Nat→Addr} {d:Nat} (F:qQ K "twin" "Flat.twin" (zy (top 57) 3) f fd) (RK:uu K Cs) (N0:ug P w K mg base zO 5 "Flat" (Cs 0) ["self","name","amount"] (yA 0 Cs)):zH P w K mg base zO 7 f fd ["self"] (yg d 0 Cs):=by
 refine F.ok (N:=["self"]) (by walk_at"s") (fun vs H Q E h=>?_) (fun cdv A outer s H vs Q E hr h=>?_)
 ·obtain⟨v,r,rfl,_⟩:=h
  rfl
 ·obtain⟨v,r,rfl,e,ro,gd,q⟩:=h
  have pl:=gd.pl (by omega)
  have pl0:=pl
  obtain⟨o,dx,rfl,ho⟩:=ro.pl (by omega)
  cases pl with
  | @flat n a hn ha =>
   refine⟨_,zi (zu (y6 (j:=5) N0 hr (by decide) zt (za (zN (pv 0) rfl) (za (zN (pv 0) rfl) zd)))),?_⟩
   exact⟨_,rfl,o,_,dx,_,_,rfl,ho,RK.cls 0 (by decide),RK.no 0 (by decide) "name" (by decide),rfl,_,rfl,o,_,dx,_,_,rfl,ho,RK.cls 0 (by decide),RK.no 0 (by decide) "amount" (by decide),rfl,fun o dx o0 d0 ne=>⟨o,dx,.flat n a,rfl,rfl,pl0,zp,fun H' fr e=>⟨rfl,q _ H' (ye o0 d0 fr) (.pln (dX rfl) ⟨o,dx,rfl,e⟩)⟩⟩⟩
  | share=>cases e
  | capped=>cases e
  | least=>cases e
theorem pj {Cs:Nat→Addr} {d:Nat} (F:qQ K "twin" "Share.twin" (zy (top 58) 3) f fd) (RK:uu K Cs) (N0:ug P w K mg base zO 5 "Share" (Cs 1) ["self","name","parts","way"] (yA 1 Cs)):zH P w K mg base zO 7 f fd ["self"] (yg d 1 Cs):=by
 refine F.ok (N:=["self"]) (by walk_at"s") (fun vs H Q E h=>?_) (fun cdv A outer s H vs Q E hr h=>?_)
 ·obtain⟨v,r,rfl,_⟩:=h
  rfl
 ·obtain⟨v,r,rfl,e,ro,gd,q⟩:=h
  have pl:=gd.pl (by omega)
  have pl0:=pl
  obtain⟨o,dx,rfl,ho⟩:=ro.pl (by omega)
  cases pl with
  | @share n p x hn hp hw =>
   refine⟨_,zi (zu (y6 (j:=5) N0 hr (by decide) zt (za (zN (pv 0) rfl) (za (zN (pv 0) rfl) (za (zN (pv 0) rfl) zd))))),?_⟩
   exact⟨_,rfl,o,_,dx,_,_,rfl,ho,RK.cls 1 (by decide),RK.no 1 (by decide) "name" (by decide),rfl,_,rfl,o,_,dx,_,_,rfl,ho,RK.cls 1 (by decide),RK.no 1 (by decide) "parts" (by decide),rfl,_,rfl,o,_,dx,_,_,rfl,ho,RK.cls 1 (by decide),RK.no 1 (by decide) "way" (by decide),rfl,fun o dx o0 d0 ne=>⟨o,dx,.share n p x,rfl,rfl,pl0,zp,fun H' fr e=>⟨rfl,q _ H' (ye o0 d0 fr) (.pln (dX rfl) ⟨o,dx,rfl,e⟩)⟩⟩⟩
  | flat=>cases e
  | capped=>cases e
  | least=>cases e
theorem mQ {Cs:Nat→Addr} {d:Nat} (F:qQ K "twin" "Capped.twin" (zy (top 59) 3) f fd) (RK:uu K Cs) (N0:ug P w K mg base zO 5 "Capped" (Cs 2) ["self","name","parts","most","way"] (yA 2 Cs)):zH P w K mg base zO 7 f fd ["self"] (yg d 2 Cs):=by
 refine F.ok (N:=["self"]) (by walk_at"s") (fun vs H Q E h=>?_) (fun cdv A outer s H vs Q E hr h=>?_)
 ·obtain⟨v,r,rfl,_⟩:=h
  rfl
 ·obtain⟨v,r,rfl,e,ro,gd,q⟩:=h
  have pl:=gd.pl (by omega)
  have pl0:=pl
  obtain⟨o,dx,rfl,ho⟩:=ro.pl (by omega)
  cases pl with
  | @capped n p m x hn hp ha hw =>
   refine⟨_,zi (zu (y6 (j:=5) N0 hr (by decide) zt (za (zN (pv 0) rfl) (za (zN (pv 0) rfl) (za (zN (pv 0) rfl) (za (zN (pv 0) rfl) zd)))))),?_⟩
   exact⟨_,rfl,o,_,dx,_,_,rfl,ho,RK.cls 2 (by decide),RK.no 2 (by decide) "name" (by decide),rfl,_,rfl,o,_,dx,_,_,rfl,ho,RK.cls 2 (by decide),RK.no 2 (by decide) "parts" (by decide),rfl,_,rfl,o,_,dx,_,_,rfl,ho,RK.cls 2 (by decide),RK.no 2 (by decide) "most" (by decide),rfl,_,rfl,o,_,dx,_,_,rfl,ho,RK.cls 2 (by decide),RK.no 2 (by decide) "way" (by decide),rfl,fun o dx o0 d0 ne=>⟨o,dx,.capped n p m x,rfl,rfl,pl0,zp,fun H' fr e=>⟨rfl,q _ H' (ye o0 d0 fr) (.pln (dX rfl) ⟨o,dx,rfl,e⟩)⟩⟩⟩
  | flat=>cases e
  | share=>cases e
  | least=>cases e
theorem Ls {Cs:Nat→Addr} {d:Nat} (F:qQ K "twin" "Least.twin" (zy (top 60) 3) f fd) (RK:uu K Cs) (N0:ug P w K mg base zO 5 "Least" (Cs 3) ["self","name","parts","least","way"] (yA 3 Cs)):zH P w K mg base zO 7 f fd ["self"] (yg d 3 Cs):=by
 refine F.ok (N:=["self"]) (by walk_at"s") (fun vs H Q E h=>?_) (fun cdv A outer s H vs Q E hr h=>?_)
 ·obtain⟨v,r,rfl,_⟩:=h
  rfl
 ·obtain⟨v,r,rfl,e,ro,gd,q⟩:=h
  have pl:=gd.pl (by omega)
  have pl0:=pl
  obtain⟨o,dx,rfl,ho⟩:=ro.pl (by omega)
  cases pl with
  | @least n p m x hn hp ha hw =>
   refine⟨_,zi (zu (y6 (j:=5) N0 hr (by decide) zt (za (zN (pv 0) rfl) (za (zN (pv 0) rfl) (za (zN (pv 0) rfl) (za (zN (pv 0) rfl) zd)))))),?_⟩
   exact⟨_,rfl,o,_,dx,_,_,rfl,ho,RK.cls 3 (by decide),RK.no 3 (by decide) "name" (by decide),rfl,_,rfl,o,_,dx,_,_,rfl,ho,RK.cls 3 (by decide),RK.no 3 (by decide) "parts" (by decide),rfl,_,rfl,o,_,dx,_,_,rfl,ho,RK.cls 3 (by decide),RK.no 3 (by decide) "least" (by decide),rfl,_,rfl,o,_,dx,_,_,rfl,ho,RK.cls 3 (by decide),RK.no 3 (by decide) "way" (by decide),rfl,fun o dx o0 d0 ne=>⟨o,dx,.least n p m x,rfl,rfl,pl0,zp,fun H' fr e=>⟨rfl,q _ H' (ye o0 d0 fr) (.pln (dX rfl) ⟨o,dx,rfl,e⟩)⟩⟩⟩
  | flat=>cases e
  | share=>cases e
  | capped=>cases e
theorem P2 {Cs:Nat→Addr} {d:Nat} (F:qQ K "twin" "Bands.twin" (zy (top 65) 3) f fd) (RX:Yi K (Cs 4)) (N0:ug P w K mg base zO 6 "Bands" (Cs 4) ["self","name","rows","way"] (YH (Cs 4))):zH P w K mg base zO 8 f fd ["self"] (yg d 4 Cs):=by
 refine F.ok (N:=["self"]) (by walk_at"s") (fun vs H Q E h=>?_) (fun cdv A outer s H vs Q E hr h=>?_)
 ·obtain⟨v,r,rfl,_⟩:=h
  rfl
 ·obtain⟨v,r,rfl,e,ro,gd,q⟩:=h
  cases gd with
  | pln p=>cases p <;> cases e
  | ontop=>cases e
  | @bands _ n x ps hn ok hw =>
   cases ro with
   | pln kk _=>exact absurd kk (by show ¬ (4:Nat)<4;decide)
   | @bands _ _ _ o dx u ho bd =>
    refine⟨_,zi (zu (y6 (j:=6) N0 hr (by decide) zt (za (zN (pv 0) rfl) (za (zN (pv 0) rfl) (za (zN (pv 0) rfl) zd))))),?_⟩
    refine⟨_,rfl,o,_,dx,_,_,rfl,ho,RX.cls,RX.no "name" (by decide),rfl,_,rfl,o,_,dx,_,_,rfl,ho,RX.cls,RX.no "bands" (by decide),rfl,_,rfl,o,_,dx,_,_,rfl,ho,RX.cls,RX.no "way" (by decide),rfl,fun o dx o0 dx0 ne=>⟨o,dx,n,u,ps,x,rfl,hn,ok,hw,?_,zp,fun H' u' fr ho' bd'=>⟨rfl,q _ H' (ye o0 dx0 fr) (.bands ho' bd')⟩⟩⟩
    obtain⟨ys,hu,T⟩:=bd
    have nt:∀ {b c},H b=some (.tup c)→(upd (upd H dx (.own o)) o (.ins (Cs 4) dx [])) b=some (.tup c):=fun {b c} h=>by rw[zm (zB h o0),zm (zB h dx0)];exact h
    exact⟨ys,nt hu,T.mono fun b c h=>nt h⟩
theorem WK {Cs:Nat→Addr} {d j:Nat} (F:qQ K "twin" "OnTop.twin" (zy (top 68) 3) f fd) (RX:Yi K (Cs 5)) (N0:ug P w K mg base zO j "OnTop" (Cs 5) ["self","name","parts","way","rule"] (YA d Cs)):zH P w K mg base zO (j+2) f fd ["self"] (yg (d+1) 5 Cs):=by
 refine F.ok (N:=["self"]) (by walk_at"s") (fun vs H Q E h=>?_) (fun cdv A outer s H vs Q E hr h=>?_)
 ·obtain⟨v,r,rfl,_⟩:=h
  rfl
 ·obtain⟨v,r,rfl,e,ro,gd,q⟩:=h
  obtain⟨d',n,p,x,r',ed,rfl,hn,hp,hw,g'⟩:=lz gd e
  cases ed
  cases ro with
  | pln kk _=>exact absurd kk (by show ¬ (5:Nat)<4;decide)
  | @ontop _ _ _ _ o dx u ho ri =>
   refine⟨_,zi (zu (y6 (j:=j) N0 hr (CZ _) zt (za (zN (pv 0) rfl) (za (zN (pv 0) rfl) (za (zN (pv 0) rfl) (za (zN (pv 0) rfl) zd)))))),?_⟩
   exact⟨_,rfl,o,_,dx,_,_,rfl,ho,RX.cls,RX.no "name" (by decide),rfl,_,rfl,o,_,dx,_,_,rfl,ho,RX.cls,RX.no "parts" (by decide),rfl,_,rfl,o,_,dx,_,_,rfl,ho,RX.cls,RX.no "way" (by decide),rfl,_,rfl,o,_,dx,_,_,rfl,ho,RX.cls,RX.no "within" (by decide),rfl,fun o dx o0 dx0 ne=>⟨o,dx,n,p,x,u,r',rfl,hn,hp,hw,ri.same (zw.made o0 dx0),g',zp,fun H' u' fr ho' ri'=>⟨rfl,q _ H' (ye o0 dx0 fr) (.ontop ho' ri')⟩⟩⟩
set_option maxHeartbeats 4000000 in
theorem YC {Cs:Nat→Addr} {cRu:Addr} {d j:Nat} (F:qQ K "__init__" "OnTop.__init__" (zy (top 68) 0) f fd) (G:jP mg) (RX:Yi K (Cs 5)) (RJ:bb K Cs cRu) (gR:mg "Rule" = some (.ref cRu)) (N1:Z1 mg "MOST_DEPTH" 3) (hd:d≤2) (hj:4≤j) (CR:QB P w K mg base zO 4 "Rule" "__init__" ["self","name"] (u7 K)) (C1:qP P w K mg base zO 4 "need_share" ["parts","way"] vF) (MT:∀ k,k<6→qW P w K mg base zO j (Cs k) "twin" ["self"] (yg d k Cs)) (MD:qW P w K mg base zO j (Cs 5) "depth" ["self"] (yG (d+1) 5 Cs)):zH P w K mg base zO (j+1) f fd ["self","name","parts","way","rule"] (YA d Cs):=by
 obtain⟨tk,em⟩:=N1
 refine F.ok (N:=["self","name","parts","way","rule"]) (by walk_at"s") (fun vs H Q E h=>?_) (fun cdv A outer s H vs Q E hr h=>?_)
 ·obtain⟨o,dx,n,p,x,u,r,rfl,_⟩:=h
  rfl
 ·obtain⟨o,dx,n,p,x,u,r,rfl,hn,hp,hw,ri,gd,ho,q⟩:=h
  refine⟨_,zg (qm (wq CR hr hj zt (za (pv 0) (za (pv 1) zd)))) (zg (qm (zj C1 hr hj zt (za (pv 2) (za (pv 3) zd)))) (zg (zR (qM (qF (zx qp rfl G.isinstance zS (za (pv 4) (za (qE (v:=.ref cRu) rfl gR rfl) zd))))) qb zA)
   (zg (yS (pv 0) (pv 2) rfl) (zg (yS (pv 0) (pv 3) rfl) (zg (yS (pv 0) (wk (p:=fun k=>k<6) fun k hk=>uH (MT k hk) hr (CZ _) zt (pv 4)) rfl)
   (zi (zR (zE jZ (uH MD hr (CZ _) zt (pv 0)) (qE (v:=.int 3) rfl em ⟨tk,rfl⟩) (zD _)) qb zA))))))),?_⟩
  refine⟨_,rfl,_,rfl,_,o,dx,_,rfl,RX.cls,RX.no "name" (by decide),ho,hn,fun H1 f1 e1=>⟨_,rfl,_,rfl,_,_,rfl,hp,hw,?_⟩⟩
  have r1:=ri.frame gd ho f1
  obtain⟨oi,dxi,fsi,rfl,hoi,_,noi⟩:=r1.obj gd
  have k6:=Tf r
  refine⟨_,rfl,_,_,_,_,true,rfl,rfl,.inl (.ins hoi (RJ.cls _ k6) (RJ.ha _ k6) RJ.hn RJ.htk (RJ.hm _ k6)),RJ.kt _ k6,true,rfl,qY ?_⟩
  refine⟨_,rfl,_,rfl,o,_,dx,_,rfl,e1,RX.cls,RX.no "parts" (by decide),by show 1<1000;decide,?_⟩
  rw[Tz _ _ _ (by decide +kernel)]
  refine⟨_,rfl,_,rfl,o,_,dx,_,rfl,zp,RX.cls,RX.no "way" (by decide),by show 2<1000;decide,?_⟩
  rw[bF _ _ _ _ _ (by decide +kernel) (by decide +kernel)]
  have f2:∀ b y,H b=some y→b≠o→(upd (upd H1 o (.ins (Cs 5) dx [("name",.str n),("parts",.int p)])) o (.ins (Cs 5) dx [("name",.str n),("parts",.int p),("way",.str x)])) b=some y:=fun b y hb ne=>by rw[zm ne,zm ne];exact f1 _ _ hb ne
  have e2:(upd (upd H1 o (.ins (Cs 5) dx [("name",.str n),("parts",.int p)])) o (.ins (Cs 5) dx [("name",.str n),("parts",.int p),("way",.str x)])) o=some (.ins (Cs 5) dx [("name",.str n),("parts",.int p),("way",.str x)]):=zp
  generalize upd (upd H1 o (.ins (Cs 5) dx [("name",.str n),("parts",.int p)])) o (.ins (Cs 5) dx [("name",.str n),("parts",.int p),("way",.str x)])=H2 at f2 e2
  have r2:=ri.frame gd ho f2
  obtain⟨oi2,dxi2,fsi2,eoi,hoi2,_,noi2⟩:=r2.obj gd
  cases eoi
  refine⟨r.kd,k6,_,rfl,oi,dxi2,fsi2,rfl,hoi2,noi2 "twin" (by decide),_,r,rfl,rfl,r2,gd,fun u' H3 s3 r3=>?_⟩
  have e3:=s3 _ _ e2
  refine⟨_,rfl,o,_,dx,_,rfl,e3,RX.cls,RX.no "within" (by decide),by show 3<1000;decide,?_⟩
  rw[cj _ _ _ _ _ _ _ (by decide +kernel) (by decide +kernel) (by decide +kernel)]
  have f4:∀ b y,H3 b=some y→b≠o→(upd H3 o (.ins (Cs 5) dx [("name",.str n),("parts",.int p),("way",.str x),("within",u')])) b=some y:=fun b y hb ne=>by rw[zm ne];exact hb
  have e4:(upd H3 o (.ins (Cs 5) dx [("name",.str n),("parts",.int p),("way",.str x),("within",u')])) o=some (.ins (Cs 5) dx [("name",.str n),("parts",.int p),("way",.str x),("within",u')]):=zp
  generalize upd H3 o (.ins (Cs 5) dx [("name",.str n),("parts",.int p),("way",.str x),("within",u')])=H4 at f4 e4
  have r4:=r3.frame3 RJ.ne gd e3 f4
  have g4:Gd (d+1) (.ontop n p x r):=.ontop hn hp hw gd
  refine⟨_,rfl,o,dx,_,rfl,e4,rfl,_,_,rfl,rfl,.ontop e4 r4,g4,_,_,rfl,rfl,_,rfl,yI (fun e=>?_) (fun _=>?_)⟩
  ·have e:=of_decide_eq_true e
   have:=tX g4
   omega
  ·exact q H4 u' (fun b y hb ne=>f4 _ _ (s3 _ _ (f2 _ _ hb ne)) ne) e4 r4
theorem QF (F:qQ K "are_figures" "are_figures" (top 33) f fd) (G:jP mg) (N1:Txt mg "FIGURES" "0123456789"):zH P w K mg base zO 1 f fd ["text"] Vu:=by
 obtain⟨tm,hm⟩:=N1
 have nc:(["sign"]:List Str).Nodup:=by decide +kernel
 refine F.ok (N:=["text"]) (by walk_at"s") (fun vs H Q E h=>?_) (fun cdv A outer s H vs Q E hr h=>?_)
 ·obtain⟨z,rfl,_⟩:=h
  rfl
 ·obtain⟨z,rfl,hz,q⟩:=h
  have ls:100001≤sizeLine:=by rw[sizeLine_eq];decide
  refine' ⟨_,zi (zu (yU (qJ jZ (zx qU rfl G.len boot_len (za (pv 0) zd)) ze (zD _)) (ja (zx (wm rfl) rfl G.all kM (za ?comp zd))))),?main⟩
  case comp =>
   refine' z8 (Nc:=["sign"]) (cl:=[]) (src:=[none]) (wi:=tK (zM 0)) (g:=z4 0) (tt:=qK) (te:=jC (fun x y H Q=>∃ i j,x = .str i∧y = .str j∧Q (.bl (!(Builtin.Str.occurrences j i 0 j.length 1).isEmpty)) H) (zM 0) (tC (.str "0123456789"))) (by walk_at"c0") rfl (mm (pv 0)) ?hb
   case hb =>
    intro fp C' s' H'
    exact⟨zJ (i:=0) nc rfl (Or.inl rfl),qd,qJ JV (pv 0) (qE (v:=.str "0123456789") rfl hm ⟨_,rfl⟩) (by rfl)⟩
  refine⟨_,rfl,z,rfl,by omega,_,_,rfl,rfl,_,rfl,yI (fun e=>?_) (fun e=>?_)⟩
  ·have e:0<z.length:=by have:=of_decide_eq_true e;omega
   have ne:z.cps.toList≠[]:=fun y=>by rw[zY,y] at e;exact absurd e (by decide)
   refine⟨_,rfl,z,rfl,fun D hD=>?_⟩
   refine Qa (W7 (z:=z)) hD (by rw[CY,← zY];omega) (fun _=>true) (fun x=>match x with | .str y=>.bl (Px (y.cps.getD 0 0)) | v=>v) (fun x _ H' R _ r=>r) (fun x hx _ H' R _ r=>?_) ?_
   ·obtain⟨c,_,rfl⟩:=dk.mp hx
    refine⟨_,rfl,_,_,rfl,rfl,?_⟩
    rw[tH]
    exact r
   ·rw[List.filter_eq_self.mpr fun _ _=>rfl,dB]
    refine⟨D,z.cps.toList.map Px,rfl,zZ.of (by rw[dB];exact zp),?_⟩
    have e2:Za z.cps.toList=(z.cps.toList.map Px).all id:=by
     unfold Za
     rw[List.all_map]
     cases h:z.cps.toList with
     | nil=>exact absurd h ne
     | cons a l=>rfl
    rw[← e2]
    exact q _ (zw.upd hD)
  ·have e0:z.cps.toList=[]:=eu.mp (by
    rw[← zY]
    have:¬ (0:Int)<(z.length:Nat):=fun c=>e (decide_eq_true c)
    omega)
   have q':=q H (zw.refl _)
   rw[e0] at q'
   exact q'
theorem NS (F:qQ K "is_number_text" "is_number_text" (top 34) f fd) (C1:qP P w K mg base zO 1 "are_figures" ["text"] Vu):zH P w K mg base zO 2 f fd ["text"] gS:=by
 refine F.ok (N:=["text"]) (by walk_at"s") (fun vs H Q E h=>?_) (fun cdv A outer s H vs Q E hr h=>?_)
 ·obtain⟨z,rfl,_⟩:=h
  rfl
 ·obtain⟨z,rfl,hz,q⟩:=h
  refine⟨_,(zi (zu (yU (zj C1 hr (by decide) zt (za (pv 0) zd)) (ja (rM (qJ qC (pv 0) zC (zD _)) (ja (gu (yH PySem.F.plainAttrs_str PySem.F.slot_str_startswith PySem.F.type_str_startswith wD (pv 0) (za zC zd))))))))),?_⟩
  refine⟨_,rfl,z,rfl,by omega,fun H1 s1=>⟨_,rfl,?_⟩⟩
  have q':=q H1 s1
  unfold GO at q'
  cases e:Za z.cps.toList with
  | false =>
   rw[e] at q'
   exact qY q'
  | true =>
   rw[e,Ec] at q'
   refine jS ⟨_,rfl,rfl,_,rfl,?_⟩
   have e0:("0":Str).cps.toList=[48]:=by rw[U6]
   rw[gq,e0]
   by_cases c:z.cps.toList=[48]
   ·rw[decide_eq_true c] at q' ⊢
    exact jS q'
   ·rw[decide_eq_false c,EL] at q'
    rw[decide_eq_false c]
    refine qY ⟨_,rfl,rfl,_,_,rfl,rfl,_,rfl,?_⟩
    rw[U6,Xx]
    exact q'
end
end K15
namespace Pg
open PySem L2
theorem uO {a b:Int} {w:Str} (h:a≤b):uc a w≤uc b w:=by
 have lo:∀ z:Int,z/10000≤uc z w:=fun z=>by
  unfold uc
  split <;> omega
 have hi:∀ z:Int,uc z w≤z/10000+1:=fun z=>by
  unfold uc
  split <;> omega
 by_cases c:a/10000<b/10000
 ·have:=lo b
  have:=hi a
  omega
 ·have e:a/10000=b/10000:=by omega
  have er:a%10000≤b%10000:=by omega
  unfold uc
  rw[← e]
  by_cases g:uF a (a/10000) (a%10000) w=true
  ·have g2:uF b (a/10000) (b%10000) w=true:=by
    unfold uF at g ⊢
    by_cases h1:w = "down"
    ·rw[if_pos h1] at g
     cases g
    rw[if_neg h1] at g ⊢
    by_cases h2:w = "up"
    ·rw[if_pos h2] at g ⊢
     have:=of_decide_eq_true g
     exact decide_eq_true (by omega)
    rw[if_neg h2] at g ⊢
    by_cases h3:a%10000=5000
    ·rw[if_pos h3] at g
     by_cases h4:b%10000=5000
     ·rw[if_pos h4]
      unfold wZ at g ⊢
      by_cases h5:w = "near"
      ·rw[if_pos h5] at g ⊢
       have:=of_decide_eq_true g
       exact decide_eq_true (by omega)
      ·rw[if_neg h5] at g ⊢
       exact g
     ·rw[if_neg h4]
      exact decide_eq_true (by omega)
    ·rw[if_neg h3] at g
     have:=of_decide_eq_true g
     rw[if_neg (by omega)]
     exact decide_eq_true (by omega)
   rw[if_pos g,if_pos g2]
   exact Di _
  ·rw[if_neg g]
   split <;> omega
theorem Lc (bs:List Int) (b:Int):pos bs≤pos (bs++[b]):=by
 unfold pos
 rw[Eg,dh]
 omega
theorem UG (bs:List Int) (b:Int):(bs++[b]).sum=bs.sum+b:=by
 rw[ET]
 simp
theorem P4 {r:List (Int × Int)} {s t:Int} (h:s≤t):oO r s≤oO r t:=by
 cases r with
 | nil=>exact h
 | cons q r =>
  show g7 s q.1≤g7 t q.1
  unfold g7
  split <;> split <;> omega
theorem Mn {ps:List (Int × Int)} (hp:∀ q∈ps,0≤q.2) {s t:Int} (h:s≤t):kI ps s≤kI ps t:=by
 induction ps with
 | nil=>exact Di _
 | cons q r ih =>
  refine Int.add_le_add (fj ?_ (hp q dq)) (ih fun p hp'=>hp p (dQ _ hp'))
  have:=P4 (r:=r) h
  unfold pc rG
  split <;> split <;> omega
theorem lg {r:Rk} (h:Vx r) {bs:List Int} {b:Int} (hb:0≤b):nH r bs≤nH r (bs++[b]):=by
 have sm:=UG bs b
 have pm:=Lc bs b
 cases h with
 | flat hn ha=>exact fj pm ha.1
 | share hn hp hw=>exact uO (EE (by omega) hp.1)
 | capped hn hp ha hw =>
  refine uO (EE ?_ hp.1)
  split <;> split <;> omega
 | @least n p l w hn hp ha hw =>
  have h1:uc (bs.sum*p) w≤uc ((bs++[b]).sum*p) w:=uO (EE (by omega) hp.1)
  have h2:l*pos bs≤l*pos (bs++[b]):=fj pm ha.1
  show (if l*pos bs > uc (bs.sum*p) w then l*pos bs else uc (bs.sum*p) w)≤(if l*pos (bs++[b]) > uc ((bs++[b]).sum*p) w then l*pos (bs++[b]) else uc ((bs++[b]).sum*p) w)
  generalize l*pos bs=A at *
  generalize l*pos (bs++[b])=B at *
  generalize uc (bs.sum*p) w=C at *
  generalize uc ((bs++[b]).sum*p) w=D at *
  split <;> split <;> omega
theorem Of {d:Nat} {r:Rk} (h:Gd d r) {bs:List Int} {b:Int} (hb:0≤b):yM r bs≤yM r (bs++[b]):=by
 induction h with
 | pln h=>rw[uL h];exact lg h hb
 | bands h1 h2 h3=>exact uO (Mn (fun q hq=>(h2.ok q hq).2.1) (by rw[UG];omega))
 | ontop h1 h2 h3 _ ih=>exact uO (EE ih h2.1)
theorem Wj {d:Nat} {r:Rk} (h:Gd d r):yM r []=0:=by
 induction h with
 | pln h =>
  rw[uL h]
  cases h with
  | flat hn ha=>exact Ek _
  | @share n p w hn hp hw =>
   show uc (0*p) w=0
   rw[EF]
   exact uZ _
  | @capped n p m w hn hp ha hw =>
   show uc ((if m<0 then m else 0)*p) w=0
   have:=ha.1
   rw[if_neg (by omega),EF]
   exact uZ _
  | @least n p l w hn hp ha hw =>
   show (if l*0 > uc (0*p) w then l*0 else uc (0*p) w)=0
   rw[EF,uZ,Ek]
   rfl
 | @bands d n w ps h1 h2 h3=>exact M9 (d:=(n,ps,w)) ⟨h1,h2,h3⟩
 | @ontop d n w p r h1 h2 h3 _ ih =>
  show uc (yM r []*p) w=0
  rw[ih,EF]
  exact uZ _
theorem b6 (bs:List Int):dl bs=bs.dropLast:=by
 unfold dl
 rw[HT.vh,DF,DQ,List.dropLast_eq_take]
 congr 1
 unfold HT.kZ
 simp only
 rw[if_pos (by decide)]
 omega
theorem Ye {d:Nat} {r:Rk} (h:Gd d r) {bs:List Int} {k:Nat} (hk:k<bs.length):wx r (bs.take (k+1))=yM r (bs.take (k+1)) - yM r (bs.take k):=by
 unfold wx
 have e:(bs.take (k+1)).dropLast=bs.take k:=by
  rw[Dg,de hk]
  exact List.dropLast_concat
 rw[b6,e]
theorem Ri {d:Nat} {r:Rk} (h:Gd d r) {bs:List Int} (hb:pe bs) {k:Nat} (hk:k<bs.length):0≤wx r (bs.take (k+1)):=by
 rw[Ye h hk,Dg,de hk]
 have:=Of h (bs:=bs.take k) (b:=bs[k]) (hb _ (DM hk))
 show 0≤yM r (bs.take k++[bs[k]]) - _
 omega
theorem my (bs:List Int) (k:Nat):vm (bs.map V.int) none (some ((k:Nat):Int))=(bs.take k).map V.int:=by
 unfold vm
 rw[HT.vh,DF,HT.vS,DQ,CY,← List.map_take]
 congr 1
 by_cases h:k≤bs.length
 ·rw[Dv h]
 ·rw[eZ (by omega),Do (CZ _),Do (by omega)]
theorem LC {bs:List Int} (h:pe bs) (k:Nat):pe (bs.take k):=fun b hb=>h b (eF hb)
theorem Gd.le {d e:Nat} {r:Rk} (h:Gd d r) (le:d≤e):Gd e r:=by
 induction le with
 | refl=>exact h
 | step _ ih=>exact ih.mono
end Pg
namespace L2
open PySem PySem.StrLaws Builtin Builtin.Str
noncomputable def yR (c:Nat):List Nat→Nat→List Nat
 | [],_=>[]
 | a::r,k=>if a=c then k::yR c r (k+1) else yR c r (k+1)
theorem lS (x:Str) (c:Nat):∀ (l:List Nat) (k:Nat) (f:Array Nat) (fr:Nat),x.cps.toList.drop k=l→k≤x.length→fr≤k→f.size≤k →
  (forIn (List.range' k (l.length+1)) (f,fr) (occBody x ⟨#[c]⟩ x.length (x.length+1))).run.fst.toList=f.toList++yR c l k:=by
 intro l
 induction l with
 | nil =>
  intro k f fr e hk hf hs
  have e1:List.range' k (([]:List Nat).length+1)=[k]:=rfl
  have e2:yR c [] k=[]:=rfl
  rw[e1,e2,List.forIn_cons]
  unfold occBody
  have:¬ (((f.size<x.length+1∧fr≤k)∧k+(⟨#[c]⟩:Str).length≤x.length)∧subAt x ⟨#[c]⟩ k=true):=fun h=>by
   have h1:=(subAt_one x c k).mp ⟨h.1.2,h.2⟩
   have h2:(x.cps.toList.drop k)[0]? = some c:=by rw[fc];exact h1
   rw[e] at h2
   cases h2
  rw[if_neg this,d9]
  rfl
 | cons a r ih =>
  intro k f fr e hk hf hs
  have ea:x.cps.toList[k]? = some a:=by
   have h2:(x.cps.toList.drop k)[0]? = some a:=by rw[e];rfl
   rw[fc] at h2
   exact h2
  have er:x.cps.toList.drop (k+1)=r:=by
   rw[← E6,e]
   rfl
  have kl:k+1≤x.length:=by
   have:=(dF.mp ea).1
   have e2:x.cps.toList.length=x.length:=rfl
   omega
  rw[dW,List.range'_succ,List.forIn_cons]
  unfold occBody
  by_cases h:a=c
  ·subst h
   have h1:=(subAt_one x a k).mpr ea
   rw[if_pos ⟨⟨⟨eU hs (by omega),hf⟩,h1.1⟩,h1.2⟩]
   have:=ih (k+1) (f.push k) (k+1) er kl (CZ _) (by rw[Array.size_push];omega)
   have c1:yR a (a::r) k=k::yR a r (k+1):=if_pos rfl
   rw[c1]
   refine this.trans ?_
   rw[EI,d8]
   rfl
  ·have:¬ (((f.size<x.length+1∧fr≤k)∧k+(⟨#[c]⟩:Str).length≤x.length)∧subAt x ⟨#[c]⟩ k=true):=fun q=>by
    have h1:=(subAt_one x c k).mp ⟨q.1.2,q.2⟩
    rw[ea] at h1
    exact h (Option.some.inj h1)
   rw[if_neg this]
   have c1:yR c (a::r) k=yR c r (k+1):=if_neg h
   rw[c1]
   exact ih (k+1) f fr er kl (by omega) (by omega)
theorem Pp (x:Str) (c:Nat):occurrences x ⟨#[c]⟩ 0 x.length (x.length+1)=yR c x.cps.toList 0:=by
 rw[occ_eq]
 exact lS x c x.cps.toList 0 #[] 0 rfl (d6 _) (CZ _) (CZ _)
theorem Vi {c:Nat} {w:List Nat} (h:¬ c∈w) (r:List Nat) (k:Nat):yR c (w++r) k=yR c r (k+w.length):=by
 induction w generalizing k with
 | nil=>rfl
 | cons a w ih =>
  have n:¬ a=c:=fun e=>h (by rw[e];exact dq)
  have e:yR c (a::w++r) k=yR c (w++r) (k+1):=if_neg n
  rw[e,ih (fun m=>h (dQ _ m)),dW]
  congr 1
  omega
theorem xZ (c:Nat) (l:List Nat) (k s:Nat):yR c l (k+s)=(yR c l k).map (· + s):=by
 induction l generalizing k with
 | nil=>rfl
 | cons a r ih =>
  show (if a=c then _ else _)=(if a=c then _ else _:List Nat).map _
  have e:=ih (k+1)
  rw[show k+1+s=k+s+1 by omega] at e
  split
  ·rw[dN,e]
  ·exact e
noncomputable def BM (l cuts:List Nat):List (List Nat):=List.zipWith (fun i j=>(l.drop i).take (j - i)) (0::cuts.map (· + 1)) (cuts++[l.length])
theorem mC {c:Nat}:∀ (rest:List (List Nat)) (w:List Nat),¬ c∈w→(∀ v∈rest,¬ c∈v)→BM (w++(rest.map fun v=>c::v).flatten) (yR c (w++(rest.map fun v=>c::v).flatten) 0)=w::rest:=by
 intro rest
 induction rest with
 | nil =>
  intro w hw _
  rw[Vi hw]
  show [((w++[]).drop 0).take ((w++[]).length - 0)]=[w]
  rw[d9,DF,DQ,Dj]
 | cons v r ih =>
  intro w hw hr
  have ih:=ih v (hr v dq) fun u hu=>hr u (dQ _ hu)
  have el:(((v::r).map fun v=>c::v).flatten)=c::(v++(r.map fun v=>c::v).flatten):=rfl
  rw[el]
  generalize v++(r.map fun v=>c::v).flatten=l' at ih
  have e1:yR c (w++c::l') 0=w.length::(yR c l' 0).map (· + (w.length+1)):=by
   rw[Vi hw,DW]
   show (if c=c then _ else _)=_
   rw[if_pos rfl,← xZ,DW]
  rw[e1]
  unfold BM at ih ⊢
  rw[dN,Ew,List.zipWith_cons_cons]
  congr 1
  ·rw[DF,DQ]
   exact List.take_left
  ·rw[← ih]
   have s1:(w.length+1)::((yR c l' 0).map (· + (w.length+1))).map (· + 1)=(0::(yR c l' 0).map (· + 1)).map (· + (w.length+1)):=by
    rw[dN,DW,dB,dB]
    congr 1
    refine DV fun i _=>?_
    show i+(w.length+1)+1=i+1+(w.length+1)
    omega
   have s2:(yR c l' 0).map (· + (w.length+1))++[(w++c::l').length]=(yR c l' 0++[l'.length]).map (· + (w.length+1)):=by
    rw[dz,dh,dW]
    congr 1
    show [w.length+(l'.length+1)]=[l'.length+(w.length+1)]
    congr 1
    omega
   rw[s1,s2,List.zipWith_map]
   congr 1
   funext i j
   rw[Nat.add_sub_add_right]
   have:(w++c::l').drop (i+(w.length+1))=l'.drop i:=by
    rw[show i+(w.length+1)=w.length+(1+i) by omega,← E6,List.drop_left,Nat.add_comm 1 i,List.drop_succ_cons]
   rw[this]
theorem xD (c:Nat):∀ (ws:List Str) (acc:Array Nat),(ws.foldl (fun acc p=>acc++(⟨#[c]⟩:Str).cps++p.cps) acc).toList=acc.toList++((ws.map fun p=>p.cps.toList).map fun v=>c::v).flatten:=by
 intro ws
 induction ws with
 | nil=>intro acc;exact (d9 _).symm
 | cons p r ih =>
  intro acc
  rw[Ds,ih]
  simp
theorem qI (c:Nat) (w:Str) (ws:List Str):(Txt.join ⟨#[c]⟩ (w::ws)).cps.toList=w.cps.toList++((ws.map fun p=>p.cps.toList).map fun v=>c::v).flatten:=xD c ws w.cps
theorem Wu (x:Str) (cuts:List Nat):(partsBetween x cuts 1).map (fun z=>z.cps.toList)=BM x.cps.toList cuts:=by
 unfold partsBetween BM
 rw[dB,List.zip,List.map_zipWith]
 congr 1
 funext i j
 show (x.cps.extract i j).toList=_
 rw[Array.toList_extract]
 try exact List.extract_eq_drop_take
theorem Oq {a b:List Str} (h:a.map (fun z=>z.cps.toList)=b.map (fun z=>z.cps.toList)):a=b:=by
 induction a generalizing b with
 | nil =>
  cases b with
  | nil=>rfl
  | cons=>cases h
 | cons x r ih =>
  cases b with
  | nil=>cases h
  | cons y s =>
   have h1:=List.cons.inj h
   have e:x=y:=by
    obtain⟨x⟩:=x
    obtain⟨y⟩:=y
    exact congrArg Str.mk (eJ.mp h1.1)
   rw[e,ih h1.2]
theorem vT {c:Nat} {w:Str} {ws:List Str} (hk:strKind (⟨#[c]⟩:Str)=1) (hw:¬ c∈w.cps.toList) (h:∀ v∈ws,¬ c∈v.cps.toList) (ne:1≤(Txt.join ⟨#[c]⟩ (w::ws)).length) :
  Txt.split (Txt.join ⟨#[c]⟩ (w::ws)) ⟨#[c]⟩=w::ws∧partsBetween (Txt.join ⟨#[c]⟩ (w::ws)) (occurrences (Txt.join ⟨#[c]⟩ (w::ws)) ⟨#[c]⟩ 0 (Txt.join ⟨#[c]⟩ (w::ws)).length ((Txt.join ⟨#[c]⟩ (w::ws)).length+1)) 1=w::ws:=by
 have e0:partsBetween (Txt.join ⟨#[c]⟩ (w::ws)) (occurrences (Txt.join ⟨#[c]⟩ (w::ws)) ⟨#[c]⟩ 0 (Txt.join ⟨#[c]⟩ (w::ws)).length ((Txt.join ⟨#[c]⟩ (w::ws)).length+1)) 1=w::ws:=by
  apply Oq
  rw[Wu,Pp,qI]
  exact mC _ _ hw fun v hv=>by
   obtain⟨u,hu,rfl⟩:=dk.mp hv
   exact h u hu
 refine⟨?_,e0⟩
 unfold Txt.split
 have k1:1≤strKind (Txt.join ⟨#[c]⟩ (w::ws)):=by
  unfold Builtin.Str.strKind
  split
  ·decide
  ·split <;> decide
 have c1:(decide ((Txt.join ⟨#[c]⟩ (w::ws)).length<(⟨#[c]⟩:Str).length) || decide (strKind (Txt.join ⟨#[c]⟩ (w::ws))<strKind (⟨#[c]⟩:Str)))=false:=by
  rw[hk,Bool.or_eq_false_iff]
  exact⟨decide_eq_false (by show ¬ _<1;omega),decide_eq_false (by omega)⟩
 rw[if_neg (by rw[c1];exact dJ)]
 split
 ·rename_i he
  have hn:occurrences (Txt.join ⟨#[c]⟩ (w::ws)) ⟨#[c]⟩ 0 (Txt.join ⟨#[c]⟩ (w::ws)).length ((Txt.join ⟨#[c]⟩ (w::ws)).length+1)=[]:=List.isEmpty_iff.mp he
  rw[hn] at e0
  have e1:partsBetween (Txt.join ⟨#[c]⟩ (w::ws)) [] 1=[strSub (Txt.join ⟨#[c]⟩ (w::ws)) 0 (Txt.join ⟨#[c]⟩ (w::ws)).length]:=rfl
  refine Eq.trans ?_ (e1.symm.trans e0)
  have:(Txt.join ⟨#[c]⟩ (w::ws)).cps.extract 0 (Txt.join ⟨#[c]⟩ (w::ws)).length=(Txt.join ⟨#[c]⟩ (w::ws)).cps:=Array.extract_size
  show [_]=[(⟨_⟩:Str)]
  rw[this]
 ·exact e0
end L2
namespace L2
open PySem PySem.Spec PyProof.Rows
theorem g8 {X:Cx} {tb:TS} {body:List Stmt} {h₀:ExceptHandler} {hs:List ExceptHandler} {pos:Pos} (hb:∀ pn,jT (X.tr pn fun _ _=>False) body tb):PS X (.Try body (h₀ :: hs) [] [] pos) tb:=by
 intro pins s σ H D I h
 have ok:=I.ok
 refine wpAny_Try_except (wpAny_mono (hb (X.pn++pins) [] s σ H D I.tr h) (fun f s1 q=>?_) fun e s1 q=>q.elim)
 cases f with
 | next =>
  obtain⟨σ',H',I',q⟩:=q
  exact wpAny_execs_nil ⟨σ',H',I'.ofTr ok,q⟩
 | brk=>obtain⟨σ',H',I',q⟩:=q;exact⟨σ',H',I'.ofTr ok,q⟩
 | cont=>obtain⟨σ',H',I',q⟩:=q;exact⟨σ',H',I'.ofTr ok,q⟩
 | ret u=>obtain⟨v,σ',H',I',r,q⟩:=q;exact⟨v,σ',H',I'.ofTr ok,r,q⟩
end L2
namespace Pg
open PySem PySem.NumText L2 Builtin Builtin.Str
theorem rD (n:Nat):digitsVal (dg n)=n:=by
 induction n using Nat.strongRecOn with
 | ind n ih =>
  by_cases h:n<10
  ·rw[LX h]
   show 0*10+(48+n - 48)=n
   omega
  ·rw[Gg (by omega),digitsVal_snoc,ih (n/10) (by omega)]
   omega
theorem pG {n:Nat} (h:n≠0):∃ c r,dg n=c::r∧c≠48:=by
 induction n using Nat.strongRecOn with
 | ind n ih =>
  by_cases h10:n<10
  ·exact⟨48+n,[],LX h10,by omega⟩
  ·obtain⟨c,r,e,ne⟩:=ih (n/10) (by omega) (by omega)
   exact⟨c,r++[48+n%10],by rw[Gg (by omega),e];rfl,ne⟩
theorem Rn (n:Nat):Za (dg n)=true:=by
 have h:=va n
 have l:=vk n
 unfold Za
 rw[dY]
 constructor
 ·cases e:dg n with
  | nil=>rw[e] at l;exact absurd l (by decide)
  | cons=>rfl
 ·rw[Dc]
  intro c hc
  have:=h c hc
  unfold Px
  rw[decide_eq_true this.1,decide_eq_true this.2]
  rfl
theorem Rh (n:Nat):GO (dg n)=true:=by
 unfold GO
 rw[Rn,Ec]
 by_cases h:n=0
 ·subst h
  rfl
 ·obtain⟨c,r,e,ne⟩:=pG h
  rw[e]
  have:decide ((c::r).head? = some 48)=false:=decide_eq_false fun z=>ne (Option.some.inj z)
  rw[this]
  exact Bool.or_true _
theorem yO {i:Int} (h:0≤i):(toString i:Str).cps.toList=dg i.toNat:=by
 obtain⟨n,rfl⟩:=Dy h
 exact wU n
theorem Lr {i:Int} (h:JM i):intText? (toString i:Str)=some i:=by
 have e:=yO h.1
 have l:=uV h
 rw[intText_digits (by rw[e];exact va _) (by rw[e];intro z;have:=vk i.toNat;rw[z] at this;exact absurd this (by decide)) (by omega),e,rD]
 congr 1
 have:=h.1
 omega
theorem ke {i:Int} (h:YT i):JM i:=⟨h.1,by have:=h.2;omega⟩
theorem QJ {c:Nat} (h:c<48∨57<c) (n:Nat):¬ c∈dg n:=fun m=>by
 have:=va n c m
 omega
theorem g9 {c:Nat} (h:c<97) {z:Str} (n:yh z):¬ c∈z.cps.toList:=fun m=>by
 have:=Dc.mp n.ok.all c m
 unfold xl at this
 rw[dY] at this
 have:=of_decide_eq_true this.1
 omega
theorem Yk {w:Str} (h:YR w):¬ 32∈w.cps.toList:=by
 have h:=Dp.mp h
 unfold wayL at h
 simp only[dc,dm,or_false] at h
 rcases h with rfl | rfl | rfl | rfl <;> decide +kernel
theorem Ze {c:Nat} (h:c<48∨57<c) {i:Int} (h0:0≤i):¬ c∈(toString i:Str).cps.toList:=by
 rw[yO h0]
 exact QJ h _
theorem BL:(" ":Str)=⟨#[32]⟩:=by decide +kernel
theorem CK:(":":Str)=⟨#[58]⟩:=by decide +kernel
theorem cw:(",":Str)=⟨#[44]⟩:=by decide +kernel
theorem Gp {c:Nat} (h:c<256):Builtin.Str.strKind (⟨#[c]⟩:Str)=1:=by
 unfold Builtin.Str.strKind
 rw[if_pos]
 simp[h]
noncomputable def zW:Rk→List Str
 | .bands n ps w=>[("bands":Str),n,j7 ps,w]
 | .ontop n p w r=>[("ontop":Str),n,(toString p:Str),w,("of":Str)]++zW r
 | .flat n a=>[("flat":Str),n,(toString a:Str)]
 | .share n p w=>[("share":Str),n,(toString p:Str),w]
 | .capped n p m w=>[("capped":Str),n,(toString p:Str),(toString m:Str),w]
 | .least n p l w=>[("least":Str),n,(toString p:Str),(toString l:Str),w]
theorem ue (r:Rk):∃ w ws,zW r=w::ws∧w.length ≥ 1:=by
 cases r <;> exact⟨_,_,rfl,by decide +kernel⟩
theorem Ly (c:Nat) (x y:Str) (xs ys:List Str):Txt.join ⟨#[c]⟩ (x::xs++[Txt.join ⟨#[c]⟩ (y::ys)])=Txt.join ⟨#[c]⟩ (x::xs++y::ys):=by
 apply V8
 rw[Ew,Ew,qI,qI,dz,dz,dz,dz,fk,fk,dN,DG,qI]
 simp
theorem wW (r:Rk):yK r=Txt.join " " (zW r):=by
 induction r with
 | ontop n p w r ih =>
  obtain⟨v,vs,e,_⟩:=ue r
  show Txt.join " " [("ontop":Str),n,(toString p:Str),w,("of":Str),yK r]=Txt.join " " ([("ontop":Str),n,(toString p:Str),w,("of":Str)]++zW r)
  rw[ih,e,BL]
  exact Ly 32 ("ontop":Str) v [n,(toString p:Str),w,("of":Str)] vs
 | _=>rfl
theorem vA (q:Int × Int) (h0:0≤q.1) (h1:0≤q.2):(yw q).cps.toList=dg q.1.toNat++(58::dg q.2.toNat):=by
 unfold yw
 rw[qT,qT,yO h0,yO h1,d8]
 rfl
theorem xU (q:Int × Int):yw q=Txt.join ⟨#[58]⟩ [(toString q.1:Str),(toString q.2:Str)]:=by
 apply V8
 rw[qI]
 unfold yw
 rw[qT,qT]
 simp
 rfl
theorem RA {ps:List (Int × Int)} (ok:Zv ps):¬ 32∈(j7 ps).cps.toList:=by
 obtain⟨p,r,e⟩:=ok.hd
 have hb:∀ q∈ps,¬ 32∈(yw q).cps.toList:=fun q hq m=>by
  have h:=ok.ok q hq
  rw[vA q h.1.1 h.2.1] at m
  rcases dA.mp m with m | m
  ·exact QJ (.inl (by decide)) _ m
  ·rcases dc.mp m with m | m
   ·exact absurd m (by decide)
   ·exact QJ (.inl (by decide)) _ m
 unfold j7
 rw[e] at hb ⊢
 rw[dN,cw,qI]
 intro m
 rcases dA.mp m with m | m
 ·exact hb _ dq m
 ·obtain⟨l,hl,m⟩:=Em.mp m
  obtain⟨v,hv,rfl⟩:=dk.mp hl
  obtain⟨u,hu,rfl⟩:=dk.mp hv
  obtain⟨q,hq,rfl⟩:=dk.mp hu
  rcases dc.mp m with m | m
  ·exact absurd m (by decide)
  ·exact hb q (dQ _ hq) m
theorem LN {d:Nat} {r:Rk} (g:Gd d r):∀ z∈zW r,¬ 32∈z.cps.toList:=by
 have lit:∀ {z:Str},z.cps.toList.contains 32=false→¬ 32∈z.cps.toList:=fun h m=>by rw[Dp.mpr m] at h;cases h
 have sp:∀ {z:Str},yh z→¬ 32∈z.cps.toList:=fun h=>g9 (by decide) h
 have pt:∀ {i:Int},YT i→¬ 32∈(toString i:Str).cps.toList:=fun h=>Ze (.inl (by decide)) h.1
 have am:∀ {i:Int},JM i→¬ 32∈(toString i:Str).cps.toList:=fun h=>Ze (.inl (by decide)) h.1
 induction g with
 | pln p =>
  intro z hz
  cases p with
  | flat hn ha =>
   simp only[zW,dc,dm,or_false] at hz
   rcases hz with rfl | rfl | rfl
   ·exact lit (by decide +kernel)
   ·exact sp hn
   ·exact am ha
  | share hn hp hw =>
   simp only[zW,dc,dm,or_false] at hz
   rcases hz with rfl | rfl | rfl | rfl
   ·exact lit (by decide +kernel)
   ·exact sp hn
   ·exact pt hp
   ·exact Yk hw
  | capped hn hp ha hw =>
   simp only[zW,dc,dm,or_false] at hz
   rcases hz with rfl | rfl | rfl | rfl | rfl
   ·exact lit (by decide +kernel)
   ·exact sp hn
   ·exact pt hp
   ·exact am ha
   ·exact Yk hw
  | least hn hp ha hw =>
   simp only[zW,dc,dm,or_false] at hz
   rcases hz with rfl | rfl | rfl | rfl | rfl
   ·exact lit (by decide +kernel)
   ·exact sp hn
   ·exact pt hp
   ·exact am ha
   ·exact Yk hw
 | bands hn ok hw =>
  intro z hz
  simp only[zW,dc,dm,or_false] at hz
  rcases hz with rfl | rfl | rfl | rfl
  ·exact lit (by decide +kernel)
  ·exact sp hn
  ·exact RA ok
  ·exact Yk hw
 | ontop hn hp hw _ ih =>
  intro z hz
  rcases dA.mp hz with hz | hz
  ·simp only[dc,dm,or_false] at hz
   rcases hz with rfl | rfl | rfl | rfl | rfl
   ·exact lit (by decide +kernel)
   ·exact sp hn
   ·exact pt hp
   ·exact Yk hw
   ·exact lit (by decide +kernel)
  ·exact ih z hz
theorem oI {d:Nat} {r:Rk} (g:Gd d r):(zW r).length≤5+5*d:=by
 induction g with
 | pln p=>cases p <;> (simp[zW] <;> try omega)
 | bands=>simp[zW] <;> try omega
 | ontop _ _ _ _ ih =>
  simp[zW] at ih ⊢
  omega
theorem G9 {d:Nat} {r:Rk} (g:Gd d r):Txt.split (yK r) " " = zW r∧partsBetween (yK r) (occurrences (yK r) " " 0 (yK r).length ((yK r).length+1)) 1=zW r:=by
 obtain⟨w,ws,e,l⟩:=ue r
 have no:=LN g
 rw[wW,e,BL]
 rw[e] at no
 refine vT (Gp (by decide)) (no w dq) (fun v hv=>no v (dQ _ hv)) ?_
 rw[zY,qI,dh,← zY]
 omega
theorem XU (q:Int × Int) (h0:0≤q.1) (h1:0≤q.2):Txt.split (yw q) ":" = [(toString q.1:Str),(toString q.2:Str)]∧partsBetween (yw q) (occurrences (yw q) ":" 0 (yw q).length ((yw q).length+1)) 1=[(toString q.1:Str),(toString q.2:Str)]:=by
 rw[xU,CK]
 refine vT (Gp (by decide)) (Ze (.inr (by decide)) h0) (fun v hv=>?_) ?_
 ·rw[dI.mp hv]
  exact Ze (.inr (by decide)) h1
 ·rw[zY,qI,dh,yO h0]
  have:=vk q.1.toNat
  omega
theorem UR {ps:List (Int × Int)} (ok:Zv ps):Txt.split (j7 ps) "," = ps.map yw∧partsBetween (j7 ps) (occurrences (j7 ps) "," 0 (j7 ps).length ((j7 ps).length+1)) 1=ps.map yw:=by
 obtain⟨p,r,e⟩:=ok.hd
 have hb:∀ q∈ps,¬ 44∈(yw q).cps.toList:=fun q hq m=>by
  have h:=ok.ok q hq
  rw[vA q h.1.1 h.2.1] at m
  rcases dA.mp m with m | m
  ·exact QJ (.inl (by decide)) _ m
  ·rcases dc.mp m with m | m
   ·exact absurd m (by decide)
   ·exact QJ (.inl (by decide)) _ m
 have h0:=(ok.ok ((0:Int),p) (by rw[e];exact dq))
 unfold j7
 rw[e] at hb ⊢
 rw[dN,cw]
 refine vT (Gp (by decide)) (hb _ dq) (fun v hv=>?_) ?_
 ·obtain⟨q,hq,rfl⟩:=dk.mp hv
  exact hb q (dQ _ hq)
 ·rw[zY,qI,dh,vA _ h0.1.1 h0.2.1,dh,dW]
  omega
noncomputable def Rb:V→List V→Hp→VK→Prop:=fun x vs H Q=>∃ z y,x = .str z∧vs=[.str y]∧(y.length==0)=false∧z.length≤sizeLine∧(partsBetween z (occurrences z y 0 z.length (z.length+1)) y.length).length≤sizeLine∧Qy H (.lst ((Txt.split z y).map V.str)) Q
noncomputable def WI:Sp:=fun vs H Q _=>∃ i,vs=[.str (toString i),.int 13]∧JM i∧∀ H',zw H H'→Q (.int i) H'
noncomputable def kG:Sp:=fun vs H Q _=>∃ i,vs=[.str (toString i)]∧JM i∧∀ H',zw H H'→Q (.int i) H'
noncomputable def Zi:Sp:=fun vs H Q _=>∃ q,vs=[.str (yw q)]∧JM q.1∧YT q.2∧∀ t H',zw H H'→H t=none→H' t=some (.tup (cB q))→Q (.ref t) H'
noncomputable def Yb:Sp:=fun vs H Q _=>∃ ps,vs=[.str (j7 ps)]∧Zv ps∧∀ u H',zw H H'→vz H' u ps→Q (.ref u) H'
noncomputable def Vh (K:BFr) (Cs:Nat→Addr):Sp:=fun vs H Q _=>∃ l r,vs=[.ref l]∧zZ K H l ((zW r).map V.str)∧Gd 0 r∧∀ o H',zw H H'→wg Cs H' r o→Q o H'
noncomputable def gP (K:BFr):Sp:=fun vs H Q _=>∃ l r d,vs=[.ref l]∧zZ K H l ((zW r).map V.str)∧Gd d r∧Q (.bl (decide (r.kd=5))) H
noncomputable def uP (K:BFr) (Cs:Nat→Addr):Nat→Sp
 | 0=>fun _ _ _ _=>False
 | d+1=>fun vs H Q _=>∃ l r dp,vs=[.ref l,.int dp]∧zZ K H l ((zW r).map V.str)∧Gd d r∧0≤dp∧dp+d≤3∧∀ o H',zw H H'→wg Cs H' r o→Q o H'
noncomputable def vM (Cs:Nat→Addr):Sp:=fun vs H Q _=>∃ r,vs=[.str (yK r)]∧Gd 3 r∧∀ o H',zw H H'→wg Cs H' r o→Q o H'
end Pg
namespace Pg
open PySem L2
theorem oq {H:Hp} (ps:List (Int × Int)):qN H ((ps.map yw).map V.str) ps (fun _ v q=>v = .str (yw q)):=by
 refine⟨by rw[CY,CY],fun i y e=>?_⟩
 rw[dj,dj] at e
 cases h:ps[i]? with
 | none=>rw[h] at e;cases e
 | some q =>
  rw[h] at e
  cases e
  exact⟨q,rfl,fun _ _=>rfl⟩
theorem XG {d:Nat} {r:Rk} (g:Gd d r) (k:r.kd≠5):∃ z ws,(zW r).map V.str = .str z::ws∧z≠"ontop":=by
 cases g with
 | pln p=>cases p <;> exact⟨_,_,rfl,by decide +kernel⟩
 | bands=>exact⟨_,_,rfl,by decide +kernel⟩
 | ontop=>exact absurd rfl k
theorem ML {d:Nat} {r:Rk} (g:Gd d r) (k:r.kd≠5):Gd 0 r:=by
 cases g with
 | pln p=>exact .pln p
 | bands h1 h2 h3=>exact .bands h1 h2 h3
 | ontop=>exact absurd rfl k
theorem pS (n w:Str) (p:Int) (r:Rk):vm ((zW (.ontop n p w r)).map V.str) (some 5) none=(zW r).map V.str:=by
 have e0:(zW (.ontop n p w r)).map V.str=[V.str "ontop",.str n,.str (toString p),.str w,.str "of"]++(zW r).map V.str:=by
  show (([("ontop":Str),n,(toString p:Str),w,("of":Str)]++zW r).map V.str)=_
  rw[dz]
  rfl
 unfold vm
 rw[e0,show (5:Int)=((5:Nat):Int) from rfl,HT.vS,HT.vh,dh]
 have l5:([V.str "ontop",.str n,.str (toString p),.str w,.str "of"]:List V).length=5:=rfl
 rw[l5,Dv (eC _ _)]
 show List.take (5+((zW r).map V.str).length - 5) ((zW r).map V.str)=_
 rw[Nat.add_sub_cancel_left,Dj]
end Pg
namespace K15
open PySem PySem.NumText L2 Pg
seal PE PA PT PW PS jT PG uv PI ui PO PK
section
variable {P:Program} {w:World} {K:BFr} {mg:Str→Option Value} {base:Heap} {f:Addr} {fd:FuncData} {d:Nat→Addr} {cR:Addr}
theorem LO (F:qQ K "read_number" "read_number" (top 35) f fd) (G:jP mg) (C1:qP P w K mg base zO 2 "is_number_text" ["text"] gS):zH P w K mg base zO 3 f fd ["text","most_figures"] WI:=by
 refine F.ok (N:=["text","most_figures"]) (by walk_at"s") (fun vs H Q E h=>?_) (fun cdv A outer s H vs Q E hr h=>?_)
 ·obtain⟨i,rfl,_⟩:=h
  rfl
 ·obtain⟨i,rfl,ha,q⟩:=h
  have l:=uV ha
  refine⟨_,zg (zR (PW.pt (wC (zE jZ (zx qU rfl G.len boot_len (za (pv 0) zd)) (pv 1) (zD _)) (uT (qM (qF (zj C1 hr (by decide) zt (za (pv 0) zd))))))) qb zA) (zi (zu (z6 wF rfl G.int vc (za (pv 0) zd)))),?_⟩
  refine⟨_,rfl,_,rfl,by rw[sizeLine_eq];omega,_,rfl,_,_,rfl,rfl,_,rfl,yI (fun e=>?_) (fun _=>?_)⟩
  ·have:=of_decide_eq_true e
   omega
  refine⟨_,rfl,_,rfl,by omega,fun H1 s1=>?_⟩
  rw[yO ha.1,Rh]
  exact⟨true,rfl,qY ⟨_,rfl,_,i,rfl,Lr ha,by omega,q H1 s1⟩⟩
theorem mP (F:qQ K "number_of" "number_of" (top 71) f fd) (N1:Z1 mg "MOST_FIGURES" 13) (C1:qP P w K mg base zO 3 "read_number" ["text","most_figures"] WI):zH P w K mg base zO 4 f fd ["word"] kG:=by
 obtain⟨tk,em⟩:=N1
 refine F.ok (N:=["word"]) (by walk_at"s") (fun vs H Q E h=>?_) (fun cdv A outer s H vs Q E hr h=>?_)
 ·obtain⟨i,rfl,_⟩:=h
  rfl
 ·obtain⟨i,rfl,ha,q⟩:=h
  exact⟨_,zi (zu (zj C1 hr (by decide) zt (za (pv 0) (za (qE (v:=.int 13) rfl em ⟨tk,rfl⟩) zd)))),_,rfl,i,rfl,ha,q⟩
theorem oV (F:qQ K "band_of" "band_of" (top 72) f fd) (G:jP mg) (C1:qP P w K mg base zO 4 "number_of" ["word"] kG):zH P w K mg base zO 5 f fd ["text"] Zi:=by
 have nd:(["text","ends"]:List Str).Nodup:=by decide +kernel
 refine F.ok (N:=["text","ends"]) (by walk_at"s") (fun vs H Q E h=>?_) (fun cdv A outer s H vs Q E hr h=>?_)
 ·obtain⟨q,rfl,_⟩:=h
  rfl
 ·obtain⟨b,rfl,ha,hp,q⟩:=h
  obtain⟨e1,e2⟩:=XU b ha.1 hp.1
  have bl:=JE ha hp
  refine⟨_,zg (zF (i:=1) nd rfl (Or.inl rfl) (yH PySem.F.plainAttrs_str PySem.F.slot_str_split PySem.F.type_str_split kj (pv 0) (za zC zd))) (zg (zR (zE Pi (zx zQ rfl G.len boot_len (za (pv 1) zd)) ze (zD _)) qb zA)
   (zi (zu (ym (za (zj C1 hr (by decide) zt (za (zz zG (pv 1) ze) zd)) (za (zj C1 hr (by decide) zt (za (zz zG (pv 1) ze) zd)) zd)))))),?_⟩
  refine⟨_,rfl,rfl,_,_,rfl,rfl,rfl,by rw[sizeLine_eq];omega,?_,?_⟩
  ·have e3:((":":Str)).length=1:=by decide +kernel
   rw[e3,e2,sizeLine_eq]
   show 2≤_
   omega
  rw[e1]
  refine fun l H1 s1 n1 g1=>⟨_,rfl,l,_,rfl,.inl (zZ.of g1),rfl,_,rfl,qY ?_⟩
  refine⟨_,rfl,l,_,_,_,rfl,rfl,zZ.of g1,rfl,_,rfl,ha,fun H2 s2=>⟨_,rfl,l,_,_,_,rfl,rfl,zZ.of (s2 _ _ g1),rfl,_,rfl,ke hp,fun H3 s3=>⟨qv rfl,fun t H4 s4 n4 e4=>q t H4 (s1.trans (s2.trans (s3.trans s4))) (uC (s1.trans (s2.trans s3)) n4) e4⟩⟩⟩
theorem XY (F:qQ K "bands_of" "bands_of" (top 73) f fd) (G:jP mg) (C1:qP P w K mg base zO 5 "band_of" ["text"] Zi):zH P w K mg base zO 6 f fd ["word"] Yb:=by
 have nc:(["text"]:List Str).Nodup:=by decide +kernel
 refine F.ok (N:=["word"]) (by walk_at"s") (fun vs H Q E h=>?_) (fun cdv A outer s H vs Q E hr h=>?_)
 ·obtain⟨q,rfl,_⟩:=h
  rfl
 ·obtain⟨ps,rfl,ok,q⟩:=h
  obtain⟨e1,e2⟩:=UR ok
  have bl:=(vo ok).2
  have few:=ok.few
  refine' ⟨_,zi (zu (z6 yX rfl G.tuple yq (za ?comp zd))),?main⟩
  case comp =>
   refine' z8 (Nc:=["text"]) (cl:=[]) (src:=[none]) (g:=z4 0) (tt:=qK) (te:=fun σ H Q=>qi (zM 0) yn σ H fun vs H1=>Zi vs H1 Q E0)
    (by walk_at"c0") rfl (q9 (yH PySem.F.plainAttrs_str PySem.F.slot_str_split PySem.F.type_str_split kj (pv 0) (za zC zd))) ?hb
   case hb =>
    intro fp C' s' H'
    exact⟨zJ (i:=0) nc rfl (Or.inl rfl),qd,zj C1 hr (by decide) zt (za (pv 0) zd)⟩
  refine⟨_,rfl,rfl,_,_,rfl,rfl,rfl,by rw[sizeLine_eq];omega,?_,?_⟩
  ·have e3:((",":Str)).length=1:=by decide +kernel
   rw[e3,e2,CY,sizeLine_eq]
   omega
  rw[e1]
  refine fun l H1 s1 n1 g1=>⟨l,rfl,⟨_,zZ.of g1⟩,fun D hD=>wb (qX (zZ.of g1)) (oq ps) hD (by rw[sizeLine_eq];omega) cB (fun p hp v H2 R s2 e3 r=>?_) (fun zs H2 s2 e3 T=>?_)⟩
  ·subst e3
   exact⟨_,rfl,p,rfl,(ok.ok p hp).1,(ok.ok p hp).2,r⟩
  ·refine⟨D,zs,rfl,.inl ⟨zZ.of e3,fun u u0=>?_⟩⟩
   have su:zw H2 (upd H2 u (.tup zs)):=zw.upd u0
   exact q u _ (s1.trans (s2.trans su)) ⟨zs,zp,T.same su⟩
theorem mW (F:qQ K "is_ontop" "is_ontop" (top 75) f fd) (G:jP mg):zH P w K mg base zO 1 f fd ["words"] (gP K):=by
 refine F.ok (N:=["words"]) (by walk_at"s") (fun vs H Q E h=>?_) (fun cdv A outer s H vs Q E hr h=>?_)
 ·obtain⟨l,r,d,rfl,_⟩:=h
  rfl
 ·obtain⟨l,r,d,rfl,hl,gd,q⟩:=h
  refine⟨_,zi (zu (yU (qJ qC (zz zG (pv 0) ze) zC (zD _)) (yU (qJ jZ (zx zQ rfl G.len boot_len (za (pv 0) zd)) ze (zD _)) (ja (qJ qC (zz zG (pv 0) ze) zC (zD _)))))),?_⟩
  by_cases k5:r.kd=5
  ·obtain⟨d',n,p,x,r',ed,rfl,_⟩:=lz gd k5
   obtain⟨w',ws,ew,_⟩:=ue r'
   have e0:(zW (.ontop n p x r')).map V.str = .str "ontop" :: .str n :: .str (toString p) :: .str x :: .str "of" :: .str w'::ws.map V.str:=by
    show (([("ontop":Str),n,(toString p:Str),x,("of":Str)]++zW r').map V.str)=_
    rw[ew]
    rfl
   rw[e0] at hl
   rw[decide_eq_true k5] at q
   refine⟨_,rfl,l,_,_,_,rfl,rfl,hl,QI rfl,rfl,true,by rw[decide_eq_true rfl],jS ⟨_,rfl,l,_,rfl,.inl hl,_,_,rfl,rfl,true,?_,jS ⟨_,rfl,l,_,_,_,rfl,rfl,hl,q8 (j:=4) rfl,rfl,?_⟩⟩⟩
   ·exact congrArg V.bl (decide_eq_true (show (5:Int)<((V.str "ontop" :: .str n :: .str (toString p) :: .str x :: .str "of" :: .str w'::ws.map V.str:List V).length:Nat) by simp only[dW];omega))
   ·rw[decide_eq_true rfl]
    exact q
  ·obtain⟨z,ws,ew,zn⟩:=XG gd k5
   rw[ew] at hl
   rw[decide_eq_false k5] at q
   refine⟨_,rfl,l,_,_,_,rfl,rfl,hl,QI rfl,rfl,false,?_,qY q⟩
   congr 1
   exact decide_eq_false fun e=>zn (V.str.inj e)
set_option maxHeartbeats 4000000 in
theorem Ox {Cs:Nat→Addr} (F:qQ K "plain_rule" "plain_rule" (top 74) f fd) (G:jP mg) (C1:qP P w K mg base zO 4 "number_of" ["word"] kG) (C2:qP P w K mg base zO 6 "bands_of" ["word"] Yb) (N0:ug P w K mg base zO 5 "Flat" (Cs 0) ["self","name","amount"] (yA 0 Cs)) (N1:ug P w K mg base zO 5 "Share" (Cs 1) ["self","name","parts","way"] (yA 1 Cs)) (N2:ug P w K mg base zO 5 "Capped" (Cs 2) ["self","name","parts","most","way"] (yA 2 Cs)) (N3:ug P w K mg base zO 5 "Least" (Cs 3) ["self","name","parts","least","way"] (yA 3 Cs)) (N4:ug P w K mg base zO 6 "Bands" (Cs 4) ["self","name","rows","way"] (YH (Cs 4))):zH P w K mg base zO 8 f fd ["words"] (Vh K Cs):=by
 refine F.ok (N:=["words"]) (by walk_at"s") (fun vs H Q E h=>?_) (fun cdv A outer s H vs Q E hr h=>?_)
 ·obtain⟨l,r,rfl,_⟩:=h
  rfl
 ·obtain⟨l,r,rfl,hl,gd,q⟩:=h
  have hr6:yD (5+1) (A.deeper _):=hr.mono (by decide)
  refine⟨_,(zg (zR (PW.pt (Yt (zE qC (zz zG (pv 0) ze) zC (zD _)) (kq (zE qC (zx zQ rfl G.len boot_len (za (pv 0) zd)) ze (zD _))))) (zi (zu (y6 (j:=5) N0 hr6 (by decide) zt (za (zz zG (pv 0) ze) (za (zj C1 hr (by decide) zt (za (zz zG (pv 0) ze) zd)) zd))))) zA)
    (zg (zR (PW.pt (Yt (zE qC (zz zG (pv 0) ze) zC (zD _)) (kq (zE qC (zx zQ rfl G.len boot_len (za (pv 0) zd)) ze (zD _))))) (zi (zu (y6 (j:=5) N1 hr6 (by decide) zt (za (zz zG (pv 0) ze) (za (zj C1 hr (by decide) zt (za (zz zG (pv 0) ze) zd)) (za (zz zG (pv 0) ze) zd)))))) zA)
    (zg (zR (PW.pt (Yt (zE qC (zz zG (pv 0) ze) zC (zD _)) (kq (zE qC (zx zQ rfl G.len boot_len (za (pv 0) zd)) ze (zD _))))) (zi (zu (y6 (j:=5) N2 hr6 (by decide) zt (za (zz zG (pv 0) ze) (za (zj C1 hr (by decide) zt (za (zz zG (pv 0) ze) zd)) (za (zj C1 hr (by decide) zt (za (zz zG (pv 0) ze) zd)) (za (zz zG (pv 0) ze) zd))))))) zA)
    (zg (zR (PW.pt (Yt (zE qC (zz zG (pv 0) ze) zC (zD _)) (kq (zE qC (zx zQ rfl G.len boot_len (za (pv 0) zd)) ze (zD _))))) (zi (zu (y6 (j:=5) N3 hr6 (by decide) zt (za (zz zG (pv 0) ze) (za (zj C1 hr (by decide) zt (za (zz zG (pv 0) ze) zd)) (za (zj C1 hr (by decide) zt (za (zz zG (pv 0) ze) zd)) (za (zz zG (pv 0) ze) zd))))))) zA)
    (zg (zR (PW.pt (Yt (zE qC (zz zG (pv 0) ze) zC (zD _)) (kq (zE qC (zx zQ rfl G.len boot_len (za (pv 0) zd)) ze (zD _))))) (zi (zu (y6 (j:=6) N4 hr (by decide) zt (za (zz zG (pv 0) ze) (za (zj C2 hr (by decide) zt (za (zz zG (pv 0) ze) zd)) (za (zz zG (pv 0) ze) zd)))))) zA)
    qb))))),?_⟩
  cases gd with
  | pln pl =>
   have pl0:=pl
   cases pl with
   | @flat n a hn ha =>
    exact⟨_,rfl,l,_,_,_,rfl,rfl,hl,rfl,rfl,_,rfl,uj ⟨_,rfl,l,_,rfl,.inl hl,rfl,true,rfl,jS ⟨_,rfl,l,_,_,_,rfl,rfl,hl,rfl,_,rfl,l,_,_,_,rfl,rfl,hl,rfl,_,rfl,ha,fun H1 s1=>fun o dx o0 d0 ne=>⟨o,dx,.flat n a,rfl,rfl,pl0,zp,fun H' fr e=>⟨rfl,q _ H' (s1.trans (ye o0 d0 fr)) (.pln (dX rfl) ⟨o,dx,rfl,e⟩)⟩⟩⟩⟩⟩
   | @share n p x hn hp hw =>
    exact⟨_,rfl,l,_,_,_,rfl,rfl,hl,rfl,rfl,_,rfl,yj bQ ⟨_,rfl,l,_,_,_,rfl,rfl,hl,rfl,rfl,_,rfl,uj ⟨_,rfl,l,_,rfl,.inl hl,rfl,true,rfl,jS ⟨_,rfl,l,_,_,_,rfl,rfl,hl,rfl,_,rfl,l,_,_,_,rfl,rfl,hl,rfl,_,rfl,ke hp,fun H1 s1=>⟨_,rfl,l,_,_,_,rfl,rfl,s1.seq hl,rfl,fun o dx o0 d0 ne=>⟨o,dx,.share n p x,rfl,rfl,pl0,zp,fun H' fr e=>⟨rfl,q _ H' (s1.trans (ye o0 d0 fr)) (.pln (dX rfl) ⟨o,dx,rfl,e⟩)⟩⟩⟩⟩⟩⟩⟩
   | @capped n p m x hn hp ha hw =>
    exact⟨_,rfl,l,_,_,_,rfl,rfl,hl,rfl,rfl,_,rfl,yj Bw ⟨_,rfl,l,_,_,_,rfl,rfl,hl,rfl,rfl,_,rfl,yj Bi ⟨_,rfl,l,_,_,_,rfl,rfl,hl,rfl,rfl,_,rfl,uj ⟨_,rfl,l,_,rfl,.inl hl,rfl,true,rfl,jS ⟨_,rfl,l,_,_,_,rfl,rfl,hl,rfl,_,rfl,l,_,_,_,rfl,rfl,hl,rfl,_,rfl,ke hp,fun H1 s1=>⟨_,rfl,l,_,_,_,rfl,rfl,s1.seq hl,rfl,_,rfl,ha,fun H2 s2=>⟨_,rfl,l,_,_,_,rfl,rfl,(s1.trans s2).seq hl,rfl,fun o dx o0 d0 ne=>⟨o,dx,.capped n p m x,rfl,rfl,pl0,zp,fun H' fr e=>⟨rfl,q _ H' ((s1.trans s2).trans (ye o0 d0 fr)) (.pln (dX rfl) ⟨o,dx,rfl,e⟩)⟩⟩⟩⟩⟩⟩⟩⟩⟩
   | @least n p m x hn hp ha hw =>
    exact⟨_,rfl,l,_,_,_,rfl,rfl,hl,rfl,rfl,_,rfl,yj b4 ⟨_,rfl,l,_,_,_,rfl,rfl,hl,rfl,rfl,_,rfl,yj bq ⟨_,rfl,l,_,_,_,rfl,rfl,hl,rfl,rfl,_,rfl,yj Bq ⟨_,rfl,l,_,_,_,rfl,rfl,hl,rfl,rfl,_,rfl,uj ⟨_,rfl,l,_,rfl,.inl hl,rfl,true,rfl,jS ⟨_,rfl,l,_,_,_,rfl,rfl,hl,rfl,_,rfl,l,_,_,_,rfl,rfl,hl,rfl,_,rfl,ke hp,fun H1 s1=>⟨_,rfl,l,_,_,_,rfl,rfl,s1.seq hl,rfl,_,rfl,ha,fun H2 s2=>⟨_,rfl,l,_,_,_,rfl,rfl,(s1.trans s2).seq hl,rfl,fun o dx o0 d0 ne=>⟨o,dx,.least n p m x,rfl,rfl,pl0,zp,fun H' fr e=>⟨rfl,q _ H' ((s1.trans s2).trans (ye o0 d0 fr)) (.pln (dX rfl) ⟨o,dx,rfl,e⟩)⟩⟩⟩⟩⟩⟩⟩⟩⟩⟩
  | @bands _ n x ps hn ok hw =>
   refine⟨_,rfl,l,_,_,_,rfl,rfl,hl,rfl,rfl,_,rfl,yj bO ⟨_,rfl,l,_,_,_,rfl,rfl,hl,rfl,rfl,_,rfl,yj b7 ⟨_,rfl,l,_,_,_,rfl,rfl,hl,rfl,rfl,_,rfl,yj TC ⟨_,rfl,l,_,_,_,rfl,rfl,hl,rfl,rfl,_,rfl,yj Br ⟨_,rfl,l,_,_,_,rfl,rfl,hl,rfl,rfl,_,rfl,uj ⟨_,rfl,l,_,rfl,.inl hl,rfl,true,rfl,jS ?_⟩⟩⟩⟩⟩⟩
   exact⟨_,rfl,l,_,_,_,rfl,rfl,hl,rfl,_,rfl,l,_,_,_,rfl,rfl,hl,rfl,ps,rfl,ok,fun u H1 s1 bd=>⟨_,rfl,l,_,_,_,rfl,rfl,s1.seq hl,rfl,fun o dx o0 dx0 ne=>⟨o,dx,n,u,ps,x,rfl,hn,ok,hw,bd.same (zw.made o0 dx0),zp,fun H' u' fr ho' bd'=>⟨rfl,q _ H' (s1.trans (ye o0 dx0 fr)) (.bands ho' bd')⟩⟩⟩⟩
theorem oQ {Cs:Nat→Addr} {j:Nat}:zH P w K mg base zO j f fd ["words","depth"] (uP K Cs 0):=⟨fun _ _ _ _ h=>h.elim,fun _ _ _ _ _ _ _ _ _ _ _ _ _ h=>h.elim⟩
theorem kL {Cs:Nat→Addr} {d j:Nat} (hj:17≤j) (F:qQ K "rule_of_words" "rule_of_words" (top 76) f fd) (N1:Z1 mg "MOST_DEPTH" 3) (C1:qP P w K mg base zO 1 "is_ontop" ["words"] (gP K)) (C2:qP P w K mg base zO 8 "plain_rule" ["words"] (Vh K Cs)) (C3:qP P w K mg base zO 4 "number_of" ["word"] kG) (C4:qP P w K mg base zO j "rule_of_words" ["words","depth"] (uP K Cs d)) (N5:ug P w K mg base zO 16 "OnTop" (Cs 5) ["self","name","parts","way","rule"] (YA 2 Cs)):zH P w K mg base zO (j+1) f fd ["words","depth"] (uP K Cs (d+1)):=by
 obtain⟨tk,em⟩:=N1
 have nd:(["words","depth","within"]:List Str).Nodup:=by decide +kernel
 refine F.ok (N:=["words","depth","within"]) (by walk_at"s") (fun vs H Q E h=>?_) (fun cdv A outer s H vs Q E hr h=>?_)
 ·obtain⟨l,r,dp,rfl,_⟩:=h
  rfl
 ·obtain⟨l,r,dp,rfl,hl,gd,d0,d3,q⟩:=h
  have hr17:yD (16+1) (A.deeper _):=hr.mono hj
  refine⟨_,(zg (zR (qM (qF (zj C1 hr (by omega) zt (za (pv 0) zd)))) (zi (zu (zj C2 hr (by omega) zt (za (pv 0) zd)))) zA)
    (zg (zR (zE qC (pv 1) (qE (v:=.int 3) rfl em ⟨tk,rfl⟩) (zD _)) qb zA)
    (zg (zF (i:=2) nd rfl (Or.inl rfl) (zj C4 hr (CZ _) zt (za (yJ wa (pv 0) (yY ze) jO) (za (zq zU (pv 1) ze) zd))))
    (zi (zu (y6 (j:=16) N5 hr17 (by decide) zt (za (zz zG (pv 0) ze) (za (zj C3 hr (by omega) zt (za (zz zG (pv 0) ze) zd)) (za (zz zG (pv 0) ze) (za (pv 2) zd)))))))))),?_⟩
  refine⟨_,rfl,l,r,d,rfl,hl,gd,?_⟩
  by_cases k5:r.kd=5
  ·rw[decide_eq_true k5]
   refine⟨true,rfl,qY ⟨_,rfl,rfl,_,rfl,yI (fun e=>?_) (fun _=>?_)⟩⟩
   ·rw[wu] at e
    obtain⟨d',n,p,x,r',ed,_⟩:=lz gd k5
    omega
   obtain⟨d',n,p,x,r',rfl,rfl,hn,hp,hw,g'⟩:=lz gd k5
   refine⟨_,rfl,_,rfl,l,_,rfl,hl,fun t t0=>?_⟩
   have s1:zw H (upd H t (.lst (vm ((zW (.ontop n p x r')).map V.str) (some 5) none))):=zw.upd t0
   have e1:(upd H t (.lst (vm ((zW (.ontop n p x r')).map V.str) (some 5) none))) t=some (.lst ((zW r').map V.str)):=by rw[zp,pS]
   generalize upd H t (.lst (vm ((zW (.ontop n p x r')).map V.str) (some 5) none))=H1 at s1 e1
   refine⟨_,rfl,_,_,rfl,rfl,t,r',_,rfl,zZ.of e1,g',by show 0≤dp+1;omega,by show dp+1+d'≤3;omega,fun u H2 s2 ru=>?_⟩
   have S2:=s1.trans s2
   have hl2:=S2.seq hl
   refine⟨_,rfl,l,_,_,_,rfl,rfl,hl2,q8 (j:=1) rfl,_,rfl,l,_,_,_,rfl,rfl,hl2,q8 (j:=2) rfl,_,rfl,ke hp,fun H3 s3=>⟨_,rfl,l,_,_,_,rfl,rfl,s3.seq hl2,q8 (j:=3) rfl,_,rfl,fun o dx o0 dx0 ne=>⟨o,dx,n,p,x,u,r',rfl,hn,hp,hw,(ru.same s3).same (zw.made o0 dx0),g'.le (by omega),zp,fun H' u' fr ho' ri'=>⟨rfl,q _ H' (S2.trans (s3.trans (ye o0 dx0 fr))) (.ontop ho' ri')⟩⟩⟩⟩
  ·rw[decide_eq_false k5]
   exact⟨false,rfl,jS ⟨_,rfl,l,r,rfl,hl,ML gd k5,q⟩⟩
theorem oR {Cs:Nat→Addr} {j:Nat} (F:qQ K "rule_of" "rule_of" (top 77) f fd) (G:jP mg) (C1:qP P w K mg base zO j "rule_of_words" ["words","depth"] (uP K Cs 4)):zH P w K mg base zO (j+1) f fd ["text"] (vM Cs):=by
 refine F.ok (N:=["text"]) (by walk_at"s") (fun vs H Q E h=>?_) (fun cdv A outer s H vs Q E hr h=>?_)
 ·obtain⟨r,rfl,_⟩:=h
  rfl
 ·obtain⟨r,rfl,gd,q⟩:=h
  obtain⟨e1,e2⟩:=G9 gd
  have rl:=km gd
  have wl:=oI gd
  refine' ⟨_,zg (zR (qM (qF (zx qp rfl G.isinstance zS (za (pv 0) (za (yF (v:=.ty "str") rfl G.str qL rfl) zd))))) qb zA)
   (zi (g8 (tb:=Tc fun σ H Q=>qi (cZ K "str" Rb (zM 0) (qi (tC (.str " ")) yn)) (qi (tC (.int 0)) yn) σ H fun vs H1=>uP K Cs 4 vs H1 Q E0) ?body)),?main⟩
  case body =>
   intro pn
   exact zi (zu (zj C1 hr (CZ _) zt (za (yH PySem.F.plainAttrs_str PySem.F.slot_str_split PySem.F.type_str_split kj (pv 0) (za zC zd)) (za ze zd))))
  refine⟨_,rfl,_,_,_,_,true,rfl,rfl,.inl (.str _),rfl,true,rfl,qY ⟨_,rfl,rfl,_,_,rfl,rfl,rfl,by rw[sizeLine_eq];omega,?_,?_⟩⟩
  ·have e3:((" ":Str)).length=1:=by decide +kernel
   rw[e3,e2,sizeLine_eq]
   omega
  rw[e1]
  exact fun l H1 s1 n1 g1=>⟨l,r,0,rfl,zZ.of g1,gd,by decide,by decide,fun o H2 s2 ro=>q o H2 (s1.trans s2) ro⟩
end
end K15
namespace Pg
open PySem L2
noncomputable def GK:Sp:=fun vs H Q _=>∃ (c:Int) (n:Nat),vs=[.int c,.int (n:Nat)]∧n≤8∧∀ (nms:List Str) l H',nms.length=n→(∀ z∈nms,yh z)→nms.Nodup→zw H H'→H l=none→H' l=some (.lst (nms.map V.str))→Q (.ref l) H'
theorem QM {n:Nat} {p:Str→Prop} {t:Nat→Str→Prop} {zs:List V} (h:∀ (i:Nat) u,zs[i]? = some u→∃ k,(List.range n)[i]? = some k∧∃ z,u = .str z∧p z∧t k z):∃ nms:List Str,zs=nms.map V.str∧(∀ z∈nms,p z)∧∀ (i:Nat) z,nms[i]? = some z→t i z:=by
 have h':∀ u∈zs,∃ z,u = .str z∧p z:=fun u hu=>by
  obtain⟨i,hi⟩:=DU.mp hu
  obtain⟨k,_,z,e,hp,_⟩:=h i u hi
  exact⟨z,e,hp⟩
 obtain⟨nms,rfl,hn⟩:=P8 h'
 refine⟨nms,rfl,hn,fun i z hz=>?_⟩
 obtain⟨k,hk,z',e,_,ht⟩:=h i (.str z) (by rw[dj,hz];rfl)
 cases e
 obtain⟨hk1,hk2⟩:=dF.mp hk
 rw[Eh] at hk2
 subst hk2
 exact ht
theorem YM {nms:List Str} {t:Nat→Str→Prop} (h:∀ (i:Nat) z,nms[i]? = some z→t i z) (inj:∀ i j z,i<nms.length→j<nms.length→t i z→t j z→i=j):nms.Nodup:=by
 rw[fG,DP]
 intro i j hi hj lt e
 have h1:=h i _ (de hi)
 have h2:=h j _ (de hj)
 rw[e] at h1
 have:=inj i j _ hi hj h1 h2
 omega
theorem RI {i j:Nat} {z:Str} (h1:okNames[i]? = some z) (h2:okNames[j]? = some z):i=j:=by
 have nd:okNames.Nodup:=by decide +kernel
 obtain⟨a,e1⟩:=dF.mp h1
 obtain⟨b,e2⟩:=dF.mp h2
 have pw:=DP.mp (fG.mp nd)
 rcases Nat.lt_trichotomy i j with lt | e | lt
 ·exact absurd (e1.trans e2.symm) (pw i j a b lt)
 ·exact e
 ·exact absurd (e2.trans e1.symm) (pw j i b a lt)
noncomputable def cx (a b:Str × Int):Bool:=Rc a.1 b.1
noncomputable def Mg (prs:List (Str × Int)):List (Str × Int):=prs.mergeSort cx
theorem ZF (prs:List (Str × Int)):(Mg prs).Perm prs:=fq prs cx
theorem mM (prs:List (Str × Int)):(Mg prs).Pairwise fun a b=>¬ b.1.cps.toList<a.1.cps.toList:=by
 refine (fH (le:=cx) (fun a b c h1 h2=>?_) (fun a b=>?_) prs).imp fun h=>of_decide_eq_true h
 ·have h1:a.1.cps.toList≤b.1.cps.toList:=of_decide_eq_true h1
  have h2:b.1.cps.toList≤c.1.cps.toList:=of_decide_eq_true h2
  exact decide_eq_true (show a.1.cps.toList≤c.1.cps.toList from List.le_trans h1 h2)
 ·rw[EV]
  rcases List.le_total a.1.cps.toList b.1.cps.toList with h | h
  ·exact .inl (decide_eq_true h)
  ·exact .inr (decide_eq_true h)
theorem NT {prs:List (Str × Int)} (nd:(prs.map (·.1)).Nodup) {a b:Str × Int} (ha:a∈prs) (hb:b∈prs) (e:a.1=b.1):a=b:=by
 induction prs with
 | nil=>cases ha
 | cons p r ih =>
  have nd:=Dm.mp nd
  rcases dc.mp ha with rfl | _
  ·rcases dc.mp hb with rfl | hb
   ·rfl
   ·exact absurd (dk.mpr ⟨b,hb,e.symm⟩) nd.1
  ·rename_i ha'
   rcases dc.mp hb with eb | hb'
   ·exact absurd (dk.mpr ⟨a,ha',e.trans (congrArg Prod.fst eb)⟩) nd.1
   ·exact ih nd.2 ha' hb'
theorem Yz {qs prs:List (Str × Int)} (p:qs.Perm prs) (s:qs.Pairwise fun a b=>¬ b.1.cps.toList<a.1.cps.toList) (nd:(prs.map (·.1)).Nodup):qs=Mg prs :=
 List.Perm.eq_of_pairwise (fun a b ha hb e1 e2=>NT nd (p.mem_iff.mp ha) ((ZF prs).mem_iff.mp hb) (Ts e1 e2)) s (mM prs) (p.trans (ZF prs).symm)
noncomputable def yT (rs:List Rk) (bs:List Int):List (Str × Int):=rs.map fun r=>(r.name,wx r bs)
noncomputable def Jp (rs:List Rk) (bs:List Int):List (Str × Int):=Mg (yT rs bs)
structure j4 (rs:List Rk):Prop where
 gd:∀ r∈rs,Gd 3 r
 nd:(rs.map Rk.name).Nodup
 few:rs.length≤8
theorem pC {rs:List Rk} (h:j4 rs) (bs:List Int):((yT rs bs).map (·.1)).Nodup:=by
 unfold yT
 rw[dB]
 exact h.nd
theorem Mh {rs:List Rk} (h:j4 rs) (bs:List Int):(Jp rs bs).length≤8:=by
 unfold Jp
 rw[(ZF _).length_eq,yT,CY]
 exact h.few
noncomputable def ZN (Cs:Nat→Addr) (H:Hp) (l:Addr) (rs:List Rk):Prop:=∃ ys,H l=some (.lst ys)∧qN H ys rs (fun H' v r=>wg Cs H' r v)
noncomputable def wI (H:Hp) (l:Addr) (rs:List Rk):Prop:=∃ ys,H l=some (.lst ys)∧qN H ys rs (fun H' v r=>Qc H' r v)
theorem ZN.same {Cs:Nat→Addr} {H H':Hp} {l:Addr} {rs:List Rk} (s:zw H H') (h:ZN Cs H l rs):ZN Cs H' l rs:=by
 obtain⟨ys,e,T⟩:=h
 exact⟨ys,s _ _ e,T.same s⟩
theorem wI.same {H H':Hp} {l:Addr} {rs:List Rk} (s:zw H H') (h:wI H l rs):wI H' l rs:=by
 obtain⟨ys,e,T⟩:=h
 exact⟨ys,s _ _ e,T.same s⟩
noncomputable def j3 (H:Hp) (v:V) (prs:List (Str × Int)):Prop:=∃ t ys,v = .ref t∧H t=some (.tup ys)∧z5 H ys (prs.map cP)
theorem j3.same {H H':Hp} {v:V} {prs:List (Str × Int)} (s:zw H H') (h:j3 H v prs):j3 H' v prs:=by
 obtain⟨t,ys,e,h,T⟩:=h
 exact⟨t,ys,e,s _ _ h,T.same s⟩
theorem j3.keep {H H':Hp} {v:V} {prs:List (Str × Int)} (k:uz H H') (h:j3 H v prs):j3 H' v prs:=by
 obtain⟨t,ys,e,h,T⟩:=h
 exact⟨t,ys,e,k _ _ h (fun xs z=>nomatch z),z5.keep k T⟩
noncomputable def uW (bs:List Int):Int:=bs.getLast?.getD 0
noncomputable def U8 (b:Int) (prs:List (Str × Int)):Int:=b - (prs.map (·.2)).sum
noncomputable def TN (H:Hp) (v:V) (rs:List Rk) (bs:List Int):Prop:=∃ t u,v = .ref t∧H t=some (.tup [.int (uW bs),u,.int (U8 (uW bs) (Jp rs bs))])∧j3 H u (Jp rs bs)
noncomputable def Qs (K:BFr) (Cs:Nat→Addr):Sp:=fun vs H Q _=>∃ (l b:Addr) (rs:List Rk) (bs:List Int),vs=[.ref l,.ref b]∧ZN Cs H l rs∧j4 rs∧zZ K H b (bs.map V.int)∧bs.length≤100∧∀ v H',zw H H'→j3 H' v (Jp rs bs)→Q v H'
noncomputable def gZ (K:BFr) (Cs:Nat→Addr):Sp:=fun vs H Q _=>∃ (l b:Addr) (rs:List Rk) (bs:List Int),vs=[.ref l,.ref b]∧ZN Cs H l rs∧j4 rs∧zZ K H b (bs.map V.int)∧bs.length≤100∧∀ v H',zw H H'→TN H' v rs bs→Q v H'
noncomputable def UW (K:BFr):Sp:=fun vs H Q _=>∃ (l b:Addr) (rs:List Rk) (bs:List Int),vs=[.ref l,.ref b]∧wI H l rs∧j4 rs∧zZ K H b (bs.map V.int)∧bs.length≤100∧pe bs∧∀ v H',zw H H'→j3 H' v (Jp rs bs)→Q v H'
noncomputable def gH:Sp:=fun vs H Q _=>∃ b v prs,vs=[.int b,v]∧j3 H v prs∧prs.length≤8∧∀ H',zw H H'→Q (.int (U8 b prs)) H'
noncomputable def J8:Sp:=fun vs H Q _=>∃ u v prs,vs=[u,v]∧j3 H u prs∧j3 H v prs∧prs.length≤8∧∀ H',zw H H'→Q (.bl true) H'
theorem Qc.name {H:Hp} {r:Rk} {v:V} {d:Nat} (h:Qc H r v) (g:Gd d r):∃ t l,v = .ref t∧H t=some (.tup l)∧atI l 1=some (.str r.name):=by
 cases h with
 | pln k h =>
  obtain⟨t,rfl,h⟩:=h
  exact⟨t,_,rfl,h,Rl (g.pl k)⟩
 | bands h b=>exact⟨_,_,rfl,h,rfl⟩
 | ontop h b=>exact⟨_,_,rfl,h,rfl⟩
theorem mj {K:BFr} {H:Hp} {v:V} {prs:List (Str × Int)} (h:j3 H v prs):Is K H 2 v (.t (prs.map fun p=>Dt.t ((cP p).map Dt.v))):=by
 obtain⟨t,ys,rfl,h,T⟩:=h
 refine .t (qh.of h) (by rw[T.len,CY,CY]) fun i x e e1 e2=>?_
 rw[dj] at e2
 obtain⟨p,hp',rfl⟩:=dC.mp e2
 obtain⟨a,h1,h2⟩:=T.at_ i (cP p) (by rw[dj,hp'];rfl)
 rw[e1] at h1
 cases h1
 exact Is.flatT (qh.of h2) rfl
end Pg
namespace K15
open PySem PySem.NumText L2 Pg
seal PE PA PT PW PS jT PG uv PI ui PO PK
section
variable {P:Program} {w:World} {K:BFr} {mg:Str→Option Value} {base:Heap} {f:Addr} {fd:FuncData} {d:Nat→Addr} {cR:Addr}
theorem Qy.up {H H1:Hp} {o:HO} {Q:VK} (r:Qy H o Q) (s:zw H H1):Qy H1 o Q:=fun p H2 s2 n e=>r p H2 (s.trans s2) (uC s n) e
set_option maxHeartbeats 4000000 in
theorem pR {Cs:Nat→Addr} {j:Nat} (F:qQ K "dues_of" "dues_of" (top 44) f fd) (G:jP mg) (CL:∀ k,k<6→w5 K (Cs k)) (NM:∀ k,k<6→zT K (Cs k) "name") (MO:∀ k,k<6→qW P w K mg base zO j (Cs k) "of_month" ["self","bases"] (VP K 3 k Cs)):zH P w K mg base zO (j+1) f fd ["rules","bases"] (Qs K Cs):=by
 have nc:(["rule","bases"]:List Str).Nodup:=by decide +kernel
 refine F.ok (N:=["rules","bases"]) (by walk_at"s") (fun vs H Q E h=>?_) (fun cdv A outer s H vs Q E hr h=>?_)
 ·obtain⟨l,b,rs,bs,rfl,_⟩:=h
  rfl
 ·obtain⟨l,b,rs,bs,rfl,⟨ys,hl,T⟩,ok,hb,bl,q⟩:=h
  have few:=ok.few
  refine' ⟨_,(zi (zu (z6 yX rfl G.tuple yq (za (zx Yl rfl G.sorted PyProof.Rows.boot_sorted (za ?comp zd)) zd)))),?main⟩
  case comp =>
   refine' z8 (Nc:=["rule","bases"]) (cl:=[("bases",s.heap.objs.size+1)]) (src:=[none,some 1]) (wi:=vO K (zM 0)) (g:=z4 0) (tt:=qK) (te:=Wz (qi (Py K (zM 0) "name") (qi (fun σ H Q=>∃ k,k<6∧Tu (Cs k) "of_month" (VP K 3 k Cs) E0 (zM 0) (qi (zM 1) yn) σ H Q) yn)))
    (by walk_at"c1") rfl (q9 (pv 0)) ?hb
   case hb =>
    intro fp C' s' H'
    exact⟨zJ (i:=0) nc rfl (Or.inl rfl),qd,ym (za (zN (pv 0) rfl) (za (wk (p:=fun k=>k<6) fun k hk=>vY (MO k hk) hr (CZ _) zt (pv 0) (za (pv 1) zd)) zd))⟩
  walk_at"d5"
  refine⟨_,rfl,l,rfl,⟨_,zZ.of hl⟩,fun D hD=>wb (qX (zZ.of hl)) T hD (by rw[sizeLine_eq];omega) (fun r=>cP (r.name,wx r bs)) (fun r hm v H1 R s1 ro k=>?_) (fun zs H1 s1 e1 T1=>?_)⟩
  ·have gd:=ok.gd r hm
   obtain⟨oa,dx,fs,rfl,ho,nm,no⟩:=ro.obj gd
   have k6:=Tf r
   exact⟨_,rfl,oa,_,dx,fs,_,rfl,ho,CL _ k6,NM _ k6,nm,r.kd,k6,_,rfl,oa,dx,fs,rfl,ho,no "of_month" (by decide),_,rfl,_,r,b,bs,rfl,rfl,ro,gd,s1.seq hb,bl,fun H2 s2=>⟨qv rfl,Qy.up k s2⟩⟩
  ·have T2:z5 H1 zs ((yT rs bs).map cP):=by
    unfold yT
    rw[dB]
    exact T1
   have nd:=pC ok bs
   have zl:zs.length=(yT rs bs).length:=by rw[T2.len,CY]
   have pl:(yT rs bs).length=rs.length:=by unfold yT;rw[CY]
   refine⟨D,zs,_,_,rfl,zZ.of e1,by omega,gX T2 nd,fun is pm up a H2 s2 n2 e2=>?_⟩
   obtain⟨pq,T3⟩:=Yn T2 pm
   have up:(is.map (O9 (yT rs bs))).Pairwise (fun a b=>¬ b.1.cps.toList<a.1.cps.toList):=ED.mpr up
   rw[Yz pq up nd] at T3
   refine⟨a,_,rfl,.inl ⟨zZ.of e2,fun t t0=>?_⟩⟩
   have s3:zw H2 (upd H2 t (.tup (is.map fun i=>zs.getD i V.non))):=zw.upd t0
   exact q _ _ (s1.trans (s2.trans s3)) ⟨t,_,rfl,zp,(T3.same s2).same s3⟩
theorem Mj {Cs:Nat→Addr} {j:Nat} (F:qQ K "month_row" "month_row" (top 45) f fd) (G:jP mg) (C1:qP P w K mg base zO j "dues_of" ["rules","bases"] (Qs K Cs)):zH P w K mg base zO (j+1) f fd ["rules","bases"] (gZ K Cs):=by
 have nd:(["rules","bases","base","dues","net"]:List Str).Nodup:=by decide +kernel
 have nc:(["name","due"]:List Str).Nodup:=by decide +kernel
 refine F.ok (N:=["rules","bases","base","dues","net"]) (by walk_at"s") (fun vs H Q E h=>?_) (fun cdv A outer s H vs Q E hr h=>?_)
 ·obtain⟨l,b,rs,bs,rfl,_⟩:=h
  rfl
 ·obtain⟨l,b,rs,bs,rfl,ro,ok,hb,bl,q⟩:=h
  refine' ⟨_,(zg (zF (i:=2) nd rfl (Or.inl rfl) (LR (zE jZ (zx zQ rfl G.len boot_len (za (pv 1) zd)) ze (zD _)) (zz zG (pv 1) (QT wQ ze)) ze))
    (zg (zF (i:=3) nd rfl (Or.inl rfl) (zj C1 hr (CZ _) zt (za (pv 0) (za (pv 1) zd))))
    (zg (zF (i:=4) nd rfl (Or.inl rfl) (zq vn (pv 2) (zx (yB rfl) rfl G.sum yW (za ?comp zd))))
    (zi (zu (ym (za (pv 2) (za (pv 3) (za (pv 4) zd))))))))),?main⟩
  case comp =>
   refine' z8 (Nc:=["name","due"]) (cl:=[]) (src:=[none,none]) (wi:=Yv K (zM 3)) (g:=Xp K 2 (vH (z4 0) (vH (z4 1) Xn))) (tt:=qK) (te:=zM 1)
    (by walk_at"c3") rfl (vq (pv 3)) ?hb
   case hb =>
    intro fp C' s' H'
    exact⟨Uh rfl (jQ (zJ (i:=0) nc rfl (Or.inl rfl)) (jQ (zJ (i:=1) nc rfl (Or.inl rfl)) Qh)),qd,pv 1⟩
  have dl:=Mh ok bs
  have rest:∀ {D:vE},D.rt=Q→Rq (My (fun σ H Q=>qi (zM 0) (qi (zM 1) yn) σ H fun vs H1=>Qs K Cs vs H1 Q E0) (z4 3)) (Rq (My (jC (YN fun i j=>.int (i - j)) (zM 2) (NC (fun xs H Q=>∃ (a:Addr) (ns:List Int),xs=[.ref a]∧zZ K H a (ns.map V.int)∧Q (.int ns.sum) H) (qi (xI [none,none] (Yv K (zM 3)) (Xp K 2 (vH (z4 0) (vH (z4 1) Xn))) qK (zM 1)) yn))) (z4 4)) (Tc (Wz (qi (zM 2) (qi (zM 3) (qi (zM 4) yn)))))) D [some (.ref l),some (.ref b),some (.int (uW bs)),none,none] H:=by
   intro D eD
   refine⟨_,rfl,_,rfl,l,b,rs,bs,rfl,ro,ok,hb,bl,fun v H1 s1 du=>?_⟩
   obtain⟨t,ys,rfl,ht,T⟩:=id du
   refine⟨_,rfl,_,rfl,t,rfl,⟨_,qh.of ht⟩,fun D2 hD2=>UO (jk (qh.of ht)) T hD2 (by rw[sizeLine_eq];omega) (fun p=>V.int p.2) (fun p hp H2 R s2 r=>⟨_,rfl,r H2 (zw.refl _)⟩) (fun H2 s2 e2=>?_)⟩
   have e2':H2 D2=some (.lst (((Jp rs bs).map (·.2)).map V.int)):=by rw[e2,dB];rfl
   refine⟨D2,_,rfl,zZ.of e2',_,_,rfl,rfl,_,rfl,_,rfl,_,rfl,qv rfl,fun p H3 s3 n3 e3=>?_⟩
   rw[eD]
   exact q _ H3 (s1.trans (s2.trans s3)) ⟨p,_,rfl,e3,(du.same s2).same s3⟩
  cases hbs:bs.getLast? with
  | none =>
   have e0:bs=[]:=List.getLast?_eq_none_iff.mp hbs
   have lb:uW bs=0:=by unfold uW;rw[hbs];rfl
   rw[lb] at rest
   refine⟨_,rfl,b,_,rfl,.inl hb,_,_,rfl,rfl,_,rfl,yI (fun e=>?_) (fun _=>?_)⟩
   ·have e:=of_decide_eq_true e
    rw[e0] at e
    exact absurd e (by decide)
   ·exact rest rfl
  | some x =>
   have lb:uW bs=x:=by unfold uW;rw[hbs];rfl
   rw[lb] at rest
   obtain⟨ds,e0⟩:∃ ds,bs=ds++[x]:=List.getLast?_eq_some_iff.mp hbs
   refine⟨_,rfl,b,_,rfl,.inl hb,_,_,rfl,rfl,_,rfl,yI (fun _=>?_) (fun e=>?_)⟩
   ·refine⟨_,rfl,_,rfl,b,_,_,.int x,rfl,rfl,hb,?_,rest rfl⟩
    rw[e0,dz]
    exact W9 _ _
   ·exact absurd (decide_eq_true (show (0:Int)<((bs.map V.int).length:Nat) by rw[CY,e0,dh,Da];omega)) e
theorem YV {cM:Addr} (F:qQ K "need_month" "need_month" (top 40) f fd) (X:Er K mg "BadMonth" cM) (N1:Z1 mg "LAST_MONTH" 119999) (C1:qP P w K mg base zO 2 "is_number_within" ["thing","least","most"] (vP K)):zH P w K mg base (Xi P w) 3 f fd ["thing"] (gL K cM 119999):=by
 obtain⟨tm,hm⟩:=N1
 refine F.okE (N:=["thing"]) (by walk_at"s") (fun vs H Q E h=>?_) (fun cdv A outer s H vs Q E hr h=>?_)
 ·obtain⟨v,rfl,_⟩:=h
  rfl
 ·obtain⟨v,rfl,h⟩:=h
  refine⟨_,zi (zR (qM (qF (zj C1 hr (by decide) zt (za (pv 0) (za ze (za (qE (v:=.int 119999) rfl hm ⟨_,rfl⟩) zd)))))) (zi (UV ZE rfl rfl X.at' X.ex (za zC zd))) zA),?_⟩
  rcases h with ⟨z,rfl,h0,h1,q⟩ | ⟨nn | ⟨z,rfl,h0⟩,q⟩
  ·refine⟨_,rfl,_,_,_,rfl,.inl ⟨z,rfl,_,rfl,?_⟩⟩
   rw[decide_eq_true (show (0:Int)≤z∧z≤119999 from ⟨h0,h1⟩)]
   exact qY q
  ·exact⟨_,rfl,_,_,_,rfl,.inr ⟨nn,false,rfl,jS ⟨by decide,q⟩⟩⟩
  ·refine⟨_,rfl,_,_,_,rfl,.inl ⟨z,rfl,_,rfl,?_⟩⟩
   rw[decide_eq_false h0]
   exact jS ⟨by decide,q⟩
theorem X2 {cM:Addr} (F:qQ K "year_of" "year_of" (top 42) f fd) (N1:Z1 mg "YEAR_MONTHS" 12) (C1:qP P w K mg base (Xi P w) 3 "need_month" ["thing"] (gL K cM 119999)):zH P w K mg base (Xi P w) 4 f fd ["month"] (YD K cM):=by
 obtain⟨tm,hm⟩:=N1
 refine F.okE (N:=["month"]) (by walk_at"s") (fun vs H Q E h=>?_) (fun cdv A outer s H vs Q E hr h=>?_)
 ·obtain⟨v,rfl,_⟩:=h
  rfl
 ·obtain⟨v,rfl,h⟩:=h
  refine⟨_,zg (qm (zj C1 hr (by decide) GG (za (pv 0) zd))) (zi (zu (zq qZ (pv 0) (qE (v:=.int 12) rfl hm ⟨_,rfl⟩)))),?_⟩
  rcases h with ⟨z,rfl,h0,h1,q⟩ | ⟨nn,q⟩
  ·exact⟨_,rfl,_,rfl,.inl ⟨z,rfl,h0,h1,_,rfl,_,_,rfl,rfl,⟨by decide,by decide⟩,q⟩⟩
  ·exact⟨_,rfl,_,rfl,.inr ⟨nn,q⟩⟩
end
end K15
namespace L2
open PySem PySem.Spec PyProof.Rows
section
variable {X:Cx} {pins:List (Addr × Obj)} {σ:St} {H:Hp} {s:Shared}
end
section
variable {X:Cx}
end
end L2
namespace Pg
open PySem L2
theorem gf.items {α:Type} {H:Hp} {zs:List V} {xs:List α} {S:Hp→V→α→Prop} (M:gf H zs xs S) (mono:∀ H',zw H H'→∀ v x,S H v x→S H' v x):qN H zs xs S:=by
 refine⟨M.len,fun i y e=>?_⟩
 have hi:i<xs.length:=by rw[← M.len];exact (dF.mp e).1
 obtain⟨u,h1,h2⟩:=M.at_ i _ (de hi)
 rw[e] at h1
 cases h1
 exact⟨_,de hi,fun H' s=>mono H' s _ _ h2⟩
theorem Uy {H:Hp} {zs:List V} {n:Nat} {P:Hp→V→Rk→Prop} {q:Nat→Rk→Prop} (M:gf H zs (List.range n) (fun H u k=>∃ r,P H u r∧q k r)):∃ rs:List Rk,rs.length=n∧(∀ (i:Nat) r,rs[i]? = some r→q i r∧∃ u,zs[i]? = some u∧P H u r):=by
 have h:∀ k,∃ r,k<n→q k r∧∃ u,zs[k]? = some u∧P H u r:=fun k=>by
  by_cases hk:k<n
  ·obtain⟨u,h1,r,h2,h3⟩:=M.at_ k k (by rw[de (by rw[d4];exact hk),Eh])
   exact⟨r,fun _=>⟨h3,u,h1,h2⟩⟩
  ·exact⟨.flat "a" 0,fun z=>absurd z hk⟩
 obtain⟨f,hf⟩:∃ f:Nat→Rk,∀ k,k<n→q k (f k)∧∃ u,zs[k]? = some u∧P H u (f k):=⟨fun k=>(h k).choose,fun k hk=>(h k).choose_spec hk⟩
 refine⟨(List.range n).map f,by rw[CY,d4],fun i r e=>?_⟩
 rw[dj] at e
 obtain⟨k,h1,rfl⟩:=dC.mp e
 obtain⟨hk1,hk2⟩:=dF.mp h1
 rw[Eh] at hk2
 subst hk2
 rw[d4] at hk1
 exact hf i hk1
theorem j4.perm {rs qs:List Rk} (h:j4 rs) (p:qs.Perm rs):j4 qs:=⟨fun r hr=>h.gd r (p.mem_iff.mp hr),(p.map _).nodup_iff.mpr h.nd,by rw[p.length_eq];exact h.few⟩
end Pg
namespace L2
open PySem
theorem ug.mono {P:Program} {w:World} {K:BFr} {mg:Str→Option Value} {base:Heap} {CX:kT} {j k:Nat} {C:Addr} {x:Str} {ps:List Str} {sp:Sp} (M:ug P w K mg base CX j x C ps sp) (h:j≤k):ug P w K mg base CX k x C ps sp:=by
 obtain⟨a,f,fd,b,c,F⟩:=M
 exact⟨a,f,fd,b,c,F.mono h⟩
end L2
namespace Pg
open PySem L2
theorem oX {a b:Nat} (h:(!(Nat.beq a b))=true):a≠b:=fun e=>by
 subst e
 rw[Nat.beq_refl] at h
 cases h
section
variable {P:Program} {w:World} {K:BFr} {mg:Str→Option Value} {base:Heap} {CX:kT} {j d:Nat} {Cs:Nat→Addr}
theorem Ng {K:BFr} {d e k:Nat} {Cs:Nat→Addr} (h:d≤e):∀ vs H Q E,jq K d k Cs vs H Q E→jq K e k Cs vs H Q E:=by
 rintro vs H Q E ⟨v,r,b,bs,rfl,h1,h2,h3,h4⟩
 exact⟨v,r,b,bs,rfl,h1,h2,h3.le h,h4⟩
theorem kD {d e k:Nat} {Cs:Nat→Addr} (h:d≤e):∀ vs H Q E,yG d k Cs vs H Q E→yG e k Cs vs H Q E:=by
 rintro vs H Q E ⟨v,r,rfl,h1,h2,h3,h4⟩
 exact⟨v,r,rfl,h1,h2,h3.le h,h4⟩
theorem kW {d e k:Nat} {Cs:Nat→Addr} (h:d≤e):∀ vs H Q E,yg d k Cs vs H Q E→yg e k Cs vs H Q E:=by
 rintro vs H Q E ⟨v,r,rfl,h1,h2,h3,h4⟩
 exact⟨v,r,rfl,h1,h2,h3.le h,h4⟩
theorem GM (U0:qW P w K mg base CX 5 (Cs 0) "until" ["self","bases"] (vW K 0 Cs)) (U1:qW P w K mg base CX 5 (Cs 1) "until" ["self","bases"] (vW K 1 Cs)) (U2:qW P w K mg base CX 5 (Cs 2) "until" ["self","bases"] (vW K 2 Cs)) (U3:qW P w K mg base CX 5 (Cs 3) "until" ["self","bases"] (vW K 3 Cs)) (U4:qW P w K mg base CX 4 (Cs 4) "until" ["self","bases"] (jq K 3 4 Cs)) (hd:d≤3) (hj:5≤j) (U5:qW P w K mg base CX j (Cs 5) "until" ["self","bases"] (jq K d 5 Cs)) :
  ∀ k,k<6→qW P w K mg base CX j (Cs k) "until" ["self","bases"] (jq K d k Cs) :=
 Zj ((U0.imp (V7 (by decide))).mono hj) ((U1.imp (V7 (by decide))).mono hj) ((U2.imp (V7 (by decide))).mono hj) ((U3.imp (V7 (by decide))).mono hj) ((U4.imp (Ng hd)).mono (by omega)) U5
theorem PY (D0:qW P w K mg base CX 1 (Cs 0) "depth" ["self"] (yG 3 0 Cs)) (D1:qW P w K mg base CX 1 (Cs 1) "depth" ["self"] (yG 3 1 Cs)) (D2:qW P w K mg base CX 1 (Cs 2) "depth" ["self"] (yG 3 2 Cs)) (D3:qW P w K mg base CX 1 (Cs 3) "depth" ["self"] (yG 3 3 Cs)) (D4:qW P w K mg base CX 1 (Cs 4) "depth" ["self"] (yG 3 4 Cs)) (hd:d≤3) (hj:1≤j) (D5:qW P w K mg base CX j (Cs 5) "depth" ["self"] (yG d 5 Cs)) :
  ∀ k,k<6→qW P w K mg base CX j (Cs k) "depth" ["self"] (yG d k Cs) :=
 Zj ((D0.imp (kD hd)).mono hj) ((D1.imp (kD hd)).mono hj) ((D2.imp (kD hd)).mono hj) ((D3.imp (kD hd)).mono hj) ((D4.imp (kD hd)).mono hj) D5
theorem pF (T0:qW P w K mg base CX 7 (Cs 0) "twin" ["self"] (yg 3 0 Cs)) (T1:qW P w K mg base CX 7 (Cs 1) "twin" ["self"] (yg 3 1 Cs)) (T2:qW P w K mg base CX 7 (Cs 2) "twin" ["self"] (yg 3 2 Cs)) (T3:qW P w K mg base CX 7 (Cs 3) "twin" ["self"] (yg 3 3 Cs)) (T4:qW P w K mg base CX 8 (Cs 4) "twin" ["self"] (yg 3 4 Cs)) (hd:d≤3) (hj:8≤j) (T5:qW P w K mg base CX j (Cs 5) "twin" ["self"] (yg d 5 Cs)) :
  ∀ k,k<6→qW P w K mg base CX j (Cs k) "twin" ["self"] (yg d k Cs) :=
 Zj ((T0.imp (kW hd)).mono (by omega)) ((T1.imp (kW hd)).mono (by omega)) ((T2.imp (kW hd)).mono (by omega)) ((T3.imp (kW hd)).mono (by omega)) ((T4.imp (kW hd)).mono hj) T5
end
end Pg
namespace L2
open PySem PySem.Spec PyProof.Rows
section
variable {X:Cx} {pins:List (Addr × Obj)} {σ:St} {H:Hp} {s:Shared} {d:Addr} {kvs:List (yp × V)} {o:Obj}
theorem zI.thaw (I:zI X pins σ H s) (n:∀ o u,X.H₀ d≠some (.frz o u)) (hd:H d=some (.frz o (.dK kvs))):zI X pins σ (upd H d (.dK kvs)) s:=by
 have ok:=I.hok d _ hd
 have ne:∀ b (u:HO),H b=some u→(∀ o k,u≠.frz o k)→b≠d:=fun b u q n' e=>by
  subst e
  rw[hd] at q
  exact n' _ _ (Option.some.inj q).symm
 have nn:∀ b,H b=none→b≠d:=fun b q e=>by rw[e,hd] at q;cases q
 refine⟨I.ok,I.os,I.bare,⟨I.base.keep,I.base.slot,fun b u q n hx=>?_,I.base.there,fun b ys q=>?_,fun b u v q=>?_,fun b ps q=>?_⟩,I.loc,I.cell,?_,fun x c q=>?_,fun p hp=>?_,fun b u q=>?_,I.len⟩
 ·have z:=I.base.free b u q n hx
  rw[zm (nn b z)];exact z
 ·have z:=I.base.tups b ys q
  rw[zm (ne _ _ z fun _ _ e=>nomatch e)];exact z
 ·have z:=I.base.frzs b u v q
  rw[zm (fun e=>n u v (by rw[← e];exact q))];exact z
 ·obtain⟨m,z⟩:=I.base.tbls b ps q
  exact⟨m,by rw[zm (ne _ _ z fun _ _ e=>nomatch e)];exact z⟩
 ·rw[zm (nn _ I.free)];exact I.free
 ·have z:=I.freeC x c q
  rw[zm (nn _ z)];exact z
 ·obtain⟨p1,p2,p3,p4,p5⟩:=I.pin p hp
  exact⟨p1,by rw[zm (nn _ p2)];exact p2,p3,p4,p5⟩
 ·by_cases nb:b=d
  ·subst nb
   rw[zp] at q
   cases q
   exact ok.2
  ·rw[zm nb] at q
   refine (I.hok b u q).stay (fun c u _ z=>z) (fun c z=>?_) fun c ys z=>?_
   ·rw[zm (ne _ _ z fun _ _ e=>nomatch e)];exact z
   ·rw[zm (ne _ _ z fun _ _ e=>nomatch e)];exact z
noncomputable def Cq (d:Addr) (o:Obj) (kvs:List (yp × V)) (D:vE):vE:={ nx:=fun σ H=>H d=some (.frz o (.dK kvs))∧D.nx σ (upd H d (.dK kvs)),rt:=fun v H=>H d=some (.frz o (.dK kvs))∧D.rt v (upd H d (.dK kvs)),bk:=fun σ H=>H d=some (.frz o (.dK kvs))∧D.bk σ (upd H d (.dK kvs)),ct:=fun σ H=>H d=some (.frz o (.dK kvs))∧D.ct σ (upd H d (.dK kvs)) }
noncomputable def BW (t:TS):TS:=fun D σ H=>∃ d kvs,H d=some (.dK kvs)∧∀ o,t (Cq d o kvs D) σ (upd H d (.frz o (.dK kvs)))
theorem Xa {st:Stmt} {t:TS} (h:PS X st t):PS X st (BW t):=by
 intro pins s σ H D I q
 obtain⟨d,kvs,hd,q⟩:=q
 obtain⟨o,J⟩:=I.freeze hd
 have n:∀ o u,X.H₀ d≠some (.frz o u):=fun o u z=>by
  have:=I.base.frzs d o u z
  rw[hd] at this
  cases this
 refine wpAny_mono (h pins s σ _ _ J (q o)) (fun f s1 q=>?_) fun _ _ z=>z
 cases f with
 | next=>obtain⟨σ',H',I',hd',q⟩:=q;exact⟨σ',_,I'.thaw n hd',q⟩
 | brk=>obtain⟨σ',H',I',hd',q⟩:=q;exact⟨σ',_,I'.thaw n hd',q⟩
 | cont=>obtain⟨σ',H',I',hd',q⟩:=q;exact⟨σ',_,I'.thaw n hd',q⟩
 | ret u=>obtain⟨v,σ',H',I',r,hd',q⟩:=q;exact⟨v,σ',_,I'.thaw n hd',r,q⟩
theorem Zl {H H':Hp} {d:Addr} {o:Obj} {kvs:List (yp × V)} (hd:H d=some (.dK kvs)) (s:zw (upd H d (.frz o (.dK kvs))) H'):zw H (upd H' d (.dK kvs)):=fun b u e=>by
 by_cases c:b=d
 ·subst c
  rw[zp,← hd]
  exact e
 ·rw[zm c]
  exact s b u (by rw[zm c];exact e)
end
end L2
namespace Pg
open PySem L2
abbrev Be:=Int × Addr × List Rk
noncomputable def yr (e:Be):Int × List Rk:=(e.1,e.2.2)
noncomputable def vv (es:List Be):List (yp × V):=es.map fun e=>(Sum.inl e.1,V.ref e.2.1)
noncomputable def JN (rs:List Rk):List V:=rs.map fun r=>V.str (yK r)
structure xx (C:Addr) (H:Hp) (B dx t:Addr) (es:List Be):Prop where
 ins:H B=some (.ins C dx [("told",.ref t)])
 dic:H t=some (.dK (vv es))
 nd:(es.map (·.1)).Nodup
 row:∀ e∈es,H e.2.1=some (.lst (JN e.2.2))
 ok:∀ e∈es,j4 e.2.2
structure Bb (H:Hp) (o:Addr) (es:List Be):Prop where
 dic:H o=some (.dK (vv es))
 nd:(es.map (·.1)).Nodup
 rt:∀ e∈es,wI H e.2.1 e.2.2
theorem xx.fr {C:Addr} {H H':Hp} {B dx t:Addr} {es:List Be} (h:xx C H B dx t es) (k:∀ b o,H b=some o→H' b=some o):xx C H' B dx t es:=⟨k _ _ h.ins,k _ _ h.dic,h.nd,fun e he=>k _ _ (h.row e he),h.ok⟩
theorem Bb.same {H H':Hp} {o:Addr} {es:List Be} (h:Bb H o es) (s:zw H H'):Bb H' o es:=⟨s _ _ h.dic,h.nd,fun e he=>(h.rt e he).same s⟩
theorem V9 {a b:Int}:(Sum.inl a:yp)=Sum.inl b↔a=b:=⟨fun h=>by injection h,fun h=>by rw[h]⟩
theorem xF {es:List Be} (nd:(es.map (·.1)).Nodup) {e:Be} (h:e∈es):ur (vv es) (Sum.inl e.1)=some (.ref e.2.1):=by
 induction es with
 | nil=>cases h
 | cons p r ih =>
  have nd:(p.1::r.map (·.1)).Nodup:=nd
  obtain⟨n1,n2⟩:=Dm.mp nd
  rcases dc.mp h with rfl | h
  ·exact kO rfl
  ·have ne:¬ (Sum.inl p.1:yp)=Sum.inl e.1:=fun z=>n1 (by rw[V9.mp z];exact dk.mpr ⟨_,h,rfl⟩)
   exact (kY ne).trans (ih n2 h)
noncomputable def kJ (es:List Be) (Y:Int) (a:Addr) (rs:List Rk):List Be:=if (es.any fun e=>decide (e.1=Y))=true then es.map (fun e=>if e.1=Y then (Y,a,rs) else e) else es++[(Y,a,rs)]
theorem LA (es:List Be) (Y:Int) (a:Addr) (rs:List Rk):uq (vv es) (Sum.inl Y) (.ref a)=vv (kJ es Y a rs):=by
 have e1:((vv es).any fun kv=>decide (kv.1=Sum.inl Y))=es.any fun e=>decide (e.1=Y):=by
  unfold vv
  rw[List.any_map]
  congr 1
  funext e
  exact decide_eq_decide.mpr V9
 unfold uq kJ
 rw[e1]
 cases q:es.any fun e=>decide (e.1=Y) with
 | true =>
  rw[if_pos rfl,if_pos rfl]
  unfold vv
  rw[dB,dB]
  refine DV fun e _=>?_
  show (if (Sum.inl e.1:yp)=Sum.inl Y then ((Sum.inl e.1:yp),V.ref a) else (Sum.inl e.1,V.ref e.2.1))=(Sum.inl (if e.1=Y then ((Y,a,rs):Be) else e).1,V.ref (if e.1=Y then ((Y,a,rs):Be) else e).2.1)
  by_cases c:e.1=Y
  ·rw[if_pos (V9.mpr c),if_pos c,c]
  ·rw[if_neg (fun z=>c (V9.mp z)),if_neg c]
 | false =>
  rw[if_neg dJ,if_neg dJ]
  unfold vv
  rw[dz]
  rfl
theorem Qz {es:List Be} {Y:Int} {a:Addr} {rs:List Rk} {e:Be} (h:e∈kJ es Y a rs):e=(Y,a,rs)∨e∈es:=by
 unfold kJ at h
 cases q:es.any fun e=>decide (e.1=Y) with
 | true =>
  rw[q,if_pos rfl] at h
  obtain⟨f,hf,rfl⟩:=dk.mp h
  by_cases c:f.1=Y
  ·rw[if_pos c];exact .inl rfl
  ·rw[if_neg c];exact .inr hf
 | false =>
  rw[q,if_neg dJ] at h
  rcases dA.mp h with h | h
  ·exact .inr h
  ·exact .inl (dI.mp h)
theorem Mz {es:List Be} {Y:Int} {a:Addr} {rs:List Rk} (nd:(es.map (·.1)).Nodup):((kJ es Y a rs).map (·.1)).Nodup:=by
 unfold kJ
 cases q:es.any fun e=>decide (e.1=Y) with
 | true =>
  rw[if_pos rfl,dB]
  have:es.map ((·.1) ∘ fun e=>if e.1=Y then ((Y,a,rs):Be) else e)=es.map (·.1):=DV fun e _=>by
   show (if e.1=Y then ((Y,a,rs):Be) else e).1=e.1
   by_cases c:e.1=Y
   ·rw[if_pos c,c]
   ·rw[if_neg c]
  rw[this]
  exact nd
 | false =>
  rw[if_neg dJ,dz]
  refine eE.mpr ⟨nd,Dm.mpr ⟨(fun z=>by cases z),DS⟩,fun x hx y hy=>?_⟩
  have hy:y∈[Y]:=hy
  rw[dI.mp hy]
  rintro rfl
  obtain⟨e,he,rfl⟩:=dk.mp hx
  have:(es.any fun f=>decide (f.1=e.1))=true:=EG.mpr ⟨e,he,decide_eq_true rfl⟩
  rw[this] at q
  cases q
structure uw (ps:List (Int × List Rk)) (Y m:Int) (rs:List Rk):Prop where
 mem:(m,rs)∈ps
 le:m≤Y
 top:∀ q∈ps,q.1≤Y→q.1≤m
theorem uw.one {ps:List (Int × List Rk)} {Y m m':Int} {rs rs':List Rk} (nd:(ps.map (·.1)).Nodup) (a:uw ps Y m rs) (b:uw ps Y m' rs'):rs=rs':=by
 have e:m=m':=Int.le_antisymm (b.top _ a.mem a.le) (a.top _ b.mem b.le)
 subst e
 have a1:=a.mem
 have b1:=b.mem
 clear a b
 induction ps with
 | nil=>cases a1
 | cons p r ih =>
  have nd:(p.1::r.map (·.1)).Nodup:=nd
  obtain⟨n1,n2⟩:=Dm.mp nd
  rcases dc.mp a1 with e1 | h1
  ·rcases dc.mp b1 with e2 | h2
   ·rw[← e1] at e2
    cases e2
    rfl
   ·exact absurd (dk.mpr ⟨_,h2,by rw[← e1]⟩) n1
  ·rcases dc.mp b1 with e2 | h2
   ·exact absurd (dk.mpr ⟨_,h1,by rw[← e2]⟩) n1
   ·exact ih n2 h1 h2
theorem Gv (es:List Be):(es.map yr).map (·.1)=es.map (·.1):=by rw[dB];rfl
noncomputable def ZZ (es:List Be) (Y:Int):List Int:=(es.map (·.1)).filter fun y=>decide (y≤Y)
theorem xi {es:List Be} {Y m:Int} (h:m∈ZZ es Y) (t:∀ x∈ZZ es Y,x≤m):∃ e∈es,e.1=m∧uw (es.map yr) Y m e.2.2:=by
 obtain⟨h1,h2⟩:=DH.mp h
 obtain⟨e,he,rfl⟩:=dk.mp h1
 refine⟨e,he,rfl,dk.mpr ⟨e,he,rfl⟩,of_decide_eq_true h2,fun q hq l=>?_⟩
 obtain⟨f,hf,rfl⟩:=dk.mp hq
 exact t f.1 (DH.mpr ⟨dk.mpr ⟨f,hf,rfl⟩,decide_eq_true l⟩)
theorem gI {es:List Be} {Y:Int} (h:ZZ es Y=[]) {m:Int} {rs:List Rk} (p:uw (es.map yr) Y m rs):False:=by
 obtain⟨e,he,z⟩:=dk.mp p.mem
 have:e.1∈ZZ es Y:=DH.mpr ⟨dk.mpr ⟨e,he,rfl⟩,decide_eq_true (by
  have:e.1=m:=congrArg Prod.fst z
  rw[this]
  exact p.le)⟩
 rw[h] at this
 cases this
theorem Yy {H:Hp} (rs:List Rk):qN H (JN rs) rs (fun _ v r=>v = .str (yK r)):=⟨CY _,fun i y e=>by
 unfold JN at e
 rw[dj] at e
 obtain⟨r,hr,rfl⟩:=dC.mp e
 exact⟨r,hr,fun _ _=>rfl⟩⟩
theorem Pn {ns:List Int} (h:ns≠[]):∃ m∈ns,∀ x∈ns,x≤m:=by
 induction ns with
 | nil=>exact absurd rfl h
 | cons a r ih =>
  cases r with
  | nil=>exact⟨a,dq,fun x hx=>by rw[dI.mp hx];exact Di _⟩
  | cons b l =>
   obtain⟨m,hm,t⟩:=ih (fun z=>nomatch z)
   by_cases c:a≤m
   ·exact⟨m,dQ _ hm,fun x hx=>by
     rcases dc.mp hx with rfl | hx
     ·exact c
     ·exact t x hx⟩
   ·exact⟨a,dq,fun x hx=>by
     rcases dc.mp hx with rfl | hx
     ·exact Di _
     ·have:=t x hx
      omega⟩
noncomputable def xf (C:Addr):Sp:=fun vs H Q _=>∃ (B dx:Addr),vs=[.ref B]∧H B=some (.ins C dx [])∧∀ t H',H t=none→xx C H' B dx t []→(∀ b o,H b=some o→b≠B→H' b=some o)→Q .non H'
noncomputable def VN (C:Addr):Sp:=fun vs H Q _=>∃ (B dx t l:Addr) (es:List Be) (Y:Int) (rs:List Rk),vs=[.ref B,.int Y,.ref l]∧xx C H B dx t es∧0≤Y∧Y≤9999∧H l=some (.lst (JN rs))∧j4 rs∧es.length≤100 ∧
 ∀ a H',H a=none→xx C H' B dx t (kJ es Y a rs)→(∀ b o,H b=some o→b≠t→H' b=some o)→Q .non H'
noncomputable def YF (C cN:Addr):Sp:=fun vs H Q E=>∃ (B dx t:Addr) (es:List Be) (Y:Int),vs=[.ref B,.int Y]∧xx C H B dx t es∧0≤Y∧Y≤9999∧es.length≤100∧(ZZ es Y=[]→∀ H',zw H H'→E (.ref cN) none H') ∧
 ∀ m rs,uw (es.map yr) Y m rs→j4 rs→∀ l H',zw H H'→H l=none→H' l=some (.lst (JN rs))→Q (.ref l) H'
noncomputable def JB (Cs:Nat→Addr) (C cN:Addr):Sp:=fun vs H Q E=>∃ (B dx t:Addr) (es:List Be) (Y:Int),vs=[.ref B,.int Y]∧xx C H B dx t es∧0≤Y∧Y≤9999∧es.length≤100∧(ZZ es Y=[]→∀ H',zw H H'→E (.ref cN) none H') ∧
 ∀ m rs,uw (es.map yr) Y m rs→j4 rs→∀ l H',zw H H'→ZN Cs H' l rs→Q (.ref l) H'
noncomputable def Bd (H:Hp) (v:V) (M:Int) (rs:List Rk) (bs:List Int):Prop:=∃ t u,v = .ref t∧H t=some (.tup [.int M,.int (uW bs),u,.int (U8 (uW bs) (Jp rs bs))])∧j3 H u (Jp rs bs)
noncomputable def GF (K:BFr) (Cs:Nat→Addr):Sp:=fun vs H Q _=>∃ (l b:Addr) (rs:List Rk) (bs:List Int) (M:Int),vs=[.ref l,.int M,.ref b]∧ZN Cs H l rs∧j4 rs∧zZ K H b (bs.map V.int)∧bs.length≤100∧∀ v H',zw H H'→Bd H' v M rs bs→Q v H'
noncomputable def Vy (K:BFr) (Cs:Nat→Addr) (C cM cN:Addr):Sp:=fun vs H Q E=>∃ (B dx t b:Addr) (es:List Be) (v:V) (bs:List Int),vs=[.ref B,v,.ref b]∧xx C H B dx t es∧es.length≤100∧zZ K H b (bs.map V.int)∧bs.length≤100 ∧
 ((∃ M,v = .int M∧0≤M∧M≤119999∧(ZZ es (M/12)=[]→∀ H',zw H H'→E (.ref cN) none H')∧∀ m rs,uw (es.map yr) (M/12) m rs→∀ v H',zw H H'→Bd H' v M rs bs→Q v H')∨(L6 K H 119999 v∧E (.ref cM) none H))
noncomputable def YK:Sp:=fun vs H Q _=>∃ z,vs=[.int z]∧0≤z∧z≤9999∧Q .non H
noncomputable def Gm:Sp:=fun vs H Q _=>∃ l xs,vs=[.ref l]∧H l=some (.lst xs)∧xs.length≤8∧Q .non H
noncomputable def Jw (Cs:Nat→Addr):Sp:=fun vs H Q _=>∃ l rs,vs=[.ref l]∧ZN Cs H l rs∧j4 rs∧∀ H',zw H H'→Q .non H'
end Pg
namespace K15
open PySem PySem.NumText L2 Pg
seal PE PA PT PW PS jT PG uv PI ui PO PK
section
variable {P:Program} {w:World} {K:BFr} {mg:Str→Option Value} {base:Heap} {f:Addr} {fd:FuncData} {d:Nat→Addr} {cR:Addr}
theorem CU (t:Addr):jE "told" (.ref t) []=[((("told":Str)),V.ref t)]:=rfl
theorem lD {C:Addr} (F:qQ K "__init__" "RuleBook.__init__" (zy (top 82) 0) f fd) (KC:w5 K C) (nT:zT K C "told"):zH P w K mg base zO 1 f fd ["self"] (xf C):=by
 refine F.ok (N:=["self"]) (by walk_at"s") (fun vs H Q E h=>?_) (fun cdv A outer s H vs Q E hr h=>?_)
 ·obtain⟨L,dx,rfl,_⟩:=h
  rfl
 ·obtain⟨L,dx,rfl,hL,q⟩:=h
  refine⟨_,zi (yS (pv 0) QK rfl),?_⟩
  refine fun t H1 s1 n1 e1=>⟨_,rfl,L,C,dx,[],rfl,s1 _ _ hL,KC,nT,by decide,?_⟩
  rw[CU]
  have tL:t≠L:=(zB hL n1).symm
  refine q t _ n1 ⟨zp,?_,DS,(fun e he=>nomatch he),(fun e he=>nomatch he)⟩ fun b o hb bL=>?_
  ·rw[zm tL]
   exact e1
  ·rw[zm bL]
   exact s1 _ _ hb
theorem LP (F:qQ K "need_year" "need_year" (top 41) f fd) (N1:Z1 mg "LAST_YEAR" 9999) (C1:qP P w K mg base zO 2 "is_number_within" ["thing","least","most"] (vP K)):zH P w K mg base zO 3 f fd ["thing"] YK:=by
 obtain⟨tm,hm⟩:=N1
 refine F.ok (N:=["thing"]) (by walk_at"s") (fun vs H Q E h=>?_) (fun cdv A outer s H vs Q E hr h=>?_)
 ·obtain⟨z,rfl,_⟩:=h
  rfl
 ·obtain⟨z,rfl,h0,h1,q⟩:=h
  refine⟨_,zi (zR (qM (qF (zj C1 hr (by decide) zt (za (pv 0) (za ze (za (qE (v:=.int 9999) rfl hm ⟨_,rfl⟩) zd)))))) qb zA),?_⟩
  refine⟨_,rfl,_,_,_,rfl,.inl ⟨z,rfl,_,rfl,?_⟩⟩
  rw[decide_eq_true (show (0:Int)≤z∧z≤9999 from ⟨h0,h1⟩)]
  exact qY q
theorem NF (F:qQ K "need_few" "need_few" (top 80) f fd) (G:jP mg) (N1:Z1 mg "MOST_RULES" 8):zH P w K mg base zO 1 f fd ["thing"] Gm:=by
 obtain⟨tm,hm⟩:=N1
 refine F.ok (N:=["thing"]) (by walk_at"s") (fun vs H Q E h=>?_) (fun cdv A outer s H vs Q E hr h=>?_)
 ·obtain⟨l,xs,rfl,_⟩:=h
  rfl
 ·obtain⟨l,xs,rfl,hl,few,q⟩:=h
  refine⟨_,zi (zR (PW.pt (wC (qM (qF (zx qp rfl G.isinstance zS (za (pv 0) (za (yF (v:=.ty "list") rfl G.list Vc rfl) zd))))) (uT (zE jZ (zx zQ rfl G.len boot_len (za (pv 0) zd)) (qE (v:=.int 8) rfl hm ⟨_,rfl⟩) (zD _))))) qb zA),?_⟩
  refine⟨_,rfl,_,_,_,_,true,rfl,rfl,.inl (.lst hl),rfl,true,rfl,qY ⟨_,rfl,l,_,rfl,.inl (zZ.of hl),_,_,rfl,rfl,_,rfl,?_⟩⟩
  rw[decide_eq_false (by omega)]
  exact qY q
theorem o9 {Cs:Nat→Addr} (F:qQ K "need_unlike_names" "need_unlike_names" (top 81) f fd) (G:jP mg) (CL:∀ k,k<6→w5 K (Cs k)) (NM:∀ k,k<6→zT K (Cs k) "name"):zH P w K mg base zO 1 f fd ["rules"] (Jw Cs):=by
 have nc:(["rule"]:List Str).Nodup:=by decide +kernel
 refine F.ok (N:=["rules"]) (by walk_at"s") (fun vs H Q E h=>?_) (fun cdv A outer s H vs Q E hr h=>?_)
 ·obtain⟨l,rs,rfl,_⟩:=h
  rfl
 ·obtain⟨l,rs,rfl,⟨ys,hl,T⟩,ok,q⟩:=h
  have few:=ok.few
  refine' ⟨_,zi (zR (zE Yh (GX rfl rfl G.len rfl G.set (za ?comp zd)) (zx zQ rfl G.len boot_len (za (pv 0) zd)) (zD _)) qb zA),?main⟩
  case comp =>
   refine' z8 (Nc:=["rule"]) (cl:=[]) (src:=[none]) (wi:=vO K (zM 0)) (g:=z4 0) (tt:=qK) (te:=Py K (zM 0) "name")
    (by walk_at"c0") rfl (q9 (pv 0)) ?hb
   case hb =>
    intro fp C' s' H'
    exact⟨zJ (i:=0) nc rfl (Or.inl rfl),qd,zN (pv 0) rfl⟩
  walk_at"d5"
  refine⟨_,rfl,l,rfl,⟨_,zZ.of hl⟩,fun D hD=>y9 (qX (zZ.of hl)) T hD (by rw[sizeLine_eq];omega) (fun r=>V.str r.name) (fun r hm v H1 R s1 ro k=>?_) (fun H1 s1 e1=>?_)⟩
  ·obtain⟨oa,dx,fs,rfl,ho,nm,no⟩:=ro.obj (ok.gd r hm)
   have k6:=Tf r
   exact⟨_,rfl,oa,_,dx,fs,_,rfl,ho,CL _ k6,NM _ k6,nm,k _ (zw.refl _)⟩
  ·have yl:=T.len
   refine⟨D,rs.map Rk.name,rfl,zZ.of (by rw[dB];exact e1),by rw[CY];omega,fun n nle nn=>?_⟩
   rw[CY] at nle nn
   have e:¬ n<rs.length:=fun z=>nn.mp z ok.nd
   refine⟨_,rfl,l,_,rfl,.inl (zZ.of (s1 _ _ hl)),_,_,rfl,rfl,_,rfl,?_⟩
   rw[decide_eq_false (by omega)]
   exact qY (q H1 s1)
theorem nK {d e k:Nat} {Cs:Nat→Addr} (h:d≤e):∀ vs H Q E,y8 d k Cs vs H Q E→y8 e k Cs vs H Q E:=by
 rintro vs H Q E ⟨v,r,rfl,h1,h2,h3,h4⟩
 exact⟨v,r,rfl,h1,h2,h3.le h,h4⟩
theorem gW {CX:kT} {j d:Nat} {Cs:Nat→Addr} (R0:qW P w K mg base CX 1 (Cs 0) "row" ["self"] (j6 0 Cs)) (R1:qW P w K mg base CX 1 (Cs 1) "row" ["self"] (j6 1 Cs)) (R2:qW P w K mg base CX 1 (Cs 2) "row" ["self"] (j6 2 Cs)) (R3:qW P w K mg base CX 1 (Cs 3) "row" ["self"] (j6 3 Cs)) (R4:qW P w K mg base CX 1 (Cs 4) "row" ["self"] (y8 3 4 Cs)) (hd:d≤3) (hj:1≤j) (R5:qW P w K mg base CX j (Cs 5) "row" ["self"] (y8 d 5 Cs)) :
  ∀ k,k<6→qW P w K mg base CX j (Cs k) "row" ["self"] (y8 d k Cs) :=
 Zj ((R0.imp (VB (by decide))).mono hj) ((R1.imp (VB (by decide))).mono hj) ((R2.imp (VB (by decide))).mono hj) ((R3.imp (VB (by decide))).mono hj) ((R4.imp (nK hd)).mono hj) R5
theorem V6 {Cs:Nat→Addr} {d j:Nat} (hd:d≤3) (F:qQ K "row" "OnTop.row" (zy (top 68) 2) f fd) (G:jP mg) (RX:Yi K (Cs 5)) (MR:∀ k,k<6→qW P w K mg base zO j (Cs k) "row" ["self"] (y8 d k Cs)):zH P w K mg base zO (j+1) f fd ["self"] (y8 (d+1) 5 Cs):=by
 refine F.ok (N:=["self"]) (by walk_at"s") (fun vs H Q E h=>?_) (fun cdv A outer s H vs Q E hr h=>?_)
 ·obtain⟨v,r,rfl,_⟩:=h
  rfl
 ·obtain⟨v,r,rfl,e,ro,gd,q⟩:=h
  obtain⟨d',n,p,x,r',ed,rfl,hn,hp,hw,g'⟩:=lz gd e
  cases ed
  cases ro with
  | pln kk _=>exact absurd kk (by show ¬ (5:Nat)<4;decide)
  | @ontop _ _ _ _ o dx u ho ri =>
   obtain⟨oi,dxi,fsi,rfl,hoi,_,noi⟩:=ri.obj g'
   have h1:=hn.ok.hi
   have h2:=vJ hp
   have h3:=wc hw
   have h4:=km g'
   have jr:=(yi (sep:=" ") (zs:=["ontop",n,toString p,x,"of",yK r']) (m:=1700) (k:=6) (fun z hz=>by
     simp only[dc,dm,or_false] at hz
     rcases hz with rfl | rfl | rfl | rfl | rfl | rfl
     ·decide +kernel
     ·omega
     ·omega
     ·omega
     ·decide +kernel
     ·omega) (CZ _) (by decide +kernel) rfl).1
   refine⟨_,zi (zu (yH PySem.F.plainAttrs_str PySem.F.slot_str_join PySem.F.type_str_join yZ zC (za (qy (za zC (za (zN (pv 0) rfl) (za (z6 qo rfl G.str qL (za (zN (pv 0) rfl) zd)) (za (zN (pv 0) rfl) (za zC (za (wk (p:=fun k=>k<6) fun k hk=>uH (MR k hk) hr (CZ _) zt (zN (pv 0) rfl)) zd))))))) zd))),?_⟩
   exact⟨rfl,_,rfl,o,_,dx,_,_,rfl,ho,RX.cls,RX.no "name" (by decide),rfl,_,rfl,o,_,dx,_,_,rfl,ho,RX.cls,RX.no "parts" (by decide),rfl,_,rfl,wB hp,_,rfl,o,_,dx,_,_,rfl,ho,RX.cls,RX.no "way" (by decide),rfl,r'.kd,Tf r',_,rfl,o,_,dx,_,_,rfl,ho,RX.cls,RX.no "within" (by decide),rfl,oi,dxi,fsi,rfl,hoi,noi "row" (by decide),_,r',rfl,rfl,ri,g',fun H1 s1=>⟨qv rfl,fun l H2 s2 n2 e2=>⟨_,["ontop",n,toString p,x,"of",yK r'],l,rfl,rfl,zZ.of e2,jr,q H2 (s1.trans s2)⟩⟩⟩
set_option maxHeartbeats 8000000 in
theorem MB {Cs:Nat→Addr} {C:Addr} {j:Nat} (hj:4≤j) (F:qQ K "put" "RuleBook.put" (zy (top 82) 1) f fd) (G:jP mg) (KC:w5 K C) (nT:zT K C "told") (C1:qP P w K mg base zO 3 "need_year" ["thing"] YK) (C2:qP P w K mg base zO 1 "need_few" ["thing"] Gm) (C3:qP P w K mg base zO j "rule_of" ["text"] (vM Cs)) (C4:qP P w K mg base zO 1 "need_unlike_names" ["rules"] (Jw Cs)) (MR:∀ k,k<6→qW P w K mg base zO 4 (Cs k) "row" ["self"] (y8 3 k Cs)):zH P w K mg base zO (j+1) f fd ["self","year","rows"] (VN C):=by
 have nd:(["self","year","rows","rules"]:List Str).Nodup:=by decide +kernel
 have nc1:(["row"]:List Str).Nodup:=by decide +kernel
 have nc2:(["rule"]:List Str).Nodup:=by decide +kernel
 refine F.ok (N:=["self","year","rows","rules"]) (by walk_at"s") (fun vs H Q E h=>?_) (fun cdv A outer s H vs Q E hr h=>?_)
 ·obtain⟨B,dx,t,l,es,Y,rs,rfl,_⟩:=h
  rfl
 ·obtain⟨B,dx,t,l,es,Y,rs,rfl,BK,Y0,Y1,hl,ok,el,q⟩:=h
  have hu:=WC hr
  have few:=ok.few
  refine' ⟨_,(zg (qm (zj C1 hr (by omega) zt (za (pv 1) zd)))
    (zg (qm (zj C2 hr (by omega) zt (za (pv 2) zd)))
    (zg ?c1
    (zg (qm (zj C4 hr (by omega) zt (za (pv 3) zd)))
    (zi (Vv hu (zN (pv 0) rfl) (pv 1) ?c2 rfl)))))),?main⟩
  case c1 =>
   refine' we (i:=3) (Nc:=["row"]) (cl:=[]) (src:=[none]) (wi:=vO K (zM 2)) (g:=z4 0) (tt:=qK) (te:=fun σ H Q=>qi (zM 0) yn σ H fun vs H1=>vM Cs vs H1 Q E0)
    nd rfl rfl (by walk_at"c0") rfl (q9 (pv 2)) ?hb
   case hb =>
    intro fp C' s' H'
    exact⟨zJ (i:=0) nc1 rfl (Or.inl rfl),qd,zj C3 hr (CZ _) zt (za (pv 0) zd)⟩
  case c2 =>
   refine' z8 (Nc:=["rule"]) (cl:=[]) (src:=[none]) (wi:=vO K (zM 3)) (g:=z4 0) (tt:=qK) (te:=fun σ H Q=>∃ k,k<6∧Tu (Cs k) "row" (y8 3 k Cs) E0 (zM 0) yn σ H Q)
    (by walk_at"c0") rfl (q9 (pv 3)) ?hb
   case hb =>
    intro fp C' s' H'
    exact⟨zJ (i:=0) nc2 rfl (Or.inl rfl),qd,wk (p:=fun k=>k<6) fun k hk=>uH (MR k hk) hr hj zt (pv 0)⟩
  walk_at"d5"
  refine⟨_,rfl,Y,rfl,Y0,Y1,_,rfl,l,_,rfl,hl,by unfold JN;rw[CY];exact few,?_⟩
  refine⟨_,rfl,l,rfl,⟨_,zZ.of hl⟩,fun D hD=>kA (qX (zZ.of hl)) (Yy rs) hD (by rw[sizeLine_eq];omega) (fun H' u r=>wg Cs H' r u) (fun kp h=>h.keep kp) (fun i r hr' v H1 R s1 e1 k=>?_) (fun ys H1 s1 e1 M=>?_)⟩
  ·subst e1
   exact⟨_,rfl,r,rfl,ok.gd r (dZ hr'),fun o H2 s2 ro=>k o H2 s2 ro⟩
  have T:=gf.items M fun H' s v r h=>h.same s
  refine⟨_,rfl,D,rs,rfl,⟨ys,e1,T⟩,ok,fun H2 s2=>?_⟩
  have e2:=s2 _ _ e1
  have T2:=T.same s2
  refine⟨_,rfl,D,rfl,⟨_,zZ.of e2⟩,fun D2 hD2=>y9 (qX (zZ.of e2)) T2 hD2 (by rw[sizeLine_eq];omega) (fun r=>V.str (yK r)) (fun r hm v H3 R s3 ro k=>?_) (fun H3 s3 e3=>?_)⟩
  ·obtain⟨oa,dxo,fs,rfl,ho,nm,no⟩:=ro.obj (ok.gd r hm)
   exact⟨r.kd,Tf r,_,rfl,oa,dxo,fs,rfl,ho,no "row" (by decide),_,r,rfl,rfl,ro,ok.gd r hm,fun H4 s4=>k _ s4⟩
  have S3:=s1.trans (s2.trans s3)
  have B3:=BK.fr fun b o h=>S3 _ _ h
  refine⟨_,rfl,B,C,dx,_,_,rfl,B3.ins,KC,nT,rfl,_,rfl,t,_,rfl,X9.k (k:=Sum.inl Y) B3.dic (by unfold vv;rw[CY,sizeLine_eq];omega),?_⟩
  rw[LA (a:=D2) (rs:=rs)]
  have D0:H D2=none:=(s1.trans s2).free hD2
  have nt:∀ b xs,H3 b=some (.lst xs)→b≠t:=fun b xs h=>yQ h B3.dic (by intro z;cases z)
  refine q D2 _ D0 ⟨by rw[zm (yQ B3.ins B3.dic (by intro z;cases z))];exact B3.ins,zp,Mz B3.nd,fun e he=>?_,fun e he=>?_⟩ fun b o h n=>by rw[zm n];exact S3 _ _ h
  ·rcases Qz he with rfl | he
   ·show upd H3 t _ D2=_
    rw[zm (nt _ _ e3)]
    exact e3
   ·rw[zm (nt _ _ (B3.row e he))]
    exact B3.row e he
  ·rcases Qz he with rfl | he
   ·exact ok
   ·exact B3.ok e he
set_option maxHeartbeats 8000000 in
theorem Lm {C cN:Addr} (F:qQ K "rows" "RuleBook.rows" (zy (top 82) 2) f fd) (G:jP mg) (X:Er K mg "NoYear" cN) (KC:w5 K C) (nT:zT K C "told") (C1:qP P w K mg base zO 3 "need_year" ["thing"] YK):zH P w K mg base (Xi P w) 4 f fd ["self","year"] (YF C cN):=by
 have nd:(["self","year","ahead"]:List Str).Nodup:=by decide +kernel
 have nc:(["other","year"]:List Str).Nodup:=by decide +kernel
 refine F.okE (N:=["self","year","ahead"]) (by walk_at"s") (fun vs H Q E h=>?_) (fun cdv A outer s H vs Q E hr h=>?_)
 ·obtain⟨B,dx,t,es,Y,rfl,_⟩:=h
  rfl
 ·obtain⟨B,dx,t,es,Y,rfl,BK,Y0,Y1,el,qe,q⟩:=h
  have hu:=WC hr
  refine' ⟨_,(zg (qm (zj C1 hr (by decide) zt (za (pv 1) zd)))
    (zg (Xa ?c1)
    (zg (zR (zE qC (zx zQ rfl G.len boot_len (za (pv 2) zd)) ze (zD _)) (zi (UV ZE rfl rfl X.at' X.ex (za zC zd))) zA)
    (zi (zu (z6 VL rfl G.list Vc (za (kr hu (zN (pv 0) rfl) (zx (JR rfl) rfl G.max PyProof.Rows.boot_max (za (pv 2) zd)) (fun _ _=>rfl)) zd))))))),?main⟩
  case c1 =>
   refine' we (i:=2) (Nc:=["other","year"]) (cl:=[("year",s.heap.objs.size+1)]) (src:=[none,some 1]) (wi:=Gf (Py K (zM 0) "told")) (g:=z4 0) (tt:=Wc (jC (YN fun i j=>.bl (decide (i≤j))) (zM 0) (zM 1))) (te:=zM 0)
    nd rfl rfl (by walk_at"c1") rfl (Uj (zN (pv 0) rfl)) ?hb
   case hb =>
    intro fp C' s' H'
    exact⟨zJ (i:=0) nc rfl (Or.inl rfl),Qi (zE WH (pv 0) (pv 1) (zD _)),pv 0⟩
  walk_at"d5"
  have tB:B≠t:=yQ BK.ins BK.dic (by intro z;cases z)
  refine⟨_,rfl,Y,rfl,Y0,Y1,t,vv es,BK.dic,fun o=>?_⟩
  refine⟨_,rfl,B,C,dx,_,_,rfl,by rw[zm tB];exact BK.ins,KC,nT,rfl,t,o,vv es,rfl,zp,fun D hD=>?_⟩
  have ek:(vv es).map (fun p=>kV p.1)=(es.map (·.1)).map V.int:=by
   unfold vv
   rw[dB,dB]
   rfl
  have wd:=ZA (H:=upd H t (.frz o (.dK (vv es)))) (d:=t) (o:=o) (kvs:=vv es) zp
  rw[ek] at wd
  refine Qa wd hD (by rw[CY,CY,sizeLine_eq];omega) (fun x=>match x with | .int y=>decide (y≤Y) | _=>false) id (fun x hx H' R _ r=>?_) (fun x hx _ H' R _ r=>⟨_,rfl,r⟩) ?_
  ·obtain⟨y,_,rfl⟩:=dk.mp hx
   exact⟨_,rfl,_,rfl,_,_,rfl,rfl,_,rfl,r⟩
  have ea:(((es.map (·.1)).map V.int).filter fun x=>match x with | .int y=>decide (y≤Y) | _=>false).map id=(ZZ es Y).map V.int:=by
   rw[List.map_id,List.filter_map]
   rfl
  rw[ea]
  have Dt:D≠t:=fun z=>by rw[z,zp] at hD;cases hD
  have sf:zw (upd H t (.frz o (.dK (vv es)))) (upd (upd H t (.frz o (.dK (vv es)))) D (.lst ((ZZ es Y).map V.int))):=zw.upd hD
  refine⟨by rw[zm (Ne.symm Dt)];exact zp,?_⟩
  have S1:zw H (upd (upd (upd H t (.frz o (.dK (vv es)))) D (.lst ((ZZ es Y).map V.int))) t (.dK (vv es))):=Zl BK.dic sf
  have e1:(upd (upd (upd H t (.frz o (.dK (vv es)))) D (.lst ((ZZ es Y).map V.int))) t (.dK (vv es))) D=some (.lst ((ZZ es Y).map V.int)):=by rw[zm Dt,zp]
  generalize upd (upd (upd H t (.frz o (.dK (vv es)))) D (.lst ((ZZ es Y).map V.int))) t (.dK (vv es))=H1 at S1 e1
  have B1:=BK.fr fun b o h=>S1 _ _ h
  refine⟨_,rfl,D,_,rfl,.inl (zZ.of e1),rfl,_,rfl,yI (fun e=>⟨by decide,qe ?_ H1 S1⟩) (fun e=>?_)⟩
  ·rw[wu,CY] at e
   exact eu.mp (by omega)
  have ne:ZZ es Y≠[]:=fun z=>e (by rw[z];exact decide_eq_true rfl)
  obtain⟨m,hm,top⟩:=Pn ne
  obtain⟨en,he,em,pk⟩:=xi hm top
  have gd:uY H1 t (.int m) (some (.ref en.2.1)):=by
   rw[← em,← xF B1.nd he]
   exact uY.k (k:=Sum.inl en.1) B1.dic
  refine⟨_,rfl,B,C,dx,_,_,rfl,B1.ins,KC,nT,rfl,_,rfl,D,_,m,rfl,zZ.of e1,hm,top,t,_,rfl,gd,en.2.1,_,rfl,.inl (zZ.of (B1.row en he)),fun b b0=>?_⟩
  exact q m en.2.2 pk (B1.ok en he) b _ (S1.trans (zw.upd b0)) (S1.free b0) zp
theorem OZ {Cs:Nat→Addr} {C cN:Addr} {j:Nat} (hj:4≤j) (F:qQ K "rules" "RuleBook.rules" (zy (top 82) 3) f fd) (M1:qW P w K mg base (Xi P w) 4 C "rows" ["self","year"] (YF C cN)) (C1:qP P w K mg base zO j "rule_of" ["text"] (vM Cs)):zH P w K mg base (Xi P w) (j+1) f fd ["self","year"] (JB Cs C cN):=by
 have nc:(["row"]:List Str).Nodup:=by decide +kernel
 refine F.okE (N:=["self","year"]) (by walk_at"s") (fun vs H Q E h=>?_) (fun cdv A outer s H vs Q E hr h=>?_)
 ·obtain⟨B,dx,t,es,Y,rfl,_⟩:=h
  rfl
 ·obtain⟨B,dx,t,es,Y,rfl,BK,Y0,Y1,el,qe,q⟩:=h
  refine' ⟨_,zi (zu ?comp),?main⟩
  case comp =>
   refine' z8 (Nc:=["row"]) (cl:=[]) (src:=[none]) (wi:=vO K (Tu C "rows" (YF C cN) E (zM 0) (qi (zM 1) yn))) (g:=z4 0) (tt:=qK) (te:=fun σ H Q=>qi (zM 0) yn σ H fun vs H1=>vM Cs vs H1 Q E0)
    (by walk_at"c0") rfl (q9 (vY M1 hr hj GG (pv 0) (za (pv 1) zd))) ?hb
   case hb =>
    intro fp C' s' H'
    exact⟨zJ (i:=0) nc rfl (Or.inl rfl),qd,zj C1 hr (CZ _) zt (za (pv 0) zd)⟩
  try (walk_at"d5")
  refine⟨_,rfl,B,dx,_,rfl,BK.ins,rfl,_,rfl,B,dx,t,es,Y,rfl,BK,Y0,Y1,el,qe,fun m rs pk ok l H1 s1 n1 e1=>?_⟩
  have few:=ok.few
  refine⟨l,rfl,⟨_,zZ.of e1⟩,fun D hD=>kA (qX (zZ.of e1)) (Yy rs) hD (by rw[sizeLine_eq];omega) (fun H' u r=>wg Cs H' r u) (fun kp h=>h.keep kp) (fun i r hr' v H2 R s2 e2 k=>?_) (fun ys H2 s2 e2 M=>?_)⟩
  ·subst e2
   exact⟨_,rfl,r,rfl,ok.gd r (dZ hr'),fun o H3 s3 ro=>k o H3 s3 ro⟩
  ·exact q m rs pk ok D H2 (s1.trans s2) ⟨ys,e2,gf.items M fun H' s v r h=>h.same s⟩
theorem MX {Cs:Nat→Addr} {j:Nat} (F:qQ K "statement_by" "statement_by" (top 46) f fd) (C1:qP P w K mg base zO j "month_row" ["rules","bases"] (gZ K Cs)):zH P w K mg base zO (j+1) f fd ["rules","month","bases"] (GF K Cs):=by
 refine F.ok (N:=["rules","month","bases"]) (by walk_at"s") (fun vs H Q E h=>?_) (fun cdv A outer s H vs Q E hr h=>?_)
 ·obtain⟨l,b,rs,bs,M,rfl,_⟩:=h
  rfl
 ·obtain⟨l,b,rs,bs,M,rfl,ro,ok,hb,bl,q⟩:=h
  refine⟨_,zi (zu (zq Lh (ym (za (pv 1) zd)) (zj C1 hr (CZ _) zt (za (pv 0) (za (pv 2) zd))))),?_⟩
  refine⟨_,rfl,qv rfl,fun t1 H1 s1 n1 e1=>⟨_,rfl,_,rfl,l,b,rs,bs,rfl,ro.same s1,ok,s1.seq hb,bl,fun v H2 s2 rw'=>?_⟩⟩
  obtain⟨t2,u,rfl,h2,du⟩:=rw'
  refine⟨t1,t2,_,_,rfl,rfl,qh.of (s2 _ _ e1),qh.of h2,(fun z=>nomatch z),by rw[sizeLine_eq];show 1+3≤16777216;decide,(fun z=>nomatch z),fun _ t3 H3 s3 n3 e3=>?_⟩
  exact q _ H3 (s1.trans (s2.trans s3)) ⟨t3,u,rfl,e3,du.same s3⟩
theorem ME {Cs:Nat→Addr} {C cM cN:Addr} {j:Nat} (hj:4≤j) (F:qQ K "statement" "statement" (top 47) f fd) (M1:qW P w K mg base (Xi P w) j C "rules" ["self","year"] (JB Cs C cN)) (C1:qP P w K mg base (Xi P w) 4 "year_of" ["month"] (YD K cM)) (C2:qP P w K mg base zO j "statement_by" ["rules","month","bases"] (GF K Cs)):zH P w K mg base (Xi P w) (j+1) f fd ["book","month","bases"] (Vy K Cs C cM cN):=by
 refine F.okE (N:=["book","month","bases"]) (by walk_at"s") (fun vs H Q E h=>?_) (fun cdv A outer s H vs Q E hr h=>?_)
 ·obtain⟨B,dx,t,b,es,v,bs,rfl,_⟩:=h
  rfl
 ·obtain⟨B,dx,t,b,es,v,bs,rfl,BK,el,hb,bl,h⟩:=h
  refine⟨_,zi (zu (zj C2 hr (CZ _) zt (za (vY M1 hr (CZ _) GG (pv 0) (za (zj C1 hr hj GG (za (pv 1) zd)) zd)) (za (pv 1) (za (pv 2) zd))))),?_⟩
  rcases h with ⟨M,rfl,M0,M1',qe,q⟩ | ⟨nn,q⟩
  ·refine⟨_,rfl,B,dx,_,rfl,BK.ins,rfl,_,rfl,_,rfl,.inl ⟨M,rfl,M0,M1',B,dx,t,es,M/12,rfl,BK,by omega,by omega,el,qe,fun m rs pk ok l H1 s1 ro=>?_⟩⟩
   exact⟨_,rfl,_,rfl,l,b,rs,bs,M,rfl,ro,ok,s1.seq hb,bl,fun v H2 s2 st=>q m rs pk v H2 (s1.trans s2) st⟩
  ·exact⟨_,rfl,B,dx,_,rfl,BK.ins,rfl,_,rfl,_,rfl,.inr ⟨nn,q⟩⟩
theorem nP (F:qQ K "_law_mixed" "_law_mixed" (top 90) f fd):zH P w K mg base zO 1 f fd ["_law_cell","_law_k"] js:=by
 have nd:(["_law_cell","_law_k","_law_number"]:List Str).Nodup:=by decide +kernel
 refine F.ok (N:=["_law_cell","_law_k","_law_number"]) (by walk_at"s") (fun vs H Q E h=>?_) (fun cdv A outer s H vs Q E hr h=>?_)
 ·obtain⟨c,k,rfl,_⟩:=h
  rfl
 ·obtain⟨c,k,rfl,q⟩:=h
  refine⟨_,(zg (zF (i:=2) nd rfl (Or.inl rfl) (zq qc (zq zU (zq zU (zq qR (pv 0) ze) (zq qR ze (pv 1))) ze) ze))
    (zi (zu (zq qc (zq qR (zq qc (zq qR (pv 2) (pv 2)) ze) (pv 2)) ze)))),?_⟩
  refine⟨_,rfl,_,_,rfl,rfl,.inr ⟨by decide,by decide⟩,_,rfl,_,_,rfl,rfl,.inl ⟨by decide,by decide⟩,_,_,rfl,rfl,_,_,rfl,rfl,_,_,rfl,rfl,(by show (0:Int)<1000003;decide),?_⟩
  have b0:0≤(c*48271+7919*k+11)%1000003:=dM _ (by decide)
  have b1:(c*48271+7919*k+11)%1000003<1000003:=dU _ (by decide)
  dsimp only
  generalize (c*48271+7919*k+11)%1000003=m at b0 b1
  exact⟨_,rfl,_,rfl,_,_,rfl,rfl,.inr ⟨by omega,by omega⟩,_,_,rfl,rfl,(by show (0:Int)<1000003;decide),_,rfl,_,_,rfl,rfl,.inr ⟨by omega,by omega⟩,_,_,rfl,rfl,(by show (0:Int)<1000003;decide),q _ (dM _ (by decide)) (dU _ (by decide))⟩
theorem MK (F:qQ K "_law_amount" "_law_amount" (top 92) f fd) (C1:qP P w K mg base zO 1 "_law_mixed" ["_law_cell","_law_k"] js):zH P w K mg base zO 2 f fd ["_law_cell","_law_k"] Vz:=by
 have nd:(["_law_cell","_law_k","_law_number","_law_more","_law_wide"]:List Str).Nodup:=by decide +kernel
 refine F.ok (N:=["_law_cell","_law_k","_law_number","_law_more","_law_wide"]) (by walk_at"s") (fun vs H Q E h=>?_) (fun cdv A outer s H vs Q E hr h=>?_)
 ·obtain⟨c,k,rfl,_⟩:=h
  rfl
 ·obtain⟨c,k,rfl,q⟩:=h
  refine⟨_,(zg (zF (i:=2) nd rfl (Or.inl rfl) (zj C1 hr (by decide) zt (za (pv 0) (za (pv 1) zd))))
    (zg (zF (i:=3) nd rfl (Or.inl rfl) (zq qZ (pv 2) ze))
    (zg (zF (i:=4) nd rfl (Or.inl rfl) (zq zU (zq qR (pv 2) ze) (zj C1 hr (by decide) zt (za (pv 0) (za (zq zU (pv 1) ze) zd)))))
    (zi (zu (zz zG (qy (za ze (za (zq qc (pv 3) ze) (za (zq qc (pv 3) ze) (za (zq qR (zq qc (pv 3) ze) ze) (za (zq qR (pv 3) ze) (za (zq qc (pv 4) (zq zU (zq Xd ze ze) ze)) (za (zq Xd ze ze) zd)))))))) (zq qc (pv 2) ze))))))),?_⟩
  refine⟨_,rfl,_,rfl,c,k,rfl,fun m m0 m1=>⟨_,rfl,_,_,rfl,rfl,⟨by decide,by decide⟩,_,rfl,_,_,rfl,rfl,.inr ⟨by decide,by decide⟩,_,rfl,_,rfl,_,_,rfl,rfl,c,_,rfl,fun n n0 n1=>⟨_,_,rfl,rfl,?_⟩⟩⟩
  have d0:0≤m/7:=Int.ediv_nonneg m0 (by decide)
  have d1:m/7≤142858:=by omega
  dsimp only
  generalize m/7=e at d0 d1
  have e0:0≤e%19:=dM _ (by decide)
  have e1:e%19<19:=dU _ (by decide)
  have p12:(10:Int) ^ (12:Int).toNat=1000000000000:=by decide
  refine⟨_,rfl,_,_,rfl,rfl,(by show (0:Int)<30;decide),_,rfl,_,_,rfl,rfl,(by show (0:Int)<40000;decide),_,rfl,_,_,rfl,rfl,(by show (0:Int)<19;decide),_,_,rfl,rfl,.inr ⟨by decide,by decide⟩,_,rfl,_,_,rfl,rfl,.inr ⟨by decide,by decide⟩,_,rfl,_,_,rfl,rfl,⟨by decide,by decide,by decide⟩,_,_,rfl,rfl,_,_,rfl,rfl,?_,_,_,rfl,rfl,⟨by decide,by decide,by decide⟩,qv rfl,fun l H1 s1 n1' e1'=>?_⟩
  ·show (0:Int)<10 ^ (12:Int).toNat+1
   rw[p12]
   decide
  have w0:0≤(m*1000003+n)%(10 ^ (12:Int).toNat+1):=dM _ (by rw[p12];decide)
  have w1:(m*1000003+n)%(10 ^ (12:Int).toNat+1)<1000000000001:=by
   rw[p12]
   exact dU _ (by decide)
  obtain⟨v,ev,mv⟩:=uE (xs:=[V.int 0,.int (e%30),.int (e%40000),.int (e%19*5000),.int (e*50),.int ((m*1000003+n)%(10 ^ (12:Int).toNat+1)),.int (10 ^ (12:Int).toNat)]) (i:=m%7) (dM _ (by decide)) (dU _ (by decide))
  obtain⟨a,rfl,ha⟩:∃ a,v = .int a∧JM a:=by
   have f0:0≤e%30:=dM _ (by decide)
   have f1:e%30<30:=dU _ (by decide)
   have g0:0≤e%40000:=dM _ (by decide)
   have g1:e%40000<40000:=dU _ (by decide)
   generalize (m*1000003+n)%(10 ^ (12:Int).toNat+1)=x at w0 w1 mv
   rw[p12] at mv
   simp only[dc,dm,or_false] at mv
   rcases mv with rfl | rfl | rfl | rfl | rfl | rfl | rfl
   all_goals exact⟨_,rfl,by omega,by omega⟩
  exact⟨_,rfl,_,_,rfl,rfl,(by show (0:Int)<7;decide),l,_,_,_,rfl,rfl,zZ.of e1',ev,q a H1 ha s1⟩
theorem NY (F:qQ K "_law_parts" "_law_parts" (top 95) f fd) (C1:qP P w K mg base zO 1 "_law_mixed" ["_law_cell","_law_k"] js):zH P w K mg base zO 2 f fd ["_law_cell","_law_k"] Qd:=by
 have nd:(["_law_cell","_law_k","_law_number"]:List Str).Nodup:=by decide +kernel
 refine F.ok (N:=["_law_cell","_law_k","_law_number"]) (by walk_at"s") (fun vs H Q E h=>?_) (fun cdv A outer s H vs Q E hr h=>?_)
 ·obtain⟨c,k,rfl,_⟩:=h
  rfl
 ·obtain⟨c,k,rfl,q⟩:=h
  refine⟨_,(zg (zF (i:=2) nd rfl (Or.inl rfl) (zj C1 hr (by decide) zt (za (pv 0) (za (pv 1) zd))))
    (zi (zu (zz zG (qy (za ze (za ze (za ze (za ze (za ze (za ze (za ze (za ze (za (zq qc (zq qZ (pv 2) ze) ze) (za (zq qc (zq qZ (pv 2) ze) ze) zd))))))))))) (zq qc (pv 2) ze))))),?_⟩
  refine⟨_,rfl,_,rfl,c,k,rfl,fun m m0 m1=>⟨_,rfl,_,_,rfl,rfl,⟨by decide,by decide⟩,_,_,rfl,rfl,(by show (0:Int)<20001;decide),_,rfl,_,_,rfl,rfl,⟨by decide,by decide⟩,_,_,rfl,rfl,(by show (0:Int)<300;decide),qv rfl,fun l H1 s1 n1 e1=>?_⟩⟩
  obtain⟨v,ev,mv⟩:=uE (xs:=[V.int 0,.int 1,.int 5000,.int 2500,.int 10000,.int 20000,.int 19999,.int 625,.int (m/10%20001),.int (m/10%300)]) (i:=m%10) (dM _ (by decide)) (dU _ (by decide))
  obtain⟨a,rfl,ha⟩:∃ a,v = .int a∧YT a:=by
   simp only[dc,dm,or_false] at mv
   have f0:0≤m/10%20001:=dM _ (by decide)
   have f1:m/10%20001<20001:=dU _ (by decide)
   have g0:0≤m/10%300:=dM _ (by decide)
   have g1:m/10%300<300:=dU _ (by decide)
   rcases mv with rfl | rfl | rfl | rfl | rfl | rfl | rfl | rfl | rfl | rfl
   all_goals exact⟨_,rfl,by omega,by omega⟩
  exact⟨_,rfl,_,_,rfl,rfl,(by show (0:Int)<10;decide),l,_,_,_,rfl,rfl,zZ.of e1,ev,q a H1 ha s1⟩
theorem Nl (F:qQ K "_law_way" "_law_way" (top 96) f fd) (C1:qP P w K mg base zO 1 "_law_mixed" ["_law_cell","_law_k"] js):zH P w K mg base zO 2 f fd ["_law_cell","_law_k"] Ul:=by
 refine F.ok (N:=["_law_cell","_law_k"]) (by walk_at"s") (fun vs H Q E h=>?_) (fun cdv A outer s H vs Q E hr h=>?_)
 ·obtain⟨c,k,rfl,_⟩:=h
  rfl
 ·obtain⟨c,k,rfl,q⟩:=h
  refine⟨_,(zi (zu (zz zG (qy (za zC (za zC (za zC (za zC zd))))) (zq qc (zq qZ (zj C1 hr (by decide) zt (za (pv 0) (za (pv 1) zd))) ze) ze)))),?_⟩
  refine⟨qv rfl,fun l H1 s1 n1 e1=>⟨_,rfl,_,rfl,c,k,rfl,fun m m0 m1=>?_⟩⟩
  obtain⟨x,ev,hw⟩:=RB (i:=m/5%4) (dM _ (by decide)) (dU _ (by decide))
  exact⟨_,_,rfl,rfl,⟨by decide,by decide⟩,_,_,rfl,rfl,(by show (0:Int)<4;decide),l,_,_,_,rfl,rfl,zZ.of e1,ev,q x H1 hw s1⟩
theorem Nx (F:qQ K "_law_bases" "_law_bases" (top 93) f fd) (G:jP mg) (C1:qP P w K mg base zO 2 "_law_amount" ["_law_cell","_law_k"] Vz):zH P w K mg base zO 3 f fd ["_law_cell","_law_many"] Gk:=by
 have nd:(["_law_cell","_law_many","_law_found","_law_k","_law_amount_here"]:List Str).Nodup:=by decide +kernel
 refine F.ok (N:=["_law_cell","_law_many","_law_found","_law_k","_law_amount_here"]) (by walk_at"s") (fun vs H Q E h=>?_) (fun cdv A outer s H vs Q E hr h=>?_)
 ·obtain⟨c,n,rfl,_⟩:=h
  rfl
 ·obtain⟨c,n,rfl,nl,q⟩:=h
  refine⟨_,(zg (zF (i:=2) nd rfl (Or.inl rfl) (qy zd))
    (zg (jt PassesOwn.never rfl (yf rfl G.range (za (pv 1) zd)) (zJ (i:=3) nd rfl (Or.inl rfl)) (zg (zF (i:=4) nd rfl (Or.inl rfl) (zj C1 hr (by decide) zt (za (pv 0) (za (zq zU ze (pv 3)) zd))))
    (gE (zR (zE qC (zq qc (pv 0) ze) ze (zD _)) (zi (zF (i:=4) nd rfl (Or.inl rfl) (zq qc (pv 4) ze))) zA)
    (zi (qm (yH PySem.F.plainAttrs_list PySem.F.slot_list_append PySem.F.type_list_append jI (pv 2) (za (pv 4) zd)))))))
    (zi (zu (pv 2))))),?_⟩
  refine⟨qv rfl,fun l H1 s1 n1 e1=>⟨_,rfl,_,rfl,by omega,by omega,jG (fun i σ H'=>∃ x3 x4,∃ bs:List Int,bP (σ = [some (.int c),some (.int (n:Nat)),some (.ref l),x3,x4]) (zw H H') (H' l=some (.lst (bs.map V.int))) (bs.length=i∧pe bs)) ⟨_,_,[],rfl,s1,e1,rfl,fun b h=>nomatch h⟩ ?_ ?_⟩⟩
  ·rintro i σ H2 hi ⟨x3,x4,bs,rfl,s2,e2,bl,bn⟩ E2 k2
   rw[Dk] at hi
   refine⟨_,rfl,_,rfl,_,_,rfl,rfl,c,_,rfl,fun a H3 ha s3=>?_⟩
   refine Pd (fun σ H'=>∃ a,σ = [some (.int c),some (.int (n:Nat)),some (.ref l),some (.int (0+(i:Nat))),some (.int a)]∧0≤a∧H'=H3) (fun En kk=>?_) ?_
   ·refine⟨_,rfl,_,_,rfl,rfl,(by show (0:Int)<4;decide),rfl,_,rfl,yI (fun _=>?_) (fun _=>?_)⟩
    ·exact⟨_,rfl,_,_,rfl,rfl,(by show (0:Int)<9;decide),kk _ _ ⟨_,rfl,dM _ (by decide),rfl⟩⟩
    ·exact kk _ _ ⟨_,rfl,ha.1,rfl⟩
   ·rintro σ H4 ⟨a,rfl,a0,rfl⟩
    have e4:=s3 _ _ e2
    refine⟨_,rfl,.inl ⟨rfl,_,zZ.of e4⟩,_,rfl,l,_,_,rfl,rfl,e4,?_,?_⟩
    ·rw[CY,bl,sizeLine_eq]
     omega
    ·refine k2 _ _ ⟨_,_,bs++[a],rfl,fun b o hb=>?_,?_,?_,fun b hb=>?_⟩
     ·rw[zm (zB hb n1)]
      exact s3 _ _ (s2 _ _ hb)
     ·rw[zp,dz]
      rfl
     ·rw[dh,bl]
      rfl
     ·rcases dA.mp hb with hb | hb
      ·exact bn b hb
      ·rw[dI.mp hb]
       exact a0
  ·rintro σ H2 ⟨x3,x4,bs,rfl,s2,e2,bl,bn⟩
   rw[Dk] at bl
   exact⟨_,rfl,q bs l H2 bl bn s2 n1 e2⟩
theorem Ma (F:qQ K "_law_rounded" "_law_rounded" (top 100) f fd) (G:jP mg):zH P w K mg base zO 1 f fd ["_law_number","_law_way_here"] GN:=by
 have nd:(["_law_number","_law_way_here","_law_whole_here","_law_rest"]:List Str).Nodup:=by decide +kernel
 refine F.ok (N:=["_law_number","_law_way_here","_law_whole_here","_law_rest"]) (by walk_at"s") (fun vs H Q E h=>?_) (fun cdv A outer s H vs Q E hr h=>?_)
 ·obtain⟨c,k,rfl,_⟩:=h
  rfl
 ·obtain⟨z,x,rfl,z0,q⟩:=h
  refine⟨_,(zg (zF (i:=2) nd rfl (Or.inl rfl) (zq qZ (pv 0) ze))
    (zg (zF (i:=3) nd rfl (Or.inl rfl) (zq vn (pv 0) (zq qR (pv 2) ze)))
    (zg (zR (zE qC (pv 1) zC (zD _)) (zi (zu (pv 2))) zA)
    (zg (zR (zE qC (pv 1) zC (zD _)) (zi (zu (zq zU (pv 2) (z6 Zo rfl G.int vc (za (qJ jZ (pv 3) ze (zD _)) zd))))) zA)
    (zg (zR (zE qC (pv 1) zC (zD _)) (zi (zu (zq zU (pv 2) (z6 Zo rfl G.int vc (za (qJ bf (pv 3) ze (zD _)) zd))))) zA)
    (zi (zu (zq zU (pv 2) (z6 Zo rfl G.int vc (za (rM (qJ jZ (pv 3) ze (zD _)) (ja (yU (qJ qC (pv 3) ze (zD _)) (ja (qJ qC (zq qc (pv 2) ze) ze (zD _)))))) zd)))))))))),?_⟩
  rw[← N8 z0] at q
  unfold xr at q
  refine⟨_,rfl,_,_,rfl,rfl,⟨by decide,by decide⟩,_,rfl,_,rfl,_,_,rfl,rfl,.inr ⟨by decide,by decide⟩,_,_,rfl,rfl,?_⟩
  have er:z - z/10000*10000=z%10000:=by omega
  dsimp only
  rw[er]
  refine⟨_,rfl,rfl,_,rfl,yI (fun e=>?_) (fun e=>?_)⟩
  ·rw[ZW] at e
   rw[if_pos e] at q
   exact⟨_,rfl,q⟩
  rw[ZW] at e
  rw[if_neg e] at q
  refine⟨_,rfl,rfl,_,rfl,yI (fun e=>?_) (fun e=>?_)⟩
  ·rw[ZW] at e
   rw[if_pos e] at q
   refine⟨_,rfl,_,rfl,_,_,rfl,rfl,.inr ⟨_,rfl,_,_,rfl,rfl,?_⟩⟩
   simpa only [decide_eq_true_eq] using q
  rw[ZW] at e
  rw[if_neg e] at q
  refine⟨_,rfl,rfl,_,rfl,yI (fun e=>?_) (fun e=>?_)⟩
  ·rw[ZW] at e
   rw[if_pos e] at q
   refine⟨_,rfl,_,rfl,_,_,rfl,rfl,.inr ⟨_,rfl,_,_,rfl,rfl,?_⟩⟩
   simpa only [decide_eq_true_eq] using q
  rw[ZW] at e
  rw[if_neg e] at q
  refine⟨_,rfl,_,rfl,_,_,rfl,rfl,_,rfl,yI (fun e=>?_) (fun e=>?_)⟩
  ·have e:=of_decide_eq_true e
   rw[if_pos (.inl e)] at q
   exact .inr ⟨_,rfl,_,_,rfl,rfl,q⟩
  ·have e:¬ 5000<z%10000:=fun c=>e (decide_eq_true c)
   refine⟨_,rfl,rfl,_,rfl,yI (fun e2=>?_) (fun e2=>?_)⟩
   ·rw[wu] at e2
    refine⟨_,rfl,_,_,rfl,rfl,(by show (0:Int)<2;decide),rfl,.inr ⟨_,rfl,_,_,rfl,rfl,?_⟩⟩
    rw[Bp]
    by_cases e3:z/10000%2=1
    ·rw[if_pos (.inr ⟨e2,e3⟩)] at q
     rw[decide_eq_true e3,if_pos rfl]
     exact q
    ·rw[if_neg (by omega)] at q
     rw[decide_eq_false e3,if_neg dJ]
     exact q
   ·rw[wu] at e2
    rw[if_neg (by omega)] at q
    exact .inr ⟨_,rfl,_,_,rfl,rfl,q⟩
set_option maxHeartbeats 8000000 in
theorem nD (F:qQ K "_law_names" "_law_names" (top 94) f fd) (G:jP mg) (C1:qP P w K mg base zO 1 "_law_mixed" ["_law_cell","_law_k"] js):zH P w K mg base zO 2 f fd ["_law_cell","_law_many"] GK:=by
 have nd:(["_law_cell","_law_many","_law_letters","_law_some","_law_number","_law_frame","_law_at","_law_size","_law_signs","_law_words"]:List Str).Nodup:=by decide +kernel
 have nc6:(["_law_j","_law_some","_law_cell"]:List Str).Nodup:=by decide +kernel
 have nc4:(["_law_k","_law_letters","_law_number"]:List Str).Nodup:=by decide +kernel
 have nc3:(["_law_sign","_law_frame","_law_at","_law_size"]:List Str).Nodup:=by decide +kernel
 have nc2:(["_law_k","_law_frame"]:List Str).Nodup:=by decide +kernel
 have nc1:(["_law_k","_law_words","_law_number"]:List Str).Nodup:=by decide +kernel
 refine F.ok (N:=["_law_cell","_law_many","_law_letters","_law_some","_law_number","_law_frame","_law_at","_law_size","_law_signs","_law_words"]) (by walk_at"s") (fun vs H Q E h=>?_) (fun cdv A outer s H vs Q E hr h=>?_)
 ·obtain⟨c,n,rfl,_⟩:=h
  rfl
 ·obtain⟨c,n,rfl,n8,q⟩:=h
  refine' ⟨_,(zg (zF (i:=2) nd rfl (Or.inr rfl) zC)
    (zg (zF (i:=3) nd rfl (Or.inr rfl) zC)
    (zg (zF (i:=4) nd rfl (Or.inr rfl) (zj C1 hr (by decide) zt (za (pv 0) (za ze zd))))
    (zg (zF (i:=5) nd rfl (Or.inr rfl) (yH PySem.F.plainAttrs_str PySem.F.slot_str_join PySem.F.type_str_join yZ zC (za ?comp_6 zd)))
    (zg (zF (i:=6) nd rfl (Or.inr rfl) (zq qc (zq qZ (pv 4) ze) ze))
    (zg (zF (i:=7) nd rfl (Or.inr rfl) (zq zU (pv 6) (zq qc (zq qZ (pv 4) ze) (zq vn ze (pv 6)))))
    (zg (zR (zE qC (zq qc (pv 4) ze) ze (zD _)) (zg ?comp_4
    (zi (zu ?comp_3))) zA)
    (zg (zR (zE qC (zq qc (pv 4) ze) ze (zD _)) (zi (zu ?comp_2)) zA)
    (zg (zF (i:=9) nd rfl (Or.inr rfl) (qy (za zC (za zC (za zC (za zC (za zC (za zC (za zC (za zC (za zC (za zC zd))))))))))))
    (zi (zu ?comp_1))))))))))),?main⟩
  case comp_6 =>
   refine' z8 (Nc:=["_law_j","_law_some","_law_cell"]) (cl:=[("_law_some",s.heap.objs.size+3),("_law_cell",s.heap.objs.size+1)]) (src:=[none,some 3,some 0]) (wi:=Ys (qi (tC (.int 7)) yn)) (g:=z4 0) (tt:=qK) (te:=jC tM (zM 1) (jC (rI (fun _ j=>0<j) fun i j=>.int (i%j)) (fun σ H Q=>qi (zM 2) (qi (jC (YN fun i j=>.int (i+j)) (tC (.int 120)) (zM 0)) yn) σ H fun vs H1=>js vs H1 Q E0) (tC (.int 21))))
    (by walk_at"c2") rfl (yf rfl G.range (za ze zd)) ?hb
   case hb =>
    intro fp C' s' H'
    exact⟨zJ (i:=0) nc6 rfl (Or.inl rfl),qd,zz lR (pv 1) (zq qc (zj C1 hr (by decide) zt (za (pv 2) (za (zq zU ze (pv 0)) zd))) ze)⟩
  case comp_4 =>
   refine' we (i:=8) (Nc:=["_law_k","_law_letters","_law_number"]) (cl:=[("_law_number",s.heap.objs.size+4),("_law_letters",s.heap.objs.size+2)]) (src:=[none,some 2,some 4]) (wi:=Ys (qi (zM 1) yn)) (g:=z4 0) (tt:=qK) (te:=jC tM (zM 1) (jC (rI (fun _ j=>0<j) fun i j=>.int (i%j)) (jC (YN fun i j=>.int (i+j)) (jC (rI RD fun i j=>.int (i/j)) (zM 2) (tC (.int 200))) (jC (rI oF fun i j=>.int (i*j)) (tC (.int 3)) (zM 0))) (tC (.int 26)))) nd rfl rfl
    (by walk_at"c2") rfl (yf rfl G.range (za (pv 1) zd)) ?hb
   case hb =>
    intro fp C' s' H'
    exact⟨zJ (i:=0) nc4 rfl (Or.inl rfl),qd,zz lR (pv 1) (zq qc (zq zU (zq qZ (pv 2) ze) (zq qR ze (pv 0))) ze)⟩
  case comp_3 =>
   refine' z8 (Nc:=["_law_sign","_law_frame","_law_at","_law_size"]) (cl:=[("_law_size",s.heap.objs.size+7),("_law_frame",s.heap.objs.size+5),("_law_at",s.heap.objs.size+6)]) (src:=[none,some 5,some 6,some 7]) (wi:=vO K (zM 8)) (g:=z4 0) (tt:=qK) (te:=jC (fun x y H Q=>∃ i j:Str,x = .str i∧y = .str j∧i.length+j.length≤sizeLine∧Q (.str (i++j)) H) (jC (fun x y H Q=>∃ i j:Str,x = .str i∧y = .str j∧i.length+j.length≤sizeLine∧Q (.str (i++j)) H) (TB NR (zM 1) kP (QL (zM 2))) (zM 0)) (TB NR (zM 1) (QL (zM 2)) (QL (zM 3))))
    (by walk_at"c4") rfl (q9 (pv 8)) ?hb
   case hb =>
    intro fp C' s' H'
    exact⟨zJ (i:=0) nc3 rfl (Or.inl rfl),qd,zq qB (zq qB (yJ YE (pv 1) jO (yY (pv 2))) (pv 0)) (yJ YE (pv 1) (yY (pv 2)) (yY (pv 3)))⟩
  case comp_2 =>
   refine' z8 (Nc:=["_law_k","_law_frame"]) (cl:=[("_law_frame",s.heap.objs.size+5)]) (src:=[none,some 5]) (wi:=Ys (qi (zM 1) yn)) (g:=z4 0) (tt:=qK) (te:=TB NR (jC (fun x y H Q=>∃ i j:Str,x = .str i∧y = .str j∧i.length+j.length≤sizeLine∧Q (.str (i++j)) H) (tC (.str "q")) (zM 1)) kP (QL (jC (YN fun i j=>.int (i+j)) (tC (.int 1)) (zM 0))))
    (by walk_at"c1") rfl (yf rfl G.range (za (pv 1) zd)) ?hb
   case hb =>
    intro fp C' s' H'
    exact⟨zJ (i:=0) nc2 rfl (Or.inl rfl),qd,yJ YE (zq qB zC (pv 1)) jO (yY (zq zU ze (pv 0)))⟩
  case comp_1 =>
   refine' z8 (Nc:=["_law_k","_law_words","_law_number"]) (cl:=[("_law_words",s.heap.objs.size+8),("_law_number",s.heap.objs.size+4)]) (src:=[none,some 9,some 4]) (wi:=Ys (qi (zM 1) yn)) (g:=z4 0) (tt:=qK) (te:=jC (pB K) (zM 1) (jC (rI (fun _ j=>0<j) fun i j=>.int (i%j)) (jC (YN fun i j=>.int (i+j)) (jC (rI RD fun i j=>.int (i/j)) (zM 2) (tC (.int 3))) (zM 0)) (tC (.int 10))))
    (by walk_at"c2") rfl (yf rfl G.range (za (pv 1) zd)) ?hb
   case hb =>
    intro fp C' s' H'
    exact⟨zJ (i:=0) nc1 rfl (Or.inl rfl),qd,zz zG (pv 1) (zq qc (zq zU (zq qZ (pv 2) ze) (pv 0)) ze)⟩
  walk_at"d5"
  have rl:∀ m:Nat,((List.range m).map fun k=>V.int (0+((k:Nat):Int))).length=(List.range m).length:=fun m=>CY _
  refine⟨_,rfl,c,_,rfl,fun u u0 u1=>?_⟩
  refine⟨rfl,7,rfl,by decide,by decide,fun D hD=>?_⟩
  refine uD (vK (n:=7)) (rl 7) hD (by rw[d4,sizeLine_eq];decide) (fun v _=>∃ d,v = .str ⟨#[d]⟩∧ZX d=true) (fun i x v hx hv H1 R s1 r=>?_) (fun zs H1 s1 zl zr e1=>?_)
  ·rw[dj] at hv
   obtain⟨k,hk,rfl⟩:=dC.mp hv
   refine⟨_,rfl,_,rfl,_,rfl,_,_,rfl,rfl,c,_,rfl,fun m m0 m1=>?_⟩
   obtain⟨d,d1,d2⟩:=bT (i:=m%21) (dM _ (by decide)) (dU _ (by decide))
   exact⟨_,_,rfl,rfl,(by show (0:Int)<21;decide),_,_,d,rfl,rfl,Xf (m:=21) (by decide +kernel) rfl,d1,r _ _ ⟨d,rfl,d2⟩ (zw.refl _)⟩
  obtain⟨fs,rfl,fa⟩:=LM (Mu zr)
  have fl:fs.length=7:=by
   rw[CY,CY,d4] at zl
   exact zl
  have jo:=(yi (sep:="") (zs:=fs.map fun c=>(⟨#[c]⟩:Str)) (m:=1) (k:=7) (fun z hz=>by obtain⟨_,_,rfl⟩:=dk.mp hz;exact CZ _) (by rw[CY,fl];exact CZ _) (by decide +kernel) rfl).1
  refine⟨_,_,D,rfl,rfl,zZ.of e1,jo,?_⟩
  have zc:=X6 fs
  generalize Txt.join ("":Str) (fs.map fun c=>(⟨#[c]⟩:Str))=z at zc
  clear jo zl zr e1 hD
  have zl:z.length=7:=by rw[zY,zc,fl]
  have a0:0≤u/3%8:=dM _ (by decide)
  have a1:u/3%8<8:=dU _ (by decide)
  refine⟨_,rfl,_,_,rfl,rfl,⟨by decide,by decide⟩,_,_,rfl,rfl,(by show (0:Int)<8;decide),?_⟩
  dsimp only
  obtain⟨at',hat⟩:=Dy a0
  rw[hat] at a0 a1 ⊢
  have b0:0≤u/24%(8 - (at':Int)):=dM _ (by omega)
  have b1:u/24%(8 - (at':Int))<8 - (at':Int):=dU _ (by omega)
  refine⟨_,rfl,_,rfl,_,_,rfl,rfl,⟨by decide,by decide⟩,_,rfl,_,_,rfl,rfl,_,_,rfl,rfl,(by show (0:Int)<8 - (at':Int);omega),_,_,rfl,rfl,?_⟩
  dsimp only
  obtain⟨sz,hsz⟩:∃ sz:Nat,(at':Int)+u/24%(8 - (at':Int))=sz:=⟨(at':Int).toNat+(u/24%(8 - (at':Int))).toNat,by omega⟩
  have sz1:at'≤sz:=by omega
  have sz2:sz≤7:=by omega
  rw[hsz]
  clear hsz b0 b1 hat a0
  refine⟨_,rfl,_,_,rfl,rfl,(by show (0:Int)<3;decide),rfl,_,rfl,yI (fun _=>?_) (fun _=>?_)⟩
  ·refine⟨_,rfl,_,rfl,by omega,by omega,fun D hD=>?_⟩
   rw[Dk]
   refine uD (vK (n:=n)) (rl n) hD (by rw[d4,sizeLine_eq];omega) (fun v k=>v = .str ⟨#[97+((u/200+3*(k:Nat))%26).toNat]⟩) (fun i x v hx hv H2 R s2 r=>?_) (fun zs H2 s2 zsl zr e2=>?_)
   ·rw[dj,hx] at hv
    cases hv
    have d1:=Xs (i:=(u/200+3*(0+(x:Int)))%26) (dM _ (by decide)) (dU _ (by decide))
    exact⟨_,rfl,_,rfl,_,_,rfl,rfl,⟨by decide,by decide⟩,_,rfl,_,_,rfl,rfl,.inl ⟨by decide,by decide⟩,_,_,rfl,rfl,_,_,rfl,rfl,(by show (0:Int)<26;decide),_,_,_,rfl,rfl,UQ,d1,r _ _ (by rw[DD]) (zw.refl _)⟩
   rw[d4] at zsl
   refine⟨_,rfl,D,rfl,⟨_,zZ.of e2⟩,fun D3 hD3=>?_⟩
   refine uD (xs:=List.range n) (qX (zZ.of e2)) (by rw[zsl,d4]) hD3 (by rw[d4,sizeLine_eq];omega) (fun v k=>∃ y,v = .str y∧yh y∧y.cps.toList[at']? = some (97+((u/200+3*(k:Nat))%26).toNat)) (fun i x v hx hv H3 R s3 r=>?_) (fun ws H3 s3 wl wr e3=>?_)
   ·obtain⟨x',hx',rfl⟩:=zr i v hv
    rw[hx] at hx'
    cases hx'
    obtain⟨d,hde⟩:∃ d,d=97+((u/200+3*(x:Nat))%26).toNat:=⟨_,rfl⟩
    have hd:xl d=true:=by
     have h0:0≤(u/200+3*(x:Nat))%26:=dM _ (by decide)
     have h1:(u/200+3*(x:Nat))%26<26:=dU _ (by decide)
     unfold xl
     rw[dY]
     exact⟨decide_eq_true (by omega),decide_eq_true (by omega)⟩
    rw[← hde] at r ⊢
    have zf:z.length≤sizeLine:=Xf (m:=7) (by omega) rfl
    have sl:∀ lo hi,(Txt.slice z lo hi).length≤7:=fun lo hi=>dG (Txt.slice_le z lo hi) (by omega)
    have o1:(⟨#[d]⟩:Str).length≤1:=CZ _
    refine⟨_,rfl,_,rfl,_,rfl,_,rfl,zf,_,rfl,_,_,rfl,rfl,bE (sl _ _) o1 rfl,_,rfl,_,rfl,_,rfl,_,rfl,_,rfl,_,rfl,zf,_,_,rfl,rfl,bE (Tp (sl _ _) o1) (sl _ _) rfl,r _ _ ⟨_,rfl,G1 fa fl hd sz1 sz2 ?_,?_⟩ (zw.refl _)⟩
    ·rw[qT,qT,kQ,Md _ _ _ (by rw[zc,fl];exact sz2) sz1,zc]
    ·rw[qT,qT,kQ,zc]
     have tl:(fs.take at').length=at':=by rw[dP];omega
     rw[d8,dS (by rw[tl];exact CZ _),tl,Ei]
     rfl
   obtain⟨nms,rfl,hn,ht⟩:=QM wr
   rw[CY,d4] at wl
   refine q nms D3 H3 wl hn (YM ht fun i j z hi hj h1 h2=>?_) (s1.trans (s2.trans s3)) (s1.free (s2.free hD3)) e3
   rw[wl] at hi hj
   rw[h1] at h2
   have h2:=Option.some.inj h2
   have a0:0≤(u/200+3*(i:Nat))%26:=dM _ (by decide)
   have a1:0≤(u/200+3*(j:Nat))%26:=dM _ (by decide)
   omega
  refine⟨_,rfl,_,_,rfl,rfl,(by show (0:Int)<3;decide),rfl,_,rfl,yI (fun _=>?_) (fun _=>?_)⟩
  ·refine⟨_,rfl,_,rfl,by omega,by omega,fun D hD=>?_⟩
   rw[Dk]
   refine uD (vK (n:=n)) (rl n) hD (by rw[d4,sizeLine_eq];omega) (fun v k=>∃ y,v = .str y∧yh y∧y.cps.toList.length=min (k+1) 8) (fun i k v hx hv H2 R s2 r=>?_) (fun zs H2 s2 zsl zr e2=>?_)
   ·rw[dj,hx] at hv
    cases hv
    have q1:("q":Str).length=1:=by decide +kernel
    refine⟨_,rfl,_,_,rfl,rfl,Xf (m:=8) (by rw[q1,zl];decide) rfl,_,rfl,_,_,rfl,rfl,_,rfl,_,rfl,Xf (m:=8) (by rw[kc,q1,zl];decide) rfl,r _ _ ⟨_,rfl,Me (k:=k) fa fl ?_,?_⟩ (zw.refl _)⟩
    ·rw[show (1:Int)+(0+(k:Int))=((k+1:Nat):Int) by omega,kQ,qT,zc,show ("q":Str).cps.toList=[113] by decide +kernel]
     rfl
    ·rw[show (1:Int)+(0+(k:Int))=((k+1:Nat):Int) by omega,kQ,qT,zc,show ("q":Str).cps.toList=[113] by decide +kernel,dP]
     show min (k+1) (fs.length+1)=_
     rw[fl]
   obtain⟨nms,rfl,hn,ht⟩:=QM zr
   rw[CY,d4] at zsl
   refine q nms D H2 zsl hn (YM ht fun i j z hi hj h1 h2=>?_) (s1.trans s2) (s1.free hD) e2
   omega
  refine⟨qv rfl,fun lw H2 s2 n2 e2=>?_⟩
  refine⟨_,rfl,_,rfl,by omega,by omega,fun D hD=>?_⟩
  rw[Dk]
  refine uD (vK (n:=n)) (rl n) hD (by rw[d4,sizeLine_eq];omega) (fun v k=>∃ y,v = .str y∧yh y∧okNames[((u/3+(k:Nat))%10).toNat]? = some y) (fun i k v hx hv H3 R s3 r=>?_) (fun zs H3 s3 zsl zr e3=>?_)
  ·rw[dj,hx] at hv
   cases hv
   have i0:0≤(u/3+(0+(k:Int)))%10:=dM _ (by decide)
   have i1:(u/3+(0+(k:Int)))%10<10:=dU _ (by decide)
   obtain⟨y,hy⟩:∃ y,okNames[((u/3+(0+(k:Int)))%10).toNat]? = some y:=⟨_,de (show _<10 by omega)⟩
   have ev:atI (okNames.map V.str) ((u/3+(0+(k:Int)))%10)=some (.str y):=Xb i0 (by rw[dj,hy];rfl)
   have hm:=dZ hy
   exact⟨_,rfl,_,rfl,_,_,rfl,rfl,⟨by decide,by decide⟩,_,rfl,_,_,rfl,rfl,_,_,rfl,rfl,(by show (0:Int)<10;decide),lw,_,_,_,rfl,rfl,zZ.of (s3 _ _ e2),ev,r _ _ ⟨y,rfl,xQ y hm,by rw[DD] at hy;exact hy⟩ (zw.refl _)⟩
  obtain⟨nms,rfl,hn,ht⟩:=QM zr
  rw[CY,d4] at zsl
  refine q nms D H3 zsl hn (YM ht fun i j z hi hj h1 h2=>?_) (s1.trans (s2.trans s3)) (s1.free (s2.free hD)) e3
  rw[zsl] at hi hj
  have e:=RI h1 h2
  have a0:0≤(u/3+(i:Nat))%10:=dM _ (by decide)
  have a1:0≤(u/3+(j:Nat))%10:=dM _ (by decide)
  omega
set_option maxHeartbeats 4000000 in
theorem m9 (F:qQ K "_law_pairs" "_law_pairs" (top 97) f fd) (G:jP mg) (C1:qP P w K mg base zO 1 "_law_mixed" ["_law_cell","_law_k"] js) (C2:qP P w K mg base zO 2 "_law_parts" ["_law_cell","_law_k"] Qd):zH P w K mg base zO 3 f fd ["_law_cell"] Gb:=by
 have nd:(["_law_cell","_law_number","_law_pairs_here","_law_k","_law_more","_law_step"]:List Str).Nodup:=by decide +kernel
 refine F.ok (N:=["_law_cell","_law_number","_law_pairs_here","_law_k","_law_more","_law_step"]) (by walk_at"s") (fun vs H Q E h=>?_) (fun cdv A outer s H vs Q E hr h=>?_)
 ·obtain⟨c,rfl,_⟩:=h
  rfl
 ·obtain⟨c,rfl,q⟩:=h
  refine⟨_,(zg (zF (i:=1) nd rfl (Or.inl rfl) (zj C1 hr (by decide) zt (za (pv 0) (za ze zd))))
    (zg (zF (i:=2) nd rfl (Or.inl rfl) (qy (za (ym (za ze (za (zj C2 hr (by decide) zt (za (pv 0) (za ze zd))) zd))) zd)))
    (zg (jt PassesOwn.never rfl (yf rfl G.range (za (zz zG (qy (za ze (za ze (za ze (za ze (za ze (za (zq qc (zq qZ (pv 1) ze) ze) zd))))))) (zq qc (pv 1) ze)) zd)) (zJ (i:=3) nd rfl (Or.inl rfl)) (zg (zF (i:=4) nd rfl (Or.inl rfl) (zj C1 hr (by decide) zt (za (pv 0) (za (zq zU ze (pv 3)) zd))))
    (zg (zF (i:=5) nd rfl (Or.inl rfl) (zz zG (qy (za ze (za (zq zU ze (zq qc (zq qZ (pv 4) ze) ze)) (za (zq qR (pv 4) ze) (za (zq zU (zq qR (zq qc (zq qZ (pv 4) ze) ze) ze) ze) (za (zq zU ze (zq qR (zq qZ (pv 4) ze) ze)) zd)))))) (zq qc (pv 4) ze)))
    (zi (zR (zE WH (zq zU (zz zK (zz zG (pv 2) (QT wQ ze)) ze) (pv 5)) (zq Xd ze ze) (zD _)) (zi (qm (yH PySem.F.plainAttrs_list PySem.F.slot_list_append PySem.F.type_list_append jI (pv 2) (za (ym (za (zq zU (zz zK (zz zG (pv 2) (QT wQ ze)) ze) (pv 5)) (za (zj C2 hr (by decide) zt (za (pv 0) (za (zq zU ze (pv 3)) zd))) zd))) zd)))) zA)))))
    (zi (zu (z6 yX rfl G.tuple yq (za (pv 2) zd))))))),?_⟩
  refine⟨_,rfl,c,_,rfl,fun m m0 m1=>⟨_,rfl,c,_,rfl,fun p H1 hp s1=>⟨qv rfl,fun t H2 s2 n2 e2=>⟨qv rfl,fun l H3 s3 n3 e3=>?_⟩⟩⟩⟩
  have T3:z5 H3 [V.ref t] ([((0:Int),p)].map cB):=z5.snoc z5.nil (s3 _ _ e2)
  have S3:=s1.trans (s2.trans s3)
  have l0:H l=none:=uC (s1.trans s2) n3
  refine⟨_,rfl,_,_,rfl,rfl,⟨by decide,by decide⟩,_,_,rfl,rfl,(by show (0:Int)<12;decide),qv rfl,fun g H4 s4 n4 e4=>?_⟩
  obtain⟨v,ev,mv⟩:=uE (xs:=[V.int 0,.int 1,.int 2,.int 3,.int 11,.int (m/30%12)]) (i:=m%6) (dM _ (by decide)) (dU _ (by decide))
  obtain⟨n,rfl,h0,h1⟩:∃ n,v = .int n∧0≤n∧n≤11:=by
   simp only[dc,dm,or_false] at mv
   rcases mv with rfl | rfl | rfl | rfl | rfl | rfl
   all_goals exact⟨_,rfl,by omega,by omega⟩
  refine⟨_,rfl,_,_,rfl,rfl,(by show (0:Int)<6;decide),g,_,_,_,rfl,rfl,zZ.of e4,ev,n,rfl,by omega,by omega,jG (fun i σ H'=>∃ x3 x4 x5,∃ ps ys,bP (σ = [some (.int c),some (.int m),some (.ref l),x3,x4,x5]) (zw H H') (H' l=some (.lst ys)∧z5 H' ys (ps.map cB)) (oJ ps i)) ⟨_,_,_,_,_,rfl,S3.trans s4,⟨s4 _ _ e3,T3.same s4⟩,.one hp⟩ ?_ ?_⟩
  ·rintro i σ H5 hi ⟨x3,x4,x5,ps,ys,rfl,s5,⟨e5,T5⟩,bi⟩ E5 k5
   refine⟨_,rfl,_,rfl,_,_,rfl,rfl,c,_,rfl,fun a a0 a1=>?_⟩
   refine⟨_,rfl,_,_,rfl,rfl,⟨by decide,by decide⟩,_,_,rfl,rfl,(by show (0:Int)<20;decide),_,_,rfl,rfl,_,rfl,_,_,rfl,rfl,.inr ⟨by decide,by decide⟩,_,rfl,_,_,rfl,rfl,⟨by decide,by decide⟩,_,_,rfl,rfl,(by show (0:Int)<9;decide),_,_,rfl,rfl,.inr ⟨by decide,by decide⟩,_,_,rfl,rfl,_,rfl,_,_,rfl,rfl,⟨by decide,by decide⟩,_,_,rfl,rfl,.inr ⟨by decide,by decide⟩,_,_,rfl,rfl,qv rfl,fun g6 H6 s6 n6 e6=>?_⟩
   obtain⟨v6,ev6,mv6⟩:=rb (a:=V.int 1) (b:=.int (2+a/5%20)) (c:=.int (a*30)) (d:=.int (a/5%9*5000+1)) (e:=.int (1+a/5*200000)) (i:=a%5) (dM _ (by decide)) (dU _ (by decide))
   obtain⟨st,rfl,st1⟩:∃ st,v6 = .int st∧1≤st:=by
    rcases mv6 with ⟨h,rfl⟩ | ⟨h,rfl⟩ | ⟨h,rfl⟩ | ⟨h,rfl⟩ | ⟨h,rfl⟩
    all_goals exact⟨_,rfl,by omega⟩
   obtain⟨qs,z,rfl⟩:=bi.last
   have T6:=T5.same s6
   have e6':=s6 _ _ e5
   obtain⟨b,eb,hb⟩:=LK T6
   refine⟨_,rfl,_,_,rfl,rfl,(by show (0:Int)<5;decide),g6,_,_,_,rfl,rfl,zZ.of e6,ev6,?_⟩
   have p12:(10:Int) ^ (12:Int).toNat=1000000000000:=by decide
   refine⟨_,rfl,_,rfl,l,_,_,_,rfl,rfl,zZ.of e6',eb,b,_,_,_,rfl,rfl,qh.of hb,rfl,_,rfl,_,_,rfl,rfl,_,_,rfl,rfl,⟨by decide,by decide,by decide⟩,_,_,rfl,rfl,_,rfl,yI (fun e=>?_) (fun e=>?_)⟩
   ·have e:=of_decide_eq_true e
    rw[p12] at e
    refine⟨_,rfl,.inl ⟨rfl,_,zZ.of e6'⟩,_,rfl,_,rfl,l,_,_,_,rfl,rfl,zZ.of e6',eb,b,_,_,_,rfl,rfl,qh.of hb,rfl,_,rfl,_,_,rfl,rfl,_,rfl,_,rfl,_,_,rfl,rfl,c,_,rfl,fun p2 H7 hp2 s7=>⟨qv rfl,fun t2 H8 s8 n8 e8=>?_⟩⟩
    have e8l:=s8 _ _ (s7 _ _ e6')
    have fw:=bi.few
    refine⟨l,_,_,rfl,rfl,e8l,?_,?_⟩
    ·rw[T5.len,CY,sizeLine_eq]
     have:i<n.toNat:=hi
     omega
    ·refine k5 _ _ ⟨_,_,_,qs++[z]++[(z.1+st,p2)],_,rfl,fun x o hx=>?_,⟨zp,?_⟩,bi.snoc st1 e hp2⟩
     ·rw[zm (zB hx l0)]
      exact s8 _ _ (s7 _ _ (s6 _ _ (s5 _ _ hx)))
     ·rw[dz]
      exact Wq ((T6.same s7)) (s7 _ _ e6') s8 e8
   ·exact k5 _ _ ⟨_,_,_,_,_,rfl,s5.trans s6,⟨e6',T6⟩,bi.mono⟩
  ·rintro σ H5 ⟨x3,x4,x5,ps,ys,rfl,s5,⟨e5,T5⟩,bi⟩
   refine⟨_,rfl,l,_,rfl,.inl ⟨zZ.of e5,fun u u0=>?_⟩⟩
   have su:zw H5 (upd H5 u (.tup ys)):=zw.upd u0
   exact q u ps _ (bi.done (by omega)) (s5.trans su) ⟨ys,zp,T5.same su⟩
theorem m6 (F:qQ K "_law_plain" "_law_plain" (top 98) f fd) (C1:qP P w K mg base zO 2 "_law_amount" ["_law_cell","_law_k"] Vz) (C2:qP P w K mg base zO 2 "_law_parts" ["_law_cell","_law_k"] Qd) (C3:qP P w K mg base zO 2 "_law_way" ["_law_cell","_law_k"] Ul) (C4:qP P w K mg base zO 3 "_law_pairs" ["_law_cell"] Gb):zH P w K mg base zO 4 f fd ["_law_cell","_law_name","_law_kind"] Ge:=by
 refine F.ok (N:=["_law_cell","_law_name","_law_kind"]) (by walk_at"s") (fun vs H Q E h=>?_) (fun cdv A outer s H vs Q E hr h=>?_)
 ·obtain⟨c,z,k,rfl,_⟩:=h
  rfl
 ·obtain⟨c,z,k,rfl,hz,k0,k4,q⟩:=h
  refine⟨_,(zg (zR (zE qC (pv 2) ze (zD _)) (zi (zu (ym (za zC (za (pv 1) (za (zj C1 hr (by decide) zt (za (pv 0) (za ze zd))) zd)))))) zA)
    (zg (zR (zE qC (pv 2) ze (zD _)) (zi (zu (ym (za zC (za (pv 1) (za (zj C2 hr (by decide) zt (za (pv 0) (za ze zd))) (za (zj C3 hr (by decide) zt (za (pv 0) (za ze zd))) zd))))))) zA)
    (zg (zR (zE qC (pv 2) ze (zD _)) (zi (zu (ym (za zC (za (pv 1) (za (zj C2 hr (by decide) zt (za (pv 0) (za ze zd))) (za (zj C1 hr (by decide) zt (za (pv 0) (za ze zd))) (za (zj C3 hr (by decide) zt (za (pv 0) (za ze zd))) zd)))))))) zA)
    (zg (zR (zE qC (pv 2) ze (zD _)) (zi (zu (ym (za zC (za (pv 1) (za (zj C2 hr (by decide) zt (za (pv 0) (za ze zd))) (za (zj C1 hr (by decide) zt (za (pv 0) (za ze zd))) (za (zj C3 hr (by decide) zt (za (pv 0) (za ze zd))) zd)))))))) zA)
    (zi (zu (ym (za zC (za (pv 1) (za (zj C4 hr (by decide) zt (za (pv 0) zd)) (za (zj C3 hr (by decide) zt (za (pv 0) (za ze zd))) zd))))))))))),?_⟩
  refine⟨_,rfl,rfl,_,rfl,yI (fun e=>?_) (fun e=>?_)⟩
  ·rw[wu] at e
   exact⟨_,rfl,_,rfl,c,_,rfl,fun a H1 ha s1=>⟨qv rfl,fun t H2 s2 n2 e2=>q _ (.flat z a) H2 (.pln (.flat hz ha)) rfl e.symm (s1.trans s2) (.pln (dX rfl) ⟨t,rfl,e2⟩)⟩⟩
  rw[wu] at e
  refine⟨_,rfl,rfl,_,rfl,yI (fun e1=>?_) (fun e1=>?_)⟩
  ·rw[wu] at e1
   exact⟨_,rfl,_,rfl,c,_,rfl,fun p H1 hp s1=>⟨_,rfl,c,_,rfl,fun w H2 hw s2=>⟨qv rfl,fun t H3 s3 n3 e3=>q _ (.share z p w) H3 (.pln (.share hz hp hw)) rfl e1.symm (s1.trans (s2.trans s3)) (.pln (dX rfl) ⟨t,rfl,e3⟩)⟩⟩⟩
  rw[wu] at e1
  refine⟨_,rfl,rfl,_,rfl,yI (fun e2=>?_) (fun e2=>?_)⟩
  ·rw[wu] at e2
   exact⟨_,rfl,_,rfl,c,_,rfl,fun p H1 hp s1=>⟨_,rfl,c,_,rfl,fun a H2 ha s2=>⟨_,rfl,c,_,rfl,fun w H3 hw s3=>⟨qv rfl,fun t H4 s4 n4 e4=>q _ (.capped z p a w) H4 (.pln (.capped hz hp ha hw)) rfl e2.symm (s1.trans (s2.trans (s3.trans s4))) (.pln (dX rfl) ⟨t,rfl,e4⟩)⟩⟩⟩⟩
  rw[wu] at e2
  refine⟨_,rfl,rfl,_,rfl,yI (fun e3=>?_) (fun e3=>?_)⟩
  ·rw[wu] at e3
   exact⟨_,rfl,_,rfl,c,_,rfl,fun p H1 hp s1=>⟨_,rfl,c,_,rfl,fun a H2 ha s2=>⟨_,rfl,c,_,rfl,fun w H3 hw s3=>⟨qv rfl,fun t H4 s4 n4 e4=>q _ (.least z p a w) H4 (.pln (.least hz hp ha hw)) rfl e3.symm (s1.trans (s2.trans (s3.trans s4))) (.pln (dX rfl) ⟨t,rfl,e4⟩)⟩⟩⟩⟩
  rw[wu] at e3
  exact⟨_,rfl,_,rfl,c,rfl,fun u ps H1 hok s1 bd=>⟨_,rfl,c,_,rfl,fun w H2 hw s2=>⟨qv rfl,fun t H3 s3 n3 e3'=>q _ (.bands z ps w) H3 (.bands hz hok hw) rfl (by show (4:Int)=k;omega) (s1.trans (s2.trans s3)) (.bands e3' ((bd.same s2).same s3))⟩⟩⟩
set_option maxHeartbeats 4000000 in
theorem nE (F:qQ K "_law_pieces" "_law_pieces" (top 101) f fd) (G:jP mg):zH P w K mg base zO 1 f fd ["_law_pairs_here","_law_total"] Gu:=by
 have nd:(["_law_pairs_here","_law_total","_law_found","_law_k","_law_end"]:List Str).Nodup:=by decide +kernel
 refine F.ok (N:=["_law_pairs_here","_law_total","_law_found","_law_k","_law_end"]) (by walk_at"s") (fun vs H Q E h=>?_) (fun cdv A outer s H vs Q E hr h=>?_)
 ·obtain⟨u,ps,t,rfl,_⟩:=h
  rfl
 ·obtain⟨u,ps,t,rfl,⟨ys,hu,T⟩,ok,q⟩:=h
  refine⟨_,(zg (zF (i:=2) nd rfl (Or.inl rfl) (qy zd))
    (zg (jt PassesOwn.never rfl (yf rfl G.range (za (zx zQ rfl G.len boot_len (za (pv 0) zd)) zd)) (zJ (i:=3) nd rfl (Or.inl rfl)) (zg (zF (i:=4) nd rfl (Or.inl rfl) (pv 1))
    (gE (zR (zE Yh (zq zU (pv 3) ze) (zx zQ rfl G.len boot_len (za (pv 0) zd)) (zD _)) (zi (zF (i:=4) nd rfl (Or.inl rfl) (zx (Zh rfl) rfl G.min PyProof.Rows.boot_min (za (pv 1) (za (zz zK (zz zK (pv 0) (zq zU (pv 3) ze)) ze) zd))))) zA)
    (zi (qm (yH PySem.F.plainAttrs_list PySem.F.slot_list_append PySem.F.type_list_append jI (pv 2) (za (zx (Zk rfl) rfl G.max PyProof.Rows.boot_max (za ze (za (zq vn (pv 4) (zz zK (zz zK (pv 0) (pv 3)) ze)) zd))) zd)))))))
    (zi (zu (pv 2))))),?_⟩
  have few:=ok.few
  have yl:ys.length=ps.length:=by rw[T.len,CY]
  refine⟨qv rfl,fun l H1 s1 n1 e1=>⟨_,rfl,u,_,rfl,.inr (qh.of (s1 _ _ hu)),_,rfl,by rw[yl];omega,by rw[yl];omega,?_⟩⟩
  rw[yl,Dk]
  refine jG (fun i σ H'=>∃ x3 x4,bP (σ = [some (.ref u),some (.int t),some (.ref l),x3,x4]) (zw H H') (H' l=some (.lst (((mU ps t).take i).map V.int))) True) ⟨_,_,rfl,s1,e1,trivial⟩ ?_ ?_
  ·rintro i σ H2 hi ⟨x3,x4,rfl,s2,e2,_⟩ E2 k2
   have hq:=de hi
   have hu2:=s2 _ _ hu
   have T2:=T.same s2
   have z0:(0:Int)+(i:Nat)=(i:Nat):=DD _
   rw[z0]
   refine⟨_,rfl,?_⟩
   refine Pd (fun σ H'=>σ = [some (.ref u),some (.int t),some (.ref l),some (.int (i:Nat)),some (.int (oO (ps.drop (i+1)) t))]∧H'=H2) (fun En kk=>?_) ?_
   ·refine⟨_,rfl,_,_,rfl,rfl,_,rfl,u,_,rfl,.inr (qh.of hu2),_,_,rfl,rfl,_,rfl,yI (fun e=>?_) (fun e=>?_)⟩
    ·have e:=of_decide_eq_true e
     rw[yl] at e
     have hi1:i+1<ps.length:=by omega
     have hq1:=de hi1
     obtain⟨b,eb,hb⟩:=VG T2 hq1
     refine⟨_,rfl,_,rfl,_,rfl,_,_,rfl,rfl,u,_,_,_,rfl,rfl,qh.of hu2,q8 (j:=i+1) eb,b,_,_,_,rfl,rfl,qh.of hb,rfl,_,_,rfl,kk _ _ ⟨?_,rfl⟩⟩
     rw[W8,hq1]
     rfl
    ·have e:¬ ((i:Nat):Int)+1<(ys.length:Nat):=fun c=>e (decide_eq_true c)
     rw[yl] at e
     refine kk _ _ ⟨?_,rfl⟩
     rw[W8,Dn (by omega)]
     rfl
   ·rintro σ H3 ⟨rfl,rfl⟩
    obtain⟨b,eb,hb⟩:=VG T2 hq
    refine⟨_,rfl,.inl ⟨rfl,_,zZ.of e2⟩,_,rfl,_,rfl,_,rfl,u,_,_,_,rfl,rfl,qh.of hu2,q8 eb,b,_,_,_,rfl,rfl,qh.of hb,rfl,_,_,rfl,rfl,_,_,rfl,l,_,_,rfl,rfl,e2,?_,?_⟩
    ·rw[CY,dP,VA,sizeLine_eq]
     omega
    ·refine k2 _ _ ⟨_,_,rfl,fun x o hx=>?_,?_,trivial⟩
     ·rw[zm (zB hx n1)]
      exact s2 _ _ hx
     ·rw[zp,LV hq,dz]
      rfl
  ·rintro σ H2 ⟨x3,x4,rfl,s2,e2,_⟩
   rw[← VA ps t,Dj] at e2
   exact⟨_,rfl,q l H2 s2 n1 e2⟩
theorem L4 {j:Nat}:zH P w K mg base zO j f fd ["_law_rule_here","_law_bases_here"] (kU K 0):=⟨fun _ _ _ _ h=>h.elim,fun _ _ _ _ _ _ _ _ _ _ _ _ _ h=>h.elim⟩
set_option maxHeartbeats 8000000 in
theorem Qp {d k:Nat} (F:qQ K "_law_until" "_law_until" (top 102) f fd) (G:jP mg) (C1:qP P w K mg base zO 1 "_law_rounded" ["_law_number","_law_way_here"] GN) (C2:qP P w K mg base zO 1 "_law_pieces" ["_law_pairs_here","_law_total"] Gu) (C3:qP P w K mg base zO (k+1) "_law_until" ["_law_rule_here","_law_bases_here"] (kU K d)):zH P w K mg base zO (k+2) f fd ["_law_rule_here","_law_bases_here"] (kU K (d+1)):=by
 have nd:(["_law_rule_here","_law_bases_here","_law_total","_law_months","_law_pieces_here","_law_parts_here"]:List Str).Nodup:=by decide +kernel
 have nc:(["_law_base"]:List Str).Nodup:=by decide +kernel
 have np:(["_law_pair"]:List Str).Nodup:=by decide +kernel
 have nk:(["_law_k","_law_parts_here","_law_pieces_here"]:List Str).Nodup:=by decide +kernel
 refine F.ok (N:=["_law_rule_here","_law_bases_here","_law_total","_law_months","_law_pieces_here","_law_parts_here"]) (by walk_at"s") (fun vs H Q E h=>?_) (fun cdv A outer s H vs Q E hr h=>?_)
 ·obtain⟨v,r,b,bs,rfl,_⟩:=h
  rfl
 ·obtain⟨v,r,b,bs,rfl,rt,gd,hb,bl,bn,q⟩:=h
  have k1:1≤k+1:=fu 1 k
  refine' ⟨_,(zg (zF (i:=2) nd rfl (Or.inl rfl) (zx (yB rfl) rfl G.sum yW (za (pv 1) zd)))
    (zg (zF (i:=3) nd rfl (Or.inl rfl) (zx zQ rfl G.len boot_len (za ?comp_3 zd)))
    (zg (zR (zE qC (zz zK (pv 0) ze) zC (zD _)) (zi (zu (zq qR (zz zK (pv 0) ze) (pv 3)))) zA)
    (zg (zR (zE qC (zz zK (pv 0) ze) zC (zD _)) (zi (zu (zj C1 hr k1 zt (za (zq qR (pv 2) (zz zK (pv 0) ze)) (za (zz zK (pv 0) ze) zd))))) zA)
    (zg (zR (zE qC (zz zK (pv 0) ze) zC (zD _)) (zi (zu (zj C1 hr k1 zt (za (zq qR (zx (Zh rfl) rfl G.min PyProof.Rows.boot_min (za (pv 2) (za (zz zK (pv 0) ze) zd))) (zz zK (pv 0) ze)) (za (zz zK (pv 0) ze) zd))))) zA)
    (zg (zR (zE qC (zz zK (pv 0) ze) zC (zD _)) (zi (zu (zx (Zk rfl) rfl G.max PyProof.Rows.boot_max (za (zj C1 hr k1 zt (za (zq qR (pv 2) (zz zK (pv 0) ze)) (za (zz zK (pv 0) ze) zd))) (za (zq qR (zz zK (pv 0) ze) (pv 3)) zd))))) zA)
    (zg (zR (zE qC (zz zK (pv 0) ze) zC (zD _)) (zg (zF (i:=4) nd rfl (Or.inr rfl) (zj C2 hr k1 zt (za (zz zK (pv 0) ze) (za (pv 2) zd))))
    (zg (zF (i:=5) nd rfl (Or.inr rfl) ?comp_2)
    (zi (zu (zj C1 hr k1 zt (za (zx (yB rfl) rfl G.sum yW (za ?comp_1 zd)) (za (zz zK (pv 0) ze) zd))))))) zA)
    (zi (zu (zj C1 hr k1 zt (za (zq qR (zj C3 hr (CZ _) zt (za (zz zK (pv 0) ze) (za (pv 1) zd))) (zz zK (pv 0) ze)) (za (zz zK (pv 0) ze) zd)))))))))))),?main⟩
  case comp_3 =>
   refine' z8 (Nc:=["_law_base"]) (cl:=[]) (src:=[none]) (wi:=vO K (zM 1)) (g:=z4 0) (tt:=Wc (jC (YN fun i j=>.bl (decide (j<i))) (zM 0) (tC (.int 0)))) (te:=zM 0)
    (by walk_at"c0") rfl (q9 (pv 1)) ?hb
   case hb =>
    intro fp C' s' H'
    exact⟨zJ (i:=0) nc rfl (Or.inl rfl),Qi (zE jZ (pv 0) ze (zD _)),pv 0⟩
  case comp_2 =>
   refine' z8 (Nc:=["_law_pair"]) (cl:=[]) (src:=[none]) (wi:=Yv K (jC (wL K) (zM 0) (tC (.int 2)))) (g:=z4 0) (tt:=qK) (te:=jC (wL K) (zM 0) (tC (.int 1)))
    (by walk_at"c0") rfl (vq (zz zK (pv 0) ze)) ?hb
   case hb =>
    intro fp C' s' H'
    exact⟨zJ (i:=0) np rfl (Or.inl rfl),qd,zz zK (pv 0) ze⟩
  case comp_1 =>
   refine' z8 (Nc:=["_law_k","_law_parts_here","_law_pieces_here"]) (cl:=[("_law_pieces_here",s.heap.objs.size+1),("_law_parts_here",s.heap.objs.size+2)]) (src:=[none,some 5,some 4]) (wi:=Ys (qi (NC (bD K) (qi (zM 5) yn)) yn)) (g:=z4 0) (tt:=qK) (te:=jC (rI oF fun i j=>.int (i*j)) (jC (pB K) (zM 1) (zM 0)) (jC (pB K) (zM 2) (zM 0)))
    (by walk_at"c2") rfl (yf rfl G.range (za (zx zQ rfl G.len boot_len (za (pv 5) zd)) zd)) ?hb
   case hb =>
    intro fp C' s' H'
    exact⟨zJ (i:=0) nk rfl (Or.inl rfl),qd,zq qR (zz zG (pv 1) (pv 0)) (zz zG (pv 2) (pv 0))⟩
  have sn:=lI bn
  walk_at"d5"
  refine⟨_,rfl,b,bs,rfl,hb,_,rfl,b,rfl,⟨_,hb⟩,fun D hD=>Wa (qX hb) (Jv bs) hD (by rw[sizeLine_eq];omega) (fun i=>decide (0<i)) V.int (fun i hi v H1 R s1 e1 r=>?_) (fun i hi v H1 R s1 e1 r=>?_) (fun H1 s1 e1=>?_)⟩
  ·subst e1
   exact⟨_,rfl,_,_,rfl,rfl,_,rfl,r _ (zw.refl _)⟩
  ·subst e1
   exact⟨_,rfl,r _ (zw.refl _)⟩
  ·refine⟨D,_,rfl,.inl (zZ.of e1),?_⟩
   rw[CY]
   have rt:=rt.same s1
   cases gd with
   | pln pl =>
    rw[uL pl] at q
    have q:=q H1 s1
    cases pl with
    | flat hn ha =>
     cases rt with
     | pln _ ra =>
      obtain⟨t,rfl,ht⟩:=ra
      have a0:=ha.1
      have a1:=ha.2
      exact⟨_,rfl,t,_,_,_,rfl,rfl,qh.of ht,rfl,rfl,_,rfl,uj ⟨_,rfl,t,_,_,_,rfl,rfl,qh.of ht,rfl,_,rfl,_,_,rfl,rfl,.inl ⟨by omega,by omega⟩,q⟩⟩
    | share hn hp hw =>
     cases rt with
     | pln _ ra =>
      obtain⟨t,rfl,ht⟩:=ra
      have p0:=hp.1
      have p1:=hp.2
      exact⟨_,rfl,t,_,_,_,rfl,rfl,qh.of ht,rfl,rfl,_,rfl,yj bQ ⟨_,rfl,t,_,_,_,rfl,rfl,qh.of ht,rfl,rfl,_,rfl,uj ⟨_,rfl,_,rfl,t,_,_,_,rfl,rfl,qh.of ht,rfl,_,_,rfl,rfl,.inr ⟨by omega,by omega⟩,_,rfl,t,_,_,_,rfl,rfl,qh.of ht,rfl,_,_,rfl,Dq sn p0,q⟩⟩⟩
    | capped hn hp ha hw =>
     cases rt with
     | pln _ ra =>
      obtain⟨t,rfl,ht⟩:=ra
      have p0:=hp.1
      have p1:=hp.2
      have a0:=ha.1
      refine⟨_,rfl,t,_,_,_,rfl,rfl,qh.of ht,rfl,rfl,_,rfl,yj Bw ⟨_,rfl,t,_,_,_,rfl,rfl,qh.of ht,rfl,rfl,_,rfl,yj Bi ⟨_,rfl,t,_,_,_,rfl,rfl,qh.of ht,rfl,rfl,_,rfl,uj ⟨_,rfl,_,rfl,t,_,_,_,rfl,rfl,qh.of ht,rfl,_,_,rfl,_,rfl,t,_,_,_,rfl,rfl,qh.of ht,rfl,_,_,rfl,rfl,.inr ⟨by omega,by omega⟩,_,rfl,t,_,_,_,rfl,rfl,qh.of ht,rfl,_,_,rfl,Dq ?_ p0,q⟩⟩⟩⟩
      split
      ·exact a0
      ·exact sn
    | least hn hp ha hw =>
     cases rt with
     | pln _ ra =>
      obtain⟨t,rfl,ht⟩:=ra
      have p0:=hp.1
      have p1:=hp.2
      have a0:=ha.1
      have a1:=ha.2
      exact⟨_,rfl,t,_,_,_,rfl,rfl,qh.of ht,rfl,rfl,_,rfl,yj b4 ⟨_,rfl,t,_,_,_,rfl,rfl,qh.of ht,rfl,rfl,_,rfl,yj bq ⟨_,rfl,t,_,_,_,rfl,rfl,qh.of ht,rfl,rfl,_,rfl,yj Bq ⟨_,rfl,t,_,_,_,rfl,rfl,qh.of ht,rfl,rfl,_,rfl,uj ⟨_,rfl,_,rfl,t,_,_,_,rfl,rfl,qh.of ht,rfl,_,_,rfl,rfl,.inr ⟨by omega,by omega⟩,_,rfl,t,_,_,_,rfl,rfl,qh.of ht,rfl,_,_,rfl,Dq sn p0,_,rfl,t,_,_,_,rfl,rfl,qh.of ht,rfl,_,rfl,_,_,rfl,rfl,.inl ⟨by omega,by omega⟩,_,_,rfl,q⟩⟩⟩⟩⟩
   | @bands _ n x ps hn ok hw =>
    cases rt with
    | pln kk _=>exact absurd kk (by show ¬ (4:Nat)<4;decide)
    | @bands _ _ _ t u ht bd =>
     have few:=ok.few
     refine⟨_,rfl,t,_,_,_,rfl,rfl,qh.of ht,rfl,rfl,_,rfl,yj bO ⟨_,rfl,t,_,_,_,rfl,rfl,qh.of ht,rfl,rfl,_,rfl,yj b7 ⟨_,rfl,t,_,_,_,rfl,rfl,qh.of ht,rfl,rfl,_,rfl,yj TC ⟨_,rfl,t,_,_,_,rfl,rfl,qh.of ht,rfl,rfl,_,rfl,yj Br ⟨_,rfl,t,_,_,_,rfl,rfl,qh.of ht,rfl,rfl,_,rfl,uj ?_⟩⟩⟩⟩⟩
     refine⟨_,rfl,t,_,_,_,rfl,rfl,qh.of ht,rfl,_,rfl,u,ps,_,rfl,bd,ok,fun l H2 s2 n2 e2=>?_⟩
     have ht2:=s2 _ _ ht
     obtain⟨ys,hu,T⟩:=bd.same s2
     refine⟨_,rfl,t,_,_,_,rfl,rfl,qh.of ht2,rfl,u,rfl,⟨_,qh.of hu⟩,fun D2 hD2=>y9 (jk (qh.of hu)) (j9 T) hD2 (by rw[sizeLine_eq];omega) (fun p=>V.int p.2) (fun p hp v H3 R s3 e3 r=>?_) (fun H3 s3 e3=>?_)⟩
     ·obtain⟨a,rfl,ha⟩:=e3
      exact⟨_,rfl,a,_,_,_,rfl,rfl,qh.of ha,rfl,r H3 (zw.refl _)⟩
     have e3':H3 D2=some (.lst ((ps.map (·.2)).map V.int)):=by rw[e3,dB];rfl
     have e2':=s3 _ _ e2
     have l3:(ps.map (fun p=>V.int p.2)).length=ps.length:=CY _
     refine⟨_,rfl,D2,_,rfl,.inl (zZ.of e3'),_,rfl,by rw[CY,CY];omega,by rw[CY,CY];omega,?_⟩
     rw[CY,CY,Dk]
     refine fun D3 hD3=>y9 vK (Js ps.length) hD3 (by rw[d4,sizeLine_eq];omega) (fun j=>V.int ((ps.map (·.2)).getD j 0*(mU ps bs.sum).getD j 0)) (fun j hj v H4 R s4 e4 r=>?_) (fun H4 s4 e4=>?_)
     ·subst e4
      have hj:=DI.mp hj
      have hp:=(ok.ok _ (DM hj)).2
      have eg:(ps.map (·.2)).getD j 0=ps[j].2:=by rw[Df,dj,de hj];rfl
      have h0:=hp.1
      have h1:=hp.2
      exact⟨_,rfl,_,rfl,D2,_,_,_,rfl,rfl,zZ.of (s4 _ _ e3'),mF (by rw[CY];exact hj),_,rfl,_,rfl,l,_,_,_,rfl,rfl,zZ.of (s4 _ _ e2'),mF (by rw[VA];exact hj),_,_,rfl,rfl,.inl ⟨by rw[eg];omega,by rw[eg];omega⟩,r H4 (zw.refl _)⟩
     ·have e4':H4 D3=some (.lst (((List.range ps.length).map fun j=>(ps.map (·.2)).getD j 0*(mU ps bs.sum).getD j 0).map V.int)):=by rw[e4,dB];rfl
      refine⟨D3,_,rfl,zZ.of e4',_,rfl,t,_,_,_,rfl,rfl,qh.of (s4 _ _ (s3 _ _ ht2)),rfl,?_⟩
      rw[PX]
      exact⟨_,_,rfl,rQ (fun p hp=>(ok.ok p hp).2.1) _,q H4 (s1.trans (s2.trans (s3.trans s4)))⟩
   | @ontop d n x p r' hn hp hw gd =>
    cases rt with
    | pln kk _=>exact absurd kk (by show ¬ (5:Nat)<4;decide)
    | @ontop _ _ _ _ t y ht rti =>
     have p0:=hp.1
     have p1:=hp.2
     refine⟨_,rfl,t,_,_,_,rfl,rfl,qh.of ht,rfl,rfl,_,rfl,yj cQ ⟨_,rfl,t,_,_,_,rfl,rfl,qh.of ht,rfl,rfl,_,rfl,yj cT ⟨_,rfl,t,_,_,_,rfl,rfl,qh.of ht,rfl,rfl,_,rfl,yj BP ⟨_,rfl,t,_,_,_,rfl,rfl,qh.of ht,rfl,rfl,_,rfl,yj cV ⟨_,rfl,t,_,_,_,rfl,rfl,qh.of ht,rfl,rfl,_,rfl,yj bS ?_⟩⟩⟩⟩⟩
     refine⟨_,rfl,t,_,_,_,rfl,rfl,qh.of ht,rfl,_,rfl,_,r',b,bs,rfl,rti,gd,s1.seq hb,bl,bn,fun H2 s2=>?_⟩
     have ht2:=s2 _ _ ht
     exact⟨_,rfl,t,_,_,_,rfl,rfl,qh.of ht2,rfl,_,_,rfl,rfl,.inr ⟨by omega,by omega⟩,_,rfl,t,_,_,_,rfl,rfl,qh.of ht2,rfl,_,_,rfl,Dq (nX gd bn) p0,q H2 (s1.trans s2)⟩
theorem MI {d k:Nat} (F:qQ K "_law_of_month" "_law_of_month" (top 103) f fd) (C1:qP P w K mg base zO k "_law_until" ["_law_rule_here","_law_bases_here"] (kU K (d+1))):zH P w K mg base zO (k+1) f fd ["_law_rule_here","_law_bases_here"] (Vt K d):=by
 refine F.ok (N:=["_law_rule_here","_law_bases_here"]) (by walk_at"s") (fun vs H Q E h=>?_) (fun cdv A outer s H vs Q E hr h=>?_)
 ·obtain⟨v,r,b,bs,rfl,_⟩:=h
  rfl
 ·obtain⟨v,r,b,bs,rfl,rt,pl,hb,bl,bn,q⟩:=h
  have hu:=hr.units0
  refine⟨_,(zg (zR (zE (P7 hu) (pv 1) (qy zd) (zD _)) (zi (zu ze)) zA)
    (zi (zu (zq vn (zj C1 hr (CZ _) zt (za (pv 0) (za (pv 1) zd))) (zj C1 hr (CZ _) zt (za (pv 0) (za (yJ wa (pv 1) jO (yY (QT wQ ze))) zd))))))),?_⟩
  refine⟨_,rfl,qv rfl,fun l H1 s1 n1 e1=>⟨b,l,_,rfl,rfl,s1.seq hb,zZ.of e1,fun eN=>⟨true,rfl,jS ?_⟩,fun nN=>⟨false,rfl,qY ?_⟩⟩⟩
  ·have e0:bs=[]:=List.map_eq_nil_iff.mp eN
   subst e0
   have e2:wx r []=0:=Int.sub_self _
   have q:=q H1 s1
   rw[e2] at q
   exact q
  ·refine⟨_,rfl,_,rfl,v,r,b,bs,rfl,rt.same s1,pl,s1.seq hb,bl,bn,fun H2 s2=>?_⟩
   have s12:=s1.trans s2
   refine⟨_,rfl,_,rfl,_,rfl,_,rfl,b,_,rfl,s12.seq hb,fun p p0=>?_⟩
   have s3:zw H2 (upd H2 p (.lst (vm (bs.map V.int) none (some (-1))))):=zw.upd p0
   exact⟨v,r,p,dl bs,rfl,(rt.same s12).same s3,pl,zZ.of (by rw[← La];exact zp),dG (Pb bs) bl,fun b hb=>bn b (r8 hb),fun H3 s4=>⟨_,_,rfl,rfl,q H3 (s12.trans (s3.trans s4))⟩⟩
theorem Ll {j:Nat}:zH P w K mg base zO j f fd ["_law_rule_here"] (kE 0):=⟨fun _ _ _ _ h=>h.elim,fun _ _ _ _ _ _ _ _ _ _ _ _ _ h=>h.elim⟩
set_option maxHeartbeats 8000000 in
theorem Qq {d k:Nat} (F:qQ K "_law_row" "_law_row" (top 104) f fd) (G:jP mg) (hd:d≤10) (C:qP P w K mg base zO k "_law_row" ["_law_rule_here"] (kE d)):zH P w K mg base zO (k+1) f fd ["_law_rule_here"] (kE (d+1)):=by
 have nd:(["_law_rule_here","_law_told","_law_head"]:List Str).Nodup:=by decide +kernel
 have nc:(["_law_part"]:List Str).Nodup:=by decide +kernel
 have np:(["_law_pair"]:List Str).Nodup:=by decide +kernel
 refine F.ok (N:=["_law_rule_here","_law_told","_law_head"]) (by walk_at"s") (fun vs H Q E h=>?_) (fun cdv A outer s H vs Q E hr h=>?_)
 ·obtain⟨v,r,rfl,_⟩:=h
  rfl
 ·obtain⟨v,r,rfl,rt,gd,q⟩:=h
  refine' ⟨_,(zg (zR (zE qC (zz zK (pv 0) ze) zC (zD _)) (zg (zF (i:=1) nd rfl (Or.inl rfl) (yH PySem.F.plainAttrs_str PySem.F.slot_str_join PySem.F.type_str_join yZ zC (za ?comp_4 zd)))
    (zi (zu (zq qB (zq qB (zq qB (zq qB (zq qB zC (zz zK (pv 0) ze)) zC) (pv 1)) zC) (zz zK (pv 0) ze))))) zA)
    (zg (zR (zE qC (zz zK (pv 0) ze) zC (zD _)) (zg (zF (i:=2) nd rfl (Or.inl rfl) (yH PySem.F.plainAttrs_str PySem.F.slot_str_join PySem.F.type_str_join yZ zC (za (qy (za (zz zK (pv 0) ze) (za (zz zK (pv 0) ze) (za (z6 qo rfl G.str qL (za (zz zK (pv 0) ze) zd)) (za (zz zK (pv 0) ze) zd))))) zd)))
    (zi (zu (zq qB (zq qB (pv 2) zC) (zj C hr (CZ _) zt (za (zz zK (pv 0) ze) zd)))))) zA)
    (zi (zu (yH PySem.F.plainAttrs_str PySem.F.slot_str_join PySem.F.type_str_join yZ zC (za ?comp_2 zd)))))),?main⟩
  case comp_4 =>
   refine' z8 (Nc:=["_law_pair"]) (cl:=[]) (src:=[none]) (wi:=Yv K (jC (wL K) (zM 0) (tC (.int 2)))) (g:=z4 0) (tt:=qK) (te:=jC GJ (jC GJ (NC gO (qi (jC (wL K) (zM 0) (tC (.int 0))) yn)) (tC (.str ":"))) (NC gO (qi (jC (wL K) (zM 0) (tC (.int 1))) yn)))
    (by walk_at"c0") rfl (vq (zz zK (pv 0) ze)) ?hb
   case hb =>
    intro fp C' s' H'
    exact⟨zJ (i:=0) np rfl (Or.inl rfl),qd,zq qB (zq qB (z6 qo rfl G.str qL (za (zz zK (pv 0) ze) zd)) zC) (z6 qo rfl G.str qL (za (zz zK (pv 0) ze) zd))⟩
  case comp_2 =>
   refine' z8 (Nc:=["_law_part"]) (cl:=[]) (src:=[none]) (wi:=Yv K (zM 0)) (g:=z4 0) (tt:=qK) (te:=NC (fun xs H Q=>(∃ i,xs=[.int i]∧i.natAbs.log2<1920∧Q (.str (toString i)) H)∨∃ z,xs=[.str z]∧Q (.str z) H) (qi (zM 0) yn))
    (by walk_at"c0") rfl (vq (pv 0)) ?hb
   case hb =>
    intro fp C' s' H'
    exact⟨zJ (i:=0) nc rfl (Or.inl rfl),qd,z6 GT rfl G.str qL (za (pv 0) zd)⟩
  walk_at"d5"
  cases gd with
  | pln pl =>
   rw[QY pl] at q
   obtain⟨z,l,el,zb,zo,ll⟩:=pX pl
   have jo:=QR pl
   have pk:=OP pl
   obtain⟨t,rfl,ht⟩:lJ H v r:=by
    cases rt with
    | pln _ ra=>exact ra
    | bands=>cases pl
    | ontop=>cases pl
   have h0:atI (vp r) ((0:Nat):Int)=some (.str z):=q8 (by rw[el];rfl)
   refine⟨_,rfl,t,_,_,_,rfl,rfl,qh.of ht,h0,rfl,_,rfl,yj zb ⟨_,rfl,t,_,_,_,rfl,rfl,qh.of ht,h0,rfl,_,rfl,yj zo ⟨rfl,_,rfl,t,rfl,⟨_,qh.of ht⟩,fun D hD=>y9 (jk (qh.of ht)) (Xv (vp r)) hD (by rw[el,dW,sizeLine_eq];omega) (fun x=>.str (Jm x)) (fun x hx v H1 R s1 e1 k=>?_) (fun H1 s1 e1=>?_)⟩⟩⟩
   ·subst e1
    rcases pk v hx with ⟨i,rfl,hi⟩ | ⟨y,rfl⟩
    ·exact⟨_,rfl,.inl ⟨i,rfl,hi,k _ (zw.refl _)⟩⟩
    ·exact⟨_,rfl,.inr ⟨y,rfl,k _ (zw.refl _)⟩⟩
   ·exact⟨_,(vp r).map Jm,D,rfl,rfl,zZ.of (by rw[dB];exact e1),jo,q H1 s1⟩
  | @bands _ n x ps hn ok hw =>
   cases rt with
   | pln kk _=>exact absurd kk (by show ¬ (4:Nat)<4;decide)
   | @bands _ _ _ t u ht bd =>
    obtain⟨ys,hu,T⟩:=bd
    have few:=ok.few
    refine⟨_,rfl,t,_,_,_,rfl,rfl,qh.of ht,rfl,rfl,_,rfl,uj ⟨rfl,_,rfl,t,_,_,_,rfl,rfl,qh.of ht,rfl,u,rfl,⟨_,qh.of hu⟩,fun D hD=>y9 (jk (qh.of hu)) (j9 T) hD (by rw[sizeLine_eq];omega) (fun p=>.str (yw p)) (fun p hp v H1 R s1 e1 r=>?_) (fun H1 s1 e1=>?_)⟩⟩
    ·obtain⟨a,rfl,ha⟩:=e1
     have hb:=ok.ok p hp
     have l1:=uV hb.1
     have l2:=vJ hb.2
     have l3:((toString p.1:Str) ++ ":").length=(toString p.1:Str).length+1:=Str.length_append ..
     exact⟨_,rfl,a,_,_,_,rfl,rfl,qh.of ha,rfl,_,rfl,ZK hb.1,_,_,rfl,rfl,by rw[sizeLine_eq];show (toString p.1:Str).length+1≤_;omega,_,rfl,a,_,_,_,rfl,rfl,qh.of ha,rfl,_,rfl,wB hb.2,_,_,rfl,rfl,by rw[l3,sizeLine_eq];omega,r H1 (zw.refl _)⟩
    ·have jb:=vo ok
     have ht1:=s1 _ _ ht
     have h1:=hn.ok.hi
     have h2:=jb.2
     have h3:=wc hw
     have w6:("bands ":Str).length=6:=by decide +kernel
     have w1:(" ":Str).length=1:=by decide +kernel
     have q:=q H1 s1
     refine⟨_,ps.map yw,D,rfl,rfl,zZ.of (by rw[e1,dB];rfl),jb.1,?_⟩
     refine⟨_,rfl,t,_,_,_,rfl,rfl,qh.of ht1,rfl,_,_,rfl,rfl,by rw[w6,sizeLine_eq];omega,_,_,rfl,rfl,by rw[Str.length_append,w6,w1,sizeLine_eq];omega,_,rfl,_,_,rfl,rfl,by rw[Str.length_append,Str.length_append,w6,w1,sizeLine_eq];show _+(j7 ps).length≤_;omega,_,_,rfl,rfl,by rw[Str.length_append,Str.length_append,Str.length_append,w6,w1,sizeLine_eq];show _+(j7 ps).length+1≤_;omega,_,rfl,t,_,_,_,rfl,rfl,qh.of ht1,rfl,_,_,rfl,rfl,by rw[Str.length_append,Str.length_append,Str.length_append,Str.length_append,w6,w1,sizeLine_eq];show _+(j7 ps).length+1+_≤_;omega,?_⟩
     have e:=Wk n (j7 ps) x
     unfold j7 at e
     rw[e]
     exact q
  | @ontop d n x p r' hn hp hw gd =>
   cases rt with
   | pln kk _=>exact absurd kk (by show ¬ (5:Nat)<4;decide)
   | @ontop _ _ _ _ t y ht rti =>
    have h1:=hn.ok.hi
    have h2:=vJ hp
    have h3:=wc hw
    have h4:=km gd
    have jh:=yi (sep:=" ") (zs:=["ontop",n,toString p,x]) (m:=8) (k:=4) (fun z hz=>by
     simp only[dc,dm,or_false] at hz
     rcases hz with rfl | rfl | rfl | rfl
     ·decide +kernel
     ·omega
     ·omega
     ·omega) (CZ _) (by decide +kernel) rfl
    have h5:=jh.2
    have w4:(" of ":Str).length=4:=by decide +kernel
    refine⟨_,rfl,t,_,_,_,rfl,rfl,qh.of ht,rfl,rfl,_,rfl,yj bS ⟨_,rfl,t,_,_,_,rfl,rfl,qh.of ht,rfl,rfl,_,rfl,uj ?_⟩⟩
    refine⟨rfl,_,rfl,t,_,_,_,rfl,rfl,qh.of ht,rfl,_,rfl,t,_,_,_,rfl,rfl,qh.of ht,rfl,_,rfl,t,_,_,_,rfl,rfl,qh.of ht,rfl,_,rfl,wB hp,_,rfl,t,_,_,_,rfl,rfl,qh.of ht,rfl,qv rfl,fun l H1 s1 n1 e1=>⟨_,["ontop",n,toString p,x],l,rfl,rfl,zZ.of e1,jh.1,?_⟩⟩
    refine⟨_,rfl,_,_,rfl,rfl,by rw[w4,sizeLine_eq];omega,_,rfl,t,_,_,_,rfl,rfl,qh.of (s1 _ _ ht),rfl,_,r',rfl,rti.same s1,gd,fun H2 s2=>⟨_,_,rfl,rfl,by rw[Str.length_append,w4,sizeLine_eq];omega,?_⟩⟩
    rw[Yu]
    exact q H2 (s1.trans s2)
theorem PP (F:qQ K "_law_rule" "_law_rule" (top 99) f fd) (G:jP mg) (C1:qP P w K mg base zO 1 "_law_mixed" ["_law_cell","_law_k"] js) (C2:qP P w K mg base zO 4 "_law_plain" ["_law_cell","_law_name","_law_kind"] Ge) (C3:qP P w K mg base zO 2 "_law_parts" ["_law_cell","_law_k"] Qd) (C4:qP P w K mg base zO 2 "_law_way" ["_law_cell","_law_k"] Ul):zH P w K mg base zO 5 f fd ["_law_cell","_law_name"] Qx:=by
 have nd:(["_law_cell","_law_name","_law_number","_law_found","_law_k"]:List Str).Nodup:=by decide +kernel
 refine F.ok (N:=["_law_cell","_law_name","_law_number","_law_found","_law_k"]) (by walk_at"s") (fun vs H Q E h=>?_) (fun cdv A outer s H vs Q E hr h=>?_)
 ·obtain⟨c,z,rfl,_⟩:=h
  rfl
 ·obtain⟨c,z,rfl,hz,q⟩:=h
  refine⟨_,(zg (zF (i:=2) nd rfl (Or.inl rfl) (zj C1 hr (by decide) zt (za (pv 0) (za ze zd))))
    (zg (zF (i:=3) nd rfl (Or.inl rfl) (zj C2 hr (by decide) zt (za (pv 0) (za (pv 1) (za (zq qc (pv 2) ze) zd)))))
    (zg (jt PassesOwn.never rfl (yf rfl G.range (za (zz zG (qy (za ze (za ze (za ze (za ze (za ze (za ze zd))))))) (zq qc (zq qZ (pv 2) ze) ze)) zd)) (zJ (i:=4) nd rfl (Or.inl rfl)) (zi (zF (i:=3) nd rfl (Or.inl rfl) (ym (za zC (za (pv 1) (za (zj C3 hr (by decide) zt (za (pv 0) (za (zq zU ze (pv 4)) zd))) (za (zj C4 hr (by decide) zt (za (pv 0) (za (zq zU ze (pv 4)) zd))) (za (pv 3) zd)))))))))
    (zi (zu (pv 3)))))),?_⟩
  refine⟨_,rfl,c,_,rfl,fun m m0 m1=>⟨_,rfl,_,rfl,_,rfl,_,_,rfl,rfl,(by show (0:Int)<5;decide),c,z,_,rfl,hz,dM _ (by decide),dU _ (by decide),fun v r H1 gd rn _ s1 rt=>⟨qv rfl,fun g H2 s2 n2 e2=>?_⟩⟩⟩
  obtain⟨x,ev,mv⟩:=uE (xs:=[V.int 0,.int 0,.int 0,.int 1,.int 2,.int 3]) (i:=m/5%6) (dM _ (by decide)) (dU _ (by decide))
  obtain⟨n,rfl,h1⟩:∃ n:Nat,x = .int (n:Nat)∧n≤3:=by
   simp only[dc,dm,or_false] at mv
   rcases mv with rfl | rfl | rfl | rfl | rfl | rfl
   ·exact⟨0,rfl,by decide⟩
   ·exact⟨0,rfl,by decide⟩
   ·exact⟨0,rfl,by decide⟩
   ·exact⟨1,rfl,by decide⟩
   ·exact⟨2,rfl,by decide⟩
   ·exact⟨3,rfl,by decide⟩
  refine⟨_,rfl,_,_,rfl,rfl,⟨by decide,by decide⟩,_,_,rfl,rfl,(by show (0:Int)<6;decide),g,_,_,_,rfl,rfl,zZ.of e2,ev,_,rfl,by omega,by omega,jG (fun i σ H'=>∃ v r x4,bP (σ = [some (.int c),some (.str z),some (.int m),some v,x4]) (zw H H') (Gd i r∧r.name=z) (Qc H' r v)) ⟨v,r,_,rfl,s1.trans s2,⟨gd,rn⟩,rt.same s2⟩ ?_ ?_⟩
  ·rintro i σ H3 hi ⟨v,r,x4,rfl,s3,⟨gd,rn⟩,rt⟩ E3 k3
   exact⟨_,rfl,_,rfl,_,rfl,_,_,rfl,rfl,c,_,rfl,fun p H4 hp s4=>⟨_,rfl,_,rfl,_,_,rfl,rfl,c,_,rfl,fun w H5 hw s5=>⟨_,rfl,qv rfl,fun t H6 s6 n6 e6=>k3 _ _ ⟨_,.ontop z p w r,_,rfl,s3.trans (s4.trans (s5.trans s6)),⟨.ontop hz hp hw gd,rfl⟩,.ontop e6 (rt.same (s4.trans (s5.trans s6)))⟩⟩⟩⟩
  ·rintro σ H3 ⟨v,r,x4,rfl,s3,⟨gd,rn⟩,rt⟩
   rw[Dk] at gd
   exact⟨_,rfl,q v r H3 (gd.le h1) rn s3 rt⟩
theorem Qy.up2 {H H1:Hp} {o:HO} {Q:VK} (r:Qy H o Q) (s:zw H H1):Qy H1 o Q:=fun p H2 s2 n e=>r p H2 (s.trans s2) (uC s n) e
set_option maxHeartbeats 4000000 in
theorem Pl {j:Nat} (F:qQ K "_law_dues" "_law_dues" (top 106) f fd) (G:jP mg) (C1:qP P w K mg base zO j "_law_of_month" ["_law_rule_here","_law_bases_here"] (Vt K 3)):zH P w K mg base zO (j+1) f fd ["_law_rules_here","_law_bases_here"] (UW K):=by
 have nc:(["_law_rule_here","_law_bases_here"]:List Str).Nodup:=by decide +kernel
 refine F.ok (N:=["_law_rules_here","_law_bases_here"]) (by walk_at"s") (fun vs H Q E h=>?_) (fun cdv A outer s H vs Q E hr h=>?_)
 ·obtain⟨l,b,rs,bs,rfl,_⟩:=h
  rfl
 ·obtain⟨l,b,rs,bs,rfl,⟨ys,hl,T⟩,ok,hb,bl,bn,q⟩:=h
  have few:=ok.few
  refine' ⟨_,(zi (zu (z6 yX rfl G.tuple yq (za (zx Yl rfl G.sorted PyProof.Rows.boot_sorted (za ?comp zd)) zd)))),?main⟩
  case comp =>
   refine' z8 (Nc:=["_law_rule_here","_law_bases_here"]) (cl:=[("_law_bases_here",s.heap.objs.size+1)]) (src:=[none,some 1]) (wi:=vO K (zM 0)) (g:=z4 0) (tt:=qK) (te:=Wz (qi (jC (wL K) (zM 0) (tC (.int 1))) (qi (fun σ H Q=>qi (zM 0) (qi (zM 1) yn) σ H fun vs H1=>Vt K 3 vs H1 Q E0) yn)))
    (by walk_at"c1") rfl (q9 (pv 0)) ?hb
   case hb =>
    intro fp C' s' H'
    exact⟨zJ (i:=0) nc rfl (Or.inl rfl),qd,ym (za (zz zK (pv 0) ze) (za (zj C1 hr (CZ _) zt (za (pv 0) (za (pv 1) zd))) zd))⟩
  walk_at"d5"
  refine⟨_,rfl,l,rfl,⟨_,zZ.of hl⟩,fun D hD=>wb (qX (zZ.of hl)) T hD (by rw[sizeLine_eq];omega) (fun r=>cP (r.name,wx r bs)) (fun r hm v H1 R s1 rt k=>?_) (fun zs H1 s1 e1 T1=>?_)⟩
  ·have gd:=ok.gd r hm
   obtain⟨t,xs,rfl,ht,nm⟩:=rt.name gd
   exact⟨_,rfl,t,_,_,_,rfl,rfl,qh.of ht,nm,_,rfl,_,rfl,_,r,b,bs,rfl,rt,gd,s1.seq hb,bl,bn,fun H2 s2=>⟨qv rfl,Qy.up2 k s2⟩⟩
  ·have T2:z5 H1 zs ((yT rs bs).map cP):=by
    unfold yT
    rw[dB]
    exact T1
   have nd:=pC ok bs
   have zl:zs.length=(yT rs bs).length:=by rw[T2.len,CY]
   have pl:(yT rs bs).length=rs.length:=by unfold yT;rw[CY]
   refine⟨D,zs,_,_,rfl,zZ.of e1,by omega,gX T2 nd,fun is pm up a H2 s2 n2 e2=>?_⟩
   obtain⟨pq,T3⟩:=Yn T2 pm
   have up:(is.map (O9 (yT rs bs))).Pairwise (fun a b=>¬ b.1.cps.toList<a.1.cps.toList):=ED.mpr up
   rw[Yz pq up nd] at T3
   refine⟨a,_,rfl,.inl ⟨zZ.of e2,fun t t0=>?_⟩⟩
   have s3:zw H2 (upd H2 t (.tup (is.map fun i=>zs.getD i V.non))):=zw.upd t0
   exact q _ _ (s1.trans (s2.trans s3)) ⟨t,_,rfl,zp,(T3.same s2).same s3⟩
theorem NH (F:qQ K "_law_net" "_law_net" (top 107) f fd) (G:jP mg):zH P w K mg base zO 1 f fd ["_law_base","_law_dues_here"] gH:=by
 have nc:(["_law_name","_law_amount_here"]:List Str).Nodup:=by decide +kernel
 refine F.ok (N:=["_law_base","_law_dues_here"]) (by walk_at"s") (fun vs H Q E h=>?_) (fun cdv A outer s H vs Q E hr h=>?_)
 ·obtain⟨b,v,prs,rfl,_⟩:=h
  rfl
 ·obtain⟨b,v,prs,rfl,⟨t,ys,rfl,ht,T⟩,pl,q⟩:=h
  refine' ⟨_,(zi (zu (zq vn (pv 0) (zx (yB rfl) rfl G.sum yW (za ?comp zd))))),?main⟩
  case comp =>
   refine' z8 (Nc:=["_law_name","_law_amount_here"]) (cl:=[]) (src:=[none,none]) (wi:=Yv K (zM 1)) (g:=Xp K 2 (vH (z4 0) (vH (z4 1) Xn))) (tt:=qK) (te:=zM 1)
    (by walk_at"c3") rfl (vq (pv 1)) ?hb
   case hb =>
    intro fp C' s' H'
    exact⟨Uh rfl (jQ (zJ (i:=0) nc rfl (Or.inl rfl)) (jQ (zJ (i:=1) nc rfl (Or.inl rfl)) Qh)),qd,pv 1⟩
  refine⟨_,rfl,_,rfl,t,rfl,⟨_,qh.of ht⟩,fun D2 hD2=>UO (jk (qh.of ht)) T hD2 (by rw[sizeLine_eq];omega) (fun p=>V.int p.2) (fun p hp H2 R s2 r=>⟨_,rfl,r H2 (zw.refl _)⟩) (fun H2 s2 e2=>?_)⟩
  have e2':H2 D2=some (.lst ((prs.map (·.2)).map V.int)):=by rw[e2,dB];rfl
  exact⟨D2,_,rfl,zZ.of e2',_,_,rfl,rfl,q H2 s2⟩
theorem Oz (F:qQ K "_law_dues_right" "_law_dues_right" (top 108) f fd) (G:jP mg) (C1:qP P w K mg base zO 1 "_law_whole" ["_law_found"] YI):zH P w K mg base zO 2 f fd ["_law_found","_law_due"] J8:=by
 have nd:(["_law_found","_law_due","_law_pair"]:List Str).Nodup:=by decide +kernel
 refine F.ok (N:=["_law_found","_law_due","_law_pair"]) (by walk_at"s") (fun vs H Q E h=>?_) (fun cdv A outer s H vs Q E hr h=>?_)
 ·obtain⟨u,v,prs,rfl,_⟩:=h
  rfl
 ·obtain⟨u,v,prs,rfl,du,dv,pl,q⟩:=h
  have un2:(A.deeper (PyProof.Rows.envOfC "_law_dues_right" (qS (top 108)) s.heap.objs.size f cdv)).units+2<cLine:=eU (Es (by decide:2≤64) _) hr.units
  obtain⟨t,ys,rfl,ht,T⟩:=id du
  refine⟨_,(zg (zR (PW.pt (wC (qM (qF (zx qp rfl G.isinstance zS (za (pv 0) (za (yF (v:=.ty "tuple") rfl G.tuple yq rfl) zd))))) (uT (zE LW (pv 0) (pv 1) (zD _))))) (zi (zu jY)) zA)
    (zg (jt PassesOwn.never rfl (vq (pv 0)) (zJ (i:=2) nd rfl (Or.inl rfl)) (zi (zR (PW.pt (wC (qM (qF (zx qp rfl G.isinstance zS (za (pv 2) (za (yF (v:=.ty "tuple") rfl G.tuple yq rfl) zd))))) (wC (qM (qF (zx qp rfl G.isinstance zS (za (zz zK (pv 2) ze) (za (yF (v:=.ty "str") rfl G.str qL rfl) zd))))) (uT (qM (qF (zj C1 hr (by decide) zt (za (zz zK (pv 2) ze) zd)))))))) (zi (zu jY)) zA)))
    (zi (zu jY)))),?_⟩
  walk_at"d5"
  refine⟨_,rfl,_,_,_,_,true,rfl,rfl,.inl (.tup ht),rfl,true,rfl,qY ⟨_,rfl,_,rfl,2,_,rfl,mj du,mj dv,un2,_,rfl,qY ?_⟩⟩
  refine⟨_,rfl,t,rfl,⟨_,qh.of ht⟩,WY (xs:=ys) (fun i σ H'=>∃ x2,σ = [some (.ref t),some v,x2]∧H'=H) ⟨_,rfl,rfl⟩ (fun i σ H' _ z=>?_) ?_ ?_⟩
  ·obtain⟨_,_,rfl⟩:=z
   exact qh.of ht
  ·rintro i y σ H' hy ⟨x2,rfl,rfl⟩ E2 k2
   obtain⟨a,c,rfl,h1,h2⟩:=T.of_at hy
   rw[dj] at h1
   obtain⟨p,hp,rfl⟩:=dC.mp h1
   exact⟨_,rfl,_,_,_,_,true,rfl,rfl,.inl (.tup h2),rfl,true,rfl,qY ⟨_,rfl,a,_,_,_,rfl,rfl,qh.of h2,rfl,_,_,_,_,true,rfl,rfl,.inl (.str _),rfl,true,rfl,qY ⟨_,rfl,a,_,_,_,rfl,rfl,qh.of h2,rfl,_,rfl,true,rfl,qY (k2 _ _ ⟨_,rfl,rfl⟩)⟩⟩⟩
  ·rintro σ H' ⟨x2,rfl,rfl⟩
   exact q _ (zw.refl _)
end
end K15
namespace Pg
open PySem L2
theorem M7 {H H':Hp} {ys:List V} {cs:List (List V)} (k:FT H H') (T:z5 H ys cs):z5 H' ys cs:=⟨T.len,fun i c h=>by
 obtain⟨a,h1,h2⟩:=T.at_ i c h
 exact⟨a,h1,k _ _ h2⟩⟩
theorem Qc.kt {H H':Hp} {r:Rk} {v:V} (k:FT H H') (h:Qc H r v):Qc H' r v:=by
 induction h with
 | pln e h =>
  obtain⟨t,rfl,h⟩:=h
  exact .pln e ⟨t,rfl,k _ _ h⟩
 | bands h b =>
  obtain⟨ys,e,t⟩:=b
  exact .bands (k _ _ h) ⟨ys,k _ _ e,M7 k t⟩
 | ontop h _ ih=>exact .ontop (k _ _ h) ih
theorem pA {H H':Hp} {l:Addr} {rs:List Rk} (h:wI H l rs) (k:FT H H') (kl:∀ xs,H l=some (.lst xs)→H' l=some (.lst xs)):wI H' l rs:=by
 obtain⟨ys,e,T⟩:=h
 refine⟨ys,kl _ e,T.len,fun i y hy=>?_⟩
 obtain⟨r,h1,h2⟩:=T.at_ i y hy
 exact⟨r,h1,fun H'' s=>((h2 H (zw.refl _)).kt k).same s⟩
section
variable {C B dx t o al:Addr} {fx:List (Addr × HO)} {H H1 H2 H4:Hp} {es fs:List Be} {vs:List V} {ds:List (Int × List Int)}
end
theorem rW {K:BFr} {H:Hp} {a:Addr} {xs:List V} (h:zZ K H a xs):∃ ex:List (Addr × HO),(∀ q∈ex,H q.1=some q.2)∧∀ H':Hp,(∀ q∈ex,H' q.1=some q.2)→zZ K H' a xs:=by
 rcases h with (h | ⟨o,h⟩) | h
 ·refine⟨[(a,_)],fun q hq=>?_,fun H' k=>.inl (.inl (k _ dq))⟩
  rw[dI.mp hq]
  exact h
 ·refine⟨[(a,_)],fun q hq=>?_,fun H' k=>.inl (.inr ⟨o,k _ dq⟩)⟩
  rw[dI.mp hq]
  exact h
 ·exact⟨[],(fun q hq=>by cases hq),fun H' _=>.inr h⟩
theorem tQ (l:List V) (x:V):atI (l++[x]) (-1)=some x:=by
 have hl:(l++[x]).length=l.length+1:=dh
 unfold atI Mc
 rw[if_neg (by decide),if_pos (by rw[hl];omega)]
 show (l++[x])[((-1:Int)+((l++[x]).length:Nat)).toNat]? = _
 rw[hl,show ((-1:Int)+((l.length+1:Nat):Nat)).toNat=l.length by omega,dS (CZ _),Ei]
 rfl
open PySem.NumText Builtin Builtin.Str
theorem QN {k:Nat} {l:List Nat} (h:AllDigits l):AllDigits (uS k l):=fun c hc=>by
 unfold uS at hc
 rcases dA.mp hc with z | z
 ·rw[(List.mem_replicate.mp z).2];decide
 ·exact h c z
theorem NV (n:Nat) (l:List Nat):digitsVal (List.replicate n 48++l)=digitsVal l:=by
 induction n with
 | zero=>rfl
 | succ n ih=>rw[DA];exact ih
theorem Tn (k n:Nat):digitsVal (uS k (dg n))=n:=by
 unfold uS
 rw[NV,rD]
theorem m4 (k n:Nat):Za (uS k (dg n))=true:=by
 have h:=QN (k:=k) (va n)
 unfold Za
 rw[dY]
 constructor
 ·cases e:uS k (dg n) with
  | nil =>
   have l:=vk n
   have:(uS k (dg n)).length=0:=by rw[e];rfl
   unfold uS at this
   rw[dh] at this
   omega
  | cons=>rfl
 ·rw[Dc]
  intro c hc
  have:=h c hc
  unfold Px
  rw[decide_eq_true this.1,decide_eq_true this.2]
  rfl
theorem kX (z y:Str):Txt.startswith z y=decide (z.cps.toList.take y.cps.toList.length=y.cps.toList):=by
 unfold Txt.startswith Builtin.Str.subAt
 obtain⟨⟨l⟩⟩:=z
 obtain⟨⟨m⟩⟩:=y
 show (decide (0+m.length≤l.length)&&((Array.mk l).extract 0 (0+m.length)==Array.mk m))=decide (l.take m.length=m)
 have e:(Array.mk l).extract 0 (0+m.length)=Array.mk (l.take m.length):=by
  apply Array.ext'
  simp
 rw[e]
 by_cases h:l.take m.length=m
 ·rw[h,decide_eq_true rfl]
  have:m.length≤l.length:=by
   have:=congrArg List.length h
   rw[dP] at this
   omega
  simp[this]
 ·rw[decide_eq_false h]
  have:((Array.mk (l.take m.length))==Array.mk m)=false:=by
   simp
   intro z
   exact h z
  rw[this,E9]
noncomputable def OD (z:Str):Bool:=Txt.startswith z "year " && (decide (z.length=9)&&Za (z.cps.toList.drop 5))
noncomputable def Rj (z:Str):Int:=((digitsVal (z.cps.toList.drop 5):Nat):Int)
noncomputable def JS (Y:Int):Str:=("year ":Str)++rH Y
theorem GA:("year ":Str).cps.toList=[121,101,97,114,32]:=by decide +kernel
theorem xJ {Y:Int} (h:0≤Y):(rH Y).cps.toList=uS 4 (dg Y.toNat):=by
 obtain⟨k,rfl⟩:=Dy h
 exact Om (k:=4)
theorem uU {Y:Int} (h:0≤Y):(JS Y).cps.toList=[121,101,97,114,32]++uS 4 (dg Y.toNat):=by
 unfold JS
 rw[qT,GA,xJ h]
theorem Xc {Y:Int} (h:0≤Y) (h9:Y≤9999):(JS Y).length=9:=by
 rw[zY,uU h,dh,Pf (Zq (by decide) (by omega))]
 rfl
theorem rh {Y:Int} (h:0≤Y) (h9:Y≤9999):OD (JS Y)=true∧Rj (JS Y)=Y:=by
 have d5:(JS Y).cps.toList.drop 5=uS 4 (dg Y.toNat):=by rw[uU h];rfl
 constructor
 ·unfold OD
  rw[kX,GA,d5,m4,Xc h h9,decide_eq_true (by rw[uU h];rfl)]
  rfl
 ·unfold Rj
  rw[d5,Tn]
  omega
theorem Nn {Y:Int} (h:0≤Y):¬ 10∈(JS Y).cps.toList:=by
 rw[uU h]
 intro m
 rcases dA.mp m with m | m
 ·exact absurd m (by decide)
 ·have:=QN (k:=4) (va Y.toNat) 10 m
  omega
theorem LJ {ps:List (Int × Int)} (ok:Zv ps):¬ 10∈(j7 ps).cps.toList:=by
 obtain⟨p,r,e⟩:=ok.hd
 have hb:∀ q∈ps,¬ 10∈(yw q).cps.toList:=fun q hq m=>by
  have h:=ok.ok q hq
  rw[vA q h.1.1 h.2.1] at m
  rcases dA.mp m with m | m
  ·exact QJ (.inl (by decide)) _ m
  ·rcases dc.mp m with m | m
   ·exact absurd m (by decide)
   ·exact QJ (.inl (by decide)) _ m
 unfold j7
 rw[e] at hb ⊢
 rw[dN,cw,qI]
 intro m
 rcases dA.mp m with m | m
 ·exact hb _ dq m
 ·obtain⟨l,hl,m⟩:=Em.mp m
  obtain⟨v,hv,rfl⟩:=dk.mp hl
  obtain⟨u,hu,rfl⟩:=dk.mp hv
  obtain⟨q,hq,rfl⟩:=dk.mp hu
  rcases dc.mp m with m | m
  ·exact absurd m (by decide)
  ·exact hb q (dQ _ hq) m
theorem uX {w:Str} (h:YR w):¬ 10∈w.cps.toList:=by
 have h:=Dp.mp h
 unfold wayL at h
 simp only[dc,dm,or_false] at h
 rcases h with rfl | rfl | rfl | rfl <;> decide +kernel
theorem xB {d:Nat} {r:Rk} (g:Gd d r):∀ z∈zW r,¬ 10∈z.cps.toList:=by
 have lit:∀ {z:Str},z.cps.toList.contains 10=false→¬ 10∈z.cps.toList:=fun h m=>by rw[Dp.mpr m] at h;cases h
 have sp:∀ {z:Str},yh z→¬ 10∈z.cps.toList:=fun h=>g9 (by decide) h
 have pt:∀ {i:Int},YT i→¬ 10∈(toString i:Str).cps.toList:=fun h=>Ze (.inl (by decide)) h.1
 have am:∀ {i:Int},JM i→¬ 10∈(toString i:Str).cps.toList:=fun h=>Ze (.inl (by decide)) h.1
 induction g with
 | pln p =>
  intro z hz
  cases p with
  | flat hn ha =>
   simp only[zW,dc,dm,or_false] at hz
   rcases hz with rfl | rfl | rfl
   ·exact lit (by decide +kernel)
   ·exact sp hn
   ·exact am ha
  | share hn hp hw =>
   simp only[zW,dc,dm,or_false] at hz
   rcases hz with rfl | rfl | rfl | rfl
   ·exact lit (by decide +kernel)
   ·exact sp hn
   ·exact pt hp
   ·exact uX hw
  | capped hn hp ha hw =>
   simp only[zW,dc,dm,or_false] at hz
   rcases hz with rfl | rfl | rfl | rfl | rfl
   ·exact lit (by decide +kernel)
   ·exact sp hn
   ·exact pt hp
   ·exact am ha
   ·exact uX hw
  | least hn hp ha hw =>
   simp only[zW,dc,dm,or_false] at hz
   rcases hz with rfl | rfl | rfl | rfl | rfl
   ·exact lit (by decide +kernel)
   ·exact sp hn
   ·exact pt hp
   ·exact am ha
   ·exact uX hw
 | bands hn ok hw =>
  intro z hz
  simp only[zW,dc,dm,or_false] at hz
  rcases hz with rfl | rfl | rfl | rfl
  ·exact lit (by decide +kernel)
  ·exact sp hn
  ·exact LJ ok
  ·exact uX hw
 | ontop hn hp hw _ ih =>
  intro z hz
  rcases dA.mp hz with hz | hz
  ·simp only[dc,dm,or_false] at hz
   rcases hz with rfl | rfl | rfl | rfl | rfl
   ·exact lit (by decide +kernel)
   ·exact sp hn
   ·exact pt hp
   ·exact uX hw
   ·exact lit (by decide +kernel)
  ·exact ih z hz
theorem PB {d:Nat} {r:Rk} (g:Gd d r):¬ 10∈(yK r).cps.toList:=by
 obtain⟨w,ws,e,_⟩:=ue r
 have no:=xB g
 rw[wW,e,BL,qI]
 rw[e] at no
 intro m
 rcases dA.mp m with m | m
 ·exact no _ dq m
 ·obtain⟨l,hl,m⟩:=Em.mp m
  obtain⟨v,hv,rfl⟩:=dk.mp hl
  obtain⟨u,hu,rfl⟩:=dk.mp hv
  rcases dc.mp m with m | m
  ·exact absurd m (by decide)
  ·exact no u (dQ _ hu) m
theorem o7 (r:Rk):∃ c l,(yK r).cps.toList=c::l∧c≠121:=by
 have hw:∃ c m ws,zW r=⟨⟨c::m⟩⟩::ws∧c≠121:=by
  cases r with
  | flat n a=>exact⟨102,[108,97,116],[n,(toString a:Str)],by unfold zW;rw[show ("flat":Str)=⟨⟨102::[108,97,116]⟩⟩ by decide +kernel],by decide⟩
  | share n p w=>exact⟨115,[104,97,114,101],[n,(toString p:Str),w],by unfold zW;rw[show ("share":Str)=⟨⟨115::[104,97,114,101]⟩⟩ by decide +kernel],by decide⟩
  | capped n p m w=>exact⟨99,[97,112,112,101,100],[n,(toString p:Str),(toString m:Str),w],by unfold zW;rw[show ("capped":Str)=⟨⟨99::[97,112,112,101,100]⟩⟩ by decide +kernel],by decide⟩
  | least n p l w=>exact⟨108,[101,97,115,116],[n,(toString p:Str),(toString l:Str),w],by unfold zW;rw[show ("least":Str)=⟨⟨108::[101,97,115,116]⟩⟩ by decide +kernel],by decide⟩
  | bands n ps w=>exact⟨98,[97,110,100,115],[n,j7 ps,w],by unfold zW;rw[show ("bands":Str)=⟨⟨98::[97,110,100,115]⟩⟩ by decide +kernel],by decide⟩
  | ontop n p w r=>exact⟨111,[110,116,111,112],[n,(toString p:Str),w,("of":Str)]++zW r,by rw[zW,show ("ontop":Str)=⟨⟨111::[110,116,111,112]⟩⟩ by decide +kernel];rfl,by decide⟩
 obtain⟨c,m,ws,e,hc⟩:=hw
 rw[wW,e,BL,qI]
 exact⟨c,_,rfl,hc⟩
theorem mY (r:Rk):OD (yK r)=false:=by
 obtain⟨c,l,e,hc⟩:=o7 r
 unfold OD
 rw[kX,GA,e,decide_eq_false,eO]
 intro z
 injection z with z _
 exact hc z
noncomputable def VF (ps:List (Int × List Str)) (row:Str):List (Int × List Str):=if OD row=true then ps++[(Rj row,[])] else match ps.getLast? with
 | none=>ps
 | some p=>ps.dropLast++[(p.1,p.2++[row])]
theorem WO {ps:List (Int × List Str)} {row:Str} (h:OD row=true):VF ps row=ps++[(Rj row,[])]:=by
 unfold VF
 exact if_pos h
theorem Gy {ps:List (Int × List Str)} {p:Int × List Str} {row:Str} (h:OD row=false):VF (ps++[p]) row=ps++[(p.1,p.2++[row])]:=by
 unfold VF
 rw[if_neg (by rw[h];decide),List.getLast?_concat,List.dropLast_concat]
noncomputable def ZJ (es:List (Int × List Rk)):List Str:=(es.map fun e=>JS e.1::e.2.map yK).flatten
noncomputable def OL (es:List (Int × List Rk)):Str:=Txt.join "\n" (ZJ es)
noncomputable def YU (es:List (Int × List Rk)):Prop:=∀ e∈es,0≤e.1∧e.1≤9999∧j4 e.2
theorem G2 (rs:List Rk) (ps:List (Int × List Str)) (p:Int × List Str):(rs.map yK).foldl VF (ps++[p])=ps++[(p.1,p.2++rs.map yK)]:=by
 induction rs generalizing p with
 | nil=>rw[DG,List.foldl_nil,d9]
 | cons r rs ih =>
  rw[dN,Ds,Gy (mY r),ih,d8]
  rfl
theorem MF {es:List (Int × List Rk)} (ok:YU es) (ps:List (Int × List Str)):(ZJ es).foldl VF ps=ps++es.map fun e=>(e.1,e.2.map yK):=by
 induction es generalizing ps with
 | nil=>exact (d9 _).symm
 | cons e es ih =>
  have h:=ok e dq
  have hh:=rh h.1 h.2.1
  show ((JS e.1::e.2.map yK)++ZJ es).foldl VF ps=_
  rw[Ed,Ds,WO hh.1,hh.2,G2,ih fun e he=>ok e (dQ _ he),d8]
  rfl
theorem Cc:("\n":Str)=⟨#[10]⟩:=by decide +kernel
theorem tJ {es:List (Int × List Rk)} (ok:YU es):∀ z∈ZJ es,¬ 10∈z.cps.toList:=fun z hz=>by
 obtain⟨l,hl,hz⟩:=Em.mp hz
 obtain⟨e,he,rfl⟩:=dk.mp hl
 rcases dc.mp hz with rfl | hz
 ·exact Nn (ok e he).1
 ·obtain⟨r,hr,rfl⟩:=dk.mp hz
  exact PB ((ok e he).2.2.gd r hr)
theorem Qg {es:List (Int × List Rk)} (ok:YU es):(ZJ es).length≤9*es.length:=by
 induction es with
 | nil=>exact CZ _
 | cons e es ih =>
  have h:=(ok e dq).2.2.few
  have:=ih fun e he=>ok e (dQ _ he)
  show ((JS e.1::e.2.map yK)++ZJ es).length≤_
  rw[dh,dW,CY,dW]
  omega
theorem VD {es:List (Int × List Rk)} (ok:YU es):∀ z∈ZJ es,z.length≤2000:=fun z hz=>by
 obtain⟨l,hl,hz⟩:=Em.mp hz
 obtain⟨e,he,rfl⟩:=dk.mp hl
 rcases dc.mp hz with rfl | hz
 ·rw[Xc (ok e he).1 (ok e he).2.1];decide
 ·obtain⟨r,hr,rfl⟩:=dk.mp hz
  exact dG (km ((ok e he).2.2.gd r hr)) (by decide)
theorem LH {e:Int × List Rk} {es:List (Int × List Rk)} (ok:YU (e::es)):Txt.split (OL (e::es)) "\n" = ZJ (e::es)∧1≤(OL (e::es)).length∧partsBetween (OL (e::es)) (occurrences (OL (e::es)) ⟨#[10]⟩ 0 (OL (e::es)).length ((OL (e::es)).length+1)) 1=ZJ (e::es):=by
 have no:=tJ ok
 have e1:ZJ (e::es)=JS e.1::(e.2.map yK++ZJ es):=rfl
 have l1:1≤(Txt.join ⟨#[10]⟩ (JS e.1::(e.2.map yK++ZJ es))).length:=by
  rw[zY,qI,dh]
  have:=Xc (ok e dq).1 (ok e dq).2.1
  rw[zY] at this
  omega
 unfold OL
 rw[e1] at no ⊢
 rw[Cc]
 have sj:=vT (c:=10) (w:=JS e.1) (ws:=e.2.map yK++ZJ es) (Gp (by decide)) (no _ dq) (fun v hv=>no v (dQ _ hv)) l1
 exact⟨sj.1,l1,sj.2⟩
abbrev Pq:=Addr × Int × Addr × List Str
structure pb (H:Hp) (p:Addr) (qs:List Pq):Prop where
 at_:H p=some (.lst (qs.map fun q=>.ref q.1))
 tp:∀ q∈qs,H q.1=some (.tup [.int q.2.1,.ref q.2.2.1])
 ls:∀ q∈qs,H q.2.2.1=some (.lst (q.2.2.2.map V.str))
 nd:(qs.map fun q=>q.2.2.1).Nodup
 np:∀ q∈qs,q.2.2.1≠p
noncomputable def qD (q:Pq):Int × List Str:=(q.2.1,q.2.2.2)
theorem pb.same {H H':Hp} {p:Addr} {qs:List Pq} (h:pb H p qs) (s:zw H H'):pb H' p qs:=⟨s _ _ h.at_,fun q hq=>s _ _ (h.tp q hq),fun q hq=>s _ _ (h.ls q hq),h.nd,h.np⟩
theorem pb.new {H H1 H2:Hp} {p l tp:Addr} {qs:List Pq} {Y:Int} (h:pb H p qs) (s1:zw H H1) (l0:H l=none) (e1:H1 l=some (.lst [])) (s2:zw H1 H2) (e2:H2 tp=some (.tup [.int Y,.ref l])):pb (upd H2 p (.lst ((qs.map fun q=>V.ref q.1)++[.ref tp]))) p (qs++[(tp,Y,l,[])]):=by
 have h2:=h.same (s1.trans s2)
 have k:∀ b ox,H2 b=some ox→b≠p→(upd H2 p (.lst ((qs.map fun q=>V.ref q.1)++[.ref tp]))) b=some ox:=fun b ox hb n=>by rw[zm n];exact hb
 have lp:l≠p:=(zB h.at_ l0).symm
 refine⟨by rw[zp,dz];rfl,fun q hq=>?_,fun q hq=>?_,?_,fun q hq=>?_⟩
 ·rcases dA.mp hq with hq | hq
  ·exact k _ _ (h2.tp q hq) (yQ (h2.tp q hq) h2.at_ (by intro z;cases z))
  ·rw[dI.mp hq]
   exact k _ _ e2 (yQ e2 h2.at_ (by intro z;cases z))
 ·rcases dA.mp hq with hq | hq
  ·exact k _ _ (h2.ls q hq) (h.np q hq)
  ·rw[dI.mp hq]
   exact k _ _ (s2 _ _ e1) lp
 ·rw[dz]
  refine eE.mpr ⟨h.nd,Dm.mpr ⟨(fun z=>nomatch z),DS⟩,fun a ha b hb e=>?_⟩
  obtain⟨q,hq,rfl⟩:=dk.mp ha
  rw[dN,DG,dI] at hb
  exact zB (h.ls q hq) l0 (e.trans hb)
 ·rcases dA.mp hq with hq | hq
  ·exact h.np q hq
  ·rw[dI.mp hq]
   exact lp
theorem pb.more {H:Hp} {p:Addr} {qs:List Pq} {q:Pq} {z:Str} (h:pb H p (qs++[q])):pb (upd H q.2.2.1 (.lst (q.2.2.2.map V.str++[.str z]))) p (qs++[(q.1,q.2.1,q.2.2.1,q.2.2.2++[z])]):=by
 have mq:q∈qs++[q]:=dA.mpr (.inr dq)
 have k:∀ b ox,H b=some ox→b≠q.2.2.1→(upd H q.2.2.1 (.lst (q.2.2.2.map V.str++[.str z]))) b=some ox:=fun b ox hb n=>by rw[zm n];exact hb
 have nd:=h.nd
 rw[dz] at nd
 have dis:=(eE.mp nd).2.2
 refine⟨?_,fun x hx=>?_,fun x hx=>?_,?_,fun x hx=>?_⟩
 ·rw[k _ _ h.at_ (fun e=>h.np q mq e.symm),dz,dz]
  rfl
 ·have:x.1=q.1∧x.2.1=q.2.1∧x.2.2.1=q.2.2.1∨x∈qs:=by
   rcases dA.mp hx with hx | hx
   ·exact .inr hx
   ·rw[dI.mp hx];exact .inl ⟨rfl,rfl,rfl⟩
  rcases this with ⟨e1,e2,e3⟩ | hx
  ·rw[e1,e2,e3]
   exact k _ _ (h.tp q mq) (yQ (h.tp q mq) (h.ls q mq) (by intro z;cases z))
  ·have hx':x∈qs++[q]:=dA.mpr (.inl hx)
   exact k _ _ (h.tp x hx') (yQ (h.tp x hx') (h.ls q mq) (by intro z;cases z))
 ·rcases dA.mp hx with hx | hx
  ·exact k _ _ (h.ls x (dA.mpr (.inl hx))) (dis _ (dk.mpr ⟨x,hx,rfl⟩) _ (dk.mpr ⟨q,dq,rfl⟩))
  ·rw[dI.mp hx]
   show upd H q.2.2.1 _ q.2.2.1=_
   rw[zp,dz]
   rfl
 ·rw[dz]
  exact nd
 ·rcases dA.mp hx with hx | hx
  ·exact h.np x (dA.mpr (.inl hx))
  ·rw[dI.mp hx]
   exact h.np q mq
theorem Zp (z:Str):(Txt.slice z (some 5) none).cps.toList=z.cps.toList.drop 5:=by
 rw[ux]
 unfold Xq
 have e:HT.kZ z.cps.toList.length 0 (some 5)=min 5 z.cps.toList.length:=HT.vS _ _ 5
 rw[e,HT.vh]
 by_cases h:5≤z.cps.toList.length
 ·rw[Dv h]
  exact Do (by rw[Dr];omega)
 ·rw[eZ (by omega),E8 (CZ _),E8 (by omega),List.take_nil]
theorem Gi {bs:List Be} {Y:Int} {a:Addr} {rs:List Rk} (h:∀ b∈bs,b.1≠Y):kJ bs Y a rs=bs++[(Y,a,rs)]:=by
 unfold kJ
 refine if_neg fun z=>?_
 obtain⟨b,hb,e⟩:=EG.mp z
 exact h b hb (of_decide_eq_true e)
theorem OB {H:Hp} {p:Addr} {qs:List Pq} (h:pb H p qs):qN H (qs.map fun q=>V.ref q.1) qs (fun H v q=>v = .ref q.1∧H q.1=some (.tup [.int q.2.1,.ref q.2.2.1])):=⟨CY _,fun i y e=>by
 rw[dj] at e
 obtain⟨q,hq,rfl⟩:=dC.mp e
 exact⟨q,hq,fun H' s=>⟨rfl,s _ _ (h.tp q (dZ hq))⟩⟩⟩
theorem Td {es:List (Int × List Rk)} (ok:YU es) (h:es.length≤40):(OL es).length≤1000000:=by
 have rl:=Qg ok
 have h2:=Wb (sep:="\n") (m:=2000) (by decide +kernel) _ (ZJ es) rfl (VD ok)
 unfold OL
 exact dG h2 (dG (Nat.mul_le_mul_right _ (dG rl (Nat.mul_le_mul_left 9 h))) (by decide))
noncomputable def L8:Sp:=fun vs H Q _=>∃ z,vs=[.str z]∧z.length≤1000000∧∀ H',zw H H'→Q (.bl (OD z)) H'
noncomputable def P6:Sp:=fun vs H Q _=>∃ (l:Addr) (ws:List Str),vs=[.ref l]∧H l=some (.lst (ws.map V.str))∧ws.length≤10000∧(∀ z∈ws,z.length≤1000000)∧(∀ z,ws.head? = some z→OD z=true)∧∀ p qs H',zw H H'→H p=none→pb H' p qs→qs.map qD=ws.foldl VF []→Q (.ref p) H'
noncomputable def Lo (C:Addr):Sp:=fun vs H Q _=>∃ es:List (Int × List Rk),vs=[.str (OL es)]∧YU es∧(es.map (·.1)).Pairwise (fun x y:Int=>x<y)∧es≠[]∧es.length≤40∧∀ B dx t bs H',zw H H'→H t=none→(∀ b∈bs,H b.2.1=none)→xx C H' B dx t bs→bs.map yr=es→Q (.ref B) H'
end Pg
namespace K15
open PySem PySem.NumText L2 Pg
seal PE PA PT PW PS jT PG uv PI ui PO PK
section
variable {P:Program} {w:World} {K:BFr} {mg:Str→Option Value} {base:Heap} {f:Addr} {fd:FuncData} {d:Nat→Addr} {cR:Addr}
theorem Ro (F:qQ K "is_head" "is_head" (top 85) f fd) (G:jP mg) (N1:Pg.Txt mg "HEAD" "year ") (C1:qP P w K mg base zO 1 "are_figures" ["text"] Vu):zH P w K mg base zO 2 f fd ["row"] L8:=by
 obtain⟨tm,hm⟩:=N1
 refine F.ok (N:=["row"]) (by walk_at"s") (fun vs H Q E h=>?_) (fun cdv A outer s H vs Q E hr h=>?_)
 ·obtain⟨z,rfl,_⟩:=h
  rfl
 ·obtain⟨z,rfl,zl,q⟩:=h
  refine⟨_,(zi (zu (yU (yH PySem.F.plainAttrs_str PySem.F.slot_str_startswith PySem.F.type_str_startswith wD (pv 0) (za (qE (v:=.str "year ") rfl hm ⟨_,rfl⟩) zd)) (yU (qJ qC (zx qU rfl G.len boot_len (za (pv 0) zd)) (zq zU (zx qU rfl G.len boot_len (za (qE (v:=.str "year ") rfl hm ⟨_,rfl⟩) zd)) ze) (zD _)) (ja (zj C1 hr (by decide) zt (za (yJ YE (pv 0) (yY (zx qU rfl G.len boot_len (za (qE (v:=.str "year ") rfl hm ⟨_,rfl⟩) zd))) jO) zd))))))),?_⟩
  have l5:("year ":Str).length=5:=by decide +kernel
  refine⟨_,rfl,rfl,_,_,rfl,rfl,_,rfl,yI (fun e=>?_) (fun e=>?_)⟩
  ·refine⟨_,rfl,z,rfl,by rw[sizeLine_eq];omega,_,rfl,by rw[l5,sizeLine_eq];decide,_,_,rfl,rfl,rfl,_,rfl,yI (fun e9=>?_) (fun e9=>?_)⟩
   ·have z9:z.length=9:=by
     have:=V.int.inj (of_decide_eq_true e9)
     rw[l5] at this
     omega
    have sl:(Txt.slice z (some 5) none).length≤100000:=by
     rw[zY,Zp,Dr]
     rw[zY] at z9
     omega
    refine⟨_,rfl,_,rfl,by rw[l5,sizeLine_eq];decide,_,rfl,z,rfl,by rw[sizeLine_eq];omega,_,rfl,?_⟩
    rw[l5]
    refine⟨sl,fun H' s'=>?_⟩
    have:=q H' s'
    unfold OD at this
    rw[e,decide_eq_true z9] at this
    rw[show ((5:Nat):Int)=5 from rfl,Zp]
    exact this
   ·have:=q H (zw.refl _)
    unfold OD at this
    rw[decide_eq_false (fun c=>e9 (decide_eq_true (by rw[c,l5];rfl))),eO,E9] at this
    exact this
  ·have:=q H (zw.refl _)
   unfold OD at this
   rw[Et.mpr e,eO] at this
   exact this
set_option maxHeartbeats 4000000 in
theorem RN (F:qQ K "parts_of" "parts_of" (top 86) f fd) (G:jP mg) (N1:Pg.Txt mg "HEAD" "year ") (C1:qP P w K mg base zO 2 "is_head" ["row"] L8):zH P w K mg base zO 3 f fd ["rows"] P6:=by
 obtain⟨tm,hm⟩:=N1
 have nd:(["rows","parts","row"]:List Str).Nodup:=by decide +kernel
 refine F.ok (N:=["rows","parts","row"]) (by walk_at"s") (fun vs H Q E h=>?_) (fun cdv A outer s H vs Q E hr h=>?_)
 ·obtain⟨l,ws,rfl,_⟩:=h
  rfl
 ·obtain⟨l,ws,rfl,hl,wl,wt,w0,q⟩:=h
  refine⟨_,(zg (zF (i:=1) nd rfl (Or.inl rfl) (qy zd))
    (zg (jt PassesOwn.never rfl (q9 (pv 0)) (zJ (i:=2) nd rfl (Or.inl rfl)) (zi (zR (qF (zj C1 hr (by decide) zt (za (pv 2) zd))) (zi (qm (yH PySem.F.plainAttrs_list PySem.F.slot_list_append PySem.F.type_list_append jI (pv 1) (za (ym (za (z6 wF rfl G.int vc (za (yJ YE (pv 2) (yY (zx qU rfl G.len boot_len (za (qE (v:=.str "year ") rfl hm ⟨_,rfl⟩) zd))) jO) zd)) (za (qy zd) zd))) zd)))) (zi (zR (zE qC (zx zQ rfl G.len boot_len (za (pv 1) zd)) ze (zD _)) qb (zi (qm (yH PySem.F.plainAttrs_list PySem.F.slot_list_append PySem.F.type_list_append jI (zz zK (zz zG (pv 1) (QT wQ ze)) ze) (za (pv 2) zd)))))))))
    (zi (zu (pv 1))))),?_⟩
  walk_at"d5"
  refine⟨qv rfl,fun p H1 s1 p0 e1=>?_⟩
  have hl1:=s1 _ _ hl
  refine⟨_,rfl,l,rfl,⟨_,zZ.of hl1⟩,vI (K:=K) (a:=l) (xs:=ws.map V.str) (fun i σ H'=>∃ x2 qs,σ = [some (.ref l),some (.ref p),x2]∧zw H H'∧pb H' p qs∧qs.map qD=(ws.take i).foldl VF []∧qs.length≤i∧(∀ q∈qs,H q.2.2.1=none)∧(∀ q∈qs,q.2.2.2.length≤i)∧(1≤i→qs≠[])) ⟨_,[],rfl,s1,⟨e1,(fun q h=>nomatch h),(fun q h=>nomatch h),DS,(fun q h=>nomatch h)⟩,rfl,CZ _,(fun q h=>nomatch h),(fun q h=>nomatch h),fun z=>absurd z (by decide)⟩ (fun i σ H' _ z=>?_) ?_ ?_⟩
  ·obtain⟨_,_,_,s',_⟩:=z
   exact zZ.of (s' _ _ hl)
  ·rintro i x σ H2 hx ⟨x2,qs,rfl,s2,PT,fo,ql,qf,qr,q1⟩ E2 k2
   rw[dj] at hx
   obtain⟨z,hz,rfl⟩:=dC.mp hx
   have mz:z∈ws:=dZ hz
   have hi:i<ws.length:=(dF.mp hz).1
   have tk:ws.take (i+1)=ws.take i++[z]:=by rw[Dg,hz];rfl
   have zl:=wt z mz
   have l5:("year ":Str).length=5:=by decide +kernel
   refine⟨_,rfl,z,rfl,zl,fun H3 s3=>⟨_,rfl,yI (fun e=>?_) (fun e=>?_)⟩⟩
   ·have PT3:=PT.same s3
    have dg5:Za (z.cps.toList.drop 5)=true∧z.length=9:=by
     have e:(Txt.startswith z "year " && (decide (z.length=9)&&Za (z.cps.toList.drop 5)))=true:=e
     rw[dY,dY] at e
     exact⟨e.2.2,of_decide_eq_true e.2.1⟩
    obtain⟨d1,d2⟩:=Wt dg5.1
    have sl:(Txt.slice z (some 5) none).length≤4:=by
     rw[zY,Zp,Dr,← zY]
     omega
    have it:intText? (Txt.slice z (some 5) none)=some (Rj z):=by
     have:=intText_digits (x:=Txt.slice z (some 5) none) (by rw[Zp];exact d1) (by rw[Zp];exact d2) (by omega)
     rw[Zp] at this
     exact this
    have it5:intText? (Txt.slice z (some ((("year ":Str).length:Nat):Int)) none)=some (Rj z):=by rw[l5];exact it
    refine⟨_,rfl,.inl ⟨rfl,_,zZ.of PT3.at_⟩,_,rfl,_,rfl,by rw[l5,sizeLine_eq];decide,_,rfl,z,rfl,by rw[sizeLine_eq];omega,_,_,rfl,it5,by rw[l5];exact dG sl (by decide),qv rfl,fun l' H4 s4 n4 e4=>⟨qv rfl,fun tp H5 s5 n5 e5=>⟨p,_,_,rfl,rfl,s5 _ _ (s4 _ _ PT3.at_),by rw[CY,sizeLine_eq];omega,?_⟩⟩⟩
    have PN:=PT3.new (Y:=Rj z) s4 n4 e4 s5 e5
    have l0:H l'=none:=(s2.trans s3).free n4
    refine k2 _ _ ⟨_,_,rfl,fun b o hb=>?_,PN,?_,?_,?_,?_,?_⟩
    ·rw[zm (zB hb p0)]
     exact s5 _ _ (s4 _ _ (s3 _ _ (s2 _ _ hb)))
    ·rw[dz,fo,tk,Ed]
     exact (WO e).symm
    ·rw[dh,Da]
     exact Ej ql
    ·intro x hx
     rcases dA.mp hx with hx | hx
     ·exact qf x hx
     ·rw[dI.mp hx]
      exact l0
    ·intro x hx
     rcases dA.mp hx with hx | hx
     ·exact El (qr x hx)
     ·rw[dI.mp hx]
      exact d6 _
    ·intro _ z
     exact fI _ (by simp) z
   ·have PT3:=PT.same s3
    have eb:OD z=false:=Et.mpr e
    have i1:1≤i:=by
     cases i with
     | zero =>
      have:ws.head? = some z:=by rw[← hz,List.head?_eq_getElem?]
      rw[w0 z this] at eb
      cases eb
     | succ k=>exact fu _ _
    obtain⟨qq,ql',rfl⟩:∃ qq qz,qs=qq++[qz]:=⟨qs.dropLast,qs.getLast (q1 i1),(Ef (q1 i1)).symm⟩
    have mq:ql'∈qq++[ql']:=dA.mpr (.inr dq)
    have len0:(((qq++[ql']).map fun q=>V.ref q.1).length:Int)≠0:=by
     rw[CY,dh,Da]
     omega
    refine⟨_,rfl,p,_,rfl,.inl (zZ.of PT3.at_),rfl,_,rfl,?_⟩
    rw[decide_eq_false fun c=>len0 (V.int.inj c)]
    have la:atI ((qq++[ql']).map fun q=>V.ref q.1) (-1)=some (.ref ql'.1):=by rw[dz];exact tQ _ _
    refine qY ⟨_,rfl,_,rfl,p,_,_,_,rfl,rfl,zZ.of PT3.at_,la,ql'.1,_,_,_,rfl,rfl,qh.of (PT3.tp ql' mq),rfl,.inl ⟨rfl,_,zZ.of (PT3.ls ql' mq)⟩,_,rfl,ql'.2.2.1,_,_,rfl,rfl,PT3.ls ql' mq,(by have:=qr ql' mq;rw[CY,sizeLine_eq];omega),?_⟩
    have PM:=PT3.more (z:=z)
    refine k2 _ _ ⟨_,_,rfl,fun b o hb=>?_,PM,?_,?_,?_,?_,?_⟩
    ·rw[zm (zB hb (qf ql' mq))]
     exact s3 _ _ (s2 _ _ hb)
    ·rw[dz,tk,Ed,← fo,dz]
     exact (Gy (p:=qD ql') eb).symm
    ·rw[dh] at ql ⊢
     exact El ql
    ·intro x hx
     rcases dA.mp hx with hx | hx
     ·exact qf x (dA.mpr (.inl hx))
     ·rw[dI.mp hx]
      exact qf ql' mq
    ·intro x hx
     rcases dA.mp hx with hx | hx
     ·exact El (qr x (dA.mpr (.inl hx)))
     ·rw[dI.mp hx]
      show (ql'.2.2.2++[z]).length≤i+1
      rw[dh,Da]
      exact Ej (qr ql' mq)
    ·intro _ z
     exact fI _ (by simp) z
  ·rintro σ H2 ⟨x2,qs,rfl,s2,PT,fo,_⟩
   rw[CY,Dj] at fo
   exact⟨_,rfl,q p qs H2 s2 p0 PT fo⟩
set_option maxHeartbeats 8000000 in
theorem Rv {C:Addr} {J:Nat} (hJ:3≤J) (F:qQ K "book_of" "book_of" (top 87) f fd) (G:jP mg) (NB:ug P w K mg base zO 1 "RuleBook" C ["self"] (xf C)) (C1:qP P w K mg base zO 3 "parts_of" ["rows"] P6) (C2:qP P w K mg base zO 1 "rise" ["things"] (Yw K)) (M:qW P w K mg base zO (J+1) C "put" ["self","year","rows"] (VN C)):zH P w K mg base zO (J+2) f fd ["text"] (Lo C):=by
 have nd:(["text","book","parts","part"]:List Str).Nodup:=by decide +kernel
 have nc:(["part"]:List Str).Nodup:=by decide +kernel
 have l1:1≤J+1:=fu _ _
 have l3:3≤J+1:=El hJ
 refine F.ok (N:=["text","book","parts","part"]) (by walk_at"s") (fun vs H Q E h=>?_) (fun cdv A outer s H vs Q E hr h=>?_)
 ·obtain⟨es,rfl,_⟩:=h
  rfl
 ·obtain⟨es,rfl,yo,up,ne,el,q⟩:=h
  refine' ⟨_,(zg (zR (qM (qF (zx qp rfl G.isinstance zS (za (pv 0) (za (yF (v:=.ty "str") rfl G.str qL rfl) zd))))) qb zA)
   (zg (zF (i:=1) nd rfl (Or.inl rfl) (lB (j:=J) NB hr (dG (by decide) hJ) zt))
   (zg (zR (zE qC (pv 0) zC (zD _)) (zi (zu (pv 1))) zA)
   (zg (zF (i:=2) nd rfl (Or.inl rfl) (zj C1 hr l3 zt (za (yH PySem.F.plainAttrs_str PySem.F.slot_str_split PySem.F.type_str_split kj (pv 0) (za zC zd)) zd)))
   (zg (zR (qM (qF (zj C2 hr l1 zt (za ?comp zd)))) qb zA)
   (zg (g8 (tb:=bB (vO K (zM 2)) (z4 3) (rJ (Tu C "put" (VN C) E0 (zM 1) (qi (jC (wL K) (zM 3) (tC (.int 0))) (qi (jC (wL K) (zM 3) (tC (.int 1))) yn))))) ?body)
   (zi (zu (pv 1))))))))),?main⟩
  case comp =>
   refine' z8 (Nc:=["part"]) (cl:=[]) (src:=[none]) (wi:=vO K (zM 2)) (g:=z4 0) (tt:=qK) (te:=jC (wL K) (zM 0) (tC (.int 0)))
    (by walk_at"c0") rfl (q9 (pv 2)) ?hb
   case hb =>
    intro fp C' s' H'
    exact⟨zJ (i:=0) nc rfl (Or.inl rfl),qd,zz zK (pv 0) ze⟩
  case body =>
   intro pn
   exact zi (jt PassesOwn.never rfl (q9 (pv 2)) (zJ (i:=3) nd rfl (Or.inl rfl)) (zi (qm (vY M hr (CZ _) zt (pv 1) (za (zz zK (pv 3) ze) (za (zz zK (pv 3) ze) zd))))))
  walk_at"d5"
  obtain⟨e0,er,rfl⟩:∃ e0 er,es=e0::er:=by
   cases es with
   | nil=>exact absurd rfl ne
   | cons a b=>exact⟨a,b,rfl⟩
  obtain⟨sp,bl,sp2⟩:=LH yo
  have rl:=Qg yo
  have rt:=VD yo
  have tl:=Td yo el
  refine⟨_,rfl,_,_,_,_,true,rfl,rfl,.inl (.str _),rfl,true,rfl,qY ?_⟩
  refine fun B d0 B00 d00 dB0=>⟨B,d0,rfl,zp,fun t H2 t00 BK fr=>⟨rfl,?_⟩⟩
  have ups:zw H (upd (upd H d0 (.own B)) B (.ins C d0 [])):=fun b o hb=>by
   rw[zm (zB hb B00),zm (zB hb d00)]
   exact hb
  have s2:zw H H2:=fun b o hb=>fr b o (ups b o hb) (zB hb B00)
  have t0:H t=none:=ups.free t00
  clear ups fr t00 dB0 d00
  have nz:¬ (V.str (OL (e0::er))=V.str ""):=fun c=>by
   injection c with c
   rw[c] at bl
   exact absurd bl (by decide +kernel)
  refine⟨_,rfl,rfl,_,rfl,?_⟩
  rw[decide_eq_false nz]
  refine qY ⟨_,rfl,rfl,_,_,rfl,rfl,rfl,by rw[sizeLine_eq];omega,?_,?_⟩
  ·have e3:(("\n":Str)).length=1:=by decide +kernel
   rw[e3,Cc,sp2,sizeLine_eq]
   have:(e0::er).length≤40:=el
   omega
  rw[sp]
  refine fun l H3 s3 n3 e3=>⟨l,_,rfl,e3,by have:(e0::er).length≤40:=el;omega,fun z hz=>dG (rt z hz) (by decide),fun z hz=>?_,fun p qs H4 s4 p0 PT fo=>?_⟩
  ·have:z=JS e0.1:=(Option.some.inj hz).symm
   rw[this]
   exact (rh (yo e0 dq).1 (yo e0 dq).2.1).1
  rw[MF yo,DC] at fo
  have ql:qs.length=(e0::er).length:=by
   have:=congrArg List.length fo
   rw[CY,CY] at this
   exact this
  have qk:qs.map (fun q=>q.2.1)=(e0::er).map (·.1):=by
   have:=congrArg (List.map (·.1)) fo
   rw[dB,dB] at this
   exact this
  have S4:=s2.trans (s3.trans s4)
  have B4:=BK.fr fun b o h=>s4 _ _ (s3 _ _ h)
  refine⟨_,rfl,p,rfl,⟨_,zZ.of PT.at_⟩,fun D hD=>y9 (qX (zZ.of PT.at_)) (OB PT) hD (by rw[ql,sizeLine_eq];omega) (fun q=>.int q.2.1) (fun x hx v H5 R s5 e5 r=>?_) (fun H5 s5 e5=>?_)⟩
  ·obtain⟨rfl,ht⟩:=e5
   exact⟨_,rfl,x.1,_,_,_,rfl,rfl,qh.of ht,rfl,r _ (zw.refl _)⟩
  have e5':H5 D=some (.lst (((e0::er).map (·.1)).map V.int)):=by
   rw[e5,← qk,dB]
   rfl
  refine⟨D,_,rfl,zZ.of e5',by rw[CY];omega,up,fun H6 s6=>⟨true,rfl,qY ?_⟩⟩
  have PT6:=PT.same (s5.trans s6)
  have B6:=B4.fr fun b o h=>s6 _ _ (s5 _ _ h)
  have S6:=S4.trans (s5.trans s6)
  have et:H6 t=some (.dK (vv [])):=B6.dic
  refine⟨_,rfl,p,rfl,⟨_,zZ.of PT6.at_⟩,vI (K:=K) (a:=p) (xs:=qs.map fun q=>V.ref q.1) (fun i σ H'=>∃ x3 bs,σ = [some (.str (OL (e0::er))),some (.ref B),some (.ref p),x3]∧xx C H' B d0 t bs∧bs.map yr=(e0::er).take i∧(∀ b o,H6 b=some o→b≠t→H' b=some o)∧∀ b∈bs,H b.2.1=none) ⟨_,[],rfl,B6,rfl,fun b o h _=>h,(fun b h=>nomatch h)⟩ (fun i σ H' _ z=>?_) ?_ ?_⟩
  ·obtain⟨_,_,_,_,_,k,_⟩:=z
   exact zZ.of (k _ _ PT6.at_ (yQ PT6.at_ et (by intro z;cases z)))
  ·rintro i x σ H7 hx ⟨x3,bs,rfl,B7,y7,k7,f7⟩ E7 kk
   rw[dj] at hx
   obtain⟨qx,hq,rfl⟩:=dC.mp hx
   have mq:=dZ hq
   have he:((e0::er).map fun e=>(e.1,e.2.map yK))[i]? = some (qD qx):=by rw[← fo,dj,hq];rfl
   rw[dj] at he
   obtain⟨ex,hex,eqx⟩:=dC.mp he
   have mex:=dZ hex
   have yk:=yo ex mex
   have eY:qx.2.1=ex.1:=(congrArg (·.1) eqx).symm
   have eR:qx.2.2.2=ex.2.map yK:=(congrArg (·.2) eqx).symm
   have tp7:=k7 _ _ (PT6.tp qx mq) (yQ (PT6.tp qx mq) et (by intro z;cases z))
   have ls7:=k7 _ _ (PT6.ls qx mq) (yQ (PT6.ls qx mq) et (by intro z;cases z))
   rw[eR,dB] at ls7
   rw[eY] at tp7
   have hi:i<(e0::er).length:=(dF.mp hex).1
   have bl7:bs.length≤40:=by
    have:=congrArg List.length y7
    rw[CY,dP] at this
    omega
   refine⟨_,rfl,B,d0,_,rfl,B7.ins,rfl,_,rfl,qx.1,_,_,_,rfl,rfl,qh.of tp7,rfl,_,rfl,qx.1,_,_,_,rfl,rfl,qh.of tp7,rfl,B,d0,t,qx.2.2.1,bs,ex.1,ex.2,rfl,B7,yk.1,yk.2.1,ls7,yk.2.2,by omega,fun a H8 a0 B8 k8=>kk _ _ ⟨_,_,rfl,B8,?_,fun b o h n=>k8 _ _ (k7 _ _ h n) n,?_⟩⟩
   ·have nw:∀ b∈bs,b.1≠ex.1:=fun b hb e=>by
     have mb:yr b∈(e0::er).take i:=by rw[← y7];exact dk.mpr ⟨b,hb,rfl⟩
     obtain⟨j,hj⟩:=DU.mp mb
     have ji:j<i:=by
      have:=(dF.mp hj).1
      rw[dP] at this
      omega
     rw[EN ji] at hj
     have p:=DP.mp up j i (by rw[CY];omega) (by rw[CY];exact hi) ji
     rw[EB,EB,(dF.mp hj).2,(dF.mp hex).2] at p
     have p:b.1<ex.1:=p
     omega
    rw[Gi nw,dz,y7,Dg,hex]
    rfl
   ·intro b hb
    rcases Qz hb with rfl | hb
    ·have S7:∀ b o,H b=some o→H7 b=some o:=fun b o h=>k7 _ _ (S6 _ _ h) (zB h t0)
     cases ha:H a with
     | none=>rfl
     | some o=>rw[S7 _ _ ha] at a0;cases a0
    ·exact f7 b hb
  ·rintro σ H7 ⟨x3,bs,rfl,B7,y7,k7,f7⟩
   rw[CY,ql,Dj] at y7
   exact⟨_,rfl,q B d0 t bs H7 (fun b o h=>k7 _ _ (S6 _ _ h) (zB h t0)) t0 f7 B7 y7⟩
end
end K15
namespace Pg
theorem GP:∀ {l m:List Int},l.Pairwise (· < ·)→m.Pairwise (· < ·)→(∀ z,z∈l↔z∈m)→l=m
 | [],[],_,_,_=>rfl
 | [],b::m,_,_,h=>absurd ((h b).mpr dq) (by simp)
 | a::l,[],_,_,h=>absurd ((h a).mp dq) (by simp)
 | a::l,b::m,h1,h2,h=>by
  rw[DE] at h1 h2
  have e:a=b:=by
   rcases dc.mp ((h a).mp dq) with e | e
   ·exact e
   ·rcases dc.mp ((h b).mpr dq) with e' | e'
    ·exact e'.symm
    ·have:=h2.1 a e
     have:=h1.1 b e'
     omega
  subst e
  congr 1
  refine GP h1.2 h2.2 fun z=>⟨fun hz=>?_,fun hz=>?_⟩
  ·rcases dc.mp ((h z).mp (dQ _ hz)) with e | e
   ·have:=h1.1 z hz
    omega
   ·exact e
  ·rcases dc.mp ((h z).mpr (dQ _ hz)) with e | e
   ·have:=h2.1 z hz
    omega
   ·exact e
end Pg
namespace L2
open PySem PySem.Spec PyProof.Rows
theorem Pk (its:List Value):slicePick its.toArray none none (some 1)=its.toArray:=by
 have e:slicePick its.toArray none none (some 1)=slicePick its.toArray none none none:=by
  unfold slicePick
  rfl
 rw[e,wG]
 simp[HT.vh]
noncomputable def mE (k:Int) (xs:List V):List V:=if k=1 then xs else xs.reverse
section
variable {X:Cx}
theorem Rx {e st:Expr} {te ts:TE} {p2 pos:Pos} (he:PE X e te) (hst:PE X st ts) :
  PE X (.Subscript e (.Slice none none (some st) p2) pos) (fun σ H Q=>te σ H fun x H1=>ts σ H1 fun y H2=>∃ k:Int,y = .int k∧(k=1∨k = -1)∧∃ a xs,x = .ref a∧zZ X.K H2 a xs∧Qy H2 (.lst (mE k xs)) Q):=by
 intro pins s σ H Q I h
 refine Subscript_ (yc (he pins s σ H _ I h) fun v s1 ⟨x,H1,I1,r1,q1⟩=>?_)
 refine wpAny_Slice ?_
 rw[evalPart_none]
 refine wpAny_pure (wpAny_pure ?_)
 rw[evalPart_some]
 refine yc (hst pins s1 σ H1 _ I1 q1) fun vs s4 ⟨y,H4,I4,r4,k,ey,hk,a,xs,ex,hx,q⟩=>?_
 subst ey ex
 cases r1
 obtain⟨t,rfl⟩:=r4
 have I5:zI X pins σ H4 { s4 with heap:=s4.heap.push { cls:=.type "slice",data:=.fields #[.none,.none,.int k t] } }:=I4.kept (t':=s4.toks) fun b ob q=>dH _ q
 obtain⟨its,r,ht,hz⟩:=I5.list hx
 have hlen:=r.length
 show wpAny (model X.prog X.w) X.A (subscriptTail e (.Slice none none (some st) p2) (.ref a) (.ref s4.heap.objs.size)) (EP X pins σ Q) X.xe { s4 with heap:=s4.heap.push { cls:=.type "slice",data:=.fields #[.none,.none,.int k t] } }
 refine tail_any (ops:=[.ref a,.ref s4.heap.objs.size]) (T:="list") ht.isList.typeIs slot_list_getitem.lookup ?_ (by with_unfolding_all rfl)
 rcases hk with rfl | rfl
 ·refine wpAny_getItem_list_slice ht.isList (Heap.IsSliceOf.new ..) .none .none (.int 1 t) (by decide) ?_ (by rw[dD];omega)
  rw[Pk]
  refine⟨.ref _,_,I5.laid (t':=s4.toks) (o:=.lst xs) (fun b ob q=>dH _ q) (CZ _) ?_,rfl,q.at (I5.hok.fresh (CZ _))⟩
  exact⟨hz,_,0,r,dR _ rfl⟩
 ·refine wpAny_getItem_list_slice ht.isList (Heap.IsSliceOf.new ..) .none .none (.int (-1) t) (by decide) ?_ (by rw[dD];omega)
  rw[ly]
  refine⟨.ref _,_,I5.laid (t':=s4.toks) (o:=.lst xs.reverse) (fun b ob q=>dH _ q) (CZ _) ?_,rfl,q.at (I5.hok.fresh (CZ _))⟩
  exact⟨by rw[Dh];exact hz,_,0,r.reverse,dR _ rfl⟩
end
section
variable {X:Cx} {A:Around} {E:Value→Shared→Prop} {pins:List (Addr × Obj)} {σ:St} {H:Hp} {s:Shared} {r:Addr} {Q:VK} {OK:List Int→Prop}
theorem xR (hc:∀ R:List Value→Shared→Prop,(∀ s1 vs zs,IntsAre vs zs→OK zs→vs.length<64→zI X pins σ H s1→R vs s1)→wpAny (model X.prog X.w) A.in1 (collect (.ref r)) R E s) (q:∀ zs zs':List Int,OK zs→zs'.Perm zs→zs'.Pairwise (·≤·)→Qy H (.lst (zs'.map V.int)) Q) :
  wpAny (model X.prog X.w) A (call (.builtin "sorted") [.ref r]) (EP X pins σ Q) E s:=by
 refine Calls.call_function_entry kind_sorted plain_sorted entry_sorted (args_sorted1 _) ?_
 unfold Builtin.«sorted»
 refine wpAny_bind (m:=checkCount "sorted" 1 1 _) (wpAny_pure (wpAny_bind (hc _ fun s1 vs zs hS ok h64 I1=>?_)))
 refine wpAny_bind (wpAny_newList ?_ (by rw[sizeLine_eq];omega))
 have hD:(s1.heap.push (seqObj "list" vs.toArray 0)).get? s1.heap.objs.size=some (seqObj "list" vs.toArray 0):=dR _ rfl
 refine wpAny_bind (wpAny_holding (wpAny_call_entry slot_list_sort ⟨_,hD,rfl⟩ entry_list_sort (list_sort_tree hD hS h64 fun out zs' a1 a2 a3=>⟨_,rfl,?_⟩) (args_list_sort _)))
 obtain⟨c,he⟩:=sortedHeap_at (out:=out) hD
 have J:=I1.kept (t':=s1.toks) (h':=sortedHeap (s1.heap.push (seqObj "list" vs.toArray 0)) s1.heap.objs.size vs out) fun b o e=>by
  have lt:=dw e
  rw[sortedHeap_old (dO lt) (by rw[DZ];exact eW lt)]
  exact dH _ e
 have hn:H s1.heap.objs.size=none:=I1.hok.fresh (CZ _)
 have rv:=Jx a1
 have sl:zs'.length<64:=by
  have:=rv.length
  rw[CY] at this
  have l2:=(Jx hS).length
  rw[CY] at l2
  have:=a2.length_eq
  omega
 refine wpAny_pure ⟨_,rfl,.ref _,_,J.adopt (us:=out.toList) (I1.fpOk (CZ _) hn) (by rw[Array.toArray_toList];exact he) rv ?_,rfl,(q zs zs' ok a2 a3).at hn⟩
 rw[CY,sizeLine_eq]
 omega
end
theorem lA {zs:List Int} {its:List Value} (r:zX (zs.map V.int) its):IntsAre its zs:=by
 induction zs generalizing its with
 | nil=>cases r;exact .nil
 | cons x l ih =>
  cases r with
  | cons a b =>
   obtain⟨t,rfl⟩:=a
   exact .cons x t (ih b)
noncomputable def Rg:List V→Hp→VK→Prop:=fun xs H Q=>∃ (d:Addr) (kvs:List (yp × V)) (ks:List Int),xs=[.ref d]∧Rd H d (.dK kvs)∧kvs.map (·.1)=ks.map Sum.inl∧ks.length<64 ∧
  ∀ zs:List Int,zs.Perm ks→zs.Pairwise (·≤·)→Qy H (.lst (zs.map V.int)) Q
theorem XB {X:Cx} (hcalm:X.calm=true):jD X (.builtin "sorted") Rg:=by
 intro pins s σ H xs us Q I r h
 obtain⟨d,kvs,ks,rfl,hd,hk,h64,q⟩:=h
 obtain⟨u,rfl,ru⟩:=vN r
 cases ru
 obtain⟨hz,hsm,vs,rel,dd⟩:=JJ I.hok hd
 obtain⟨ep,hat⟩:=dd.dictAt
 have kl:kvs.length=ks.length:=by
  have:=congrArg List.length hk
  rwa [CY,CY] at this
 have rl:ks.length=vs.length:=by rw[← kl];exact Paired.length rel
 refine xR (OK:=fun zs=>zs=ks) (fun R hR=>PySem.W.kdu_collect (A:=X.A.in1) (PySem.W.kdl_dict (knd:=ya X.prog X.w) (kvs:=vs) (ep:=ep) hsm) (I.ok.hd hcalm) hat (by rw[← rl,sizeLine_eq];omega) fun h' tk acc hk hacc=>hR _ _ _ (lA (zs:=ks) ?_) rfl ?_ (I.kept (t':=tk) hk)) fun zs zs' e=>by
  subst e
  exact q zs'
 ·refine Zy (by rw[CY,show acc.toList.length=vs.length from (De).trans hacc.1];exact rl) fun i a b e1 e2=>?_
  rw[dj] at e1
  obtain⟨z,hz,rfl⟩:=dC.mp e1
  obtain⟨k,x,k1,k2⟩:=hacc.2 i b (by rw[← EY];exact e2)
  obtain⟨pp,f1,f2,f3⟩:=Jz rel k1
  have g1:(kvs.map (·.1))[i]? = some pp.1:=by rw[dj,f1];rfl
  rw[‹kvs.map (·.1)=_›,dj,hz] at g1
  have g1:(Sum.inl z:yp)=pp.1:=Option.some.inj g1
  have f2:pp.1=k:=f2
  have g:=GD k2
  rw[← f2,← g1] at g
  exact g
 ·rw[show acc.toList.length=vs.length from (De).trans hacc.1,← rl]
  exact h64
end L2
namespace Pg
open PySem PySem.NumText L2 Builtin Builtin.Str
theorem Gn {Y:Int} (h9:Y≤9999):(dg Y.toNat).length≤4:=Zq (by decide) (by omega)
theorem RW {Y:Int} (h:0≤Y) (h9:Y≤9999):("year ":Str)++jx "0" (4 - ((toString Y:Str).length:Nat))++(toString Y:Str)=JS Y:=by
 have l4:=Gn h9
 apply V8
 rw[uU h,qT,qT,GA,yO h,zY,yO h,d8]
 congr 1
 unfold jx uS
 have e0:("0":Str)=⟨#[48]⟩:=by decide +kernel
 rw[e0,show (4 - (((dg Y.toNat).length:Nat):Int)).toNat=4 - (dg Y.toNat).length by omega]
 congr 1
 generalize 4 - (dg Y.toNat).length=n
 simp
theorem L3 {a ks:List Int} (up:ks.Pairwise (· < ·)) (pa:a.Perm ks) (sa:a.Pairwise (·≤·)):a=ks:=by
 have nd:ks.Nodup:=up.imp fun h=>by omega
 have ua:a.Pairwise (· < ·):=(sa.and (pa.nodup_iff.mpr nd)).imp fun⟨h1,h2⟩=>by omega
 exact GP ua up fun z=>pa.mem_iff
theorem gk (z:Str) (n:Int):(jx z n).length=n.toNat*z.length:=by
 rw[zY]
 unfold jx
 rw[zY z]
 show ((List.replicate n.toNat z.cps.toList).flatten).length=_
 rw[List.length_flatten,ff,List.sum_replicate_nat]
noncomputable def vC (k:Int) (rs:List Rk):List Rk:=if k=1 then rs else rs.reverse
noncomputable def gT:Sp:=fun vs H Q _=>∃ (o:Addr) (fs:List Be) (k:Int),vs=[.ref o,.int k]∧(k=1∨k = -1)∧Bb H o fs∧(fs.map (·.1)).Pairwise (fun x y:Int=>x<y)∧(∀ e∈fs,0≤e.1∧e.1≤9999∧j4 e.2.2)∧fs.length≤40∧∀ H',zw H H'→Q (.str (OL (fs.map fun e=>(e.1,vC k e.2.2)))) H'
theorem XD {H:Hp} {ys:List V} {rs:List Rk} {P:Hp→V→Rk→Prop} (k:Int) (T:qN H ys rs P):qN H (mE k ys) (vC k rs) P:=by
 unfold mE vC
 split
 ·exact T
 ·exact RE T
theorem QD {k:Int} {rs:List Rk} (h:j4 rs):j4 (vC k rs):=by
 unfold vC
 split
 ·exact h
 ·exact h.perm (List.reverse_perm rs)
noncomputable def WM (C:Addr):Sp:=fun vs H Q _=>∃ (B dx t:Addr) (es:List Be) (Y:Int),vs=[.ref B,.int Y]∧xx C H B dx t es∧es.length≤100∧0≤Y∧Y≤9999∧ZZ es Y=[]∧∀ H',zw H H'→Q (.bl true) H'
theorem Nw (a b:List (Int × List Rk)):ZJ (a++b)=ZJ a++ZJ b:=by
 unfold ZJ
 rw[dz,fk]
theorem Mp (e:Int × List Rk):ZJ [e]=JS e.1::e.2.map yK:=by
 unfold ZJ
 simp
end Pg
namespace L2
open PySem PySem.Spec PyProof.Rows
noncomputable def bz (C:CT) (R:XK) (tb th:TS):TS:=fun D σ H=>tb D σ H∧∀ (ea:Addr) (oe:Obj) (vs:Array Value) (cls:Value) (σ':St) (H':Hp),R cls none H'→H' ea=none→oe.data = .fields vs→C H' vs→th D σ' (upd H' ea (nF ea oe))
theorem Mf {C:CT} [ct:XZ C] {X:Cx} {x:Str} {c:Addr} {R:XK} {tb th:TS} {body suite:List Stmt} {b₀:Stmt} {np hpos pos:Pos} (hs:X.stack=X.env::X.outer) (hf:X.env.frame=some X.env.locals) (hg:Gl X x) (hm:X.mg x=some (.ref c)) (hR:∀ cls o H,R cls o H→PySem.W.exmOne X.K cls (.ref c)=some true) (hb:∀ pn,jT (X.tr pn (MQ C X pn R)) body tb) (hh:∀ pn ea E,jT (X.hdl pn ea E) (b₀ :: suite) th) (hdb:(x==("__debug__":Str))=false:=by decide) :
  PS X (.Try body [.ExceptHandler (some (.Name x np)) none (b₀ :: suite) hpos] [] [] pos) (bz C R tb th):=by
 intro pins s σ H D I h
 obtain⟨h1,h2⟩:=h
 have ok:=I.ok
 refine wpAny_Try_except (wpAny_mono (hb (X.pn++pins) [] s σ H D I.tr h1) (fun f s1 q=>?_) fun e s1 q=>?_)
 ·cases f with
  | next =>
   obtain⟨σ',H',I',q⟩:=q
   exact wpAny_execs_nil ⟨σ',H',I'.ofTr ok,q⟩
  | brk=>obtain⟨σ',H',I',q⟩:=q;exact⟨σ',H',I'.ofTr ok,q⟩
  | cont=>obtain⟨σ',H',I',q⟩:=q;exact⟨σ',H',I'.ofTr ok,q⟩
  | ret u=>obtain⟨v,σ',H',I',r,q⟩:=q;exact⟨v,σ',H',I'.ofTr ok,r,q⟩
 ·obtain⟨ea,cls,fl,σ1,H1,rfl,I1,F1,r1⟩:=q
  refine gN (X:=X.tr (X.pn++pins) fun _ _=>True) I1 F1 hs hf I1.ok.frames fun s2 I2 F2=>?_
  refine Zu I2 F2 fun s3 I3 F3=>?_
  have J3:zI (X.hdl (X.pn++pins) ea fun _ _=>True) [] σ1 H1 s3:=I3.toHdl ok
  obtain⟨_,oe3,_,he3,hc3,_⟩:=id F3
  refine wpAny_handleBy_cons (codeAny_handlers_test (u5 J3 hg hm ?_ hdb)) (by intro q;cases q)
  have LT:PySem.W.Looks (model X.prog X.w) s3.heap (typeOf (.ref ea)) cls:=by
   rw[← hc3.1]
   exact (PySem.W.Looks.ld he3).andThen .now
  refine (PySem.W.exm_one J3.kIn LT (hR cls none H1 r1)).here ?_
  refine codeAny_handlers_suite ?_
  refine Zu J3 F3.toHdl fun s4 J4 F4=>?_
  obtain⟨f4,oe,vs,he,hc,hd,h2',_⟩:=F4
  have J5:=J4.hold f4 he
  have J5':∀ E,zI (X.hdl (X.pn++pins) ea E) [] σ1 (upd H1 ea (nF ea oe)) s4:=fun E=>⟨ok.hdl,J5.os,J5.bare,J5.base,J5.loc,J5.cell,J5.free,J5.freeC,J5.pin,J5.hok,J5.len⟩
  refine wpAny_mono (hh (X.pn++pins) ea _ [] s4 _ _ D (J5' _) (h2 ea oe vs cls σ1 H1 r1 f4.1 hd h2')) (fun f s7 q=>?_) fun _ _ z=>z
  cases f with
  | next=>obtain⟨σ',H',I',q⟩:=q;exact⟨σ',H',I'.ofHdl ok,q⟩
  | brk=>obtain⟨σ',H',I',q⟩:=q;exact⟨σ',H',I'.ofHdl ok,q⟩
  | cont=>obtain⟨σ',H',I',q⟩:=q;exact⟨σ',H',I'.ofHdl ok,q⟩
  | ret u=>obtain⟨v,σ',H',I',r,q⟩:=q;exact⟨v,σ',H',I'.ofHdl ok,r,q⟩
end L2
namespace K15
open PySem PySem.NumText L2 Pg
seal PE PA PT PW PS jT PG uv PI ui PO PK
section
variable {P:Program} {w:World} {K:BFr} {mg:Str→Option Value} {base:Heap} {f:Addr} {fd:FuncData} {d:Nat→Addr} {cR:Addr}
set_option maxHeartbeats 8000000 in
theorem nY (F:qQ K "_law_text" "_law_text" (top 109) f fd) (G:jP mg) (C1:qP P w K mg base zO 6 "_law_row" ["_law_rule_here"] (kE 4)):zH P w K mg base zO 7 f fd ["_law_own","_law_step"] gT:=by
 have nd:(["_law_own","_law_step","_law_rows","_law_year","_law_figures"]:List Str).Nodup:=by decide +kernel
 have nc:(["_law_rule_here"]:List Str).Nodup:=by decide +kernel
 refine F.ok (N:=["_law_own","_law_step","_law_rows","_law_year","_law_figures"]) (by walk_at"s") (fun vs H Q E h=>?_) (fun cdv A outer s H vs Q E hr h=>?_)
 ·obtain⟨o,fs,k,rfl,_⟩:=h
  rfl
 ·obtain⟨o,fs,k,rfl,hk,OW,up,yo,fl,q⟩:=h
  have hu:=WC hr
  refine' ⟨_,(zg (zF (i:=2) nd rfl (Or.inl rfl) (qy zd))
    (zg (jt PassesOwn.never rfl (q9 (zx (XB rfl) rfl G.sorted PyProof.Rows.boot_sorted (za (pv 0) zd))) (zJ (i:=3) nd rfl (Or.inl rfl)) (zg (zF (i:=4) nd rfl (Or.inl rfl) (z6 qo rfl G.str qL (za (pv 3) zd)))
    (zg (qm (yH PySem.F.plainAttrs_list PySem.F.slot_list_append PySem.F.type_list_append jI (pv 2) (za (zq qB (zq qB zC (zq xm zC (zq vn ze (zx qU rfl G.len boot_len (za (pv 4) zd))))) (pv 4)) zd)))
    (zi (zF (i:=2) nd rfl (Or.inl rfl) (zq nj (pv 2) ?comp))))))
    (zi (zu (yH PySem.F.plainAttrs_str PySem.F.slot_str_join PySem.F.type_str_join yZ zC (za (pv 2) zd)))))),?main⟩
  case comp =>
   refine' z8 (Nc:=["_law_rule_here"]) (cl:=[]) (src:=[none]) (g:=z4 0) (tt:=qK) (te:=fun σ H Q=>qi (zM 0) yn σ H fun vs H1=>kE 4 vs H1 Q E0)
    (by walk_at"c0") rfl (q9 (Rx (kr hu (pv 0) (pv 3) (fun _ _=>rfl)) (pv 1))) ?hb
   case hb =>
    intro fp C' s' H'
    exact⟨zJ (i:=0) nc rfl (Or.inl rfl),qd,zj C1 hr (by decide) zt (za (pv 0) zd)⟩
  walk_at"d5"
  refine⟨qv rfl,fun r0 H1 s1 r00 e1=>?_⟩
  have O1:=OW.same s1
  refine⟨_,rfl,o,vv fs,fs.map (·.1),rfl,.inl O1.dic,(by unfold vv;rw[dB,dB];rfl),(by rw[CY];omega),fun zs p1 p2 l H2 s2 l0 e2=>?_⟩
  obtain rfl:zs=fs.map (·.1):=L3 up p1 p2
  refine⟨l,rfl,⟨_,zZ.of e2⟩,vI (K:=K) (a:=l) (xs:=(fs.map (·.1)).map V.int) (fun i σ H'=>∃ r x3 x4,σ = [some (.ref o),some (.int k),some (.ref r),x3,x4]∧H r=none∧r≠l∧H' r=some (.lst ((ZJ ((fs.take i).map fun e=>(e.1,vC k e.2.2))).map V.str))∧zw H H'∧H' l=some (.lst ((fs.map (·.1)).map V.int))) ⟨r0,_,_,rfl,r00,zB e1 l0,s2 _ _ e1,s1.trans s2,e2⟩ (fun i σ H' _ z=>?_) ?_ ?_⟩
  ·obtain⟨_,_,_,_,_,_,_,_,z⟩:=z
   exact zZ.of z
  ·rintro i x σ H3 hx ⟨r,x3,x4,rfl,r0',rl,er,s3,el⟩ E3 kk
   rw[dB,dj] at hx
   obtain⟨e,he,rfl⟩:=dC.mp hx
   have me:=dZ he
   have yk:=yo e me
   dsimp only [Function.comp]
   have tl4:(toString e.1:Str).length≤4:=by rw[zY,yO yk.1];exact Gn yk.2.1
   have z0:("0":Str).length=1:=by decide +kernel
   have y5:("year ":Str).length=5:=by decide +kernel
   have tm:(jx "0" (4 - ((toString e.1:Str).length:Nat))).length≤4:=by rw[gk,z0];omega
   have YO:YU ((fs.take i).map fun e=>(e.1,vC k e.2.2)):=fun e he=>by
    obtain⟨b,hb,rfl⟩:=dk.mp he
    have hb:=eF hb
    exact⟨(yo b hb).1,(yo b hb).2.1,QD (yo b hb).2.2⟩
   have bl:=Qg YO
   rw[CY,dP] at bl
   refine⟨_,rfl,_,rfl,ZH yk.1 (by have:=yk.2.1;omega),?_⟩
   refine⟨_,rfl,.inl ⟨rfl,_,zZ.of er⟩,_,rfl,_,rfl,by rw[sizeLine_eq];omega,_,_,rfl,rfl,_,_,rfl,rfl,by omega,by omega,by rw[z0,sizeLine_eq];omega,_,_,rfl,rfl,by rw[y5,sizeLine_eq];omega,_,rfl,_,_,rfl,rfl,by rw[kc,y5,sizeLine_eq];omega,r,_,_,rfl,rfl,er,by rw[CY,sizeLine_eq];omega,?_⟩
   rw[RW yk.1 yk.2.1]
   have k4:∀ b ox,H3 b=some ox→b≠r→(upd H3 r (.lst ((ZJ ((fs.take i).map fun e=>(e.1,vC k e.2.2))).map V.str++[.str (JS e.1)]))) b=some ox:=fun b ox h n=>by rw[zm n];exact h
   have e4:(upd H3 r (.lst ((ZJ ((fs.take i).map fun e=>(e.1,vC k e.2.2))).map V.str++[.str (JS e.1)]))) r=some (.lst ((ZJ ((fs.take i).map fun e=>(e.1,vC k e.2.2))).map V.str++[.str (JS e.1)])):=zp
   generalize upd H3 r (.lst ((ZJ ((fs.take i).map fun e=>(e.1,vC k e.2.2))).map V.str++[.str (JS e.1)]))=H4 at k4 e4
   have s4:zw H H4:=fun b ox h=>k4 _ _ (s3 _ _ h) (zB h r0')
   have l4:=k4 _ _ el rl.symm
   have O4:=OW.same s4
   obtain⟨ys,hys,T⟩:=O4.rt e me
   have gd:uY H4 o (.int e.1) (some (.ref e.2.1)):=by
    rw[← xF O4.nd me]
    exact uY.k (k:=Sum.inl e.1) O4.dic
   have few:=(QD (k:=k) yk.2.2).few
   refine⟨_,rfl,_,rfl,_,rfl,o,_,rfl,gd,_,rfl,k,rfl,hk,e.2.1,ys,rfl,zZ.of hys,fun p H5 s5 n5 e5=>⟨p,rfl,⟨_,zZ.of e5⟩,fun D hD=>y9 (qX (zZ.of e5)) (XD k (T.same s5)) hD (by rw[sizeLine_eq];omega) (fun r=>V.str (yK r)) (fun r hm v H6 R s6 rt rr=>?_) (fun H6 s6 e6=>?_)⟩⟩
   ·exact⟨_,rfl,_,r,rfl,rt,(QD yk.2.2).gd r hm,fun H7 s7=>rr _ s7⟩
   have s46:=s5.trans s6
   refine⟨r,D,_,_,rfl,rfl,s46 _ _ e4,e6,by rw[dh,CY,CY,Da,sizeLine_eq];omega,fun r' H7 s7 n7 e7=>kk _ _ ⟨r',_,_,rfl,(s4.trans s46).free n7,(zB (s46 _ _ l4) n7).symm,?_,s4.trans (s46.trans s7),s7 _ _ (s46 _ _ l4)⟩⟩
   rw[e7,Dg,he,dz,Nw,dz]
   show some (HO.lst _)=some (HO.lst (_++(ZJ [(e.1,vC k e.2.2)]).map V.str))
   rw[Mp,dN,dB,d8]
   rfl
  ·rintro σ H3 ⟨r,x3,x4,rfl,r0',rl,er,s3,el⟩
   rw[CY,CY,Dj] at er
   have YO:YU (fs.map fun e=>(e.1,vC k e.2.2)):=fun e he=>by
    obtain⟨b,hb,rfl⟩:=dk.mp he
    exact⟨(yo b hb).1,(yo b hb).2.1,QD (yo b hb).2.2⟩
   have bl:=Qg YO
   rw[CY] at bl
   exact⟨rfl,_,rfl,_,_,r,rfl,rfl,zZ.of er,(yi (m:=2000) (k:=360) (VD YO) (by omega) (by decide +kernel) rfl).1,q H3 s3⟩
theorem lx {Cs:Nat→Addr} {C cM cN:Addr} {j:Nat} (F:qQ K "_law_is_early" "_law_is_early" (top 111) f fd) (mgN:mg "NoYear" = some (.ref cN)) (xN:PySem.W.exmOne K (.ref cN) (.ref cN)=some true) (C1:qP P w K mg base (Xi P w) j "statement" ["book","month","bases"] (Vy K Cs C cM cN)):zH P w K mg base zO (j+1) f fd ["_law_book","_law_year"] (WM C):=by
 refine F.ok (N:=["_law_book","_law_year"]) (by walk_at"s") (fun vs H Q E h=>?_) (fun cdv A outer s H vs Q E hr h=>?_)
 ·obtain⟨B,dx,t,es,Y,rfl,_⟩:=h
  rfl
 ·obtain⟨B,dx,t,es,Y,rfl,BK,el,Y0,Y1,ah,q⟩:=h
  refine⟨_,zg (Mf (C:=C0) (R:=fun cls _ H'=>cls = .ref cN∧zw H H') rfl rfl rfl mgN (fun cls o H' z=>by rw[z.1];exact xN)
   (fun pn=>zi (qm (zj C1 hr (CZ _) Bx (za (pv 0) (za (zq zU (zq qR ze (pv 1)) ze) (za (zq Mv (qy (za ze zd)) ze) zd))))))
   (fun pn ea E=>zi (zu jY))) (zi (zu jY)),?_,?_⟩
  ·refine⟨_,rfl,_,rfl,_,_,rfl,rfl,.inl ⟨by decide,by decide⟩,_,_,rfl,rfl,qv rfl,fun l H1 s1 n1 e1=>⟨l,_,_,rfl,rfl,e1,by decide,by decide,qv rfl,fun b H2 s2 n2 e2=>?_⟩⟩
   have B2:=BK.fr fun b o h=>s2 _ _ (s1 _ _ h)
   refine⟨B,dx,t,b,es,_,List.replicate 12 1,rfl,B2,el,zZ.of e2,by decide,.inl ⟨_,rfl,by omega,by omega,fun _ H3 s3=>⟨rfl,s1.trans (s2.trans s3)⟩,fun m rs pk=>?_⟩⟩
   have e12:(12*Y+11)/12=Y:=by omega
   rw[e12] at pk
   exact (gI ah pk).elim
  ·rintro ea oe vs cls σ' H' ⟨rfl,s'⟩ hne _ _
   exact q _ (s'.trans (zw.upd hne))
end
end K15
namespace Pg
open PySem L2
theorem RL {rs:List Rk} (ok:j4 rs):∃ sr:List Rk,sr.Perm rs∧∀ qs:List Rk,qs.Perm rs→∀ bs,Jp qs bs=sr.map fun r=>(r.name,wx r bs):=by
 refine⟨rs.mergeSort fun a b=>Rc a.name b.name,fq _ _,fun qs pq bs=>?_⟩
 have p:=fq rs fun a b=>Rc a.name b.name
 have s:(rs.mergeSort fun a b=>Rc a.name b.name).Pairwise fun a b=>¬ b.name.cps.toList<a.name.cps.toList:=by
  refine (fH (le:=fun a b:Rk=>Rc a.name b.name) (fun a b c h1 h2=>?_) (fun a b=>?_) rs).imp fun h=>of_decide_eq_true h
  ·have h1:a.name.cps.toList≤b.name.cps.toList:=of_decide_eq_true h1
   have h2:b.name.cps.toList≤c.name.cps.toList:=of_decide_eq_true h2
   exact decide_eq_true (show a.name.cps.toList≤c.name.cps.toList from List.le_trans h1 h2)
  ·rw[EV]
   rcases List.le_total a.name.cps.toList b.name.cps.toList with h | h
   ·exact .inl (decide_eq_true h)
   ·exact .inr (decide_eq_true h)
 generalize rs.mergeSort (fun a b=>Rc a.name b.name)=sr at p s
 refine (Yz ((p.trans pq.symm).map _) (ED.mpr s) ?_).symm
 rw[dB]
 exact (pq.map _).nodup_iff.mpr ok.nd
noncomputable def vQ (sr:List Rk) (bs:List Int) (i j:Nat):List (yp × V):=((sr.take j).map fun r=>((Sum.inr r.name:yp),V.int (yM r (bs.take (i+1)))))++(if i=0 then [] else (sr.drop j).map fun r=>((Sum.inr r.name:yp),V.int (yM r (bs.take i))))
theorem LS (sr:List Rk) (bs:List Int) (i:Nat):vQ sr bs i sr.length=vQ sr bs (i+1) 0:=by
 unfold vQ
 rw[Dj,List.drop_length,EH,DF,if_neg (Nat.succ_ne_zero i)]
 split <;> simp
theorem P5 (sr:List Rk) (bs:List Int) (i j:Nat):(vQ sr bs i j).length≤sr.length:=by
 unfold vQ
 split
 ·rw[d9,CY,dP]
  exact Nat.min_le_right _ _
 ·rw[dh,CY,CY,dP,Dr]
  omega
theorem mL {A B:List (yp × V)} {k:yp} {u v:V} (ha:∀ q∈A,q.1≠k) (hb:∀ q∈B,q.1≠k):uq (A++(k,u)::B) k v=A++(k,v)::B:=by
 have keep:∀ {L:List (yp × V)},(∀ q∈L,q.1≠k)→L.map (fun kv=>if kv.1=k then (kv.1,v) else kv)=L:=fun {L} h=>by
  exact (DV (g:=id) fun q hq=>if_neg (h q hq)).trans (List.map_id _)
 unfold uq
 rw[if_pos (EG.mpr ⟨(k,u),by simp,decide_eq_true rfl⟩),dz,dN,keep ha,keep hb,if_pos rfl]
theorem mS {A:List (yp × V)} {k:yp} {v:V} (ha:∀ q∈A,q.1≠k):uq A k v=A++[(k,v)]:=by
 unfold uq
 refine if_neg fun z=>?_
 obtain⟨q,hq,e⟩:=EG.mp z
 exact ha q hq (of_decide_eq_true e)
theorem UI {A B:List (yp × V)} {k:yp} {u:V} (ha:∀ q∈A,q.1≠k):ur (A++(k,u)::B) k=some u:=by
 unfold ur
 rw[List.find?_append,List.find?_eq_none.mpr fun q hq e=>ha q hq (of_decide_eq_true e),Option.none_or,List.find?_cons_of_pos (by exact decide_eq_true rfl)]
 rfl
theorem MS {A:List (yp × V)} {k:yp} (ha:∀ q∈A,q.1≠k):ur A k=none:=by
 unfold ur
 rw[List.find?_eq_none.mpr fun q hq e=>ha q hq (of_decide_eq_true e)]
 rfl
theorem mf {sr:List Rk} {bs:List Int} {i j:Nat} {r:Rk} (g:∀ r∈sr,Gd 3 r) (nd:(sr.map Rk.name).Nodup) (hi:i<bs.length) (hj:sr[j]? = some r):((ur (vQ sr bs i j) (Sum.inr r.name)).getD (.int 0) = .int (yM r (bs.take i)))∧uq (vQ sr bs i j) (Sum.inr r.name) (.int (yM r (bs.take i)+wx r (bs.take (i+1))))=vQ sr bs i (j+1):=by
 obtain⟨jl,ej⟩:=dF.mp hj
 have mr:=dZ hj
 have un:yM r (bs.take i)+wx r (bs.take (i+1))=yM r (bs.take (i+1)):=by
  rw[Ye (g r mr) hi]
  omega
 rw[un]
 have sp:sr=sr.take j++r::sr.drop (j+1):=by
  rw[← ej,← Ez jl,eK]
 have nd':=nd
 rw[sp,dz,dN] at nd'
 obtain⟨n1,n2,n3⟩:=eE.mp nd'
 obtain⟨n4,n5⟩:=Dm.mp n2
 have na:∀ {c:Nat},∀ q∈(sr.take j).map (fun r=>((Sum.inr r.name:yp),V.int (yM r (bs.take c)))),q.1≠Sum.inr r.name:=fun q hq e=>by
  obtain⟨x,hx,rfl⟩:=dk.mp hq
  exact n3 _ (dk.mpr ⟨x,hx,rfl⟩) _ dq (Sum.inr.inj e)
 have nb:∀ {c:Nat},∀ q∈(sr.drop (j+1)).map (fun r=>((Sum.inr r.name:yp),V.int (yM r (bs.take c)))),q.1≠Sum.inr r.name:=fun q hq e=>by
  obtain⟨x,hx,rfl⟩:=dk.mp hq
  exact n4 (by rw[← Sum.inr.inj e];exact dk.mpr ⟨x,hx,rfl⟩)
 have tk:sr.take (j+1)=sr.take j++[r]:=by rw[Dg,hj];rfl
 have dr:sr.drop j=r::sr.drop (j+1):=by rw[← ej];exact Ez jl
 unfold vQ
 by_cases i0:i=0
 ·subst i0
  rw[if_pos rfl,if_pos rfl,d9,d9,tk,dz,MS na,mS na]
  exact⟨by rw[EH,Wj (g r mr)];rfl,rfl⟩
 ·rw[if_neg i0,if_neg i0,dr,dN,UI na,mL na nb,tk,dz,d8]
  exact⟨rfl,rfl⟩
theorem lr (sr:List Rk) (bs:List Int) (i:Nat):vQ sr bs (i+1) 0=sr.map fun r=>((Sum.inr r.name:yp),V.int (yM r (bs.take (i+1)))):=by
 unfold vQ
 rw[if_neg (Nat.succ_ne_zero i),EH,DF]
 rfl
theorem GR {sr:List Rk} {bs:List Int} {i:Nat} {r:Rk} (nd:(sr.map Rk.name).Nodup) (mr:r∈sr):ur (vQ sr bs (i+1) 0) (Sum.inr r.name)=some (.int (yM r (bs.take (i+1)))):=by
 rw[lr]
 obtain⟨A,B,rfl⟩:=List.append_of_mem mr
 rw[dz,dN] at nd ⊢
 obtain⟨_,_,n3⟩:=eE.mp nd
 refine UI fun q hq e=>?_
 obtain⟨x,hx,rfl⟩:=dk.mp hq
 exact n3 _ (dk.mpr ⟨x,hx,rfl⟩) _ dq (Sum.inr.inj e)
noncomputable def oB (sr:List Rk) (bs:List Int) (i:Nat):Int:=(bs.take i).sum - (sr.map fun r=>yM r (bs.take i)).sum
theorem m5 (sr:List Rk) (p q:Rk→Int):(sr.map fun r=>p r - q r).sum=(sr.map p).sum - (sr.map q).sum:=by
 induction sr with
 | nil=>rfl
 | cons r sr ih =>
  rw[dN,dN,dN,eG,eG,eG,ih]
  omega
theorem PU {sr:List Rk} {bs:List Int} {i:Nat} {b:Int} (g:∀ r∈sr,Gd 3 r) (hb:bs[i]? = some b):oB sr bs i+U8 b (sr.map fun r=>(r.name,wx r (bs.take (i+1))))=oB sr bs (i+1):=by
 have hi:i<bs.length:=(dF.mp hb).1
 have e1:((sr.map fun r=>(r.name,wx r (bs.take (i+1)))).map (·.2)).sum=(sr.map fun r=>yM r (bs.take (i+1))).sum - (sr.map fun r=>yM r (bs.take i)).sum:=by
  rw[dB,← m5]
  exact congrArg List.sum (DV fun r hr=>Ye (g r hr) hi)
 have e2:(bs.take (i+1)).sum=(bs.take i).sum+b:=by
  rw[Dg,hb,ET]
  simp
 unfold oB U8
 rw[e1,e2]
 omega
theorem LI {sr:List Rk} {bs:List Int} (g:∀ r∈sr,Gd 3 r):oB sr bs 0=0:=by
 have e:(sr.map fun r=>yM r [])=sr.map fun _=>0:=DV fun r hr=>Wj (g r hr)
 unfold oB
 rw[EH,e]
 clear e g
 induction sr with
 | nil=>rfl
 | cons r sr ih =>
  rw[dN,eG]
  simpa using ih
theorem G4 {bs:List Int} {i:Nat} {b:Int} (hb:bs[i]? = some b):uW (bs.take (i+1))=b:=by
 unfold uW
 rw[Dg,hb]
 show ((bs.take i++[b]).getLast?).getD 0=b
 rw[List.getLast?_concat]
 rfl
theorem OU {H:Hp} (sr:List Rk):qN H (sr.map fun r=>V.str r.name) sr (fun _ v r=>v = .str r.name):=⟨CY _,fun i y e=>by
 rw[dj] at e
 obtain⟨r,hr,rfl⟩:=dC.mp e
 exact⟨r,hr,fun _ _=>rfl⟩⟩
noncomputable def Wm (K:BFr) (Cs:Nat→Addr) (C cM cN:Addr):Sp:=fun vs H Q _=>Vy K Cs C cM cN vs H Q E0
noncomputable def Pw (C:Addr):Sp:=fun vs H Q _=>∃ (bl l b B0 d0 t0 B1 d1 t1:Addr) (es0 es1:List Be) (rs:List Rk) (Y:Int) (bs:List Int),vs=[.ref bl,.ref l,.int Y,.ref b]∧H bl=some (.lst [.ref B0,.ref B1])∧(xx C H B0 d0 t0 es0∧es0.length≤100∧(∃ m q,uw (es0.map yr) Y m q)∧∀ m q,uw (es0.map yr) Y m q→q.Perm rs)∧(xx C H B1 d1 t1 es1∧es1.length≤100∧(∃ m q,uw (es1.map yr) Y m q)∧∀ m q,uw (es1.map yr) Y m q→q.Perm rs)∧wI H l rs∧j4 rs∧H b=some (.lst (bs.map V.int))∧bs.length=12∧pe bs∧0≤Y∧Y≤9999∧∀ H',zw H H'→Q (.bl true) H'
noncomputable def rN (C:Addr) (Y:Int) (rs:List Rk) (H:Hp) (v:V):Prop:=∃ (B dx t:Addr) (es:List Be),v = .ref B∧xx C H B dx t es∧es.length≤100∧(∃ m q,uw (es.map yr) Y m q)∧∀ m q,uw (es.map yr) Y m q→q.Perm rs
theorem rN.same {C:Addr} {Y:Int} {rs:List Rk} {H H':Hp} {v:V} (s:zw H H') (h:rN C Y rs H v):rN C Y rs H' v:=by
 obtain⟨B,dx,t,es,e,b,r⟩:=h
 exact⟨B,dx,t,es,e,b.fr fun b o h=>s _ _ h,r⟩
theorem lQ {C:Addr} {Y:Int} {rs:List Rk} {H:Hp} {u v:V} (hu:rN C Y rs H u) (hv:rN C Y rs H v):qN H [u,v] [(),()] (fun H v _=>rN C Y rs H v):=⟨rfl,fun i y e=>by
 match i,e with
 | 0,e=>cases e;exact⟨(),rfl,fun H' s=>hu.same s⟩
 | 1,e=>cases e;exact⟨(),rfl,fun H' s=>hv.same s⟩⟩
noncomputable def OH (M b:Int) (prs:List (Str × Int)) (H:Hp) (v:V):Prop:=∃ t w,v = .ref t∧H t=some (.tup [.int M,.int b,w,.int (U8 b prs)])∧j3 H w prs
theorem OH.keep {M b:Int} {prs:List (Str × Int)} {H H':Hp} {v:V} (k:uz H H') (h:OH M b prs H v):OH M b prs H' v:=by
 obtain⟨t,w,e,h,D⟩:=h
 exact⟨t,w,e,k _ _ h (fun xs z=>by cases z),D.keep k⟩
theorem OH.same {M b:Int} {prs:List (Str × Int)} {H H':Hp} {v:V} (s:zw H H') (h:OH M b prs H v):OH M b prs H' v:=by
 obtain⟨t,w,e,h,D⟩:=h
 exact⟨t,w,e,s _ _ h,D.same s⟩
theorem RF {K:BFr} {H:Hp} {v:V} {prs:List (Str × Int)} (h:j3 H v prs):Is K H 2 v (.t (prs.map fun p=>.t ((cP p).map Dt.v))):=by
 obtain⟨t,ys,rfl,e,T⟩:=h
 refine .t (qh.of e) (by rw[CY,T.len,CY]) fun j x d e1 e2=>?_
 obtain⟨a,c,rfl,h1,h2⟩:=T.of_at e1
 rw[dj] at h1 e2
 obtain⟨p,hp,rfl⟩:=dC.mp h1
 rw[hp] at e2
 cases e2
 exact Is.flatT (qh.of h2) rfl
noncomputable def cp (M b:Int) (prs:List (Str × Int)):Dt:=.t [.v (.int M),.v (.int b),.t (prs.map fun p=>.t ((cP p).map Dt.v)),.v (.int (U8 b prs))]
theorem L9 {K:BFr} {H:Hp} {M b:Int} {prs:List (Str × Int)} {v:V} (h:OH M b prs H v):Is K H 3 v (cp M b prs):=by
 obtain⟨t,w,rfl,h,D⟩:=h
 refine .t (qh.of h) rfl fun j x d e1 e2=>?_
 match j,e1,e2 with
 | 0,e1,e2=>cases e1;cases e2;exact .v rfl
 | 1,e1,e2=>cases e1;cases e2;exact .v rfl
 | 2,e1,e2=>cases e1;cases e2;exact RF D
 | 3,e1,e2=>cases e1;cases e2;exact .v rfl
theorem GC {K:BFr} {H:Hp} {l:Addr} {M b:Int} {prs:List (Str × Int)} {u v:V} (hl:H l=some (.lst [u,v])) (hu:OH M b prs H u) (hv:OH M b prs H v):Is K H 4 (.ref l) (.l [cp M b prs,cp M b prs]):=by
 refine .l (zZ.of hl) rfl fun j x d e1 e2=>?_
 match j,e1,e2 with
 | 0,e1,e2=>cases e1;cases e2;exact L9 hu
 | 1,e1,e2=>cases e1;cases e2;exact L9 hv
noncomputable def J6 (K:BFr):Sp:=fun vs H Q _=>∃ (c:Int) (ln:Addr) (nms:List Str) (mo:Nat),vs=[.int c,.ref ln,.int (mo:Nat)]∧mo≤8∧zZ K H ln (nms.map V.str)∧(3≤mo∧mo≤nms.length)∧(∀ z∈nms,yh z)∧nms.Nodup∧∀ l rs H',j4 rs→zw H H'→H l=none→wI H' l rs→Q (.ref l) H'
structure gg (H:Hp) (o:Addr) (fs:List Be) (fi y:Int):Prop where
 ow:Bb H o fs
 up:(fs.map (·.1)).Pairwise (fun x y:Int=>x<y)
 ok:∀ e∈fs,fi≤e.1∧e.1<y∧j4 e.2.2
 hd:fs≠[]→∃ e∈fs,e.1=fi
 st:fs=[]→y=fi
theorem gg.same {H H':Hp} {o:Addr} {fs:List Be} {fi y:Int} (h:gg H o fs fi y) (s:zw H H'):gg H' o fs fi y:=⟨h.ow.same s,h.up,h.ok,h.hd,h.st⟩
theorem gg.put {H H1 H2:Hp} {o l:Addr} {fs:List Be} {fi y y':Int} {rs:List Rk} (h:gg H o fs fi y) (s1:zw H H1) (r1:wI H1 l rs) (ok:j4 rs) (hy:fi≤y) (yy:y<y') (k:∀ b ox,H1 b=some ox→b≠o→H2 b=some ox) (e:H2 o=some (.dK (vv (kJ fs y l rs)))):gg H2 o (fs++[(y,l,rs)]) fi y':=by
 have h1:=h.same s1
 have nw:∀ b∈fs,b.1≠y:=fun b hb e=>by have:=(h.ok b hb).2.1;omega
 rw[Gi nw] at e
 have ft:FT H1 H2:=fun b c hb=>k _ _ hb (yQ hb h1.ow.dic (by intro z;cases z))
 have nl:∀ b xs,H1 b=some (.lst xs)→H2 b=some (.lst xs):=fun b xs hb=>k _ _ hb (yQ hb h1.ow.dic (by intro z;cases z))
 have ud:((fs++[(y,l,rs)]).map (·.1)).Pairwise (fun x y:Int=>x<y):=by
  rw[dz]
  refine eA.mpr ⟨h.up,Ee _ _,fun a ha b hb=>?_⟩
  obtain⟨q,hq,rfl⟩:=dk.mp ha
  rw[dN,DG,dI] at hb
  rw[hb]
  exact (h.ok q hq).2.1
 refine⟨⟨e,ud.imp (fun h=>by omega),fun q hq=>?_⟩,ud,fun q hq=>?_,fun _=>?_,fun z=>?_⟩
 ·rcases dA.mp hq with hq | hq
  ·exact pA (h1.ow.rt q hq) ft fun xs hx=>nl _ _ hx
  ·rw[dI.mp hq]
   exact pA r1 ft fun xs hx=>nl _ _ hx
 ·rcases dA.mp hq with hq | hq
  ·have:=h.ok q hq
   exact⟨this.1,by omega,this.2.2⟩
  ·rw[dI.mp hq]
   exact⟨hy,yy,ok⟩
 ·by_cases f0:fs=[]
  ·exact⟨(y,l,rs),dA.mpr (.inr dq),h.st f0⟩
  ·obtain⟨q,hq,e⟩:=h.hd f0
   exact⟨q,dA.mpr (.inl hq),e⟩
 ·simp at z
theorem lH (k:Int) (rs:List Rk):(vC k rs).Perm rs:=by
 unfold vC
 split
 ·exact List.Perm.refl _
 ·exact List.reverse_perm rs
theorem UH {fs bs:List Be} {k Y:Int} {en:Be} (ey:bs.map yr=fs.map fun e=>(e.1,vC k e.2.2)) (nd:(bs.map (·.1)).Nodup) (he:en∈fs) (le:en.1≤Y) (top:∀ e∈fs,e.1≤Y→e.1≤en.1):(∃ m q,uw (bs.map yr) Y m q)∧∀ m q,uw (bs.map yr) Y m q→q.Perm en.2.2:=by
 have P:uw (bs.map yr) Y en.1 (vC k en.2.2):=by
  rw[ey]
  refine⟨dk.mpr ⟨en,he,rfl⟩,le,fun q hq l=>?_⟩
  obtain⟨e,he',rfl⟩:=dk.mp hq
  exact top e he' l
 refine⟨⟨_,_,P⟩,fun m q pk=>?_⟩
 rw[pk.one (by rw[Gv];exact nd) P]
 exact lH _ _
theorem JF {fs bs:List Be} {k fi:Int} (ey:bs.map yr=fs.map fun e=>(e.1,vC k e.2.2)) (lo:∀ e∈fs,fi≤e.1):ZZ bs (fi - 1)=[]:=by
 unfold ZZ
 refine List.filter_eq_nil_iff.mpr fun x hx z=>?_
 have z:=of_decide_eq_true z
 have:x∈(bs.map yr).map (·.1):=by rw[Gv];exact hx
 rw[ey,dB] at this
 obtain⟨e,he,rfl⟩:=dk.mp this
 have:=lo e he
 have z:e.1≤fi - 1:=z
 omega
open PySem.NumText
open Builtin Builtin.Str
end Pg
namespace Pg
open PySem L2
section
variable {K:BFr} {H H':Hp} {v:V} {b:Bool} {m:Int} {o C dx:Addr} {fs:List (Str × V)}
end
end Pg
namespace L2
open PySem
end L2
namespace Pg
open PySem L2 Builtin Builtin.Str
end Pg
namespace L2
open PySem PySem.Spec PyProof.Rows
section
variable {prog:Program} {w:World} {A:Around} {E:Value→Shared→Prop} {s:Shared}
variable {env:Env} {nm q:Str} {C N:Addr} {bs bm bmB:List Value} {hdct:Bool} {sn:List Str} {sub:List Value} {ab:Bool} {col:Option Bool} {dd:Option Addr} {k0 k1 k2 k3 k5:Option Value} {newId:String}
end
section
variable {X:Cx} {pins:List (Addr × Obj)} {σ:St} {H:Hp} {s:Shared} {ea:Addr} {cls fl:Value} {M:Model} {A:Around} {E:Value→Shared→Prop} {Q:Unit→Shared→Prop} {C:CT} [ct:XZ C]
end
section
variable {X:Cx} {elt iter tgt:Expr} {ifs:List Expr} {scope:Scope} {cl:List (Str × Addr)} {Nc:List Str} {src:List (Option Nat)} {g:TG} {tt:TT} {te:TE}
end
section
variable {X:Cx} {elt iter tgt:Expr} {ifs:List Expr} {scope:Scope} {cl:List (Str × Addr)} {Nc:List Str} {src:List (Option Nat)} {g:TG} {tt:TT} {te:TE}
end
section
variable {P:Program} {w:World} {K:BFr} {mg:Str→Option Value} {base:Heap}
end
end L2
namespace Pg
open PySem PySem.NumText L2 Builtin Builtin.Str
end Pg
namespace L2
open PySem PySem.Spec PyProof.Rows
section
variable {P:Program} {w:World} {K:BFr} {mg:Str→Option Value} {base:Heap} {C:CT} {k:Nat} {f:Addr} {fd:FuncData} {ps:List Str} {sp:Sp} {x:Str}
theorem zH.calm (F:zH P w K mg base (Tw C P w) k f fd ps sp):zH P w K mg base zO k f fd ps (fun vs H Q _=>sp vs H Q E0):=by
 refine⟨fun vs H Q E h=>F.len vs H Q E0 h,fun A outer s H args us vs Q E hr e b v h=>codeAny_mono (F.run A outer s H args us vs Q E0 hr e b v h) fun r s' q=>?_⟩
 cases r with
 | ok f=>cases f <;> exact q
 | error e =>
  obtain⟨ea,cls,H',_,_,_,_,_,_,no⟩:=q
  exact no.elim
theorem qP.calm (M:qP P w K mg base (Tw C P w) k x ps sp):qP P w K mg base zO k x ps (fun vs H Q _=>sp vs H Q E0):=by
 obtain⟨f,fd,a,b,c,F⟩:=M
 exact⟨f,fd,a,b,c,F.calm⟩
end
end L2
namespace Pg
open PySem PySem.NumText L2 Builtin Builtin.Str
end Pg
namespace K15
open PySem PySem.NumText L2 Pg
seal PE PA PT PW PS jT PG uv PI ui PO PK
section
variable {P:Program} {w:World} {K:BFr} {mg:Str→Option Value} {base:Heap} {f:Addr} {fd:FuncData} {d:Nat→Addr} {cR:Addr}
set_option maxHeartbeats 32000000 in
theorem Rm {Cs:Nat→Addr} {C cM cN:Addr} {J:Nat} (hJ:6≤J) (F:qQ K "_law_months_right" "_law_months_right" (top 110) f fd) (G:jP mg) (C1:qP P w K mg base zO J "statement" ["book","month","bases"] (Wm K Cs C cM cN)) (C2:qP P w K mg base zO J "_law_dues" ["_law_rules_here","_law_bases_here"] (UW K)) (C3:qP P w K mg base zO 1 "_law_net" ["_law_base","_law_dues_here"] gH) (C4:qP P w K mg base zO 2 "_law_dues_right" ["_law_found","_law_due"] J8) (C5:qP P w K mg base zO 1 "_law_whole" ["_law_found"] YI) (C6:qP P w K mg base zO 6 "_law_until" ["_law_rule_here","_law_bases_here"] (kU K 4)):zH P w K mg base zO (J+1) f fd ["_law_books","_law_rules_here","_law_year","_law_bases_here"] (Pw C):=by
 have nd:(["_law_books","_law_rules_here","_law_year","_law_bases_here","_law_totals","_law_nets","_law_k","_law_found","_law_due","_law_wanted","_law_name","_law_amount_here","_law_rule_here"]:List Str).Nodup:=by decide +kernel
 have n1:(["_law_book","_law_year","_law_k","_law_bases_here"]:List Str).Nodup:=by decide +kernel
 have n2:(["_law_name","_law_totals"]:List Str).Nodup:=by decide +kernel
 have l1:1≤J:=dG (by decide) hJ
 have l2:2≤J:=dG (by decide) hJ
 refine F.ok (N:=["_law_books","_law_rules_here","_law_year","_law_bases_here","_law_totals","_law_nets","_law_k","_law_found","_law_due","_law_wanted","_law_name","_law_amount_here","_law_rule_here"]) (by walk_at"s") (fun vs H Q E h=>?_) (fun cdv A outer s H vs Q E hr h=>?_)
 ·obtain⟨bl,l,b,B0,d0,t0,B1,d1,t1,es0,es1,rs,Y,bs,rfl,_⟩:=h
  rfl
 ·obtain⟨bl,l,b,B0,d0,t0,B1,d1,t1,es0,es1,rs,Y,bs,rfl,hbl,⟨K0,el0,x0,p0⟩,⟨K1,el1,x1,p1⟩,RT,ok,hb,b12,bn,Y0,Y1,q⟩:=h
  have hu:=WC hr
  have un3:(A.deeper (PyProof.Rows.envOfC "_law_months_right" (qS (top 110)) s.heap.objs.size f cdv)).units+4<cLine:=eU (Es (by decide:4≤64) _) hr.units
  refine' ⟨_,(zg (zF (i:=4) nd rfl (Or.inr rfl) QK)
    (zg (zF (i:=5) nd rfl (Or.inl rfl) ze)
    (zg (jt PassesOwn.never rfl (yf rfl G.range (za ze zd)) (zJ (i:=6) nd rfl (Or.inr rfl)) (zg ?c1
    (zg (zF (i:=8) nd rfl (Or.inl rfl) (zj C2 hr (CZ _) zt (za (pv 1) (za (yJ wa (pv 3) jO (yY (zq zU (pv 6) ze))) zd))))
    (zg (zF (i:=9) nd rfl (Or.inl rfl) (ym (za (zq zU (zq qR ze (pv 2)) (pv 6)) (za (zz zG (pv 3) (pv 6)) (za (pv 8) (za (zj C3 hr l1 zt (za (zz zG (pv 3) (pv 6)) (za (pv 8) zd))) zd))))))
    (zg (zR (zE LW (pv 7) (qy (za (pv 9) (za (pv 9) zd))) (zD _)) (zi (zu jY)) zA)
    (zg (zR (PW.pt (wC (qM (qF (zj C4 hr l2 zt (za (zz zK (zz zG (pv 7) ze) ze) (za (pv 8) zd))))) (uT (qM (qF (zj C5 hr l1 zt (za (zz zK (zz zG (pv 7) ze) ze) zd))))))) (zi (zu jY)) zA)
    (zg (zF (i:=5) nd rfl (Or.inl rfl) (zq zU (pv 5) (zz zK (zz zG (pv 7) ze) ze)))
    (zi (jt PassesOwn.never rfl (vq (zz zK (zz zG (pv 7) ze) ze)) (Uh rfl (jQ (zJ (i:=10) nd rfl (Or.inl rfl)) (jQ (zJ (i:=11) nd rfl (Or.inl rfl)) Qh))) (zg (zR (zE Yh (pv 11) ze (zD _)) (zi (zu jY)) zA)
    (zi (Vv hu (pv 4) (pv 10) (zq zU (p9 hu (pv 4) (pv 10) ze ⟨rfl,rfl,rfl,rfl⟩) (pv 11)) rfl))))))))))))
    (zg (jt PassesOwn.never rfl (q9 (pv 1)) (zJ (i:=12) nd rfl (Or.inl rfl)) (zi (zR (zE Pi (kr hu (pv 4) (zz zK (pv 12) ze) (fun _ _=>rfl)) (zj C6 hr hJ zt (za (pv 12) (za (pv 3) zd))) (zD _)) (zi (zu jY)) zA)))
    (zi (Xa (zu (qJ qC (zq zU (pv 5) (zx (yB rfl) rfl G.sum yW (za ?c2 zd))) (zx (yB rfl) rfl G.sum yW (za (pv 3) zd)) (zD _))))))))),?main⟩
  case c1 =>
   refine' we (i:=7) (Nc:=["_law_book","_law_year","_law_k","_law_bases_here"]) (cl:=[("_law_year",s.heap.objs.size+1),("_law_k",s.heap.objs.size+4),("_law_bases_here",s.heap.objs.size+2)]) (src:=[none,some 2,some 6,some 3]) (wi:=vO K (zM 0)) (g:=z4 0) (tt:=qK) (te:=fun σ H Q=>qi (zM 0) (qi (jC (YN fun i j=>.int (i+j)) (jC (rI oF fun i j=>.int (i*j)) (tC (.int 12)) (zM 1)) (zM 2)) (qi (TB (rY K) (zM 3) kP (QL (jC (YN fun i j=>.int (i+j)) (zM 2) (tC (.int 1))))) yn)) σ H fun vs H1=>Wm K Cs C cM cN vs H1 Q E0)
    nd rfl rfl (by walk_at"c4") rfl (q9 (pv 0)) ?hb
   case hb =>
    intro fp C' s' H'
    exact⟨zJ (i:=0) n1 rfl (Or.inl rfl),qd,zj C1 hr (CZ _) zt (za (pv 0) (za (zq zU (zq qR ze (pv 1)) (pv 2)) (za (yJ wa (pv 3) jO (yY (zq zU (pv 2) ze))) zd)))⟩
  case c2 =>
   refine' z8 (Nc:=["_law_name","_law_totals"]) (cl:=[("_law_totals",s.heap.objs.size+3)]) (src:=[none,some 4]) (wi:=Gf (zM 4)) (g:=z4 0) (tt:=qK) (te:=rC (zM 1) (zM 0))
    (by walk_at"c1") rfl (Uj (pv 4)) ?hb
   case hb =>
    intro fp C' s' H'
    exact⟨zJ (i:=0) n2 rfl (Or.inl rfl),qd,kr hu (pv 1) (pv 0) (fun _ _=>rfl)⟩
  case main =>
  obtain⟨sr,psr,due⟩:=RL ok
  have gsr:∀ r∈sr,Gd 3 r:=fun r hr=>ok.gd r (psr.mem_iff.mp hr)
  have nsr:(sr.map Rk.name).Nodup:=(psr.map _).nodup_iff.mpr ok.nd
  have lsr:sr.length≤8:=by rw[psr.length_eq];exact ok.few
  refine fun td H1 s1 td0 e1=>?_
  refine⟨12,rfl,by decide,by decide,jG (n:=12) (fun i σ H'=>∃ x6 x7 x8 x9 x10 x11,σ = [some (.ref bl),some (.ref l),some (.int Y),some (.ref b),some (.ref td),some (.int (oB sr bs i)),x6,x7,x8,x9,x10,x11,none]∧zw H H'∧H' td=some (.dK (vQ sr bs i 0))) ⟨none,none,none,none,none,none,by rw[LI gsr];rfl,s1,e1⟩ ?_ ?_⟩
  ·rintro i σ H2 hi ⟨x6,x7,x8,x9,x10,x11,rfl,s2,e2⟩ E2 kk
   have z0:(0:Int)+(i:Nat)=(i:Nat):=DD _
   rw[z0]
   have hi:i<12:=hi
   have hib:i<bs.length:=by omega
   obtain⟨bi,hbi⟩:∃ bi,bs[i]? = some bi:=⟨bs[i],de hib⟩
   have bl2:=s2 _ _ hbl
   have P0:rN C Y rs H2 (.ref B0):=⟨B0,d0,t0,es0,rfl,K0.fr fun b o h=>s2 _ _ h,el0,x0,p0⟩
   have P1:rN C Y rs H2 (.ref B1):=⟨B1,d1,t1,es1,rfl,K1.fr fun b o h=>s2 _ _ h,el1,x1,p1⟩
   have e12:(12*Y+(i:Nat))/12=Y:=by omega
   have bt:∀ (H':Hp) (p:Addr),(upd H' p (.lst (vm (bs.map V.int) none (some (((i:Nat):Int)+1))))) p=some (.lst ((bs.take (i+1)).map V.int)):=fun H' p=>by rw[zp,show ((i:Nat):Int)+1=((i+1:Nat):Int) from rfl,my]
   have tl:(bs.take (i+1)).length≤100:=by rw[dP];omega
   obtain⟨prs,hprs⟩:∃ prs,prs=sr.map fun r=>(r.name,wx r (bs.take (i+1))):=⟨_,rfl⟩
   have pl:prs.length≤8:=by rw[hprs,CY];exact lsr
   refine⟨_,rfl,bl,rfl,⟨_,zZ.of bl2⟩,fun D hD=>kA (qX (zZ.of bl2)) (lQ P0 P1) hD (by rw[sizeLine_eq];decide) (fun H u _=>OH (12*Y+(i:Nat)) bi prs H u) (fun k h=>h.keep k) (fun j x hx v H3 R s3 bp k=>?_) (fun zs H3 s3 e3 M3=>?_)⟩
   ·obtain⟨B,dx,t,es,rfl,BK,el,⟨mx,qx,px⟩,pp⟩:=bp
    have hb3:=s3 _ _ (s2 _ _ hb)
    refine⟨_,rfl,_,rfl,_,_,rfl,rfl,.inl ⟨by decide,by decide⟩,_,rfl,_,_,rfl,rfl,_,rfl,_,rfl,_,_,rfl,rfl,_,rfl,b,_,rfl,zZ.of hb3,fun p p0=>?_⟩
    have sp:=zw.upd (o:=.lst (vm (bs.map V.int) none (some (((i:Nat):Int)+1)))) p0
    refine⟨B,dx,t,p,es,_,bs.take (i+1),rfl,BK.fr fun b o h=>sp _ _ h,el,zZ.of (bt H3 p),tl,.inl ⟨_,rfl,by omega,by omega,fun z=>?_,fun m q pk v H5 s5 st=>k v H5 (sp.trans s5) ?_⟩⟩
    ·rw[e12] at z
     exact (gI z px).elim
    ·rw[e12] at pk
     obtain⟨ta,u,ev,h,du⟩:=st
     rw[G4 hbi,due q (pp m q pk),← hprs] at h
     rw[due q (pp m q pk),← hprs] at du
     exact⟨ta,u,ev,h,du⟩
   obtain⟨u0,u1,rfl,W0,W1⟩:∃ u0 u1,zs=[u0,u1]∧OH (12*Y+(i:Nat)) bi prs H3 u0∧OH (12*Y+(i:Nat)) bi prs H3 u1:=by
    obtain⟨u0,h0,w0⟩:=M3.at_ 0 () rfl
    obtain⟨u1,h1,w1⟩:=M3.at_ 1 () rfl
    have ln:zs.length=2:=M3.len
    match zs,ln,h0,h1 with
    | [a,c],_,h0,h1=>cases h0;cases h1;exact⟨_,_,rfl,w0,w1⟩
   have S3:=s2.trans s3
   have e23:=s3 _ _ e2
   refine⟨_,rfl,_,rfl,_,rfl,_,_,rfl,rfl,_,rfl,b,_,rfl,zZ.of (S3 _ _ hb),fun p p0'=>?_⟩
   have s4:=zw.upd (o:=.lst (vm (bs.map V.int) none (some (((i:Nat):Int)+1)))) p0'
   have e4:=bt H3 p
   generalize upd H3 p (.lst (vm (bs.map V.int) none (some (((i:Nat):Int)+1))))=H4 at s4 e4
   have S4:=S3.trans s4
   obtain⟨yz,hyz,TZ⟩:=id RT
   refine⟨l,p,rs,bs.take (i+1),rfl,⟨yz,S4 _ _ hyz,TZ.same S4⟩,ok,zZ.of e4,tl,LC bn _,fun w H5 s5 du=>?_⟩
   rw[due rs (List.Perm.refl _),← hprs] at du
   have S5:=S4.trans s5
   have at_i:atI (bs.map V.int) ((i:Nat):Int)=some (.int bi):=q8 (by rw[dj,hbi];rfl)
   refine⟨_,rfl,_,_,rfl,rfl,.inl ⟨by decide,by decide⟩,_,rfl,_,_,rfl,rfl,_,rfl,_,rfl,b,_,_,_,rfl,rfl,zZ.of (S5 _ _ hb),at_i,_,rfl,_,rfl,_,rfl,b,_,_,_,rfl,rfl,zZ.of (S5 _ _ hb),at_i,_,rfl,bi,w,prs,rfl,du,pl,fun H6 s6=>⟨qv rfl,fun tw H7 s7 n7 e7=>?_⟩⟩
   have WT:OH (12*Y+(i:Nat)) bi prs H7 (.ref tw):=⟨tw,w,rfl,e7,du.same (s6.trans s7)⟩
   have s37:=s4.trans (s5.trans (s6.trans s7))
   refine⟨_,rfl,_,rfl,_,rfl,qv rfl,fun lw H8 s8 n8 e8=>⟨4,_,rfl,GC (s8 _ _ (s37 _ _ e3)) ((W0.same s37).same s8) ((W1.same s37).same s8),GC e8 (WT.same s8) (WT.same s8),un3,_,rfl,qY ?_⟩⟩
   have s38:=s37.trans s8
   obtain⟨ta,w0,rfl,ht,D0⟩:=W0.same s38
   have e38:=s38 _ _ e3
   refine⟨_,rfl,D,_,_,_,rfl,rfl,zZ.of e38,rfl,ta,_,_,_,rfl,rfl,qh.of ht,rfl,_,rfl,_,_,prs,rfl,D0,du.same (s6.trans (s7.trans s8)),pl,fun H9 s9=>⟨true,rfl,qY ?_⟩⟩
   have s39:=s38.trans s9
   have e39:=s9 _ _ e38
   have ht9:=s9 _ _ ht
   have D9:=D0.same s9
   refine⟨_,rfl,D,_,_,_,rfl,rfl,zZ.of e39,rfl,ta,_,_,_,rfl,rfl,qh.of ht9,rfl,_,rfl,true,rfl,qY ?_⟩
   refine⟨_,rfl,_,rfl,D,_,_,_,rfl,rfl,zZ.of e39,rfl,ta,_,_,_,rfl,rfl,qh.of ht9,rfl,_,_,rfl,rfl,?_⟩
   have en:oB sr bs i+U8 bi prs=oB sr bs (i+1):=by rw[hprs];exact PU gsr hbi
   dsimp (config:={ proj:=false,iota:=false }) only
   rw[en]
   obtain⟨td2,ys2,rfl,hd2,T2⟩:=id D9
   have S9:zw H H9:=S3.trans s39
   have e29:=s39 _ _ e23
   have yl2:ys2.length=sr.length:=by rw[T2.len,CY,hprs,CY]
   refine⟨_,rfl,D,_,_,_,rfl,rfl,zZ.of e39,rfl,ta,_,_,_,rfl,rfl,qh.of ht9,rfl,td2,rfl,⟨_,qh.of hd2⟩,WY (K:=K) (a:=td2) (xs:=ys2) (fun j σ H'=>∃ x10 x11,σ = [some (.ref bl),some (.ref l),some (.int Y),some (.ref b),some (.ref td),some (.int (oB sr bs (i+1))),some (.int (i:Nat)),some (.ref D),some w,some (.ref tw),x10,x11,none]∧(∀ b o,H9 b=some o→b≠td→H' b=some o)∧H' td=some (.dK (vQ sr bs i j))) ⟨_,_,rfl,fun b o h _=>h,e29⟩ (fun j σ H' _ z=>?_) ?_ ?_⟩
   ·obtain⟨_,_,_,k,_⟩:=z
    exact qh.of (k _ _ hd2 (yQ hd2 e29 (by intro z;cases z)))
   ·rintro j x σ Ha hx ⟨x10,x11,rfl,ka,ea⟩ Ea kka
    obtain⟨a,c,rfl,h1,h2⟩:=T2.of_at hx
    rw[hprs,dB,dj] at h1
    obtain⟨r,hr',rfl⟩:=dC.mp h1
    have mr:=dZ hr'
    have ha:=ka _ _ h2 (yQ h2 e29 (by intro z;cases z))
    obtain⟨t1',t2'⟩:=mf (bs:=bs) (i:=i) gsr nsr hib hr'
    have nn:=Ri (gsr r mr) bn hib
    have tkl:(vQ sr bs i j).length<sizeLine:=eU (dG (P5 _ _ _ _) lsr) (by rw[sizeLine_eq];decide)
    refine⟨a,_,rfl,qh.of ha,rfl,_,_,rfl,_,_,rfl,rfl,?_⟩
    refine⟨_,rfl,_,_,rfl,rfl,_,rfl,?_⟩
    rw[decide_eq_false (show ¬ wx r (bs.take (i+1))<0 by omega)]
    refine qY ⟨_,rfl,td,rfl,.inl ⟨_,.inl ea⟩,_,rfl,_,uY.k (k:=Sum.inr r.name) ea,_,rfl,_,_,t1',rfl,_,rfl,_,rfl,td,_,rfl,X9.k (k:=Sum.inr r.name) ea tkl,?_⟩
    rw[t2']
    exact kka _ _ ⟨_,_,rfl,fun b o h n=>by rw[zm n];exact ka _ _ h n,zp⟩
   ·rintro σ Ha ⟨x10,x11,rfl,ka,ea⟩
    rw[yl2,LS] at ea
    exact kk _ _ ⟨_,_,_,_,_,_,rfl,fun b o h=>ka _ _ (S9 _ _ h) (zB h td0),ea⟩
  ·rintro σ H2 ⟨x6,x7,x8,x9,x10,x11,rfl,s2,e2⟩
   obtain⟨yz,hyz,TZ⟩:=id RT
   have hl2:=s2 _ _ hyz
   have b12':bs.take 12=bs:=Do (by omega)
   refine⟨_,rfl,l,rfl,⟨_,zZ.of hl2⟩,vI (K:=K) (a:=l) (xs:=yz) (fun j σ H'=>∃ x12,σ = [some (.ref bl),some (.ref l),some (.int Y),some (.ref b),some (.ref td),some (.int (oB sr bs 12)),x6,x7,x8,x9,x10,x11,x12]∧zw H2 H') ⟨_,rfl,zw.refl _⟩ (fun j σ H' _ z=>?_) ?_ ?_⟩
   ·obtain⟨_,_,s'⟩:=z
    exact zZ.of (s' _ _ hl2)
   ·rintro j x σ H3 hx ⟨x12,rfl,s3⟩ E3 kk
    obtain⟨r,hr',hP⟩:=TZ.at_ j x hx
    have mr:=dZ hr'
    have S3:=s2.trans s3
    have rt:=hP H3 S3
    have g:=ok.gd r mr
    obtain⟨ta,tl,rfl,ht,en⟩:=rt.name g
    have gd:uY H3 td (.str r.name) (some (.int (yM r bs))):=by
     have:=uY.k (k:=Sum.inr r.name) (s3 _ _ e2)
     rw[GR nsr (psr.mem_iff.mpr mr),b12'] at this
     exact this
    refine⟨_,rfl,_,rfl,ta,_,_,_,rfl,rfl,qh.of ht,en,td,_,rfl,gd,_,rfl,_,rfl,_,r,b,bs,rfl,rt,g,zZ.of (S3 _ _ hb),by omega,bn,fun H4 s4=>⟨rfl,_,rfl,?_⟩⟩
    rw[decide_eq_true rfl]
    exact qY (kk _ _ ⟨_,rfl,s3.trans s4⟩)
   ·rintro σ H3 ⟨x12,rfl,s3⟩
    have e3:=s3 _ _ e2
    refine⟨td,_,e3,fun ob=>?_⟩
    have ek:(vQ sr bs 12 0).map (fun p=>kV p.1)=sr.map fun r=>V.str r.name:=by
     rw[lr,dB]
     rfl
    have ef:(upd H3 td (.frz ob (.dK (vQ sr bs 12 0)))) td=some (.frz ob (.dK (vQ sr bs 12 0))):=zp
    have wd:=ZA ef
    rw[ek] at wd
    refine⟨_,rfl,_,rfl,td,ob,_,rfl,ef,fun D hD=>y9 wd (OU sr) hD (by rw[sizeLine_eq];omega) (fun r=>.int (yM r bs)) (fun r mr v H4 R s4 ev k=>?_) (fun H4 s4 e4=>?_)⟩
    ·subst ev
     have gd:uY H4 td (.str r.name) (some (.int (yM r bs))):=by
      refine .inl ⟨_,Sum.inr r.name,.inr ⟨ob,s4 _ _ ef⟩,rfl,?_⟩
      rw[GR nsr mr,b12']
     exact⟨_,rfl,_,rfl,td,_,rfl,gd,k _ (zw.refl _)⟩
    have hb3:(upd H3 td (.frz ob (.dK (vQ sr bs 12 0)))) b=some (.lst (bs.map V.int)):=by
     have hb3:=s3 _ _ (s2 _ _ hb)
     rw[zm (yQ hb3 e3 (by intro z;cases z))]
     exact hb3
    have e4':H4 D=some (.lst ((sr.map fun r=>yM r bs).map V.int)):=by rw[e4,dB];rfl
    refine⟨D,_,rfl,zZ.of e4',_,_,rfl,rfl,_,rfl,b,bs,rfl,zZ.of (s4 _ _ hb3),rfl,s4 _ _ ef,?_⟩
    have eq:oB sr bs 12+(sr.map fun r=>yM r bs).sum=bs.sum:=by
     unfold oB
     rw[b12']
     omega
    have dd:decide (V.int (oB sr bs 12+(sr.map fun r=>yM r bs).sum)=V.int bs.sum)=true:=decide_eq_true (congrArg V.int eq)
    have:=q _ ((s2.trans s3).trans (Zl e3 s4))
    rw[← dd] at this
    exact this
set_option maxHeartbeats 4000000 in
theorem OC (F:qQ K "_law_rules" "_law_rules" (top 105) f fd) (G:jP mg) (C1:qP P w K mg base zO 1 "_law_mixed" ["_law_cell","_law_k"] js) (C2:qP P w K mg base zO 5 "_law_rule" ["_law_cell","_law_name"] Qx):zH P w K mg base zO 6 f fd ["_law_cell","_law_names_here","_law_most"] (J6 K):=by
 have nd:(["_law_cell","_law_names_here","_law_most","_law_number","_law_many"]:List Str).Nodup:=by decide +kernel
 have nk:(["_law_k","_law_names_here","_law_cell"]:List Str).Nodup:=by decide +kernel
 refine F.ok (N:=["_law_cell","_law_names_here","_law_most","_law_number","_law_many"]) (by walk_at"s") (fun vs H Q E h=>?_) (fun cdv A outer s H vs Q E hr h=>?_)
 ·obtain⟨c,ln,nms,mo,rfl,_⟩:=h
  rfl
 ·obtain⟨c,ln,nms,mo,rfl,mo8,hl,n8,hn,nn,q⟩:=h
  refine' ⟨_,(zg (zF (i:=3) nd rfl (Or.inl rfl) (zj C1 hr (by decide) zt (za (pv 0) (za ze zd))))
    (zg (zF (i:=4) nd rfl (Or.inl rfl) (zz zG (qy (za ze (za ze (za ze (za ze (za (pv 2) (za (zq qc (zq qZ (pv 3) ze) (zq zU (pv 2) ze)) zd))))))) (zq qc (pv 3) ze)))
    (zi (zu ?comp)))),?main⟩
  case comp =>
   refine' z8 (Nc:=["_law_k","_law_names_here","_law_cell"]) (cl:=[("_law_names_here",s.heap.objs.size+2),("_law_cell",s.heap.objs.size+1)]) (src:=[none,some 1,some 0]) (wi:=Ys (qi (zM 4) yn)) (g:=z4 0) (tt:=qK) (te:=fun σ H Q=>qi (jC (YN fun i j=>.int (i+j)) (fun σ H Q=>qi (zM 2) (qi (jC (YN fun i j=>.int (i+j)) (tC (.int 150)) (zM 0)) yn) σ H fun vs H1=>js vs H1 Q E0) (zM 0)) (qi (jC (pB K) (zM 1) (zM 0)) yn) σ H fun vs H1=>Qx vs H1 Q E0)
    (by walk_at"c2") rfl (yf rfl G.range (za (pv 4) zd)) ?hb
   case hb =>
    intro fp C' s' H'
    exact⟨zJ (i:=0) nk rfl (Or.inl rfl),qd,zj C2 hr (by decide) zt (za (zq zU (zj C1 hr (by decide) zt (za (pv 2) (za (zq zU ze (pv 0)) zd))) (pv 0)) (za (zz zG (pv 1) (pv 0)) zd))⟩
  walk_at"d5"
  refine⟨_,rfl,c,_,rfl,fun m m0 m1=>⟨_,rfl,_,rfl,_,_,rfl,rfl,⟨by decide,by decide⟩,_,rfl,_,_,rfl,rfl,_,_,rfl,rfl,(by show (0:Int)<(mo:Nat)+1;omega),qv rfl,fun g H1 s1 n1 e1=>?_⟩⟩
  obtain⟨v,ev,mv⟩:=uE (xs:=[V.int 0,.int 1,.int 2,.int 3,.int (mo:Nat),.int (m/6%((mo:Nat)+1))]) (i:=m%6) (dM _ (by decide)) (dU _ (by decide))
  obtain⟨n,rfl,h8,hln⟩:∃ n:Nat,v = .int (n:Nat)∧n≤8∧n≤nms.length:=by
   simp only[dc,dm,or_false] at mv
   rcases mv with rfl | rfl | rfl | rfl | rfl | rfl
   ·exact⟨0,rfl,by decide,by omega⟩
   ·exact⟨1,rfl,by decide,by omega⟩
   ·exact⟨2,rfl,by decide,by omega⟩
   ·exact⟨3,rfl,by decide,by omega⟩
   ·exact⟨mo,rfl,mo8,n8.2⟩
   ·obtain⟨k,hk⟩:=Dy (show 0≤m/6%((mo:Nat)+1) from dM _ (by omega))
    have:m/6%((mo:Nat)+1)<(mo:Nat)+1:=dU _ (by omega)
    exact⟨k,by rw[hk],by omega,by omega⟩
  refine⟨_,rfl,_,_,rfl,rfl,(by show (0:Int)<6;decide),g,_,_,_,rfl,rfl,zZ.of e1,ev,_,rfl,_,rfl,by omega,by omega,?_⟩
  rw[Dk]
  refine fun D hD=>kA vK (Js n) hD (by rw[d4,sizeLine_eq];omega) (fun H' u k=>∃ r,Qc H' r u∧Gd 3 r∧nms[k]? = some r.name) (fun kp h=>by
   obtain⟨r,h1,h2⟩:=h
   exact⟨r,h1.keep kp,h2⟩) (fun i k hk v H2 R s2 e2 r=>?_) (fun zs H2 s2 e2 M=>?_)
  ·subst e2
   obtain⟨hk1,hk2⟩:=dF.mp hk
   rw[Eh] at hk2
   subst hk2
   rw[d4] at hk1
   have il:i<nms.length:=by omega
   exact⟨_,rfl,_,rfl,_,_,rfl,rfl,_,_,rfl,fun m' m0' m1'=>⟨_,rfl,_,_,rfl,rfl,_,rfl,_,rfl,ln,_,_,_,rfl,rfl,(s1.trans s2).seq hl,q8 (j:=i) (v:=.str nms[i]) (by rw[dj,de il];rfl),_,_,rfl,hn _ (DM il),fun v r' H3 gd rn s3 rt=>r v H3 s3 ⟨r',rt,gd,by rw[rn,de il]⟩⟩⟩
  ·obtain⟨rs,rl,hr'⟩:=Uy (P:=fun H u r=>Qc H r u) (q:=fun k r=>Gd 3 r∧nms[k]? = some r.name) M
   have zl:zs.length=n:=by rw[M.len,d4]
   refine q D rs H2 ⟨fun r hm=>?_,?_,by omega⟩ (s1.trans s2) (uC s1 hD) ⟨zs,e2,by omega,fun i y hy=>?_⟩
   ·obtain⟨i,hi⟩:=DU.mp hm
    exact (hr' i r hi).1.1
   ·have e:rs.map Rk.name=nms.take n:=by
     apply DO
     intro i
     rw[dj,List.getElem?_take]
     by_cases hi:i<n
     ·have h:=de (show i<rs.length by omega)
      rw[if_pos hi,h,(hr' i _ h).1.2]
      rfl
     ·rw[if_neg hi,Dn (by omega)]
      rfl
    rw[e]
    exact nn.sublist (EO _ _)
   ·have hi:i<rs.length:=by have:=(dF.mp hy).1;omega
    have h:=de hi
    obtain⟨u,hu,rt⟩:=(hr' i _ h).2
    rw[hy] at hu
    cases hu
    exact⟨_,h,fun H' s=>rt.same s⟩
set_option maxHeartbeats 32000000 in
theorem RZ {C:Addr} {J:Nat} (hJ:7≤J) (F:qQ K "law" "law" (top 112) f fd) (G:jP mg) (C_cell:qP P w K mg base zO 1 "_law_cell_at" ["_law_script","_law_k"] (GB K)) (C_mx:qP P w K mg base zO 1 "_law_mixed" ["_law_cell","_law_k"] js) (C_nm:qP P w K mg base zO 2 "_law_names" ["_law_cell","_law_many"] GK) (C_ru:qP P w K mg base zO 6 "_law_rules" ["_law_cell","_law_names_here","_law_most"] (J6 K)) (C_ba:qP P w K mg base zO 3 "_law_bases" ["_law_cell","_law_many"] Gk) (C_tx:qP P w K mg base zO 7 "_law_text" ["_law_own","_law_step"] gT) (C_bk:qP P w K mg base zO J "book_of" ["text"] (Lo C)) (C_mr:qP P w K mg base zO J "_law_months_right" ["_law_books","_law_rules_here","_law_year","_law_bases_here"] (Pw C)) (C_ea:qP P w K mg base zO J "_law_is_early" ["_law_book","_law_year"] (WM C)):zH P w K mg base zO (J+1) f fd ["_law_script"] (Qk K):=by
 have nd:(["_law_script","_law_names_here","_law_cell","_law_first","_law_own","_law_year","_law_k","_law_books","_law_later","_law_asked","_law_told","_law_rules_here","_law_bases_here"]:List Str).Nodup:=by decide +kernel
 have nc:(["_law_one","_law_asked"]:List Str).Nodup:=by decide +kernel
 have l1:1≤J:=dG (by decide) hJ
 have l2:2≤J:=dG (by decide) hJ
 have l3:3≤J:=dG (by decide) hJ
 have l6:6≤J:=dG (by decide) hJ
 refine F.ok (N:=["_law_script","_law_names_here","_law_cell","_law_first","_law_own","_law_year","_law_k","_law_books","_law_later","_law_asked","_law_told","_law_rules_here","_law_bases_here"]) (by walk_at"s") (fun vs H Q E h=>?_) (fun cdv A outer s H vs Q E hr h=>?_)
 ·obtain⟨a,ns,rfl,_⟩:=h
  rfl
 ·obtain⟨a,ns,rfl,hs,q⟩:=h
  have hu:=WC hr
  refine' ⟨_,(zg (zF (i:=1) nd rfl (Or.inl rfl) (zj C_nm hr l2 zt (za (zj C_cell hr l1 zt (za (pv 0) (za ze zd))) (za ze zd))))
    (zg (zF (i:=2) nd rfl (Or.inl rfl) (zj C_cell hr l1 zt (za (pv 0) (za ze zd))))
    (zg (zF (i:=3) nd rfl (Or.inl rfl) (zz zG (qy (za ze (za ze (za (zq zU ze (zq qc (zj C_mx hr l1 zt (za (pv 2) (za ze zd))) ze)) zd)))) (zq qc (pv 2) ze)))
    (zg (zF (i:=4) nd rfl (Or.inl rfl) QK)
    (zg (zF (i:=5) nd rfl (Or.inl rfl) (pv 3))
    (zg (jt PassesOwn.never rfl (yf rfl G.range (za (zq zU ze (zq qc (zq qZ (pv 2) ze) ze)) zd)) (zJ (i:=6) nd rfl (Or.inl rfl)) (zg (Vv hu (pv 4) (pv 5) (zj C_ru hr l6 zt (za (zj C_cell hr l1 zt (za (pv 0) (za (zq zU ze (pv 6)) zd))) (za (pv 1) (za ze zd)))) rfl)
    (zi (zF (i:=5) nd rfl (Or.inl rfl) (zq zU (zq zU (pv 5) ze) (zq qc (zj C_mx hr l1 zt (za (pv 2) (za (zq zU ze (pv 6)) zd))) ze))))))
    (zg (zF (i:=7) nd rfl (Or.inl rfl) (qy (za (zj C_bk hr (CZ _) zt (za (zj C_tx hr hJ zt (za (pv 4) (za ze zd))) zd)) (za (zj C_bk hr (CZ _) zt (za (zj C_tx hr hJ zt (za (pv 4) (za (QT wQ ze) zd))) zd)) zd))))
    (zg (zF (i:=8) nd rfl (Or.inl rfl) (zq zU (pv 3) (zq qc (zj C_mx hr l1 zt (za (pv 2) (za ze zd))) ze)))
    (zg (jt PassesOwn.never rfl (q9 (qy (za (pv 3) (za (pv 8) (za (pv 3) zd))))) (zJ (i:=9) nd rfl (Or.inr rfl)) (zg (Xa ?c1)
    (zg (zF (i:=11) nd rfl (Or.inl rfl) (kr hu (pv 4) (zx (JR rfl) rfl G.max PyProof.Rows.boot_max (za (pv 10) zd)) (fun _ _=>rfl)))
    (zg (zF (i:=12) nd rfl (Or.inl rfl) (zj C_ba hr l3 zt (za (zq zU (zj C_cell hr l1 zt (za (pv 0) (za ze zd))) (pv 9)) (za ze zd))))
    (zi (zR (qM (qF (zj C_mr hr (CZ _) zt (za (pv 7) (za (pv 11) (za (pv 9) (za (pv 12) zd))))))) (zi (zu jY)) zA))))))
    (zi (zu (yU (zj C_ea hr (CZ _) zt (za (zz zG (pv 7) ze) (za (zq vn (pv 3) ze) zd))) (ja (zj C_ea hr (CZ _) zt (za (zz zG (pv 7) ze) (za (zq vn (pv 3) ze) zd)))))))))))))))),?main⟩
  case c1 =>
   refine' we (i:=10) (Nc:=["_law_one","_law_asked"]) (cl:=[("_law_asked",s.heap.objs.size+1)]) (src:=[none,some 9]) (wi:=Gf (zM 4)) (g:=z4 0) (tt:=Wc (jC (YN fun i j=>.bl (decide (i≤j))) (zM 0) (zM 1))) (te:=zM 0)
    nd rfl rfl (by walk_at"c1") rfl (Uj (pv 4)) ?hb
   case hb =>
    intro fp C' s' H'
    exact⟨zJ (i:=0) nc rfl (Or.inl rfl),Qi (zE WH (pv 0) (pv 1) (zD _)),pv 0⟩
  walk_at"d5"
  refine⟨_,rfl,a,0,ns,rfl,hs,by decide,_,4,rfl,by decide,fun nms nl H1 n4 rn nnd s1 nl0 e1=>?_⟩
  refine⟨_,rfl,a,1,ns,rfl,s1.seq hs,by decide,?_⟩
  generalize JY ns 1=c
  refine⟨_,rfl,c,1,rfl,fun m m0 m1=>⟨_,_,rfl,rfl,(by show (0:Int)<9990;decide),_,_,rfl,rfl,qv rfl,fun l0 H2 s2 n2 e2=>?_⟩⟩
  have mm0:0≤m%9990:=dM _ (by decide)
  have mm1:m%9990<9990:=dU _ (by decide)
  obtain⟨v,ev,mv⟩:=uE (xs:=[V.int 1,.int 9990,.int (1+m%9990)]) (i:=c%3) (dM _ (by decide)) (dU _ (by decide))
  obtain⟨fi,rfl,fi0,fi1⟩:∃ fi:Int,v = .int fi∧1≤fi∧fi≤9990:=by
   simp only[dc,dm,or_false] at mv
   rcases mv with rfl | rfl | rfl
   ·exact⟨_,rfl,by decide,by decide⟩
   ·exact⟨_,rfl,by decide,by decide⟩
   ·exact⟨_,rfl,by omega,by omega⟩
  refine⟨_,rfl,_,_,rfl,rfl,(by show (0:Int)<3;decide),l0,_,_,_,rfl,rfl,zZ.of e2,ev,?_⟩
  refine fun o H3 s3 o0 e3=>⟨_,rfl,?_⟩
  obtain⟨ex,exh,exs'⟩:=rW ((s1.trans s2).seq hs)
  have S3:=s1.trans (s2.trans s3)
  have nl3:=s3 _ _ (s2 _ _ e1)
  have k0:0≤c/3%3:=dM _ (by decide)
  have k1:c/3%3<3:=dU _ (by decide)
  obtain⟨kn,hkn,kn1,kn3⟩:∃ kn:Nat,1+c/3%3=(kn:Int)∧1≤kn∧kn≤3:=⟨(1+c/3%3).toNat,by omega,by omega,by omega⟩
  refine⟨_,rfl,_,_,rfl,rfl,⟨by decide,by decide⟩,_,_,rfl,rfl,(by show (0:Int)<3;decide),_,_,rfl,rfl,_,rfl,by show -(2 ^ 62)≤1+c/3%3;omega,by show 1+c/3%3<2 ^ 62;omega,?_⟩
  rw[hkn,Dk]
  refine jG (fun i σ H'=>∃ x6 y fs,σ = [some (.ref a),some (.ref nl),some (.int c),some (.int fi),some (.ref o),some (.int y),x6,none,none,none,none,none,none]∧gg H' o fs fi y∧(∀ b ob,H3 b=some ob→b≠o→H' b=some ob)∧fs.length=i∧fi≤y∧y≤fi+3*(i:Nat)) ⟨none,fi,[],rfl,⟨⟨e3,DS,(fun e h=>nomatch h)⟩,List.Pairwise.nil,(fun e h=>nomatch h),fun z=>absurd rfl z,fun _=>rfl⟩,fun b ob h _=>h,rfl,Di _,by omega⟩ ?_ ?_
  ·rintro i σ H4 hi ⟨x6,y,fs,rfl,O4,k4,fl,fy,yb⟩ E4 kk
   have z0:(0:Int)+(i:Nat)=(i:Nat):=DD _
   rw[z0]
   have nlo:nl≠o:=zB (s2 _ _ e1) o0
   have nl4:=k4 _ _ nl3 nlo
   have sc4:=exs' H4 fun q hq=>k4 _ _ (s3 _ _ (exh q hq)) (zB (exh q hq) o0)
   refine⟨_,rfl,_,rfl,_,_,rfl,rfl,a,_,ns,rfl,sc4,by omega,_,rfl,_,nl,nms,4,rfl,by decide,zZ.of nl4,⟨by decide,by omega⟩,rn,nnd,fun l rs H5 ok s5 l0' r5=>?_⟩
   have O5:=O4.same s5
   refine⟨_,rfl,_,rfl,o,_,rfl,X9.k (k:=Sum.inl y) O5.ow.dic (by unfold vv;rw[CY,sizeLine_eq];omega),?_⟩
   rw[LA (a:=l) (rs:=rs)]
   have k6:∀ b ob,H5 b=some ob→b≠o→(upd H5 o (.dK (vv (kJ fs y l rs)))) b=some ob:=fun b ob h n=>by rw[zm n];exact h
   have e6:(upd H5 o (.dK (vv (kJ fs y l rs)))) o=some (.dK (vv (kJ fs y l rs))):=zp
   generalize upd H5 o (.dK (vv (kJ fs y l rs)))=H6 at k6 e6
   refine⟨_,rfl,_,_,rfl,rfl,_,rfl,_,rfl,_,_,rfl,rfl,c,_,rfl,fun m' m0' m1'=>⟨_,_,rfl,rfl,(by show (0:Int)<3;decide),_,_,rfl,rfl,?_⟩⟩
   have q0:0≤m'%3:=dM _ (by decide)
   have q1:m'%3<3:=dU _ (by decide)
   exact kk _ _ ⟨_,y+1+m'%3,fs++[(y,l,rs)],rfl,O4.put s5 r5 ok fy (by omega) k6 e6,fun b ob h n=>k6 _ _ (s5 _ _ (k4 _ _ h n)) n,by rw[dh,Da,fl],by omega,by omega⟩
  ·rintro σ H4 ⟨x6,y,fs,rfl,O4,k4,fl,fy,yb⟩
   have sc4:=exs' H4 fun q hq=>k4 _ _ (s3 _ _ (exh q hq)) (zB (exh q hq) o0)
   have fne:fs≠[]:=fun z=>by rw[z] at fl;have:0=kn:=fl;omega
   have yo:∀ e∈fs,0≤e.1∧e.1≤9999∧j4 e.2.2:=fun e he=>by
    have:=O4.ok e he
    exact⟨by omega,by omega,this.2.2⟩
   have yk:∀ k,YU (fs.map fun e=>(e.1,vC k e.2.2)):=fun k e he=>by
    obtain⟨b,hb,rfl⟩:=dk.mp he
    exact⟨(yo b hb).1,(yo b hb).2.1,QD (yo b hb).2.2⟩
   have up:∀ k,((fs.map fun e=>(e.1,vC k e.2.2)).map (·.1)).Pairwise (fun x y:Int=>x<y):=fun k=>by
    rw[dB]
    exact O4.up
   have ne':∀ k,(fs.map fun e=>(e.1,vC k e.2.2))≠[]:=fun k z=>fne (List.map_eq_nil_iff.mp z)
   refine⟨_,rfl,o,fs,1,rfl,.inl rfl,O4.ow,O4.up,yo,by omega,fun H5 s5=>⟨_,rfl,yk 1,up 1,ne' 1,by rw[CY];omega,fun B0 d0 t0 bs0 H6 s6 t00 bf0 K0 y0=>?_⟩⟩
   have O6:=O4.same (s5.trans s6)
   refine⟨_,rfl,_,rfl,o,fs,-1,rfl,.inr rfl,O6.ow,O4.up,yo,by omega,fun H7 s7=>⟨_,rfl,yk (-1),up (-1),ne' (-1),by rw[CY];omega,fun B1 d1 t1 bs1 H8 s8 t10 bf1 K1 y1=>⟨qv rfl,fun bl H9 s9 n9 e9=>?_⟩⟩⟩
   have s89:=s7.trans (s8.trans s9)
   have S9:=(s5.trans s6).trans s89
   have l0':bs0.length=fs.length:=by have:=congrArg List.length y0;rw[CY,CY] at this;exact this
   have l1':bs1.length=fs.length:=by have:=congrArg List.length y1;rw[CY,CY] at this;exact this
   refine⟨_,rfl,_,rfl,c,7,rfl,fun m' m0' m1'=>⟨_,_,rfl,rfl,(by show (0:Int)<9;decide),_,_,rfl,rfl,?_⟩⟩
   have q0:0≤m'%9:=dM _ (by decide)
   have q1:m'%9<9:=dU _ (by decide)
   obtain⟨la,hla,la0,la1⟩:∃ la,fi+m'%9=la∧fi≤la∧la≤9998:=⟨_,rfl,by omega,by omega⟩
   dsimp (config:={ proj:=false,iota:=false }) only
   rw[hla]
   refine⟨_,rfl,_,rfl,_,rfl,qv rfl,fun lq Ha sa na ea=>?_⟩
   have Sa:=S9.trans sa
   have Oa:=O4.same Sa
   have sca:=Sa.seq sc4
   have Ka0:=K0.fr fun b o h=>sa _ _ (s89 _ _ h)
   have Ka1:=K1.fr fun b o h=>sa _ _ (s9 _ _ h)
   have ebl:=sa _ _ e9
   refine⟨lq,rfl,⟨_,zZ.of ea⟩,vI (K:=K) (a:=lq) (xs:=[V.int fi,V.int la,V.int fi]) (fun i σ H'=>∃ x9 x10 x11 x12,σ = [some (.ref a),some (.ref nl),some (.int c),some (.int fi),some (.ref o),some (.int y),x6,some (.ref bl),some (.int la),x9,x10,x11,x12]∧zw Ha H') ⟨_,_,_,_,rfl,zw.refl _⟩ (fun i σ H' _ z=>?_) ?_ ?_⟩
   ·obtain⟨_,_,_,_,_,s'⟩:=z
    exact zZ.of (s' _ _ ea)
   ·rintro i x σ Hb hx ⟨x9,x10,x11,x12,rfl,sb⟩ Eb kk
    obtain⟨Yq,rfl,Yq0,Yq1⟩:∃ Yq:Int,x = .int Yq∧fi≤Yq∧Yq≤9998:=by
     have mx:=dZ hx
     simp only[dc,dm,or_false] at mx
     rcases mx with rfl | rfl | rfl
     ·exact⟨_,rfl,by omega,by omega⟩
     ·exact⟨_,rfl,la0,la1⟩
     ·exact⟨_,rfl,by omega,by omega⟩
    have Ob:=Oa.same sb
    refine⟨o,_,Ob.ow.dic,fun ob=>?_⟩
    have ek:(vv fs).map (fun p=>kV p.1)=(fs.map (·.1)).map V.int:=by
     unfold vv
     rw[dB,dB]
     rfl
    have wd:=ZA (H:=upd Hb o (.frz ob (.dK (vv fs)))) (d:=o) (o:=ob) (kvs:=vv fs) zp
    rw[ek] at wd
    refine⟨_,rfl,o,ob,vv fs,rfl,zp,fun D hD=>?_⟩
    refine Qa wd hD (by rw[CY,CY,sizeLine_eq];omega) (fun x=>match x with | .int y=>decide (y≤Yq) | _=>false) id (fun x hx H' R _ r=>?_) (fun x hx _ H' R _ r=>⟨_,rfl,r⟩) ?_
    ·obtain⟨y',_,rfl⟩:=dk.mp hx
     exact⟨_,rfl,_,rfl,_,_,rfl,rfl,_,rfl,r⟩
    have ea':(((fs.map (·.1)).map V.int).filter fun x=>match x with | .int y=>decide (y≤Yq) | _=>false).map id=(ZZ fs Yq).map V.int:=by
     rw[List.map_id,List.filter_map]
     rfl
    rw[ea']
    have Dt:D≠o:=fun z=>by rw[z,zp] at hD;cases hD
    have sf:zw (upd Hb o (.frz ob (.dK (vv fs)))) (upd (upd Hb o (.frz ob (.dK (vv fs)))) D (.lst ((ZZ fs Yq).map V.int))):=zw.upd hD
    refine⟨by rw[zm (Ne.symm Dt)];exact zp,?_⟩
    have sc:zw Hb (upd (upd (upd Hb o (.frz ob (.dK (vv fs)))) D (.lst ((ZZ fs Yq).map V.int))) o (.dK (vv fs))):=Zl Ob.ow.dic sf
    have ec:(upd (upd (upd Hb o (.frz ob (.dK (vv fs)))) D (.lst ((ZZ fs Yq).map V.int))) o (.dK (vv fs))) D=some (.lst ((ZZ fs Yq).map V.int)):=by rw[zm Dt,zp]
    generalize upd (upd (upd Hb o (.frz ob (.dK (vv fs)))) D (.lst ((ZZ fs Yq).map V.int))) o (.dK (vv fs))=Hc at sc ec
    have Sc:=sb.trans sc
    have Oc:=Oa.same Sc
    obtain⟨e1',he1,ef1⟩:=O4.hd fne
    have nn:ZZ fs Yq≠[]:=fun z=>by
     have:fi∈ZZ fs Yq:=DH.mpr ⟨dk.mpr ⟨e1',he1,ef1⟩,decide_eq_true Yq0⟩
     rw[z] at this
     cases this
    obtain⟨m2,hm,top⟩:=Pn nn
    obtain⟨en,he,em',pk⟩:=xi hm top
    have gd:uY Hc o (.int m2) (some (.ref en.2.1)):=by
     rw[← em',← xF Oc.ow.nd he]
     exact uY.k (k:=Sum.inl en.1) Oc.ow.dic
    have tp:∀ e∈fs,e.1≤Yq→e.1≤en.1:=fun e he' hle=>by
     rw[em']
     exact top _ (DH.mpr ⟨dk.mpr ⟨e,he',rfl⟩,decide_eq_true hle⟩)
    have le:en.1≤Yq:=by rw[em'];exact pk.le
    dsimp only [z4]
    refine⟨_,rfl,_,rfl,D,_,m2,rfl,zZ.of ec,hm,top,o,_,rfl,gd,?_⟩
    refine⟨_,rfl,a,6,ns,rfl,Sc.seq sca,by decide,_,rfl,_,_,rfl,rfl,_,12,rfl,by decide,fun bs b Hd b12 bn sd b0 ed=>?_⟩
    have Sd:=Sc.trans sd
    have KK0:=Ka0.fr fun b o h=>Sd _ _ h
    have KK1:=Ka1.fr fun b o h=>Sd _ _ h
    obtain⟨pe0,pp0⟩:=UH (k:=1) y0 K0.nd he le tp
    obtain⟨pe1,pp1⟩:=UH (k:=-1) y1 K1.nd he le tp
    exact⟨_,rfl,_,rfl,_,rfl,_,rfl,bl,en.2.1,b,B0,d0,t0,B1,d1,t1,bs0,bs1,en.2.2,Yq,bs,rfl,Sd _ _ ebl,⟨KK0,by omega,pe0,pp0⟩,⟨KK1,by omega,pe1,pp1⟩,(Oa.same Sd).ow.rt en he,(yo en he).2.2,ed,b12,bn,by omega,by omega,fun He se=>⟨true,rfl,qY (kk _ _ ⟨_,_,_,_,rfl,Sd.trans se⟩)⟩⟩
   ·rintro σ Hb ⟨x9,x10,x11,x12,rfl,sb⟩
    have lo:∀ e∈fs,fi≤e.1:=fun e he=>(O4.ok e he).1
    have KK0:=Ka0.fr fun b o h=>sb _ _ h
    have KK1:=Ka1.fr fun b o h=>sb _ _ h
    have ebb:=sb _ _ ebl
    refine⟨_,rfl,bl,_,_,_,rfl,rfl,zZ.of ebb,rfl,_,rfl,_,_,rfl,rfl,B0,d0,t0,bs0,_,rfl,KK0,by omega,by omega,by omega,JF y0 lo,fun Hc sc=>⟨true,rfl,jS ?_⟩⟩
    exact⟨_,rfl,bl,_,_,_,rfl,rfl,zZ.of (sc _ _ ebb),rfl,_,rfl,_,_,rfl,rfl,B1,d1,t1,bs1,_,rfl,KK1.fr fun b o h=>sc _ _ h,by omega,by omega,by omega,JF y1 lo,fun Hd sd=>q Hd⟩
end
end K15
set_option maxHeartbeats 8000000
namespace K15
open PySem L2 Pg
theorem rT {l:PySem.W.OpenLaw} {w:World} {K:BFr} {h:Heap} {mg:Str→Option Value} {fa:Addr} {c0 c1 c2 c3 c4 c5 c6 c7 cR cRu cF cS cC cL cB cO cK:Addr} {t0 t1 t2 t3 t4 t5 t6 t7 t8 t9 t10 t11:Tok} {u0:Tok} {u1:Tok} {u4:Tok} (X:K.In h) (G:h.Ns mainGlobals mg) (hfa:mg "law" = some (.ref fa)) (Ws:qw K "is_number" (top 15)) (wY:qw K "is_number_within" (top 16)) (XO:qw K "is_parts" (top 17)) (pW:qw K "is_way" (top 18)) (Jj:qw K "need_amount" (top 19)) (XC:qw K "need_way" (top 20)) (Ym:qw K "half_goes_up" (top 21)) (GU:qw K "goes_up" (top 22)) (GZ:qw K "rounded" (top 23)) (Xr:qw K "share_of" (top 24)) (VX:qw K "is_word_of" (top 29)) (o8:qw K "is_name" (top 30)) (tE:qw K "rise" (top 31)) (YS:qw K "are_figures" (top 33)) (Zr:qw K "is_number_text" (top 34)) (Jo:qw K "read_number" (top 35)) (Uq:qw K "need_month" (top 40)) (Wp:qw K "need_year" (top 41)) (oK:qw K "year_of" (top 42)) (oo:qw K "dues_of" (top 44)) (xk:qw K "month_row" (top 45)) (QO:qw K "statement_by" (top 46)) (UC:qw K "statement" (top 47)) (Yp:qw K "is_rule_name" (top 51)) (ZD:qw K "is_rule_amount" (top 52)) (wV:qw K "need_rule_amount" (top 53)) (VV:qw K "need_share" (top 54)) (wR:qw K "months_with_base" (top 55)) (o6:qw K "is_band" (top 63)) (U9:qw K "are_bands" (top 64)) (WS:qw K "number_of" (top 71)) (om:qw K "band_of" (top 72)) (xu:qw K "bands_of" (top 73)) (Uw:qw K "plain_rule" (top 74)) (xY:qw K "is_ontop" (top 75)) (yx:qw K "rule_of_words" (top 76)) (oS:qw K "rule_of" (top 77)) (gy:qw K "need_few" (top 80)) (wz:qw K "need_unlike_names" (top 81)) (OE:qw K "is_head" (top 85)) (gA:qw K "parts_of" (top 86)) (G7:qw K "book_of" (top 87)) (Yd:qw K "_law_cell_at" (top 89)) (Vn:qw K "_law_mixed" (top 90)) (V0:qw K "_law_whole" (top 91)) (Y5:qw K "_law_amount" (top 92)) (V5:qw K "_law_bases" (top 93)) (Uc:qw K "_law_names" (top 94)) (Uk:qw K "_law_parts" (top 95)) (xK:qw K "_law_way" (top 96)) (VS:qw K "_law_pairs" (top 97)) (Vk:qw K "_law_plain" (top 98)) (U7:qw K "_law_rule" (top 99)) (QX:qw K "_law_rounded" (top 100)) (Jr:qw K "_law_pieces" (top 101)) (jz:qw K "_law_until" (top 102)) (ZY:qw K "_law_of_month" (top 103)) (vt:qw K "_law_row" (top 104)) (Vs:qw K "_law_rules" (top 105)) (WW:qw K "_law_dues" (top 106)) (XM:qw K "_law_net" (top 107)) (ko:qw K "_law_dues_right" (top 108)) (xc:qw K "_law_text" (top 109)) (wA:qw K "_law_months_right" (top 110)) (Z0:qw K "_law_is_early" (top 111)) (T8:qw K "law" (top 112)) (n0:BnR K "BadAmount" c0) (n1:BnR K "BadShare" c1) (n2:BnR K "BadText" c2) (n3:BnR K "BadMonth" c3) (n4:BnR K "BadYear" c4) (n5:BnR K "BadRule" c5) (n6:BnR K "BadBook" c6) (n7:BnR K "NoYear" c7) (nR:BnR K "RollError" cR) (gc0:BnI K "MOST_SIGNS" 8 t0) (gc1:BnI K "MOST_PARTS" 20000 t1) (gc2:BnI K "WHOLE" 10000 t2) (gc3:BnI K "HALF" 5000 t3) (gc4:BnI K "MOST_AMOUNT" 1000000000000 t4) (gc5:BnI K "MOST_BANDS" 12 t5) (gc6:BnI K "MOST_DEPTH" 3 t6) (gc7:BnI K "MOST_FIGURES" 13 t7) (gc8:BnI K "YEAR_MONTHS" 12 t8) (gc9:BnI K "LAST_YEAR" 9999 t9) (rR:BnI K "LAST_MONTH" 119999 t10) (Rw:BnI K "MOST_RULES" 8 t11) (s0:PySem.W.nsIn K mainGlobals "LETTERS" = some (some (.str "abcdefghijklmnopqrstuvwxyz" u0))) (s1:PySem.W.nsIn K mainGlobals "FIGURES" = some (some (.str "0123456789" u1))) (s2:Bn K "WAYS" ["down","up","near","even"]) (s3:Bn K "NO_RULE_NAMES" ["base","net","month","sums"]) (s4:PySem.W.nsIn K mainGlobals "HEAD" = some (some (.str "year " u4))) (V1:BnN K "isinstance") (bN:BnN K "int") (tY:BnN K "bool") (TY:BnN K "str") (TX:BnN K "len") (Mb:BnN K "range") (VW:BnN K "ValueError") (tR:BnN K "list") (Na:BnN K "tuple") (Ru:BnN K "dict") (Bg:BnN K "set") (Bl:BnN K "all") (TF:BnN K "any") (bJ:BnN K "sum") (mJ:BnN K "sorted") (TR:BnN K "abs") (b5:BnN K "max") (TV:BnN K "min") (ba:BnN K "zip") (UE:BnN K "enumerate") (gi:BnN K "reversed") (x3:PySem.W.excIn K c3 Vj "ValueError.__new__" = true) (e3:PySem.W.exmOne K (.ref c3) (.ref cR)=some true) (X3:XK.uf K c3) (v3:PySem.W.kitOne K (.ref c3) (.type "ValueError")=some true) (Co:BkO K c3 c0 false) (CN:BkO K c3 c1 false) (CP:BkO K c3 c2 false) (Cj:BkO K c3 c3 true) (Cw:BkO K c3 c4 false) (Ck:BkO K c3 c5 false) (Cr:BkO K c3 c6 false) (Cy:BkO K c3 c7 false) (x7:PySem.W.excIn K c7 Vj "ValueError.__new__" = true) (e7:PySem.W.exmOne K (.ref c7) (.ref cR)=some true) (X7:XK.uf K c7) (v7:PySem.W.kitOne K (.ref c7) (.type "ValueError")=some true) (Cn:BkO K c7 c0 false) (CC:BkO K c7 c1 false) (CO:BkO K c7 c2 false) (Cz:BkO K c7 c3 false) (CF:BkO K c7 c4 false) (CB:BkO K c7 c5 false) (Cf:BkO K c7 c6 false) (Cm:BkO K c7 c7 true) (Tq:BnR K "Rule" cRu) (ng:PySem.W.plainGet K cRu Str.empty=true) (Nd:PySem.W.hasDictIn K cRu=true) (Mt:PySem.W.plainOver K cRu=true) (nA:BfS K cRu) (Z3:yt K cRu "__init__" "Rule.__init__" (zy (top 56) 0)) (Zc:vG K cRu "__init__" = true) (RS:BnR K "Flat" cF) (nG:PySem.W.plainGet K cF Str.empty=true) (MJ:PySem.W.hasDictIn K cF=true) (Nj:PySem.W.plainOver K cF=true) (MZ:BfS K cF) (uB:zT K cF "name") (Y9:zT K cF "amount") (Ut:zT K cF "parts") (xG:zT K cF "way") (WR:zT K cF "most") (VU:zT K cF "least") (Z5:Jh K cF "Flat.__init__" (zy (top 57) 0)) (Ur:yt K cF "until" "Flat.until" (zy (top 57) 1)) (Wr:yt K cF "twin" "Flat.twin" (zy (top 57) 3)) (VE:yt K cF "depth" "Rule.depth" (zy (top 56) 4)) (Z2:yt K cF "of_month" "Rule.of_month" (zy (top 56) 5)) (gj:yt K cF "row" "Flat.row" (zy (top 57) 2)) (NA:BnR K "Share" cS) (PV:PySem.W.plainGet K cS Str.empty=true) (lK:PySem.W.hasDictIn K cS=true) (pQ:PySem.W.plainOver K cS=true) (l7:BfS K cS) (v9:zT K cS "name") (Yc:zT K cS "amount") (Jd:zT K cS "parts") (WL:zT K cS "way") (VJ:zT K cS "most") (Y6:zT K cS "least") (Zb:Jh K cS "Share.__init__" (zy (top 58) 0)) (Y8:yt K cS "until" "Share.until" (zy (top 58) 1)) (Vp:yt K cS "twin" "Share.twin" (zy (top 58) 3)) (YX:yt K cS "depth" "Rule.depth" (zy (top 56) 4)) (Zg:yt K cS "of_month" "Rule.of_month" (zy (top 56) 5)) (Uz:yt K cS "row" "Share.row" (zy (top 58) 2)) (p6:BnR K "Capped" cC) (oM:PySem.W.plainGet K cC Str.empty=true) (OO:PySem.W.hasDictIn K cC=true) (OM:PySem.W.plainOver K cC=true) (OF:BfS K cC) (vD:zT K cC "name") (Z6:zT K cC "amount") (QQ:zT K cC "parts") (Ud:zT K cC "way") (Jc:zT K cC "most") (Qu:zT K cC "least") (k9:Jh K cC "Capped.__init__" (zy (top 59) 0)) (QS:yt K cC "until" "Capped.until" (zy (top 59) 1)) (Y7:yt K cC "twin" "Capped.twin" (zy (top 59) 3)) (Qw:yt K cC "depth" "Rule.depth" (zy (top 56) 4)) (w9:yt K cC "of_month" "Rule.of_month" (zy (top 56) 5)) (Ui:yt K cC "row" "Capped.row" (zy (top 59) 2)) (NQ:BnR K "Least" cL) (Ln:PySem.W.plainGet K cL Str.empty=true) (PQ:PySem.W.hasDictIn K cL=true) (pz:PySem.W.plainOver K cL=true) (mD:BfS K cL) (vV:zT K cL "name") (QV:zT K cL "amount") (Je:zT K cL "parts") (Wx:zT K cL "way") (VM:zT K cL "most") (Jb:zT K cL "least") (Zz:Jh K cL "Least.__init__" (zy (top 60) 0)) (Y3:yt K cL "until" "Least.until" (zy (top 60) 1)) (V4:yt K cL "twin" "Least.twin" (zy (top 60) 3)) (Ji:yt K cL "depth" "Rule.depth" (zy (top 56) 4)) (Zs:yt K cL "of_month" "Rule.of_month" (zy (top 56) 5)) (Wf:yt K cL "row" "Least.row" (zy (top 60) 2)) (NU:BnR K "Bands" cB) (lG:PySem.W.plainGet K cB Str.empty=true) (LF:PySem.W.hasDictIn K cB=true) (Pu:PySem.W.plainOver K cB=true) (lL:BfS K cB) (v8:zT K cB "name") (Ja:zT K cB "bands") (WU:zT K cB "way") (YW:zT K cB "parts") (Qt:zT K cB "within") (Zt:Jh K cB "Bands.__init__" (zy (top 65) 0)) (Jk:yt K cB "until" "Bands.until" (zy (top 65) 1)) (Vr:yt K cB "twin" "Bands.twin" (zy (top 65) 3)) (YY:yt K cB "depth" "Rule.depth" (zy (top 56) 4)) (Zd:yt K cB "of_month" "Rule.of_month" (zy (top 56) 5)) (UZ:yt K cB "row" "Bands.row" (zy (top 65) 2)) (nO:BnR K "OnTop" cO) (Lv:PySem.W.plainGet K cO Str.empty=true) (LZ:PySem.W.hasDictIn K cO=true) (lh:PySem.W.plainOver K cO=true) (PH:BfS K cO) (vZ:zT K cO "name") (YZ:zT K cO "bands") (Wh:zT K cO "way") (Jq:zT K cO "parts") (QH:zT K cO "within") (jF:Jh K cO "OnTop.__init__" (zy (top 68) 0)) (jM:yt K cO "until" "OnTop.until" (zy (top 68) 1)) (v5:yt K cO "twin" "OnTop.twin" (zy (top 68) 3)) (jN:yt K cO "depth" "OnTop.depth" (zy (top 68) 4)) (Zx:yt K cO "of_month" "Rule.of_month" (zy (top 56) 5)) (vB:yt K cO "row" "OnTop.row" (zy (top 68) 2)) (XT:BnR K "RuleBook" cK) (UD:PySem.W.plainGet K cK Str.empty=true) (WX:PySem.W.hasDictIn K cK=true) (WJ:PySem.W.plainOver K cK=true) (WE:BfS K cK) (jV:zT K cK "told") (wy:Jh K cK "RuleBook.__init__" (zy (top 82) 0)) (YG:yt K cK "put" "RuleBook.put" (zy (top 82) 1)) (Z8:yt K cK "rows" "RuleBook.rows" (zy (top 82) 2)) (Zf:yt K cK "rules" "RuleBook.rules" (zy (top 82) 3)) (ihn:PySem.W.specialIn K (.builtin "object.__class__") "__get__" = some (some (.builtin "getset_descriptor.__get__"))) (itk:PySem.W.takesIn K (.builtin "object.__class__")=some true) (BU:(!(Nat.beq cS cO))=true) (ia0:BfC K cF) (im0:PySem.W.mroIn K cF (.type "object")=some true) (ik0:BkO K cF cRu true) (ia1:BfC K cS) (im1:PySem.W.mroIn K cS (.type "object")=some true) (ik1:BkO K cS cRu true) (ia2:BfC K cC) (im2:PySem.W.mroIn K cC (.type "object")=some true) (ik2:BkO K cC cRu true) (ia3:BfC K cL) (im3:PySem.W.mroIn K cL (.type "object")=some true) (ik3:BkO K cL cRu true) (ia4:BfC K cB) (im4:PySem.W.mroIn K cB (.type "object")=some true) (ik4:BkO K cB cRu true) (ia5:BfC K cO) (im5:PySem.W.mroIn K cO (.type "object")=some true) (ik5:BkO K cO cRu true) (xNN:PySem.W.exmOne K (.ref c7) (.ref c7)=some true)
  : ∃ fd:FuncData,(∀ (s:Shared) (v:Value),BindsTo s fd ⟨[v],[]⟩ [("_law_script",v)])∧∀ base:Heap,K.In base→base.Ns mainGlobals mg→zH l.prog w K mg base zO 27 fa fd ["_law_script"] (Qk K):=by
 obtain⟨d,rfl,rfl,rfl,rfl,rfl,rfl,rfl,rfl⟩:∃ d:Nat→Addr,d 0=c0∧d 1=c1∧d 2=c2∧d 3=c3∧d 4=c4∧d 5=c5∧d 6=c6∧d 7=c7:=⟨fun i=>[c0,c1,c2,c3,c4,c5,c6,c7].getD i 0,rfl,rfl,rfl,rfl,rfl,rfl,rfl,rfl⟩
 obtain⟨fl,fdl,al,Fl⟩:=T8
 have e:=hfa.symm.trans (Bmg_o X G al)
 cases e
 have tU:BC K mg "WAYS" ["down","up","near","even"]:=s2.mg X G
 have Z4:BC K mg "NO_RULE_NAMES" ["base","net","month","sums"]:=s3.mg X G
 have GL:jP mg:=⟨Bmg_n X G V1,Bmg_n X G bN,Bmg_n X G tY,Bmg_n X G TY,Bmg_n X G TX,Bmg_n X G Mb,Bmg_n X G VW,Bmg_n X G tR,Bmg_n X G Na,Bmg_n X G Ru,Bmg_n X G Bg,Bmg_n X G Bl,Bmg_n X G TF,Bmg_n X G bJ,Bmg_n X G mJ,Bmg_n X G TR,Bmg_n X G b5,Bmg_n X G TV,Bmg_n X G ba,Bmg_n X G UE,Bmg_n X G gi⟩
 have mgN:mg "NoYear" = some (.ref (d 7)):=Bmg_o X G n7
 have ER3:Er K mg "BadMonth" (d 3):=⟨Bmg_o X G n3,x3⟩
 have ER7:Er K mg "NoYear" (d 7):=⟨Bmg_o X G n7,x7⟩
 have VT:Z1 mg "MOST_SIGNS" 8:=⟨t0,Bmg_o X G gc0⟩
 have Vm:Z1 mg "MOST_PARTS" 20000:=⟨t1,Bmg_o X G gc1⟩
 have nW:Z1 mg "WHOLE" 10000:=⟨t2,Bmg_o X G gc2⟩
 have tO:Z1 mg "HALF" 5000:=⟨t3,Bmg_o X G gc3⟩
 have Jg:Z1 mg "MOST_AMOUNT" 1000000000000:=⟨t4,Bmg_o X G gc4⟩
 have VR:Z1 mg "MOST_BANDS" 12:=⟨t5,Bmg_o X G gc5⟩
 have yv:Z1 mg "MOST_DEPTH" 3:=⟨t6,Bmg_o X G gc6⟩
 have QW:Z1 mg "MOST_FIGURES" 13:=⟨t7,Bmg_o X G gc7⟩
 have Y2:Z1 mg "YEAR_MONTHS" 12:=⟨t8,Bmg_o X G gc8⟩
 have UY:Z1 mg "LAST_YEAR" 9999:=⟨t9,Bmg_o X G gc9⟩
 have VI:Z1 mg "LAST_MONTH" 119999:=⟨t10,Bmg_o X G rR⟩
 have VY:Z1 mg "MOST_RULES" 8:=⟨t11,Bmg_o X G Rw⟩
 have oE:Pg.Txt mg "LETTERS" "abcdefghijklmnopqrstuvwxyz":=⟨_,Bmg_o X G s0⟩
 have oP:Pg.Txt mg "FIGURES" "0123456789":=⟨_,Bmg_o X G s1⟩
 have LG:Pg.Txt mg "HEAD" "year ":=⟨_,Bmg_o X G s4⟩
 have bl:=Fl.binds (ps:=["_law_script"]) (by walk_at"0")
 refine⟨fdl,fun s v=>?_,fun base _ _=>?_⟩
 ·obtain⟨oc,od,kV,doc,pm,an,cdv,ct,osl,rfl,lk,hcd⟩:=Fl.ex
  exact .of_eq rfl
 have BG:w5 K cRu:=⟨ng,Nd,Mt,nA⟩
 have Qm:mg "Rule" = some (.ref cRu):=Bmg_o X G Tq
 have j5:w5 K cF:=⟨nG,MJ,Nj,MZ⟩
 have nL:mg "Flat" = some (.ref cF):=Bmg_o X G RS
 have jy:w5 K cS:=⟨PV,lK,pQ,l7⟩
 have P3:mg "Share" = some (.ref cS):=Bmg_o X G NA
 have yP:w5 K cC:=⟨oM,OO,OM,OF⟩
 have oH:mg "Capped" = some (.ref cC):=Bmg_o X G p6
 have jg:w5 K cL:=⟨Ln,PQ,pz,mD⟩
 have lE:mg "Least" = some (.ref cL):=Bmg_o X G NQ
 have jm:w5 K cB:=⟨lG,LF,Pu,lL⟩
 have mH:mg "Bands" = some (.ref cB):=Bmg_o X G NU
 have qH:w5 K cO:=⟨Lv,LZ,lh,PH⟩
 have YB:mg "OnTop" = some (.ref cO):=Bmg_o X G nO
 have jd:w5 K cK:=⟨UD,WX,WJ,WE⟩
 have US:mg "RuleBook" = some (.ref cK):=Bmg_o X G XT
 obtain⟨Cs,rfl,rfl,rfl,rfl,rfl,rfl⟩:∃ Cs:Nat→Addr,Cs 0=cF∧Cs 1=cS∧Cs 2=cC∧Cs 3=cL∧Cs 4=cB∧Cs 5=cO:=⟨fun i=>[cF,cS,cC,cL,cB,cO].getD i 0,rfl,rfl,rfl,rfl,rfl,rfl⟩
 have RK:uu K Cs:=⟨bW j5 jy yP jg,bW (BB uB Y9 Ut xG WR VU) (BB v9 Yc Jd WL VJ Y6) (BB vD Z6 QQ Ud Jc Qu) (BB vV QV Je Wx VM Jb)⟩
 have RX4:Yi K (Cs 4):=⟨jm,bu v8 Ja WU YW Qt⟩
 have RX5:Yi K (Cs 5):=⟨qH,bu vZ YZ Wh Jq QH⟩
 have RJ:bb K Cs cRu:=⟨Zj ia0 ia1 ia2 ia3 ia4 ia5,ihn,itk,Zj im0 im1 im2 im3 im4 im5,Zj ik0 ik1 ik2 ik3 ik4 ik5,Zj j5 jy yP jg jm qH,oX BU⟩
 have C1:=Ws.cal (P:=l.prog) (w:=w) (base:=base) X G (by walk_at"0") fun _ _ F=>Ux F GL
 have C2:=wY.cal (P:=l.prog) (w:=w) (base:=base) X G (by walk_at"1") fun _ _ F=>OY F C1
 have C3:=XO.cal (P:=l.prog) (w:=w) (base:=base) X G (by walk_at"0") fun _ _ F=>Oe F Vm C2
 have C4:=pW.cal (P:=l.prog) (w:=w) (base:=base) X G (by walk_at"0") fun _ _ F=>NN F GL tU
 have C5:=Jj.cal (P:=l.prog) (w:=w) (base:=base) X G (by walk_at"0") fun _ _ F=>PJ F C1
 have C6:=XC.cal (P:=l.prog) (w:=w) (base:=base) X G (by walk_at"0") fun _ _ F=>O8 F C4
 have C7:=Ym.cal (P:=l.prog) (w:=w) (base:=base) X G (by walk_at"1") fun _ _ F=>nv F
 have C8:=GU.cal (P:=l.prog) (w:=w) (base:=base) X G (by walk_at"2") fun _ _ F=>Ml F tO C7
 have C9:=GZ.cal (P:=l.prog) (w:=w) (base:=base) X G (by walk_at"3") fun _ _ F=>MM F nW C5 C6 C8
 have C10:=Xr.cal (P:=l.prog) (w:=w) (base:=base) X G (by walk_at"1") fun _ _ F=>ou F C5 C3 C9
 have C11:=VX.cal (P:=l.prog) (w:=w) (base:=base) X G (by walk_at"3") fun _ _ F=>ny F GL VT
 have C12:=o8.cal (P:=l.prog) (w:=w) (base:=base) X G (by walk_at"0") fun _ _ F=>Ni F oE C11
 have C13:=Yp.cal (P:=l.prog) (w:=w) (base:=base) X G (by walk_at"0") fun _ _ F=>O7 F Z4 C12
 have C14:=ZD.cal (P:=l.prog) (w:=w) (base:=base) X G (by walk_at"0") fun _ _ F=>L5 F Jg C2
 have C15:=wV.cal (P:=l.prog) (w:=w) (base:=base) X G (by walk_at"0") fun _ _ F=>oA F C14
 have C16:=VV.cal (P:=l.prog) (w:=w) (base:=base) X G (by walk_at"3") fun _ _ F=>OI F C3 C4
 have C17:=wR.cal (P:=l.prog) (w:=w) (base:=base) X G (by walk_at"0") fun _ _ F=>RC F GL
 have C18:=tE.cal (P:=l.prog) (w:=w) (base:=base) X G (by walk_at"0") fun _ _ F=>LB F GL
 have C19:=o6.cal (P:=l.prog) (w:=w) (base:=base) X G (by walk_at"0") fun _ _ F=>ph F GL C14 C3
 have C20:=U9.cal (P:=l.prog) (w:=w) (base:=base) X G (by walk_at"0") fun _ _ F=>Oi F GL VR C19 C18
 have R0:=Z3.calC (P:=l.prog) (w:=w) (mg:=mg) (base:=base) (ps:=["self","name"]) Zc Qm (by walk_at"3") fun f fd F=>oy F C13
 have R1:=R0.imp (Pj RK)
 have I0:=Z5.cal (P:=l.prog) (w:=w) (mg:=mg) (base:=base) nL (by walk_at"1") fun _ _ F=>OA F RK R1 C15
 have I1:=Zb.cal (P:=l.prog) (w:=w) (mg:=mg) (base:=base) P3 (by walk_at"2") fun _ _ F=>Os F RK R1 C16
 have I2:=k9.cal (P:=l.prog) (w:=w) (mg:=mg) (base:=base) oH (by walk_at"4") fun _ _ F=>OQ F RK R1 C16 C15
 have I3:=Zz.cal (P:=l.prog) (w:=w) (mg:=mg) (base:=base) lE (by walk_at"4") fun _ _ F=>G8 F RK R1 C16 C15
 have I4:=Zt.cal (P:=l.prog) (w:=w) (mg:=mg) (base:=base) mH (by walk_at"2") fun _ _ F=>PD F GL RX4 R0 C20 C4
 have E0:=VE.cal (P:=l.prog) (w:=w) (mg:=mg) (base:=base) j5 (by walk_at"0") fun _ _ F=>kC (Cs:=Cs) (d:=3) (k:=0) (by decide) F
 have E1:=YX.cal (P:=l.prog) (w:=w) (mg:=mg) (base:=base) jy (by walk_at"0") fun _ _ F=>kC (Cs:=Cs) (d:=3) (k:=1) (by decide) F
 have E2:=Qw.cal (P:=l.prog) (w:=w) (mg:=mg) (base:=base) yP (by walk_at"0") fun _ _ F=>kC (Cs:=Cs) (d:=3) (k:=2) (by decide) F
 have E3:=Ji.cal (P:=l.prog) (w:=w) (mg:=mg) (base:=base) jg (by walk_at"0") fun _ _ F=>kC (Cs:=Cs) (d:=3) (k:=3) (by decide) F
 have E4:=YY.cal (P:=l.prog) (w:=w) (mg:=mg) (base:=base) jm (by walk_at"0") fun _ _ F=>kC (Cs:=Cs) (d:=3) (k:=4) (by decide) F
 have E50:=jN.cal (P:=l.prog) (w:=w) (mg:=mg) (base:=base) qH (by walk_at"0") fun _ _ F=>Lp (Cs:=Cs) (j:=1)
 have ME0:=PY E0 E1 E2 E3 E4 (d:=0) (by decide) (by decide) E50
 have E51:=jN.cal (P:=l.prog) (w:=w) (mg:=mg) (base:=base) qH (by walk_at"0") fun _ _ F=>Vw F RX5 ME0
 have ME1:=PY E0 E1 E2 E3 E4 (d:=1) (by decide) (by decide) E51
 have E52:=jN.cal (P:=l.prog) (w:=w) (mg:=mg) (base:=base) qH (by walk_at"0") fun _ _ F=>Vw F RX5 ME1
 have ME2:=PY E0 E1 E2 E3 E4 (d:=2) (by decide) (by decide) E52
 have E53:=jN.cal (P:=l.prog) (w:=w) (mg:=mg) (base:=base) qH (by walk_at"0") fun _ _ F=>Vw F RX5 ME2
 have T0:=Wr.cal (P:=l.prog) (w:=w) (mg:=mg) (base:=base) j5 (by walk_at"0") fun _ _ F=>Lb (d:=3) F RK I0
 have T1:=Vp.cal (P:=l.prog) (w:=w) (mg:=mg) (base:=base) jy (by walk_at"0") fun _ _ F=>pj (d:=3) F RK I1
 have T2:=Y7.cal (P:=l.prog) (w:=w) (mg:=mg) (base:=base) yP (by walk_at"0") fun _ _ F=>mQ (d:=3) F RK I2
 have T3:=V4.cal (P:=l.prog) (w:=w) (mg:=mg) (base:=base) jg (by walk_at"0") fun _ _ F=>Ls (d:=3) F RK I3
 have T4:=Vr.cal (P:=l.prog) (w:=w) (mg:=mg) (base:=base) jm (by walk_at"0") fun _ _ F=>P2 (d:=3) F RX4 I4
 have T50:=v5.cal (P:=l.prog) (w:=w) (mg:=mg) (base:=base) qH (by walk_at"0") fun _ _ F=>Ov (Cs:=Cs) (j:=8)
 have MT0:=pF T0 T1 T2 T3 T4 (d:=0) (by decide) (by decide) T50
 have I50:=jF.cal (P:=l.prog) (w:=w) (mg:=mg) (base:=base) YB (by walk_at"4") fun _ _ F=>YC F GL RX5 RJ Qm yv (by decide) (by decide) R0 C16 MT0 (E51.mono (by decide))
 have T51:=v5.cal (P:=l.prog) (w:=w) (mg:=mg) (base:=base) qH (by walk_at"0") fun _ _ F=>WK F RX5 I50
 have MT1:=pF T0 T1 T2 T3 T4 (d:=1) (by decide) (by decide) T51
 have I51:=jF.cal (P:=l.prog) (w:=w) (mg:=mg) (base:=base) YB (by walk_at"4") fun _ _ F=>YC F GL RX5 RJ Qm yv (by decide) (by decide) R0 C16 MT1 (E52.mono (by decide))
 have T52:=v5.cal (P:=l.prog) (w:=w) (mg:=mg) (base:=base) qH (by walk_at"0") fun _ _ F=>WK F RX5 I51
 have MT2:=pF T0 T1 T2 T3 T4 (d:=2) (by decide) (by decide) T52
 have I52:=jF.cal (P:=l.prog) (w:=w) (mg:=mg) (base:=base) YB (by walk_at"4") fun _ _ F=>YC F GL RX5 RJ Qm yv (by decide) (by decide) R0 C16 MT2 (E53.mono (by decide))
 have I5:=I52.mono (k:=16) (by decide)
 have U0:=Ur.cal (P:=l.prog) (w:=w) (mg:=mg) (base:=base) j5 (by walk_at"3") fun _ _ F=>m8 F RK C17
 have U1:=Y8.cal (P:=l.prog) (w:=w) (mg:=mg) (base:=base) jy (by walk_at"3") fun _ _ F=>MG F GL RK C10
 have U2:=QS.cal (P:=l.prog) (w:=w) (mg:=mg) (base:=base) yP (by walk_at"3") fun _ _ F=>NG F GL RK C10
 have U3:=Y3.cal (P:=l.prog) (w:=w) (mg:=mg) (base:=base) jg (by walk_at"3") fun _ _ F=>NW F GL RK C10 C17
 have U4:=Jk.cal (P:=l.prog) (w:=w) (mg:=mg) (base:=base) jm (by walk_at"3") fun _ _ F=>nS (d:=3) F GL RX4 C9
 have U50:=jM.cal (P:=l.prog) (w:=w) (mg:=mg) (base:=base) qH (by walk_at"3") fun _ _ F=>Pr (Cs:=Cs) (j:=5)
 have MU0:=GM U0 U1 U2 U3 U4 (d:=0) (by decide) (by decide) U50
 have U51:=jM.cal (P:=l.prog) (w:=w) (mg:=mg) (base:=base) qH (by walk_at"3") fun _ _ F=>Ub F RX5 (by decide) MU0 C10
 have MU1:=GM U0 U1 U2 U3 U4 (d:=1) (by decide) (by decide) U51
 have U52:=jM.cal (P:=l.prog) (w:=w) (mg:=mg) (base:=base) qH (by walk_at"3") fun _ _ F=>Ub F RX5 (by decide) MU1 C10
 have MU2:=GM U0 U1 U2 U3 U4 (d:=2) (by decide) (by decide) U52
 have U53:=jM.cal (P:=l.prog) (w:=w) (mg:=mg) (base:=base) qH (by walk_at"3") fun _ _ F=>Ub F RX5 (by decide) MU2 C10
 have MU:=GM U0 U1 U2 U3 U4 (d:=3) (j:=10) (by decide) (by decide) (U53.mono (by decide))
 have O0:=Z2.cal (P:=l.prog) (w:=w) (mg:=mg) (base:=base) j5 (by walk_at"3") fun _ _ F=>u9 F (MU 0 (by decide))
 have O1:=Zg.cal (P:=l.prog) (w:=w) (mg:=mg) (base:=base) jy (by walk_at"3") fun _ _ F=>u9 F (MU 1 (by decide))
 have O2:=w9.cal (P:=l.prog) (w:=w) (mg:=mg) (base:=base) yP (by walk_at"3") fun _ _ F=>u9 F (MU 2 (by decide))
 have O3:=Zs.cal (P:=l.prog) (w:=w) (mg:=mg) (base:=base) jg (by walk_at"3") fun _ _ F=>u9 F (MU 3 (by decide))
 have O4:=Zd.cal (P:=l.prog) (w:=w) (mg:=mg) (base:=base) jm (by walk_at"3") fun _ _ F=>u9 F (MU 4 (by decide))
 have O5:=Zx.cal (P:=l.prog) (w:=w) (mg:=mg) (base:=base) qH (by walk_at"3") fun _ _ F=>u9 F (MU 5 (by decide))
 have Q1:=YS.cal (P:=l.prog) (w:=w) (base:=base) X G (by walk_at"0") fun _ _ F=>QF F GL oP
 have Q2:=Zr.cal (P:=l.prog) (w:=w) (base:=base) X G (by walk_at"0") fun _ _ F=>NS F Q1
 have Q3:=Jo.cal (P:=l.prog) (w:=w) (base:=base) X G (by walk_at"3") fun _ _ F=>LO F GL Q2
 have Q4:=WS.cal (P:=l.prog) (w:=w) (base:=base) X G (by walk_at"0") fun _ _ F=>mP F QW Q3
 have Q5:=om.cal (P:=l.prog) (w:=w) (base:=base) X G (by walk_at"0") fun _ _ F=>oV F GL Q4
 have Q6:=xu.cal (P:=l.prog) (w:=w) (base:=base) X G (by walk_at"0") fun _ _ F=>XY F GL Q5
 have Q7:=Uw.cal (P:=l.prog) (w:=w) (base:=base) X G (by walk_at"0") fun _ _ F=>Ox F GL Q4 Q6 I0 I1 I2 I3 I4
 have Q8:=xY.cal (P:=l.prog) (w:=w) (base:=base) X G (by walk_at"0") fun _ _ F=>mW F GL
 have W0:=yx.cal (P:=l.prog) (w:=w) (base:=base) X G (by walk_at"3") fun _ _ F=>oQ (Cs:=Cs) (j:=18)
 have W1:=yx.cal (P:=l.prog) (w:=w) (base:=base) X G (by walk_at"3") fun _ _ F=>kL (by decide) F yv Q8 Q7 Q4 W0 I5
 have W2:=yx.cal (P:=l.prog) (w:=w) (base:=base) X G (by walk_at"3") fun _ _ F=>kL (by decide) F yv Q8 Q7 Q4 W1 I5
 have W3:=yx.cal (P:=l.prog) (w:=w) (base:=base) X G (by walk_at"3") fun _ _ F=>kL (by decide) F yv Q8 Q7 Q4 W2 I5
 have W4:=yx.cal (P:=l.prog) (w:=w) (base:=base) X G (by walk_at"3") fun _ _ F=>kL (by decide) F yv Q8 Q7 Q4 W3 I5
 have lZ:=oS.cal (P:=l.prog) (w:=w) (base:=base) X G (by walk_at"0") fun _ _ F=>oR F GL W4
 have RW0:=gj.cal (P:=l.prog) (w:=w) (mg:=mg) (base:=base) j5 (by walk_at"0") fun _ _ F=>NP F GL RK
 have RW1:=Uz.cal (P:=l.prog) (w:=w) (mg:=mg) (base:=base) jy (by walk_at"0") fun _ _ F=>NX F GL RK
 have RW2:=Ui.cal (P:=l.prog) (w:=w) (mg:=mg) (base:=base) yP (by walk_at"0") fun _ _ F=>NO F GL RK
 have RW3:=Wf.cal (P:=l.prog) (w:=w) (mg:=mg) (base:=base) jg (by walk_at"0") fun _ _ F=>NZ F GL RK
 have RW4:=UZ.cal (P:=l.prog) (w:=w) (mg:=mg) (base:=base) jm (by walk_at"0") fun _ _ F=>M4 (d:=3) F GL RX4
 have BX:=vB.cal (P:=l.prog) (w:=w) (mg:=mg) (base:=base) qH (by walk_at"0") fun _ _ F=>mi (Cs:=Cs) (j:=1)
 have MR0:=gW RW0 RW1 RW2 RW3 RW4 (d:=0) (by decide) (by decide) BX
 have cq:=vB.cal (P:=l.prog) (w:=w) (mg:=mg) (base:=base) qH (by walk_at"0") fun _ _ F=>V6 (by decide) F GL RX5 MR0
 have MR1:=gW RW0 RW1 RW2 RW3 RW4 (d:=1) (by decide) (by decide) cq
 have cJ:=vB.cal (P:=l.prog) (w:=w) (mg:=mg) (base:=base) qH (by walk_at"0") fun _ _ F=>V6 (by decide) F GL RX5 MR1
 have MR2:=gW RW0 RW1 RW2 RW3 RW4 (d:=2) (by decide) (by decide) cJ
 have cn:=vB.cal (P:=l.prog) (w:=w) (mg:=mg) (base:=base) qH (by walk_at"0") fun _ _ F=>V6 (by decide) F GL RX5 MR2
 have MR:=gW RW0 RW1 RW2 RW3 RW4 (d:=3) (j:=4) (by decide) (by decide) cn
 have Nm:=Uq.cal (P:=l.prog) (w:=w) (base:=base) X G (by walk_at"0") fun _ _ F=>YV F ER3 VI C2
 have Yo:=oK.cal (P:=l.prog) (w:=w) (base:=base) X G (by walk_at"0") fun _ _ F=>X2 F Y2 Nm
 have Ny:=Wp.cal (P:=l.prog) (w:=w) (base:=base) X G (by walk_at"0") fun _ _ F=>LP F UY C2
 have Fw:=gy.cal (P:=l.prog) (w:=w) (base:=base) X G (by walk_at"0") fun _ _ F=>NF F GL VY
 have Un:=wz.cal (P:=l.prog) (w:=w) (base:=base) X G (by walk_at"0") fun _ _ F=>o9 F GL (Zj j5 jy yP jg jm qH) (Zj uB v9 vD vV v8 vZ)
 have B_i:=wy.cal (P:=l.prog) (w:=w) (mg:=mg) (base:=base) US (by walk_at"0") fun _ _ F=>lD F jd jV
 have B_p:=YG.cal (P:=l.prog) (w:=w) (mg:=mg) (base:=base) jd (by walk_at"1") fun _ _ F=>MB (by decide) F GL jd jV Ny Fw lZ Un MR
 have B_r:=Z8.cal (P:=l.prog) (w:=w) (mg:=mg) (base:=base) jd (by walk_at"3") fun _ _ F=>Lm F GL ER7 jd jV Ny
 have B_l:=Zf.cal (P:=l.prog) (w:=w) (mg:=mg) (base:=base) jd (by walk_at"3") fun _ _ F=>OZ (by decide) F B_r lZ
 have Ih:=OE.cal (P:=l.prog) (w:=w) (base:=base) X G (by walk_at"0") fun _ _ F=>Ro F GL LG Q1
 have Pt:=gA.cal (P:=l.prog) (w:=w) (base:=base) X G (by walk_at"0") fun _ _ F=>RN F GL LG Ih
 have Bk:=G7.cal (P:=l.prog) (w:=w) (base:=base) X G (by walk_at"0") fun _ _ F=>Rv (J:=23) (by decide) F GL B_i Pt C18 B_p
 have BkJ:=Bk.mono (k:=26) (by decide)
 have Du:=oo.cal (P:=l.prog) (w:=w) (base:=base) X G (by walk_at"3") fun _ _ F=>pR F GL (Zj j5 jy yP jg jm qH) (Zj uB v9 vD vV v8 vZ) (Zj O0 O1 O2 O3 O4 O5)
 have Mr:=xk.cal (P:=l.prog) (w:=w) (base:=base) X G (by walk_at"3") fun _ _ F=>Mj F GL Du
 have Sb:=QO.cal (P:=l.prog) (w:=w) (base:=base) X G (by walk_at"1") fun _ _ F=>MX F Mr
 have StB:=Sb.mono (k:=24) (by decide)
 have St:=UC.cal (P:=l.prog) (w:=w) (base:=base) X G (by walk_at"1") fun _ _ F=>ME (by decide) F B_l Yo StB
 have StC:=qP.calm St
 have D1:=Yd.cal (P:=l.prog) (w:=w) (base:=base) X G (by walk_at"3") fun _ _ F=>xC F GL
 have D2:=Vn.cal (P:=l.prog) (w:=w) (base:=base) X G (by walk_at"3") fun _ _ F=>nP F
 have D3:=V0.cal (P:=l.prog) (w:=w) (base:=base) X G (by walk_at"0") fun _ _ F=>pD F GL
 have D4:=Y5.cal (P:=l.prog) (w:=w) (base:=base) X G (by walk_at"3") fun _ _ F=>MK F D2
 have D5:=V5.cal (P:=l.prog) (w:=w) (base:=base) X G (by walk_at"3") fun _ _ F=>Nx F GL D4
 have D6:=Uc.cal (P:=l.prog) (w:=w) (base:=base) X G (by walk_at"3") fun _ _ F=>nD F GL D2
 have D7:=Uk.cal (P:=l.prog) (w:=w) (base:=base) X G (by walk_at"3") fun _ _ F=>NY F D2
 have D8:=xK.cal (P:=l.prog) (w:=w) (base:=base) X G (by walk_at"3") fun _ _ F=>Nl F D2
 have D9:=VS.cal (P:=l.prog) (w:=w) (base:=base) X G (by walk_at"0") fun _ _ F=>m9 F GL D2 D7
 have D10:=Vk.cal (P:=l.prog) (w:=w) (base:=base) X G (by walk_at"1") fun _ _ F=>m6 F D4 D7 D8 D9
 have D11:=U7.cal (P:=l.prog) (w:=w) (base:=base) X G (by walk_at"3") fun _ _ F=>PP F GL D2 D10 D7 D8
 have D12:=QX.cal (P:=l.prog) (w:=w) (base:=base) X G (by walk_at"3") fun _ _ F=>Ma F GL
 have D13:=Jr.cal (P:=l.prog) (w:=w) (base:=base) X G (by walk_at"3") fun _ _ F=>nE F GL
 have A0:=jz.cal (P:=l.prog) (w:=w) (base:=base) X G (by walk_at"3") fun _ _ F=>L4 (j:=2)
 have A1:=jz.cal (P:=l.prog) (w:=w) (base:=base) X G (by walk_at"3") fun _ _ F=>Qp F GL D12 D13 A0
 have A2:=jz.cal (P:=l.prog) (w:=w) (base:=base) X G (by walk_at"3") fun _ _ F=>Qp F GL D12 D13 A1
 have A3:=jz.cal (P:=l.prog) (w:=w) (base:=base) X G (by walk_at"3") fun _ _ F=>Qp F GL D12 D13 A2
 have A4:=jz.cal (P:=l.prog) (w:=w) (base:=base) X G (by walk_at"3") fun _ _ F=>Qp F GL D12 D13 A3
 have D14:=ZY.cal (P:=l.prog) (w:=w) (base:=base) X G (by walk_at"3") fun _ _ F=>MI (d:=3) F A4
 have DuL:=WW.cal (P:=l.prog) (w:=w) (base:=base) X G (by walk_at"3") fun _ _ F=>Pl F GL D14
 have B0:=vt.cal (P:=l.prog) (w:=w) (base:=base) X G (by walk_at"0") fun _ _ F=>Ll (j:=2)
 have B1:=vt.cal (P:=l.prog) (w:=w) (base:=base) X G (by walk_at"0") fun _ _ F=>Qq F GL (by decide) B0
 have B2:=vt.cal (P:=l.prog) (w:=w) (base:=base) X G (by walk_at"0") fun _ _ F=>Qq F GL (by decide) B1
 have B3:=vt.cal (P:=l.prog) (w:=w) (base:=base) X G (by walk_at"0") fun _ _ F=>Qq F GL (by decide) B2
 have B4:=vt.cal (P:=l.prog) (w:=w) (base:=base) X G (by walk_at"0") fun _ _ F=>Qq F GL (by decide) B3
 have D15:=XM.cal (P:=l.prog) (w:=w) (base:=base) X G (by walk_at"3") fun _ _ F=>NH F GL
 have DR:=ko.cal (P:=l.prog) (w:=w) (base:=base) X G (by walk_at"3") fun _ _ F=>Oz F GL D3
 have TK:=DuL.mono (k:=25) (by decide)
 have Rz:=Vs.cal (P:=l.prog) (w:=w) (base:=base) X G (by walk_at"1") fun _ _ F=>OC F GL D2 D11
 have Tx:=xc.cal (P:=l.prog) (w:=w) (base:=base) X G (by walk_at"3") fun _ _ F=>nY F GL B4
 have Mo:=wA.cal (P:=l.prog) (w:=w) (base:=base) X G (by walk_at"2") fun _ _ F=>Rm (by decide) F GL StC TK D15 DR D3 A4
 have Ea:=Z0.cal (P:=l.prog) (w:=w) (base:=base) X G (by walk_at"3") fun _ _ F=>lx F mgN xNN St
 exact RZ (by decide) Fl GL D1 D2 D6 Rz D5 Tx BkJ Mo Ea
theorem BR {l:PySem.W.OpenLaw} {q:Program} {loose:List Str} {XP:(Str→Option Value)→Heap→Prop} {YP:World→Heap→Prop} {d:DefRec} {K:Params→BFr} (hn:l.most=some 63) (hdf:d.params.defaults=[]) (hY:∀ (w:World) (h:Heap),YP w h→(K w.params).In h) (F:∀ (w:World) (mg:Str→Option Value) (fa:Addr) (h:Heap),(K w.params).In h→h.Ns mainGlobals mg→mg d.name=some (.ref fa) →
   ∃ fd:FuncData,(∀ (s:Shared) (u:Value),BindsTo s fd ⟨[u],[]⟩ [("_law_script",u)])∧∀ base:Heap,(K w.params).In base→base.Ns mainGlobals mg→zH l.prog w (K w.params) mg base zO 27 fa fd ["_law_script"] (Qk (K w.params))) :
  PySem.W.WalkO q loose XP YP l.row.toRowW d [] (fun f vs=>PySem.call f vs) :=
 L2.nQ (n:=63) (k:=27) (x:="_law_script") (CX:=fun _=>zO) (sp:=fun w=>(Qk (K w.params))) hn (by decide) hdf ⟨rfl,by decide,by decide⟩ hY F (fun _ _ a ns hl _ hS=>⟨a,ns,rfl,hS,fun _=>rfl⟩) fun _ _ _ _ _ z=>z
end K15
set_option maxHeartbeats 0
namespace K15
open PySem PySem.W PySem.Calls PyProof.Rows L2
theorem Bf:(defOf hQ "law").isSome=true:=by kernel_rfl
noncomputable def hD:DefRec:=((defOf hQ "law").get Bf).1
theorem br:WalkO hQ [] (XL hQ []) (kR Ra Lw) (PySem.Challenge.rw_coinroll_k15_whole_years_by_a_text).row.toRowW hD [] (fun f vs=>PySem.call f vs):=by
 refine MP fun K e=>?_
 have hF:hFs.map (fun x=>jK K (nsIn K mainGlobals x.1))=hFs.map (fun x=>jL x.1 x.1 (top x.2)):=congrArg Prod.fst e
 have hM:hMs.map (fun x=>jK K (findIn K (.ref x.1) x.2.1))=hMs.map (fun x=>jL x.2.1 x.2.2.1 (zy (top x.2.2.2.1) x.2.2.2.2)):=congrArg (fun z=>z.2.1) e
 have hB:(nJ K).all id=true:=congrArg (fun z=>z.2.2) e
 obtain⟨t0,gc0⟩:=jW (zh hB 9 rfl)
 obtain⟨t1,gc1⟩:=jW (zh hB 10 rfl)
 obtain⟨t2,gc2⟩:=jW (zh hB 11 rfl)
 obtain⟨t3,gc3⟩:=jW (zh hB 12 rfl)
 obtain⟨t4,gc4⟩:=jW (zh hB 13 rfl)
 obtain⟨t5,gc5⟩:=jW (zh hB 14 rfl)
 obtain⟨t6,gc6⟩:=jW (zh hB 15 rfl)
 obtain⟨t7,gc7⟩:=jW (zh hB 16 rfl)
 obtain⟨t8,gc8⟩:=jW (zh hB 17 rfl)
 obtain⟨t9,gc9⟩:=jW (zh hB 18 rfl)
 obtain⟨t10,rR⟩:=jW (zh hB 19 rfl)
 obtain⟨t11,Rw⟩:=jW (zh hB 20 rfl)
 obtain⟨u0,s0⟩:=Uv (zh hB 21 rfl)
 obtain⟨u1,s1⟩:=Uv (zh hB 22 rfl)
 obtain⟨u4,s4⟩:=Uv (zh hB 25 rfl)
 refine BR (l:=PySem.Challenge.rw_coinroll_k15_whole_years_by_a_text) (K:=fun _=>K) rfl (by kernel_rfl) (fun w h Y=>Y) ?_
 intro w mg fa h KX G hmg
 exact rT KX G hmg (zv (zk hF 0 rfl)) (zv (zk hF 1 rfl)) (zv (zk hF 2 rfl)) (zv (zk hF 3 rfl)) (zv (zk hF 4 rfl)) (zv (zk hF 5 rfl)) (zv (zk hF 6 rfl)) (zv (zk hF 7 rfl)) (zv (zk hF 8 rfl)) (zv (zk hF 9 rfl)) (zv (zk hF 10 rfl)) (zv (zk hF 11 rfl)) (zv (zk hF 12 rfl)) (zv (zk hF 13 rfl)) (zv (zk hF 14 rfl)) (zv (zk hF 15 rfl)) (zv (zk hF 16 rfl)) (zv (zk hF 17 rfl)) (zv (zk hF 18 rfl)) (zv (zk hF 19 rfl)) (zv (zk hF 20 rfl)) (zv (zk hF 21 rfl)) (zv (zk hF 22 rfl)) (zv (zk hF 23 rfl)) (zv (zk hF 24 rfl)) (zv (zk hF 25 rfl)) (zv (zk hF 26 rfl)) (zv (zk hF 27 rfl)) (zv (zk hF 28 rfl)) (zv (zk hF 29 rfl)) (zv (zk hF 30 rfl)) (zv (zk hF 31 rfl)) (zv (zk hF 32 rfl)) (zv (zk hF 33 rfl)) (zv (zk hF 34 rfl)) (zv (zk hF 35 rfl)) (zv (zk hF 36 rfl)) (zv (zk hF 37 rfl)) (zv (zk hF 38 rfl)) (zv (zk hF 39 rfl)) (zv (zk hF 40 rfl)) (zv (zk hF 41 rfl)) (zv (zk hF 42 rfl)) (zv (zk hF 43 rfl)) (zv (zk hF 44 rfl)) (zv (zk hF 45 rfl)) (zv (zk hF 46 rfl)) (zv (zk hF 47 rfl)) (zv (zk hF 48 rfl)) (zv (zk hF 49 rfl)) (zv (zk hF 50 rfl)) (zv (zk hF 51 rfl)) (zv (zk hF 52 rfl)) (zv (zk hF 53 rfl)) (zv (zk hF 54 rfl)) (zv (zk hF 55 rfl)) (zv (zk hF 56 rfl)) (zv (zk hF 57 rfl)) (zv (zk hF 58 rfl)) (zv (zk hF 59 rfl)) (zv (zk hF 60 rfl)) (zv (zk hF 61 rfl)) (zv (zk hF 62 rfl)) (zv (zk hF 63 rfl)) (zv (zk hF 64 rfl)) (zv (zk hF 65 rfl)) (yL (zh hB 0 rfl)) (yL (zh hB 1 rfl)) (yL (zh hB 2 rfl)) (yL (zh hB 3 rfl)) (yL (zh hB 4 rfl)) (yL (zh hB 5 rfl)) (yL (zh hB 6 rfl)) (yL (zh hB 7 rfl)) (yL (zh hB 8 rfl)) gc0 gc1 gc2 gc3 gc4 gc5 gc6 gc7 gc8 gc9 rR Rw s0 s1 (We (zh hB 23 rfl)) (We (zh hB 24 rfl)) s4 (qa (zh hB 26 rfl)) (qa (zh hB 27 rfl)) (qa (zh hB 28 rfl)) (qa (zh hB 29 rfl)) (qa (zh hB 30 rfl)) (qa (zh hB 31 rfl)) (qa (zh hB 32 rfl)) (qa (zh hB 33 rfl)) (qa (zh hB 34 rfl)) (qa (zh hB 35 rfl)) (qa (zh hB 36 rfl)) (qa (zh hB 37 rfl)) (qa (zh hB 38 rfl)) (qa (zh hB 39 rfl)) (qa (zh hB 40 rfl)) (qa (zh hB 41 rfl)) (qa (zh hB 42 rfl)) (qa (zh hB 43 rfl)) (qa (zh hB 44 rfl)) (qa (zh hB 45 rfl)) (qa (zh hB 46 rfl)) (zh hB 47 rfl) (yC (zh hB 48 rfl)) (W6 (zh hB 49 rfl)) (yC (zh hB 50 rfl)) (yC (zh hB 51 rfl)) (yC (zh hB 52 rfl)) (yC (zh hB 53 rfl)) (yC (zh hB 54 rfl)) (yC (zh hB 55 rfl)) (yC (zh hB 56 rfl)) (yC (zh hB 57 rfl)) (yC (zh hB 58 rfl)) (zh hB 59 rfl) (yC (zh hB 60 rfl)) (W6 (zh hB 61 rfl)) (yC (zh hB 62 rfl)) (yC (zh hB 63 rfl)) (yC (zh hB 64 rfl)) (yC (zh hB 65 rfl)) (yC (zh hB 66 rfl)) (yC (zh hB 67 rfl)) (yC (zh hB 68 rfl)) (yC (zh hB 69 rfl)) (yC (zh hB 70 rfl)) (yL (zh hB 71 rfl)) (zh hB 72 rfl) (zh hB 73 rfl) (zh hB 74 rfl) (yE (zh hB 75 rfl)) (zL (zk hM 0 rfl)) (zh hB 76 rfl) (yL (zh hB 77 rfl)) (zh hB 78 rfl) (zh hB 79 rfl) (zh hB 80 rfl) (yE (zh hB 81 rfl)) (qa (zh hB 82 rfl)) (qa (zh hB 83 rfl)) (qa (zh hB 84 rfl)) (qa (zh hB 85 rfl)) (qa (zh hB 86 rfl)) (qa (zh hB 87 rfl)) (jH (zk hM 1 rfl) (zh hB 88 rfl)) (zL (zk hM 2 rfl)) (zL (zk hM 3 rfl)) (zL (zk hM 4 rfl)) (zL (zk hM 5 rfl)) (zL (zk hM 6 rfl)) (yL (zh hB 89 rfl)) (zh hB 90 rfl) (zh hB 91 rfl) (zh hB 92 rfl) (yE (zh hB 93 rfl)) (qa (zh hB 94 rfl)) (qa (zh hB 95 rfl)) (qa (zh hB 96 rfl)) (qa (zh hB 97 rfl)) (qa (zh hB 98 rfl)) (qa (zh hB 99 rfl)) (jH (zk hM 7 rfl) (zh hB 100 rfl)) (zL (zk hM 8 rfl)) (zL (zk hM 9 rfl)) (zL (zk hM 10 rfl)) (zL (zk hM 11 rfl)) (zL (zk hM 12 rfl)) (yL (zh hB 101 rfl)) (zh hB 102 rfl) (zh hB 103 rfl) (zh hB 104 rfl) (yE (zh hB 105 rfl)) (qa (zh hB 106 rfl)) (qa (zh hB 107 rfl)) (qa (zh hB 108 rfl)) (qa (zh hB 109 rfl)) (qa (zh hB 110 rfl)) (qa (zh hB 111 rfl)) (jH (zk hM 13 rfl) (zh hB 112 rfl)) (zL (zk hM 14 rfl)) (zL (zk hM 15 rfl)) (zL (zk hM 16 rfl)) (zL (zk hM 17 rfl)) (zL (zk hM 18 rfl)) (yL (zh hB 113 rfl)) (zh hB 114 rfl) (zh hB 115 rfl) (zh hB 116 rfl) (yE (zh hB 117 rfl)) (qa (zh hB 118 rfl)) (qa (zh hB 119 rfl)) (qa (zh hB 120 rfl)) (qa (zh hB 121 rfl)) (qa (zh hB 122 rfl)) (qa (zh hB 123 rfl)) (jH (zk hM 19 rfl) (zh hB 124 rfl)) (zL (zk hM 20 rfl)) (zL (zk hM 21 rfl)) (zL (zk hM 22 rfl)) (zL (zk hM 23 rfl)) (zL (zk hM 24 rfl)) (yL (zh hB 125 rfl)) (zh hB 126 rfl) (zh hB 127 rfl) (zh hB 128 rfl) (yE (zh hB 129 rfl)) (qa (zh hB 130 rfl)) (qa (zh hB 131 rfl)) (qa (zh hB 132 rfl)) (qa (zh hB 133 rfl)) (qa (zh hB 134 rfl)) (jH (zk hM 25 rfl) (zh hB 135 rfl)) (zL (zk hM 26 rfl)) (zL (zk hM 27 rfl)) (zL (zk hM 28 rfl)) (zL (zk hM 29 rfl)) (zL (zk hM 30 rfl)) (yL (zh hB 136 rfl)) (zh hB 137 rfl) (zh hB 138 rfl) (zh hB 139 rfl) (yE (zh hB 140 rfl)) (qa (zh hB 141 rfl)) (qa (zh hB 142 rfl)) (qa (zh hB 143 rfl)) (qa (zh hB 144 rfl)) (qa (zh hB 145 rfl)) (jH (zk hM 31 rfl) (zh hB 146 rfl)) (zL (zk hM 32 rfl)) (zL (zk hM 33 rfl)) (zL (zk hM 34 rfl)) (zL (zk hM 35 rfl)) (zL (zk hM 36 rfl)) (yL (zh hB 147 rfl)) (zh hB 148 rfl) (zh hB 149 rfl) (zh hB 150 rfl) (yE (zh hB 151 rfl)) (qa (zh hB 152 rfl)) (jH (zk hM 37 rfl) (zh hB 153 rfl)) (zL (zk hM 38 rfl)) (zL (zk hM 39 rfl)) (zL (zk hM 40 rfl)) (yE (zh hB 154 rfl)) (yC (zh hB 155 rfl)) (zh hB 156 rfl) (yE (zh hB 157 rfl)) (yC (zh hB 158 rfl)) (yC (zh hB 159 rfl)) (yE (zh hB 160 rfl)) (yC (zh hB 161 rfl)) (yC (zh hB 162 rfl)) (yE (zh hB 163 rfl)) (yC (zh hB 164 rfl)) (yC (zh hB 165 rfl)) (yE (zh hB 166 rfl)) (yC (zh hB 167 rfl)) (yC (zh hB 168 rfl)) (yE (zh hB 169 rfl)) (yC (zh hB 170 rfl)) (yC (zh hB 171 rfl)) (yE (zh hB 172 rfl)) (yC (zh hB 173 rfl)) (yC (zh hB 174 rfl)) (yC (zh hB 175 rfl))
end K15
open PySem PySem.W PyProof.Rows
set_option maxRecDepth 100000 in
set_option maxHeartbeats 0 in
theorem PySem.Challenge.cw_coinroll_k15_whole_years_by_a_text_holds : PySem.Challenge.rw_coinroll_k15_whole_years_by_a_text.Holds := by
 w_on;o_law
 refine' holds_open (q:=K15.hQ) (d:=K15.hD) (kwd:=[]) K15.bM ?a1 ?a2 ?a3 XL.keeps ?a4 ?a5 ?a6 ?a7 ?a8 ?a9 ?b1 ?b2 ?b3 K15.br
 case a1=>exact fun w s e=>L2.pH w s e
 case a2=>exact L2.xM
 case a3=>exact fun s e=>xl_of s (Dw.mp e).1
 case a4=>exact L2.Mx K15.Bf (by kernel_rfl)
 case a5=>kernel_rfl
 case a6=>kernel_rfl
 case a7=>exact fun s e=>recFacts_of (Dw.mp e).2
 case a8=>rfl
 case a9=>assumption
 case b1=>decide +kernel
 case b2=>exact⟨rfl,rfl,rfl,rfl,rfl,by decide +kernel⟩
 case b3=>w_witness2
#print axioms PySem.Challenge.cw_coinroll_k15_whole_years_by_a_text_holds
