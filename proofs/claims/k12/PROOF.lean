import PyProof.Rows.All
import Wide.All
import OpenK.AllK
import Wide.FinOn
import Lean
import PyProof.EqAt
import PyProof.EqKinds
import PyProof.TupleCall
import PyProof.NeKinds
import PyProof.SumWalkG
import PyProof.EnumMake
import KE.KIntText
import PyProof.StrLawsIn
import PyProof.StrCalls2
import PyProof.Rows.SortRuns
import KE.KSortTup
import KE.KSortKey
import PyProof.StrCalls
import PyProof.ListRange
import KE.IntTextLaws
import KE.IntTextText
import PyProof.Rows.FStr
import PyProof.SetKind
import PyProof.Rows.SetFrom
import PyProof.Walks
import KE.KItemsList
import KE.KDictOf
import PyProof.AttrMissHeap
import PyProof.AutoListH
import PyProof.Rows.ZipGen
import PyProof.Rows.EnumRows
import PyProof.EnumFor
import PyProof.WalksMore
import PyProof.TupleIter
import KE.KRevIter
import PyProof.CollectIter
import PyProof.JoinWalk
import PyProof.Rows.FactsT2
import PyProof.SeqI3
import PyProof.DictWalks
import PyProof.CollectWalk
import PyProof.Rows.SortWalk
import KE.KDictSum
import PyProof.StrLawsChain
import PySem.Challenge.RW_coinroll_k12_books_written
set_option Elab.async false
set_option linter.all false
set_option genSizeOf false
set_option compiler.extract_closed false
set_option maxRecDepth 100000
noncomputable section
set_option maxHeartbeats 0
open PySem renaming wpAny_bind→aa,Value→ae,Str→af,Addr→ag,sizeLine_eq→ai,wpAny_pure→aj,Shared→ar,sizeLine→au,starEach→ax,mainGlobals→az,model→aA,Spec→aB,boot_len→aH,World→aP,Expr→aQ,Program→aU,wpAny_holding→d_,backTo→ff,wpAny_mono→fh,Heap→fi,rawInt→fj,bootBuiltins→fz,compareOp→fA,mem_of_lookup→fD,OsState→fE,wpAny_newObj_type→fF,wpAny_setState_of→fG,wpAny_truthy_bool→fN,importedModules→fQ,wpAny_field→fR,Pos→fW,codeAny_builtin→fY,Obj→g_,keywordEach→hG,wpAny_call_entry→hV,cLine→hZ,wpAny_Call_Name_kw→h_,wpAny_setField_rec→ic,codeAny_mono→ir,sysModules→iw,wpAny_comprehension_free→iy,Around→iG,wpAny_standAt→iL,codeAny_handlers_test→iM,foldedSetIterable→iO,wpAny_handleBy_cons→iX,binaryOp→i3,backToKw→i4,wpAny_execs_nil→i6,letOwnedTupleGo→i7,wpAny_passesOwn→i8,sliceBounds→k_,Stmt→n_,wpAny_pyIter_list→o_,SetTable→q_,getMethod→sm,call_meets→sq,attributeBase→sH,wpAny_attempt→sI,strIterType→sJ,length_partsBetween→sN,scanBound→sX,Scope→sZ,builtinsNs→s_,callWith→t_,recursionLimit→u_,wpAny_newFunctionEnv_cells→v_,typeIs_str→w_,setField→x_,wpAny_setField→y_,tupleKind_room_in1→z_,intText_digits→Aa,wpAny_assign_Name→Ah,wpAny_loadPart_at→Ai,behindInMarks→Ap,plainId_quiet→Ar,wpAny_newList→As,tupleKind→Ax,wpAny_execs_cons→Ay,swapsWith→Az,FuncData→AA,checkBuiltinCall→AB,wpAny_Try_except→AD,wpAny_askSetting→AF,wpAny_callSpecial?_slot→AG,assignEach→AO,wpAny_call→AQ,Keyword→AR,JoinOk→AU,wpAny_ite_split→AZ,codeAny_call_function→A6,exec_Assign_Name_used→A7,builtinLookup_eq_fast→A8,Paired→B_,assign→C_,subscripted→D_,codeAny_call_builtin→E_,relayAll→Fb,wpAny_runValue→Fc,wpAny_throw→Fe,treeTable→Ft,Env→Fu,standAt→Fv,holding→Fx,callerA→Fy,setFlight→Fz,valueAt→FA,Fin→FE,isInstance→FY,wpAny_rule→FZ,BindsTo→Hk,bindArgs→Hl,NameKind→Hm,getItem→Hn,compPost→Ho,wpAny_storeSet_of→Hr,wpAny_pyIter_slot→Hs,Within→Hy,passOn→HR,pyNext→HU,cellsFrom→HV,noteFrame→HW,entryFor_of_tree→HX,strValues→HY,wpAny_pyIter_zip→HZ,wpAny_isInstance→H_,Arguments→Ip,excClassObj→Iq,atKey→Ir,wpAny_of_eq→Iu,wpAny_specialOf→Iy,codeAny_of_tree→Iz,typeLookup_type→IA,wpAny_updateSeq→IB,ElemsOf→IM,GenState→IS,wpAny_Name→IU,pyIter→IV,wpAny_load→IW,wpAny_loadPart→IY,bindL→IZ,bindC→I_,typeLookup→J_,sliceRange_one→Kb,entryFor→Kc,compEnvC→Kd,isSubtype_type→Ke,entryFor_alias→Kf,wpAny_fieldsOf→Kg,setEntries→Kh,wpAny_seqItems→Ki,wpAny_newTuple→Kj,checkCount→Kk,cameBackBy→Ko,call→Kr,Sem→Kv,Result→Kw,zfilled→Ky,PassesOwn→KA,intKind→KH,spliced→KI,relabel→KJ,setNext→KL,Tok→KS,IsPart→KU,typeOf→KW,DefRec→KY,argsOk→KZ,newExc→K0
open Option.some renaming inj→ao,injEq→An
open PySem.F renaming plainAttrs_str→aq,slot_str_join→aC,type_str_join→aD,slot_str_split→aI,type_str_split→aR,plainAttrs_list→aS,slot_list_append→e_,type_list_append→fc,slot_dict_get→sk,slot_str_startswith→sU,type_str_startswith→sV,excBase_ValueError→Ad,args_str_split_2→Ag,entry_str_split→Am,args_dict_get_3→AK,entry_dict_get→AX,plain_list_iadd→HQ,plain_set_new→IH,slot_set_iter→II
open PySem.Txt renaming split→av,join→aG,startswith→fq,slice→fC,slice_le→AY,zfill→FF
open Or renaming inl→ay,inr→i_
open PySem.W renaming kitOne→aE,boot_heap→aJ,findIn→aM,exmOne→aX,kia_one→c_,keepIn→fe,emptyDict→fH,instObj→f6,excIn→hU,specialIn→hW,exm_one→iq,nsIn→iI,callWith_K→iK,methodCall_KW→iN,makesIn→iU,Frag→iW,mroIn→iZ,cellsFrom_some→sd,fnOf→se,plainGet→sr,plainGet_of→sO,boot_drawn→sY,lookIn→Ac,methodObj→Aj,hasDictIn→Ak,boot_toks→Aw,SharedT→AM,absHeap→AN,takerIn→A4,takesIn→A5,codeIn→Fj,callWith_K0→FH,kdu_collect→FO,Looks→FR,namesBound→FV,looseW→FW,codeRec_of→F_,isFn→Hz,plainOver→HG,kitx_list→HH,kitx_dict→HI,staticsOk→HS,handedIn→Ib,kdl_dict→Im,readsIn→ID,findCls→IE,gensDone→IP,laidKept→IQ,InstAt→Kq,defOf→KG,openSeen→KO,openGood→KP
open PySem.Value renaming ref→aF,none→aN,bool→fO,type→fU,int→iC,builtin→Au,str→AI,isStrOf_shape→FG,isInt_shape→Hx,float→Iw,isStrOf→Kx
open PySem.Str renaming length_append→aK,append_assoc→iF,ofString→HP,empty→Ia
open PySem.SetTable renaming below→aO,grown→iE,insertAt→iQ,advance→sG,laid→Kz
open PyProof.Rows renaming envOfC→aT,callWith_type1→fL,boot_sorted→fV,seqObj→fZ,arrOf→ip,wpS_bind→iB,callWith_builtin1→iD,IntsAre→iP,Keyed→iS,wpS_pure→p_,AllBare→sR,SortSt→Aq,failedOf→AE,subscriptTail_builtinR→AS,entry_list_sort→A0,slot_list_sort→Ff,args_list_sort→Fg,pendingOf→FC,subscriptTail→FQ,wpS_forRange→Hq,plain_sorted→Ht,entry_sorted→Hv,args_sorted1→Hw,kind_sorted→Iv,get?_update_seq→IC,wpS_get→IL,plainsOf→IT,Subscript_→Ka,list_sort_tree→Kl,sortedHeap_old→Km,Call_→KQ
open PySem.Obj renaming mapFields→aV,mapSeq→fI,data_mapFields→ig,isFreed_of_fields→si,putSet→Hf
open List renaming replicate→aW,range→aY,length→fJ,zipWith→fP,lookup→iH,getElem?_toArray→A9,getElem?_zipWith→A_,getElem?_set_ne→Fh,range'→Fq,getLast?_concat→Fs,getElem?_range→FK,length_zipWith→FL,filterMap_some→FN,mergeSort_perm→FP,foldl_toArray→Hg,countP_append→Hh,getElem?_take→Hi,filterMap_map→Hj,ofFn→Ij,zipWith_map→Ik,map_zipWith→Il,getElem_zip→Io,forIn_cons→IJ,drop_drop→Ku,map→KR
open PySem.Builtin.Str renaming partsBetween→aZ,occurrences→fk,strSliceIndices→f_,strKind→iA,tooLong→sQ,padded→He,glued→HL,subAt→HN
open Sum renaming inl→a_,inr→AV
open False renaming elim→b_
open PySem.Heap renaming SameBut→fB,ExtBut→Fo
open Ne renaming symm→fK
open Option renaming isSome→fM,getD_none→Ic,bind_some→Ig,getD_some→Ii,map_map→Kt
open PySem.PassesOwn renaming never→fS
open List.Pairwise renaming nil→fX,cons→j_
open True renaming intro→f9
open Array renaming mk→ie,getD→sy,toList_extract→Fp
open PySem.Around renaming under_plainId→iu,frames_deeper→Fi,under→HJ
open PySem.Paired renaming length→iz
open PySem.Calls renaming spliced_cons→iJ,evalArgs_plain→iT,call_function_entry→iV,spliced_nil→r_,Name_function_global→Ab,callWith_builtin→AW
open PySem.Builtin.List renaming listExtendWith→iR,listTooLong→i5,listLengthHint→sT,listSameRef→Av
open PySem.Heap.SameBut renaming update→iY,refl→HM
open Prod renaming mk→i9,fst→AH
open Sum.inr renaming inj→l_
open PyProof.Rows.F renaming plain_set_update_loop→m_,entry_set_update_loop→AL
open PySem.SetTable.below renaming go→sg
open PySem.SeqAt renaming EqAt→sx,in_tupleAt→Ie,in_listAt→IF,eq_listAt→IG
open PySem.SeqAt.EqAt renaming same→sL,bool_none→Fm,bool_bool→Fn,int_none→FI,str_none→FJ,int_str→F0,str_int→F9,of_refs→Hc
open ForInStep renaming yield→sM
open PySem.EntryCells renaming newEntry→sP
open PySem.NumText renaming AllDigits→sW,digitsVal_snoc→Kn
open PySem.Code renaming quiet_builtin→Ae,isFrame→HK
open PySem.SeqAt.RcNeAt renaming lists_lengths→Af,lists→G_
open PySem.SetTable.probe renaming go→Ao
open PySem.W.Looks renaming ld→AJ
open Nat renaming ble→FD,strongRecOn→IK,mod_lt→Ks,beq→KN
open List.cons renaming inj→FU
theorem U {α}{a:α}:a=a:=rfl
abbrev i':=@decide_eq_true
abbrev D':=@decide_eq_false
abbrev G':=@of_decide_eq_true
abbrev K4:=@congrArg
abbrev K5:=@if_neg
abbrev K6:=@if_pos
abbrev K7:=@absurd
abbrev BFr:=iW
abbrev BfS (K:BFr)(c:ag):Prop:=aM K (.ref c) "__setattr__"=some (some (.builtin "object.__setattr__"))
abbrev BfC (K:BFr)(c:ag):Prop:=aM K (.ref c) "__class__"=some (some (.builtin "object.__class__"))
abbrev BkO (K:BFr)(a b:ag)(x:Bool):Prop:=aE K (.ref a) (.ref b)=some x
set_option hygiene false in
local macro_rules | `(tactic| walk_at "s") => `(tactic| exact ⟨rfl,rfl,rfl,by decide +kernel,rfl,by decide +kernel,by decide +kernel⟩)
set_option hygiene false in
local macro_rules | `(tactic| walk_at "d0") => `(tactic| dsimp (config:={ proj:=false,iota:=false,beta:=false,eta:=false }) only [jF,uj])
set_option hygiene false in
local macro_rules | `(tactic| walk_at "k") => `(tactic| refine F.ok (nS nd (by walk_at"s")) (λvs H Q E h=>?_) (λK9 A outer s H vs Q E hr h=>?_))
set_option hygiene false in
local macro_rules | `(tactic| walk_at "t") => `(tactic| (walk_at "s";intro vs H Q E h;rotate_left;intro K9 A outer s H vs Q E hr h;rotate_left))
local macro_rules | `(∅) => `(by decide)
local macro_rules | `(⋯) => `(by decide +kernel)
abbrev CH:=@List.length_map
abbrev CI:=@Nat.le_refl
abbrev CJ:=@List.mem_cons
abbrev CK:=@List.mem_map
abbrev CM:=@Bool.and_eq_true
abbrev CN:=@List.map_append
abbrev CO:=@List.getElem?_map
abbrev CP:=@List.map_map
abbrev CQ:=@List.mem_append
abbrev CS:=@List.length_append
abbrev CU:=@List.mem_cons_self
abbrev CV:=@List.not_mem_nil
abbrev CW:=@Nat.le_trans
abbrev CY:=@List.mem_singleton
abbrev CZ:=@List.getElem?_eq_getElem
abbrev C5:=@PySem.Heap.lt_size
abbrev C6:=@List.mem_cons_of_mem
abbrev C7:=@List.getElem?_eq_some_iff
abbrev C8:=@Option.map_eq_some_iff
abbrev C9:=@Nat.le_of_ble_eq_true
abbrev dc:=@PySem.Heap.get?_push_of_some
abbrev de:=@Nat.ne_of_lt
abbrev dh:=@List.size_toArray
abbrev dj:=@List.all_eq_true
abbrev dk:=@Int.emod_nonneg
abbrev dm:=@Bool.true_and
abbrev dq:=@Bool.false_ne_true
abbrev du:=@Nat.zero_le
abbrev dv:=@List.map_cons
abbrev dw:=@Int.emod_lt_of_pos
abbrev dz:=@List.length_cons
abbrev dA:=@PySem.Heap.get?_push_size
abbrev dB:=@List.length_singleton
abbrev dD:=@List.length_range
abbrev dF:=@List.append_nil
abbrev dG:=@List.mem_of_getElem?
abbrev dH:=@List.length_take
abbrev dI:=@Bool.eq_false_iff
abbrev dJ:=@Array.length_toList
abbrev dM:=@Nat.lt_of_lt_of_le
abbrev dN:=@List.mem_append_right
abbrev dO:=@Bool.false_and
abbrev dP:=@Int.toNat_natCast
abbrev dQ:=@Bool.and_false
abbrev dR:=@List.take_add_one
abbrev dS:=@Bool.false_or
abbrev dU:=@List.append_assoc
abbrev dW:=@List.contains_iff_mem
abbrev dX:=@List.take_length
abbrev dY:=@List.map_congr_left
abbrev dZ:=@List.getElem?_append_right
abbrev d4:=@PySem.Heap.get?_update_other
abbrev d6:=@List.getD_eq_getElem?_getD
abbrev d7:=@Bool.and_true
abbrev d8:=@List.map_nil
abbrev d9:=@List.mem_append_left
abbrev Da:=@List.nodup_cons
abbrev Dc:=@Nat.le_of_not_lt
abbrev Dd:=@Nat.lt_of_le_of_lt
abbrev De:=@List.foldl_cons
abbrev Df:=@List.nodup_nil
abbrev Dg:=@Nat.le_add_left
abbrev Dh:=@List.getElem?_append_left
abbrev Di:=@List.getElem?_eq_none
abbrev Dj:=@List.length_drop
abbrev Dk:=@Array.getElem?_eq_some_iff
abbrev Dl:=@Nat.min_eq_left
abbrev Dm:=@Array.getElem?_eq_getElem
abbrev Dn:=@Bool.false_eq_true
abbrev Do:=@List.take_of_length_le
abbrev Dp:=@Nat.le_add_right
abbrev Dq:=@List.dropLast_concat_getLast
abbrev Dr:=@Bool.and_eq_true_iff
abbrev Ds:=@Bool.not_eq_true'
abbrev Du:=@PySem.Heap.get?_update_self
abbrev Dv:=@List.all_map
abbrev Dw:=@Int.eq_ofNat_of_zero_le
abbrev Dx:=@List.all_cons
abbrev Dy:=@Nat.le_of_eq
abbrev Dz:=@Bool.or_eq_true
abbrev DA:=@Int.le_refl
abbrev DB:=@List.pairwise_iff_getElem
abbrev DC:=@Nat.le_succ_of_le
abbrev DD:=@List.pairwise_cons
abbrev DE:=@List.take_append_drop
abbrev DF:=@PySem.Heap.size_push
abbrev DG:=@Nat.lt_succ_self
abbrev DH:=@Option.isSome_iff_exists
abbrev DJ:=@List.any_cons
abbrev DK:=@List.length_nil
abbrev DM:=@List.set_set
abbrev DN:=@Nat.sub_self
abbrev DO:=@List.nodup_append
abbrev DP:=@List.ext_getElem?
abbrev DQ:=@Array.getElem?_toList
abbrev DR:=@Bool.or_eq_false_iff
abbrev DU:=@List.mem_flatten
abbrev DV:=@Nat.zero_add
abbrev DW:=@PySem.Heap.get?_none_of_le
abbrev DX:=@Bool.eq_iff_iff
abbrev DY:=@List.of_mem_zip
abbrev DZ:=@List.find?_cons
abbrev ee:=@Nat.min_eq_right
abbrev eg:=@List.foldl_append
abbrev eh:=@List.length_eq_zero_iff
abbrev ej:=@Bool.not_true
abbrev eE:=@List.cons_ne_nil
abbrev eF:=@List.pairwise_append
abbrev eG:=@Array.toList_inj
abbrev eI:=@Nat.lt_irrefl
abbrev eJ:=@List.mem_filter
abbrev eK:=@Nat.le_of_lt
abbrev eL:=@List.filterMap_cons
abbrev eM:=@Nat.ne_of_gt
abbrev eN:=@List.getElem_mem
abbrev eO:=@Int.zero_add
abbrev eP:=@Nat.lt_succ_of_lt
abbrev eQ:=@Nat.succ_le_succ
abbrev eR:=@List.length_tail
abbrev eS:=@List.map_id'
abbrev eU:=@List.filter_eq_nil_iff
abbrev eV:=@List.map_inj_right
abbrev eW:=@Array.toList_push
abbrev eX:=@List.mem_range
abbrev eY:=@List.replicate_succ
abbrev eZ:=@List.flatten_cons
abbrev Ea:=@Nat.succ_mul
abbrev Eb:=@Nat.add_le_add_left
abbrev Ec:=@Nat.lt_trans
abbrev Ed:=@Int.natCast_nonneg
abbrev Ee:=@Array.getElem?_eq_none
abbrev Ef:=@List.filter_append
abbrev Eg:=@Nat.not_lt
abbrev Eh:=@Nat.not_lt_zero
abbrev Ei:=@Nat.mul_le_mul_right
abbrev Ej:=@List.getElem_map
abbrev El:=@List.filter_eq_self
abbrev Em:=@List.any_map
abbrev Eo:=@Int.le_trans
abbrev Ep:=@List.drop_zero
abbrev Es:=@Nat.sub_zero
abbrev Et:=@List.mem_iff_getElem?
abbrev Eu:=@List.pairwise_map
abbrev Ew:=@Bool.or_true
abbrev Ex:=@List.flatten_append
abbrev Ey:=@List.getElem_range
abbrev Ez:=@List.all_append
abbrev EA:=@List.getElem?_set_self
abbrev EB:=@List.mem_filterMap
abbrev EC:=@List.getElem?_take_of_lt
abbrev ED:=@List.take_sublist
abbrev EF:=@List.length_replicate
abbrev EG:=@List.getElem_toArray
abbrev EH:=@List.ext_getElem
abbrev EI:=@Nat.add_le_add
abbrev EJ:=@List.getElem?_drop
abbrev EK:=@List.nil_append
abbrev EL:=@List.mem_of_mem_take
abbrev EM:=@Nat.not_lt_of_le
abbrev EN:=@List.map_replicate
abbrev EO:=@List.pairwise_singleton
abbrev ER:=@List.cons_append
abbrev ES:=@List.any_eq_true
abbrev ET:=@List.foldl_nil
abbrev EU:=@Bool.not_false
abbrev EV:=@Option.bind_eq_some_iff
abbrev EW:=@List.length_erase_of_mem
abbrev EY:=@List.length_pos_of_mem
abbrev EZ:=@List.length_eraseIdx_of_lt
abbrev E6:=@List.nodup_iff_pairwise_ne
abbrev E8:=@List.drop_of_length_le
abbrev E9:=@List.append_ne_nil_of_right_ne_nil
abbrev fb:=@List.head?_eq_getElem?
variable {s s':ar}{w:aP}{n t' c:Nat}{t:q_}{p a f:ag}{h:fi}{r N Se:List af}{o:g_}{l:List Nat}{e:aQ}{m:Int}{M:PySem.Model}{β α:Type}{x:af}{d:Nat->ag}{b:Bool}{q:Int×Int}
namespace L2
open PySem PySem.W PySem.Calls PyProof.Rows
def gq (tb:String->Option Builtin)(p:aU)(w:aP)(n₀:Nat)(ann:Option ae):Nat->AM->Thread->Option AM
 |0,_,_=>none
 |n+1,s,t=>match through t with
  |true=>some s
  |false=>match stepOk n₀ ann t with
   |false=>none
   |true=>match stepT (denote tb) p w s t with
    |some (s',t')=>gq tb p w n₀ ann n s' t'
    |none=>none
theorem RG {tb:String->Option Builtin}{p:aU}{n₀:Nat}{ann:Option ae}(n:Nat):∀{s s':AM} {t:Thread},gq tb p w n₀ ann n s t=some s'->topRun tb p w n₀ ann n s.abs t=some s'.abs:=by
 induction n with
 |zero=>intro s s' t h;cases h
 |succ n ih=>
  intro s s' t h;unfold gq at h;unfold topRun
  cases ht:through t with
  |true=>rw[ht]at h;cases h;rfl
  |false=>
   rw[ht]at h
   cases hk:stepOk n₀ ann t with
   |false=>rw[hk]at h;cases h
   |true=>
    rw[hk]at h
    cases hs:stepT (denote tb) p w s t with
    |none=>rw[hs]at h;cases h
    |some r=>
     obtain⟨s₂,t₂⟩:=r;rw[hs]at h;rw[stepT_spec hs];exact ih h
def lg:List g_->BT->Nat->Option BT
 |[],t,_=>some t
 |o::l,t,n=>match ((t.ins n o).get n).isSome with
  |true=>lg l (t.ins n o) (n+1)
  |false=>none
theorem NP {life:Life}(l:List g_):∀{t t':BT} {n:Nat},lg l t n=some t'->(AN t' (n+l.length) life).objs.toList=(AN t n life).objs.toList++l:=by
 induction l with
 |nil=>intro t t' n h;cases h;rw[dF];rfl
 |cons o l ih=>
  intro t t' n h;unfold lg at h
  cases e:((t.ins n o).get n).isSome with
  |false=>rw[e]at h;cases h
  |true=>
   rw[e]at h;have:=ih h;rw[dz,show n+(l.length+1)=n+1+l.length by lia,this,absHeap_ins e];show((AN t n life).objs.push o).toList++l=_;rw[eW,dU];rfl
def PC (p:aU)(m:Nat)(ann:Option ae)(M:Nat)(see:ar->β)(w:aP)(os:fE):Option β :=
 (lg (aJ w.params).objs.toList .nil 0).bind λt=>(gq Ft p w m ann M ⟨t,m,(aJ w.params).life,ie [],sY,Aw,os⟩ (topStub p)).map λs=>see s.abs
theorem ou {p q:aU}{Xt:ar->Bool}{Yf:ar->α}{Ya:aP->α}{N M m:Nat}{g0:Bool}{ann:Option ae}
  (e:opening p=plainProg p.main.scope.names) (hN:FD 600 N=true) (f:∀s,fenceModules? p s=some s) (le:FD M N=true) (size:∀w:aP,((aJ w.params).isNs az,(aJ w.params).objs.toList.length,(aJ w.params).nsMap az "__annotations__")=(true,m,ann)) (h:∀(w:aP) (os:fE),PC p m ann M (λs=>((HS (fQ p.main.body) (aJ w.params) s.heap&&FV p s.heap&&IP s&&IQ (aJ w.params) s.heap),KO q Se (fQ p.main.body) Xt g0 s,Yf s)) w os=some (true,KP q Se,Ya w)) :
  LeftO p q Se Xt Yf Ya N g0:=λw=>by
 obtain⟨⟨hp,gs,d,k,os⟩,e1,e2⟩:=C8.mp (boot_open e hN f w)
 obtain⟨rfl,rfl,rfl,rfl⟩:hp=aJ w.params/\gs=ie []/\d=sY/\k=Aw:=by
  have a:=K4 AH e2;have b:=K4 (λx=>x.2.1) e2;have c:=K4 (λx=>x.2.2.1) e2;have d:=K4 (λx=>x.2.2.2) e2;exact⟨a,b,c,d⟩
 have sz:=size w;have z1:(aJ w.params).isNs az=true:=K4 AH sz;have z2:(aJ w.params).objs.toList.length=m:=K4 (λx=>x.2.1) sz;have z3:(aJ w.params).nsMap az "__annotations__" = ann:=K4 (λx=>x.2.2) sz;have h:=h w os;unfold PC at h;obtain⟨t,ht,h⟩:=EV.mp h;obtain⟨s,hs,h⟩:=C8.mp h
 have ab:SharedT.abs ⟨t,m,(aJ w.params).life,ie [],sY,Aw,os⟩=⟨aJ w.params,ie [],sY,Aw,os⟩:=by
  have g:=NP (life:=(aJ w.params).life) _ ht;rw[DV,z2]at g;have g':(AN t m (aJ w.params).life).objs.toList=(aJ w.params).objs.toList:=g
  have g2:AN t m (aJ w.params).life=aJ w.params:=by
   show Heap.mk (AN t m (aJ w.params).life).objs (aJ w.params).life=Heap.mk (aJ w.params).objs (aJ w.params).life;exact K4 (Heap.mk · _) (eG.mp g')
  show Shared.mk (AN t m (aJ w.params).life) _ _ _ _=_;rw[g2]
 have r:=RG M hs;rw[ab]at r;have r:=topRun_mono (N-M) _ _ _ _ r;rw[show M+(N-M)=N by have:=C9 le;lia]at r;have l1:=K4 AH h;have l2:=K4 Prod.snd h;dsimp only at l1 l2
 have t:topFrom Ft p w N ⟨aJ w.params,ie [],sY,Aw,os⟩=some s.abs:=by
  unfold topFrom;have c:((aJ w.params).isNs az&&(ie ([]:List IS)).size==0)=true:=by rw[z1];rfl
  show(match (aJ w.params).isNs az&&(ie ([]:List IS)).size==0 with|true=>_ |false=>none)=_;rw[c];show(topRun Ft p w (aJ w.params).objs.size ((aJ w.params).nsMap az "__annotations__") N _ _).bind _=_;rw[show(aJ w.params).objs.size=m from z2,z3,r];show(match _ with|true=>_ |false=>none)=_;rw[l1]
 unfold openEnds;rw[e1];show(topFrom Ft p w N _).map _=_;rw[t];exact K4 some l2
end L2
variable {j:Nat}{body:List n_}
namespace L2
open PySem PySem.Spec PyProof.Rows
def zX (s:n_)(j:Nat):n_:=match s with
 |.ClassDef _ _ _ body _ _ _ _ _ _ _=>body.getD j (.Pass ⟨0,0,0,0⟩)
 |_=>.Pass ⟨0,0,0,0⟩
def uJ (s:n_):Ip:=match s with
 |.FunctionDef _ a _ _ _ _ _ _ _ _=>a
 |_=>{posonlyargs:=[],args:=[],vararg:=none,kwonlyargs:=[],kw_defaults:=[],kwarg:=none,defaults:=[]}
def jC (s:n_):List n_:=match s with
 |.FunctionDef _ _ b _ _ _ _ _ _ _=>b
 |_=>[]
def zU (s:n_):sZ:=match s with
 |.FunctionDef _ _ _ _ _ _ sc _ _ _=>sc
 |_=>{kind:=.function,names:=[],isGenerator:=false,isCoroutine:=false}
end L2
variable {scope:sZ}{qual z:af}{params:Ip}{fd:AA}{st:n_}{D C cR:ag}{K8:List ae}{zs:List af}{i:Nat}
namespace L2
open PySem PySem.W PySem.Calls PyProof.Rows
def j3 (as:List ag)(h:fi):iW:=as.filterMap λa=>(h.get? a).map λo=>(a,o)
structure XZ where
 name:af
 qual:af
 params:Ip
 body:FuncBody
 scope:sZ
 globals:ag
 closure:List (af×ag)
 defaults:ae
 builtins:ag
 ok:Bool
def jE (K:iW)(v:Option (Option ae)):Option XZ:=match v with
 |some (some (.ref f))=>match K.lookup f with
  |some ⟨_,_,.func fd,_⟩=>some ⟨fd.name,fd.qualname,fd.params,fd.body,fd.scope,fd.globals,fd.closure,fd.defaults,fd.builtins,codeIn K fd.code fd.qualname&&fe K (.ref f)&&isFn K (.ref f)⟩
  |_=>none
 |_=>none
def jG (x qual:af)(st:n_):Option XZ:=some ⟨x,qual,uJ st,.stmts (jC st),zU st,az,[],.none,s_,true⟩
abbrev ZQ:List ae:=[.type "ValueError",.type "Exception",.type "BaseException",.type "object"]
def Yy (v:Option (Option ae)):Bool:=match v with
 |some none=>true
 |_=>false
def isInt (z:Int)(v:Option (Option ae)):Bool:=match v with
 |some (some (.int y _))=>decide (y=z)
 |_=>false
def Jo (z:af)(v:Option (Option ae)):Bool:=match v with
 |some (some (.str y _))=>decide (y=z)
 |_=>false
def uX (z:ag)(v:Option (Option ae)):Bool:=match v with
 |some (some (.ref y))=>KN y z
 |_=>false
def uI (z:String)(v:Option (Option ae)):Bool:=match v with
 |some (some (.builtin y))=>decide (y=z)
 |_=>false
def Qq (b:Bool)(v:Option Bool):Bool:=match v with
 |some c=>c==b
 |none=>false
def UV (K:iW)(D:ag):Bool:=(clsIn K D).isSome&&uI "BaseException.__getattribute__" (aM K (.ref D) "__getattribute__")&&Yy (aM K (.ref D) "__getattr__")&&uI "object.__class__" (aM K (.ref D) "__class__")&&uI "getset_descriptor.__get__" (hW K (.builtin "object.__class__") "__get__")&&Qq true (takesIn K (.builtin "object.__class__"))&&Qq true (iZ K D (.type "object"))&&Qq true (iZ K D (.type "BaseException"))
def vn (K:iW)(C:ag):Bool:=plainGet K C Ia&&hasDictIn K C&&plainOver K C&&uI "object.__setattr__" (aM K (.ref C) "__setattr__")
def YQ:List ae->List af->Bool
 |[],[]=>true
 |v::r,z::q=>Jo z (some (some v))&&YQ r q
 |_,_=>false
def YF (K:iW)(x:af)(zs:List af):Bool:=match iI K az x with
 |some (some (.ref a))=>match K.lookup a with
  |some ⟨.type n,_,.seq K8 _,_⟩=>decide (n = "tuple")&&FD K8.size 1000&&YQ K8.toList zs
  |_=>false
 |_=>false
def kX (K:BFr)(C:ag)(m:af):Bool :=
 (match hW K (.ref C) "__getattribute__" with|some (some (.builtin b))=>b == "type.__getattribute__" |_=>false)&&ID K C (.type "type") &&
 (match aM K (.ref C) m,IE K (.ref C) (.type "type") m with|some (some (.ref f)),some (.val (.ref g))=>KN f g |_,_=>false)
def UF (K:iW):Bool:=(["isinstance","int","bool","str","len","range","ValueError","list","tuple","dict","set","all","any","sum","sorted","abs","max","min","zip","enumerate","reversed"]:List af).all λx=>Yy (iI K az x)
def errNames:List af:=["BadAmount","BadShare","BadText","BadMonth","BadYear","BadRule","BadBook","NoYear","BadDay","BadEntry","NoMark","NoPerson","TooMany","BadClose","BadLine"]
def GI (K:iW)(d:Nat->ag):Bool:=errNames.zipIdx.all λx=>uX (d x.2) (iI K az x.1)
def wH (K:iW)(d:Nat->ag)(cR:ag)(i:Nat):Bool:=excIn K (d i) ZQ "ValueError.__new__" && Qq true (aX K (.ref (d i)) (.ref cR))&&UV K (d i)&&Qq true (aE K (.ref (d i)) (.type "ValueError"))&&(aY 15).all λj=>Qq (decide (i=j)) (aE K (.ref (d i)) (.ref (d j)))
def wm (K:iW)(C:ag)(l:List af):Bool:=l.all λx=>Yy (aM K (.ref C) x)
end L2
namespace L2
open PySem PySem.W
def gf (s:AM)(a:ag):Option g_:=match Nat.blt a s.n with
 |true=>alive ((s.tree.get a).getD default)
 |false=>none
theorem oz (s:AM)(a:ag):gf s a=s.abs.heap.get? a:=by
 unfold gf;show _=(AN s.tree s.n s.life).get? a
 cases h:Nat.blt a s.n with
 |true=>
  have h:a<s.n:=Nat.blt_eq.mp h;unfold Heap.get?;rw[absHeap_at,K6 h];generalize (s.tree.get a).getD default=o;obtain⟨c,d,dt,sl⟩:=o
  cases dt<;>rfl
 |false=>
  have h:¬a<s.n:=λc=>by rw[Nat.blt_eq.mpr c]at h;cases h
  exact(abs_get_none h).symm
def vE (as:List ag)(s:AM):iW:=as.filterMap λa=>(gf s a).map λo=>(a,o)
theorem kB (as:List ag)(s:AM):j3 as s.abs.heap=vE as s:=by
 unfold j3 vE
 congr 1
 funext a
 rw[oz]
end L2
namespace K12
open PySem
def top (i:Nat):n_:=PySem.Challenge.pw_coinroll_k12_books_written.main.body.getD i (.Pass ⟨0,0,0,0⟩)
end K12
namespace K12
open PySem PySem.W PySem.Calls PyProof.Rows L2
def hQ:aU:=PySem.W.view PySem.Challenge.pw_coinroll_k12_books_written [0,2,3,4,5,6,7,8,9,10,11,12,13,14,15,16,17,19,20,21,22,23,24,26,27,28,29,30,31,33,34,35,37,38,39,41,42,43,44,45,46,47,48,49,50,51,53,54,55,56,58,59,61,62,63,64,65,66,67,68,70,71,72,73,75,76,77,78,79,80,82,83,84,85,86,87,88,89,90,91,92,93,94,95,96,97,98,99,100,101,102,103,104,105,106,107,108]
def Q0 (i:Nat):ag:=[44,56,68,80,92,104,116,128,140,152,164,176,188,200,212].getD i 0
def qV (i:Nat):ag:=[416,456,496,536,584,631].getD i 0
noncomputable def oQ:List ag:=[2,3,15,17,18,20,21,22,29,30,31,32,35,42,43,44,47,54,55,56,59,66,67,68,71,78,79,80,83,90,91,92,95,102,103,104,107,114,115,116,119,126,127,128,131,138,139,140,143,150,151,152,155,162,163,164,167,174,175,176,179,186,187,188,191,198,199,200,203,210,211,212,215,216,218,219,221,222,223,225,226,228,229,230,232,233,235,236,237,239,240,242,243,244,247,248,249,251,252,254,255,256,259,260,261,264,265,266,268,269,271,272,273,275,276,278,279,280,282,283,285,286,287,289,290,292,293,294,295,297,298,300,301,302,304,305,307,308,309,311,312,314,315,316,318,319,321,322,330,332,333,335,336,337,339,340,342,343,344,346,347,349,350,351,353,354,356,357,358,360,361,363,364,365,367,368,370,371,372,373,374,375,376,379,386,388,389,391,392,393,395,396,398,399,400,402,403,405,406,407,409,410,412,413,414,415,416,419,426,428,429,431,432,433,435,436,438,439,440,442,443,445,446,447,449,450,452,453,454,455,456,459,466,468,469,471,472,473,475,476,478,479,480,482,483,485,486,487,489,490,492,493,494,495,496,499,506,508,509,511,512,513,515,516,518,519,520,522,523,525,526,527,529,530,532,533,534,535,536,539,541,542,544,545,546,549,550,551,558,561,562,563,565,566,568,569,570,573,574,575,577,578,580,581,582,583,584,587,594,596,597,599,600,601,603,604,606,607,608,610,611,613,614,615,617,618,620,621,622,624,625,627,628,629,630,631,634,636,637,639,640,641,643,644,646,647,648,651,652,653,655,656,658,659,660,662,663,665,666,667,669,670,672,673,674,676,677,679,680,681,683,684,686,687,688,691,692,700,702,703,705,706,707,710,711,712,715,716,717,720,721,722,724,725,727,728,729,730,731,732,733,736,738,739,741,742,743,745,746,748,749,750,752,753,755,756,757,759,760,762,763,764,767,768,769,771,772,774,775,776,778,779,781,782,783,785,786,788,789,790,793,794,795,797,798,800,801,802,804,805,807,808,809,811,812,814,815,816,818,819,821,822,823,825,826,828,829,830,833,834,835,838,839,840,843,844,845,848,849,850,853,854,855,857,858,860,861,862,865,866,867,869,870,872,873,874,877,878,879,881,882,884,885,886,888,889,891,892,893,895,896,898,899,900,903,904,905,908,909,910,912,913,915,916,917,919,920,922,923,924,927,928,929,932,933]
def hFs:List (af×Nat):=[(("is_number":af),21),(("is_number_within":af),22),(("is_parts":af),23),(("is_way":af),24),(("is_word_of":af),29),(("is_name":af),30),(("rise":af),31),(("are_figures":af),33),(("is_number_text":af),34),(("read_number":af),35),(("need_year":af),38),(("year_text":af),39),(("is_rule_name":af),43),(("is_rule_amount":af),44),(("need_rule_amount":af),45),(("need_share":af),46),(("is_band":af),54),(("are_bands":af),55),(("number_of":af),62),(("band_of":af),63),(("bands_of":af),64),(("plain_rule":af),65),(("is_ontop":af),66),(("rule_of_words":af),67),(("rule_of":af),68),(("need_few":af),71),(("need_unlike_names":af),72),(("year_rows":af),76),(("text_of":af),77),(("is_head":af),78),(("parts_of":af),79),(("book_of":af),80),(("_law_cell_at":af),82),(("_law_mixed":af),83),(("_law_amount":af),84),(("_law_names":af),85),(("_law_parts":af),86),(("_law_way":af),87),(("_law_pairs":af),88),(("_law_plain":af),89),(("_law_rule":af),90),(("_law_row":af),91),(("_law_rules":af),92),(("_law_is_name":af),93),(("_law_number":af),94),(("_law_pairs_in":af),95),(("_law_things_in":af),96),(("_law_by_words":af),97),(("_law_read":af),98),(("_law_bent":af),99),(("_law_word":af),100),(("_law_years":af),101),(("_law_text":af),102),(("_law_year_in":af),103),(("_law_book":af),104),(("_law_bent_rows":af),105),(("_law_told":af),106),(("_law_is_right":af),107),(("law":af),108)]
def hMs:List (ag×af×af×Nat×Nat):=[(374,("__init__":af),("Rule.__init__":af),47,0),(416,("__init__":af),("Flat.__init__":af),48,0),(416,("twin":af),("Flat.twin":af),48,3),(416,("depth":af),("Rule.depth":af),47,4),(416,("row":af),("Flat.row":af),48,2),(456,("__init__":af),("Share.__init__":af),49,0),(456,("twin":af),("Share.twin":af),49,3),(456,("depth":af),("Rule.depth":af),47,4),(456,("row":af),("Share.row":af),49,2),(496,("__init__":af),("Capped.__init__":af),50,0),(496,("twin":af),("Capped.twin":af),50,3),(496,("depth":af),("Rule.depth":af),47,4),(496,("row":af),("Capped.row":af),50,2),(536,("__init__":af),("Least.__init__":af),51,0),(536,("twin":af),("Least.twin":af),51,3),(536,("depth":af),("Rule.depth":af),47,4),(536,("row":af),("Least.row":af),51,2),(584,("__init__":af),("Bands.__init__":af),56,0),(584,("twin":af),("Bands.twin":af),56,3),(584,("depth":af),("Rule.depth":af),47,4),(584,("row":af),("Bands.row":af),56,2),(631,("__init__":af),("OnTop.__init__":af),59,0),(631,("twin":af),("OnTop.twin":af),59,3),(631,("depth":af),("OnTop.depth":af),59,4),(631,("row":af),("OnTop.row":af),59,2),(731,("__init__":af),("RuleBook.__init__":af),73,0),(731,("put":af),("RuleBook.put":af),73,1),(731,("rows":af),("RuleBook.rows":af),73,2),(731,("years":af),("RuleBook.years":af),73,4)]
noncomputable def Mf (K:iW):List Bool:=[UF K,GI K Q0,uX 31 (iI K az "RollError"),wH K Q0 31 2,wH K Q0 31 4,wH K Q0 31 5,wH K Q0 31 6,wH K Q0 31 7,isInt 8 (iI K az "MOST_SIGNS"),isInt 20000 (iI K az "MOST_PARTS"),isInt 1000000000000 (iI K az "MOST_AMOUNT"),isInt 12 (iI K az "MOST_BANDS"),isInt 3 (iI K az "MOST_DEPTH"),isInt 13 (iI K az "MOST_FIGURES"),isInt 9999 (iI K az "LAST_YEAR"),isInt 8 (iI K az "MOST_RULES"),Jo "abcdefghijklmnopqrstuvwxyz" (iI K az "LETTERS"),Jo "0123456789" (iI K az "FIGURES"),YF K "WAYS" ["down","up","near","even"],YF K "NO_RULE_NAMES" ["base","net","month","sums"],Jo "year " (iI K az "HEAD"),vn K 374,uX 374 (iI K az "Rule"),vn K 416,uX 416 (iI K az "Flat"),vn K 456,uX 456 (iI K az "Share"),vn K 496,uX 496 (iI K az "Capped"),vn K 536,uX 536 (iI K az "Least"),vn K 584,uX 584 (iI K az "Bands"),vn K 631,uX 631 (iI K az "OnTop"),vn K 731,uX 731 (iI K az "RuleBook"),wm K 416 ["name","amount","parts","way","most","least"],wm K 456 ["name","amount","parts","way","most","least"],wm K 496 ["name","amount","parts","way","most","least"],wm K 536 ["name","amount","parts","way","most","least"],wm K 584 ["name","bands","way","parts","within"],wm K 631 ["name","bands","way","parts","within"],uI "object.__class__" (aM K (.ref 416) "__class__"),uI "object.__class__" (aM K (.ref 456) "__class__"),uI "object.__class__" (aM K (.ref 496) "__class__"),uI "object.__class__" (aM K (.ref 536) "__class__"),uI "object.__class__" (aM K (.ref 584) "__class__"),uI "object.__class__" (aM K (.ref 631) "__class__"),uI "getset_descriptor.__get__" (hW K (.builtin "object.__class__") "__get__"),Qq true (takesIn K (.builtin "object.__class__")),Qq true (iZ K 416 (.type "object")),Qq true (iZ K 456 (.type "object")),Qq true (iZ K 496 (.type "object")),Qq true (iZ K 536 (.type "object")),Qq true (iZ K 584 (.type "object")),Qq true (iZ K 631 (.type "object")),Qq true (aE K (.ref 416) (.ref 374)),Qq true (aE K (.ref 456) (.ref 374)),Qq true (aE K (.ref 496) (.ref 374)),Qq true (aE K (.ref 536) (.ref 374)),Qq true (aE K (.ref 584) (.ref 374)),Qq true (aE K (.ref 631) (.ref 374)),(!(KN 456 631)),kX K 374 "__init__",iU K 416&&fe K (.ref 416),iU K 456&&fe K (.ref 456),iU K 496&&fe K (.ref 496),iU K 536&&fe K (.ref 536),iU K 584&&fe K (.ref 584),iU K 631&&fe K (.ref 631),Qq true (aX K (.ref 68) (.ref 68)),Qq false (aX K (.ref 104) (.ref 68)),Yy (aM K (.ref 416) "name"),Yy (aM K (.ref 456) "name"),Yy (aM K (.ref 496) "name"),Yy (aM K (.ref 536) "name"),Yy (aM K (.ref 584) "name"),Yy (aM K (.ref 631) "name"),Yy (aM K (.ref 731) "told"),iU K 731&&fe K (.ref 731),Qq true (aX K (.ref 116) (.ref 116)),Qq false (aX K (.ref 104) (.ref 116)),Qq true (aX K (.ref 104) (.ref 104)),uI "object.__class__" (aM K (.ref 731) "__class__"),Qq true (iZ K 731 (.type "object")),Qq true (aE K (.ref 731) (.ref 731))]
def RF (K:iW):=(hFs.map (λx=>jE K (iI K az x.1)),hMs.map (λx=>jE K (aM K (.ref x.1) x.2.1)),(Mf K).all id)
def lB:=(hFs.map (λx=>jG x.1 x.1 (top x.2)),hMs.map (λx=>jG x.2.1 x.2.2.1 (zX (top x.2.2.2.1) x.2.2.2.2)),true)
def bQ (s:ar):Bool:=xlAt hQ [] s&&recOk [] s
def bE (w:aP)(s:ar):=((HS (fQ PySem.Challenge.pw_coinroll_k12_books_written.main.body) (aJ w.params) s.heap&&FV PySem.Challenge.pw_coinroll_k12_books_written s.heap&&IP s&&IQ (aJ w.params) s.heap),KO hQ [] (fQ PySem.Challenge.pw_coinroll_k12_books_written.main.body) bQ true s,RF (j3 oQ s.heap))
def cX (K:iW):List Bool:=Mf K
def hX (w:aP)(os:fE):Option AM:=(lg (aJ w.params).objs.toList .nil 0).bind λt=>(gq Ft PySem.Challenge.pw_coinroll_k12_books_written w 11 (some (.ref 6)) 8152 ⟨t,11,(aJ w.params).life,ie [],sY,Aw,os⟩ (topStub PySem.Challenge.pw_coinroll_k12_books_written))
def PY (w:aP)(os:fE):=(hX w os).map λs=>(HS (fQ PySem.Challenge.pw_coinroll_k12_books_written.main.body) (aJ w.params) s.abs.heap)&&((FV PySem.Challenge.pw_coinroll_k12_books_written s.abs.heap&&IP s.abs&&IQ (aJ w.params) s.abs.heap))
def pQ (_:aP)(_:fE):=some (true)
theorem XF:PY=PY:=rfl
theorem Ra:pQ=pQ:=rfl
def lh (w:aP)(os:fE):=(hX w os).map λs=>seen ((recsOf hQ).map (·.name)) (ownsOf hQ) [] {s.abs with gens:=#[]}
def lq (_:aP)(_:fE):=some (expectedOf hQ)
theorem gg:lh=lh:=rfl
theorem Xj:lq=lq:=rfl
def L7 (w:aP)(os:fE):=(hX w os).map λs=>s.abs.heap.bltView
def Lm (_:aP)(_:fE):=some (bltViewBooted)
theorem xT:L7=L7:=rfl
theorem tI:Lm=Lm:=rfl
def Ll (w:aP)(os:fE):=(hX w os).map λs=>(s.abs.heap.keysOk (FW hQ []) ((recsOf hQ).map (·.name)) ((litsOf hQ).map (·.1)) ((clssOf hQ (FW hQ [])).map (·.name)))&&((s.abs.heap.accountedOkI (fQ PySem.Challenge.pw_coinroll_k12_books_written.main.body))&&((s.abs.heap.isNs az&&s.abs.heap.isNs s_&&tablesOk hQ s.abs.heap&&bQ s.abs&&(if true=true then s.abs.gens.size==0 else !leftWithCleanup s.abs.gens))))
def L9 (_:aP)(_:fE):=some (true)
theorem XH:Ll=Ll:=rfl
theorem Tp:L9=L9:=rfl
def pL (w:aP)(os:fE):=(hX w os).map λs=>(tabsOk hQ s.abs,pinSeenD hQ (drecsOf hQ) s.abs,plainSeenD hQ [] s.abs,clsSeenW hQ [] s.abs)
def Pj (_:aP)(_:fE):=some ((true,pinGoodD (drecsOf hQ),plainGoodD hQ [],clsGoodW hQ []))
theorem Xd:pL=pL:=rfl
theorem xY:Pj=Pj:=rfl
def mD (w:aP)(os:fE):=(hX w os).map λs=>((IT hQ (FW hQ [])).take 10).map λc=>s.abs.heap.plainShapeAt c.withCmp
def PX (_:aP)(_:fE):=some (((IT hQ (FW hQ [])).take 10).map λc=>some c.withCmp.plainShape)
theorem XO:mD=mD:=rfl
theorem gB:PX=PX:=rfl
def lN (w:aP)(os:fE):=(hX w os).map λs=>((IT hQ (FW hQ [])).drop 10).map λc=>s.abs.heap.plainShapeAt c.withCmp
def lr (_:aP)(_:fE):=some (((IT hQ (FW hQ [])).drop 10).map λc=>some c.withCmp.plainShape)
theorem gC:lN=lN:=rfl
theorem X3:lr=lr:=rfl
def XA (w:aP)(os:fE):=(hX w os).map λs=>(wdefsOf hQ).map λd=>shapeAtK s.abs.heap d.1.name
def Xk (_:aP)(_:fE):=some ((wdefsOf hQ).map λd=>some d.1.shape)
theorem Wl:XA=XA:=rfl
theorem xj:Xk=Xk:=rfl
def xH (w:aP)(os:fE):=(hX w os).map λs=>((wdefsOf hQ).all λd=>s.abs.heap.restOk (hQ.nameAt false d.1.name) d.1.name&&dfltAt s.abs.heap d)&&(wlitsOf hQ).all (constAt s.abs.heap)
def Xo (_:aP)(_:fE):=some (true)
theorem xn:xH=xH:=rfl
theorem rh:Xo=Xo:=rfl
def X0 (w:aP)(os:fE):=(hX w os).map λs=>((hFs.drop 0).take 80).map (λx=>jE (vE oQ s) (iI (vE oQ s) az x.1))
def X2 (_:aP)(_:fE):=some (((hFs.drop 0).take 80).map (λx=>jG x.1 x.1 (top x.2)))
theorem Wk:X0=X0:=rfl
theorem Wa:X2=X2:=rfl
def gc (w:aP)(os:fE):=(hX w os).map λs=>hMs.map (λx=>jE (vE oQ s) (aM (vE oQ s) (.ref x.1) x.2.1))
def xU (_:aP)(_:fE):=some (hMs.map (λx=>jG x.2.1 x.2.2.1 (zX (top x.2.2.2.1) x.2.2.2.2)))
theorem Wx:gc=gc:=rfl
theorem WY:xU=xU:=rfl
def Xe (w:aP)(os:fE):=(hX w os).map λs=>(cX (vE oQ s)).all id
def Xg (_:aP)(_:fE):=some (true)
theorem WH:Xe=Xe:=rfl
theorem rW:Xg=Xg:=rfl
end K12
noncomputable def PySem.W.Fast.tw9223505610635696816:aU:=by
 refine' (?g:(s:aU)->PySem.Challenge.pw_coinroll_k12_books_written=s->aU) _ ?pf
 case g=>exactλs _=>s
 case pf=>
  unfold PySem.Challenge.pw_coinroll_k12_books_written;simp only[PySem.Str.ofString_eq_byList,PySem.Str.ofStringByList,String.reduceToList,dv,↓Char.isValue,Char.reduceToNat,d8];rfl
theorem PySem.W.Fast.te9223505610635696816:PySem.Challenge.pw_coinroll_k12_books_written=PySem.W.Fast.tw9223505610635696816:=by kernel_rfl
lay_quick L2.gq K12.top
name_quick hRunQ0 for K12.PY by K12.XF
name_quick hRunQ2 for K12.lh by K12.gg
name_quick hEndQ2 for K12.lq by K12.Xj
name_quick hRunQ3 for K12.L7 by K12.xT
name_quick hRunQ4 for K12.Ll by K12.XH
name_quick hRunQ7 for K12.pL by K12.Xd
name_quick hEndQ7 for K12.Pj by K12.xY
name_quick hRunQ8 for K12.mD by K12.XO
name_quick hEndQ8 for K12.PX by K12.gB
name_quick hRunQ9 for K12.lN by K12.gC
name_quick hEndQ9 for K12.lr by K12.X3
name_quick hRunQ10 for K12.XA by K12.Wl
name_quick hEndQ10 for K12.Xk by K12.xj
name_quick hRunQ11 for K12.xH by K12.xn
name_quick hRunQ12 for K12.X0 by K12.Wk
name_quick hEndQ12 for K12.X2 by K12.Wa
name_quick hRunQ13 for K12.gc by K12.Wx
name_quick hEndQ13 for K12.xU by K12.WY
name_quick hRunQ14 for K12.Xe by K12.WH
variable {es:Array (Int×ae)}
namespace K12
open PySem PySem.W PySem.Calls PyProof.Rows L2
theorem RE:Fast.hRunQ0=pQ:=by kernel_rfl
theorem Tc:Fast.hRunQ2=Fast.hEndQ2:=by kernel_rfl
theorem Ry:Fast.hRunQ3=Lm:=by kernel_rfl
theorem tH:Fast.hRunQ4=L9:=by kernel_rfl
theorem RO:Fast.hRunQ7=Fast.hEndQ7:=by kernel_rfl
theorem Ti:Fast.hRunQ8=Fast.hEndQ8:=by kernel_rfl
theorem tK:Fast.hRunQ9=Fast.hEndQ9:=by kernel_rfl
theorem NV:Fast.hRunQ10=Fast.hEndQ10:=by kernel_rfl
theorem Mc:Fast.hRunQ11=Xo:=by kernel_rfl
theorem Nb:Fast.hRunQ12=Fast.hEndQ12:=by kernel_rfl
theorem NG:Fast.hRunQ13=Fast.hEndQ13:=by kernel_rfl
theorem Nj:Fast.hRunQ14=Xg:=by kernel_rfl
theorem bc:LeftO PySem.Challenge.pw_coinroll_k12_books_written hQ [] bQ (λs=>RF (j3 oQ s.heap)) (λ_=>lB) 8152:=by
 refine ou (M:=8152) (m:=11) (ann:=some (.ref 6)) (by kernel_rfl) (by kernel_rfl) (λs=>by kernel_rfl) (by kernel_rfl) (λw=>by kernel_rfl) λw os=>?_;obtain⟨s,es,e0⟩:=C8.mp (show(hX w os).map _=some _ from congrFun (congrFun (Fast.hRunQ0_eq.trans RE) w) os);obtain⟨s2,es2,e2⟩:=C8.mp (show(hX w os).map _=some _ from congrFun (congrFun (Fast.hRunQ2_eq.trans (Tc.trans Fast.hEndQ2_eq.symm)) w) os);obtain rfl:s=s2:=ao (es.symm.trans es2);obtain⟨s3,es3,e3⟩:=C8.mp (show(hX w os).map _=some _ from congrFun (congrFun (Fast.hRunQ3_eq.trans Ry) w) os);obtain rfl:s=s3:=ao (es.symm.trans es3);obtain⟨s4,es4,e4⟩:=C8.mp (show(hX w os).map _=some _ from congrFun (congrFun (Fast.hRunQ4_eq.trans tH) w) os);obtain rfl:s=s4:=ao (es.symm.trans es4);obtain⟨s7,es7,e7⟩:=C8.mp (show(hX w os).map _=some _ from congrFun (congrFun (Fast.hRunQ7_eq.trans (RO.trans Fast.hEndQ7_eq.symm)) w) os);obtain rfl:s=s7:=ao (es.symm.trans es7);obtain⟨s8,es8,e8⟩:=C8.mp (show(hX w os).map _=some _ from congrFun (congrFun (Fast.hRunQ8_eq.trans (Ti.trans Fast.hEndQ8_eq.symm)) w) os);obtain rfl:s=s8:=ao (es.symm.trans es8);obtain⟨s9,es9,e9⟩:=C8.mp (show(hX w os).map _=some _ from congrFun (congrFun (Fast.hRunQ9_eq.trans (tK.trans Fast.hEndQ9_eq.symm)) w) os);obtain rfl:s=s9:=ao (es.symm.trans es9);obtain⟨s10,es10,e10⟩:=C8.mp (show(hX w os).map _=some _ from congrFun (congrFun (Fast.hRunQ10_eq.trans (NV.trans Fast.hEndQ10_eq.symm)) w) os);obtain rfl:s=s10:=ao (es.symm.trans es10);obtain⟨s11,es11,e11⟩:=C8.mp (show(hX w os).map _=some _ from congrFun (congrFun (Fast.hRunQ11_eq.trans Mc) w) os);obtain rfl:s=s11:=ao (es.symm.trans es11);obtain⟨s12,es12,e12⟩:=C8.mp (show(hX w os).map _=some _ from congrFun (congrFun (Fast.hRunQ12_eq.trans (Nb.trans Fast.hEndQ12_eq.symm)) w) os);obtain rfl:s=s12:=ao (es.symm.trans es12);obtain⟨s13,es13,e13⟩:=C8.mp (show(hX w os).map _=some _ from congrFun (congrFun (Fast.hRunQ13_eq.trans (NG.trans Fast.hEndQ13_eq.symm)) w) os);obtain rfl:s=s13:=ao (es.symm.trans es13);obtain⟨s14,es14,e14⟩:=C8.mp (show(hX w os).map _=some _ from congrFun (congrFun (Fast.hRunQ14_eq.trans Nj) w) os);obtain rfl:s=s14:=ao (es.symm.trans es14);obtain⟨e0,e1⟩:=Dr.mp e0;obtain⟨e4,e5⟩:=Dr.mp e4;obtain⟨e5,e6⟩:=Dr.mp e5
 have ey:(Mf (j3 oQ s.abs.heap)).all id=true:=by
  rw[kB];show(cX (vE oQ s)).all id=true
  try simp only[Ez,CM]
  exact e14
 have el:bE w s.abs=(true,KP hQ [],lB):=by
  have a1:(HS (fQ PySem.Challenge.pw_coinroll_k12_books_written.main.body) (aJ w.params) s.abs.heap&&FV PySem.Challenge.pw_coinroll_k12_books_written s.abs.heap&&IP s.abs&&IQ (aJ w.params) s.abs.heap)=true:=by
   have e1:=e1;simp only[CM]at e1 ⊢;exact⟨⟨⟨e0,e1.1.1⟩,e1.1.2⟩,e1.2⟩
  have ab:(s.abs.heap.keysOk (FW hQ []) ((recsOf hQ).map (·.name)) ((litsOf hQ).map (·.1)) ((clssOf hQ (FW hQ [])).map (·.name))&&s.abs.heap.accountedOkI (fQ PySem.Challenge.pw_coinroll_k12_books_written.main.body)&&s.abs.heap.isNs az&&s.abs.heap.isNs s_&&tablesOk hQ s.abs.heap&&bQ s.abs&&(if true=true then s.abs.gens.size==0 else !leftWithCleanup s.abs.gens))=true:=by
   have e6:=e6;simp only[CM]at e6 ⊢;obtain⟨⟨⟨⟨g1,g2⟩,g3⟩,g4⟩,g5⟩:=e6;exact⟨⟨⟨⟨⟨⟨e4,e5⟩,g1⟩,g2⟩,g3⟩,g4⟩,g5⟩
  have e8:=congr (K4 HAppend.hAppend e8) e9;rw[<- CN,<- CN,DE]at e8;have a2:KO hQ [] (fQ PySem.Challenge.pw_coinroll_k12_books_written.main.body) bQ true s.abs=KP hQ []:=congr (K4 i9 e2) (congr (K4 i9 e3) (congr (K4 i9 ab) (congr (K4 i9 (K4 AH e7)) (congr (K4 i9 (K4 (λz=>z.2.1) e7)) (congr (K4 i9 e8) (congr (K4 i9 (K4 (λz=>z.2.2.1) e7)) (congr (K4 i9 (congr (K4 i9 e10) e11)) (K4 (λz=>z.2.2.2) e7))))))));have e12:((hFs.drop 0).take 80).map (λx=>jE (j3 oQ s.abs.heap) (iI (j3 oQ s.abs.heap) az x.1))=((hFs.drop 0).take 80).map (λx=>jG x.1 x.1 (top x.2)):=by rw[kB];exact e12
  have e13:hMs.map (λx=>jE (j3 oQ s.abs.heap) (aM (j3 oQ s.abs.heap) (.ref x.1) x.2.1))=hMs.map (λx=>jG x.2.1 x.2.2.1 (zX (top x.2.2.2.1) x.2.2.2.2)):=by rw[kB];exact e13
  have ef:=e12
  try simp only[<- CN]at ef
  rw[show(hFs.drop 0).take 80=hFs by kernel_rfl]at ef;exact congr (K4 i9 a1) (congr (K4 i9 a2) (congr (K4 i9 ef) (congr (K4 i9 e13) ey)))
 unfold PC;obtain⟨t,ht,hs⟩:=EV.mp es;rw[ht];show(gq _ _ w _ _ _ _ _).map _=_;rw[hs];exact K4 some el
end K12
variable {env:Fu}{prog P:aU}{u cls cd fl pm:ae}{ws:List af}{κ:Type}{ps:List (Int×Int)}{dx I it T ea:ag}{lo:Int}{h' base:fi}{vs:Array ae}{ep:Nat}{mA:af->Option ae}{A:iG}{outer:List Fu}{pn pins:List (ag×g_)}{ns:List Int}{ch fp:List ag}{E Q:ae->ar->Prop}{op:PySem.CmpOp}{R_ M_:fW}{tg iter value:aQ}{R:Kw->ar->Prop}{kw:List (af×ae)}{cl:List (af×ag)}
namespace L2
open PySem PySem.Spec PyProof.Rows
def O0:aQ->Bool
 |.Starred _ _=>true
 |_=>false
theorem zW {es:List aQ}(h:O0 e=false):ax (e::es) env=(false,eval e env)::ax es env:=by
 cases e<;>first |rfl |cases h
theorem yF {pos:fW}:∀{es:List aQ},es.all (λe=>!O0 e)=true->(ff pos (ax es env)).any (·.1)=false
 |[],_=>rfl
 |e::es,h=>by
  rw[Dx,CM,Ds]at h;rw[zW h.1];show(false || (ff pos (ax es env)).any (·.1))=false;rw[dS];exact yF h.2
abbrev yY:=Sum Int af
def Vm:yY->ae->Bool
 |.inl k,v=>Value.isInt k v
 |.inr x,v=>Kx x v
def cy (w:aP):yY->Int
 |.inl k=>hashInt k
 |.inr x=>hashStr w x
theorem yt:∀{k:yY} {v:ae},Vm k v=true->(∃i t,k=a_ i/\v=iC i t)∨(∃x t,k=AV x/\v=AI x t)
 |.inl i,v,h=>by
  obtain⟨t,e⟩:=Hx (k:=i) (v:=v) h;exact .inl ⟨i,t,U,e⟩
 |.inr x,v,h=>by
  obtain⟨t,e⟩:=FG (x:=x) (v:=v) h;exact .inr ⟨x,t,U,e⟩
theorem Os (i:Int)(t:KS):Vm (.inl i) (.int i t)=true:=by simp[Vm,Value.isInt]
theorem G8 (x:af)(t:KS):Vm (.inr x) (.str x t)=true:=by simp[Vm,Kx]
theorem tG (a b:Int):decide ((a_ a:yY)=a_ b)=(a==b):=by
 by_cases e:a=b
 ·subst e;simp
 ·have h:¬(a_ a:yY)=a_ b:=λq=>e (Sum.inl.inj q);rw[D' h];exact(beq_eq_false_iff_ne.mpr e).symm
theorem To (a b:af):decide ((AV a:yY)=AV b)=decide (a=b):=by
 by_cases e:a=b
 ·subst e;simp
 ·have h:¬(AV a:yY)=AV b:=λq=>e (l_ q);rw[D' h,D' e]
theorem TK (a:Int)(b:af):decide ((a_ a:yY)=AV b)=false:=D' (λq=>nomatch q)
theorem TB (a:af)(b:Int):decide ((AV a:yY)=a_ b)=false:=D' (λq=>nomatch q)
def q9 (prog:aU)(w:aP):PySem.KeyKind prog w yY where
 is:=Vm
 hash:=cy w
 inj:=λv a b ha hb=>by
  rcases yt ha with⟨i,t,rfl,rfl⟩ |⟨x,t,rfl,rfl⟩
  ·rcases yt hb with⟨j,u,rfl,e⟩ |⟨y,u,rfl,e⟩
   ·injection e with e1 _;rw[e1]
   ·exact nomatch e
  ·rcases yt hb with⟨j,u,rfl,e⟩ |⟨y,u,rfl,e⟩
   ·exact nomatch e
   ·injection e with e1 _;rw[e1]
 byValue:=λk v h=>by
  rcases yt h with⟨i,t,rfl,rfl⟩ |⟨x,t,rfl,rfl⟩<;>rfl
 pyHash:=λhv h=>by
  rcases yt hv with⟨i,t,rfl,rfl⟩ |⟨x,t,rfl,rfl⟩
  ·exact wpAny_pyHash_int h
  ·exact wpAny_pyHash_str h
 eqBool:=λhu hv h=>by
  rcases yt hu with⟨i,t,rfl,rfl⟩ |⟨x,t,rfl,rfl⟩
  ·rcases yt hv with⟨j,u,rfl,rfl⟩ |⟨y,u,rfl,rfl⟩
   ·rw[tG]at h;exact wpAny_eqBool_int h
   ·rw[TK]at h;exact F0 i t y u _ _ _ _ h
  ·rcases yt hv with⟨j,u,rfl,rfl⟩ |⟨y,u,rfl,rfl⟩
   ·rw[TB]at h;exact F9 x t j u _ _ _ _ h
   ·rw[To]at h;exact wpAny_eqBool_str h
 «strs»:=λk x t v h=>by
  rcases yt h with⟨i,u,rfl,e⟩ |⟨y,u,rfl,e⟩
  ·exact nomatch e
  ·injection e with e1 _;subst e1
   cases v<;>rfl
theorem xu (prog:aU)(w:aP)(i:Int)(t:KS):(q9 prog w).is (.inl i) (.int i t)=true:=Os i t
theorem Wj (prog:aU)(w:aP)(x:af)(t:KS):(q9 prog w).is (.inr x) (.str x t)=true:=G8 x t
inductive V where
 |non |bl (b:Bool) |int (i:Int) |str (x:af) |byt (b:Array UInt8) |flt (b:UInt64) |ref (a:ag) |ty (n:String)
 deriving DecidableEq
def qy:V->ae->Prop
 |.non,u=>u=aN
 |.bl b,u=>u=fO b
 |.int i,u=>∃t,u=iC i t
 |.str x,u=>∃t,u=AI x t
 |.byt b,u=>∃t,u=Value.bytes b t
 |.flt b,u=>∃t,u=Iw b t
 |.ref a,u=>u=aF a
 |.ty n,u=>u=fU n
abbrev qp:List V->List ae->Prop:=B_ qy
variable {xs:List L2.V}
theorem qp.length {us:List ae}(r:qp xs us):xs.length=us.length:=iz r
theorem qp.get:∀{xs:List V} {us:List ae} {i:Nat} {x:V},qp xs us->xs[i]?=some x->∃u,us[i]?=some u/\qy x u
 |_,_,_,_,.nil,e=>by simp at e
 |_,_,0,_,.cons r _,e=>by simp at e;subst e;exact⟨_,U,r⟩
 |_,_,i+1,x,.cons _ t,e=>by
  obtain⟨u,h1,h2⟩:=qp.get (i:=i) (x:=x) t (by simpa using e);exact⟨u,by simpa using h1,h2⟩
variable {ys:List L2.V}
theorem qp.append:∀{xs ys:List V} {us ws:List ae},qp xs us->qp ys ws->qp (xs++ys) (us++ws)
 |_,_,_,_,.nil,s=>s
 |_,_,_,_,.cons r t,s=>.cons r (qp.append t s)
theorem qp.take:∀{xs:List V} {us:List ae} (n:Nat),qp xs us->qp (xs.take n) (us.take n)
 |_,_,0,_=>.nil
 |_,_,_+1,.nil=>.nil
 |_,_,n+1,.cons r t=>.cons r (qp.take n t)
theorem qp.drop:∀{xs:List V} {us:List ae} (n:Nat),qp xs us->qp (xs.drop n) (us.drop n)
 |_,_,0,r=>r
 |_,_,_+1,.nil=>.nil
 |_,_,n+1,.cons _ t=>qp.drop n t
variable {v:L2.V}
def wU:Option V->Option ae->Prop
 |some v,some u=>qy v u
 |none,none=>True
 |_,_=>False
def KV:List (κ×V)->List (κ×ae)->Prop:=B_ λ(p:κ×V) (q:κ×ae)=>p.1=q.1/\qy p.2 q.2
def kV:yY->V
 |.inl i=>.int i
 |.inr x=>.str x
variable {kvs:List (L2.yY×L2.V)}
inductive HO where
 |lst (xs:List V)
 |tup (xs:List V)
 |dK (kvs:List (yY×V)) |dT (kvs:List (List yY×V))
 |set (S:Int->Bool) (n:Nat)
 |ins (C dx:ag) (fs:List (af×V))
 |own (x:ag)
 |xd (fs:List (af×V))
 |met (f x:ag)
 |rng (lo hi:Int)
 |frz (o:g_) (u:HO)
 |tbl (ps:Array ae)
 |ext (φ:fi->Prop)
abbrev Hp:=ag->Option HO
variable {H:L2.Hp}
def upd (H:Hp)(a:ag)(o:HO):Hp:=λb=>if b=a then some o else H b
theorem zi {o:HO}:upd H a o a=some o:=by unfold upd;rw[K6 rfl]
theorem zm {b:ag}{o:HO}(h:b≠a):upd H a o b=H b:=by unfold upd;rw[K5 h]
theorem GP {o u:HO}:upd (upd H a o) a u=upd H a u:=by
 funext b;unfold upd;split<;>rfl
theorem yy {b:ag}{o u:HO}(h:H a=some o)(h':H b=some u)(d:o≠u):a≠b:=by
 intro e;subst e;rw[h]at h';exact d (ao h')
theorem zC {b:ag}{o:HO}(h:H a=some o)(h':H b=none):a≠b:=by
 intro e;subst e;rw[h]at h';cases h'
section
variable (P:aU)(w:aP)
def yC (H:Hp)(h:fi)(a:ag):HO->Prop
 |.lst xs=>xs.length<=au/\∃(K8:List ae) (n:Nat),qp xs K8/\h.get? a=some {cls:=.type "list",data:=.seq K8.toArray n}
 |.tup xs=>xs.length<=au/\∃K8:List ae,qp xs K8/\IsTup h a K8.toArray
 |.dK kvs=>kvs.length<=au/\(a==iw)=false/\∃vs,KV kvs vs/\h.DictOf (q9 P w) a vs
 |.dT kvs=>kvs.length<=au/\(a==iw)=false/\∃xs:List (List yY×ag×ae),
   B_ (λ(p:List yY×V) (q:List yY×ag×ae)=>p.1=q.1/\H q.2.1=some (.tup (p.1.map kV))/\qy p.2 q.2.2) kvs xs /\
   ∃o es ep,h.get? a=some o/\o.ExactDict/\o.data=.dict es ep/\es.toList=xs.map (entryOfKey (Ax (q9 P w)))/\(xs.map (·.1)).Nodup
 |.set S n=>h.SetOf (KH P w) a S n
 |.ins C dx fs=>H dx=some (.own a)/\fs.length<=1000/\dx≠a/\h.get? a=some (f6 C dx) /\
   ∃mA,h.Ns1 dx mA/\(∀f,wU (fs.lookup f) (mA f))/\Hy mA (fs.map (·.1))
 |.own _=>∃o,h.get? a=some o
 |.xd fs=>∃mA,h.Ns1 a mA/\∀f,wU (fs.lookup f) (mA f)
 |.rng lo hi=>∃t u v,h.get? a=some {cls:=.type "range",data:=.fields #[.int lo t,.int hi u,.int 1 v]}
 |.frz o u=>h.get? a=some o/\yC H h a u
 |.tbl ps=>h.get? a=some {cls:=.none,data:=.fields ps}
 |.met f x=>h.get? a=some (Aj (.ref f) (.ref x))
 |.ext φ=>φ h/\(∃o,h.get? a=some o)/\∀h1 h2:fi,φ h1->(∀o,h1.get? a=some o->h2.get? a=some o)->φ h2
def ZD (H:Hp)(h:fi):Prop:=∀a o,H a=some o->yC P w H h a o
end
variable {y:L2.V}{H':L2.Hp}
section
variable {o:HO}
theorem yC.lt (x:yC P w H h a o):a<h.objs.size:=by
 cases o with
 |lst xs=>obtain⟨_,_,_,_,e⟩:=x;exact C5 e
 |tup xs=>obtain⟨_,_,_,p⟩:=x;exact p.lt
 |dK kvs=>obtain⟨_,_,_,_,o,_,_,e,_⟩:=x;exact C5 e
 |dT kvs=>obtain⟨_,_,_,_,o,_,_,e,_⟩:=x;exact C5 e
 |set S n=>obtain⟨o,_,_,_,e,_⟩:=x;exact C5 e
 |ins C dx fs=>obtain⟨_,_,_,e,_⟩:=x;exact C5 e
 |own y=>obtain⟨_,e⟩:=x;exact C5 e
 |xd fs=>obtain⟨_,⟨_,_,_,e,_⟩,_⟩:=x;exact C5 e
 |rng lo hi=>obtain⟨_,_,_,e⟩:=x;exact C5 e
 |frz ob u=>obtain⟨e,_⟩:=x;exact C5 e
 |tbl ps=>exact C5 (show h.get? a=some _ from x)
 |met f y=>exact C5 (show h.get? a=some _ from x)
 |ext φ=>obtain⟨_,⟨_,e⟩,_⟩:=x;exact C5 e
theorem Paired.mapP {F G:α->β->Prop}:∀{l₁:List α} {l₂:List β},B_ F l₁ l₂->(∀a b,F a b->G a b)->B_ G l₁ l₂
 |_,_,.nil,_=>.nil
 |_,_,.cons r t,f=>.cons (f _ _ r) (Paired.mapP t f)
theorem yC.stay (x:yC P w H h a o)(k:∀b u,(b=a∨H b=some (.own a))->h.get? b=some u->h'.get? b=some u)(ho:∀b,H b=some (.own a)->H' b=some (.own a))(ht:∀b xs,H b=some (.tup xs)->H' b=some (.tup xs)):yC P w H' h' a o:=by
 induction o with
 |lst xs=>obtain⟨z,K8,n,r,e⟩:=x;exact⟨z,K8,n,r,k _ _ (.inl U) e⟩
 |tup xs=>obtain⟨z,K8,r,ob,e,c⟩:=x;exact⟨z,K8,r,ob,k _ _ (.inl U) e,c⟩
 |dK kvs=>obtain⟨z,y,vs,r,ob,es,ep,e,c⟩:=x;exact⟨z,y,vs,r,ob,es,ep,k _ _ (.inl U) e,c⟩
 |dT kvs=>
  obtain⟨z,y,xs,r,ob,es,ep,e,c⟩:=x;exact⟨z,y,xs,Paired.mapP r λp q z=>⟨z.1,ht _ _ z.2.1,z.2.2⟩,ob,es,ep,k _ _ (.inl U) e,c⟩
 |set S n=>obtain⟨ob,es,ep,t,e,c⟩:=x;exact⟨ob,es,ep,t,k _ _ (.inl U) e,c⟩
 |ins C dx fs=>
  obtain⟨d,z,ne,e,mA,⟨od,es,ep,e2,c⟩,r⟩:=x;exact⟨ho _ d,z,ne,k _ _ (.inl U) e,mA,⟨od,es,ep,k _ _ (.inr d) e2,c⟩,r⟩
 |own y=>obtain⟨ob,e⟩:=x;exact⟨ob,k _ _ (.inl U) e⟩
 |xd fs=>obtain⟨mA,⟨od,es,ep,e,c⟩,r⟩:=x;exact⟨mA,⟨od,es,ep,k _ _ (.inl U) e,c⟩,r⟩
 |rng lo hi=>obtain⟨t,u,v,e⟩:=x;exact⟨t,u,v,k _ _ (.inl U) e⟩
 |frz ob u ih=>obtain⟨e,q⟩:=x;exact⟨k _ _ (.inl U) e,ih q⟩
 |tbl ps=>
  have e:h.get? a=some {cls:=.none,data:=.fields ps}:=x;show h'.get? a=some {cls:=.none,data:=.fields ps};exact k a _ (.inl U) e
 |met f y=>
  have e:h.get? a=some (Aj (.ref f) (.ref y)):=x;show h'.get? a=some (Aj (.ref f) (.ref y));exact k a _ (.inl U) e
 |ext φ=>obtain⟨p,⟨o,e⟩,st⟩:=x;exact⟨st _ _ p λo q=>k _ _ (.inl U) q,⟨o,k _ _ (.inl U) e⟩,st⟩
theorem ZD.lt (x:ZD P w H h)(e:H a=some o):a<h.objs.size:=(x a o e).lt
theorem ZD.fresh (x:ZD P w H h)(e:h.objs.size<=a):H a=none:=by
 cases q:H a with
 |none=>rfl
 |some u=>exact K7 (dM (x.lt q) e) (eI _)
theorem ZD.kept (x:ZD P w H h)(k:∀b u,h.get? b=some u->h'.get? b=some u):ZD P w H h':=λa o e=>
 (x a o e).stay (λb u _ q=>k b u q) (λ_ q=>q) λ_ _ q=>q
theorem ZD.laid (x:ZD P w H h)(k:∀b u,h.get? b=some u->h'.get? b=some u)(hp:h.objs.size<=a)(new:yC P w (upd H a o) h' a o):ZD P w (upd H a o) h':=λb u e=>by
 have hn:=x.fresh hp
 by_cases hb:b=a
 ·subst hb;rw[zi]at e;cases e;exact new
 ·rw[zm hb]at e;exact(x b u e).stay (λc v _ q=>k c v q) (λc q=>by rw[zm (zC q hn)];exact q) λc xs q=>by rw[zm (zC q hn)];exact q
end
def Rd (H:Hp)(a:ag)(u:HO):Prop:=H a=some u∨∃o,H a=some (.frz o u)
theorem Rd.ok {u:HO}(r:Rd H a u)(x:ZD P w H h):yC P w H h a u:=by
 rcases r with r |⟨o,r⟩
 ·exact x a u r
 ·obtain⟨_,q⟩:=x a _ r;exact q
def bh:Option HO->Prop
 |some (.lst _)=>True
 |some (.dK _)=>True
 |some (.dT _)=>True
 |some (.set _ _)=>True
 |some (.ins _ _ _)=>True
 |some (.ext _)=>True
 |_=>False
section
variable {x e:ag}{o':HO}
theorem ZD.write (ok:ZD P w H h)(mu:bh (H x))(he:e=x∨H e=some (.own x))(k:∀b u,b≠e->h.get? b=some u->h'.get? b=some u)(heo:∃u,h'.get? e=some u)(new:yC P w (upd H x o') h' x o'):ZD P w (upd H x o') h':=λb u q=>by
 have nown:∀c y,H c=some (.own y)->c≠x:=λc y r z=>by subst z;rw[r]at mu;exact mu
 have ntup:∀c xs,H c=some (.tup xs)->c≠x:=λc xs r z=>by subst z;rw[r]at mu;exact mu
 by_cases hb:b=x
 ·subst hb;rw[zi]at q;cases q;exact new
 ·rw[zm hb]at q
  by_cases hbe:b=e
  ·have q':H b=some (.own x):=by
    rcases he with z |z
    ·exact K7 (hbe.trans z) hb
    ·rw[hbe];exact z
   rw[q]at q';cases q';obtain⟨v,hv⟩:=heo;exact⟨v,by rw[hbe];exact hv⟩
  ·refine(ok b u q).stay (λc v hc r=>k c v ?_ r) (λc r=>by rw[zm (nown c b r)];exact r) λc xs r=>by rw[zm (ntup c xs r)];exact r
   rcases hc with rfl |hc
   ·exact hbe
   ·rintro rfl;rcases he with z |z
    ·exact nown c b hc z
    ·rw[hc]at z;cases z;exact hb rfl
end
structure Un (fs ex:List ag)(H H':Hp)(h h':fi):Prop where
 keep:∀b o,h.get? b=some o->H b=none->b∉fs->b∉ex->h'.get? b=some o
 slot:∀b o,h.get? b=some o->H b=none->b∈fs->b∉ex->∃sl,h'.get? b=some {o with slots:=sl}
 free:∀b o,h.get? b=some o->H b=none->b∉ex->H' b=none
 there:∀b o,h.get? b=some o->b∉ex->∃o',h'.get? b=some o'
 tups:∀b xs,H b=some (.tup xs)->H' b=some (.tup xs)
 frzs:∀b o u,H b=some (.frz o u)->H' b=some (.frz o u)
 tbls:∀b ps,H b=some (.tbl ps)->∃more,H' b=some (.tbl (ps++more))
variable {H1:L2.Hp}
section
variable {fs fs' ex ex':List ag}{h1 h2:fi}{x e:ag}{o:HO}
theorem Un.any (u:Un fs ex H H1 h h1){b:ag}{ob:g_}(q:h.get? b=some ob)(n:H b=none)(hx:b∉ex):∃sl,h1.get? b=some {ob with slots:=sl}:=by
 by_cases hb:b∈fs
 ·exact u.slot b ob q n hb hx
 ·exact⟨ob.slots,u.keep b ob q n hb hx⟩
theorem Un.kept (k:∀b u,h.get? b=some u->h'.get? b=some u):Un fs ex H H h h' :=
 ⟨λb ob q _ _ _=>k b ob q,λb ob q _ _ _=>⟨ob.slots,k b ob q⟩,λ_ _ _ n _=>n,λb ob q _=>⟨ob,k b ob q⟩,λ_ _ q=>q,λ_ _ _ q=>q,λ_ ps q=>⟨#[],by rw[q];simp⟩⟩
theorem Un.refl:Un fs ex H H h h:=Un.kept λ_ _ q=>q
theorem Un.laid (k:∀b u,h.get? b=some u->h'.get? b=some u)(hp:h.objs.size<=a)(hn:H a=none):Un fs ex H (upd H a o) h h' where
 keep:=λb u q _ _ _=>k b u q
 slot:=λb u q _ _ _=>⟨u.slots,k b u q⟩
 free:=λb u q n _=>by rw[zm (de (dM (C5 q) hp))];exact n
 there:=λb u q _=>⟨u,k b u q⟩
 tups:=λb xs q=>by rw[zm (zC q hn)];exact q
 frzs:=λb u xs q=>by rw[zm (zC q hn)];exact q
 tbls:=λb ps q=>⟨#[],by rw[zm (zC q hn),q];simp⟩
theorem Un.write (mu:bh (H x))(he:e=x∨H e=some (.own x))(k:∀b u,b≠e->h.get? b=some u->h'.get? b=some u)(heo:∃u,h'.get? e=some u):Un fs ex H (upd H x o) h h':=by
 have hx:∀b,H b=none->b≠x:=λb n z=>by subst z;rw[n]at mu;exact mu
 have hb:∀b,H b=none->b≠e:=λb n z=>by
  subst z;rcases he with r |r
  ·exact hx b n r
  ·rw[n]at r;cases r
 have hm:∀b u,H b=some u->¬bh (some u)->b≠x:=λb u q nm z=>by subst z;rw[q]at mu;exact nm mu
 refine⟨λb u q n _ _=>k b u (hb b n) q,λb u q n _ _=>⟨u.slots,k b u (hb b n) q⟩,λb u q n _=>by rw[zm (hx b n)];exact n,λb u q _=>?_,
  λb xs q=>by rw[zm (hm b _ q λz=>z)];exact q,λb u xs q=>by rw[zm (hm b _ q λz=>z)];exact q,λb ps q=>⟨#[],by rw[zm (hm b _ q λz=>z),q];simp⟩⟩
 by_cases hbe:b=e
 ·subst hbe;exact heo
 ·exact⟨u,k b u hbe q⟩
end
def BE (h:fi)(H:Hp):List ag:=(aY h.objs.size).filter λa=>(H a).isSome
def UM (h:fi)(H:Hp):fi:=PySem.W.hideAll h (BE h H)
theorem oJ (h:fi)(H:Hp):(UM h H).objs.size=h.objs.size:=PySem.W.hideAll_size _ _
theorem lu {b:ag}(e:h.get? b=some o)(n:H b=none):(UM h H).get? b=some o :=
 PySem.W.hideAll_get _ e λhm=>by
  have q:(H b).isSome=true:=(eJ.mp hm).2;rw[n]at q;simp at q
theorem Ma {b:ag}(e:(UM h H).get? b=some o):h.get? b=some o/\H b=none:=by
 have e':h.get? b=some o:=PySem.W.of_hideAll (BE h H) e;refine⟨e',?_⟩
 cases q:H b with
 |none=>rfl
 |some x=>
  have hm:b∈BE h H:=eJ.mpr ⟨eX.mpr (C5 e'),by simp[q]⟩;have z:(UM h H).get? b=none:=PySem.W.hideAll_none (BE h H) hm;rw[z]at e;cases e
def Mh (g h:fi)(L:ag):List (ag×g_):=(aY h.objs.size).filterMap λa=>if a=L∨(g.get? a).isSome=true then none else (h.get? a).map λo=>(a,o)
def rest (g h:fi)(L d:ag):List (ag×g_):=(Mh g h L).filter λp=>decide (p.1≠d)
structure Mod (K:BFr)(mg:af->Option ae)(base:fi):Prop where
 kin:K.In base
 glob:base.Ns az mg
 blt:∃mb,base.Ns s_ mb/\∀x:af,x≠"__name__"->mb x=fz x
 nolimit:base.NoLimit
structure Cx where
 prog:aU
 w:aP
 K:BFr
 mg:af->Option ae
 base:fi
 A:iG
 N:List af
 s₀:ar
 H₀:Hp
 env:Fu
 outer:List Fu
 stack:List Fu
 ex:List ag
 fn:af->Bool
 calm:Bool
 pn:List (ag×g_)
 xe:ae->ar->Prop
def oY (l:List Fu):List ag:=l.filterMap (·.frame)
variable {X:L2.Cx}
abbrev Cx.fs (X:Cx):List ag:=oY X.outer
def cP (sc:sZ)(x:af):Prop:=sc.names.lookup x=some .local∨sc.names.lookup x=some .cell∨sc.names.lookup x=some .free
def BP (sc:sZ)(x:af):Prop:=sc.names.lookup x=some .local∨sc.names.lookup x=some .cell
def B9 (env:Fu)(h:fi)(m:af->Option ae)(x:af)(u:ae):Prop :=
 (env.kindOf x=some .local/\m x=some u)∨((env.kindOf x=some .cell∨env.kindOf x=some .free)/\∃c,env.cells.lookup x=some c/\h.IsCell c (some u))
structure Cx.Ok (X:Cx):Prop where
 mod:Mod X.K X.mg X.base
 kind:X.env.scope.kind=.function
 glob:X.env.globals=az
 blt:X.env.builtins=s_
 above:X.s₀.heap.objs.size<=X.env.locals
 inj:∀x y c,X.env.cells.lookup x=some c->X.env.cells.lookup y=some c->x=y
 has:∀x,(X.env.kindOf x=some .cell∨X.env.kindOf x=some .free)->∃c,X.env.cells.lookup x=some c
 cab:∀x c,X.fn x=true->X.env.cells.lookup x=some c->X.s₀.heap.objs.size<=c
 hd:X.calm=true->X.A.handled=none
 frames:X.A.frames=some X.stack
 stk:X.stack=X.outer∨(X.stack=X.env::X.outer/\X.env.frame=some X.env.locals)
 exf:∀b∈X.ex,b≠X.env.locals/\∀x c,X.env.cells.lookup x=some c->c≠b
 bs:∀b o,X.base.get? b=some o->X.s₀.heap.get? b=some o/\X.H₀ b=none
 bsz:X.base.objs.size<=X.s₀.heap.objs.size
 noex:∀b o,X.base.get? b=some o->b∉X.ex
 exfs:∀b∈X.ex,b∉X.fs
 funs:X.s₀.heap.FunFrames X.base X.outer
 frf:∀b∈X.fs,X.H₀ b=none
structure zH (X:Cx)(pins:List (ag×g_))(σ:List (Option V))(H:Hp)(s:ar):Prop where
 ok:X.Ok
 os:s.os=X.s₀.os
 bare:sR s.gens
 base:Un X.fs X.ex X.H₀ H X.s₀.heap s.heap
 loc:∃m,s.heap.Ns X.env.locals m/\∀(i:Nat) (x:af) (v:V),X.N[i]?=some x->σ[i]?=some (some v)->cP X.env.scope x->∃u,qy v u/\B9 X.env s.heap m x u
 cell:∀x c,X.env.cells.lookup x=some c->∃v,s.heap.IsCell c v
 free:H X.env.locals=none
 freeC:∀x c,X.env.cells.lookup x=some c->H c=none
 pin:∀p∈X.pn++pins,s.heap.get? p.1=some p.2/\H p.1=none/\p.1≠X.env.locals/\p.1∉X.fs/\∀v,p.2.data≠.cell v
 hok:ZD X.prog X.w H s.heap
 len:σ.length=X.N.length
section
variable {σ:List (Option V)}
theorem Cx.Ok.nofr (ok:X.Ok){b:ag}(e:X.base.get? b=some o):b∉X.fs:=λhb=>by
 have:=(ok.funs.mem hb).1;rw[e]at this;cases this
theorem zH.bs (I:zH X pins σ H s):∀b o,X.base.get? b=some o->s.heap.get? b=some o/\H b=none:=λb o e=>
 ⟨I.base.keep b o (I.ok.bs b o e).1 (I.ok.bs b o e).2 (I.ok.nofr e) (I.ok.noex b o e),I.base.free b o (I.ok.bs b o e).1 (I.ok.bs b o e).2 (I.ok.noex b o e)⟩
theorem zH.bk (I:zH X pins σ H s):∀b o,X.base.get? b=some o->s.heap.get? b=some o:=λb o e=>(I.bs b o e).1
theorem zH.mod (I:zH X pins σ H s):Mod X.K X.mg X.base:=I.ok.mod
theorem zH.kIn (I:zH X pins σ H s):X.K.In s.heap:=I.ok.mod.kin.keeps I.bk
theorem zH.lt (I:zH X pins σ H s):X.env.locals<s.heap.objs.size:=let ⟨_,hn,_⟩:=I.loc;hn.lt
theorem zH.sz (I:zH X pins σ H s):X.s₀.heap.objs.size<=s.heap.objs.size:=CW I.ok.above (eK I.lt)
theorem zH.nofs (I:zH X pins σ H s)(h:s.heap.objs.size<=a):a∉X.fs:=λhb=>by
 obtain⟨_,o,ho,_⟩:=I.ok.funs.mem hb;exact K7 (dM (C5 ho) (CW I.sz h)) (eI _)
theorem zH.cne (I:zH X pins σ H s):∀x c,X.env.cells.lookup x=some c->c≠X.env.locals:=λx c e z=>by
 obtain⟨v,o,ho,hd⟩:=I.cell x c e;obtain⟨m,⟨o',es,ep,SM,T_,_⟩,_⟩:=I.loc;rw[z,SM]at ho;cases ho;rw[T_]at hd;cases hd
theorem zH.funs (I:zH X pins σ H s):s.heap.FunFrames X.base X.outer:=by
 have all:∀(l:List Fu),(∀b∈oY l,b∈X.fs)->X.s₀.heap.FunFrames X.base l->s.heap.FunFrames X.base l:=by
  intro l
  induction l with
  |nil=>intro _ _;trivial
  |cons env r ih=>
   intro hs hl;obtain⟨hk,⟨L,o,hf,hn,ho,hd⟩,hr⟩:=hl;have hL:L∈X.fs:=hs L (by unfold oY;rw[eL,hf];exact CU);obtain⟨sl,e⟩:=I.base.slot L o ho (I.ok.frf L hL) hL λz=>I.ok.exfs L z hL;exact⟨hk,⟨L,_,hf,hn,e,hd⟩,ih (λb hb=>hs b (by unfold oY;rw[eL,hf];exact C6 _ hb)) hr⟩
 exact all X.outer (λ_ hb=>hb) I.ok.funs
theorem zH.stack (I:zH X pins σ H s):s.heap.FunFrames X.base X.stack:=by
 rcases I.ok.stk with e |⟨e,hf⟩
 ·rw[e];exact I.funs
 ·rw[e];obtain⟨m,hn,_⟩:=I.loc;refine .cons (by rw[I.ok.kind];decide) hf hn ?_ I.funs;exact DW (CW I.ok.bsz I.ok.above)
theorem zH.stkSub (I:zH X pins σ H s):∀b∈oY X.stack,b∈X.env.locals::X.fs:=λb hb=>by
 rcases I.ok.stk with e |⟨e,hf⟩
 ·rw[e]at hb;exact C6 _ hb
 ·rw[e]at hb;unfold oY at hb;rw[eL,hf]at hb;exact hb
theorem zH.stkFree (I:zH X pins σ H s):∀b∈oY X.stack,H b=none:=λb hb=>by
 rcases CJ.mp (I.stkSub b hb) with e |hb
 ·rw[e];exact I.free
 ·obtain⟨_,o,ho,_⟩:=I.ok.funs.mem hb;exact I.base.free b o ho (I.ok.frf b hb) λz=>I.ok.exfs b z hb
theorem zH.step {g':Array IS}{d':Drawn}(I:zH X pins σ H s)(S_:∀b∈ch,(b∈X.ex∨X.s₀.heap.get? b=none)/\b≠X.env.locals/\(∀x c,X.env.cells.lookup x=some c->c≠b)/\∀p∈X.pn++pins,p.1≠b)(keep:∀b o,b≠X.env.locals->b∉X.fs->b∉ch->s.heap.get? b=some o->H b=none->h'.get? b=some o)(slot:∀b o,b≠X.env.locals->b∈X.fs->b∉ch->s.heap.get? b=some o->H b=none->∃sl,h'.get? b=some {o with slots:=sl})(free:∀b o,b∉ch->s.heap.get? b=some o->H b=none->H' b=none)(there:∀b o,b∉ch->s.heap.get? b=some o->∃o',h'.get? b=some o')(tups:∀b xs,H b=some (.tup xs)->H' b=some (.tup xs))(frzs:∀b o u,H b=some (.frz o u)->H' b=some (.frz o u))(tbls:∀b ps,H b=some (.tbl ps)->∃more,H' b=some (.tbl (ps++more)))(ns:∀m,s.heap.Ns X.env.locals m->h'.Ns X.env.locals m)(hok:ZD X.prog X.w H' h')(hg:sR g'):
  zH X pins σ H' {s with heap:=h',gens:=g',drawn:=d',toks:=t'}:=by
 have neL:∀b o,X.s₀.heap.get? b=some o->b≠X.env.locals:=λb o e=>de (dM (C5 e) I.ok.above)
 have neC:∀b o,X.s₀.heap.get? b=some o->b∉X.ex->b∉ch:=λb o e hx hb=>by
  rcases (S_ b hb).1 with z |z
  ·exact hx z
  ·rw[z]at e;cases e
 have cellK:∀x c,X.env.cells.lookup x=some c->∀v,s.heap.IsCell c v->h'.IsCell c v:=λx c e v ⟨o,ho,hd⟩=>by
  have nch:c∉ch:=λz=>(S_ c z).2.2.1 x c e rfl
  by_cases hc:c∈X.fs
  ·obtain⟨sl,q⟩:=slot c o (I.cne x c e) hc nch ho (I.freeC x c e);exact⟨_,q,hd⟩
  ·exact⟨o,keep c o (I.cne x c e) hc nch ho (I.freeC x c e),hd⟩
 refine⟨I.ok,I.os,hg,⟨λb o e n hb hx=>?_,λb o e n hb hx=>?_,λb o e n hx=>?_,λb o e hx=>?_,λb xs e=>tups b xs (I.base.tups b xs e),λb o xs e=>frzs b o xs (I.base.frzs b o xs e),λb ps e=>?_⟩,?_,λx c e=>?_,?_,λx c e=>?_,λp hp=>?_,hok,I.len⟩
 ·exact keep b o (neL b o e) hb (neC b o e hx) (I.base.keep b o e n hb hx) (I.base.free b o e n hx)
 ·obtain⟨sl,e1⟩:=I.base.slot b o e n hb hx;obtain⟨sl',e2⟩:=slot b _ (neL b o e) hb (neC b o e hx) e1 (I.base.free b o e n hx);exact⟨sl',e2⟩
 ·obtain⟨o',e1⟩:=I.base.there b o e hx;exact free b o' (neC b o e hx) e1 (I.base.free b o e n hx)
 ·obtain⟨o',e1⟩:=I.base.there b o e hx;exact there b o' (neC b o e hx) e1
 ·obtain⟨m1,e1⟩:=I.base.tbls b ps e;obtain⟨m2,e2⟩:=tbls b _ e1;exact⟨m1++m2,by rw[e2,Array.append_assoc]⟩
 ·obtain⟨m,hn,hl⟩:=I.loc;refine⟨m,ns m hn,λi x v e1 e2 e3=>?_⟩;obtain⟨u,r,l⟩:=hl i x v e1 e2 e3;refine⟨u,r,?_⟩;rcases l with l |⟨k,c,e,z⟩
  ·exact .inl l
  ·exact .inr ⟨k,c,e,cellK x c e _ z⟩
 ·obtain⟨v,z⟩:=I.cell x c e;exact⟨v,cellK x c e v z⟩
 ·obtain⟨m,⟨o,_,_,ho,_⟩,_⟩:=I.loc;exact free _ o (λz=>(S_ _ z).2.1 U) ho I.free
 ·obtain⟨v,o,ho,hd⟩:=I.cell x c e;exact free c o (λz=>(S_ c z).2.2.1 x c e U) ho (I.freeC x c e)
 ·obtain⟨e,n,ne,nf,d⟩:=I.pin p hp;have nch:p.1∉ch:=λz=>(S_ p.1 z).2.2.2 p hp rfl;exact⟨keep p.1 p.2 ne nf nch e n,free p.1 p.2 nch e n,ne,nf,d⟩
theorem zH.un (I:zH X pins σ H s)(u:Un X.fs [] H H' s.heap h')(hok:ZD X.prog X.w H' h'):zH X pins σ H' {s with heap:=h',toks:=t'}:=by
 obtain⟨m,⟨o,es,ep,ho,r⟩,_⟩:=id I.loc;obtain⟨sl,hL⟩:=u.any ho I.free (by simp)
 exact I.step (g':=s.gens) (d':=s.drawn) (ch:=[]) (λ_ z=>nomatch z) (λb o _ hb _ e n=>u.keep b o e n hb (by simp)) (λb o _ hb _ e n=>u.slot b o e n hb (by simp)) (λb o _ e n=>u.free b o e n (by simp)) (λb o _ e=>u.there b o e (by simp)) u.tups u.frzs u.tbls (λm' hm=>by
  obtain⟨o',Nr,ep',SM,r'⟩:=hm;rw[ho]at SM;cases SM;exact⟨_,Nr,ep',hL,r'⟩) hok I.bare
theorem zH.call {g':Array IS}{d':Drawn}(I:zH X pins σ H s)(u:Un (oY X.stack) ch H H' s.heap h')(hok:ZD X.prog X.w H' h')(hg:sR g')(S_:∀b∈ch,(b∈X.ex∨X.s₀.heap.get? b=none)/\b≠X.env.locals/\(∀x c,X.env.cells.lookup x=some c->c≠b)/\∀p∈X.pn++pins,p.1≠b):
  zH X pins σ H' {s with heap:=h',gens:=g',drawn:=d',toks:=t'}:=by
 obtain⟨m,⟨o,es,ep,ho,r⟩,_⟩:=id I.loc;obtain⟨sl,hL⟩:=u.any ho I.free λz=>(S_ _ z).2.1 rfl
 exact I.step (ch:=ch) S_ (λb o hL hb hc e n=>u.keep b o e n (λz=>(CJ.mp (I.stkSub b z)).elim hL hb) hc) (λb o _ _ hc e n=>u.any e n hc) (λb o hc e n=>u.free b o e n hc) (λb o hc e=>u.there b o e hc) u.tups u.frzs u.tbls (λm' hm=>by
  obtain⟨o',Nr,ep',SM,r'⟩:=hm;rw[ho]at SM;cases SM;exact⟨_,Nr,ep',hL,r'⟩) hok hg
theorem zH.turned (I:zH X pins σ H s)(k:∀b o,b≠it->s.heap.get? b=some o->h'.get? b=some o)(hn:H it=none)(hL:it≠X.env.locals)(h1:it∈X.ex∨X.s₀.heap.get? it=none)(h2:∀x c,X.env.cells.lookup x=some c->c≠it)(h3:∀p∈X.pn++pins,p.1≠it):zH X pins σ H {s with heap:=h',toks:=t'}:=by
 have nit:∀b u,H b=some u->b≠it:=λb u e z=>by rw[z,hn]at e;cases e
 refine I.step (g':=s.gens) (d':=s.drawn) (ch:=[it]) (λb hb=>?_) (λb o _ _ hc e _=>k b o (λz=>hc (by simp[z])) e) (λb o _ _ hc e _=>⟨o.slots,k b o (λz=>hc (by simp[z])) e⟩) (λ_ _ _ _ n=>n)
  (λb o hc e=>⟨o,k b o (λz=>hc (by simp[z])) e⟩) (λ_ _ e=>e) (λ_ _ _ e=>e) (λb ps e=>⟨#[],by rw[e];simp⟩) (λm hm=>?_) (λb u e=>?_) I.bare
 ·have e:b=it:=by simpa using hb
  subst e;exact⟨h1,hL,h2,h3⟩
 ·obtain⟨o,es,ep,ho,r⟩:=hm;exact⟨o,es,ep,k _ o (fK hL) ho,r⟩
 ·refine(I.hok b u e).stay (λc v hc q=>k c v ?_ q) (λ_ q=>q) λ_ _ q=>q;rcases hc with z |z
  ·rw[z];exact nit b u e
  ·exact nit c _ z
theorem zH.tok (I:zH X pins σ H s)(t:Nat):zH X pins σ H {s with toks:=t}:=I.un (h':=s.heap) (t':=t) Un.refl I.hok
theorem zH.kept (I:zH X pins σ H s)(k:∀b u,s.heap.get? b=some u->h'.get? b=some u):zH X pins σ H {s with heap:=h',toks:=t'}:=I.un (Un.kept k) (I.hok.kept k)
theorem zH.laid {o:HO}(I:zH X pins σ H s)(k:∀b u,s.heap.get? b=some u->h'.get? b=some u)(hp:s.heap.objs.size<=a)(new:yC X.prog X.w (upd H a o) h' a o):
  zH X pins σ (upd H a o) {s with heap:=h',toks:=t'}:=I.un (Un.laid k hp (I.hok.fresh hp)) (I.hok.laid k hp new)
theorem zH.write {x e:ag}{o:HO}(I:zH X pins σ H s)(mu:bh (H x))(he:e=x∨H e=some (.own x))(k:∀b u,b≠e->s.heap.get? b=some u->h'.get? b=some u)(heo:∃u,h'.get? e=some u)(new:yC X.prog X.w (upd H x o) h' x o):zH X pins σ (upd H x o) {s with heap:=h',toks:=t'}:=I.un (Un.write mu he k heo) (I.hok.write mu he k heo new)
theorem zH.pins_of {Sz:List (ag×g_)}(I:zH X pins σ H s)(h:∀p∈Sz,s.heap.get? p.1=some p.2/\H p.1=none/\p.1≠X.env.locals/\p.1∉X.fs/\∀v,p.2.data≠.cell v):zH X Sz σ H s :=
 ⟨I.ok,I.os,I.bare,I.base,I.loc,I.cell,I.free,I.freeC,λp hp=>(CQ.mp hp).elim (λz=>I.pin p (d9 _ z)) (h p),I.hok,I.len⟩
theorem U9 (hN:N.Nodup)(a:N[i]?=some x)(b:N[j]?=some x):i=j:=by
 obtain⟨h1,e1⟩:=C7.mp a;obtain⟨h2,e2⟩:=C7.mp b;exact(List.getElem_inj hN).mp (e1.trans e2.symm)
theorem QS {Q:Unit->ar->Prop}(I:zH X pins σ H s)(hN:X.N.Nodup)(hi:X.N[i]?=some x)(hx:BP X.env.scope x)(r:qy v u)(h:∀s',zH X pins (σ.set i (some v)) H s'->(∃a,fB a s.heap s'.heap/\(a=X.env.locals∨X.env.cells.lookup x=some a))->Q () s')(hf:X.fn x=true∨X.env.scope.names.lookup x=some .local:=by first |exact .inl U |exact .inr U |assumption):wpAny M A (storeName X.env x u) Q E s:=by
 obtain⟨m,hn,hl⟩:=id I.loc;have hcls:(X.env.scope.kind == .class || (X.env.scope.kind == .module&&X.env.locals != X.env.globals))=false:=by rw[I.ok.kind];rfl
 have hiσ:i < σ.length:=by rw[I.len];exact(C7.mp hi).1
 have cne:=I.cne
 have tracked:∀{a:ag} {h':fi},(∃o,s.heap.get? a=some o/\H a=none)->fB a s.heap h'->ZD X.prog X.w H h':=λ{a h'} ha hs b ob e=>by
  obtain⟨_,_,hfree⟩:=ha;refine(I.hok b ob e).stay (λc w' hc q=>(hs.2 c ?_).trans q) (λ_ q=>q) λ_ _ q=>q;rintro rfl;rcases hc with rfl |hc
  ·rw[hfree]at e;cases e
  ·rw[hfree]at hc;cases hc
 rcases hx with hk |hk
 ·refine wpAny_storeName_local hk hn (λh' hn' hs=>?_) hcls;obtain⟨oL,_,_,hoL,_⟩:=id hn;refine h _ ⟨I.ok,I.os,I.bare,⟨λb o e n hb hx=>?_,λb o e n hb hx=>?_,I.base.free,λb o e hx=>?_,I.base.tups,I.base.frzs,I.base.tbls⟩,⟨_,hn',λj y v' e1 e2 e3=>?_⟩,λy c e=>?_,I.free,I.freeC,λp hp=>?_,tracked ⟨oL,hoL,I.free⟩ hs,by simpa using I.len⟩ ⟨_,hs,.inl U⟩
  ·exact(hs.2 b (de (dM (C5 e) I.ok.above))).trans (I.base.keep b o e n hb hx)
  ·obtain⟨sl,e1⟩:=I.base.slot b o e n hb hx;exact⟨sl,(hs.2 b (de (dM (C5 e) I.ok.above))).trans e1⟩
  ·obtain⟨o',e1⟩:=I.base.there b o e hx;exact⟨o',(hs.2 b (de (dM (C5 e) I.ok.above))).trans e1⟩
  ·by_cases hj:j=i
   ·subst hj;rw[hi]at e1;cases e1;rw[EA hiσ]at e2;cases e2;exact⟨u,r,.inl ⟨hk,by simp⟩⟩
   ·rw[Fh (fK hj)]at e2;obtain⟨u',r',q⟩:=hl j y v' e1 e2 e3;refine⟨u',r',?_⟩;rcases q with⟨k,e⟩ |⟨k,c,e,z⟩
    ·refine .inl ⟨k,?_⟩;have:y≠x:=λe=>hj (U9 hN e1 (e ▸ hi))
     simp[this,e]
    ·exact .inr ⟨k,c,e,z.sameBut hs (cne y c e)⟩
  ·obtain⟨w',z⟩:=I.cell y c e;exact⟨w',z.sameBut hs (cne y c e)⟩
  ·obtain⟨e,n,ne,nf,d⟩:=I.pin p hp;exact⟨(hs.2 p.1 ne).trans e,n,ne,nf,d⟩
 ·have hfn:X.fn x=true:=by
   rcases hf with z |z
   ·exact z
   ·rw[z]at hk;cases hk
  obtain⟨c,hc⟩:=I.ok.has x (.inl hk);obtain⟨w',z⟩:=I.cell x c hc;refine wpAny_storeName_cell I.ok.kind hk hc z (λh' hc' hs=>?_);obtain⟨oc,hoc,hocd⟩:=id z;refine h {s with heap:=h'} ⟨I.ok,I.os,I.bare,⟨λb o e n hb hx=>?_,λb o e n hb hx=>?_,I.base.free,λb o e hx=>?_,I.base.tups,I.base.frzs,I.base.tbls⟩,⟨m,hn.sameBut hs (fK (cne x c hc)),λj y v' e1 e2 e3=>?_⟩,λy c' e=>?_,I.free,I.freeC,λp hp=>?_,tracked ⟨oc,hoc,I.freeC x c hc⟩ hs,by simpa using I.len⟩ ⟨c,hs,.inr hc⟩
  ·exact(hs.2 b (de (dM (C5 e) (I.ok.cab x c hfn hc)))).trans (I.base.keep b o e n hb hx)
  ·obtain⟨sl,e1⟩:=I.base.slot b o e n hb hx;exact⟨sl,(hs.2 b (de (dM (C5 e) (I.ok.cab x c hfn hc)))).trans e1⟩
  ·obtain⟨o',e1⟩:=I.base.there b o e hx;exact⟨o',(hs.2 b (de (dM (C5 e) (I.ok.cab x c hfn hc)))).trans e1⟩
  ·by_cases hj:j=i
   ·subst hj;rw[hi]at e1;cases e1;rw[EA hiσ]at e2;cases e2;exact⟨u,r,.inr ⟨.inl hk,c,hc,hc'⟩⟩
   ·rw[Fh (fK hj)]at e2;obtain⟨u',r',q⟩:=hl j y v' e1 e2 e3;refine⟨u',r',?_⟩;rcases q with q |⟨k,c',e,z'⟩
    ·exact .inl q
    ·refine .inr ⟨k,c',e,z'.sameBut hs ?_⟩;rintro rfl;exact hj (U9 hN e1 (I.ok.inj _ _ _ e hc ▸ hi))
  ·by_cases hcc:c'=c
   ·subst hcc;exact⟨_,hc'⟩
   ·obtain⟨w2,z2⟩:=I.cell y c' e;exact⟨w2,z2.sameBut hs hcc⟩
  ·obtain⟨e,n,ne,nf,d⟩:=I.pin p hp;refine⟨(hs.2 p.1 ?_).trans e,n,ne,nf,d⟩;intro q;rw[q,hoc]at e;have q':oc=p.2:=ao e;exact d w' (by rw[<- q'];exact hocd)
theorem Y9 {Q:Unit->ar->Prop}(I:zH X pins σ H s)(hN:X.N.Nodup)(hi:X.N[i]?=some x)(hx:BP X.env.scope x)(r:qy v u)(h:∀s',zH X pins (σ.set i (some v)) H s'->Q () s')(hf:X.fn x=true∨X.env.scope.names.lookup x=some .local:=by first |exact .inl U |exact .inr U |assumption):wpAny M A (storeName X.env x u) Q E s :=
 QS I hN hi hx r (λs' I' _=>h s' I') hf
theorem zH.call' (I:zH X pins σ H s)(ho:s'.os=s.os)(u:Un (oY X.stack) ch H H' s.heap s'.heap)(hok:ZD X.prog X.w H' s'.heap)(hg:sR s'.gens)(S_:∀b∈ch,(b∈X.ex∨X.s₀.heap.get? b=none)/\b≠X.env.locals/\(∀x c,X.env.cells.lookup x=some c->c≠b)/\∀p∈X.pn++pins,p.1≠b):zH X pins σ H' s':=by
 obtain⟨h',g',d',t',o'⟩:=s';have e:o'=s.os:=ho;subst e;exact I.call (g':=g') (t':=t') (d':=d') u hok hg S_
end
abbrev XK:=ae->Option ag->Hp->Prop
abbrev St:=List (Option V)
abbrev VK:=V->Hp->Prop
abbrev TE:=St->Hp->VK->Prop
abbrev TT:=St->Hp->(Bool->Hp->Prop)->Prop
abbrev TA:=St->Hp->(List V->Hp->Prop)->Prop
structure j6 where
 nx:St->Hp->Prop
 rt:VK
 bk:St->Hp->Prop:=λ_ _=>False
 ct:St->Hp->Prop:=λ_ _=>False
abbrev TS:=j6->St->Hp->Prop
variable {σ:L2.St}
inductive EP (X:Cx)(pins:List (ag×g_))(σ:St)(Q:VK)(u:ae)(s':ar):Prop|mk(v H':_)(_:zH X pins σ H' s')(_:qy v u)(_:Q v H')
inductive TP (X:Cx)(pins:List (ag×g_))(σ:St)(Q:Bool->Hp->Prop)(b:Bool)(s':ar):Prop|mk(H':_)(_:zH X pins σ H' s')(_:Q b H')
inductive AP (X:Cx)(pins:List (ag×g_))(σ:St)(Q:List V->Hp->Prop)(us:List ae)(s':ar):Prop|mk(vs H':_)(_:zH X pins σ H' s')(_:qp vs us)(_:Q vs H')
def SP (X:Cx)(pins:List (ag×g_))(D:j6)(f:Flow)(s':ar):Prop :=
 match f with
 |.next=>∃σ' H',zH X pins σ' H' s'/\D.nx σ' H'
 |.brk=>∃σ' H',zH X pins σ' H' s'/\D.bk σ' H'
 |.cont=>∃σ' H',zH X pins σ' H' s'/\D.ct σ' H'
 |.ret u=>∃v σ' H',zH X pins σ' H' s'/\qy v u/\D.rt v H'
def PE (X:Cx)(e:aQ)(t:TE):Prop :=
 ∀(pins:List (ag×g_)) (s:ar) (σ:St) (H:Hp) (Q:VK),zH X pins σ H s->t σ H Q->wpAny (aA X.prog X.w) X.A (eval e X.env) (EP X pins σ Q) X.xe s
def PT (X:Cx)(e:aQ)(t:TT):Prop :=
 ∀(pins:List (ag×g_)) (s:ar) (σ:St) (H:Hp) (Q:Bool->Hp->Prop),zH X pins σ H s->t σ H Q->wpAny (aA X.prog X.w) X.A (isTrue e X.env (eval e X.env)) (TP X pins σ Q) X.xe s
def PW (X:Cx)(e:aQ)(t:TT):Prop :=
 ∀(SV:Kv ae) (pins:List (ag×g_)) (s:ar) (σ:St) (H:Hp) (Q:Bool->Hp->Prop),zH X pins σ H s->t σ H Q->wpAny (aA X.prog X.w) X.A (isTrue e X.env SV) (TP X pins σ Q) X.xe s
theorem PW.pt {t:TT}(h:PW X e t):PT X e t:=h _
def PA (X:Cx)(es:List aQ)(t:TA):Prop :=
 ∀(pos:fW) (pins:List (ag×g_)) (s:ar) (σ:St) (H:Hp) (Q:List V->Hp->Prop),zH X pins σ H s->t σ H Q->wpAny (aA X.prog X.w) X.A (KI (ff pos (ax es X.env))) (AP X pins σ Q) X.xe s
def PS (X:Cx)(st:n_)(t:TS):Prop :=
 ∀(pins:List (ag×g_)) (s:ar) (σ:St) (H:Hp) (D:j6),zH X pins σ H s->t D σ H->wpAny (aA X.prog X.w) X.A (exec st X.env) (SP X pins D) X.xe s
def y8 (X:Cx)(st:List n_)(t:TS):Prop :=
 ∀(pins:List (ag×g_)) (s:ar) (σ:St) (H:Hp) (D:j6),zH X pins σ H s->t D σ H->wpAny (aA X.prog X.w) X.A (execs st X.env) (SP X pins D) X.xe s
theorem yj {t:Kv α}{Q Q':α->ar->Prop}(h:wpAny M A t Q E s)(hQ:∀a s,Q a s->Q' a s):wpAny M A t Q' E s:=fh h hQ λ_ _ x=>x
variable {K_:List L2.V->L2.Hp->Prop}
section
inductive zV (i:Nat)(σ:St)(H:Hp)(Q:VK):Prop|mk(v:_)(_:σ[i]?=some (some v))(_:Q v H)
def tC (v:V):TE:=λ_ H Q=>Q v H
theorem ti {pos:fW}(hN:X.N[i]?=some x)(hv:cP X.env.scope x)(hd:(x==("__debug__":af))=false:=by decide)(Sy:(x==("__classdict__":af))=false:=by decide):PE X (.Name x pos) (zV i):=by
 intro pins s σ H Q I h;obtain⟨v,e,h⟩:=h;obtain⟨m,hn,hl⟩:=I.loc;obtain⟨u,r,l⟩:=hl i x v hN e hv;have K_:EP X pins σ Q u s:=⟨v,H,I,r,h⟩;rcases l with⟨hk,hm⟩ |⟨hk,c,hc,hcell⟩
 ·exact IU (wpAny_loadName_local I.ok.kind hk hn hm K_) hd
 ·rcases hk with hk |hk
  ·exact IU (wpAny_loadName_cell I.ok.kind hk hc hcell K_) hd
  ·exact IU (wpAny_loadName_free I.ok.kind hk hc hcell K_ Sy) hd
theorem ze {i j pos}:PE X (.Constant (.int i) j pos) (tC (.int i)):=λ_ _ _ H _ I h=>wpAny_Constant_int ⟨.int i,H,I.tok _,⟨_,U⟩,h⟩
theorem vC {b j pos}:PE X (.Constant (.bool b) j pos) (tC (.bl b)):=λ_ _ _ H _ I h=>Constant_bool ⟨.bl b,H,I,U,h⟩
theorem yR {j pos}:PE X (.Constant .none j pos) (tC .non):=λ_ _ _ H _ I h=>Constant_none ⟨.non,H,I,U,h⟩
theorem zj {x j pos}:PE X (.Constant (.str x) j pos) (tC (.str x)):=λ_ _ _ H _ I h=>Calls.Constant_str ⟨.str x,H,I.tok _,⟨_,U⟩,h⟩
def Gl (X:Cx)(x:af):Prop:=X.env.kindOf x=some .globalImplicit
theorem jW {pos:fW}(I:zH X pins σ H s)(hg:Gl X x)(hm:X.mg x=some u)(h:Q u s)(hd:(x==("__debug__":af))=false:=by decide):wpAny (aA X.prog X.w) X.A (eval (.Name x pos) X.env) Q E s :=
 Ab I.ok.kind hg (Calls.loadGlobal_global (by rw[I.ok.glob];exact I.mod.glob.keeps I.bk) hm h) hd
theorem wG {pos:fW}(I:zH X pins σ H s)(hg:Gl X x)(hm:X.mg x=none)(hv:fz x=some u)(h:Q u s)(hn:x≠"__name__":=by decide)(hd:(x==("__debug__":af))=false:=by decide):wpAny (aA X.prog X.w) X.A (eval (.Name x pos) X.env) Q E s:=by
 obtain⟨mb,h1,h2⟩:=I.mod.blt;exact Ab I.ok.kind hg (Calls.loadGlobal_builtin (by rw[I.ok.glob];exact I.mod.glob.keeps I.bk) hm (by rw[I.ok.blt];exact h1.keeps I.bk) ((h2 x hn).trans hv) h) hd
theorem zQ {pos:fW}(hg:Gl X x)(hm:X.mg x=some u)(r:qy v u)(hd:(x==("__debug__":af))=false:=by decide):PE X (.Name x pos) (tC v) :=
 λ_ _ _ H _ I h=>jW I hg hm ⟨v,H,I,r,h⟩ hd
theorem yV {pos:fW}(hg:Gl X x)(hm:X.mg x=none)(hv:fz x=some u)(r:qy v u)(hn:x≠"__name__":=by decide)(hd:(x==("__debug__":af))=false:=by decide):PE X (.Name x pos) (tC v) :=
 λ_ _ _ H _ I h=>wG I hg hm hv ⟨v,H,I,r,h⟩ hn hd
variable {a b:aQ}{ta tb:TE}{pos:fW}
inductive bz (Q:(Bool->Hp->Prop))(x:V)(H1:Hp):Prop|mk(c:_)(_:x=.bl c)(_:Q c H1)
def tB (t:TE):TT:=λσ H Q=>t σ H (bz Q)
theorem qC {t:TE}(h:PE X e t)(he:∀SV,isTrue e X.env SV=(do let v <- SV;Fv e.pos;Fx [v] (truthy v)):=by intro _;rfl):PT X e (tB t):=by
 intro pins s σ H Q I hw;refine isTrue_plain (yj (h pins s σ H _ I hw) λv s1 hM=>?_) (he _);obtain⟨x,H1,I1,r1,q1⟩:=hM;obtain⟨d,rfl,q⟩:=q1;cases r1;exact fN ⟨H1,I1,q⟩
variable {tA tB':TT}{rest:List aQ}
def cF (t u:TT):TT:=λσ H Q=>t σ H λc H1=>if c=true then u σ H1 Q else Q false H1
def Cy (t u:TT):TT:=λσ H Q=>t σ H λc H1=>if c=true then Q true H1 else u σ H1 Q
def cL (t:TT):TT:=λσ H Q=>t σ H λc H1=>Q (!c) H1
theorem kT (ha:PT X a tA):PW X (.BoolOp .And [a] pos) tA:=by
 intro wh pins s σ H Q I h;refine isTrue_and (yj (ha pins s σ H Q I h) λc s1 e=>?_)
 cases c with
 |true=>exact isTrue_and_nil e
 |false=>exact e
theorem yJ (ha:PT X a tA):PW X (.BoolOp .Or [a] pos) tA:=by
 intro wh pins s σ H Q I h;refine isTrue_or (yj (ha pins s σ H Q I h) λc s1 e=>?_)
 cases c with
 |false=>exact isTrue_or_nil e
 |true=>exact e
theorem QO (ha:PT X a tA)(hb:PW X (.BoolOp .And (b::rest) pos) tB'):PW X (.BoolOp .And (a::b::rest) pos) (cF tA tB'):=by
 intro wh pins s σ H Q I h;refine isTrue_and (yj (ha pins s σ H _ I h) λc s1 hM=>?_);obtain⟨H1,I1,q1⟩:=hM
 cases c with
 |true=>exact hb wh pins s1 σ H1 Q I1 q1
 |false=>exact⟨H1,I1,q1⟩
theorem yI (ha:PT X a tA)(hb:PW X (.BoolOp .Or (b::rest) pos) tB'):PW X (.BoolOp .Or (a::b::rest) pos) (Cy tA tB'):=by
 intro wh pins s σ H Q I h;refine isTrue_or (yj (ha pins s σ H _ I h) λc s1 hM=>?_);obtain⟨H1,I1,q1⟩:=hM
 cases c with
 |true=>exact⟨H1,I1,q1⟩
 |false=>exact hb wh pins s1 σ H1 Q I1 q1
theorem qB (ha:PT X a tA):PT X (.UnaryOp .Not a pos) (cL tA):=by
 intro pins s σ H Q I h
 exact isTrue_not (yj (ha pins s σ H (λc H1=>Q (!c) H1) I h) λc s1 hM=>by
  obtain⟨H1,I1,q⟩:=hM;exact⟨H1,I1,q⟩)
inductive gE (tb:TE)(σ:St)(Q:VK)(x:V)(H1:Hp):Prop|mk(c:_)(_:x=.bl c)(_:if c=true then tb σ H1 Q else Q (.bl false) H1)
def BC (ta tb:TE):TE:=λσ H Q=>ta σ H (gE tb σ Q)
inductive p7 (tb:TE)(σ:St)(Q:VK)(x:V)(H1:Hp):Prop|mk(c:_)(_:x=.bl c)(_:if c=true then Q (.bl true) H1 else tb σ H1 Q)
def cG (ta tb:TE):TE:=λσ H Q=>ta σ H (p7 tb σ Q)
inductive gM (Q:VK)(x:V)(H1:Hp):Prop|mk(c:_)(_:x=.bl c)(_:Q (.bl (!c)) H1)
def bT (ta:TE):TE:=λσ H Q=>ta σ H (gM Q)
theorem jA {op}{t:TE}(h:PE X a t):PE X (.BoolOp op [a] pos) t:=λpins s σ H Q I hw=>BoolOp_one (h pins s σ H Q I hw)
theorem je (ha:PE X a ta)(hb:PE X (.BoolOp .And (b::rest) pos) tb):PE X (.BoolOp .And (a::b::rest) pos) (BC ta tb):=by
 intro pins s σ H Q I h;refine BoolOp_and (yj (ha pins s σ H _ I h) λv s1 hM=>?_);obtain⟨x,H1,I1,r1,q1⟩:=hM;obtain⟨c,rfl,q1⟩:=q1;cases r1;refine fN ?_
 cases c with
 |true=>exact hb pins s1 σ H1 Q I1 q1
 |false=>exact⟨.bl false,H1,I1,U,q1⟩
theorem bH (ha:PE X a ta)(hb:PE X (.BoolOp .Or (b::rest) pos) tb):PE X (.BoolOp .Or (a::b::rest) pos) (cG ta tb):=by
 intro pins s σ H Q I h;refine BoolOp_or (yj (ha pins s σ H _ I h) λv s1 hM=>?_);obtain⟨x,H1,I1,r1,q1⟩:=hM;obtain⟨c,rfl,q1⟩:=q1;cases r1;refine fN ?_
 cases c with
 |false=>exact hb pins s1 σ H1 Q I1 q1
 |true=>exact⟨.bl true,H1,I1,U,q1⟩
theorem mF (ha:PE X a ta):PE X (.UnaryOp .Not a pos) (bT ta):=by
 intro pins s σ H Q I h;refine UnaryOp_ (yj (ha pins s σ H _ I h) λv s1 hM=>?_);obtain⟨x,H1,I1,r1,q1⟩:=hM;obtain⟨c,rfl,q1⟩:=q1;cases r1;exact not_of (fN ⟨.bl (!c),H1,I1,U,q1⟩)
end
def zN (K:BFr)(H:Hp)(a:ag)(xs:List V):Prop :=
 Rd H a (.lst xs) ∨
  ∃(o:g_) (K8:Array ae) (n:Nat),K.lookup a=some o/\o.cls=.type "list"/\o.dict=none/\o.data=.seq K8 n/\K8.size<=au/\qp xs K8.toList
def yE (K:BFr)(H:Hp)(a:ag)(xs:List V):Prop :=
 Rd H a (.tup xs) ∨
  ∃(o:g_) (K8:Array ae) (n:Nat),K.lookup a=some o/\o.cls=.type "tuple"/\o.data=.seq K8 n/\K8.size<=au/\qp xs K8.toList
def cH:ae->Option V
 |.none=>some .non
 |.bool b=>some (.bl b)
 |.int i _=>some (.int i)
 |.str x _=>some (.str x)
 |.bytes b _=>some (.byt b)
 |.float b _=>some (.flt b)
 |.ref a=>some (.ref a)
 |.type n=>some (.ty n)
 |_=>none
theorem qy.abs {x:V}(r:qy x u):cH u=some x:=by
 cases x with
 |non=>cases r;rfl
 |bl _=>cases r;rfl
 |int _=>obtain⟨t,rfl⟩:=r;rfl
 |str _=>obtain⟨t,rfl⟩:=r;rfl
 |byt _=>obtain⟨t,rfl⟩:=r;rfl
 |flt _=>obtain⟨t,rfl⟩:=r;rfl
 |ref _=>cases r;rfl
 |ty _=>cases r;rfl
theorem qy.inj {x:V}(r:qy x u)(q:qy y u):x=y:=ao (r.abs.symm.trans q.abs)
theorem qp.inj:∀{xs ys:List V} {us:List ae},qp xs us->qp ys us->xs=ys
 |_,_,_,.nil,.nil=>rfl
 |_,_,_,.cons r t,.cons r' t'=>by rw[r.inj r',qp.inj t t']
theorem zN.of {K:BFr}(h:H a=some (.lst xs)):zN K H a xs:=.inl (.inl h)
theorem yE.of {K:BFr}(h:H a=some (.tup xs)):yE K H a xs:=.inl (.inl h)
theorem zH.list (I:zH X pins σ H s)(h:zN X.K H a xs):∃K8:List ae,qp xs K8/\PlainL s.heap a K8.toArray/\xs.length<=au:=by
 rcases h with h |⟨o,K8,n,hk,hc,hd,hs,hz,r⟩
 ·obtain⟨z,K8,n,r,e⟩:=h.ok I.hok;exact⟨K8,r,⟨_,n,e,U,U,U⟩,z⟩
 ·refine⟨K8.toList,r,⟨o,n,I.kIn a o hk,hc,hd,by simpa using hs⟩,?_⟩;have e:=r.length;simp only[dJ]at e;lia
theorem zH.tuple (I:zH X pins σ H s)(h:yE X.K H a xs):∃K8:List ae,qp xs K8/\IsTup s.heap a K8.toArray/\xs.length<=au:=by
 rcases h with h |⟨o,K8,n,hk,hc,hs,hz,r⟩
 ·obtain⟨z,K8,r,p⟩:=h.ok I.hok;exact⟨K8,r,p,z⟩
 ·refine⟨K8.toList,r,⟨o,I.kIn a o hk,hc,n,by simpa using hs⟩,?_⟩;have e:=r.length;simp only[dJ]at e;omega
theorem zH.list_inj (I:zH X pins σ H s)(h:zN X.K H a xs)(h':zN X.K H a ys):xs=ys:=by
 obtain⟨K8,r,⟨o,n,e,_,_,d⟩,_⟩:=I.list h;obtain⟨its',r',⟨o',n',e',_,_,d'⟩,_⟩:=I.list h';rw[e]at e';cases e';rw[d]at d';injection d' with d1 _;have:K8=its':=by simpa using K4 Array.toList d1
 subst this;exact r.inj r'
theorem zH.tuple_inj (I:zH X pins σ H s)(h:yE X.K H a xs)(h':yE X.K H a ys):xs=ys:=by
 obtain⟨K8,r,⟨o,e,_,n,d⟩,_⟩:=I.tuple h;obtain⟨its',r',⟨o',e',_,n',d'⟩,_⟩:=I.tuple h';rw[e]at e';cases e';rw[d]at d';injection d' with d1 _;have:K8=its':=by simpa using K4 Array.toList d1
 subst this;exact r.inj r'
abbrev Cx.wish (X:Cx)(E:ae->ar->Prop):Cx:={X with xe:=E}
abbrev Cx.nox (X:Cx):Cx:=X.wish λ_ _=>False
theorem Cx.Ok.wish (ok:X.Ok)(E:ae->ar->Prop):(X.wish E).Ok :=
 ⟨ok.mod,ok.kind,ok.glob,ok.blt,ok.above,ok.inj,ok.has,ok.cab,ok.hd,ok.frames,ok.stk,ok.exf,ok.bs,ok.bsz,ok.noex,ok.exfs,ok.funs,ok.frf⟩
theorem Cx.Ok.unwish (ok:(X.wish E).Ok):X.Ok :=
 ⟨ok.mod,ok.kind,ok.glob,ok.blt,ok.above,ok.inj,ok.has,ok.cab,ok.hd,ok.frames,ok.stk,ok.exf,ok.bs,ok.bsz,ok.noex,ok.exfs,ok.funs,ok.frf⟩
theorem zH.wish (I:zH X pins σ H s)(E:ae->ar->Prop):zH (X.wish E) pins σ H s:=⟨I.ok.wish E,I.os,I.bare,I.base,I.loc,I.cell,I.free,I.freeC,I.pin,I.hok,I.len⟩
theorem zH.unwish (I:zH (X.wish E) pins σ H s):zH X pins σ H s:=⟨I.ok.unwish,I.os,I.bare,I.base,I.loc,I.cell,I.free,I.freeC,I.pin,I.hok,I.len⟩
theorem SP.unwish {D:j6}{f:Flow}(h:SP (X.wish E) pins D f s'):SP X pins D f s':=by
 cases f with
 |next=>obtain⟨σ',H',I,q⟩:=h;exact⟨σ',H',I.unwish,q⟩
 |brk=>obtain⟨σ',H',I,q⟩:=h;exact⟨σ',H',I.unwish,q⟩
 |cont=>obtain⟨σ',H',I,q⟩:=h;exact⟨σ',H',I.unwish,q⟩
 |ret u=>obtain⟨v,σ',H',I,r,q⟩:=h;exact⟨v,σ',H',I.unwish,r,q⟩
theorem y8.nox {st:List n_}{t:TS}(h:y8 X.nox st t):y8 X st t:=λpins s σ H D I hw=>
 fh (h pins s σ H D (I.wish _) hw) (λ_ _ q=>q.unwish) λ_ _ z=>b_ z
variable {te:L2.TE}
section
variable {rest:List n_}{t u:TS}{pos:fW}
def xw:TS:=λD σ H=>D.nx σ H
def Bz (t u:TS):TS:=λD σ H=>t {D with nx:=u D} σ H
theorem zB:y8 X [] xw:=λ_ _ σ H _ I h=>i6 ⟨σ,H,I,h⟩
theorem zg (h1:PS X st t)(h2:y8 X rest u):y8 X (st::rest) (Bz t u):=by
 intro pins s σ H D I h;refine Ay (yj (h1 pins s σ H {D with nx:=u D} I h) λf s1 q=>?_)
 cases f with
 |next=>
  obtain⟨σ',H',I',q⟩:=q;exact h2 pins s1 σ' H' D I' q
 |ret v=>exact q
 |brk=>exact q
 |cont=>exact q
theorem zh (h1:PS X st t):y8 X [st] t:=by
 intro pins s σ H D I h;refine Ay (yj (h1 pins s σ H D I h) λf s1 q=>?_)
 cases f with
 |next=>exact i6 q
 |ret v=>exact q
 |brk=>exact q
 |cont=>exact q
theorem zH.quiet (I:zH X pins σ H s):interactive X.env=false:=by simp[interactive,I.ok.kind]
def rF (te:TE):TS:=λD σ H=>te σ H λ_ H1=>D.nx σ H1
theorem z6 (he:PE X e te)(hs:Az e none pos.line X.env=pure false:=by rfl):PS X (.Expr e pos) (rF te):=by
 intro pins s σ H D I h;exact wpAny_Expr_any (yj (he pins s σ H _ I h) λv s1 hM=>by obtain⟨x,H1,I1,r1,q1⟩:=hM;exact⟨σ,H1,I1,q1⟩) I.quiet hs
def Me (te:TE):TS:=λD σ H=>te σ H D.rt
theorem zt (he:PE X e te):PS X (.Return (some e) pos) (Me te):=by
 intro pins s σ H D I h;exact wpAny_Return_some (yj (he pins s σ H _ I h) λv s1 hM=>by obtain⟨x,H1,I1,r1,q1⟩:=hM;exact⟨x,σ,H1,I1,r1,q1⟩)
def Bl (c:TT)(t u:TS):TS:=λD σ H=>c σ H λb H1=>if b=true then t D σ H1 else u D σ H1
theorem zK {c:aQ}{a b:List n_}{tc:TT}(hc:PT X c tc)(ha:y8 X a t)(hb:y8 X b u):PS X (.If c a b pos) (Bl tc t u):=by
 intro pins s σ H D I h;refine wpAny_If (yj (hc pins s σ H _ I h) λd s1 hM=>?_);obtain⟨H1,I1,q1⟩:=hM
 cases d with
 |true=>exact ha pins s1 σ H1 D I1 q1
 |false=>exact hb pins s1 σ H1 D I1 q1
def Tf:TS:=λ_ _ _=>False
theorem yh {sts:List n_}:y8 X sts Tf:=λ_ _ _ _ _ _ h=>h.elim
end
abbrev TG:=V->St->Hp->(St->Hp->Prop)->Prop
abbrev TN:=List V->St->Hp->(St->Hp->Prop)->Prop
def PG (X:Cx)(target:aQ)(t:TG):Prop :=
 ∀(pins:List (ag×g_)) (s:ar) (σ:St) (H:Hp) (v:V) (u:ae) (Q:St->Hp->Prop),zH X pins σ H s->qy v u->t v σ H Q ->
  wpAny (aA X.prog X.w) X.A (C_ target X.env u) (λ_ s'=>∃σ' H',zH X pins σ' H' s'/\Q σ' H') X.xe s
def j5 (X:Cx)(ts:List aQ)(t:TN):Prop :=
 ∀(pins:List (ag×g_)) (s:ar) (σ:St) (H:Hp) (vs:List V) (us:List ae) (Q:St->Hp->Prop),zH X pins σ H s->qp vs us->t vs σ H Q ->
  wpAny (aA X.prog X.w) X.A (assignInOrder ((AO ts X.env).map (·.2)) us) (λ_ s'=>∃σ' H',zH X pins σ' H' s'/\Q σ' H') X.xe s
variable {g:L2.TG}
section
variable {pos:fW}
def qc (i:Nat):TG:=λv σ H Q=>Q (σ.set i (some v)) H
theorem zO (hN:X.N.Nodup)(hi:X.N[i]?=some x)(hx:BP X.env.scope x)(hf:X.fn x=true∨X.env.scope.names.lookup x=some .local:=by first |exact .inl U |exact .inr U |assumption):PG X (.Name x pos) (qc i):=by
 intro pins s σ H v u Q I r h;exact Ah (Y9 I hN hi hx r (λs' I'=>⟨_,H,I',h⟩) hf)
def Mp:TN:=λvs σ H Q=>vs=[]/\Q σ H
inductive Yl (t:TG)(u:TN)(vs:List V)(σ:St)(H:Hp)(Q:(St->Hp->Prop)):Prop|mk(v r:_)(_:vs=v::r)(_:t v σ H λσ' H'=>u r σ' H' Q)
theorem gY:j5 X [] Mp:=by
 intro pins s σ H vs us Q I r h;obtain⟨e,h⟩:=h;subst e;cases r;exact assignInOrder_nil ⟨σ,H,I,h⟩
theorem Qh {es:List aQ}{t:TG}{u:TN}(h1:PG X e t)(h2:j5 X es u)(hs:(AO (e::es) X.env).map (·.2)=C_ e X.env::(AO es X.env).map (·.2):=by rfl):j5 X (e::es) (Yl t u):=by
 intro pins s σ H vs us Q I r h;obtain⟨v,vr,e1,h⟩:=h;subst e1
 cases r with
 |cons r rr=>
  rw[hs];refine assignInOrder_cons (yj (h1 pins s σ H _ _ _ I r h) λ_ s1 hM=>?_);obtain⟨σ1,H1,I1,q1⟩:=hM;exact h2 pins s1 σ1 H1 _ _ Q I1 rr q1
inductive PL (K:BFr)(n:Nat)(t:TN)(v:V)(σ:St)(H:Hp)(Q:(St->Hp->Prop)):Prop|mk(a xs:_)(_:v=.ref a)(_:yE K H a xs)(_:xs.length=n)(_:t xs σ H Q)
theorem ly {es:List aQ}{k:Nat}{t:TN}(hc:X.calm=true)(h:j5 X es t)(hn:(AO es X.env).length=n:=by rfl)(SN:(AO es X.env).findIdx? (·.1)=none:=by rfl):PG X (.Tuple es k pos) (PL X.K n t):=by
 intro pins s σ H v u Q I r hw;obtain⟨a,xs,e1,hq,hl,hw⟩:=hw;subst e1;cases r;obtain⟨K8,rv,ht,hz⟩:=I.tuple hq;refine assign_Tuple_tuple (I.ok.hd hc) ht (by simp[hn,<- hl,rv.length]) SN λh' hx=>?_;have I1:zH X pins σ H {s with heap:=h'}:=I.kept (t':=s.toks) λb o e=>hx b o (de (C5 e)) e;exact h pins _ σ H xs _ Q I1 (by simpa using rv) hw
def tW (te:TE)(g:TG):TS:=λD σ H=>te σ H λx H1=>g x σ H1 D.nx
theorem zF (hN:X.N.Nodup)(hi:X.N[i]?=some x)(hx:BP X.env.scope x)(he:PE X e te)(hs:Az e (some (.Name x R_)) pos.line X.env=pure false:=by rfl)(hf:X.fn x=true∨X.env.scope.names.lookup x=some .local:=by first |exact .inl U |exact .inr U |assumption):
  PS X (.Assign [.Name x R_] e pos) (tW te (qc i)):=by
 intro pins s σ H D I h;refine wpAny_Assign_Name (yj (he pins s σ H _ I h) λv s1 hM=>?_) hs;obtain⟨y,H1,I1,r1,q1⟩:=hM;exact Y9 I1 hN hi hx r1 (λs2 I2=>⟨_,H1,I2,q1⟩) hf
end
section
variable {pos:fW}
end
structure It where
 go:Nat->Hp->Prop
 yld:Nat->Hp->V->Hp->Prop
 stop:Nat->Hp->Prop
def yL (X:Cx)(pins:List (ag×g_))(H:Hp)(b:ag):Prop :=
 H b=none/\b≠X.env.locals/\b∉X.fs/\(b∈X.ex∨X.s₀.heap.get? b=none)/\(∀x c,X.env.cells.lookup x=some c->c≠b)/\∀p∈X.pn++pins,p.1≠b
theorem zH.fpOk {b:ag}(I:zH X pins σ H s)(hb:s.heap.objs.size<=b)(hn:H' b=none):yL X pins H' b:=by
 refine⟨hn,eM (dM I.lt hb),I.nofs hb,.inr (DW (CW I.sz hb)),λx c e z=>?_,λp hp z=>?_⟩
 ·obtain⟨v,q⟩:=I.cell x c e;exact K7 (dM q.lt (by rw[z];exact hb)) (eI _)
 ·exact K7 (dM (C5 (I.pin p hp).1) (by rw[z];exact hb)) (eI _)
structure xr (P:aU)(w:aP)(K:BFr)(tg:aQ)(J:It)(fp:List ag)(it:ag)(tn:Nat->fi->Prop):Prop where
 mem:it∈fp
 obj:∀i h,tn i h->∀b∈fp,∃o,h.get? b=some o/\∀v,o.data≠.cell v
 keep:∀i h h',tn i h->(∀b∈fp,∀o,h.get? b=some o->h'.get? b=some o)->tn i h'
 item:∀(X:Cx),X.prog=P->X.w=w->X.K=K->X.calm=true->∀(i:Nat) (pins:List (ag×g_)) (s:ar) (σ:St) (H:Hp) (E:ae->ar->Prop),zH X pins σ H s->(∀b∈fp,yL X pins H b)->tn i s.heap->J.go i H ->
  wpAny (aA P w) X.A (HU (.ref it)) (λr s1=>∃u,r=some u /\
   wpAny (aA P w) X.A (i7 tg (.ref it) u) (λ_ s2=>∃x H',zH X pins σ H' s2/\qy x u/\J.yld i H x H'/\tn (i+1) s2.heap/\∀b∈fp,H' b=none) E s1) E s
 done:∀(X:Cx),X.prog=P->X.w=w->X.K=K->X.calm=true->∀(i:Nat) (pins:List (ag×g_)) (s:ar) (σ:St) (H:Hp) (E:ae->ar->Prop),zH X pins σ H s->(∀b∈fp,yL X pins H b)->tn i s.heap->J.stop i H ->
  wpAny (aA P w) X.A (HU (.ref it)) (λr s1=>r=none/\zH X pins σ H s1) E s
 self:∀(A:iG) (i:Nat) (s:ar) (Q:ae->ar->Prop) (E:ae->ar->Prop),tn i s.heap->Q (.ref it) s->wpAny (aA P w) A (IV (.ref it)) Q E s
abbrev TI:=St->Hp->(It->Hp->Prop)->Prop
inductive BZ (X:Cx)(pins:List (ag×g_))(σ:St)(tg:aQ)(R:It->Hp->Prop)(itv:ae)(s2:ar):Prop|mk(it:ag)(fp:List ag)(tn:Nat->fi->Prop)(J:It)(H':Hp)(_:itv=.ref it)(_:zH X pins σ H' s2)(_:xr X.prog X.w X.K tg J fp it tn)(_:tn 0 s2.heap)(_:(∀b∈fp,yL X pins H' b))(_:R J H')
variable {wi:L2.TI}
def PI (X:Cx)(tg iter:aQ)(wi:TI):Prop :=
 ∀(pins:List (ag×g_)) (s:ar) (σ:St) (H:Hp) (R:It->Hp->Prop),zH X pins σ H s->wi σ H R ->
  wpAny (aA X.prog X.w) X.A (eval iter X.env) (λv s1=>wpAny (aA X.prog X.w) X.A (IV v) (BZ X pins σ tg R) X.xe s1) X.xe s
theorem xg {n:String}{Q:Unit->ar->Prop}(ho:s.heap.get? it=some o)(hc:o.cls=.type n)(hd:o.data=.fields vs)(hn:["enumerate","zip","dict_itemiterator","dict_reverseitemiterator","odict_iterator","itertools.zip_longest","itertools.pairwise"].contains n=false)(hQ:Q () s):wpAny M A (i7 tg (.ref it) u) Q E s:=by
 unfold i7
 cases tg<;>first
  |exact aj hQ
  | (cases u<;>first
    |exact aj hQ
    | (refine aa (IW ho ?_)
       rw[hc,hd];show wpAny M A (if (["enumerate","zip","dict_itemiterator","dict_reverseitemiterator","odict_iterator","itertools.zip_longest","itertools.pairwise"].contains n&&vs[0]? == some (fj _))=true then _ else _) Q E s;rw[K5 (by intro h;rw[hn,dO]at h;cases h)];exact aj hQ))
def mW (K:BFr)(a:ag):It :=
 ⟨λi H=>∃xs x,zN K H a xs/\xs[i]?=some x,λi H x H'=>H'=H/\∀xs,zN K H a xs->xs[i]?=some x,λi H=>∃xs,zN K H a xs/\xs.length<=i⟩
def cz (K:BFr)(a:ag):It :=
 ⟨λi H=>∃xs x,yE K H a xs/\xs[i]?=some x,λi H x H'=>H'=H/\∀xs,yE K H a xs->xs[i]?=some x,λi H=>∃xs,yE K H a xs/\xs.length<=i⟩
def rD (lo:Int)(n:Nat):It:=⟨λi _=>i<n,λi H x H'=>H'=H/\x=.int (lo+i),λi _=>n<=i⟩
theorem GZ {K:BFr}(a it:ag):xr P w K tg (mW K a) [it] it (λi h=>h.IsListIter it a i) where
 mem:=by simp
 obj:=λi h st b hb=>by
  have e:b=it:=by simpa using hb
  subst e;obtain⟨o,e,c,d⟩:=st;exact⟨o,e,λv z=>by rw[d]at z;cases z⟩
 keep:=λi h h' st k=>st.at λo e=>k it (by simp) o e
 item:=by
  intro X hP hw hK hc i pins s σ H E I hf st hg;subst hP hw hK;obtain⟨xs,x,hq,hx⟩:=hg;obtain⟨K8,rv,p,hz⟩:=I.list hq;obtain⟨u,hu,ru⟩:=rv.get hx;obtain⟨f0,f1,f2,f3,f4,f5⟩:=hf it (by simp);refine wpAny_pyNext_list_item st p.isList (x:=u) (by simpa using hu) λh' M' sb=>?_;have I1:zH X pins σ H {s with heap:=h'}:=I.turned (t':=s.toks) (λb o hb e=>(sb.2 b hb).trans e) f0 f1 f3 f4 f5;obtain⟨o,e,c,d⟩:=id M';exact⟨u,U,xg (s:={s with heap:=h'}) e c d ∅ ⟨x,H,I1,ru,⟨U,λys hy=>by rw[I.list_inj hy hq];exact hx⟩,M',λb hb=>(hf b hb).1⟩⟩
 done:=by
  intro X hP hw hK hc i pins s σ H E I hf st hg;subst hP hw hK;obtain⟨xs,hq,hx⟩:=hg;obtain⟨K8,rv,p,hz⟩:=I.list hq;obtain⟨f0,f1,f2,f3,f4,f5⟩:=hf it (by simp);have hl:=rv.length;exact wpAny_pyNext_list_end (I.ok.hd hc) st p.isList (by simp;lia) λh' eb=>⟨U,I.turned (t':=s.toks) (λb o hb e=>eb b o hb e) f0 f1 f3 f4 f5⟩
 self:=λ_ _ _ _ _ st h=>wpAny_pyIter_listiter st h
theorem xW {K:BFr}(a it:ag):xr P w K tg (cz K a) [it] it (λi h=>h.IsTupleIter it a i) where
 mem:=by simp
 obj:=λi h st b hb=>by
  have e:b=it:=by simpa using hb
  subst e;obtain⟨o,e,c,d⟩:=st;exact⟨o,e,λv z=>by rw[d]at z;cases z⟩
 keep:=λi h h' st k=>st.at λo e=>k it (by simp) o e
 item:=by
  intro X hP hw hK hc i pins s σ H E I hf st hg;subst hP hw hK;obtain⟨xs,x,hq,hx⟩:=hg;obtain⟨K8,rv,p,hz⟩:=I.tuple hq;obtain⟨u,hu,ru⟩:=rv.get hx;obtain⟨f0,f1,f2,f3,f4,f5⟩:=hf it (by simp);refine wpAny_pyNext_tuple_item st (show s.heap.IsTuple a K8.toArray from p) (x:=u) (by simpa using hu) λh' M' sb=>?_;have I1:zH X pins σ H {s with heap:=h'}:=I.turned (t':=s.toks) (λb o hb e=>(sb.2 b hb).trans e) f0 f1 f3 f4 f5;obtain⟨o,e,c,d⟩:=id M';exact⟨u,U,xg (s:={s with heap:=h'}) e c d ∅ ⟨x,H,I1,ru,⟨U,λys hy=>by rw[I.tuple_inj hy hq];exact hx⟩,M',λb hb=>(hf b hb).1⟩⟩
 done:=by
  intro X hP hw hK hc i pins s σ H E I hf st hg;subst hP hw hK;obtain⟨xs,hq,hx⟩:=hg;obtain⟨K8,rv,p,hz⟩:=I.tuple hq;obtain⟨f0,f1,f2,f3,f4,f5⟩:=hf it (by simp);have hl:=rv.length;exact wpAny_pyNext_tuple_end (I.ok.hd hc) st (show s.heap.IsTuple a K8.toArray from p) (by simp;omega) λh' eb=>⟨U,I.turned (t':=s.toks) (λb o hb e=>eb b o hb e) f0 f1 f3 f4 f5⟩
 self:=λ_ _ _ _ _ st h=>wpAny_pyIter_tupleiter st h
theorem Xi {K:BFr}(it:ag)(lo:Int)(n:Nat):xr P w K tg (rD lo n) [it] it (λi h=>IsRangeIter h it (lo+(i:Nat)*1) ((n:Int)-(i:Nat)) 1) where
 mem:=by simp
 obj:=λi h st b hb=>by
  have e:b=it:=by simpa using hb
  subst e
  exact⟨_,st,λv z=>by
   have z':Data.fields _=Data.cell v:=z
   cases z'⟩
 keep:=λi h h' st k=>k it (by simp) _ st
 item:=by
  intro X hP hw hK hc i pins s σ H E I hf st hg;subst hP hw hK;obtain⟨f0,f1,f2,f3,f4,f5⟩:=hf it (by simp);have W:=Walks.range (prog:=X.prog) (w:=X.w) (I.ok.hd hc) it lo 1 n;refine W.item i s _ _ hg st λv h' tk hv M' kk=>?_;obtain⟨t,rfl⟩:=hv;have I1:zH X pins σ H {s with heap:=h',toks:=tk}:=I.turned (λb o hb e=>kk b o (by simpa using hb) e) f0 f1 f3 f4 f5;refine⟨_,U,xg (s:={s with heap:=h',toks:=tk}) (n:="range_iterator") M' rfl rfl ∅ ⟨.int (lo+i),H,I1,⟨t,?_⟩,⟨U,U⟩,M',λb hb=>(hf b hb).1⟩⟩;rw[Int.mul_one]
 done:=by
  intro X hP hw hK hc i pins s σ H E I hf st hg;subst hP hw hK;obtain⟨f0,f1,f2,f3,f4,f5⟩:=hf it (by simp);exact wpAny_pyNext_range_end (I.ok.hd hc) st (by have:n<=i:=hg;lia) λh' eb=>⟨U,I.turned (t':=s.toks) (λb o hb e=>eb b o hb e) f0 f1 f3 f4 f5⟩
 self:=λ_ _ _ _ _ st h=>wpAny_pyIter_rangeiter st h
variable {tl:L2.TE}{ta:L2.TA}{tb:L2.TS}{H2:L2.Hp}
inductive GH (K:BFr)(R:(It->Hp->Prop))(x:V)(H1:Hp):Prop|mk(a:_)(_:x=.ref a)(_:(∃xs,zN K H1 a xs))(_:R (mW K a) H1)
def Zl (K:BFr)(tl:TE):TI:=λσ H R=>tl σ H (GH K R)
inductive Lo (K:BFr)(R:(It->Hp->Prop))(x:V)(H1:Hp):Prop|mk(a:_)(_:x=.ref a)(_:(∃xs,yE K H1 a xs))(_:R (cz K a) H1)
def V7 (K:BFr)(tl:TE):TI:=λσ H R=>tl σ H (Lo K R)
theorem ye {l:aQ}(hl:PE X l tl):PI X tg l (Zl X.K tl):=by
 intro pins s σ H R I h;refine yj (hl pins s σ H _ I h) λv s1 hM=>?_;obtain⟨x,H1,I1,r1,q1⟩:=hM;obtain⟨a,e,⟨xs,hq⟩,q⟩:=q1;subst e;cases r1;obtain⟨K8,rv,p,hz⟩:=I1.list hq;refine o_ p.isList ?_;refine⟨s1.heap.objs.size,[s1.heap.objs.size],_,_,H1,U,I1.kept (t':=s1.toks) λb o e=>dc _ e,GZ a _,⟨_,dA _ U,U,U⟩,λb hb=>?_,q⟩;have e:b=s1.heap.objs.size:=by simpa using hb
 subst e;exact I1.fpOk (CI _) (I1.hok.fresh (CI _))
theorem ke {l:aQ}(hl:PE X l tl):PI X tg l (V7 X.K tl):=by
 intro pins s σ H R I h;refine yj (hl pins s σ H _ I h) λv s1 hM=>?_;obtain⟨x,H1,I1,r1,q1⟩:=hM;obtain⟨a,e,⟨xs,hq⟩,q⟩:=q1;subst e;cases r1;obtain⟨K8,rv,p,hz⟩:=I1.tuple hq;refine wpAny_pyIter_tuple (show s1.heap.IsTuple a K8.toArray from p) ?_;refine⟨s1.heap.objs.size,[s1.heap.objs.size],_,_,H1,U,I1.kept (t':=s1.toks) λb o e=>dc _ e,xW a _,⟨_,dA _ U,U,U⟩,λb hb=>?_,q⟩;have e:b=s1.heap.objs.size:=by simpa using hb
 subst e;exact I1.fpOk (CI _) (I1.hok.fresh (CI _))
theorem pI {R:It->Hp->Prop}{hi:Int}{t u v:KS}{tk:Nat}(I:zH X pins σ H s)(h1:-(2 ^ 62)<=lo)(h2:lo<2 ^ 62)(h3:-(2 ^ 62)<=hi)(h4:hi<2 ^ 62)(q:R (rD lo (hi-lo).toNat) H):wpAny (aA X.prog X.w) X.A (IV (.ref s.heap.objs.size)) (BZ X pins σ tg R) E {s with heap:=s.heap.push {cls:=.type "range",data:=.fields #[.int lo t,.int hi u,.int 1 v]},toks:=tk}:=by
 refine wpAny_pyIter_range (IsRange.new ..) (small_one h1 h2 h3 h4) ?_;have I1:zH X pins σ H {s with heap:=s.heap.push {cls:=.type "range",data:=.fields #[.int lo t,.int hi u,.int 1 v]},toks:=tk}:=I.kept λb o e=>dc _ e
 refine⟨(s.heap.push {cls:=.type "range",data:=.fields #[.int lo t,.int hi u,.int 1 v]}).objs.size,[(s.heap.push {cls:=.type "range",data:=.fields #[.int lo t,.int hi u,.int 1 v]}).objs.size],_,_,H,U,
  I1.kept (t':=tk) λb o e=>dc _ e,Xi _ lo (hi-lo).toNat,?_,λb hb=>?_,q⟩
 ·have e1:lo+((0:Nat):Int)*1=lo:=by simp
  have e2:(((hi-lo).toNat:Nat):Int)-((0:Nat):Int)=Builtin.Range.rangeSize lo hi 1:=by rw[rangeSize_one];split<;>lia
  show IsRangeIter _ _ (lo+((0:Nat):Int)*1) ((((hi-lo).toNat:Nat):Int)-((0:Nat):Int)) 1;rw[e1,e2];exact dA _ rfl
 ·have e:b=(s.heap.push {cls:=.type "range",data:=.fields #[.int lo t,.int hi u,.int 1 v]}).objs.size:=by simpa using hb
  subst e;exact I1.fpOk (CI _) (I1.hok.fresh (CI _))
inductive Gu (R:(It->Hp->Prop))(vs:List V)(H1:Hp):Prop|mk(j:Int)(_:vs=[.int j])(_:-(2 ^ 62)<=j)(_:j<2 ^ 62)(_:R (rD 0 j.toNat) H1)
def VS (ta:TA):TI:=λσ H R=>ta σ H (Gu R)
theorem jH {a:aQ}{p pos:fW}(hg:Gl X "range")(hm:X.mg "range" = none)(ha:PA X [a] ta)(hs:ax [a] X.env=[(false,eval a X.env)]:=by rfl):PI X tg (.Call (.Name "range" p) [a] [] pos) (VS ta):=by
 intro pins s σ H R I h;refine KQ (wG I hg hm boot_range (fL (yj (ha pos pins s σ H _ I h) λus s1 hM=>?_) hs U));obtain⟨vs,H1,I1,r1,q1⟩:=hM;obtain⟨j,e,q1,q2,q⟩:=q1;subst e
 cases r1 with
 |cons r rr=>
  cases rr;obtain⟨t,rfl⟩:=r;exact call_range_1 (pI I1 (by lia) (by lia) q1 q2 (by simpa using q))
def bC (wi:TI)(g:TG)(tb:TS):TS:=λD σ H=>wi σ H λJ H1=>∃W:Nat->Nat->St->Hp->Prop,(∃m,W 0 m σ H1)/\∀i m σ H,W i m σ H ->
 (J.stop i H/\D.nx σ H)∨(J.go i H/\∃N:St->Hp->Prop,(∀σ' H',N σ' H'->∃m',m'<m/\W (i+1) m' σ' H')/\∀x H',J.yld i H x H'->g x σ H' λσ2 H2=>tb {D with nx:=N,ct:=N,bk:=D.nx} σ2 H2)
def wC (fp:List ag)(h:fi):List (ag×g_):=fp.filterMap λb=>(h.get? b).map λo=>(b,o)
theorem uq {b:ag}(hb:b∈fp)(e:h.get? b=some o):(b,o)∈wC fp h:=EB.mpr ⟨b,hb,by rw[e];rfl⟩
theorem Vn {p:ag×g_}(hp:p∈wC fp h):p.1∈fp/\h.get? p.1=some p.2:=by
 obtain⟨b,hb,e⟩:=EB.mp hp
 cases q:h.get? b with
 |none=>rw[q]at e;cases e
 |some o=>
  rw[q]at e;have e':(b,o)=p:=ao e;subst e';exact⟨hb,q⟩
theorem zH.pinned (I:zH X pins σ H s)(hf:∀b∈fp,yL X pins H b)(ho:∀b∈fp,∃o,s.heap.get? b=some o/\∀v,o.data≠.cell v):zH X (pins++wC fp s.heap) σ H s :=
 I.pins_of λp hp=>(CQ.mp hp).elim (λz=>I.pin p (dN _ z)) λz=>by
  obtain⟨hb,e⟩:=Vn z;obtain⟨f0,f1,f2,_⟩:=hf p.1 hb;obtain⟨o,e',d⟩:=ho p.1 hb;rw[e]at e';cases e';exact⟨e,f0,f1,f2,d⟩
theorem zH.unpinned {pl:List (ag×g_)}(I:zH X (pins++pl) σ H s):zH X pins σ H s:=I.pins_of λp hp=>I.pin p (dN _ (d9 _ hp))
theorem ue {pos:fW}(hp:KA (aA X.prog X.w) X.A X.env X.xe)(hc:X.calm=true)(hi:PI X tg iter wi)(hg:PG X tg g)(hb:y8 X body tb)(hs:∀x,iO iter X.env x=pure x:=by intro _;rfl):PS X (.For tg iter body [] pos) (bC wi g tb):=by
 intro pins s σ H D I h;refine wpAny_For (yj (hi pins s σ H _ I h) λv s1 h1=>yj h1 λitv s2 h2=>?_) hs;obtain⟨it,fp,tn,J,H2,e,I2,T,Sl,f2,W,⟨m0,w0⟩,turn⟩:=h2;subst e;have stat:∀{H':Hp},(∀b∈fp,H' b=none)->∀b∈fp,yL X pins H' b:=λhn b hb=>⟨hn b hb,(f2 b hb).2⟩;refine codeAny_forLoop_any (λn s'=>∃i σ' H',zH X pins σ' H' s'/\tn i s'.heap/\(∀b∈fp,H' b=none)/\W i n σ' H') ?_ m0 ⟨0,σ,H2,I2,Sl,λb hb=>(f2 b hb).1,w0⟩;rintro n s3 ⟨i,σ3,H3,I3,st3,fr3,w3⟩;rcases turn i n σ3 H3 w3 with⟨stop,qn⟩ |⟨go,N,hN,step⟩
 ·refine i8 hp (yj (T.done X U U U hc i pins s3 σ3 H3 X.xe I3 (stat fr3) st3 stop) λr s4 hM=>?_);obtain⟨hr,I4⟩:=hM;subst hr;exact i6 ⟨σ3,H3,I4,qn⟩
 ·refine i8 hp (yj (T.item X U U U hc i pins s3 σ3 H3 X.xe I3 (stat fr3) st3 go) λr s4 hM=>?_);obtain⟨u,hr,h4⟩:=hM;subst hr;refine i8 hp (yj h4 λ_ s5 hM=>?_);obtain⟨x,H5,I5,r5,y5,st5,fr5⟩:=hM;have I5':=I5.pinned (stat fr5) (T.obj _ _ st5);refine i8 hp (yj (hg _ s5 σ3 H5 x u _ I5' r5 (step x H5 y5)) λ_ s6 hM=>?_);obtain⟨σ6,H6,I6,q6⟩:=hM;refine i8 hp (yj (hb _ s6 σ6 H6 _ I6 q6) λf s7 q7=>?_)
  have again:∀{σ7:St} {H7:Hp},zH X (pins++wC fp s5.heap) σ7 H7 s7->N σ7 H7->∃m,m<n/\∃i σ' H',zH X pins σ' H' s7/\tn i s7.heap/\(∀b∈fp,H' b=none)/\W i m σ' H':=λ{σ7 H7} I7 n7=>by
   obtain⟨m',hm,w7⟩:=hN σ7 H7 n7;refine⟨m',hm,i+1,σ7,H7,I7.unpinned,T.keep _ _ _ st5 λb hb o e=>(I7.pin (b,o) (dN _ (dN _ (uq hb e)))).1,λb hb=>?_,w7⟩;obtain⟨o,e,d⟩:=T.obj _ _ st5 b hb;exact(I7.pin (b,o) (dN _ (dN _ (uq hb e)))).2.1
  cases f with
  |next=>obtain⟨σ7,H7,I7,n7⟩:=q7;exact again I7 n7
  |cont=>obtain⟨σ7,H7,I7,n7⟩:=q7;exact again I7 n7
  |brk=>obtain⟨σ7,H7,I7,q7⟩:=q7;exact⟨σ7,H7,I7.unpinned,q7⟩
  |ret v=>obtain⟨x7,σ7,H7,I7,r7,q7⟩:=q7;exact⟨x7,σ7,H7,I7.unpinned,r7,q7⟩
theorem Y5 {K:BFr}{D:j6}(Pv:Nat->St->Hp->Prop)(h0:Pv 0 σ H)(hl:∀i σ H,i<=xs.length->Pv i σ H->zN K H a xs)(hs:∀i x σ H,xs[i]?=some x->Pv i σ H->g x σ H λσ2 H2=>tb {D with nx:=Pv (i+1),ct:=Pv (i+1),bk:=D.nx} σ2 H2)(hd:∀σ H,Pv xs.length σ H->D.nx σ H):
  ∃W:Nat->Nat->St->Hp->Prop,(∃m,W 0 m σ H)/\∀i m σ H,W i m σ H ->
   ((mW K a).stop i H/\D.nx σ H)∨((mW K a).go i H/\∃N:St->Hp->Prop,(∀σ' H',N σ' H'->∃m',m'<m/\W (i+1) m' σ' H')/\∀x H',(mW K a).yld i H x H'->g x σ H' λσ2 H2=>tb {D with nx:=N,ct:=N,bk:=D.nx} σ2 H2):=by
 refine⟨λi m σ H=>m=xs.length-i/\i<=xs.length/\Pv i σ H,⟨xs.length,by simp,du _,h0⟩,?_⟩;rintro i m σ H ⟨rfl,hi,p⟩;have q:=hl i σ H hi p
 by_cases Sn:i<xs.length
 ·refine .inr ⟨⟨xs,xs[i],q,by simp[Sn]⟩,Pv (i+1),λσ' H' p'=>⟨xs.length-(i+1),by lia,U,Sn,p'⟩,λx H' y=>?_⟩;obtain⟨e,y⟩:=y;subst e;exact hs i x σ _ (y xs q) p
 ·have e:i=xs.length:=by lia
  subst e;exact .inl ⟨⟨xs,q,CI _⟩,hd σ H p⟩
theorem Om {D:j6}(Pv:Nat->St->Hp->Prop)(h0:Pv 0 σ H)(hs:∀i σ H,i<n->Pv i σ H->g (.int (lo+i)) σ H λσ2 H2=>tb {D with nx:=Pv (i+1),ct:=Pv (i+1),bk:=D.nx} σ2 H2)(hd:∀σ H,Pv n σ H->D.nx σ H):
  ∃W:Nat->Nat->St->Hp->Prop,(∃m,W 0 m σ H)/\∀i m σ H,W i m σ H ->
   ((rD lo n).stop i H/\D.nx σ H)∨((rD lo n).go i H/\∃N:St->Hp->Prop,(∀σ' H',N σ' H'->∃m',m'<m/\W (i+1) m' σ' H')/\∀x H',(rD lo n).yld i H x H'->g x σ H' λσ2 H2=>tb {D with nx:=N,ct:=N,bk:=D.nx} σ2 H2):=by
 refine⟨λi m σ H=>m=n-i/\i<=n/\Pv i σ H,⟨n,by simp,du _,h0⟩,?_⟩;rintro i m σ H ⟨rfl,hi,p⟩
 by_cases Sn:i<n
 ·refine .inr ⟨Sn,Pv (i+1),λσ' H' p'=>⟨n-(i+1),by lia,U,Sn,p'⟩,λx H' y=>?_⟩;obtain⟨e,y⟩:=y;subst e y;exact hs i σ _ Sn p
 ·have e:i=n:=by lia
  subst e;exact .inl ⟨CI _,hd σ H p⟩
abbrev R2:=V->V->Hp->VK->Prop
def Zf (X:Cx)(f:ae->ae->Kv ae)(r:R2):Prop :=
 ∀(pins:List (ag×g_)) (s:ar) (σ:St) (H:Hp) (x y:V) (v u:ae) (Q:VK),zH X pins σ H s->qy x v->qy y u->r x y H Q ->
  wpAny (aA X.prog X.w) X.A (f v u) (EP X pins σ Q) X.xe s
def BU (X:Cx)(f:ae->Kv ae)(r:V->Hp->VK->Prop):Prop :=
 ∀(pins:List (ag×g_)) (s:ar) (σ:St) (H:Hp) (x:V) (v:ae) (Q:VK),zH X pins σ H s->qy x v->r x H Q ->
  wpAny (aA X.prog X.w) X.A (f v) (EP X pins σ Q) X.xe s
def uH (X:Cx)(f:ae)(r:List V->Hp->VK->Prop):Prop :=
 ∀(pins:List (ag×g_)) (s:ar) (σ:St) (H:Hp) (xs:List V) (us:List ae) (Q:VK),zH X pins σ H s->qp xs us->r xs H Q ->
  wpAny (aA X.prog X.w) X.A (call f us) (EP X pins σ Q) X.xe s
def vp (r:R2)(ta tb:TE):TE:=λσ H Q=>ta σ H λx H1=>tb σ H1 λy H2=>r x y H2 Q
def Cj (r:V->Hp->VK->Prop)(ta:TE):TE:=λσ H Q=>ta σ H λx H1=>r x H1 Q
inductive rI (C:Int->Int->Prop)(g:Int->Int->V)(x y:V)(H:Hp)(Q:VK):Prop|mk(i j:_)(_:x=.int i)(_:y=.int j)(_:C i j)(_:Q (g i j) H)
inductive WJ (g:Int->Int->V)(x y:V)(H:Hp)(Q:VK):Prop|mk(i j:_)(_:x=.int i)(_:y=.int j)(_:Q (g i j) H)
inductive rU (g:Int->V)(x:V)(H:Hp)(Q:VK):Prop|mk(i:_)(_:x=.int i)(_:Q (g i) H)
section
variable {a b c:aQ}{ta tb tc:TE}{pos:fW}
theorem Ri (ha:PE X a ta)(hb:PE X b tb){R:V->V->Hp->Prop}(I:zH X pins σ H s)(h:ta σ H λx H1=>tb σ H1 λy H2=>R x y H2){f:ae->ae->Kv ae}
  (hf:∀v u s2 x y H2,zH X pins σ H2 s2->qy x v->qy y u->R x y H2->wpAny (aA X.prog X.w) X.A (f v u) Q X.xe s2) :
  wpAny (aA X.prog X.w) X.A (eval a X.env) (λv s₁=>wpAny (aA X.prog X.w) X.A (eval b X.env) (λu s₂=>wpAny (aA X.prog X.w) X.A (f v u) Q X.xe s₂) X.xe s₁) X.xe s:=by
 refine yj (ha pins s σ H _ I h) λv s1 hM=>?_;obtain⟨x,H1,I1,r1,q1⟩:=hM;refine yj (hb pins s1 σ H1 _ I1 q1) λu s2 hM=>?_;obtain⟨y,H2,I2,r2,q2⟩:=hM;exact hf v u s2 x y H2 I2 r1 r2 q2
theorem zu {op:Operator}{r:R2}(ho:Zf X (i3 op) r)(ha:PE X a ta)(hb:PE X b tb):PE X (.BinOp a op b pos) (vp r ta tb):=by
 intro pins s σ H Q I h;exact wpAny_BinOp (Ri ha hb I h λv u s2 x y H2 I2 rx ry q=>ho pins s2 σ H2 x y v u Q I2 rx ry q)
theorem GO {op:UnaryOp}{r:V->Hp->VK->Prop}(ho:BU X (unaryOp op) r)(ha:PE X a ta):PE X (.UnaryOp op a pos) (Cj r ta):=by
 intro pins s σ H Q I h;exact UnaryOp_ (yj (ha pins s σ H _ I h) λv s1 hM=>by obtain⟨x,H1,I1,r1,q1⟩:=hM;exact ho pins s1 σ H1 x v Q I1 r1 q1)
theorem BS {f:ae->ae->Kv ae}{C:Int->Int->Prop}{g:Int->Int->Int}
  (rule:∀(i j:Int) (t u:KS) (s:ar) (Q:ae->ar->Prop) (E:ae->ar->Prop),C i j->Q (.int (g i j) s.toks) {s with toks:=s.toks+1}->wpAny (aA X.prog X.w) X.A (f (.int i t) (.int j u)) Q E s) :
  Zf X f (rI C λi j=>.int (g i j)):=by
 intro pins s σ H x y v u Q I rx ry h;obtain⟨i,j,rfl,rfl,hc,q⟩:=h;obtain⟨t,rfl⟩:=rx;obtain⟨t',rfl⟩:=ry;exact rule i j t t' s _ _ hc ⟨.int (g i j),H,I.tok _,⟨_,U⟩,q⟩
theorem Bi {f:ae->ae->Kv ae}{g:Int->Int->Int}
  (rule:∀(i j:Int) (t u:KS) (s:ar) (Q:ae->ar->Prop) (E:ae->ar->Prop),Q (.int (g i j) s.toks) {s with toks:=s.toks+1}->wpAny (aA X.prog X.w) X.A (f (.int i t) (.int j u)) Q E s) :
  Zf X f (WJ λi j=>.int (g i j)):=by
 intro pins s σ H x y v u Q I rx ry h;obtain⟨i,j,rfl,rfl,q⟩:=h;obtain⟨t,rfl⟩:=rx;obtain⟨t',rfl⟩:=ry;exact rule i j t t' s _ _ ⟨.int (g i j),H,I.tok _,⟨_,U⟩,q⟩
theorem tQ {f:ae->ae->Kv ae}{g:Int->Int->Bool}
  (rule:∀(i j:Int) (t u:KS) (s:ar) (Q:ae->ar->Prop) (E:ae->ar->Prop),Q (.bool (g i j)) s->wpAny (aA X.prog X.w) X.A (f (.int i t) (.int j u)) Q E s) :
  Zf X f (WJ λi j=>.bl (g i j)):=by
 intro pins s σ H x y v u Q I rx ry h;obtain⟨i,j,rfl,rfl,q⟩:=h;obtain⟨t,rfl⟩:=rx;obtain⟨t',rfl⟩:=ry;exact rule i j t t' s _ _ ⟨.bl (g i j),H,I,U,q⟩
def TF (i j:Int):Prop:=0<j/\j<1073741824
def cQ (i j:Int):Prop:=0<=j/\j<=1000000/\i.natAbs<2 ^ 64
def Nu (i j:Int):Prop:=(-(2 ^ 64)<i/\i<2 ^ 64)∨(-(2 ^ 64)<j/\j<2 ^ 64)
theorem Nu.ok {i j:Int}(h:Nu i j):IntMulOk i j:=by
 rcases h with⟨h1,h2⟩ |⟨h1,h2⟩
 ·exact .of_left (intBits_le_64 h1 h2)
 ·exact .of_right (intBits_le_64 h1 h2)
theorem qo:Zf X (i3 .Add) (WJ λi j=>.int (i+j)):=Bi λ_ _ _ _ _ _ _ q=>add_int q
theorem LY:Zf X (i3 .Sub) (WJ λi j=>.int (i-j)):=Bi λ_ _ _ _ _ _ _ q=>sub_int q
theorem uk:Zf X (i3 .Mult) (rI Nu λi j=>.int (i*j)):=BS λ_ _ _ _ _ _ _ hc q=>mul_int q hc.ok
theorem qZ:Zf X (i3 .FloorDiv) (rI TF λi j=>.int (i/j)):=BS λi j _ _ _ _ _ hc q=>by
 have h1:(0:Int)<j:=hc.1;have h2:j<1073741824:=hc.2;exact floordiv_int (by lia) (by rw[Int.fdiv_eq_ediv_of_nonneg i (by lia)];exact q) (.inl (PyProof.noPylong_small (by lia)))
theorem z5:Zf X (i3 .Mod) (rI (λ_ j=>0<j) λi j=>.int (i%j)):=BS λi j _ _ _ _ _ hc q=>by
 have h1:(0:Int)<j:=hc;exact mod_int' (by lia) (by rw[Int.fmod_eq_emod_of_nonneg i (by lia)];exact q)
theorem QX:Zf X (i3 .Pow) (rI cQ λi j=>.int (i ^ j.toNat)):=BS λ_ _ _ _ _ _ _ hc q=>pow_int_small hc.1 hc.2.1 hc.2.2 q
theorem Cv {f:ae->Kv ae}{g:Int->Int}
  (rule:∀(i:Int) (t:KS) (s:ar) (Q:ae->ar->Prop) (E:ae->ar->Prop),Q (.int (g i) s.toks) {s with toks:=s.toks+1}->wpAny (aA X.prog X.w) X.A (f (.int i t)) Q E s) :
  BU X f (rU λi=>.int (g i)):=by
 intro pins s σ H x v Q I rx h;obtain⟨i,rfl,q⟩:=h;obtain⟨t,rfl⟩:=rx;exact rule i t s _ _ ⟨.int (g i),H,I.tok _,⟨_,U⟩,q⟩
theorem U2:BU X (unaryOp .USub) (rU λi=>.int (-i)):=Cv λ_ _ _ _ _ q=>neg_int q
end
def bW:V->V->Bool
 |.non,.non=>true |.non,.int _=>true |.int _,.non=>true |.non,.bl _=>true |.bl _,.non=>true |.non,.str _=>true |.str _,.non=>true
 |.int _,.int _=>true |.bl _,.bl _=>true |.str _,.str _=>true |.byt _,.byt _=>true
 |.int _,.str _=>true |.str _,.int _=>true |.bl _,.str _=>true |.str _,.bl _=>true
 |_,_=>false
def CB:R2:=λx y H Q=>bW x y=true/\Q (.bl (decide (x=y))) H
def Cu:R2:=λx y H Q=>bW x y=true/\Q (.bl (!decide (x=y))) H
theorem GF {i j:Int}:decide (V.int i=V.int j)=(i==j):=by
 rw[DX]
 simp
theorem L6 {i j:Bool}:decide (V.bl i=V.bl j)=(i==j):=by
 rw[DX]
 simp
theorem Gr {i j:af}:decide (V.str i=V.str j)=(i==j):=by
 rw[DX]
 simp
theorem Gf {i j:Array UInt8}:decide (V.byt i=V.byt j)=(i.toList==j.toList):=by
 rw[DX];cases i;cases j
 simp
section
variable {a b c:aQ}{ta tb tc:TE}{pos:fW}
theorem qG {Q:VK}{k k':Bool}(I:zH X pins σ H s)(q:Q (.bl k) H)(e:k=k'):EP X pins σ Q (.bool k') s:=by
 subst e;exact⟨.bl k,H,I,U,q⟩
theorem qw:Zf X (fA .Eq) CB:=by
 intro pins s σ H x y v u Q I rx ry h;obtain⟨hs,q⟩:=h
 cases x with
 |non=>
  cases rx
  cases y with
  |non=>cases ry;exact PySem.EqNone.eq_none_none (qG I q (by simp))
  |bl j=>cases ry;exact PySem.EqNone.eq_none_bool (qG I q (by simp))
  |int j=>obtain⟨t',rfl⟩:=ry;exact PySem.EqNone.eq_none_int (qG I q (by simp))
  |str j=>obtain⟨t',rfl⟩:=ry;exact PySem.EqNone.eq_none_str (qG I q (by simp))
  |_=>exact K7 (show false=true from hs) dq
 |bl i=>
  cases rx
  cases y with
  |non=>cases ry;exact PySem.EqNone.eq_bool_none (qG I q (by simp))
  |bl j=>cases ry;exact eq_bool (qG I q L6)
  |str j=>obtain⟨t',rfl⟩:=ry;exact PySem.EqMixed.eq_bool_str (qG I q (by simp))
  |_=>exact K7 (show false=true from hs) dq
 |int i=>
  obtain⟨t,rfl⟩:=rx
  cases y with
  |non=>cases ry;exact PySem.EqNone.eq_int_none (qG I q (by simp))
  |int j=>obtain⟨t',rfl⟩:=ry;exact eq_int (qG I q GF)
  |str j=>obtain⟨t',rfl⟩:=ry;exact PySem.EqMixed.eq_int_str (qG I q (by simp))
  |_=>exact K7 (show false=true from hs) dq
 |str i=>
  obtain⟨t,rfl⟩:=rx
  cases y with
  |non=>cases ry;exact PySem.EqNone.eq_str_none (qG I q (by simp))
  |bl j=>cases ry;exact PySem.EqMixed.eq_str_bool (qG I q (by simp))
  |int j=>obtain⟨t',rfl⟩:=ry;exact PySem.EqMixed.eq_str_int (qG I q (by simp))
  |str j=>obtain⟨t',rfl⟩:=ry;exact eq_str (qG I q Gr)
  |_=>exact K7 (show false=true from hs) dq
 |byt i=>
  obtain⟨t,rfl⟩:=rx
  cases y with
  |byt j=>obtain⟨t',rfl⟩:=ry;exact PySem.W.eq_bytes (qG I q Gf)
  |_=>exact K7 (show false=true from hs) dq
 |_=>cases y<;>exact K7 (show false=true from hs) dq
theorem uB:Zf X (fA .NotEq) Cu:=by
 intro pins s σ H x y v u Q I rx ry h;obtain⟨hs,q⟩:=h
 cases x with
 |non=>
  cases rx
  cases y with
  |non=>cases ry;exact PySem.EqNone.ne_none_none (qG I q (by simp))
  |bl j=>cases ry;exact PySem.EqNone.ne_none_bool (qG I q (by simp))
  |int j=>obtain⟨t',rfl⟩:=ry;exact PySem.EqNone.ne_none_int (qG I q (by simp))
  |str j=>obtain⟨t',rfl⟩:=ry;exact PySem.EqNone.ne_none_str (qG I q (by simp))
  |_=>exact K7 (show false=true from hs) dq
 |bl i=>
  cases rx
  cases y with
  |non=>cases ry;exact PySem.EqNone.ne_bool_none (qG I q (by simp))
  |bl j=>cases ry;exact ne_bool (qG I q (K4 not L6))
  |str j=>obtain⟨t',rfl⟩:=ry;exact PySem.EqMixed.ne_bool_str (qG I q (by simp))
  |_=>exact K7 (show false=true from hs) dq
 |int i=>
  obtain⟨t,rfl⟩:=rx
  cases y with
  |non=>cases ry;exact PySem.EqNone.ne_int_none (qG I q (by simp))
  |int j=>obtain⟨t',rfl⟩:=ry;exact ne_int (qG I q (K4 not GF))
  |str j=>obtain⟨t',rfl⟩:=ry;exact PySem.EqMixed.ne_int_str (qG I q (by simp))
  |_=>exact K7 (show false=true from hs) dq
 |str i=>
  obtain⟨t,rfl⟩:=rx
  cases y with
  |non=>cases ry;exact PySem.EqNone.ne_str_none (qG I q (by simp))
  |bl j=>cases ry;exact PySem.EqMixed.ne_str_bool (qG I q (by simp))
  |int j=>obtain⟨t',rfl⟩:=ry;exact PySem.EqMixed.ne_str_int (qG I q (by simp))
  |str j=>obtain⟨t',rfl⟩:=ry;exact ne_str (qG I q (K4 not Gr))
  |_=>exact K7 (show false=true from hs) dq
 |byt i=>
  obtain⟨t,rfl⟩:=rx
  cases y with
  |byt j=>obtain⟨t',rfl⟩:=ry;exact PySem.W.ne_bytes (qG I q (K4 not Gf))
  |_=>exact K7 (show false=true from hs) dq
 |_=>cases y<;>exact K7 (show false=true from hs) dq
theorem wO:Zf X (fA .Lt) (WJ λi j=>.bl (decide (i<j))):=tQ λ_ _ _ _ _ _ _ q=>lt_int q
theorem Jt:Zf X (fA .LtE) (WJ λi j=>.bl (decide (i<=j))):=tQ λ_ _ _ _ _ _ _ q=>le_int q
theorem vX:Zf X (fA .Gt) (WJ λi j=>.bl (decide (j<i))):=tQ λ_ _ _ _ _ _ _ q=>gt_int q
inductive vB (x y:V)(H:Hp)(Q:VK):Prop|mk(i j:_)(_:x=.str i)(_:y=.str j)(_:Q (.bl (!(Builtin.Str.occurrences j i 0 j.length 1).isEmpty)) H)
theorem Qx:Zf X (fA .In) vB:=by
 intro pins s σ H x y v u Q I rx ry h;obtain⟨i,j,rfl,rfl,q⟩:=h;obtain⟨t,rfl⟩:=rx;obtain⟨t',rfl⟩:=ry;exact in_str (qG I q U)
theorem pB:Zf X (fA .Is) (λx y H Q=>y=.non/\Q (.bl (decide (x=.non))) H):=by
 intro pins s σ H x y v u Q I rx ry h;obtain⟨rfl,q⟩:=h;cases ry;refine is_none_gen (qG I q ?_)
 cases x<;>first
  | (cases rx;rfl)
  | (obtain⟨t,rfl⟩:=rx;rfl)
theorem Mx:Zf X (fA .IsNot) (λx y H Q=>y=.non/\Q (.bl (!decide (x=.non))) H):=by
 intro pins s σ H x y v u Q I rx ry h;obtain⟨rfl,q⟩:=h;cases ry;refine isnot_none_gen (qG I q ?_)
 cases x<;>first
  | (cases rx;rfl)
  | (obtain⟨t,rfl⟩:=rx;rfl)
inductive jj (x y:V)(H:Hp)(Q:VK):Prop|mk(i j:_)(_:x=.str i)(_:y=.str j)(_:Q (.bl (!(!(Builtin.Str.occurrences j i 0 j.length 1).isEmpty))) H)
theorem wA:Zf X (fA .NotIn) jj:=by
 intro pins s σ H x y v u Q I rx ry h;obtain⟨i,j,rfl,rfl,q⟩:=h;obtain⟨t,rfl⟩:=rx;obtain⟨t',rfl⟩:=ry;exact notIn_str (qG I q U)
theorem zD (b:aQ)(h:op≠.In:=by decide)(h2:op≠.NotIn:=by decide):Ap op b=false:=by
 have e1:(op==CmpOp.In)=false:=by cases op<;>first |rfl |exact K7 rfl h
 have e2:(op==CmpOp.NotIn)=false:=by cases op<;>first |rfl |exact K7 rfl h2
 cases b<;>simp[Ap,e1,e2]
theorem qS {r:R2}(ho:Zf X (fA op) r)(ha:PE X a ta)(hb:PE X b tb)(hm:Ap op b=false):PE X (.Compare a [op] [b] pos) (vp r ta tb):=by
 intro pins s σ H Q I h;exact wpAny_Compare1 (Ri ha hb I h λv u s2 x y H2 I2 rx ry q=>ho pins s2 σ H2 x y v u Q I2 rx ry q) hm
inductive Gn (Q:(Bool->Hp->Prop))(x:V)(H':Hp):Prop|mk(k:_)(_:x=.bl k)(_:Q k H')
def JD (t:TE):TT:=λσ H Q=>t σ H (Gn Q)
theorem zx {r:R2}(ho:Zf X (fA op) r)(ha:PE X a ta)(hb:PE X b tb)(hm:Ap op b=false):PT X (.Compare a [op] [b] pos) (JD (vp r ta tb)):=by
 intro pins s σ H Q I h;refine wpAny_isTrue_Compare1 (yj (ha pins s σ H _ I h) λv s1 hM=>?_) hm;obtain⟨x,H1,I1,r1,q1⟩:=hM;refine yj (hb pins s1 σ H1 _ I1 q1) λu s2 hM=>?_;obtain⟨y,H2,I2,r2,q2⟩:=hM;refine yj (ho pins s2 σ H2 x y v u _ I2 r1 r2 q2) λc s3 hM=>?_;obtain⟨z,H3,I3,r3,k,e,q3⟩:=hM;subst e;cases r3;exact fN ⟨H3,I3,q3⟩
inductive Wq (r':R2)(tc:TE)(σ:St)(Q:VK)(y z:V)(H3:Hp):Prop|mk(k:_)(_:z=.bl k)(_:(if k=true then tc σ H3 λw' H4=>r' y w' H4 Q else Q (.bl false) H3))
def t7 (r r':R2)(ta tb tc:TE):TE:=λσ H Q=>ta σ H λx H1=>tb σ H1 λy H2=>r x y H2 (Wq r' tc σ Q y)
theorem Lf {op':CmpOp}{r r':R2}(ho:Zf X (fA op) r)(SM:Zf X (fA op') r')(ha:PE X a ta)(hb:PE X b tb)(hc:PE X c tc)(hm:lastMarks [op,op'] [b,c]=false:=by with_unfolding_all rfl):PT X (.Compare a [op,op'] [b,c] pos) (JD (t7 r r' ta tb tc)):=by
 intro pins s σ H Q I h;refine isTrue_chain (yj (ha pins s σ H _ I h) λv s1 hM=>?_) hm;obtain⟨x,H1,I1,r1,q1⟩:=hM;refine test_link (yj (hb pins s1 σ H1 _ I1 q1) λu s2 hM=>?_);obtain⟨y,H2,I2,r2,q2⟩:=hM;refine yj (ho pins s2 σ H2 x y v u _ I2 r1 r2 q2) λd s3 hM=>?_;obtain⟨z,H3,I3,r3,k,e,q3⟩:=hM;subst e;cases r3;refine fN ?_
 cases k with
 |false=>
  obtain⟨k',e',q'⟩:=q3
  cases e'
  exact ite_ff ⟨H3,I3,q'⟩
 |true=>
  refine ite_tt (test_last (yj (hc pins s3 σ H3 _ I3 q3) λw' s4 hM=>?_));obtain⟨z',H4,I4,r4,q4⟩:=hM;refine yj (SM pins s4 σ H4 y z' u w' _ I4 r2 r4 q4) λd' s5 hM=>?_;obtain⟨z2,H5,I5,r5,k2,e2,q5⟩:=hM;subst e2;cases r5;exact fN ⟨H5,I5,q5⟩
theorem Zy:(au:Nat)<2 ^ 63:=by rw[ai];decide
inductive kK (x y:V)(H:Hp)(Q:VK):Prop|mk(i j:_)(_:x=.str i)(_:y=.str j)(_:i.length+j.length<=au)(_:Q (.str (i++j)) H)
theorem zT:Zf X (i3 .Add) kK:=by
 intro pins s σ H x y v u Q I rx ry h;obtain⟨i,j,rfl,rfl,hz,q⟩:=h;obtain⟨t,rfl⟩:=rx;obtain⟨t',rfl⟩:=ry;exact add_str (λt' tk=>⟨.str (i++j),H,I.tok _,⟨_,U⟩,q⟩) hz
theorem kA {x:V}{us:List ae}(r:qp [x] us):∃u,us=[u]/\qy x u:=by
 cases r with
 |cons r1 r2=>cases r2;exact⟨_,U,r1⟩
theorem bw {x:V}{us:List ae}(r:qp [x,y] us):∃u w',us=[u,w']/\qy x u/\qy y w':=by
 cases r with
 |cons r1 r2=>
  cases r2 with
  |cons r3 r4=>cases r4;exact⟨_,_,U,r1,r3⟩
inductive jk (xs:List V)(H:Hp)(Q:VK):Prop|mk(i:_)(_:xs=[.int i])(_:i.natAbs.log2<1920)(_:Q (.str (toString i)) H)
theorem qh:uH X (.type "str") jk:=by
 intro pins s σ H xs us Q I r h;obtain⟨i,rfl,hz,q⟩:=h;obtain⟨u,rfl,t,rfl⟩:=kA r;exact PySem.P.str_of_int hz ⟨.str _,H,I.tok _,⟨_,U⟩,q⟩
end
structure Xa (h:fi)(x dx C:ag)(mA:af->Option ae):Prop where
 obj:h.get? x=some (f6 C dx)
 ns:h.Ns1 dx mA
 ne:dx≠x
theorem OA (n:h.Ns1 dx mA):∃od,h.get? dx=some od/\∀name,Ac name od=some (mA name):=by
 obtain⟨o,es,ep,ho,hd,hk,_,hm⟩:=n;refine⟨o,ho,λname=>?_⟩;have e:=hm name;unfold nsFind findBy at e;rw[<- Array.find?_toList]at e;unfold Ac;rw[hd];dsimp only;split
 ·rename_i y q;rw[q]at e;exact K4 some e
 ·rename_i q;rw[q]at e
  have a:es.toList.any (·.refKey)=false:=by
   rw[List.any_eq_false];intro y hy;obtain⟨z,t,hkey⟩:=hk y (Array.mem_toList_iff.mp hy)
   simp[DictEntry.refKey,hkey]
  have a':¬es.toList.any (·.refKey)=true:=by rw[a];exact dq
  rw[K5 a'];exact K4 some e
theorem Xa.look {x:ag}(I:Xa h x dx C mA):∃od,Kq h x (f6 C dx) C (some od)/\∀name,Ac name od=some (mA name) :=
 let ⟨od,ho,hl⟩:=OA I.ns
 ⟨od,⟨I.obj,U,U,ho⟩,hl⟩
section
variable {K:BFr}{x:ag}{name:af}{v:ae}
theorem N6 {expr:Bool}(X:K.In s.heap)(I:Xa s.heap x dx C mA)(hg:sr K C name=true)(hh:Ak K C=true)(ha:aM K (.ref C) name=some none)(hv:mA name=some v)(hv':Ib v=true)(h:Q v {s with toks:=s.toks+1}):
  wpAny (aA prog w) A (getAttr (.ref x) name expr) Q E s:=by
 obtain⟨od,J,hl⟩:=I.look;exact PySem.W.get_value X J (sO hg).1 (PySem.W.findObj_own hh ha U (by rw[hl,hv])) hv' h
theorem pN {pl:Kv Bool}{Q:ae×List ae->ar->Prop}(X:K.In s.heap)(I:Xa s.heap x dx C mA)(hg:sr K C name=true)(hf:aM K (.ref C) name=some (some (.ref f)))(ht:Hz K (.ref f)=true)(hv:mA name=none)(h:Q (.ref f,[.ref x]) s):
  wpAny (aA prog w) A (sm (.ref x) name pl) Q E s:=by
 obtain⟨od,J,hl⟩:=I.look;exact PySem.W.method_fn X J (sO hg).1 (sO hg).2 hf (beq_iff_eq.mp ht) (by show(Ac name od).map (·.isSome)=some false;rw[hl,hv];rfl) h
theorem Mu {ns:List af}{Q:Unit->ar->Prop}(X:K.In s.heap)(I:Xa s.heap x dx C mA)(hs:BfS K C)(hp:HG K C=true)(ht:A4 K C name=some none)(hh:Ak K C=true)(hw:Hy mA ns)(hsz:ns.length<=au)(h:∀h',Xa h' x dx C (λy=>if y=name then some v else mA y)->fB dx s.heap h'->Q () {s with heap:=h',toks:=s.toks+2}):
  wpAny (aA prog w) A (setAttr (.ref x) name v) Q E s:=by
 obtain⟨od,J,hl⟩:=I.look;refine PySem.W.set_plain X J hs (PySem.W.osa_open (s:={s with toks:=s.toks+1}) (r:=none) X J hp ht λb=>?_);obtain⟨cd,hc,T_⟩:=PySem.W.any_some hh;have hx:s.heap.get? x=some ⟨.ref C,some dx,.plain,#[]⟩:=I.obj;refine aa (aj (aa (aa (IY hx (aa (PySem.W.Looks.here (s:={s with toks:=s.toks+1}) (PySem.W.looks_clsIn X hc) ?_))))));rw[T_];refine aj (a:=some dx) (aa (aj (aa ?_)));refine wpAny_nsSet1 (s:={s with toks:=s.toks+1}) I.ns λh' hn2 hs2=>?_;obtain⟨oD,esD,epD,hoD,hdD,hcD⟩:=hn2.count (PySem.Within.cons name v hw);refine aa (wpAny_lookBehind hoD (by rw[hdD];exact pastItsLine_dict (CW hcD (by rw[dz];lia))) ?_);exact aj (h _ ⟨(hs2.2 _ (fK I.ne)).trans I.obj,hn2,I.ne⟩ hs2)
theorem LD {vs:List ae}(X:K.In s.heap)(hm:iU K C=true)(hi:aM K (.ref C) "__init__" = some (some (.ref f)))(hf:PySem.W.typeIn K (.ref f)=some (.type "function"))(h:codeAny (aA prog w) (A.under (.builtin "type.__call__" ⟨.ref C::vs,kw⟩)) (.call (.ref f) ⟨.ref (s.heap.objs.size+1)::vs,kw⟩) (PySem.W.InitBack (s.heap.objs.size+1) R)
   {s with heap:=(s.heap.push fH).push (f6 C s.heap.objs.size)}) :
  codeAny (aA prog w) A (.call (.ref C) ⟨vs,kw⟩) R s:=by
 obtain⟨hh,g,d,t,os⟩:=s;exact PySem.W.make_core (PySem.W.makes_of X hm) (PySem.W.looks_findIn X hi) (λself=>PySem.W.bind_fn X self hf) (.inl U) h
end
def j7 (f:af)(v:V):List (af×V)->List (af×V)
 |[]=>[(f,v)]
 | (g,x)::r=>if g=f then (g,v)::r else (g,x)::j7 f v r
theorem Yd (f g:af)(v:V):∀fs:List (af×V),(j7 f v fs).lookup g=if g=f then some v else fs.lookup g
 |[]=>by
  show iH g [(f,v)]=_
  by_cases h:g=f
  ·have hb:(g==f)=true:=beq_iff_eq.mpr h;simp only[iH,hb,K6 h]
  ·have hb:(g==f)=false:=beq_eq_false_iff_ne.mpr h;simp only[iH,hb,K5 h]
 | (k,x)::r=>by
  have ih:=Yd f g v r;rw[show j7 f v ((k,x)::r)=(if k=f then (k,v)::r else (k,x)::j7 f v r) from rfl]
  by_cases hk:k=f
  ·rw[K6 hk]
   by_cases h:g=k
   ·have hb:(g==k)=true:=beq_iff_eq.mpr h;simp only[iH,hb,K6 (h.trans hk)]
   ·have hb:(g==k)=false:=beq_eq_false_iff_ne.mpr h;simp only[iH,hb,K5 (λe:g=f=>h (e.trans hk.symm))]
  ·rw[K5 hk]
   by_cases h:g=k
   ·have hb:(g==k)=true:=beq_iff_eq.mpr h;simp only[iH,hb,K5 (λe:g=f=>hk (h.symm.trans e))]
   ·have hb:(g==k)=false:=beq_eq_false_iff_ne.mpr h;simp only[iH,hb];exact ih
theorem QJ (f:af)(v:V):∀fs:List (af×V),f∈(j7 f v fs).map (·.1)/\∀g,g∈fs.map (·.1)->g∈(j7 f v fs).map (·.1)
 |[]=>⟨by simp[j7],λg h=>by simp at h⟩
 | (k,x)::r=>by
  obtain⟨i1,i2⟩:=QJ f v r;rw[show j7 f v ((k,x)::r)=(if k=f then (k,v)::r else (k,x)::j7 f v r) from rfl]
  by_cases hk:k=f
  ·rw[K6 hk];subst hk;exact⟨by simp,λg h=>by simpa using h⟩
  ·rw[K5 hk];refine⟨?_,λg h=>?_⟩
   ·rw[dv];exact C6 _ i1
   ·rw[dv]at h ⊢;rcases CJ.mp h with e |e
    ·exact CJ.mpr (.inl e)
    ·exact C6 _ (i2 g e)
theorem Yg (f:af)(v:V):∀fs:List (af×V),(j7 f v fs).length<=fs.length+1
 |[]=>by simp[j7]
 | (k,x)::r=>by
  have ih:=Yg f v r;rw[show j7 f v ((k,x)::r)=(if k=f then (k,v)::r else (k,x)::j7 f v r) from rfl]
  by_cases hk:k=f
  ·rw[K6 hk,dz,dz];lia
  ·rw[K5 hk,dz,dz];lia
theorem wU.some_of {o:Option ae}(r:wU (some v) o):∃u,o=some u/\qy v u:=by
 cases o with
 |none=>exact(show False from r).elim
 |some u=>exact⟨u,U,r⟩
theorem wU.none_of {o:Option ae}(r:wU none o):o=none:=by
 cases o with
 |none=>rfl
 |some u=>exact(show False from r).elim
theorem oZ (r:qy v u):Ib u=true:=by
 cases v with
 |non=>cases (show u=aN from r);rfl
 |bl b=>cases (show u=fO b from r);rfl
 |int i=>obtain⟨t,e⟩:=(show ∃t,u=iC i t from r);cases e;rfl
 |str x=>obtain⟨t,e⟩:=(show ∃t,u=AI x t from r);cases e;rfl
 |byt b=>obtain⟨t,e⟩:=(show ∃t,u=Value.bytes b t from r);cases e;rfl
 |flt b=>obtain⟨t,e⟩:=(show ∃t,u=Iw b t from r);cases e;rfl
 |ref a=>cases (show u=aF a from r);rfl
 |ty n=>cases (show u=fU n from r);rfl
section
variable {fs fs':List (af×V)}
theorem YL (hok:ZD P w H h)(e:H a=some (.ins C dx fs)):∃mA,Xa h a dx C mA/\(∀f,wU (fs.lookup f) (mA f))/\Hy mA (fs.map (·.1))/\fs.length<=1000/\H dx=some (.own a):=by
 obtain⟨d,z,ne,ob,mA,n,r,q⟩:=(show yC P w H h a (.ins C dx fs) from hok a _ e);exact⟨mA,⟨ob,n,ne⟩,r,q,z,d⟩
end
structure Yz (K:BFr)(C:ag):Prop where
 pg:sr K C Ia=true
 hd:Ak K C=true
 po:HG K C=true
 sa:BfS K C
theorem Yz.get {K:BFr}(c:Yz K C)(f:af):sr K C f=true:=c.pg
def yD (K:BFr)(C:ag)(f:af):Prop:=aM K (.ref C) f=some none
theorem yD.taker {K:BFr}{f:af}(n:yD K C f):A4 K C f=some none:=by
 unfold A4;rw[show aM K (.ref C) f=some none from n];rfl
structure xX (K:BFr)(C:ag)(m:af)(f:ag):Prop where
 at_:aM K (.ref C) m=some (some (.ref f))
 fn:Hz K (.ref f)=true
 kp:fe K (.ref f)=true
section
variable {fs:List (af×V)}{f:af}
theorem gi (I:zH X pins σ H s)(e:H a=some (.ins C dx fs))(c:Yz X.K C)(n:yD X.K C f)(l:fs.lookup f=some v)(h:∀u s',zH X pins σ H s'->qy v u->Q u s'):wpAny (aA X.prog X.w) A (getAttr (.ref a) f b) Q E s:=by
 obtain⟨mA,O,r,_,_,_⟩:=YL I.hok e;obtain⟨u,hu,ru⟩:=wU.some_of (v:=v) (o:=mA f) (by rw[<- l];exact r f);exact N6 I.kIn O (c.get f) c.hd n hu (oZ ru) (h u _ (I.tok _) ru)
theorem Zr {m:af}{g:ag}{pl:Kv Bool}{Q:ae×List ae->ar->Prop}(I:zH X pins σ H s)(e:H a=some (.ins C dx fs))(c:Yz X.K C)(k:xX X.K C m g)(l:fs.lookup m=none)(h:Q (.ref g,[.ref a]) s):wpAny (aA X.prog X.w) A (sm (.ref a) m pl) Q E s:=by
 obtain⟨mA,O,r,_,_,_⟩:=YL I.hok e;have hn:mA m=none:=wU.none_of (by rw[<- l];exact r m);exact pN I.kIn O (c.get m) k.at_ k.fn hn h
theorem xQ {Q:Unit->ar->Prop}(I:zH X pins σ H s)(e:H a=some (.ins C dx fs))(c:Yz X.K C)(n:yD X.K C f)(hl:fs.length<1000)(ry:qy y u)(h:∀s',zH X pins σ (upd H a (.ins C dx (j7 f y fs))) s'->Q () s'):wpAny (aA X.prog X.w) A (setAttr (.ref a) f u) Q E s:=by
 obtain⟨mA,O,r,wi,_,ho⟩:=YL I.hok e;have hz:(fs.map (·.1)).length<=au:=by rw[CH,ai];lia
 refine Mu I.kIn O c.sa c.po n.taker c.hd wi hz λh' O' sb=>h _ ?_;have hd:∃o,h'.get? dx=some o:=let ⟨o,_,_,e',_⟩:=O'.ns;⟨o,e'⟩
 refine I.write (x:=a) (e:=dx) (by rw[e];exact f9) (.inr ho) (λb q hb z=>(sb.2 b hb).trans z) hd ?_;refine⟨by rw[zm O.ne];exact ho,?_,O.ne,O'.obj,_,O'.ns,λg=>?_,λg hg=>?_⟩
 ·have:=Yg f y fs;lia
 ·show wU ((j7 f y fs).lookup g) (if g=f then some u else mA g);rw[Yd]
  by_cases q:g=f
  ·rw[K6 q,K6 q];exact ry
  ·rw[K5 q,K5 q];exact r g
 ·by_cases q:g=f
  ·rw[q];exact(QJ f y fs).1
  ·refine(QJ f y fs).2 g (wi g λz=>hg ?_);show(if g=f then some u else mA g)=none;rw[K5 q];exact z
theorem zH.made (I:zH X pins σ H s):zH X pins σ (upd (upd H s.heap.objs.size (.own (s.heap.objs.size+1))) (s.heap.objs.size+1) (.ins C s.heap.objs.size []))
  {s with heap:=(s.heap.push fH).push (f6 C s.heap.objs.size)}:=by
 have e1:(s.heap.push fH).get? s.heap.objs.size=some fH:=dA s.heap rfl
 have e2:((s.heap.push fH).push (f6 C s.heap.objs.size)).get? (s.heap.objs.size+1)=some (f6 C s.heap.objs.size):=by
  have:=dA (s.heap.push fH) (o:=f6 C s.heap.objs.size) rfl
  rwa [DF]at this
 have e3:(s.heap.push fH).Ns s.heap.objs.size (λ_=>none):=⟨fH,#[],_,e1,U,(λe he=>K7 he (by simp)),λ_=>rfl⟩;have I1:=I.laid (a:=s.heap.objs.size) (o:=.own (s.heap.objs.size+1)) (h':=s.heap.push fH) (t':=s.toks) (λb u q=>dc _ q) (CI _) ⟨_,e1⟩;refine I1.laid (a:=s.heap.objs.size+1) (o:=.ins C s.heap.objs.size []) (t':=s.toks) (λb u q=>dc _ q) (Dy (DF _ _)) ?_;have ne:s.heap.objs.size≠s.heap.objs.size+1:=de (DG _);refine⟨by rw[zm ne,zi],du _,ne,e2,λ_=>none,(Heap.Ns1.of_empty e3).at λo q=>dc _ q,λ_=>f9,λy hy=>K7 U hy⟩
theorem M8 {f:af}{pos:fW}(hb:sH e f env (eval e env)=eval e env)(h:wpAny (aA prog w) A (eval e env) (λo s₁=>wpAny (aA prog w) A (getAttr o f true) Q E s₁) E s):wpAny (aA prog w) A (eval (.Attribute e f pos) env) Q E s :=
 Attribute_any_ h (by rw[arm_eval_Attribute,hb])
end
inductive pF (K:BFr)(f:af)(Q:VK)(x:V)(H1:Hp):Prop|mk(a C dx fs v:_)(_:x=.ref a)(_:H1 a=some (.ins C dx fs))(_:Yz K C)(_:yD K C f)(_:fs.lookup f=some v)(_:Q v H1)
def MO (K:BFr)(ta:TE)(f:af):TE:=λσ H Q=>ta σ H (pF K f Q)
inductive Pb (K:BFr)(f:af)(D:j6)(σ:St)(y x:V)(H2:Hp):Prop|mk(a C dx fs:_)(_:x=.ref a)(_:H2 a=some (.ins C dx fs))(_:Yz K C)(_:yD K C f)(_:fs.length<1000)(_:D.nx σ (upd H2 a (.ins C dx (j7 f y fs))))
variable {tv:L2.TE}
def cJ (K:BFr)(ta tv:TE)(f:af):TS:=λD σ H=>tv σ H λy H1=>ta σ H1 (Pb K f D σ y)
section
variable {o:aQ}{f:af}{pos:fW}{ta:TE}
theorem z7 (he:PE X e ta)(hb:sH e f X.env (eval e X.env)=eval e X.env):PE X (.Attribute e f pos) (MO X.K ta f):=by
 intro pins s σ H Q I h;refine M8 hb (yj (he pins s σ H _ I h) λu s1 hM=>?_);obtain⟨x,H1,I1,rx,a,C,dx,fs,v,ex,ea,c,n,l,q⟩:=hM;subst ex;obtain rfl:u=aF a:=rx;exact gi I1 ea c n l λu' s2 I2 ru=>⟨v,H1,I2,ru,q⟩
theorem yP (ha:PE X o ta)(hv:PE X value tv)(hs:Az value (some (.Attribute o f R_)) pos.line X.env=pure false):PS X (.Assign [.Attribute o f R_] value pos) (cJ X.K ta tv f):=by
 intro pins s σ H D I h;refine plainObj_wpAny_Assign_Attribute (yj (hv pins s σ H _ I h) λu s1 hM=>?_) hs;obtain⟨y,H1,I1,ry,q⟩:=hM;refine yj (ha pins s1 σ H1 _ I1 q) λov s2 hM=>?_;obtain⟨x,H2,I2,rx,a,C,dx,fs,ex,ea,c,n,l,q2⟩:=hM;subst ex;obtain rfl:ov=aF a:=rx;exact xQ I2 ea c n l ry λs3 I3=>⟨σ,_,I3,q2⟩
theorem rM {pl:Kv Bool}{m:af}{args:List aQ}(he:PE X e te)(I:zH X pins σ H s)(h:te σ H λx H1=>∃a C dx fs g,x=.ref a/\H1 a=some (.ins C dx fs)/\Yz X.K C/\xX X.K C m g/\fs.lookup m=none /\
   ∀s1,zH X pins σ H1 s1->wpAny (aA X.prog X.w) X.A (t_ pos (.ref g) [.ref a] (ff pos (ax args X.env)) (i4 pos (hG [] X.env))) Q X.xe s1) (ht:eval (.Call (.Attribute e m M_) args [] pos) X.env=(do
   let ov <- eval e X.env
   Fv M_.atName
   let (f,first) <- Fx [ov] (sm ov m pl)
   t_ pos f first (ff pos (ax args X.env)) (i4 pos (hG [] X.env)))) :
  wpAny (aA X.prog X.w) X.A (eval (.Call (.Attribute e m M_) args [] pos) X.env) Q X.xe s:=by
 refine iN (pl:=pl) (yj (he pins s σ H _ I h) λu s1 hM=>?_) ht;obtain⟨x,H1,I1,rx,a,C,dx,fs,g,ex,ea,c,k,l,q⟩:=hM;subst ex;obtain rfl:u=aF a:=rx;exact Zr I1 ea c k l (q s1 I1)
end
section
variable {c:ae}
inductive vN (K:BFr)(H:Hp):V->ae->Prop where
 |non:vN K H .non (.type "NoneType")
 |bl (x:Bool):vN K H (.bl x) (.type "bool")
 |int (i:Int):vN K H (.int i) (.type "int")
 |str (x:af):vN K H (.str x) (.type "str")
 |flt (x:UInt64):vN K H (.flt x) (.type "float")
 |lst {a:ag} {xs:List V} (e:H a=some (.lst xs)):vN K H (.ref a) (.type "list")
 |frz {a:ag} {o:g_} {xs:List V} (e:H a=some (.frz o (.lst xs))):vN K H (.ref a) (.type "list")
 |tup {a:ag} {xs:List V} (e:H a=some (.tup xs)):vN K H (.ref a) (.type "tuple")
 |dK {a:ag} {kvs:List (yY×V)} (e:H a=some (.dK kvs)):vN K H (.ref a) (.type "dict")
 |dT {a:ag} {kvs:List (List yY×V)} (e:H a=some (.dT kvs)):vN K H (.ref a) (.type "dict")
 |ins {a C dx:ag} {fs:List (af×V)} (e:H a=some (.ins C dx fs)) (cl:Yz K C) (ha:BfC K C) (hn:hW K (.builtin "object.__class__") "__get__" = some (some (.builtin "getset_descriptor.__get__"))) (htk:A5 K (.builtin "object.__class__")=some true) (hm:iZ K C (.type "object")=some true):vN K H (.ref a) (.ref C)
theorem Ot {x:V}{t:ae}(I:zH X pins σ H s)(rx:qy x u)(ty:vN X.K H x t)(e:aE X.K t c=some b)(h:∀tk,Q (.bool b) {s with toks:=tk}):
  wpAny (aA X.prog X.w) A (call (.builtin "isinstance") [u,c]) Q E s:=by
 cases ty with
 |non=>cases (show u=aN from rx);exact c_ PySem.W.kitx_none I.kIn f9 e (λz=>nomatch z) h
 |bl y=>cases (show u=fO y from rx);exact c_ PySem.W.kitx_bool I.kIn f9 e (λz=>nomatch z) h
 |int i=>obtain⟨t,q⟩:=(show ∃t,u=iC i t from rx);cases q;exact c_ PySem.W.kitx_int I.kIn f9 e (λz=>nomatch z) h
 |str y=>obtain⟨t,q⟩:=(show ∃t,u=AI y t from rx);cases q;exact c_ PySem.W.kitx_str I.kIn f9 e (λz=>nomatch z) h
 |flt y=>obtain⟨t,q⟩:=(show ∃t,u=Iw y t from rx);cases q;exact c_ PySem.W.kitx_float I.kIn f9 e (λz=>nomatch z) h
 |@lst a xs ea=>
  cases (show u=aF a from rx)
  obtain⟨_,_,n,_,h1⟩:=(show yC X.prog X.w H s.heap a (.lst xs) from I.hok a _ ea);exact c_ HH I.kIn ⟨_,h1,U⟩ e (λz=>nomatch z) h
 |@frz a ob xs ea=>
  cases (show u=aF a from rx)
  obtain⟨_,_,_,n,_,h1⟩:=(show yC X.prog X.w H s.heap a (.frz ob (.lst xs)) from I.hok a _ ea);exact c_ HH I.kIn ⟨_,h1,U⟩ e (λz=>nomatch z) h
 |@tup a xs ea=>
  cases (show u=aF a from rx)
  obtain⟨_,_,_,p⟩:=(show yC X.prog X.w H s.heap a (.tup xs) from I.hok a _ ea);obtain⟨o,h1,h2,_⟩:=p;exact c_ PySem.W.kitx_tuple I.kIn ⟨o,h1,h2⟩ e (λz=>nomatch z) h
 |@dK a kvs ea=>
  cases (show u=aF a from rx)
  obtain⟨_,_,vs,_,p⟩:=(show yC X.prog X.w H s.heap a (.dK kvs) from I.hok a _ ea);obtain⟨o,es,ep,h1,h2,_⟩:=p;exact c_ HI I.kIn ⟨o,h1,h2.1⟩ e (λz=>nomatch z) h
 |@dT a kvs ea=>
  cases (show u=aF a from rx)
  obtain⟨_,_,xs,_,o,es,ep,h1,h2,_⟩:=(show yC X.prog X.w H s.heap a (.dT kvs) from I.hok a _ ea);exact c_ HI I.kIn ⟨o,h1,h2.1⟩ e (λz=>nomatch z) h
 |@ins a C dx fs ea cl ha hn htk hm=>
  cases (show u=aF a from rx)
  obtain⟨mA,O,_⟩:=YL I.hok ea;obtain⟨od,J,_⟩:=O.look;exact c_ (PySem.W.kitx_own (cl.get _) cl.hd ha hn htk hm) I.kIn J e (λz=>nomatch z) h
end
structure jd (k:Nat)(A:iG):Prop where
 hd:A.handled=none
 dp:A.depth+3*k+5<u_
 un:A.units+16*k+200<hZ
theorem jd.mono {k:Nat}(r:jd k A)(h:j<=k):jd j A:=⟨r.hd,by have:=r.dp;lia,by have:=r.un;lia⟩
theorem jd.deeper {k:Nat}(r:jd (k+1) A)(env:Fu):jd k (A.deeper env) :=
 ⟨r.hd,by have:=r.dp;show A.depth+1+3*k+5<_;lia,by have:=r.un;show A.units+3+16*k+200<_;lia⟩
theorem gb {us:List ae}:(A.under (.builtin "type.__call__" ⟨.ref C::us,kw⟩)).depth=A.depth+1:=by
 first |rfl |simp[HJ,Code.weight,Code.isCreation,Code.isGuard,Code.isCaller,Code.frames,HK,guardIds]
theorem gm {us:List ae}:(A.under (.builtin "type.__call__" ⟨.ref C::us,kw⟩)).units=A.units+1:=by
 first |rfl |simp[HJ,Code.cUnits,Code.frames,HK]
theorem jd.make {k:Nat}(r:jd (k+1) A)(C:ag)(us:List ae)(kw:List (af×ae)):jd k (A.under (.builtin "type.__call__" ⟨.ref C::us,kw⟩)) :=
 ⟨r.hd,by have:=r.dp;rw[gb];lia,by have:=r.un;rw[gm];lia⟩
theorem jd.depth {k:Nat}(r:jd k A):A.depth<u_:=by have:=r.dp;lia
theorem jd.units {k:Nat}(r:jd k A):A.units+64<hZ:=by have:=r.un;lia
def y6:TA:=λ_ H Q=>Q [] H
def qN (ta:TE)(tr:TA):TA:=λσ H Q=>ta σ H λx H1=>tr σ H1 λxs H2=>Q (x::xs) H2
section
variable {es:List aQ}{t:TA}{pos:fW}
theorem zd:PA X [] y6:=λ_ _ _ _ H Q I h=>r_ ⟨[],H,I,.nil,h⟩
theorem za (ha:PE X e te)(hr:PA X es t)(hs:ax (e::es) X.env=(false,eval e X.env)::ax es X.env:=by exact zW U):PA X (e::es) (qN te t):=by
 intro pos pins s σ H Q I h;rw[hs];show wpAny _ _ (KI ((false,eval e X.env)::ff pos (ax es X.env))) _ _ s;refine iJ (yj (ha pins s σ H _ I h) λu s1 hM=>?_);obtain⟨x,H1,I1,r1,q1⟩:=hM;exact yj (hr pos pins s1 σ H1 _ I1 q1) λus s2 hM=>by obtain⟨xs,H2,I2,r2,q2⟩:=hM;exact⟨x::xs,H2,I2,.cons r1 r2,q2⟩
end
abbrev Sp:=List V->Hp->VK->XK->Prop
abbrev ZK:=List Fu->Hp->ar->XK->ae->ar->Prop
structure WW (P:aU)(w:aP)(K:BFr)(mg:af->Option ae)(base:fi)(A:iG)(outer:List Fu)(s:ar)(H:Hp):Prop where
 frames:A.frames=some outer
 mod:Mod K mg base
 bs:∀b o,base.get? b=some o->s.heap.get? b=some o/\H b=none
 bsz:base.objs.size<=s.heap.objs.size
 funs:s.heap.FunFrames base outer
 frf:∀b∈oY outer,H b=none
 hok:ZD P w H s.heap
 bare:sR s.gens
inductive CE (outer:List Fu)(P:aU)(w:aP)(H:Hp)(s:ar)(Q:VK)(u:ae)(s':ar):Prop|mk(v H':_)(_:s'.os=s.os)(_:sR s'.gens)(_:Un (oY outer) [] H H' s.heap s'.heap)(_:ZD P w H' s'.heap)(_:qy v u)(_:Q v H')
variable {CX:L2.ZK}
def CR (CX:ZK)(outer:List Fu)(P:aU)(w:aP)(H:Hp)(s:ar)(Q:VK)(E:XK)(r:Kw)(s':ar):Prop :=
 match r with
 |.ok (.ret u)=>CE outer P w H s Q u s'
 |.ok _=>False
 |.error e=>CX outer H s E e s'
variable {sp:L2.Sp}
structure zL (P:aU)(w:aP)(K:BFr)(mg:af->Option ae)(base:fi)(CX:ZK)(k:Nat)(f:ag)(fd:AA)(ps:List af)(sp:Sp):Prop where
 len:∀vs H Q E,sp vs H Q E->vs.length=ps.length
 run:∀(A:iG) (outer:List Fu) (s:ar) (H:Hp) (args:Args) (us:List ae) (vs:List V) (Q:VK) (E:XK),jd k A->WW P w K mg base A outer s H->Hk s fd args (ps.zip us)->qp vs us->sp vs H Q E ->
  codeAny (aA P w) A (.call (.ref f) args) (CR CX outer P w H s Q E) s
theorem zL.mono {K:BFr}{mg:af->Option ae}{k:Nat}{ps:List af}(F:zL P w K mg base CX j f fd ps sp)(h:j<=k):
  zL P w K mg base CX k f fd ps sp:=⟨F.len,λA outer s H args us vs Q E hr=>F.run A outer s H args us vs Q E (hr.mono h)⟩
theorem zL.imp {K:BFr}{mg:af->Option ae}{k:Nat}{ps:List af}{sp':Sp}(F:zL P w K mg base CX k f fd ps sp)(h:∀vs H Q E,sp' vs H Q E->sp vs H Q E):zL P w K mg base CX k f fd ps sp' :=
 ⟨λvs H Q E q=>F.len vs H Q E (h _ _ _ _ q),λA outer s H args us vs Q E hr he hb hv hs=>F.run A outer s H args us vs Q E hr he hb hv (h _ _ _ _ hs)⟩
theorem WW.make {K:BFr}{mg:af->Option ae}(e:WW P w K mg base A outer s H)(C:ag)(us:List ae)(kw:List (af×ae)):
  WW P w K mg base (A.under (.builtin "type.__call__" ⟨.ref C::us,kw⟩)) outer s H:=⟨by first |exact e.frames | (simpa [HJ,Code.envs,HK,pushEnvs] using e.frames),e.mod,e.bs,e.bsz,e.funs,e.frf,e.hok,e.bare⟩
theorem zH.env0 (I:zH X pins σ H s):WW X.prog X.w X.K X.mg X.base X.A X.stack s H :=
 ⟨I.ok.frames,I.ok.mod,I.bs,CW I.ok.bsz I.sz,I.stack,I.stkFree,I.hok,I.bare⟩
theorem zH.after {Q:VK}(I:zH X pins σ H s)(h:CE X.stack X.prog X.w H s Q u s'):EP X pins σ Q u s':=by
 obtain⟨v,H',os,bare,un,hok,r,q⟩:=h;obtain⟨hh,g,d,t,os'⟩:=s';obtain rfl:os'=s.os:=os;exact⟨v,H',I.call (h':=hh) (g':=g) (d':=d) (t':=t) (ch:=[]) un hok bare (λb z=>K7 z (by simp)),r,q⟩
def rP (sp:Sp)(dvs:List V)(E:XK)(t:TA):TE:=λσ H Q=>t σ H λvs H1=>sp (vs++dvs) H1 Q E
inductive gT (C:ag)(m:af)(sp:Sp)(dvs:List V)(E:XK)(t:TA)(σ:St)(Q:VK)(x:V)(H1:Hp):Prop|mk(a dx fs:_)(_:x=.ref a)(_:H1 a=some (.ins C dx fs))(_:fs.lookup m=none)(_:t σ H1 λvs H2=>sp (x::(vs++dvs)) H2 Q E)
def LR (C:ag)(m:af)(sp:Sp)(dvs:List V)(E:XK)(ta:TE)(t:TA):TE:=λσ H Q=>ta σ H (gT C m sp dvs E t σ Q)
def Ge (C:ag)(sp:Sp)(dvs:List V)(E:XK)(t:TA):TE:=λσ H Q=>t σ H λvs H1=>∀x dx,H1 x=none->H1 dx=none->dx≠x ->
 sp (.ref x::(vs++dvs)) (upd (upd H1 dx (.own x)) x (.ins C dx [])) (λv H2=>v=.non/\Q (.ref x) H2) E
def vK (K:BFr)(fd:AA)(ps:List af)(ds:List ae):Prop :=
 ∀(s:ar) (us:List ae),K.In s.heap->(us++ds).length=ps.length->Hk s fd ⟨us,[]⟩ (ps.zip (us++ds))
theorem vK.all {K:BFr}{ps:List af}(h:∀us:List ae,us.length=ps.length->Hl fd ⟨us,[]⟩=pure (ps.zip us)):vK K fd ps []:=λs us _ hl=>by
 rw[dF]at hl ⊢;exact .of_eq (h us hl)
def yW (CX:ZK)(X:Cx)(E:XK):Prop:=∀(pins:List (ag×g_)) (σ:St) (H:Hp) (s:ar) (e:ae) (s':ar),zH X pins σ H s->CX X.stack H s E e s'->X.xe e s'
section
variable {k:Nat}{ps:List af}{dvs:List V}{ds:List ae}{E:XK}{m:af}{p pos:fW}{o:aQ}{es:List aQ}{ta:TE}{t:TA}
theorem U5 {Q:VK}{us:List ae}{vs:List V}(F:zL X.prog X.w X.K X.mg X.base CX k f fd ps sp)(hr:jd k X.A)(hb:vK X.K fd ps ds)(hd:qp dvs ds)(hx:yW CX X E)(I:zH X pins σ H s)(r:qp vs us)(h:sp (vs++dvs) H Q E):wpAny (aA X.prog X.w) X.A (call (.ref f) us) (EP X pins σ Q) X.xe s:=by
 have r2:qp (vs++dvs) (us++ds):=r.append hd;have hl:(us++ds).length=ps.length:=by rw[<- r2.length];exact F.len _ _ _ _ h
 refine AQ (ir (F.run X.A X.stack s H ⟨us,[]⟩ (us++ds) (vs++dvs) Q E hr I.env0 (hb s us I.kIn hl) r2 h) λr s' hq=>?_)
 cases r with
 |error e=>exact hx pins σ H s e s' I hq
 |ok fl=>
  cases fl with
  |ret u=>exact I.after hq
  |next=>exact b_ hq
  |brk=>exact b_ hq
  |cont=>exact b_ hq
theorem Nk (F:zL X.prog X.w X.K X.mg X.base CX k f fd ps sp)(hr:jd k X.A)(hg:Gl X x)(hm:X.mg x=some (.ref f))(hk:fe X.K (.ref f)=true)(hb:vK X.K fd ps ds)(hd:qp dvs ds)(hx:yW CX X E)(ha:PA X (e::es) t)(Sd:(x==("__debug__":af))=false:=by decide)(he:ax (e::es) X.env=(false,eval e X.env)::ax es X.env:=by exact zW U)(Sa:(ff pos (ax es X.env)).any (·.1)=false:=by exact yF U):
  PE X (.Call (.Name x p) (e::es) [] pos) (rP sp dvs E t):=by
 intro pins s σ H Q I h;refine h_ (jW I hg hm ?_ Sd);refine iK (h₀:=X.base) I.ok.mod.kin hk (yj (ha pos pins s σ H _ I h) λus s1 hM=>?_) he Sa;obtain⟨vs,H1,I1,r,q⟩:=hM;refine⟨I1.kIn,?_⟩;exact U5 F hr hb hd hx I1 r q
theorem nZ {pl:Kv Bool}(he:PE X o ta)(c:Yz X.K C)(hm:xX X.K C m f)(F:zL X.prog X.w X.K X.mg X.base CX k f fd ps sp)(hr:jd k X.A)(hb:vK X.K fd ps ds)(hd:qp dvs ds)(hx:yW CX X E)(ha:PA X (e::es) t)(SN:ax (e::es) X.env=(false,eval e X.env)::ax es X.env:=by exact zW U)(Sa:(ff pos (ax es X.env)).any (·.1)=false:=by exact yF U)(ht:eval (.Call (.Attribute o m M_) (e::es) [] pos) X.env=(do
   let ov <- eval o X.env
   Fv M_.atName
   let (f,first) <- Fx [ov] (sm ov m pl)
   t_ pos f first (ff pos (ax (e::es) X.env)) (i4 pos (hG [] X.env))):=by rfl) :
  PE X (.Call (.Attribute o m M_) (e::es) [] pos) (LR C m sp dvs E ta t):=by
 intro pins s σ H Q I h;refine iN (pl:=pl) (yj (he pins s σ H _ I h) λu s1 hM=>?_) ht;obtain⟨x,H1,I1,rx,a,dx,fs,ex,ea,l,q⟩:=hM;subst ex;obtain rfl:u=aF a:=rx;refine Zr I1 ea c hm l ?_;refine iK (first:=[.ref a]) (h₀:=X.base) I.ok.mod.kin hm.kp (yj (ha pos pins s1 σ H1 _ I1 q) λus s2 hM=>?_) SN Sa;obtain⟨vs,H2,I2,r,q2⟩:=hM;refine⟨I2.kIn,?_⟩;exact U5 (us:=.ref a::us) (vs:=.ref a::vs) F hr hb hd hx I2 (.cons U r) q2
theorem mB {pl:Kv Bool}(he:PE X o ta)(c:Yz X.K C)(hm:xX X.K C m f)(F:zL X.prog X.w X.K X.mg X.base CX k f fd ps sp)(hr:jd k X.A)(hb:vK X.K fd ps ds)(hd:qp dvs ds)(hx:yW CX X E)(ht:eval (.Call (.Attribute o m M_) [] [] pos) X.env=(do
   let ov <- eval o X.env
   Fv M_.atName
   let (f,first) <- Fx [ov] (sm ov m pl)
   t_ pos f first (ff pos (ax [] X.env)) (i4 pos (hG [] X.env))):=by rfl) :
  PE X (.Call (.Attribute o m M_) [] [] pos) (LR C m sp dvs E ta y6):=by
 intro pins s σ H Q I h;refine iN (pl:=pl) (yj (he pins s σ H _ I h) λu s1 hM=>?_) ht;obtain⟨x,H1,I1,rx,a,dx,fs,ex,ea,l,q⟩:=hM;subst ex;obtain rfl:u=aF a:=rx;refine Zr I1 ea c hm l ?_;exact FH (first:=[.ref a]) I1.kIn hm.kp (U5 (us:=[.ref a]) (vs:=[.ref a]) F hr hb hd hx I1 (.cons U .nil) q)
structure Mk (K:BFr)(C f:ag):Prop where
 makes:iU K C=true
 init:aM K (.ref C) "__init__" = some (some (.ref f))
 fn:Hz K (.ref f)=true
 kp:fe K (.ref C)=true
theorem U7 {Q:VK}{us:List ae}{vs:List V}(M:Mk X.K C f)(F:zL X.prog X.w X.K X.mg X.base CX k f fd ps sp)(hr:jd (k+1) X.A)(hb:vK X.K fd ps ds)(hd:qp dvs ds)(hx:yW CX X E)(I:zH X pins σ H s)(r:qp vs us)(h:∀x dx,H x=none->H dx=none->dx≠x->sp (.ref x::(vs++dvs)) (upd (upd H dx (.own x)) x (.ins C dx [])) (λv H2=>v=.non/\Q (.ref x) H2) E):
  wpAny (aA X.prog X.w) X.A (call (.ref C) us) (EP X pins σ Q) X.xe s:=by
 have hq:=h (s.heap.objs.size+1) s.heap.objs.size (I.hok.fresh (Nat.le_succ _)) (I.hok.fresh (CI _)) (de (DG _));have I2:=zH.made (C:=C) I;have r2:qp (V.ref (s.heap.objs.size+1)::(vs++dvs)) (aF (s.heap.objs.size+1)::(us++ds)):=.cons rfl (r.append hd)
 have hl:(aF (s.heap.objs.size+1)::us++ds).length=ps.length:=by
  have e:=r2.length;rw[F.len _ _ _ _ hq]at e;exact e.symm
 refine AQ (LD (f:=f) I.kIn M.makes M.init (beq_iff_eq.mp M.fn) (ir (F.run _ X.stack _ _ ⟨aF (s.heap.objs.size+1)::us,[]⟩ (aF (s.heap.objs.size+1)::(us++ds)) _ _ E (hr.make C us [])
  (I2.env0.make C us []) (hb _ (aF (s.heap.objs.size+1)::us) I2.kIn hl) r2 hq) λr s' hq'=>?_))
 cases r with
 |error e=>exact hx pins σ _ _ e s' I2 hq'
 |ok fl=>
  cases fl with
  |ret u=>
   obtain⟨v,H',I3,rv,ev,q3⟩:=I2.after hq';subst ev;exact⟨rv,⟨V.ref (s.heap.objs.size+1),H',I3,U,q3⟩⟩
  |next=>exact b_ hq'
  |brk=>exact b_ hq'
  |cont=>exact b_ hq'
theorem MI (M:Mk X.K C f)(F:zL X.prog X.w X.K X.mg X.base CX k f fd ps sp)(hr:jd (k+1) X.A)(hg:Gl X x)(hm:X.mg x=some (.ref C))(hb:vK X.K fd ps ds)(hd:qp dvs ds)(hx:yW CX X E)(ha:PA X (e::es) t)(Sd:(x==("__debug__":af))=false:=by decide)(he:ax (e::es) X.env=(false,eval e X.env)::ax es X.env:=by exact zW U)(Sa:(ff pos (ax es X.env)).any (·.1)=false:=by exact yF U):
  PE X (.Call (.Name x p) (e::es) [] pos) (Ge C sp dvs E t):=by
 intro pins s σ H Q I h;refine h_ (jW I hg hm ?_ Sd);refine iK (h₀:=X.base) I.ok.mod.kin M.kp (yj (ha pos pins s σ H _ I h) λus s1 hM=>?_) he Sa;obtain⟨vs,H1,I1,r,q⟩:=hM;refine⟨I1.kIn,?_⟩;exact U7 M F hr hb hd hx I1 r q
theorem LM (M:Mk X.K C f)(F:zL X.prog X.w X.K X.mg X.base CX k f fd ps sp)(hr:jd (k+1) X.A)(hg:Gl X x)(hm:X.mg x=some (.ref C))(hb:vK X.K fd ps ds)(hd:qp dvs ds)(hx:yW CX X E)(Sd:(x==("__debug__":af))=false:=by decide):PE X (.Call (.Name x p) [] [] pos) (Ge C sp dvs E y6):=by
 intro pins s σ H Q I h;refine h_ (jW I hg hm ?_ Sd);exact FH I.kIn M.kp (U7 (us:=[]) M F hr hb hd hx I .nil h)
end
def PK (X:Cx)(kws:List AR)(t:TA):Prop :=
 ∀(pos:fW) (pins:List (ag×g_)) (s:ar) (σ:St) (H:Hp) (Q:List V->Hp->Prop),zH X pins σ H s->t σ H Q->wpAny (aA X.prog X.w) X.A (evalAll ((i4 pos (hG kws X.env)).map (·.2))) (AP X pins σ Q) X.xe s
section
variable {k:Nat}{ps ks:List af}{E:XK}{m:af}{p pos:fW}{o:aQ}{es:List aQ}{kws:List AR}{ta:TE}{t tk:TA}{nm:Option af}
variable {g:List ae->List ae->List ae}{gV:List V->List V->List V}
end
structure uw (N P:List af)(sc:sZ):Prop where
 kind:sc.kind=.function
 co:sc.isCoroutine=false
 gen:sc.isGenerator=false
 nd:N.Nodup
 pre:N.take P.length=P
 par:∀x∈P,sc.names.lookup x=some .local∨sc.names.lookup x=some .cell
 nofree:∀y∈sc.names,y.2≠.free
theorem VQ {kindOf:af->Option Hm}:∀{binds:List (af×ae)} {m:af->Option ae},(∀v,(x,v)∉binds)->IZ kindOf binds m x=m x
 |[],_,_=>rfl
 | (n,v)::r,m,h=>by
  unfold IZ;rw[VQ λw hw=>h w (C6 _ hw)];split
  ·have:x≠n:=by rintro rfl;exact h v CU
   simp[this]
  ·rfl
theorem Vz {kindOf:af->Option Hm}:∀{binds:List (af×ae)} {m:af->Option ae},(∀v,(x,v)∉binds)->I_ kindOf binds m x=m x
 |[],_,_=>rfl
 | (n,v)::r,m,h=>by
  unfold I_;rw[Vz λw hw=>h w (C6 _ hw)];split
  ·rfl
  ·have:x≠n:=by rintro rfl;exact h v CU
   simp[this]
theorem Vp {kindOf:af->Option Hm}{v:ae}:∀{P:List af} {vs:List ae} {i:Nat} {m:af->Option ae},P.Nodup->P[i]?=some x->vs[i]?=some v->kindOf x=some .local ->
  IZ kindOf (P.zip vs) m x=some v
 |[],_,_,_,_,h,_,_=>by simp at h
 |_::_,[],_,_,_,_,h,_=>by simp at h
 |p::P,w::vs,0,m,nd,h1,h2,hk=>by
  simp at h1 h2;subst h1;subst h2
  show IZ kindOf ((p,w)::P.zip vs) m p=_;unfold IZ;rw[VQ λv hv=>(Da.mp nd).1 (DY hv).1,K6 hk]
  simp
 |p::P,w::vs,i+1,m,nd,h1,h2,hk=>by
  show IZ kindOf ((p,w)::P.zip vs) m x=_;unfold IZ;exact Vp (i:=i) (Da.mp nd).2 (by simpa using h1) (by simpa using h2) hk
theorem VN {kindOf:af->Option Hm}{v:ae}:∀{P:List af} {vs:List ae} {i:Nat} {m:af->Option ae},P.Nodup->P[i]?=some x->vs[i]?=some v->kindOf x≠some .local ->
  I_ kindOf (P.zip vs) m x=some v
 |[],_,_,_,_,h,_,_=>by simp at h
 |_::_,[],_,_,_,_,h,_=>by simp at h
 |p::P,w::vs,0,m,nd,h1,h2,hk=>by
  simp at h1 h2;subst h1;subst h2
  show I_ kindOf ((p,w)::P.zip vs) m p=_;unfold I_;rw[Vz λv hv=>(Da.mp nd).1 (DY hv).1,K5 hk]
  simp
 |p::P,w::vs,i+1,m,nd,h1,h2,hk=>by
  show I_ kindOf ((p,w)::P.zip vs) m x=_;unfold I_;exact VN (i:=i) (Da.mp nd).2 (by simpa using h1) (by simpa using h2) hk
def uT (N:List af)(vs:List V):St:=vs.map some++aW (N.length-vs.length) none
def u5 (CX:ZK)(P:aU)(w:aP)(K:BFr)(mg:af->Option ae)(base:fi)(N:List af)(qual:af)(scope:sZ)(f:ag)(cd:ae)(A:iG)(outer:List Fu)(s:ar)(H:Hp)(E:XK):Cx where
 prog:=P
 w:=w
 K:=K
 mg:=mg
 base:=base
 A:=A.deeper (aT qual scope s.heap.objs.size f cd)
 N:=N
 s₀:=s
 H₀:=H
 env:=aT qual scope s.heap.objs.size f cd
 outer:=outer
 stack:=aT qual scope s.heap.objs.size f cd::outer
 ex:=[]
 calm:=true
 fn:=λ_=>true
 pn:=[]
 xe:=λe s'=>wpAny (aA P w) (A.deeper (aT qual scope s.heap.objs.size f cd)) (leaving (aT qual scope s.heap.objs.size f cd) e) (λ_ s''=>CX outer H s E e s'') (λe' s''=>CX outer H s E e' s'') s'
theorem xc {sc:sZ}(h:sc.names.lookup x=some .cell):∃c,(HV n sc.names []).lookup x=some c:=by
 have q:=sd sc.names n [] (.inl h);exact DH.mp q
theorem Vi {K:BFr}{mg:af->Option ae}{ps:List af}{s1:ar}{E:XK}{us:List ae}{vs:List V}
  (S:uw N ps scope) (hd:A.handled=none) (e0:WW P w K mg base A outer s H) (hl:vs.length=ps.length) (r:qp vs us) (x:InCallC s s.heap.objs.size (IZ (aT qual scope s.heap.objs.size f cd).kindOf (ps.zip us) λ_=>none) (HV (s.heap.objs.size+1) scope.names []) (I_ (aT qual scope s.heap.objs.size f cd).kindOf (ps.zip us) λ_=>none) s1) :
  zH (u5 CX P w K mg base N qual scope f cd A outer s H E) [] (uT N vs) H s1:=by
 have Sa:ps.length<=N.length:=by have:=K4 fJ S.pre;rw[dH]at this;lia
 obtain⟨h1,tk,rfl,hk⟩:=x.done;have noA:∀b:ag,b∉(u5 CX P w K mg base N qual scope f cd A outer s H E).ex:=λb z=>K7 (show b∈([]:List ag) from z) (by simp)
 refine⟨⟨e0.mod,S.kind,U,U,CI _,λy z c h1 h2=>?_,λy hy=>?_,λy c _ h=>?_,λ_=>hd,Fi e0.frames,.inr ⟨U,U⟩,λb z=>K7 z (noA b),e0.bs,e0.bsz,λb _ _=>noA b,λb z=>K7 z (noA b),e0.funs,e0.frf⟩,
  rfl,e0.bare,Un.kept hk,⟨_,x.toInCall.ns,λi y v h1 h2 h3=>?_⟩,λy c h=>⟨_,x.cell y c h⟩,e0.hok.fresh (CI _),λy c h=>?_,λp hp=>K7 (show p∈([]:List (ag×g_)) from hp) (by simp),e0.hok.kept hk,?_⟩
 ·exact name_of_addr x.apart (fD h1) (fD h2)
 ·have hy:scope.names.lookup y=some .cell∨scope.names.lookup y=some .free:=hy;rcases hy with hy |hy
  ·exact xc hy
  ·exact K7 rfl (S.nofree _ (fD hy))
 ·exact eK (x.above y c (fD h))
 ·have hi:i<vs.length:=by
   unfold uT at h2
   by_cases hi:i<vs.length
   ·exact hi
   ·rw[dZ (by simpa using hi)]at h2;rw[List.getElem?_replicate]at h2
    split at h2<;>cases h2
  have ha:vs[i]?=some v:=by
   unfold uT at h2;rw[Dh (by simpa using hi),CO]at h2
   cases e:vs[i]? with
   |none=>rw[e]at h2;cases h2
   |some a=>rw[e]at h2;cases h2;rfl
  obtain⟨u,hu,rv⟩:=r.get ha
  have hp:ps[i]?=some y:=by
   rw[<- S.pre,EC (by lia)];exact h1
  have ndP:ps.Nodup:=by rw[<- S.pre];exact S.nd.sublist (ED _ _)
  refine⟨u,rv,?_⟩;rcases S.par y (dG hp) with k |k
  ·exact .inl ⟨k,Vp ndP hp hu k⟩
  ·obtain⟨c,e⟩:=xc (n:=s.heap.objs.size+1) k;refine .inr ⟨.inl k,c,e,?_⟩;have q:=x.cell y c e;rw[VN ndP hp hu (by show scope.names.lookup y≠_;rw[k];decide)]at q;exact q
 ·exact e0.hok.fresh (eK (x.above y c (fD h)))
 ·unfold uT;show _=N.length;rw[CS,CH,EF];lia
theorem mU {K:BFr}{mg:af->Option ae}{k:Nat}{name:af}{dV kV Sf K9 ct oc:ae}{an od:Option ag}
  {S0:Array (Option ae)} {N ps:List af} {sp:Sp} (lk:K.lookup f=some ⟨oc,od,.func (se name qual params body scope dV kV Sf pm an K9 ct),S0⟩) (Sy:Fj K K9 qual=true) (S:uw N ps scope) (len:∀vs H Q E,sp vs H Q E->vs.length=ps.length) (Sh:∀(A:iG) (outer:List Fu) (s:ar) (H:Hp) (vs:List V) (Q:VK) (E:XK),jd k (A.deeper (aT qual scope s.heap.objs.size f K9))->sp vs H Q E ->
   ∃t,y8 (u5 CX P w K mg base N qual scope f K9 A outer s H E) body t/\t {nx:=λ_ H'=>Q .non H',rt:=Q} (uT N vs) H) :
  zL P w K mg base CX (k+1) f (se name qual params body scope dV kV Sf pm an K9 ct) ps sp:=by
 refine⟨len,λA outer s H args us vs Q E hr e0 hb r SO=>?_⟩;have hl:=len _ _ _ _ SO;have KX:K.In s.heap:=e0.mod.kin.keeps λb o e=>(e0.bs b o e).1;have lim:s.heap.NoLimit:=e0.mod.nolimit.keeps λb o e=>(e0.bs b o e).1
 have hkind:∀y∈ps.zip us,scope.names.lookup y.1=some .local∨(scope.names.lookup y.1=some .cell/\((HV (s.heap.objs.size+1) scope.names []).lookup y.1).isSome=true):=fun⟨n,v⟩ hy=>by
  rcases S.par n (DY hy).1 with q |q
  ·exact .inl q
  ·exact .inr ⟨q,sd _ _ _ (.inl q)⟩
 refine A6 hr.depth (KX _ _ lk) rfl S.co S.gen rfl (F_ KX Sy) (hb _ _ _ _ ?_);refine v_ S.kind hkind λenv he s1 x=>?_;subst he;refine⟨lim.keeps x.toInCall.keep,codeAny_func ?_⟩;obtain⟨t,ht,hq⟩:=Sh A outer s H vs Q E (hr.deeper _) SO;have I:zH (u5 CX P w K mg base N qual scope f K9 A outer s H E) [] (uT N vs) H s1:=Vi S hr.hd e0 hl r x;refine fh (ht [] s1 (uT N vs) H _ I hq) (λfl s' hs=>?_) λe s' hs=>hs
 have K_:∀{σ':St} {H':Hp} {v:V} {u:ae},zH (u5 CX P w K mg base N qual scope f K9 A outer s H E) [] σ' H' s'->qy v u->Q v H'->CE outer P w H s Q u s' :=
  λ{σ' H' v u} J rv q=>⟨v,H',J.os,J.bare,J.base,J.hok,rv,q⟩
 cases fl with
 |ret u=>
  obtain⟨v,σ',H',J,rv,q⟩:=hs;exact K_ J rv q
 |next=>
  obtain⟨σ',H',J,q⟩:=hs;exact K_ (v:=V.non) (u:=aN) J rfl q
 |brk=>
  obtain⟨_,_,_,q⟩:=hs;exact b_ q
 |cont=>
  obtain⟨_,_,_,q⟩:=hs;exact b_ q
section
variable {p pos:fW}{es:List aQ}{t:TA}{id T:String}{r:List V->Hp->VK->Prop}
def tP (r:List V->Hp->VK->Prop)(t:TA):TE:=λσ H Q=>t σ H λvs H1=>r vs H1 Q
theorem zv (hc:uH X (.builtin id) r)(hg:Gl X x)(hm:X.mg x=none)(hv:fz x=some (.builtin id))(ha:PA X (e::es) t)(hn:x≠"__name__":=by decide)(Sd:(x==("__debug__":af))=false:=by decide)(he:ax (e::es) X.env=(false,eval e X.env)::ax es X.env:=by exact zW U)(Sa:(ff pos (ax es X.env)).any (·.1)=false:=by exact yF U):PE X (.Call (.Name x p) (e::es) [] pos) (tP r t):=by
 intro pins s σ H Q I h;refine h_ (wG I hg hm hv ?_ hn Sd);exact iD (yj (ha pos pins s σ H _ I h) λus s1 hM=>by obtain⟨vs,H1,I1,r1,q1⟩:=hM;exact hc pins s1 σ H1 vs us Q I1 r1 q1) he Sa
theorem zZ (hc:uH X (.type T) r)(hg:Gl X x)(hm:X.mg x=none)(hv:fz x=some (.type T))(ha:PA X (e::es) t)(hn:x≠"__name__":=by decide)(Sd:(x==("__debug__":af))=false:=by decide)(he:ax (e::es) X.env=(false,eval e X.env)::ax es X.env:=by exact zW U)(Sa:(ff pos (ax es X.env)).any (·.1)=false:=by exact yF U):PE X (.Call (.Name x p) (e::es) [] pos) (tP r t):=by
 intro pins s σ H Q I h;refine h_ (wG I hg hm hv ?_ hn Sd);exact fL (yj (ha pos pins s σ H _ I h) λus s1 hM=>by obtain⟨vs,H1,I1,r1,q1⟩:=hM;exact hc pins s1 σ H1 vs us Q I1 r1 q1) he Sa
end
end L2
variable {v:L2.V}
namespace HT
open PySem PyProof.Rows
section
open PySem.SeqAt
open PySem.AutoSeq1 (wpAny_loadPart')
open PySem.MeetsSeq PySem.MeetsSeq2 PySem.MeetsSeq3
end
def Yj (n d:Nat):Option Int->Nat
 |none=>d
 |some v=>if v<0 then (v+(n:Int)).toNat else min v.toNat n
theorem kH (n d:Nat):Yj n d none=d:=rfl
theorem wg (n d k:Nat):Yj n d (some (k:Int))=min k n:=by
 show(if (k:Int)<0 then ((k:Int)+(n:Int)).toNat else min (k:Int).toNat n)=min k n;rw[K5 (by lia),dP]
theorem Ts (n d:Nat)(hd:d<=n)(o:Option Int):Yj n d o<=n:=by
 cases o with
 |none=>exact hd
 |some v=>
  show(if v<0 then (v+(n:Int)).toNat else min v.toNat n)<=n
  by_cases hv:v<0
  ·rw[K6 hv];lia
  ·rw[K5 hv];exact Nat.min_le_right _ _
end HT
variable {H H' H1 H2:L2.Hp}{X:L2.Cx}{σ:L2.St}{te:L2.TE}{p2 K':fW}{xs ys:List L2.V}{y:L2.V}{K_:List L2.V->L2.Hp->Prop}{kvs:List (L2.yY×L2.V)}
namespace L2
open PySem PySem.Spec PyProof.Rows
abbrev TO:=St->Hp->(Option Int->Hp->Prop)->Prop
def PO (X:Cx)(e:Option aQ)(t:TO):Prop :=
 ∀(pins:List (ag×g_)) (s:ar) (σ:St) (H:Hp) (Q:Option Int->Hp->Prop),zH X pins σ H s->t σ H Q ->
  wpAny (aA X.prog X.w) X.A (evalPart e X.env) (λu s'=>∃o H',zH X pins σ H' s'/\KU u o/\Q o H') X.xe s
def ZI:TO:=λ_ H Q=>Q none H
inductive GC (Q:(Option Int->Hp->Prop))(x:V)(H1:Hp):Prop|mk(i:_)(_:x=.int i)(_:Q (some i) H1)
def JQ (t:TE):TO:=λσ H Q=>t σ H (GC Q)
section
variable {lo hi:Option aQ}{tl th:TO}{pos:fW}
theorem qA:PO X none ZI:=by
 intro pins s σ H Q I h;rw[evalPart_none];exact aj ⟨none,H,I,.none,h⟩
theorem qm (h:PE X e te):PO X (some e) (JQ te):=by
 intro pins s σ H Q I hw;rw[evalPart_some];refine yj (h pins s σ H _ I hw) λu s1 hM=>?_;obtain⟨x,H1,I1,r1,q1⟩:=hM;obtain⟨i,rfl,q⟩:=q1;obtain⟨t,rfl⟩:=r1;exact⟨some i,H1,I1,.int i t,q⟩
def cC (X:Cx)(r:V->Option Int->Option Int->Hp->VK->Prop):Prop :=
 ∀(pins:List (ag×g_)) (s:ar) (σ:St) (H:Hp) (x:V) (v vl vu:ae) (lo hi:Option Int) (sl:ag) (Q:VK),zH X pins σ H s->qy x v->s.heap.IsSliceOf sl vl vu .none->KU vl lo->KU vu hi->r x lo hi H Q ->
  ∃T id,J_ (.type T) "__getitem__" = pure (some (.builtin id))/\s.TypeIs v T/\wpAny (aA X.prog X.w) X.A (Hn v (.ref sl)) (EP X pins σ Q) X.xe s
def TR (r:V->Option Int->Option Int->Hp->VK->Prop)(te:TE)(tl th:TO):TE:=λσ H Q=>te σ H λx H1=>tl σ H1 λl H2=>th σ H2 λu H3=>r x l u H3 Q
theorem z8 {r:V->Option Int->Option Int->Hp->VK->Prop}(hr:cC X r)(he:PE X e te)(hl:PO X lo tl)(hu:PO X hi th):PE X (.Subscript e (.Slice lo hi none p2) pos) (TR r te tl th):=by
 intro pins s σ H Q I h;refine Ka (yj (he pins s σ H _ I h) λv s1 hM=>?_);obtain⟨x,H1,I1,r1,q1⟩:=hM;refine wpAny_Slice (yj (hl pins s1 σ H1 _ I1 q1) λvl s2 hM=>?_);obtain⟨l,H2,I2,pl,q2⟩:=hM;refine yj (hu pins s2 σ H2 _ I2 q2) λvu s3 hM=>?_;obtain⟨u,H3,I3,pu,q3⟩:=hM;rw[evalPart_none];refine aj ?_;have I4:zH X pins σ H3 {s3 with heap:=s3.heap.push {cls:=.type "slice",data:=.fields #[vl,vu,.none]}}:=I3.kept (t':=s3.toks) λb ob q=>dc _ q;obtain⟨T,id,hT,ht,hg⟩:=hr pins {s3 with heap:=s3.heap.push {cls:=.type "slice",data:=.fields #[vl,vu,.none]}} σ H3 x v vl vu l u s3.heap.objs.size Q I4 r1 (Heap.IsSliceOf.new ..) pl pu q3;show wpAny (aA X.prog X.w) X.A (FQ e (.Slice lo hi none p2) v (.ref s3.heap.objs.size)) (EP X pins σ Q) X.xe {s3 with heap:=s3.heap.push {cls:=.type "slice",data:=.fields #[vl,vu,.none]}};exact tail_any (ops:=[.ref s3.heap.objs.size,v]) ht hT hg (by with_unfolding_all rfl)
def jR (xs:List V)(lo hi:Option Int):List V:=(xs.drop (HT.Yj xs.length 0 lo)).take (HT.Yj xs.length xs.length hi-HT.Yj xs.length 0 lo)
theorem jM (xs:List V)(lo hi:Option Int):(jR xs lo hi).length<=xs.length:=by
 unfold jR;rw[dH,Dj];lia
end
def Mg (n:Nat)(i:Int):Option Nat:=if 0<=i then (if i<n then some i.toNat else none) else if -(n:Int)<=i then some (i+n).toNat else none
def QA (xs:List α)(i:Int):Option α:=(Mg xs.length i).bind λj=>xs[j]?
theorem Mw {i:Int}(h:Mg n i=some j):seqIndex? i n=some j/\j<n/\-(n:Int)<=i/\i<n:=by
 unfold Mg at h
 by_cases h0:0<=i
 ·rw[K6 h0]at h
  by_cases h1:i<n
  ·rw[K6 h1]at h;have e:i.toNat=j:=ao h;exact⟨by rw[seqIndex_of h0 h1,e],by lia,by lia,h1⟩
  ·rw[K5 h1]at h;cases h
 ·rw[K5 h0]at h
  by_cases h1:-(n:Int)<=i
  ·rw[K6 h1]at h;have e:(i+n).toNat=j:=ao h;exact⟨by rw[seqIndex_neg (by lia) h1,e],by lia,h1,by lia⟩
  ·rw[K5 h1]at h;cases h
theorem Uh {xs:List α}{i:Int}{v:α}(h:QA xs i=some v):∃j,seqIndex? i xs.length=some j/\xs[j]?=some v/\j<xs.length/\-(xs.length:Int)<=i/\i<xs.length:=by
 unfold QA at h
 cases e:Mg xs.length i with
 |none=>rw[e]at h;cases h
 |some j=>
  rw[e]at h;obtain⟨h1,h2,h3,h4⟩:=Mw e;exact⟨j,h1,h,h2,h3,h4⟩
theorem qQ {xs:List α}{v:α}(h:xs[j]?=some v):QA xs (j:Int)=some v:=by
 have hj:j<xs.length:=(C7.mp h).1
 have e:Mg xs.length (j:Int)=some j:=by
  unfold Mg;rw[K6 (by lia),K6 (by lia)];simp
 unfold QA;rw[e];exact h
theorem PU (xs:List α)(v:α):QA (xs++[v]) (-1)=some v:=by
 have hl:(xs++[v]).length=xs.length+1:=by simp
 have e:Mg (xs++[v]).length (-1)=some xs.length:=by
  unfold Mg;rw[hl,K5 ∅,K6 (by lia)]
  congr 1
  lia
 unfold QA;rw[e];show(xs++[v])[xs.length]?=some v
 simp
def Gw (b:aQ):Prop:=∀o i,D_ b false o i=operate [o,i] (Hn o i)
def Bd (X:Cx)(r:R2):Prop :=
 ∀(value slice:aQ) (pins:List (ag×g_)) (s:ar) (σ:St) (H:Hp) (x y:V) (v u:ae) (Q:VK),zH X pins σ H s->qy x v->qy y u->r x y H Q ->
  D_ slice false v u=operate [v,u] (Hn v u)->wpAny (aA X.prog X.w) X.A (FQ value slice v u) (EP X pins σ Q) X.xe s
def Bs (X:Cx)(id:String)(r:V->List V->Hp->VK->Prop):Prop :=
 ∀(pins:List (ag×g_)) (s:ar) (σ:St) (H:Hp) (x:V) (xs:List V) (v:ae) (us:List ae) (Q:VK),zH X pins σ H s->qy x v->qp xs us->r x xs H Q ->
  wpAny (aA X.prog X.w) X.A (call (.builtin id) (v::us)) (EP X pins σ Q) X.xe s
section
variable {a b:aQ}{ta tb:TE}{pos:fW}
theorem bN {r:R2}(hr:Bd X r)(ha:PE X a ta)(hb:PE X b tb)(hs:Gw b):PE X (.Subscript a b pos) (vp r ta tb):=by
 intro pins s σ H Q I h;exact Ka (Ri ha hb I h λv u s2 x y H2 I2 rx ry q=>hr a b pins s2 σ H2 x y v u Q I2 rx ry q (hs _ _))
inductive Np (K:BFr)(x y:V)(H:Hp)(Q:VK):Prop|mk(p xs i v:_)(_:x=.ref p)(_:y=.int i)(_:zN K H p xs)(_:QA xs i=some v)(_:Q v H)
inductive Zg (K:BFr)(x y:V)(H:Hp)(Q:VK):Prop|mk(p xs i v:_)(_:x=.ref p)(_:y=.int i)(_:yE K H p xs)(_:QA xs i=some v)(_:Q v H)
inductive MH (x y:V)(H:Hp)(Q:VK):Prop|mk(z i c:_)(_:x=.str z)(_:y=.int i)(_:z.length<=au)(_:QA z.cps.toList i=some c)(_:Q (.str ⟨#[c]⟩) H)
theorem zy:Bd X (Np X.K):=by
 intro value slice pins s σ H x y v u Q I rx ry h hs;obtain⟨p,xs,i,z,rfl,rfl,hq,he,q⟩:=h;cases rx;obtain⟨t,rfl⟩:=ry;obtain⟨K8,r,pl,hz⟩:=I.list hq;obtain⟨j,h1,h2,h3,h4,h5⟩:=Uh he;obtain⟨w,ew,Sw⟩:=r.get h2;have hl:=r.length;have hn:=Zy;have K_:EP X pins σ Q w s:=⟨z,H,I,Sw,q⟩
 by_cases h0:0<=i
 ·have hj:i.toNat=j:=by
   rw[seqIndex_of h0 h5]at h1;exact ao h1
  exact item_listR pl.isList h0 (by lia) (by rw[hj];simpa using ew) K_ hs
 ·have hj:(i+(K8.toArray.size:Int)).toNat=j:=by
   rw[seqIndex_neg (by lia) h4]at h1;rw[dh,<- hl];exact ao h1
  exact AS (x:=w) pl.isList.typeIs slot_list_getitem.lookup
   (wpAny_getItem_list_neg (Q:=λr s'=>r=w/\EP X pins σ Q r s') pl.isList (by lia) (by rw[dh]<;>lia) (by lia) (by rw[hj];simpa using ew) ⟨U,K_⟩) hs
theorem qT:Bd X (Zg X.K):=by
 intro value slice pins s σ H x y v u Q I rx ry h hs;obtain⟨p,xs,i,z,rfl,rfl,hq,he,q⟩:=h;cases rx;obtain⟨t,rfl⟩:=ry;obtain⟨K8,r,pl,hz⟩:=I.tuple hq;obtain⟨j,h1,h2,h3,h4,h5⟩:=Uh he;obtain⟨w,ew,Sw⟩:=r.get h2;have hl:=r.length;have hn:=Zy;have K_:EP X pins σ Q w s:=⟨z,H,I,Sw,q⟩
 exact AS (x:=w) pl.typeIs slot_tuple_getitem.lookup
  (getItem_tuple (j:=j) (Q:=λr s'=>r=w/\EP X pins σ Q r s') pl (by lia) (by lia) (by rw[dh,<- hl];exact h1) (by simpa using ew) ⟨U,K_⟩) hs
theorem xG:Bd X MH:=by
 intro value slice pins s σ H x y v u Q I rx ry h hs;obtain⟨z,i,c,rfl,rfl,hz,he,q⟩:=h;obtain⟨t,rfl⟩:=rx;obtain⟨t',rfl⟩:=ry;obtain⟨j,h1,h2,h3,h4,h5⟩:=Uh he;have hl:z.cps.toList.length=z.length:=by simp[Str.length]
 rw[hl]at h1 h4 h5;have hn:=Zy
 exact tail_any (w_ s z t) slot_str_getitem.lookup (getItem_str (c:=c) (by
  have e1:decide (i < -(2 ^ 63:Int))=false:=D' (by lia);have e2:decide (i >= 2 ^ 63)=false:=D' (by lia);rw[e1,e2,Bool.or_false]) (by rw[h1];simpa using h2) ⟨.str ⟨#[c]⟩,H,I.tok _,⟨_,U⟩,q⟩) hs
theorem V8 (lo hi:Option Int)(n:Nat):(k_ lo hi none n).1=((HT.Yj n 0 lo:Nat):Int)/\(k_ lo hi none n).2.1=((HT.Yj n n hi:Nat):Int)/\(k_ lo hi none n).2.2=1:=by
 refine⟨?_,?_,U⟩
 ·cases lo with
  |none=>simp[k_,HT.Yj]
  |some i=>
   simp only[k_,HT.Yj,Ic,show(1:Int) > 0 by decide,if_true]
   by_cases h:i<0
   ·simp only[h,if_true]<;>lia
   ·simp only[h,if_false]<;>lia
 ·cases hi with
  |none=>simp[k_,HT.Yj]
  |some i=>
   simp only[k_,HT.Yj,Ic,show(1:Int) > 0 by decide,if_true]
   by_cases h:i<0
   ·simp only[h,if_true]<;>lia
   ·simp only[h,if_false]<;>lia
theorem Vg (K8:List ae)(lo hi:Option Int):slicePick K8.toArray lo hi none=((K8.drop (HT.Yj K8.length 0 lo)).take (HT.Yj K8.length K8.length hi-HT.Yj K8.length 0 lo)).toArray:=by
 obtain⟨h1,h2,h3⟩:=V8 lo hi K8.toArray.size;unfold slicePick;rw[h1,h2,h3];simp only[Kb,pick_run,dh]<;>rfl
inductive nY (K:BFr)(x:V)(lo hi:Option Int)(H:Hp)(Q:VK):Prop|mk(a xs:_)(_:x=.ref a)(_:zN K H a xs)(_:∀p,H p=none->Q (.ref p) (upd H p (.lst (jR xs lo hi))))
theorem yG:cC X (nY X.K):=by
 intro pins s σ H x v vl vu lo hi sl Q I rx hs pl pu h;obtain⟨a,xs,rfl,hx,q⟩:=h;cases rx;obtain⟨K8,r,ht,hz⟩:=I.list hx;have P_:=r.length;refine⟨"list",_,slot_list_getitem.lookup,ht.isList.typeIs,?_⟩;refine wpAny_getItem_list_slice ht.isList hs pl pu .none (by simp) ?_ (by rw[dh]<;>lia);rw[Vg,<- P_];refine⟨.ref s.heap.objs.size,_,I.laid (t':=s.toks) (o:=.lst (jR xs lo hi)) (λb ob q=>dc _ q) (CI _) ?_,U,q _ (I.hok.fresh (CI _))⟩;exact⟨CW (jM xs lo hi) hz,_,0,(r.drop (HT.Yj xs.length 0 lo)).take (HT.Yj xs.length xs.length hi-HT.Yj xs.length 0 lo),dA _ U⟩
def jX:V->Bool
 |.non=>true
 |.bl _=>true
 |.int _=>true
 |.str _=>true
 |_=>false
def XU:V->V->Bool
 |.non,.non=>true
 |.bl a,.bl b=>a==b
 |.bl a,.int b=>(if a then 1 else 0)==b
 |.int a,.bl b=>a==(if b then 1 else 0)
 |.int a,.int b=>a==b
 |.str a,.str b=>a==b
 |_,_=>false
theorem Ur {x:V}{v:ae}(ry:qy y u)(rx:qy x v)(fy:jX y=true)(fx:jX x=true):sx A s u v (XU y x):=by
 cases y with
 |non=>
  cases ry
  cases x with
  |non=>cases rx;exact sL _
  |bl b=>cases rx;exact SeqAt.EqAt.none_bool b
  |int b=>obtain⟨t,rfl⟩:=rx;exact SeqAt.EqAt.none_int b t
  |str b=>obtain⟨t,rfl⟩:=rx;exact SeqAt.EqAt.none_str b t
  |_=>exact K7 (show false=true from fx) dq
 |bl a=>
  cases ry
  cases x with
  |non=>cases rx;exact Fm a
  |bl b=>cases rx;exact Fn a b
  |int b=>obtain⟨t,rfl⟩:=rx;exact SeqAt.EqAt.bool_int a b t
  |str b=>obtain⟨t,rfl⟩:=rx;exact SeqAt.EqAt.bool_str a b t
  |_=>exact K7 (show false=true from fx) dq
 |int a=>
  obtain⟨t',rfl⟩:=ry
  cases x with
  |non=>cases rx;exact FI a t'
  |bl b=>cases rx;exact SeqAt.EqAt.int_bool a t' b
  |int b=>obtain⟨t,rfl⟩:=rx;exact SeqAt.EqAt.int_int a t' b t
  |str b=>obtain⟨t,rfl⟩:=rx;exact F0 a t' b t
  |_=>exact K7 (show false=true from fx) dq
 |str a=>
  obtain⟨t',rfl⟩:=ry
  cases x with
  |non=>cases rx;exact FJ a t'
  |bl b=>cases rx;exact SeqAt.EqAt.str_bool a t' b
  |int b=>obtain⟨t,rfl⟩:=rx;exact F9 a t' b t
  |str b=>obtain⟨t,rfl⟩:=rx;exact SeqAt.EqAt.str_str a t' b t
  |_=>exact K7 (show false=true from fx) dq
 |_=>exact K7 (show false=true from fy) dq
def Xw (x:V)(u:ae):Bool:=match u with
 |.none=>XU .non x
 |.bool b=>XU (.bl b) x
 |.int i _=>XU (.int i) x
 |.str z _=>XU (.str z) x
 |_=>false
theorem lJ {x:V}(r:qy y u)(f:jX y=true):Xw x u=XU y x:=by
 cases y with
 |non=>cases r;rfl
 |bl b=>cases r;rfl
 |int i=>obtain⟨t,rfl⟩:=r;rfl
 |str z=>obtain⟨t,rfl⟩:=r;rfl
 |_=>exact K7 (show false=true from f) dq
theorem Z1 {x:V}:∀{xs:List V} {us:List ae},qp xs us->xs.all jX=true->us.any (Xw x)=xs.any λy=>XU y x
 |_,_,.nil,_=>rfl
 |y::xs,u::us,.cons r t,f=>by
  rw[Dx,CM]at f;rw[DJ,DJ,lJ r f.1,Z1 t f.2]
theorem kr {x:V}{v:ae}(rx:qy x v)(fx:jX x=true):∀{xs:List V} {us:List ae},qp xs us->xs.all jX=true->∀u∈us,sx A s u v (Xw x u)
 |_,_,.nil,_=>λu hu=>by cases hu
 |y::xs,u::us,.cons r t,f=>λu' hu=>by
  rw[Dx,CM]at f;rcases CJ.mp hu with rfl |hu
  ·rw[lJ r f.1];exact Ur r rx f.1 fx
  ·exact kr rx fx t f.2 u' hu
def MV (x:V)(xs:List V):Bool:=xs.any λy=>XU y x
inductive BL (K:BFr)(neg:Bool)(x y:V)(H:Hp)(Q:VK):Prop|mk(p xs:_)(_:y=.ref p)(_:(zN K H p xs∨yE K H p xs))(_:jX x=true)(_:xs.all jX=true)(_:Q (.bl (if neg then !MV x xs else MV x xs)) H)
theorem uN:Zf X (fA .In) (BL X.K false):=by
 intro pins s σ H x y v u Q I rx ry h;obtain⟨p,xs,rfl,hq,fx,fs,q⟩:=h;cases ry;rcases hq with hq |hq
 ·obtain⟨K8,r,pl,hz⟩:=I.list hq;refine IF (Xw x) pl.isList (λw hw=>kr rx fx r fs w (by simpa using hw)) ⟨.bl _,H,I,U,?_⟩;rw[show K8.toArray.any (Xw x)=K8.any (Xw x) by simp,Z1 r fs];exact q
 ·obtain⟨K8,r,pl,hz⟩:=I.tuple hq;refine Ie (Xw x) pl (λw hw=>kr rx fx r fs w (by simpa using hw)) ⟨.bl _,H,I,U,?_⟩;rw[show K8.toArray.any (Xw x)=K8.any (Xw x) by simp,Z1 r fs];exact q
theorem wc:Zf X (fA .NotIn) (BL X.K true):=by
 intro pins s σ H x y v u Q I rx ry h;obtain⟨p,xs,rfl,hq,fx,fs,q⟩:=h;cases ry;rcases hq with hq |hq
 ·obtain⟨K8,r,pl,hz⟩:=I.list hq;refine SeqAt.notIn_listAt (Xw x) pl.isList (λw hw=>kr rx fx r fs w (by simpa using hw)) ⟨.bl _,H,I,U,?_⟩;rw[show K8.toArray.any (Xw x)=K8.any (Xw x) by simp,Z1 r fs];exact q
 ·obtain⟨K8,r,pl,hz⟩:=I.tuple hq;refine SeqAt.notIn_tupleAt (Xw x) pl (λw hw=>kr rx fx r fs w (by simpa using hw)) ⟨.bl _,H,I,U,?_⟩;rw[show K8.toArray.any (Xw x)=K8.any (Xw x) by simp,Z1 r fs];exact q
inductive kD (K:BFr)(xs:List V)(H:Hp)(Q:VK):Prop|mk(p ys:_)(_:xs=[.ref p])(_:(zN K H p ys∨yE K H p ys))(_:Q (.int ys.length) H)
theorem zJ:uH X (.builtin "len") (kD X.K):=by
 intro pins s σ H xs us Q I r h;obtain⟨p,ys,rfl,hq,q⟩:=h;obtain⟨u,rfl,rx⟩:=kA r;cases rx;have hn:=Zy;rcases hq with hq |hq
 ·obtain⟨K8,r',pl,hz⟩:=I.list hq;have P_:=r'.length;exact Calls.call_len_list pl.isList (by simp only[dh]<;>lia) ⟨.int ys.length,H,I.tok _,⟨s.toks+1,by rw[dh,P_]⟩,q⟩
 ·obtain⟨K8,r',pl,hz⟩:=I.tuple hq;have P_:=r'.length;exact len_tuple pl (by simp only[dh]<;>lia) ⟨.int ys.length,H,I.tok _,⟨s.toks+1,by rw[dh,P_]⟩,q⟩
inductive kq (xs:List V)(H:Hp)(Q:VK):Prop|mk(z:_)(_:xs=[.str z])(_:z.length<=au)(_:Q (.int z.length) H)
theorem qi:uH X (.builtin "len") kq:=by
 intro pins s σ H xs us Q I r h;obtain⟨z,rfl,hz,q⟩:=h;obtain⟨u,rfl,t,rfl⟩:=kA r;have hn:=Zy;exact len_str (by lia) ⟨.int z.length,H,I.tok _,⟨_,U⟩,q⟩
inductive kF (K:BFr)(xs:List V)(H:Hp)(Q:VK):Prop|mk(p ys:_)(_:xs=[.ref p])(_:(zN K H p ys∨yE K H p ys))(_:∀l,H l=none->Q (.ref l) (upd H l (.lst ys)))
theorem Qo:uH X (.type "list") (kF X.K):=by
 intro pins s σ H xs us Q I r h;obtain⟨p,ys,rfl,hq,q⟩:=h;obtain⟨u,rfl,rx⟩:=kA r;cases rx
 have K_:∀(K8:List ae),qp ys K8->ys.length<=au->∀(h':fi) (c':Nat),(∀b o',s.heap.get? b=some o'->h'.get? b=some o') ->
   h'.get? s.heap.objs.size=some {cls:=.type "list",dict:=none,data:=.seq K8.toArray c',slots:=#[]}->EP X pins σ Q (.ref s.heap.objs.size) {s with heap:=h'}:=λK8 r' hz h' c' kp e=>
  ⟨.ref s.heap.objs.size,_,I.laid (t':=s.toks) kp (CI _) (show yC X.prog X.w _ h' _ (.lst ys) from ⟨hz,K8,c',r',e⟩),U,q _ (I.hok.fresh (CI _))⟩
 rcases hq with hq |hq
 ·obtain⟨K8,r',pl,hz⟩:=I.list hq;have P_:=r'.length;obtain⟨o,ho,hc,n,hd⟩:=pl.isList;exact call_list_seq p (.inl U) ho hc hd (λh' c' kp e=>K_ K8 r' hz h' c' kp e) (by simp only[dh]<;>omega)
 ·obtain⟨K8,r',pl,hz⟩:=I.tuple hq;have P_:=r'.length;obtain⟨o,ho,hc,n,hd⟩:=pl;exact call_list_seq p (.inr U) ho hc hd (λh' c' kp e=>K_ K8 r' hz h' c' kp e) (by simp only[dh]<;>omega)
inductive wM (K:BFr)(xs:List V)(H:Hp)(Q:VK):Prop|mk(p ys:_)(_:xs=[.ref p])(_:((zN K H p ys/\∀l,H l=none->Q (.ref l) (upd H l (.tup ys)))∨(yE K H p ys/\Q (.ref p) H)))
theorem jB:uH X (.type "tuple") (wM X.K):=by
 intro pins s σ H xs us Q I r h;obtain⟨p,ys,rfl,h⟩:=h;obtain⟨u,rfl,rx⟩:=kA r;cases rx;rcases h with⟨hq,q⟩ |⟨hq,q⟩
 ·obtain⟨K8,r',pl,hz⟩:=I.list hq;have P_:=r'.length;refine call_tuple_list pl.isList (λh' kp=>?_) (by simp only[dh]<;>omega);have I1:zH X pins σ H {s with heap:=h'}:=I.kept (t':=s.toks) kp
  have I2:zH X pins σ (upd H h'.objs.size (.tup ys)) {s with heap:=h'.push {cls:=.type "tuple",data:=.seq K8.toArray}} :=
   I1.laid (t':=s.toks) (λb o e=>dc _ e) (CI _) (show yC X.prog X.w _ _ _ (.tup ys) from ⟨hz,K8,r',IsTup.new _ _⟩)
  exact⟨.ref h'.objs.size,_,I2,U,q _ (I1.hok.fresh (CI _))⟩
 ·obtain⟨K8,r',pl,hz⟩:=I.tuple hq;exact call_tuple_same pl ⟨.ref p,H,I,U,q⟩
def Ce (K:BFr)(T:String)(x:V)(H:Hp):Prop:=match x with
 |.str _=>T = "str"
 |.int _=>T = "int"
 |.ref p=>(T = "list"/\∃xs,zN K H p xs)∨(T = "tuple"/\∃o,K.lookup p=some o/\o.cls=.type "tuple"/\o.dict=none) ∨
   (T = "dict"/\((∃kvs,H p=some (.dK kvs))∨∃kvs,H p=some (.dT kvs)))∨(T = "set"/\∃S n,H p=some (.set S n))
 |_=>False
theorem Th {T:String}{x:V}{v:ae}(I:zH X pins σ H s)(r:qy x v)(ty:Ce X.K T x H):
  s.TypeIs v T/\∀a,v=.ref a->∃ob,s.heap.get? a=some ob/\ob.dict=none:=by
 cases x with
 |str z=>
  obtain⟨t,rfl⟩:=r
  cases (show T = "str" from ty)
  exact⟨w_ s z t,λ_ e=>nomatch e⟩
 |int i=>
  obtain⟨t,rfl⟩:=r
  cases (show T = "int" from ty)
  exact⟨typeIs_int s i t,λ_ e=>nomatch e⟩
 |ref p=>
  cases r;rcases ty with⟨rfl,xs,hq⟩ |⟨rfl,o,hk,hc,hd⟩ |⟨rfl,hk⟩ |⟨rfl,S,n,hk⟩
  ·obtain⟨K8,_,pl,_⟩:=I.list hq;refine⟨pl.isList.typeIs,λa e=>?_⟩;cases e;obtain⟨o,n,e,c,hd,_⟩:=pl;exact⟨o,e,hd⟩
  ·refine⟨⟨o,I.kIn p o hk,hc⟩,λa e=>?_⟩;cases e;exact⟨o,I.kIn _ o hk,hd⟩
  ·have z:∃o,s.heap.get? p=some o/\o.ExactDict:=by
    rcases hk with⟨kvs,hk⟩ |⟨kvs,hk⟩
    ·obtain⟨_,_,_,_,o,_,_,e,ex,_⟩:=I.hok p _ hk;exact⟨o,e,ex⟩
    ·obtain⟨_,_,_,_,o,_,_,e,ex,_⟩:=I.hok p _ hk;exact⟨o,e,ex⟩
   obtain⟨o,e,ex⟩:=z;refine⟨⟨o,e,ex.1⟩,λa e2=>?_⟩;cases e2;exact⟨o,e,ex.2.1⟩
  ·obtain⟨o,_,_,_,e,ex,_⟩:=I.hok p _ hk;refine⟨⟨o,e,ex.1⟩,λa e2=>?_⟩;cases e2;exact⟨o,e,ex.2.1⟩
 |_=>exact b_ ty
def c0 (K:BFr)(T:String)(r:V->List V->Hp->VK->Prop)(to:TE)(t:TA):TE:=λσ H Q=>to σ H λx H1=>Ce K T x H1/\t σ H1 λxs H2=>r x xs H2 Q
variable {o:aQ}{es:List aQ}{to:TE}{t:TA}{name:af}{T id:String}{r:V->List V->Hp->VK->Prop}
theorem qH (pa:PlainAttrs T)(slot:Slot T name id)(hty:KW (.builtin id)=pure (.type "method_descriptor"))(hm:Bs X id r)(ho:PE X o to)(ha:PA X (e::es) t)(U_:sH o name X.env (eval o X.env)=eval o X.env:=by rfl)(hfew:((ff K' (ax (e::es) X.env)).all (λx=>!x.1)&&(i4 K' (hG [] X.env)).all (λx=>x.1.isSome)
   && decide ((e::es).length+([]:List AR).length+(if ([]:List AR).isEmpty then 0 else 1)<30))=true:=by rfl) (hline:(M_.endLine==K'.line)=true:=by rfl) (hs:ax (e::es) X.env=(false,eval e X.env)::ax es X.env:=by exact zW U) (hplain:(ff K' (ax es X.env)).any (·.1)=false:=by rfl) :
  PE X (.Call (.Attribute o name M_) (e::es) [] K') (c0 X.K T r to t):=by
 intro pins s σ H Q I h;refine wpAny_Call_method_late U_ hfew hline rfl (yj (ho pins s σ H _ I h) λv s1 hM=>?_);obtain⟨x,H1,I1,r1,ty,q1⟩:=hM;obtain⟨h1,h2⟩:=Th I1 r1 ty;refine⟨T,id,pa,slot,hty,h1,h2,?_⟩;have hA:=ha K' pins s1 σ H1 _ I1 q1;rw[hs]at hA ⊢;refine AW (by show(false || (ff K' (ax es X.env)).any (·.1))=false;rw[hplain]<;>rfl) (iT ?_);exact yj hA λus s2 hM=>by obtain⟨vs,H2,I2,r2,q2⟩:=hM;exact hm pins s2 σ H2 x vs v us Q I2 r1 r2 q2
end
def BO (X:Cx)(id:String)(r:V->List V->Hp->VK->Prop):Prop :=
 ∀(pins:List (ag×g_)) (s:ar) (σ:St) (H:Hp) (x:V) (xs:List V) (v:ae) (us:List ae) (Q:VK),zH X pins σ H s->qy x v->qp xs us->r x xs H Q ->
  wpAny (aA X.prog X.w) X.A (call (.builtin id) (v::us)) (EP X pins σ Q) X.xe s
theorem qp.one:∀{x:V} {us:List ae},qp [x] us->∃u,us=[u]/\qy x u
 |_,_,.cons r .nil=>⟨_,U,r⟩
theorem qp.dropLast {us:List ae}(h:qp xs us):qp xs.dropLast us.dropLast:=by
 induction h with
 |nil=>exact .nil
 |cons r t ih=>
  cases t with
  |nil=>exact .nil
  |cons q t'=>exact .cons r ih
theorem RP (l:List α):l.eraseIdx (l.length-1)=l.dropLast:=by
 induction l with
 |nil=>rfl
 |cons a r ih=>
  cases r with
  |nil=>rfl
  |cons b r=>
   have e:(a::b::r).length-1=((b::r).length-1)+1:=by
    have h1:(a::b::r).length=r.length+2:=rfl;have h2:(b::r).length=r.length+1:=rfl;lia
   rw[e,List.eraseIdx_cons_succ,ih]
   all_goals rfl
section
variable {l b:ag}{zs:List V}
theorem zH.lset {its':List ae}{f:Array ae->Array ae}(I:zH X pins σ H s)(hH:H l=some (.lst xs))(e:s.heap.get? l=some {cls:=.type "list",data:=.seq K8.toArray n})(hf:f K8.toArray=its'.toArray)(hv:qp ys its')(hz:ys.length<=au):
  zH X pins σ (upd H l (.lst ys)) {s with heap:=s.heap.update l (fI f),toks:=t'}:=by
 have q:=PySem.IsL.update e f;rw[hf]at q;refine I.write (x:=l) (e:=l) (by rw[hH];exact trivial) (.inl U) (λb' u hb hu=>(d4 s.heap (fI f) (fK hb)).trans hu) ⟨_,q⟩ ?_;exact⟨hz,its',_,hv,q⟩
theorem zH.lnew (I:zH X pins σ H s)(hv:qp ys K8)(hz:ys.length<=au):
  zH X pins σ (upd H s.heap.objs.size (.lst ys)) {s with heap:=s.heap.push {cls:=.type "list",data:=.seq K8.toArray},toks:=t'} :=
 I.laid (λ_ _ q=>dc _ q) (CI _) ⟨hz,K8,0,hv,dA _ U⟩
theorem zH.fresh (I:zH X pins σ H s):H s.heap.objs.size=none:=I.hok.fresh (CI _)
theorem zH.lstM (I:zH X pins σ H s)(hH:H l=some (.lst xs)):xs.length<=au/\∃(K8:List ae) (n:Nat),qp xs K8/\xs.length=K8.length/\s.heap.get? l=some {cls:=.type "list",data:=.seq K8.toArray n}:=by
 obtain⟨z,K8,n,r,e⟩:=I.hok l _ hH;exact⟨z,K8,n,r,r.length,e⟩
theorem mG (h:n<=au):i5 n=false:=by
 unfold i5;exact D' (by lia)
end
inductive gZ (x:V)(vs:List V)(H:Hp)(Q:VK):Prop|mk(l xs y:_)(_:x=.ref l)(_:vs=[y])(_:H l=some (.lst xs))(_:xs.length<au)(_:Q .non (upd H l (.lst (xs++[y]))))
theorem jJ:BO X "list.append" gZ:=by
 intro pins s σ H x vs v us Q I rx rv h;obtain⟨l,xs,y,rfl,rfl,hH,hz,q⟩:=h;cases rx;obtain⟨u,rfl,ru⟩:=rv.one;obtain⟨z,K8,n,r,hl,e⟩:=I.lstM hH;refine sq F.slot_list_append ⟨_,e,U⟩ F.entry_list_append (F.args_list_append_2 _ _) (PySem.list_append l K8.toArray n u (by rw[dh];lia)) ⟨e,?_⟩;refine⟨.non,_,I.lset (its':=K8++[u]) hH e (by simp) (r.append (.cons ru .nil)) ?_,U,q⟩;rw[CS,dB];lia
inductive gD (x:V)(vs:List V)(H:Hp)(Q:VK):Prop|mk(l b xs zs:_)(_:x=.ref l)(_:vs=[.ref b])(_:H l=some (.lst xs))(_:H b=some (.lst zs))(_:xs.length+zs.length<=au)(_:Q .non (upd H l (.lst (xs++zs))))
theorem Od:BO X "list.extend" gD:=by
 intro pins s σ H x vs v us Q I rx rv h;obtain⟨l,b,xs,zs,rfl,rfl,hH,hB,hz,q⟩:=h;cases rx;obtain⟨u,rfl,ru⟩:=rv.one;cases ru;obtain⟨z,K8,n,r,hl,e⟩:=I.lstM hH;obtain⟨z2,its2,n2,r2,hl2,e2⟩:=I.lstM hB;have hsz:K8.toArray.size+its2.toArray.size<=au:=by rw[dh,dh];lia
 have hlong:¬(!K8.toArray.isEmpty&&i5 (K8.toArray.size+its2.toArray.size))=true:=by
  rw[mG hsz,dQ];exact dq
 refine sq F.slot_list_extend ⟨_,e,U⟩ F.entry_list_extend (F.args_list_extend_2 _ _)
  (AutoSeq1.list_extend_list_list_0 l K8.toArray n b its2.toArray n2 hlong (by rw[dh];lia) (by lia)) ⟨e,e2,?_⟩
 refine⟨.non,_,I.lset (its':=K8++its2) hH e (by simp) (r.append r2) ?_,U,q⟩;rw[CS];lia
inductive Bw (x y:V)(H:Hp)(Q:VK):Prop|mk(l b xs zs:_)(_:x=.ref l)(_:y=.ref b)(_:H l=some (.lst xs))(_:H b=some (.lst zs))(_:xs.length+zs.length<=au)(_:∀p,H p=none->Q (.ref p) (upd H p (.lst (xs++zs))))
theorem Tz:Zf X (i3 .Add) Bw:=by
 intro pins s σ H x y v u Q I rx ry h;obtain⟨l,b,xs,zs,rfl,rfl,hH,hB,hz,q⟩:=h;cases rx;cases ry;obtain⟨z,K8,n,r,hl,e⟩:=I.lstM hH;obtain⟨z2,its2,n2,r2,hl2,e2⟩:=I.lstM hB;refine PySem.P.add_list e e2 ?_ (by rw[dh,dh];omega);have ea:K8.toArray++its2.toArray=(K8++its2).toArray:=by simp
 rw[ea];exact⟨.ref _,_,I.lnew (t':=s.toks) (r.append r2) (by rw[CS];omega),U,q _ I.fresh⟩
theorem Md (xs:List α)(k:Nat):(aW k xs).flatten.length=k*xs.length:=by
 induction k with
 |zero=>simp
 |succ k ih=>rw[eY,eZ,CS,ih,Ea,Nat.add_comm]
end L2
variable {Y:Int}{XP:(af->Option ae)->fi->Prop}
namespace Att
open PySem PySem.W PySem.Calls PyProof.Rows
theorem Yp {P:Params}:∀(ns:List Int) (vs:List ae),WellAll P h vs (ns.map WData.int)->iP vs ns:=by
 intro ns
 induction ns with
 |nil=>
  intro vs w;rw[d8]at w;cases w;exact .nil
 |cons n ns ih=>
  intro vs w;rw[dv]at w
  cases w with
  |cons a b=>
   cases a;exact .cons _ _ (ih _ b)
theorem Oh {l:OpenLaw}(hn:l.most=some n){P:Params}{args:List WData}{vals:List ae}
  (hpre:l.row.toRowW.claim.pre args=true) (hwl:WellAll P h vals args) :
  ∃a vs ns,vals=[aF a]/\args=[WData.list (ns.map WData.int)]/\h.get? a=some {cls:=.type "list",data:=.seq vs.toArray}/\iP vs ns/\ns.length<=n:=by
 have hsh:WShape.hasAll [] args [.list .int]=true:=(pre_splitW hpre).1;have hc:l.pre.holds [] {args:=args} = true:=(pre_splitW hpre).2;obtain⟨d,r,rfl,h1,h2⟩:=hasAllW_cons hsh;obtain rfl:=hasAllW_nil h2;obtain⟨xs,rfl,h3⟩:=hasW_list h1;obtain⟨ns,rfl⟩:=items_int h3
 have P_:ns.length<=n:=by
  unfold OpenLaw.pre at hc
  have h4:(WTm.not (.lt (.lit (.int (n:Int))) (.len (.arg 0)))).holds [] {args:=[.list (ns.map .int)]} = true:=by
   have h4:=(holds_andW hc).1;rw[hn]at h4;exact h4
  have h5:=condW_of h4 (w_not (w_lt w_lit (w_len_list (w_arg U))));rw[CH]at h5;refine Dc λq=>?_;have q':(n:Int)<((ns.length:Nat):Int):=by omega
  first
   | (rw[i' q']at h5;exact K7 h5 ∅)
   | (simp at h5;omega)
 cases hwl with
 |cons w1 w2=>
  cases w2
  cases w1 with
  |list ho hall=>exact⟨_,_,ns,U,U,ho,Yp ns _ hall,P_⟩
theorem o3 (l:OpenLaw)(args:List WData):l.row.toRowW.claim.post args (.bool true) args=true :=
 postW_of (r:=l.row.toRowW) (X:=(true==true))
  (show WShape.has [] (.bool true) .bool=true by first |rfl |decide |simp[WShape.has,WShape.arms,WShape.armsAll])
  (show(WTm.eq .res (.lit (.bool true))).value [] {args:=args,res:=some (.bool true),after:=args} = some (.bool (true==true)) from w_eq_bool (w_res U) w_lit) rfl
theorem WS {l:OpenLaw}{q:aU}{YP:aP->fi->Prop}{d:KY}
  (hn:l.most=some n) (hdf:d.params.defaults=[]) (call:∀(w:aP) (s₀ s₁:ar) (mg mb:af->Option ae) (fa:ag) (o:g_) (pm cd Sf:ae) (a:ag) (vs:List ae) (ns:List Int),
   Ground q Se [] XP w s₀ mg mb s₁.heap->YP w s₁.heap ->
   s₁.heap.get? fa=some o->o.data=.func (docDef d.name d.params d.body d.scope pm cd Sf)->s₁.heap.CodeRec cd d.name->mg d.name=some (.ref fa) ->
   s₁.heap.get? a=some {cls:=.type "list",data:=.seq vs.toArray}->iP vs ns->ns.length<=n->s₁.gens = #[] ->
   codeAny (aA l.prog w) Fy (.call (.ref fa) ⟨[.ref a],[]⟩) (λr s'=>r=.ok (.ret (.bool true))/\OldK s₁.heap s'.heap/\s'.os=s₁.os/\sR s'.gens) s₁) :
  WalkO q Se XP YP l.row.toRowW d [] (λf vs=>Kr f vs):=by
 intro w s₀ s₁ mg mb G Y fa o pm cd Sf dV kV ho hd Sy hD hmg hg args vals as hpre hlay hrd hwl hlo;obtain rfl:dV=.none:=Dflts.none hD hdf;obtain rfl:kV=.none:=Dflts.noKw hD;obtain⟨a,vs,ns,rfl,rfl,hobj,U',P_⟩:=Oh hn hpre hwl;refine enter_call (ir (call w s₀ s₁ mg mb fa o pm cd Sf a vs ns G Y ho (fd_plain hd) Sy hmg hobj U' P_ hg) λr s' hq=>?_);obtain⟨rfl,h2,h3,h4⟩:=hq;exact⟨.inl ⟨.bool true,.bool true,[],U,λ_=>rfl,.bool true,o3 l _,λ_=>⟨fX,λ_ hm=>(nomatch hm)⟩⟩,h2,h3,h4⟩
section
variable {K:iW}
end
end Att
variable {sp:L2.Sp}{CX:L2.ZK}{B:Prop}
namespace L2
open PySem PySem.Spec PyProof.Rows
theorem Vx:∀{vs:List ae} {ns:List Int},iP vs ns->qp (ns.map V.int) vs
 |_,_,.nil=>.nil
 |_,_,.cons n t h=>.cons ⟨t,U⟩ (Vx h)
def Rb (H:Hp):Prop:=∀b,H b=none∨∃o xs,H b=some (.frz o (.lst xs))
theorem P5 {K:BFr}{mg mb:af->Option ae}{k:Nat}{fa:ag}{s₁:ar}{vs:List ae}
  (KX:K.In s₁.heap) (hns:s₁.heap.Ns az mg) (hb:s₁.heap.Ns s_ mb) (hbb:∀x:af,x≠"__name__"->mb x=fz x) (hlim:s₁.heap.NoLimit) (hg:s₁.gens = #[]) (ha:s₁.heap.get? a=some {cls:=.type "list",data:=.seq vs.toArray}) (hi:iP vs ns) (hl:ns.length<=au) (hr:jd k Fy) (F:∀base:fi,K.In base->base.Ns az mg->zL P w K mg base CX k fa fd [x] sp) (hbind:∀(s:ar) (u:ae),Hk s fd ⟨[u],[]⟩ [(x,u)]) (SO:∀H:Hp,Rb H->zN K H a (ns.map V.int)->sp [.ref a] H (λv _=>v=.bl true) λ_ _ _=>False) (hCX:∀H e s',CX [] H s₁ (λ_ _ _=>False) e s'->False) :
  codeAny (aA P w) Fy (.call (.ref fa) ⟨[.ref a],[]⟩) (λr s'=>r=.ok (.ret (.bool true))/\OldK s₁.heap s'.heap/\s'.os=s₁.os/\sR s'.gens) s₁:=by
 have rv:=Vx hi;have lenV:=hi.length
 have core:∀H:Hp,Rb H->zN K H a (ns.map V.int)->ZD P w H s₁.heap->(∀b,H b≠none->b=a)->(H a≠none->K.lookup a=none) ->
   codeAny (aA P w) Fy (.call (.ref fa) ⟨[.ref a],[]⟩) (λr s'=>r=.ok (.ret (.bool true))/\OldK s₁.heap s'.heap/\s'.os=s₁.os/\sR s'.gens) s₁:=by
  intro H hO hS hok hA hK;have base_of:∀{b:ag} {o:g_},s₁.heap.get? b=some o->H b=none->(UM s₁.heap H).get? b=some o:=λe n=>lu e n
  have noA:∀{b:ag} {o:g_} {es:Array DictEntry} {ep:Nat},s₁.heap.get? b=some o->o.data=.dict es ep->H b=none:=λ{b o es ep} e d=>by
   cases q:H b with
   |none=>rfl
   |some u=>
    have e':b=a:=hA b (by rw[q];simp);subst e';rw[ha]at e;cases e;have d':Data.seq vs.toArray _=Data.dict es ep:=d
    cases d'
  have nsK:∀{b:ag} {m:af->Option ae},s₁.heap.Ns b m->(UM s₁.heap H).Ns b m:=λ{b m} ⟨o,es,ep,e,d,r⟩=>⟨o,es,ep,base_of e (noA e d),d,r⟩
  have hKb:K.In (UM s₁.heap H):=λb o e=>base_of (KX b o e) (by
   cases q:H b with
   |none=>rfl
   |some u=>
    have e':b=a:=hA b (by rw[q];simp);subst e';rw[hK (by rw[q];simp)]at e;cases e)
  have hM:Mod K mg (UM s₁.heap H):=⟨hKb,nsK hns,⟨mb,nsK hb,hbb⟩,let ⟨mc,h1,h2⟩:=hlim;⟨mc,nsK h1,h2⟩⟩;have e0:WW P w K mg (UM s₁.heap H) Fy [] s₁ H:=⟨U,hM,λb o e=>Ma e,Dy (oJ _ _),trivial,λb hb=>K7 (show b∈([]:List ag) from hb) (by simp),hok,.of_eq hg⟩;refine ir ((F _ hKb (nsK hns)).run Fy [] s₁ H ⟨[.ref a],[]⟩ [.ref a] [.ref a] _ _ hr e0 (hbind s₁ (.ref a)) (.cons U .nil) (SO H hO hS)) λr s' h=>?_
  cases r with
  |error e=>exact(hCX H e s' h).elim
  |ok fl=>
   cases fl with
   |next=>exact b_ h
   |brk=>exact b_ h
   |cont=>exact b_ h
   |ret u=>
    obtain⟨v,H',os,bare,un,hok',r',q⟩:=h;have q':v=.bl true:=q;subst q';obtain rfl:u=fO true:=r';refine⟨U,OldK.of_keep λb o e=>?_,os,bare⟩
    cases q:H b with
    |none=>exact un.keep b o e q (by intro z;exact K7 (show b∈([]:List ag) from z) (by simp)) (by simp)
    |some u=>
     rcases hO b with z |⟨ob,xs,z⟩
     ·rw[q]at z;cases z
     ·have z2:=un.frzs b ob _ z;obtain⟨e1,_⟩:=hok b _ z;obtain⟨e2,_⟩:=hok' b _ z2;rw[e]at e1;cases e1;exact e2
 cases hk:K.lookup a with
 |some o=>
  have e:=KX a o hk;rw[ha]at e;cases e;refine core (λ_=>none) (λ_=>.inl U) (.inr ⟨_,vs.toArray,_,hk,U,U,U,by rw[dh,lenV];exact hl,by simpa using rv⟩) (λb u z=>by have z':(none:Option HO)=some u:=z;cases z') (λb z=>K7 U z) λz=>K7 rfl z
 |none=>
  refine core (λb=>if b=a then some (.frz {cls:=.type "list",data:=.seq vs.toArray} (.lst (ns.map V.int))) else none) (λb=>?_) (.inl (.inr ⟨{cls:=.type "list",data:=.seq vs.toArray},K6 U⟩)) (λb u z=>?_) (λb z=>?_) λ_=>hk
  ·by_cases hb:b=a
   ·exact .inr ⟨_,_,K6 hb⟩
   ·exact .inl (K5 hb)
  ·by_cases hb:b=a
   ·have z':=(K6 hb).symm.trans z
    cases z'
    subst hb;exact⟨ha,by rw[CH];exact hl,vs,_,rv,ha⟩
   ·have z':=(K5 hb).symm.trans z
    cases z'
  ·by_cases hb:b=a
   ·exact hb
   ·exact K7 (K5 hb) z
theorem MZ {l:PySem.W.OpenLaw}{k:Nat}{q:aU}{Se:List af}{XP:(af->Option ae)->fi->Prop}{YP:aP->fi->Prop}{d:KY}{K:Params->BFr}{CX:aP->ZK}{sp:aP->Sp}
  (hn:l.most=some n) (hn2:n<=au) (hdf:d.params.defaults=[]) (hr:jd k Fy) (hY:∀(w:aP) (h:fi),YP w h->(K w.params).In h) (F:∀(w:aP) (mg:af->Option ae) (fa:ag) (h:fi),(K w.params).In h->h.Ns az mg->mg d.name=some (.ref fa) ->
   ∃fd:AA,(∀(s:ar) (u:ae),Hk s fd ⟨[u],[]⟩ [(x,u)]) /\
    ∀base:fi,(K w.params).In base->base.Ns az mg->zL l.prog w (K w.params) mg base (CX w) k fa fd [x] (sp w)) (SO:∀(w:aP) (H:Hp) (a:ag) (ns:List Int),ns.length<=n->Rb H->zN (K w.params) H a (ns.map V.int)->sp w [.ref a] H (λv _=>v=.bl true) λ_ _ _=>False) (hCX:∀(w:aP) (H:Hp) (s:ar) (e:ae) (s':ar),CX w [] H s (λ_ _ _=>False) e s'->False) :
  PySem.W.WalkO q Se XP YP l.row.toRowW d [] (λf vs=>Kr f vs):=by
 refine Att.WS hn hdf λw s₀ s₁ mg mb fa o pm cd Sf a vs ns G Y ho hd Sy hmg hobj U' P_ hg=>?_;have KX:=hY w _ Y;obtain⟨fd,hb,hF⟩:=F w mg fa _ KX G.T.g hmg;exact P5 KX G.T.g G.T.b G.T.builtins G.T.nolimit hg hobj U' (CW P_ hn2) hr hF hb (λH hO hS=>SO w H a ns P_ hO hS) λH e s'=>hCX w H s₁ e s'
abbrev zY:ZK:=λ_ _ _ _ _ _=>False
abbrev E0:XK:=λ_ _ _=>False
theorem zA:yW zY X E0:=λ_ _ _ _ _ _ _ h=>h.elim
structure qU (K:BFr)(x qual:af)(st:n_)(f:ag)(fd:AA):Prop where
 ex:∃(oc:ae) (od:Option ag) (kV Sf pm:ae) (an:Option ag) (K9 ct:ae) (S0:Array (Option ae)),
  fd=se x qual (uJ st) (jC st) (zU st) .none kV Sf pm an K9 ct/\K.lookup f=some ⟨oc,od,.func fd,S0⟩/\Fj K K9 qual=true
 kp:fe K (.ref f)=true
section
variable {K:BFr}{mg:af->Option ae}
theorem nS {ps:List af}{sc:sZ}(_:N.Nodup)(S:uw N ps sc):uw N ps sc:=S
theorem qU.ok {ps:List af}{k:Nat}(F:qU K x qual st f fd)(S:uw N ps (zU st))(len:∀vs H Q E,sp vs H Q E->vs.length=ps.length)(Sh:∀(K9:ae) (A:iG) (outer:List Fu) (s:ar) (H:Hp) (vs:List V) (Q:VK) (E:XK),jd k (A.deeper (aT qual (zU st) s.heap.objs.size f K9))->sp vs H Q E ->
   ∃t,y8 (u5 zY P w K mg base N qual (zU st) f K9 A outer s H E).nox (jC st) t/\t {nx:=λ_ H'=>Q .non H',rt:=Q} (uT N vs) H):zL P w K mg base zY (k+1) f fd ps sp:=by
 obtain⟨oc,od,kV,Sf,pm,an,K9,ct,S0,rfl,lk,Sy⟩:=F.ex;refine mU lk Sy S len λA outer s H vs Q E hr SO=>?_;obtain⟨t,h,q⟩:=Sh K9 A outer s H vs Q E hr SO;exact⟨t,h.nox,q⟩
theorem qU.binds {ps:List af}(F:qU K x qual st f fd)(h:∀(kV Sf pm:ae) (an:Option ag) (K9 ct:ae) (us:List ae),us.length=ps.length->Hl (se x qual (uJ st) (jC st) (zU st) .none kV Sf pm an K9 ct) ⟨us,[]⟩=pure (ps.zip us)):vK K fd ps []:=by
 obtain⟨oc,od,kV,Sf,pm,an,K9,ct,S0,rfl,lk,Sy⟩:=F.ex;exact .all (h kV Sf pm an K9 ct)
theorem tF {oc:ae}{od an:Option ag}{S0:Array (Option ae)}{kV Sf K9 ct:ae}(l:K.lookup f=some ⟨oc,od,.func (se x qual (uJ st) (jC st) (zU st) .none kV Sf pm an K9 ct),S0⟩)(c:Fj K K9 qual=true)(k:fe K (.ref f)=true):qU K x qual st f (se x qual (uJ st) (jC st) (zU st) .none kV Sf pm an K9 ct):=⟨⟨oc,od,kV,Sf,pm,an,K9,ct,S0,U,l,c⟩,k⟩
end
theorem VM {k:Nat}(hr:jd k A):A.units+1<hZ:=Dd (Eb (by decide:1<=64) _) hr.units
theorem pv (i:Nat){pos:fW}(hN:X.N[i]?=some x:=by rfl)(hv:cP X.env.scope x:=by first |exact ay U |exact i_ (ay rfl) |exact i_ (i_ rfl))(hd:(x==("__debug__":af))=false:=by decide)(Sy:(x==("__classdict__":af))=false:=by decide):PE X (.Name x pos) (zV i):=ti hN hv hd Sy
theorem qM {A:Prop}(h:B):if false=true then A else B:=by
 rw[K5 dq];exact h
theorem qY {A:Prop}(h:A):if true=true then A else B:=by
 rw[K6 rfl];exact h
theorem qg {c A:Prop}[Decidable c](h1:c->A)(h2:¬c->B):if c then A else B:=by
 by_cases h:c
 ·rw[K6 h];exact h1 h
 ·rw[K5 h];exact h2 h
def zk (H H':Hp):Prop:=∀b o,H b=some o->H' b=some o
theorem zk.refl (H:Hp):zk H H:=λ_ _ h=>h
theorem zk.trans (a:zk H H1)(b:zk H1 H2):zk H H2:=λc o h=>b c o (a c o h)
theorem zk.free (e:zk H H'){l:ag}(h:H' l=Option.none):H l=Option.none:=by
 cases q:H l with
 |none=>rfl
 |some o=>
  rw[e l o q]at h;cases h
theorem zk.seq {K:BFr}(e:zk H H')(h:zN K H a xs):zN K H' a xs:=by
 rcases h with (h |⟨o,h⟩) |h
 ·exact .inl (.inl (e _ _ h))
 ·exact .inl (.inr ⟨o,e _ _ h⟩)
 ·exact .inr h
end L2
variable {g:L2.TG}
namespace XK
open PySem PySem.W PySem.Spec PySem.Calls PyProof.Rows
section
variable {K:iW}{x:ag}{ox:g_}
structure wI (K:iW)(D:ag):Prop where
 cls:(clsIn K D).isSome=true
 ga:aM K (.ref D) "__getattribute__" = some (some (.builtin "BaseException.__getattribute__"))
 hook:aM K (.ref D) "__getattr__" = some none
 ca:aM K (.ref D) "__class__" = some (some (.builtin "object.__class__"))
 get:hW K (.builtin "object.__class__") "__get__" = some (some (.builtin "getset_descriptor.__get__"))
 tk:takesIn K (.builtin "object.__class__")=some true
 ob:iZ K D (.type "object")=some true
 bx:iZ K D (.type "BaseException")=some true
theorem bb (c:wI K D):findObj K D none "__class__" = some (.bind (.builtin "getset_descriptor.__get__") (.builtin "object.__class__")):=by
 obtain⟨cd,hc⟩:=DH.mp c.cls;unfold findObj;rw[hc,Ig,c.ca,Ig]
 simp[c.get,c.tk]
theorem Py {nameV:ae}{Q:Unit->ar->Prop}(X:K.In s.heap)(c:wI K D)(I:InstAt s.heap x ox D none)(h:Q () s):
  wpAny M A (AB "BaseException.__getattribute__" ⟨[.ref x,nameV],[]⟩) Q E s:=by
 have hk:builtinKind "BaseException.__getattribute__" = some .slot:=⋯
 have hsplit:splitId "BaseException.__getattribute__" = some ("BaseException","__getattribute__"):=⋯
 have ha:=F.args_bexc_ga (.ref x) nameV;have L0:=I.type (M:=M);have L1:=looks_mroIn (M:=M) X c.bx;obtain⟨hh,g,d,t,os⟩:=s;simp only[AB,hk,hsplit];unfold FY
 repeat (first |exact h |refine aa (L0.at ?_) |refine aa (L1.at ?_) |refine L0.at ?_ |refine L1.at ?_ |wp_step)
theorem Pc {tk:KS}{Q:Fin->ar->Prop}(X:K.In s.heap)(c:wI K D)(I:InstAt s.heap x ox D none)(h:Q (.done (.ret (.ref D))) s):
  wpAny (aA prog w) A (Builtin.«object.__getattribute__» ⟨[.ref x,.str "__class__" tk],[]⟩) Q E s:=by
 have L0:=I.type (M:=aA prog w);have L1:=looks_find (M:=aA prog w) X I (bb c);obtain⟨hh,g,d,t,os⟩:=s;unfold Builtin.«object.__getattribute__»
 repeat (first |refine aa (L0.at ?_) |refine aa (L1.at ?_) |wp_step)
 exact class_get X I c.ob (aj h)
theorem Mj {Q:Option ae->ar->Prop}(X:K.In s.heap)(c:wI K D)(I:InstAt s.heap x ox D none)(h:Q (some (.ref D)) {s with toks:=s.toks+1}):
  wpAny (aA prog w) A (getAttr? (.ref x) "__class__") Q E s:=by
 have L0:=I.type (M:=aA prog w);have L1:=looks_findIn (M:=aA prog w) X c.ga;have L2:=looks_findIn (M:=aA prog w) X c.hook;have f3:=PySem.F.attr_ValueError.ga.bind (.ref x);have hx2:(Au "BaseException.__getattribute__" == Au "object.__getattribute__")=false:=⋯
 have hx1:(onTheHeap (aF D)&&Au "BaseException.__getattribute__" == Au "object.__getattribute__")=false:=by rw[hx2];rfl
 obtain⟨hh,g,d,t,os⟩:=s;unfold getAttr? getAttrBy? getAttrBy;refine aa (wpAny_mkText (aa (sI (d_ (aa (L0.at (aa (L1.at ?_))))))));dsimp only;rw[hx1,K5 dq];unfold getAttrByItsOwn hookBefore;rw[show onTheHeap (aF D)=true from U,K6 rfl];refine aa (L2.at ?_);refine aa (sI (d_ ?_));unfold callGetattribute;rw[dO,K5 dq];unfold boundAndCalled;rw[f3];refine aa (aj ?_);refine AQ (E_ PySem.F.attr_ValueError.ga.plain F.entry_bexc_ga (Py (s:=⟨hh,g,d,t+1,os⟩) X c I (Pc (s:=⟨hh,g,d,t+1,os⟩) X c I ?_)))
 repeat (first |exact h |wp_step)
theorem PB (c:wI K D):KitX K (.ref x) (.ref D) (λh=>InstAt h x ox D none) where
 ty:=λ_ _ _ I=>I.type
 it:=λM h X _=>by
  obtain⟨cd,hc⟩:=DH.mp c.cls;unfold clsIn at hc
  split at hc
  ·rename_i ho;intro A' Q' E' s' k q;unfold isType loadHead;exact aa (IY (k _ _ (X _ _ ho)) (aj q))
  ·cases hc
 ne:=λh tp dd K8 n sl X htp=>by
  obtain⟨cd,hc⟩:=DH.mp c.cls;refine dI.mpr λq=>?_;obtain rfl:D=tp:=Value.ref.inj (beq_iff_eq.mp q);unfold clsIn at hc
  split at hc
  ·rename_i ho
   cases (X _ _ ho).symm.trans htp
  ·cases hc
 ca:=λX I k=>Mj X c I k
end
end XK
variable {oe:g_}{e₀ Sx So:aQ}{np V' p1:fW}{tb:L2.TS}{b₀:Array iS}{Sv:List aQ}{src:List (Option Nat)}{Nc:List af}{qs:List (Int×Int)}{ks:List Int}{tv tl:L2.TE}{ta:L2.TA}{tt:L2.TT}{wi:L2.TI}{sep:af}
namespace L2
open PySem PySem.Spec PyProof.Rows
structure Nl (fl:List ag)(e:ag)(oe:g_)(mark:ae)(h h':fi)(T:ag):Prop where
 keep:∀b o,b≠e->b∉fl->h.get? b=some o->h'.get? b=some o
 slot:∀b o,b≠e->h.get? b=some o->∃sl,h'.get? b=some {o with slots:=sl}
 new:h.objs.size<=T
 recd:h'.get? e=some (oe.mapFields (·.setIfInBounds 1 (.ref T)))
 head:∃oT ts,h'.get? T=some oT/\oT.data=.fields ts/\ts[3]?=some mark
theorem PV {L e:ag}{head:ae}{Q:Unit->ar->Prop}
  (hfr:A.frames=some (env::outer)) (hl:s.heap.FunFrames base (env::outer)) (hf:env.frame=some L) (he:s.heap.get? e=some oe) (hd:oe.data=.fields vs) (hz:1<vs.size) (k:∀h' T,Nl ((env::outer).filterMap (·.frame)) e oe (fj L) s.heap h' T->Q () {s with heap:=h'}) :
  wpAny M A (do x_ (.ref e) 1 (<- sP head (<- frameOf env) .none (fj L) .none (<- entryPlaceOf L b))) Q E s:=by
 have V_:e∉(env::outer).filterMap (·.frame):=λhm=>by
  obtain⟨_,o,ho,nf⟩:=hl.mem hm;rw[he]at ho;cases ho;exact nf vs hd
 refine aa (wpAny_frameOf_fun hfr hl hf λg so=>?_);refine aa (wpAny_entryPlaceOf λpl place=>?_);refine aa ?_;unfold sP newFields;refine fF ?_ (place.sizeOk5 _ _ _ _ _);have g1:g.get? e=some oe:=(so.2.1 e V_).trans he;have g2:=dc (h:=g) {cls:=.type "traceback",dict:=none,data:=.fields ([head,.ref L,.none,fj L,.none]++(if pl.isEmpty then aW 6 aN else pl)).toArray} g1;have ne:g.objs.size≠e:=eM (C5 g1);refine y_ g2 hd hz (k _ g.objs.size ?_)
 have SJ:∀c o,c≠e->g.get? c=some o->((g.push {cls:=.type "traceback",dict:=none,data:=.fields ([head,.ref L,.none,fj L,.none]++(if pl.isEmpty then aW 6 aN else pl)).toArray}).update e (aV (·.setIfInBounds 1 (aF g.objs.size)))).get? c=some o:=λc o hc q=>by
  rw[d4 _ _ (fK hc)];exact dc _ q
 refine⟨λc o hc hm q=>SJ c o hc ((so.2.1 c hm).trans q),λc o hc q=>?_,by rw[so.1];exact CI _,?_,?_⟩
 ·obtain⟨sl,z⟩:=so.2.2 c o q;exact⟨sl,SJ c _ hc z⟩
 ·exact Du _ g2 (si (ig hd _))
 ·refine⟨_,_,(d4 _ _ (fK ne)).trans (dA g U),U,?_⟩
  simp
abbrev CT:=Hp->Array ae->Prop
def C0:CT:=λ_ vs=>vs[2]?=some .none
inductive vw (H:Hp):Array ae->Prop where
 |no {vs:Array ae}:vs[2]?=some .none->vw H vs
 |on {vs:Array ae} {eb:ag} {ob:g_} {ws:Array ae} {u:HO}:vs[2]?=some (.ref eb)->H eb=some (.frz ob u)->ob.data=.fields ws->vw H ws->vw H vs
class Zh (C:CT):Prop where
 keep:∀{H:Hp} {vs:Array ae} {v:ae},C H vs->C H (vs.setIfInBounds 1 v)
 zero:∀{H:Hp} {vs:Array ae},vs[2]?=some .none->C H vs
 ctx:∀{H:Hp} {vs:Array ae},C H vs->vw H vs
theorem lx {v:ae}{n:ae}(h:vs[2]?=some n):(vs.setIfInBounds 1 v)[2]?=some n:=by
 rw[Array.getElem?_setIfInBounds_ne ∅];exact h
instance:Zh C0:=⟨lx,id,.no⟩
instance:Zh vw:=⟨λh=>by
 cases h with
 |no h=>exact .no (lx h)
 |on a b c d=>exact .on (lx a) b c d,.no,id⟩
def ko (C:CT)(X:Cx)(pins:List (ag×g_))(H:Hp)(ea:ag)(cls fl:ae)(h:fi):Prop :=
 yL X pins H ea/\∃oe vs,h.get? ea=some oe/\(oe.cls=cls/\oe.dict=none)/\oe.data=.fields vs/\C H vs /\
  ((vs[1]?=some .none/\fl=.none)∨∃T oT ts,vs[1]?=some (.ref T)/\T≠ea/\yL X pins H T/\h.get? T=some oT/\oT.data=.fields ts/\ts[3]?=some fl)
section
variable {Q:Unit->ar->Prop}{C:CT}[ct:Zh C]
theorem zH.flown (I:zH X pins σ H s){b:ag}(f:yL X pins H b)(k:∀c o,c≠b->s.heap.get? c=some o->h'.get? c=some o):zH X pins σ H {s with heap:=h'} :=
 I.turned (t':=s.toks) k f.1 f.2.1 f.2.2.2.1 f.2.2.2.2.1 f.2.2.2.2.2
theorem yC.some {o:HO}(x:yC P w H h a o):∃u,h.get? a=some u:=by
 cases o with
 |lst xs=>obtain⟨_,_,_,_,e⟩:=x;exact⟨_,e⟩
 |tup xs=>obtain⟨_,_,_,u,e,_⟩:=x;exact⟨_,e⟩
 |dK kvs=>obtain⟨_,_,_,_,u,_,_,e,_⟩:=x;exact⟨u,e⟩
 |dT kvs=>obtain⟨_,_,_,_,u,_,_,e,_⟩:=x;exact⟨u,e⟩
 |set S n=>obtain⟨u,_,_,_,e,_⟩:=x;exact⟨u,e⟩
 |ins C dx fs=>obtain⟨_,_,_,e,_⟩:=x;exact⟨_,e⟩
 |own y=>exact x
 |xd fs=>obtain⟨_,⟨u,_,_,e,_⟩,_⟩:=x;exact⟨u,e⟩
 |rng lo hi=>obtain⟨_,_,_,e⟩:=x;exact⟨_,e⟩
 |frz ob u=>obtain⟨e,_⟩:=x;exact⟨_,e⟩
 |tbl ps=>exact⟨_,x⟩
 |met f y=>exact⟨_,x⟩
 |ext φ=>exact x.2.1
theorem zH.none_of (I:zH X pins σ H s){b:ag}(hb:s.heap.get? b=none):H b=none:=by
 cases q:H b with
 |none=>rfl
 |some o=>
  obtain⟨u,e⟩:=(I.hok b o q).some;rw[hb]at e;cases e
theorem zH.fpNone (I:zH X pins σ H s){b:ag}(hb:s.heap.get? b=none)(hn:H' b=none):yL X pins H' b:=by
 refine⟨hn,λz=>?_,λz=>?_,?_,λx c e z=>?_,λp hp z=>?_⟩
 ·obtain⟨m,⟨o,_,_,e,_⟩,_⟩:=I.loc;rw[<- z,hb]at e;cases e
 ·obtain⟨_,o,e,_⟩:=I.funs.mem z;rw[hb]at e;cases e
 ·by_cases hx:b∈X.ex
  ·exact .inl hx
  ·refine .inr ?_
   cases q:X.s₀.heap.get? b with
   |none=>rfl
   |some o=>
    obtain⟨o',e⟩:=I.base.there b o q hx;rw[hb]at e;cases e
 ·obtain⟨v,o,e',_⟩:=I.cell x c e;rw[z,hb]at e'
  cases e'
 ·have e:=(I.pin p hp).1;rw[z,hb]at e;cases e
theorem kR (I:zH X pins σ H s)(F:ko C X pins H ea cls fl s.heap)(k:∀s',zH X pins σ H s'->ko C X pins H ea cls .none s'.heap->Q () s'):
  wpAny M A (Fz (.ref ea) none) Q E s:=by
 obtain⟨f0,oe,vs,he,hc,hd,h2,hh⟩:=F;unfold Fz;rcases hh with⟨h1,rfl⟩ |⟨T,oT,ts,h1,SQ,fT,hT,Si,h3⟩
 ·refine aa (fR he hd h1 ?_);rw[K5 ∅];exact aj (k s I ⟨f0,oe,vs,he,hc,hd,h2,.inl ⟨h1,U⟩⟩)
 ·have hz:3<ts.size:=(Dk.mp h3).1;refine aa (fR he hd h1 ?_);rw[K6 (show(aF T != aN)=true by simp)];have SJ:∀c,c≠T->(s.heap.update T (aV (·.setIfInBounds 3 ((none:Option ag).elim aN λf=>fj f)))).get? c=s.heap.get? c:=λc hc=>d4 _ _ (fK hc);have hT':=Du (aV (·.setIfInBounds 3 ((none:Option ag).elim aN λf=>fj f))) hT (si (ig Si _));refine y_ hT Si hz (k _ (I.flown fT λc o hc q=>(SJ c hc).trans q) ⟨f0,oe,vs,(SJ ea (fK SQ)).trans he,hc,hd,h2,.inr ⟨T,_,_,h1,SQ,fT,hT',ig Si _,?_⟩⟩)
  simp[hz]
theorem JS (f:Array ae->Array ae)(o:g_):(aV f o).dict=o.dict:=by
 obtain⟨c,d,dt,sl⟩:=o
 cases dt<;>rfl
theorem VB (I:zH X pins σ H s)(hs:X.stack=X.env::X.outer)(hf:X.env.frame=some X.env.locals)(hfr:A.frames=some X.stack){head:ae}
  (f0:yL X pins H ea) (he:s.heap.get? ea=some oe) (hc:oe.cls=cls/\oe.dict=none) (hd:oe.data=.fields vs) (h2:C H vs) (hz:1<vs.size) (k:∀s',zH X pins σ H s'->ko C X pins H ea cls (fj X.env.locals) s'.heap->Q () s') :
  wpAny M A (do x_ (.ref ea) 1 (<- sP head (<- frameOf X.env) .none (fj X.env.locals) .none (<- entryPlaceOf X.env.locals b))) Q E s:=by
 have stk:s.heap.FunFrames X.base (X.env::X.outer):=by
  have q:=I.stack;rw[hs]at q;exact q
 have fm:∀b,b∈(X.env::X.outer).filterMap (·.frame)↔b=X.env.locals∨b∈X.fs:=λb=>by
  rw[eL,hf];exact CJ
 have fre:∀b∈(X.env::X.outer).filterMap (·.frame),H b=none:=λb hb=>I.stkFree b (by rw[hs];exact hb);refine PV (hfr.trans (K4 some hs)) stk hf he hd hz λh' T W=>?_;have nT:ea≠T:=de (dM (C5 he) W.new)
 have I':zH X pins σ H {s with heap:=h'}:=by
  refine I.step (g':=s.gens) (d':=s.drawn) (t':=s.toks) (ch:=[ea]) (λb hb=>?_) (λb o hL hb hc q _=>?_) (λb o _ _ hc q _=>W.slot b o (λz=>hc (by simp[z])) q) (λ_ _ _ _ n=>n)
   (λb o hc q=>?_) (λ_ _ q=>q) (λ_ _ _ q=>q) (λ_ ps q=>⟨#[],by rw[q];simp⟩) (λm hm=>?_) (λb u q=>?_) I.bare
  ·obtain rfl:b=ea:=by simpa using hb
   exact⟨f0.2.2.2.1,f0.2.1,f0.2.2.2.2.1,f0.2.2.2.2.2⟩
  ·exact W.keep b o (λz=>hc (by simp[z])) (λz=>((fm b).mp z).elim hL hb) q
  ·obtain⟨sl,z⟩:=W.slot b o (λz=>hc (by simp[z])) q;exact⟨_,z⟩
  ·obtain⟨o,es,ep,ho,r⟩:=hm;obtain⟨sl,z⟩:=W.slot _ o (fK f0.2.1) ho;exact⟨_,es,ep,z,r⟩
  ·refine(I.hok b u q).stay (λc v hc z=>?_) (λ_ z=>z) λ_ _ z=>z
   have nc:H c≠none:=by
    rcases hc with rfl |hc
    ·rw[q];simp
    ·rw[hc];simp
   exact W.keep c v (λe=>nc (by rw[e];exact f0.1)) (λe=>nc (fre c e)) z
 obtain⟨oT,ts,hT,Si,h3⟩:=W.head;refine k _ I' ⟨f0,_,_,W.recd,⟨(Obj.cls_mapFields _ _).trans hc.1,(JS _ _).trans hc.2⟩,ig hd _,?_,.inr ⟨T,oT,ts,?_,fK nT,?_,hT,Si,h3⟩⟩
 ·exact ct.keep h2
 ·simp[hz]
 ·exact I.fpOk W.new (I.hok.fresh W.new)
theorem wq (I:zH X pins σ H s)(F:ko C X pins H ea cls fl s.heap)(hs:X.stack=X.env::X.outer)(hf:X.env.frame=some X.env.locals)(hfr:A.frames=some X.stack)(k:∀s',zH X pins σ H s'->ko C X pins H ea cls (fj X.env.locals) s'.heap->Q () s'):wpAny M A (HW (.ref ea) X.env) Q E s:=by
 obtain⟨f0,oe,vs,he,hc,hd,h2,hh⟩:=F;unfold HW;simp only[hf];rcases hh with⟨h1,_⟩ |⟨T,oT,ts,h1,SQ,fT,hT,Si,h3⟩
 ·refine aa (fR he hd h1 ?_);rw[K5 ∅];exact VB I hs hf hfr f0 he hc hd h2 (Dk.mp h1).1 k
 ·have hz:3<ts.size:=(Dk.mp h3).1;refine aa (fR he hd h1 ?_);rw[K6 (show(aF T != aN)=true by simp)];refine aa (fR hT Si h3 ?_)
  by_cases me:(fl==fj X.env.locals)=true
  ·rw[K6 me];exact aj (k s I ⟨f0,oe,vs,he,hc,hd,h2,.inr ⟨T,oT,ts,h1,SQ,fT,hT,Si,by rw[<- eq_of_beq me];exact h3⟩⟩)
  rw[K5 me];have SJ:∀c,c≠T->(s.heap.update T (aV (·.setIfInBounds 3 aN))).get? c=s.heap.get? c:=λc hc=>d4 _ _ (fK hc);refine aa (y_ hT Si hz ?_);exact VB (I.flown fT λc o hc q=>(SJ c hc).trans q) hs hf hfr f0 ((SJ ea (fK SQ)).trans he) hc hd h2 (Dk.mp h1).1 k
end
inductive GK (C:CT)(P:aU)(w:aP)(outer:List Fu)(H:Hp)(s:ar)(E:XK)(e:ae)(s':ar):Prop|mk(ea:ag)(cls:ae)(H':Hp)(_:e=.ref ea)(_:s'.os=s.os)(_:sR s'.gens)(_:Un (oY outer) [] H H' s.heap s'.heap)(_:ZD P w H' s'.heap)(_:(s.heap.get? ea=none/\H' ea=none/\∃oe vs,s'.heap.get? ea=some oe/\(oe.cls=cls/\oe.dict=none)/\oe.data=.fields vs/\C H' vs/\((vs[1]?=some .none)∨∃T oT ts,vs[1]?=some (.ref T)/\T≠ea/\s.heap.get? T=none/\H' T=none/\s'.heap.get? T=some oT/\oT.data=.fields ts/\ts[3]?=some .none)))(_:E cls none H')
abbrev jS:=GK C0
abbrev mX:=GK vw
def yA (C:CT)(X:Cx)(E:XK):Prop:=∀(pins:List (ag×g_)) (σ:St) (H:Hp) (s:ar) (ea:ag) (cls fl:ae),zH X pins σ H s->ko C X pins H ea cls fl s.heap->E cls none H->X.xe (.ref ea) s
abbrev RR:=yA C0
theorem yA.plain {C:CT}[ct:Zh C]{E:XK}(t:yA C X E):RR X E:=λpins σ H s ea cls fl I F q=>by
 obtain⟨f0,oe,vs,he,hc,hd,h2,hh⟩:=F;exact t pins σ H s ea cls fl I ⟨f0,oe,vs,he,hc,hd,ct.zero h2,hh⟩ q
theorem jN {C:CT}{E:XK}(hP:X.prog=P)(hw:X.w=w)(t:yA C X E):yW (GK C P w) X E:=by
 subst hP hw;intro pins σ H s e s' I c;obtain⟨ea,cls,H',rfl,os,bare,un,hok,⟨n0,f0,oe,vs,he,hc,hd,h2,hh⟩,q⟩:=c;have I':zH X pins σ H' s':=I.call' (ch:=[]) os un hok bare λb z=>K7 z (by simp);refine t pins σ H' s' ea cls .none I' ⟨I.fpNone n0 f0,oe,vs,he,hc,hd,h2,?_⟩ q;rcases hh with h1 |⟨T,oT,ts,h1,ne,nT,fT,hT,Si,h3⟩
 ·exact .inl ⟨h1,U⟩
 ·exact .inr ⟨T,oT,ts,h1,ne,I.fpNone nT fT,hT,Si,h3⟩
theorem qa {C:CT}[ct:Zh C]{K:BFr}{mg:af->Option ae}{E:XK}:
  yA C (u5 (GK C P w) P w K mg base N qual scope f cd A outer s H E) E:=by
 intro pins σ H' s' ea cls fl I F q;show wpAny _ _ (leaving _ _) _ _ _;unfold leaving;refine aa (wq I F U U I.ok.frames λs1 I1 F1=>?_);refine kR I1 F1 λs2 I2 F2=>?_;obtain⟨f0,oe,vs,he,hc,hd,h2,hh⟩:=F2
 have ge:∀{b:ag},yL (u5 (GK C P w) P w K mg base N qual scope f cd A outer s H E) pins H' b->s.heap.get? b=none:=λ{b} z=>by
  rcases z.2.2.2.1 with z |z
  ·exact K7 (show b∈([]:List ag) from z) (by simp)
  ·exact z
 refine⟨ea,cls,H',U,I2.os,I2.bare,I2.base,I2.hok,⟨ge f0,f0.1,oe,vs,he,hc,hd,h2,?_⟩,q⟩;rcases hh with⟨h1,_⟩ |⟨T,oT,ts,h1,ne,fT,hT,Si,h3⟩
 ·exact .inl h1
 ·exact .inr ⟨T,oT,ts,h1,ne,ge fT,fT.1,hT,Si,h3⟩
theorem gX {K:BFr}{bmB:List ae}{newId:String}(X:K.In h)(q:hU K C bmB newId=true):
  ∃bm N nm qn bs hd sn sub ab col dd k0 k1 k2 k3 k5 mN,h.get? C=some (Iq nm qn C N bs bm hd sn sub ab col dd k0 k1 k2 k3 k5 newId)/\h.Ns N mN/\mN "__init__" = none/\OwnTail h bmB bm:=by
 unfold hU at q
 split at q
 case h_2=>cases q
 case h_1 dd cd sl lk=>
  split at q
  case h_2=>cases q
  case h_1 C' bm k0 k1 k2 k3 n k5 em es=>
   simp only[CM,beq_iff_eq,Ds]at q;obtain⟨⟨⟨⟨⟨e1,e2⟩,e3⟩,e4⟩,e5⟩,e6⟩:=q;subst e1 e2;obtain⟨c1,c2,c3,c4,c5,c6,c7,c8,c9,c10,c11⟩:=cd;dsimp only at em e3 e5 e6;subst em e3;obtain⟨ls⟩:=sl;dsimp only at es;subst es;exact⟨bm,c4,c1,c5,c2,c6,c7,c8,c9,c10,dd,k0,k1,k2,k3,k5,_,X _ _ lk,.of_isNs (PySem.W.isNs_of_in X e5),PySem.W.nsMap_none_of_in X e5 e6,PySem.W.tail_of_in X e4⟩
section
variable {E:XK}{Ct:CT}[ct:Zh Ct]{rest:List aQ}{t:TA}{pos:fW}
def Tq (E:XK)(C:ag)(t:TA):TS:=λ_ σ H=>t σ H λvs H1=>vs.length<=au/\E (.ref C) none H1
theorem qP (hE:yA Ct X E)(hc:X.calm=true)(hg:Gl X x)(hm:X.mg x=some (.ref C))(hx:hU X.K C ZQ "ValueError.__new__" = true)(ha:PA X (e₀ :: rest) t)(he:ax (e₀ :: rest) X.env=(false,eval e₀ X.env)::ax rest X.env:=by exact zW U)(Sa:(ff K' (ax rest X.env)).any (·.1)=false:=by exact yF U)(Sd:(x==("__debug__":af))=false:=by decide):
  PS X (.Raise (some (.Call (.Name x np) (e₀ :: rest) [] K')) none pos) (Tq E C t):=by
 intro pins s σ H D I h;obtain⟨bm,N,nm,qn,bs,hd,sn,sub,ab,col,dd,k0,k1,k2,k3,k5,mN,oC,oN,ni,T⟩:=gX I.ok.mod.kin hx;have FB:=Ad
 refine wpAny_Raise_call_subT (C:=C) (nm:=nm) (q:=qn) (N:=N) (bs:=bs) (bm:=bm) (hdct:=hd) (sn:=sn) (sub:=sub) (ab:=ab) (col:=col) (dd:=dd) (k0:=k0) (k1:=k1) (k2:=k2) (k3:=k3) (k5:=k5) (mN:=mN)
  FB (T.hasType FB.hasBase) (I.ok.hd hc) (by rw[he];show(false || (ff K' (ax rest X.env)).any (·.1))=false;rw[Sa];rfl) ni (jW I hg hm ⟨U,?_⟩ Sd)
 have q:=ha K' pins s σ H _ I h;rw[he]at q ⊢;refine iT (yj q λus s2 hM=>?_);obtain⟨vs,H1,I1,r,hl,w⟩:=hM;refine⟨U,by show us.length<=au;rw[<- r.length];exact hl,I1.bk _ _ oC,oN.keeps I1.bk,T.keeps I1.bk,λh' e made=>?_⟩;obtain⟨t0,there,_,_⟩:=made.there;exact hE pins σ H1 _ e (.ref C) .none (I1.kept (t':=s2.toks) made.keeps) ⟨I1.fpNone made.new (I1.none_of made.new),_,_,there,⟨U,U⟩,U,ct.zero U,.inl ⟨U,U⟩⟩ w
end
abbrev Cx.tr (X:Cx)(pn:List (ag×g_))(E:ae->ar->Prop):Cx:={X with pn:=pn,xe:=E}
abbrev Cx.hdl (X:Cx)(pn:List (ag×g_))(ea:ag)(E:ae->ar->Prop):Cx:={X with pn:=pn,xe:=E,A:=X.A.mark (some (.ref ea)),calm:=false}
def Ys (ea:ag)(oe:g_):HO:=.frz oe (.ext λh=>∃o,h.get? ea=some o)
theorem Cx.Ok.tr (ok:X.Ok):(X.tr pn E).Ok :=
 ⟨ok.mod,ok.kind,ok.glob,ok.blt,ok.above,ok.inj,ok.has,ok.cab,ok.hd,ok.frames,ok.stk,ok.exf,ok.bs,ok.bsz,ok.noex,ok.exfs,ok.funs,ok.frf⟩
theorem Cx.Ok.hdl (ok:X.Ok):(X.hdl pn ea E).Ok :=
 ⟨ok.mod,ok.kind,ok.glob,ok.blt,ok.above,ok.inj,ok.has,ok.cab,(λz=>nomatch z),ok.frames,ok.stk,ok.exf,ok.bs,ok.bsz,ok.noex,ok.exfs,ok.funs,ok.frf⟩
theorem zH.tr (I:zH X pins σ H s):zH (X.tr (X.pn++pins) E) [] σ H s :=
 ⟨I.ok.tr,I.os,I.bare,I.base,I.loc,I.cell,I.free,I.freeC,λp hp=>I.pin p (by simpa using hp),I.hok,I.len⟩
theorem zH.toHdl {E':ae->ar->Prop}(I:zH (X.tr pn E') [] σ H s)(ok:X.Ok):zH (X.hdl pn ea E) [] σ H s :=
 ⟨ok.hdl,I.os,I.bare,I.base,I.loc,I.cell,I.free,I.freeC,I.pin,I.hok,I.len⟩
theorem zH.ofHdl (I:zH (X.hdl (X.pn++pins) ea E) [] σ H s)(ok:X.Ok):zH X pins σ H s :=
 ⟨ok,I.os,I.bare,I.base,I.loc,I.cell,I.free,I.freeC,λp hp=>I.pin p (by simpa using hp),I.hok,I.len⟩
theorem zH.ofTr (I:zH (X.tr (X.pn++pins) E) [] σ H s)(ok:X.Ok):zH X pins σ H s :=
 ⟨ok,I.os,I.bare,I.base,I.loc,I.cell,I.free,I.freeC,λp hp=>I.pin p (by simpa using hp),I.hok,I.len⟩
theorem ko.toHdl {C:CT}{E':ae->ar->Prop}{eb:ag}(F:ko C (X.tr pn E') [] H ea cls fl h):ko C (X.hdl pn eb E) [] H ea cls fl h:=F
theorem zH.hold (I:zH X pins σ H s)(f:yL X pins H ea)(he:s.heap.get? ea=some oe):zH X pins σ (upd H ea (Ys ea oe)) s:=by
 have V_:∀b u,H b=some u->b≠ea:=λb u q z=>by rw[z,f.1]at q;cases q
 refine I.step (h':=s.heap) (g':=s.gens) (d':=s.drawn) (t':=s.toks) (ch:=[ea]) (λb hb=>?_) (λ_ _ _ _ _ q _=>q) (λb o _ _ _ q _=>⟨o.slots,q⟩) (λb o hc _ n=>?_) (λb o _ q=>⟨o,q⟩)
  (λb xs q=>by rw[zm (V_ b _ q)];exact q) (λb o u q=>by rw[zm (V_ b _ q)];exact q) (λb ps q=>⟨#[],by rw[zm (V_ b _ q),q];simp⟩) (λ_ z=>z) (λb u q=>?_) I.bare
 ·obtain rfl:b=ea:=by simpa using hb
  exact⟨f.2.2.2.1,f.2.1,f.2.2.2.2.1,f.2.2.2.2.2⟩
 ·rw[zm (λz=>hc (by simp[z]))];exact n
 ·by_cases hb:b=ea
  ·subst hb;rw[zi]at q;cases q;exact⟨he,⟨_,he⟩,⟨_,he⟩,λh1 h2 ⟨o,e⟩ k=>⟨o,k o e⟩⟩
  ·rw[zm hb]at q;exact(I.hok b u q).stay (λ_ _ _ z=>z) (λc z=>by rw[zm (V_ c _ z)];exact z) λc xs z=>by rw[zm (V_ c _ z)];exact z
theorem zH.relocal {m':af->Option ae}(I:zH X pins σ H s)(hn:h'.Ns X.env.locals m')(hs:fB X.env.locals s.heap h'):
  zH X pins (X.N.map λ_=>none) H {s with heap:=h',toks:=t'}:=by
 have nl:∀b o,X.s₀.heap.get? b=some o->b≠X.env.locals:=λb o e=>de (dM (C5 e) I.ok.above);refine⟨I.ok,I.os,I.bare,⟨λb o e n hb hx=>?_,λb o e n hb hx=>?_,I.base.free,λb o e hx=>?_,I.base.tups,I.base.frzs,I.base.tbls⟩,⟨m',hn,λi x v e1 e2 _=>?_⟩,λx c e=>?_,I.free,I.freeC,λp hp=>?_,λb u q=>?_,by simp⟩
 ·exact(hs.2 b (nl b o e)).trans (I.base.keep b o e n hb hx)
 ·obtain⟨sl,q⟩:=I.base.slot b o e n hb hx;exact⟨sl,(hs.2 b (nl b o e)).trans q⟩
 ·obtain⟨o',q⟩:=I.base.there b o e hx;exact⟨o',(hs.2 b (nl b o e)).trans q⟩
 ·rw[CO,e1]at e2;cases e2
 ·obtain⟨v,z⟩:=I.cell x c e;exact⟨v,z.sameBut hs (I.cne x c e)⟩
 ·obtain⟨e,n,ne,nf,d⟩:=I.pin p hp;exact⟨(hs.2 p.1 ne).trans e,n,ne,nf,d⟩
 ·refine(I.hok b u q).stay (λc v hc z=>(hs.2 c ?_).trans z) (λ_ z=>z) λ_ _ z=>z;rintro rfl;rcases hc with hc |hc
  ·rw[<- hc,I.free]at q;cases q
  ·rw[I.free]at hc;cases hc
inductive ZY (C:CT)(X:Cx)(pn:List (ag×g_))(R:XK)(e:ae)(s:ar):Prop|mk(ea:ag)(cls fl:ae)(σ:St)(H:Hp)(_:e=.ref ea)(_:zH (X.tr pn λ_ _=>True) [] σ H s)(_:ko C (X.tr pn λ_ _=>True) [] H ea cls fl s.heap)(_:R cls none H)
abbrev cn:=ZY C0
theorem JJ {C:CT}{R:XK}:yA C (X.tr pn (ZY C X pn R)) R:=by
 intro pins σ H s ea cls fl I F q;refine⟨ea,cls,fl,σ,H,U,⟨⟨I.ok.mod,I.ok.kind,I.ok.glob,I.ok.blt,I.ok.above,I.ok.inj,I.ok.has,I.ok.cab,I.ok.hd,I.ok.frames,I.ok.stk,I.ok.exf,I.ok.bs,I.ok.bsz,I.ok.noex,I.ok.exfs,I.ok.funs,I.ok.frf⟩,I.os,I.bare,I.base,I.loc,I.cell,I.free,I.freeC,λp hp=>I.pin p ?_,I.hok,I.len⟩,?_,q⟩
 ·rw[dF]at hp;exact d9 _ hp
 ·have SW:∀{b:ag},yL (X.tr pn (ZY C X pn R)) pins H b->yL (X.tr pn λ_ _=>True) [] H b:=λ{b} f=>⟨f.1,f.2.1,f.2.2.1,f.2.2.2.1,f.2.2.2.2.1,λp hp=>f.2.2.2.2.2 p (by rw[dF]at hp;exact d9 _ hp)⟩;obtain⟨f0,oe,vs,he,hc,hd,h2,hh⟩:=F;refine⟨SW f0,oe,vs,he,hc,hd,h2,?_⟩;rcases hh with z |⟨T,oT,ts,h1,ne,fT,hT,Si,h3⟩
  ·exact .inl z
  ·exact .inr ⟨T,oT,ts,h1,ne,SW fT,hT,Si,h3⟩
def bK (N:List af)(D:j6):j6:={nx:=λ_ H=>D.nx (N.map λ_=>none) H,rt:=D.rt,bk:=λ_ H=>D.bk (N.map λ_=>none) H,ct:=λ_ H=>D.ct (N.map λ_=>none) H}
def TY (C:CT)(R:XK)(N:List af)(i:Nat)(tb:TS)(th:ag->TS):TS:=λD σ H=>tb D σ H/\∀(ea:ag) (oe:g_) (vs:Array ae) (cls:ae) (σ':St) (H':Hp),R cls none H'->H' ea=none->oe.cls=cls->oe.dict=none ->
 oe.data=.fields vs->C H' vs->σ'.length=N.length->th ea (bK N D) (σ'.set i (some (.ref ea))) (upd H' ea (Ys ea oe))
theorem M6 {C:CT}[ct:Zh C]{n:af}{c:ag}{R:XK}{th:ag->TS}{suite:List n_}{b₀:n_}{pos:fW}(hs:X.stack=X.env::X.outer)(hf:X.env.frame=some X.env.locals)(hg:Gl X x)(hm:X.mg x=some (.ref c))(hR:∀cls o H,R cls o H->aX X.K cls (.ref c)=some true)(hN:X.N.Nodup)(hi:X.N[i]?=some n)(hn:X.env.scope.names.lookup n=some .local)(hb:∀pn,y8 (X.tr pn (ZY C X pn R)) body tb)(hh:∀pn ea E,y8 (X.hdl pn ea E) (b₀ :: suite) (th ea))(Sd:(x==("__debug__":af))=false:=by decide):
  PS X (.Try body [.ExceptHandler (some (.Name x np)) (some n) (b₀ :: suite) V'] [] [] pos) (TY C R X.N i tb th):=by
 intro pins s σ H D I h;obtain⟨h1,h2⟩:=h;have ok:=I.ok;have cls0:(X.env.scope.kind == .class || (X.env.scope.kind == .module&&X.env.locals != X.env.globals))=false:=by rw[ok.kind];rfl
 refine AD (fh (hb (X.pn++pins) [] s σ H D I.tr h1) (λf s1 q=>?_) λe s1 q=>?_)
 ·cases f with
  |next=>
   obtain⟨σ',H',I',q⟩:=q;exact i6 ⟨σ',H',I'.ofTr ok,q⟩
  |brk=>obtain⟨σ',H',I',q⟩:=q;exact⟨σ',H',I'.ofTr ok,q⟩
  |cont=>obtain⟨σ',H',I',q⟩:=q;exact⟨σ',H',I'.ofTr ok,q⟩
  |ret u=>obtain⟨v,σ',H',I',r,q⟩:=q;exact⟨v,σ',H',I'.ofTr ok,r,q⟩
 ·obtain⟨ea,cls,fl,σ1,H1,rfl,I1,F1,r1⟩:=q;refine wq (X:=X.tr (X.pn++pins) λ_ _=>True) I1 F1 hs hf I1.ok.frames λs2 I2 F2=>?_;refine kR I2 F2 λs3 I3 F3=>?_;have J3:zH (X.hdl (X.pn++pins) ea λ_ _=>True) [] σ1 H1 s3:=I3.toHdl ok;obtain⟨_,oe3,_,he3,hc3,_⟩:=id F3;refine iX (iM (jW J3 hg hm ?_ Sd)) (by intro q;cases q)
  have LT:FR (aA X.prog X.w) s3.heap (KW (.ref ea)) cls:=by
   rw[<- hc3.1];exact(AJ he3).andThen .now
  refine(iq J3.kIn LT (hR cls none H1 r1)).here ?_;refine codeAny_handlers_suite_as ?_;refine kR J3 F3.toHdl λs4 J4 F4=>?_;obtain⟨f4,oe,vs,he,hc,hd,h2',_⟩:=F4;have J5:=J4.hold f4 he;refine Y9 (X:=X.hdl (X.pn++pins) ea λ_ _=>True) J5 hN hi (.inl hn) (v:=.ref ea) rfl (λs6 J6=>?_) (.inr hn);have len:σ1.length=X.N.length:=I1.len;have J6':∀E,zH (X.hdl (X.pn++pins) ea E) [] (σ1.set i (some (.ref ea))) (upd H1 ea (Ys ea oe)) s6:=λE=>⟨ok.hdl,J6.os,J6.bare,J6.base,J6.loc,J6.cell,J6.free,J6.freeC,J6.pin,J6.hok,J6.len⟩;refine fh (hh (X.pn++pins) ea _ [] s6 _ _ (bK X.N D) (J6' _) (h2 ea oe vs cls σ1 H1 r1 f4.1 hc.1 hc.2 hd h2' len)) (λf s7 q=>?_) λ_ _ z=>z
  have go:∀{σ7:St} {H7:Hp} {E7:ae->ar->Prop},zH (X.hdl (X.pn++pins) ea E7) [] σ7 H7 s7->(∀s8,zH X pins (X.N.map λ_=>none) H7 s8->SP X pins D f s8) ->
    wpAny (aA X.prog X.w) X.A (do bindName X.env n .none;unbindBehindTheSuite X.env n V') (λ_ s8=>SP X pins D f s8) X.xe s7:=λ{σ7 H7 E7} J k=>by
   obtain⟨m,hns,_⟩:=J.loc;exact wpAny_nameGoes hn hns cls0 λh' m' hn' hs'=>k _ ((J.ofHdl ok).relocal hn' hs')
  cases f with
  |next=>obtain⟨σ',H',I',q⟩:=q;exact go I' λs8 I8=>⟨_,_,I8,q⟩
  |brk=>obtain⟨σ',H',I',q⟩:=q;exact go I' λs8 I8=>⟨_,_,I8,q⟩
  |cont=>obtain⟨σ',H',I',q⟩:=q;exact go I' λs8 I8=>⟨_,_,I8,q⟩
  |ret u=>obtain⟨v,σ',H',I',r,q⟩:=q;exact go I' λs8 I8=>⟨v,_,_,I8,r,q⟩
inductive kh (h:fi):ag->Prop where
 |last {a:ag} {o:g_} {ws:Array ae}:h.get? a=some o->o.data=.fields ws->ws[2]?=some .none->kh h a
 |more {a b:ag} {o:g_} {ws:Array ae}:h.get? a=some o->o.data=.fields ws->ws[2]?=some (.ref b)->kh h b->kh h a
inductive u6 (h:fi):ag->ag->Prop where
 |nil {a:ag}:u6 h a a
 |cons {a b c:ag} {o:g_} {ws:Array ae}:h.get? a=some o->o.data=.fields ws->ws[2]?=some (.ref b)->u6 h b c->u6 h a c
theorem u6.snoc {b c:ag}{ws:Array ae}(p:u6 h a b)(e1:h.get? b=some o)(e2:o.data=.fields ws)(e3:ws[2]?=some (.ref c)):u6 h a c:=by
 induction p with
 |nil=>exact .cons e1 e2 e3 .nil
 |cons f1 f2 f3 _ ih=>exact .cons f1 f2 f3 (ih e1)
theorem kh.there (l:kh h a):∃o,h.get? a=some o:=by
 cases l with
 |last e _ _=>exact⟨_,e⟩
 |more e _ _ _=>exact⟨_,e⟩
theorem kh.path {b:ag}(l:kh h a)(p:u6 h a b):kh h b:=by
 induction p with
 |nil=>exact l
 |cons f1 f2 f3 _ ih=>
  refine ih ?_
  cases l with
  |last e1 e2 e3=>
   rw[f1]at e1;cases e1;rw[f2]at e2;cases e2;rw[f3]at e3;cases e3
  |more e1 e2 e3 l=>
   rw[f1]at e1;cases e1;rw[f2]at e2;cases e2;rw[f3]at e3;cases e3;exact l
theorem kh.keeps (l:kh h a)(k:∀b o,u6 h a b->h.get? b=some o->h'.get? b=some o):kh h' a:=by
 induction l with
 |last e1 e2 e3=>exact .last (k _ _ .nil e1) e2 e3
 |more e1 e2 e3 _ ih=>exact .more (k _ _ .nil e1) e2 e3 (ih λb o p e=>k b o (.cons e1 e2 e3 p) e)
theorem u6.back {b:ag}(p:u6 h' a b):kh h a->(∀c o,u6 h a c->h.get? c=some o->h'.get? c=some o)->u6 h a b:=by
 induction p with
 |nil=>intro _ _;exact .nil
 |cons f1 f2 f3 _ ih=>
  intro l k;obtain⟨o,e⟩:=l.there;have e':=k _ _ .nil e;rw[f1]at e'
  cases e'
  exact .cons e f2 f3 (ih (l.path (.cons e f2 f3 .nil)) λc o p q=>k c o (.cons e f2 f3 p) q)
theorem Zp:Kc table "proto.unchain" = some Builtin.«proto.unchain»:=HX (by kernel_rfl)
theorem V1 {v slow:ae}{t:Bool}(e2:s.heap.get? ea=some oe)(e3:oe.data=.fields vs)(e4:vs[2]?=some .none)(k:R (.ok (.ret .none)) s):codeAny (aA prog w) A (.builtin "proto.unchain" ⟨[v,.ref ea,slow,.bool t],[]⟩) R s:=by
 refine fY Zp ?_;unfold Builtin.«proto.unchain»;refine aa (fR e2 e3 e4 ?_);rw[K6 ∅];refine aa (aj (aj ?_));exact k
theorem Uu {v:ag}(k:R (.ok (.ret .none)) s)(l:kh s.heap a):(∀b,u6 s.heap a b->b≠v)->∀(x:ag) (t:Bool),(t=false->u6 s.heap x a)->(t=true->∃o ws y,s.heap.get? x=some o/\o.data=.fields ws/\ws[2]?=some (.ref y)/\u6 s.heap y a) ->
  codeAny (aA prog w) A (.builtin "proto.unchain" ⟨[.ref v,.ref a,.ref x,.bool t],[]⟩) R s:=by
 induction l with
 |last e2 e3 e4=>intro _ _ _ _ _;exact V1 e2 e3 e4 k
 |@more a b o ws e2 e3 e4 l ih=>
  intro nv x t h0 h1;have nb:b≠v:=nv b (.cons e2 e3 e4 .nil);refine fY Zp ?_;unfold Builtin.«proto.unchain»;refine aa (fR e2 e3 e4 ?_);rw[K5 (show ¬((aF b==aN)=true) by simp)];dsimp only;rw[K5 (show ¬((aF b==aF v)=true) by simp[nb])]
  by_cases z:b=x
  ·rw[K6 (show(aF b==aF x)=true by simp[z])];refine aa (FZ (aa (aj (aj ?_))));exact k
  ·rw[K5 (show ¬((aF b==aF x)=true) by simp[z])]
   cases t with
   |false=>
    rw[K5 ∅];refine aa (aj (aj ⟨Ae _ ⋯,ih (λc p=>nv c (.cons e2 e3 e4 p)) x true (λz=>nomatch z) λ_=>?_⟩));have p:=h0 rfl
    cases p with
    |nil=>exact⟨_,_,_,e2,e3,e4,.nil⟩
    |cons f1 f2 f3 p=>exact⟨_,_,_,f1,f2,f3,p.snoc e2 e3 e4⟩
   |true=>
    obtain⟨o',ws',y,f1,f2,f3,p⟩:=h1 rfl;rw[K6 ∅];refine aa (fR f1 f2 f3 ?_);exact aj ⟨Ae _ ⋯,ih (λc p=>nv c (.cons e2 e3 e4 p)) y false (λ_=>p.snoc e2 e3 e4) λz=>nomatch z⟩
def cD (A:iG)(H:Hp):Prop:=A.handled=none∨∃ea oe vs u,A.handled=some (.ref ea)/\H ea=some (.frz oe u)/\oe.data=.fields vs/\vw H vs
theorem vw.put {o:HO}(c:vw H vs)(n:H a=none):vw (upd H a o) vs:=by
 induction c with
 |no c=>exact .no c
 |on f1 f2 f3 _ ih=>exact .on f1 (by rw[zm λz=>by rw[z,n]at f2;cases f2];exact f2) f3 ih
theorem vw.line (c:vw H vs)(k:∀b o u,H b=some (.frz o u)->h.get? b=some o):∀{ea:ag} {oe:g_} {u:HO},H ea=some (.frz oe u)->oe.data=.fields vs->kh h ea/\∀b,u6 h ea b->H b≠none:=by
 induction c with
 |no c=>
  intro ea oe u e1 e2;refine⟨.last (k _ _ _ e1) e2 c,λb p z=>?_⟩
  cases p with
  |nil=>rw[e1]at z;cases z
  |cons f1 f2 f3 p=>
   rw[k _ _ _ e1]at f1;cases f1;rw[e2]at f2;cases f2;rw[c]at f3;cases f3
 |on g1 g2 g3 _ ih=>
  intro ea oe u e1 e2;obtain⟨l,m⟩:=ih g2 g3;refine⟨.more (k _ _ _ e1) e2 g1 l,λb p z=>?_⟩
  cases p with
  |nil=>rw[e1]at z;cases z
  |cons f1 f2 f3 p=>
   rw[k _ _ _ e1]at f1;cases f1;rw[e2]at f2;cases f2;rw[g1]at f3;cases f3;exact m b p z
def jQ (X:Cx)(Sv:List aQ)(t:TT):Prop :=
 ∀(pins:List (ag×g_)) (s:ar) (σ:St) (H:Hp) (Q:Bool->Hp->Prop),zH X pins σ H s->t σ H Q ->
  wpAny (aA X.prog X.w) X.A (forIn Sv true λc r=>if r=true then do let ok <- isTrue c X.env (eval c X.env);pure (sM ok) else pure (sM r)) (TP X pins σ Q) X.xe s
def qL:TT:=λ_ H Q=>Q true H
theorem qt:jQ X [] qL:=λ_ _ _ H _ I h=>wpAny_tests_nil ⟨H,I,h⟩
theorem ZN {c:aQ}{t:TT}(h:PT X c t):jQ X [c] t:=λpins s σ H Q I q=>wpAny_tests_one (h pins s σ H Q I q)
theorem oF {Sx So iter:aQ}{scope:sZ}{pos:fW}{it L_:ae}{EX:ae->ar->Prop}(hx:∀x s',EX x s'->notedBy (aA prog w) A env (λe s'=>R (.error e) s') x s')(J:Nat->ar->Prop)(turn:∀n s,J n s->wpAny (aA prog w) A (HU it) (λr s1=>match r with
   |none=>R (.ok .next) s1
   |some v=>wpAny (aA prog w) A (i7 So it v) (λ_ s2=>wpAny (aA prog w) A (C_ So env v) (λ_ s3=>
     wpAny (aA prog w) A (forIn Sv true λc r=>if r=true then do let ok <- isTrue c env (eval c env);pure (sM ok) else pure (sM r)) (λok s4=>
      if ok=true then wpAny (aA prog w) A (eval Sx env) (λx s5=>wpAny (aA prog w) A (call (.builtin "list.append") [L_,x]) (λ_ s6=>∃m,m<n/\J m s6) EX s5) EX s4
      else ∃m,m<n/\J m s4) EX s3) EX s2) EX s1) EX s) (n:Nat) (h:J n s):codeAny (aA prog w) A (.compLoop (.ListComp Sx [⟨So,iter,Sv,0⟩] scope pos) 0 it L_ env) R s:=by
 refine codeAny_loop rfl J (λn s hJ=>?_) n h;show wpAny _ A ((compTurn (.ListComp Sx [⟨So,iter,Sv,0⟩] scope pos) 0 it L_ env).onRaise (λx=>do HW x env;theTreesLotGoes x)) _ _ s;refine wpAny_noted (fh (E:=EX) ?_ (λ_ _ z=>z) hx);rw[compTurn_list];refine aa (iL (aa (yj (turn n s hJ) λr s1 h1=>?_)))
 cases r with
 |none=>exact aj h1
 |some v=>
  refine aa (yj h1 λ_ s2 h2=>aa (yj h2 λ_ s3 h3=>aa (yj h3 λok s4 h4=>?_)))
  cases ok with
  |false=>exact aj ⟨U,h4⟩
  |true=>exact aa (aa (yj h4 λx s5 h5=>aa (yj h5 λ_ s6 h6=>aj (aj ⟨U,h6⟩))))
def mJ (src:List (Option Nat))(σ:St):St:=src.map λo=>o.bind λj=>(σ[j]?).join
structure Zw (X:Cx)(Nc:List af)(scope:sZ)(cl:List (af×ag))(src:List (Option Nat)):Prop where
 clos:closureFor scope X.env=pure cl
 kind:scope.kind=.function
 cell:∀y∈scope.names,y.2≠.cell
 names:∀y∈scope.names,y.2=.local->scope.names.lookup y.1=some .local
 sub:∀x c,cl.lookup x=some c->X.env.cells.lookup x=some c
 has:∀x,((KJ scope X.env).names.lookup x=some .cell∨(KJ scope X.env).names.lookup x=some .free)->∃c,cl.lookup x=some c
 frm:∀(i j:Nat),src[i]?=some (some j)->∃x,Nc[i]?=some x/\X.N[j]?=some x/\X.env.scope.names.lookup x=some .cell/\(KJ scope X.env).names.lookup x=some .cell
 len:src.length=Nc.length
theorem cO (_:Nc.Nodup)(c:Zw X Nc scope cl src):Zw X Nc scope cl src:=c
structure Ye (k:Nat)(A:iG):Prop where
 dp:A.depth+3*k+5<u_
 un:A.units+16*k+200<hZ
theorem Ye.mono {k:Nat}(r:Ye k A)(h:j<=k):Ye j A:=⟨by have:=r.dp;lia,by have:=r.un;lia⟩
structure WI (P:aU)(w:aP)(K:BFr)(mg:af->Option ae)(base:fi)(k:Nat)(f:ag)(fd:AA)(ps:List af)(sp:Sp):Prop where
 len:∀vs H Q E,sp vs H Q E->vs.length=ps.length
 run:∀(A:iG) (outer:List Fu) (s:ar) (H:Hp) (args:Args) (us:List ae) (vs:List V) (Q:VK),Ye k A->cD A H->WW P w K mg base A outer s H->Hk s fd args (ps.zip us)->qp vs us->sp vs H Q E0 ->
  codeAny (aA P w) A (.call (.ref f) args) (CR zY outer P w H s Q E0) s
def cK (P:aU)(w:aP)(K:BFr)(mg:af->Option ae)(base:fi)(N:List af)(qual:af)(scope:sZ)(f:ag)(cd:ae)(A:iG)(outer:List Fu)(s:ar)(H:Hp):Cx :=
 {u5 zY P w K mg base N qual scope f cd A outer s H E0 with calm:=false,xe:=λ_ _=>False}
section
variable {K:BFr}{mg:af->Option ae}
theorem qU.okQ {ps:List af}{k:Nat}(F:qU K x qual st f fd)(S:uw N ps (zU st))(len:∀vs H Q E,sp vs H Q E->vs.length=ps.length)(Sh:∀(K9:ae) (A:iG) (outer:List Fu) (s:ar) (H:Hp) (vs:List V) (Q:VK),Ye k (A.deeper (aT qual (zU st) s.heap.objs.size f K9))->cD (A.deeper (aT qual (zU st) s.heap.objs.size f K9)) H->sp vs H Q E0 ->
   ∃t,y8 (cK P w K mg base N qual (zU st) f K9 A outer s H) (jC st) t/\t {nx:=λ_ H'=>Q .non H',rt:=Q} (uT N vs) H):WI P w K mg base (k+1) f fd ps sp:=by
 obtain⟨oc,od,kV,Sf,pm,an,K9,ct,S0,rfl,lk,Sy⟩:=F.ex;refine⟨len,λA outer s H args us vs Q hr hh e0 hb r SO=>?_⟩;have hl:=len _ _ _ _ SO;have KX:K.In s.heap:=e0.mod.kin.keeps λb o e=>(e0.bs b o e).1;have lim:s.heap.NoLimit:=e0.mod.nolimit.keeps λb o e=>(e0.bs b o e).1;have dpt:A.depth<u_:=by have:=hr.dp;lia
 have kinds:∀y∈ps.zip us,(zU st).names.lookup y.1=some .local∨((zU st).names.lookup y.1=some .cell/\((HV (s.heap.objs.size+1) (zU st).names []).lookup y.1).isSome=true):=fun⟨n,v⟩ hy=>by
  rcases S.par n (DY hy).1 with q |q
  ·exact .inl q
  ·exact .inr ⟨q,sd _ _ _ (.inl q)⟩
 refine A6 dpt (KX _ _ lk) rfl S.co S.gen rfl (F_ KX Sy) (hb _ _ _ _ ?_);refine v_ S.kind kinds λenv he s1 x=>?_;subst he;refine⟨lim.keeps x.toInCall.keep,codeAny_func ?_⟩;have rq:Ye k (A.deeper (aT qual (zU st) s.heap.objs.size f K9)):=⟨by have:=hr.dp;show A.depth+1+3*k+5<_;lia,by have:=hr.un;show A.units+3+16*k+200<_;lia⟩;obtain⟨t,ht,hq⟩:=Sh K9 A outer s H vs Q rq hh SO;have J:=Vi (CX:=zY) (E:=E0) (A:={A with handled:=none}) S rfl ⟨e0.frames,e0.mod,e0.bs,e0.bsz,e0.funs,e0.frf,e0.hok,e0.bare⟩ hl r x
 have I:zH (cK P w K mg base N qual (zU st) f K9 A outer s H) [] (uT N vs) H s1 :=
  ⟨⟨J.ok.mod,J.ok.kind,J.ok.glob,J.ok.blt,J.ok.above,J.ok.inj,J.ok.has,J.ok.cab,(λz=>nomatch z),Fi e0.frames,J.ok.stk,J.ok.exf,J.ok.bs,J.ok.bsz,J.ok.noex,J.ok.exfs,J.ok.funs,J.ok.frf⟩,J.os,J.bare,J.base,J.loc,J.cell,J.free,J.freeC,J.pin,J.hok,J.len⟩
 refine fh (ht [] s1 (uT N vs) H _ I hq) (λfl s' hs=>?_) λe s' hs=>b_ hs
 have K_:∀{σ':St} {H':Hp} {v:V} {u:ae},zH (cK P w K mg base N qual (zU st) f K9 A outer s H) [] σ' H' s'->qy v u->Q v H'->CE outer P w H s Q u s' :=
  λ{σ' H' v u} J rv q=>⟨v,H',J.os,J.bare,J.base,J.hok,rv,q⟩
 cases fl with
 |ret u=>
  obtain⟨v,σ',H',J,rv,q⟩:=hs;exact K_ J rv q
 |next=>
  obtain⟨σ',H',J,q⟩:=hs;exact K_ (v:=V.non) (u:=aN) J rfl q
 |brk=>obtain⟨_,_,_,z⟩:=hs;exact b_ z
 |cont=>obtain⟨_,_,_,z⟩:=hs;exact b_ z
theorem qU.okE {ps:List af}{k:Nat}(F:qU K x qual st f fd)(S:uw N ps (zU st))(len:∀vs H Q E,sp vs H Q E->vs.length=ps.length)(Sh:∀(K9:ae) (A:iG) (outer:List Fu) (s:ar) (H:Hp) (vs:List V) (Q:VK) (E:XK),jd k (A.deeper (aT qual (zU st) s.heap.objs.size f K9))->sp vs H Q E ->
   ∃t,y8 (u5 (jS P w) P w K mg base N qual (zU st) f K9 A outer s H E) (jC st) t/\t {nx:=λ_ H'=>Q .non H',rt:=Q} (uT N vs) H):zL P w K mg base (jS P w) (k+1) f fd ps sp:=by
 obtain⟨oc,od,kV,Sf,pm,an,K9,ct,S0,rfl,lk,Sy⟩:=F.ex;exact mU lk Sy S len λA outer s H vs Q E hr SO=>Sh K9 A outer s H vs Q E hr SO
theorem qO {E:XK}:yW (jS P w) (u5 (jS P w) P w K mg base N qual scope f cd A outer s H E) E:=jN rfl rfl qa
end
theorem T9 {R:XK}:yW (jS X.prog X.w) (X.tr pn (cn X pn R)) R:=jN rfl rfl JJ
section
variable {k:Nat}{ps:List af}{p pos:fW}{es:List aQ}{t:TA}
def Xc (A:iG)(sp:Sp)(t:TA):TE:=λσ H Q=>t σ H λvs H1=>cD A H1/\sp vs H1 Q E0
theorem lC (F:WI X.prog X.w X.K X.mg X.base k f fd ps sp)(hr:Ye k X.A)(hg:Gl X x)(hm:X.mg x=some (.ref f))(hk:fe X.K (.ref f)=true)(hb:vK X.K fd ps [])(ha:PA X (e::es) t)(Sd:(x==("__debug__":af))=false:=by decide)(he:ax (e::es) X.env=(false,eval e X.env)::ax es X.env:=by exact zW U)(Sa:(ff pos (ax es X.env)).any (·.1)=false:=by exact yF U):
  PE X (.Call (.Name x p) (e::es) [] pos) (Xc X.A sp t):=by
 intro pins s σ H Q I h;refine h_ (jW I hg hm ?_ Sd);refine iK (h₀:=X.base) I.ok.mod.kin hk (yj (ha pos pins s σ H _ I h) λus s1 hM=>?_) he Sa;obtain⟨vs,H1,I1,r,hd,q⟩:=hM;refine⟨I1.kIn,?_⟩;have hl:us.length=ps.length:=by rw[<- r.length];exact F.len _ _ _ _ q
 have B:Hk s1 fd ⟨us,[]⟩ (ps.zip us):=by
  have z:=hb s1 us I1.kIn (by rw[dF];exact hl);rw[dF]at z;exact z
 refine AQ (ir (F.run X.A X.stack s1 H1 ⟨us,[]⟩ us vs Q hr hd I1.env0 B r q) λr s' hq=>?_)
 cases r with
 |error e=>exact b_ hq
 |ok fl=>
  cases fl with
  |ret u=>exact I1.after hq
  |next=>exact b_ hq
  |brk=>exact b_ hq
  |cont=>exact b_ hq
end
def cf:V->Option ae
 |.ref a=>some (.ref a)
 |.ty n=>some (.type n)
 |_=>none
def Cb (K:BFr)(H:Hp)(x:V)(t:ae):Prop :=
 vN K H x t∨∃a oe C vs,x=.ref a/\t=.ref C/\H a=some (Ys a oe)/\oe.cls=.ref C/\oe.dict=none/\oe.data=.fields vs/\XK.wI K C
inductive Cg (K:BFr)(xs:List V)(H:Hp)(Q:VK):Prop|mk(x c cv t b:_)(_:xs=[x,c])(_:cf c=some cv)(_:Cb K H x t)(_:aE K t cv=some b)(_:Q (.bl b) H)
theorem zG:uH X (.builtin "isinstance") (Cg X.K):=by
 intro pins s σ H xs us Q I r h;obtain⟨x,c,cv,t,b,rfl,hc,ty,hk,q⟩:=h;obtain⟨u,v,rfl,ru,rv⟩:=bw r
 obtain rfl:v=cv:=by
  cases c with
  |ref a=>cases hc;exact rv
  |ty n=>cases hc;exact rv
  |_=>cases hc
 rcases ty with ty |⟨a,oe,C,vs,rfl,rfl,ha,e1,e2,e3,ec⟩
 ·exact Ot I ru ty hk λtk=>⟨.bl b,H,I.tok tk,U,q⟩
 ·cases ru;have g:=(I.hok a _ ha).1;have inst:Kq s.heap a oe C none:=⟨g,e1,by unfold PySem.W.notCls;rw[e3],by rw[e2];trivial⟩;exact c_ (XK.PB (ox:=oe) ec) I.kIn inst hk (λz=>nomatch z) λtk=>⟨.bl b,H,I.tok tk,U,q⟩
def Jv (xs ys:List V):Bool:=xs.length==ys.length&&(aY xs.length).all λj=>XU (xs.getD j .non) (ys.getD j .non)
inductive Ba (K:BFr)(neg:Bool)(x y:V)(H:Hp)(Q:VK):Prop|mk(a b xs ys:_)(_:x=.ref a)(_:y=.ref b)(_:zN K H a xs)(_:zN K H b ys)(_:xs.all jX=true)(_:ys.all jX=true)(_:Q (.bl (if neg then !Jv xs ys else Jv xs ys)) H)
theorem LX (h:xs.all jX=true)(hj:j<xs.length):jX (xs.getD j .non)=true:=by
 rw[d6,CZ hj,Ii];exact dj.mp h _ (eN hj)
theorem gJ {us:List ae}(r:qp xs us)(hj:j<us.length):qy (xs.getD j .non) us[j]:=by
 have hl:=r.length
 have hx:xs[j]?=some (xs.getD j .non):=by
  rw[d6,CZ (by lia),Ii]
 obtain⟨u,e,q⟩:=r.get hx;rw[CZ hj]at e;cases e;exact q
theorem px (hu:X.A.units<hZ):Zf X (fA .NotEq) (Ba X.K true):=by
 intro pins s σ H x y v u Q I rx ry h;obtain⟨a,b,xs,ys,rfl,rfl,h1,h2,f1,f2,q⟩:=h;cases rx;cases ry;obtain⟨us,r1,p1,_⟩:=I.list h1;obtain⟨ws,r2,p2,_⟩:=I.list h2;have l1:=r1.length;have l2:=r2.length
 by_cases hl:xs.length=ys.length
 ·refine G_ p1.isList p2.isList (by simp;lia) hu (e:=λj=>XU (xs.getD j .non) (ys.getD j .non)) (λj h1 h2=>?_) _ _ _ _ ?_
  ·simp at h1 h2
   simp only[EG];exact Ur (gJ r1 h1) (gJ r2 h2) (LX f1 (by lia)) (LX f2 (by lia))
  ·refine⟨.bl _,H,I,U,?_⟩
   have e:Jv xs ys=(aY us.toArray.size).all λj=>XU (xs.getD j .non) (ys.getD j .non):=by
    unfold Jv;rw[beq_iff_eq.mpr hl,dm,dh,<- l1]
   rw[<- e];exact q
 ·refine Af p1.isList p2.isList (by simp;lia) hu _ _ _ _ ⟨.bl true,H,I,U,?_⟩
  have e:Jv xs ys=false:=by
   unfold Jv;rw[beq_eq_false_iff_ne.mpr hl,dO]
  have q':=q;rw[K6 U,e]at q';exact q'
inductive qX (P:aU)(w:aP)(K:BFr)(mg:af->Option ae)(base:fi)(CX:ZK)(k:Nat)(x:af)(ps:List af)(sp:Sp):Prop|mk(f fd:_)(_:mg x=some (.ref f))(_:fe K (.ref f)=true)(_:vK K fd ps [])(_:zL P w K mg base CX k f fd ps sp)
inductive nh (P:aU)(w:aP)(K:BFr)(mg:af->Option ae)(base:fi)(k:Nat)(x:af)(ps:List af)(sp:Sp):Prop|mk(f fd:_)(_:mg x=some (.ref f))(_:fe K (.ref f)=true)(_:vK K fd ps [])(_:WI P w K mg base k f fd ps sp)
section
variable {k:Nat}{ps:List af}{p pos:fW}{es:List aQ}{t:TA}{E:XK}
theorem zq (C:qX X.prog X.w X.K X.mg X.base CX k x ps sp)(hr:jd j X.A)(hj:k<=j)(hx:yW CX X E)(ha:PA X (e::es) t)(hg:Gl X x:=by rfl)(Sd:(x==("__debug__":af))=false:=by decide)(he:ax (e::es) X.env=(false,eval e X.env)::ax es X.env:=by exact zW U)(Sa:(ff pos (ax es X.env)).any (·.1)=false:=by exact yF U):
  PE X (.Call (.Name x p) (e::es) [] pos) (λσ H Q=>t σ H λvs H1=>sp vs H1 Q E):=by
 obtain⟨f,fd,hm,hk,hb,F⟩:=C;intro pins s σ H Q I h;refine Nk (dvs:=[]) F (hr.mono hj) hg hm hk hb .nil hx ha Sd he Sa pins s σ H Q I ?_;unfold rP;simp only[dF];exact h
theorem nL (C:nh X.prog X.w X.K X.mg X.base k x ps sp)(hr:Ye j X.A)(hj:k<=j)(ha:PA X (e::es) t)(hg:Gl X x:=by rfl)(Sd:(x==("__debug__":af))=false:=by decide)(he:ax (e::es) X.env=(false,eval e X.env)::ax es X.env:=by exact zW U)(Sa:(ff pos (ax es X.env)).any (·.1)=false:=by exact yF U):
  PE X (.Call (.Name x p) (e::es) [] pos) (Xc X.A sp t):=by
 obtain⟨f,fd,hm,hk,hb,F⟩:=C;exact lC F (hr.mono hj) hg hm hk hb ha Sd he Sa
end
theorem zz:fz "isinstance" = some (.builtin "isinstance"):=by kernel_rfl
theorem vV:fz "int" = some (.type "int"):=by kernel_rfl
theorem oH:fz "bool" = some (.type "bool"):=by kernel_rfl
theorem qE:fz "str" = some (.type "str"):=by kernel_rfl
theorem Qz:fz "list" = some (.type "list"):=by kernel_rfl
theorem yX:fz "tuple" = some (.type "tuple"):=by kernel_rfl
theorem NY:fz "ValueError" = some (.type "ValueError"):=by kernel_rfl
def Vf:List (String×Bool×Bool×Bool×Bool):=[("NoneType",false,false,false,false),("bool",true,true,false,false),("int",true,false,false,false),("str",false,false,true,false),("list",false,false,false,true),("tuple",false,false,false,false),("dict",false,false,false,false)]
theorem kY {K:BFr}:∀r∈Vf,aE K (.type r.1) (.type "int")=some r.2.1/\aE K (.type r.1) (.type "bool")=some r.2.2.1/\aE K (.type r.1) (.type "str")=some r.2.2.2.1/\aE K (.type r.1) (.type "list")=some r.2.2.2.2:=by
 intro r hr;simp only[Vf,CJ,CV,or_false]at hr;rcases hr with rfl |rfl |rfl |rfl |rfl |rfl |rfl<;>exact⟨by rfl,by rfl,by rfl,by rfl⟩
def YV (K:BFr)(H:Hp)(v:V):Prop:=∃r∈Vf,vN K H v (.type r.1)/\r.1≠"int"
def j4 (K:BFr)(H:Hp)(v:V):Prop:=∃r∈Vf,vN K H v (.type r.1)/\r.1≠"str"
section
variable {κ:Type}[DecidableEq κ]
def ZU (kvs:List (κ×V))(k:κ):Option V:=(kvs.find? λkv=>decide (kv.1=k)).map (·.2)
def kG (kvs:List (κ×V))(k:κ)(v:V):List (κ×V) :=
 if (kvs.any λkv=>decide (kv.1=k))=true then kvs.map (λkv=>if kv.1=k then (kv.1,v) else kv) else kvs++[(k,v)]
theorem Qf {p:κ×V}{r:List (κ×V)}{k:κ}(e:p.1=k):ZU (p::r) k=some p.2:=by simp[ZU,DZ,e]
theorem ZR {p:κ×V}{r:List (κ×V)}{k:κ}(e:¬p.1=k):ZU (p::r) k=ZU r k:=by simp[ZU,DZ,e]
theorem xk (k:κ):∀kvs:List (κ×V),(kvs.any λkv=>decide (kv.1=k))=(ZU kvs k).isSome
 |[]=>rfl
 |p::r=>by
  rw[DJ]
  by_cases e:p.1=k
  ·simp only[Qf e,i' e,Bool.true_or,Option.isSome_some]
  ·rw[ZR e,D' e,dS];exact xk k r
theorem km (kvs:List (κ×V))(k:κ)(v:V):(kG kvs k v).length<=kvs.length+1:=by
 unfold kG;split
 ·rw[CH];lia
 ·rw[CS,dz,DK];lia
theorem wU.isSome_eq {o:Option V}{u:Option ae}(r:wU o u):o.isSome=u.isSome:=by
 cases o with
 |none=>cases u with
  |none=>rfl
  |some _=>exact(show False from r).elim
 |some _=>cases u with
  |none=>exact(show False from r).elim
  |some _=>rfl
theorem wU.getD {o:Option V}{u:Option ae}{d:V}{d':ae}(r:wU o u)(rd:qy d d'):qy (o.getD d) (u.getD d'):=by
 cases o with
 |none=>cases u with
  |none=>exact rd
  |some _=>exact(show False from r).elim
 |some _=>cases u with
  |none=>exact(show False from r).elim
  |some _=>exact r
theorem KV.val {kvs:List (κ×V)}{vs:List (κ×ae)}(r:KV kvs vs)(k:κ):wU (ZU kvs k) (FA vs k):=by
 unfold KV at r
 induction r with
 |nil=>exact f9
 |@cons p q ps qs h t ih=>
  obtain⟨h1,h2⟩:=h
  by_cases e:p.1=k
  ·have e':q.1=k:=h1.symm.trans e;have b:FA (q::qs) k=some q.2:=by simp[FA,DZ,e']
   rw[Qf e,b];exact h2
  ·have e':¬q.1=k:=λz=>e (h1.trans z);have b:FA (q::qs) k=FA qs k:=by simp[FA,DZ,e']
   rw[ZR e,b];exact ih
theorem KV.any {kvs:List (κ×V)}{vs:List (κ×ae)}(r:KV kvs vs)(k:κ):(kvs.any λkv=>decide (kv.1=k))=vs.any λkv=>decide (kv.1=k):=by
 unfold KV at r
 induction r with
 |nil=>rfl
 |cons h t ih=>rw[DJ,DJ,ih,h.1]
theorem KV.repl {kvs:List (κ×V)}{vs:List (κ×ae)}(r:KV kvs vs)(k:κ)(ry:qy y u):
  KV (kvs.map λkv=>if kv.1=k then (kv.1,y) else kv) (vs.map λkv=>if kv.1=k then (kv.1,u) else kv):=by
 unfold KV at r ⊢
 induction r with
 |nil=>exact .nil
 |@cons p q ps qs h t ih=>
  rw[dv,dv];refine .cons ?_ ih;obtain⟨h1,h2⟩:=h
  by_cases e:p.1=k
  ·rw[K6 e,K6 (h1.symm.trans e)];exact⟨h1,ry⟩
  ·rw[K5 e,K5 (λz=>e (h1.trans z))];exact⟨h1,h2⟩
theorem KV.put {kvs:List (κ×V)}{vs:List (κ×ae)}(r:KV kvs vs)(k:κ)(ry:qy y u):KV (kG kvs k y) (stored vs k u):=by
 unfold kG stored;rw[r.any k]
 by_cases e:(vs.any λkv=>decide (kv.1=k))=true
 ·rw[K6 e,K6 e];exact r.repl k ry
 ·rw[K5 e,K5 e];exact Paired.snoc r ⟨U,ry⟩
theorem KV.length {kvs:List (κ×V)}{vs:List (κ×ae)}(r:KV kvs vs):kvs.length=vs.length:=iz r
end
theorem Wp {k:yY}(r:qy (kV k) u):(q9 P w).is k u=true:=by
 cases k with
 |inl i=>obtain⟨t,e⟩:=(show ∃t,u=iC i t from r);subst e;exact xu P w i t
 |inr x=>obtain⟨t,e⟩:=(show ∃t,u=AI x t from r);subst e;exact Wj P w x t
theorem VO:∀{ks:List yY} {us:List ae},qp (ks.map kV) us->ItemsAre (q9 P w) ks us
 |[],_,r=>by rw[d8]at r;cases r;exact .nil
 |k::ks,_,r=>by
  rw[dv]at r
  cases r with
  |cons h t=>exact .cons (Wp h) (VO t)
abbrev KT (H:Hp):List (List yY×V)->List (List yY×ag×ae)->Prop:=B_ λp q=>p.1=q.1/\H q.2.1=some (.tup (p.1.map kV))/\qy p.2 q.2.2
theorem KT.val {kvs:List (List yY×V)}{xs:List (List yY×ag×ae)}(r:KT H kvs xs)(k:List yY):wU (ZU kvs k) ((Ir xs k).map (·.2)):=by
 induction r with
 |nil=>exact f9
 |@cons p q ps qs h t ih=>
  obtain⟨h1,_,h2⟩:=h
  by_cases e:p.1=k
  ·have e':q.1=k:=h1.symm.trans e;have b:Ir (q::qs) k=some q.2:=by simp[Ir,DZ,e']
   rw[Qf e,b];exact h2
  ·have e':¬q.1=k:=λz=>e (h1.trans z);have b:Ir (q::qs) k=Ir qs k:=by simp[Ir,DZ,e']
   rw[ZR e,b];exact ih
theorem KT.repl {kvs:List (List yY×V)}{xs:List (List yY×ag×ae)}(r:KT H kvs xs)(k:List yY)(ry:qy y u):
  KT H (kvs.map λkv=>if kv.1=k then (kv.1,y) else kv) (xs.map (putAt k u)):=by
 induction r with
 |nil=>exact .nil
 |@cons p q ps qs h t ih=>
  rw[dv,dv];refine .cons ?_ ih;obtain⟨h1,h2,h3⟩:=h;unfold putAt
  by_cases e:p.1=k
  ·rw[K6 e,K6 (h1.symm.trans e)];exact⟨h1,h2,ry⟩
  ·rw[K5 e,K5 (λz=>e (h1.trans z))];exact⟨h1,h2,h3⟩
theorem KT.put {kvs:List (List yY×V)}{xs:List (List yY×ag×ae)}(r:KT H kvs xs)(k:List yY){b:ag}(hb:H b=some (.tup (k.map kV)))(ry:qy y u):
  KT H (kG kvs k y) (storedH xs k b u):=by
 have e:(kvs.any λkv=>decide (kv.1=k))=(Ir xs k).isSome:=by
  rw[xk,(r.val k).isSome_eq,Option.isSome_map]
 unfold kG storedH;rw[e]
 by_cases q:(Ir xs k).isSome=true
 ·rw[K6 q,K6 q];exact r.repl k ry
 ·rw[K5 q,K5 q];exact Paired.snoc r ⟨U,hb,ry⟩
theorem KT.keeps {kvs:List (List yY×V)}{xs:List (List yY×ag×ae)}(r:KT H kvs xs)(ht:∀b ys,H b=some (.tup ys)->H' b=some (.tup ys)):KT H' kvs xs :=
 Paired.mapP r λ_ _ z=>⟨z.1,ht _ _ z.2.1,z.2.2⟩
theorem N8 {u:HO}(ok:ZD P w H h)(e:Rd H a u):yC P w H h a u:=e.ok ok
theorem JL (ok:ZD P w H h)(e:Rd H a (.dK kvs)):kvs.length<=au/\(a==iw)=false/\∃vs,KV kvs vs/\h.DictOf (q9 P w) a vs :=
 show yC P w H h a (.dK kvs) from N8 ok e
theorem rK (ok:ZD P w H h)(e:H a=some (.dK kvs)):kvs.length<=au/\(a==iw)=false/\∃vs,KV kvs vs/\h.DictOf (q9 P w) a vs:=JL ok (.inl e)
theorem UE {ks:List yY}(ok:ZD P w H h)(e:H a=some (.tup (ks.map kV))):(Ax (q9 P w)).is h ks a:=by
 obtain⟨_,K8,r,o,h1,h2,n,h3⟩:=(show yC P w H h a (.tup (ks.map kV)) from ok a _ e);exact⟨o,K8.toArray,n,h1,h2,h3,by simpa using VO r⟩
theorem WN {kvs:List (List yY×V)}(ok:ZD P w H h)(e:Rd H a (.dT kvs)):kvs.length<=au/\(a==iw)=false /\
  ∃xs,KT H kvs xs/\h.DictOfH (Ax (q9 P w)) a xs:=by
 obtain⟨z,y,xs,r,o,es,ep,h1,h2,h3,h4,h5⟩:=(show yC P w H h a (.dT kvs) from N8 ok e);refine⟨z,y,xs,r,o,es,ep,h1,h2,h3,h4,λx hx=>?_,h5⟩
 have all:∀{l:List (List yY×V)} {m:List (List yY×ag×ae)},KT H l m->∀x∈m,(Ax (q9 P w)).is h x.1 x.2.1:=by
  intro l m q
  induction q with
  |nil=>intro x hx;exact nomatch hx
  |@cons p q ps qs hq t ih=>
   intro x hx;rcases CJ.mp hx with e |hx
   ·subst e;exact UE ok (by rw[<- hq.1];exact hq.2.1)
   ·exact ih x hx
 exact all r x hx
theorem bM {kvs:List (List yY×V)}(ok:ZD P w H h)(e:H a=some (.dT kvs)):kvs.length<=au/\(a==iw)=false /\
  ∃xs,KT H kvs xs/\h.DictOfH (Ax (q9 P w)) a xs:=WN ok (.inl e)
def wZ (H:Hp)(a:ag)(y:V)(r:Option V):Prop :=
 (∃kvs k,Rd H a (.dK kvs)/\y=kV k/\r=ZU kvs k)∨∃kvs k b,Rd H a (.dT kvs)/\y=.ref b/\H b=some (.tup (k.map kV))/\r=ZU kvs k
def Xs (H:Hp)(a:ag)(y v:V)(H':Hp):Prop :=
 (∃kvs k,H a=some (.dK kvs)/\y=kV k/\kvs.length<au/\H'=upd H a (.dK (kG kvs k v))) ∨
 ∃kvs k b,H a=some (.dT kvs)/\y=.ref b/\H b=some (.tup (k.map kV))/\kvs.length<au/\H'=upd H a (.dT (kG kvs k v))
theorem wZ.k {k:yY}(e:H a=some (.dK kvs)):wZ H a (kV k) (ZU kvs k):=.inl ⟨kvs,k,.inl e,U,U⟩
theorem Xs.k {k:yY}(e:H a=some (.dK kvs))(hl:kvs.length<au):Xs H a (kV k) v (upd H a (.dK (kG kvs k v))):=.inl ⟨kvs,k,e,U,hl,U⟩
section
variable {r:ae}{o:Option V}
theorem zH.big (I:zH X pins σ H s):iw<s.heap.objs.size:=by
 have h:az<s.heap.objs.size:=(I.mod.glob.keeps I.bk).lt;exact Ec ∅ h
theorem Ox (hu:A.units+1<hZ)(I:zH X pins σ H s)(g:wZ H a y (some v))(ry:qy y u)(h:∀w' s',zH X pins σ H s'->qy v w'->Q w' s'):
  wpAny (aA X.prog X.w) A (Hn (.ref a) u) Q E s:=by
 rcases g with⟨kvs,k,e,ey,l⟩ |⟨kvs,k,b,e,ey,eb,l⟩
 ·subst ey;obtain⟨z,hd,vs,P',dd⟩:=JL I.hok e;obtain⟨w',hw,Sw⟩:=wU.some_of (v:=v) (o:=FA vs k) (by rw[l];exact P'.val k);exact wpAny_getItem_of (Wp ry) dd.mapOf hw (h w' _ (I.tok _) Sw)
 ·subst ey
  cases (show u=aF b from ry)
  obtain⟨z,hd,xs,P',dd⟩:=WN I.hok e;obtain⟨w',hw,Sw⟩:=wU.some_of (v:=v) (o:=(Ir xs k).map (·.2)) (by rw[l];exact P'.val k);obtain⟨p,hp,hp2⟩:=C8.mp hw;refine wpAny_getItem_heap (z_ hu) (UE I.hok eb) dd hp ?_;rw[hp2];exact h w' _ (I.tok _) Sw
theorem UK {ob:HO}(I:zH X pins σ H s)(mu:bh (H a))(hs:fB a s.heap h')(he:∃q,h'.get? a=some q)(new:yC X.prog X.w (upd H a ob) h' a ob):
  zH X pins σ (upd H a ob) {s with heap:=h',toks:=t'} :=
 I.write (x:=a) (e:=a) mu (.inl U) (λb q hb z=>(hs.2 b hb).trans z) he new
theorem lX {vs:List (yY×ae)}(z:kvs.length<=au)(hd:(a==iw)=false)(P':KV kvs vs)(dd:h'.DictOf (q9 P w) a vs):
  yC P w H' h' a (.dK kvs):=⟨z,hd,vs,P',dd⟩
theorem G6 {Q:Unit->ar->Prop}(hu:A.units+1<hZ)(I:zH X pins σ H s)(g:Xs H a y v H')(ry:qy y u)(rv:qy v r)(h:∀s',zH X pins σ H' s'->Q () s'):
  wpAny (aA X.prog X.w) A (setItem (.ref a) u r) Q E s:=by
 rcases g with⟨kvs,k,e,ey,l,eH⟩ |⟨kvs,k,b,e,ey,eb,l,eH⟩
 ·subst ey eH;obtain⟨z,hd,vs,P',dd⟩:=rK I.hok e;have hz:vs.length<=au:=by rw[<- P'.length];exact z
  have hl:(kG kvs k v).length<=au:=by have:=km kvs k v;lia
  refine wpAny_setItem_pairs (hsz:=hz) (Wp ry) dd λh' dd' hs=>h _ ?_;have he:∃q,h'.get? a=some q:=let ⟨q,_,_,hq,_⟩:=dd';⟨q,hq⟩
  exact UK I (by rw[e];exact f9) hs he (lX hl hd (P'.put k rv) dd')
 ·subst ey eH
  cases (show u=aF b from ry)
  obtain⟨z,hd,xs,P',dd⟩:=bM I.hok e;have hz:xs.length<=au:=by rw[<- iz P'];exact z
  have hl:(kG kvs k v).length<=au:=by have:=km kvs k v;lia
  refine wpAny_setItem_heap (hsz:=hz) (z_ hu) (UE I.hok eb) dd λh' dd' hs=>h _ ?_;obtain⟨q,es,ep,hq,h2,h3,h4,_,h5⟩:=dd';refine UK I (by rw[e];exact f9) hs ⟨q,hq⟩ ⟨hl,hd,_,(P'.put k eb rv).keeps λc ys ec=>?_,q,es,ep,hq,h2,h3,h4,h5⟩;rw[zm (yy ec e (λz=>nomatch z))];exact ec
end
section
variable {k:yY}
end
def bS (i:aQ):Prop:=∀ov iv,D_ i false ov iv=operate [ov,iv] (Hn ov iv)
theorem MF {slice:aQ}{pos:fW}{T id:String}
  (hl:J_ (.type T) "__getitem__" = pure (some (.builtin id))) (hs:bS slice) (h:wpAny (aA prog w) A (eval value env) (λo s₁=>wpAny (aA prog w) A (eval slice env) (λi s₂=>s₂.TypeIs o T/\wpAny (aA prog w) A (Hn o i) Q E s₂) E s₁) E s) :
  wpAny (aA prog w) A (eval (.Subscript value slice pos) env) Q E s:=by
 refine Ka (fh h (λo s₁ h₁=>fh h₁ (λi s₂ h₂=>?_) λ_ _ x=>x) λ_ _ x=>x);obtain⟨hT,h₂⟩:=h₂;unfold FQ;refine aa ?_;rw[getitemInPython_of_ne hT.not_modules];refine aa (Iy hT hl ?_)
 have K_:wpAny (aA prog w) A (D_ slice false o i) (λr s₃=>wpAny (aA prog w) A (letTemporaryGo value o r >>= λ_=>pure r) Q E s₃) E s₂:=by
  rw[hs o i];exact wpAny_operating (fh h₂ (λr s₃ h₃=>aa (wpAny_letTemporaryGo (aj h₃))) λ_ _ x=>x)
 first
  |exact aj (aa K_)
  |exact aa (aj (aa K_))
  |exact aa K_
theorem WG {o:Option V}(I:zH X pins σ H s)(g:wZ H a y o):s.TypeIs (.ref a) "dict":=by
 rcases g with⟨kvs,k,e,_,_⟩ |⟨kvs,k,b,e,_,_,_⟩
 ·obtain⟨_,_,vs,_,dd⟩:=JL I.hok e;exact dd.typeIs
 ·obtain⟨_,_,xs,_,dd⟩:=WN I.hok e;exact dd.typeIs
inductive GA (Q:VK)(x y:V)(H2:Hp):Prop|mk(a v:_)(_:x=.ref a)(_:wZ H2 a y (some v))(_:Q v H2)
def Le (td ty:TE):TE:=λσ H Q=>td σ H λx H1=>ty σ H1 (GA Q x)
inductive GD (D:j6)(σ:St)(v x y:V)(H3:Hp):Prop|mk(a H4:_)(_:x=.ref a)(_:Xs H3 a y v H4)(_:D.nx σ H4)
def Bc (td ty tv:TE):TS:=λD σ H=>tv σ H λv H1=>td σ H1 λx H2=>ty σ H2 (GD D σ v x)
section
variable {o i:aQ}{pos:fW}{td ty:TE}
theorem Zc (hu:X.A.units+1<hZ)(ho:PE X o td)(hi:PE X i ty)(hs:bS i):PE X (.Subscript o i pos) (Le td ty):=by
 intro pins s σ H Q I h;refine MF PySem.F.slot_dict_getitem.lookup hs (yj (ho pins s σ H _ I h) λu s1 hM=>?_);obtain⟨x,H1,I1,rx,q1⟩:=hM;refine yj (hi pins s1 σ H1 _ I1 q1) λiv s2 hM=>?_;obtain⟨y,H2,I2,ry,a,v,ex,g,q2⟩:=hM;subst ex;obtain rfl:u=aF a:=rx;exact⟨WG I2 g,Ox hu I2 g ry λw' s3 I3 Sw=>⟨v,H2,I3,Sw,q2⟩⟩
theorem Uy (hu:X.A.units+1<hZ)(ho:PE X o td)(hi:PE X i ty)(hv:PE X value tv)(hs:Az value (some (.Subscript o i R_)) pos.line X.env=pure false):
  PS X (.Assign [.Subscript o i R_] value pos) (Bc td ty tv):=by
 intro pins s σ H D I h;refine wpAny_Assign_Subscript (yj (hv pins s σ H _ I h) λr s1 hM=>?_) hs;obtain⟨v,H1,I1,rv,q1⟩:=hM;refine yj (ho pins s1 σ H1 _ I1 q1) λu s2 hM=>?_;obtain⟨x,H2,I2,rx,q2⟩:=hM;refine yj (hi pins s2 σ H2 _ I2 q2) λiv s3 hM=>?_;obtain⟨y,H3,I3,ry,a,H4,ex,g,q3⟩:=hM;subst ex;obtain rfl:u=aF a:=rx;exact G6 hu I3 g ry rv λs4 I4=>⟨σ,H4,I4,q3⟩
end
theorem xA (h:fi)(hb:iw<h.objs.size):yC P w H (h.push {cls:=.type "dict",data:=.dict #[]}) h.objs.size (.dK []) :=
 ⟨du _,beq_eq_false_iff_ne.mpr (fK (de hb)),[],.nil,Heap.DictOf.new h⟩
def tJ:TE:=λ_ H Q=>∀p,H p=none->Q (.ref p) (upd H p (.dK []))
section
variable {pos:fW}
theorem Pu:PE X (.Dict [] [] pos) tJ:=λpins s σ H Q I h=>
 wpAny_Dict_empty ⟨.ref s.heap.objs.size,_,I.laid (a:=s.heap.objs.size) (o:=.dK []) (t':=s.toks) (λ_ _ q=>dc _ q) (CI _) (xA s.heap I.big),U,h _ (I.hok.fresh (CI _))⟩
end
def xE:List (TE×TE)->St->Hp->(List (V×V)->Hp->Prop)->Prop
 |[],_,H,Q=>Q [] H
 | (tk,tv)::r,σ,H,Q=>tk σ H λx H1=>tv σ H1 λy H2=>xE r σ H2 λps H3=>Q ((x,y)::ps) H3
abbrev VV:List (V×V)->List (ae×ae)->Prop:=B_ λp q=>qy p.1 q.1/\qy p.2 q.2
def BI (X:Cx)(pos:fW)(Su:List (Option aQ))(Sr:List aQ)(trs:List (TE×TE)):Prop :=
 ∀(pins:List (ag×g_)) (s:ar) (σ:St) (H:Hp) (Q:List (V×V)->Hp->Prop),zH X pins σ H s->xE trs σ H Q ->
  wpAny (aA X.prog X.w) X.A (evalPairs (pairTrees Su Sr X.env pos)) (λvs s'=>∃ps H',zH X pins σ H' s'/\VV ps vs/\Q ps H') X.xe s
theorem MK {pos:fW}:BI X pos [] [] []:=λpins s σ H Q I h=>pairTrees_nil_walk ⟨[],H,I,.nil,h⟩
theorem uO {pos:fW}{k v:aQ}{ks:List (Option aQ)}{vs:List aQ}{tk:TE}{trs:List (TE×TE)}(hk:PE X k tk)(hv:PE X v tv)(hr:BI X pos ks vs trs):
  BI X pos (some k::ks) (v::vs) ((tk,tv)::trs):=λpins s σ H Q I h=>
 pairTrees_cons_walk (yj (hk pins s σ H _ I h) λu s1 ⟨x,H1,I1,rx,q1⟩=>yj (hv pins s1 σ H1 _ I1 q1) λw2 s2 ⟨y,H2,I2,ry,q2⟩=>
  yj (hr pins s2 σ H2 _ I2 q2) λws s3 hM=>by obtain⟨ps,H3,I3,P',q3⟩:=hM;exact⟨(x,y)::ps,H3,I3,.cons ⟨rx,ry⟩ P',q3⟩)
def wa (kvs more:List (yY×V)):List (yY×V):=more.foldl (λL_ kv=>kG L_ kv.1 kv.2) kvs
theorem KV.merge:∀{more:List (yY×V)} {rs:List (yY×ae)} {kvs:List (yY×V)} {vs:List (yY×ae)},KV more rs->KV kvs vs->KV (wa kvs more) (merged vs rs):=by
 intro more rs kvs vs r;unfold KV at r
 induction r generalizing kvs vs with
 |nil=>intro q;exact q
 |@cons p q ps qs h t ih=>
  intro r0
  have e:KV (kG kvs p.1 p.2) (stored vs q.1 q.2):=by
   have:=r0.put p.1 h.2;rw[<- h.1];exact this
  exact ih e
theorem Zm:∀(more kvs:List (yY×V)),(wa kvs more).length<=kvs.length+more.length
 |[],kvs=>by show kvs.length<=kvs.length+0;lia
 |p::r,kvs=>by
  have h1:=Zm r (kG kvs p.1 p.2);have h2:=km kvs p.1 p.2;show(wa (kG kvs p.1 p.2) r).length<=_;rw[dz];lia
theorem Jq {P:aU}{w:aP}:∀{kvs:List (yY×V)} {ws:List (ae×ae)},VV (kvs.map λkv=>(kV kv.1,kv.2)) ws->∃rs,Carries (q9 P w) ws rs/\KV kvs rs
 |[],_,r=>by rw[d8]at r;cases r;exact⟨[],f9,.nil⟩
 |p::kvs,_,r=>by
  rw[dv]at r
  cases r with
  |@cons a b as bs h t=>
   obtain⟨rs,c,q⟩:=Jq (P:=P) (w:=w) t;obtain⟨b1,b2⟩:=b;exact⟨(p.1,b2)::rs,⟨Wp h.1,U,c⟩,.cons ⟨U,h.2⟩ q⟩
def bP (trs:List (TE×TE)):TE:=λσ H Q=>∀p,H p=none->xE trs σ (upd H p (.dK [])) λps H2=>H2 p=some (.dK [])/\∃kvs:List (yY×V),ps=kvs.map (λkv=>(kV kv.1,kv.2))/\kvs.length<=15/\Q (.ref p) (upd H2 p (.dK (wa [] kvs)))
theorem Nv {pos:fW}{Su:List (Option aQ)}{Sr:List aQ}{trs:List (TE×TE)}(h:BI X pos Su Sr trs)(hall:Su.all (·.isSome)=true)(hl:Su.length=Sr.length)(h0:Su≠[])(h15:Su.length<=15):PE X (.Dict Su Sr pos) (bP trs):=by
 intro pins s σ H Q I q;have hn:=I.hok.fresh (CI s.heap.objs.size);have I1:=I.laid (a:=s.heap.objs.size) (o:=.dK []) (h':=s.heap.push {cls:=.type "dict",data:=.dict #[]}) (t':=s.toks) (λ_ _ q=>dc _ q) (CI _) (xA s.heap I.big);refine wpAny_Dict_walk (knd:=q9 X.prog X.w) hall hl h0 h15 (yj (h pins _ σ _ _ I1 (q _ hn)) λws s2 hM=>?_);obtain⟨ps,H2,I2,P',e,kvs,ep,lk,q2⟩:=hM;subst ep;obtain⟨rs,c,rk⟩:=Jq (P:=X.prog) (w:=X.w) P';obtain⟨z,hd,vs0,r0,dd⟩:=rK I2.hok e;cases r0;refine⟨rs,c,dd,λh' dd' hs=>⟨.ref s.heap.objs.size,_,?_,U,q2⟩⟩
 have hz:(wa [] kvs).length<=au:=by
  have h1:=Zm kvs [];rw[DK]at h1;rw[ai];lia
 have he:∃q,h'.get? s.heap.objs.size=some q:=let ⟨q,_,_,hq,_⟩:=dd';⟨q,hq⟩
 exact UK I2 (by rw[e];exact f9) hs he (lX hz hd (rk.merge .nil) dd')
structure M1 (X:Cx)(o:aQ)(m:af)(M_:fW)(e:aQ)(K':fW):Prop where
 base:sH o m X.env (eval o X.env)=eval o X.env
 few:((ff K' (ax [e] X.env)).all (λx=>!x.1)&&(i4 K' (hG [] X.env)).all (λx=>x.1.isSome)
  && decide (([e]:List aQ).length+([]:List AR).length+(if ([]:List AR).isEmpty then 0 else 1)<30))=true
 line:(M_.endLine==K'.line)=true
 trees:ff K' (ax [e] X.env)=[(false,eval e X.env)]
structure M2 (X:Cx)(o:aQ)(m:af)(M_:fW)(e f:aQ)(K':fW):Prop where
 base:sH o m X.env (eval o X.env)=eval o X.env
 few:((ff K' (ax [e,f] X.env)).all (λx=>!x.1)&&(i4 K' (hG [] X.env)).all (λx=>x.1.isSome)
  && decide (([e,f]:List aQ).length+([]:List AR).length+(if ([]:List AR).isEmpty then 0 else 1)<30))=true
 line:(M_.endLine==K'.line)=true
 trees:ff K' (ax [e,f] X.env)=[(false,eval e X.env),(false,eval f X.env)]
def Cd (H:Hp)(a:ag):Prop:=(∃kvs,Rd H a (.dK kvs))∨∃kvs,Rd H a (.dT kvs)
theorem t8 (I:zH X pins σ H s)(d:Cd H a):
  s.TypeIs (.ref a) "dict"/\(∀b,aF a=.ref b->∃ob,s.heap.get? b=some ob/\ob.dict=none)/\(a==iw)=false:=by
 rcases d with⟨kvs,e⟩ |⟨kvs,e⟩
 ·obtain⟨_,hd,vs,_,dd⟩:=JL I.hok e;refine⟨dd.typeIs,λb q=>?_,hd⟩;cases q;obtain⟨ob,_,_,h1,h2,_⟩:=dd;exact⟨ob,h1,h2.2.1⟩
 ·obtain⟨_,hd,xs,_,dd⟩:=WN I.hok e;refine⟨dd.typeIs,λb q=>?_,hd⟩;cases q;obtain⟨ob,_,_,h1,h2,_⟩:=dd;exact⟨ob,h1,h2.2.1⟩
section
variable {d:V}{r:ae}{o:Option V}
theorem Tb (hu:A.units+1<hZ)(I:zH X pins σ H s)(g:wZ H a y o)(ry:qy y u)(rd:qy d r)(h:∀w' s',zH X pins σ H s'->qy (o.getD d) w'->Q w' s'):
  wpAny (aA X.prog X.w) A (call (.builtin "dict.get") [.ref a,u,r]) Q E s:=by
 rcases g with⟨kvs,k,e,ey,l⟩ |⟨kvs,k,b,e,ey,eb,l⟩
 ·subst ey;obtain⟨z,hd,vs,P',dd⟩:=JL I.hok e;refine call_meetsIn sk dd.typeIs AX (AK _ _ _) (meets_dict_get_default (q9 X.prog X.w) a (Wp ry) hd r) ⟨_,dd.mapOf,h _ _ (I.tok _) ?_⟩;rw[l];exact(P'.val k).getD rd
 ·subst ey
  cases (show u=aF b from ry)
  obtain⟨z,hd,xs,P',dd⟩:=WN I.hok e;refine call_meetsIn sk dd.typeIs AX (AK _ _ _) (meetsH_dict_get_default (Ax (q9 X.prog X.w)) a b hd r) ⟨z_ hu,k,xs,UE I.hok eb,dd,h _ _ (I.tok _) ?_⟩;rw[l];exact(P'.val k).getD rd
end
inductive xo (Q:VK)(y:V)(a:ag)(z:V)(H3:Hp):Prop|mk(o:_)(_:wZ H3 a y o)(_:Q (o.getD z) H3)
inductive Wg (ty tx:TE)(σ:St)(Q:VK)(x:V)(H1:Hp):Prop|mk(a:_)(_:x=.ref a)(_:Cd H1 a)(_:ty σ H1 λy H2=>tx σ H2 (xo Q y a))
def Rn (td ty tx:TE):TE:=λσ H Q=>td σ H (Wg ty tx σ Q)
section
variable {o f:aQ}{td ty tx:TE}
theorem mV (hu:X.A.units+1<hZ)(ho:PE X o td)(he:PE X e ty)(hf:PE X f tx)(m:M2 X o "get" M_ e f K'):PE X (.Call (.Attribute o "get" M_) [e,f] [] K') (Rn td ty tx):=by
 intro pins s σ H Q I h;refine wpAny_Call_method m.base m.few m.line PySem.F.plainAttrs_dict sk PySem.F.type_dict_get (yj (ho pins s σ H _ I h) λu s1 hM=>?_);obtain⟨x,H1,I1,rx,a,ex,d,q1⟩:=hM;subst ex;obtain rfl:u=aF a:=rx;obtain⟨t1,t2,_⟩:=t8 I1 d;refine⟨t1,t2,?_⟩;rw[m.trees]
 refine AW rfl (iT (iJ (yj (he pins s1 σ H1 _ I1 q1) λiv s2 ⟨y,H2,I2,ry,q2⟩=>
  iJ (yj (hf pins s2 σ H2 _ I2 q2) λfv s3 ⟨z,H3,I3,rz,ov,g,q3⟩=>r_ ?_))))
 exact Tb hu I3 g ry rz λw' s4 I4 Sw=>⟨_,H3,I4,Sw,q3⟩
end
section
variable {κ:Type}[DecidableEq κ]
end
theorem zk.upd {o:HO}(hp:H p=none):zk H (L2.upd H p o):=λb u e=>by
 rw[zm (zC e hp)];exact e
theorem zk.tup {K:BFr}(e:zk H H')(h:yE K H a xs):yE K H' a xs:=by
 rcases h with (h |⟨o,h⟩) |h
 ·exact .inl (.inl (e _ _ h))
 ·exact .inl (.inr ⟨o,e _ _ h⟩)
 ·exact .inr h
theorem vN.same {K:BFr}{t:ae}(e:zk H H')(h:vN K H v t):vN K H' v t:=by
 cases h with
 |non=>exact .non
 |bl x=>exact .bl x
 |int i=>exact .int i
 |str x=>exact .str x
 |flt x=>exact .flt x
 |lst q=>exact .lst (e _ _ q)
 |frz q=>exact .frz (e _ _ q)
 |tup q=>exact .tup (e _ _ q)
 |dK q=>exact .dK (e _ _ q)
 |dT q=>exact .dT (e _ _ q)
 |ins q c1 c2 c3 c4 c5=>exact .ins (e _ _ q) c1 c2 c3 c4 c5
theorem YV.same {K:BFr}(e:zk H H')(h:YV K H v):YV K H' v:=by
 obtain⟨r,h1,h2,h3⟩:=h;exact⟨r,h1,h2.same e,h3⟩
theorem j4.same {K:BFr}(e:zk H H')(h:j4 K H v):j4 K H' v:=by
 obtain⟨r,h1,h2,h3⟩:=h;exact⟨r,h1,h2.same e,h3⟩
section
variable {K:BFr}
theorem NJ:j4 K H .non:=⟨("NoneType",false,false,false,false),∅,.non,∅⟩
theorem By (b:Bool):j4 K H (.bl b):=⟨("bool",true,true,false,false),∅,.bl b,∅⟩
theorem tO (i:Int):j4 K H (.int i):=⟨("int",true,false,false,false),∅,.int i,∅⟩
theorem RV (e:H a=some (.lst xs)):j4 K H (.ref a):=⟨("list",false,false,false,true),∅,.lst e,∅⟩
theorem RQ (e:H a=some (.tup xs)):j4 K H (.ref a):=⟨("tuple",false,false,false,false),∅,.tup e,∅⟩
theorem Bm (e:H a=some (.dK kvs)):j4 K H (.ref a):=⟨("dict",false,false,false,false),∅,.dK e,∅⟩
end
def b5:aQ->Bool
 |.Slice _ _ _ _=>true
 |_=>false
theorem O6 {b:aQ}(h:b5 b=false):Gw b:=λo i=>by
 cases b<;>first |rfl |cases h
theorem zE {a b:aQ}{ta tb:TE}{pos:fW}{r:R2}(hr:Bd X r)(ha:PE X a ta)(hb:PE X b tb)(hs:b5 b=false:=by rfl):PE X (.Subscript a b pos) (vp r ta tb):=bN hr ha hb (O6 hs)
theorem xD {xs:List α}{i:Int}{v:α}(h0:0<=i)(h:xs[i.toNat]?=some v):QA xs i=some v:=by
 have e:=qQ h
 rwa [Int.toNat_of_nonneg h0]at e
theorem j8 {xs:List α}{i:Int}(h0:0<=i)(h1:i<xs.length):∃v,QA xs i=some v/\v∈xs:=by
 have hl:i.toNat<xs.length:=by lia
 exact⟨xs[i.toNat],xD h0 (CZ hl),eN hl⟩
theorem UD {a b:Int}:(decide (V.int a=V.int b)=true)↔a=b:=by rw[decide_eq_true_iff];exact⟨λh=>V.int.inj h,λh=>K4 V.int h⟩
def Yb (ns:List Int)(k:Int):Int:=ns.getD k.toNat 0
theorem Nt {k:Int}(h0:0<=k)(h:k<((ns.map V.int).length:Nat)):QA (ns.map V.int) k=some (.int (Yb ns k)):=by
 rw[CH]at h;have hl:k.toNat<ns.length:=by lia
 refine xD h0 ?_;unfold Yb;rw[CO,CZ hl,d6,CZ hl];rfl
theorem Pi {k:Int}(h:¬k<((ns.map V.int).length:Nat)):Yb ns k=0:=by
 rw[CH]at h;unfold Yb;rw[d6,Di (by lia)];rfl
theorem zS (h:FD n 1000=true):n<=au:=CW (C9 h) ∅
def x8 (H:Hp)(o:HO)(Q:VK):Prop:=∀p H',zk H H'->H p=none->H' p=some o->Q (.ref p) H'
theorem x8.at {o:HO}{Q:VK}(h:x8 H o Q)(hp:H p=none):Q (.ref p) (upd H p o):=h p _ (zk.upd hp) hp zi
def pC (t:TA):TE:=λσ H Q=>t σ H λxs H1=>xs.length<=au/\x8 H1 (.tup xs) Q
def bD (t:TA):TE:=λσ H Q=>t σ H λxs H1=>xs.length<=au/\x8 H1 (.lst xs) Q
section
variable {es:List aQ}{t:TA}{pos:fW}
theorem yM {x1}(h:PA X es t):PE X (.Tuple es x1 pos) (pC t):=by
 intro pins s σ H Q I hq;refine wpAny_Tuple_spliced (yj (h pos pins s σ H _ I hq) λus s1 hM=>?_);obtain⟨xs,H1,I1,r,z,q⟩:=hM;refine⟨by rw[<- r.length];exact z,?_⟩;have hf:H1 s1.heap.objs.size=none:=I1.hok.fresh (CI _);refine⟨.ref s1.heap.objs.size,upd H1 s1.heap.objs.size (.tup xs),I1.laid (t':=s1.toks) (λb u e=>dc _ e) (CI _) ?_,U,q.at hf⟩;exact⟨z,us,r,⟨_,dA _ U,U,_,U⟩⟩
theorem zM (h:PA X es t):PE X (.List es pos) (bD t):=by
 intro pins s σ H Q I hq;refine wpAny_List_spliced (yj (h pos pins s σ H _ I hq) λus s1 hM=>?_);obtain⟨xs,H1,I1,r,z,q⟩:=hM;refine⟨by rw[<- r.length];exact z,?_⟩;have hf:H1 s1.heap.objs.size=none:=I1.hok.fresh (CI _);refine⟨.ref s1.heap.objs.size,upd H1 s1.heap.objs.size (.lst xs),I1.laid (t':=s1.toks) (λb u e=>dc _ e) (CI _) ?_,U,q.at hf⟩;exact⟨z,us,0,r,dA _ U⟩
def tD:TE:=λ_ H Q=>x8 H (.dK []) Q
theorem ZJ:PE X (.Dict [] [] pos) tD:=λpins s σ H Q I h=>Pu pins s σ H Q I λp hp=>h.at hp
inductive rj (x y:V)(H:Hp)(Q:VK):Prop|mk(l b xs zs:_)(_:x=.ref l)(_:y=.ref b)(_:H l=some (.lst xs))(_:H b=some (.lst zs))(_:xs.length+zs.length<=au)(_:x8 H (.lst (xs++zs)) Q)
theorem yH:Zf X (i3 .Add) rj:=λpins s σ H x y v u Q I rx ry hM=>by obtain⟨l,b,xs,zs,e1,e2,h1,h2,hz,q⟩:=hM;exact Tz pins s σ H x y v u Q I rx ry ⟨l,b,xs,zs,e1,e2,h1,h2,hz,λp hp=>q.at hp⟩
end
structure oS (K:BFr)(H:Hp)(ea C:ag):Prop where
 ex:∃oe vs,H ea=some (Ys ea oe)/\oe.cls=.ref C/\oe.dict=none/\oe.data=.fields vs
 cls:XK.wI K C
theorem oS.same {K:BFr}(h:oS K H ea C)(s:zk H H'):oS K H' ea C:=by
 obtain⟨⟨oe,vs,e,r⟩,c⟩:=h;exact⟨⟨oe,vs,s _ _ e,r⟩,c⟩
theorem oS.ty {K:BFr}(h:oS K H ea C):Cb K H (.ref ea) (.ref C):=by
 obtain⟨⟨oe,vs,e,e1,e2,e3⟩,c⟩:=h;exact .inr ⟨ea,oe,C,vs,U,U,e,e1,e2,e3,c⟩
theorem zH.walked (I:zH X pins σ H s){u:g_}{tk:Nat}(hk:∀b o,b∉[s.heap.objs.size]->(s.heap.push u).get? b=some o->h'.get? b=some o):
  zH X pins σ H {s with heap:=h',toks:=tk} :=
 I.kept (t':=tk) λb o e=>hk b o (by simp;exact de (C5 e)) (dc _ e)
theorem o6 (bs:List α)(d:α)(p:α->Bool):(aY bs.length).all (λi=>p (bs.getD i d))=bs.all p:=by
 induction bs with
 |nil=>rfl
 |cons b r ih=>
  rw[dz,List.range_succ_eq_map,Dx,Dv,Dx]
  congr 1
theorem Tv {bs:List Bool}(rv:qp (bs.map V.bl) K8){v:ae}(e:K8.toArray[i]?=some v):v=.bool (bs.getD i false):=by
 have hl:=rv.length;rw[CH]at hl
 have hi:i<K8.length:=by
  have:=(Dk.mp e).1
  simpa using this
 have hx:(bs.map V.bl)[i]?=some (V.bl (bs.getD i false)):=by
  rw[CO,CZ (by lia),d6,CZ (by lia)];rfl
 obtain⟨u,e1,e2⟩:=rv.get hx;have e3:K8[i]?=some v:=by simpa using e
 rw[e1]at e3;cases e3;exact e2
inductive Yo (K:BFr)(xs:List V)(H:Hp)(Q:VK):Prop|mk(a:ag)(bs:List Bool)(_:xs=[.ref a])(_:zN K H a (bs.map V.bl))(_:Q (.bl (bs.all id)) H)
theorem vg (hc:X.calm=true):uH X (.builtin "all") (Yo X.K):=by
 intro pins s σ H xs us Q I r h;obtain⟨a,bs,rfl,hS,q⟩:=h;obtain⟨u,rfl,ru⟩:=kA r;cases ru;obtain⟨K8,rv,pl,hz⟩:=I.list hS;have hl:K8.length=bs.length:=by rw[<- rv.length,CH]
 have Sn:a≠s.heap.objs.size:=by obtain⟨o,e,_⟩:=pl.isList;exact de (C5 e)
 refine call_all_walk (o_ pl.isList ?_);refine⟨s.heap.objs.size,_,_,_,_,_,λi=>bs.getD i false,U,Walks.list (A:=X.A.in1) (I.ok.hd hc) _ a Sn K8.toArray,⟨⟨_,dA _ U,U,U⟩,pl.isList.push _⟩,λi v s' Q' E' hP hQ=>?_,λh' tk hk=>?_⟩
 ·rw[Tv rv hP];exact fN hQ
 ·refine⟨.bl _,H,I.walked hk,U,?_⟩
  have e:(aY K8.toArray.size).all (λi=>bs.getD i false)=bs.all id:=by
   rw[dh,hl];exact o6 bs false id
  rw[e];exact q
theorem V0 (rv:qp (ns.map V.int) K8){v:ae}(e:K8.toArray[i]?=some v):∃t,v=.int (ns.getD i 0) t:=by
 have hl:=rv.length;rw[CH]at hl
 have hi:i<K8.length:=by
  have:=(Dk.mp e).1
  simpa using this
 have hx:(ns.map V.int)[i]?=some (V.int (ns.getD i 0)):=by
  rw[CO,CZ (by lia),d6,CZ (by lia)];rfl
 obtain⟨u,e1,e2⟩:=rv.get hx;have e3:K8[i]?=some v:=by simpa using e
 rw[e1]at e3;cases e3;exact e2
def W9 (l:List Nat)(lo hi:Option Int):List Nat:=(l.drop (HT.Yj l.length 0 lo)).take (HT.Yj l.length l.length hi-HT.Yj l.length 0 lo)
theorem YE (n d:Nat)(v:Int):max 0 (min (if v<0 then v+(n:Int) else v) (n:Int))=((HT.Yj n d (some v):Nat):Int):=by
 show _=(((if v<0 then (v+(n:Int)).toNat else min v.toNat n):Nat):Int)
 by_cases hv:v<0
 ·have le:=Int.add_le_add_right (Int.le_of_lt hv) (n:Int);rw[eO]at le;rw[K6 hv,K6 hv,Int.min_eq_left le,Int.ofNat_toNat,Int.max_comm]
 ·obtain⟨m,rfl⟩:=Dw (Int.not_lt.mp hv);rw[K5 hv,K5 hv,dP,Int.max_eq_right (Int.le_min.mpr ⟨Ed m,Ed n⟩)];rcases Nat.le_total m n with c |c
  ·rw[Dl c,Int.min_eq_left (Int.ofNat_le.mpr c)]
  ·rw[ee c,Int.min_eq_right (Int.ofNat_le.mpr c)]
theorem mI (lo hi:Option Int)(n:Nat):f_ lo hi 1 n=sliceRange ((HT.Yj n 0 lo:Nat):Int) ((HT.Yj n n hi:Nat):Int) 1:=by
 unfold f_;simp only[show(1:Int) > 0 by decide,if_true]
 cases lo with
 |none=>
  cases hi with
  |none=>rfl
  |some j=>simp only[YE n n j];rfl
 |some i=>
  cases hi with
  |none=>simp only[YE n 0 i];rfl
  |some j=>simp only[YE n 0 i,YE n n j]
theorem uD (z:af)(lo hi:Option Int):(fC z lo hi).cps.toList=W9 z.cps.toList lo hi:=by
 have len:z.length=z.cps.toList.length:=dJ.symm;have ix:=(mI lo hi z.length).trans (Kb _ _)
 have Sj:(f_ lo hi 1 z.length).filterMap (z.cps[·]?)=W9 z.cps.toList lo hi:=by
  rw[ix,pick_run,len];rfl
 unfold fC;split
 ·rename_i h;have h:(f_ lo hi 1 z.length).length=z.length:=by simpa using h
  rw[ix,CH,dD,len]at h;have a2:=HT.Ts z.cps.toList.length z.cps.toList.length (CI _) hi
  have hl:(W9 z.cps.toList lo hi).length=z.cps.toList.length:=by
   unfold W9;rw[dH,Dj,h];exact Dl (CW (Dy h.symm) (Nat.sub_le_sub_right a2 _))
  exact(((ED _ _).trans (List.drop_sublist _ _)).eq_of_length hl).symm
 ·exact Sj
inductive lQ (x:V)(lo hi:Option Int)(H:Hp)(Q:VK):Prop|mk(z:_)(_:x=.str z)(_:z.length<=au)(_:Q (.str (fC z lo hi)) H)
theorem Vu {v:ae}{o:Option Int}(p:KU v o):∃l:Option (Int×KS),v=partValue l/\o=l.map (·.1):=by
 cases p with
 |none=>exact⟨none,U,U⟩
 |int i t=>exact⟨some (i,t),U,U⟩
theorem vf:cC X lQ:=by
 intro pins s σ H x v vl vu lo hi sl Q I rx hs pl pu h;obtain⟨z,rfl,hz,q⟩:=h;obtain⟨t,rfl⟩:=rx;obtain⟨l,rfl,rfl⟩:=Vu pl;obtain⟨u,rfl,rfl⟩:=Vu pu;refine⟨"str",_,F.slot_str_getitem.lookup,w_ _ _ _,wpAny_getItem_str_slice (l:=l) (u:=u) (st:=none) hs U ?_⟩;exact post_val_or_str ⟨CW (AY z _ _) hz,λt' k=>⟨.str _,H,I.tok k,⟨t',U⟩,q⟩⟩
def qv (xe:ae->ar->Prop)(X:Cx)(Nc:List af)(scope:sZ)(cl:List (af×ag))(C:ag)(fp:List ag)(s:ar)(H:Hp):Cx :=
 {X with N:=Nc,s₀:=s,H₀:=H,env:=Kd scope cl C X.env,outer:=X.stack,ex:=fp,fn:=λ_=>false,pn:=[],xe:=xe}
abbrev Za:=qv λ_ _=>False
inductive jt (J:It)(D:ag)(g:TG)(tt:TT)(te:TE)(K_:List V->Hp->Prop)(σ:St)(H:Hp):Prop|mk(W:Nat->Nat->List V->St->Hp->Prop)(_:(∃m,W 0 m [] σ H))(_:(∀i m ys σ H,W i m ys σ H->H D=some (.lst ys)))(_:∀i m ys σ H,W i m ys σ H->(J.stop i H/\K_ ys H)∨(J.go i H/\∃N:List V->St->Hp->Prop,(∀SK σ' H',N SK σ' H'->∃m',m'<m/\W (i+1) m' SK σ' H')/\∀x H',J.yld i H x H'->g x σ H' λσ1 H1=>tt σ1 H1 λb H2=>if b=true then te σ1 H2 λy H3=>H3 D=some (.lst ys)/\ys.length<au/\N (ys++[y]) σ1 (upd H3 D (.lst (ys++[y]))) else N ys σ1 H2))
def UC (src:List (Option Nat))(wi:TI)(g:TG)(tt:TT)(te:TE):TE:=λσ H Q=>wi σ H λJ H1=>∀D,H1 D=none->jt J D g tt te (λys H2=>Q (.ref D) H2) (mJ src σ) (upd H1 D (.lst []))
theorem uv {xe:ae->ar->Prop}{tn:Nat->fi->Prop}{J:It}{R:ag->Kw->ar->Prop}{pos:fW}
  (c:Zw X Nc scope cl src) (L':X.calm=true) (I:zH X pins σ H s) (T:xr X.prog X.w X.K So J fp it tn) (st0:tn 0 s.heap) (f:∀b∈fp,yL X pins H b) (hb:PG (qv xe X Nc scope cl s.heap.objs.size fp s H) So g/\jQ (qv xe X Nc scope cl s.heap.objs.size fp s H) Sv tt/\PE (qv xe X Nc scope cl s.heap.objs.size fp s H) Sx te) (h:jt J D g tt te K_ (mJ src σ) H) (hx:∀x s',xe x s'->notedBy (aA X.prog X.w) X.A (Kd scope cl s.heap.objs.size X.env) (λe s'=>R s.heap.objs.size (.error e) s') x s') (kend:∀C ys σ' H' s',H C=none->zH (qv xe X Nc scope cl C fp s H) [] σ' H' s'->H' D=some (.lst ys)->K_ ys H'->R C (.ok .next) s') :
  wpAny (aA X.prog X.w) X.A (newFunctionEnv scope X.env.globals cl [] X.env.qual none .none (some X.env)) (λcenv s4=>
   codeAny (aA X.prog X.w) X.A (.compStart (.ListComp Sx [⟨So,iter,Sv,0⟩] scope pos) 0 (.ref it) (.ref D) {cenv with scope:=KJ scope X.env}) (R cenv.locals) s4) E s:=by
 obtain⟨W,⟨m0,w0⟩,wi,wt⟩:=h;refine wpAny_newFunctionEnv c.cell (by intro y hy;simp at hy) (λh1 hn1 hs1=>?_) c.kind;have hC0:H s.heap.objs.size=none:=I.hok.fresh (CI _);have SE:∀b o,s.heap.get? b=some o->h1.get? b=some o:=λb o e=>hs1.extBut b o (de (C5 e)) (dc _ e)
 have fplt:∀b∈fp,b<s.heap.objs.size:=λb hb=>by
  obtain⟨o,e,_⟩:=T.obj 0 _ st0 b hb;exact C5 e
 have inStk:∀b∈fp,b∉oY X.stack:=λb hb z=>(CJ.mp (I.stkSub b z)).elim (f b hb).2.1 (f b hb).2.2.1
 have Yok:(qv xe X Nc scope cl s.heap.objs.size fp s H).Ok:=by
  refine⟨I.ok.mod,c.kind,I.ok.glob,I.ok.blt,CI _,λx y b h1 h2=>I.ok.inj x y b (c.sub x b h1) (c.sub y b h2),λx hx=>c.has x hx,(λx b h1 _=>nomatch h1),I.ok.hd,I.ok.frames,.inl U,λb hb=>?_,λb o e=>I.bs b o e,CW I.ok.bsz I.sz,λb o e hb=>?_,λb hb=>?_,I.stack,I.stkFree⟩
  ·exact⟨de (fplt b hb),λx b' e=>(f b hb).2.2.2.2.1 x b' (c.sub x b' e)⟩
  ·have e0:=(I.ok.bs b o e).1;rcases (f b hb).2.2.2.1 with z |z
   ·exact I.ok.noex b o e z
   ·rw[z]at e0;cases e0
  ·exact inStk b hb
 have J0:zH (qv xe X Nc scope cl s.heap.objs.size fp s H) [] (mJ src σ) H {s with heap:=h1,toks:=s.toks+([]:List (af×ae)).length}:=by
  refine⟨Yok,U,I.bare,Un.kept SE,⟨_,hn1,λi x v e1 e2 e3=>?_⟩,λx b e=>?_,hC0,λx b e=>I.freeC x b (c.sub x b e),λp hp=>K7 (show p∈([]:List (ag×g_)) from hp) (by simp),I.hok.kept SE,?_⟩
  ·unfold mJ at e2;rw[CO]at e2
   cases q:src[i]? with
   |none=>rw[q]at e2;cases e2
   |some oj=>
    rw[q]at e2
    cases oj with
    |none=>cases e2
    |some j=>
     obtain⟨y,y1,y2,y3,y4⟩:=c.frm i j q;obtain rfl:y=x:=ao (y1.symm.trans e1);have e2':(σ[j]?).join=some v:=ao e2
     have e2s:σ[j]?=some (some v):=by
      cases z:σ[j]? with
      |none=>rw[z]at e2';cases e2'
      |some ov=>rw[z]at e2';exact K4 some e2'
     obtain⟨m,hn,hl⟩:=I.loc;obtain⟨u,r,l⟩:=hl j y v y2 e2s (.inr (.inl y3));refine⟨u,r,.inr ⟨.inl y4,?_⟩⟩;rcases l with⟨k1,_⟩ |⟨_,b,k2,k3⟩
     ·exact K7 (k1.symm.trans y3) (by intro z;cases z)
     ·obtain⟨b',k4⟩:=c.has y (.inl y4);have k5:=c.sub y b' k4;rw[k2]at k5;cases k5;obtain⟨o,ho,hd⟩:=k3;exact⟨b,k4,o,SE b o ho,hd⟩
  ·obtain⟨v,o,ho,hd⟩:=I.cell x b (c.sub x b e);exact⟨v,o,SE b o ho,hd⟩
  ·unfold mJ;rw[CH];exact c.len
 have st1:tn 0 h1:=T.keep _ _ _ st0 λb _ o e=>SE b o e;obtain⟨bg,bi,be⟩:=hb
 have fpY:∀{H2:Hp},(∀b∈fp,H2 b=none)->∀b∈fp,yL (qv xe X Nc scope cl s.heap.objs.size fp s H) [] H2 b:=λ{H2} n b hb=>
  ⟨n b hb,de (fplt b hb),inStk b hb,.inl hb,λx b' e=>(f b hb).2.2.2.2.1 x b' (c.sub x b' e),λp hp=>K7 (show p∈([]:List (ag×g_)) from hp) (by simp)⟩
 have loop:codeAny (aA X.prog X.w) X.A (.compLoop (.ListComp Sx [⟨So,iter,Sv,0⟩] scope pos) 0 (.ref it) (.ref D) (Kd scope cl s.heap.objs.size X.env)) (R s.heap.objs.size) {s with heap:=h1,toks:=s.toks+([]:List (af×ae)).length}:=by
  refine oF (EX:=xe) hx (λn s'=>∃i ys σ' H',zH (qv xe X Nc scope cl s.heap.objs.size fp s H) [] σ' H' s'/\tn i s'.heap/\(∀b∈fp,H' b=none)/\W i n ys σ' H') ?_ m0 ⟨0,[],_,H,J0,st1,λb hb=>(f b hb).1,w0⟩;rintro n s2 ⟨i,ys,σ2,H2,J2,Sl,fr2,w2⟩;have q2:=wi i n ys σ2 H2 w2;rcases wt i n ys σ2 H2 w2 with⟨stop,qn⟩ |⟨go,N,hN,step⟩
  ·refine yj (T.done (qv xe X Nc scope cl s.heap.objs.size fp s H) U U U L' i [] s2 σ2 H2 _ J2 (fpY fr2) Sl stop) λr s4 hM=>?_;obtain⟨hr,I4⟩:=hM;subst hr;exact kend _ ys σ2 H2 _ hC0 I4 q2 qn
  ·refine yj (T.item (qv xe X Nc scope cl s.heap.objs.size fp s H) U U U L' i [] s2 σ2 H2 _ J2 (fpY fr2) Sl go) λr s4 hM=>?_;obtain⟨u,hr,h4⟩:=hM;subst hr;refine yj h4 λ_ s5 hM=>?_;obtain⟨x,H5,I5,r5,y5,st5,fr5⟩:=hM;have I5':=I5.pinned (fpY fr5) (T.obj _ _ st5)
   have back:∀{σ7:St} {H7:Hp} {s7:ar},zH (qv xe X Nc scope cl s.heap.objs.size fp s H) ([]++wC fp s5.heap) σ7 H7 s7->zH (qv xe X Nc scope cl s.heap.objs.size fp s H) [] σ7 H7 s7/\tn (i+1) s7.heap/\∀b∈fp,H7 b=none:=λ{σ7 H7 s7} I7=>by
    refine⟨I7.unpinned,T.keep _ _ _ st5 λb hb o e=>(I7.pin (b,o) (dN _ (dN _ (uq hb e)))).1,λb hb=>?_⟩;obtain⟨o,e,d⟩:=T.obj _ _ st5 b hb;exact(I7.pin (b,o) (dN _ (dN _ (uq hb e)))).2.1
   refine yj (bg _ s5 σ2 H5 x u _ I5' r5 (step x H5 y5)) λ_ s6 hM=>?_;obtain⟨σ6,H6,I6,q6⟩:=hM;refine yj (bi _ s6 σ6 H6 _ I6 q6) λb s7 hM=>?_;obtain⟨H7,I7,q7⟩:=hM
   cases b with
   |false=>
    obtain⟨m',hm,w7⟩:=hN _ _ _ q7;obtain⟨J7,st7,fr7⟩:=back I7;exact⟨m',hm,i+1,ys,σ6,H7,J7,st7,fr7,w7⟩
   |true=>
    refine yj (be _ s7 σ6 H7 _ I7 q7) λy s8 hM=>?_;obtain⟨vy,H8,I8,ry,hD8,hl8,n8⟩:=hM;refine yj (jJ (X:=qv xe X Nc scope cl s.heap.objs.size fp s H) _ s8 σ6 H8 (.ref D) [vy] (.ref D) [y] (λ_ H'=>H'=upd H8 D (.lst (ys++[vy]))) I8 U (.cons ry .nil) ⟨D,ys,vy,U,U,hD8,hl8,U⟩) λ_ s9 hM=>?_;obtain⟨_,H9,I9,_,e9⟩:=hM;subst e9;obtain⟨m',hm,w8⟩:=hN _ _ _ n8;obtain⟨J9,st9,fr9⟩:=back I9;exact⟨m',hm,i+1,ys++[vy],σ6,_,J9,st9,fr9,w8⟩
 exact codeAny_compStart_list loop (T.self _ 0 _ _ _ st1 loop)
theorem uh {xe:ae->ar->Prop}{σ':St}(I:zH X pins σ H s)(f:∀b∈fp,yL X pins H b)(J:zH (qv xe X Nc scope cl C fp s H) [] σ' H' s')(hs:fB C s'.heap h'):
  zH X pins σ H' {s' with heap:=h'}:=by
 have nC:∀b o,s.heap.get? b=some o->b≠C:=λb o e=>de (dM (C5 e) J.ok.above);have B:=J.base;refine I.call' (s':={s' with heap:=h'}) (ch:=fp) J.os ⟨λb o e n hb hx=>(hs.2 b (nC b o e)).trans (B.keep b o e n hb hx),λb o e n hb hx=>?_,B.free,λb o e hx=>?_,B.tups,B.frzs,B.tbls⟩ (λb u q=>?_) J.bare λb hb=>?_
 ·obtain⟨sl,z⟩:=B.slot b o e n hb hx;exact⟨sl,(hs.2 b (nC b o e)).trans z⟩
 ·obtain⟨o',z⟩:=B.there b o e hx;exact⟨o',(hs.2 b (nC b o e)).trans z⟩
 ·have hC:H' C=none:=J.free;refine(J.hok b u q).stay (λc v hc z=>(hs.2 c ?_).trans z) (λ_ z=>z) λ_ _ z=>z;rintro rfl;rcases hc with hc |hc
  ·rw[<- hc,hC]at q;cases q
  ·rw[hC]at hc;cases hc
 ·exact⟨(f b hb).2.2.2.1,(f b hb).2.1,(f b hb).2.2.2.2.1,(f b hb).2.2.2.2.2⟩
theorem qk {pos:fW}(c:Zw X Nc scope cl src)(L':X.calm=true)(hi:PI X So iter wi)(hb:∀fp C s' H',PG (Za X Nc scope cl C fp s' H') So g/\jQ (Za X Nc scope cl C fp s' H') Sv tt/\PE (Za X Nc scope cl C fp s' H') Sx te)(hs:∀x,iO iter X.env x=pure x:=by intro _;rfl):PE X (.ListComp Sx [⟨So,iter,Sv,0⟩] scope pos) (UC src wi g tt te):=by
 intro pins s σ H Q I h;rw[eval_ListComp];refine iy (use:=none) rfl hs c.clos c.kind c.names (yj (hi pins s σ H _ I h) λv s1 h1=>yj h1 λitv s2 h2=>?_);obtain⟨it,fp,tn,J,H2,e,I2,T,Sl,f2,hT⟩:=h2;subst e;refine fF ?_ (by size_fits);have SE:∀b o,s2.heap.get? b=some o->(s2.heap.push {cls:=.type "list",data:=.seq ([]:List ae).toArray}).get? b=some o:=λb o e=>dc _ e;have I3:=I2.laid (a:=s2.heap.objs.size) (o:=.lst []) (t':=s2.toks) (h':=s2.heap.push {cls:=.type "list",data:=.seq ([]:List ae).toArray}) SE (CI _) ⟨du _,[],0,.nil,dA _ U⟩
 have ne:∀b∈fp,b≠s2.heap.objs.size:=λb hb=>by
  obtain⟨o,e,_⟩:=T.obj 0 _ Sl b hb;exact de (C5 e)
 have f3:∀b∈fp,yL X pins (upd H2 s2.heap.objs.size (.lst [])) b:=λb hb=>⟨by rw[zm (ne b hb)];exact(f2 b hb).1,(f2 b hb).2⟩;refine uv (it:=it) (R:=λC=>Ho (aA X.prog X.w) X.A X.xe none (EP X pins σ Q) _ C) c L' I3 T (T.keep _ _ _ Sl λb _ o e=>SE b o e) f3 (hb fp _ _ _) (hT _ (I2.hok.fresh (CI _))) (λ_ _ z=>z.elim) λC ys σ' H' s' hC J' hD q=>?_;obtain⟨m,hn,_⟩:=id J'.loc;exact⟨m,hn,λh' hs'=>⟨.ref _,H',uh I3 f3 J' hs',U,q⟩⟩
section
variable {K:BFr}
def Qb (D:ag)(g:TG)(tt:TT)(te:TE)(x:V)(ys:List V)(N:List V->St->Hp->Prop)(σ:St)(H:Hp):Prop :=
 g x σ H λσ1 H1=>tt σ1 H1 λb H2=>if b=true then te σ1 H2 λy H3=>H3 D=some (.lst ys)/\ys.length<au/\N (ys++[y]) σ1 (upd H3 D (.lst (ys++[y]))) else N ys σ1 H2
theorem Y7 (Pv:Nat->List V->St->Hp->Prop)(h0:Pv 0 [] σ H)(hl:∀i ys σ H,i<=xs.length->Pv i ys σ H->zN K H a xs/\H D=some (.lst ys))(hs:∀i x ys σ H,xs[i]?=some x->Pv i ys σ H->Qb D g tt te x ys (Pv (i+1)) σ H)(hd:∀ys σ H,Pv xs.length ys σ H->K_ ys H):jt (mW K a) D g tt te K_ σ H:=by
 refine⟨λi m ys σ H=>m=xs.length-i/\i<=xs.length/\Pv i ys σ H,⟨xs.length,by simp,du _,h0⟩,λi m ys σ H hM=>by obtain⟨_,hi,p⟩:=hM;exact(hl i ys σ H hi p).2,?_⟩;rintro i m ys σ H ⟨rfl,hi,p⟩;have q:=(hl i ys σ H hi p).1
 by_cases Sn:i<xs.length
 ·refine .inr ⟨⟨xs,xs[i],q,by simp[Sn]⟩,Pv (i+1),λSK σ' H' p'=>⟨xs.length-(i+1),by lia,U,Sn,p'⟩,λx H' y=>?_⟩;obtain⟨e,y⟩:=y;subst e;exact hs i x ys σ _ (y xs q) p
 ·have e:i=xs.length:=by lia
  subst e;exact .inl ⟨⟨xs,q,CI _⟩,hd ys σ H p⟩
end
def BN (z:af):It:=⟨λi _=>i<z.cps.size,λi H x H'=>H'=H/\∃c,z.cps[i]?=some c/\x=.str ⟨#[c]⟩,λi _=>z.cps.size<=i⟩
theorem U0 (z:af):sJ z = "str_ascii_iterator"∨sJ z = "str_iterator":=by
 unfold sJ;split
 ·exact .inl rfl
 ·exact .inr rfl
theorem P3 {K:BFr}(z:af)(t:KS)(it:ag):xr P w K tg (BN z) [it] it (λi h=>h.IsStrIter it (sJ z) z t i) where
 mem:=by simp
 obj:=λi h st b hb=>by
  have e:b=it:=by simpa using hb
  subst e;obtain⟨o,e,c,d⟩:=st;exact⟨o,e,λv q=>by rw[d]at q;cases q⟩
 keep:=λi h h' st k=>by
  obtain⟨o,e,r⟩:=st;exact⟨o,k it (by simp) o e,r⟩
 item:=by
  intro X hP hw hK hc i pins s σ H E I hf st hg;subst hP hw hK;have hg':i<z.cps.size:=hg;have hx:z.cps[i]?=some z.cps[i]:=Dm hg';obtain⟨f0,f1,f2,f3,f4,f5⟩:=hf it (by simp)
  have K_:∀h':fi,h'.IsStrIter it (sJ z) z t (i+1)->fB it s.heap h'->∃u,some (AI ⟨#[z.cps[i]]⟩ s.toks)=some u /\
    wpAny (aA X.prog X.w) X.A (i7 tg (.ref it) u) (λ_ s2=>∃x H',zH X pins σ H' s2/\qy x u/\(BN z).yld i H x H'/\s2.heap.IsStrIter it (sJ z) z t (i+1)/\∀b∈[it],H' b=none) E {s with heap:=h',toks:=s.toks+1}:=λh' M' sb=>by
   have I1:zH X pins σ H {s with heap:=h',toks:=s.toks+1}:=I.turned (t':=s.toks+1) (λb o hb e=>(sb.2 b hb).trans e) f0 f1 f3 f4 f5;obtain⟨o,e,c,d⟩:=id M';refine⟨_,U,xg (s:={s with heap:=h',toks:=s.toks+1}) e c d ?_ ⟨.str ⟨#[z.cps[i]]⟩,H,I1,⟨_,U⟩,⟨U,_,hx,U⟩,M',λb hb=>(hf b hb).1⟩⟩;rcases U0 z with q |q<;>rw[q]<;>decide
  rcases U0 z with q |q
  ·rw[q]at st K_ ⊢;exact wpAny_pyNext_ascii_item st hx λh' M' sb=>K_ h' M' sb
  ·rw[q]at st K_ ⊢;exact wpAny_pyNext_wide_item st hx λh' M' sb=>K_ h' M' sb
 done:=by
  intro X hP hw hK hc i pins s σ H E I hf st hg;subst hP hw hK;have hg':z.cps.size<=i:=hg;have hx:z.cps[i]?=none:=Ee hg';obtain⟨f0,f1,f2,f3,f4,f5⟩:=hf it (by simp);have K_:∀h':fi,Fo it s.heap h'->(none:Option ae)=none/\zH X pins σ H {s with heap:=h'}:=λh' eb=>⟨U,I.turned (t':=s.toks) (λb o hb e=>eb b o hb e) f0 f1 f3 f4 f5⟩;rcases U0 z with q |q
  ·rw[q]at st;exact wpAny_pyNext_ascii_end (I.ok.hd hc) st hx K_
  ·rw[q]at st;exact wpAny_pyNext_wide_end (I.ok.hd hc) st hx K_
 self:=λ_ _ _ _ _ st h=>by
  rcases U0 z with q |q
  ·rw[q]at st;exact wpAny_pyIter_striter_ascii st h
  ·rw[q]at st;exact wpAny_pyIter_striter_wide st h
inductive Lh (R:(It->Hp->Prop))(x:V)(H1:Hp):Prop|mk(z:_)(_:x=.str z)(_:R (BN z) H1)
def XQ (tl:TE):TI:=λσ H R=>tl σ H (Lh R)
theorem QB {l:aQ}(hl:PE X l tl):PI X tg l (XQ tl):=by
 intro pins s σ H R I h;refine yj (hl pins s σ H _ I h) λv s1 hM=>?_;obtain⟨x,H1,I1,r1,q1⟩:=hM;obtain⟨z,e,q⟩:=q1;subst e;obtain⟨t,rfl⟩:=r1;refine wpAny_pyIter_strU ?_;refine⟨s1.heap.objs.size,[s1.heap.objs.size],_,_,H1,U,I1.kept (t':=s1.toks) λb o e=>dc _ e,P3 z t _,⟨_,dA _ U,U,U⟩,λb hb=>?_,q⟩;have e:b=s1.heap.objs.size:=by simpa using hb
 subst e;exact I1.fpOk (CI _) (I1.hok.fresh (CI _))
def cm (c:Nat):V:=.str ⟨#[c]⟩
theorem gU (x:af)(c:Nat):(!(Builtin.Str.occurrences x ⟨#[c]⟩ 0 x.length 1).isEmpty)=x.cps.toList.contains c:=by
 rw[DX,StrLaws.found_iff,dW];constructor
 ·rintro ⟨i,h⟩;exact dG ((StrLaws.subAt_one x c i).mp h)
 ·intro h;obtain⟨i,hi⟩:=List.getElem?_of_mem h;exact⟨i,(StrLaws.subAt_one x c i).mpr hi⟩
def jx (z:af)(n:Int):af:=⟨(aW n.toNat z.cps.toList).flatten.toArray⟩
theorem VA (a:Array Nat):∀(k:Nat) (L_:Array Nat),((aW k a).foldl (· ++ ·) L_).toList=L_.toList++(aW k a.toList).flatten
 |0,L_=>by simp
 |k+1,L_=>by
  rw[eY,De,VA a k,eY,eZ,Array.toList_append,dU]
inductive rZ (x y:V)(H:Hp)(Q:VK):Prop|mk(z n:_)(_:x=.str z)(_:y=.int n)(_:-(2 ^ 63)<=n)(_:n<2 ^ 63)(_:z.length*n.toNat<=au)(_:Q (.str (jx z n)) H)
theorem Zt:Zf X (i3 .Mult) rZ:=by
 intro pins s σ H x y v u Q I rx ry h;obtain⟨z,n,rfl,rfl,h1,h2,hz,q⟩:=h;obtain⟨t,rfl⟩:=rx;obtain⟨t',rfl⟩:=ry;have lenz:z.length=z.cps.size:=rfl
 have e1:n<1->jx z n=Ia:=λhn=>by
  unfold jx;rw[show n.toNat=0 by lia];rfl
 have e2:(n==1 || z.length==0)=true->¬n<1->jx z n=z:=λhc hn=>by
  unfold jx;rw[Dz,beq_iff_eq,beq_iff_eq]at hc;rcases hc with rfl |hc
  ·simp
  ·have:z.cps = #[]:=Array.eq_empty_of_size_eq_zero hc;obtain⟨c⟩:=z
   simp at this
   subst this
   simp
 refine PySem.P.mul_str (by rw[D' (by lia),D' (by lia)];rfl) (λhn hc=>?_) (λhn hc=>?_) ?_
 ·intro hgt
  have hb:(z.length:Int)*n<=2 ^ 63-1:=by
   have hs:(au:Int)<=2 ^ 63-1:=by have:=Zy;lia
   have:((z.length*n.toNat:Nat):Int)<=(au:Int):=by exact_mod_cast hz
   rw[Int.natCast_mul,Int.toNat_of_nonneg (by lia)]at this;lia
  have:=(Int.le_ediv_iff_mul_le (by lia:(0:Int)<n)).mpr hb;lia
 ·unfold sQ;exact D' (by lia)
 ·by_cases hn:n<1
  ·rw[K6 hn];rw[e1 hn]at q;exact⟨∅,.str _,H,I.tok _,⟨_,U⟩,q⟩
  ·rw[K5 hn]
   by_cases hc:(n==1 || z.length==0)=true
   ·rw[K6 hc];rw[e2 hc hn]at q;exact⟨.str z,H,I,⟨t,U⟩,q⟩
   ·rw[K5 hc]
    have e3:(⟨(aW n.toNat z.cps).foldl (· ++ ·) #[]⟩:af)=jx z n:=by
     unfold jx
     congr 1
     apply eG.mp;rw[VA]
     simp
    rw[e3];refine⟨?_,.str _,H,I.tok _,⟨_,U⟩,q⟩;show(jx z n).cps.size<=au;unfold jx;rw[dh,Md,Nat.mul_comm]
    simpa [lenz] using hz
inductive wL (xs:List V)(H:Hp)(Q:VK):Prop|mk(z n:_)(_:xs=[.str z])(_:PySem.intText? z=some n)(_:z.length<=640)(_:Q (.int n) H)
theorem ja:uH X (.type "int") wL:=by
 intro pins s σ H xs us Q I r h;obtain⟨z,n,rfl,hn,hl,q⟩:=h;obtain⟨u,rfl,ru⟩:=kA r;obtain⟨t,rfl⟩:=ru;exact PySem.W.KIN.call_text hn hl ⟨.int n,H,I.tok _,⟨_,U⟩,q⟩
open Builtin.Str (occurrences partsBetween)
theorem VI:∀{zs:List af} {K8:List ae},qp (zs.map V.str) K8->∃l:List (af×KS),l.map (·.1)=zs/\K8=HY l
 |[],_,.nil=>⟨[],U,U⟩
 |z::zs,_,.cons ⟨t,e⟩ r=>by
  obtain⟨l,e1,e2⟩:=VI r;subst e e2;exact⟨(z,t)::l,by rw[dv,e1],U⟩
theorem Vw:∀(l:List (af×KS)),qp ((l.map (·.1)).map V.str) (HY l)
 |[]=>.nil
 |p::r=>.cons ⟨p.2,U⟩ (Vw r)
inductive rL (K:BFr)(x:V)(vs:List V)(H:Hp)(Q:VK):Prop|mk(sep zs a:_)(_:x=.str sep)(_:vs=[.ref a])(_:zN K H a (zs.map V.str))(_:AU sep zs=true)(_:Q (.str (aG sep zs)) H)
theorem ya:Bs X "str.join" (rL X.K):=by
 intro pins s σ H x xs v us Q I rx rv h;obtain⟨sep,zs,a,rfl,rfl,hS,hj,q⟩:=h;obtain⟨t,rfl⟩:=rx;obtain⟨u,rfl,ru⟩:=qp.one rv;cases ru;obtain⟨K8,r,pl,hz⟩:=I.list hS;obtain⟨l,e1,rfl⟩:=VI r;exact SC.join pl.isList e1 hj λt' k=>⟨.str _,H,I.tok k,⟨t',U⟩,q⟩
inductive Zq (x:V)(vs:List V)(H:Hp)(Q:VK):Prop|mk(z y:_)(_:x=.str z)(_:vs=[.str y])(_:(y.length==0)=false)(_:z.length<=au)(_:(aZ z (fk z y 0 z.length (z.length+1)) y.length).length<=au)(_:x8 H (.lst ((av z y).map V.str)) Q)
theorem jg:Bs X "str.split" Zq:=by
 intro pins s σ H x xs v us Q I rx rv h;obtain⟨z,y,rfl,rfl,hy,h1,h2,q⟩:=h;obtain⟨t,rfl⟩:=rx;obtain⟨u,rfl,ru⟩:=qp.one rv;obtain⟨tu,rfl⟩:=ru
 have K_:∀(l:List (af×KS)) (k:Nat),l.map (·.1)=av z y->(av z y).length<=au->EP X pins σ Q (.ref s.heap.objs.size) {s with toks:=k,heap:=s.heap.push {cls:=.type "list",data:=.seq (HY l).toArray}}:=λl k e hl=>by
  refine⟨.ref _,upd H s.heap.objs.size (.lst ((av z y).map V.str)),I.laid (t':=k) (λb o e=>dc _ e) (CI _) ⟨by rw[CH];exact hl,HY l,0,by rw[<- e];exact Vw l,dA _ U⟩,U,q.at (I.hok.fresh (CI _))⟩
 have one:∀e:av z y=[z],(av z y).length<=au:=λe=>by rw[e];exact zS rfl
 cases c1:(decide (z.length<y.length) || decide (iA z<iA y))
 ·cases hf:(fk z y 0 z.length (z.length+1)).isEmpty
  ·refine sq aI (w_ _ _ _) Am (Ag _ _) (meets_str_split_sep z y t tu c1 hy hf h1 h2) ?_;show wants _ _ _ {s with toks:=_,heap:=s.heap.push {cls:=.type "list",data:=.seq (strsFrom s.toks (aZ z (fk z y 0 z.length (z.length+1)) y.length)).toArray}};rw[strsFrom_eq];have e:av z y=aZ z (fk z y 0 z.length (z.length+1)) y.length:=(K5 (ne_true_of_eq_false c1)).trans (K5 (ne_true_of_eq_false hf));exact K_ (numbered s.toks _) _ ((numbered_texts _ _).trans e.symm) (by rw[e];exact h2)
  ·have e:av z y=[z]:=(K5 (ne_true_of_eq_false c1)).trans (K6 hf);exact sq aI (w_ _ _ _) Am (Ag _ _) (meets_str_split_not_found z y t tu c1 hy hf) (K_ [(z,t)] s.toks e.symm (one e))
 ·have e:av z y=[z]:=K6 c1;exact sq aI (w_ _ _ _) Am (Ag _ _) (meets_str_split_cannot_occur z y t tu c1) (K_ [(z,t)] s.toks e.symm (one e))
end L2
namespace L2
open PySem PySem.Spec PyProof.Rows
inductive Dt where
 |v (x:V)
 |l (xs:List Dt)
 |t (xs:List Dt)
inductive Is (K:BFr)(H:Hp):Nat->V->Dt->Prop where
 |v {n:Nat} {x:V}:jX x=true->Is K H n x (.v x)
 |l {n:Nat} {a:ag} {xs:List V} {ds:List Dt}:zN K H a xs->xs.length=ds.length->(∀(j:Nat) x d,xs[j]?=some x->ds[j]?=some d->Is K H n x d)->Is K H (n+1) (.ref a) (.l ds)
 |t {n:Nat} {a:ag} {xs:List V} {ds:List Dt}:yE K H a xs->xs.length=ds.length->(∀(j:Nat) x d,xs[j]?=some x->ds[j]?=some d->Is K H n x d)->Is K H (n+1) (.ref a) (.t ds)
theorem WB {x:V}(f:jX x=true):XU x x=true:=by
 cases x<;>simp[jX]at f<;>simp[XU]
theorem v7 (n:Nat):(aY n).all (λ_=>true)=true:=by
 rw[dj];intro _ _;rfl
theorem Vk (r:qp xs K8)(h:j<K8.toArray.size):∃x,xs[j]?=some x/\qy x K8.toArray[j]:=by
 have hl:=r.length;have hj:j<xs.length:=by rw[hl];simpa using h
 refine⟨xs[j],CZ hj,?_⟩;obtain⟨u,e1,e2⟩:=r.get (CZ hj);have:K8[j]?=some K8.toArray[j]:=by simp at h ⊢
 rw[this]at e1;cases e1;exact e2
theorem Oi (I:zH X pins σ H s):∀(n:Nat) (d:Dt) (x y:V) (u v:ae) (A:iG),Is X.K H n x d->Is X.K H n y d->qy x u->qy y v->A.units+n<hZ->sx A s u v true:=by
 intro n
 induction n with
 |zero=>
  intro d x y u v A hx hy ru rv hu
  cases hx with
  |v f=>
   cases hy with
   |v f' =>
    have e:=Ur (A:=A) (s:=s) ru rv f f;rw[WB f]at e;exact e
 |succ n ih=>
  intro d x y u v A hx hy ru rv hu
  cases hx with
  |v f=>
   cases hy with
   |v f' =>
    have e:=Ur (A:=A) (s:=s) ru rv f f;rw[WB f]at e;exact e
  |l h1 h2 h3=>
   cases hy with
   |l g1 g2 g3=>
    cases ru;cases rv;rename_i a xs ds b ys
    by_cases hab:a=b
    ·subst hab;exact sL _
    ·obtain⟨us,r1,p1,_⟩:=I.list h1;obtain⟨ws,r2,p2,_⟩:=I.list g1
     have e:=SeqAt.RcAt.lists (A:=A) (e:=λ_=>true) p1.isList p2.isList (by rw[dh,dh,<- r1.length,<- r2.length,h2,g2]) (by lia) λj k1 k2=>by
      obtain⟨x,ex,rx⟩:=Vk r1 k1;obtain⟨y,ey,ry⟩:=Vk r2 k2
      have hj:j<ds.length:=by
       have:=(C7.mp ex).1;lia
      exact ih ds[j] x y _ _ A.in1 (h3 j x _ ex (CZ hj)) (g3 j y _ ey (CZ hj)) rx ry (by show A.units+1+n<hZ;lia)
     rw[v7]at e;exact Hc hab e
  |t h1 h2 h3=>
   cases hy with
   |t g1 g2 g3=>
    cases ru;cases rv;rename_i a xs ds b ys
    by_cases hab:a=b
    ·subst hab;exact sL _
    ·obtain⟨us,r1,p1,_⟩:=I.tuple h1;obtain⟨ws,r2,p2,_⟩:=I.tuple g1
     have e:=SeqAt.RcAt.tuples (A:=A) (e:=λ_=>true) (show s.heap.IsTuple a us.toArray from p1) (show s.heap.IsTuple b ws.toArray from p2) (by lia) λj k1 k2=>by
      obtain⟨x,ex,rx⟩:=Vk r1 k1;obtain⟨y,ey,ry⟩:=Vk r2 k2
      have hj:j<ds.length:=by
       have:=(C7.mp ex).1;lia
      exact ih ds[j] x y _ _ A.in1 (h3 j x _ ex (CZ hj)) (g3 j y _ ey (CZ hj)) rx ry (by show A.units+1+n<hZ;lia)
     rw[v7,dm,show(us.toArray.size==ws.toArray.size)=true by rw[beq_iff_eq,dh,dh,<- r1.length,<- r2.length,h2,g2]]at e;exact Hc hab e
theorem bO (I:zH X pins σ H s){ds:List Dt}{us ws:List ae}(r1:qp xs us)(r2:qp ys ws)(h2:xs.length=ds.length)(h3:∀(j:Nat) x d,xs[j]?=some x->ds[j]?=some d->Is X.K H n x d)(g3:∀(j:Nat) x d,ys[j]?=some x->ds[j]?=some d->Is X.K H n x d)(hu:A.units+(n+1)<hZ):
  ∀j (k1:j<us.toArray.size) (k2:j<ws.toArray.size),sx A.in1 s us.toArray[j] ws.toArray[j] ((λ_=>true) j):=λj k1 k2=>by
 obtain⟨x,ex,rx⟩:=Vk r1 k1;obtain⟨y,ey,ry⟩:=Vk r2 k2
 have hj:j<ds.length:=by
  have:=(C7.mp ex).1;lia
 exact Oi I n ds[j] x y _ _ A.in1 (h3 j x _ ex (CZ hj)) (g3 j y _ ey (CZ hj)) rx ry (by show A.units+1+n<hZ;lia)
def ba:Dt->Bool
 |.v _=>false
 |_=>true
def bY (X:Cx)(neg:Bool):R2:=λx y H Q=>∃n d,ba d=true/\Is X.K H n x d/\Is X.K H n y d/\X.A.units+n<hZ/\Q (.bl (!neg)) H
theorem tf:Zf X (fA .Eq) (bY X false):=by
 intro pins s σ H x y v u Q I rx ry h;obtain⟨n,d,hq,hx,hy,hu,q⟩:=h
 cases hx with
 |v f=>cases hq
 |l h1 h2 h3=>
  cases hy with
  |l g1 g2 g3=>
   cases rx;cases ry;obtain⟨us,r1,p1,_⟩:=I.list h1;obtain⟨ws,r2,p2,_⟩:=I.list g1;refine IG p1.isList p2.isList (by rw[dh,dh,<- r1.length,<- r2.length,h2,g2]) (by lia) (bO I r1 r2 h2 h3 g3 hu) ?_;rw[v7];exact⟨.bl true,H,I,U,q⟩
 |t h1 h2 h3=>
  cases hy with
  |t g1 g2 g3=>
   cases rx;cases ry;obtain⟨us,r1,p1,_⟩:=I.tuple h1;obtain⟨ws,r2,p2,_⟩:=I.tuple g1;refine SeqAt.eq_tupleAt (show s.heap.IsTuple _ us.toArray from p1) (show s.heap.IsTuple _ ws.toArray from p2) (by lia) (bO I r1 r2 h2 h3 g3 hu) ?_;rw[v7,dm,show(us.toArray.size==ws.toArray.size)=true by rw[beq_iff_eq,dh,dh,<- r1.length,<- r2.length,h2,g2]];exact⟨.bl true,H,I,U,q⟩
end L2
namespace SG
open PySem PyProof.Rows
class Rk where
 num:ae->Int
 knd:SortKind
variable [Rk]
def K (xs:Array iS)(i:Nat):Int:=match xs[i]? with
 |some q=>Rk.num q.1
 |none=>0
def ki (xs:Array iS)(n:Nat):Prop:=∀a b,a<=b->b<n->K xs a<=K xs b
structure Jb (b₀:Array iS)(st:Aq):Prop where
 perm:(ip st).Perm b₀
 kind:kindOf st=Rk.knd
 failed:AE st=none
 pend:FC st = #[]
theorem Jb.size {st:Aq}(h:Jb b₀ st):(ip st).size=b₀.size:=h.perm.size_eq
def cu (prog:aU)(w:aP)(A:iG)(s:ar)(b₀:Array iS):Prop :=
 ∀p∈b₀.toList,∀q∈b₀.toList,∀(Q:Bool->ar->Prop) (E:ae->ar->Prop),Q (decide (Rk.num p.1<Rk.num q.1)) s->wpAny (aA prog w) A (keyLt' Rk.knd p.1 q.1) Q E s
theorem Jb.mem {st:Aq}(h:Jb b₀ st)(hi:i<b₀.size):∃p,(ip st)[i]?=some p/\p∈b₀.toList:=by
 have SX:i<(ip st).size:=by rw[h.size];exact hi
 exact⟨_,getElem?_pos _ i SX,(Array.perm_iff_toList_perm.mp h.perm).mem_iff.mp (by simp)⟩
theorem ME {st:Aq}{Q:Option Bool->Aq->Prop}(hB:Jb b₀ st)(hk:cu prog w A s b₀)(hi:i<b₀.size)(hj:j<b₀.size)(h:Q (some (decide (K (ip st) i<K (ip st) j))) st):wpS (aA prog w) A E s (ltAt' i j) Q st:=by
 obtain⟨p,e1,m1⟩:=hB.mem hi;obtain⟨q,e2,m2⟩:=hB.mem hj;have k1:K (ip st) i=Rk.num p.1:=by unfold K;rw[e1]
 have k2:K (ip st) j=Rk.num q.1:=by unfold K;rw[e2]
 rw[k1,k2]at h;rw[ltAt'_eq];refine iB (IL ?_);show wpS _ _ _ _ (do let u <- elem' (ip st) i;let v <- elem' (ip st) j;lt' u v) Q st;rw[elem'_eq,elem'_eq,e1,e2];refine iB (p_ (iB (p_ (?_))));rw[lt'_eq];refine iB (IL ?_);rw[hB.kind];refine iB (wpS_lift (sI (hk p m1 q m2 _ _ ⟨U,?_⟩)));exact p_ h
theorem WT {st:Aq}{a N:Nat}{Q:AscSt->Aq->Prop}(hk:cu prog w A s b₀)(hN:N<=b₀.size)(h1:1<=a)(ha:a<=N)(hB:Jb b₀ st)(hs:ki (ip st) a)(h:∀m,a<=m->m<=N->ki (ip st) m->(m=N∨K (ip st) m<K (ip st) (m-1))->Q (none,m) st):wpS (aA prog w) A E s (ascLoop a N) Q st:=by
 unfold ascLoop;refine Hq (I:=λx c M'=>M'=st/\c=(none,x)/\ki (ip st) x) ?turn ?done ⟨U,U,hs⟩
 case done=>
  rintro c M' ⟨rfl,rfl,z⟩;have e:max a N=N:=by lia
  rw[e]at z ⊢;exact h N ha (CI _) z (.inl U)
 case turn=>
  rintro x c M' hx1 hx2 ⟨rfl,rfl,z⟩;dsimp only;refine iB (ME hB hk (by lia) (by lia) ?_)
  by_cases lt:K (ip M') x<K (ip M') (x-1)
  ·simp only[lt,decide_true,if_true];exact p_ (h x hx1 (by lia) z (.inr lt))
  ·simp only[lt,decide_false,Dn,if_false];refine p_ ⟨U,U,λi j hij hj=>?_⟩
   by_cases c1:j<x
   ·exact z i j hij c1
   ·obtain rfl:j=x:=by lia
    by_cases c2:i=j
    ·rw[c2];exact DA _
    ·have:=z i (j-1) (by lia) (by lia);lia
end SG
namespace SG
open PySem PyProof.Rows
variable [Rk]
abbrev ky (p:iS):Int:=Rk.num p.1
def put (x:iS)(l:List iS):List iS:=l.takeWhile (λy=>decide (ky y<=ky x))++x::l.dropWhile (λy=>decide (ky y<=ky x))
abbrev Up (l:List iS):Prop:=l.Pairwise λa b=>ky a<=ky b
theorem cV {xs:Array α}{l:List α}(h:xs.toList=l)(i:Nat):xs[i]?=l[i]?:=by rw[<- h];simp
theorem T8 {xs:Array iS}{p:iS}(h:xs[i]?=some p):K xs i=ky p:=by
 unfold K;rw[h]
theorem bI {xs:Array iS}{l r:List iS}(h:xs.toList=l++r)(hu:Up l):ki xs l.length:=by
 intro i j hij hj;have hi:i<l.length:=by lia
 have e1:xs[i]?=some l[i]:=by rw[cV h,Dh hi];exact CZ hi
 have e2:xs[j]?=some l[j]:=by rw[cV h,Dh hj];exact CZ hj
 rw[T8 e1,T8 e2]
 by_cases q:i=j
 ·subst q;exact DA _
 ·exact DB.mp hu i j hi hj (by lia)
end SG
namespace SG
open PySem PyProof.Rows
variable [Rk]
theorem Bh (b₀:Array iS):b₀.toList.length=b₀.size:=by simp
end SG
namespace SG
open PySem PyProof.Rows
variable [Rk]
end SG
namespace SS
open PySem PyProof.Rows
@[reducible] def rk:SG.Rk:=⟨numOf,oneType'⟩
local instance:SG.Rk:=rk
abbrev ky (p:iS):Int:=numOf p.1
abbrev put (x:iS)(l:List iS):List iS:=@SG.put rk x l
abbrev Up (l:List iS):Prop:=@SG.Up rk l
end SS
namespace L2
open PySem PySem.Spec PyProof.Rows
section
variable {p:af}{c':ag}{name:af}{body:aQ}{ctv:ae}{Q:VK}
end
end L2
namespace SS
open PySem PyProof.Rows
end SS
namespace SG
open PySem PyProof.Rows
variable [Rk]
end SG
namespace SS
open PySem PyProof.Rows
end SS
variable {p3:fW}
namespace L2
open PySem PySem.Spec PyProof.Rows
section
variable {kS:ag}{e e1:Nat}{Su:Array ae}{vs:List ae}{kz:List Int}{P:FE->ar->Prop}
theorem zH.turn1 (I:zH X pins σ H s)(f:yL X pins H a)(hs:fB a s.heap h'):zH X pins σ H {s with heap:=h'} :=
 I.turned (t':=s.toks) (λb o n q=>(hs.2 b n).trans q) f.1 f.2.1 f.2.2.2.1 f.2.2.2.2.1 f.2.2.2.2.2
theorem zH.adopt {us:List ae}(I:zH X pins σ H s)(f:yL X pins H a)(ha:s.heap.get? a=some (fZ "list" us.toArray n))(r:qp xs us)(hz:xs.length<=au):zH X pins σ (upd H a (.lst xs)) s:=by
 have ne:∀b o,H b=some o->b≠a:=λb o q=>zC q f.1;refine⟨I.ok,I.os,I.bare,⟨I.base.keep,I.base.slot,λb o q n hx=>?_,I.base.there,λb ys q=>?_,λb o u q=>?_,λb ps q=>?_⟩,I.loc,I.cell,?_,λx c q=>?_,λp hp=>?_,λb o q=>?_,I.len⟩
 ·have nb:b≠a:=λz=>by
   subst z;rcases f.2.2.2.1 with z |z
   ·exact hx z
   ·rw[z]at q;cases q
  rw[zm nb];exact I.base.free b o q n hx
 ·have z:=I.base.tups b ys q;rw[zm (ne _ _ z)];exact z
 ·have z:=I.base.frzs b o u q;rw[zm (ne _ _ z)];exact z
 ·obtain⟨m,z⟩:=I.base.tbls b ps q;exact⟨m,by rw[zm (ne _ _ z)];exact z⟩
 ·rw[zm (fK f.2.1)];exact I.free
 ·rw[zm (f.2.2.2.2.1 x c q)];exact I.freeC x c q
 ·obtain⟨p1,p2,p3,p4,p5⟩:=I.pin p hp;exact⟨p1,by rw[zm (f.2.2.2.2.2 p hp)];exact p2,p3,p4,p5⟩
 ·by_cases nb:b=a
  ·subst nb;rw[zi]at q;cases q;exact⟨hz,us,n,r,ha⟩
  ·rw[zm nb]at q;refine(I.hok b o q).stay (λc u _ z=>z) (λc z=>?_) λc ys z=>?_
   ·rw[zm (ne _ _ z)];exact z
   ·rw[zm (ne _ _ z)];exact z
end
theorem Qv {F:α->β->Prop}:∀{l₁:List α} {l₂:List β},l₁.length=l₂.length->(∀(i:Nat) a b,l₁[i]?=some a->l₂[i]?=some b->F a b)->B_ F l₁ l₂
 |[],[],_,_=>.nil
 |[],_::_,h,_=>by simp at h
 |_::_,[],h,_=>by simp at h
 |a::l,b::m,h,f=>.cons (f 0 a b U U) (Qv (by simpa using h) λi x y e1 e2=>f (i+1) x y (by simpa using e1) (by simpa using e2))
section
variable {r q:ag}{k:Nat->Int}{Q:VK}
end
open PySem.W
section
variable {p:af}{c P:ag}{body:aQ}{pos:fW}
end
end L2
namespace L2
open PySem PySem.Spec PyProof.Rows
inductive Bq (K:BFr)(x:af)(st:n_):Prop|mk(f fd:_)(_:iI K az x=some (some (.ref f)))(_:qU K x x st f fd)
section
variable {K:BFr}{mg:af->Option ae}{k:Nat}{ps:List af}{h0:fi}
end
open PySem.W
end L2
namespace SS
end SS
namespace L2
open PySem PySem.Spec PyProof.Rows PySem.W
section
variable {ts:List V}{nsOf:Nat->List Int}{rk:Nat->Int}{P:FE->ar->Prop}
open Classical in
end
end L2
namespace L2
open PySem PySem.Spec PyProof.Rows
inductive Ja (x:V)(vs:List V)(H:Hp)(Q:VK):Prop|mk(z i:_)(_:x=.str z)(_:vs=[.int i])(_:PadOk i=true)(_:Q (.str (FF z i)) H)
theorem lA:Bs X "str.zfill" Ja:=by
 intro pins s σ H x xs v us Q I rx rv h;obtain⟨z,i,rfl,rfl,hp,q⟩:=h;obtain⟨t,rfl⟩:=rx;obtain⟨u,rfl,ru⟩:=qp.one rv;obtain⟨tu,rfl⟩:=ru;exact SC.zfill hp λt' k=>⟨.str _,H,I.tok k,⟨t',U⟩,q⟩
inductive wK (x:V)(vs:List V)(H:Hp)(Q:VK):Prop|mk(z y:_)(_:x=.str z)(_:vs=[.str y])(_:Q (.bl (fq z y)) H)
theorem Zo:Bs X "str.startswith" wK:=by
 intro pins s σ H x xs v us Q I rx rv h;obtain⟨z,y,rfl,rfl,q⟩:=h;obtain⟨t,rfl⟩:=rx;obtain⟨u,rfl,ru⟩:=qp.one rv;obtain⟨tu,rfl⟩:=ru;exact SC.startswith ⟨.bl _,H,I,U,q⟩
open PySem.W
section
variable {p:af}{c P:ag}{body a:aQ}{pos lpos:fW}
end
end L2
variable {cs:List (List L2.V)}
namespace L2
open PySem PySem.Spec PyProof.Rows
theorem v5:fz "all" = some (.builtin "all"):=by kernel_rfl
theorem qF {l:List (af×Hm)}(h:l.all (λy=>match y.2 with|.cell |.free=>(cl.lookup y.1).isSome |_=>true)=true)(x:af)(z:l.lookup x=some .cell∨l.lookup x=some .free):∃c,cl.lookup x=some c:=by
 rcases z with z |z
 ·have:=dj.mp h _ (fD z);exact DH.mp this
 ·have:=dj.mp h _ (fD z);exact DH.mp this
theorem um {cs:List (af×ag)}(h:∀q∈cl,cs.lookup q.1=some q.2)(x:af)(c:ag)(z:cl.lookup x=some c):cs.lookup x=some c:=h _ (fD z)
theorem qb {C:Nat->Nat->Prop}(i j:Nat)(z:([]:List (Option Nat))[i]?=some (some j)):C i j:=by simp at z
theorem zR {l:List (Option Nat)}{C:Nat->Nat->Prop}(h:∀i j,l[i]?=some (some j)->C (i+1) j)(i j:Nat)(z:(none::l)[i]?=some (some j)):C i j:=by
 cases i with
 |zero=>simp at z
 |succ i=>exact h i j (by simpa using z)
theorem yb {l:List (Option Nat)}{k:Nat}{C:Nat->Nat->Prop}(h0:C 0 k)(h:∀i j,l[i]?=some (some j)->C (i+1) j)(i j:Nat)(z:(some k::l)[i]?=some (some j)):C i j:=by
 cases i with
 |zero=>
  have:some k=some j:=by simpa using z
  cases this;exact h0
 |succ i=>exact h i j (by simpa using z)
section
variable {a b c:aQ}{pos:fW}
end
theorem Zb {pos:fW}(hN:X.N.Nodup)(hx:X.N[i]?=some x)(hl:X.env.scope.names.lookup x=some .local)(c:Zw X Nc scope cl src)(L':X.calm=true)(hi:PI X So iter wi)(hb:∀fp C s' H',PG (Za X Nc scope cl C fp s' H') So g/\jQ (Za X Nc scope cl C fp s' H') Sv tt/\PE (Za X Nc scope cl C fp s' H') Sx te)(hsw:Az (.ListComp Sx [⟨So,iter,Sv,0⟩] scope K') (some (.Name x R_)) pos.line X.env=pure true:=by rfl)(hs:∀x,iO iter X.env x=pure x:=by intro _;rfl):PS X (.Assign [.Name x R_] (.ListComp Sx [⟨So,iter,Sv,0⟩] scope K') pos) (tW (UC src wi g tt te) (qc i)):=by
 intro pins s σ H D I h;rw[A7 _ _ _ _ hsw];refine aa (iL (aa ?_));show wpAny _ X.A (do let _ <- comprehension (.ListComp Sx [⟨So,iter,Sv,0⟩] scope K') scope X.env _ (newList []) false (eval iter X.env) (some (C_ (.Name x R_) X.env))) _ _ s;refine aa (fh (iy (use:=some (C_ (.Name x R_) X.env)) (Q:=λ_ s'=>∃σ' H',zH X pins σ' H' s'/\D.nx σ' H') U hs c.clos c.kind c.names (yj (hi pins s σ H _ I h) λv s1 h1=>yj h1 λitv s2 h2=>?_)) (λ_ s' hq=>aj (aj hq)) λ_ _ z=>z);obtain⟨it,fp,tn,J,H2,e,I2,T,Sl,f2,hT⟩:=h2;subst e;refine fF ?_ (by size_fits);have SE:∀b o,s2.heap.get? b=some o->(s2.heap.push {cls:=.type "list",data:=.seq ([]:List ae).toArray}).get? b=some o:=λb o e=>dc _ e;have I3:=I2.laid (a:=s2.heap.objs.size) (o:=.lst []) (t':=s2.toks) (h':=s2.heap.push {cls:=.type "list",data:=.seq ([]:List ae).toArray}) SE (CI _) ⟨du _,[],0,.nil,dA _ U⟩
 have ne:∀b∈fp,b≠s2.heap.objs.size:=λb hb=>by
  obtain⟨o,e,_⟩:=T.obj 0 _ Sl b hb;exact de (C5 e)
 have f3:∀b∈fp,yL X pins (upd H2 s2.heap.objs.size (.lst [])) b:=λb hb=>⟨by rw[zm (ne b hb)];exact(f2 b hb).1,(f2 b hb).2⟩;refine uv (it:=it) (R:=λC=>Ho (aA X.prog X.w) X.A X.xe (some (C_ (.Name x R_) X.env)) (λ_ s'=>∃σ' H',zH X pins σ' H' s'/\D.nx σ' H') _ C) c L' I3 T (T.keep _ _ _ Sl λb _ o e=>SE b o e) f3 (hb fp _ _ _) (hT _ (I2.hok.fresh (CI _))) (λ_ _ z=>z.elim) λC ys σ' H' s' hC J' hD q=>?_;obtain⟨m,hn,_⟩:=id J'.loc;have B:zH X pins σ H' s':=uh I3 f3 J' ⟨U,λ_ _=>rfl⟩;have Cge:∀b o,(s2.heap.push {cls:=.type "list",data:=.seq ([]:List ae).toArray}).get? b=some o->b≠C:=λb o e=>de (dM (C5 e) J'.ok.above)
 have CL:C≠X.env.locals:=λz=>by
  obtain⟨m3,⟨o,_,_,ho,_⟩,_⟩:=I3.loc;exact Cge _ o ho z.symm
 refine Ah (QS B hN hx (.inl hl) (v:=.ref s2.heap.objs.size) U (λs5 I5 hsb=>?_) (.inr hl));obtain⟨a,sb,ha⟩:=hsb
 have aL:a≠C:=by
  rcases ha with rfl |ha
  ·exact CL.symm
  ·obtain⟨v,o,ho,_⟩:=I3.cell x a ha;exact Cge _ o ho
 refine⟨m,hn.sameBut sb aL.symm,λh' hs'=>⟨_,H',I5.turned (t':=s5.toks) (λb o n e=>(hs'.2 b n).trans e) J'.free CL ?_ (λy b e z=>?_) (λp hp z=>?_),q⟩⟩
 ·exact .inr (DW (CW I3.sz J'.ok.above))
 ·obtain⟨v,o,ho,_⟩:=I3.cell y b e;exact Cge _ o ho z
 ·exact Cge _ _ (I3.pin p hp).1 z
end L2
namespace L2
open PySem
end L2
namespace Pg
open PySem L2
structure vh (mg:af->Option ae):Prop where
 isinstance:mg "isinstance" = none
 int:mg "int" = none
 bool:mg "bool" = none
 str:mg "str" = none
 len:mg "len" = none
 range:mg "range" = none
 ve:mg "ValueError" = none
 list:mg "list" = none
 tuple:mg "tuple" = none
 dict:mg "dict" = none
 set:mg "set" = none
 all:mg "all" = none
 any:mg "any" = none
 sum:mg "sum" = none
 sorted:mg "sorted" = none
 abs:mg "abs" = none
 max:mg "max" = none
 min:mg "min" = none
 zip:mg "zip" = none
 enumerate:mg "enumerate" = none
 reversed:mg "reversed" = none
structure Er (K:BFr)(mg:af->Option ae)(x:af)(c:ag):Prop where
 at':mg x=some (.ref c)
 ex:hU K c ZQ "ValueError.__new__" = true
inductive WQ (mg:af->Option ae)(x:af)(n:Int):Prop|mk(t:_)(_:mg x=some (.int n t))
inductive r8 (mg:af->Option ae)(x z:af):Prop|mk(t:_)(_:mg x=some (.str z t))
structure cW (mg:af->Option ae)(d:Nat->ag):Prop where
 g0:mg "BadAmount" = some (.ref (d 0))
 g1:mg "BadShare" = some (.ref (d 1))
 g2:mg "BadText" = some (.ref (d 2))
 g3:mg "BadMonth" = some (.ref (d 3))
 g4:mg "BadYear" = some (.ref (d 4))
 g5:mg "BadRule" = some (.ref (d 5))
 g6:mg "BadBook" = some (.ref (d 6))
 g7:mg "NoYear" = some (.ref (d 7))
 g8:mg "BadDay" = some (.ref (d 8))
 g9:mg "BadEntry" = some (.ref (d 9))
 g10:mg "NoMark" = some (.ref (d 10))
 g11:mg "NoPerson" = some (.ref (d 11))
 g12:mg "TooMany" = some (.ref (d 12))
 g13:mg "BadClose" = some (.ref (d 13))
 g14:mg "BadLine" = some (.ref (d 14))
structure Bo (K:BFr)(d:Nat->ag)(C:ag)(i:Nat):Prop where
 cls:XK.wI K C
 ve:aE K (.ref C) (.type "ValueError")=some true
 k0:aE K (.ref C) (.ref (d 0))=some (decide (i=0))
 k1:aE K (.ref C) (.ref (d 1))=some (decide (i=1))
 k2:aE K (.ref C) (.ref (d 2))=some (decide (i=2))
 k3:aE K (.ref C) (.ref (d 3))=some (decide (i=3))
 k4:aE K (.ref C) (.ref (d 4))=some (decide (i=4))
 k5:aE K (.ref C) (.ref (d 5))=some (decide (i=5))
 k6:aE K (.ref C) (.ref (d 6))=some (decide (i=6))
 k7:aE K (.ref C) (.ref (d 7))=some (decide (i=7))
 k8:aE K (.ref C) (.ref (d 8))=some (decide (i=8))
 k9:aE K (.ref C) (.ref (d 9))=some (decide (i=9))
 k10:aE K (.ref C) (.ref (d 10))=some (decide (i=10))
 k11:aE K (.ref C) (.ref (d 11))=some (decide (i=11))
 k12:aE K (.ref C) (.ref (d 12))=some (decide (i=12))
 k13:aE K (.ref C) (.ref (d 13))=some (decide (i=13))
 k14:aE K (.ref C) (.ref (d 14))=some (decide (i=14))
structure Rz (K:BFr)(d:Nat->ag)(cR:ag)(i:Nat):Prop where
 ex:aX K (.ref (d i)) (.ref cR)=some true
 kd:Bo K d (d i) i
inductive wj (K:BFr)(vs:List V)(H:Hp)(Q:VK)(_:XK):Prop|mk(v:_)(_:vs=[v])(_:((∃z,v=.int z/\Q (.bl true) H)∨(YV K H v/\Q (.bl false) H)))
inductive jI (K:BFr)(vs:List V)(H:Hp)(Q:VK)(_:XK):Prop|mk(v a b:_)(_:vs=[v,.int a,.int b])(_:((∃z,v=.int z/\Q (.bl (decide (a<=z/\z<=b))) H)∨(YV K H v/\Q (.bl false) H)))
def lZ (K:BFr)(H:Hp)(m:Int)(v:V):Prop:=YV K H v∨∃z,v=.int z/\¬(0<=z/\z<=m)
inductive YD (K:BFr)(c:ag)(m:Int)(vs:List V)(H:Hp)(Q:VK)(E:XK):Prop|mk(v:_)(_:vs=[v])(_:((∃z,v=.int z/\0<=z/\z<=m/\Q .non H)∨(lZ K H m v/\E (.ref c) none H)))
inductive Ul (K:BFr)(vs:List V)(H:Hp)(Q:VK)(_:XK):Prop|mk(a k ns:_)(_:vs=[.ref a,.int k])(_:zN K H a (ns.map V.int))(_:0<=k)(_:Q (.int (Yb ns k)) H)
inductive V3 (K:BFr)(vs:List V)(H:Hp)(Q:VK)(_:XK):Prop|mk(a:ag)(ns:List Int)(_:vs=[.ref a])(_:zN K H a (ns.map V.int))(_:∀H',Q (.bl true) H')
theorem gG (zs:List Int):Jv (zs.map V.int) (zs.map V.int)=true:=by
 unfold Jv;rw[CM];refine⟨by simp,dj.mpr λj hj=>?_⟩;have hj':j<zs.length:=by simpa using hj
 rw[d6,CO,CZ hj'];show XU (.int _) (.int _)=true
 simp[XU]
theorem JO {cs:List (af×ag)}{k:af}(h:cs.lookup k=some a):∀q∈[(k,a)],cs.lookup q.1=some q.2:=λq hq=>by rw[CY.mp hq];exact h
theorem Ov {cs:List (af×ag)}{k:af}(h:cs.lookup k=some a)(t:∀q∈cl,cs.lookup q.1=some q.2):∀q∈(k,a)::cl,cs.lookup q.1=some q.2:=λq hq=>by
 rcases CJ.mp hq with rfl |hq
 ·exact h
 ·exact t q hq
end Pg
namespace L2
open PySem PySem.Spec PyProof.Rows
def yu (P:aU)(w:aP)(K:BFr)(mg:af->Option ae)(base:fi)(CX:ZK)(k:Nat)(C:ag)(m:af)(ps:List af)(sp:Sp):Prop :=
 Yz K C/\∃f fd,xX K C m f/\vK K fd ps []/\zL P w K mg base CX k f fd ps sp
def vA (P:aU)(w:aP)(K:BFr)(mg:af->Option ae)(base:fi)(CX:ZK)(k:Nat)(x:af)(C:ag)(ps:List af)(sp:Sp):Prop :=
 mg x=some (.ref C)/\∃f fd,Mk K C f/\vK K fd ps []/\zL P w K mg base CX k f fd ps sp
section
variable {k:Nat}{ps:List af}{m:af}{p pos:fW}{o:aQ}{es:List aQ}{ta:TE}{t:TA}{E:XK}
abbrev bZ (C:ag)(m:af)(sp:Sp)(E:XK)(ta:TE)(t:TA):TE:=LR C m sp [] E ta t
theorem YK {pl:Kv Bool}(M:yu X.prog X.w X.K X.mg X.base CX k C m ps sp)(hr:jd j X.A)(hj:k<=j)(hx:yW CX X E)(he:PE X o ta)(ha:PA X (e::es) t)(SN:ax (e::es) X.env=(false,eval e X.env)::ax es X.env:=by exact zW U)(Sa:(ff pos (ax es X.env)).any (·.1)=false:=by exact yF U)(ht:eval (.Call (.Attribute o m M_) (e::es) [] pos) X.env=(do
   let ov <- eval o X.env
   Fv M_.atName
   let (f,first) <- Fx [ov] (sm ov m pl)
   t_ pos f first (ff pos (ax (e::es) X.env)) (i4 pos (hG [] X.env))):=by rfl) :
  PE X (.Call (.Attribute o m M_) (e::es) [] pos) (bZ C m sp E ta t):=by
 obtain⟨c,f,fd,hm,hb,F⟩:=M;intro pins s σ H Q I h;refine nZ (dvs:=[]) he c hm F (hr.mono hj) hb .nil hx ha SN Sa ht pins s σ H Q I h
theorem jZ {pl:Kv Bool}(M:yu X.prog X.w X.K X.mg X.base CX k C m ps sp)(hr:jd j X.A)(hj:k<=j)(hx:yW CX X E)(he:PE X o ta)(ht:eval (.Call (.Attribute o m M_) [] [] pos) X.env=(do
   let ov <- eval o X.env
   Fv M_.atName
   let (f,first) <- Fx [ov] (sm ov m pl)
   t_ pos f first (ff pos (ax [] X.env)) (i4 pos (hG [] X.env))):=by rfl) :
  PE X (.Call (.Attribute o m M_) [] [] pos) (bZ C m sp E ta y6):=by
 obtain⟨c,f,fd,hm,hb,F⟩:=M;intro pins s σ H Q I h;refine mB (dvs:=[]) he c hm F (hr.mono hj) hb .nil hx ht pins s σ H Q I h
def cU (C:ag)(sp:Sp)(E:XK)(t:TA):TE:=λσ H Q=>t σ H λvs H1=>∀x dx,H1 x=none->H1 dx=none->dx≠x ->
 sp (.ref x::vs) (upd (upd H1 dx (.own x)) x (.ins C dx [])) (λv H2=>v=.non/\Q (.ref x) H2) E
theorem Wt (M:vA X.prog X.w X.K X.mg X.base CX k x C ps sp)(hr:jd (j+1) X.A)(hj:k<=j)(hx:yW CX X E)(hg:Gl X x:=by rfl)(Sd:(x==("__debug__":af))=false:=by decide):PE X (.Call (.Name x p) [] [] pos) (cU C sp E y6):=by
 obtain⟨hm,f,fd,M,hb,F⟩:=M;intro pins s σ H Q I h;refine LM (dvs:=[]) M (F.mono hj) hr hg hm hb .nil hx Sd pins s σ H Q I ?_;unfold Ge;simp only[dF];exact h
end
inductive BB (K:BFr)(C:ag)(m qual:af)(st:n_):Prop|mk(f fd:_)(_:xX K C m f)(_:qU K m qual st f fd)
inductive Bf (K:BFr)(C:ag)(qual:af)(st:n_):Prop|mk(f fd:_)(_:Mk K C f)(_:qU K "__init__" qual st f fd)
section
variable {K:BFr}{mg:af->Option ae}{m:af}{k:Nat}{ps:List af}
end
end L2
namespace L2
open PySem PySem.W PySem.Calls PyProof.Rows
theorem m6 (as:List ag)(h:fi):(j3 as h).In h:=by
 intro a o e
 induction as with
 |nil=>cases e
 |cons b r ih=>
  unfold j3 at e;rw[eL]at e
  cases q:h.get? b with
  |none=>rw[q]at e;exact ih e
  |some o' =>
   rw[q]at e
   by_cases c:a=b
   ·subst c;have e:iH a ((a,o')::j3 r h)=some o:=e;rw[List.lookup_cons_self]at e;cases e;exact q
   ·have e:iH a ((b,o')::j3 r h)=some o:=e;rw[List.lookup_cons,show(a==b)=false from beq_eq_false_iff_ne.mpr c]at e;exact ih e
section
variable {K:iW}{v:Option (Option ae)}{m:af}
theorem UJ (h:jE K v=jG x qual st):∃f fd,v=some (some (.ref f))/\qU K x qual st f fd/\isFn K (.ref f)=true/\fe K (.ref f)=true:=by
 unfold jE jG at h
 split at h
 ·rename_i f
  split at h
  ·rename_i oc od fd S0 e;obtain⟨nm,qn,pr,bd,sc,gl,cl,df,kV,Sf,pm,an,K9,ct,bl⟩:=fd;simp only[An,XZ.mk.injEq,CM]at h;obtain⟨rfl,rfl,rfl,rfl,rfl,rfl,rfl,rfl,rfl,⟨h1,h2⟩,h3⟩:=h;exact⟨f,_,U,tF e h1 h2,h3,h2⟩
  ·cases h
 ·cases h
theorem QH (h:jE K (iI K az x)=jG x x st):Bq K x st:=by
 obtain⟨f,fd,h1,h2,_,_⟩:=UJ h;exact⟨f,fd,h1,h2⟩
theorem VR (h:jE K (aM K (.ref C) m)=jG m qual st):BB K C m qual st:=by
 obtain⟨f,fd,h1,h2,h3,h4⟩:=UJ h;exact⟨f,fd,⟨h1,h3,h4⟩,h2⟩
theorem G5 (h:jE K (aM K (.ref C) "__init__")=jG "__init__" qual st)(g:(iU K C&&fe K (.ref C))=true):Bf K C qual st:=by
 obtain⟨f,fd,h1,h2,h3,_⟩:=UJ h;obtain⟨g1,g2⟩:=Dr.mp g;exact⟨f,fd,⟨g1,h1,h3,g2⟩,h2⟩
theorem ym (h:Yy v=true):v=some none:=by
 unfold Yy at h
 split at h
 ·rfl
 ·cases h
theorem Tn {z:Int}(h:isInt z v=true):∃t,v=some (some (.int z t)):=by
 unfold isInt at h
 split at h
 ·rw[G' h];exact⟨_,U⟩
 ·cases h
theorem Pm (h:Jo z v=true):∃t,v=some (some (.str z t)):=by
 unfold Jo at h
 split at h
 ·rw[G' h];exact⟨_,U⟩
 ·cases h
theorem RU (h:uX a v=true):v=some (some (.ref a)):=by
 unfold uX at h
 split at h
 ·rw[Nat.eq_of_beq_eq_true h]
 ·cases h
theorem vd {z:String}(h:uI z v=true):v=some (some (.builtin z)):=by
 unfold uI at h
 split at h
 ·rw[G' h]
 ·cases h
theorem vk {v:Option Bool}(h:Qq b v=true):v=some b:=by
 unfold Qq at h
 split at h
 ·rw[eq_of_beq h]
 ·cases h
theorem O3 (h:UV K D=true):XK.wI K D:=by
 unfold UV at h;simp only[CM]at h;obtain⟨⟨⟨⟨⟨⟨⟨h1,h2⟩,h3⟩,h4⟩,h5⟩,h6⟩,h7⟩,h8⟩:=h;exact⟨h1,vd h2,ym h3,vd h4,vd h5,vk h6,vk h7,vk h8⟩
theorem vz (h:vn K C=true):Yz K C:=by
 unfold vn at h;simp only[CM]at h;obtain⟨⟨⟨h1,h2⟩,h3⟩,h4⟩:=h;exact⟨h1,h2,h3,vd h4⟩
end
theorem zw {bs:List Bool}(h:bs.all id=true)(i:Nat)(e:bs[i]?=some b):b=true:=dj.mp h b (dG e)
theorem kO {l:List α}{f g:α->β}(h:l.map f=l.map g){x:α}(i:Nat)(e:l[i]?=some x):f x=g x:=by
 have:(l.map f)[i]? = (l.map g)[i]?:=by rw[h]
 rw[CO,CO,e]at this;exact ao this
def Z9 (Sb:iW->α)(good:α)(_:aP)(h:fi):Prop:=∃K:iW,K.In h/\Sb K=good
theorem lG {Sb:iW->α}{good:α}{as:List ag}(w:aP)(s:ar)(e:Sb (j3 as s.heap)=good):Z9 Sb good w s.heap:=⟨_,m6 as s.heap,e⟩
theorem xJ {Sb:iW->α}{good:α}(w:aP)(h h':fi)(y:Z9 Sb good w h)(k:∀b o,h.get? b=some o->h'.get? b=some o):Z9 Sb good w h':=by
 obtain⟨K,X,e⟩:=y;exact⟨K,X.keeps k,e⟩
theorem nF {q:aU}{Sb:iW->α}{good:α}{r:RowW}{d:KY}{kwd:List (af×aQ)}{run:ae->List ae->Kv ae}
  (h:∀K:iW,Sb K=good->WalkO q Se XP (λ_ h=>K.In h) r d kwd run):WalkO q Se XP (Z9 Sb good) r d kwd run:=by
 intro w s₀ s₁ mg mb G Y;obtain⟨K,X,e⟩:=Y;exact h K e w s₀ s₁ mg mb G X
theorem MU {q:aU}{n:af}(h:(KG q n).isSome=true)(k:((KG q n).map (·.2.isEmpty))=some true):KG q n=some (((KG q n).get h).1,[]):=by
 obtain⟨⟨d,kwd⟩,e⟩:=DH.mp h;have e2:(KG q n).get h=(d,kwd):=Option.get_of_eq_some h e;rw[e2,e];rw[e]at k;have:kwd.isEmpty=true:=ao k;rw[List.isEmpty_iff.mp this]
end L2
namespace L2
open PySem PySem.Spec PyProof.Rows
structure rV (K:BFr)(C:ag)(m:af)(f:ag):Prop where
 ga:hW K (.ref C) "__getattribute__" = some (some (.builtin "type.__getattribute__"))
 rd:ID K C (.type "type")=true
 at_:IE K (.ref C) (.type "type") m=some (.val (.ref f))
 kp:fe K (.ref f)=true
inductive wR (P:aU)(w:aP)(K:BFr)(mg:af->Option ae)(base:fi)(CX:ZK)(k:Nat)(x m:af)(ps:List af)(sp:Sp):Prop|mk(C f fd:_)(_:mg x=some (.ref C))(_:rV K C m f)(_:vK K fd ps [])(_:zL P w K mg base CX k f fd ps sp)
section
variable {k:Nat}{ps:List af}{m:af}{p pos:fW}{o:aQ}{es:List aQ}{ta:TE}{t:TA}{E:XK}
def CC (sp:Sp)(E:XK)(t:TA):TE:=λσ H Q=>t σ H λvs H2=>sp vs H2 Q E
theorem jD {pl:Kv Bool}(M:wR X.prog X.w X.K X.mg X.base CX k x m ps sp)(hr:jd j X.A)(hj:k<=j)(hx:yW CX X E)(ha:PA X (e::es) t)(hg:Gl X x:=by rfl)(Sd:(x==("__debug__":af))=false:=by decide)(SN:ax (e::es) X.env=(false,eval e X.env)::ax es X.env:=by exact zW U)(Sa:(ff pos (ax es X.env)).any (·.1)=false:=by exact yF U)(ht:eval (.Call (.Attribute (.Name x p) m M_) (e::es) [] pos) X.env=(do
   let ov <- eval (.Name x p) X.env
   Fv M_.atName
   let (f,first) <- Fx [ov] (sm ov m pl)
   t_ pos f first (ff pos (ax (e::es) X.env)) (i4 pos (hG [] X.env))):=by rfl) :
  PE X (.Call (.Attribute (.Name x p) m M_) (e::es) [] pos) (CC sp E t):=by
 obtain⟨C,f,fd,hm,c,hb,F⟩:=M;intro pins s σ H Q I h;refine iN (pl:=pl) (yj (zQ (v:=.ref C) hg hm U Sd pins s σ H (λv H1=>v=.ref C/\H1=H) I ⟨U,U⟩) λu s1 hM=>?_) ht;obtain⟨y,H1,I1,rx,e1,e2⟩:=hM;subst e1 e2;obtain rfl:u=aF C:=rx;refine PySem.W.method_cls I1.kIn c.ga (PySem.W.cls_value I1.kIn c.rd c.at_ U ?_);have I2:=I1.tok (s1.toks+1);refine iK (first:=[]) (h₀:=X.base) I.ok.mod.kin c.kp (yj (ha pos pins _ σ H1 _ I2 h) λus s2 hM=>?_) SN Sa;obtain⟨vs,H2,I3,r,q2⟩:=hM;refine⟨I3.kIn,?_⟩;exact U5 (dvs:=[]) (us:=us) (vs:=vs) F (hr.mono hj) hb .nil hx I3 r (by rw[dF];exact q2)
theorem yB (M:vA X.prog X.w X.K X.mg X.base CX k x C ps sp)(hr:jd (j+1) X.A)(hj:k<=j)(hx:yW CX X E)(ha:PA X (e::es) t)(hg:Gl X x:=by rfl)(Sd:(x==("__debug__":af))=false:=by decide)(SN:ax (e::es) X.env=(false,eval e X.env)::ax es X.env:=by exact zW U)(Sa:(ff pos (ax es X.env)).any (·.1)=false:=by exact yF U):
  PE X (.Call (.Name x p) (e::es) [] pos) (cU C sp E t):=by
 obtain⟨hm,f,fd,M,hb,F⟩:=M;intro pins s σ H Q I h;refine MI (dvs:=[]) M (F.mono hj) hr hg hm hb .nil hx ha Sd SN Sa pins s σ H Q I ?_;unfold Ge;simp only[dF];exact h
theorem Z0 {p:α->Prop}{T:α->TE}(h:∀i,p i->PE X e (T i)):PE X e (λσ H Q=>∃i,p i/\T i σ H Q):=λpins s σ H Q I hM=>by obtain⟨i,hp,g⟩:=hM;exact h i hp pins s σ H Q I g
theorem G7:uH X (.type "str") (λxs H Q=>jk xs H Q∨∃z,xs=[.str z]/\Q (.str z) H):=by
 intro pins s σ H xs us Q I r h;rcases h with h |⟨z,rfl,q⟩
 ·exact qh pins s σ H xs us Q I r h
 ·obtain⟨u,rfl,t,rfl⟩:=kA r;exact PySem.P.str_of_str ⟨.str _,H,I,⟨_,U⟩,q⟩
end
section
variable {K:BFr}{mg:af->Option ae}{m:af}{k:Nat}{ps:List af}
theorem Tt (h:kX K C m=true)(M:xX K C m f):rV K C m f:=by
 unfold kX at h;obtain⟨h,h3⟩:=Dr.mp h;obtain⟨h1,h2⟩:=Dr.mp h;refine⟨?_,h2,?_,M.kp⟩
 ·split at h1
  ·rename_i b e;rw[e,beq_iff_eq.mp h1]
  ·cases h1
 ·rw[M.at_]at h3
  split at h3
  ·rename_i f' g e1 e2;cases e1;rw[e2,Nat.eq_of_beq_eq_true h3]
  ·cases h3
end
end L2
namespace L2
open PySem PySem.W PySem.Calls PyProof.Rows
structure ZE (P:aU)(w:aP)(K:iW)(mg:af->Option ae)(base:fi):Prop where
 ex:∃h,K.In h/\h.Ns az mg
section
variable {K:iW}{mg:af->Option ae}{k:Nat}{ps:List af}{tp:Nat->n_}{m q:af}
theorem ZE.at (A:ZE P w K mg base){v:ae}(e:iI K az x=some (some v)):mg x=some v:=by
 obtain⟨h,X,G⟩:=A.ex;exact mg_of X G e
theorem ZE.no (A:ZE P w K mg base)(e:iI K az x=some none):mg x=none:=by
 obtain⟨h,X,G⟩:=A.ex;exact mg_none_of X G e
theorem PQ {p:List ae->Prop}:∀{n:Nat},(∀v:Fin n->ae,p (Ij v))->∀us:List ae,us.length=n->p us:=by
 intro n h us e;subst e
 have e:Ij (λi=>us.get i)=us:=by
  apply EH<;>simp
 rw[<- e];exact h _
def RC (x q:af)(st:n_)(ps:List af):Prop:=∀(kV Sf pm:ae) (an:Option ag) (K9 ct:ae) (v:Fin ps.length->ae),Hl (fnOf x q (uJ st) (jC st) (zU st) .none kV Sf pm an K9 ct) ⟨Ij v,[]⟩=pure (ps.zip (Ij v))
theorem RC.all (b:RC x q st ps)(kV Sf pm:ae)(an:Option ag)(K9 ct:ae)(us:List ae):us.length=ps.length->Hl (fnOf x q (uJ st) (jC st) (zU st) .none kV Sf pm an K9 ct) ⟨us,[]⟩=pure (ps.zip us) :=
 PQ (p:=λus=>Hl (fnOf x q (uJ st) (jC st) (zU st) .none kV Sf pm an K9 ct) ⟨us,[]⟩=pure (ps.zip us)) (b kV Sf pm an K9 ct) us
section
variable {fs:List (af×Nat)}(hF:fs.map (λx=>jE K (iI K az x.1))=fs.map (λx=>jG x.1 x.1 (tp x.2)))
include hF
theorem zP (A:ZE P w K mg base)(i:Nat)(e:fs[i]?=some (x,n))(ok:∀{f fd},qU K x x (tp n) f fd->zL P w K mg base CX k f fd ps sp)(b:RC x x (tp n) ps:=by exactλ_ _ _ _ _ _ _=>rfl):qX P w K mg base CX k x ps sp:=by
 obtain⟨f,fd,a,F⟩:=QH (kO hF i e);exact⟨f,fd,A.at a,F.kp,F.binds b.all,ok F⟩
theorem Rc (A:ZE P w K mg base)(i:Nat)(e:fs[i]?=some (x,n))(ok:∀{f fd},qU K x x (tp n) f fd->WI P w K mg base k f fd ps sp)(b:RC x x (tp n) ps:=by exactλ_ _ _ _ _ _ _=>rfl):nh P w K mg base k x ps sp:=by
 obtain⟨f,fd,a,F⟩:=QH (kO hF i e);exact⟨f,fd,A.at a,F.kp,F.binds b.all,ok F⟩
end
section
variable {ms:List (ag×af×af×Nat×Nat)}(hM:ms.map (λx=>jE K (aM K (.ref x.1) x.2.1))=ms.map (λx=>jG x.2.1 x.2.2.1 (zX (tp x.2.2.2.1) x.2.2.2.2)))
include hM
theorem yv (_:ZE P w K mg base)(i:Nat)(e:ms[i]?=some (C,m,q,n,j))(cl:Yz K C)(ok:∀{f fd},qU K m q (zX (tp n) j) f fd->zL P w K mg base CX k f fd ps sp)(b:RC m q (zX (tp n) j) ps:=by exactλ_ _ _ _ _ _ _=>rfl):yu P w K mg base CX k C m ps sp:=by
 obtain⟨f,fd,M,F⟩:=VR (kO hM i e);exact⟨cl,f,fd,M,F.binds b.all,ok F⟩
theorem v8 (_:ZE P w K mg base)(i:Nat)(e:ms[i]?=some (C,("__init__":af),q,n,j))(g:(iU K C&&fe K (.ref C))=true)(hm:mg x=some (.ref C))(ok:∀{f fd},qU K "__init__" q (zX (tp n) j) f fd->zL P w K mg base CX k f fd ps sp)(b:RC "__init__" q (zX (tp n) j) ps:=by exactλ_ _ _ _ _ _ _=>rfl):vA P w K mg base CX k x C ps sp:=by
 obtain⟨f,fd,M,F⟩:=G5 (kO hM i e) g;exact⟨hm,f,fd,M,F.binds b.all,ok F⟩
theorem N7 (_:ZE P w K mg base)(i:Nat)(e:ms[i]?=some (C,m,q,n,j))(s:kX K C m=true)(hm:mg x=some (.ref C))(ok:∀{f fd},qU K m q (zX (tp n) j) f fd->zL P w K mg base CX k f fd ps sp)(b:RC m q (zX (tp n) j) ps:=by exactλ_ _ _ _ _ _ _=>rfl):wR P w K mg base CX k x m ps sp:=by
 obtain⟨f,fd,M,F⟩:=VR (kO hM i e);exact⟨C,f,fd,hm,Tt s M,F.binds b.all,ok F⟩
end
theorem vt (A:ZE P w K mg base){z:Int}(h:isInt z (iI K az x)=true):Pg.WQ mg x z:=by
 obtain⟨t,e⟩:=Tn h;exact⟨t,A.at e⟩
theorem Jk (A:ZE P w K mg base)(h:Jo z (iI K az x)=true):Pg.r8 mg x z:=by
 obtain⟨t,e⟩:=Pm h;exact⟨t,A.at e⟩
theorem vo (A:ZE P w K mg base)(h:uX C (iI K az x)=true):mg x=some (.ref C):=A.at (RU h)
theorem Ld (A:ZE P w K mg base)(h:UF K=true):Pg.vh mg:=by
 unfold UF at h;simp only[Dx,List.all_nil,CM]at h;obtain⟨h1,h2,h3,h4,h5,h6,h7,h8,h9,h10,h11,h12,h13,h14,h15,h16,h17,h18,h19,h20,h21,_⟩:=h;exact⟨A.no (ym h1),A.no (ym h2),A.no (ym h3),A.no (ym h4),A.no (ym h5),A.no (ym h6),A.no (ym h7),A.no (ym h8),A.no (ym h9),A.no (ym h10),A.no (ym h11),A.no (ym h12),A.no (ym h13),A.no (ym h14),A.no (ym h15),A.no (ym h16),A.no (ym h17),A.no (ym h18),A.no (ym h19),A.no (ym h20),A.no (ym h21)⟩
theorem pJ (A:ZE P w K mg base)(h:GI K d=true):Pg.cW mg d:=by
 have g:∀(i:Nat) (x:af),errNames[i]?=some x->mg x=some (.ref (d i)):=λi x e=>
  vo A (dj.mp h (x,i) (List.mem_zipIdx_iff_getElem?.mpr e))
 exact⟨g 0 _ U,g 1 _ U,g 2 _ U,g 3 _ U,g 4 _ U,g 5 _ U,g 6 _ U,g 7 _ U,g 8 _ U,g 9 _ U,g 10 _ U,g 11 _ U,g 12 _ U,g 13 _ U,g 14 _ U⟩
theorem kE (h:wH K d cR i=true):Pg.Rz K d cR i/\excIn K (d i) ZQ "ValueError.__new__" = true:=by
 unfold wH at h;simp only[CM]at h;obtain⟨⟨⟨⟨h1,h2⟩,h3⟩,h4⟩,h5⟩:=h;have g:∀j,j<15->aE K (.ref (d i)) (.ref (d j))=some (decide (i=j)):=λj hj=>vk (dj.mp h5 j (eX.mpr hj));exact⟨⟨vk h2,O3 h3,vk h4,g 0 ∅,g 1 ∅,g 2 ∅,g 3 ∅,g 4 ∅,g 5 ∅,g 6 ∅,g 7 ∅,g 8 ∅,g 9 ∅,g 10 ∅,g 11 ∅,g 12 ∅,g 13 ∅,g 14 ∅⟩,h1⟩
end
end L2
namespace L2
open PySem PySem.W
theorem uU {K:iW}{l:List af}(h:wm K C l=true):∀x∈l,yD K C x:=λx hx=>ym (dj.mp h x hx)
open PyProof.Rows
inductive BD (K:iW)(x:af)(zs:List af):Prop|mk(a:_)(_:iI K az x=some (some (.ref a)))(_:∀H,yE K H a (zs.map V.str))
theorem Jc:∀{K8:List ae} {zs:List af},YQ K8 zs=true->qp (zs.map V.str) K8
 |[],[],_=>.nil
 |v::r,z::q,h=>by
  unfold YQ at h;obtain⟨h1,h2⟩:=Dr.mp h;obtain⟨t,e⟩:=Pm h1;cases e;exact .cons ⟨t,U⟩ (Jc h2)
 |[],z::q,h=>by cases h
 |v::r,[],h=>by cases h
theorem WK {K:iW}(h:YF K x zs=true):BD K x zs:=by
 unfold YF at h
 split at h
 ·rename_i a e
  split at h
  ·rename_i n od K8 k sl e2;rw[CM,CM]at h;obtain⟨⟨h1,h2⟩,h3⟩:=h;refine⟨a,e,λH=>.inr ⟨_,K8,k,e2,?_,U,zS h2,Jc h3⟩⟩;rw[G' h1]
  ·cases h
 ·cases h
theorem BD.mg {K:iW}{mg:af->Option ae}(T:BD K x zs)(X:K.In h)(G:h.Ns az mg):∃a,mg x=some (.ref a)/\∀H,yE K H a (zs.map V.str):=by
 obtain⟨a,e,t⟩:=T;exact⟨a,mg_of X G e,t⟩
end L2
namespace K12
open PySem PySem.NumText L2 Pg
seal PE PA PT PW PS y8 PG j5 PI jQ PO PK
section
variable {K:BFr}{mg:af->Option ae}
theorem Ut (F:qU K "is_number" "is_number" (top 21) f fd)(G:vh mg):zL P w K mg base zY 1 f fd ["thing"] (wj K):=by
 refine F.ok (N:=["thing"]) ?_ ?_ ?_;walk_at"t"
 ·obtain⟨v,rfl,_⟩:=h;rfl
 ·obtain⟨v,rfl,h⟩:=h
  refine⟨_,zh (zt (je (zv zG U G.isinstance zz (za (pv 0) (za (yV (v:=.ty "int") U G.int vV U) zd)))
   (jA (mF (zv zG U G.isinstance zz (za (pv 0) (za (yV (v:=.ty "bool") U G.bool oH U) zd))))))),?_⟩
  rcases h with⟨z,rfl,q⟩ |⟨⟨r,N',ty,ne⟩,q⟩
  ·refine⟨_,U,_,_,_,_,true,U,U,.inl (.int z),U,true,U,qY ?_⟩;exact⟨_,U,_,_,_,_,false,U,U,.inl (.int z),U,false,U,q⟩
  ·obtain⟨k1,k2,_⟩:=kY (K:=K) r N';refine⟨_,U,_,_,_,_,r.2.1,U,U,.inl ty,k1,r.2.1,U,?_⟩
   cases e:r.2.1 with
   |false=>exact qM q
   |true=>
    refine qY ⟨_,U,_,_,_,_,r.2.2.1,U,U,.inl ty,k2,r.2.2.1,U,?_⟩
    have:r.2.2.1=true:=by
     simp only[Vf,CJ,CV,or_false]at N';rcases N' with rfl |rfl |rfl |rfl |rfl |rfl |rfl<;>first |rfl | (exact K7 rfl ne) | (cases e)
    rw[this];exact q
theorem oX (F:qU K "is_number_within" "is_number_within" (top 22) f fd)(C1:qX P w K mg base zY 1 "is_number" ["thing"] (wj K)):zL P w K mg base zY 2 f fd ["thing","least","most"] (jI K):=by
 refine F.ok (N:=["thing","least","most"]) ?_ ?_ ?_;walk_at"t"
 ·obtain⟨v,a,b,rfl,_⟩:=h;rfl
 ·obtain⟨v,a,b,rfl,h⟩:=h;refine⟨_,zh (zt (je (zq C1 hr ∅ zA (za (pv 0) zd)) (je (qS Jt (pv 1) (pv 0) (zD _)) (jA (qS Jt (pv 0) (pv 2) (zD _)))))),?_⟩;rcases h with⟨z,rfl,q⟩ |⟨nn,q⟩
  ·refine⟨_,U,_,U,.inl ⟨z,U,true,U,qY ⟨_,U,_,U,_,_,U,U,_,U,?_⟩⟩⟩;refine qg (λe=>⟨_,U,_,U,_,_,U,U,?_⟩) (λe=>?_)
   ·have e1:a<=z:=G' e;show Q (.bl (decide (z<=b))) H;rw[show decide (z<=b)=decide (a<=z/\z<=b) by simp[e1]];exact q
   ·have e1:¬a<=z:=λc=>e (i' c);show Q (.bl false) H;rw[show false=decide (a<=z/\z<=b) by simp[e1]];exact q
  ·exact⟨_,U,_,U,.inr ⟨nn,false,U,qM q⟩⟩
end
end K12
namespace Pg
open PySem PySem.NumText L2
def nq (z:Int):af:=toString z
def dg (n:Nat):List Nat:=(Nat.toDigits 10 n).map Char.toNat
theorem j9 (n:Nat):(nq (n:Nat)).cps.toList=dg n:=PySem.W.KIN.signs_num n
theorem vR (n:Nat):sW (dg n):=by
 intro c hc;obtain⟨ch,S_,e⟩:=CK.mp hc;have r:=PyProof.Rows.digit_range (Nat.isDigit_of_mem_toDigits ∅ ∅ S_);rw[<- e];exact r
theorem wy (n:Nat):1<=(dg n).length:=by unfold dg;rw[CH];exact PySem.toDigits_len_ge 10 n
theorem u9 {k:Nat}(hk:1<=k)(hn:n<10 ^ k):(dg n).length<=k:=by unfold dg;rw[CH];exact PySem.toDigits_len_pow ∅ hk hn
theorem QD {a b:af}(h:a.cps.toList=b.cps.toList):a=b:=by
 obtain⟨a⟩:=a;obtain⟨b⟩:=b;have:a=b:=eG.mp h;rw[this]
def uK (k:Nat)(l:List Nat):List Nat:=aW (k-l.length) 48++l
theorem Jg {k:Nat}(h:l.length<=k):(uK k l).length=k:=by unfold uK;rw[CS,EF];lia
theorem xp {k:Nat}(h:sW z.cps.toList)(hz:z.cps.toList≠[]):(FF z (k:Nat)).cps.toList=uK k z.cps.toList:=by
 have hl:z.length=z.cps.toList.length:=by show z.cps.size=_;simp
 unfold FF uK
 by_cases hk:((k:Nat):Int)<=z.length
 ·rw[K6 hk,show k-z.cps.toList.length=0 by lia];rfl
 ·rw[K5 hk]
  have h0:0<z.cps.size:=by
   cases e:z.cps.toList with
   |nil=>exact K7 e hz
   |cons c r=>
    have:=K4 fJ e
    simp at this
    lia
  have hc:z.cps[0]?=some z.cps[0]:=Dm h0;have hd:=h z.cps[0] (by simp)
  have e:Ky z (((k:Nat):Int).toNat-z.length)=He z (((k:Nat):Int).toNat-z.length) 0 48:=by
   unfold Ky;rw[hc];split
   ·rename_i e;have:=ao e;lia
   ·rename_i e;have:=ao e;lia
   ·rfl
  rw[e];unfold He
  simp[hl]
theorem Vv {k:Nat}:(FF (nq (n:Nat)) (k:Nat)).cps.toList=uK k (dg n):=by
 have e:=j9 n
 rw[xp (by rw[e];exact vR n) (by
  rw[e];intro z;have:=wy n;rw[z]at this;simp at this),e]
theorem uP {z:Int}(h0:0<=z)(h1:z<2 ^ 64):z.natAbs.log2<1920:=by
 by_cases h:z.natAbs=0
 ·rw[h];decide
 ·exact Ec ((Nat.log2_lt h).mpr (show z.natAbs<2 ^ 64 by lia)) ∅
theorem qW (a b:af):(a++b).cps.toList=a.cps.toList++b.cps.toList:=by
 show(a.cps++b.cps).toList=_
 simp
theorem zI (z:af):z.length=z.cps.toList.length:=by show z.cps.size=_;simp
theorem yn (a b:af):(a++b).length=a.length+b.length:=by rw[zI,qW,CS,<- zI,<- zI]
theorem TH {a b:af}{m:Nat}(h1:a.length<=m)(h2:b.length<=n):(a++b).length<=m+n:=by rw[yn];exact EI h1 h2
theorem ui {m:Nat}(h:n<=m)(k:FD m 10000000=true):n<=au:=CW h (CW (C9 k) (by rw[ai];decide))
theorem br {a b m:Nat}(h1:a<=m)(h2:b<=n)(k:FD (m+n) 10000000=true):a+b<=au:=ui (EI h1 h2) k
def wY (c:Nat):Bool:=decide (48<=c)&&decide (c<=57)
def vM (l:List Nat):Bool:=!l.isEmpty&&l.all wY
theorem jO (h:vM l=true):sW l/\l≠[]:=by
 unfold vM at h;rw[CM]at h;refine⟨λc hc=>?_,λe=>by rw[e]at h;simp at h⟩;have:=dj.mp h.2 c hc;unfold wY at this;rw[CM]at this;exact⟨G' this.1,G' this.2⟩
theorem Xh (c:Nat):(!(Builtin.Str.occurrences ("0123456789":af) ⟨#[c]⟩ 0 ("0123456789":af).length 1).isEmpty)=wY c:=by
 rw[gU];have e:("0123456789":af).cps.toList=[48,49,50,51,52,53,54,55,56,57]:=⋯
 rw[e]
 by_cases h:c<58
 ·have all:∀c<58,[48,49,50,51,52,53,54,55,56,57].contains c=wY c:=⋯
  exact all c h
 ·have e1:wY c=false:=by
   unfold wY;rw[D' (p:=c<=57) (λz=>h (Nat.lt_succ_of_le z)),dQ]
  rw[e1,dI];intro z;have all:∀x∈[48,49,50,51,52,53,54,55,56,57],x<58:=⋯
  exact h (all c (dW.mp z))
inductive YJ (vs:List V)(H:Hp)(Q:VK)(_:XK):Prop|mk(z:_)(_:vs=[.str z])(_:z.length<=4000000)(_:∀H',zk H H'->Q (.bl (vM z.cps.toList)) H')
def xB (y:Int):af:=FF (nq y) 4
inductive wo (vs:List V)(H:Hp)(Q:VK)(_:XK):Prop|mk(z:_)(_:vs=[.int z])(_:0<=z)(_:z<=9999)(_:Q (.str (xB z)) H)
theorem Wr {y:Int}(h0:0<=y):(xB y).cps.toList=uK 4 (dg y.toNat):=by
 obtain⟨n,rfl⟩:=Dw h0;exact Vv (n:=n) (k:=4)
theorem Oa {y:Int}(h0:0<=y)(h1:y<=9999):(xB y).length=4:=by rw[zI,Wr h0,Jg (u9 ∅ (by lia))]
end Pg
namespace L2
open PySem PySem.Spec PyProof.Rows
abbrev TJ:=St->Hp->(List af->Hp->Prop)->Prop
section
variable {es:List aQ}{t:TJ}{pos:fW}
end
end L2
namespace Pg
open PySem L2
theorem Uj (h:10<=n):dg n=dg (n/10)++[48+n%10]:=by
 unfold dg;rw[Nat.toDigits_of_base_le ∅ h,CN,List.map_singleton]
 congr 2
 have:n%10<10:=Ks _ ∅;generalize n%10=d at this
 match d,this with
 |0,_=>rfl
 |1,_=>rfl
 |2,_=>rfl
 |3,_=>rfl
 |4,_=>rfl
 |5,_=>rfl
 |6,_=>rfl
 |7,_=>rfl
 |8,_=>rfl
 |9,_=>rfl
 |d+10,h=>lia
theorem UZ (h:n<10):dg n=[48+n]:=by
 match n,h with
 |0,_=>rfl
 |1,_=>rfl
 |2,_=>rfl
 |3,_=>rfl
 |4,_=>rfl
 |5,_=>rfl
 |6,_=>rfl
 |7,_=>rfl
 |8,_=>rfl
 |9,_=>rfl
 |d+10,h=>lia
theorem xa (sep z:af):aG sep [z]=z:=rfl
theorem vU (sep z:af)(h:zs≠[]):aG sep (zs++[z])=aG sep zs++sep++z:=by
 cases zs with
 |nil=>exact K7 rfl h
 |cons a r=>
  unfold aG HL;show Str.mk ((r++[z]).foldl _ _)=Str.mk (_++_++_);rw[eg];rfl
theorem YX {z:Int}{k:Nat}(h0:0<=z)(hk:1<=k)(h1:z.toNat<10 ^ k):(nq z).length<=k:=by
 obtain⟨n,rfl⟩:=Dw h0;rw[zI,j9];exact u9 hk (by simpa using h1)
end Pg
namespace L2
open PySem PySem.Spec PyProof.Rows
structure Yx (J:It)(H:Hp)(xs:List V):Prop where
 go:∀i x H',xs[i]?=some x->zk H H'->J.go i H'/\∀y H'',J.yld i H' y H''->H''=H'/\y=x
 stop:∀H',zk H H'->J.stop xs.length H'
theorem jc {K:BFr}(h:zN K H a xs):Yx (mW K a) H xs :=
 ⟨λi x H' e s=>⟨⟨xs,x,s.seq h,e⟩,λy H'' hM=>by obtain⟨e1,e2⟩:=hM;exact⟨e1,ao ((e2 xs (s.seq h)).symm.trans e)⟩⟩,λH' s=>⟨xs,s.seq h,CI _⟩⟩
theorem vD {K:BFr}(h:yE K H a xs):Yx (cz K a) H xs :=
 ⟨λi x H' e s=>⟨⟨xs,x,s.tup h,e⟩,λy H'' hM=>by obtain⟨e1,e2⟩:=hM;exact⟨e1,ao ((e2 xs (s.tup h)).symm.trans e)⟩⟩,λH' s=>⟨xs,s.tup h,CI _⟩⟩
theorem kx:Yx (rD lo n) H ((aY n).map λk=>V.int (lo+(k:Nat))):=by
 refine⟨λi x H' e s=>?_,λH' s=>by rw[CH,dD];exact CI n⟩;rw[CO]at e;obtain⟨k,hk,rfl⟩:=C8.mp e;obtain⟨h1,h2⟩:=C7.mp hk
 simp at h1 h2
 exact⟨by show i<n;omega,λy H'' ⟨e1,e2⟩=>⟨e1,by rw[e2,<- h2]⟩⟩
theorem uW:Yx (BN z) H (z.cps.toList.map cm):=by
 refine⟨λi x H' e s=>?_,λH' s=>by rw[CH,dJ];exact CI _⟩;rw[CO]at e;obtain⟨c,hc,rfl⟩:=C8.mp e;have hc':z.cps[i]?=some c:=by simpa using hc
 exact⟨(Dk.mp hc').1,λy H'' ⟨e1,c',h1,e2⟩=>⟨e1,by rw[e2,ao (h1.symm.trans hc')];rfl⟩⟩
section
variable {J:It}
theorem va (W:Yx J H xs)(hD:H D=none)(vG:Nat->List V->Hp->Prop)(Sg:St->Prop)(s0:Sg σ)(g0:vG 0 [] (upd H D (.lst [])))(hs:∀i x ys σ' H',xs[i]?=some x->Sg σ'->zk H H'->H' D=some (.lst ys)->ys.length<=i->vG i ys H'->Qb D g tt te x ys (λSK σ2 H2=>Sg σ2/\zk H H2/\H2 D=some (.lst SK)/\SK.length<=i+1/\vG (i+1) SK H2) σ' H')(hf:∀ys H',zk H H'->H' D=some (.lst ys)->ys.length<=xs.length->vG xs.length ys H'->K_ ys H'):jt J D g tt te K_ σ (upd H D (.lst [])):=by
 refine⟨λi m ys σ' H'=>m=xs.length-i/\i<=xs.length/\Sg σ'/\zk H H'/\H' D=some (.lst ys)/\ys.length<=i/\vG i ys H',⟨xs.length,by simp,du _,s0,zk.upd hD,zi,CI _,g0⟩,λi m ys σ H hM=>by obtain⟨_,_,_,_,h,_⟩:=hM;exact h,?_⟩;rintro i m ys σ' H' ⟨rfl,hi,h1,h2,h3,h4,h5⟩
 by_cases Sn:i<xs.length
 ·have hx:xs[i]?=some xs[i]:=CZ Sn;obtain⟨w1,w2⟩:=W.go i _ H' hx h2;refine .inr ⟨w1,λSK σ2 H2=>Sg σ2/\zk H H2/\H2 D=some (.lst SK)/\SK.length<=i+1/\vG (i+1) SK H2,λSK σ2 H2 p=>⟨xs.length-(i+1),by lia,U,Sn,p⟩,λy H'' hy=>?_⟩;obtain⟨e1,e2⟩:=w2 y H'' hy;subst e1 e2;exact hs i _ ys σ' _ hx h1 h2 h3 h4 h5
 ·have e:i=xs.length:=by lia
  subst e;exact .inl ⟨W.stop H' h2,hf ys H' h2 h3 h4 h5⟩
theorem uA (W:Yx J H xs)(hD:H D=none)(hz:xs.length<au)(p:V->Bool)(φ:V->V)(ht:∀x∈xs,∀H' R,zk H H'->R (p x) H'->tt (σ.set 0 (some x)) H' R)(he:∀x∈xs,p x=true->∀H' R,zk H H'->R (φ x) H'->te (σ.set 0 (some x)) H' R)(hf:K_ ((xs.filter p).map φ) (upd H D (.lst ((xs.filter p).map φ)))):jt J D (qc 0) tt te K_ σ (upd H D (.lst [])):=by
 refine va W hD (λi ys H'=>ys=((xs.take i).filter p).map φ/\H'=upd H D (.lst ys)) (λσ'=>∀x,σ'.set 0 (some x)=σ.set 0 (some x)) (λ_=>rfl) ⟨U,U⟩ ?_ ?_
 ·rintro i x ys σ' H' hx hσ s hd hl ⟨rfl,rfl⟩;have hi:i<xs.length:=(C7.mp hx).1;have hm:=dG hx;have tk:xs.take (i+1)=xs.take i++[x]:=by rw[dR,hx];rfl
  have Ss:∀y,(σ'.set 0 (some x)).set 0 (some y)=σ.set 0 (some y):=λy=>by rw[DM];exact hσ y
  show tt (σ'.set 0 (some x)) _ _;rw[hσ x];refine ht x hm _ _ s ?_;rw[hσ x]at Ss
  cases hp:p x with
  |true=>
   refine qY (he x hm hp _ _ s ⟨hd,by lia,Ss,?_,zi,?_,?_,GP⟩)
   ·rw[GP];exact zk.upd hD
   ·rw[CS,dB];lia
   ·rw[tk,Ef,CN];simp[hp]
  |false=>
   refine qM ⟨Ss,s,hd,by lia,?_,U⟩;rw[tk,Ef,CN];simp[hp]
 ·rintro ys H' s hd hl ⟨rfl,rfl⟩;rw[dX];exact hf
end
end L2
namespace L2
theorem Gx [DecidableEq α]{l m:List α}(hn:l.Nodup)(hs:∀x∈l,x∈m):l.length<=m.length:=by
 induction l generalizing m with
 |nil=>exact du _
 |cons a l ih=>
  obtain⟨h1,h2⟩:=Da.mp hn;have ha:=hs a CU;have:=ih (m:=m.erase a) h2 λx hx=>(List.mem_erase_of_ne (show x≠a from λe=>h1 (e ▸ hx))).mpr (hs x (C6 _ hx));rw[EW ha]at this;have:0<m.length:=EY ha;rw[dz];omega
theorem VU [DecidableEq α]{l m:List α}(hn:l.Nodup)(hs:∀x,x∈l↔x∈m)(hl:m.length<=l.length):m.Nodup:=by
 induction m generalizing l with
 |nil=>exact Df
 |cons a m ih=>
  have ha:a∈l:=(hs a).mpr CU
  have no:¬a∈m:=λc=>by
   have:∀x∈l,x∈m:=λx hx=>by
    rcases CJ.mp ((hs x).mp hx) with rfl |h
    ·exact c
    ·exact h
   have:=Gx hn this;rw[dz]at hl;omega
  refine Da.mpr ⟨no,ih (l:=l.erase a) (hn.erase a) (λx=>?_) ?_⟩
  ·rw[hn.mem_erase_iff,hs x,CJ];exact⟨λhM=>by obtain⟨h1,h2⟩:=hM;exact h2.resolve_left h1,λh=>⟨λe=>no (e ▸ h),.inr h⟩⟩
  ·rw[EW ha];rw[dz]at hl;omega
theorem gj [DecidableEq α]{l m:List α}(hn:l.Nodup)(hs:∀x,x∈l↔x∈m):l.length<m.length↔¬m.Nodup :=
 ⟨λh c=>Eg.mpr (Gx c λx hx=>(hs x).mpr hx) h,λh=>Nat.lt_of_not_le λc=>h (VU hn hs c)⟩
end L2
namespace SS
end SS
namespace L2
open PySem PySem.Spec PyProof.Rows PySem.W
section
variable {ts:List V}{nm:Nat->af}{am:Nat->Int}{P:FE->ar->Prop}
end
end L2
namespace L2
open PySem PySem.Spec PyProof.Rows
structure qd (H:Hp)(ys:List V)(cs:List (List V)):Prop where
 len:ys.length=cs.length
 at_:∀(i:Nat) (c:List V),cs[i]?=some c->∃a,ys[i]?=some (V.ref a)/\H a=some (.tup c)
theorem qd.nil:qd H [] []:=⟨U,λi c e=>by cases e⟩
theorem qd.mono (T:qd H ys cs)(k:∀b c,H b=some (.tup c)->H' b=some (.tup c)):qd H' ys cs:=⟨T.len,λi c e=>by
 obtain⟨a,h1,h2⟩:=T.at_ i c e;exact⟨a,h1,k _ _ h2⟩⟩
theorem qd.same (T:qd H ys cs)(s:zk H H'):qd H' ys cs:=T.mono λ_ _ h=>s _ _ h
theorem qd.upd {o:HO}(T:qd H ys cs)(n:∀c,H p≠some (.tup c)):qd (upd H p o) ys cs:=T.mono λb c h=>by
 rw[zm (show b≠p from λe=>n c (by rw[<- e];exact h))];exact h
theorem qd.snoc {c:List V}(T:qd H ys cs)(h:H a=some (.tup c)):qd H (ys++[.ref a]) (cs++[c]):=by
 refine⟨by rw[CS,CS,T.len];rfl,λi d e=>?_⟩
 by_cases hi:i<cs.length
 ·rw[Dh hi]at e;rw[Dh (by rw[T.len];exact hi)];exact T.at_ i d e
 ·have hi:=Dc hi;rw[dZ hi]at e;rw[dZ (by rw[T.len];exact hi),T.len]
  cases q:i-cs.length with
  |zero=>
   rw[q]at e;cases e;exact⟨a,U,h⟩
  |succ n=>
   rw[q]at e;cases e
theorem qd.of_at (T:qd H ys cs)(h:ys[i]?=some y):∃a c,y=.ref a/\cs[i]?=some c/\H a=some (.tup c):=by
 have hi:i<cs.length:=by rw[<- T.len];exact(C7.mp h).1
 obtain⟨a,h1,h2⟩:=T.at_ i _ (CZ hi);rw[h]at h1;exact⟨a,_,ao h1,CZ hi,h2⟩
section
variable {J:It}{K:BFr}
theorem pG (W:Yx J H xs)(hD:H D=none)(hz:xs.length<au)(p:V->Bool)(φ:V->V)(ht:∀x∈xs,∀H' R,zk H H'->(∀H'',zk H' H''->R (p x) H'')->tt (σ.set 0 (some x)) H' R)(he:∀x∈xs,p x=true->∀H' R,zk H H'->(∀H'',zk H' H''->R (φ x) H'')->te (σ.set 0 (some x)) H' R)(hf:∀H',zk H H'->H' D=some (.lst ((xs.filter p).map φ))->K_ ((xs.filter p).map φ) H'):jt J D (qc 0) tt te K_ σ (upd H D (.lst [])):=by
 refine va W hD (λi ys H'=>ys=((xs.take i).filter p).map φ) (λσ'=>∀x,σ'.set 0 (some x)=σ.set 0 (some x)) (λ_=>rfl) rfl ?_ ?_
 ·rintro i x ys σ' H' hx hσ s hd hl rfl;have hi:i<xs.length:=(C7.mp hx).1;have hm:=dG hx;have tk:xs.take (i+1)=xs.take i++[x]:=by rw[dR,hx];rfl
  have Ss:∀y,(σ'.set 0 (some x)).set 0 (some y)=σ.set 0 (some y):=λy=>by rw[DM];exact hσ y
  show tt (σ'.set 0 (some x)) _ _;rw[hσ x];refine ht x hm _ _ s λH2 s2=>?_;rw[hσ x]at Ss
  cases hp:p x with
  |true=>
   refine qY (he x hm hp _ _ (s.trans s2) λH3 s3=>⟨s3 _ _ (s2 _ _ hd),by lia,Ss,λb o z=>?_,zi,?_,?_⟩)
   ·rw[zm (zC z hD)];exact s3 _ _ (s2 _ _ (s _ _ z))
   ·rw[CS,dB];lia
   ·rw[tk,Ef,CN];simp[hp]
  |false=>
   refine qM ⟨Ss,s.trans s2,s2 _ _ hd,by lia,?_⟩;rw[tk,Ef,CN];simp[hp]
 ·rintro ys H' s hd hl rfl;rw[dX]at hd ⊢;exact hf H' s hd
end
end L2
variable {O_:Array ae}
namespace ST
open PySem
def Vh (xs:Array Nat):Prop:=∀i j,i<j->j<xs.size->xs.getD i 0<xs.getD j 0
theorem Pn {xs:Array Nat}(h:i<xs.size)(d e:Nat):xs.getD i d=xs.getD i e:=by
 simp[sy,h]
theorem Uc {xs:Array Nat}(hr:Vh xs)(j:Nat):∀(Sq lo hi:Nat),hi-lo<=Sq->lo<=hi->hi<=xs.size->(∀i,i<lo->xs.getD i 0<j)->(∀i,hi<=i->i<xs.size->j<=xs.getD i 0) ->
  (sg xs j Sq lo hi<=xs.size/\(∀i,i<sg xs j Sq lo hi->xs.getD i 0<j)/\∀i,sg xs j Sq lo hi<=i->i<xs.size->j<=xs.getD i 0)
 |0,lo,hi,hf,hl,hs,h1,h2=>by
  have e:lo=hi:=by lia
  subst e;exact⟨hs,h1,h2⟩
 |Sq+1,lo,hi,hf,hl,hs,h1,h2=>by
  unfold sg
  by_cases Sn:lo<hi
  ·rw[K6 Sn];have hm:(lo+hi)/2<hi:=by lia
   have S9:lo<=(lo+hi)/2:=by lia
   have hms:(lo+hi)/2<xs.size:=by lia
   show(if xs.getD ((lo+hi)/2) j<j then _ else _)<=_/\_;simp only;rw[Pn hms j 0]
   by_cases hc:xs.getD ((lo+hi)/2) 0<j
   ·rw[K6 hc];refine Uc hr j Sq _ hi (by lia) (by lia) hs (λi SX=>?_) h2
    by_cases e:i=(lo+hi)/2
    ·rw[e];exact hc
    ·exact Ec (hr i _ (by lia) hms) hc
   ·rw[K5 hc];refine Uc hr j Sq lo _ (by lia) S9 (by lia) h1 (λi SX his=>?_)
    by_cases e:i=(lo+hi)/2
    ·rw[e];exact Dc hc
    ·exact CW (Dc hc) (eK (hr _ i (by lia) his))
  ·rw[K5 Sn];have e:lo=hi:=by lia
   subst e;exact⟨hs,h1,h2⟩
theorem Zz {xs:Array Nat}(hr:Vh xs)(j:Nat):aO xs j<=xs.size/\(∀i,i<aO xs j->xs.getD i 0<j)/\∀i,aO xs j<=i->i<xs.size->j<=xs.getD i 0 :=
 Uc hr j xs.size 0 xs.size (by lia) (by lia) (CI _) (λi h=>K7 h (Eh i)) (λi h1 h2=>K7 h2 (Eg.mpr h1))
theorem Xx {xs:Array Nat}(hr:Vh xs)(hi:i<xs.size):aO xs (xs.getD i 0+1)=i+1:=by
 obtain⟨h1,h2,h3⟩:=Zz hr (xs.getD i 0+1);apply Nat.le_antisymm
 ·apply Dc;intro c;have:=h2 (i+1) c;have:=hr i (i+1) (by omega) (by omega);omega
 ·apply Dc;intro c;have:=h3 i (by omega) hi;omega
theorem XN {xs:Array Nat}(hr:Vh xs):aO xs 0=0:=by
 obtain⟨h1,h2,h3⟩:=Zz hr 0;apply Nat.eq_zero_of_not_pos;intro c;exact K7 (h2 0 c) (Eh _)
theorem Q9 {xs:Array Nat}{p x k:Nat}(hp:p<=xs.size):(iQ xs p x).getD k 0=if k<p then xs.getD k 0 else if k=p then x else xs.getD (k-1) 0:=by
 unfold iQ;have e:∀(ys:Array Nat) (k:Nat),ys.getD k 0=(ys.toList[k]?).getD 0:=λys k=>by simp[Array.getD_eq_getD_getElem?]
 rw[e,e,e]
 have l:((xs.extract 0 p).push x++xs.extract p xs.size).toList=xs.toList.take p++x::xs.toList.drop p:=by
  simp[Fp]
  rw[Do (by simp:_<=_)]
 rw[l]
 by_cases h1:k<p
 ·rw[K6 h1,Dh (by rw[dH,dJ];lia),EC h1]
 ·rw[K5 h1,dZ (by rw[dH,dJ];lia),dH,dJ,Dl hp]
  by_cases h2:k=p
  ·rw[K6 h2,h2,DN];rfl
  ·rw[K5 h2];obtain⟨m,hm⟩:∃m,k-p=m+1:=⟨k-p-1,by lia⟩;rw[hm,List.getElem?_cons_succ,EJ]
   congr 2
   lia
theorem U8 {xs:Array Nat}{p x:Nat}(hp:p<=xs.size):(iQ xs p x).size=xs.size+1:=by
 unfold iQ
 simp
 lia
theorem lS {xs:Array Nat}(hr:Vh xs)(hj:xs[aO xs j]?≠some j):Vh (iQ xs (aO xs j) j):=by
 obtain⟨h1,h2,h3⟩:=Zz hr j
 have h4:∀i,aO xs j<=i->i<xs.size->j<xs.getD i 0:=λi a b=>by
  refine Nat.lt_of_le_of_ne (h3 i a b) λe=>?_
  by_cases q:i=aO xs j
  ·apply hj;rw[<- q,Dm b];have:xs.getD i 0=xs[i]:=by simp[sy,b]
   rw[<- this,<- e]
  ·have:=hr (aO xs j) i (by omega) b;have:=h3 (aO xs j) (CI _) (by omega);omega
 intro a b hab hb;rw[U8 h1]at hb;rw[Q9 h1,Q9 h1]
 by_cases c1:b<aO xs j
 ·rw[K6 (by omega:a<aO xs j),K6 c1];exact hr a b hab (by omega)
 ·rw[K5 c1]
  by_cases c2:b=aO xs j
  ·rw[K6 c2,K6 (by omega:a<aO xs j)];exact h2 a (by omega)
  ·rw[K5 c2]
   by_cases c3:a<aO xs j
   ·rw[K6 c3];exact Ec (h2 a c3) (h4 (b-1) (by omega) (by omega))
   ·rw[K5 c3]
    by_cases c4:a=aO xs j
    ·rw[K6 c4];exact h4 (b-1) (by omega) (by omega)
    ·rw[K5 c4];exact hr (a-1) (b-1) (by omega) (by omega)
theorem gx (n:Nat):Vh (Array.range n):=by
 intro i j hij hj;have hj':j<n:=by simpa using hj
 have SX:i<n:=by lia
 simp[sy,hj',SX,hij]
theorem Qy (h:l.Pairwise (· < ·)):Vh l.toArray:=by
 intro i j hij hj;have hj':j<l.length:=by simpa using hj
 have SX:i<l.length:=by lia
 have:=DB.mp h i j SX hj' hij
 simpa [sy,SX,hj'] using this
theorem oP {mask finger moves:Nat}{led plain:Bool}{hashes:Array Int}{order:Array Nat}(h:Kz mask finger moves led plain hashes=some (t,order)):Vh t.place/\t.led=led/\t.plain=plain:=by
 unfold Kz at h
 cases e:SetTable.layClean mask hashes with
 |none=>
  rw[e]at h;cases h
 |some owner=>
  rw[e]at h;cases h;refine⟨Qy ?_,U,U⟩;rw[List.map_filterMap];refine List.Pairwise.filterMap _ (R:=(· < ·)) ?_ List.pairwise_lt_range;intro a b hab x hx y hy;simp only[Kt,Option.mem_def,C8]at hx hy;obtain⟨_,_,rfl⟩:=hx;obtain⟨_,_,rfl⟩:=hy;exact hab
def Jl (t:q_)(j:Nat):Prop:=t.place[aO t.place j]?≠some j
theorem Gq (h:∀i,t.slot j≠.live i):Jl t j:=by
 intro e;unfold SetTable.slot at h;simp only at h;rw[K6 (by rw[e];simp)]at h;exact h _ rfl
theorem Zu {f:Nat->Int}{h:Int}:∀(Sq:Nat) (p:SetTable.Probe),(∀d,p.dummy=some d->Jl t d)->∀j d,Ao t f h Sq p=some (.empty j d)->Jl t j/\∀e,d=some e->Jl t e
 |0,p,_,j,d,q=>by
  unfold Ao at q;cases q
 |Sq+1,p,hp,j,d,q=>by
  unfold Ao at q
  cases hs:t.slot p.j with
  |empty=>
   rw[hs]at q;simp only[An,SetTable.Met.empty.injEq]at q;obtain⟨e1,e2⟩:=q;subst e1 e2;exact⟨Gq λi=>by rw[hs];simp,hp⟩
  |dummy=>
   rw[hs]at q;refine Zu Sq _ (λe he=>?_) j d q
   have:(sG t {p with dummy:=some p.j}).dummy=some p.j:=by
    unfold sG
    split<;>rfl
   rw[this]at he;cases he;exact Gq λi=>by rw[hs];simp
  |live i=>
   rw[hs]at q;simp only at q
   split at q
   ·cases q
   ·refine Zu Sq _ (λe he=>?_) j d q
    have:(sG t p).dummy=p.dummy:=by
     unfold sG
     split<;>rfl
    rw[this]at he;exact hp e he
theorem MJ {h:Int}{s:Nat}{wd:Bool}(q:t.freeSlot h=some (s,wd)):Jl t s:=by
 unfold SetTable.freeSlot at q
 cases e:t.probe (λ_=>h+1) h (t.probeStart h) with
 |none=>rw[e]at q;cases q
 |some m=>
  rw[e]at q
  cases m with
  |candidate j i n=>cases q
  |empty j d=>
   have hp:=Zu _ _ (by intro d hd;cases hd) j d e;simp only[An,Prod.mk.injEq]at q;obtain⟨q1,_⟩:=q
   cases d with
   |none=>rw[<- q1];exact hp.1
   |some d=>rw[<- q1];exact hp.2 d rfl
structure vG (b:Bool)(t:q_):Prop where
 led:t.led=b
 rise:Vh t.place
theorem wJ (g:vG b t)(n:Nat):vG b (t.standIn n):=⟨g.led,gx n⟩
theorem XX (g:vG b t)(p:Bool):vG b {t with plain:=p}:=⟨g.led,g.rise⟩
theorem Lg (g:vG b t)(es:Array (Int×ae))(h:Int)(x:ae):vG b (layNew t es h x).2.1:=by
 unfold layNew
 cases e:t.freeSlot h with
 |none=>exact wJ g _
 |some q=>
  obtain⟨s,wd⟩:=q;have gp:vG b (t.put s).1:=⟨g.led,lS g.rise (MJ e)⟩;show vG b ((t.put s).1.orStandIn _);unfold SetTable.orStandIn;split
  ·exact gp
  ·exact wJ gp _
theorem gn (g:vG b t)(es:Array (Int×ae))(n:Nat):vG b (Fb t es n).2.1:=by
 unfold Fb
 cases e:t.relaid (es.map (·.1)) n with
 |none=>exact wJ g _
 |some q=>
  obtain⟨t',order⟩:=q;simp only;split
  ·obtain⟨r1,r2,_⟩:=oP e;exact⟨r2.trans g.led,r1⟩
  ·exact wJ g _
theorem XJ (b:Bool):vG b (SetTable.fresh 0 0 b):=⟨U,λi j _ h=>K7 h (Eh _)⟩
open PySem.Spec
section
variable {K:Type}[DecidableEq K][BEq K][LawfulBEq K]{knd:KeyKind prog w K}
structure At (knd:KeyKind prog w K)(b:Bool)(h:fi)(a:ag)(es:Array (Int×ae)):Prop where
 ex:∃o ep t,h.get? a=some o/\o.ExactSet/\o.data=.set es ep t/\t.fits es.size=true/\vG b t
 el:IM knd es.toList
theorem Wv {Nr:Array (Int×ae)}{t':q_}(og:h.get? a=some o)(hx:o.ExactSet)(dg:o.data=.set es ep t)(el:IM knd Nr.toList)(fg:t'.fits Nr.size=true)(g:vG b t'):
  (h.update a (Hf Nr t')).get? a=some {o with data:=.set Nr (ep+1) t'}/\At knd b (h.update a (Hf Nr t')) a Nr:=by
 have e:(h.update a (Hf Nr t')).get? a=some {o with data:=.set Nr (ep+1) t'}:=by
  rw[<- putSet_of Nr t' dg];exact Du _ og (by rw[putSet_of Nr t' dg];rfl)
 exact⟨e,⟨_,_,_,e,hx,U,fg,g⟩,el⟩
def N9 (knd:KeyKind prog w K)(k:K)(x:ae)(es Nr:Array (Int×ae)):Prop :=
 ((∃e∈es.toList,knd.is k e.2=true)/\Nr=es)∨((∀e∈es.toList,knd.is k e.2=false)/\Nr.toList.Perm (es.toList++[(knd.hash k,x)]))
theorem P4 {k:K}{x:ae}{Q:Bool->ar->Prop}(hk:knd.is k x=true)(hx:x.scannable=true)(hA:At knd b s.heap a es)(hb:es.size+1<sX)(h:∀h' Nr r,fB a s.heap h'->At knd b h' a Nr->N9 knd k x es Nr->Q r {s with heap:=h'}):wpAny (aA prog w) A (setAddHashed a x (knd.hash k)) Q E s:=by
 obtain⟨⟨o,ep,t,og,hex,dg,fg,g⟩,el⟩:=hA;unfold setAddHashed;unfold setAddHashedIn;refine d_ (aa (fG og dg fg ?_));dsimp only;rw[byScan_of hx (Nat.lt_of_succ_lt hb) el];simp only[↓reduceIte];unfold setAddByScan;refine aa (aa (FZ (aa (wpAny_setScan_of hk og dg fg el ?_))))
 cases met:List.findIdx? (λu=>knd.is k u.2) es.toList with
 |some j=>
  dsimp only;obtain⟨j1,j2,_⟩:=List.findIdx?_eq_some_iff_getElem.mp met;refine aj (aj ?_);have z:=h s.heap es false (HM a s.heap) ⟨⟨o,ep,t,og,hex,dg,fg,g⟩,el⟩ (.inl ⟨⟨_,eN j1,j2⟩,U⟩);exact z
 |none=>
  dsimp only
  have none_is:∀e∈es.toList,knd.is k e.2=false:=λe he=>by
   have z:=List.findIdx?_eq_none_iff.mp met e he
   simpa using z
  have gw:∀(c:Bool) {s₁:ar} {R:Unit->ar->Prop},R () s₁->wpAny (aA prog w) A (match c with|true=>rule "set.scan.the-table-gave-way" |false=>pure ()) R E s₁:=λc s₁ R q=>by
   cases c
   ·exact aj q
   ·exact FZ q
  have pm:=layNew_perm t es (knd.hash k) x;have ft:=layNew_fits t es (knd.hash k) x;have gl:=Lg g es (knd.hash k) x;obtain⟨L,hL⟩:∃L,layNew t es (knd.hash k) x=L:=⟨_,U⟩;rw[hL]at pm ft gl ⊢;obtain⟨es1,t1,wd,gv⟩:=L;dsimp only at pm ft gl ⊢;rw[eW]at pm;have el1:IM knd es1.toList:=(el.push hk hx).perm pm;have sz1:es1.size=es.size+1:=by rw[<- dJ,pm.length_eq,CS,dJ];rfl
  have tail:∀tb:q_,tb.fits es1.size=true->vG b tb->∀R:Option Bool->ar->Prop,(∀h' Nr,fB a s.heap h'->At knd b h' a Nr->Nr.toList.Perm es1.toList->R (some true) {s with heap:=h'}) ->
    wpAny (aA prog w) A (do
     storeSet a es1 tb
     if (!wd&&tb.tooFull)=true then do
       (match (Fb tb es1 (iE es1.size)).2.2 with|true=>rule "set.scan.the-table-gave-way" |false=>pure ())
       storeSet a (Fb tb es1 (iE es1.size)).1 (Fb tb es1 (iE es1.size)).2.1
       pure (some true)
      else pure (some true)) R E s:=λtb f2 g2 R q=>by
   have fit1:es1.size<=au:=fits_of_scanBound (by rw[sz1];exact hb);refine aa (Hr og dg ?_ fit1);obtain⟨o1,A1⟩:=Wv (knd:=knd) og hex dg el1 f2 g2;have sb1:=iY s.heap a (Hf es1 tb);split
   ·have rp:=relayAll_perm tb es1 (iE es1.size);have rf:=relayAll_fits tb es1 (iE es1.size);have rg:=gn g2 es1 (iE es1.size);have rs:(Fb tb es1 (iE es1.size)).1.size=es1.size:=by rw[<- dJ,rp.length_eq,dJ]
    refine aa (gw _ ?_);refine aa (Hr o1 U ?_ (by rw[rs];exact fit1));obtain⟨_,A2⟩:=Wv (knd:=knd) o1 hex rfl (el1.perm rp) rf rg;exact aj (q _ _ (sb1.trans (iY _ a _)) A2 rp)
   ·exact aj (q _ _ sb1 A1 (List.Perm.refl _))
  have K_:∀h' Nr,fB a s.heap h'->At knd b h' a Nr->Nr.toList.Perm es1.toList->Q true {s with heap:=h'}:=λh' Nr sb A2 p=>h h' Nr true sb A2 (.inr ⟨none_is,p.trans pm⟩);refine aa (gw _ ?_);split
  ·refine aa ?_;rw[hashByValue_scannable 8 hx];refine aj ?_;refine tail _ ?_ ?_ _ λh' Nr sb A2 p=>?_
   ·split
    ·exact ft
    ·exact SetTable.fits_plain_off ft
   ·split
    ·exact gl
    ·exact XX gl _
   ·dsimp only;exact aj (K_ h' Nr sb A2 p)
  ·refine aa (aj ?_);simp only[↓reduceIte];refine tail _ ft gl _ λh' Nr sb A2 p=>?_;dsimp only;exact aj (K_ h' Nr sb A2 p)
end
def jz (w:aP):Bool:=w.params.followText "set-order"
abbrev vJ (w:aP):g_:={cls:=.type "set",dict:=none,data:=.set #[] 0 (.fresh 0 0 (!jz w))}
theorem PF (v:ae)(h:Q (.ref s.heap.objs.size) {s with heap:=s.heap.push (vJ w)}):
  codeAny (aA prog w) A (.call (.builtin "set.__new__") ⟨[.type "set",v],[]⟩) (wants Q E) s:=by
 refine Iz ?_;show wpAny _ A.in1 (AB "set.__new__" ⟨[.type "set",v],[]⟩ >>= λ_=>again (.builtin "set.__new__" ⟨[.type "set",v],[]⟩)) _ _ s;refine aa (Iu (F.newCall_set_1 v) (aj ⟨Ar IH _,fY F.entry_set_new ?_⟩));rw[iu IH _];unfold Builtin.«set.__new__»;unfold Builtin.Frozenset.newClass;have sub:=sub_set_self;obtain⟨hp,g,d,tk,os⟩:=s;dsimp only
 wp_walk
 refine AF (aj ?_);dsimp only;simp only[newObj];refine aa (wpAny_alloc (aj ?_));exact aj h
open PyProof.Rows
section
variable {K:Type}[DecidableEq K][BEq K][LawfulBEq K]{knd:KeyKind prog w K}
structure xq (kf:ae->K)(es:Array (Int×ae))(l:List K):Prop where
 nd:(es.toList.map λe=>kf e.2).Nodup
 mem:∀k,k∈es.toList.map (λe=>kf e.2)↔k∈l
 len:es.size<=l.length
theorem GS (kf:ae->K):xq kf #[] []:=⟨Df,λk=>Iff.rfl,CI _⟩
theorem LJ {kf:ae->K}(hkf:∀k v,knd.is k v=true->kf v=k){Nr:Array (Int×ae)}{l:List K}{k:K}{x:ae}(el:IM knd es.toList)(hk:knd.is k x=true)(c:xq kf es l)(a:N9 knd k x es Nr):xq kf Nr (l++[k]):=by
 rcases a with⟨⟨e,he,h1⟩,rfl⟩ |⟨no,pm⟩
 ·refine⟨c.nd,λq=>?_,by rw[CS];exact Nat.le_add_right_of_le c.len⟩;rw[c.mem,CQ,CY];refine⟨.inl,λz=>z.elim id λz=>?_⟩;rw[z,<- c.mem];exact CK.mpr ⟨e,he,hkf _ _ h1⟩
 ·have pk:(Nr.toList.map λe=>kf e.2).Perm ((es.toList.map λe=>kf e.2)++[k]):=by
   have:=pm.map λe=>kf e.2;rw[CN]at this
   simpa [hkf k x hk] using this
  have nk:¬k∈es.toList.map λe=>kf e.2:=λm=>by
   obtain⟨e,he,e1⟩:=CK.mp m;obtain⟨⟨k',h1,_⟩,_⟩:=el e he;have e2:=hkf _ _ h1;have:=no e he;rw[<- e1,e2,h1]at this;cases this
  refine⟨pk.nodup_iff.mpr ?_,λq=>?_,?_⟩
  ·rw[DO];refine⟨c.nd,by simp,λa ha b hb z=>?_⟩;rw[CY.mp hb]at z;exact nk (z ▸ ha)
  ·rw[pk.mem_iff,CQ,CQ,c.mem]
  ·rw[<- dJ,pm.length_eq,CS,CS,dJ];exact Nat.add_le_add_right c.len _
theorem Gg (x:At knd b h a es)(k:∀o,h.get? a=some o->h'.get? a=some o):At knd b h' a es:=by
 obtain⟨⟨o,ep,t,e,r⟩,el⟩:=x;exact⟨⟨o,ep,t,k o e,r⟩,el⟩
theorem G4 {wr:List ag}{P:Nat->ae->Prop}{St:Nat->fi->Prop}(W:Walks prog w A.in1 I fp wr n P St)(S:ag)(hS:S∉fp){kf:ae->K}(hkf:∀k v,knd.is k v=true->kf v=k)(Sj:Nat->K)(hv:∀i v,P i v->knd.is (Sj i) v=true/\v.scannable=true)(hb:n+1<sX):
  ∀(m i:Nat) (s:ar) (es:Array (Int×ae)),n-i=m->i<=n->St i s.heap->At knd b s.heap S es->xq kf es ((aY i).map Sj) ->
   (∀h' tk Nr,(∀c o,c∉wr->c≠S->s.heap.get? c=some o->h'.get? c=some o)->At knd b h' S Nr->xq kf Nr ((aY n).map Sj)->R (.ok (.ret .none)) {s with heap:=h',toks:=tk}) ->
   codeAny (aA prog w) A (.builtin "set.update.loop" ⟨[.ref S,.ref I],[]⟩) R s:=by
 have hSw:S∉wr:=λz=>hS (W.sub _ z);intro m
 induction m with
 |zero=>
  intro i s es hm hi st hA hK hR;obtain rfl:i=n:=by lia
  refine fY AL ?_;rw[iu m_ _];refine aa (W.done s _ _ st λh' tk keep=>?_);exact aj (hR h' tk es (λc o c1 _ e=>keep c o c1 e) (Gg hA λo e=>keep _ o hSw e) hK)
 |succ m ih=>
  intro i s es hm hi st hA hK hR;have lt:i<n:=by lia
  refine fY AL ?_;rw[iu m_ _];refine aa (W.item i s _ _ lt st λv h' tk hP M' keep=>?_);obtain⟨v1,v2⟩:=hv i v hP;have hA':At knd b h' S es:=Gg hA λo e=>keep _ o hSw e;refine aa (d_ ?_);unfold setAdd;refine d_ (aa (knd.pyHash v1 ?_))
  have room:es.size+1<sX:=by
   have:=hK.len;rw[CH,dD]at this;lia
  refine P4 (knd:=knd) (s:={s with heap:=h',toks:=tk+1}) v1 v2 hA' room λh2 es2 r sb A2 ad=>?_
  have K2:xq kf es2 ((aY (i+1)).map Sj):=by
   rw[List.range_succ,CN];exact LJ hkf hA.el v1 hK ad
  refine aj ⟨Ar m_ _,ih (i+1) _ es2 (by lia) lt (W.frame _ _ _ M' λc hc o e=>?_) A2 K2 λh3 tk3 es3 keep3 A3 K3=>?_⟩
  ·exact(sb.2 c λz=>hS (z ▸ hc)).trans e
  ·exact hR h3 tk3 es3 (λc o c1 c2 e=>keep3 c o c1 c2 ((sb.2 c c2).trans (keep c o c1 e))) A3 K3
end
section
variable {K:Type}[DecidableEq K][BEq K][LawfulBEq K]{knd:KeyKind prog w K}
structure TX (knd:KeyKind prog w K)(kf:ae->K)(l:List K)(h₀ h:fi):Prop where
 ex:∃es,At knd (!jz w) h h₀.objs.size es/\xq kf es l
 keep:∀c o,c<h₀.objs.size->h₀.get? c=some o->h.get? c=some o
theorem lP (e:h.get? a=some (vJ w)):At knd (!jz w) h a #[] :=
 ⟨⟨_,_,_,e,⟨U,U,U⟩,U,U,XJ _⟩,λ_ m=>by cases m⟩
theorem G0 {l:ag}(hh:A.handled=none)(hl:s.heap.IsList l O_){kf:ae->K}(hkf:∀k v,knd.is k v=true->kf v=k){ks:List K}
  (hv:∀(i:Nat) (v:ae),O_[i]?=some v->∃k,ks[i]?=some k/\knd.is k v=true/\v.scannable=true) (hn:ks.length=O_.size) (hb:O_.size+1<sX) [Inhabited K] :
  codeAny (aA prog w) A (.call (.builtin "set.__init__") ⟨[.ref s.heap.objs.size,.ref l],[]⟩)
   (wants (λr s'=>r=.none/\∃h tk,s' = {s with heap:=h,toks:=tk}/\TX knd kf ks s.heap h) E) {s with heap:=s.heap.push (vJ w)}:=by
 have e0:(s.heap.push (vJ w)).get? s.heap.objs.size=some (vJ w):=dA _ rfl;refine E_ F.called_set.init.plain F.entry_set_init (check_set_init_1 ⟨_,e0,U⟩ ?_)
 have lt:l<s.heap.objs.size:=by
  obtain⟨o,e,_⟩:=hl;exact C5 e
 have hl1:(s.heap.push (vJ w)).IsList l O_:=hl.push _;have sz:(s.heap.push (vJ w)).objs.size=s.heap.objs.size+1:=DF _ _;obtain⟨⟨cl,di,da,sl⟩,og,oc,nl,od⟩:=id hl1;dsimp only at oc od;cases oc;cases od;have q1:=F.sub_list_set;have q2:=F.sub_list_frozenset;have q3:(fU "list" == fU "dict")=false:=rfl;unfold Builtin.«set.__init__»;unfold noKeywords;unfold Builtin.Frozenset.updateFrom;generalize z:IV=it
 wp_walk
 subst z;refine o_ hl1 (aa (Fc ?_));have nI:l≠(s.heap.push (vJ w)).objs.size:=by rw[sz];exact de (eP lt)
 refine G4 (knd:=knd) (b:=!jz w) (Walks.list (by simp[hh]) _ l nI O_) s.heap.objs.size ?_ hkf (λi=>ks.getD i default) (λi v e=>?_) hb _ 0 _ #[] rfl (du _)
  ⟨⟨_,dA _ U,U,U⟩,hl1.push _⟩ (lP (dc _ e0)) (GS _) λh tk es keep A1 K1=>?_
 ·rw[sz];intro m;rcases CJ.mp m with m |m
  ·exact de (DG _) m
  ·exact eM lt (CY.mp m)
 ·obtain⟨k,k1,k2⟩:=hv i v e;have:ks.getD i default=k:=by rw[d6,k1];rfl
  exact this ▸ k2
 ·have ek:(aY O_.size).map (λi=>ks.getD i default)=ks:=by
   apply DP;intro i;rw[CO]
   by_cases c:i<O_.size
   ·rw[FK c,Option.map_some,d6,CZ (hn ▸ c)];rfl
   ·rw[Di (by simpa using c),Di (by lia)];rfl
  rw[ek]at K1;refine aj (aj ⟨U,h,tk,U,⟨es,A1,K1⟩,λc o c1 c2=>?_⟩);refine keep c o ?_ (de c1) (dc _ (dc _ c2));rw[sz];intro m;exact de (eP c1) (CY.mp m)
end
section
variable {K:Type}[DecidableEq K][BEq K][LawfulBEq K][Inhabited K]{knd:KeyKind prog w K}
theorem Vq {l:ag}(hh:A.handled=none)(hl:s.heap.IsList l O_){kf:ae->K}(hkf:∀k v,knd.is k v=true->kf v=k){ks:List K}
  (hv:∀(i:Nat) (v:ae),O_[i]?=some v->∃k,ks[i]?=some k/\knd.is k v=true/\v.scannable=true) (hn:ks.length=O_.size) (hb:O_.size+1<sX) {Q:ae->ar->Prop}
  (q:∀h tk,TX knd kf ks s.heap h->Q (.ref s.heap.objs.size) {s with heap:=h,toks:=tk}):wpAny (aA prog w) A (call (.type "set") [.ref l]) Q E s:=by
 obtain⟨_,_,m⟩:=F.called_set.mro;have md:=F.called_set.made;have sb:=F.called_set.sub;have nt:=F.called_set.notType;have cc:=F.called_set.canCreate;have tc:=F.typeCall_set_1 (.ref l);refine AQ (Iz (show wpAny _ _ (callAny (.type "set") _) _ _ _ from ?_));refine aj ⟨Ae _ ⋯,fY F.entry_type_call ?_⟩;rw[Around.under_plain (weight_type_call_type "set" _ _) rfl]
 repeat' (first |assumption |wp_step)
 refine ir (PF (.ref l) (E:=E) (Q:=λv t=>v=.ref s.heap.objs.size/\t = {s with heap:=s.heap.push (vJ w)}) ⟨U,U⟩) λr t hr=>?_
 match r,hr with
 |.error e,hr=>exact hr
 |.ok (.ret v),hr=>
  obtain⟨e1,e2⟩:=hr;subst e1 e2;have e0:(s.heap.push (vJ w)).get? s.heap.objs.size=some (vJ w):=dA _ rfl;have ty:Shared.TypeIs {s with heap:=s.heap.push (vJ w)} (.ref s.heap.objs.size) "set":=⟨_,e0,U⟩;have i1:=F.called_set.init.lookup;have i2:=F.called_set.init.bind (.ref s.heap.objs.size)
  repeat' (first |assumption |wp_step)
  refine ir (G0 (knd:=knd) (E:=E) (by simp[hh]) hl hkf hv hn hb) λr2 t2 hr2=>?_
  match r2,hr2 with
  |.error e,hr2=>exact hr2
  |.ok (.ret v2),hr2=>
   obtain⟨f1,h,tk,f2,L⟩:=hr2;subst f1 f2
   repeat' (first |assumption |wp_step)
   exact q h tk L
end
end ST
namespace L2
open PySem PySem.Spec PyProof.Rows
def bJ:ae->af
 |.str z _=>z
 |_=>default
section
variable {a:aQ}{pos:fW}
inductive Vs (K:BFr)(Q:VK)(vs:List V)(H1:Hp):Prop|mk(l:ag)(zs:List af)(_:vs=[.ref l])(_:zN K H1 l (zs.map V.str))(_:zs.length<64)(_:∀n:Nat,n<=zs.length->(n<zs.length↔¬zs.Nodup)->Q (.int n) H1)
def Ms (K:BFr)(ta:TA):TE:=λσ H Q=>ta σ H (Vs K Q)
theorem Vl (L':X.calm=true)(hg1:Gl X "len")(hm1:X.mg "len" = none)(hg2:Gl X "set")(S9:X.mg "set" = none)(ha:PA X [a] ta)(hs:ax [a] X.env=[(false,eval a X.env)]:=by rfl)(hs1:ax [.Call (.Name "set" p2) [a] [] p3] X.env=[(false,eval (.Call (.Name "set" p2) [a] [] p3) X.env)]:=by rfl):
  PE X (.Call (.Name "len" p1) [.Call (.Name "set" p2) [a] [] p3] [] pos) (Ms X.K ta):=by
 intro pins s σ H Q I h;refine KQ (wG I hg1 hm1 aH (iD ?_ hs1 U));rw[hs1];show wpAny _ _ (KI ((false,eval (.Call (.Name "set" p2) [a] [] p3) X.env)::[])) _ _ s;refine iJ ?_;refine KQ (wG I hg2 S9 boot_set (fL (yj (ha p3 pins s σ H _ I h) λus s1 z=>?_) hs U));obtain⟨vs,H1,I1,r1,l,zs,e,hS,h64,q⟩:=z;subst e
 cases r1 with
 |cons r rr=>
  cases rr;cases r;obtain⟨K8,rv,pl,hz⟩:=I1.list hS;have il:=rv.length;rw[CH]at il;have hh:=I1.ok.hd L';refine ST.Vq (knd:=strKind X.prog X.w) (kf:=bJ) (ks:=zs) hh pl.isList (λk v hv=>?_) (λi v hi=>?_) ?_ ?_ λh1 tk1 L=>r_ ?_
  ·obtain⟨t,rfl⟩:=FG hv;rfl
  ·have SX:i<zs.length:=by
    rw[il];have:=(Dk.mp hi).1
    simpa using this
   obtain⟨u,hu,⟨t,rt⟩⟩:=rv.get (i:=i) (x:=.str zs[i]) (by rw[CO,CZ SX];rfl)
   have:v=.str zs[i] t:=by
    have h1:K8[i]?=some v:=by simpa using hi
    rw[hu,rt]at h1;exact(ao h1).symm
   subst this;exact⟨_,CZ SX,strKind_is _ _ _ _,U⟩
  ·simpa using il
  ·rw[dh,<- il];unfold sX;lia
  ·have J1:zH X pins σ H1 {s1 with heap:=h1,toks:=tk1}:=I1.kept λb o e=>L.keep b o (C5 e) e;obtain⟨⟨es,⟨⟨o,ep,t,og,ex,od,ft,_⟩,_⟩,K1⟩,_⟩:=L;have n1:es.size<=zs.length:=K1.len;refine PySem.call_len_set (s:={s1 with heap:=h1,toks:=tk1}) og ex od ft (by lia) ⟨.int es.size,H1,J1.tok _,⟨_,U⟩,q _ n1 ?_⟩;have:=gj K1.nd K1.mem;rw[CH,dJ]at this;exact this
end
open PySem.W
theorem zH.adoptO {o:HO}(I:zH X pins σ H s)(f:yL X pins H a)(new:yC X.prog X.w (upd H a o) s.heap a o):zH X pins σ (upd H a o) s:=by
 have ne:∀b o,H b=some o->b≠a:=λb o q=>zC q f.1;refine⟨I.ok,I.os,I.bare,⟨I.base.keep,I.base.slot,λb o q n hx=>?_,I.base.there,λb ys q=>?_,λb o u q=>?_,λb ps q=>?_⟩,I.loc,I.cell,?_,λx c q=>?_,λp hp=>?_,λb o q=>?_,I.len⟩
 ·have nb:b≠a:=λz=>by
   subst z;rcases f.2.2.2.1 with z |z
   ·exact hx z
   ·rw[z]at q;cases q
  rw[zm nb];exact I.base.free b o q n hx
 ·have z:=I.base.tups b ys q;rw[zm (ne _ _ z)];exact z
 ·have z:=I.base.frzs b o u q;rw[zm (ne _ _ z)];exact z
 ·obtain⟨m,z⟩:=I.base.tbls b ps q;exact⟨m,by rw[zm (ne _ _ z)];exact z⟩
 ·rw[zm (fK f.2.1)];exact I.free
 ·rw[zm (f.2.2.2.2.1 x c q)];exact I.freeC x c q
 ·obtain⟨p1,p2,p3,p4,p5⟩:=I.pin p hp;exact⟨p1,by rw[zm (f.2.2.2.2.2 p hp)];exact p2,p3,p4,p5⟩
 ·by_cases nb:b=a
  ·subst nb;rw[zi]at q;cases q;exact new
  ·rw[zm nb]at q;refine(I.hok b o q).stay (λc u _ z=>z) (λc z=>?_) λc ys z=>?_
   ·rw[zm (ne _ _ z)];exact z
   ·rw[zm (ne _ _ z)];exact z
theorem QW {F:α->β->Prop}{l:List α}{m:List β}(h:B_ F l m){b:β}(e:m[j]?=some b):∃a,l[j]?=some a/\F a b:=by
 induction h generalizing j with
 |nil=>cases e
 |cons r _ ih=>
  cases j with
  |zero=>
   cases e;exact⟨_,U,r⟩
  |succ j=>exact ih e
theorem UW {k:yY}{v:ae}(h:(q9 P w).is k v=true):qy (kV k) v:=by
 rcases yt h with⟨i,t,rfl,rfl⟩ |⟨x,t,rfl,rfl⟩
 ·exact⟨t,U⟩
 ·exact⟨t,U⟩
end L2
namespace Pg
open PySem L2
def Qr (c:Nat):Bool:=decide (97<=c)&&decide (c<=122)
theorem Zi:("abcdefghijklmnopqrstuvwxyz":af).cps.toList=Fq 97 26:=⋯
theorem nX:c∈Fq 97 26↔Qr c=true:=by
 rw[List.mem_range'_1];unfold Qr;rw[CM,decide_eq_true_iff,decide_eq_true_iff];lia
theorem QV (c:Nat):(!(Builtin.Str.occurrences ("abcdefghijklmnopqrstuvwxyz":af) ⟨#[c]⟩ 0 ("abcdefghijklmnopqrstuvwxyz":af).length 1).isEmpty)=Qr c:=by
 rw[gU,Zi,DX,dW,nX]
structure Um (z:af):Prop where
 lo:1<=z.length
 hi:z.length<=8
 all:z.cps.toList.all Qr=true
inductive Us (vs:List V)(H:Hp)(Q:VK)(_:XK):Prop|mk(z:_)(_:vs=[.str z,.str "abcdefghijklmnopqrstuvwxyz"])(_:Um z)(_:∀H',zk H H'->Q (.bl true) H')
inductive UP (vs:List V)(H:Hp)(Q:VK)(_:XK):Prop|mk(z:_)(_:vs=[.str z])(_:Um z)(_:∀H',zk H H'->Q (.bl true) H')
def cM (p:Int×af×Int):List V:=[.int p.1,.str p.2.1,.int p.2.2]
theorem Oq (cs:List Nat)(L_:Array Nat):((cs.map λc=>(⟨#[c]⟩:af)).foldl (λL_ p=>L_++("":af).cps++p.cps) L_).toList=L_.toList++cs:=by
 induction cs generalizing L_ with
 |nil=>simp
 |cons c r ih=>
  rw[dv,De,ih];have:("":af).cps = #[]:=⋯
  rw[this]
  simp
theorem Xm (cs:List Nat):(aG ("":af) (cs.map λc=>(⟨#[c]⟩:af))).cps.toList=cs:=by
 unfold aG HL
 cases cs with
 |nil=>rfl
 |cons c r=>
  show(((r.map λc=>(⟨#[c]⟩:af)).foldl (λL_ p=>L_++("":af).cps++p.cps) #[c])).toList=c::r;rw[Oq];rfl
theorem xf:("abcdefghijklmnopqrstuvwxyz":af).length<=au:=ui (m:=26) ⋯ rfl
def ug (z:af):Bool:=decide (1<=z.length)&&decide (z.length<=8)&&z.cps.toList.all Qr
theorem xi (h:ug z=true):Um z:=by
 unfold ug at h;rw[CM,CM]at h;exact⟨G' h.1.1,G' h.1.2,h.2⟩
end Pg
namespace DL
open PySem PySem.Spec PyProof.Rows
section
variable {K:Type}[DecidableEq K]{knd:KeyKind prog w K}
end
end DL
namespace L2
open PySem PySem.Spec PyProof.Rows
end L2
namespace Pg
open PySem L2
section
variable {S S':List ag}
end
structure Bb where
 L:ag
 dx:ag
 t:ag
 m:ag
 o:ag
 pd:ag
 ml:ag
 hl:ag
 tl:ag
 nl:ag
 L2:ag
 dx2:ag
 t2:ag
 m2:ag
 nms:List af
def Bb.us (A:Bb):List ag:=[A.hl,A.tl,A.ml,A.pd,A.o,A.m2,A.t2,A.L2,A.m,A.t,A.L,A.nl]
def Bb.S (A:Bb):List ag:=[A.L,A.t,A.m,A.o,A.pd,A.ml,A.hl,A.tl]
section
variable {S:List ag}{A:Bb}{b6 told':List (af×Int)}{n':Nat}
end
end Pg
variable {tpos:fW}
namespace L2
open PySem PySem.Spec PyProof.Rows
theorem zH.turnedS (I:zH X pins σ H s)(k:∀b o,¬b∈fp->s.heap.get? b=some o->h'.get? b=some o)(hf:∀b∈fp,yL X pins H b):zH X pins σ H {s with heap:=h',toks:=t'}:=by
 have nit:∀b u,H b=some u->¬b∈fp:=λb u e z=>by rw[(hf b z).1]at e;cases e
 refine I.step (g':=s.gens) (d':=s.drawn) (ch:=fp) (λb hb=>?_) (λb o _ _ hc e _=>k b o hc e) (λb o _ _ hc e _=>⟨o.slots,k b o hc e⟩) (λ_ _ _ _ n=>n)
  (λb o hc e=>⟨o,k b o hc e⟩) (λ_ _ e=>e) (λ_ _ _ e=>e) (λb ps e=>⟨#[],by rw[e];simp⟩) (λm hm=>?_) (λb u e=>?_) I.bare
 ·obtain⟨_,h2,_,h4,h5,h6⟩:=hf b hb;exact⟨h4,h2,h5,h6⟩
 ·obtain⟨o,es,ep,ho,r⟩:=hm;exact⟨o,es,ep,k _ o (λz=>(hf _ z).2.1 U) ho,r⟩
 ·refine(I.hok b u e).stay (λc v hc q=>k c v ?_ q) (λ_ q=>q) λ_ _ q=>q;rcases hc with z |z
  ·rw[z];exact nit b u e
  ·exact nit c _ z
theorem zH.pair {w:V}{x y:ae}(I:zH X pins σ H s)(J:zH X pins σ H {s with heap:=h',toks:=t'})(hv:qy v x)(hw:qy w y)(hp:IsPair h' s.heap.objs.size x y):
  zH X pins σ (upd H s.heap.objs.size (.tup [v,w])) {s with heap:=h',toks:=t'} :=
 J.adoptO (o:=.tup [v,w]) (I.fpOk (CI _) (I.hok.fresh (CI _))) ⟨zS U,[x,y],.cons hv (.cons hw .nil),_,hp,U,_,U⟩
def ck (K:BFr)(a b:ag):It :=
 ⟨λi H=>∃xs ys x y,zN K H a xs/\zN K H b ys/\xs[i]?=some x/\ys[i]?=some y,
  λi H z H'=>∃p x y,z=.ref p/\H p=none/\H'=upd H p (.tup [x,y])/\∀xs ys,zN K H a xs->zN K H b ys->xs[i]?=some x/\ys[i]?=some y,
  λi H=>∃xs ys,zN K H a xs/\zN K H b ys/\(xs.length<=i∨ys.length<=i)⟩
theorem La {K:BFr}{es:List aQ}{pos:fW}{z TI TO i1 i2 b:ag}(D:ZipApart z TI TO i1 i2 a b):
  xr P w K (.Tuple es n pos) (ck K a b) [z,TI,TO,i1,i2] z (λi h=>IsZip h z TI TO .none/\IsPair h TI (.ref i1) (.ref i2)/\(∃u v,IsPair h TO u v)/\h.IsListIter i1 a i/\h.IsListIter i2 b i) where
 mem:=by simp
 obj:=λi h st c hc=>by
  obtain⟨h1,h2,⟨u,v,h3⟩,h4,h5⟩:=st;simp only[CJ,CV,or_false]at hc;rcases hc with rfl |rfl |rfl |rfl |rfl
  ·exact⟨_,h1,λv q=>nomatch q⟩
  ·exact⟨_,h2,λv q=>nomatch q⟩
  ·exact⟨_,h3,λv q=>nomatch q⟩
  ·obtain⟨o,e,c,d⟩:=h4;exact⟨o,e,λv q=>by rw[d]at q;cases q⟩
  ·obtain⟨o,e,c,d⟩:=h5;exact⟨o,e,λv q=>by rw[d]at q;cases q⟩
 keep:=λi h h' st k=>by
  obtain⟨h1,h2,⟨u,v,h3⟩,h4,h5⟩:=st;exact⟨k z (by simp) _ h1,k TI (by simp) _ h2,⟨u,v,k TO (by simp) _ h3⟩,h4.at λo e=>k i1 (by simp) o e,h5.at λo e=>k i2 (by simp) o e⟩
 item:=by
  intro X hP hw hK hc i pins s σ H E I hf st hg;subst hP hw hK;obtain⟨h1,h2,⟨u,v,h3⟩,h4,h5⟩:=st;obtain⟨xs,ys,x,y,q1,q2,hx,hy⟩:=hg;obtain⟨K8,rv,p,hz⟩:=I.list q1;obtain⟨jts,Sw,p',hz'⟩:=I.list q2;obtain⟨x',hx',rx⟩:=rv.get hx;obtain⟨y',hy',ry⟩:=Sw.get hy
  have lt:∀c∈[z,TI,TO,i1,i2],c<s.heap.objs.size:=λc hc=>by
   obtain⟨o4,e4,_⟩:=h4;obtain⟨o5,e5,_⟩:=h5;simp only[CJ,CV,or_false]at hc;rcases hc with rfl |rfl |rfl |rfl |rfl
   ·exact C5 h1
   ·exact C5 h2
   ·exact C5 h3
   ·exact C5 e4
   ·exact C5 e5
  refine wpAny_pyNext_zip_item D h1 h2 h3 h4 h5 p.isList p'.isList (x:=x') (y:=y') (by simpa using hx') (by simpa using hy') λh' k1 k2 k3 k4 k5 k6 k7=>?_;refine⟨_,U,wpAny_letOwnedTupleGo_zip k1 λh2' m1 sb=>?_⟩;have sb:fB z h' h2':=sb
  have kk:∀c o,¬c∈[z,TI,TO,i1,i2]->s.heap.get? c=some o->h2'.get? c=some o:=λc o hc e=>by
   simp only[CJ,CV,or_false,not_or]at hc;exact sb.extBut _ _ hc.1 (k7 c o hc.1 hc.2.2.1 hc.2.2.2.1 hc.2.2.2.2 e)
  have nz:s.heap.objs.size≠z:=eM (lt z (by simp));have J:zH X pins σ H {s with heap:=h2',toks:=s.toks}:=I.turnedS kk hf;refine⟨.ref s.heap.objs.size,_,I.pair J rx ry (sb.extBut _ _ nz k5),U,⟨_,x,y,U,I.hok.fresh (CI _),U,λxs' SK r1 r2=>?_⟩,⟨m1,?_,⟨_,_,sb.extBut _ _ D.TOz k2⟩,k3.extBut sb.extBut D.i1z,k4.extBut sb.extBut D.i2z⟩,λc hc=>?_⟩
  ·rw[I.list_inj r1 q1,I.list_inj r2 q2];exact⟨hx,hy⟩
  ·exact sb.extBut _ _ D.TIz (k7 _ _ D.TIz D.TITO D.TIi1 D.TIi2 h2)
  ·rw[zm (de (lt c hc))];exact(hf c hc).1
 done:=by
  intro X hP hw hK hc i pins s σ H E I hf st hg;subst hP hw hK;obtain⟨h1,h2,⟨u,v,h3⟩,h4,h5⟩:=st;obtain⟨xs,ys,q1,q2,hl⟩:=hg;obtain⟨K8,rv,p,hz⟩:=I.list q1;obtain⟨jts,Sw,p',hz'⟩:=I.list q2;have l1:=rv.length;have l2:=Sw.length;refine wpAny_pyNext_zip_end (I.ok.hd hc) D h1 h2 h3 h4 h5 p.isList p'.isList ?_ λh' k=>⟨U,I.turnedS (t':=s.toks) (λc o hc e=>?_) hf⟩
  ·rcases hl with hl |hl
   ·exact .inl (by simp;lia)
   ·exact .inr (by simp;lia)
  ·simp only[CJ,CV,or_false,not_or]at hc;exact k c o hc.1 hc.2.2.1 hc.2.2.2.1 hc.2.2.2.2 e
 self:=λ_ _ _ _ _ st h=>HZ st.1 h
inductive pD (K:BFr)(R:(It->Hp->Prop))(vs:List V)(H1:Hp):Prop|mk(a b:_)(_:vs=[.ref a,.ref b])(_:(∃xs,zN K H1 a xs))(_:(∃ys,zN K H1 b ys))(_:R (ck K a b) H1)
def Tj (K:BFr)(ta:TA):TI:=λσ H R=>ta σ H (pD K R)
section
variable {es:List aQ}
theorem L3 {a b:aQ}{p pos:fW}(hg:Gl X "zip")(hm:X.mg "zip" = none)(ha:PA X [a,b] ta)(hs:ax [a,b] X.env=[(false,eval a X.env),(false,eval b X.env)]:=by rfl)(hs2:ax [b] X.env=[(false,eval b X.env)]:=by rfl):
  PI X (.Tuple es n tpos) (.Call (.Name "zip" p) [a,b] [] pos) (Tj X.K ta):=by
 intro pins s σ H R I h;refine KQ (wG I hg hm boot_zip (fL (yj (ha pos pins s σ H _ I h) λus s1 hM=>?_) (by rw[hs,hs2]) (by rw[hs2];rfl)));obtain⟨vs,H1,I1,r1,q1⟩:=hM;obtain⟨l1,l2,e,⟨xs,h1⟩,⟨ys,h2⟩,q⟩:=q1;subst e
 cases r1 with
 |cons r rr=>
  cases rr with
  |cons r' rr=>
   cases rr;cases r
   cases r'
   obtain⟨K8,rv,p,hz⟩:=I1.list h1;obtain⟨jts,Sw,p',hz'⟩:=I1.list h2;have a1:l1<s1.heap.objs.size:=by obtain⟨_,e,_⟩:=p.isList;exact C5 e
   have a2:l2<s1.heap.objs.size:=by obtain⟨_,e,_⟩:=p'.isList;exact C5 e
   refine call_zip_2 p.isList p'.isList λh' k1 k2 k3 k4 k5 k6 k7=>?_;refine HZ k1 ?_;refine⟨_,_,_,_,H1,U,I1.kept (t':=s1.toks) k7,La (zipApart_new a1 a2),⟨k1,k2,⟨_,_,k3⟩,k4,k5⟩,λc hc=>?_,q⟩
   have hc:s1.heap.objs.size<=c:=by
    simp only[CJ,CV,or_false]at hc;rcases hc with rfl |rfl |rfl |rfl |rfl
    ·exact Dp _ _
    ·exact Dp _ _
    ·exact Dp _ _
    ·exact CI _
    ·exact Dp _ _
   exact I1.fpOk hc (I1.hok.fresh hc)
end
open PySem.W
end L2
namespace DT
open PySem PySem.Spec PyProof.Rows
section
variable {K:Type}[DecidableEq K]{knd:KeyKind prog w K}
end
end DT
namespace L2
open PySem PySem.Spec PyProof.Rows
section
variable {a b:aQ}{rest:List aQ}{ta tb:TE}{pos:fW}
end
inductive lM (K:BFr)(x y:V)(H:Hp)(Q:VK):Prop|mk(a b xs:_)(_:x=.ref a)(_:y=.ref b)(_:zN K H a xs)(_:zN K H b [])(_:(xs=[]->Q (.bl false) H))(_:(xs≠[]->Q (.bl true) H))
theorem Jj (hu:X.A.units<hZ):Zf X (fA .NotEq) (lM X.K):=by
 intro pins s σ H x y v u Q I rx ry h;obtain⟨a,b,xs,rfl,rfl,h1,h2,q1,q2⟩:=h;cases rx;cases ry;obtain⟨us,r1,p1,_⟩:=I.list h1;obtain⟨ws,r2,p2,_⟩:=I.list h2;have l1:=r1.length;have l2:=r2.length;rw[DK]at l2
 by_cases hl:xs=[]
 ·subst hl;rw[DK]at l1;refine G_ p1.isList p2.isList (by simp;lia) hu (e:=λ_=>true) (λj h1 h2=>?_) _ _ _ _ ⟨.bl false,H,I,?_,q1 U⟩
  ·simp at h1
   lia
  ·have:us=[]:=eh.mp l1.symm;subst this;rfl
 ·have:0<xs.length:=List.length_pos_iff.mpr hl;exact Af p1.isList p2.isList (by simp;lia) hu _ _ _ _ ⟨.bl true,H,I,U,q2 hl⟩
open Builtin Builtin.Str
section
variable {J l:ag}
end
section
variable {a:aQ}{kn:Nat}
end
end L2
namespace L2
open PySem PySem.Spec PyProof.Rows
inductive Yh (K:BFr)(xs:List V)(H:Hp)(Q:VK):Prop|mk(a:ag)(ns:List Int)(m:Int)(_:xs=[.ref a])(_:zN K H a (ns.map V.int))(_:m∈ns)(_:(∀x∈ns,x<=m))(_:Q (.int m) H)
theorem Oz (hc:X.calm=true):uH X (.builtin "max") (Yh X.K):=by
 intro pins s σ H xs us Q I r h;obtain⟨a,ns,m,rfl,hS,hm,hx,q⟩:=h;obtain⟨u,rfl,ru⟩:=kA r;cases ru;obtain⟨K8,rv,pl,hz⟩:=I.list hS;have hl:K8.length=ns.length:=by rw[<- rv.length,CH]
 have hn:0<ns.length:=EY hm;have hlt':a<s.heap.objs.size:=by obtain⟨o,e,_⟩:=pl.isList;exact C5 e
 have Sn:a≠s.heap.objs.size:=de hlt';refine call_max_walk (o_ pl.isList ?_);refine⟨s.heap.objs.size,_,_,_,_,_,λi j=>decide (ns.getD i 0 > ns.getD j 0),U,Walks.list (A:=X.A.in1) (I.ok.hd hc) _ a Sn K8.toArray,⟨⟨_,dA _ U,U,U⟩,pl.isList.push _⟩,λb hb=>?_,by rw[dh];omega,λi j vi vj s' Q' E' h1 h2 h3=>?_,λv h' tk hv hk=>?_⟩
 ·show b<(s.heap.push _).objs.size;rw[DF];rcases CJ.mp hb with rfl |hb
  ·exact DG _
  ·rw[CY.mp hb];exact eP hlt'
 ·obtain⟨t1,rfl⟩:=V0 rv h1;obtain⟨t2,rfl⟩:=V0 rv h2;exact gt_int h3
 ·obtain⟨t,rfl⟩:=V0 rv hv;obtain⟨b1,b2⟩:=argBest_gt (λi=>ns.getD i 0) (K8.toArray.size-1);rw[dh]at b1 b2;have hi:argBest (λi j=>decide (ns.getD i 0 > ns.getD j 0)) (K8.length-1)<ns.length:=by omega
  have e:ns.getD (argBest (λi j=>decide (ns.getD i 0 > ns.getD j 0)) (K8.length-1)) 0=m:=by
   refine Int.le_antisymm (hx _ ?_) ?_
   ·rw[d6,CZ hi];exact eN hi
   ·obtain⟨j,hj,rfl⟩:=List.getElem_of_mem hm;have:=b2 j (by omega);rw[d6,CZ hj]at this;exact this
  refine⟨.int m,H,I.walked hk,⟨t,?_⟩,q⟩;rw[<- e,dh]
theorem Ml {A B:Hp->Prop}(h:A H):qL σ H λb H2=>if b=true then A H2 else B H2:=by
 show if true=true then A H else B H;exact qY h
structure yN {α:Type}(H:Hp)(ys:List V)(xs:List α)(P:Hp->V->α->Prop):Prop where
 len:ys.length=xs.length
 at_:∀(i:Nat) (y:V),ys[i]?=some y->∃x,xs[i]?=some x/\∀H',zk H H'->P H' y x
section
variable {J:It}{xs:List α}{P:Hp->V->α->Prop}
theorem js (W:Yx J H ys)(T:yN H ys xs P)(hD:H D=none)(hz:xs.length<au)(φ:α->V)(he:∀x∈xs,∀v H' R,zk H H'->P H' v x->(∀H'',zk H' H''->R (φ x) H'')->te (σ.set 0 (some v)) H' R)(hf:∀H',zk H H'->H' D=some (.lst (xs.map φ))->K_ (xs.map φ) H'):jt J D (qc 0) qL te K_ σ (upd H D (.lst [])):=by
 refine va W hD (λi zs H'=>zs=(xs.take i).map φ) (λσ'=>∀x,σ'.set 0 (some x)=σ.set 0 (some x)) (λ_=>rfl) rfl ?_ ?_
 ·rintro i y zs σ' H' hy hσ s hd hl rfl;obtain⟨x,hx,hP⟩:=T.at_ i y hy;have tk:xs.take (i+1)=xs.take i++[x]:=by rw[dR,hx];rfl
  have hi:i<xs.length:=(C7.mp hx).1;have Ss:∀z,(σ'.set 0 (some y)).set 0 (some z)=σ.set 0 (some z):=λz=>by rw[DM];exact hσ z
  unfold Qb qc;dsimp only;refine Ml ?_;rw[hσ y]at Ss ⊢;refine he x (dG hx) y _ _ s (hP _ s) λH3 s3=>⟨s3 _ _ hd,by lia,Ss,λb o z=>?_,zi,?_,?_⟩
  ·rw[zm (zC z hD)];exact s3 _ _ (s _ _ z)
  ·rw[CS,dB];lia
  ·rw[tk,CN];rfl
 ·rintro zs H' s hd hl rfl;rw[T.len,dX]at hd ⊢;exact hf H' s hd
theorem kL (W:Yx J H ys)(hl:ys.length=xs.length)(hD:H D=none)(hz:xs.length<au)(S:V->α->Prop)(he:∀(i:Nat) x v,xs[i]?=some x->ys[i]?=some v->∀H' R,zk H H'->(∀u H'',S u x->zk H' H''->R u H'')->te (σ.set 0 (some v)) H' R)(hf:∀zs H',zk H H'->zs.length=xs.length->(∀(i:Nat) u,zs[i]?=some u->∃x,xs[i]?=some x/\S u x)->H' D=some (.lst zs)->K_ zs H'):jt J D (qc 0) qL te K_ σ (upd H D (.lst [])):=by
 refine va W hD (λi zs H'=>zs.length=i/\∀(j:Nat) u,zs[j]?=some u->∃x,xs[j]?=some x/\S u x) (λσ'=>∀x,σ'.set 0 (some x)=σ.set 0 (some x)) (λ_=>rfl) ⟨U,λj u e=>by cases e⟩ ?_ ?_
 ·rintro i y zs σ' H' hy hσ s hd Q_ ⟨g1,g2⟩;have hi:i<xs.length:=by rw[<- hl];exact(C7.mp hy).1
  have hx:=CZ hi;have Ss:∀z,(σ'.set 0 (some y)).set 0 (some z)=σ.set 0 (some z):=λz=>by rw[DM];exact hσ z
  unfold Qb qc;dsimp only;refine Ml ?_;rw[hσ y]at Ss ⊢;refine he i _ y hx hy _ _ s λu H3 hu s3=>⟨s3 _ _ hd,by lia,Ss,λb o z=>?_,zi,?_,?_,λj w e=>?_⟩
  ·rw[zm (zC z hD)];exact s3 _ _ (s _ _ z)
  ·rw[CS,dB];lia
  ·rw[CS,dB,g1]
  ·by_cases hj:j<zs.length
   ·rw[Dh hj]at e;exact g2 j w e
   ·rw[dZ (Dc hj)]at e
    cases q:j-zs.length with
    |zero=>
     rw[q]at e;cases e;have:j=i:=by lia
     subst this;exact⟨_,hx,hu⟩
    |succ n=>
     rw[q]at e;cases e
 ·rintro zs H' s hd _ ⟨g1,g2⟩;exact hf zs H' s (g1.trans hl) g2 hd
end
section
variable {x0:af}
end
end L2
namespace Pg
open PySem L2
section
variable {tab:List (List af)}
end
section
variable {tab:List (List af)}
end
theorem xK (sep:af)(m:Nat):∀(zs:List af) (L_:Nat),(∀z∈zs,z.length<=m)->zs.foldl (λa z=>a+z.length+sep.length) L_<=L_+zs.length*(m+sep.length):=by
 intro zs
 induction zs with
 |nil=>intro L_ _;simp
 |cons z r ih=>
  intro L_ h;rw[De];have h1:=ih (L_+z.length+sep.length) λz hz=>h z (C6 _ hz);have h2:=h z CU;rw[dz,Ea];omega
theorem lT {m:Nat}(hs:sep.length<=2):∀(k:Nat) (zs:List af),zs.length=k->(∀z∈zs,z.length<=m)->(aG sep zs).length<=k*(m+2):=by
 intro k
 induction k with
 |zero=>
  intro zs e _;rw[eh.mp e];exact du _
 |succ k ih=>
  intro zs e h;rcases List.eq_nil_or_concat zs with rfl |⟨r,z,rfl⟩
  ·cases e
  ·rw[List.concat_eq_append]at e h ⊢;have er:r.length=k:=by rw[CS,dB]at e;lia
   have hz:=h z (dN _ CU);have hr:=ih r er λz hz=>h z (d9 _ hz);rw[Ea]
   by_cases c:r=[]
   ·subst c;rw[EK,xa];lia
   ·rw[vU _ _ c,yn,yn];lia
theorem yZ {m k:Nat}(h:∀z∈zs,z.length<=m)(hk:zs.length<=k)(hs:sep.length<=2)(hz:FD (k*(m+2)) 1000000=true):AU sep zs=true/\(aG sep zs).length<=k*(m+2):=by
 have h1:=xK sep m zs 0 h;have h2:zs.length*(m+sep.length)<=k*(m+2):=Nat.mul_le_mul hk (Eb hs _);have h3:=C9 hz;constructor
 ·unfold AU sQ;rw[Hg,Ds,decide_eq_false_iff_not,ai];omega
 ·exact CW (lT hs _ zs U h) (Ei _ hk)
theorem oA (n:Nat):yN H ((aY n).map λk=>V.int (0+(k:Nat))) (aY n) (λ_ v k=>v=.int (k:Nat)) :=
 ⟨CH _,λi y h=>by
  rw[CO]at h;obtain⟨z,h1,rfl⟩:=C8.mp h;exact⟨z,h1,λ_ _=>by rw[eO]⟩⟩
end Pg
namespace K12
open PySem PySem.NumText L2 Pg
seal PE PA PT PW PS y8 PG j5 PI jQ PO PK
section
variable {K:BFr}{mg:af->Option ae}
end
end K12
namespace Pg
open PySem L2
section
variable {K:BFr}
end
end Pg
namespace L2
open PySem PySem.Spec PyProof.Rows
section
variable {d:ag}
theorem zH.freeze (I:zH X pins σ H s)(hd:H d=some (.dK kvs)):∃o,zH X pins σ (upd H d (.frz o (.dK kvs))) s:=by
 have ok:=I.hok d _ hd;obtain⟨_,_,vs,P',o,es,ep,ho,r⟩:=id ok
 have ne:∀b (u:HO),H b=some u->(∀k,u≠.dK k)->b≠d:=λb u q n e=>by
  subst e;rw[hd]at q;exact n _ (ao q).symm
 have nn:∀b,H b=none->b≠d:=λb q e=>by rw[e,hd]at q;cases q
 refine⟨o,I.ok,I.os,I.bare,⟨I.base.keep,I.base.slot,λb u q n hx=>?_,I.base.there,λb ys q=>?_,λb u v q=>?_,λb ps q=>?_⟩,I.loc,I.cell,?_,λx c q=>?_,λp hp=>?_,λb u q=>?_,I.len⟩
 ·have z:=I.base.free b u q n hx;rw[zm (nn b z)];exact z
 ·have z:=I.base.tups b ys q;rw[zm (ne _ _ z λ_ e=>nomatch e)];exact z
 ·have z:=I.base.frzs b u v q;rw[zm (ne _ _ z λ_ e=>nomatch e)];exact z
 ·obtain⟨m,z⟩:=I.base.tbls b ps q;exact⟨m,by rw[zm (ne _ _ z λ_ e=>nomatch e)];exact z⟩
 ·rw[zm (nn _ I.free)];exact I.free
 ·have z:=I.freeC x c q;rw[zm (nn _ z)];exact z
 ·obtain⟨p1,p2,p3,p4,p5⟩:=I.pin p hp;exact⟨p1,by rw[zm (nn _ p2)];exact p2,p3,p4,p5⟩
 ·by_cases nb:b=d
  ·subst nb;rw[zi]at q;cases q;exact⟨ho,ok⟩
  ·rw[zm nb]at q;refine(I.hok b u q).stay (λc u _ z=>z) (λc z=>?_) λc ys z=>?_
   ·rw[zm (ne _ _ z λ_ e=>nomatch e)];exact z
   ·rw[zm (ne _ _ z λ_ e=>nomatch e)];exact z
end
def cp (d:ag)(o:g_)(kvs:List (yY×V)):It :=
 ⟨λi H=>H d=some (.frz o (.dK kvs))/\i<kvs.length,λi H x H'=>H'=H/\∃p,kvs[i]?=some p/\x=kV p.1,λi H=>H d=some (.frz o (.dK kvs))/\kvs.length<=i⟩
theorem XI {d:ag}(I:zH X pins σ H s)(hd:H d=some (.frz o (.dK kvs))):
  (d==iw)=false/\∃vs es ep,o.data=.dict es ep/\KV kvs vs/\s.heap.DictAt (q9 X.prog X.w) d vs ep:=by
 obtain⟨h1,h2,h3,vs,P',o',es,ep,h4,h5,h6,h7⟩:=I.hok d _ hd;rw[h1]at h4;cases h4;exact⟨h3,vs,es,ep,h6,P',o,es,h1,h5,h6,h7⟩
theorem OG {K:BFr}{d:ag}{es:Array DictEntry}(he:o.data=.dict es ep):
  xr P w K tg (cp d o kvs) [it] it (λi h=>h.IsKeyIter it d i kvs.length ep) where
 mem:=by simp
 obj:=λi h st b hb=>by
  have e:b=it:=by simpa using hb
  subst e;obtain⟨o,e,c,d⟩:=st;exact⟨o,e,λv z=>by rw[d]at z;cases z⟩
 keep:=λi h h' st k=>st.at λo e=>k it (by simp) o e
 item:=by
  intro X hP hw hK hc i pins s σ H E I hf st hg;subst hP hw hK;obtain⟨hd,hi⟩:=hg;obtain⟨_,vs,Nr,ep',e1,P',D⟩:=XI I hd;rw[he]at e1;cases e1;have rl:kvs.length=vs.length:=iz P';obtain⟨⟨k,v⟩,hx⟩:∃q,vs[i]?=some q:=⟨_,CZ (show i<vs.length by lia)⟩;obtain⟨p,f1,f2,f3⟩:=QW P' hx;obtain⟨f0,f1',f2',f3',f4,f5⟩:=hf it (by simp);rw[rl]at st;refine wpAny_pyNext_dict_item st D hx λSj h' hk M' sb=>?_;have I1:zH X pins σ H {s with heap:=h'}:=I.turned (t':=s.toks) (λb o hb e=>(sb.2 b hb).trans e) f0 f1' f3' f4 f5;have Sl:=M';rw[<- rl]at Sl;obtain⟨o',e,c,dd⟩:=id M';have g:=UW hk;have f2:p.1=k:=f2;rw[<- f2]at g;exact⟨Sj,U,xg (s:={s with heap:=h'}) e c dd ∅ ⟨_,H,I1,g,⟨U,p,f1,U⟩,Sl,λb hb=>(hf b hb).1⟩⟩
 done:=by
  intro X hP hw hK hc i pins s σ H E I hf st hg;subst hP hw hK;obtain⟨hd,hi⟩:=hg;obtain⟨_,vs,Nr,ep',e1,P',D⟩:=XI I hd;rw[he]at e1;cases e1;have rl:kvs.length=vs.length:=iz P';obtain⟨f0,f1,f2,f3,f4,f5⟩:=hf it (by simp);rw[rl]at st;exact wpAny_pyNext_dict_end (I.ok.hd hc) st D (Di (by lia)) λh' eb=>⟨U,I.turned (t':=s.toks) (λb o hb e=>eb b o hb e) f0 f1 f3 f4 f5⟩
 self:=λ_ _ _ _ _ st h=>wpAny_pyIter_keyiter st h
inductive gN (R:(It->Hp->Prop))(x:V)(H1:Hp):Prop|mk(d o kvs:_)(_:x=.ref d)(_:H1 d=some (.frz o (.dK kvs)))(_:R (cp d o kvs) H1)
def rY (tl:TE):TI:=λσ H R=>tl σ H (gN R)
theorem gW {l:aQ}(hl:PE X l tl):PI X tg l (rY tl):=by
 intro pins s σ H R I h;refine yj (hl pins s σ H _ I h) λv s1 hM=>?_;obtain⟨x,H1,I1,r1,q1⟩:=hM;obtain⟨d,o,kvs,e,hd,q⟩:=q1;subst e;cases r1;obtain⟨h0,vs,es,ep,e1,P',D⟩:=XI I1 hd;have rl:kvs.length=vs.length:=iz P';refine wpAny_pyIter_dict h0 D ?_;refine⟨s1.heap.objs.size,[s1.heap.objs.size],_,_,H1,U,I1.kept (t':=s1.toks) λb o e=>dc _ e,OG e1,?_,λb hb=>?_,q⟩
 ·rw[rl];exact⟨_,dA _ U,U,U⟩
 ·have e:b=s1.heap.objs.size:=by simpa using hb
  subst e;exact I1.fpOk (CI _) (I1.hok.fresh (CI _))
theorem VC {d:ag}(hd:H d=some (.frz o (.dK kvs))):Yx (cp d o kvs) H (kvs.map λp=>kV p.1):=by
 refine⟨λi x H' e s=>?_,λH' s=>⟨s _ _ hd,by rw[CH];exact CI _⟩⟩;rw[CO]at e;obtain⟨p,hp,rfl⟩:=C8.mp e;exact⟨⟨s _ _ hd,(C7.mp hp).1⟩,λy H'' ⟨e1,p',h1,h2⟩=>⟨e1,by rw[hp]at h1;cases h1;exact h2⟩⟩
theorem tS {J:It}{D:j6}(Pv:Nat->St->Hp->Prop)(h0:Pv 0 σ H)(hg:∀i x σ H,xs[i]?=some x->Pv i σ H->J.go i H/\∀y H',J.yld i H y H'->H'=H/\y=x)(hp:∀σ H,Pv xs.length σ H->J.stop xs.length H)(hs:∀i x σ H,xs[i]?=some x->Pv i σ H->g x σ H λσ2 H2=>tb {D with nx:=Pv (i+1),ct:=Pv (i+1),bk:=D.nx} σ2 H2)(hd:∀σ H,Pv xs.length σ H->D.nx σ H):
  ∃W:Nat->Nat->St->Hp->Prop,(∃m,W 0 m σ H)/\∀i m σ H,W i m σ H ->
   (J.stop i H/\D.nx σ H)∨(J.go i H/\∃N:St->Hp->Prop,(∀σ' H',N σ' H'->∃m',m'<m/\W (i+1) m' σ' H')/\∀x H',J.yld i H x H'->g x σ H' λσ2 H2=>tb {D with nx:=N,ct:=N,bk:=D.nx} σ2 H2):=by
 refine⟨λi m σ H=>m=xs.length-i/\i<=xs.length/\Pv i σ H,⟨xs.length,by simp,du _,h0⟩,?_⟩;rintro i m σ H ⟨rfl,hi,p⟩
 by_cases Sn:i<xs.length
 ·have hx:=CZ Sn;obtain⟨g1,g2⟩:=hg i _ σ H hx p;refine .inr ⟨g1,Pv (i+1),λσ' H' p'=>⟨xs.length-(i+1),by lia,U,Sn,p'⟩,λx H' y=>?_⟩;obtain⟨e1,e2⟩:=g2 x H' y;subst e1 e2;exact hs i _ σ _ hx p
 ·have e:i=xs.length:=by lia
  subst e;exact .inl ⟨hp σ H p,hd σ H p⟩
def BM:ae->Bool
 |.bool b=>b
 |_=>false
theorem Ls {bs:List Bool}(r:qp (bs.map V.bl) K8):K8=bs.map fO:=by
 induction bs generalizing K8 with
 |nil=>cases r;rfl
 |cons b l ih=>
  cases r with
  |cons a c=>rw[dv,<- ih c,show _=fO b from a]
theorem PR {bs:List Bool}:∀y,y∈(bs.map fO).toArray->sx A s y (.bool true) (BM y):=λy hy=>by
 obtain⟨b,_,rfl⟩:=CK.mp (List.mem_toArray.mp hy);have:=Fn (A:=A) (s:=s) b true;rw[show(b==true)=b by cases b<;>rfl]at this;exact this
inductive Y8 (x:V)(vs:List V)(H:Hp)(Q:VK):Prop|mk(l:ag)(bs:List Bool)(_:x=.ref l)(_:vs=[.bl true])(_:H l=some (.lst (bs.map V.bl)))(_:Q (.int (bs.countP id:Nat)) H)
theorem lj:BO X "list.count" Y8:=by
 intro pins s σ H x vs v us Q I rx rv h;obtain⟨l,bs,rfl,rfl,hH,q⟩:=h;cases rx;obtain⟨u,rfl,ru⟩:=rv.one
 cases (show u=fO true from ru)
 obtain⟨z,K8,n,r,hl,e⟩:=I.lstM hH
 cases Ls r
 refine sq F.slot_list_count ⟨_,e,U⟩ F.entry_list_count (F.args_list_count_2 _ _) (SeqAt.list_countAt l _ n none #[] (.bool true) BM) ⟨e,PR,?_⟩
 have ec:((bs.map fO).toArray.toList).countP BM=bs.countP id:=by
  rw[List.toList_toArray,List.countP_map];rfl
 rw[ec];exact⟨.int _,H,I.tok _,⟨_,U⟩,q⟩
inductive JG (x:V)(vs:List V)(H:Hp)(Q:VK):Prop|mk(l:ag)(bs:List Bool)(j:Nat)(_:x=.ref l)(_:vs=[.bl true])(_:H l=some (.lst (bs.map V.bl)))(_:bs[j]?=some true)(_:(∀m,m<j->bs[m]?=some false))(_:Q (.int (j:Nat)) H)
theorem LQ:BO X "list.index" JG:=by
 intro pins s σ H x vs v us Q I rx rv h;obtain⟨l,bs,j,rfl,rfl,hH,hj,hm,q⟩:=h;cases rx;obtain⟨u,rfl,ru⟩:=rv.one
 cases (show u=fO true from ru)
 obtain⟨z,K8,n,r,hl,e⟩:=I.lstM hH
 cases Ls r
 have jl:=(C7.mp hj).1;have l63:=Zy;rw[CH]at z;refine sq F.slot_list_index ⟨_,e,U⟩ F.entry_list_index (F.args_list_index_2 _ _) (SeqAt.list_indexAt l _ n none #[] (.bool true) BM j (by simpa using jl) (by lia) ?_ ?_) ⟨e,PR,.int _,H,I.tok _,⟨_,U⟩,q⟩
 ·have:=(C7.mp hj).2;simp only[EG,Ej];rw[this];rfl
 ·intro m hm1 S9;have:=(C7.mp (hm m S9)).2;simp only[EG,Ej];rw[this];rfl
inductive cI (a b c d:Prop):Prop|mk(h1:a)(h2:b)(h3:c)(h4:d)
section
variable {J:It}{xs:List α}{P:Hp->V->α->Prop}{K:BFr}
theorem xv {H3:Hp}{zs:List V}{t:ag}{c:List V}(G:qd H' zs cs)(hd:H' D=some (.lst zs))(s3:zk H' H3)(e3:H3 t=some (.tup c)):qd (upd H3 D (.lst (zs++[.ref t]))) (zs++[.ref t]) (cs++[c]):=by
 refine qd.snoc ((G.same s3).upd λc z=>?_) ?_
 ·rw[s3 _ _ hd]at z;cases z
 ·rw[zm (yy e3 (s3 _ _ hd) (by intro z;cases z))];exact e3
theorem oK (W:Yx J H ys)(T:yN H ys xs P)(hD:H D=none)(hz:xs.length<au)(ψ:α->List V)(he:∀x∈xs,∀v H' R,zk H H'->P H' v x->x8 H' (.tup (ψ x)) R->te (σ.set 0 (some v)) H' R)(hf:∀zs H',zk H H'->H' D=some (.lst zs)->qd H' zs (xs.map ψ)->K_ zs H'):jt J D (qc 0) qL te K_ σ (upd H D (.lst [])):=by
 refine va W hD (λi zs H'=>qd H' zs ((xs.take i).map ψ)) (λσ'=>∀x,σ'.set 0 (some x)=σ.set 0 (some x)) (λ_=>rfl) qd.nil ?_ ?_
 ·rintro i y zs σ' H' hy hσ s hd hl G;obtain⟨x,hx,hP⟩:=T.at_ i y hy;have tk:xs.take (i+1)=xs.take i++[x]:=by rw[dR,hx];rfl
  have hi:i<xs.length:=(C7.mp hx).1;have Ss:∀z,(σ'.set 0 (some y)).set 0 (some z)=σ.set 0 (some z):=λz=>by rw[DM];exact hσ z
  unfold Qb qc;dsimp only;refine Ml ?_;rw[hσ y]at Ss ⊢;refine he x (dG hx) y _ _ s (hP _ s) λt H3 s3 n3 e3=>⟨s3 _ _ hd,by lia,Ss,λb o z=>?_,zi,?_,?_⟩
  ·rw[zm (zC z hD)];exact s3 _ _ (s _ _ z)
  ·rw[CS,dB];lia
  ·rw[tk,CN];exact xv G hd s3 e3
 ·rintro zs H' s hd hl G;rw[T.len,dX]at G;exact hf zs H' s hd G
end
theorem yN.same {xs:List α}{P:Hp->V->α->Prop}(T:yN H ys xs P)(s:zk H H'):yN H' ys xs P:=⟨T.len,λi y e=>by
 obtain⟨x,h1,h2⟩:=T.at_ i y e;exact⟨x,h1,λH'' s'=>h2 H'' (s.trans s')⟩⟩
section
variable {K:BFr}{b:ag}{D:j6}
abbrev m9 (J:It)(g:TG)(tb:TS)(D:j6)(σ:St)(H:Hp):Prop:=∃W:Nat->Nat->St->Hp->Prop,(∃m,W 0 m σ H)/\∀i m σ H,W i m σ H ->
   (J.stop i H/\D.nx σ H)∨(J.go i H/\∃N:St->Hp->Prop,(∀σ' H',N σ' H'->∃m',m'<m/\W (i+1) m' σ' H')/\∀x H',J.yld i H x H'->g x σ H' λσ2 H2=>tb {D with nx:=N,ct:=N,bk:=D.nx} σ2 H2)
theorem u7 (Pv:Nat->St->Hp->Prop)(h0:Pv 0 σ H)(hl:∀i σ H,i<=xs.length->Pv i σ H->zN K H a xs)(hs:∀i x σ H,xs[i]?=some x->Pv i σ H->∀E:j6,(∀σ' H',Pv (i+1) σ' H'->E.nx σ' H')->g x σ H λσ2 H2=>tb E σ2 H2)(hd:∀σ H,Pv xs.length σ H->D.nx σ H):m9 (mW K a) g tb D σ H :=
 Y5 Pv h0 hl (λi x σ H hx p=>hs i x σ H hx p _ λ_ _ h=>h) hd
theorem ZF (Pv:Nat->St->Hp->Prop)(h0:Pv 0 σ H)(hs:∀(i:Nat) σ H,i<n->Pv i σ H->∀E:j6,(∀σ' H',Pv (i+1) σ' H'->E.nx σ' H')->g (.int (lo+i)) σ H λσ2 H2=>tb E σ2 H2)(hd:∀σ H,Pv n σ H->D.nx σ H):m9 (rD lo n) g tb D σ H :=
 Om Pv h0 (λi σ H hx p=>hs i σ H hx p _ λ_ _ h=>h) hd
end
inductive t5 (t u:TS)(D:j6)(σ:St)(H:Hp):Prop|mk(P:St->Hp->Prop)(_:t {D with nx:=P} σ H)(_:∀σ' H',P σ' H'->u D σ' H')
theorem uG {rest:List n_}{t u:TS}(h1:PS X st t)(h2:y8 X rest u):y8 X (st::rest) (t5 t u):=by
 intro pins s σ H D I h;obtain⟨P,h,k⟩:=h;refine Ay (yj (h1 pins s σ H {D with nx:=P} I h) λf s1 q=>?_)
 cases f with
 |next=>
  obtain⟨σ',H',I',q⟩:=q;exact h2 pins s1 σ' H' D I' (k _ _ q)
 |ret v=>exact q
 |brk=>exact q
 |cont=>exact q
inductive Pa (K:BFr)(x y:V)(H:Hp)(Q:VK):Prop|mk(a b xs:_)(_:x=.ref a)(_:y=.ref b)(_:zN K H a xs)(_:zN K H b [])(_:(xs=[]->Q (.bl true) H))(_:(xs≠[]->Q (.bl false) H))
theorem mH (hu:X.A.units<hZ):Zf X (fA .Eq) (Pa X.K):=by
 intro pins s σ H x y v u Q I rx ry h;obtain⟨a,b,xs,rfl,rfl,h1,h2,q1,q2⟩:=h;cases rx;cases ry;obtain⟨us,r1,p1,_⟩:=I.list h1;obtain⟨ws,r2,p2,_⟩:=I.list h2;have l1:=r1.length;have l2:=r2.length;rw[DK]at l2
 by_cases hl:xs=[]
 ·subst hl;rw[DK]at l1;refine IG p1.isList p2.isList (by simp;lia) hu (e:=λ_=>true) (λj h1 h2=>?_) ?_
  ·simp at h1
   lia
  ·have:us=[]:=eh.mp l1.symm;subst this;exact⟨.bl true,H,I,U,q1 U⟩
 ·have:0<xs.length:=List.length_pos_iff.mpr hl;exact SeqAt.eq_list_lengthsAt p1.isList p2.isList (by simp;lia) hu ⟨.bl false,H,I,U,q2 hl⟩
theorem kI {t u:TS}{D:j6}(P0:St->Hp->Prop)(h1:∀E:j6,(∀σ' H',P0 σ' H'->E.nx σ' H')->t E σ H)(h2:∀σ' H',P0 σ' H'->u D σ' H'):t5 t u D σ H:=⟨P0,h1 _ λ_ _ h=>h,h2⟩
theorem QL {c:TT}{t u r:TS}{D:j6}(C:(Bool->Hp->Prop)->Prop)(h1:∀Q,C Q->c σ H Q)(h2:C λb H1=>if b=true then t {D with nx:=r D} σ H1 else u {D with nx:=r D} σ H1):Bz (Bl c t u) r D σ H:=h1 _ h2
theorem jF {K:BFr}{mg:af->Option ae}{E:XK}:(u5 CX P w K mg base N qual scope f cd A outer s H E).K=K:=rfl
theorem uj:X.nox.K=X.K:=rfl
end L2
namespace Pg
open PySem L2
inductive JN (K:BFr)(vs:List V)(H:Hp)(Q:VK)(_:XK):Prop|mk(v:_)(_:vs=[v,.str "abcdefghijklmnopqrstuvwxyz"])(_:((∃z,v=.str z/\z.length<=4000000/\∀H',zk H H'->Q (.bl (ug z)) H')∨(j4 K H v/\Q (.bl false) H)))
inductive Y6 (K:BFr)(vs:List V)(H:Hp)(Q:VK)(_:XK):Prop|mk(v:_)(_:vs=[v])(_:((∃z,v=.str z/\z.length<=4000000/\∀H',zk H H'->Q (.bl (ug z)) H')∨(j4 K H v/\Q (.bl false) H)))
end Pg
namespace K12
open PySem PySem.NumText L2 Pg
seal PE PA PT PW PS y8 PG j5 PI jQ PO PK
section
variable {K:BFr}{mg:af->Option ae}
theorem LI (F:qU K "is_word_of" "is_word_of" (top 29) f fd)(G:vh mg)(N1:WQ mg "MOST_SIGNS" 8):zL P w K mg base zY 1 f fd ["thing","signs"] (JN K):=by
 obtain⟨tm,hm⟩:=N1;have nc:(["sign","signs"]:List af).Nodup:=⋯
 refine F.ok (N:=["thing","signs"]) ?_ ?_ ?_;walk_at"t"
 ·obtain⟨z,rfl,_⟩:=h;rfl
 ·obtain⟨v,rfl,h⟩:=h
  refine' ⟨_,(zg (zK (qB (qC (zv zG U G.isinstance zz (za (pv 0) (za (yV (v:=.ty "str") U G.str qE U) zd))))) (zh (zt vC)) zB)
    (zg (zK (PW.pt (yI (zx wO (zv qi U G.len aH (za (pv 0) zd)) ze (zD _)) (yJ (zx vX (zv qi U G.len aH (za (pv 0) zd)) (zQ (v:=.int 8) U hm ⟨_,U⟩) (zD _))))) (zh (zt vC)) zB)
    (zh (zt (zv (vg U) U G.all v5 (za ?comp zd)))))),?main⟩
  case comp=>
   refine' qk (cl:=[("signs",s.heap.objs.size+1)]) (src:=[none,some 1]) (wi:=XQ (zV 0)) (g:=qc 0) (tt:=qL) (te:=vp vB (zV 0) (zV 1)) (cO nc ⟨U,U,⋯,⋯,um (JO U),qF (by rfl),zR (yb ⟨_,U,U,U,U⟩ qb),U⟩) rfl (QB (pv 0)) ?hb
   case hb=>
    intro fp C' s' H';exact⟨zO (i:=0) nc U (ay U),qt,qS Qx (pv 0) (pv 1) (by rfl)⟩
  rcases h with⟨z,rfl,zl,q⟩ |⟨⟨r,N',ty,ne⟩,q⟩
  ·have SR:z.length<=au:=by rw[ai];lia
   refine⟨_,U,_,_,_,_,true,U,U,.inl (.str z),U,true,U,qM ?_⟩;refine⟨_,U,z,U,SR,_,_,U,U,_,U,qg (λe=>qY ?_) (λe=>⟨_,U,z,U,SR,_,_,U,U,_,U,qg (λe2=>?_) (λe2=>?_)⟩)⟩
   ·have e:=G' e;have nb:ug z=false:=by unfold ug;rw[D' (show ¬1<=z.length by lia)];rfl
    rw[nb]at q;exact q H (zk.refl _)
   ·have e2:=G' e2;have nb:ug z=false:=by unfold ug;rw[D' (show ¬z.length<=8 by lia),dQ];rfl
    rw[nb]at q;exact q H (zk.refl _)
   ·have l1:1<=z.length:=by
     have e:¬((z.length:Nat):Int)<1:=λc=>e (i' c);lia
    have l8:z.length<=8:=by
     have e2:¬(8:Int)<((z.length:Nat):Int):=λc=>e2 (i' c);lia
    refine⟨_,U,z,U,λD hD=>?_⟩;refine uA (uW (z:=z)) hD (by rw[CH,<- zI,ai];lia) (λ_=>true) (λx=>match x with|.str y=>.bl (Qr (y.cps.getD 0 0)) |v=>v) (λx _ H' R _ r=>r) (λx hx _ H' R _ r=>?_) ?_
    ·obtain⟨c,_,rfl⟩:=CK.mp hx;refine⟨_,U,_,U,_,_,U,U,?_⟩;rw[QV];exact r
    ·rw[El.mpr λ_ _=>rfl,CP];refine⟨D,z.cps.toList.map Qr,U,zN.of (by rw[CP];exact zi),?_⟩
     have e2:(z.cps.toList.map Qr).all id=ug z:=by
      unfold ug;rw[Dv,i' l1,i' l8];rfl
     rw[e2];exact q _ (zk.upd hD)
  ·obtain⟨_,_,k3,_⟩:=kY (K:=K) r N'
   have e:r.2.2.2.1=false:=by
    simp only[Vf,CJ,CV,or_false]at N';rcases N' with rfl |rfl |rfl |rfl |rfl |rfl |rfl<;>first |rfl | (exact K7 rfl ne)
   rw[e]at k3;exact⟨_,U,_,_,_,_,false,U,U,.inl ty,k3,false,U,qY q⟩
theorem P7 (F:qU K "is_name" "is_name" (top 30) f fd)(N1:r8 mg "LETTERS" "abcdefghijklmnopqrstuvwxyz")(C1:qX P w K mg base zY 1 "is_word_of" ["thing","signs"] (JN K)):zL P w K mg base zY 2 f fd ["thing"] (Y6 K):=by
 obtain⟨tm,hm⟩:=N1;refine F.ok (N:=["thing"]) ?_ ?_ ?_;walk_at"t"
 ·obtain⟨z,rfl,_⟩:=h;rfl
 ·obtain⟨v,rfl,h⟩:=h;exact⟨_,zh (zt (zq C1 hr ∅ zA (za (pv 0) (za (zQ (v:=.str "abcdefghijklmnopqrstuvwxyz") U hm ⟨_,U⟩) zd)))),_,U,v,U,h⟩
theorem Ng (F:qU K "is_word_of" "is_word_of" (top 29) f fd)(G:vh mg)(N1:WQ mg "MOST_SIGNS" 8):zL P w K mg base zY 1 f fd ["thing","signs"] Us:=by
 obtain⟨tm,hm⟩:=N1;have nc:(["sign","signs"]:List af).Nodup:=⋯
 refine F.ok (N:=["thing","signs"]) ?_ ?_ ?_;walk_at"t"
 ·obtain⟨z,rfl,_⟩:=h;rfl
 ·obtain⟨z,rfl,hz,q⟩:=h;have l1:=hz.lo;have l8:=hz.hi;have SR:z.length<=au:=ui l8 rfl
  refine' ⟨_,(zg (zK (qB (qC (zv zG U G.isinstance zz (za (pv 0) (za (yV (v:=.ty "str") U G.str qE U) zd))))) (zh (zt vC)) zB)
    (zg (zK (PW.pt (yI (zx wO (zv qi U G.len aH (za (pv 0) zd)) ze (zD _)) (yJ (zx vX (zv qi U G.len aH (za (pv 0) zd)) (zQ (v:=.int 8) U hm ⟨_,U⟩) (zD _))))) (zh (zt vC)) zB)
    (zh (zt (zv (vg U) U G.all v5 (za ?comp zd)))))),?main⟩
  case comp=>
   refine' qk (cl:=[("signs",s.heap.objs.size+1)]) (src:=[none,some 1]) (wi:=XQ (zV 0)) (g:=qc 0) (tt:=qL) (te:=vp vB (zV 0) (zV 1)) (cO nc ⟨U,U,⋯,⋯,um (JO U),qF (by rfl),zR (yb ⟨_,U,U,U,U⟩ qb),U⟩) rfl (QB (pv 0)) ?hb
   case hb=>
    intro fp C' s' H';exact⟨zO (i:=0) nc U (ay U),qt,qS Qx (pv 0) (pv 1) (by rfl)⟩
  refine⟨_,U,_,_,_,_,true,U,U,.inl (.str z),U,true,U,qM ?_⟩;refine⟨_,U,z,U,SR,_,_,U,U,_,U,qg (λe=>K7 (G' e) (by lia)) (λ_=>⟨_,U,z,U,SR,_,_,U,U,_,U,qg (λe=>K7 (G' e) (by lia)) (λ_=>?_)⟩)⟩;refine⟨_,U,z,U,λD hD=>?_⟩;refine uA (uW (z:=z)) hD (by rw[CH,<- zI,ai];lia) (λ_=>true) (λx=>match x with|.str y=>.bl (Qr (y.cps.getD 0 0)) |v=>v) (λx _ H' R _ r=>r) (λx hx _ H' R _ r=>?_) ?_
  ·obtain⟨c,_,rfl⟩:=CK.mp hx;refine⟨_,U,_,U,_,_,U,U,?_⟩;rw[QV];exact r
  ·rw[El.mpr λ_ _=>rfl,CP];refine⟨D,z.cps.toList.map Qr,U,zN.of (by rw[CP];exact zi),?_⟩
   have e2:(z.cps.toList.map Qr).all id=true:=by
    rw[Dv];exact hz.all
   rw[e2];exact q _ (zk.upd hD)
theorem NK (F:qU K "is_name" "is_name" (top 30) f fd)(N1:r8 mg "LETTERS" "abcdefghijklmnopqrstuvwxyz")(C1:qX P w K mg base zY 1 "is_word_of" ["thing","signs"] Us):zL P w K mg base zY 2 f fd ["thing"] UP:=by
 obtain⟨tm,hm⟩:=N1;refine F.ok (N:=["thing"]) ?_ ?_ ?_;walk_at"t"
 ·obtain⟨z,rfl,_⟩:=h;rfl
 ·obtain⟨z,rfl,hz,q⟩:=h;exact⟨_,zh (zt (zq C1 hr ∅ zA (za (pv 0) (za (zQ (v:=.str "abcdefghijklmnopqrstuvwxyz") U hm ⟨_,U⟩) zd)))),_,U,z,U,hz,q⟩
theorem xN (F:qU K "_law_cell_at" "_law_cell_at" (top 82) f fd)(G:vh mg):zL P w K mg base zY 1 f fd ["_law_script","_law_k"] (Ul K):=by
 refine F.ok (N:=["_law_script","_law_k"]) ?_ ?_ ?_;walk_at"t"
 ·obtain⟨a,k,ns,rfl,_⟩:=h;rfl
 ·obtain⟨a,k,ns,rfl,hs,hk,q⟩:=h
  refine⟨_,(zg (zK (zx wO (pv 1) (zv zJ U G.len aH (za (pv 0) zd)) (zD _)) (zh (zt (zE zy (pv 0) (pv 1)))) zB)
    (zh (zt ze))),?_⟩
  refine⟨_,U,_,U,a,_,U,.inl hs,_,_,U,U,_,U,qg (λe=>?_) (λe=>?_)⟩
  ·exact⟨_,U,_,U,a,_,_,_,U,U,hs,Nt hk (G' e),q⟩
  ·rw[Pi λc=>e (i' c)]at q;exact q
end
end K12
variable {Cs:Nat->ag}
namespace Pg
open PySem L2
def KT (H H':Hp):Prop:=∀b c,(H b=some (.tup c)->H' b=some (.tup c))/\∀o,H b=some (.frz o (.tup c))->H' b=some (.frz o (.tup c))
theorem gu {i:Int}(h0:0<=i)(h1:i<26):QA ("abcdefghijklmnopqrstuvwxyz":af).cps.toList i=some (97+i.toNat):=by
 obtain⟨n,rfl⟩:=Dw h0;rw[Zi];refine qQ ?_;rw[List.getElem?_range' (by lia)];rw[dP]
 congr 1
 lia
def wayL:List af:=["down","up","near","even"]
def TM (K:BFr)(mg:af->Option ae)(x:af)(zs:List af):Prop:=∃a,mg x=some (.ref a)/\∀H,yE K H a (zs.map V.str)
def t6 (z l:Int)(x:af):Bool:=if x = "near" then decide (0<z) else decide (l%2=1)
def Rt (z l r:Int)(x:af):Bool:=if x = "down" then false else if x = "up" then decide (0<r) else if r=5000 then t6 z l x else decide (5000<r)
def TL (z:Int)(x:af):Int:=if Rt z (z/10000) (z%10000) x=true then z/10000+1 else z/10000
theorem uc (x:af)(zs:List af):MV (.str x) (zs.map V.str)=zs.contains x:=by
 unfold MV;rw[Em,List.contains_eq_any_beq]
 congr 1
 funext y
 show(y==x)=(x==y);exact Bool.beq_comm ..
inductive kZ (vs:List V)(H:Hp)(Q:VK)(_:XK):Prop|mk(z:_)(_:vs=[.int z])(_:0<=z)(_:z<=20000)(_:Q (.bl true) H)
inductive YU (vs:List V)(H:Hp)(Q:VK)(_:XK):Prop|mk(x:_)(_:vs=[.str x])(_:wayL.contains x=true)(_:Q (.bl true) H)
inductive Rk where
 |flat (n:af) (a:Int)
 |share (n:af) (p:Int) (w:af)
 |capped (n:af) (p m:Int) (w:af)
 |least (n:af) (p l:Int) (w:af)
 |bands (n:af) (ps:List (Int×Int)) (w:af)
 |ontop (n:af) (p:Int) (w:af) (r:Rk)
def Rk.name:Rk->af
 |.flat n _=>n
 |.share n _ _=>n
 |.capped n _ _ _=>n
 |.least n _ _ _=>n
 |.bands n _ _=>n
 |.ontop n _ _ _=>n
def Rk.kd:Rk->Nat
 |.flat ..=>0
 |.share ..=>1
 |.capped ..=>2
 |.least ..=>3
 |.bands ..=>4
 |.ontop ..=>5
def noNames:List af:=["base","net","month","sums"]
structure yx (z:af):Prop where
 ok:Um z
 no:noNames.contains z=false
def YM (p:Int):Prop:=0<=p/\p<=20000
def Vd (a:Int):Prop:=0<=a/\a<=1000000000000
def Vc (w:af):Prop:=wayL.contains w=true
inductive XW:Rk->Prop where
 |flat {n:af} {a:Int}:yx n->Vd a->XW (.flat n a)
 |share {n:af} {p:Int} {w:af}:yx n->YM p->Vc w->XW (.share n p w)
 |capped {n:af} {p m:Int} {w:af}:yx n->YM p->Vd m->Vc w->XW (.capped n p m w)
 |least {n:af} {p l:Int} {w:af}:yx n->YM p->Vd l->Vc w->XW (.least n p l w)
def pos (bs:List Int):Int:=((bs.filter λb=>decide (0<b)).length:Nat)
def BH (r:Rk)(bs:List Int):Int:=match r with
 |.flat _ a=>a*pos bs
 |.share _ p w=>TL (bs.sum*p) w
 |.capped _ p m w=>TL ((if m<bs.sum then m else bs.sum)*p) w
 |.least _ p l w=>if l*pos bs > TL (bs.sum*p) w then l*pos bs else TL (bs.sum*p) w
 |_=>0
def uf (r:Rk):List V:=match r with
 |.flat n a=>[.str "flat",.str n,.int a]
 |.share n p w=>[.str "share",.str n,.int p,.str w]
 |.capped n p m w=>[.str "capped",.str n,.int p,.int m,.str w]
 |.least n p l w=>[.str "least",.str n,.int p,.int l,.str w]
 |_=>[]
def Ve:V->af
 |.str z=>z
 |.int i=>toString i
 |_=>Ia
def XC (r:Rk):af:=aG " " ((uf r).map Ve)
inductive OE (H:Hp)(v:V)(r:Rk):Prop|mk(t:_)(_:v=.ref t)(_:H t=some (.tup (uf r)))
theorem OE.same {r:Rk}(s:zk H H')(h:OE H v r):OE H' v r:=by
 obtain⟨t,e,h⟩:=h;exact⟨t,e,s _ _ h⟩
def Ru (r:Rk):List (af×V):=match r with
 |.flat n a=>[("name",.str n),("amount",.int a)]
 |.share n p w=>[("name",.str n),("parts",.int p),("way",.str w)]
 |.capped n p m w=>[("name",.str n),("parts",.int p),("most",.int m),("way",.str w)]
 |.least n p l w=>[("name",.str n),("parts",.int p),("least",.int l),("way",.str w)]
 |_=>[]
inductive xI (Cs:Nat->ag)(H:Hp)(v:V)(r:Rk):Prop|mk(o dx:_)(_:v=.ref o)(_:H o=some (.ins (Cs r.kd) dx (Ru r)))
theorem xI.same {r:Rk}(s:zk H H')(h:xI Cs H v r):xI Cs H' v r:=by
 obtain⟨t,dx,e,h⟩:=h;exact⟨t,dx,e,s _ _ h⟩
structure wV (K:BFr)(Cs:Nat->ag):Prop where
 cls:∀i,i<4->Yz K (Cs i)
 no:∀i,i<4->∀x∈(["name","amount","parts","way","most","least"]:List af),yD K (Cs i) x
inductive QI (vs:List V)(H:Hp)(Q:VK)(_:XK):Prop|mk(z:_)(_:vs=[.str z])(_:yx z)(_:∀H',zk H H'->Q (.bl true) H')
inductive ZT (vs:List V)(H:Hp)(Q:VK)(_:XK):Prop|mk(z:_)(_:vs=[.int z])(_:Vd z)(_:Q (.bl true) H)
inductive uY (vs:List V)(H:Hp)(Q:VK)(_:XK):Prop|mk(z:_)(_:vs=[.int z])(_:Vd z)(_:Q .non H)
inductive vS (vs:List V)(H:Hp)(Q:VK)(_:XK):Prop|mk(p w:_)(_:vs=[.int p,.str w])(_:YM p)(_:Vc w)(_:Q .non H)
inductive uS (Cs:Nat->ag)(vs:List V)(H:Hp)(Q:VK)(_:XK):Prop|mk(i o dx z:_)(_:vs=[.ref o,.str z])(_:i<4)(_:H o=some (.ins (Cs i) dx []))(_:yx z)(_:∀H',(∀b x,H b=some x->b≠o->H' b=some x)->H' o=some (.ins (Cs i) dx [("name",.str z)])->Q .non H')
def T7 (r:Rk):List V:=(uf r).drop 1
inductive yS (k:Nat)(Cs:Nat->ag)(vs:List V)(H:Hp)(Q:VK)(_:XK):Prop|mk(o dx r:_)(_:vs=.ref o::T7 r)(_:r.kd=k)(_:XW r)(_:H o=some (.ins (Cs k) dx []))(_:∀H',(∀b x,H b=some x->b≠o->H' b=some x)->H' o=some (.ins (Cs k) dx (Ru r))->Q .non H')
inductive vq (k:Nat)(Cs:Nat->ag)(vs:List V)(H:Hp)(Q:VK)(_:XK):Prop|mk(v r:_)(_:vs=[v])(_:r.kd=k)(_:xI Cs H v r)(_:XW r)(_:∀H',zk H H'->Q (.str (XC r)) H')
theorem Wz {r:Rk}(h:XW r):∀z∈(uf r).map Ve,z.length<=20:=by
 have nl:∀{z:af},yx z->z.length<=20:=λh=>CW h.ok.hi ∅;have il:∀{i:Int},0<=i->i<=1000000000000->(Ve (.int i)).length<=20:=λh0 h1=>CW (YX (k:=13) h0 ∅ (by lia)) ∅
 have wl:∀{w:af},Vc w->w.length<=20:=λ{w} h=>by
  have h:=dW.mp h;unfold wayL at h;simp only[CJ,CV,or_false]at h;rcases h with rfl |rfl |rfl |rfl<;>decide+kernel
 intro z hz;obtain⟨v,hv,rfl⟩:=CK.mp hz
 cases h with
 |flat hn ha=>
  simp only[uf,CJ,CV,or_false]at hv;rcases hv with rfl |rfl |rfl
  ·decide+kernel
  ·exact nl hn
  ·exact il ha.1 ha.2
 |share hn hp hw=>
  simp only[uf,CJ,CV,or_false]at hv;rcases hv with rfl |rfl |rfl |rfl
  ·decide+kernel
  ·exact nl hn
  ·exact il hp.1 (Eo hp.2 ∅)
  ·exact wl hw
 |capped hn hp ha hw=>
  simp only[uf,CJ,CV,or_false]at hv;rcases hv with rfl |rfl |rfl |rfl |rfl
  ·decide+kernel
  ·exact nl hn
  ·exact il hp.1 (Eo hp.2 ∅)
  ·exact il ha.1 ha.2
  ·exact wl hw
 |least hn hp ha hw=>
  simp only[uf,CJ,CV,or_false]at hv;rcases hv with rfl |rfl |rfl |rfl |rfl
  ·decide+kernel
  ·exact nl hn
  ·exact il hp.1 (Eo hp.2 ∅)
  ·exact il ha.1 ha.2
  ·exact wl hw
theorem JT {r:Rk}(h:XW r):AU " " ((uf r).map Ve)=true:=(yZ (m:=20) (k:=5) (Wz h) (by cases h<;>exact C9 U) ⋯ U).1
theorem Zk {p:Int}(h:YM p):p.natAbs.log2<1920:=uP h.1 (by have:=h.2;lia)
theorem Yc {p:Int}(h:Vd p):p.natAbs.log2<1920:=uP h.1 (by have:=h.2;lia)
theorem Cn (n:af):j7 "name" (.str n) []=[((("name":af)),V.str n)]:=rfl
theorem t4 (n x:af)(v:V)(h:("name":af)≠x):j7 x v [(("name":af),V.str n)]=[(("name":af),V.str n),(x,v)]:=by
 unfold j7;rw[K5 h];rfl
theorem TV (n x y:af)(u v:V)(h:("name":af)≠x)(h2:y≠x):j7 x v [(("name":af),V.str n),(y,u)]=[(("name":af),V.str n),(y,u),(x,v)]:=by
 unfold j7;rw[K5 h];unfold j7;rw[K5 h2];rfl
theorem BF (n x y z:af)(u v w:V)(h:("name":af)≠x)(h2:y≠x)(h3:z≠x):j7 x v [(("name":af),V.str n),(y,u),(z,w)]=[(("name":af),V.str n),(y,u),(z,w),(x,v)]:=by
 unfold j7;rw[K5 h];unfold j7;rw[K5 h2];unfold j7;rw[K5 h3];rfl
end Pg
namespace K12
open PySem PySem.NumText L2 Pg
seal PE PA PT PW PS y8 PG j5 PI jQ PO PK
section
variable {K:BFr}{mg:af->Option ae}
theorem oM (F:qU K "is_parts" "is_parts" (top 23) f fd)(N1:WQ mg "MOST_PARTS" 20000)(C1:qX P w K mg base zY 2 "is_number_within" ["thing","least","most"] (jI K)):zL P w K mg base zY 3 f fd ["thing"] kZ:=by
 obtain⟨t,em⟩:=N1;refine F.ok (N:=["thing"]) ?_ ?_ ?_;walk_at"t"
 ·obtain⟨z,rfl,_⟩:=h;rfl
 ·obtain⟨z,rfl,h0,h1,q⟩:=h;refine⟨_,zh (zt (zq C1 hr ∅ zA (za (pv 0) (za ze (za (zQ (v:=.int 20000) U em ⟨t,U⟩) zd))))),_,U,_,0,20000,U,.inl ⟨z,U,?_⟩⟩;rw[i' (⟨h0,h1⟩:(0:Int)<=z/\z<=20000)];exact q
theorem MW (F:qU K "is_way" "is_way" (top 24) f fd)(G:vh mg)(W:TM K mg "WAYS" wayL):zL P w K mg base zY 1 f fd ["thing"] YU:=by
 obtain⟨aw,ew,tw⟩:=W;refine F.ok (N:=["thing"]) ?_ ?_ ?_;walk_at"t"
 ·obtain⟨x,rfl,_⟩:=h;rfl
 ·obtain⟨x,rfl,hx,q⟩:=h
  refine⟨_,zh (zt (je (zv zG U G.isinstance zz (za (pv 0) (za (yV (v:=.ty "str") U G.str qE U) zd)))
   (jA (qS uN (pv 0) (zQ (v:=.ref aw) U ew U) (by rfl))))),?_⟩
  refine⟨_,U,_,_,_,_,true,U,U,.inl (.str x),U,true,U,qY ⟨_,U,aw,_,U,.inr (tw H),U,U,?_⟩⟩;rw[K5 dq,uc,hx];exact q
theorem Ou (F:qU K "is_rule_name" "is_rule_name" (top 43) f fd)(W:TM K mg "NO_RULE_NAMES" noNames)(C1:qX P w K mg base zY 2 "is_name" ["thing"] UP):zL P w K mg base zY 3 f fd ["thing"] QI:=by
 obtain⟨aw,ew,tw⟩:=W;refine F.ok (N:=["thing"]) ?_ ?_ ?_;walk_at"t"
 ·obtain⟨z,rfl,_⟩:=h;rfl
 ·obtain⟨z,rfl,hz,q⟩:=h;refine⟨_,zh (zt (je (zq C1 hr ∅ zA (za (pv 0) zd)) (jA (qS wc (pv 0) (zQ (v:=.ref aw) U ew U) (by rfl))))),?_⟩;refine⟨_,U,z,U,hz.ok,λH1 s1=>⟨true,U,qY ⟨_,U,aw,_,U,.inr (tw H1),U,U,?_⟩⟩⟩;rw[K6 U,uc,hz.no];exact q H1 s1
theorem mj (F:qU K "is_rule_amount" "is_rule_amount" (top 44) f fd)(N1:WQ mg "MOST_AMOUNT" 1000000000000)(C1:qX P w K mg base zY 2 "is_number_within" ["thing","least","most"] (jI K)):zL P w K mg base zY 3 f fd ["thing"] ZT:=by
 obtain⟨t,em⟩:=N1;refine F.ok (N:=["thing"]) ?_ ?_ ?_;walk_at"t"
 ·obtain⟨z,rfl,_⟩:=h;rfl
 ·obtain⟨z,rfl,h0,q⟩:=h;refine⟨_,zh (zt (zq C1 hr ∅ zA (za (pv 0) (za ze (za (zQ (v:=.int 1000000000000) U em ⟨t,U⟩) zd))))),_,U,_,0,1000000000000,U,.inl ⟨z,U,?_⟩⟩;rw[show decide ((0:Int)<=z/\z<=1000000000000)=true from i' h0];exact q
theorem oI (F:qU K "need_rule_amount" "need_rule_amount" (top 45) f fd)(C1:qX P w K mg base zY 3 "is_rule_amount" ["thing"] ZT):zL P w K mg base zY 4 f fd ["thing"] uY:=by
 refine F.ok (N:=["thing"]) ?_ ?_ ?_;walk_at"t"
 ·obtain⟨x,rfl,_⟩:=h;rfl
 ·obtain⟨x,rfl,hx,q⟩:=h;exact⟨_,zh (zK (qB (qC (zq C1 hr ∅ zA (za (pv 0) zd)))) yh zB),_,U,x,U,hx,true,U,qM q⟩
theorem Oj (F:qU K "need_share" "need_share" (top 46) f fd)(C1:qX P w K mg base zY 3 "is_parts" ["thing"] kZ)(C2:qX P w K mg base zY 1 "is_way" ["thing"] YU):zL P w K mg base zY 4 f fd ["parts","way"] vS:=by
 refine F.ok (N:=["parts","way"]) ?_ ?_ ?_;walk_at"t"
 ·obtain⟨p,x,rfl,_⟩:=h;rfl
 ·obtain⟨p,x,rfl,hp,hx,q⟩:=h;exact⟨_,zg (zK (qB (qC (zq C1 hr ∅ zA (za (pv 0) zd)))) yh zB) (zh (zK (qB (qC (zq C2 hr ∅ zA (za (pv 1) zd)))) yh zB)),_,U,p,U,hp.1,hp.2,true,U,qM ⟨_,U,x,U,hx,true,U,qM q⟩⟩
theorem Of (F:qU K "__init__" "Flat.__init__" (zX (top 48) 0) f fd)(RK:wV K Cs)(CR:wR P w K mg base zY 4 "Rule" "__init__" ["self","name"] (uS Cs))(C1:qX P w K mg base zY 4 "need_rule_amount" ["thing"] uY):zL P w K mg base zY 5 f fd ["self","name","amount"] (yS 0 Cs):=by
 refine F.ok (N:=["self","name","amount"]) ?_ ?_ ?_;walk_at"t"
 ·obtain⟨o,dx,r,rfl,hk,pl,_⟩:=h
  cases pl<;>first |rfl |cases hk
 ·obtain⟨o,dx,r,rfl,hk,pl,ho,q⟩:=h
  cases pl with
  |flat hn ha=>
   refine⟨_,zg (z6 (jD CR hr ∅ zA (za (pv 0) (za (pv 1) zd)))) (zg (z6 (zq C1 hr ∅ zA (za (pv 2) zd))) (zh (yP (pv 0) (pv 2) U))),?_⟩;refine⟨_,U,_,U,0,o,dx,_,U,∅,ho,hn,λH1 f1 e1=>⟨_,U,_,U,ha,_,U,_,U,o,_,dx,_,U,e1,RK.cls 0 ∅,RK.no 0 ∅ "amount" ∅,by show 1<1000;decide,?_⟩⟩;rw[t4 _ _ _ ⋯];exact q _ (λb x hb ne=>by rw[zm ne];exact f1 _ _ hb ne) zi
  |share hn hp hw=>cases hk
  |capped hn hp ha hw=>cases hk
  |least hn hp ha hw=>cases hk
theorem On (F:qU K "__init__" "Share.__init__" (zX (top 49) 0) f fd)(RK:wV K Cs)(CR:wR P w K mg base zY 4 "Rule" "__init__" ["self","name"] (uS Cs))(C1:qX P w K mg base zY 4 "need_share" ["parts","way"] vS):zL P w K mg base zY 5 f fd ["self","name","parts","way"] (yS 1 Cs):=by
 refine F.ok (N:=["self","name","parts","way"]) ?_ ?_ ?_;walk_at"t"
 ·obtain⟨o,dx,r,rfl,hk,pl,_⟩:=h
  cases pl<;>first |rfl |cases hk
 ·obtain⟨o,dx,r,rfl,hk,pl,ho,q⟩:=h
  cases pl with
  |share hn hp hw=>
   refine⟨_,zg (z6 (jD CR hr ∅ zA (za (pv 0) (za (pv 1) zd)))) (zg (z6 (zq C1 hr ∅ zA (za (pv 2) (za (pv 3) zd)))) (zg (yP (pv 0) (pv 2) U) (zh (yP (pv 0) (pv 3) U)))),?_⟩;refine⟨_,U,_,U,1,o,dx,_,U,∅,ho,hn,λH1 f1 e1=>⟨_,U,_,U,_,_,U,hp,hw,_,U,_,U,o,_,dx,_,U,e1,RK.cls 1 ∅,RK.no 1 ∅ "parts" ∅,by show 1<1000;decide,?_⟩⟩;rw[t4 _ _ _ ⋯];refine⟨_,U,_,U,o,_,dx,_,U,zi,RK.cls 1 ∅,RK.no 1 ∅ "way" ∅,by show 2<1000;decide,?_⟩;rw[TV _ _ _ _ _ ⋯ ⋯];exact q _ (λb x hb ne=>by rw[zm ne,zm ne];exact f1 _ _ hb ne) zi
  |flat hn ha=>cases hk
  |capped hn hp ha hw=>cases hk
  |least hn hp ha hw=>cases hk
theorem om (F:qU K "__init__" "Capped.__init__" (zX (top 50) 0) f fd)(RK:wV K Cs)(CR:wR P w K mg base zY 4 "Rule" "__init__" ["self","name"] (uS Cs))(C1:qX P w K mg base zY 4 "need_share" ["parts","way"] vS)(C2:qX P w K mg base zY 4 "need_rule_amount" ["thing"] uY):zL P w K mg base zY 5 f fd ["self","name","parts","most","way"] (yS 2 Cs):=by
 refine F.ok (N:=["self","name","parts","most","way"]) ?_ ?_ ?_;walk_at"t"
 ·obtain⟨o,dx,r,rfl,hk,pl,_⟩:=h
  cases pl<;>first |rfl |cases hk
 ·obtain⟨o,dx,r,rfl,hk,pl,ho,q⟩:=h
  cases pl with
  |capped hn hp ha hw=>
   refine⟨_,zg (z6 (jD CR hr ∅ zA (za (pv 0) (za (pv 1) zd)))) (zg (z6 (zq C1 hr ∅ zA (za (pv 2) (za (pv 4) zd)))) (zg (z6 (zq C2 hr ∅ zA (za (pv 3) zd))) (zg (yP (pv 0) (pv 2) U) (zg (yP (pv 0) (pv 3) U) (zh (yP (pv 0) (pv 4) U)))))),?_⟩;refine⟨_,U,_,U,2,o,dx,_,U,∅,ho,hn,λH1 f1 e1=>⟨_,U,_,U,_,_,U,hp,hw,_,U,_,U,ha,_,U,_,U,o,_,dx,_,U,e1,RK.cls 2 ∅,RK.no 2 ∅ "parts" ∅,by show 1<1000;decide,?_⟩⟩;rw[t4 _ _ _ ⋯];refine⟨_,U,_,U,o,_,dx,_,U,zi,RK.cls 2 ∅,RK.no 2 ∅ "most" ∅,by show 2<1000;decide,?_⟩;rw[TV _ _ _ _ _ ⋯ ⋯];refine⟨_,U,_,U,o,_,dx,_,U,zi,RK.cls 2 ∅,RK.no 2 ∅ "way" ∅,by show 3<1000;decide,?_⟩;rw[BF _ _ _ _ _ _ _ ⋯ ⋯ ⋯];exact q _ (λb x hb ne=>by rw[zm ne,zm ne,zm ne];exact f1 _ _ hb ne) zi
  |flat hn ha=>cases hk
  |share hn hp hw=>cases hk
  |least hn hp ha hw=>cases hk
theorem GU (F:qU K "__init__" "Least.__init__" (zX (top 51) 0) f fd)(RK:wV K Cs)(CR:wR P w K mg base zY 4 "Rule" "__init__" ["self","name"] (uS Cs))(C1:qX P w K mg base zY 4 "need_share" ["parts","way"] vS)(C2:qX P w K mg base zY 4 "need_rule_amount" ["thing"] uY):zL P w K mg base zY 5 f fd ["self","name","parts","least","way"] (yS 3 Cs):=by
 refine F.ok (N:=["self","name","parts","least","way"]) ?_ ?_ ?_;walk_at"t"
 ·obtain⟨o,dx,r,rfl,hk,pl,_⟩:=h
  cases pl<;>first |rfl |cases hk
 ·obtain⟨o,dx,r,rfl,hk,pl,ho,q⟩:=h
  cases pl with
  |least hn hp ha hw=>
   refine⟨_,zg (z6 (jD CR hr ∅ zA (za (pv 0) (za (pv 1) zd)))) (zg (z6 (zq C1 hr ∅ zA (za (pv 2) (za (pv 4) zd)))) (zg (z6 (zq C2 hr ∅ zA (za (pv 3) zd))) (zg (yP (pv 0) (pv 2) U) (zg (yP (pv 0) (pv 3) U) (zh (yP (pv 0) (pv 4) U)))))),?_⟩;refine⟨_,U,_,U,3,o,dx,_,U,∅,ho,hn,λH1 f1 e1=>⟨_,U,_,U,_,_,U,hp,hw,_,U,_,U,ha,_,U,_,U,o,_,dx,_,U,e1,RK.cls 3 ∅,RK.no 3 ∅ "parts" ∅,by show 1<1000;decide,?_⟩⟩;rw[t4 _ _ _ ⋯];refine⟨_,U,_,U,o,_,dx,_,U,zi,RK.cls 3 ∅,RK.no 3 ∅ "least" ∅,by show 2<1000;decide,?_⟩;rw[TV _ _ _ _ _ ⋯ ⋯];refine⟨_,U,_,U,o,_,dx,_,U,zi,RK.cls 3 ∅,RK.no 3 ∅ "way" ∅,by show 3<1000;decide,?_⟩;rw[BF _ _ _ _ _ _ _ ⋯ ⋯ ⋯];exact q _ (λb x hb ne=>by rw[zm ne,zm ne,zm ne];exact f1 _ _ hb ne) zi
  |flat hn ha=>cases hk
  |share hn hp hw=>cases hk
  |capped hn hp ha hw=>cases hk
theorem m7 (F:qU K "row" "Flat.row" (zX (top 48) 2) f fd)(G:vh mg)(RK:wV K Cs):zL P w K mg base zY 1 f fd ["self"] (vq 0 Cs):=by
 refine F.ok (N:=["self"]) ?_ ?_ ?_;walk_at"t"
 ·obtain⟨v,r,rfl,_⟩:=h;rfl
 ·obtain⟨v,r,rfl,hk,⟨o,dx,rfl,ho⟩,pl,q⟩:=h;have jo:=JT pl
  cases pl with
  |flat hn ha=>
   refine⟨_,zh (zt (qH aq aC aD ya zj (za (zM (za zj (za (z7 (pv 0) U) (za (zZ qh U G.str qE (za (z7 (pv 0) U) zd)) zd)))) zd))),?_⟩;exact⟨U,_,U,o,_,dx,_,_,U,ho,RK.cls 0 ∅,RK.no 0 ∅ "name" ∅,U,_,U,o,_,dx,_,_,U,ho,RK.cls 0 ∅,RK.no 0 ∅ "amount" ∅,U,_,U,Yc ha,zS U,λl H1 s1 n1 e1=>⟨_,(uf (Rk.flat _ _)).map Ve,l,U,U,zN.of e1,jo,q H1 s1⟩⟩
  |share hn hp hw=>cases hk
  |capped hn hp ha hw=>cases hk
  |least hn hp ha hw=>cases hk
theorem ND (F:qU K "row" "Share.row" (zX (top 49) 2) f fd)(G:vh mg)(RK:wV K Cs):zL P w K mg base zY 1 f fd ["self"] (vq 1 Cs):=by
 refine F.ok (N:=["self"]) ?_ ?_ ?_;walk_at"t"
 ·obtain⟨v,r,rfl,_⟩:=h;rfl
 ·obtain⟨v,r,rfl,hk,⟨o,dx,rfl,ho⟩,pl,q⟩:=h;have jo:=JT pl
  cases pl with
  |share hn hp hw=>
   refine⟨_,zh (zt (qH aq aC aD ya zj (za (zM (za zj (za (z7 (pv 0) U) (za (zZ qh U G.str qE (za (z7 (pv 0) U) zd)) (za (z7 (pv 0) U) zd))))) zd))),?_⟩;exact⟨U,_,U,o,_,dx,_,_,U,ho,RK.cls 1 ∅,RK.no 1 ∅ "name" ∅,U,_,U,o,_,dx,_,_,U,ho,RK.cls 1 ∅,RK.no 1 ∅ "parts" ∅,U,_,U,Zk hp,_,U,o,_,dx,_,_,U,ho,RK.cls 1 ∅,RK.no 1 ∅ "way" ∅,U,zS U,λl H1 s1 n1 e1=>⟨_,(uf (Rk.share _ _ _)).map Ve,l,U,U,zN.of e1,jo,q H1 s1⟩⟩
  |flat hn ha=>cases hk
  |capped hn hp ha hw=>cases hk
  |least hn hp ha hw=>cases hk
theorem nJ (F:qU K "row" "Capped.row" (zX (top 50) 2) f fd)(G:vh mg)(RK:wV K Cs):zL P w K mg base zY 1 f fd ["self"] (vq 2 Cs):=by
 refine F.ok (N:=["self"]) ?_ ?_ ?_;walk_at"t"
 ·obtain⟨v,r,rfl,_⟩:=h;rfl
 ·obtain⟨v,r,rfl,hk,⟨o,dx,rfl,ho⟩,pl,q⟩:=h;have jo:=JT pl
  cases pl with
  |capped hn hp ha hw=>
   refine⟨_,zh (zt (qH aq aC aD ya zj (za (zM (za zj (za (z7 (pv 0) U) (za (zZ qh U G.str qE (za (z7 (pv 0) U) zd)) (za (zZ qh U G.str qE (za (z7 (pv 0) U) zd)) (za (z7 (pv 0) U) zd)))))) zd))),?_⟩;exact⟨U,_,U,o,_,dx,_,_,U,ho,RK.cls 2 ∅,RK.no 2 ∅ "name" ∅,U,_,U,o,_,dx,_,_,U,ho,RK.cls 2 ∅,RK.no 2 ∅ "parts" ∅,U,_,U,Zk hp,_,U,o,_,dx,_,_,U,ho,RK.cls 2 ∅,RK.no 2 ∅ "most" ∅,U,_,U,Yc ha,_,U,o,_,dx,_,_,U,ho,RK.cls 2 ∅,RK.no 2 ∅ "way" ∅,U,zS U,λl H1 s1 n1 e1=>⟨_,(uf (Rk.capped _ _ _ _)).map Ve,l,U,U,zN.of e1,jo,q H1 s1⟩⟩
  |flat hn ha=>cases hk
  |share hn hp hw=>cases hk
  |least hn hp ha hw=>cases hk
theorem Mr (F:qU K "row" "Least.row" (zX (top 51) 2) f fd)(G:vh mg)(RK:wV K Cs):zL P w K mg base zY 1 f fd ["self"] (vq 3 Cs):=by
 refine F.ok (N:=["self"]) ?_ ?_ ?_;walk_at"t"
 ·obtain⟨v,r,rfl,_⟩:=h;rfl
 ·obtain⟨v,r,rfl,hk,⟨o,dx,rfl,ho⟩,pl,q⟩:=h;have jo:=JT pl
  cases pl with
  |least hn hp ha hw=>
   refine⟨_,zh (zt (qH aq aC aD ya zj (za (zM (za zj (za (z7 (pv 0) U) (za (zZ qh U G.str qE (za (z7 (pv 0) U) zd)) (za (zZ qh U G.str qE (za (z7 (pv 0) U) zd)) (za (z7 (pv 0) U) zd)))))) zd))),?_⟩;exact⟨U,_,U,o,_,dx,_,_,U,ho,RK.cls 3 ∅,RK.no 3 ∅ "name" ∅,U,_,U,o,_,dx,_,_,U,ho,RK.cls 3 ∅,RK.no 3 ∅ "parts" ∅,U,_,U,Zk hp,_,U,o,_,dx,_,_,U,ho,RK.cls 3 ∅,RK.no 3 ∅ "least" ∅,U,_,U,Yc ha,_,U,o,_,dx,_,_,U,ho,RK.cls 3 ∅,RK.no 3 ∅ "way" ∅,U,zS U,λl H1 s1 n1 e1=>⟨_,(uf (Rk.least _ _ _ _)).map Ve,l,U,U,zN.of e1,jo,q H1 s1⟩⟩
  |flat hn ha=>cases hk
  |share hn hp hw=>cases hk
  |capped hn hp ha hw=>cases hk
end
end K12
namespace Pg
open PySem L2
inductive ju (vs:List V)(H:Hp)(Q:VK)(_:XK):Prop|mk(c k:_)(_:vs=[.int c,.int k])(_:∀m,0<=m->m<1000003->Q (.int m) H)
inductive Ui (vs:List V)(H:Hp)(Q:VK)(_:XK):Prop|mk(c k:_)(_:vs=[.int c,.int k])(_:∀a H',Vd a->zk H H'->Q (.int a) H')
inductive Qm (vs:List V)(H:Hp)(Q:VK)(_:XK):Prop|mk(c k:_)(_:vs=[.int c,.int k])(_:∀a H',YM a->zk H H'->Q (.int a) H')
inductive YS (vs:List V)(H:Hp)(Q:VK)(_:XK):Prop|mk(c k:_)(_:vs=[.int c,.int k])(_:∀w H',Vc w->zk H H'->Q (.str w) H')
def CF (bs:List Int):Prop:=∀b∈bs,0<=b
theorem Lz {A:Prop}(h:A):if decide (V.str z=V.str z)=true then A else B:=by
 rw[K6 (i' U)];exact h
theorem gH {y:af}{A:Prop}(n:x≠y)(h:B):if decide (V.str x=V.str y)=true then A else B:=by
 rw[K5 λk=>n (V.str.inj (G' k))];exact h
theorem tY {i:Int}(h0:0<=i)(h1:i<4):∃w,QA [V.str "down",.str "up",.str "near",.str "even"] i=some (.str w)/\Vc w:=by
 obtain⟨v,ev,mv⟩:=j8 (xs:=[V.str "down",.str "up",.str "near",.str "even"]) (i:=i) h0 h1;simp only[CJ,CV,or_false]at mv;rcases mv with rfl |rfl |rfl |rfl
 ·exact⟨_,ev,by unfold Vc;decide+kernel⟩
 ·exact⟨_,ev,by unfold Vc;decide+kernel⟩
 ·exact⟨_,ev,by unfold Vc;decide+kernel⟩
 ·exact⟨_,ev,by unfold Vc;decide+kernel⟩
theorem gy (xs:List V):yN H xs xs (λ_ v x=>v=x):=⟨U,λi y h=>⟨y,h,λ_ _=>rfl⟩⟩
theorem oR {r:Rk}(h:XW r):∀v∈uf r,(∃i,v=.int i/\i.natAbs.log2<1920)∨∃z,v=.str z:=by
 intro v hv
 cases h with
 |flat hn ha=>
  simp only[uf,CJ,CV,or_false]at hv;rcases hv with rfl |rfl |rfl
  ·exact .inr ⟨_,U⟩
  ·exact .inr ⟨_,U⟩
  ·exact .inl ⟨_,U,Yc ha⟩
 |share hn hp hw=>
  simp only[uf,CJ,CV,or_false]at hv;rcases hv with rfl |rfl |rfl |rfl
  ·exact .inr ⟨_,U⟩
  ·exact .inr ⟨_,U⟩
  ·exact .inl ⟨_,U,Zk hp⟩
  ·exact .inr ⟨_,U⟩
 |capped hn hp ha hw=>
  simp only[uf,CJ,CV,or_false]at hv;rcases hv with rfl |rfl |rfl |rfl |rfl
  ·exact .inr ⟨_,U⟩
  ·exact .inr ⟨_,U⟩
  ·exact .inl ⟨_,U,Zk hp⟩
  ·exact .inl ⟨_,U,Yc ha⟩
  ·exact .inr ⟨_,U⟩
 |least hn hp ha hw=>
  simp only[uf,CJ,CV,or_false]at hv;rcases hv with rfl |rfl |rfl |rfl |rfl
  ·exact .inr ⟨_,U⟩
  ·exact .inr ⟨_,U⟩
  ·exact .inl ⟨_,U,Zk hp⟩
  ·exact .inl ⟨_,U,Yc ha⟩
  ·exact .inr ⟨_,U⟩
theorem PH {r:Rk}(h:XW r):∃z l,uf r=.str z::l/\z≠"bands"/\z≠"ontop"/\l.length<=4:=by
 cases h with
 |flat hn ha=>exact⟨_,_,U,⋯,⋯,C9 U⟩
 |share hn hp hw=>exact⟨_,_,U,⋯,⋯,C9 U⟩
 |capped hn hp ha hw=>exact⟨_,_,U,⋯,⋯,C9 U⟩
 |least hn hp ha hw=>exact⟨_,_,U,⋯,⋯,C9 U⟩
theorem ng {r:Rk}(h:XW r):(Ru r).lookup ("name":af)=some (.str r.name):=by cases h<;>rfl
theorem TC {r:Rk}(h:XW r):QA (uf r) 1=some (.str r.name):=by cases h<;>rfl
theorem qI {o:ag}(o0:H o=none)(d0:H dx=none)(fr:∀b x,(upd (upd H dx (.own o)) o (.ins C dx [])) b=some x->b≠o->H' b=some x):zk H H':=λb x hb=>by
 have bo:=zC hb o0;refine fr b x ?_ bo;rw[zm bo,zm (zC hb d0)];exact hb
open PySem.NumText
def wh (u:List Nat):List Nat:=u.take (u.length-3)
def uz (l:List Nat):Bool:=vM l&&(decide (l=[48]) || !decide (l.head?=some 48))
inductive VX (vs:List V)(H:Hp)(Q:VK)(_:XK):Prop|mk(z:_)(_:vs=[.str z])(_:z.length<=1000)(_:∀H',zk H H'->Q (.bl (uz z.cps.toList)) H')
theorem XM (z y:af):decide (V.str z=V.str y)=decide (z.cps.toList=y.cps.toList):=decide_eq_decide.mpr ⟨λh=>by injection h with h;rw[h],λh=>by rw[QD h]⟩
theorem gk (z:af)(c:Nat):fq z ⟨#[c]⟩=decide (z.cps.toList.head?=some c):=by
 unfold fq HN;obtain⟨⟨l⟩⟩:=z;show(decide (0+1<=l.length)&&((ie l).extract 0 (0+1) == #[c]))=decide (l.head?=some c)
 cases l with
 |nil=>rfl
 |cons a l=>
  have e:(ie (a::l)).extract 0 (0+1) = #[a]:=by
   apply Array.ext'
   simp
  rw[e,i' (by rw[dz];lia),dm]
  by_cases h:a=c
  ·subst h
   simp
  ·rw[D' (by intro q;exact h (ao q))]
   simp[h]
theorem Wf:("0":af)=⟨#[48]⟩:=⋯
end Pg
namespace Pg
open PySem L2
def smC:List Nat:=[97,99,100,102,103,104,105,106,107,108,111,112,113,114,116,117,118,119,120,121,122]
def Yu (c:Nat):Bool:=smC.contains c
theorem LB:("acdfghijklopqrtuvwxyz":af).cps.toList=smC:=⋯
theorem TZ {i:Int}(h0:0<=i)(h1:i<21):∃c,QA ("acdfghijklopqrtuvwxyz":af).cps.toList i=some c/\Yu c=true:=by
 rw[LB];obtain⟨c,e,m⟩:=j8 (xs:=smC) h0 h1;exact⟨c,e,dW.mpr m⟩
theorem XY (h:Yu c=true):Qr c=true:=by
 have m:=dW.mp h;have all:smC.all Qr=true:=⋯
 exact dj.mp all c m
theorem Jd (h1:1<=z.cps.toList.length)(h2:z.cps.toList.length<=8)(h3:z.cps.toList.all Qr=true)(h4:∀w∈noNames,z.cps.toList≠w.cps.toList):yx z:=by
 refine⟨⟨by rw[zI];exact h1,by rw[zI];exact h2,h3⟩,?_⟩
 cases e:noNames.contains z with
 |false=>rfl
 |true=>exact K7 rfl (h4 z (dW.mp e))
theorem tq:∀w∈noNames,2<=w.cps.toList.countP (λc=>!Yu c):=by
 have all:(noNames.all λw=>decide (2<=w.cps.toList.countP (λc=>!Yu c)))=true:=⋯
 exactλw h=>G' (dj.mp all w h)
theorem cA:∀w∈noNames,w.cps.toList.head?≠some 113:=by
 have all:(noNames.all λw=>decide (w.cps.toList.head?≠some 113))=true:=⋯
 exactλw h=>G' (dj.mp all w h)
theorem Js (h:∀c∈l,Yu c=true):l.countP (λc=>!Yu c)=0:=by
 rw[List.countP_eq_zero];intro c hc;rw[h c hc];decide
theorem OR {fs:List Nat}{k m:Nat}(hf:∀c∈fs,Yu c=true)(hl:fs.length=7)(hc:Qr c=true)(hk:k<=m)(hm:m<=7)(e:z.cps.toList=fs.take k++[c]++(fs.drop k).take (m-k)):yx z:=by
 have ha:∀x∈fs.take k,Yu x=true:=λx hx=>hf x (EL hx);have hb:∀x∈(fs.drop k).take (m-k),Yu x=true:=λx hx=>hf x (List.mem_of_mem_drop (EL hx))
 have len:z.cps.toList.length=m+1:=by
  rw[e,CS,CS,dH,dH,Dj,hl,dB];lia
 refine Jd (by lia) (by lia) ?_ λw hw ew=>?_
 ·rw[e,Ez,Ez,CM,CM];refine⟨⟨dj.mpr λx hx=>XY (ha x hx),?_⟩,dj.mpr λx hx=>XY (hb x hx)⟩;show(Qr c&&true)=true;rw[hc];rfl
 ·have t:=tq w hw;rw[<- ew,e,Hh,Hh,Js ha,Js hb]at t;have:[c].countP (λc=>!Yu c)<=1:=List.countP_le_length;lia
theorem Nm {fs:List Nat}{k:Nat}(hf:∀c∈fs,Yu c=true)(hl:fs.length=7)(e:z.cps.toList=113::fs.take k):yx z:=by
 refine Jd ?_ ?_ ?_ λw hw ew=>?_
 ·rw[e];exact eQ (du _)
 ·rw[e,dz,dH,hl];lia
 ·rw[e,Dx,CM];exact⟨⋯,dj.mpr λx hx=>XY (hf x (EL hx))⟩
 ·have t:=cA w hw;rw[<- ew,e]at t;exact t rfl
def okNames:List af:=["bases","nets","months","sum","ne","basis","bet","sumsum","netnet","mont"]
theorem xZ:∀z∈okNames,yx z:=by
 have all:(okNames.all λz=>decide (1<=z.cps.toList.length)&&decide (z.cps.toList.length<=8)&&z.cps.toList.all Qr&&noNames.all λw=>decide (z.cps.toList≠w.cps.toList))=true:=⋯
 intro z hz;have h:=dj.mp all z hz;rw[CM,CM,CM]at h;exact Jd (G' h.1.1.1) (G' h.1.1.2) h.1.2 λw hw=>G' (dj.mp h.2 w hw)
theorem ZX (z:af)(k:Nat):(fC z none (some ((k:Nat):Int))).cps.toList=z.cps.toList.take k:=by
 rw[uD];unfold W9;rw[HT.wg,HT.kH,Ep,Es]
 by_cases h:k<=z.cps.toList.length
 ·rw[Dl h]
 ·rw[ee (by lia),Do (CI _),Do (by lia)]
theorem NC (z:af)(k m:Nat)(h:m<=z.cps.toList.length)(hk:k<=m):(fC z (some ((k:Nat):Int)) (some ((m:Nat):Int))).cps.toList=(z.cps.toList.drop k).take (m-k):=by
 rw[uD];unfold W9;rw[HT.wg,HT.wg,Dl h,Dl (CW hk h)]
theorem P8 {p:af->Prop}:∀{zs:List V},(∀u∈zs,∃z,u=.str z/\p z)->∃nms:List af,zs=nms.map V.str/\∀z∈nms,p z:=by
 intro zs
 induction zs with
 |nil=>exactλ_=>⟨[],U,λz h=>nomatch h⟩
 |cons u r ih=>
  intro h;obtain⟨z,rfl,hz⟩:=h u CU;obtain⟨nms,e,hn⟩:=ih λv hv=>h v (C6 _ hv);refine⟨z::nms,by rw[e];rfl,λy hy=>?_⟩;rcases CJ.mp hy with rfl |hy
  ·exact hz
  ·exact hn y hy
theorem lR {p:Nat->Prop}:∀{zs:List V},(∀u∈zs,∃c,u=.str ⟨#[c]⟩/\p c)->∃cs:List Nat,zs=(cs.map λc=>(⟨#[c]⟩:af)).map V.str/\∀c∈cs,p c:=by
 intro zs
 induction zs with
 |nil=>exactλ_=>⟨[],U,λz h=>nomatch h⟩
 |cons u r ih=>
  intro h;obtain⟨z,rfl,hz⟩:=h u CU;obtain⟨nms,e,hn⟩:=ih λv hv=>h v (C6 _ hv);refine⟨z::nms,by rw[e];rfl,λy hy=>?_⟩;rcases CJ.mp hy with rfl |hy
  ·exact hz
  ·exact hn y hy
theorem Mb {zs:List V}{xs:List α}{p:V->Prop}(h:∀(i:Nat) u,zs[i]?=some u->∃x,xs[i]?=some x/\p u):∀u∈zs,p u:=λu hu=>by
 obtain⟨i,hi⟩:=Et.mp hu;obtain⟨_,_,hp⟩:=h i u hi;exact hp
theorem BA {p:Nat->Prop}(h0:p 0)(h1:p 1)(h2:p 2)(h3:p 3):∀i,i<4->p i
 |0,_=>h0
 |1,_=>h1
 |2,_=>h2
 |3,_=>h3
end Pg
variable {ord:List ae}
namespace ST
open PySem PySem.Spec PyProof.Rows
def own:List Char:="set_iterator".toList.reverse
theorem Gh:Manifest.owners.lookup (String.ofList own.reverse)=some Manifest.sig_set_iterator:=by kernel_rfl
theorem next_slot:Slot "set_iterator" "__next__" "set_iterator.__next__":=by
 refine Slot.of (owner:="set_iterator") (n:="__next__") ?_ ?_ ?_ ?_ (.inl ?_) ?_
 ·rw[IA,A8]
  kernel_rfl
 ·decide+kernel
 ·decide+kernel
 ·decide+kernel
 ·decide+kernel
 ·rw[Ke]
  kernel_rfl
theorem Vj:Slot "set_iterator" "__iter__" "set_iterator.__iter__":=by
 refine Slot.of (owner:="set_iterator") (n:="__iter__") ?_ ?_ ?_ ?_ (.inl ?_) ?_
 ·rw[IA,A8]
  kernel_rfl
 ·decide+kernel
 ·decide+kernel
 ·decide+kernel
 ·decide+kernel
 ·rw[Ke]
  kernel_rfl
theorem JF:Kc table "set_iterator.__next__" = some Builtin.«set_iterator.__next__»:=HX (by kernel_rfl)
theorem gA:Kc table "set_iterator.__iter__" = some Builtin.«dict_keyiterator.__iter__»:=Kf (id':="dict_keyiterator.__iter__") (by kernel_rfl) rfl ⋯ (by kernel_rfl)
theorem oO:Kc table "set.__iter__" = some Builtin.«frozenset.__iter__»:=Kf (id':="frozenset.__iter__") (by kernel_rfl) rfl ⋯ (by kernel_rfl)
theorem Vr (a:ae):KZ "set_iterator.__next__" ⟨[a],[]⟩:=by
 unfold KZ;rw[signature?_of (id:="set_iterator.__next__") (n:="__next__".toList.reverse) (o:=own) (by kernel_rfl) Gh]
 kernel_rfl
theorem G3 (a:ae):KZ "set_iterator.__iter__" ⟨[a],[]⟩:=by
 unfold KZ;rw[signature?_of (id:="set_iterator.__iter__") (n:="__iter__".toList.reverse) (o:=own) (by kernel_rfl) Gh]
 kernel_rfl
theorem OQ {src:Source}{Q:Nat->ar->Prop}(hn:0<n)(h:∀i d,i<n->Q i {s with drawn:=d}):wpAny (aA prog w) A (choose src n) Q E s :=
 λΓ p hΓ=>⟨eM hn,h _ _ (Ks _ hn)⟩
theorem JP {l:List α}(h:i<l.length):(l[i]::l.eraseIdx i).Perm l:=by
 induction l generalizing i with
 |nil=>exact K7 h (Eh _)
 |cons a l ih=>
  cases i with
  |zero=>exact .refl _
  |succ i=>
   have h':i<l.length:=Nat.lt_of_succ_lt_succ h;show(l[i]::a::l.eraseIdx i).Perm (a::l);exact(List.Perm.swap _ _ _).trans (.cons a (ih h'))
theorem MP (n:Nat)(xs:List α){Q:List α->ar->Prop}(e:n=xs.length)(h:∀ys d,ys.Perm xs->Q ys {s with drawn:=d}):wpAny (aA prog w) A (drawOrder n xs) Q E s:=by
 induction n generalizing xs s Q with
 |zero=>
  cases xs with
  |nil=>exact aj (h [] s.drawn (.refl _))
  |cons x xs=>exact K7 e (de (Nat.succ_pos _))
 |succ n ih=>
  cases xs with
  |nil=>exact K7 e (Nat.succ_ne_zero _)
  |cons x xs=>
   unfold drawOrder;refine aa (OQ (by simp) λi d hi=>?_);rw[CZ hi];have ep:=JP hi;refine aa (ih _ ?_ λys d' hp=>aj (h _ d' ((List.Perm.cons _ hp).trans ep)));rw[EZ hi];lia
theorem Gy (next:Nat->Nat):∀(n k:Nat) (l:List α) (out:Array α),n=l.length->(pickOrder.go next n k l out).toList.Perm (out.toList++l)
 |0,k,[],out,_=>by
  unfold pickOrder.go
  simp
 |n+1,k,x::l,out,e=>by
  unfold pickOrder.go;have hi:next k%(x::l).length<(x::l).length:=Ks _ (by simp);rw[CZ hi];have ep:=JP hi;refine(Gy next n (k+1) _ _ ?_).trans ?_
  ·rw[EZ hi];lia
  ·rw[eW,dU];exact List.Perm.append_left _ ep
theorem VH (next:Nat->Nat)(xs:Array α):(pickOrder next xs).toList.Perm xs.toList:=by
 have:=Gy next xs.size 0 xs.toList #[] (by simp);rw[EK]at this;exact this
def Wu (first:ae)(i n ep:Nat)(S:ag):g_:={cls:=.type "set_iterator",dict:=none,data:=.fields #[first,fj i,.ref S,fj n,fj ep],slots:=#[]}
def YI (es:Array (Int×ae))(t:q_):Bool:=!t.plain&&decide (es.size > 1)
def QK (t:q_)(i:Nat):Nat:=if i=0 then 0 else t.place.getD (i-1) 0+1
theorem xV (g:vG b t)(hi:i<=t.place.size):aO t.place (QK t i)=i:=by
 unfold QK
 cases i with
 |zero=>exact XN g.rise
 |succ i=>exact Xx g.rise hi
inductive uE (w:aP)(es:Array (Int×ae))(ep:Nat)(t:q_)(S T:ag)(ord:List ae)(h:fi)(i:Nat):ae->Prop
 |text (k:Nat):jz w=true->ord=(pickOrder (w.params.setOrder S ep) es).toList.map (·.2)->uE w es ep t S T ord h i (fj k)
 |table:jz w=false->YI es t=false->vG true t->ord=es.toList.map (·.2)->uE w es ep t S T ord h i (fj (QK t i))
 |drawn (ps:List Nat):jz w=false->h.get? T=some (fZ "tuple" (ps.map λ(p:Nat)=>fj p).toArray 0)->ps.Perm (aY es.size)->ord=ps.map (λp=>(es.getD p (0,.none)).2)->uE w es ep t S T ord h i (.ref T)
theorem Jh {Q:Bool->ar->Prop}(h:Q (jz w) s):wpAny (aA prog w) A setsByText Q E s:=by
 unfold setsByText;exact aa (AF (aj h))
theorem WO {S:ag}{first:Int}{Q:Option (ae×Nat)->ar->Prop}(og:s.heap.get? S=some o)(dg:o.data=.set es ep t)(fg:t.fits es.size=true)(hi:i<=es.size)(F:uE w es ep t S T ord h i (.int first 0))(q:∀k:Nat,(∀h',(∀v,ord[i]?=some v->uE w es ep t S T ord h' (i+1) (fj k)))->Q (ord[i]?.map λv=>(v,k)) s):wpAny (aA prog w) A (KL S first.toNat i ep) Q E s:=by
 unfold KL;refine aa (fG og dg fg ?_);refine aa (Jh ?_);generalize hv:iC first 0=v at F
 cases F with
 |text k e1 e2=>
  cases hv;rw[e1];simp only[↓reduceIte,bne_self_eq_false,Dn];unfold setWalk;refine aa (aa (fG og dg fg (aa (Jh ?_))));rw[e1];simp only[↓reduceIte];refine aa (AF (aj (aj ?_)));have:=q k λh' v _=>.text k e1 e2;rw[e2,CO,DQ,Kt]at this;exact this
 |table e1 e2 g e3=>
  have f1:first=QK t i:=by
   cases hv;rfl
  subst f1
  have ts:t.place.size=es.size:=by
   have:=fg;simp only[SetTable.fits,CM,beq_iff_eq]at this;exact this.1
  rw[e1];simp only[Dn,↓reduceIte,dP];show wpAny _ _ (if YI es t=true then _ else _) _ _ _;rw[e2];simp only[Dn,↓reduceIte];show wpAny _ _ ((if (!t.led && !es.isEmpty)=true then unsupported "set:maker-not-led" else pure ()) >>= _) _ _ _;rw[g.led];simp only[ej,dO,Dn,↓reduceIte];refine aa (aj (aj ?_));rw[xV g (ts ▸ hi)]
  by_cases c:i<es.size
  ·have c':i<t.place.size:=ts ▸ c;rw[Dm c,Dm c']
   have ov:ord[i]?=some es[i].2:=by
    rw[e3,CO,DQ,Dm c];rfl
   have sl:QK t (i+1)=t.place[i]+1:=by
    unfold QK
    simp[sy,c']
   have:=q (t.place[i]+1) λh' v _=>sl ▸ uE.table e1 e2 g e3;rw[ov]at this;exact this
  ·rw[Ee (Dc c)]
   have ov:ord[i]?=none:=by
    rw[e3,CO,DQ,Ee (Dc c)];rfl
   have:=q 0 λh' v z=>by
    rw[ov]at z;cases z
   rw[ov]at this;exact this
 |drawn ps e1 e2 e3 e4=>cases hv
structure It (w:aP)(es:Array (Int×ae))(ep:Nat)(t:q_)(S T I:ag)(ord:List ae)(i:Nat)(h:fi):Prop where
 it:∃first,h.get? I=some (Wu first i es.size ep S)/\uE w es ep t S T ord h i first
 set:∃o,h.get? S=some o/\o.data=.set es ep t
 fits:t.fits es.size=true
theorem uE.keep {S:ag}{v:ae}(F:uE w es ep t S T ord h i v)(k:∀o,h.get? T=some o->h'.get? T=some o):uE w es ep t S T ord h' i v:=by
 cases F with
 |text k e1 e2=>exact .text k e1 e2
 |table e1 e2 g e3=>exact .table e1 e2 g e3
 |drawn ps e1 e2 e3 e4=>exact .drawn ps e1 (k _ e2) e3 e4
theorem uE.len {S:ag}{v:ae}(F:uE w es ep t S T ord h i v):ord.length=es.size:=by
 cases F with
 |text k e1 e2=>
  rw[e2,CH,(VH _ _).length_eq]
  simp
 |table e1 e2 g e3=>
  rw[e3]
  simp
 |drawn ps e1 e2 e3 e4=>
  rw[e4,CH,e3.length_eq,dD]
theorem Ol {S:ag}{v:ae}{Q:Option ae->ar->Prop}(J:It w es ep t S T I ord i s.heap)(hS:S≠I)(hT:T≠I)(hv:ord[i]?=some v)(q:∀h',fB I s.heap h'->It w es ep t S T I ord (i+1) h'->Q (some v) {s with heap:=h'}):wpAny (aA prog w) A (HU (.ref I)) Q E s:=by
 obtain⟨⟨first,ho,F⟩,⟨o,og,dg⟩,fg⟩:=J;have ty:s.TypeIs (.ref I) "set_iterator":=⟨_,ho,U⟩
 have li:i<es.size:=by
  rw[<- F.len];exact(C7.mp hv).1
 unfold HU;refine aa (sI (AG (name:=HP "__next__") ty next_slot (hV next_slot ty JF ?_ (Vr _))));unfold Builtin.«set_iterator.__next__»;refine aa (aj (aa (Kg ho U ?_)));dsimp only [fj];unfold Kh;refine aa (aa (fG og dg fg (aj ?_)));simp only[bne_self_eq_false,Dn,↓reduceIte]
 have K_:∀(h1:fi) (x1:ae),fB I s.heap h1->h1.get? I=some (Wu x1 (i+1) es.size ep S)->(∀h',(∀o,s.heap.get? T=some o->h'.get? T=some o)->uE w es ep t S T ord h' (i+1) x1)->Q (some v) {s with heap:=h1}:=λh1 x1 sb e1 F1=>
  q h1 sb ⟨⟨x1,e1,F1 h1 λo z=>(sb.2 T hT).trans z⟩,⟨o,(sb.2 S hS).trans og,dg⟩,fg⟩
 have num:∀f:Int,first=.int f 0->wpAny (aA prog w) A.in1 (KL S f.toNat ((i:Nat):Int).toNat ((ep:Nat):Int).toNat >>= λr=>match r with
    |some (x,next)=>do
     x_ (aF I) 0 (iC (next:Nat) 0)
     x_ (aF I) 1 (iC ((i:Nat)+1) 0)
     ret x
    |none=>do
     x_ (aF I) 2 aN
     let e <- K0 (fU "StopIteration") []
     raiseNew e)
   (λK_ s'=>∃v,K_=Fin.done (Flow.ret v)/\wpAny (aA prog w) A (pure (some v)) Q E s') (λe s'=>wpAny (aA prog w) A (do let b <- FY e (fU "StopIteration");if b=true then pure none else throw e) Q E s') s:=by
  intro f ef;subst ef;rw[dP,dP];refine aa (WO og dg fg (eK li) F λk F1=>?_);rw[hv];refine aa (ic ho (by simp) λh1 e1 s1=>?_);refine aa (ic e1 (by simp) λh2 e2 s2=>?_);exact aj ⟨v,U,aj (K_ h2 (fj k) (s1.trans s2) e2 λh' _=>F1 h' v hv)⟩
 cases F with
 |text k e1 e2=>exact num k rfl
 |table e1 e2 g e3=>exact num _ rfl
 |drawn ps e1 e2 e3 e4=>
  have pv:∃p,ps[i]?=some p/\p<es.size/\v=(es.getD p (0,.none)).2:=by
   rw[e4,CO,C8]at hv;obtain⟨p,p1,p2⟩:=hv;exact⟨p,p1,eX.mp (e3.mem_iff.mp (dG p1)),p2.symm⟩
  obtain⟨p,p1,p2,p3⟩:=pv;show wpAny _ _ (seqItems? (.ref T) >>= _) _ _ _;refine aa (Ki e2 U ?_)
  have pe:(ps.map λ(p:Nat)=>fj p).toArray[((i:Nat):Int).toNat]?=some (.int (p:Nat) 0):=by
   rw[dP,A9,CO,p1];rfl
  dsimp only;rw[pe];dsimp only;rw[dP,dP];unfold setNextDrawn;refine aa (aa (fG og dg fg ?_));simp only[bne_self_eq_false,Dn,↓reduceIte];rw[Dm p2];refine aj ?_;refine aa (ic ho (by simp) λh1 e5 s1=>?_)
  have vv:es[p].2=v:=by
   rw[p3]
   simp[sy,p2]
  exact aj ⟨v,vv ▸ U,aj (K_ h1 (.ref T) s1 e5 λh' k=>.drawn ps e1 (k _ e2) e3 e4)⟩
theorem Vo (hh:A.handled=none){h0:fi}{Q:Option ae->ar->Prop}(q:∀h',Fo I h0 h'->Q none {s with heap:=h'}){h1:fi}(x:Fo I h0 h1):
  wpAny (aA prog w) A.in1 (K0 (fU "StopIteration") [] >>= λe=>(raiseNew e:Kv FE))
   (λK_ s'=>∃v,K_=Fin.done (Flow.ret v)/\wpAny (aA prog w) A (pure (some v)) Q E s') (λe s'=>wpAny (aA prog w) A (do let b <- FY e (fU "StopIteration");if b=true then pure none else throw e) Q E s') {s with heap:=h1}:=by
 simp only[K0,newTuple];refine aa (aa (fF ?_ (by size_fits)));refine aa (m:=firstArgMember _ _) (Iu (a:=aN) U ?_);refine fF ?_ (by size_fits);simp only[raiseNew];refine aa (wpAny_handled ?_);rw[show A.in1.handled=none from hh];refine aa (aj (Fe ?_));refine aa (H_ (T:="StopIteration") (b:=true) ⟨_,dA _ U,U⟩ isSubtype_stop ?_);exact aj (q _ ((x.push _).push _))
theorem mf (hh:A.handled=none){S:ag}{Q:Option ae->ar->Prop}(J:It w es ep t S T I ord es.size s.heap)(q:∀h',Fo I s.heap h'->Q none {s with heap:=h'}):wpAny (aA prog w) A (HU (.ref I)) Q E s:=by
 obtain⟨⟨first,ho,F⟩,⟨o,og,dg⟩,fg⟩:=J;have ty:s.TypeIs (.ref I) "set_iterator":=⟨_,ho,U⟩;have hv:ord[es.size]?=none:=Di (Dy F.len);unfold HU;refine aa (sI (AG (name:=HP "__next__") ty next_slot (hV next_slot ty JF ?_ (Vr _))));unfold Builtin.«set_iterator.__next__»;refine aa (aj (aa (Kg ho U ?_)));dsimp only [fj];unfold Kh;refine aa (aa (fG og dg fg (aj ?_)));simp only[bne_self_eq_false,Dn,↓reduceIte]
 have num:∀f:Int,first=.int f 0->wpAny (aA prog w) A.in1 (KL S f.toNat ((es.size:Nat):Int).toNat ((ep:Nat):Int).toNat >>= λr=>match r with
    |some (x,next)=>do
     x_ (aF I) 0 (iC (next:Nat) 0)
     x_ (aF I) 1 (iC ((es.size:Nat)+1) 0)
     ret x
    |none=>do
     x_ (aF I) 2 aN
     let e <- K0 (fU "StopIteration") []
     raiseNew e)
   (λK_ s'=>∃v,K_=Fin.done (Flow.ret v)/\wpAny (aA prog w) A (pure (some v)) Q E s') (λe s'=>wpAny (aA prog w) A (do let b <- FY e (fU "StopIteration");if b=true then pure none else throw e) Q E s') s:=by
  intro f ef;subst ef;rw[dP,dP];refine aa (WO og dg fg (CI _) F λk F1=>?_);rw[hv];refine aa (ic ho (by simp) λh1 e1 s1=>?_);exact Vo hh q s1.extBut
 cases F with
 |text k e1 e2=>exact num k rfl
 |table e1 e2 g e3=>exact num _ rfl
 |drawn ps e1 e2 e3 e4=>
  have pn:ps[es.size]?=none:=Di (by rw[e3.length_eq,dD];exact CI _);show wpAny _ _ (seqItems? (.ref T) >>= _) _ _ _;refine aa (Ki e2 U ?_)
  have pe:(ps.map λ(p:Nat)=>fj p).toArray[((es.size:Nat):Int).toNat]?=none:=by
   rw[dP,A9,CO,pn];rfl
  dsimp only;rw[pe];dsimp only;refine aa (ic ho (by simp) λh1 e5 s1=>?_);refine aa (ic e5 (by simp) λh2 e6 s2=>?_);exact Vo hh q (s1.trans s2).extBut
theorem OD {S:ag}(J:It w es ep t S T I ord i s.heap)(q:Q (.ref I) s):wpAny (aA prog w) A (IV (.ref I)) Q E s:=by
 obtain⟨⟨first,ho,F⟩,_,_⟩:=J;have ty:s.TypeIs (.ref I) "set_iterator":=⟨_,ho,U⟩;refine Hs ty Vj (hV Vj ty gA ?_ (G3 _));exact aj ⟨_,U,"set_iterator",_,ty,next_slot.lookup,q⟩
theorem P9 (hh:A.handled=none){S:ag}(hS:S≠I)(hT:T≠I)(hl:ord.length=es.size):
  Walks prog w A I [I,S,T] [I] es.size (λi v=>ord[i]?=some v) (It w es ep t S T I ord) where
 sub:=λb hb=>by
  rw[CY.mp hb];exact CU
 frame:=λi h h' J k=>by
  obtain⟨⟨first,ho,F⟩,⟨o,og,dg⟩,fg⟩:=J;exact⟨⟨first,k I (by simp) _ ho,F.keep λo e=>k T (by simp) _ e⟩,⟨o,k S (by simp) _ og,dg⟩,fg⟩
 item:=λi s Q E hi J q=>by
  have hv:ord[i]?=some (ord[i]'(hl ▸ hi)):=CZ _;refine Ol J hS hT hv λh' sb J'=>?_;exact q _ h' s.toks hv J' λb o hb e=>(sb.2 b λz=>hb (CY.mpr z)).trans e
 done:=λs Q E J q=>mf hh J λh' x=>q h' s.toks λb o hb e=>x b o (λz=>hb (CY.mpr z)) e
 self:=λi s Q E J q=>OD J q
theorem pj {S:ag}(og:s.heap.get? S=some o)(hx:o.ExactSet)(dg:o.data=.set es ep t)(fg:t.fits es.size=true)(g:vG (!jz w) t)(hz:es.size<=au)(q:∀h' d T I ord,(∀b o,s.heap.get? b=some o->h'.get? b=some o)->s.heap.get? I=none->S≠I->T≠I->It w es ep t S T I ord 0 h'->ord.Perm (es.toList.map (·.2))->(T=S∨s.heap.get? T=none)->Q (.ref I) {s with heap:=h',drawn:=d}):wpAny (aA prog w) A (IV (.ref S)) Q E s:=by
 have ty:s.TypeIs (.ref S) "set":=⟨_,og,hx.1⟩;have lt:S<s.heap.objs.size:=C5 og;refine Hs ty II (hV II ty oO ?_ (F.args_set_iter_1 _));unfold Builtin.«frozenset.__iter__»;refine aa (m:=Builtin.Frozenset.slot0 "__iter__" ⟨[.ref S],[]⟩) (Iu (a:=S) U ?_);unfold Builtin.Frozenset.sizeOf Kh;refine aa (aa (aa (fG og dg fg (aj (aj ?_)))));unfold setDrawn;refine aa (aa (fG og dg fg (aa (Jh (aj ?_)))));show wpAny _ _ (if (!jz w&&YI es t)=true then _ else _) _ _ _;unfold setEpoch
 have make:∀(h1:fi) (d:Drawn) (first:ae) (T:ag) (ord:List ae),(∀b o,s.heap.get? b=some o->h1.get? b=some o)->T≠h1.objs.size->(∀h',(∀o,h1.get? T=some o->h'.get? T=some o)->uE w es ep t S T ord h' 0 first)->ord.Perm (es.toList.map (·.2))->(T=S∨s.heap.get? T=none) ->
   wpAny (aA prog w) A.in1 ((do return (<- setState S).2.1) >>= λe=>newFields "set_iterator" [first,fj 0,.ref S,fj es.size,fj e] >>= λr=>ret r)
    (λK_ s'=>∃v,K_=Fin.done (Flow.ret v)/\∃T' f,s'.TypeIs v T'/\J_ (.type T') (HP "__next__")=pure (some f)/\Q v s') E {s with heap:=h1,drawn:=d}:=by
  intro h1 d first T ord keep nT F1 pm hT
  refine aa (aa (fG (keep _ _ og) dg fg (aj ?_)));refine aa (fF ?_);have gI:(h1.push (Wu first 0 es.size ep S)).get? h1.objs.size=some (Wu first 0 es.size ep S):=dA _ rfl;refine aj ⟨_,U,"set_iterator",_,⟨_,gI,U⟩,next_slot.lookup,?_⟩;refine q (h1.push (Wu first 0 es.size ep S)) d T h1.objs.size ord (λb o e=>dc _ (keep b o e)) ?_ ?_ nT ⟨⟨first,gI,F1 _ λo e=>dc _ e⟩,⟨o,dc _ (keep _ _ og),dg⟩,fg⟩ pm hT
  ·cases e:s.heap.get? h1.objs.size with
   |none=>rfl
   |some o'=>exact K7 (C5 (keep _ _ e)) (eI _)
  ·exact de (C5 (keep _ _ og))
 dsimp only
 cases hd:(!jz w&&YI es t) with
 |true=>
  rw[CM,Ds]at hd;rw[K6 rfl];refine aa (MP _ _ dD.symm λps d pm=>?_);have pz:ps.length<=au:=by rw[pm.length_eq,dD];exact hz
  refine aa (Kj ?_ (by rw[CH];exact pz));refine make _ d (.ref s.heap.objs.size) s.heap.objs.size (ps.map λp=>(es.getD p (0,.none)).2) (λb o e=>dc _ e) ?_ (λh' k=>.drawn ps hd.1 (k _ (dA _ U)) pm U) ?_ (.inr (DW (CI _)))
  ·rw[DF];exact de (DG _)
  ·refine(pm.map _).trans (List.Perm.of_eq ?_);apply DP;intro i;rw[CO,CO]
   by_cases c:i<es.size
   ·rw[FK c,DQ,Dm c]
    simp[sy,c]
   ·rw[Di (by simpa using c),Di (by simpa using c)];rfl
 |false=>
  rw[K5 dq];refine aa (aj ?_)
  by_cases hb:jz w=true
  ·exact make s.heap s.drawn (fj 0) S _ (λ_ _ e=>e) (de lt) (λh' k=>.text 0 hb U) ((VH _ _).map _) (.inl U)
  ·have hb:jz w=false:=by simpa using hb
   rw[hb]at hd g;exact make s.heap s.drawn (fj 0) S _ (λ_ _ e=>e) (de lt) (λh' k=>.table hb (by simpa using hd) g U) (.refl _) (.inl U)
theorem OZ {S:ag}{Q:Bool->ar->Prop}(og:s.heap.get? S=some o)(hx:o.ExactSet)(q:Q false s):wpAny (aA prog w) A (sT (.ref S)) Q E s:=by
 have ty:s.TypeIs (.ref S) "set":=⟨_,og,hx.1⟩;unfold sT;refine aa (Iy ty F.slot_set_len.lookup ?_);generalize hid:("set.__len__":String)=id0
 wp_delta
 rw[show splitId id0=some ("set","__len__") from by subst hid;decide+kernel];subst hid;refine aa (H_ (T:="set") (b:=true) ty sub_set_self ?_);refine AZ (λno=>K7 no ∅) λ_=>?_;refine AZ (λ_=>?_) λno=>K7 ⋯ no;exact aa (wpAny_typeOf ty (aj q))
theorem xF (hh:A.handled=none){S:ag}{c₀:Nat}{res:ae}(og:s.heap.get? S=some o)(hx:o.ExactSet)(dg:o.data=.set es ep t)(fg:t.fits es.size=true)(g:vG (!jz w) t)(hz:es.size<=au)(hD:s.heap.get? D=some {cls:=.type "list",data:=.seq #[] c₀})(hR:∀h' d tk L_ c,(∀b o,b≠D->s.heap.get? b=some o->h'.get? b=some o)->h'.get? D=some {cls:=.type "list",dict:=none,data:=.seq L_ c,slots:=#[]}->L_.toList.Perm (es.toList.map (·.2))->R (.ok (.ret res)) {s with heap:=h',drawn:=d,toks:=tk}):
  wpAny (aA prog w) A.in1 (iR (.ref D) (.ref S) res)
   (λK_ s'=>match K_ with|.done f=>R (.ok f) s' |.again c'=>c'.quiet=true/\codeAny (aA prog w) A c' R s') (λe s'=>R (.error e) s') s:=by
 have DS:D≠S:=λe=>by
  rw[e,og]at hD;cases hD;cases dg
 unfold iR;refine aa (wpAny_typeOf (T:="set") ⟨_,og,hx.1⟩ ?_);have n1:Av (.ref D) (.ref S)=false:=by simp[Av,DS]
 have n2:(fU "set" == fU "list")=false:=∅
 have n3:(fU "set" == fU "tuple")=false:=∅
 simp only[n1,n2,n3,Bool.or_false,Dn,if_false];refine aa (pj og hx dg fg g hz λh1 d T I ord keep nI SI TI J pm tT=>?_);have g1:h1.get? D=some {cls:=.type "list",data:=.seq #[] c₀}:=keep _ _ hD;have DI:D≠I:=λe=>by rw[e,nI]at hD;cases hD
 have DT:D≠T:=λe=>by
  rcases tT with rfl |z
  ·exact DS e
  ·rw[e,z]at hD;cases hD
 refine aa (d_ (OZ (keep _ _ og) hx ?_));refine AZ (λ_=>?_) λno=>K7 ⋯ no;refine aa (FZ (aa ?_));show wpAny _ _ (updateSeq D (·.push .none) >>= λ_=>updateSeq D (·.pop)) _ _ _;refine aa (IB g1 U ?_);have g2:=Du (fI (·.push aN)) g1 rfl;refine IB (hz:=by seq_fits) g2 rfl ?_;have g3:=Du (fI (·.pop)) g2 rfl
 have W:=(P9 (prog:=prog) (w:=w) (A:=A.in1) (by simp[hh]) (ep:=ep) (t:=t) SI TI (by
  obtain⟨⟨first,_,F⟩,_⟩:=J;exact F.len):Walks prog w A.in1 I [I,S,T] [I] es.size (λi v=>ord[i]?=some v) (It w es ep t S T I ord))
 have up:∀b o,b≠D->h1.get? b=some o->((h1.update D (fI (·.push aN))).update D (fI (·.pop))).get? b=some o:=λb o hb e=>
  (d4 _ _ (fK hb)).trans ((d4 _ _ (fK hb)).trans e)
 refine aj ⟨Ar F.plain_extend_loop _,codeAny_extend_loopS W.toS hz D ?_ res es.size 0 _ #[] _ U (du _) (W.frame _ _ _ J λb hb o e=>up b o ?_ e) g3 (ItemsOf.nil _) λs' L_ c hm hD' hacc=>?_⟩
 ·intro m;simp only[CJ,CV,or_false]at m;rcases m with m |m |m
  ·exact DI m
  ·exact DS m
  ·exact DT m
 ·intro z;subst z;simp only[CJ,CV,or_false]at hb;rcases hb with m |m |m
  ·exact DI m
  ·exact DS m
  ·exact DT m
 ·rw[Moved.eq_with hm];refine hR s'.heap d s'.toks L_ c (λb o hb e=>hm.heap b o (λm=>?_) (up b o hb (keep b o e))) hD' ?_
  ·rcases CJ.mp m with m |m
   ·exact hb m
   ·rw[CY.mp m,nI]at e;cases e
  ·have:L_.toList=ord:=by
    apply DP;intro i;rw[DQ];have al:=hacc.1
    have ol:ord.length=es.size:=by
     obtain⟨⟨first,_,F⟩,_⟩:=J;exact F.len
    by_cases c:i<es.size
    ·have ca:i<L_.size:=by rw[al];exact c
     rw[Dm ca];exact(hacc.2 i _ (Dm ca)).symm
    ·rw[Ee (by rw[al];exact Dc c),Di (by rw[ol];exact Dc c)]
   rw[this];exact pm
inductive RY (w:aP)(s:ar)(es:Array (Int×ae))(r:Kw)(s':ar):Prop|mk(h' d tk L_ c:_)(_:r=.ok (.ret (.ref s.heap.objs.size)))(_:s' = {s with heap:=h',drawn:=d,toks:=tk})(_:(∀b o,s.heap.get? b=some o->h'.get? b=some o))(_:h'.get? s.heap.objs.size=some {cls:=.type "list",dict:=none,data:=.seq L_ c,slots:=#[]})(_:L_.toList.Perm (es.toList.map (·.2)))
theorem Wo (hh:A.handled=none){S:ag}{R:List ae->ar->Prop}(og:s.heap.get? S=some o)(hx:o.ExactSet)(dg:o.data=.set es ep t)(fg:t.fits es.size=true)(g:vG (!jz w) t)(hz:es.size<=au)(hR:∀h' d tk vs,vs.Perm (es.toList.map (·.2))->(∀b o,s.heap.get? b=some o->h'.get? b=some o)->R vs {s with heap:=h',drawn:=d,toks:=tk}):wpAny (aA prog w) A (collect (.ref S)) R E s:=by
 have go:codeAny (aA prog w) A (.builtin "proto.collect" ⟨[.ref S],[]⟩) (RY w s es) s:=by
  refine fY F.entry_proto_collect ?_;rw[iu F.plain_proto_collect _];show wpAny _ A.in1 (newList [] >>= λl=>again (.builtin "list.__iadd__" ⟨[l,.ref S],[]⟩)) _ _ s;refine aa (fF (aj ⟨Ar HQ _,fY F.entry_list_iadd ?_⟩));rw[iu HQ _];show wpAny _ A.in1 (iR (.ref s.heap.objs.size) (.ref S) (.ref s.heap.objs.size)) _ _ _;refine xF (c₀:=0) (R:=RY w s es) (s:={s with heap:=s.heap.push {cls:=.type "list",data:=.seq ([]:List ae).toArray}}) hh (dc _ og) hx dg fg g hz (dA _ U) λh' d tk L_ c keep hD pm=>?_;exact⟨h',d,tk,L_,c,U,U,λb o e=>keep b o (de (C5 e)) (dc _ e),hD,pm⟩
 unfold collect;refine aa (Fc (ir go λr s' q=>?_));obtain⟨h',d,tk,L_,c,e1,e2,keep,hD,pm⟩:=q;subst e1 e2;show wpAny _ A (load s.heap.objs.size >>= _) _ _ _;exact aa (IW hD (aj (hR h' d tk L_.toList pm keep)))
theorem Nw (el:IM (KH prog w) es.toList){vs:List ae}(pm:vs.Perm (es.toList.map (·.2))):iP vs (vs.map numOf):=by
 refine intsAre_map vs λv hv=>?_;obtain⟨e,he,rfl⟩:=CK.mp (pm.mem_iff.mp hv);obtain⟨⟨k,h1,_⟩,_⟩:=el e he
 cases hv:e.2 with
 |int n t=>exact⟨n,t,U⟩
 |_=>rw[hv]at h1;cases h1
theorem gh (hh:A.handled=none){S:ag}{zs:List Int}(hA:At (KH prog w) (!jz w) s.heap S es)(hK:xq numOf es zs)(h64:zs.length<64)(q:∀(h1 h':fi) d tk out c ys,(∀b o,s.heap.get? b=some o->h1.get? b=some o)->(∀b o,h1.get? b=some o->h'.get? b=some o)->h'.get? h1.objs.size=some (fZ "list" out c)->iP out.toList ys->ys.Pairwise (· < ·)->(∀z,z∈ys↔z∈zs)->ys.length<=zs.length->Q (.ref h1.objs.size) {s with heap:=h',drawn:=d,toks:=tk}):
  wpAny (aA prog w) A (call (.builtin "sorted") [.ref S]) Q E s:=by
 obtain⟨⟨o,ep,t,og,hx,dg,fg,g⟩,el⟩:=hA;have le:es.size<64:=Dd hK.len h64;have hz:es.size<=au:=by rw[ai];lia
 refine iV Iv Ht Hv (Hw _) ?_;unfold Builtin.«sorted»;refine aa (m:=Kk "sorted" 1 1 _) (aj (aa (Wo (by simp[hh]) og hx dg fg g hz λh1 d tk vs pm keep=>?_)));have vl:vs.length<64:=by rw[pm.length_eq,CH,dJ];exact le
 have vI:=Nw el pm;refine aa (As ?_ (by rw[ai];lia));have hD:(h1.push (fZ "list" vs.toArray 0)).get? h1.objs.size=some (fZ "list" vs.toArray 0):=dA _ rfl;refine aa (d_ (hV Ff ⟨_,hD,U⟩ A0 (Kl hD vI vl λout ys a1 a2 a3=>⟨_,U,?_⟩) (Fg _)));obtain⟨c,hc⟩:=sortedHeap_at (out:=out) hD
 have pz:(vs.map numOf).Perm (es.toList.map λe=>numOf e.2):=by
  have:=pm.map numOf
  rwa [CP]at this
 have py:=a2.trans pz;refine aj ⟨_,U,q h1 _ d tk out c ys keep (λb o e=>?_) hc a1 ?_ (λz=>?_) ?_⟩
 ·have lt:=C5 e;rw[Km (de lt) (by rw[DF];exact eP lt)];exact dc _ e
 ·have nd:ys.Nodup:=py.nodup_iff.mpr hK.nd;exact(a3.and nd).imp λh=>Int.lt_iff_le_and_ne.mpr h
 ·rw[py.mem_iff];exact hK.mem z
 ·rw[py.length_eq,CH,dJ];exact hK.len
end ST
namespace L2
open PySem PySem.Spec PyProof.Rows
section
variable {a:aQ}{pos:fW}
theorem zH.drew (I:zH X pins σ H s)(d:Drawn):zH X pins σ H {s with drawn:=d}:=⟨I.ok,I.os,I.bare,I.base,I.loc,I.cell,I.free,I.freeC,I.pin,I.hok,I.len⟩
inductive JI (K:BFr)(Q:VK)(vs:List V)(H1:Hp):Prop|mk(l:ag)(zs:List Int)(_:vs=[.ref l])(_:zN K H1 l (zs.map V.int))(_:zs.length<64)(_:∀ys:List Int,ys.Pairwise (· < ·)->(∀z,z∈ys↔z∈zs)->∀D,H1 D=none->Q (.ref D) (upd H1 D (.lst (ys.map V.int))))
def mO (K:BFr)(ta:TA):TE:=λσ H Q=>ta σ H (JI K Q)
theorem kU:∀{us:List ae} {ys:List Int},iP us ys->qp (ys.map V.int) us:=by
 intro us ys h
 induction h with
 |nil=>exact .nil
 |cons n t _ ih=>exact .cons ⟨t,U⟩ ih
theorem XG (L':X.calm=true)(hg1:Gl X "sorted")(hm1:X.mg "sorted" = none)(hg2:Gl X "set")(S9:X.mg "set" = none)(ha:PA X [a] ta)(hs:ax [a] X.env=[(false,eval a X.env)]:=by rfl)(hs1:ax [.Call (.Name "set" p2) [a] [] p3] X.env=[(false,eval (.Call (.Name "set" p2) [a] [] p3) X.env)]:=by rfl):
  PE X (.Call (.Name "sorted" p1) [.Call (.Name "set" p2) [a] [] p3] [] pos) (mO X.K ta):=by
 intro pins s σ H Q I h;refine KQ (wG I hg1 hm1 boot_sorted (iD ?_ hs1 U));rw[hs1];show wpAny _ _ (KI ((false,eval (.Call (.Name "set" p2) [a] [] p3) X.env)::[])) _ _ s;refine iJ ?_;refine KQ (wG I hg2 S9 boot_set (fL (yj (ha p3 pins s σ H _ I h) λus s1 z=>?_) hs U));obtain⟨vs,H1,I1,r1,l,zs,e,hS,h64,q⟩:=z;subst e
 cases r1 with
 |cons r rr=>
  cases rr;cases r;obtain⟨K8,rv,pl,hz⟩:=I1.list hS;have il:=rv.length;rw[CH]at il;have hh:=I1.ok.hd L';refine ST.Vq (knd:=KH X.prog X.w) (kf:=numOf) (ks:=zs) hh pl.isList (λk v hv=>?_) (λi v hi=>?_) ?_ ?_ λh1 tk1 L=>r_ ?_
  ·obtain⟨t,rfl⟩:=Hx hv;rfl
  ·have SX:i<zs.length:=by
    rw[il];have:=(Dk.mp hi).1
    simpa using this
   obtain⟨u,hu,⟨t,rt⟩⟩:=rv.get (i:=i) (x:=.int zs[i]) (by rw[CO,CZ SX];rfl)
   have:v=.int zs[i] t:=by
    have h1:K8[i]?=some v:=by simpa using hi
    rw[hu,rt]at h1;exact(ao h1).symm
   subst this;exact⟨_,CZ SX,intKind_is _ _ _ _,U⟩
  ·simpa using il
  ·rw[dh,<- il];unfold sX;lia
  ·have J1:zH X pins σ H1 {s1 with heap:=h1,toks:=tk1}:=I1.kept λb o e=>L.keep b o (C5 e) e;obtain⟨⟨es,A1,K1⟩,_⟩:=L;refine ST.gh (s:={s1 with heap:=h1,toks:=tk1}) hh A1 K1 h64 λh2 h3 d tk out c ys k1 k2 hD a1 a2 a3 a4=>?_;have J2:zH X pins σ H1 {s1 with heap:=h2,toks:=tk1}:=J1.kept k1;have hn:H1 h2.objs.size=none:=J2.hok.fresh (CI _);have fa:yL X pins H1 h2.objs.size:=J2.fpOk (CI _) hn;have J3:zH X pins σ H1 {s1 with heap:=h3,toks:=tk}:=J2.kept k2;have rv:=kU a1;refine⟨.ref h2.objs.size,_,(J3.drew d).adopt fa (by simpa using hD) rv ?_,U,q ys a2 a3 _ hn⟩;rw[CH];rw[ai];lia
end
section
variable {r:ag}{Q:VK}{OK:List af->Prop}
end
section
variable {a:aQ}{pos:fW}
end
section
variable {a:aQ}{p pos:fW}
end
end L2
namespace PySem
namespace F
end F
end PySem
namespace L2
open PySem PySem.Spec PyProof.Rows
section
variable {a:aQ}{p pos:fW}
end
end L2
namespace Pg
open PySem L2
def CD (a b:Int):Int:=if b > a then b else a
def Co (a b:Int):Int:=if b<a then b else a
def Cm (r:List (Int×Int))(t:Int):Int:=match r with
 |[]=>t
 |q::_=>Co t q.1
def pc (b:Int)(r:List (Int×Int))(t:Int):Int:=CD 0 (Cm r t-b)
def Bg:List (Int×Int)->Int->Int
 |[],_=>0
 |q::r,t=>q.2*pc q.1 r t+Bg r t
def Up (ps:List (Int×Int)):Prop:=ps.Pairwise λx y=>x.1<y.1
def cB (q:Int×Int):List V:=[.int q.1,.int q.2]
inductive vL (H:Hp)(u:ag)(ps:List (Int×Int)):Prop|mk(ys:_)(_:H u=some (.tup ys))(_:qd H ys (ps.map cB))
theorem vL.same {u:ag}(s:zk H H')(h:vL H u ps):vL H' u ps:=by
 obtain⟨ys,e,t⟩:=h;exact⟨ys,s _ _ e,t.same s⟩
structure QR (ps:List (Int×Int)):Prop where
 few:ps.length<=12
 hd:∃p r,ps=((0:Int),p)::r
 ok:∀q∈ps,Vd q.1/\YM q.2
 up:Up ps
inductive Gd:Nat->Rk->Prop where
 |pln {d:Nat} {r:Rk}:XW r->Gd d r
 |bands {d:Nat} {n w:af} {ps:List (Int×Int)}:yx n->QR ps->Vc w->Gd d (.bands n ps w)
 |ontop {d:Nat} {n w:af} {p:Int} {r:Rk}:yx n->YM p->Vc w->Gd d r->Gd (d+1) (.ontop n p w r)
theorem Gd.mono {d:Nat}{r:Rk}(h:Gd d r):Gd (d+1) r:=by
 induction h with
 |pln h=>exact .pln h
 |bands h1 h2 h3=>exact .bands h1 h2 h3
 |ontop h1 h2 h3 _ ih=>exact .ontop h1 h2 h3 ih
inductive wW (Cs:Nat->ag)(H:Hp):Rk->V->Prop where
 |pln {r:Rk} {v:V}:r.kd<4->xI Cs H v r->wW Cs H r v
 |bands {n w:af} {ps:List (Int×Int)} {o dx u:ag}:H o=some (.ins (Cs 4) dx [("name",.str n),("bands",.ref u),("way",.str w)])->vL H u ps->wW Cs H (.bands n ps w) (.ref o)
 |ontop {n w:af} {p:Int} {r:Rk} {o dx:ag} {x:V}:H o=some (.ins (Cs 5) dx [("name",.str n),("parts",.int p),("way",.str w),("within",x)])->wW Cs H r x->wW Cs H (.ontop n p w r) (.ref o)
theorem wW.same {r:Rk}(s:zk H H')(h:wW Cs H r v):wW Cs H' r v:=by
 induction h with
 |pln k h=>exact .pln k (h.same s)
 |bands h b=>exact .bands (s _ _ h) (b.same s)
 |ontop h _ ih=>exact .ontop (s _ _ h) ih
inductive Yv (H:Hp):Rk->V->Prop where
 |pln {r:Rk} {v:V}:r.kd<4->OE H v r->Yv H r v
 |bands {n w:af} {ps:List (Int×Int)} {t u:ag}:H t=some (.tup [.str "bands",.str n,.ref u,.str w])->vL H u ps->Yv H (.bands n ps w) (.ref t)
 |ontop {n w:af} {p:Int} {r:Rk} {t:ag} {x:V}:H t=some (.tup [.str "ontop",.str n,.int p,.str w,x])->Yv H r x->Yv H (.ontop n p w r) (.ref t)
theorem Yv.same {r:Rk}(s:zk H H')(h:Yv H r v):Yv H' r v:=by
 induction h with
 |pln k h=>exact .pln k (h.same s)
 |bands h b=>exact .bands (s _ _ h) (b.same s)
 |ontop h _ ih=>exact .ontop (s _ _ h) ih
def bt:Rk->List Int->Int
 |.bands _ ps w,bs=>TL (Bg ps bs.sum) w
 |.ontop _ p w r,bs=>TL (bt r bs*p) w
 |.flat n a,bs=>BH (.flat n a) bs
 |.share n p w,bs=>BH (.share n p w) bs
 |.capped n p m w,bs=>BH (.capped n p m w) bs
 |.least n p l w,bs=>BH (.least n p l w) bs
def yU (q:Int×Int):af:=(toString q.1:af) ++ ":" ++ (toString q.2:af)
def vx (ps:List (Int×Int)):af:=aG "," (ps.map yU)
abbrev gF:=jk
def q8:Rk->af
 |.bands n ps w=>aG " " ["bands",n,vx ps,w]
 |.ontop n p w r=>aG " " ["ontop",n,toString p,w,"of",q8 r]
 |.flat n a=>XC (.flat n a)
 |.share n p w=>XC (.share n p w)
 |.capped n p m w=>XC (.capped n p m w)
 |.least n p l w=>XC (.least n p l w)
theorem Jz {r:Rk}(h:XW r):q8 r=XC r:=by cases h<;>rfl
structure JV (K:BFr)(C:ag):Prop where
 cls:Yz K C
 no:∀x∈(["name","bands","way","parts","within"]:List af),yD K C x
inductive Jn (K:BFr)(vs:List V)(H:Hp)(Q:VK)(_:XK):Prop|mk(l:ag)(zs:List Int)(_:vs=[.ref l])(_:zN K H l (zs.map V.int))(_:zs.length<=50)(_:zs.Pairwise (λx y:Int=>x<y))(_:∀H',zk H H'->Q (.bl true) H')
inductive ZL (vs:List V)(H:Hp)(Q:VK)(_:XK):Prop|mk(a q:_)(_:vs=[.ref a])(_:H a=some (.tup (cB q)))(_:Vd q.1)(_:YM q.2)(_:Q (.bl true) H)
inductive Qw (vs:List V)(H:Hp)(Q:VK)(_:XK):Prop|mk(u ps:_)(_:vs=[.ref u])(_:vL H u ps)(_:QR ps)(_:∀H',zk H H'->Q (.bl true) H')
inductive u4 (K:BFr)(vs:List V)(H:Hp)(Q:VK)(_:XK):Prop|mk(C o dx z:_)(_:vs=[.ref o,.str z])(_:Yz K C)(_:yD K C "name")(_:H o=some (.ins C dx []))(_:yx z)(_:∀H',(∀b x,H b=some x->b≠o->H' b=some x)->H' o=some (.ins C dx [("name",.str z)])->Q .non H')
inductive Qa (C:ag)(vs:List V)(H:Hp)(Q:VK)(_:XK):Prop|mk(o dx n u ps w:_)(_:vs=[.ref o,.str n,.ref u,.str w])(_:yx n)(_:QR ps)(_:Vc w)(_:vL H u ps)(_:H o=some (.ins C dx []))(_:∀H' u',(∀b x,H b=some x->b≠o->H' b=some x)->H' o=some (.ins C dx [("name",.str n),("bands",.ref u'),("way",.str w)])->vL H' u' ps->Q .non H')
inductive jv (d k:Nat)(Cs:Nat->ag)(vs:List V)(H:Hp)(Q:VK)(_:XK):Prop|mk(v r:_)(_:vs=[v])(_:r.kd=k)(_:wW Cs H r v)(_:Gd d r)(_:∀H',zk H H'->Q (.str (q8 r)) H')
inductive UN (vs:List V)(H:Hp)(Q:VK)(_:XK):Prop|mk(c:_)(_:vs=[.int c])(_:∀u ps H',QR ps->zk H H'->vL H' u ps->Q (.ref u) H')
inductive UX (vs:List V)(H:Hp)(Q:VK)(_:XK):Prop|mk(c z k:_)(_:vs=[.int c,.str z,.int k])(_:yx z)(_:0<=k)(_:k<5)(_:∀v r H',Gd 0 r->r.name=z->(r.kd:Int)=k->zk H H'->Yv H' r v->Q v H')
def BG (K:BFr):Nat->Sp
 |0=>λ_ _ _ _=>False
 |d+1=>λvs H Q _=>∃v r b bs,vs=[v,.ref b]/\Yv H r v/\Gd d r/\zN K H b (bs.map V.int)/\bs.length<=100/\CF bs/\∀H',zk H H'->Q (.int (bt r bs)) H'
def Qi:Nat->Sp
 |0=>λ_ _ _ _=>False
 |d+1=>λvs H Q _=>∃v r,vs=[v]/\Yv H r v/\Gd d r/\∀H',zk H H'->Q (.str (q8 r)) H'
theorem wW.obj {r:Rk}{d:Nat}(h:wW Cs H r v)(g:Gd d r):∃o dx fs,v=.ref o/\H o=some (.ins (Cs r.kd) dx fs)/\fs.lookup ("name":af)=some (.str r.name) /\
  ∀x∈(["until","of_month","row","twin","depth"]:List af),fs.lookup x=none:=by
 cases h with
 |pln k h=>
  obtain⟨o,dx,rfl,h⟩:=h
  cases g with
  |pln p=>
   refine⟨o,dx,_,U,h,ng p,λx hx=>?_⟩;simp only[CJ,CV,or_false]at hx
   cases p<;>rcases hx with rfl |rfl |rfl |rfl |rfl<;>rfl
  |bands=>exact K7 k (by show ¬(_:Nat)<4;exact EM (C9 U))
  |ontop=>exact K7 k (by show ¬(_:Nat)<4;exact EM (C9 U))
 |bands h b=>
  refine⟨_,_,_,U,h,U,λx hx=>?_⟩;simp only[CJ,CV,or_false]at hx;rcases hx with rfl |rfl |rfl |rfl |rfl<;>rfl
 |ontop h b=>
  refine⟨_,_,_,U,h,U,λx hx=>?_⟩;simp only[CJ,CV,or_false]at hx;rcases hx with rfl |rfl |rfl |rfl |rfl<;>rfl
theorem vQ (T:qd H ys (ps.map cB)):yN H ys ps (λH' v q=>∃a,v=.ref a/\H' a=some (.tup (cB q))):=by
 refine⟨by rw[T.len,CH],λi y e=>?_⟩;obtain⟨a,c,rfl,h1,h2⟩:=T.of_at e;rw[CO]at h1;obtain⟨q,hq,rfl⟩:=C8.mp h1;exact⟨q,hq,λH' s=>⟨a,U,s _ _ h2⟩⟩
theorem Rw (T:qd H ys (ps.map cB))(h:ps[i]?=some q):∃a,ys[i]?=some (.ref a)/\H a=some (.tup (cB q)) :=
 T.at_ i _ (by rw[CO,h];rfl)
theorem v7 (n:Nat):(aW n true).all id=true:=by
 rw[dj];intro x hx;exact(List.mem_replicate.mp hx).2
theorem Wc (zs:List Int):jR (zs.map V.int) (some 1) none=zs.tail.map V.int:=by
 unfold jR;rw[show(1:Int)=((1:Nat):Int) from U,HT.wg,HT.kH,CH]
 cases zs with
 |nil=>rfl
 |cons z r=>
  rw[Dl (show 1<=(z::r).length from eQ (du _))];show((r.map V.int)).take (r.length+1-1)=r.map V.int;rw[Do (by rw[CH];lia)]
theorem bX {zs:List Int}(h:zs.Pairwise λx y:Int=>x<y){a b:Int}(ha:zs[i]?=some a)(hb:zs.tail[i]?=some b):a<b:=by
 rw[List.getElem?_tail]at hb;obtain⟨h1,rfl⟩:=C7.mp ha;obtain⟨h2,rfl⟩:=C7.mp hb;exact DB.mp h i (i+1) h1 h2 (DG _)
theorem LP (xs ys:List V):fP (λ_ _=>V.bl true) xs ys=(aW (min xs.length ys.length) true).map V.bl:=by
 rw[EN];apply EH
 ·rw[FL,EF]
 ·intro i h1 h2;rw[List.getElem_zipWith,List.getElem_replicate]
theorem Lj (xs:List α):xs.map (λ_=>V.bl true)=(aW xs.length true).map V.bl:=by
 rw[EN]
 induction xs with
 |nil=>rfl
 |cons x r ih=>exact K4 (V.bl true :: ·) ih
theorem ZG {i:Int}(h:Vd i):(toString i:af).length<=13:=YX (k:=13) h.1 ∅ (by have:=h.2;have:=h.1;lia)
theorem uR {i:Int}(h:YM i):(toString i:af).length<=5:=YX (k:=5) h.1 ∅ (by have:=h.2;have:=h.1;lia)
theorem OS (h:Vd q.1)(k:YM q.2):(yU q).length<=19:=by
 have l1:=ZG h;have l2:=uR k;have l3:((toString q.1:af) ++ ":" ++ (toString q.2:af)).length=(toString q.1:af).length+1+(toString q.2:af).length:=by rw[aK,aK];rfl
 unfold yU;lia
theorem wD (ok:QR ps):AU "," (ps.map yU)=true/\(vx ps).length<=252:=yZ (m:=19) (k:=12) (λz hz=>by
 obtain⟨q,hq,rfl⟩:=CK.mp hz;exact OS (ok.ok q hq).1 (ok.ok q hq).2) (by rw[CH];exact ok.few) ⋯ rfl
theorem kW {w:af}(h:Vc w):w.length<=4:=by
 have h:=dW.mp h;unfold wayL at h;simp only[CJ,CV,or_false]at h;rcases h with rfl |rfl |rfl |rfl<;>decide+kernel
theorem Uw {n w:af}(hn:yx n)(ok:QR ps)(hw:Vc w):AU " " ["bands",n,vx ps,w]=true:=by
 refine(yZ (m:=252) (k:=4) (λz hz=>?_) (CI _) ⋯ U).1;have h1:=hn.ok.hi;have h2:=(wD ok).2;have h3:=kW hw;simp only[CJ,CV,or_false]at hz;rcases hz with rfl |rfl |rfl |rfl
 ·decide+kernel
 ·lia
 ·lia
 ·lia
theorem qJ (h:xs.head?=some v):QA xs 0=some v:=by
 cases xs with
 |nil=>cases h
 |cons x r=>
  cases h;exact qQ (j:=0) rfl
end Pg
namespace L2
open PySem PySem.Spec PyProof.Rows
theorem VJ {K:BFr}{b:ag}(ha:zN K H a xs)(hb:zN K H b ys)(hD:H D=none)(hz:ys.length<au)(hxy:ys.length<=xs.length)(φ:V->V->V)(he:∀(i:Nat) x y,xs[i]?=some x->ys[i]?=some y->∀H' R,zk H H'->(∀H'',zk H' H''->R (φ x y) H'')->te ((σ.set 0 (some x)).set 1 (some y)) H' R)(hf:∀H',zk H H'->H' D=some (.lst (fP φ xs ys))->K_ (fP φ xs ys) H'):
  jt (ck K a b) D (PL K 2 (Yl (qc 0) (Yl (qc 1) Mp))) qL te K_ σ (upd H D (.lst [])):=by
 refine⟨λi m zs σ' H'=>m=ys.length-i/\i<=ys.length/\(∀x y,(σ'.set 0 x).set 1 y=(σ.set 0 x).set 1 y)/\zk H H'/\H' D=some (.lst zs)/\zs=fP φ (xs.take i) (ys.take i),⟨ys.length,by simp,du _,λ_ _=>rfl,zk.upd hD,zi,U⟩,λi m zs σ H hM=>by obtain⟨_,_,_,_,h,_⟩:=hM;exact h,?_⟩;rintro i m zs σ' H' ⟨rfl,hi,hσ,s,hd,rfl⟩
 by_cases Sn:i<ys.length
 ·have hx:=CZ (show i<xs.length by lia);have hy:=CZ Sn;have tx:xs.take (i+1)=xs.take i++[xs[i]]:=by rw[dR,hx];rfl
  have ty:ys.take (i+1)=ys.take i++[ys[i]]:=by rw[dR,hy];rfl
  refine .inr ⟨⟨xs,ys,_,_,s.seq ha,s.seq hb,hx,hy⟩,λzs' σ2 H2=>(∀x y,(σ2.set 0 x).set 1 y=(σ.set 0 x).set 1 y)/\zk H H2/\H2 D=some (.lst zs')/\zs'=fP φ (xs.take (i+1)) (ys.take (i+1)),λzs' σ2 H2 p=>⟨ys.length-(i+1),by lia,U,Sn,p⟩,λv H'' hy'=>?_⟩;obtain⟨c,x,y,e1,e2,e3,e4⟩:=hy';obtain⟨e5,e6⟩:=e4 xs ys (s.seq ha) (s.seq hb);subst e1 e3;rw[hx]at e5;rw[hy]at e6;cases e5;cases e6;refine⟨c,_,U,yE.of zi,U,_,_,U,_,_,U,U,?_⟩;have s2:zk H' (upd H' c (.tup [xs[i],ys[i]])):=zk.upd e2;unfold qL;dsimp only;refine qY ?_;show te ((σ'.set 0 _).set 1 _) _ _;rw[hσ];refine he i _ _ hx hy _ _ (s.trans s2) λH3 s3=>⟨s3 _ _ (s2 _ _ hd),?_,?_,?_,zi,?_⟩
  ·rw[FL,dH,dH];lia
  ·intro x y;rcases σ with _ |⟨_,_ |⟨_,_⟩⟩<;>rfl
  ·intro b o z;rw[zm (zC z hD)];exact s3 _ _ (s2 _ _ (s _ _ z))
  ·rw[tx,ty,List.zipWith_append (by rw[dH,dH];lia)];rfl
 ·have e:i=ys.length:=by lia
  subst e;refine .inl ⟨⟨xs,ys,s.seq ha,s.seq hb,.inr (CI _)⟩,?_⟩
  have e3:fP φ (xs.take ys.length) ys=fP φ xs ys:=by
   apply DP;intro j;rw[A_,A_,Hi]
   by_cases h:j<ys.length
   ·rw[K6 h]
   ·rw[K5 h,Di (l:=ys) (by lia)]
    cases xs[j]?<;>rfl
  rw[dX,e3]at hd ⊢;exact hf H' s hd
end L2
namespace K12
open PySem PySem.NumText L2 Pg
seal PE PA PT PW PS y8 PG j5 PI jQ PO PK
section
variable {K:BFr}{mg:af->Option ae}
theorem pS (F:qU K "rise" "rise" (top 31) f fd)(G:vh mg):zL P w K mg base zY 1 f fd ["things"] (Jn K):=by
 have nc:(["thing","after"]:List af).Nodup:=⋯
 refine F.ok (N:=["things"]) ?_ ?_ ?_;walk_at"t"
 ·obtain⟨l,zs,rfl,_⟩:=h;rfl
 ·obtain⟨l,zs,rfl,hl,zl,up,q⟩:=h;refine' ⟨_,zh (zt (zv (vg U) U G.all v5 (za ?comp zd))),?main⟩
  case comp=>
   refine' qk (cl:=[]) (src:=[none,none]) (wi:=Tj K (qN (zV 0) (qN (TR (nY K) (zV 0) (JQ (tC (.int 1))) ZI) y6))) (g:=PL K 2 (Yl (qc 0) (Yl (qc 1) Mp))) (tt:=qL) (te:=vp (WJ λi j=>.bl (decide (i<j))) (zV 0) (zV 1))
    (cO nc ⟨U,U,⋯,⋯,(λx c z=>nomatch z),qF (by rfl),zR (zR qb),U⟩) rfl (L3 U G.zip (za (pv 0) (za (z8 yG (pv 0) (qm ze) qA) zd))) ?hb
   case hb=>
    intro fp C' s' H';exact⟨ly U (Qh (zO (i:=0) nc U (ay U)) (Qh (zO (i:=1) nc U (ay U)) gY)),qt,qS wO (pv 0) (pv 1) (zD _)⟩
  refine⟨_,U,_,U,_,U,l,_,U,hl,λp p0=>?_⟩;have s1:zk H (upd H p (.lst (jR (zs.map V.int) (some 1) none))):=zk.upd p0;have e1:(upd H p (.lst (jR (zs.map V.int) (some 1) none))) p=some (.lst (zs.tail.map V.int)):=by rw[zi,Wc]
  refine⟨l,p,U,⟨_,s1.seq hl⟩,⟨_,zN.of e1⟩,λD hD=>VJ (s1.seq hl) (zN.of e1) hD (by rw[CH,eR,ai];omega) (by rw[CH,CH,eR];omega) (λ_ _=>V.bl true) (λi x y hx hy H1 R s2 r=>?_) (λH1 s2 e2=>?_)⟩
  ·rw[CO]at hx hy;obtain⟨a,ha,rfl⟩:=C8.mp hx;obtain⟨b,hb,rfl⟩:=C8.mp hy;refine⟨_,U,_,U,a,b,U,U,?_⟩;show R (V.bl (decide (a<b))) H1;rw[i' (bX up ha hb)];exact r H1 (zk.refl _)
  ·refine⟨D,aW (zs.length-1) true,U,zN.of ?_,?_⟩
   ·rw[e2,LP,CH,CH,eR,ee (by omega)]
   ·rw[Pg.v7];exact q H1 (s1.trans s2)
theorem P1 (F:qU K "is_band" "is_band" (top 54) f fd)(G:vh mg)(C1:qX P w K mg base zY 3 "is_rule_amount" ["thing"] ZT)(C2:qX P w K mg base zY 3 "is_parts" ["thing"] kZ):zL P w K mg base zY 4 f fd ["thing"] ZL:=by
 refine F.ok (N:=["thing"]) ?_ ?_ ?_;walk_at"t"
 ·obtain⟨a,p,rfl,_⟩:=h;rfl
 ·obtain⟨a,p,rfl,ha,h1,h2,q⟩:=h
  refine⟨_,(zg (zK (PW.pt (yI (qB (qC (zv zG U G.isinstance zz (za (pv 0) (za (yV (v:=.ty "tuple") U G.tuple yX U) zd))))) (yJ (zx uB (zv zJ U G.len aH (za (pv 0) zd)) ze (zD _))))) (zh (zt vC)) zB)
    (zh (zt (je (zq C1 hr ∅ zA (za (zE qT (pv 0) ze) zd)) (jA (zq C2 hr ∅ zA (za (zE qT (pv 0) ze) zd))))))),?_⟩
  refine⟨_,U,_,_,_,_,true,U,U,.inl (.tup ha),U,true,U,qM ⟨_,U,a,_,U,.inr (yE.of ha),U,_,U,qM ?_⟩⟩;refine⟨_,U,a,_,_,_,U,U,yE.of ha,U,_,U,h1,true,U,qY ⟨_,U,a,_,_,_,U,U,yE.of ha,U,_,U,h2.1,h2.2,q⟩⟩
theorem oE (F:qU K "are_bands" "are_bands" (top 55) f fd)(G:vh mg)(N1:WQ mg "MOST_BANDS" 12)(C1:qX P w K mg base zY 4 "is_band" ["thing"] ZL)(C2:qX P w K mg base zY 1 "rise" ["things"] (Jn K)):zL P w K mg base zY 5 f fd ["thing"] Qw:=by
 obtain⟨tk,em⟩:=N1;have nd:(["thing","borders"]:List af).Nodup:=⋯
 have nc:(["row"]:List af).Nodup:=⋯
 walk_at"k"
 ·obtain⟨u,ps,rfl,_⟩:=h;rfl
 ·obtain⟨u,ps,rfl,⟨ys,hu,T⟩,ok,q⟩:=h
  refine' ⟨_,(zg (zK (PW.pt (yI (qB (qC (zv zG U G.isinstance zz (za (pv 0) (za (yV (v:=.ty "tuple") U G.tuple yX U) zd))))) (yI (zx wO (zv zJ U G.len aH (za (pv 0) zd)) ze (zD _)) (yJ (zx vX (zv zJ U G.len aH (za (pv 0) zd)) (zQ (v:=.int 12) U em ⟨tk,U⟩) (zD _)))))) (zh (zt vC)) zB)
    (zg (zK (qB (qC (zv (vg U) U G.all v5 (za ?comp_2 zd)))) (zh (zt vC)) zB)
    (zg ?st_1
    (zh (zt (je (qS qw (zE zy (pv 1) ze) ze (zD _)) (jA (zq C2 hr ∅ zA (za (pv 1) zd))))))))),?main⟩
  case comp_2=>
   refine' qk (cl:=[]) (src:=[none]) (wi:=V7 K (zV 0)) (g:=qc 0) (tt:=qL) (te:=λσ H Q=>qN (zV 0) y6 σ H λvs H1=>ZL vs H1 Q E0)
    (cO nc ⟨U,U,⋯,⋯,(λx c z=>nomatch z),qF (by rfl),zR qb,U⟩) rfl (ke (pv 0)) ?hb
   case hb=>
    intro fp C' s' H';exact⟨zO (i:=0) nc U (ay U),qt,zq C1 hr ∅ zA (za (pv 0) zd)⟩
  case st_1=>
   refine' Zb (i:=1) (cl:=[]) (src:=[none]) (wi:=V7 K (zV 0)) (g:=qc 0) (tt:=qL) (te:=vp (Zg K) (zV 0) (tC (.int 0))) nd rfl rfl
    (cO nc ⟨U,U,⋯,⋯,(λx c z=>nomatch z),qF (by rfl),zR qb,U⟩) rfl (ke (pv 0)) ?hb
   case hb=>
    intro fp C' s' H';exact⟨zO (i:=0) nc U (ay U),qt,zE qT (pv 0) ze⟩
  have few:=ok.few;have yl:ys.length=ps.length:=by rw[T.len,CH]
  obtain⟨p0,r0,ep⟩:=ok.hd;have ne:1<=ps.length:=by rw[ep];exact eQ (du _)
  have hs:ps.length<au:=by rw[ai];omega
  refine⟨_,U,_,_,_,_,true,U,U,.inl (.tup hu),U,true,U,qM ⟨_,U,u,_,U,.inr (yE.of hu),_,_,U,U,_,U,qg (λe=>?_) (λ_=>?_)⟩⟩
  ·have:=G' e;omega
  refine⟨_,U,u,_,U,.inr (yE.of hu),_,_,U,U,_,U,qg (λe=>?_) (λ_=>?_)⟩
  ·have:=G' e;omega
  refine⟨_,U,u,U,⟨_,yE.of hu⟩,λD hD=>js (vD (yE.of hu)) (vQ T) hD hs (λ_=>V.bl true) (λp hp v H1 R s1 e1 r=>?_) (λH1 s1 e1=>?_)⟩
  ·obtain⟨a,rfl,ha⟩:=e1;exact⟨_,U,a,p,U,ha,(ok.ok p hp).1,(ok.ok p hp).2,r H1 (zk.refl _)⟩
  refine⟨D,aW ps.length true,U,zN.of (by rw[e1,Lj]),?_⟩;rw[Pg.v7];refine⟨true,U,qM ⟨_,U,u,U,⟨_,yE.of (s1 _ _ hu)⟩,λD2 W_=>js (vD (yE.of (s1 _ _ hu))) (vQ (T.same s1)) W_ hs (λp=>V.int p.1) (λp hp v H2 R s2 e2 r=>?_) (λH2 s2 e2=>?_)⟩⟩
  ·obtain⟨a,rfl,ha⟩:=e2;exact⟨_,U,a,_,_,_,U,U,yE.of ha,U,r H2 (zk.refl _)⟩
  have e2':H2 D2=some (.lst ((ps.map (·.1)).map V.int)):=by rw[e2,CP];rfl
  refine⟨_,U,D2,_,_,.int 0,U,U,zN.of e2',qJ (by rw[ep];rfl),U,true,U,qY ⟨_,U,D2,_,U,zN.of e2',by rw[CH];omega,?_,λH3 s3=>q H3 (s1.trans (s2.trans s3))⟩⟩;exact Eu.mpr ok.up
theorem OC (F:qU K "__init__" "Rule.__init__" (zX (top 47) 0) f fd)(C1:qX P w K mg base zY 3 "is_rule_name" ["thing"] QI):zL P w K mg base zY 4 f fd ["self","name"] (u4 K):=by
 refine F.ok (N:=["self","name"]) ?_ ?_ ?_;walk_at"t"
 ·obtain⟨i,o,dx,z,rfl,_⟩:=h;rfl
 ·obtain⟨C,o,dx,z,rfl,cl,no,ho,hz,q⟩:=h;refine⟨_,zg (zK (qB (qC (zq C1 hr ∅ zA (za (pv 1) zd)))) yh zB) (zh (yP (pv 0) (pv 1) U)),?_⟩;refine⟨_,U,z,U,hz,λH1 s1=>⟨true,U,qM ⟨_,U,_,U,o,_,dx,[],U,s1 _ _ ho,cl,no,∅,?_⟩⟩⟩;rw[Cn];exact q _ (λb x hb ne=>by rw[zm ne];exact s1 _ _ hb) zi
theorem LO (F:qU K "__init__" "Bands.__init__" (zX (top 56) 0) f fd)(G:vh mg)(RX:JV K C)(CR:wR P w K mg base zY 4 "Rule" "__init__" ["self","name"] (u4 K))(C1:qX P w K mg base zY 5 "are_bands" ["thing"] Qw)(C2:qX P w K mg base zY 1 "is_way" ["thing"] YU):zL P w K mg base zY 6 f fd ["self","name","rows","way"] (Qa C):=by
 have nc:(["row"]:List af).Nodup:=⋯
 refine F.ok (N:=["self","name","rows","way"]) ?_ ?_ ?_;walk_at"t"
 ·obtain⟨o,dx,n,u,ps,x,rfl,_⟩:=h;rfl
 ·obtain⟨o,dx,n,u,ps,x,rfl,hn,ok,hw,bd,ho,q⟩:=h;refine' ⟨_,zg (z6 (jD CR hr ∅ zA (za (pv 0) (za (pv 1) zd)))) (zg (zK (qB (qC (zq C1 hr ∅ zA (za (pv 2) zd)))) yh zB) (zg (zK (qB (qC (zq C2 hr ∅ zA (za (pv 3) zd)))) yh zB) (zg (yP (pv 0) (zZ jB U G.tuple yX (za ?comp zd)) U) (zh (yP (pv 0) (pv 3) U))))),?main⟩
  case comp=>
   refine' qk (cl:=[]) (src:=[none]) (wi:=V7 K (zV 2)) (g:=qc 0) (tt:=qL) (te:=pC (qN (vp (Zg K) (zV 0) (tC (.int 0))) (qN (vp (Zg K) (zV 0) (tC (.int 1))) y6)))
    (cO nc ⟨U,U,⋯,⋯,(λx c z=>nomatch z),qF (by rfl),zR qb,U⟩) rfl (ke (pv 2)) ?hb
   case hb=>
    intro fp C' s' H';exact⟨zO (i:=0) nc U (ay U),qt,yM (za (zE qT (pv 0) ze) (za (zE qT (pv 0) ze) zd))⟩
  obtain⟨ys,hu,T⟩:=bd;have few:=ok.few;have uo:u≠o:=yy hu ho (by intro z;cases z);have nt:∀c,H o≠some (.tup c):=λc z=>by rw[ho]at z;cases z
  refine⟨_,U,_,U,C,o,dx,_,U,RX.cls,RX.no "name" ∅,ho,hn,λH1 f1 e1=>?_⟩;have hu1:=f1 _ _ hu uo;have T1:qd H1 ys (ps.map cB):=T.mono λb c h=>f1 _ _ h (yy h ho (by intro z;cases z));refine⟨_,U,u,ps,U,⟨ys,hu1,T1⟩,ok,λH2 s2=>⟨true,U,qM ⟨_,U,x,U,hw,true,U,qM ?_⟩⟩⟩;have hu2:=s2 _ _ hu1;have T2:=T1.same s2;refine⟨_,U,u,U,⟨_,yE.of hu2⟩,λD hD=>oK (vD (yE.of hu2)) (vQ T2) hD (by rw[ai];omega) cB (λp hp v H3 R s3 e3 r=>?_) (λzs H3 s3 e3 T3=>?_)⟩
  ·obtain⟨a,rfl,ha⟩:=e3;exact⟨_,U,a,_,_,_,U,U,yE.of ha,U,_,U,a,_,_,_,U,U,yE.of ha,U,zS U,r⟩
  refine⟨D,zs,U,.inl ⟨zN.of e3,λl l0=>?_⟩⟩;have s4:zk H3 (upd H3 l (.tup zs)):=zk.upd l0;have e4:(upd H3 l (.tup zs)) l=some (.tup zs):=zi;generalize upd H3 l (.tup zs)=H4 at s4 e4;have s24:=s2.trans (s3.trans s4);have eo:=s24 _ _ e1;refine⟨_,U,o,_,dx,_,U,eo,RX.cls,RX.no "bands" ∅,by show 1<1000;decide,?_⟩;rw[t4 _ _ _ ⋯];refine⟨_,U,_,U,o,_,dx,_,U,zi,RX.cls,RX.no "way" ∅,by show 2<1000;decide,?_⟩;rw[TV _ _ _ _ _ ⋯ ⋯];have lo:l≠o:=yy e4 eo (by intro z;cases z);have nt4:∀c,H4 o≠some (.tup c):=λc z=>by rw[eo]at z;cases z
  refine q _ l (λb y hb ne=>by rw[zm ne,zm ne];exact s24 _ _ (f1 _ _ hb ne)) zi ⟨zs,by rw[zm lo,zm lo];exact e4,((T3.same s4).upd nt4).upd λc z=>?_⟩;rw[zi]at z;cases z
theorem NR {d:Nat}(F:qU K "row" "Bands.row" (zX (top 56) 2) f fd)(G:vh mg)(RX:JV K (Cs 4)):zL P w K mg base zY 1 f fd ["self"] (jv d 4 Cs):=by
 have nd:(["self","pairs"]:List af).Nodup:=⋯
 have nc:(["band"]:List af).Nodup:=⋯
 walk_at"k"
 ·obtain⟨v,r,rfl,_⟩:=h;rfl
 ·obtain⟨v,r,rfl,hk,ro,gd,q⟩:=h
  cases gd with
  |pln p=>cases p<;>cases hk
  |ontop=>cases hk
  |@bands _ n x ps hn ok hw=>
   cases ro with
   |pln k _=>exact K7 k (by show ¬(4:Nat)<4;decide)
   |@bands _ _ _ o dx u ho bd=>
    obtain⟨ys,hu,T⟩:=bd;have few:=ok.few;refine' ⟨_,zg (zF (i:=1) nd U (ay U) (qH aq aC aD ya zj (za ?comp zd))) (zh (zt (qH aq aC aD ya zj (za (zM (za zj (za (z7 (pv 0) U) (za (pv 1) (za (z7 (pv 0) U) zd))))) zd)))),?main⟩
    case comp=>
     refine' qk (cl:=[]) (src:=[none]) (wi:=V7 K (MO K (zV 0) "bands")) (g:=qc 0) (tt:=qL) (te:=vp kK (vp kK (tP gF (qN (vp (Zg K) (zV 0) (tC (.int 0))) y6)) (tC (.str ":"))) (tP gF (qN (vp (Zg K) (zV 0) (tC (.int 1))) y6)))
      (cO nc ⟨U,U,⋯,⋯,(λx c z=>nomatch z),qF (by rfl),zR qb,U⟩) rfl (ke (z7 (pv 0) U)) ?hb
     case hb=>
      intro fp C' s' H';exact⟨zO (i:=0) nc U (ay U),qt,zu zT (zu zT (zZ qh U G.str qE (za (zE qT (pv 0) ze) zd)) zj) (zZ qh U G.str qE (za (zE qT (pv 0) ze) zd))⟩
    refine⟨U,_,U,o,_,dx,_,_,U,ho,RX.cls,RX.no "bands" ∅,U,u,U,⟨_,yE.of hu⟩,λD hD=>js (vD (yE.of hu)) (vQ T) hD (by rw[ai];lia) (λp=>.str (yU p)) (λp hp v H1 R s1 e1 r=>?_) (λH1 s1 e1=>?_)⟩
    ·obtain⟨a,rfl,ha⟩:=e1;have hb:=ok.ok p hp;have l1:=ZG hb.1;have l2:=uR hb.2;have l3:((toString p.1:af) ++ ":").length=(toString p.1:af).length+1:=aK ..;exact⟨_,U,a,_,_,_,U,U,yE.of ha,U,_,U,Yc hb.1,_,_,U,U,by rw[ai];show(toString p.1:af).length+1<=_;lia,_,U,a,_,_,_,U,U,yE.of ha,U,_,U,Zk hb.2,_,_,U,U,by rw[l3,ai];lia,r H1 (zk.refl _)⟩
    ·have jb:=wD ok;have jr:=Uw hn ok hw;have ho1:=s1 _ _ ho;refine⟨_,ps.map yU,D,U,U,zN.of (by rw[e1,CP];rfl),jb.1,U,_,U,o,_,dx,_,_,U,ho1,RX.cls,RX.no "name" ∅,U,_,U,_,U,o,_,dx,_,_,U,ho1,RX.cls,RX.no "way" ∅,U,zS U,λl H2 s2 n2 e2=>⟨_,["bands",n,vx ps,x],l,U,U,zN.of e2,jr,q H2 (s1.trans s2)⟩⟩
end
end K12
namespace L2
open PySem PySem.Spec PyProof.Rows PySem.W
section
variable {kS:ag}{e e1:Nat}{Su:Array ae}{vs:List ae}{m:Nat->Int}{nm:Nat->af}{P:FE->ar->Prop}
end
section
variable {p:af}{c P:ag}{body a:aQ}{pos lpos:fW}{ta:TE}
end
end L2
namespace L2
open PySem PySem.Spec PyProof.Rows
end L2
namespace Pg
open PySem L2
def CA (a b:af):Bool:=decide (¬b.cps.toList<a.cps.toList)
def cj (ks:List af):List af:=ks.mergeSort CA
theorem oV (xs ys:List Int):Jv (xs.map V.int) (ys.map V.int)=decide (xs=ys):=by
 by_cases e:xs=ys
 ·subst e;rw[gG,i' rfl]
 ·rw[D' e]
  cases q:Jv (xs.map V.int) (ys.map V.int) with
  |false=>rfl
  |true=>
   refine K7 ?_ e;unfold Jv at q;rw[CM,CH,CH]at q;have hl:xs.length=ys.length:=eq_of_beq q.1;apply EH hl;intro i h1 h2;have:=dj.mp q.2 i (eX.mpr h1);rw[d6,d6,CO,CO,CZ h1,CZ h2]at this;exact eq_of_beq this
theorem O8 {k:Nat}:jR xs (some (k:Int)) none=xs.drop k:=by
 unfold jR;rw[HT.kH,HT.wg,<- Dj,dX]
 by_cases h:k<=xs.length
 ·rw[Dl h]
 ·rw[ee (by lia),List.drop_length,List.drop_eq_nil_of_le (by lia)]
section
variable {zs:List V}{xs us:List α}{P:Hp->V->α->Prop}
end
end Pg
namespace L2
open PySem PySem.Spec PyProof.Rows
def FT (H H':Hp):Prop:=∀b c,H b=some (.tup c)->H' b=some (.tup c)
def Up (P:Hp->V->α->Prop):Prop:=∀H H' v x,FT H H'->P H v x->P H' v x
section
variable {J:It}{zs:List V}{xs:List α}{P:Hp->V->α->Prop}{K:BFr}
end
end L2
namespace Pg
open PySem L2
inductive En where
 |wage (p:af) (m r a:Int)
 |extra (p:af) (m a:Int)
def cE:En->List V
 |.wage p m r a=>[.str "wage",.str p,.int m,.int r,.int a]
 |.extra p m a=>[.str "extra",.str p,.int m,.int a]
structure Pt where
 d:Int
 k:af
 t:Option En
def BY (l:List af):List af:=l.foldr (λx r=>if x∈r then r else x::r) []
def b6 (z:af)(ps:List Pt):List (Int×Option En):=(ps.filter λp=>decide (p.k=z)).map λp=>(p.d,p.t)
def Ci (l:List (Int×Option En))(D:Int):Option En:=(l.reverse.find? λq=>decide (q.1<=D)).bind (·.2)
def CG (ps:List Pt):List af:=cj (BY (ps.map (·.k)))
def kn (ps:List Pt)(D:Int):List (af×En):=(CG ps).filterMap λz=>(Ci (b6 z ps) D).map λe=>(z,e)
def own (J t:ag)(ms:List (af×ag)):List ag:=J::t::ms.map (·.2)
def dE (e:En):Dt:=.t ((cE e).map Dt.v)
def Cq (q:af×En):Dt:=.t [.v (.str q.1),dE q.2]
inductive Fd where
 |k (ks:List (af×En))
 |n (ss:List af)
def Fd.dt:Fd->List Dt
 |.k ks=>ks.map Cq
 |.n ss=>ss.map λz=>.v (.str z)
section
variable {J t:ag}{ms:List (af×ag)}{ld:Int}{ps:List Pt}
end
theorem kb {l:ag}(s:zk H H')(h:H' l=none):H l=none:=by
 cases e:H l with
 |none=>rfl
 |some o=>rw[s _ _ e]at h;cases h
structure OF (ps:List (Int×Int))(n:Nat):Prop where
 few:ps.length<=n+1
 hd:∃p r,ps=((0:Int),p)::r
 ok:∀q∈ps,Vd q.1/\YM q.2
 up:Up ps
theorem OF.done (h:OF ps n)(hn:n<=11):QR ps:=⟨by have:=h.few;lia,h.hd,h.ok,h.up⟩
theorem OF.one {p:Int}(h:YM p):OF [((0:Int),p)] 0:=⟨CI _,⟨p,[],U⟩,λq hq=>by
 rw[CY.mp hq];exact⟨⟨DA _,by show(0:Int)<=1000000000000;decide⟩,h⟩,EO _ _⟩
theorem OF.mono (h:OF ps n):OF ps (n+1):=⟨DC h.few,h.hd,h.ok,h.up⟩
theorem OF.last (h:OF ps n):∃qs q,ps=qs++[q]:=by
 obtain⟨p,r,e⟩:=h.hd;refine⟨ps.dropLast,ps.getLast (by rw[e];exact eE _ _),(Dq _).symm⟩
theorem NQ (h:Up (qs++[q])):∀x∈qs++[q],x.1<=q.1:=λx hx=>by
 rcases CQ.mp hx with hx |hx
 ·exact Int.le_of_lt ((eF.mp h).2.2 x hx q (CY.mpr U))
 ·rw[CY.mp hx];exact DA _
theorem OF.snoc {s p:Int}(h:OF (qs++[q]) n)(s1:1<=s)(b:q.1+s<=1000000000000)(hp:YM p):OF (qs++[q]++[(q.1+s,p)]) (n+1):=by
 refine⟨?_,?_,λx hx=>?_,?_⟩
 ·have:=h.few;rw[CS,dB];lia
 ·obtain⟨p0,r,e⟩:=h.hd;exact⟨p0,r++[(q.1+s,p)],by rw[e];rfl⟩
 ·rcases CQ.mp hx with hx |hx
  ·exact h.ok x hx
  ·rw[CY.mp hx];have:=(h.ok q (dN _ (CY.mpr U))).1.1;exact⟨⟨by show 0<=q.1+s;lia,b⟩,hp⟩
 ·refine eF.mpr ⟨h.up,EO _ _,λx hx y hy=>?_⟩;rw[CY.mp hy];have:=NQ h.up x hx;show x.1<q.1+s;lia
theorem mL (T:qd H ys ((qs++[q]).map cB)):∃a,QA ys (-1)=some (.ref a)/\H a=some (.tup (cB q)):=by
 have yl:ys.length=qs.length+1:=by rw[T.len,CH,CS,dB]
 obtain⟨a,e,h⟩:=Rw T (i:=qs.length) (q:=q) (by rw[dZ (CI _),DN];rfl);have ne:ys≠[]:=λz=>by rw[z]at yl;cases yl
 refine⟨a,?_,h⟩;have e2:=Dq ne;rw[<- e2,PU,List.getLast_eq_getElem];rw[CZ (by lia)]at e;have e3:=ao e;rw[<- e3]
 congr 2
 lia
theorem My {a b c d e:V}{i:Int}(h0:0<=i)(h1:i<5):∃v,QA [a,b,c,d,e] i=some v/\(i=0/\v=a∨i=1/\v=b∨i=2/\v=c∨i=3/\v=d∨i=4/\v=e):=by
 obtain⟨n,rfl⟩:=Dw h0
 match n,h1 with
 |0,_=>exact⟨a,qQ U,.inl ⟨U,U⟩⟩
 |1,_=>exact⟨b,qQ U,.inr (.inl ⟨U,U⟩)⟩
 |2,_=>exact⟨c,qQ U,.inr (.inr (.inl ⟨U,U⟩))⟩
 |3,_=>exact⟨d,qQ U,.inr (.inr (.inr (.inl ⟨U,U⟩)))⟩
 |4,_=>exact⟨e,qQ U,.inr (.inr (.inr (.inr ⟨U,U⟩)))⟩
 |k+5,h=>exact K7 h (by omega)
theorem BX:("ontop":af)≠"bands":=⋯
theorem WC (n b w:af):("bands ":af)++n ++ " " ++ b ++ " " ++ w=aG " " ["bands",n,b,w]:=by
 rw[show([("bands":af),n,b,w]:List af)=[("bands":af),n,b]++[w] from U,vU " " w (eE _ _),show([("bands":af),n,b]:List af)=[("bands":af),n]++[b] from U,vU " " b (eE _ _),show([("bands":af),n]:List af)=[("bands":af)]++[n] from U,vU " " n (eE _ _),xa];rw[show(("bands ":af)) = "bands" ++ " " by decide+kernel]
theorem JE (n p w r:af):aG " " ["ontop",n,p,w] ++ " of " ++ r=aG " " ["ontop",n,p,w,"of",r]:=by
 rw[show([("ontop":af),n,p,w,"of",r]:List af)=[("ontop":af),n,p,w,"of"]++[r] from U,vU " " r (eE _ _),show([("ontop":af),n,p,w,"of"]:List af)=[("ontop":af),n,p,w]++[("of":af)] from U,vU " " "of" (eE _ _)];rw[iF,iF,iF,show(" of ":af) = " " ++ ("of" ++ " ") by decide+kernel,iF,iF,iF]
theorem kC {d:Nat}{r:Rk}(h:Gd d r):(q8 r).length<=1016+200*d:=by
 induction h with
 |@pln d r h=>
  rw[Jz h];have:=(yZ (sep:=" ") (m:=20) (k:=5) (Wz h) (by cases h<;>exact C9 U) ⋯ U).2;unfold XC;lia
 |@bands d n w ps h1 h2 h3=>
  have:=(yZ (sep:=" ") (zs:=["bands",n,vx ps,w]) (m:=252) (k:=4) (λz hz=>?_) (CI _) ⋯ U).2
  ·show(aG " " ["bands",n,vx ps,w]).length<=_;lia
  ·have k1:=h1.ok.hi;have k2:=(wD h2).2;have k3:=kW h3;simp only[CJ,CV,or_false]at hz;rcases hz with rfl |rfl |rfl |rfl
   ·decide+kernel
   ·lia
   ·lia
   ·lia
 |@ontop d n w p r h1 h2 h3 _ ih=>
  show(aG " " ["ontop",n,toString p,w,"of",q8 r]).length<=_;rw[<- JE,aK,aK];have k:=(yZ (sep:=" ") (zs:=["ontop",n,toString p,w]) (m:=8) (k:=4) (λz hz=>?_) (CI _) ⋯ U).2
  ·have:(" of ":af).length=4:=⋯
   lia
  ·have k1:=h1.ok.hi;have k2:=uR h2;have k3:=kW h3;simp only[CJ,CV,or_false]at hz;rcases hz with rfl |rfl |rfl |rfl
   ·decide+kernel
   ·lia
   ·lia
   ·lia
end Pg
namespace L2
open PySem PySem.Spec PyProof.Rows
def ZA (H H':Hp):Prop:=∀b o,H b=some o->(∀xs,o≠.lst xs)->H' b=some o
theorem PP (h:H D=some (.lst xs)):ZA H (upd H D (.lst ys)):=λb o e n=>by
 rw[zm λz=>?_]
 ·exact e
 ·subst z;rw[h]at e;cases e;exact n _ rfl
structure Rf {α:Type}(H:Hp)(zs:List V)(xs:List α)(S:Hp->V->α->Prop):Prop where
 len:zs.length=xs.length
 at_:∀(i:Nat) (x:α),xs[i]?=some x->∃u,zs[i]?=some u/\S H u x
section
variable {J:It}{xs:List α}{P:Hp->V->α->Prop}
theorem Lq (W:Yx J H ys)(T:yN H ys xs P)(hD:H D=none)(hz:xs.length<au)(S:Hp->V->α->Prop)(mono:∀{H H':Hp} {v:V} {x:α},ZA H H'->S H v x->S H' v x)(he:∀(i:Nat) x,xs[i]?=some x->∀v H' R,zk H H'->P H' v x->(∀u H'',zk H' H''->S H'' u x->R u H'')->te (σ.set 0 (some v)) H' R)(hf:∀zs H',zk H H'->H' D=some (.lst zs)->Rf H' zs xs S->K_ zs H'):jt J D (qc 0) qL te K_ σ (upd H D (.lst [])):=by
 refine va W hD (λi zs H'=>Rf H' zs (xs.take i) S) (λσ'=>∀x,σ'.set 0 (some x)=σ.set 0 (some x)) (λ_=>rfl) ⟨U,λi x h=>by cases h⟩ ?_ ?_
 ·rintro i y zs σ' H' hy hσ s hd hl G;obtain⟨x,hx,hP⟩:=T.at_ i y hy;have tk:xs.take (i+1)=xs.take i++[x]:=by rw[dR,hx];rfl
  have hi:i<xs.length:=(C7.mp hx).1;have zl:zs.length=i:=by rw[G.len,dH];lia
  have Ss:∀z,(σ'.set 0 (some y)).set 0 (some z)=σ.set 0 (some z):=λz=>by rw[DM];exact hσ z
  unfold Qb qc;dsimp only;refine Ml ?_;rw[hσ y]at Ss ⊢;refine he i x hx y _ _ s (hP _ s) λu H3 s3 hu=>⟨s3 _ _ hd,by lia,Ss,λb o z=>?_,zi,?_,?_⟩
  ·rw[zm (zC z hD)];exact s3 _ _ (s _ _ z)
  ·rw[CS,dB];lia
  ·have kp:=PP (ys:=zs++[u]) (s3 _ _ hd);refine⟨by rw[tk,CS,CS,G.len];rfl,λj w hw=>?_⟩;rw[tk]at hw
   by_cases hj:j<(xs.take i).length
   ·rw[Dh hj]at hw;obtain⟨u',h1,h2⟩:=G.at_ j w hw;exact⟨u',by rw[Dh (by rw[G.len];exact hj)];exact h1,mono (λb o e n=>kp b o (s3 _ _ e) n) h2⟩
   ·have hj:=Dc hj;rw[dZ hj]at hw
    have e0:j-(xs.take i).length=0:=by
     cases q:j-(xs.take i).length with
     |zero=>rfl
     |succ n=>rw[q]at hw;cases hw
    rw[e0]at hw;cases hw;refine⟨u,?_,mono kp hu⟩;rw[dZ (by rw[G.len];exact hj),G.len,e0];rfl
 ·rintro zs H' s hd hl G;rw[T.len,dX]at G;exact hf zs H' s hd G
end
end L2
namespace Pg
open PySem L2
theorem qd.keep (k:ZA H H')(T:qd H ys cs):qd H' ys cs:=T.mono λb c h=>k b _ h λxs z=>by cases z
theorem vL.keep {u:ag}(k:ZA H H')(h:vL H u ps):vL H' u ps:=by
 obtain⟨ys,e,t⟩:=h;exact⟨ys,k _ _ e (λxs z=>nomatch z),qd.keep k t⟩
theorem Yv.keep {r:Rk}(k:ZA H H')(h:Yv H r v):Yv H' r v:=by
 induction h with
 |pln e h=>
  obtain⟨t,rfl,h⟩:=h;exact .pln e ⟨t,U,k _ _ h λxs z=>by cases z⟩
 |bands h b=>exact .bands (k _ _ h λxs z=>by cases z) (b.keep k)
 |ontop h _ ih=>exact .ontop (k _ _ h λxs z=>by cases z) ih
theorem wW.keep {r:Rk}(k:ZA H H')(h:wW Cs H r v):wW Cs H' r v:=by
 induction h with
 |pln e h=>
  obtain⟨t,dx,rfl,h⟩:=h;exact .pln e ⟨t,dx,U,k _ _ h λxs z=>by cases z⟩
 |bands h b=>exact .bands (k _ _ h λxs z=>by cases z) (b.keep k)
 |ontop h _ ih=>exact .ontop (k _ _ h λxs z=>by cases z) ih
end Pg
namespace L2
open PySem
section
variable {K:BFr}{mg:af->Option ae}{k:Nat}{m:af}{ps:List af}{sp':Sp}
theorem yu.mono (M:yu P w K mg base CX j C m ps sp)(h:j<=k):yu P w K mg base CX k C m ps sp:=by
 obtain⟨c,f,fd,a,b,F⟩:=M;exact⟨c,f,fd,a,b,F.mono h⟩
theorem yu.imp (M:yu P w K mg base CX k C m ps sp)(h:∀vs H Q E,sp' vs H Q E->sp vs H Q E):yu P w K mg base CX k C m ps sp':=by
 obtain⟨c,f,fd,a,b,F⟩:=M;exact⟨c,f,fd,a,b,F.imp h⟩
theorem wR.imp (M:wR P w K mg base CX k x m ps sp)(h:∀vs H Q E,sp' vs H Q E->sp vs H Q E):wR P w K mg base CX k x m ps sp':=by
 obtain⟨C,f,fd,a,b,c,F⟩:=M;exact⟨C,f,fd,a,b,c,F.imp h⟩
theorem qX.mono (M:qX P w K mg base CX j x ps sp)(h:j<=k):qX P w K mg base CX k x ps sp:=by
 obtain⟨f,fd,a,b,c,F⟩:=M;exact⟨f,fd,a,b,c,F.mono h⟩
end
end L2
namespace Pg
open PySem L2
def nP:Rk->Int
 |.ontop _ _ _ r=>nP r+1
 |_=>0
theorem Rq {d:Nat}{r:Rk}(h:Gd d r):nP r<=d:=by
 induction h with
 |pln h=>cases h<;>exact Ed _
 |bands=>exact Ed _
 |ontop _ _ _ _ ih=>
  show nP _+1<=_;lia
theorem LN {r:Rk}(h:r.kd<5):nP r=0:=by
 cases r with
 |ontop=>exact K7 h (EM (C9 U))
 |_=>rfl
structure RD (K:BFr)(Cs:Nat->ag)(cR:ag):Prop where
 ha:∀i,i<6->aM K (.ref (Cs i)) "__class__" = some (some (.builtin "object.__class__"))
 hn:hW K (.builtin "object.__class__") "__get__" = some (some (.builtin "getset_descriptor.__get__"))
 htk:A5 K (.builtin "object.__class__")=some true
 hm:∀i,i<6->iZ K (Cs i) (.type "object")=some true
 kt:∀i,i<6->aE K (.ref (Cs i)) (.ref cR)=some true
 cls:∀i,i<6->Yz K (Cs i)
 ne:Cs 1≠Cs 5
theorem TU (r:Rk):r.kd<6:=by cases r<;>exact C9 rfl
theorem Gd.pl {d:Nat}{r:Rk}(h:Gd d r)(k:r.kd<4):XW r:=by
 cases h with
 |pln p=>exact p
 |bands=>exact K7 k (by show ¬(4:Nat)<4;decide)
 |ontop=>exact K7 k (by show ¬(5:Nat)<4;decide)
theorem wW.pl {r:Rk}(h:wW Cs H r v)(k:r.kd<4):xI Cs H v r:=by
 cases h with
 |pln _ p=>exact p
 |bands=>exact K7 k (by show ¬(4:Nat)<4;decide)
 |ontop=>exact K7 k (by show ¬(5:Nat)<4;decide)
theorem wW.frame {r:Rk}{o:ag}{d:Nat}(h:wW Cs H r v)(g:Gd d r)(ho:H o=some (.ins C dx []))(fr:∀b y,H b=some y->b≠o->H' b=some y):wW Cs H' r v:=by
 induction h generalizing d with
 |pln k h=>
  obtain⟨t,dy,rfl,h⟩:=h;refine .pln k ⟨t,dy,U,fr _ _ h λe=>?_⟩;subst e;rw[h]at ho
  cases g.pl k<;>exact nomatch ho
 |bands h b=>
  obtain⟨ys,hu,T⟩:=b;have nt:∀b c,H b=some (.tup c)->H' b=some (.tup c):=λb c h=>fr _ _ h (yy h ho (by intro z;cases z));exact .bands (fr _ _ h λe=>by subst e;rw[h]at ho;cases ho) ⟨ys,nt _ _ hu,T.mono nt⟩
 |ontop h _ ih=>
  cases g with
  |pln p=>cases p
  |ontop _ _ _ g=>exact .ontop (fr _ _ h λe=>by subst e;rw[h]at ho;cases ho) (ih g)
theorem wW.frame3 {r:Rk}{o:ag}{d:Nat}{n w:af}{p:Int}(ne:Cs 1≠Cs 5)(h:wW Cs H r v)(g:Gd d r)(ho:H o=some (.ins (Cs 5) dx [("name",.str n),("parts",.int p),("way",.str w)]))(fr:∀b y,H b=some y->b≠o->H' b=some y):wW Cs H' r v:=by
 induction h generalizing d with
 |pln k h=>
  obtain⟨t,dy,rfl,h⟩:=h;refine .pln k ⟨t,dy,U,fr _ _ h λe=>?_⟩;subst e;rw[h]at ho;have ho:=ao ho
  cases g.pl k with
  |flat=>exact nomatch (HO.ins.inj ho).2.2
  |share=>exact ne (HO.ins.inj ho).1
  |capped=>exact nomatch (HO.ins.inj ho).2.2
  |least=>exact nomatch (HO.ins.inj ho).2.2
 |bands h b=>
  obtain⟨ys,hu,T⟩:=b;have nt:∀b c,H b=some (.tup c)->H' b=some (.tup c):=λb c h=>fr _ _ h (yy h ho (by intro z;cases z));refine .bands (fr _ _ h λe=>?_) ⟨ys,nt _ _ hu,T.mono nt⟩;subst e;rw[h]at ho;have k:=(HO.ins.inj (ao ho)).2.2;have k2:=K4 (λl=>(l.map AH)[1]?) k;exact K7 (show("bands":af) = "parts" from ao k2) ⋯
 |ontop h _ ih=>
  cases g with
  |pln p=>cases p
  |ontop _ _ _ g=>
   refine .ontop (fr _ _ h λe=>?_) (ih g);subst e;rw[h]at ho;exact nomatch (HO.ins.inj (ao ho)).2.2
inductive yO (d k:Nat)(Cs:Nat->ag)(vs:List V)(H:Hp)(Q:VK)(_:XK):Prop|mk(v r:_)(_:vs=[v])(_:r.kd=k)(_:wW Cs H r v)(_:Gd d r)(_:Q (.int (nP r)) H)
inductive yp (d k:Nat)(Cs:Nat->ag)(vs:List V)(H:Hp)(Q:VK)(_:XK):Prop|mk(v r:_)(_:vs=[v])(_:r.kd=k)(_:wW Cs H r v)(_:Gd d r)(_:∀o H',zk H H'->wW Cs H' r o->Q o H')
inductive Z2 (d:Nat)(Cs:Nat->ag)(vs:List V)(H:Hp)(Q:VK)(_:XK):Prop|mk(o dx n p x u r:_)(_:vs=[.ref o,.str n,.int p,.str x,u])(_:yx n)(_:YM p)(_:Vc x)(_:wW Cs H r u)(_:Gd d r)(_:H o=some (.ins (Cs 5) dx []))(_:∀H' u',(∀b y,H b=some y->b≠o->H' b=some y)->H' o=some (.ins (Cs 5) dx [("name",.str n),("parts",.int p),("way",.str x),("within",u')])->wW Cs H' r u'->Q .non H')
inductive ZH (vs:List V)(H:Hp)(Q:VK)(_:XK):Prop|mk(c z:_)(_:vs=[.int c,.str z])(_:yx z)(_:∀v r H',Gd 3 r->r.name=z->zk H H'->Yv H' r v->Q v H')
theorem rR {d:Nat}{r:Rk}(h:Gd d r)(k:r.kd=5):∃d' n p x r',d=d'+1/\r=.ontop n p x r'/\yx n/\YM p/\Vc x/\Gd d' r':=by
 cases h with
 |pln p=>cases p<;>cases k
 |bands=>cases k
 |ontop h1 h2 h3 h4=>exact⟨_,_,_,_,_,U,U,h1,h2,h3,h4⟩
theorem LU {K:BFr}(RK:wV K Cs):∀vs H Q E,uS Cs vs H Q E->u4 K vs H Q E:=by
 rintro vs H Q E ⟨i,o,dx,z,rfl,hi,ho,hz,q⟩;exact⟨Cs i,o,dx,z,U,RK.cls i hi,RK.no i hi "name" ∅,ho,hz,q⟩
theorem V6 {d k:Nat}(hk:k<4):∀vs H Q E,jv d k Cs vs H Q E->vq k Cs vs H Q E:=by
 rintro vs H Q E ⟨v,r,rfl,e,ro,g,q⟩;have pl:=g.pl (by lia);exact⟨v,r,U,e,ro.pl (by lia),pl,by rw[Jz pl]at q;exact q⟩
theorem U4 {p:Nat->Prop}(h0:p 0)(h1:p 1)(h2:p 2)(h3:p 3)(h4:p 4)(h5:p 5):∀i,i<6->p i
 |0,_=>h0
 |1,_=>h1
 |2,_=>h2
 |3,_=>h3
 |4,_=>h4
 |5,_=>h5
theorem zk.made {o:ag}(o0:H o=none)(d0:H dx=none):zk H (upd (upd H dx (.own o)) o (.ins C dx [])):=λb x hb=>by
 rw[zm (zC hb o0),zm (zC hb d0)];exact hb
end Pg
variable {SU:ag}
namespace K12
open PySem PySem.NumText L2 Pg
seal PE PA PT PW PS y8 PG j5 PI jQ PO PK
section
variable {K:BFr}{mg:af->Option ae}
theorem Qd {d k:Nat}(hk:k<5)(F:qU K "depth" "Rule.depth" (zX (top 47) 4) f fd):zL P w K mg base zY 1 f fd ["self"] (yO d k Cs):=by
 refine F.ok (N:=["self"]) ?_ ?_ ?_;walk_at"t"
 ·obtain⟨v,r,rfl,_⟩:=h;rfl
 ·obtain⟨v,r,rfl,e,ro,gd,q⟩:=h;refine⟨_,zh (zt ze),?_⟩;rw[LN (by lia)]at q;exact q
theorem YB {d:Nat}(F:qU K "depth" "OnTop.depth" (zX (top 59) 4) f fd)(RX:JV K (Cs 5))(MD:∀k,k<6->yu P w K mg base zY j (Cs k) "depth" ["self"] (yO d k Cs)):zL P w K mg base zY (j+1) f fd ["self"] (yO (d+1) 5 Cs):=by
 refine F.ok (N:=["self"]) ?_ ?_ ?_;walk_at"t"
 ·obtain⟨v,r,rfl,_⟩:=h;rfl
 ·obtain⟨v,r,rfl,e,ro,gd,q⟩:=h;obtain⟨d',n,p,x,r',ed,rfl,hn,hp,hw,g'⟩:=rR gd e;cases ed
  cases ro with
  |pln kk _=>exact K7 kk (by show ¬(5:Nat)<4;decide)
  |@ontop _ _ _ _ o dx u ho ri=>
   obtain⟨oi,dxi,fsi,rfl,hoi,_,noi⟩:=ri.obj g';refine⟨_,zh (zt (zu qo (Z0 (p:=λk=>k<6) λk hk=>jZ (MD k hk) hr (CI _) zA (z7 (pv 0) U)) ze)),?_⟩;exact⟨r'.kd,TU r',_,U,o,_,dx,_,_,U,ho,RX.cls,RX.no "within" ∅,U,oi,dxi,fsi,U,hoi,noi "depth" ∅,_,r',U,U,ri,g',_,_,U,U,q⟩
theorem p8:zL P w K mg base zY j f fd ["self"] (yO 0 5 Cs):=⟨λvs H Q E hM=>by obtain⟨v,r,h,e,ro,g,_⟩:=hM;rw[h];rfl,λ_ _ _ _ _ _ _ _ _ _ _ _ _ hM=>by obtain⟨v,r,h,e,ro,g,_⟩:=hM;obtain⟨_,_,_,_,_,z,_⟩:=rR g e;cases z⟩
theorem Pp:zL P w K mg base zY j f fd ["self"] (jv 0 5 Cs):=⟨λvs H Q E hM=>by obtain⟨v,r,h,_⟩:=hM;rw[h];rfl,λ_ _ _ _ _ _ _ _ _ _ _ _ _ hM=>by obtain⟨v,r,h,e,ro,g,_⟩:=hM;obtain⟨_,_,_,_,_,z,_⟩:=rR g e;cases z⟩
theorem G2:zL P w K mg base zY j f fd ["self"] (yp 0 5 Cs):=⟨λvs H Q E hM=>by obtain⟨v,r,h,_⟩:=hM;rw[h];rfl,λ_ _ _ _ _ _ _ _ _ _ _ _ _ hM=>by obtain⟨v,r,h,e,ro,g,_⟩:=hM;obtain⟨_,_,_,_,_,z,_⟩:=rR g e;cases z⟩
theorem Lx {d:Nat}(F:qU K "twin" "Flat.twin" (zX (top 48) 3) f fd)(RK:wV K Cs)(N0:vA P w K mg base zY 5 "Flat" (Cs 0) ["self","name","amount"] (yS 0 Cs)):zL P w K mg base zY 7 f fd ["self"] (yp d 0 Cs):=by
 refine F.ok (N:=["self"]) ?_ ?_ ?_;walk_at"t"
 ·obtain⟨v,r,rfl,_⟩:=h;rfl
 ·obtain⟨v,r,rfl,e,ro,gd,q⟩:=h;have pl:=gd.pl (by omega);have pl0:=pl;obtain⟨o,dx,rfl,ho⟩:=ro.pl (by omega)
  cases pl with
  |@flat n a hn ha=>
   refine⟨_,zh (zt (yB (j:=5) N0 hr ∅ zA (za (z7 (pv 0) U) (za (z7 (pv 0) U) zd)))),?_⟩;exact⟨_,U,o,_,dx,_,_,U,ho,RK.cls 0 ∅,RK.no 0 ∅ "name" ∅,U,_,U,o,_,dx,_,_,U,ho,RK.cls 0 ∅,RK.no 0 ∅ "amount" ∅,U,λo dx o0 d0 ne=>⟨o,dx,.flat n a,U,U,pl0,zi,λH' fr e=>⟨U,q _ H' (qI o0 d0 fr) (.pln (C9 U) ⟨o,dx,U,e⟩)⟩⟩⟩
  |share=>cases e
  |capped=>cases e
  |least=>cases e
theorem pY {d:Nat}(F:qU K "twin" "Share.twin" (zX (top 49) 3) f fd)(RK:wV K Cs)(N0:vA P w K mg base zY 5 "Share" (Cs 1) ["self","name","parts","way"] (yS 1 Cs)):zL P w K mg base zY 7 f fd ["self"] (yp d 1 Cs):=by
 refine F.ok (N:=["self"]) ?_ ?_ ?_;walk_at"t"
 ·obtain⟨v,r,rfl,_⟩:=h;rfl
 ·obtain⟨v,r,rfl,e,ro,gd,q⟩:=h;have pl:=gd.pl (by omega);have pl0:=pl;obtain⟨o,dx,rfl,ho⟩:=ro.pl (by omega)
  cases pl with
  |@share n p x hn hp hw=>
   refine⟨_,zh (zt (yB (j:=5) N0 hr ∅ zA (za (z7 (pv 0) U) (za (z7 (pv 0) U) (za (z7 (pv 0) U) zd))))),?_⟩;exact⟨_,U,o,_,dx,_,_,U,ho,RK.cls 1 ∅,RK.no 1 ∅ "name" ∅,U,_,U,o,_,dx,_,_,U,ho,RK.cls 1 ∅,RK.no 1 ∅ "parts" ∅,U,_,U,o,_,dx,_,_,U,ho,RK.cls 1 ∅,RK.no 1 ∅ "way" ∅,U,λo dx o0 d0 ne=>⟨o,dx,.share n p x,U,U,pl0,zi,λH' fr e=>⟨U,q _ H' (qI o0 d0 fr) (.pln (C9 U) ⟨o,dx,U,e⟩)⟩⟩⟩
  |flat=>cases e
  |capped=>cases e
  |least=>cases e
theorem LV {d:Nat}(F:qU K "twin" "Capped.twin" (zX (top 50) 3) f fd)(RK:wV K Cs)(N0:vA P w K mg base zY 5 "Capped" (Cs 2) ["self","name","parts","most","way"] (yS 2 Cs)):zL P w K mg base zY 7 f fd ["self"] (yp d 2 Cs):=by
 refine F.ok (N:=["self"]) ?_ ?_ ?_;walk_at"t"
 ·obtain⟨v,r,rfl,_⟩:=h;rfl
 ·obtain⟨v,r,rfl,e,ro,gd,q⟩:=h;have pl:=gd.pl (by omega);have pl0:=pl;obtain⟨o,dx,rfl,ho⟩:=ro.pl (by omega)
  cases pl with
  |@capped n p m x hn hp ha hw=>
   refine⟨_,zh (zt (yB (j:=5) N0 hr ∅ zA (za (z7 (pv 0) U) (za (z7 (pv 0) U) (za (z7 (pv 0) U) (za (z7 (pv 0) U) zd)))))),?_⟩;exact⟨_,U,o,_,dx,_,_,U,ho,RK.cls 2 ∅,RK.no 2 ∅ "name" ∅,U,_,U,o,_,dx,_,_,U,ho,RK.cls 2 ∅,RK.no 2 ∅ "parts" ∅,U,_,U,o,_,dx,_,_,U,ho,RK.cls 2 ∅,RK.no 2 ∅ "most" ∅,U,_,U,o,_,dx,_,_,U,ho,RK.cls 2 ∅,RK.no 2 ∅ "way" ∅,U,λo dx o0 d0 ne=>⟨o,dx,.capped n p m x,U,U,pl0,zi,λH' fr e=>⟨U,q _ H' (qI o0 d0 fr) (.pln (C9 U) ⟨o,dx,U,e⟩)⟩⟩⟩
  |flat=>cases e
  |share=>cases e
  |least=>cases e
theorem mP {d:Nat}(F:qU K "twin" "Least.twin" (zX (top 51) 3) f fd)(RK:wV K Cs)(N0:vA P w K mg base zY 5 "Least" (Cs 3) ["self","name","parts","least","way"] (yS 3 Cs)):zL P w K mg base zY 7 f fd ["self"] (yp d 3 Cs):=by
 refine F.ok (N:=["self"]) ?_ ?_ ?_;walk_at"t"
 ·obtain⟨v,r,rfl,_⟩:=h;rfl
 ·obtain⟨v,r,rfl,e,ro,gd,q⟩:=h;have pl:=gd.pl (by omega);have pl0:=pl;obtain⟨o,dx,rfl,ho⟩:=ro.pl (by omega)
  cases pl with
  |@least n p m x hn hp ha hw=>
   refine⟨_,zh (zt (yB (j:=5) N0 hr ∅ zA (za (z7 (pv 0) U) (za (z7 (pv 0) U) (za (z7 (pv 0) U) (za (z7 (pv 0) U) zd)))))),?_⟩;exact⟨_,U,o,_,dx,_,_,U,ho,RK.cls 3 ∅,RK.no 3 ∅ "name" ∅,U,_,U,o,_,dx,_,_,U,ho,RK.cls 3 ∅,RK.no 3 ∅ "parts" ∅,U,_,U,o,_,dx,_,_,U,ho,RK.cls 3 ∅,RK.no 3 ∅ "least" ∅,U,_,U,o,_,dx,_,_,U,ho,RK.cls 3 ∅,RK.no 3 ∅ "way" ∅,U,λo dx o0 d0 ne=>⟨o,dx,.least n p m x,U,U,pl0,zi,λH' fr e=>⟨U,q _ H' (qI o0 d0 fr) (.pln (C9 U) ⟨o,dx,U,e⟩)⟩⟩⟩
  |flat=>cases e
  |share=>cases e
  |capped=>cases e
theorem lL {d:Nat}(F:qU K "twin" "Bands.twin" (zX (top 56) 3) f fd)(RX:JV K (Cs 4))(N0:vA P w K mg base zY 6 "Bands" (Cs 4) ["self","name","rows","way"] (Qa (Cs 4))):zL P w K mg base zY 8 f fd ["self"] (yp d 4 Cs):=by
 refine F.ok (N:=["self"]) ?_ ?_ ?_;walk_at"t"
 ·obtain⟨v,r,rfl,_⟩:=h;rfl
 ·obtain⟨v,r,rfl,e,ro,gd,q⟩:=h
  cases gd with
  |pln p=>cases p<;>cases e
  |ontop=>cases e
  |@bands _ n x ps hn ok hw=>
   cases ro with
   |pln kk _=>exact K7 kk (by show ¬(4:Nat)<4;decide)
   |@bands _ _ _ o dx u ho bd=>
    refine⟨_,zh (zt (yB (j:=6) N0 hr ∅ zA (za (z7 (pv 0) U) (za (z7 (pv 0) U) (za (z7 (pv 0) U) zd))))),?_⟩;refine⟨_,U,o,_,dx,_,_,U,ho,RX.cls,RX.no "name" ∅,U,_,U,o,_,dx,_,_,U,ho,RX.cls,RX.no "bands" ∅,U,_,U,o,_,dx,_,_,U,ho,RX.cls,RX.no "way" ∅,U,λo dx o0 W' ne=>⟨o,dx,n,u,ps,x,U,hn,ok,hw,?_,zi,λH' u' fr SM bd'=>⟨U,q _ H' (qI o0 W' fr) (.bands SM bd')⟩⟩⟩;obtain⟨ys,hu,T⟩:=bd;have nt:∀{b c},H b=some (.tup c)->(upd (upd H dx (.own o)) o (.ins (Cs 4) dx [])) b=some (.tup c):=λ{b c} h=>by rw[zm (zC h o0),zm (zC h W')];exact h
    exact⟨ys,nt hu,T.mono λb c h=>nt h⟩
theorem Jf {d:Nat}(F:qU K "twin" "OnTop.twin" (zX (top 59) 3) f fd)(RX:JV K (Cs 5))(N0:vA P w K mg base zY j "OnTop" (Cs 5) ["self","name","parts","way","rule"] (Z2 d Cs)):zL P w K mg base zY (j+2) f fd ["self"] (yp (d+1) 5 Cs):=by
 refine F.ok (N:=["self"]) ?_ ?_ ?_;walk_at"t"
 ·obtain⟨v,r,rfl,_⟩:=h;rfl
 ·obtain⟨v,r,rfl,e,ro,gd,q⟩:=h;obtain⟨d',n,p,x,r',ed,rfl,hn,hp,hw,g'⟩:=rR gd e;cases ed
  cases ro with
  |pln kk _=>exact K7 kk (by show ¬(5:Nat)<4;decide)
  |@ontop _ _ _ _ o dx u ho ri=>
   refine⟨_,zh (zt (yB (j:=j) N0 hr (CI _) zA (za (z7 (pv 0) U) (za (z7 (pv 0) U) (za (z7 (pv 0) U) (za (z7 (pv 0) U) zd)))))),?_⟩;exact⟨_,U,o,_,dx,_,_,U,ho,RX.cls,RX.no "name" ∅,U,_,U,o,_,dx,_,_,U,ho,RX.cls,RX.no "parts" ∅,U,_,U,o,_,dx,_,_,U,ho,RX.cls,RX.no "way" ∅,U,_,U,o,_,dx,_,_,U,ho,RX.cls,RX.no "within" ∅,U,λo dx o0 W' ne=>⟨o,dx,n,p,x,u,r',U,hn,hp,hw,ri.same (zk.made o0 W'),g',zi,λH' u' fr SM ri'=>⟨U,q _ H' (qI o0 W' fr) (.ontop SM ri')⟩⟩⟩
theorem JR {d:Nat}(F:qU K "__init__" "OnTop.__init__" (zX (top 59) 0) f fd)(G:vh mg)(RX:JV K (Cs 5))(RJ:RD K Cs SU)(gR:mg "Rule" = some (.ref SU))(N1:WQ mg "MOST_DEPTH" 3)(hd:d<=2)(hj:4<=j)(CR:wR P w K mg base zY 4 "Rule" "__init__" ["self","name"] (u4 K))(C1:qX P w K mg base zY 4 "need_share" ["parts","way"] vS)(MT:∀k,k<6->yu P w K mg base zY j (Cs k) "twin" ["self"] (yp d k Cs))(MD:yu P w K mg base zY j (Cs 5) "depth" ["self"] (yO (d+1) 5 Cs)):zL P w K mg base zY (j+1) f fd ["self","name","parts","way","rule"] (Z2 d Cs):=by
 obtain⟨tk,em⟩:=N1;refine F.ok (N:=["self","name","parts","way","rule"]) ?_ ?_ ?_;walk_at"t"
 ·obtain⟨o,dx,n,p,x,u,r,rfl,_⟩:=h;rfl
 ·obtain⟨o,dx,n,p,x,u,r,rfl,hn,hp,hw,ri,gd,ho,q⟩:=h
  refine⟨_,zg (z6 (jD CR hr hj zA (za (pv 0) (za (pv 1) zd)))) (zg (z6 (zq C1 hr hj zA (za (pv 2) (za (pv 3) zd)))) (zg (zK (qB (qC (zv zG U G.isinstance zz (za (pv 4) (za (zQ (v:=.ref SU) U gR U) zd))))) yh zB)
   (zg (yP (pv 0) (pv 2) U) (zg (yP (pv 0) (pv 3) U) (zg (yP (pv 0) (Z0 (p:=λk=>k<6) λk hk=>jZ (MT k hk) hr (CI _) zA (pv 4)) U)
   (zh (zK (zx vX (jZ MD hr (CI _) zA (pv 0)) (zQ (v:=.int 3) U em ⟨tk,U⟩) (zD _)) yh zB))))))),?_⟩
  refine⟨_,U,_,U,_,o,dx,_,U,RX.cls,RX.no "name" ∅,ho,hn,λH1 f1 e1=>⟨_,U,_,U,_,_,U,hp,hw,?_⟩⟩;have r1:=ri.frame gd ho f1;obtain⟨oi,dxi,fsi,rfl,hoi,_,noi⟩:=r1.obj gd;have k6:=TU r;refine⟨_,U,_,_,_,_,true,U,U,.inl (.ins hoi (RJ.cls _ k6) (RJ.ha _ k6) RJ.hn RJ.htk (RJ.hm _ k6)),RJ.kt _ k6,true,U,qM ?_⟩;refine⟨_,U,_,U,o,_,dx,_,U,e1,RX.cls,RX.no "parts" ∅,by show 1<1000;decide,?_⟩;rw[t4 _ _ _ ⋯];refine⟨_,U,_,U,o,_,dx,_,U,zi,RX.cls,RX.no "way" ∅,by show 2<1000;decide,?_⟩;rw[TV _ _ _ _ _ ⋯ ⋯];have f2:∀b y,H b=some y->b≠o->(upd (upd H1 o (.ins (Cs 5) dx [("name",.str n),("parts",.int p)])) o (.ins (Cs 5) dx [("name",.str n),("parts",.int p),("way",.str x)])) b=some y:=λb y hb ne=>by rw[zm ne,zm ne];exact f1 _ _ hb ne
  have e2:(upd (upd H1 o (.ins (Cs 5) dx [("name",.str n),("parts",.int p)])) o (.ins (Cs 5) dx [("name",.str n),("parts",.int p),("way",.str x)])) o=some (.ins (Cs 5) dx [("name",.str n),("parts",.int p),("way",.str x)]):=zi;generalize upd (upd H1 o (.ins (Cs 5) dx [("name",.str n),("parts",.int p)])) o (.ins (Cs 5) dx [("name",.str n),("parts",.int p),("way",.str x)])=H2 at f2 e2;have r2:=ri.frame gd ho f2;obtain⟨oi2,dxi2,fsi2,eoi,hoi2,_,noi2⟩:=r2.obj gd;cases eoi;refine⟨r.kd,k6,_,U,oi,dxi2,fsi2,U,hoi2,noi2 "twin" ∅,_,r,U,U,r2,gd,λu' H3 s3 r3=>?_⟩;have e3:=s3 _ _ e2;refine⟨_,U,o,_,dx,_,U,e3,RX.cls,RX.no "within" ∅,by show 3<1000;decide,?_⟩;rw[BF _ _ _ _ _ _ _ ⋯ ⋯ ⋯];have f4:∀b y,H3 b=some y->b≠o->(upd H3 o (.ins (Cs 5) dx [("name",.str n),("parts",.int p),("way",.str x),("within",u')])) b=some y:=λb y hb ne=>by rw[zm ne];exact hb
  have e4:(upd H3 o (.ins (Cs 5) dx [("name",.str n),("parts",.int p),("way",.str x),("within",u')])) o=some (.ins (Cs 5) dx [("name",.str n),("parts",.int p),("way",.str x),("within",u')]):=zi;generalize upd H3 o (.ins (Cs 5) dx [("name",.str n),("parts",.int p),("way",.str x),("within",u')])=H4 at f4 e4;have r4:=r3.frame3 RJ.ne gd e3 f4;have g4:Gd (d+1) (.ontop n p x r):=.ontop hn hp hw gd;refine⟨_,U,o,dx,_,U,e4,U,_,_,U,U,.ontop e4 r4,g4,_,_,U,U,_,U,qg (λe=>?_) (λ_=>?_)⟩
  ·have e:=G' e;have:=Rq g4;omega
  ·exact q H4 u' (λb y hb ne=>f4 _ _ (s3 _ _ (f2 _ _ hb ne)) ne) e4 r4
theorem Jy (F:qU K "are_figures" "are_figures" (top 33) f fd)(G:vh mg)(N1:r8 mg "FIGURES" "0123456789"):zL P w K mg base zY 1 f fd ["text"] YJ:=by
 obtain⟨tm,hm⟩:=N1;have nc:(["sign"]:List af).Nodup:=⋯
 refine F.ok (N:=["text"]) ?_ ?_ ?_;walk_at"t"
 ·obtain⟨z,rfl,_⟩:=h;rfl
 ·obtain⟨z,rfl,hz,q⟩:=h;have ls:4000001<=au:=by rw[ai];decide
  refine' ⟨_,zh (zt (je (qS vX (zv qi U G.len aH (za (pv 0) zd)) ze (zD _)) (jA (zv (vg U) U G.all v5 (za ?comp zd))))),?main⟩
  case comp=>
   refine' qk (cl:=[]) (src:=[none]) (wi:=XQ (zV 0)) (g:=qc 0) (tt:=qL) (te:=vp vB (zV 0) (tC (.str "0123456789"))) (cO nc ⟨U,U,⋯,⋯,(λx c z=>nomatch z),qF (by rfl),zR qb,U⟩) rfl (QB (pv 0)) ?hb
   case hb=>
    intro fp C' s' H';exact⟨zO (i:=0) nc U (ay U),qt,qS Qx (pv 0) (zQ (v:=.str "0123456789") U hm ⟨_,U⟩) (by rfl)⟩
  refine⟨_,U,z,U,by lia,_,_,U,U,_,U,qg (λe=>?_) (λe=>?_)⟩
  ·have e:0<z.length:=by have:=G' e;lia
   have ne:z.cps.toList≠[]:=λy=>by rw[zI,y]at e;exact K7 e ∅
   refine⟨_,U,z,U,λD hD=>?_⟩;refine uA (uW (z:=z)) hD (by rw[CH,<- zI];lia) (λ_=>true) (λx=>match x with|.str y=>.bl (wY (y.cps.getD 0 0)) |v=>v) (λx _ H' R _ r=>r) (λx hx _ H' R _ r=>?_) ?_
   ·obtain⟨c,_,rfl⟩:=CK.mp hx;refine⟨_,U,_,_,U,U,?_⟩;rw[Xh];exact r
   ·rw[El.mpr λ_ _=>rfl,CP];refine⟨D,z.cps.toList.map wY,U,zN.of (by rw[CP];exact zi),?_⟩
    have e2:vM z.cps.toList=(z.cps.toList.map wY).all id:=by
     unfold vM;rw[Dv]
     cases h:z.cps.toList with
     |nil=>exact K7 h ne
     |cons a l=>rfl
    rw[<- e2];exact q _ (zk.upd hD)
  ·have e0:z.cps.toList=[]:=eh.mp (by
    rw[<- zI];have:¬(0:Int)<(z.length:Nat):=λc=>e (i' c);lia)
   have q':=q H (zk.refl _);rw[e0]at q';exact q'
theorem MY (F:qU K "is_number_text" "is_number_text" (top 34) f fd)(C1:qX P w K mg base zY 1 "are_figures" ["text"] YJ):zL P w K mg base zY 2 f fd ["text"] VX:=by
 refine F.ok (N:=["text"]) ?_ ?_ ?_;walk_at"t"
 ·obtain⟨z,rfl,_⟩:=h;rfl
 ·obtain⟨z,rfl,hz,q⟩:=h;refine⟨_,(zh (zt (je (zq C1 hr ∅ zA (za (pv 0) zd)) (jA (bH (qS qw (pv 0) zj (zD _)) (jA (mF (qH aq sU sV Zo (pv 0) (za zj zd))))))))),?_⟩;refine⟨_,U,z,U,by lia,λH1 s1=>⟨_,U,?_⟩⟩;have q':=q H1 s1;unfold uz at q'
  cases e:vM z.cps.toList with
  |false=>
   rw[e]at q';exact qM q'
  |true=>
   rw[e,dm]at q';refine qY ⟨_,U,U,_,U,?_⟩;have e0:("0":af).cps.toList=[48]:=by rw[Wf]
   rw[XM,e0]
   by_cases c:z.cps.toList=[48]
   ·rw[i' c]at q' ⊢;exact qY q'
   ·rw[D' c,dS]at q';rw[D' c];refine qM ⟨_,U,U,_,_,U,U,_,U,?_⟩;rw[Wf,gk];exact q'
end
end K12
namespace Pg
open PySem L2
theorem Gd.le {d e:Nat}{r:Rk}(h:Gd d r)(le:d<=e):Gd e r:=by
 induction le with
 |refl=>exact h
 |step _ ih=>exact ih.mono
end Pg
namespace L2
open PySem PySem.StrLaws Builtin Builtin.Str
def jw (c:Nat):List Nat->Nat->List Nat
 |[],_=>[]
 |a::r,k=>if a=c then k::jw c r (k+1) else jw c r (k+1)
theorem mC (x:af)(c:Nat):∀(l:List Nat) (k:Nat) (f:Array Nat) (fr:Nat),x.cps.toList.drop k=l->k<=x.length->fr<=k->f.size<=k ->
  (forIn (Fq k (l.length+1)) (f,fr) (occBody x ⟨#[c]⟩ x.length (x.length+1))).run.fst.toList=f.toList++jw c l k:=by
 intro l
 induction l with
 |nil=>
  intro k f fr e hk hf hs;have e1:Fq k (([]:List Nat).length+1)=[k]:=rfl;have e2:jw c [] k=[]:=rfl;rw[e1,e2,IJ];unfold occBody
  have:¬(((f.size<x.length+1/\fr<=k)/\k+(⟨#[c]⟩:af).length<=x.length)/\subAt x ⟨#[c]⟩ k=true):=λh=>by
   have h1:=(subAt_one x c k).mp ⟨h.1.2,h.2⟩;have h2:(x.cps.toList.drop k)[0]?=some c:=by rw[EJ];exact h1
   rw[e]at h2;cases h2
  rw[K5 this,dF];rfl
 |cons a r ih=>
  intro k f fr e hk hf hs
  have ea:x.cps.toList[k]?=some a:=by
   have h2:(x.cps.toList.drop k)[0]?=some a:=by rw[e];rfl
   rw[EJ]at h2;exact h2
  have er:x.cps.toList.drop (k+1)=r:=by
   rw[<- Ku,e];rfl
  have kl:k+1<=x.length:=by
   have:=(C7.mp ea).1;have e2:x.cps.toList.length=x.length:=rfl;lia
  rw[dz,List.range'_succ,IJ];unfold occBody
  by_cases h:a=c
  ·subst h;have h1:=(subAt_one x a k).mpr ea;rw[K6 ⟨⟨⟨Dd hs (by lia),hf⟩,h1.1⟩,h1.2⟩];have:=ih (k+1) (f.push k) (k+1) er kl (CI _) (by rw[Array.size_push];lia);have c1:jw a (a::r) k=k::jw a r (k+1):=K6 rfl;rw[c1];refine this.trans ?_;rw[eW,dU];rfl
  ·have:¬(((f.size<x.length+1/\fr<=k)/\k+(⟨#[c]⟩:af).length<=x.length)/\subAt x ⟨#[c]⟩ k=true):=λq=>by
    have h1:=(subAt_one x c k).mp ⟨q.1.2,q.2⟩;rw[ea]at h1;exact h (ao h1)
   rw[K5 this];have c1:jw c (a::r) k=jw c r (k+1):=K5 h;rw[c1];exact ih (k+1) f fr er kl (by lia) (by lia)
theorem Pl (x:af)(c:Nat):fk x ⟨#[c]⟩ 0 x.length (x.length+1)=jw c x.cps.toList 0:=by
 rw[occ_eq];exact mC x c x.cps.toList 0 #[] 0 rfl (du _) (CI _) (CI _)
theorem VG {w:List Nat}(h:¬c∈w)(r:List Nat)(k:Nat):jw c (w++r) k=jw c r (k+w.length):=by
 induction w generalizing k with
 |nil=>rfl
 |cons a w ih=>
  have n:¬a=c:=λe=>h (by rw[e];exact CU);have e:jw c (a::w++r) k=jw c (w++r) (k+1):=K5 n;rw[e,ih (λm=>h (C6 _ m)),dz]
  congr 1
  lia
theorem Xb (c:Nat)(l:List Nat)(k s:Nat):jw c l (k+s)=(jw c l k).map (· + s):=by
 induction l generalizing k with
 |nil=>rfl
 |cons a r ih=>
  show(if a=c then _ else _)=(if a=c then _ else _:List Nat).map _;have e:=ih (k+1);rw[show k+1+s=k+s+1 by lia]at e;split
  ·rw[dv,e]
  ·exact e
def BR (l SF:List Nat):List (List Nat):=fP (λi j=>(l.drop i).take (j-i)) (0::SF.map (· + 1)) (SF++[l.length])
theorem pE:∀(rest:List (List Nat)) (w:List Nat),¬c∈w->(∀v∈rest,¬c∈v)->BR (w++(rest.map λv=>c::v).flatten) (jw c (w++(rest.map λv=>c::v).flatten) 0)=w::rest:=by
 intro rest
 induction rest with
 |nil=>
  intro w hw _;rw[VG hw];show [((w++[]).drop 0).take ((w++[]).length-0)]=[w];rw[dF,Ep,Es,dX]
 |cons v r ih=>
  intro w hw hr;have ih:=ih v (hr v CU) λu hu=>hr u (C6 _ hu);have el:(((v::r).map λv=>c::v).flatten)=c::(v++(r.map λv=>c::v).flatten):=rfl;rw[el];generalize v++(r.map λv=>c::v).flatten=l' at ih
  have e1:jw c (w++c::l') 0=w.length::(jw c l' 0).map (· + (w.length+1)):=by
   rw[VG hw,DV];show(if c=c then _ else _)=_;rw[K6 U,<- Xb,DV]
  rw[e1];unfold BR at ih ⊢;rw[dv,ER,List.zipWith_cons_cons]
  congr 1
  ·rw[Ep,Es];exact List.take_left
  ·rw[<- ih]
   have s1:(w.length+1)::((jw c l' 0).map (· + (w.length+1))).map (· + 1)=(0::(jw c l' 0).map (· + 1)).map (· + (w.length+1)):=by
    rw[dv,DV,CP,CP]
    congr 1
    refine dY λi _=>?_;show i+(w.length+1)+1=i+1+(w.length+1);lia
   have s2:(jw c l' 0).map (· + (w.length+1))++[(w++c::l').length]=(jw c l' 0++[l'.length]).map (· + (w.length+1)):=by
    rw[CN,CS,dz]
    congr 1
    show [w.length+(l'.length+1)]=[l'.length+(w.length+1)]
    congr 1
    lia
   rw[s1,s2,Ik]
   congr 1
   funext i j
   rw[Nat.add_sub_add_right]
   have:(w++c::l').drop (i+(w.length+1))=l'.drop i:=by
    rw[show i+(w.length+1)=w.length+(1+i) by lia,<- Ku,List.drop_left,Nat.add_comm 1 i,List.drop_succ_cons]
   rw[this]
theorem Xz (c:Nat):∀(ws:List af) (L_:Array Nat),(ws.foldl (λL_ p=>L_++(⟨#[c]⟩:af).cps++p.cps) L_).toList=L_.toList++((ws.map λp=>p.cps.toList).map λv=>c::v).flatten:=by
 intro ws
 induction ws with
 |nil=>intro L_;exact(dF _).symm
 |cons p r ih=>
  intro L_;rw[De,ih]
  simp
theorem qu (c:Nat)(w:af)(ws:List af):(aG ⟨#[c]⟩ (w::ws)).cps.toList=w.cps.toList++((ws.map λp=>p.cps.toList).map λv=>c::v).flatten:=Xz c ws w.cps
theorem Wi (x:af)(SF:List Nat):(aZ x SF 1).map (λz=>z.cps.toList)=BR x.cps.toList SF:=by
 unfold aZ BR;rw[CP,List.zip,Il]
 congr 1
 funext i j
 show(x.cps.extract i j).toList=_;rw[Fp]
 try exact List.extract_eq_drop_take
theorem VF {a b:List af}(h:a.map (λz=>z.cps.toList)=b.map (λz=>z.cps.toList)):a=b:=by
 induction a generalizing b with
 |nil=>
  cases b with
  |nil=>rfl
  |cons=>cases h
 |cons x r ih=>
  cases b with
  |nil=>cases h
  |cons y s=>
   have h1:=FU h
   have e:x=y:=by
    obtain⟨x⟩:=x;obtain⟨y⟩:=y;exact K4 Str.mk (eG.mp h1.1)
   rw[e,ih h1.2]
theorem we {w:af}(hk:strKind (⟨#[c]⟩:af)=1)(hw:¬c∈w.cps.toList)(h:∀v∈ws,¬c∈v.cps.toList)(ne:1<=(aG ⟨#[c]⟩ (w::ws)).length):
  av (aG ⟨#[c]⟩ (w::ws)) ⟨#[c]⟩=w::ws/\aZ (aG ⟨#[c]⟩ (w::ws)) (fk (aG ⟨#[c]⟩ (w::ws)) ⟨#[c]⟩ 0 (aG ⟨#[c]⟩ (w::ws)).length ((aG ⟨#[c]⟩ (w::ws)).length+1)) 1=w::ws:=by
 have e0:aZ (aG ⟨#[c]⟩ (w::ws)) (fk (aG ⟨#[c]⟩ (w::ws)) ⟨#[c]⟩ 0 (aG ⟨#[c]⟩ (w::ws)).length ((aG ⟨#[c]⟩ (w::ws)).length+1)) 1=w::ws:=by
  apply VF;rw[Wi,Pl,qu]
  exact pE _ _ hw λv hv=>by
   obtain⟨u,hu,rfl⟩:=CK.mp hv;exact h u hu
 refine⟨?_,e0⟩;unfold av
 have k1:1<=strKind (aG ⟨#[c]⟩ (w::ws)):=by
  unfold iA;split
  ·decide
  ·split<;>decide
 have c1:(decide ((aG ⟨#[c]⟩ (w::ws)).length<(⟨#[c]⟩:af).length) || decide (strKind (aG ⟨#[c]⟩ (w::ws))<strKind (⟨#[c]⟩:af)))=false:=by
  rw[hk,DR];exact⟨D' (by show ¬_<1;lia),D' (by lia)⟩
 rw[K5 (by rw[c1];exact dq)];split
 ·rename_i he;have hn:fk (aG ⟨#[c]⟩ (w::ws)) ⟨#[c]⟩ 0 (aG ⟨#[c]⟩ (w::ws)).length ((aG ⟨#[c]⟩ (w::ws)).length+1)=[]:=List.isEmpty_iff.mp he;rw[hn]at e0;have e1:aZ (aG ⟨#[c]⟩ (w::ws)) [] 1=[strSub (aG ⟨#[c]⟩ (w::ws)) 0 (aG ⟨#[c]⟩ (w::ws)).length]:=rfl;refine Eq.trans ?_ (e1.symm.trans e0);have:(aG ⟨#[c]⟩ (w::ws)).cps.extract 0 (aG ⟨#[c]⟩ (w::ws)).length=(aG ⟨#[c]⟩ (w::ws)).cps:=Array.extract_size;show [_]=[(⟨_⟩:af)];rw[this]
 ·exact e0
end L2
namespace L2
open PySem PySem.Spec PyProof.Rows
end L2
namespace Pg
open PySem PySem.NumText L2 Builtin Builtin.Str
theorem r9 (n:Nat):digitsVal (dg n)=n:=by
 induction n using IK with
 |ind n ih=>
  by_cases h:n<10
  ·rw[UZ h];show 0*10+(48+n-48)=n;lia
  ·rw[Uj (by lia),Kn,ih (n/10) (by lia)];lia
theorem lI (h:n≠0):∃c r,dg n=c::r/\c≠48:=by
 induction n using IK with
 |ind n ih=>
  by_cases h10:n<10
  ·exact⟨48+n,[],UZ h10,by lia⟩
  ·obtain⟨c,r,e,ne⟩:=ih (n/10) (by lia) (by lia);exact⟨c,r++[48+n%10],by rw[Uj (by lia),e];rfl,ne⟩
theorem t9 (n:Nat):vM (dg n)=true:=by
 have h:=vR n;have l:=wy n;unfold vM;rw[CM];constructor
 ·cases e:dg n with
  |nil=>rw[e]at l;exact K7 l ∅
  |cons=>rfl
 ·rw[dj];intro c hc;have:=h c hc;unfold wY;rw[i' this.1,i' this.2];rfl
theorem mh (n:Nat):uz (dg n)=true:=by
 unfold uz;rw[t9,dm]
 by_cases h:n=0
 ·subst h;rfl
 ·obtain⟨c,r,e,ne⟩:=lI h;rw[e];have:decide ((c::r).head?=some 48)=false:=D' λz=>ne (ao z);rw[this];exact Ew _
theorem jK {i:Int}(h:0<=i):(toString i:af).cps.toList=dg i.toNat:=by
 obtain⟨n,rfl⟩:=Dw h;exact j9 n
theorem ZZ {i:Int}(h:YM i):Vd i:=⟨h.1,by have:=h.2;lia⟩
theorem JK (h:c<48∨57<c)(n:Nat):¬c∈dg n:=λm=>by
 have:=vR n c m;lia
theorem Gz (h:c<97)(n:yx z):¬c∈z.cps.toList:=λm=>by
 have:=dj.mp n.ok.all c m;unfold Qr at this;rw[CM]at this;have:=G' this.1;omega
theorem Jp {w:af}(h:Vc w):¬32∈w.cps.toList:=by
 have h:=dW.mp h;unfold wayL at h;simp only[CJ,CV,or_false]at h;rcases h with rfl |rfl |rfl |rfl<;>decide+kernel
theorem QG (h:c<48∨57<c){i:Int}(h0:0<=i):¬c∈(toString i:af).cps.toList:=by
 rw[jK h0];exact JK h _
theorem RM:(" ":af)=⟨#[32]⟩:=⋯
theorem BW:(":":af)=⟨#[58]⟩:=⋯
theorem TQ:(",":af)=⟨#[44]⟩:=⋯
theorem GG (h:c<256):iA (⟨#[c]⟩:af)=1:=by
 unfold iA;rw[K6]
 simp[h]
def qK:Rk->List af
 |.bands n ps w=>[("bands":af),n,vx ps,w]
 |.ontop n p w r=>[("ontop":af),n,(toString p:af),w,("of":af)]++qK r
 |.flat n a=>[("flat":af),n,(toString a:af)]
 |.share n p w=>[("share":af),n,(toString p:af),w]
 |.capped n p m w=>[("capped":af),n,(toString p:af),(toString m:af),w]
 |.least n p l w=>[("least":af),n,(toString p:af),(toString l:af),w]
theorem wB (r:Rk):∃w ws,qK r=w::ws/\w.length >= 1:=by
 cases r<;>exact⟨_,_,U,⋯⟩
theorem pT (c:Nat)(x y:af)(xs ys:List af):aG ⟨#[c]⟩ (x::xs++[aG ⟨#[c]⟩ (y::ys)])=aG ⟨#[c]⟩ (x::xs++y::ys):=by
 apply QD;rw[ER,ER,qu,qu,CN,CN,CN,CN,Ex,Ex,dv,d8,qu]
 simp
theorem wk (r:Rk):q8 r=aG " " (qK r):=by
 induction r with
 |ontop n p w r ih=>
  obtain⟨v,vs,e,_⟩:=wB r;show aG " " [("ontop":af),n,(toString p:af),w,("of":af),q8 r]=aG " " ([("ontop":af),n,(toString p:af),w,("of":af)]++qK r);rw[ih,e,RM];exact pT 32 ("ontop":af) v [n,(toString p:af),w,("of":af)] vs
 |_=>rfl
theorem ux (q:Int×Int)(h0:0<=q.1)(h1:0<=q.2):(yU q).cps.toList=dg q.1.toNat++(58::dg q.2.toNat):=by
 unfold yU;rw[qW,qW,jK h0,jK h1,dU];rfl
theorem Jm (q:Int×Int):yU q=aG ⟨#[58]⟩ [(toString q.1:af),(toString q.2:af)]:=by
 apply QD;rw[qu];unfold yU;rw[qW,qW]
 simp
 rfl
theorem Rp (ok:QR ps):¬32∈(vx ps).cps.toList:=by
 obtain⟨p,r,e⟩:=ok.hd
 have hb:∀q∈ps,¬32∈(yU q).cps.toList:=λq hq m=>by
  have h:=ok.ok q hq;rw[ux q h.1.1 h.2.1]at m;rcases CQ.mp m with m |m
  ·exact JK (.inl ∅) _ m
  ·rcases CJ.mp m with m |m
   ·exact K7 m ∅
   ·exact JK (.inl ∅) _ m
 unfold vx;rw[e]at hb ⊢;rw[dv,TQ,qu];intro m;rcases CQ.mp m with m |m
 ·exact hb _ CU m
 ·obtain⟨l,hl,m⟩:=DU.mp m;obtain⟨v,hv,rfl⟩:=CK.mp hl;obtain⟨u,hu,rfl⟩:=CK.mp hv;obtain⟨q,hq,rfl⟩:=CK.mp hu;rcases CJ.mp m with m |m
  ·exact K7 m ∅
  ·exact hb q (C6 _ hq) m
theorem P6 {d:Nat}{r:Rk}(g:Gd d r):∀z∈qK r,¬32∈z.cps.toList:=by
 have lit:∀{z:af},z.cps.toList.contains 32=false->¬32∈z.cps.toList:=λh m=>by rw[dW.mpr m]at h;cases h
 have sp:∀{z:af},yx z->¬32∈z.cps.toList:=λh=>Gz ∅ h;have pt:∀{i:Int},YM i->¬32∈(toString i:af).cps.toList:=λh=>QG (.inl ∅) h.1;have am:∀{i:Int},Vd i->¬32∈(toString i:af).cps.toList:=λh=>QG (.inl ∅) h.1
 induction g with
 |pln p=>
  intro z hz
  cases p with
  |flat hn ha=>
   simp only[qK,CJ,CV,or_false]at hz;rcases hz with rfl |rfl |rfl
   ·exact lit ⋯
   ·exact sp hn
   ·exact am ha
  |share hn hp hw=>
   simp only[qK,CJ,CV,or_false]at hz;rcases hz with rfl |rfl |rfl |rfl
   ·exact lit ⋯
   ·exact sp hn
   ·exact pt hp
   ·exact Jp hw
  |capped hn hp ha hw=>
   simp only[qK,CJ,CV,or_false]at hz;rcases hz with rfl |rfl |rfl |rfl |rfl
   ·exact lit ⋯
   ·exact sp hn
   ·exact pt hp
   ·exact am ha
   ·exact Jp hw
  |least hn hp ha hw=>
   simp only[qK,CJ,CV,or_false]at hz;rcases hz with rfl |rfl |rfl |rfl |rfl
   ·exact lit ⋯
   ·exact sp hn
   ·exact pt hp
   ·exact am ha
   ·exact Jp hw
 |bands hn ok hw=>
  intro z hz;simp only[qK,CJ,CV,or_false]at hz;rcases hz with rfl |rfl |rfl |rfl
  ·exact lit ⋯
  ·exact sp hn
  ·exact Rp ok
  ·exact Jp hw
 |ontop hn hp hw _ ih=>
  intro z hz;rcases CQ.mp hz with hz |hz
  ·simp only[CJ,CV,or_false]at hz;rcases hz with rfl |rfl |rfl |rfl |rfl
   ·exact lit ⋯
   ·exact sp hn
   ·exact pt hp
   ·exact Jp hw
   ·exact lit ⋯
  ·exact ih z hz
theorem oq {d:Nat}{r:Rk}(g:Gd d r):av (q8 r) " " = qK r/\aZ (q8 r) (fk (q8 r) " " 0 (q8 r).length ((q8 r).length+1)) 1=qK r:=by
 obtain⟨w,ws,e,l⟩:=wB r;have no:=P6 g;rw[wk,e,RM];rw[e]at no;refine we (GG ∅) (no w CU) (λv hv=>no v (C6 _ hv)) ?_;rw[zI,qu,CS,<- zI];lia
theorem Xu (q:Int×Int)(h0:0<=q.1)(h1:0<=q.2):av (yU q) ":" = [(toString q.1:af),(toString q.2:af)]/\aZ (yU q) (fk (yU q) ":" 0 (yU q).length ((yU q).length+1)) 1=[(toString q.1:af),(toString q.2:af)]:=by
 rw[Jm,BW];refine we (GG ∅) (QG (.inr ∅) h0) (λv hv=>?_) ?_
 ·rw[CY.mp hv];exact QG (.inr ∅) h1
 ·rw[zI,qu,CS,jK h0];have:=wy q.1.toNat;lia
theorem xx (ok:QR ps):av (vx ps) "," = ps.map yU/\aZ (vx ps) (fk (vx ps) "," 0 (vx ps).length ((vx ps).length+1)) 1=ps.map yU:=by
 obtain⟨p,r,e⟩:=ok.hd
 have hb:∀q∈ps,¬44∈(yU q).cps.toList:=λq hq m=>by
  have h:=ok.ok q hq;rw[ux q h.1.1 h.2.1]at m;rcases CQ.mp m with m |m
  ·exact JK (.inl ∅) _ m
  ·rcases CJ.mp m with m |m
   ·exact K7 m ∅
   ·exact JK (.inl ∅) _ m
 have h0:=(ok.ok ((0:Int),p) (by rw[e];exact CU));unfold vx;rw[e]at hb ⊢;rw[dv,TQ];refine we (GG ∅) (hb _ CU) (λv hv=>?_) ?_
 ·obtain⟨q,hq,rfl⟩:=CK.mp hv;exact hb q (C6 _ hq)
 ·rw[zI,qu,CS,ux _ h0.1.1 h0.2.1,CS,dz];lia
abbrev RW:=Zq
end Pg
namespace Pg
open PySem L2
inductive Ua (vs:List V)(H:Hp)(Q:VK)(_:XK):Prop|mk(c:Int)(n:Nat)(_:vs=[.int c,.int (n:Nat)])(_:n<=8)(_:∀(nms:List af) l H',nms.length=n->(∀z∈nms,yx z)->nms.Nodup->zk H H'->H l=none->H' l=some (.lst (nms.map V.str))->Q (.ref l) H')
theorem JH {p:af->Prop}{t:Nat->af->Prop}{zs:List V}(h:∀(i:Nat) u,zs[i]?=some u->∃k,(aY n)[i]?=some k/\∃z,u=.str z/\p z/\t k z):∃nms:List af,zs=nms.map V.str/\(∀z∈nms,p z)/\∀(i:Nat) z,nms[i]?=some z->t i z:=by
 have h':∀u∈zs,∃z,u=.str z/\p z:=λu hu=>by
  obtain⟨i,hi⟩:=Et.mp hu;obtain⟨k,_,z,e,hp,_⟩:=h i u hi;exact⟨z,e,hp⟩
 obtain⟨nms,rfl,hn⟩:=P8 h';refine⟨nms,U,hn,λi z hz=>?_⟩;obtain⟨k,hk,z',e,_,ht⟩:=h i (.str z) (by rw[CO,hz];rfl);cases e;obtain⟨hk1,hk2⟩:=C7.mp hk;rw[Ey]at hk2;subst hk2;exact ht
theorem YW {nms:List af}{t:Nat->af->Prop}(h:∀(i:Nat) z,nms[i]?=some z->t i z)(inj:∀i j z,i<nms.length->j<nms.length->t i z->t j z->i=j):nms.Nodup:=by
 rw[E6,DB];intro i j hi hj lt e;have h1:=h i _ (CZ hi);have h2:=h j _ (CZ hj);rw[e]at h1;have:=inj i j _ hi hj h1 h2;lia
theorem RZ (h1:okNames[i]?=some z)(h2:okNames[j]?=some z):i=j:=by
 have nd:okNames.Nodup:=⋯
 obtain⟨a,e1⟩:=C7.mp h1;obtain⟨b,e2⟩:=C7.mp h2;have pw:=DB.mp (E6.mp nd);rcases Nat.lt_trichotomy i j with lt |e |lt
 ·exact K7 (e1.trans e2.symm) (pw i j a b lt)
 ·exact e
 ·exact K7 (e2.trans e1.symm) (pw j i b a lt)
structure Qn (rs:List Rk):Prop where
 gd:∀r∈rs,Gd 3 r
 nd:(rs.map Rk.name).Nodup
 few:rs.length<=8
inductive rA (Cs:Nat->ag)(H:Hp)(l:ag)(rs:List Rk):Prop|mk(ys:_)(_:H l=some (.lst ys))(_:yN H ys rs (λH' v r=>wW Cs H' r v))
inductive r6 (H:Hp)(l:ag)(rs:List Rk):Prop|mk(ys:_)(_:H l=some (.lst ys))(_:yN H ys rs (λH' v r=>Yv H' r v))
theorem Yv.name {r:Rk}{d:Nat}(h:Yv H r v)(g:Gd d r):∃t l,v=.ref t/\H t=some (.tup l)/\QA l 1=some (.str r.name):=by
 cases h with
 |pln k h=>
  obtain⟨t,rfl,h⟩:=h;exact⟨t,_,U,h,TC (g.pl k)⟩
 |bands h b=>exact⟨_,_,U,h,U⟩
 |ontop h b=>exact⟨_,_,U,h,U⟩
end Pg
namespace L2
open PySem PySem.Spec PyProof.Rows
end L2
namespace Pg
open PySem L2
theorem WM {zs:List V}{P:Hp->V->Rk->Prop}{q:Nat->Rk->Prop}(M:Rf H zs (aY n) (λH u k=>∃r,P H u r/\q k r)):∃rs:List Rk,rs.length=n/\(∀(i:Nat) r,rs[i]?=some r->q i r/\∃u,zs[i]?=some u/\P H u r):=by
 have h:∀k,∃r,k<n->q k r/\∃u,zs[k]?=some u/\P H u r:=λk=>by
  by_cases hk:k<n
  ·obtain⟨u,h1,r,h2,h3⟩:=M.at_ k k (by rw[CZ (by rw[dD];exact hk),Ey]);exact⟨r,λ_=>⟨h3,u,h1,h2⟩⟩
  ·exact⟨.flat "a" 0,λz=>K7 z hk⟩
 obtain⟨f,hf⟩:∃f:Nat->Rk,∀k,k<n->q k (f k)/\∃u,zs[k]?=some u/\P H u (f k):=⟨λk=>(h k).choose,λk hk=>(h k).choose_spec hk⟩;refine⟨(aY n).map f,by rw[CH,dD],λi r e=>?_⟩;rw[CO]at e;obtain⟨k,h1,rfl⟩:=C8.mp e;obtain⟨hk1,hk2⟩:=C7.mp h1;rw[Ey]at hk2;subst hk2;rw[dD]at hk1;exact hf i hk1
inductive QN (K:BFr)(vs:List V)(H:Hp)(Q:VK)(_:XK):Prop|mk(c:Int)(ln:ag)(nms:List af)(mo:Nat)(_:vs=[.int c,.ref ln,.int (mo:Nat)])(_:mo<=8)(_:zN K H ln (nms.map V.str))(_:nms.length=8)(_:(∀z∈nms,yx z))(_:nms.Nodup)(_:∀l rs H',Qn rs->zk H H'->H l=none->r6 H' l rs->Q (.ref l) H')
end Pg
namespace L2
open PySem
theorem vA.mono {K:BFr}{mg:af->Option ae}{k:Nat}{ps:List af}(M:vA P w K mg base CX j x C ps sp)(h:j<=k):vA P w K mg base CX k x C ps sp:=by
 obtain⟨a,f,fd,b,c,F⟩:=M;exact⟨a,f,fd,b,c,F.mono h⟩
end L2
namespace Pg
open PySem L2
theorem oG {a b:Nat}(h:(!(KN a b))=true):a≠b:=λe=>by
 subst e;rw[Nat.beq_refl]at h;cases h
section
variable {K:BFr}{mg:af->Option ae}{d:Nat}
theorem ZP {d e k:Nat}(h:d<=e):∀vs H Q E,yO d k Cs vs H Q E->yO e k Cs vs H Q E:=by
 rintro vs H Q E ⟨v,r,rfl,h1,h2,h3,h4⟩;exact⟨v,r,U,h1,h2,h3.le h,h4⟩
theorem Qe {d e k:Nat}(h:d<=e):∀vs H Q E,yp d k Cs vs H Q E->yp e k Cs vs H Q E:=by
 rintro vs H Q E ⟨v,r,rfl,h1,h2,h3,h4⟩;exact⟨v,r,U,h1,h2,h3.le h,h4⟩
theorem Gc (D0:yu P w K mg base CX 1 (Cs 0) "depth" ["self"] (yO 3 0 Cs))(D1:yu P w K mg base CX 1 (Cs 1) "depth" ["self"] (yO 3 1 Cs))(D2:yu P w K mg base CX 1 (Cs 2) "depth" ["self"] (yO 3 2 Cs))(D3:yu P w K mg base CX 1 (Cs 3) "depth" ["self"] (yO 3 3 Cs))(D4:yu P w K mg base CX 1 (Cs 4) "depth" ["self"] (yO 3 4 Cs))(hd:d<=3)(hj:1<=j)(D5:yu P w K mg base CX j (Cs 5) "depth" ["self"] (yO d 5 Cs)):
  ∀k,k<6->yu P w K mg base CX j (Cs k) "depth" ["self"] (yO d k Cs) :=
 U4 ((D0.imp (ZP hd)).mono hj) ((D1.imp (ZP hd)).mono hj) ((D2.imp (ZP hd)).mono hj) ((D3.imp (ZP hd)).mono hj) ((D4.imp (ZP hd)).mono hj) D5
theorem GJ (T0:yu P w K mg base CX 7 (Cs 0) "twin" ["self"] (yp 3 0 Cs))(T1:yu P w K mg base CX 7 (Cs 1) "twin" ["self"] (yp 3 1 Cs))(T2:yu P w K mg base CX 7 (Cs 2) "twin" ["self"] (yp 3 2 Cs))(T3:yu P w K mg base CX 7 (Cs 3) "twin" ["self"] (yp 3 3 Cs))(T4:yu P w K mg base CX 8 (Cs 4) "twin" ["self"] (yp 3 4 Cs))(hd:d<=3)(hj:8<=j)(T5:yu P w K mg base CX j (Cs 5) "twin" ["self"] (yp d 5 Cs)):
  ∀k,k<6->yu P w K mg base CX j (Cs k) "twin" ["self"] (yp d k Cs) :=
 U4 ((T0.imp (Qe hd)).mono (by lia)) ((T1.imp (Qe hd)).mono (by lia)) ((T2.imp (Qe hd)).mono (by lia)) ((T3.imp (Qe hd)).mono (by lia)) ((T4.imp (Qe hd)).mono hj) T5
end
end Pg
namespace L2
open PySem PySem.Spec PyProof.Rows
section
variable {d:ag}
theorem zH.thaw (I:zH X pins σ H s)(n:∀o u,X.H₀ d≠some (.frz o u))(hd:H d=some (.frz o (.dK kvs))):zH X pins σ (upd H d (.dK kvs)) s:=by
 have ok:=I.hok d _ hd
 have ne:∀b (u:HO),H b=some u->(∀o k,u≠.frz o k)->b≠d:=λb u q n' e=>by
  subst e;rw[hd]at q;exact n' _ _ (ao q).symm
 have nn:∀b,H b=none->b≠d:=λb q e=>by rw[e,hd]at q;cases q
 refine⟨I.ok,I.os,I.bare,⟨I.base.keep,I.base.slot,λb u q n hx=>?_,I.base.there,λb ys q=>?_,λb u v q=>?_,λb ps q=>?_⟩,I.loc,I.cell,?_,λx c q=>?_,λp hp=>?_,λb u q=>?_,I.len⟩
 ·have z:=I.base.free b u q n hx;rw[zm (nn b z)];exact z
 ·have z:=I.base.tups b ys q;rw[zm (ne _ _ z λ_ _ e=>nomatch e)];exact z
 ·have z:=I.base.frzs b u v q;rw[zm (λe=>n u v (by rw[<- e];exact q))];exact z
 ·obtain⟨m,z⟩:=I.base.tbls b ps q;exact⟨m,by rw[zm (ne _ _ z λ_ _ e=>nomatch e)];exact z⟩
 ·rw[zm (nn _ I.free)];exact I.free
 ·have z:=I.freeC x c q;rw[zm (nn _ z)];exact z
 ·obtain⟨p1,p2,p3,p4,p5⟩:=I.pin p hp;exact⟨p1,by rw[zm (nn _ p2)];exact p2,p3,p4,p5⟩
 ·by_cases nb:b=d
  ·subst nb;rw[zi]at q;cases q;exact ok.2
  ·rw[zm nb]at q;refine(I.hok b u q).stay (λc u _ z=>z) (λc z=>?_) λc ys z=>?_
   ·rw[zm (ne _ _ z λ_ _ e=>nomatch e)];exact z
   ·rw[zm (ne _ _ z λ_ _ e=>nomatch e)];exact z
def Cr (d:ag)(o:g_)(kvs:List (yY×V))(D:j6):j6:={nx:=λσ H=>H d=some (.frz o (.dK kvs))/\D.nx σ (upd H d (.dK kvs)),rt:=λv H=>H d=some (.frz o (.dK kvs))/\D.rt v (upd H d (.dK kvs)),bk:=λσ H=>H d=some (.frz o (.dK kvs))/\D.bk σ (upd H d (.dK kvs)),ct:=λσ H=>H d=some (.frz o (.dK kvs))/\D.ct σ (upd H d (.dK kvs))}
inductive Bv (t:TS)(D:j6)(σ:St)(H:Hp):Prop|mk(d:_)(kvs:_)(_:H d=some (.dK kvs))(_:∀o,t (Cr d o kvs D) σ (upd H d (.frz o (.dK kvs))))
theorem mQ {t:TS}(h:PS X st t):PS X st (Bv t):=by
 intro pins s σ H D I q;obtain⟨d,kvs,hd,q⟩:=q;obtain⟨o,J⟩:=I.freeze hd
 have n:∀o u,X.H₀ d≠some (.frz o u):=λo u z=>by
  have:=I.base.frzs d o u z;rw[hd]at this;cases this
 refine fh (h pins s σ _ _ J (q o)) (λf s1 q=>?_) λ_ _ z=>z
 cases f with
 |next=>obtain⟨σ',H',I',T_,q⟩:=q;exact⟨σ',_,I'.thaw n T_,q⟩
 |brk=>obtain⟨σ',H',I',T_,q⟩:=q;exact⟨σ',_,I'.thaw n T_,q⟩
 |cont=>obtain⟨σ',H',I',T_,q⟩:=q;exact⟨σ',_,I'.thaw n T_,q⟩
 |ret u=>obtain⟨v,σ',H',I',r,T_,q⟩:=q;exact⟨v,σ',_,I'.thaw n T_,r,q⟩
theorem QZ {d:ag}(hd:H d=some (.dK kvs))(s:zk (upd H d (.frz o (.dK kvs))) H'):zk H (upd H' d (.dK kvs)):=λb u e=>by
 by_cases c:b=d
 ·subst c;rw[zi,<- hd];exact e
 ·rw[zm c];exact s b u (by rw[zm c];exact e)
end
end L2
variable {row:af}
namespace Pg
open PySem L2
abbrev Be:=Int×ag×List Rk
def yr (e:Be):Int×List Rk:=(e.1,e.2.2)
def j0 (es:List Be):List (yY×V):=es.map λe=>(a_ e.1,V.ref e.2.1)
def yq (rs:List Rk):List V:=rs.map λr=>V.str (q8 r)
structure U6 (C:ag)(H:Hp)(B dx t:ag)(es:List Be):Prop where
 ins:H B=some (.ins C dx [("told",.ref t)])
 dic:H t=some (.dK (j0 es))
 nd:(es.map (·.1)).Nodup
 row:∀e∈es,H e.2.1=some (.lst (yq e.2.2))
 ok:∀e∈es,Qn e.2.2
theorem U6.fr {B t:ag}{es:List Be}(h:U6 C H B dx t es)(k:∀b o,H b=some o->H' b=some o):U6 C H' B dx t es:=⟨k _ _ h.ins,k _ _ h.dic,h.nd,λe he=>k _ _ (h.row e he),h.ok⟩
theorem U1 {a b:Int}:(a_ a:yY)=a_ b↔a=b:=⟨λh=>by injection h,λh=>by rw[h]⟩
theorem QU {es:List Be}(nd:(es.map (·.1)).Nodup){e:Be}(h:e∈es):ZU (j0 es) (a_ e.1)=some (.ref e.2.1):=by
 induction es with
 |nil=>cases h
 |cons p r ih=>
  have nd:(p.1::r.map (·.1)).Nodup:=nd;obtain⟨n1,n2⟩:=Da.mp nd;rcases CJ.mp h with rfl |h
  ·exact Qf rfl
  ·have ne:¬(a_ p.1:yY)=a_ e.1:=λz=>n1 (by rw[U1.mp z];exact CK.mpr ⟨_,h,U⟩);exact(ZR ne).trans (ih n2 h)
def vF (es:List Be)(Y:Int)(a:ag)(rs:List Rk):List Be:=if (es.any λe=>decide (e.1=Y))=true then es.map (λe=>if e.1=Y then (Y,a,rs) else e) else es++[(Y,a,rs)]
def bA (ps:List (Int×List Rk))(Y:Int)(rs:List Rk):List (Int×List Rk):=if (ps.any λe=>decide (e.1=Y))=true then ps.map (λe=>if e.1=Y then (Y,rs) else e) else ps++[(Y,rs)]
theorem Xv (es:List Be)(Y:Int)(a:ag)(rs:List Rk):kG (j0 es) (a_ Y) (.ref a)=j0 (vF es Y a rs):=by
 have e1:((j0 es).any λkv=>decide (kv.1=a_ Y))=es.any λe=>decide (e.1=Y):=by
  unfold j0;rw[Em]
  congr 1
  funext e
  exact decide_eq_decide.mpr U1
 unfold kG vF;rw[e1]
 cases q:es.any λe=>decide (e.1=Y) with
 |true=>
  rw[K6 U,K6 rfl];unfold j0;rw[CP,CP];refine dY λe _=>?_;show(if (a_ e.1:yY)=a_ Y then ((a_ e.1:yY),V.ref a) else (a_ e.1,V.ref e.2.1))=(a_ (if e.1=Y then ((Y,a,rs):Be) else e).1,V.ref (if e.1=Y then ((Y,a,rs):Be) else e).2.1)
  by_cases c:e.1=Y
  ·rw[K6 (U1.mpr c),K6 c,c]
  ·rw[K5 (λz=>c (U1.mp z)),K5 c]
 |false=>
  rw[K5 dq,K5 dq];unfold j0;rw[CN];rfl
theorem Gp (es:List Be)(Y:Int)(a:ag)(rs:List Rk):(vF es Y a rs).map yr=bA (es.map yr) Y rs:=by
 have e1:((es.map yr).any λe=>decide (e.1=Y))=es.any λe=>decide (e.1=Y):=by rw[Em];rfl
 unfold vF bA;rw[e1]
 cases q:es.any λe=>decide (e.1=Y) with
 |true=>
  rw[K6 U,K6 U,CP,CP];refine dY λe _=>?_;show yr (if e.1=Y then (Y,a,rs) else e)=if e.1=Y then (Y,rs) else yr e
  by_cases c:e.1=Y
  ·rw[K6 c,K6 c];rfl
  ·rw[K5 c,K5 c]
 |false=>
  rw[K5 dq,K5 dq,CN];rfl
theorem vW {es:List Be}{rs:List Rk}{e:Be}(h:e∈vF es Y a rs):e=(Y,a,rs)∨e∈es:=by
 unfold vF at h
 cases q:es.any λe=>decide (e.1=Y) with
 |true=>
  rw[q,K6 rfl]at h;obtain⟨f,hf,rfl⟩:=CK.mp h
  by_cases c:f.1=Y
  ·rw[K6 c];exact .inl rfl
  ·rw[K5 c];exact .inr hf
 |false=>
  rw[q,K5 dq]at h;rcases CQ.mp h with h |h
  ·exact .inr h
  ·exact .inl (CY.mp h)
theorem GE {es:List Be}{rs:List Rk}(nd:(es.map (·.1)).Nodup):((vF es Y a rs).map (·.1)).Nodup:=by
 unfold vF
 cases q:es.any λe=>decide (e.1=Y) with
 |true=>
  rw[K6 U,CP]
  have:es.map ((·.1) ∘ λe=>if e.1=Y then ((Y,a,rs):Be) else e)=es.map (·.1):=dY λe _=>by
   show(if e.1=Y then ((Y,a,rs):Be) else e).1=e.1
   by_cases c:e.1=Y
   ·rw[K6 c,c]
   ·rw[K5 c]
  rw[this];exact nd
 |false=>
  rw[K5 dq,CN];refine DO.mpr ⟨nd,Da.mpr ⟨(λz=>by cases z),Df⟩,λx hx y hy=>?_⟩;have hy:y∈[Y]:=hy;rw[CY.mp hy];rintro rfl;obtain⟨e,he,rfl⟩:=CK.mp hx;have:(es.any λf=>decide (f.1=e.1))=true:=ES.mpr ⟨e,he,i' U⟩;rw[this]at q;cases q
theorem pW (es:List Be)(Y:Int)(a:ag)(rs:List Rk):(vF es Y a rs).length<=es.length+1:=by
 unfold vF;split
 ·rw[CH];lia
 ·rw[CS,dB];exact CI _
structure UY (ps:List (Int×List Rk))(Y m:Int)(rs:List Rk):Prop where
 mem:(m,rs)∈ps
 le:m<=Y
 top:∀q∈ps,q.1<=Y->q.1<=m
theorem UY.one {ps:List (Int×List Rk)}{m':Int}{rs rs':List Rk}(nd:(ps.map (·.1)).Nodup)(a:UY ps Y m rs)(b:UY ps Y m' rs'):rs=rs':=by
 have e:m=m':=Int.le_antisymm (b.top _ a.mem a.le) (a.top _ b.mem b.le);subst e;have a1:=a.mem;have b1:=b.mem;clear a b
 induction ps with
 |nil=>cases a1
 |cons p r ih=>
  have nd:(p.1::r.map (·.1)).Nodup:=nd;obtain⟨n1,n2⟩:=Da.mp nd;rcases CJ.mp a1 with e1 |h1
  ·rcases CJ.mp b1 with e2 |h2
   ·rw[<- e1]at e2;cases e2;rfl
   ·exact K7 (CK.mpr ⟨_,h2,by rw[<- e1]⟩) n1
  ·rcases CJ.mp b1 with e2 |h2
   ·exact K7 (CK.mpr ⟨_,h1,by rw[<- e2]⟩) n1
   ·exact ih n2 h1 h2
def OX (es:List Be)(Y:Int):List Int:=(es.map (·.1)).filter λy=>decide (y<=Y)
theorem lO {es:List Be}(h:m∈OX es Y)(t:∀x∈OX es Y,x<=m):∃e∈es,e.1=m/\UY (es.map yr) Y m e.2.2:=by
 obtain⟨h1,h2⟩:=eJ.mp h;obtain⟨e,he,rfl⟩:=CK.mp h1;refine⟨e,he,U,CK.mpr ⟨e,he,U⟩,G' h2,λq hq l=>?_⟩;obtain⟨f,hf,rfl⟩:=CK.mp hq;exact t f.1 (eJ.mpr ⟨CK.mpr ⟨f,hf,U⟩,i' l⟩)
theorem GM {es:List Be}(h:OX es Y=[]){rs:List Rk}(p:UY (es.map yr) Y m rs):False:=by
 obtain⟨e,he,z⟩:=CK.mp p.mem
 have:e.1∈OX es Y:=eJ.mpr ⟨CK.mpr ⟨e,he,U⟩,i' (by
  have:e.1=m:=K4 AH z;rw[this];exact p.le)⟩
 rw[h]at this;cases this
theorem X6 (rs:List Rk):yN H (yq rs) rs (λ_ v r=>v=.str (q8 r)):=⟨CH _,λi y e=>by
 unfold yq at e;rw[CO]at e;obtain⟨r,hr,rfl⟩:=C8.mp e;exact⟨r,hr,λ_ _=>rfl⟩⟩
theorem Ta (h:ns≠[]):∃m∈ns,∀x∈ns,x<=m:=by
 induction ns with
 |nil=>exact K7 rfl h
 |cons a r ih=>
  cases r with
  |nil=>exact⟨a,CU,λx hx=>by rw[CY.mp hx];exact DA _⟩
  |cons b l=>
   obtain⟨m,hm,t⟩:=ih (λz=>nomatch z)
   by_cases c:a<=m
   ·exact⟨m,C6 _ hm,λx hx=>by
     rcases CJ.mp hx with rfl |hx
     ·exact c
     ·exact t x hx⟩
   ·exact⟨a,CU,λx hx=>by
     rcases CJ.mp hx with rfl |hx
     ·exact DA _
     ·have:=t x hx;lia⟩
inductive Ql (C:ag)(vs:List V)(H:Hp)(Q:VK)(_:XK):Prop|mk(B dx:ag)(_:vs=[.ref B])(_:H B=some (.ins C dx []))(_:∀t H',H t=none->U6 C H' B dx t []->(∀b o,H b=some o->b≠B->H' b=some o)->Q .non H')
end Pg
namespace K12
open PySem PySem.NumText L2 Pg
seal PE PA PT PW PS y8 PG j5 PI jQ PO PK
section
variable {K:BFr}{mg:af->Option ae}
theorem Cz (t:ag):j7 "told" (.ref t) []=[((("told":af)),V.ref t)]:=rfl
theorem pU (F:qU K "__init__" "RuleBook.__init__" (zX (top 73) 0) f fd)(KC:Yz K C)(nT:yD K C "told"):zL P w K mg base zY 1 f fd ["self"] (Ql C):=by
 refine F.ok (N:=["self"]) ?_ ?_ ?_;walk_at"t"
 ·obtain⟨L,dx,rfl,_⟩:=h;rfl
 ·obtain⟨L,dx,rfl,hL,q⟩:=h;refine⟨_,zh (yP (pv 0) ZJ U),?_⟩;refineλt H1 s1 n1 e1=>⟨_,U,L,C,dx,[],U,s1 _ _ hL,KC,nT,∅,?_⟩;rw[Cz];have tL:t≠L:=(zC hL n1).symm;refine q t _ n1 ⟨zi,?_,Df,(λe he=>nomatch he),(λe he=>nomatch he)⟩ λb o hb bL=>?_
  ·rw[zm tL];exact e1
  ·rw[zm bL];exact s1 _ _ hb
theorem MM {d e k:Nat}(h:d<=e):∀vs H Q E,jv d k Cs vs H Q E->jv e k Cs vs H Q E:=by
 rintro vs H Q E ⟨v,r,rfl,h1,h2,h3,h4⟩;exact⟨v,r,U,h1,h2,h3.le h,h4⟩
theorem Gs {d:Nat}(R0:yu P w K mg base CX 1 (Cs 0) "row" ["self"] (vq 0 Cs))(R1:yu P w K mg base CX 1 (Cs 1) "row" ["self"] (vq 1 Cs))(R2:yu P w K mg base CX 1 (Cs 2) "row" ["self"] (vq 2 Cs))(R3:yu P w K mg base CX 1 (Cs 3) "row" ["self"] (vq 3 Cs))(R4:yu P w K mg base CX 1 (Cs 4) "row" ["self"] (jv 3 4 Cs))(hd:d<=3)(hj:1<=j)(R5:yu P w K mg base CX j (Cs 5) "row" ["self"] (jv d 5 Cs)):
  ∀k,k<6->yu P w K mg base CX j (Cs k) "row" ["self"] (jv d k Cs) :=
 U4 ((R0.imp (V6 ∅)).mono hj) ((R1.imp (V6 ∅)).mono hj) ((R2.imp (V6 ∅)).mono hj) ((R3.imp (V6 ∅)).mono hj) ((R4.imp (MM hd)).mono hj) R5
theorem Uv {d:Nat}(hd:d<=3)(F:qU K "row" "OnTop.row" (zX (top 59) 2) f fd)(G:vh mg)(RX:JV K (Cs 5))(MR:∀k,k<6->yu P w K mg base zY j (Cs k) "row" ["self"] (jv d k Cs)):zL P w K mg base zY (j+1) f fd ["self"] (jv (d+1) 5 Cs):=by
 refine F.ok (N:=["self"]) ?_ ?_ ?_;walk_at"t"
 ·obtain⟨v,r,rfl,_⟩:=h;rfl
 ·obtain⟨v,r,rfl,e,ro,gd,q⟩:=h;obtain⟨d',n,p,x,r',ed,rfl,hn,hp,hw,g'⟩:=rR gd e;cases ed
  cases ro with
  |pln kk _=>exact K7 kk (by show ¬(5:Nat)<4;decide)
  |@ontop _ _ _ _ o dx u ho ri=>
   obtain⟨oi,dxi,fsi,rfl,hoi,_,noi⟩:=ri.obj g';have h1:=hn.ok.hi;have h2:=uR hp;have h3:=kW hw;have h4:=kC g'
   have jr:=(yZ (sep:=" ") (zs:=["ontop",n,toString p,x,"of",q8 r']) (m:=1700) (k:=6) (λz hz=>by
     simp only[CJ,CV,or_false]at hz;rcases hz with rfl |rfl |rfl |rfl |rfl |rfl
     ·decide+kernel
     ·lia
     ·lia
     ·lia
     ·decide+kernel
     ·lia) (CI _) ⋯ rfl).1
   refine⟨_,zh (zt (qH aq aC aD ya zj (za (zM (za zj (za (z7 (pv 0) U) (za (zZ qh U G.str qE (za (z7 (pv 0) U) zd)) (za (z7 (pv 0) U) (za zj (za (Z0 (p:=λk=>k<6) λk hk=>jZ (MR k hk) hr (CI _) zA (z7 (pv 0) U)) zd))))))) zd))),?_⟩;exact⟨U,_,U,o,_,dx,_,_,U,ho,RX.cls,RX.no "name" ∅,U,_,U,o,_,dx,_,_,U,ho,RX.cls,RX.no "parts" ∅,U,_,U,Zk hp,_,U,o,_,dx,_,_,U,ho,RX.cls,RX.no "way" ∅,U,r'.kd,TU r',_,U,o,_,dx,_,_,U,ho,RX.cls,RX.no "within" ∅,U,oi,dxi,fsi,U,hoi,noi "row" ∅,_,r',U,U,ri,g',λH1 s1=>⟨zS U,λl H2 s2 n2 e2=>⟨_,["ontop",n,toString p,x,"of",q8 r'],l,U,U,zN.of e2,jr,q H2 (s1.trans s2)⟩⟩⟩
theorem Mz (F:qU K "_law_mixed" "_law_mixed" (top 83) f fd):zL P w K mg base zY 1 f fd ["_law_cell","_law_k"] ju:=by
 have nd:(["_law_cell","_law_k","_law_number_here"]:List af).Nodup:=⋯
 walk_at"k"
 ·obtain⟨c,k,rfl,_⟩:=h;rfl
 ·obtain⟨c,k,rfl,q⟩:=h
  refine⟨_,(zg (zF (i:=2) nd U (ay U) (zu z5 (zu qo (zu qo (zu uk (pv 0) ze) (zu uk ze (pv 1))) ze) ze))
    (zh (zt (zu z5 (zu uk (zu z5 (zu uk (pv 2) (pv 2)) ze) (pv 2)) ze)))),?_⟩
  refine⟨_,U,_,_,U,U,.inr ⟨∅,∅⟩,_,U,_,_,U,U,.inl ⟨∅,∅⟩,_,_,U,U,_,_,U,U,_,_,U,U,(by show(0:Int)<1000003;decide),?_⟩;have b0:0<=(c*48271+7919*k+11)%1000003:=dk _ ∅;have b1:(c*48271+7919*k+11)%1000003<1000003:=dw _ ∅;dsimp only;generalize (c*48271+7919*k+11)%1000003=m at b0 b1;exact⟨_,U,_,U,_,_,U,U,.inr ⟨by lia,by lia⟩,_,_,U,U,(by show(0:Int)<1000003;decide),_,U,_,_,U,U,.inr ⟨by lia,by lia⟩,_,_,U,U,(by show(0:Int)<1000003;decide),q _ (dk _ ∅) (dw _ ∅)⟩
theorem Mm (F:qU K "_law_amount" "_law_amount" (top 84) f fd)(C1:qX P w K mg base zY 1 "_law_mixed" ["_law_cell","_law_k"] ju):zL P w K mg base zY 2 f fd ["_law_cell","_law_k"] Ui:=by
 have nd:(["_law_cell","_law_k","_law_number_here","_law_more","_law_wide"]:List af).Nodup:=⋯
 walk_at"k"
 ·obtain⟨c,k,rfl,_⟩:=h;rfl
 ·obtain⟨c,k,rfl,q⟩:=h
  refine⟨_,(zg (zF (i:=2) nd U (ay U) (zq C1 hr ∅ zA (za (pv 0) (za (pv 1) zd))))
    (zg (zF (i:=3) nd U (ay U) (zu qZ (pv 2) ze))
    (zg (zF (i:=4) nd U (ay U) (zu qo (zu uk (pv 2) ze) (zq C1 hr ∅ zA (za (pv 0) (za (zu qo (pv 1) ze) zd)))))
    (zh (zt (zE zy (zM (za ze (za (zu z5 (pv 3) ze) (za (zu z5 (pv 3) ze) (za (zu uk (zu z5 (pv 3) ze) ze) (za (zu uk (pv 3) ze) (za (zu z5 (pv 4) (zu qo (zu QX ze ze) ze)) (za (zu QX ze ze) zd)))))))) (zu z5 (pv 2) ze))))))),?_⟩
  refine⟨_,U,_,U,c,k,U,λm m0 m1=>⟨_,U,_,_,U,U,⟨∅,∅⟩,_,U,_,_,U,U,.inr ⟨∅,∅⟩,_,U,_,U,_,_,U,U,c,_,U,λn n0 n1=>⟨_,_,U,U,?_⟩⟩⟩;have d0:0<=m/7:=Int.ediv_nonneg m0 ∅;have d1:m/7<=142858:=by lia
  dsimp only;generalize m/7=e at d0 d1;have e0:0<=e%19:=dk _ ∅;have e1:e%19<19:=dw _ ∅;have p12:(10:Int) ^ (12:Int).toNat=1000000000000:=∅
  refine⟨_,U,_,_,U,U,(by show(0:Int)<30;decide),_,U,_,_,U,U,(by show(0:Int)<40000;decide),_,U,_,_,U,U,(by show(0:Int)<19;decide),_,_,U,U,.inr ⟨∅,∅⟩,_,U,_,_,U,U,.inr ⟨∅,∅⟩,_,U,_,_,U,U,⟨∅,∅,∅⟩,_,_,U,U,_,_,U,U,?_,_,_,U,U,⟨∅,∅,∅⟩,zS U,λl H1 s1 n1' e1'=>?_⟩
  ·show(0:Int)<10 ^ (12:Int).toNat+1;rw[p12];decide
  have w0:0<=(m*1000003+n)%(10 ^ (12:Int).toNat+1):=dk _ (by rw[p12];decide)
  have w1:(m*1000003+n)%(10 ^ (12:Int).toNat+1)<1000000000001:=by
   rw[p12];exact dw _ ∅
  obtain⟨v,ev,mv⟩:=j8 (xs:=[V.int 0,.int (e%30),.int (e%40000),.int (e%19*5000),.int (e*50),.int ((m*1000003+n)%(10 ^ (12:Int).toNat+1)),.int (10 ^ (12:Int).toNat)]) (i:=m%7) (dk _ ∅) (dw _ ∅)
  obtain⟨a,rfl,ha⟩:∃a,v=.int a/\Vd a:=by
   have f0:0<=e%30:=dk _ ∅;have f1:e%30<30:=dw _ ∅;have g0:0<=e%40000:=dk _ ∅;have g1:e%40000<40000:=dw _ ∅;generalize (m*1000003+n)%(10 ^ (12:Int).toNat+1)=x at w0 w1 mv;rw[p12]at mv;simp only[CJ,CV,or_false]at mv;rcases mv with rfl |rfl |rfl |rfl |rfl |rfl |rfl
   all_goals exact⟨_,U,by lia,by lia⟩
  exact⟨_,U,_,_,U,U,(by show(0:Int)<7;decide),l,_,_,_,U,U,zN.of e1',ev,q a H1 ha s1⟩
theorem MS (F:qU K "_law_parts" "_law_parts" (top 86) f fd)(C1:qX P w K mg base zY 1 "_law_mixed" ["_law_cell","_law_k"] ju):zL P w K mg base zY 2 f fd ["_law_cell","_law_k"] Qm:=by
 have nd:(["_law_cell","_law_k","_law_number_here"]:List af).Nodup:=⋯
 walk_at"k"
 ·obtain⟨c,k,rfl,_⟩:=h;rfl
 ·obtain⟨c,k,rfl,q⟩:=h
  refine⟨_,(zg (zF (i:=2) nd U (ay U) (zq C1 hr ∅ zA (za (pv 0) (za (pv 1) zd))))
    (zh (zt (zE zy (zM (za ze (za ze (za ze (za ze (za ze (za ze (za ze (za ze (za (zu z5 (zu qZ (pv 2) ze) ze) (za (zu z5 (zu qZ (pv 2) ze) ze) zd))))))))))) (zu z5 (pv 2) ze))))),?_⟩
  refine⟨_,U,_,U,c,k,U,λm m0 m1=>⟨_,U,_,_,U,U,⟨∅,∅⟩,_,_,U,U,(by show(0:Int)<20001;decide),_,U,_,_,U,U,⟨∅,∅⟩,_,_,U,U,(by show(0:Int)<300;decide),zS U,λl H1 s1 n1 e1=>?_⟩⟩;obtain⟨v,ev,mv⟩:=j8 (xs:=[V.int 0,.int 1,.int 5000,.int 2500,.int 10000,.int 20000,.int 19999,.int 625,.int (m/10%20001),.int (m/10%300)]) (i:=m%10) (dk _ ∅) (dw _ ∅)
  obtain⟨a,rfl,ha⟩:∃a,v=.int a/\YM a:=by
   simp only[CJ,CV,or_false]at mv;have f0:0<=m/10%20001:=dk _ ∅;have f1:m/10%20001<20001:=dw _ ∅;have g0:0<=m/10%300:=dk _ ∅;have g1:m/10%300<300:=dw _ ∅;rcases mv with rfl |rfl |rfl |rfl |rfl |rfl |rfl |rfl |rfl |rfl
   all_goals exact⟨_,U,by lia,by lia⟩
  exact⟨_,U,_,_,U,U,(by show(0:Int)<10;decide),l,_,_,_,U,U,zN.of e1,ev,q a H1 ha s1⟩
theorem MA (F:qU K "_law_way" "_law_way" (top 87) f fd)(C1:qX P w K mg base zY 1 "_law_mixed" ["_law_cell","_law_k"] ju):zL P w K mg base zY 2 f fd ["_law_cell","_law_k"] YS:=by
 refine F.ok (N:=["_law_cell","_law_k"]) ?_ ?_ ?_;walk_at"t"
 ·obtain⟨c,k,rfl,_⟩:=h;rfl
 ·obtain⟨c,k,rfl,q⟩:=h;refine⟨_,(zh (zt (zE zy (zM (za zj (za zj (za zj (za zj zd))))) (zu z5 (zu qZ (zq C1 hr ∅ zA (za (pv 0) (za (pv 1) zd))) ze) ze)))),?_⟩;refine⟨zS U,λl H1 s1 n1 e1=>⟨_,U,_,U,c,k,U,λm m0 m1=>?_⟩⟩;obtain⟨x,ev,hw⟩:=tY (i:=m/5%4) (dk _ ∅) (dw _ ∅);exact⟨_,_,U,U,⟨∅,∅⟩,_,_,U,U,(by show(0:Int)<4;decide),l,_,_,_,U,U,zN.of e1,ev,q x H1 hw s1⟩
theorem NO (F:qU K "_law_names" "_law_names" (top 85) f fd)(G:vh mg)(C1:qX P w K mg base zY 1 "_law_mixed" ["_law_cell","_law_k"] ju):zL P w K mg base zY 2 f fd ["_law_cell","_law_many"] Ua:=by
 have nd:(["_law_cell","_law_many","_law_letters","_law_some","_law_number_here","_law_frame","_law_at","_law_size","_law_signs","_law_words"]:List af).Nodup:=⋯
 have nc6:(["_law_j","_law_some","_law_cell"]:List af).Nodup:=⋯
 have nc4:(["_law_k","_law_letters","_law_number_here"]:List af).Nodup:=⋯
 have nc3:(["_law_sign","_law_frame","_law_at","_law_size"]:List af).Nodup:=⋯
 have nc2:(["_law_k","_law_frame"]:List af).Nodup:=⋯
 have nc1:(["_law_k","_law_words","_law_number_here"]:List af).Nodup:=⋯
 walk_at"k"
 ·obtain⟨c,n,rfl,_⟩:=h;rfl
 ·obtain⟨c,n,rfl,n8,q⟩:=h
  refine' ⟨_,(zg (zF (i:=2) nd U (i_ U) zj)
    (zg (zF (i:=3) nd U (i_ U) zj)
    (zg (zF (i:=4) nd U (i_ U) (zq C1 hr ∅ zA (za (pv 0) (za ze zd))))
    (zg (zF (i:=5) nd U (i_ U) (qH aq aC aD ya zj (za ?comp_6 zd)))
    (zg (zF (i:=6) nd U (i_ U) (zu z5 (zu qZ (pv 4) ze) ze))
    (zg (zF (i:=7) nd U (i_ U) (zu qo (pv 6) (zu z5 (zu qZ (pv 4) ze) (zu LY ze (pv 6)))))
    (zg (zK (zx qw (zu z5 (pv 4) ze) ze (zD _)) (zg ?comp_4
    (zh (zt ?comp_3))) zB)
    (zg (zK (zx qw (zu z5 (pv 4) ze) ze (zD _)) (zh (zt ?comp_2)) zB)
    (zg (zF (i:=9) nd U (i_ U) (zM (za zj (za zj (za zj (za zj (za zj (za zj (za zj (za zj (za zj (za zj zd))))))))))))
    (zh (zt ?comp_1))))))))))),?main⟩
  case comp_6=>
   refine' qk (cl:=[("_law_some",s.heap.objs.size+3),("_law_cell",s.heap.objs.size+1)]) (src:=[none,some 3,some 0]) (wi:=VS (qN (tC (.int 7)) y6)) (g:=qc 0) (tt:=qL) (te:=vp MH (zV 1) (vp (rI (λ_ j=>0<j) λi j=>.int (i%j)) (λσ H Q=>qN (zV 2) (qN (vp (WJ λi j=>.int (i+j)) (tC (.int 120)) (zV 0)) y6) σ H λvs H1=>ju vs H1 Q E0) (tC (.int 21))))
    (cO nc6 ⟨U,U,⋯,⋯,um (Ov U (JO U)),qF (by rfl),zR (yb ⟨_,U,U,U,U⟩ (yb ⟨_,U,U,U,U⟩ qb)),U⟩) rfl (jH U G.range (za ze zd)) ?hb
   case hb=>
    intro fp C' s' H';exact⟨zO (i:=0) nc6 U (ay U),qt,zE xG (pv 1) (zu z5 (zq C1 hr ∅ zA (za (pv 2) (za (zu qo ze (pv 0)) zd))) ze)⟩
  case comp_4=>
   refine' Zb (i:=8) (cl:=[("_law_number_here",s.heap.objs.size+4),("_law_letters",s.heap.objs.size+2)]) (src:=[none,some 2,some 4]) (wi:=VS (qN (zV 1) y6)) (g:=qc 0) (tt:=qL) (te:=vp MH (zV 1) (vp (rI (λ_ j=>0<j) λi j=>.int (i%j)) (vp (WJ λi j=>.int (i+j)) (vp (rI TF λi j=>.int (i/j)) (zV 2) (tC (.int 200))) (vp (rI Nu λi j=>.int (i*j)) (tC (.int 3)) (zV 0))) (tC (.int 26)))) nd rfl rfl
    (cO nc4 ⟨U,U,⋯,⋯,um (Ov U (JO U)),qF (by rfl),zR (yb ⟨_,U,U,U,U⟩ (yb ⟨_,U,U,U,U⟩ qb)),U⟩) rfl (jH U G.range (za (pv 1) zd)) ?hb
   case hb=>
    intro fp C' s' H';exact⟨zO (i:=0) nc4 U (ay U),qt,zE xG (pv 1) (zu z5 (zu qo (zu qZ (pv 2) ze) (zu uk ze (pv 0))) ze)⟩
  case comp_3=>
   refine' qk (cl:=[("_law_size",s.heap.objs.size+7),("_law_frame",s.heap.objs.size+5),("_law_at",s.heap.objs.size+6)]) (src:=[none,some 5,some 6,some 7]) (wi:=Zl K (zV 8)) (g:=qc 0) (tt:=qL) (te:=vp kK (vp kK (TR lQ (zV 1) ZI (JQ (zV 2))) (zV 0)) (TR lQ (zV 1) (JQ (zV 2)) (JQ (zV 3))))
    (cO nc3 ⟨U,U,⋯,⋯,um (Ov U (Ov U (JO U))),qF (by rfl),zR (yb ⟨_,U,U,U,U⟩ (yb ⟨_,U,U,U,U⟩ (yb ⟨_,U,U,U,U⟩ qb))),U⟩) rfl (ye (pv 8)) ?hb
   case hb=>
    intro fp C' s' H';exact⟨zO (i:=0) nc3 U (ay U),qt,zu zT (zu zT (z8 vf (pv 1) qA (qm (pv 2))) (pv 0)) (z8 vf (pv 1) (qm (pv 2)) (qm (pv 3)))⟩
  case comp_2=>
   refine' qk (cl:=[("_law_frame",s.heap.objs.size+5)]) (src:=[none,some 5]) (wi:=VS (qN (zV 1) y6)) (g:=qc 0) (tt:=qL) (te:=TR lQ (vp kK (tC (.str "q")) (zV 1)) ZI (JQ (vp (WJ λi j=>.int (i+j)) (tC (.int 1)) (zV 0))))
    (cO nc2 ⟨U,U,⋯,⋯,um (JO U),qF (by rfl),zR (yb ⟨_,U,U,U,U⟩ qb),U⟩) rfl (jH U G.range (za (pv 1) zd)) ?hb
   case hb=>
    intro fp C' s' H';exact⟨zO (i:=0) nc2 U (ay U),qt,z8 vf (zu zT zj (pv 1)) qA (qm (zu qo ze (pv 0)))⟩
  case comp_1=>
   refine' qk (cl:=[("_law_words",s.heap.objs.size+8),("_law_number_here",s.heap.objs.size+4)]) (src:=[none,some 9,some 4]) (wi:=VS (qN (zV 1) y6)) (g:=qc 0) (tt:=qL) (te:=vp (Np K) (zV 1) (vp (rI (λ_ j=>0<j) λi j=>.int (i%j)) (vp (WJ λi j=>.int (i+j)) (vp (rI TF λi j=>.int (i/j)) (zV 2) (tC (.int 3))) (zV 0)) (tC (.int 10))))
    (cO nc1 ⟨U,U,⋯,⋯,um (Ov U (JO U)),qF (by rfl),zR (yb ⟨_,U,U,U,U⟩ (yb ⟨_,U,U,U,U⟩ qb)),U⟩) rfl (jH U G.range (za (pv 1) zd)) ?hb
   case hb=>
    intro fp C' s' H';exact⟨zO (i:=0) nc1 U (ay U),qt,zE zy (pv 1) (zu z5 (zu qo (zu qZ (pv 2) ze) (pv 0)) ze)⟩
  walk_at"d0"
  have rl:∀m:Nat,((aY m).map λk=>V.int (0+((k:Nat):Int))).length=(aY m).length:=λm=>CH _;refine⟨_,U,c,_,U,λu u0 u1=>?_⟩;refine⟨U,7,U,∅,∅,λD hD=>?_⟩;refine kL (kx (n:=7)) (rl 7) hD (by rw[dD,ai];decide) (λv _=>∃d,v=.str ⟨#[d]⟩/\Yu d=true) (λi x v hx hv H1 R s1 r=>?_) (λzs H1 s1 zl zr e1=>?_)
  ·rw[CO]at hv;obtain⟨k,hk,rfl⟩:=C8.mp hv;refine⟨_,U,_,U,_,U,_,_,U,U,c,_,U,λm m0 m1=>?_⟩;obtain⟨d,d1,d2⟩:=TZ (i:=m%21) (dk _ ∅) (dw _ ∅);exact⟨_,_,U,U,(by show(0:Int)<21;decide),_,_,d,U,U,ui (m:=21) ⋯ U,d1,r _ _ ⟨d,U,d2⟩ (zk.refl _)⟩
  obtain⟨fs,rfl,fa⟩:=lR (Mb zr)
  have fl:fs.length=7:=by
   rw[CH,CH,dD]at zl;exact zl
  have jo:=(yZ (sep:="") (zs:=fs.map λc=>(⟨#[c]⟩:af)) (m:=1) (k:=7) (λz hz=>by obtain⟨_,_,rfl⟩:=CK.mp hz;exact CI _) (by rw[CH,fl];exact CI _) ⋯ U).1;refine⟨_,_,D,U,U,zN.of e1,jo,?_⟩;have zc:=Xm fs;generalize aG ("":af) (fs.map λc=>(⟨#[c]⟩:af))=z at zc;clear jo zl zr e1 hD;have zl:z.length=7:=by rw[zI,zc,fl]
  have a0:0<=u/3%8:=dk _ ∅;have a1:u/3%8<8:=dw _ ∅;refine⟨_,U,_,_,U,U,⟨∅,∅⟩,_,_,U,U,(by show(0:Int)<8;decide),?_⟩;dsimp only;obtain⟨at',hat⟩:=Dw a0;rw[hat]at a0 a1 ⊢;have b0:0<=u/24%(8-(at':Int)):=dk _ (by lia);have b1:u/24%(8-(at':Int))<8-(at':Int):=dw _ (by lia);refine⟨_,U,_,U,_,_,U,U,⟨∅,∅⟩,_,U,_,_,U,U,_,_,U,U,(by show(0:Int)<8-(at':Int);lia),_,_,U,U,?_⟩;dsimp only;obtain⟨sz,hsz⟩:∃sz:Nat,(at':Int)+u/24%(8-(at':Int))=sz:=⟨(at':Int).toNat+(u/24%(8-(at':Int))).toNat,by lia⟩;have sz1:at'<=sz:=by lia
  have sz2:sz<=7:=by lia
  rw[hsz];clear hsz b0 b1 hat a0;refine⟨_,U,_,_,U,U,(by show(0:Int)<3;decide),U,_,U,qg (λ_=>?_) (λ_=>?_)⟩
  ·refine⟨_,U,_,U,by lia,by lia,λD hD=>?_⟩;rw[dP];refine kL (kx (n:=n)) (rl n) hD (by rw[dD,ai];lia) (λv k=>v=.str ⟨#[97+((u/200+3*(k:Nat))%26).toNat]⟩) (λi x v hx hv H2 R s2 r=>?_) (λzs H2 s2 zsl zr e2=>?_)
   ·rw[CO,hx]at hv;cases hv;have d1:=gu (i:=(u/200+3*(0+(x:Int)))%26) (dk _ ∅) (dw _ ∅);exact⟨_,U,_,U,_,_,U,U,⟨∅,∅⟩,_,U,_,_,U,U,.inl ⟨∅,∅⟩,_,_,U,U,_,_,U,U,(by show(0:Int)<26;decide),_,_,_,U,U,xf,d1,r _ _ (by rw[eO]) (zk.refl _)⟩
   rw[dD]at zsl;refine⟨_,U,D,U,⟨_,zN.of e2⟩,λD3 hD3=>?_⟩;refine kL (xs:=aY n) (jc (zN.of e2)) (by rw[zsl,dD]) hD3 (by rw[dD,ai];lia) (λv k=>∃y,v=.str y/\yx y/\y.cps.toList[at']?=some (97+((u/200+3*(k:Nat))%26).toNat)) (λi x v hx hv H3 R s3 r=>?_) (λws H3 s3 wl wr e3=>?_)
   ·obtain⟨x',hx',rfl⟩:=zr i v hv;rw[hx]at hx'
    cases hx'
    obtain⟨d,hde⟩:∃d,d=97+((u/200+3*(x:Nat))%26).toNat:=⟨_,U⟩
    have hd:Qr d=true:=by
     have h0:0<=(u/200+3*(x:Nat))%26:=dk _ ∅;have h1:(u/200+3*(x:Nat))%26<26:=dw _ ∅;unfold Qr;rw[CM];exact⟨i' (by lia),i' (by lia)⟩
    rw[<- hde]at r ⊢;have zf:z.length<=au:=ui (m:=7) (by lia) rfl;have sl:∀lo hi,(fC z lo hi).length<=7:=λlo hi=>CW (AY z lo hi) (by lia);have o1:(⟨#[d]⟩:af).length<=1:=CI _;refine⟨_,U,_,U,_,U,_,U,zf,_,U,_,_,U,U,br (sl _ _) o1 U,_,U,_,U,_,U,_,U,_,U,_,U,zf,_,_,U,U,br (TH (sl _ _) o1) (sl _ _) U,r _ _ ⟨_,U,OR fa fl hd sz1 sz2 ?_,?_⟩ (zk.refl _)⟩
    ·rw[qW,qW,ZX,NC _ _ _ (by rw[zc,fl];exact sz2) sz1,zc]
    ·rw[qW,qW,ZX,zc];have tl:(fs.take at').length=at':=by rw[dH];lia
     rw[dU,dZ (by rw[tl];exact CI _),tl,DN];rfl
   obtain⟨nms,rfl,hn,ht⟩:=JH wr;rw[CH,dD]at wl;refine q nms D3 H3 wl hn (YW ht λi j z hi hj h1 h2=>?_) (s1.trans (s2.trans s3)) (s1.free (s2.free hD3)) e3;rw[wl]at hi hj;rw[h1]at h2;have h2:=ao h2;have a0:0<=(u/200+3*(i:Nat))%26:=dk _ ∅;have a1:0<=(u/200+3*(j:Nat))%26:=dk _ ∅;omega
  refine⟨_,U,_,_,U,U,(by show(0:Int)<3;decide),U,_,U,qg (λ_=>?_) (λ_=>?_)⟩
  ·refine⟨_,U,_,U,by lia,by lia,λD hD=>?_⟩;rw[dP];refine kL (kx (n:=n)) (rl n) hD (by rw[dD,ai];lia) (λv k=>∃y,v=.str y/\yx y/\y.cps.toList.length=min (k+1) 8) (λi k v hx hv H2 R s2 r=>?_) (λzs H2 s2 zsl zr e2=>?_)
   ·rw[CO,hx]at hv;cases hv;have q1:("q":af).length=1:=⋯
    refine⟨_,U,_,_,U,U,ui (m:=8) (by rw[q1,zl];decide) U,_,U,_,_,U,U,_,U,_,U,ui (m:=8) (by rw[yn,q1,zl];decide) U,r _ _ ⟨_,U,Nm (k:=k) fa fl ?_,?_⟩ (zk.refl _)⟩
    ·rw[show(1:Int)+(0+(k:Int))=((k+1:Nat):Int) by lia,ZX,qW,zc,show("q":af).cps.toList=[113] by decide+kernel];rfl
    ·rw[show(1:Int)+(0+(k:Int))=((k+1:Nat):Int) by lia,ZX,qW,zc,show("q":af).cps.toList=[113] by decide+kernel,dH];show min (k+1) (fs.length+1)=_;rw[fl]
   obtain⟨nms,rfl,hn,ht⟩:=JH zr;rw[CH,dD]at zsl;refine q nms D H2 zsl hn (YW ht λi j z hi hj h1 h2=>?_) (s1.trans s2) (s1.free hD) e2;lia
  refine⟨zS U,λlw H2 s2 n2 e2=>?_⟩;refine⟨_,U,_,U,by lia,by lia,λD hD=>?_⟩;rw[dP];refine kL (kx (n:=n)) (rl n) hD (by rw[dD,ai];lia) (λv k=>∃y,v=.str y/\yx y/\okNames[((u/3+(k:Nat))%10).toNat]?=some y) (λi k v hx hv H3 R s3 r=>?_) (λzs H3 s3 zsl zr e3=>?_)
  ·rw[CO,hx]at hv;cases hv;have i0:0<=(u/3+(0+(k:Int)))%10:=dk _ ∅;have i1:(u/3+(0+(k:Int)))%10<10:=dw _ ∅;obtain⟨y,hy⟩:∃y,okNames[((u/3+(0+(k:Int)))%10).toNat]?=some y:=⟨_,CZ (show _<10 by lia)⟩;have ev:QA (okNames.map V.str) ((u/3+(0+(k:Int)))%10)=some (.str y):=xD i0 (by rw[CO,hy];rfl);have hm:=dG hy;exact⟨_,U,_,U,_,_,U,U,⟨∅,∅⟩,_,U,_,_,U,U,_,_,U,U,(by show(0:Int)<10;decide),lw,_,_,_,U,U,zN.of (s3 _ _ e2),ev,r _ _ ⟨y,U,xZ y hm,by rw[eO]at hy;exact hy⟩ (zk.refl _)⟩
  obtain⟨nms,rfl,hn,ht⟩:=JH zr;rw[CH,dD]at zsl;refine q nms D H3 zsl hn (YW ht λi j z hi hj h1 h2=>?_) (s1.trans (s2.trans s3)) (s1.free (s2.free hD)) e3;rw[zsl]at hi hj;have e:=RZ h1 h2;have a0:0<=(u/3+(i:Nat))%10:=dk _ ∅;have a1:0<=(u/3+(j:Nat))%10:=dk _ ∅;lia
theorem Nz (F:qU K "_law_pairs" "_law_pairs" (top 88) f fd)(G:vh mg)(C1:qX P w K mg base zY 1 "_law_mixed" ["_law_cell","_law_k"] ju)(C2:qX P w K mg base zY 2 "_law_parts" ["_law_cell","_law_k"] Qm):zL P w K mg base zY 3 f fd ["_law_cell"] UN:=by
 have nd:(["_law_cell","_law_number_here","_law_pairs_here","_law_k","_law_more","_law_step"]:List af).Nodup:=⋯
 walk_at"k"
 ·obtain⟨c,rfl,_⟩:=h;rfl
 ·obtain⟨c,rfl,q⟩:=h
  refine⟨_,(zg (zF (i:=1) nd U (ay U) (zq C1 hr ∅ zA (za (pv 0) (za ze zd))))
    (zg (zF (i:=2) nd U (ay U) (zM (za (yM (za ze (za (zq C2 hr ∅ zA (za (pv 0) (za ze zd))) zd))) zd)))
    (zg (ue fS U (jH U G.range (za (zE zy (zM (za ze (za ze (za ze (za ze (za ze (za (zu z5 (zu qZ (pv 1) ze) ze) zd))))))) (zu z5 (pv 1) ze)) zd)) (zO (i:=3) nd U (ay U)) (zg (zF (i:=4) nd U (ay U) (zq C1 hr ∅ zA (za (pv 0) (za (zu qo ze (pv 3)) zd))))
    (zg (zF (i:=5) nd U (ay U) (zE zy (zM (za ze (za (zu qo ze (zu z5 (zu qZ (pv 4) ze) ze)) (za (zu uk (pv 4) ze) (za (zu qo (zu uk (zu z5 (zu qZ (pv 4) ze) ze) ze) ze) (za (zu qo ze (zu uk (zu qZ (pv 4) ze) ze)) zd)))))) (zu z5 (pv 4) ze)))
    (zh (zK (zx Jt (zu qo (zE qT (zE zy (pv 2) (GO U2 ze)) ze) (pv 5)) (zu QX ze ze) (zD _)) (zh (z6 (qH aS e_ fc jJ (pv 2) (za (yM (za (zu qo (zE qT (zE zy (pv 2) (GO U2 ze)) ze) (pv 5)) (za (zq C2 hr ∅ zA (za (pv 0) (za (zu qo ze (pv 3)) zd))) zd))) zd)))) zB)))))
    (zh (zt (zZ jB U G.tuple yX (za (pv 2) zd))))))),?_⟩
  refine⟨_,U,c,_,U,λm m0 m1=>⟨_,U,c,_,U,λp H1 hp s1=>⟨zS U,λt H2 s2 n2 e2=>⟨zS U,λl H3 s3 n3 e3=>?_⟩⟩⟩⟩;have T3:qd H3 [V.ref t] ([((0:Int),p)].map cB):=qd.snoc qd.nil (s3 _ _ e2);have S3:=s1.trans (s2.trans s3);have l0:H l=none:=kb (s1.trans s2) n3;refine⟨_,U,_,_,U,U,⟨∅,∅⟩,_,_,U,U,(by show(0:Int)<12;decide),zS U,λg H4 s4 n4 e4=>?_⟩;obtain⟨v,ev,mv⟩:=j8 (xs:=[V.int 0,.int 1,.int 2,.int 3,.int 11,.int (m/30%12)]) (i:=m%6) (dk _ ∅) (dw _ ∅)
  obtain⟨n,rfl,h0,h1⟩:∃n,v=.int n/\0<=n/\n<=11:=by
   simp only[CJ,CV,or_false]at mv;rcases mv with rfl |rfl |rfl |rfl |rfl |rfl
   all_goals exact⟨_,U,by lia,by lia⟩
  refine⟨_,U,_,_,U,U,(by show(0:Int)<6;decide),g,_,_,_,U,U,zN.of e4,ev,n,U,by lia,by lia,ZF (λi σ H'=>∃x3 x4 x5,∃ps ys,cI (σ=[some (.int c),some (.int m),some (.ref l),x3,x4,x5]) (zk H H') (H' l=some (.lst ys)/\qd H' ys (ps.map cB)) (OF ps i)) ⟨_,_,_,_,_,U,S3.trans s4,⟨s4 _ _ e3,T3.same s4⟩,.one hp⟩ ?_ ?_⟩
  ·rintro i σ H5 hi ⟨x3,x4,x5,ps,ys,rfl,s5,⟨e5,T5⟩,bi⟩ E5 k5;refine⟨_,U,_,U,_,_,U,U,c,_,U,λa a0 a1=>?_⟩;refine⟨_,U,_,_,U,U,⟨∅,∅⟩,_,_,U,U,(by show(0:Int)<20;decide),_,_,U,U,_,U,_,_,U,U,.inr ⟨∅,∅⟩,_,U,_,_,U,U,⟨∅,∅⟩,_,_,U,U,(by show(0:Int)<9;decide),_,_,U,U,.inr ⟨∅,∅⟩,_,_,U,U,_,U,_,_,U,U,⟨∅,∅⟩,_,_,U,U,.inr ⟨∅,∅⟩,_,_,U,U,zS U,λg6 H6 s6 n6 e6=>?_⟩;obtain⟨v6,ev6,mv6⟩:=My (a:=V.int 1) (b:=.int (2+a/5%20)) (c:=.int (a*30)) (d:=.int (a/5%9*5000+1)) (e:=.int (1+a/5*200000)) (i:=a%5) (dk _ ∅) (dw _ ∅)
   obtain⟨st,rfl,st1⟩:∃st,v6=.int st/\1<=st:=by
    rcases mv6 with⟨h,rfl⟩ |⟨h,rfl⟩ |⟨h,rfl⟩ |⟨h,rfl⟩ |⟨h,rfl⟩
    all_goals exact⟨_,U,by lia⟩
   obtain⟨qs,z,rfl⟩:=bi.last;have T6:=T5.same s6;have e6':=s6 _ _ e5;obtain⟨b,eb,hb⟩:=mL T6;refine⟨_,U,_,_,U,U,(by show(0:Int)<5;decide),g6,_,_,_,U,U,zN.of e6,ev6,?_⟩;have p12:(10:Int) ^ (12:Int).toNat=1000000000000:=∅
   refine⟨_,U,_,U,l,_,_,_,U,U,zN.of e6',eb,b,_,_,_,U,U,yE.of hb,U,_,U,_,_,U,U,_,_,U,U,⟨∅,∅,∅⟩,_,_,U,U,_,U,qg (λe=>?_) (λe=>?_)⟩
   ·have e:=G' e;rw[p12]at e;refine⟨_,U,.inl ⟨U,_,zN.of e6'⟩,_,U,_,U,l,_,_,_,U,U,zN.of e6',eb,b,_,_,_,U,U,yE.of hb,U,_,U,_,_,U,U,_,U,_,U,_,_,U,U,c,_,U,λp2 H7 hp2 s7=>⟨zS U,λt2 H8 s8 n8 e8=>?_⟩⟩;have e8l:=s8 _ _ (s7 _ _ e6');have fw:=bi.few;refine⟨l,_,_,U,U,e8l,?_,?_⟩
    ·rw[T5.len,CH,ai];have:i<n.toNat:=hi;lia
    ·refine k5 _ _ ⟨_,_,_,qs++[z]++[(z.1+st,p2)],_,U,λx o hx=>?_,⟨zi,?_⟩,bi.snoc st1 e hp2⟩
     ·rw[zm (zC hx l0)];exact s8 _ _ (s7 _ _ (s6 _ _ (s5 _ _ hx)))
     ·rw[CN];exact xv ((T6.same s7)) (s7 _ _ e6') s8 e8
   ·exact k5 _ _ ⟨_,_,_,_,_,U,s5.trans s6,⟨e6',T6⟩,bi.mono⟩
  ·rintro σ H5 ⟨x3,x4,x5,ps,ys,rfl,s5,⟨e5,T5⟩,bi⟩;refine⟨_,U,l,_,U,.inl ⟨zN.of e5,λu u0=>?_⟩⟩;have su:zk H5 (upd H5 u (.tup ys)):=zk.upd u0;exact q u ps _ (bi.done (by lia)) (s5.trans su) ⟨ys,zi,T5.same su⟩
theorem NT (F:qU K "_law_plain" "_law_plain" (top 89) f fd)(C1:qX P w K mg base zY 2 "_law_amount" ["_law_cell","_law_k"] Ui)(C2:qX P w K mg base zY 2 "_law_parts" ["_law_cell","_law_k"] Qm)(C3:qX P w K mg base zY 2 "_law_way" ["_law_cell","_law_k"] YS)(C4:qX P w K mg base zY 3 "_law_pairs" ["_law_cell"] UN):zL P w K mg base zY 4 f fd ["_law_cell","_law_name","_law_kind"] UX:=by
 refine F.ok (N:=["_law_cell","_law_name","_law_kind"]) ?_ ?_ ?_;walk_at"t"
 ·obtain⟨c,z,k,rfl,_⟩:=h;rfl
 ·obtain⟨c,z,k,rfl,hz,k0,k4,q⟩:=h
  refine⟨_,(zg (zK (zx qw (pv 2) ze (zD _)) (zh (zt (yM (za zj (za (pv 1) (za (zq C1 hr ∅ zA (za (pv 0) (za ze zd))) zd)))))) zB)
    (zg (zK (zx qw (pv 2) ze (zD _)) (zh (zt (yM (za zj (za (pv 1) (za (zq C2 hr ∅ zA (za (pv 0) (za ze zd))) (za (zq C3 hr ∅ zA (za (pv 0) (za ze zd))) zd))))))) zB)
    (zg (zK (zx qw (pv 2) ze (zD _)) (zh (zt (yM (za zj (za (pv 1) (za (zq C2 hr ∅ zA (za (pv 0) (za ze zd))) (za (zq C1 hr ∅ zA (za (pv 0) (za ze zd))) (za (zq C3 hr ∅ zA (za (pv 0) (za ze zd))) zd)))))))) zB)
    (zg (zK (zx qw (pv 2) ze (zD _)) (zh (zt (yM (za zj (za (pv 1) (za (zq C2 hr ∅ zA (za (pv 0) (za ze zd))) (za (zq C1 hr ∅ zA (za (pv 0) (za ze zd))) (za (zq C3 hr ∅ zA (za (pv 0) (za ze zd))) zd)))))))) zB)
    (zh (zt (yM (za zj (za (pv 1) (za (zq C4 hr ∅ zA (za (pv 0) zd)) (za (zq C3 hr ∅ zA (za (pv 0) (za ze zd))) zd))))))))))),?_⟩
  refine⟨_,U,U,_,U,qg (λe=>?_) (λe=>?_)⟩
  ·rw[UD]at e;exact⟨_,U,_,U,c,_,U,λa H1 ha s1=>⟨zS U,λt H2 s2 n2 e2=>q _ (.flat z a) H2 (.pln (.flat hz ha)) U e.symm (s1.trans s2) (.pln (C9 U) ⟨t,U,e2⟩)⟩⟩
  rw[UD]at e;refine⟨_,U,U,_,U,qg (λe1=>?_) (λe1=>?_)⟩
  ·rw[UD]at e1;exact⟨_,U,_,U,c,_,U,λp H1 hp s1=>⟨_,U,c,_,U,λw H2 hw s2=>⟨zS U,λt H3 s3 n3 e3=>q _ (.share z p w) H3 (.pln (.share hz hp hw)) U e1.symm (s1.trans (s2.trans s3)) (.pln (C9 U) ⟨t,U,e3⟩)⟩⟩⟩
  rw[UD]at e1;refine⟨_,U,U,_,U,qg (λe2=>?_) (λe2=>?_)⟩
  ·rw[UD]at e2;exact⟨_,U,_,U,c,_,U,λp H1 hp s1=>⟨_,U,c,_,U,λa H2 ha s2=>⟨_,U,c,_,U,λw H3 hw s3=>⟨zS U,λt H4 s4 n4 e4=>q _ (.capped z p a w) H4 (.pln (.capped hz hp ha hw)) U e2.symm (s1.trans (s2.trans (s3.trans s4))) (.pln (C9 U) ⟨t,U,e4⟩)⟩⟩⟩⟩
  rw[UD]at e2;refine⟨_,U,U,_,U,qg (λe3=>?_) (λe3=>?_)⟩
  ·rw[UD]at e3;exact⟨_,U,_,U,c,_,U,λp H1 hp s1=>⟨_,U,c,_,U,λa H2 ha s2=>⟨_,U,c,_,U,λw H3 hw s3=>⟨zS U,λt H4 s4 n4 e4=>q _ (.least z p a w) H4 (.pln (.least hz hp ha hw)) U e3.symm (s1.trans (s2.trans (s3.trans s4))) (.pln (C9 U) ⟨t,U,e4⟩)⟩⟩⟩⟩
  rw[UD]at e3;exact⟨_,U,_,U,c,U,λu ps H1 hok s1 bd=>⟨_,U,c,_,U,λw H2 hw s2=>⟨zS U,λt H3 s3 n3 e3'=>q _ (.bands z ps w) H3 (.bands hz hok hw) U (by show(4:Int)=k;lia) (s1.trans (s2.trans s3)) (.bands e3' ((bd.same s2).same s3))⟩⟩⟩
theorem mT (F:qU K "_law_rule" "_law_rule" (top 90) f fd)(G:vh mg)(C1:qX P w K mg base zY 1 "_law_mixed" ["_law_cell","_law_k"] ju)(C2:qX P w K mg base zY 4 "_law_plain" ["_law_cell","_law_name","_law_kind"] UX)(C3:qX P w K mg base zY 2 "_law_parts" ["_law_cell","_law_k"] Qm)(C4:qX P w K mg base zY 2 "_law_way" ["_law_cell","_law_k"] YS):zL P w K mg base zY 5 f fd ["_law_cell","_law_name"] ZH:=by
 have nd:(["_law_cell","_law_name","_law_number_here","_law_found","_law_k"]:List af).Nodup:=⋯
 walk_at"k"
 ·obtain⟨c,z,rfl,_⟩:=h;rfl
 ·obtain⟨c,z,rfl,hz,q⟩:=h
  refine⟨_,(zg (zF (i:=2) nd U (ay U) (zq C1 hr ∅ zA (za (pv 0) (za ze zd))))
    (zg (zF (i:=3) nd U (ay U) (zq C2 hr ∅ zA (za (pv 0) (za (pv 1) (za (zu z5 (pv 2) ze) zd)))))
    (zg (ue fS U (jH U G.range (za (zE zy (zM (za ze (za ze (za ze (za ze (za ze (za ze zd))))))) (zu z5 (zu qZ (pv 2) ze) ze)) zd)) (zO (i:=4) nd U (ay U)) (zh (zF (i:=3) nd U (ay U) (yM (za zj (za (pv 1) (za (zq C3 hr ∅ zA (za (pv 0) (za (zu qo ze (pv 4)) zd))) (za (zq C4 hr ∅ zA (za (pv 0) (za (zu qo ze (pv 4)) zd))) (za (pv 3) zd)))))))))
    (zh (zt (pv 3)))))),?_⟩
  refine⟨_,U,c,_,U,λm m0 m1=>⟨_,U,_,U,_,U,_,_,U,U,(by show(0:Int)<5;decide),c,z,_,U,hz,dk _ ∅,dw _ ∅,λv r H1 gd rn _ s1 rt=>⟨zS U,λg H2 s2 n2 e2=>?_⟩⟩⟩;obtain⟨x,ev,mv⟩:=j8 (xs:=[V.int 0,.int 0,.int 0,.int 1,.int 2,.int 3]) (i:=m/5%6) (dk _ ∅) (dw _ ∅)
  obtain⟨n,rfl,h1⟩:∃n:Nat,x=.int (n:Nat)/\n<=3:=by
   simp only[CJ,CV,or_false]at mv;rcases mv with rfl |rfl |rfl |rfl |rfl |rfl
   ·exact⟨0,U,∅⟩
   ·exact⟨0,U,∅⟩
   ·exact⟨0,U,∅⟩
   ·exact⟨1,U,∅⟩
   ·exact⟨2,U,∅⟩
   ·exact⟨3,U,∅⟩
  refine⟨_,U,_,_,U,U,⟨∅,∅⟩,_,_,U,U,(by show(0:Int)<6;decide),g,_,_,_,U,U,zN.of e2,ev,_,U,by lia,by lia,ZF (λi σ H'=>∃v r x4,cI (σ=[some (.int c),some (.str z),some (.int m),some v,x4]) (zk H H') (Gd i r/\r.name=z) (Yv H' r v)) ⟨v,r,_,U,s1.trans s2,⟨gd,rn⟩,rt.same s2⟩ ?_ ?_⟩
  ·rintro i σ H3 hi ⟨v,r,x4,rfl,s3,⟨gd,rn⟩,rt⟩ E3 k3;exact⟨_,U,_,U,_,U,_,_,U,U,c,_,U,λp H4 hp s4=>⟨_,U,_,U,_,_,U,U,c,_,U,λw H5 hw s5=>⟨_,U,zS U,λt H6 s6 n6 e6=>k3 _ _ ⟨_,.ontop z p w r,_,U,s3.trans (s4.trans (s5.trans s6)),⟨.ontop hz hp hw gd,U⟩,.ontop e6 (rt.same (s4.trans (s5.trans s6)))⟩⟩⟩⟩
  ·rintro σ H3 ⟨v,r,x4,rfl,s3,⟨gd,rn⟩,rt⟩;rw[dP]at gd;exact⟨_,U,q v r H3 (gd.le h1) rn s3 rt⟩
theorem Ly:zL P w K mg base zY j f fd ["_law_rule_here"] (Qi 0):=⟨λ_ _ _ _ h=>h.elim,λ_ _ _ _ _ _ _ _ _ _ _ _ _ h=>h.elim⟩
theorem YH {d k:Nat}(F:qU K "_law_row" "_law_row" (top 91) f fd)(G:vh mg)(hd:d<=10)(C:qX P w K mg base zY k "_law_row" ["_law_rule_here"] (Qi d)):zL P w K mg base zY (k+1) f fd ["_law_rule_here"] (Qi (d+1)):=by
 have nd:(["_law_rule_here","_law_told_here","_law_head"]:List af).Nodup:=⋯
 have nc:(["_law_part"]:List af).Nodup:=⋯
 have np:(["_law_pair"]:List af).Nodup:=⋯
 walk_at"k"
 ·obtain⟨v,r,rfl,_⟩:=h;rfl
 ·obtain⟨v,r,rfl,rt,gd,q⟩:=h
  refine' ⟨_,(zg (zK (zx qw (zE qT (pv 0) ze) zj (zD _)) (zg (zF (i:=1) nd U (ay U) (qH aq aC aD ya zj (za ?comp_4 zd)))
    (zh (zt (zu zT (zu zT (zu zT (zu zT (zu zT zj (zE qT (pv 0) ze)) zj) (pv 1)) zj) (zE qT (pv 0) ze))))) zB)
    (zg (zK (zx qw (zE qT (pv 0) ze) zj (zD _)) (zg (zF (i:=2) nd U (ay U) (qH aq aC aD ya zj (za (zM (za (zE qT (pv 0) ze) (za (zE qT (pv 0) ze) (za (zZ qh U G.str qE (za (zE qT (pv 0) ze) zd)) (za (zE qT (pv 0) ze) zd))))) zd)))
    (zh (zt (zu zT (zu zT (pv 2) zj) (zq C hr (CI _) zA (za (zE qT (pv 0) ze) zd)))))) zB)
    (zh (zt (qH aq aC aD ya zj (za ?comp_2 zd)))))),?main⟩
  case comp_4=>
   refine' qk (cl:=[]) (src:=[none]) (wi:=V7 K (vp (Zg K) (zV 0) (tC (.int 2)))) (g:=qc 0) (tt:=qL) (te:=vp kK (vp kK (tP gF (qN (vp (Zg K) (zV 0) (tC (.int 0))) y6)) (tC (.str ":"))) (tP gF (qN (vp (Zg K) (zV 0) (tC (.int 1))) y6)))
    (cO np ⟨U,U,⋯,⋯,(λx c z=>nomatch z),qF (by rfl),zR qb,U⟩) rfl (ke (zE qT (pv 0) ze)) ?hb
   case hb=>
    intro fp C' s' H';exact⟨zO (i:=0) np U (ay U),qt,zu zT (zu zT (zZ qh U G.str qE (za (zE qT (pv 0) ze) zd)) zj) (zZ qh U G.str qE (za (zE qT (pv 0) ze) zd))⟩
  case comp_2=>
   refine' qk (cl:=[]) (src:=[none]) (wi:=V7 K (zV 0)) (g:=qc 0) (tt:=qL) (te:=tP (λxs H Q=>jk xs H Q∨∃z,xs=[.str z]/\Q (.str z) H) (qN (zV 0) y6))
    (cO nc ⟨U,U,⋯,⋯,(λx c z=>nomatch z),qF (by rfl),zR qb,U⟩) rfl (ke (pv 0)) ?hb
   case hb=>
    intro fp C' s' H';exact⟨zO (i:=0) nc U (ay U),qt,zZ G7 U G.str qE (za (pv 0) zd)⟩
  walk_at"d0"
  cases gd with
  |pln pl=>
   rw[Jz pl]at q;obtain⟨z,l,el,zb,zo,ll⟩:=PH pl;have jo:=JT pl;have pk:=oR pl
   obtain⟨t,rfl,ht⟩:OE H v r:=by
    cases rt with
    |pln _ ra=>exact ra
    |bands=>cases pl
    |ontop=>cases pl
   have h0:QA (uf r) ((0:Nat):Int)=some (.str z):=qQ (by rw[el];rfl);refine⟨_,U,t,_,_,_,U,U,yE.of ht,h0,U,_,U,gH zb ⟨_,U,t,_,_,_,U,U,yE.of ht,h0,U,_,U,gH zo ⟨U,_,U,t,U,⟨_,yE.of ht⟩,λD hD=>js (vD (yE.of ht)) (gy (uf r)) hD (by rw[el,dz,ai];lia) (λx=>.str (Ve x)) (λx hx v H1 R s1 e1 k=>?_) (λH1 s1 e1=>?_)⟩⟩⟩
   ·subst e1;rcases pk v hx with⟨i,rfl,hi⟩ |⟨y,rfl⟩
    ·exact⟨_,U,.inl ⟨i,U,hi,k _ (zk.refl _)⟩⟩
    ·exact⟨_,U,.inr ⟨y,U,k _ (zk.refl _)⟩⟩
   ·exact⟨_,(uf r).map Ve,D,U,U,zN.of (by rw[CP];exact e1),jo,q H1 s1⟩
  |@bands _ n x ps hn ok hw=>
   cases rt with
   |pln kk _=>exact K7 kk (by show ¬(4:Nat)<4;decide)
   |@bands _ _ _ t u ht bd=>
    obtain⟨ys,hu,T⟩:=bd;have few:=ok.few;refine⟨_,U,t,_,_,_,U,U,yE.of ht,U,U,_,U,Lz ⟨U,_,U,t,_,_,_,U,U,yE.of ht,U,u,U,⟨_,yE.of hu⟩,λD hD=>js (vD (yE.of hu)) (vQ T) hD (by rw[ai];lia) (λp=>.str (yU p)) (λp hp v H1 R s1 e1 r=>?_) (λH1 s1 e1=>?_)⟩⟩
    ·obtain⟨a,rfl,ha⟩:=e1;have hb:=ok.ok p hp;have l1:=ZG hb.1;have l2:=uR hb.2;have l3:((toString p.1:af) ++ ":").length=(toString p.1:af).length+1:=aK ..;exact⟨_,U,a,_,_,_,U,U,yE.of ha,U,_,U,Yc hb.1,_,_,U,U,by rw[ai];show(toString p.1:af).length+1<=_;lia,_,U,a,_,_,_,U,U,yE.of ha,U,_,U,Zk hb.2,_,_,U,U,by rw[l3,ai];lia,r H1 (zk.refl _)⟩
    ·have jb:=wD ok;have ht1:=s1 _ _ ht;have h1:=hn.ok.hi;have h2:=jb.2;have h3:=kW hw;have w6:("bands ":af).length=6:=⋯
     have w1:(" ":af).length=1:=⋯
     have q:=q H1 s1;refine⟨_,ps.map yU,D,U,U,zN.of (by rw[e1,CP];rfl),jb.1,?_⟩;refine⟨_,U,t,_,_,_,U,U,yE.of ht1,U,_,_,U,U,by rw[w6,ai];lia,_,_,U,U,by rw[aK,w6,w1,ai];lia,_,U,_,_,U,U,by rw[aK,aK,w6,w1,ai];show _+(vx ps).length<=_;lia,_,_,U,U,by rw[aK,aK,aK,w6,w1,ai];show _+(vx ps).length+1<=_;lia,_,U,t,_,_,_,U,U,yE.of ht1,U,_,_,U,U,by rw[aK,aK,aK,aK,w6,w1,ai];show _+(vx ps).length+1+_<=_;lia,?_⟩;have e:=WC n (vx ps) x;unfold vx at e;rw[e];exact q
  |@ontop d n x p r' hn hp hw gd=>
   cases rt with
   |pln kk _=>exact K7 kk (by show ¬(5:Nat)<4;decide)
   |@ontop _ _ _ _ t y ht rti=>
    have h1:=hn.ok.hi;have h2:=uR hp;have h3:=kW hw;have h4:=kC gd
    have jh:=yZ (sep:=" ") (zs:=["ontop",n,toString p,x]) (m:=8) (k:=4) (λz hz=>by
     simp only[CJ,CV,or_false]at hz;rcases hz with rfl |rfl |rfl |rfl
     ·decide+kernel
     ·lia
     ·lia
     ·lia) (CI _) ⋯ rfl
    have h5:=jh.2;have w4:(" of ":af).length=4:=⋯
    refine⟨_,U,t,_,_,_,U,U,yE.of ht,U,U,_,U,gH BX ⟨_,U,t,_,_,_,U,U,yE.of ht,U,U,_,U,Lz ?_⟩⟩;refine⟨U,_,U,t,_,_,_,U,U,yE.of ht,U,_,U,t,_,_,_,U,U,yE.of ht,U,_,U,t,_,_,_,U,U,yE.of ht,U,_,U,Zk hp,_,U,t,_,_,_,U,U,yE.of ht,U,zS U,λl H1 s1 n1 e1=>⟨_,["ontop",n,toString p,x],l,U,U,zN.of e1,jh.1,?_⟩⟩;refine⟨_,U,_,_,U,U,by rw[w4,ai];lia,_,U,t,_,_,_,U,U,yE.of (s1 _ _ ht),U,_,r',U,rti.same s1,gd,λH2 s2=>⟨_,_,U,U,by rw[aK,w4,ai];lia,?_⟩⟩;rw[JE];exact q H2 (s1.trans s2)
theorem UT (F:qU K "year_text" "year_text" (top 39) f fd)(G:vh mg):zL P w K mg base zY 1 f fd ["year"] wo:=by
 refine F.ok (N:=["year"]) ?_ ?_ ?_;walk_at"t"
 ·obtain⟨z,rfl,_⟩:=h;rfl
 ·obtain⟨z,rfl,h0,h1,q⟩:=h;refine⟨_,zh (zt (qH aq PySem.F.slot_str_zfill PySem.F.type_str_zfill lA (zZ qh U G.str qE (za (pv 0) zd)) (za ze zd))),?_⟩;exact⟨_,U,z,U,uP h0 (by lia),U,_,_,U,U,⋯,q⟩
end
end K12
namespace Pg
open PySem L2
def yT (z:af):Bool:=ug z && !noNames.contains z
def pZ (K:BFr)(H:Hp)(v:V)(b:Bool):Prop:=(∃z,v=.str z/\z.length<=4000000/\b=yT z)∨(j4 K H v/\b=false)
def Vb (K:BFr)(H:Hp)(m:Int)(v:V)(b:Bool):Prop:=(∃z,v=.int z/\b=decide (0<=z/\z<=m))∨(YV K H v/\b=false)
def Oy (K:BFr)(H:Hp)(v:V)(b:Bool):Prop:=(∃z,v=.str z/\b=wayL.contains z)∨(j4 K H v/\b=false)
section
variable {K:BFr}{o:ag}{fs:List (af×V)}
theorem Vb.same (s:zk H H')(h:Vb K H m v b):Vb K H' m v b:=h.imp id λh=>⟨h.1.same s,h.2⟩
theorem TyB.fr {t:String}(ho:H o=some (.ins C dx fs))(f:∀b x,H b=some x->b≠o->H' b=some x)(h:vN K H v (.type t)):vN K H' v (.type t):=by
 cases h with
 |non=>exact .non
 |bl x=>exact .bl x
 |int i=>exact .int i
 |str x=>exact .str x
 |flt x=>exact .flt x
 |lst e=>exact .lst (f _ _ e (yy e ho (by intro z;cases z)))
 |frz e=>exact .frz (f _ _ e (yy e ho (by intro z;cases z)))
 |tup e=>exact .tup (f _ _ e (yy e ho (by intro z;cases z)))
 |dK e=>exact .dK (f _ _ e (yy e ho (by intro z;cases z)))
 |dT e=>exact .dT (f _ _ e (yy e ho (by intro z;cases z)))
theorem Vb.fr (ho:H o=some (.ins C dx fs))(f:∀b x,H b=some x->b≠o->H' b=some x)(h:Vb K H m v b):Vb K H' m v b:=by
 rcases h with h |⟨⟨r,hr,ty,ne⟩,e⟩
 ·exact .inl h
 ·exact .inr ⟨⟨r,hr,TyB.fr ho f ty,ne⟩,e⟩
theorem Oy.fr (ho:H o=some (.ins C dx fs))(f:∀b x,H b=some x->b≠o->H' b=some x)(h:Oy K H v b):Oy K H' v b:=by
 rcases h with h |⟨⟨r,hr,ty,ne⟩,e⟩
 ·exact .inl h
 ·exact .inr ⟨⟨r,hr,TyB.fr ho f ty,ne⟩,e⟩
end
inductive oU (K:BFr)(H:Hp):V->Option (Int×Int)->Prop where
 |pair {t:ag} {p:Int×Int}:H t=some (.tup (cB p))->Vd p.1->YM p.2->oU K H (.ref t) (some p)
 |other {v:V} {t:String}:vN K H v (.type t)->aE K (.type t) (.type "tuple")=some false->oU K H v none
 |size {t:ag} {xs:List V}:H t=some (.tup xs)->xs.length≠2->oU K H (.ref t) none
 |odd {t:ag} {x y:V} {b1 b2:Bool}:H t=some (.tup [x,y])->Vb K H 1000000000000 x b1->Vb K H 20000 y b2->(b1&&b2)=false->oU K H (.ref t) none
theorem oU.same {K:BFr}{p:Option (Int×Int)}(s:zk H H')(h:oU K H v p):oU K H' v p:=by
 cases h with
 |pair a b c=>exact .pair (s _ _ a) b c
 |other a b=>exact .other (a.same s) b
 |size a b=>exact .size (s _ _ a) b
 |odd a b c d=>exact .odd (s _ _ a) (b.same s) (c.same s) d
theorem oU.fr {K:BFr}{p:Option (Int×Int)}{o:ag}{fs:List (af×V)}(ho:H o=some (.ins C dx fs))(f:∀b x,H b=some x->b≠o->H' b=some x)(h:oU K H v p):oU K H' v p:=by
 have ft:∀b c,H b=some (.tup c)->H' b=some (.tup c):=λb c h=>f _ _ h (yy h ho (by intro z;cases z))
 cases h with
 |pair a b c=>exact .pair (ft _ _ a) b c
 |other a b=>exact .other (TyB.fr ho f a) b
 |size a b=>exact .size (ft _ _ a) b
 |odd a b c d=>exact .odd (ft _ _ a) (b.fr ho f) (c.fr ho f) d
def vP:List Int->Bool
 |a::b::l=>decide (a<b)&&vP (b::l)
 |_=>true
def JB (os:List (Option (Int×Int))):Bool:=decide (1<=os.length/\os.length<=12)&&(os.all fM&&(decide ((os.filterMap λo=>o.map (·.1)).head?=some 0)&&vP (os.filterMap λo=>o.map (·.1))))
inductive rN (K:BFr)(H:Hp):V->Bool->Prop where
 |other {v:V} {t:String}:vN K H v (.type t)->aE K (.type t) (.type "tuple")=some false->rN K H v false
 |rows {t:ag} {xs:List V} {os:List (Option (Int×Int))}:H t=some (.tup xs)->xs.length=os.length->xs.length<=4000000->(∀(j:Nat) x o,xs[j]?=some x->os[j]?=some o->oU K H x o)->rN K H (.ref t) (JB os)
theorem rN.fr {K:BFr}{o:ag}{fs:List (af×V)}(ho:H o=some (.ins C dx fs))(f:∀b x,H b=some x->b≠o->H' b=some x)(h:rN K H v b):rN K H' v b:=by
 cases h with
 |other a b=>exact .other (TyB.fr ho f a) b
 |rows a b c d=>exact .rows (f _ _ a (yy a ho (by intro z;cases z))) b c λj x o' h1 h2=>(d j x o' h1 h2).fr ho f
def cb (K:BFr)(H:Hp):Nat->List V->Prop
 |0,[v1,v2]=>∃b1 b2,pZ K H v1 b1/\Vb K H 1000000000000 v2 b2/\(b1&&b2)=false
 |1,[v1,v2,v3]=>∃b1 b2 b3,pZ K H v1 b1/\Vb K H 20000 v2 b2/\Oy K H v3 b3/\(b1&&(b2&&b3))=false
 |2,[v1,v2,v3,v4]=>∃b1 b2 b3 b4,pZ K H v1 b1/\Vb K H 20000 v2 b2/\Vb K H 1000000000000 v3 b3/\Oy K H v4 b4/\(b1&&((b2&&b4)&&b3))=false
 |3,[v1,v2,v3,v4]=>∃b1 b2 b3 b4,pZ K H v1 b1/\Vb K H 20000 v2 b2/\Vb K H 1000000000000 v3 b3/\Oy K H v4 b4/\(b1&&((b2&&b4)&&b3))=false
 |4,[v1,v2,v3]=>∃b1 b2 b3,pZ K H v1 b1/\rN K H v2 b2/\Oy K H v3 b3/\(b1&&(b2&&b3))=false
 |_,_=>False
inductive QP (K:BFr)(vs:List V)(H:Hp)(Q:VK)(_:XK):Prop|mk(v b:_)(_:vs=[v])(_:pZ K H v b)(_:∀H',zk H H'->Q (.bl b) H')
inductive kg (K:BFr)(m:Int)(vs:List V)(H:Hp)(Q:VK)(_:XK):Prop|mk(v b:_)(_:vs=[v])(_:Vb K H m v b)(_:Q (.bl b) H)
inductive YR (K:BFr)(vs:List V)(H:Hp)(Q:VK)(_:XK):Prop|mk(v b:_)(_:vs=[v])(_:Oy K H v b)(_:Q (.bl b) H)
inductive uM (K:BFr)(c:ag)(vs:List V)(H:Hp)(Q:VK)(E:XK):Prop|mk(v b:_)(_:vs=[v])(_:Vb K H 1000000000000 v b)(_:(b=true->Q .non H))(_:(b=false->E (.ref c) none H))
inductive vT (K:BFr)(c:ag)(vs:List V)(H:Hp)(Q:VK)(E:XK):Prop|mk(v u b1 b2:_)(_:vs=[v,u])(_:Vb K H 20000 v b1)(_:Oy K H u b2)(_:((b1&&b2)=true->Q .non H))(_:((b1&&b2)=false->E (.ref c) none H))
inductive jL (K:BFr)(c:ag)(vs:List V)(H:Hp)(Q:VK)(E:XK):Prop|mk(C o dx v b:_)(_:vs=[.ref o,v])(_:Yz K C)(_:yD K C "name")(_:H o=some (.ins C dx []))(_:pZ K H v b)(_:(b=true->∀H',(∀b x,H b=some x->b≠o->H' b=some x)->H' o=some (.ins C dx [("name",v)])->Q .non H'))(_:(b=false->∀H',zk H H'->E (.ref c) none H'))
inductive Z6 (K:BFr)(vs:List V)(H:Hp)(Q:VK)(_:XK):Prop|mk(v p:_)(_:vs=[v])(_:oU K H v p)(_:Q (.bl p.isSome) H)
inductive ZO (K:BFr)(vs:List V)(H:Hp)(Q:VK)(_:XK):Prop|mk(l:ag)(zs:List Int)(_:vs=[.ref l])(_:zN K H l (zs.map V.int))(_:zs.length<=3000000)(_:∀H',zk H H'->Q (.bl (vP zs)) H')
inductive QE (K:BFr)(vs:List V)(H:Hp)(Q:VK)(_:XK):Prop|mk(v b:_)(_:vs=[v])(_:rN K H v b)(_:∀H',zk H H'->Q (.bl b) H')
inductive yQ (K:BFr)(k:Nat)(Cs:Nat->ag)(c:ag)(vs:List V)(H:Hp)(Q:VK)(E:XK):Prop|mk(o dx args:_)(_:vs=.ref o::args)(_:H o=some (.ins (Cs k) dx []))(_:cb K H k args)(_:∀H',(∀b x,H b=some x->b≠o->H' b=some x)->E (.ref c) none H')
theorem Mn:∀zs:List Int,vP zs=((zs.zip zs.tail).all λp=>decide (p.1<p.2))
 |[]=>rfl
 |[_]=>rfl
 |a::b::l=>by
  show(decide (a<b)&&vP (b::l))=_;rw[Mn (b::l)];rfl
theorem OI (v:V):j7 "name" v []=[((("name":af)),v)]:=rfl
def Cf:V->V->V
 |.int a,.int b=>.bl (decide (a<b))
 |_,_=>.non
theorem R6 (zs ys:List Int):fP Cf (zs.map V.int) (ys.map V.int)=(fP (λa b=>decide (a<b)) zs ys).map V.bl:=by
 rw[Ik,Il];rfl
theorem mR:∀zs:List Int,(fP (λa b=>decide (a<b)) zs zs.tail).all id=vP zs
 |[]=>rfl
 |[_]=>rfl
 |a::b::l=>by
  show(decide (a<b)&&(fP (λa b=>decide (a<b)) (b::l) (b::l).tail).all id)=_;rw[mR (b::l)];rfl
theorem VD {os:List (Option (Int×Int))}(h:os.all fM=true):∃ps:List (Int×Int),os=ps.map some:=by
 induction os with
 |nil=>exact⟨[],U⟩
 |cons o r ih=>
  rw[Dx,CM]at h;obtain⟨ps,rfl⟩:=ih h.2
  cases o with
  |none=>cases h.1
  |some p=>exact⟨p::ps,U⟩
theorem Z7 (ps:List (Int×Int)):((ps.map some).filterMap λo=>o.map (·.1))=ps.map (·.1):=by
 induction ps with
 |nil=>rfl
 |cons p r ih=>exact K4 (List.cons p.1) ih
inductive BJ (K:BFr)(SU:ag)(Cs:Nat->ag)(H:Hp):V->Bool->Prop where
 |other {v:V} {t:String}:vN K H v (.type t)->aE K (.type t) (.ref SU)=some false->BJ K SU Cs H v false
 |deep {v:V} {n w:af} {p:Int} {r:Rk}:wW Cs H (.ontop n p w r) v->Gd 3 (.ontop n p w r)->nP (.ontop n p w r)=3->BJ K SU Cs H v false
 |good {v:V} {r:Rk}:wW Cs H r v->Gd 2 r->BJ K SU Cs H v true
inductive QM (K:BFr)(SU:ag)(Cs:Nat->ag)(c:ag)(vs:List V)(H:Hp)(Q:VK)(E:XK):Prop|mk(o dx v1 v2 v3 v4 b1 b2 b3 b4:_)(_:vs=[.ref o,v1,v2,v3,v4])(_:H o=some (.ins (Cs 5) dx []))(_:pZ K H v1 b1)(_:Vb K H 20000 v2 b2)(_:Oy K H v3 b3)(_:BJ K SU Cs H v4 b4)(_:(b1&&((b2&&b3)&&b4))=false)(_:∀H',(∀b x,H b=some x->b≠o->H' b=some x)->E (.ref c) none H')
theorem pZ.true {K:BFr}(h:pZ K H v true):∃z,v=.str z/\yx z:=by
 rcases h with⟨z,e,_,h⟩ |⟨_,h⟩
 ·unfold yT at h;have h:=h.symm;rw[CM]at h;refine⟨z,e,xi h.1,?_⟩;have h2:=h.2
  cases q:noNames.contains z with
  |false=>rfl
  |true=>rw[q]at h2;cases h2
 ·cases h
theorem Vb.true {K:BFr}(h:Vb K H m v true):∃z,v=.int z/\0<=z/\z<=m:=by
 rcases h with⟨z,e,h⟩ |⟨_,h⟩
 ·exact⟨z,e,G' h.symm⟩
 ·cases h
theorem Oy.true {K:BFr}(h:Oy K H v true):∃z,v=.str z/\Vc z:=by
 rcases h with⟨z,e,h⟩ |⟨_,h⟩
 ·exact⟨z,e,h.symm⟩
 ·cases h
end Pg
namespace K12
open PySem PySem.NumText L2 Pg
seal PE PA PT PW PS y8 PG j5 PI jQ PO PK
section
variable {K:BFr}{mg:af->Option ae}
theorem OJ (F:qU K "is_rule_name" "is_rule_name" (top 43) f fd)(W:TM K mg "NO_RULE_NAMES" noNames)(C1:qX P w K mg base zY 2 "is_name" ["thing"] (Y6 K)):zL P w K mg base zY 3 f fd ["thing"] (QP K):=by
 obtain⟨aw,ew,tw⟩:=W;refine F.ok (N:=["thing"]) ?_ ?_ ?_;walk_at"t"
 ·obtain⟨v,b,rfl,_⟩:=h;rfl
 ·obtain⟨v,b,rfl,hv,q⟩:=h;refine⟨_,zh (zt (je (zq C1 hr ∅ zA (za (pv 0) zd)) (jA (qS wc (pv 0) (zQ (v:=.ref aw) U ew U) (by rfl))))),?_⟩;rcases hv with⟨z,rfl,zl,rfl⟩ |⟨ns,rfl⟩
  ·refine⟨_,U,_,U,.inl ⟨z,U,zl,λH1 s1=>⟨_,U,?_⟩⟩⟩;have q1:=q H1 s1;unfold yT at q1
   cases e:ug z with
   |false=>
    rw[e]at q1;exact qM q1
   |true=>
    rw[e,dm]at q1;refine qY ⟨_,U,aw,_,U,.inr (tw H1),U,U,?_⟩;rw[K6 U,uc];exact q1
  ·exact⟨_,U,v,U,.inr ⟨ns,false,U,qM (q H (zk.refl _))⟩⟩
theorem nM (F:qU K "is_way" "is_way" (top 24) f fd)(G:vh mg)(W:TM K mg "WAYS" wayL):zL P w K mg base zY 1 f fd ["thing"] (YR K):=by
 obtain⟨aw,ew,tw⟩:=W;refine F.ok (N:=["thing"]) ?_ ?_ ?_;walk_at"t"
 ·obtain⟨v,b,rfl,_⟩:=h;rfl
 ·obtain⟨v,b,rfl,hv,q⟩:=h
  refine⟨_,zh (zt (je (zv zG U G.isinstance zz (za (pv 0) (za (yV (v:=.ty "str") U G.str qE U) zd)))
   (jA (qS uN (pv 0) (zQ (v:=.ref aw) U ew U) (by rfl))))),?_⟩
  rcases hv with⟨x,rfl,rfl⟩ |⟨⟨r,N',ty,ne⟩,rfl⟩
  ·refine⟨_,U,_,_,_,_,true,U,U,.inl (.str x),U,true,U,qY ⟨_,U,aw,_,U,.inr (tw H),U,U,?_⟩⟩;rw[K5 dq,uc];exact q
  ·obtain⟨_,_,k3,_⟩:=kY (K:=K) r N'
   have e:r.2.2.2.1=false:=by
    simp only[Vf,CJ,CV,or_false]at N';rcases N' with rfl |rfl |rfl |rfl |rfl |rfl |rfl<;>first |rfl |exact K7 rfl ne
   rw[e]at k3;exact⟨_,U,_,_,_,_,false,U,U,.inl ty,k3,false,U,qM q⟩
theorem Tg {t:KS}(em:mg x=some (.int m t))(hn:WQ mg x m)(F:qU K "is_parts" "is_parts" (top 23) f fd)(hx:x = "MOST_PARTS")(C1:qX P w K mg base zY 2 "is_number_within" ["thing","least","most"] (jI K)):zL P w K mg base zY 3 f fd ["thing"] (kg K m):=by
 subst hx;refine F.ok (N:=["thing"]) ?_ ?_ ?_;walk_at"t"
 ·obtain⟨v,b,rfl,_⟩:=h;rfl
 ·obtain⟨v,b,rfl,hv,q⟩:=h;refine⟨_,zh (zt (zq C1 hr ∅ zA (za (pv 0) (za ze (za (zQ (v:=.int m) U em ⟨t,U⟩) zd))))),_,U,v,0,m,U,?_⟩;rcases hv with⟨z,rfl,rfl⟩ |⟨ns,rfl⟩
  ·exact .inl ⟨z,U,q⟩
  ·exact .inr ⟨ns,q⟩
theorem OT (F:qU K "is_parts" "is_parts" (top 23) f fd)(N1:WQ mg "MOST_PARTS" 20000)(C1:qX P w K mg base zY 2 "is_number_within" ["thing","least","most"] (jI K)):zL P w K mg base zY 3 f fd ["thing"] (kg K 20000):=by
 obtain⟨t,em⟩:=N1;exact Tg em ⟨t,em⟩ F rfl C1
theorem LC (F:qU K "is_rule_amount" "is_rule_amount" (top 44) f fd)(N1:WQ mg "MOST_AMOUNT" 1000000000000)(C1:qX P w K mg base zY 2 "is_number_within" ["thing","least","most"] (jI K)):zL P w K mg base zY 3 f fd ["thing"] (kg K 1000000000000):=by
 obtain⟨t,em⟩:=N1;refine F.ok (N:=["thing"]) ?_ ?_ ?_;walk_at"t"
 ·obtain⟨v,b,rfl,_⟩:=h;rfl
 ·obtain⟨v,b,rfl,hv,q⟩:=h;refine⟨_,zh (zt (zq C1 hr ∅ zA (za (pv 0) (za ze (za (zQ (v:=.int 1000000000000) U em ⟨t,U⟩) zd))))),_,U,v,0,1000000000000,U,?_⟩;rcases hv with⟨z,rfl,rfl⟩ |⟨ns,rfl⟩
  ·exact .inl ⟨z,U,q⟩
  ·exact .inr ⟨ns,q⟩
theorem GR {cB:ag}(F:qU K "need_rule_amount" "need_rule_amount" (top 45) f fd)(X:Er K mg "BadRule" cB)(C1:qX P w K mg base zY 3 "is_rule_amount" ["thing"] (kg K 1000000000000)):zL P w K mg base (jS P w) 4 f fd ["thing"] (uM K cB):=by
 refine F.okE (N:=["thing"]) ?_ ?_ ?_;walk_at"t"
 ·obtain⟨v,b,rfl,_⟩:=h;rfl
 ·obtain⟨v,b,rfl,hv,q1,q2⟩:=h;refine⟨_,zh (zK (qB (qC (zq C1 hr ∅ zA (za (pv 0) zd)))) (zh (qP qa U U X.at' X.ex (za zj zd))) zB),_,U,v,b,U,hv,b,U,?_⟩
  cases b with
  |true=>exact qM (q1 U)
  |false=>exact qY ⟨∅,q2 U⟩
theorem Oo {cB:ag}(F:qU K "need_share" "need_share" (top 46) f fd)(X:Er K mg "BadRule" cB)(C1:qX P w K mg base zY 3 "is_parts" ["thing"] (kg K 20000))(C2:qX P w K mg base zY 1 "is_way" ["thing"] (YR K)):zL P w K mg base (jS P w) 4 f fd ["parts","way"] (vT K cB):=by
 refine F.okE (N:=["parts","way"]) ?_ ?_ ?_;walk_at"t"
 ·obtain⟨v,u,b1,b2,rfl,_⟩:=h;rfl
 ·obtain⟨v,u,b1,b2,rfl,h1,h2,q1,q2⟩:=h;refine⟨_,zg (zK (qB (qC (zq C1 hr ∅ zA (za (pv 0) zd)))) (zh (qP qa U U X.at' X.ex (za zj zd))) zB) (zh (zK (qB (qC (zq C2 hr ∅ zA (za (pv 1) zd)))) (zh (qP qa U U X.at' X.ex (za zj zd))) zB)),_,U,v,b1,U,h1,b1,U,?_⟩
  cases b1 with
  |false=>exact qY ⟨∅,q2 U⟩
  |true=>
   refine qM ⟨_,U,u,b2,U,h2,b2,U,?_⟩
   cases b2 with
   |true=>exact qM (q1 U)
   |false=>exact qY ⟨∅,q2 U⟩
theorem Ob {cB:ag}(F:qU K "__init__" "Rule.__init__" (zX (top 47) 0) f fd)(X:Er K mg "BadRule" cB)(C1:qX P w K mg base zY 3 "is_rule_name" ["thing"] (QP K)):zL P w K mg base (jS P w) 4 f fd ["self","name"] (jL K cB):=by
 refine F.okE (N:=["self","name"]) ?_ ?_ ?_;walk_at"t"
 ·obtain⟨C,o,dx,v,b,rfl,_⟩:=h;rfl
 ·obtain⟨C,o,dx,v,b,rfl,cl,no,ho,hv,q1,q2⟩:=h;refine⟨_,zg (zK (qB (qC (zq C1 hr ∅ zA (za (pv 1) zd)))) (zh (qP qa U U X.at' X.ex (za zj zd))) zB) (zh (yP (pv 0) (pv 1) U)),?_⟩;refine⟨_,U,v,b,U,hv,λH1 s1=>⟨b,U,?_⟩⟩
  cases b with
  |false=>exact qY ⟨∅,q2 U H1 s1⟩
  |true=>
   refine qM ⟨_,U,_,U,o,_,dx,[],U,s1 _ _ ho,cl,no,∅,?_⟩;rw[OI];exact q1 rfl _ (λb x hb ne=>by rw[zm ne];exact s1 _ _ hb) zi
theorem gz {cB:ag}(F:qU K "__init__" "Flat.__init__" (zX (top 48) 0) f fd)(RK:wV K Cs)(CR:wR P w K mg base (jS P w) 4 "Rule" "__init__" ["self","name"] (jL K cB))(C1:qX P w K mg base (jS P w) 4 "need_rule_amount" ["thing"] (uM K cB)):zL P w K mg base (jS P w) 5 f fd ["self","name","amount"] (yQ K 0 Cs cB):=by
 refine F.okE (N:=["self","name","amount"]) ?_ ?_ ?_;walk_at"t"
 ·obtain⟨o,dx,args,rfl,ho,Sk,q⟩:=h
  match args,Sk with
  |[v1,v2],_=>rfl
 ·obtain⟨o,dx,args,rfl,ho,Sk,q⟩:=h
  match args,Sk with
  |[v1,v2],⟨b1,b2,h1,h2,no⟩=>
   refine⟨_,zg (z6 (jD CR hr ∅ qO (za (pv 0) (za (pv 1) zd)))) (zg (z6 (zq C1 hr ∅ qO (za (pv 2) zd))) yh),?_⟩;refine⟨_,U,_,U,_,o,dx,v1,b1,U,RK.cls 0 ∅,RK.no 0 ∅ "name" ∅,ho,h1,λe1 H1 f1 e=>?_,λe1 H1 s1=>q H1 λb x h _=>s1 _ _ h⟩;rw[e1,dm]at no;exact⟨_,U,v2,b2,U,h2.fr ho f1,(λe2=>by rw[e2]at no;cases no),λ_=>q H1 f1⟩
theorem Xl {cB:ag}(F:qU K "__init__" "Share.__init__" (zX (top 49) 0) f fd)(RK:wV K Cs)(CR:wR P w K mg base (jS P w) 4 "Rule" "__init__" ["self","name"] (jL K cB))(C1:qX P w K mg base (jS P w) 4 "need_share" ["parts","way"] (vT K cB)):zL P w K mg base (jS P w) 5 f fd ["self","name","parts","way"] (yQ K 1 Cs cB):=by
 refine F.okE (N:=["self","name","parts","way"]) ?_ ?_ ?_;walk_at"t"
 ·obtain⟨o,dx,args,rfl,ho,Sk,q⟩:=h
  match args,Sk with
  |[v1,v2,v3],_=>rfl
 ·obtain⟨o,dx,args,rfl,ho,Sk,q⟩:=h
  match args,Sk with
  |[v1,v2,v3],⟨b1,b2,b3,h1,h2,h3,no⟩=>
   refine⟨_,zg (z6 (jD CR hr ∅ qO (za (pv 0) (za (pv 1) zd)))) (zg (z6 (zq C1 hr ∅ qO (za (pv 2) (za (pv 3) zd)))) yh),?_⟩;refine⟨_,U,_,U,_,o,dx,v1,b1,U,RK.cls 1 ∅,RK.no 1 ∅ "name" ∅,ho,h1,λe1 H1 f1 e=>?_,λe1 H1 s1=>q H1 λb x h _=>s1 _ _ h⟩;rw[e1,dm]at no;exact⟨_,U,_,U,v2,v3,b2,b3,U,h2.fr ho f1,h3.fr ho f1,(λe2=>by rw[e2]at no;cases no),λ_=>q H1 f1⟩
theorem XD {cB:ag}(F:qU K "__init__" "Capped.__init__" (zX (top 50) 0) f fd)(RK:wV K Cs)(CR:wR P w K mg base (jS P w) 4 "Rule" "__init__" ["self","name"] (jL K cB))(C1:qX P w K mg base (jS P w) 4 "need_share" ["parts","way"] (vT K cB))(C2:qX P w K mg base (jS P w) 4 "need_rule_amount" ["thing"] (uM K cB)):zL P w K mg base (jS P w) 5 f fd ["self","name","parts","most","way"] (yQ K 2 Cs cB):=by
 refine F.okE (N:=["self","name","parts","most","way"]) ?_ ?_ ?_;walk_at"t"
 ·obtain⟨o,dx,args,rfl,ho,Sk,q⟩:=h
  match args,Sk with
  |[v1,v2,v3,v4],_=>rfl
 ·obtain⟨o,dx,args,rfl,ho,Sk,q⟩:=h
  match args,Sk with
  |[v1,v2,v3,v4],⟨b1,b2,b3,b4,h1,h2,h3,h4,no⟩=>
   refine⟨_,zg (z6 (jD CR hr ∅ qO (za (pv 0) (za (pv 1) zd)))) (zg (z6 (zq C1 hr ∅ qO (za (pv 2) (za (pv 4) zd)))) (zg (z6 (zq C2 hr ∅ qO (za (pv 3) zd))) yh)),?_⟩;refine⟨_,U,_,U,_,o,dx,v1,b1,U,RK.cls 2 ∅,RK.no 2 ∅ "name" ∅,ho,h1,λe1 H1 f1 e=>?_,λe1 H1 s1=>q H1 λb x h _=>s1 _ _ h⟩;rw[e1,dm]at no;refine⟨_,U,_,U,v2,v4,b2,b4,U,h2.fr ho f1,h4.fr ho f1,λe2=>?_,λ_=>q H1 f1⟩;rw[e2,dm]at no;exact⟨_,U,v3,b3,U,h3.fr ho f1,(λe3=>by rw[e3]at no;cases no),λ_=>q H1 f1⟩
theorem Xf {cB:ag}(F:qU K "__init__" "Least.__init__" (zX (top 51) 0) f fd)(RK:wV K Cs)(CR:wR P w K mg base (jS P w) 4 "Rule" "__init__" ["self","name"] (jL K cB))(C1:qX P w K mg base (jS P w) 4 "need_share" ["parts","way"] (vT K cB))(C2:qX P w K mg base (jS P w) 4 "need_rule_amount" ["thing"] (uM K cB)):zL P w K mg base (jS P w) 5 f fd ["self","name","parts","least","way"] (yQ K 3 Cs cB):=by
 refine F.okE (N:=["self","name","parts","least","way"]) ?_ ?_ ?_;walk_at"t"
 ·obtain⟨o,dx,args,rfl,ho,Sk,q⟩:=h
  match args,Sk with
  |[v1,v2,v3,v4],_=>rfl
 ·obtain⟨o,dx,args,rfl,ho,Sk,q⟩:=h
  match args,Sk with
  |[v1,v2,v3,v4],⟨b1,b2,b3,b4,h1,h2,h3,h4,no⟩=>
   refine⟨_,zg (z6 (jD CR hr ∅ qO (za (pv 0) (za (pv 1) zd)))) (zg (z6 (zq C1 hr ∅ qO (za (pv 2) (za (pv 4) zd)))) (zg (z6 (zq C2 hr ∅ qO (za (pv 3) zd))) yh)),?_⟩;refine⟨_,U,_,U,_,o,dx,v1,b1,U,RK.cls 3 ∅,RK.no 3 ∅ "name" ∅,ho,h1,λe1 H1 f1 e=>?_,λe1 H1 s1=>q H1 λb x h _=>s1 _ _ h⟩;rw[e1,dm]at no;refine⟨_,U,_,U,v2,v4,b2,b4,U,h2.fr ho f1,h4.fr ho f1,λe2=>?_,λ_=>q H1 f1⟩;rw[e2,dm]at no;exact⟨_,U,v3,b3,U,h3.fr ho f1,(λe3=>by rw[e3]at no;cases no),λ_=>q H1 f1⟩
theorem LK (F:qU K "is_band" "is_band" (top 54) f fd)(G:vh mg)(C1:qX P w K mg base zY 3 "is_rule_amount" ["thing"] (kg K 1000000000000))(C2:qX P w K mg base zY 3 "is_parts" ["thing"] (kg K 20000)):zL P w K mg base zY 4 f fd ["thing"] (Z6 K):=by
 refine F.ok (N:=["thing"]) ?_ ?_ ?_;walk_at"t"
 ·obtain⟨v,p,rfl,_⟩:=h;rfl
 ·obtain⟨v,p,rfl,hv,q⟩:=h
  refine⟨_,(zg (zK (PW.pt (yI (qB (qC (zv zG U G.isinstance zz (za (pv 0) (za (yV (v:=.ty "tuple") U G.tuple yX U) zd))))) (yJ (zx uB (zv zJ U G.len aH (za (pv 0) zd)) ze (zD _))))) (zh (zt vC)) zB)
    (zh (zt (je (zq C1 hr ∅ zA (za (zE qT (pv 0) ze) zd)) (jA (zq C2 hr ∅ zA (za (zE qT (pv 0) ze) zd))))))),?_⟩
  cases hv with
  |other ty kt=>exact⟨_,U,_,_,_,_,false,U,U,.inl ty,kt,false,U,qY (qY q)⟩
  |@size t xs ha ne=>
   refine⟨_,U,_,_,_,_,true,U,U,.inl (.tup ha),U,true,U,qM ⟨_,U,t,_,U,.inr (yE.of ha),U,_,U,qg (λ_=>q) (λe=>?_)⟩⟩;exact(e (by rw[Ds,D' λz=>ne (by injection z with z;omega)])).elim
  |@pair t p ha h1 h2=>
   refine⟨_,U,_,_,_,_,true,U,U,.inl (.tup ha),U,true,U,qM ⟨_,U,t,_,U,.inr (yE.of ha),U,_,U,qM ?_⟩⟩;have d1:decide (0<=p.1/\p.1<=1000000000000)=true:=i' h1;have d2:decide (0<=p.2/\p.2<=20000)=true:=i' h2;exact⟨_,U,t,_,_,_,U,U,yE.of ha,U,_,true,U,.inl ⟨p.1,U,d1.symm⟩,true,U,qY ⟨_,U,t,_,_,_,U,U,yE.of ha,U,_,true,U,.inl ⟨p.2,U,d2.symm⟩,q⟩⟩
  |@odd t x y b1 b2 ha h1 h2 no=>
   refine⟨_,U,_,_,_,_,true,U,U,.inl (.tup ha),U,true,U,qM ⟨_,U,t,_,U,.inr (yE.of ha),U,_,U,qM ?_⟩⟩;refine⟨_,U,t,_,_,_,U,U,yE.of ha,U,x,b1,U,h1,b1,U,?_⟩
   cases b1 with
   |false=>exact qM q
   |true=>
    rw[dm]at no;subst no;exact qY ⟨_,U,t,_,_,_,U,U,yE.of ha,U,y,false,U,h2,q⟩
theorem pK (F:qU K "rise" "rise" (top 31) f fd)(G:vh mg):zL P w K mg base zY 1 f fd ["things"] (ZO K):=by
 have nc:(["thing","after"]:List af).Nodup:=⋯
 refine F.ok (N:=["things"]) ?_ ?_ ?_;walk_at"t"
 ·obtain⟨l,zs,rfl,_⟩:=h;rfl
 ·obtain⟨l,zs,rfl,hl,zl,q⟩:=h;refine' ⟨_,zh (zt (zv (vg U) U G.all v5 (za ?comp zd))),?main⟩
  case comp=>
   refine' qk (cl:=[]) (src:=[none,none]) (wi:=Tj K (qN (zV 0) (qN (TR (nY K) (zV 0) (JQ (tC (.int 1))) ZI) y6))) (g:=PL K 2 (Yl (qc 0) (Yl (qc 1) Mp))) (tt:=qL) (te:=vp (WJ λi j=>.bl (decide (i<j))) (zV 0) (zV 1))
    (cO nc ⟨U,U,⋯,⋯,(λx c z=>nomatch z),qF (by rfl),zR (zR qb),U⟩) rfl (L3 U G.zip (za (pv 0) (za (z8 yG (pv 0) (qm ze) qA) zd))) ?hb
   case hb=>
    intro fp C' s' H';exact⟨ly U (Qh (zO (i:=0) nc U (ay U)) (Qh (zO (i:=1) nc U (ay U)) gY)),qt,qS wO (pv 0) (pv 1) (zD _)⟩
  refine⟨_,U,_,U,_,U,l,_,U,hl,λp p0=>?_⟩;have s1:zk H (upd H p (.lst (jR (zs.map V.int) (some 1) none))):=zk.upd p0;have e1:(upd H p (.lst (jR (zs.map V.int) (some 1) none))) p=some (.lst (zs.tail.map V.int)):=by rw[zi,Wc]
  refine⟨l,p,U,⟨_,s1.seq hl⟩,⟨_,zN.of e1⟩,λD hD=>VJ (s1.seq hl) (zN.of e1) hD (by rw[CH,eR,ai];omega) (by rw[CH,CH,eR];omega) Cf (λi x y hx hy H1 R s2 r=>?_) (λH1 s2 e2=>?_)⟩
  ·rw[CO]at hx hy;obtain⟨a,ha,rfl⟩:=C8.mp hx;obtain⟨b,hb,rfl⟩:=C8.mp hy;exact⟨_,U,_,U,a,b,U,U,r H1 (zk.refl _)⟩
  ·rw[R6]at e2;refine⟨D,_,U,zN.of e2,?_⟩;rw[mR];exact q H1 (s1.trans s2)
theorem Ow (F:qU K "are_bands" "are_bands" (top 55) f fd)(G:vh mg)(N1:WQ mg "MOST_BANDS" 12)(C1:qX P w K mg base zY 4 "is_band" ["thing"] (Z6 K))(C2:qX P w K mg base zY 1 "rise" ["things"] (ZO K)):zL P w K mg base zY 5 f fd ["thing"] (QE K):=by
 obtain⟨tk,em⟩:=N1;have nd:(["thing","borders"]:List af).Nodup:=⋯
 have nc:(["row"]:List af).Nodup:=⋯
 walk_at"k"
 ·obtain⟨v,b,rfl,_⟩:=h;rfl
 ·obtain⟨v,b,rfl,hv,q⟩:=h
  refine' ⟨_,(zg (zK (PW.pt (yI (qB (qC (zv zG U G.isinstance zz (za (pv 0) (za (yV (v:=.ty "tuple") U G.tuple yX U) zd))))) (yI (zx wO (zv zJ U G.len aH (za (pv 0) zd)) ze (zD _)) (yJ (zx vX (zv zJ U G.len aH (za (pv 0) zd)) (zQ (v:=.int 12) U em ⟨tk,U⟩) (zD _)))))) (zh (zt vC)) zB)
    (zg (zK (qB (qC (zv (vg U) U G.all v5 (za ?comp_2 zd)))) (zh (zt vC)) zB)
    (zg ?st_1
    (zh (zt (je (qS qw (zE zy (pv 1) ze) ze (zD _)) (jA (zq C2 hr ∅ zA (za (pv 1) zd))))))))),?main⟩
  case comp_2=>
   refine' qk (cl:=[]) (src:=[none]) (wi:=V7 K (zV 0)) (g:=qc 0) (tt:=qL) (te:=λσ H Q=>qN (zV 0) y6 σ H λvs H1=>Z6 K vs H1 Q E0)
    (cO nc ⟨U,U,⋯,⋯,(λx c z=>nomatch z),qF (by rfl),zR qb,U⟩) rfl (ke (pv 0)) ?hb
   case hb=>
    intro fp C' s' H';exact⟨zO (i:=0) nc U (ay U),qt,zq C1 hr ∅ zA (za (pv 0) zd)⟩
  case st_1=>
   refine' Zb (i:=1) (cl:=[]) (src:=[none]) (wi:=V7 K (zV 0)) (g:=qc 0) (tt:=qL) (te:=vp (Zg K) (zV 0) (tC (.int 0))) nd rfl rfl
    (cO nc ⟨U,U,⋯,⋯,(λx c z=>nomatch z),qF (by rfl),zR qb,U⟩) rfl (ke (pv 0)) ?hb
   case hb=>
    intro fp C' s' H';exact⟨zO (i:=0) nc U (ay U),qt,zE qT (pv 0) ze⟩
  cases hv with
  |other ty kt=>exact⟨_,U,_,_,_,_,false,U,U,.inl ty,kt,false,U,qY (qY (q H (zk.refl _)))⟩
  |@rows u xs os hu xl x20 Sw=>
   have bd:JB os=(decide (1<=os.length/\os.length<=12)&&(os.all fM&&(decide ((os.filterMap λo=>o.map (·.1)).head?=some 0)&&vP (os.filterMap λo=>o.map (·.1))))):=rfl;have hs:os.length<au:=by rw[ai];omega
   refine⟨_,U,_,_,_,_,true,U,U,.inl (.tup hu),U,true,U,qM ⟨_,U,u,_,U,.inr (yE.of hu),_,_,U,U,_,U,qg (λe=>qY ?_) (λe1=>?_)⟩⟩
   ·have e:=G' e;rw[bd,D' (by omega),dO]at q;exact q H (zk.refl _)
   refine⟨_,U,u,_,U,.inr (yE.of hu),_,_,U,U,_,U,qg (λe=>?_) (λe2=>?_)⟩
   ·have e:=G' e;rw[bd,D' (by omega),dO]at q;exact q H (zk.refl _)
   have l1:1<=os.length:=by
    have:¬((xs.length:Nat):Int)<1:=λc=>e1 (i' c);omega
   have l2:os.length<=12:=by
    have:¬(12:Int)<((xs.length:Nat):Int):=λc=>e2 (i' c);omega
   rw[i' (show 1<=os.length/\os.length<=12 from ⟨l1,l2⟩),dm]at bd
   have T:yN H xs os (λH v o=>oU K H v o):=⟨xl,λi y e=>by
    have hi:i<os.length:=by rw[<- xl];exact(C7.mp e).1
    exact⟨_,CZ hi,λH' s=>(Sw i y _ e (CZ hi)).same s⟩⟩
   refine⟨_,U,u,U,⟨_,yE.of hu⟩,λD hD=>js (vD (yE.of hu)) T hD hs (λo=>V.bl o.isSome) (λo ho v H1 R s1 e1 r=>⟨_,U,v,o,U,e1,r H1 (zk.refl _)⟩) (λH1 s1 e1=>?_)⟩;refine⟨D,os.map fM,U,zN.of (by rw[e1,CP];rfl),_,U,?_⟩;have ea:(os.map fM).all id=os.all fM:=by rw[Dv];rfl
   rw[ea]
   cases al:os.all fM with
   |false=>
    rw[al,dO]at bd;rw[bd]at q;exact qY (q H1 s1)
   |true=>
    rw[al,dm]at bd;refine qM ?_;obtain⟨ps,rfl⟩:=VD al;rw[Z7]at bd;rw[CH]at xl hs l1
    have T1:yN H1 xs ps (λH v p=>∃a,v=.ref a/\H a=some (.tup (cB p))):=⟨xl,λi y e=>by
     have hi:i<ps.length:=by rw[<- xl];exact(C7.mp e).1
     refine⟨_,CZ hi,λH' s=>?_⟩;have:=(Sw i y (some ps[i]) e (by rw[CO,CZ hi];rfl)).same (s1.trans s)
     cases this with
     |pair a b c=>exact⟨_,U,a⟩⟩
    refine⟨_,U,u,U,⟨_,yE.of (s1 _ _ hu)⟩,λD2 W_=>js (vD (yE.of (s1 _ _ hu))) T1 W_ hs (λp=>V.int p.1) (λp hp v H2 R s2 e2 r=>?_) (λH2 s2 e2=>?_)⟩
    ·obtain⟨a,rfl,ha⟩:=e2;exact⟨_,U,a,_,_,_,U,U,yE.of ha,U,r H2 (zk.refl _)⟩
    have e2':H2 D2=some (.lst ((ps.map (·.1)).map V.int)):=by rw[e2,CP];rfl
    cases ps with
    |nil=>cases l1
    |cons p0 pr=>
     refine⟨_,U,D2,_,_,.int p0.1,U,U,zN.of e2',qJ U,U,_,U,?_⟩;rw[bd]at q
     by_cases c:p0.1=0
     ·rw[show decide (((p0::pr).map (·.1)).head?=some 0)=true from i' (by rw[<- c];rfl),dm]at q;rw[show decide (V.int p0.1=V.int 0)=true from i' (by rw[c])];exact qY ⟨_,U,D2,_,U,zN.of e2',(by rw[CH];have h12:=l2;have hx:=xl;simp only[CH]at *;omega),λH3 s3=>q H3 (s1.trans (s2.trans s3))⟩
     ·rw[show decide (((p0::pr).map (·.1)).head?=some 0)=false from D' (λz=>c (ao z)),dO]at q;rw[show decide (V.int p0.1=V.int 0)=false from D' (λz=>c (by injection z))];exact qM (q H2 (s1.trans s2))
theorem GT {cB:ag}(F:qU K "__init__" "Bands.__init__" (zX (top 56) 0) f fd)(X:Er K mg "BadRule" cB)(RX:JV K (Cs 4))(CR:wR P w K mg base (jS P w) 4 "Rule" "__init__" ["self","name"] (jL K cB))(C1:qX P w K mg base zY 5 "are_bands" ["thing"] (QE K))(C2:qX P w K mg base zY 1 "is_way" ["thing"] (YR K)):zL P w K mg base (jS P w) 6 f fd ["self","name","rows","way"] (yQ K 4 Cs cB):=by
 refine F.okE (N:=["self","name","rows","way"]) ?_ ?_ ?_;walk_at"t"
 ·obtain⟨o,dx,args,rfl,ho,Sk,q⟩:=h
  match args,Sk with
  |[v1,v2,v3],_=>rfl
 ·obtain⟨o,dx,args,rfl,ho,Sk,q⟩:=h
  match args,Sk with
  |[v1,v2,v3],⟨b1,b2,b3,h1,h2,h3,no⟩=>
   refine⟨_,zg (z6 (jD CR hr ∅ qO (za (pv 0) (za (pv 1) zd)))) (zg (zK (qB (qC (zq C1 hr ∅ zA (za (pv 2) zd)))) (zh (qP qa U U X.at' X.ex (za zj zd))) zB) (zg (zK (qB (qC (zq C2 hr ∅ zA (za (pv 3) zd)))) (zh (qP qa U U X.at' X.ex (za zj zd))) zB) yh)),?_⟩;refine⟨_,U,_,U,_,o,dx,v1,b1,U,RX.cls,RX.no "name" ∅,ho,h1,λe1 H1 f1 e=>?_,λe1 H1 s1=>q H1 λb x h _=>s1 _ _ h⟩;rw[e1,dm]at no;refine⟨_,U,v2,b2,U,h2.fr ho f1,λH2 s2=>⟨b2,U,?_⟩⟩;have f2:∀b x,H b=some x->b≠o->H2 b=some x:=λb x h n=>s2 _ _ (f1 _ _ h n)
   cases b2 with
   |false=>exact qY ⟨∅,q H2 f2⟩
   |true=>
    rw[dm]at no;subst no;exact qM ⟨_,U,v3,false,U,h3.fr ho f2,false,U,qY ⟨∅,q H2 f2⟩⟩
theorem Oe {cB:ag}(F:qU K "__init__" "OnTop.__init__" (zX (top 59) 0) f fd)(G:vh mg)(X:Er K mg "BadRule" cB)(RX:JV K (Cs 5))(RJ:RD K Cs SU)(gR:mg "Rule" = some (.ref SU))(N1:WQ mg "MOST_DEPTH" 3)(hj:4<=j)(CR:wR P w K mg base (jS P w) 4 "Rule" "__init__" ["self","name"] (jL K cB))(C1:qX P w K mg base (jS P w) 4 "need_share" ["parts","way"] (vT K cB))(MT:∀k,k<6->yu P w K mg base zY j (Cs k) "twin" ["self"] (yp 3 k Cs))(MD:yu P w K mg base zY j (Cs 5) "depth" ["self"] (yO 4 5 Cs)):zL P w K mg base (jS P w) (j+1) f fd ["self","name","parts","way","rule"] (QM K SU Cs cB):=by
 obtain⟨tk,em⟩:=N1;refine F.okE (N:=["self","name","parts","way","rule"]) ?_ ?_ ?_;walk_at"t"
 ·obtain⟨o,dx,v1,v2,v3,v4,b1,b2,b3,b4,rfl,_⟩:=h;rfl
 ·obtain⟨o,dx,v1,v2,v3,v4,b1,b2,b3,b4,rfl,ho,h1,h2,h3,h4,no,q⟩:=h
  refine⟨_,zg (z6 (jD CR hr hj qO (za (pv 0) (za (pv 1) zd)))) (zg (z6 (zq C1 hr hj qO (za (pv 2) (za (pv 3) zd)))) (zg (zK (qB (qC (zv zG U G.isinstance zz (za (pv 4) (za (zQ (v:=.ref SU) U gR U) zd))))) (zh (qP qa U U X.at' X.ex (za zj zd))) zB)
   (zg (yP (pv 0) (pv 2) U) (zg (yP (pv 0) (pv 3) U) (zg (yP (pv 0) (Z0 (p:=λk=>k<6) λk hk=>jZ (MT k hk) hr (CI _) zA (pv 4)) U)
   (zh (zK (zx vX (jZ MD hr (CI _) zA (pv 0)) (zQ (v:=.int 3) U em ⟨tk,U⟩) (zD _)) (zh (qP qa U U X.at' X.ex (za zj zd))) yh))))))),?_⟩
  refine⟨_,U,_,U,_,o,dx,v1,b1,U,RX.cls,RX.no "name" ∅,ho,h1,λt1 H1 f1 e1=>?_,λ_ H1 s1=>q H1 λb x h _=>s1 _ _ h⟩;subst t1;rw[dm]at no;refine⟨_,U,_,U,v2,v3,b2,b3,U,h2.fr ho f1,h3.fr ho f1,λt2=>?_,λ_=>q H1 f1⟩;rw[t2,dm]at no;rw[CM]at t2;obtain⟨rfl,rfl⟩:=t2;obtain⟨n,rfl,hn⟩:=h1.true;obtain⟨p,rfl,hp⟩:=h2.true;obtain⟨x,rfl,hw⟩:=h3.true
  cases h4 with
  |good=>cases no
  |other ty kt=>exact⟨_,U,_,_,_,_,false,U,U,.inl (TyB.fr ho f1 ty),kt,false,U,qY ⟨∅,q H1 f1⟩⟩
  |@deep n' w' p' r' ri gd dp=>
   obtain⟨r,hr3⟩:∃r,r=Rk.ontop n' p' w' r':=⟨_,U⟩;rw[<- hr3]at ri gd dp;have r1:=ri.frame gd ho f1;obtain⟨oi,dxi,fsi,rfl,hoi,_,noi⟩:=r1.obj gd;have k6:=TU r;refine⟨_,U,_,_,_,_,true,U,U,.inl (.ins hoi (RJ.cls _ k6) (RJ.ha _ k6) RJ.hn RJ.htk (RJ.hm _ k6)),RJ.kt _ k6,true,U,qM ?_⟩;refine⟨_,U,_,U,o,_,dx,_,U,e1,RX.cls,RX.no "parts" ∅,by show 1<1000;decide,?_⟩;rw[t4 _ _ _ ⋯];refine⟨_,U,_,U,o,_,dx,_,U,zi,RX.cls,RX.no "way" ∅,by show 2<1000;decide,?_⟩;rw[TV _ _ _ _ _ ⋯ ⋯];have f2:∀b y,H b=some y->b≠o->(upd (upd H1 o (.ins (Cs 5) dx [("name",.str n),("parts",.int p)])) o (.ins (Cs 5) dx [("name",.str n),("parts",.int p),("way",.str x)])) b=some y:=λb y hb ne=>by rw[zm ne,zm ne];exact f1 _ _ hb ne
   have e2:(upd (upd H1 o (.ins (Cs 5) dx [("name",.str n),("parts",.int p)])) o (.ins (Cs 5) dx [("name",.str n),("parts",.int p),("way",.str x)])) o=some (.ins (Cs 5) dx [("name",.str n),("parts",.int p),("way",.str x)]):=zi;generalize upd (upd H1 o (.ins (Cs 5) dx [("name",.str n),("parts",.int p)])) o (.ins (Cs 5) dx [("name",.str n),("parts",.int p),("way",.str x)])=H2 at f2 e2;have r2:=ri.frame gd ho f2;obtain⟨oi2,dxi2,fsi2,eoi,hoi2,_,noi2⟩:=r2.obj gd;cases eoi;refine⟨r.kd,k6,_,U,oi,dxi2,fsi2,U,hoi2,noi2 "twin" ∅,_,r,U,U,r2,gd,λu' H3 s3 r3=>?_⟩;have e3:=s3 _ _ e2;refine⟨_,U,o,_,dx,_,U,e3,RX.cls,RX.no "within" ∅,by show 3<1000;decide,?_⟩;rw[BF _ _ _ _ _ _ _ ⋯ ⋯ ⋯];have f4:∀b y,H3 b=some y->b≠o->(upd H3 o (.ins (Cs 5) dx [("name",.str n),("parts",.int p),("way",.str x),("within",u')])) b=some y:=λb y hb ne=>by rw[zm ne];exact hb
   have e4:(upd H3 o (.ins (Cs 5) dx [("name",.str n),("parts",.int p),("way",.str x),("within",u')])) o=some (.ins (Cs 5) dx [("name",.str n),("parts",.int p),("way",.str x),("within",u')]):=zi;generalize upd H3 o (.ins (Cs 5) dx [("name",.str n),("parts",.int p),("way",.str x),("within",u')])=H4 at f4 e4;have r4:=r3.frame3 RJ.ne gd e3 f4;have g4:Gd (3+1) (.ontop n p x r):=.ontop hn hp hw gd;refine⟨_,U,o,dx,_,U,e4,U,_,_,U,U,.ontop e4 r4,g4,_,_,U,U,_,U,qg (λ_=>⟨∅,q H4 λb y hb ne=>f4 _ _ (s3 _ _ (f2 _ _ hb ne)) ne⟩) (λe=>?_)⟩;refine e (i' ?_);show nP (.ontop n p x r) > 3;have:nP (.ontop n p x r)=nP r+1:=rfl;omega
end
end K12
namespace Pg
open PySem PySem.NumText L2 Builtin Builtin.Str
theorem ZC {k:Nat}(h:sW l):sW (uK k l):=λc hc=>by
 unfold uK at hc;rcases CQ.mp hc with z |z
 ·rw[(List.mem_replicate.mp z).2];decide
 ·exact h c z
theorem MG (n:Nat)(l:List Nat):digitsVal (aW n 48++l)=digitsVal l:=by
 induction n with
 |zero=>rfl
 |succ n ih=>rw[eY];exact ih
theorem pV (k n:Nat):digitsVal (uK k (dg n))=n:=by
 unfold uK;rw[MG,r9]
theorem Mi (k n:Nat):vM (uK k (dg n))=true:=by
 have h:=ZC (k:=k) (vR n);unfold vM;rw[CM];constructor
 ·cases e:uK k (dg n) with
  |nil=>
   have l:=wy n;have:(uK k (dg n)).length=0:=by rw[e];rfl
   unfold uK at this;rw[CS]at this;lia
  |cons=>rfl
 ·rw[dj];intro c hc;have:=h c hc;unfold wY;rw[i' this.1,i' this.2];rfl
theorem m5 (l:List Nat)(h:sW l)(L_:Nat):l.foldl (λL_ c=>L_*10+(c-48)) L_<(L_+1)*10 ^ l.length:=by
 induction l generalizing L_ with
 |nil=>rw[ET,DK,Nat.pow_zero,Nat.mul_one];exact DG _
 |cons c l ih=>
  have hc:=h c CU;have:=ih (λd hd=>h d (C6 _ hd)) (L_*10+(c-48));rw[De,dz,Nat.pow_succ,Nat.mul_comm (10 ^ l.length),<- Nat.mul_assoc];exact dM this (Ei _ (by lia))
theorem bq (h:sW l):digitsVal l<10 ^ l.length:=by
 have:=m5 l h 0
 rwa [DV,Nat.one_mul]at this
theorem kP {a b:af}(h:a.cps.toList=b.cps.toList):a=b:=by
 have:=VF (a:=[a]) (b:=[b]) (by rw[dv,dv,h]);exact(FU this).1
end Pg
variable {cT:ag}
namespace Pg
open PySem L2 PySem.NumText
open Builtin Builtin.Str
theorem X7 (x:af)(i j:Nat):(strSub x i j).length<=x.length:=by
 unfold strSub;show(x.cps.extract i j).size<=x.cps.size;rw[Array.size_extract];omega
def yi (m:Nat)(z:af):Option Int:=if z.length<=m/\uz z.cps.toList=true then some ((digitsVal z.cps.toList:Nat):Int) else none
inductive xM (cT:ag)(vs:List V)(H:Hp)(Q:VK)(E:XK):Prop|mk(z:af)(m:Nat)(_:vs=[.str z,.int (m:Nat)])(_:m<=100)(_:z.length<=4000000)(_:∀H',zk H H'->(∀r,yi m z=some r->Q (.int r) H')/\(yi m z=none->E (.ref cT) none H'))
inductive Qp (cT:ag)(vs:List V)(H:Hp)(Q:VK)(E:XK):Prop|mk(z:af)(_:vs=[.str z])(_:z.length<=4000000)(_:∀H',zk H H'->(∀r,yi 13 z=some r->Q (.int r) H')/\(yi 13 z=none->E (.ref cT) none H'))
theorem yg (z y:af):(av z y).length<=z.length+2/\(∀w∈av z y,w.length<=z.length)/\∃w ws,av z y=w::ws:=by
 have pb:∀SF:List Nat,∀w∈aZ z SF y.length,w.length<=z.length:=λSF w hw=>by
  unfold aZ at hw;obtain⟨p,_,rfl⟩:=CK.mp hw;exact X7 _ _ _
 unfold av;split
 ·exact⟨by rw[dB];lia,λw hw=>by rw[CY.mp hw];exact CI _,z,[],U⟩
 ·split
  ·exact⟨by rw[dB];lia,λw hw=>by rw[CY.mp hw];exact CI _,z,[],U⟩
  ·refine⟨?_,pb _,?_⟩
   ·rw[sN];have:=StrLaws.occ_length_le z y 0 z.length (z.length+1);lia
   ·cases e:aZ z (fk z y 0 z.length (z.length+1)) y.length with
    |nil=>
     have:=sN z (fk z y 0 z.length (z.length+1)) y.length;rw[e]at this;cases this
    |cons w ws=>exact⟨w,ws,U⟩
theorem yw (y:af)(h:z.length<=2000000):(aZ z (fk z y 0 z.length (z.length+1)) y.length).length<=au:=by
 rw[sN,ai];have:=StrLaws.occ_length_le z y 0 z.length (z.length+1);lia
def gQ (a b:Option Int):Option (Int×Int):=match a,b with
 |some a,some b=>some (a,b)
 |_,_=>none
def yK (z:af):Option (Int×Int):=match av z ":" with
 |[a,b]=>gQ (yi 13 a) (yi 13 b)
 |_=>none
inductive Qg (cT cB:ag)(vs:List V)(H:Hp)(Q:VK)(E:XK):Prop|mk(z:af)(_:vs=[.str z])(_:z.length<=2000000)(_:∀H',zk H H'->(∀p t,yK z=some p->H' t=some (.tup [.int p.1,.int p.2])->Q (.ref t) H')/\(yK z=none->E (.ref cT) none H'/\E (.ref cB) none H'))
def jf (ws:List af):Option (List (Int×Int)):=if (ws.map yK).all fM=true then some ((ws.map yK).filterMap id) else none
theorem QF (h:ws.map yK=qs.map some):jf ws=some qs:=by
 unfold jf;rw[h,K6 (by rw[Dv];exact dj.mpr λ_ _=>rfl),Hj]
 congr 1
 exact FN
theorem VP {w:af}(h:w∈ws)(n:yK w=none):jf ws=none:=by
 unfold jf
 rw[K5 λc=>by
  have:=dj.mp c _ (CK.mpr ⟨w,h,U⟩);rw[n]at this
  cases this]
inductive QY (cT cB:ag)(vs:List V)(H:Hp)(Q:VK)(E:XK):Prop|mk(z:af)(_:vs=[.str z])(_:z.length<=2000000)(_:∀H',zk H H'->(∀ps u,jf (av z ",")=some ps->vL H' u ps->Q (.ref u) H')/\(jf (av z ",")=none->E (.ref cT) none H'/\E (.ref cB) none H'))
end Pg
namespace K12
open PySem PySem.NumText L2 Pg
seal PE PA PT PW PS y8 PG j5 PI jQ PO PK
section
variable {K:BFr}{mg:af->Option ae}
theorem Rh (F:qU K "read_number" "read_number" (top 35) f fd)(G:vh mg)(X:Er K mg "BadText" cT)(C1:qX P w K mg base zY 2 "is_number_text" ["text"] VX):zL P w K mg base (jS P w) 3 f fd ["text","most_figures"] (xM cT):=by
 refine F.okE (N:=["text","most_figures"]) ?_ ?_ ?_;walk_at"t"
 ·obtain⟨z,m,rfl,_⟩:=h;rfl
 ·obtain⟨z,m,rfl,hm,hz,q⟩:=h;have SR:z.length<=au:=ui hz rfl;refine⟨_,zg (zK (PW.pt (yI (zx vX (zv qi U G.len aH (za (pv 0) zd)) (pv 1) (zD _)) (yJ (qB (qC (zq C1 hr ∅ zA (za (pv 0) zd))))))) (zh (qP qa U U X.at' X.ex (za zj zd))) zB) (zh (zt (zZ ja U G.int vV (za (pv 0) zd)))),?_⟩;refine⟨_,U,z,U,SR,_,U,_,_,U,U,_,U,qg (λe=>qY ⟨∅,(q H (zk.refl _)).2 ?_⟩) (λe=>?_)⟩
  ·have e:((m:Nat):Int)<((z.length:Nat):Int):=G' e;unfold yi;rw[K5 λh=>by have:=h.1;lia]
  have l2:z.length<=m:=by
   have e:¬((m:Nat):Int)<((z.length:Nat):Int):=λc=>e (i' c);lia
  refine⟨_,U,z,U,by lia,λH1 s1=>?_⟩;obtain⟨q1,q2⟩:=q H1 s1
  cases eb:uz z.cps.toList with
  |false=>
   refine⟨false,U,qY ⟨∅,q2 ?_⟩⟩;unfold yi;rw[K5 λh=>by rw[eb]at h;exact dq h.2]
  |true=>
   have fg:vM z.cps.toList=true:=by
    unfold uz at eb;rw[CM]at eb;exact eb.1
   obtain⟨d1,d2⟩:=jO fg;refine⟨true,U,qM ⟨_,U,z,_,U,Aa d1 d2 (by lia),by lia,q1 _ ?_⟩⟩;unfold yi;rw[K6 ⟨l2,eb⟩]
theorem nG (F:qU K "number_of" "number_of" (top 62) f fd)(N1:WQ mg "MOST_FIGURES" 13)(C1:qX P w K mg base (jS P w) 3 "read_number" ["text","most_figures"] (xM cT)):zL P w K mg base (jS P w) 4 f fd ["word"] (Qp cT):=by
 obtain⟨tk,em⟩:=N1;refine F.okE (N:=["word"]) ?_ ?_ ?_;walk_at"t"
 ·obtain⟨z,rfl,_⟩:=h;rfl
 ·obtain⟨z,rfl,hz,q⟩:=h;exact⟨_,zh (zt (zq C1 hr ∅ qO (za (pv 0) (za (zQ (v:=.int 13) U em ⟨tk,U⟩) zd)))),_,U,z,13,U,∅,hz,q⟩
theorem pO {cB:ag}(F:qU K "band_of" "band_of" (top 63) f fd)(G:vh mg)(X:Er K mg "BadRule" cB)(C1:qX P w K mg base (jS P w) 4 "number_of" ["word"] (Qp cT)):zL P w K mg base (jS P w) 5 f fd ["text"] (Qg cT cB):=by
 have nd:(["text","ends"]:List af).Nodup:=⋯
 refine F.okE (nS nd ?_) ?_ ?_;walk_at"t"
 ·obtain⟨z,rfl,_⟩:=h;rfl
 ·obtain⟨z,rfl,hz,q⟩:=h;have zf:z.length<=au:=ui hz rfl
  refine⟨_,zg (zF (i:=1) nd U (ay U) (qH aq aI aR jg (pv 0) (za zj zd))) (zg (zK (zx uB (zv zJ U G.len aH (za (pv 1) zd)) ze (zD _)) (zh (qP qa U U X.at' X.ex (za zj zd))) zB)
   (zh (zt (yM (za (zq C1 hr ∅ qO (za (zE zy (pv 1) ze) zd)) (za (zq C1 hr ∅ qO (za (zE zy (pv 1) ze) zd)) zd)))))),?_⟩
  obtain⟨sl,sn,w0,wr,ew⟩:=yg z ":";refine⟨_,U,U,_,_,U,U,U,zf,yw _ hz,λl H1 s1 n1 e1=>?_⟩
  by_cases h2:(av z ":").length=2
  ·obtain⟨a,b,eb⟩:∃a b,av z ":" = [a,b]:=by
    match av z ":",h2 with
    |[a,b],_=>exact⟨a,b,U⟩
   rw[eb]at e1 sn;have bo:yK z=gQ (yi 13 a) (yi 13 b):=by unfold yK;rw[eb]
   have la:a.length<=4000000:=CW (sn a (by simp)) (by lia);have lb:b.length<=4000000:=CW (sn b (by simp)) (by lia);have e1:H1 l=some (.lst [.str a,.str b]):=e1;refine⟨_,U,l,_,U,.inl (zN.of e1),U,_,U,qM ?_⟩;refine⟨_,U,l,_,_,_,U,U,zN.of e1,U,a,U,la,λH2 s2=>⟨λx ex=>?_,λex=>((q H2 (s1.trans s2)).2 (by rw[bo,ex];rfl)).1⟩⟩;refine⟨_,U,l,_,_,_,U,U,zN.of (s2 _ _ e1),U,b,U,lb,λH3 s3=>⟨λy ey=>?_,λey=>((q H3 (s1.trans (s2.trans s3))).2 (by rw[bo,ex,ey];rfl)).1⟩⟩;exact⟨zS U,λt H4 s4 n4 e4=>(q H4 (s1.trans (s2.trans (s3.trans s4)))).1 (x,y) t (by rw[bo,ex,ey];rfl) e4⟩
  ·have bo:yK z=none:=by
    unfold yK;split
    ·rename_i a b eb;exact K7 (by rw[eb];rfl) h2
    ·rfl
   refine⟨_,U,l,_,U,.inl (zN.of e1),U,_,U,qg (λ_=>⟨∅,((q H1 s1).2 bo).2⟩) (λe=>?_)⟩;refine K7 ?_ e;rw[CH,D' λz=>h2 (by injection z with z;lia)];rfl
end
end K12
variable {X_ rpos np2:fW}{Ct:L2.CT}
namespace L2
open PySem PySem.Spec PyProof.Rows
section
theorem lV {Q:α->ar->Prop}{oa:g_}{ws:Array ae}(e1:A.handled=some (.ref ea))(l:kh s.heap ea)(np:∀b,u6 s.heap ea b->b≠a)(ha:s.heap.get? a=some oa)(hd:oa.data=.fields ws)(hz:2<ws.size)(k:E (.ref a) {s with heap:=s.heap.update a (aV (·.setIfInBounds 2 (.ref ea)))}):wpAny (aA prog w) A (raiseNew (.ref a):Kv α) Q E s:=by
 have ne:ea≠a:=np _ .nil;unfold raiseNew;refine aa (wpAny_handled ?_);rw[e1];dsimp only;rw[K6 (show(aF ea != aF a)=true by simp[ne])];refine aa (d_ (Fc (Uu ?_ l np ea false (λ_=>.nil) λz=>nomatch z)));refine aa ?_;unfold updateField;refine aa (IW ha ?_);rw[hd];dsimp only;rw[K6 hz];exact wpAny_update ha (Fe k)
variable {nm q:af}{N:ag}{bs bm bmB:List ae}{hdct:Bool}{sn:List af}{sub:List ae}{ab:Bool}{col:Option Bool}{dd:Option ag}{k0 k1 k2 k3 k5:Option ae}{newId:String}
theorem xP {x c:Kv ae}{Q:Flow->ar->Prop}(U_:bm.contains (.type "BaseException")=true)(e1:A.handled=some (.ref ea))(hc:∀s' (Q':ae->ar->Prop),Q' .none s'->wpAny (aA prog w) A c Q' E s')(h:wpAny (aA prog w) A x (λv s₁=>∃e t,v=.ref e/\s₁.heap.get? C=some (Iq nm q C N bs bm hdct sn sub ab col dd k0 k1 k2 k3 k5 newId)/\s₁.heap.get? e=some {cls:=.ref C,data:=.fields #[.ref t,.none,.none,.none,.bool false,.none]} /\
   kh s₁.heap ea/\(∀b,u6 s₁.heap ea b->b≠e) /\
   (∀h',(∀b o,b≠e->s₁.heap.get? b=some o->h'.get? b=some o)->h'.get? e=some {cls:=.ref C,data:=.fields #[.ref t,.none,.ref ea,.none,.bool true,.none]}->E (.ref e) {s₁ with heap:=h'})) E s) :
  wpAny (aA prog w) A (raiseStmt env (some x) (some c)) Q E s:=by
 have hcB:(aF C::bm).contains (.type "BaseException")=true:=by rw[List.contains_cons,U_,Ew]
 unfold raiseStmt;refine aa (fh h (λv s₁ h₁=>?_) λ_ _ x=>x);obtain⟨e,t,rfl,hC,he,l,np,hE⟩:=h₁;obtain⟨hp,g,d,tk,os⟩:=s₁;refine aa (d_ (hc _ _ (aa (aj ?_))));dsimp only
 repeat (first |with_reducible refine Ai he ?_ |with_reducible refine Ai hC ?_ | (with_reducible refine wpAny_isSubtype_exc hC ?_;rw[hcB]) |wp_step)
 have nCe:e≠C:=λz=>by
  rw[z]at he;rw[show hp.get? C=_ from hC]at he;cases he
 have hC2:((hp.update e (aV λx=>x.setIfInBounds 3 aN)).update e (aV λx=>x.setIfInBounds 4 (fO true))).get? C=some (Iq nm q C N bs bm hdct sn sub ab col dd k0 k1 k2 k3 k5 newId):=(d4 _ _ nCe).trans ((d4 _ _ nCe).trans hC);have he1:=Du (aV λx=>x.setIfInBounds 3 aN) (show hp.get? e=_ from he) rfl;have he2:=Du (aV λx=>x.setIfInBounds 4 (fO true)) he1 rfl;have SJ:∀b o,b≠e->hp.get? b=some o->((hp.update e (aV λx=>x.setIfInBounds 3 aN)).update e (aV λx=>x.setIfInBounds 4 (fO true))).get? b=some o:=λb o hb z=>(d4 _ _ (fK hb)).trans ((d4 _ _ (fK hb)).trans z);have he2:((hp.update e (aV λx=>x.setIfInBounds 3 aN)).update e (aV λx=>x.setIfInBounds 4 (fO true))).get? e=some {cls:=.ref C,data:=.fields #[.ref t,.none,.none,.none,.bool true,.none]}:=he2;generalize (hp.update e (aV λx=>x.setIfInBounds 3 aN)).update e (aV λx=>x.setIfInBounds 4 (fO true))=h3 at hC2 he2 SJ;have l3:kh h3 ea:=l.keeps λb o p z=>SJ b o (np b p) z;have np3:∀b,u6 h3 ea b->b≠e:=λb p=>np b (p.back l λc o q z=>SJ c o (np c q) z);refine Ai hC2 (aj ?_);rw[K6 (by rfl)];refine aj (aa ?_);unfold Fz;refine aa (fR (x:=.none) he2 U U ?_);rw[K5 ∅];refine aj (lV e1 l3 np3 he2 U (by show 2<6;decide) (hE _ (λb o hb z=>(d4 _ _ (fK hb)).trans (SJ b o hb z)) ?_));exact Du _ he2 rfl
end
section
variable {Q:Unit->ar->Prop}{C:CT}[ct:Zh C]
def YA (C:CT)(X:Cx)(pins:List (ag×g_))(H:Hp)(ea:ag)(cls fl:ae)(h:fi):Prop:=yL X pins H ea/\∃oe vs,h.get? ea=some oe/\(oe.cls=cls/\oe.dict=none)/\oe.data=.fields vs/\C H vs /\
 ∃T oT ts,vs[1]?=some (.ref T)/\T≠ea/\yL X pins H T/\h.get? T=some oT/\oT.data=.fields ts/\ts[3]?=some fl
omit ct in
theorem YA.fly (F:YA C X pins H ea cls fl h):ko C X pins H ea cls fl h:=by
 obtain⟨f0,oe,vs,he,hc,hd,h2,hh⟩:=F;exact⟨f0,oe,vs,he,hc,hd,h2,.inr hh⟩
omit ct in
theorem ko.head {L:ag}(F:ko C X pins H ea cls (fj L) h):YA C X pins H ea cls (fj L) h:=by
 obtain⟨f0,oe,vs,he,hc,hd,h2,hh⟩:=F;rcases hh with⟨_,z⟩ |hh
 ·exact K7 z (by simp[fj])
 ·exact⟨f0,oe,vs,he,hc,hd,h2,hh⟩
omit ct in
theorem ZW {fr:Option ag}(I:zH X pins σ H s)(F:YA C X pins H ea cls fl s.heap)(k:∀s',zH X pins σ H s'->YA C X pins H ea cls (fr.elim .none λf=>fj f) s'.heap->Q () s'):wpAny M A (Fz (.ref ea) fr) Q E s:=by
 obtain⟨f0,oe,vs,he,hc,hd,h2,T,oT,ts,h1,SQ,fT,hT,Si,h3⟩:=F;have hz:3<ts.size:=(Dk.mp h3).1;unfold Fz;refine aa (fR he hd h1 ?_);rw[K6 (show(aF T != aN)=true by simp)];have SJ:∀c,c≠T->(s.heap.update T (aV (·.setIfInBounds 3 (fr.elim aN λf=>fj f)))).get? c=s.heap.get? c:=λc hc=>d4 _ _ (fK hc);have hT':=Du (aV (·.setIfInBounds 3 (fr.elim aN λf=>fj f))) hT (si (ig Si _));refine y_ hT Si hz (k _ (I.flown fT λc o hc q=>(SJ c hc).trans q) ⟨f0,oe,vs,(SJ ea (fK SQ)).trans he,hc,hd,h2,T,_,_,h1,SQ,fT,hT',ig Si _,?_⟩)
 simp[hz]
omit ct in
theorem gS (I:zH X pins σ H s)(F:YA C X pins H ea cls fl s.heap)(hf:X.env.frame=some X.env.locals)(k:∀s',zH X pins σ H s'->YA C X pins H ea cls (fj X.env.locals) s'.heap->E (.ref ea) s'):Ko M A X.env E (.ref ea) s:=by
 obtain⟨_,oe,vs,he,_,hd,_,T,oT,ts,h1,_⟩:=id F;unfold Ko;refine aa (fR he hd h1 ?_);rw[K5 (show ¬((aF T==aN)=true) by simp)];rw[hf];exact ZW I F k
omit ct in
theorem nQ {Q:α->ar->Prop}{what:String}(I:zH X pins σ H s)(F:YA C X pins H ea cls fl s.heap)(hf:X.env.frame=some X.env.locals)(k:∀s',zH X pins σ H s'->YA C X pins H ea cls (fj X.env.locals) s'.heap->E (.ref ea) s'):wpAny M A (HR what (.ref ea) X.env:Kv α) Q E s:=by
 obtain⟨_,oe,vs,he,_,hd,_,T,oT,ts,h1,_⟩:=id F;unfold HR;refine aa (fR he hd h1 ?_);rw[K5 (show ¬((aF T==aN)=true) by simp)];rw[hf];exact aa (ZW I F λs' I' F'=>Fe (k s' I' F'))
end
abbrev UA:=yA
theorem YY {C:CT}[ct:Zh C]{K:BFr}{mg:af->Option ae}{E:XK}:
  UA C (u5 (GK C P w) P w K mg base N qual scope f cd A outer s H E) E:=qa
def kM (E:XK)(C ea:ag)(t:TA):TS:=λ_ σ H=>t σ H λvs H1=>vs.length<=au/\(∃oe u ws,H1 ea=some (.frz oe u)/\oe.data=.fields ws/\vw H1 ws)/\E (.ref C) none H1
theorem G9 {E:XK}{rest:List aQ}{t:TA}{pos:fW}(hE:yA vw X E)(hh:X.A.handled=some (.ref ea))(hg:Gl X x)(hm:X.mg x=some (.ref C))(hx:hU X.K C ZQ "ValueError.__new__" = true)(ha:PA X (e₀ :: rest) t)(he:ax (e₀ :: rest) X.env=(false,eval e₀ X.env)::ax rest X.env:=by exact zW U)(Sa:(ff K' (ax rest X.env)).any (·.1)=false:=by exact yF U)(Sd:(x==("__debug__":af))=false:=by decide):
  PS X (.Raise (some (.Call (.Name x np) (e₀ :: rest) [] K')) (some (.Constant .none j X_)) pos) (kM E C ea t):=by
 intro pins s σ H D I h;obtain⟨bm,N,nm,qn,bs,hd,sn,sub,ab,col,dd,k0,k1,k2,k3,k5,mN,oC,oN,ni,T⟩:=gX I.ok.mod.kin hx;have FB:=Ad;rw[arm_exec_Raise];refine aa (iL ?_);refine xP (C:=C) (nm:=nm) (q:=qn) (N:=N) (bs:=bs) (bm:=bm) (hdct:=hd) (sn:=sn) (sub:=sub) (ab:=ab) (col:=col) (dd:=dd) (k0:=k0) (k1:=k1) (k2:=k2) (k3:=k3) (k5:=k5) (newId:="ValueError.__new__") (T.hasType FB.hasBase) hh (λs' Q' q=>?_) ?_
 ·exact aa (Constant_none (aa (iL (aj q))))
 refine aa (fh (wpAny_Call_ofName (jW I hg hm ?_ Sd)) (λv s₃ h₃=>aa (iL (aj h₃))) λ_ _ x=>x);unfold t_;have q:=ha K' pins s σ H _ I h;rw[he]at q ⊢;refine aa (d_ (iT (yj q λus s2 ⟨vs,H1,I1,r,hl,⟨oe,u,ws,f1,f2,f3⟩,w⟩=>?_)));refine aa (iL ?_);have hpl2:((ff K' ((false,eval e₀ X.env)::ax rest X.env)).any (·.1))=false:=by show(false || (ff K' (ax rest X.env)).any (·.1))=false;rw[Sa];rfl
 simp only[hpl2];obtain⟨hp,g,d,tk,os⟩:=s2;have oC1:=I1.bk _ _ oC;refine aa (wpAny_keeperOf_exc oC1 ?_);refine aa (wpAny_call_exc_subT (hrest:=by show us.length<=au;rw[<- r.length];exact hl) FB (T.keeps I1.bk) oC1 (oN.keeps I1.bk) ni λh' e made=>aa (d_ (wpAny_point (aj ?_))));obtain⟨t0,there,_,_⟩:=made.there;obtain⟨l0,_⟩:=f3.line (h:=hp) (λb o u e=>(I1.hok b _ e).1) f1 f2
 have np:∀b,u6 h' ea b->b≠e:=λb p z=>by
  obtain⟨o,eo⟩:=(l0.path (p.back l0 λc o _ q=>made.keeps _ _ q)).there;rw[z]at eo;rw[show hp.get? e=none from made.new]at eo;cases eo
 refine⟨e,t0,U,made.keeps _ _ oC1,there,l0.keeps (λb o _ q=>made.keeps _ _ q),np,λh2 k2 e2=>?_⟩;have kp:∀b o,hp.get? b=some o->h2.get? b=some o:=λb o z=>k2 b o (λc=>by rw[c,made.new]at z;cases z) (made.keeps _ _ z);refine hE pins σ H1 _ e (.ref C) .none (I1.kept (t':=tk) kp) ⟨I1.fpNone made.new (I1.none_of made.new),_,_,e2,⟨U,U⟩,U,.on U f1 f2 f3,.inl ⟨U,U⟩⟩ w
theorem Wm {D:j6}{f:Flow}{s1:ar}(ok:X.Ok):SP (X.tr (X.pn++pins) E) [] D f s1->(match f with
  |.next=>wpAny (aA X.prog X.w) X.A (execs [] X.env) (SP X pins D) X.xe s1
  |f=>SP X pins D f s1):=by
 intro q
 cases f with
 |next=>
  obtain⟨σ',H',I',q⟩:=q;exact i6 ⟨σ',H',I'.ofTr ok,q⟩
 |brk=>obtain⟨σ',H',I',q⟩:=q;exact⟨σ',H',I'.ofTr ok,q⟩
 |cont=>obtain⟨σ',H',I',q⟩:=q;exact⟨σ',H',I'.ofTr ok,q⟩
 |ret u=>obtain⟨v,σ',H',I',r,q⟩:=q;exact⟨v,σ',H',I'.ofTr ok,r,q⟩
section
variable {Ct:CT}[ct:Zh Ct]{y:af}{E:XK}{t:TA}{rest:List aQ}{D:j6}
theorem mK (hE:yA vw X E)(hs:X.stack=X.env::X.outer)(hf:X.env.frame=some X.env.locals)(hg2:Gl X y)(S9:X.mg y=some (.ref C))(hx:hU X.K C ZQ "ValueError.__new__" = true)(ha:∀pn ea E,PA (X.hdl pn ea E) (e₀ :: rest) t)(he:ax (e₀ :: rest) X.env=(false,eval e₀ X.env)::ax rest X.env)(Sa:(ff K' (ax rest X.env)).any (·.1)=false)(X':(y==("__debug__":af))=false)(ok:X.Ok)(J:zH (X.hdl (X.pn++pins) ea λ_ _=>True) [] σ H s)(F:ko Ct (X.hdl (X.pn++pins) ea λ_ _=>True) [] H ea cls .none s.heap)(hw:∀oe vs,oe.data=.fields vs->Ct H vs->kM E C ea t D σ (upd H ea (Ys ea oe))):
  codeAny (aA X.prog X.w) (X.A.mark (some (.ref ea))) (.handlers (.ref ea) [.ExceptHandler none none [.Raise (some (.Call (.Name y np2) (e₀ :: rest) [] K')) (some (.Constant .none j X_)) rpos] V'] X.env) (λr s₂=>match r with
   |.ok f=>SP X pins D f s₂
   |.error x=>Ko (aA X.prog X.w) X.A X.env X.xe x s₂) s:=by
 refine codeAny_handlers_suite ?_;refine kR J F λs4 J4 F4=>?_;obtain⟨f4,oe,vs,he4,hc,hd,h2',_⟩:=F4;have J5:zH (X.hdl (X.pn++pins) ea λ_ _=>True) [] σ (upd H ea (Ys ea oe)) s4:=J4.hold f4 he4;have J5':∀E,zH (X.hdl (X.pn++pins) ea E) [] σ (upd H ea (Ys ea oe)) s4:=λE=>⟨ok.hdl,J5.os,J5.bare,J5.base,J5.loc,J5.cell,J5.free,J5.freeC,J5.pin,J5.hok,J5.len⟩;have Sj:∀(EE:ae->ar->Prop),yA vw (X.hdl (X.pn++pins) ea EE) E->y8 (X.hdl (X.pn++pins) ea EE) [.Raise (some (.Call (.Name y np2) (e₀ :: rest) [] K')) (some (.Constant .none j X_)) rpos] (kM E C ea t):=λEE hT=>zh (G9 (X:=X.hdl (X.pn++pins) ea EE) hT U hg2 S9 hx (ha _ ea EE) he Sa X');refine fh (Sj _ ?_ [] s4 σ _ D (J5' _) (hw oe vs hd h2')) (λf s5 q=>?_) λ_ _ z=>z
 ·intro pins2 σ2 H2 s5 e2 cls2 fl2 I5 F5 q5;have I6:zH X pins σ2 H2 s5:=⟨ok,I5.os,I5.bare,I5.base,I5.loc,I5.cell,I5.free,I5.freeC,λp hp=>I5.pin p (d9 _ hp),I5.hok,I5.len⟩;have SW:∀{b:ag} {EE:ae->ar->Prop},yL (X.hdl (X.pn++pins) ea EE) pins2 H2 b->yL X pins H2 b:=λ{b EE} f=>⟨f.1,f.2.1,f.2.2.1,f.2.2.2.1,f.2.2.2.2.1,λp hp=>f.2.2.2.2.2 p (d9 _ hp)⟩
  have F6:ko vw X pins H2 e2 cls2 fl2 s5.heap:=by
   obtain⟨f0,oe,vs,he,hc,hd,h2,hh⟩:=F5;refine⟨SW f0,oe,vs,he,hc,hd,h2,?_⟩;rcases hh with z |⟨T,oT,ts,h1,ne,fT,hT,Si,h3⟩
   ·exact .inl z
   ·exact .inr ⟨T,oT,ts,h1,ne,SW fT,hT,Si,h3⟩
  exact wq (A:=X.A.mark (some (.ref ea))) I6 F6 hs hf ok.frames λs7 I7 F7=>gS I7 F7.head hf λs8 I8 F8=>hE pins σ2 H2 s8 e2 cls2 _ I8 F8.fly q5
 ·cases f with
  |next=>obtain⟨σ',H',I',q⟩:=q;exact⟨σ',H',I'.ofHdl ok,q⟩
  |brk=>obtain⟨σ',H',I',q⟩:=q;exact⟨σ',H',I'.ofHdl ok,q⟩
  |cont=>obtain⟨σ',H',I',q⟩:=q;exact⟨σ',H',I'.ofHdl ok,q⟩
  |ret u=>obtain⟨v,σ',H',I',r,q⟩:=q;exact⟨v,σ',H',I'.ofHdl ok,r,q⟩
theorem rQ {Q:Flow->ar->Prop}(hE:yA vw X E)(hf:X.env.frame=some X.env.locals)(ok:X.Ok)(I3:zH (X.tr (X.pn++pins) λ_ _=>True) [] σ H s)(F3h:YA Ct (X.tr (X.pn++pins) λ_ _=>True) [] H ea cls .none s.heap)(hp:E cls none H):wpAny (aA X.prog X.w) X.A (handleBy (.ref ea) X.env []) Q X.xe s:=by
 refine wpAny_handleBy_nil ?_;have I4:zH X pins σ H s:=I3.ofTr ok
 have F4:YA vw X pins H ea cls .none s.heap:=by
  obtain⟨f0,oe,vs,he,hc,hd,h2,T,oT,ts,h1,SQ,fT,hT,Si,h3⟩:=F3h;have SW:∀{b:ag},yL (X.tr (X.pn++pins) λ_ _=>True) [] H b->yL X pins H b:=λ{b} f=>⟨f.1,f.2.1,f.2.2.1,f.2.2.2.1,f.2.2.2.2.1,λp hp=>f.2.2.2.2.2 p (by simpa using hp)⟩;exact⟨SW f0,oe,vs,he,hc,hd,ct.ctx h2,T,oT,ts,h1,SQ,SW fT,hT,Si,h3⟩
 exact nQ I4 F4 hf λs5 I5 F5=>hE pins σ H s5 ea cls _ I5 F5.fly hp
end
def bF (Ct:CT)(K:BFr)(c:ag)(R E:XK)(C:ag)(tb:TS)(t:TA):TS:=λD σ H=>tb D σ H/\∀(ea:ag) (oe:g_) (vs:Array ae) (cls:ae) (σ':St) (H':Hp),R cls none H'->H' ea=none->oe.data=.fields vs->Ct H' vs ->
 (aX K cls (.ref c)=some true/\kM E C ea t D σ' (upd H' ea (Ys ea oe)))∨(aX K cls (.ref c)=some false/\E cls none H')
theorem NS [ct:Zh Ct]{y:af}{c:ag}{R E:XK}{t:TA}{rest:List aQ}{pos:fW}(hE:UA vw X E)(hs:X.stack=X.env::X.outer)(hf:X.env.frame=some X.env.locals)(hg:Gl X x)(hm:X.mg x=some (.ref c))(hg2:Gl X y)(S9:X.mg y=some (.ref C))(hx:hU X.K C ZQ "ValueError.__new__" = true)(hb:∀pn,y8 (X.tr pn (ZY Ct X pn R)) body tb)(ha:∀pn ea E,PA (X.hdl pn ea E) (e₀ :: rest) t)(he:ax (e₀ :: rest) X.env=(false,eval e₀ X.env)::ax rest X.env:=by exact zW U)(Sa:(ff K' (ax rest X.env)).any (·.1)=false:=by exact yF U)(Sd:(x==("__debug__":af))=false:=by decide)(X':(y==("__debug__":af))=false:=by decide):
  PS X (.Try body [.ExceptHandler (some (.Name x np)) none [.Raise (some (.Call (.Name y np2) (e₀ :: rest) [] K')) (some (.Constant .none j X_)) rpos] V'] [] [] pos) (bF Ct X.K c R E C tb t):=by
 intro pins s σ H D I h;obtain⟨h1,h2⟩:=h;have ok:=I.ok;refine AD (fh (hb (X.pn++pins) [] s σ H D I.tr h1) (λf s1 q=>?_) λe s1 q=>?_)
 ·exact Wm ok q
 ·obtain⟨ea,cls,fl,σ1,H1,rfl,I1,F1,r1⟩:=q;refine wq (X:=X.tr (X.pn++pins) λ_ _=>True) I1 F1 hs hf I1.ok.frames λs2 I2 F2=>?_;refine ZW (fr:=none) I2 F2.head λs3 I3 F3h=>?_;have F3:=F3h.fly;have J3:zH (X.hdl (X.pn++pins) ea λ_ _=>True) [] σ1 H1 s3:=I3.toHdl ok;obtain⟨f3,oe3,vs3,he3,hc3,hd3,hv3,_⟩:=id F3;refine iX (iM (jW J3 hg hm ?_ Sd)) (by intro q;cases q)
  have LT:FR (aA X.prog X.w) s3.heap (KW (.ref ea)) cls:=by
   rw[<- hc3.1];exact(AJ he3).andThen .now
  rcases h2 ea oe3 vs3 cls σ1 H1 r1 f3.1 hd3 hv3 with⟨hR,_⟩ |⟨hR,hp⟩
  ·refine(iq J3.kIn LT hR).here ?_;refine mK hE hs hf hg2 S9 hx ha he Sa X' ok J3 F3.toHdl λoe vs hd hv=>?_;obtain⟨_,w5⟩ |⟨z,_⟩:=h2 ea oe vs cls σ1 H1 r1 f3.1 hd hv
   ·exact w5
   ·rw[hR]at z;cases z
  ·refine(iq J3.kIn LT hR).here ?_;exact rQ hE hf ok I3 F3h hp
def Rr (Ct:CT)(K:BFr)(c c':ag)(R E:XK)(C C':ag)(tb:TS)(t t':TA):TS:=λD σ H=>tb D σ H/\∀(ea:ag) (oe:g_) (vs:Array ae) (cls:ae) (σ':St) (H':Hp),R cls none H'->H' ea=none->oe.data=.fields vs->Ct H' vs ->
 (aX K cls (.ref c)=some true/\kM E C ea t D σ' (upd H' ea (Ys ea oe)))∨(aX K cls (.ref c)=some false /\
  ((aX K cls (.ref c')=some true/\kM E C' ea t' D σ' (upd H' ea (Ys ea oe)))∨(aX K cls (.ref c')=some false/\E cls none H')))
theorem LA [ct:Zh Ct]{y x' y':af}{c c' C':ag}{R E:XK}{t t':TA}{e₀':aQ}{rest rest':List aQ}{j':Nat}{np' np2' cpos' npos' rpos' hpos' pos:fW}(hE:UA vw X E)(hs:X.stack=X.env::X.outer)(hf:X.env.frame=some X.env.locals)(hg:Gl X x)(hm:X.mg x=some (.ref c))(hg2:Gl X y)(S9:X.mg y=some (.ref C))(hx:hU X.K C ZQ "ValueError.__new__" = true)(hg':Gl X x')(hm':X.mg x'=some (.ref c'))
  (hg2':Gl X y') (hm2':X.mg y'=some (.ref C')) (hx':hU X.K C' ZQ "ValueError.__new__" = true) (hb:∀pn,y8 (X.tr pn (ZY Ct X pn R)) body tb) (ha:∀pn ea E,PA (X.hdl pn ea E) (e₀ :: rest) t) (ha':∀pn ea E,PA (X.hdl pn ea E) (e₀'::rest') t') (he:ax (e₀ :: rest) X.env=(false,eval e₀ X.env)::ax rest X.env:=by exact zW U) (Sa:(ff K' (ax rest X.env)).any (·.1)=false:=by exact yF U) (Sd:(x==("__debug__":af))=false:=by decide) (X':(y==("__debug__":af))=false:=by decide)
  (he':ax (e₀'::rest') X.env=(false,eval e₀' X.env)::ax rest' X.env:=by exact zW U) (hpl':(ff cpos' (ax rest' X.env)).any (·.1)=false:=by exact yF U) (hdb':(x'==("__debug__":af))=false:=by decide) (hdb2':(y'==("__debug__":af))=false:=by decide) :
  PS X (.Try body [.ExceptHandler (some (.Name x np)) none [.Raise (some (.Call (.Name y np2) (e₀ :: rest) [] K')) (some (.Constant .none j X_)) rpos] V',.ExceptHandler (some (.Name x' np')) none [.Raise (some (.Call (.Name y' np2') (e₀'::rest') [] cpos')) (some (.Constant .none j' npos')) rpos'] hpos'] [] [] pos) (Rr Ct X.K c c' R E C C' tb t t'):=by
 intro pins s σ H D I h;obtain⟨h1,h2⟩:=h;have ok:=I.ok;refine AD (fh (hb (X.pn++pins) [] s σ H D I.tr h1) (λf s1 q=>?_) λe s1 q=>?_)
 ·exact Wm ok q
 ·obtain⟨ea,cls,fl,σ1,H1,rfl,I1,F1,r1⟩:=q;refine wq (X:=X.tr (X.pn++pins) λ_ _=>True) I1 F1 hs hf I1.ok.frames λs2 I2 F2=>?_;refine ZW (fr:=none) I2 F2.head λs3 I3 F3h=>?_;have F3:=F3h.fly;have J3:zH (X.hdl (X.pn++pins) ea λ_ _=>True) [] σ1 H1 s3:=I3.toHdl ok;obtain⟨f3,oe3,vs3,he3,hc3,hd3,hv3,_⟩:=id F3;refine iX (iM (jW J3 hg hm ?_ Sd)) (by intro q;cases q)
  have LT:FR (aA X.prog X.w) s3.heap (KW (.ref ea)) cls:=by
   rw[<- hc3.1];exact(AJ he3).andThen .now
  have h3:=λoe vs=>h2 ea oe vs cls σ1 H1 r1 f3.1;rcases h3 oe3 vs3 hd3 hv3 with⟨hR,_⟩ |⟨hR,hp⟩
  ·refine(iq J3.kIn LT hR).here ?_;refine mK hE hs hf hg2 S9 hx ha he Sa X' ok J3 F3.toHdl λoe vs hd hv=>?_;obtain⟨_,w5⟩ |⟨z,_⟩:=h3 oe vs hd hv
   ·exact w5
   ·rw[hR]at z;cases z
  ·refine(iq J3.kIn LT hR).here ?_;refine iX (iM (jW J3 hg' hm' ?_ hdb')) (by intro q;cases q);rcases hp with⟨hR',_⟩ |⟨hR',hp⟩
   ·refine(iq J3.kIn LT hR').here ?_;refine mK hE hs hf hg2' hm2' hx' ha' he' hpl' hdb2' ok J3 F3.toHdl λoe vs hd hv=>?_;obtain⟨z,_⟩ |⟨_,⟨_,w5⟩ |⟨z,_⟩⟩:=h3 oe vs hd hv
    ·rw[hR]at z;cases z
    ·exact w5
    ·rw[hR']at z;cases z
   ·refine(iq J3.kIn LT hR').here ?_;exact rQ hE hf ok I3 F3h hp
inductive L4 (Ct:CT)(X:Cx)(Nc:List af)(scope:sZ)(cl:List (af×ag))(C:ag)(fp:List ag)(s:ar)(H:Hp)(E:XK)(e:ae)(s':ar):Prop|mk(ea:ag)(cls fl:ae)(pins:List (ag×g_))(σ:St)(H':Hp)(_:e=.ref ea)(_:zH (qv (λ_ _=>True) X Nc scope cl C fp s H) pins σ H' s')(_:ko Ct (qv (λ_ _=>True) X Nc scope cl C fp s H) pins H' ea cls fl s'.heap)(_:E cls none H')
theorem Yn {E:XK}:yA Ct (qv (L4 Ct X Nc scope cl C fp s H E) X Nc scope cl C fp s H) E:=by
 intro pins σ H' s' ea cls fl I F q;exact⟨ea,cls,fl,pins,σ,H',U,⟨⟨I.ok.mod,I.ok.kind,I.ok.glob,I.ok.blt,I.ok.above,I.ok.inj,I.ok.has,I.ok.cab,I.ok.hd,I.ok.frames,I.ok.stk,I.ok.exf,I.ok.bs,I.ok.bsz,I.ok.noex,I.ok.exfs,I.ok.funs,I.ok.frf⟩,I.os,I.bare,I.base,I.loc,I.cell,I.free,I.freeC,I.pin,I.hok,I.len⟩,F,q⟩
theorem Ws [ct:Zh Ct]{E:XK}{use:Option (ae->Kv Unit)}{H3:Hp}{s3:ar}{x L_:ae}(hE:yA Ct X E)(SN:X.stack=X.env::X.outer)(hf:X.env.frame=some X.env.locals)(I3:zH X pins σ H3 s3)(f3:∀b∈fp,yL X pins H3 b)(z:L4 Ct X Nc scope cl s3.heap.objs.size fp s3 H3 E x s'):notedBy (aA X.prog X.w) X.A (Kd scope cl s3.heap.objs.size X.env) (λe s''=>Ho (aA X.prog X.w) X.A X.xe use Q L_ s3.heap.objs.size (.error e) s'') x s':=by
 obtain⟨ea,cls,fl,Sz,σ',H',rfl,J',F',q⟩:=z;have J0:zH (qv (λ_ _=>True) X Nc scope cl s3.heap.objs.size fp s3 H3) [] σ' H' s':=⟨J'.ok,J'.os,J'.bare,J'.base,J'.loc,J'.cell,J'.free,J'.freeC,λp hp=>K7 (show p∈([]:List (ag×g_)) from hp) (by simp),J'.hok,J'.len⟩;have nC:s3.heap.get? s3.heap.objs.size=none:=DW (CI _);generalize s3.heap.objs.size=C at *;have IX:zH X pins σ H' s':=uh I3 f3 J0 (HM _ _);have fpC:yL X pins H' C:=I3.fpNone nC J0.free;obtain⟨m,hn,_⟩:=id J0.loc;obtain⟨oC,es,ep,eC,dC,rC⟩:=id hn
 have fpX:∀{b:ag},yL (qv (λ_ _=>True) X Nc scope cl C fp s3 H3) Sz H' b->yL X pins H' b:=λ{b} f=>by
  rcases f.2.2.2.1 with z |z
  ·exact⟨f.1,(f3 b z).2⟩
  ·exact I3.fpNone z f.1
 have IXp:=IX.pinned (fp:=[C]) (λb SY=>by obtain rfl:b=C:=(by simpa using SY);exact fpC) (λb SY=>by obtain rfl:b=C:=(by simpa using SY);exact⟨oC,eC,λv z=>by rw[dC]at z;cases z⟩)
 have fpP:∀{b:ag},yL (qv (λ_ _=>True) X Nc scope cl C fp s3 H3) Sz H' b->yL X (pins++wC [C] s'.heap) H' b:=λ{b} f=>by
  have g:=fpX f;refine⟨g.1,g.2.1,g.2.2.1,g.2.2.2.1,g.2.2.2.2.1,λp hp=>?_⟩;rcases CQ.mp hp with hp |hp
  ·exact g.2.2.2.2.2 p (d9 _ hp)
  ·rcases CQ.mp hp with hp |hp
   ·exact g.2.2.2.2.2 p (dN _ hp)
   ·have e:p.1=C:=by simpa using (Vn hp).1
    rw[e];exactλz=>f.2.1 z.symm
 have FX:ko Ct X (pins++wC [C] s'.heap) H' ea cls fl s'.heap:=by
  obtain⟨f0,oe,vs,he,hc,hd,h2,hh⟩:=F';refine⟨fpP f0,oe,vs,he,hc,hd,h2,?_⟩;rcases hh with z |⟨T,oT,ts,h1,ne,fT,hT,Si,h3⟩
  ·exact .inl z
  ·exact .inr ⟨T,oT,ts,h1,ne,fpP fT,hT,Si,h3⟩
 have memC:((C,oC):ag×g_)∈wC [C] s'.heap:=uq (by simp) eC;show wpAny (aA X.prog X.w) X.A (HW (.ref ea) X.env) _ _ s';refine wq IXp FX SN hf IX.ok.frames λs4 I4 F4=>?_;have eC4:s4.heap.get? C=some oC:=(I4.pin (C,oC) (dN _ (dN _ memC))).1;refine⟨m,⟨oC,es,ep,eC4,dC,rC⟩,λh' hs' cenv hc'=>?_⟩;have I5:zH X pins σ H' {s4 with heap:=h'}:=I4.unpinned.flown fpC λb o hb e=>(hs'.2 b hb).trans e;have SW:∀{b:ag},yL X (pins++wC [C] s'.heap) H' b->yL X pins H' b/\b≠C:=λ{b} f=>⟨⟨f.1,f.2.1,f.2.2.1,f.2.2.2.1,f.2.2.2.2.1,λp hp=>f.2.2.2.2.2 p ((CQ.mp hp).elim (d9 _) λz=>dN _ (d9 _ z))⟩,λz=>f.2.2.2.2.2 (C,oC) (dN _ (dN _ memC)) z.symm⟩;obtain⟨f0,oe,vs,he,hc,hd,h2,T,oT,ts,h1,SQ,fT,hT,Si,h3⟩:=F4.head;have F5:YA Ct X pins H' ea cls (fj X.env.locals) h':=⟨(SW f0).1,oe,vs,(hs'.2 ea (SW f0).2).trans he,hc,hd,h2,T,oT,ts,h1,SQ,(SW fT).1,(hs'.2 T (SW fT).2).trans hT,Si,h3⟩;unfold HR;refine aa (fR ((hs'.2 ea (SW f0).2).trans he) hd h1 ?_);rw[K5 (show ¬((aF T==aN)=true) by simp)];exact aa (ZW (fr:=cenv.frame) I5 F5 λs6 I6 F6=>Fe (hE pins σ H' s6 ea cls _ I6 F6.fly q))
theorem P2 [ct:Zh Ct]{E:XK}{pos:fW}(hE:yA Ct X E)(SN:X.stack=X.env::X.outer)(hf:X.env.frame=some X.env.locals)(c:Zw X Nc scope cl src)(L':X.calm=true)(hi:PI X So iter wi)(hb:∀fp C s' H' xe,yA Ct (qv xe X Nc scope cl C fp s' H') E->PG (qv xe X Nc scope cl C fp s' H') So g/\jQ (qv xe X Nc scope cl C fp s' H') Sv tt/\PE (qv xe X Nc scope cl C fp s' H') Sx te)(hs:∀x,iO iter X.env x=pure x:=by intro _;rfl):PE X (.ListComp Sx [⟨So,iter,Sv,0⟩] scope pos) (UC src wi g tt te):=by
 intro pins s σ H Q I h;rw[eval_ListComp];refine iy (use:=none) rfl hs c.clos c.kind c.names (yj (hi pins s σ H _ I h) λv s1 h1=>yj h1 λitv s2 h2=>?_);obtain⟨it,fp,tn,J,H2,e,I2,T,Sl,f2,hT⟩:=h2;subst e;refine fF ?_ (by size_fits);have SE:∀b o,s2.heap.get? b=some o->(s2.heap.push {cls:=.type "list",data:=.seq ([]:List ae).toArray}).get? b=some o:=λb o e=>dc _ e;have I3:=I2.laid (a:=s2.heap.objs.size) (o:=.lst []) (t':=s2.toks) (h':=s2.heap.push {cls:=.type "list",data:=.seq ([]:List ae).toArray}) SE (CI _) ⟨du _,[],0,.nil,dA _ U⟩
 have ne:∀b∈fp,b≠s2.heap.objs.size:=λb hb=>by
  obtain⟨o,e,_⟩:=T.obj 0 _ Sl b hb;exact de (C5 e)
 have f3:∀b∈fp,yL X pins (upd H2 s2.heap.objs.size (.lst [])) b:=λb hb=>⟨by rw[zm (ne b hb)];exact(f2 b hb).1,(f2 b hb).2⟩;refine uv (it:=it) (R:=λC=>Ho (aA X.prog X.w) X.A X.xe none (EP X pins σ Q) _ C) c L' I3 T (T.keep _ _ _ Sl λb _ o e=>SE b o e) f3 (hb fp _ _ _ _ (Yn (Ct:=Ct) (E:=E))) (hT _ (I2.hok.fresh (CI _))) (λx s' z=>Ws hE SN hf I3 f3 z) λC ys σ' H' s' hC J' hD q=>?_;obtain⟨m,hn,_⟩:=id J'.loc;exact⟨m,hn,λh' hs'=>⟨.ref _,H',uh I3 f3 J' hs',U,q⟩⟩
end L2
namespace K12
open PySem PySem.NumText L2 Pg
seal PE PA PT PW PS y8 PG j5 PI jQ PO PK
section
variable {K:BFr}{mg:af->Option ae}
theorem oB {cR':ag}(F:qU K "bands_of" "bands_of" (top 64) f fd)(G:vh mg)(C1:qX P w K mg base (jS P w) 5 "band_of" ["text"] (Qg cT cR')):zL P w K mg base (jS P w) 6 f fd ["word"] (QY cT cR'):=by
 have nc:(["text"]:List af).Nodup:=⋯
 refine F.okE (N:=["word"]) ?_ ?_ ?_;walk_at"t"
 ·obtain⟨z,rfl,_⟩:=h;rfl
 ·obtain⟨z,rfl,hz,q⟩:=h;have zf:z.length<=au:=ui hz rfl;refine' ⟨_,zh (zt (zZ jB U G.tuple yX (za ?comp zd))),?main⟩
  case comp=>
   refine' P2 (Ct:=C0) (E:=E) (cl:=[]) (src:=[none]) (g:=qc 0) (tt:=qL) (te:=λσ H Q=>qN (zV 0) y6 σ H λvs H1=>Qg cT cR' vs H1 Q E) qa rfl rfl
    (cO nc ⟨U,U,⋯,⋯,(λx c z=>nomatch z),qF (by rfl),zR qb,U⟩) rfl (ye (qH aq aI aR jg (pv 0) (za zj zd))) ?hb
   case hb=>
    intro fp C' s' H' xe th;exact⟨zO (i:=0) nc U (ay U),qt,zq C1 hr ∅ (jN U U th) (za (pv 0) zd)⟩
  obtain⟨sl,sn,_⟩:=yg z ",";refine⟨_,U,U,_,_,U,U,U,zf,yw _ hz,?_⟩;generalize av z "," = ws at q sl sn;refineλl H1 s1 n1 g1=>⟨l,U,⟨_,zN.of g1⟩,λD hD=>?_⟩;refine Y7 (K:=K) (a:=l) (xs:=ws.map V.str) (λi ys σ H'=>∃(x0:Option V) (qs:List (Int×Int)),σ=[x0]/\zk H1 H'/\H' D=some (.lst ys)/\ys.length=i/\(ws.take i).map yK=qs.map some/\qd H' ys (qs.map cB)) ⟨_,[],U,zk.upd hD,zi,U,U,qd.nil⟩ (λi ys σ H' hi ⟨x0,qs,e,s2,hd,_⟩=>⟨zN.of (s2 _ _ g1),hd⟩) ?_ ?_
  ·rintro i x ys σ H2 hx ⟨x0,qs,rfl,s2,hd,yl,em,T⟩;rw[CO]at hx
   cases hw:ws[i]? with
   |none=>rw[hw]at hx;cases hx
   |some w=>
    rw[hw]at hx;cases hx;have mw:=dG hw;have il:i<ws.length:=(C7.mp hw).1;unfold Qb qc qL;dsimp only;refine qY ⟨_,U,w,U,CW (sn w mw) (by omega),λH3 s3=>⟨λp t eb et=>?_,λeb=>(q H3 (s1.trans (s2.trans s3))).2 (VP mw eb)⟩⟩;have hd3:=s3 _ _ hd;refine⟨hd3,by rw[yl,ai];omega,?_⟩;refine⟨_,qs++[p],U,λb o hb=>?_,zi,?_,?_,?_⟩
    ·rw[zm (zC hb hD)];exact s3 _ _ (s2 _ _ hb)
    ·rw[CS,yl];rfl
    ·rw[dR,hw,CN,em,CN];show _++[yK w]=_;rw[eb];rfl
    ·rw[CN];exact qd.snoc ((T.same s3).upd λc z=>by rw[hd3]at z;cases z) (by rw[zm (yy et hd3 (by intro z;cases z))];exact et)
  ·rintro ys σ H2 ⟨x0,qs,rfl,s2,hd,yl,em,T⟩;rw[CH,Do (CI _)]at em;refine⟨D,ys,U,.inl ⟨zN.of hd,λu u0=>?_⟩⟩;have su:zk H2 (upd H2 u (.tup ys)):=zk.upd u0;exact(q _ (s1.trans (s2.trans su))).1 qs u (QF em) ⟨ys,zi,T.same su⟩
end
end K12
namespace L2
open PySem
theorem kQ {T ζ:TE}(h:PE X e T)(g:PE X e ζ):PE X e (λσ H Q=>T σ H Q∨ζ σ H Q):=λpins s σ H Q I c=>c.elim (h pins s σ H Q I) (g pins s σ H Q I)
end L2
namespace Pg
open PySem L2 Builtin Builtin.Str
def uL (r:Int):Bool:=decide (0<=r/\r<=1000000000000)
def vH (r:Int):Bool:=decide (0<=r/\r<=20000)
def Jx (ps:List (Int×Int)):List (Option (Int×Int)):=ps.map λp=>if (uL p.1&&vH p.2)=true then some p else none
def VT (n a:af):Option Rk:=(yi 13 a).bind λr=>if (yT n&&uL r)=true then some (.flat n r) else none
def Oc (n a w:af):Option Rk:=(yi 13 a).bind λp=>if (yT n&&(vH p&&wayL.contains w))=true then some (.share n p w) else none
def lK (n a b w:af):Option Rk:=(yi 13 a).bind λp=>(yi 13 b).bind λm=>if (yT n&&((vH p&&wayL.contains w)&&uL m))=true then some (.capped n p m w) else none
def Pf (n a b w:af):Option Rk:=(yi 13 a).bind λp=>(yi 13 b).bind λm=>if (yT n&&((vH p&&wayL.contains w)&&uL m))=true then some (.least n p m w) else none
def G1 (n a w:af):Option Rk:=(jf (av a ",")).bind λps=>if (yT n&&(JB (Jx ps)&&wayL.contains w))=true then some (.bands n ps w) else none
def Lr (n a w:af)(r:Rk):Option Rk:=(yi 13 a).bind λp=>if (yT n&&(vH p&&wayL.contains w))=true then some (.ontop n p w r) else none
def jy:List af->Option Rk
 |[k,n,a]=>if k = "flat" then VT n a else none
 |[k,n,a,w]=>if k = "share" then Oc n a w else if k = "bands" then G1 n a w else none
 |[k,n,a,b,w]=>if k = "capped" then lK n a b w else if k = "least" then Pf n a b w else none
 |_=>none
def wQ:Nat->List af->Option Rk
 |d+1,k::n::a::w::o::x::ws=>if k = "ontop"/\o = "of" then (wQ d (x::ws)).bind λr=>Lr n a w r else jy (k::n::a::w::o::x::ws)
 |0,k::n::a::w::o::x::ws=>if k = "ontop"/\o = "of" then none else jy (k::n::a::w::o::x::ws)
 |_,ws=>jy ws
theorem wN {n:af}(h:yT n=true):yx n:=by
 unfold yT at h;rw[CM]at h;refine⟨xi h.1,?_⟩;have h2:=h.2
 cases q:noNames.contains n with
 |false=>rfl
 |true=>rw[q]at h2;cases h2
theorem Ym {r:Int}(h:uL r=true):Vd r:=by
 have h:0<=r/\r<=1000000000000:=G' h;exact h
theorem Zn {r:Int}(h:vH r=true):YM r:=by
 have h:0<=r/\r<=20000:=G' h;exact h
theorem LW:∀{ps:List (Int×Int)},vP (ps.map (·.1))=true->Up ps
 |[],_=>fX
 |[p],_=>j_ (λ_ h=>nomatch h) fX
 |p::q::r,h=>by
  have h:(decide (p.1<q.1)&&vP ((q::r).map (·.1)))=true:=h;rw[CM]at h;have lt:=G' h.1;have ih:=LW h.2;refine j_ (λx hx=>?_) ih;rcases CJ.mp hx with rfl |hx
  ·exact lt
  ·exact Int.lt_trans lt ((DD.mp ih).1 x hx)
theorem rX (h:JB (Jx ps)=true):QR ps:=by
 unfold JB at h;rw[CM,CM,CM]at h;obtain⟨h1,h2,h3,h4⟩:=h
 have ok:∀q∈ps,(uL q.1&&vH q.2)=true:=λq hq=>by
  have:=dj.mp h2 _ (CK.mpr ⟨q,hq,U⟩)
  cases e:(uL q.1&&vH q.2) with
  |true=>rfl
  |false=>rw[e]at this;cases this
 have eo:Jx ps=ps.map some:=dY λq hq=>by rw[K6 (ok q hq)]
 rw[eo,Z7]at h3 h4;have h1:=G' h1;rw[eo,CH]at h1;refine⟨h1.2,?_,λq hq=>?_,LW h4⟩
 ·have h3:=G' h3
  cases ps with
  |nil=>cases h3
  |cons p r=>
   obtain⟨a,b⟩:=p;have h3:some a=some 0:=h3;cases h3;exact⟨b,r,U⟩
 ·have:=ok q hq;rw[CM]at this;exact⟨Ym this.1,Zn this.2⟩
theorem Te {K:BFr}{u:ag}(h:vL H u ps)(l5:ps.length<=4000000):rN K H (.ref u) (JB (Jx ps)):=by
 obtain⟨ys,e,T⟩:=h;have l:ys.length=ps.length:=by rw[T.len,CH]
 refine .rows e (by unfold Jx;rw[l,CH]) (by lia) λj x o h1 h2=>?_;obtain⟨a,c,rfl,e2,e3⟩:=T.of_at h1;unfold Jx at h2;rw[CO]at h2 e2
 cases hp:ps[j]? with
 |none=>rw[hp]at e2;exact nomatch e2
 |some p=>
  rw[hp]at h2 e2;cases e2;have h2:some (if (uL p.1&&vH p.2)=true then some p else none)=some o:=h2
  cases eb:(uL p.1&&vH p.2) with
  |true=>
   rw[eb]at h2;cases h2;rw[CM]at eb;exact .pair e3 (Ym eb.1) (Zn eb.2)
  |false=>
   rw[eb]at h2;cases h2;exact .odd e3 (.inl ⟨_,U,U⟩) (.inl ⟨_,U,U⟩) eb
def WR (H:Hp)(l:ag)(ws:List af):Prop:=H l=some (.lst (ws.map V.str))/\ws.length<=2000002/\∀w∈ws,w.length<=2000000
inductive Uo (Cs:Nat->ag)(cT cB:ag)(vs:List V)(H:Hp)(Q:VK)(E:XK):Prop|mk(l ws:_)(_:vs=[.ref l])(_:WR H l ws)(_:ws≠[])(_:∀H',zk H H'->(∀r o,jy ws=some r->wW Cs H' r o->Q o H')/\(jy ws=none->E (.ref cT) none H'/\E (.ref cB) none H'))
theorem Qs {K:BFr}(h:z.length<=2000000):pZ K H (.str z) (yT z):=.inl ⟨z,U,by lia,U⟩
theorem pP {K:BFr}(z:Int):Vb K H 1000000000000 (.int z) (uL z):=.inl ⟨z,U,U⟩
theorem Gj {K:BFr}(z:Int):Vb K H 20000 (.int z) (vH z):=.inl ⟨z,U,U⟩
theorem JZ {K:BFr}(z:af):Oy K H (.str z) (wayL.contains z):=.inl ⟨z,U,U⟩
theorem gr (h:jf ws=some ps):ps.length<=ws.length:=by
 unfold jf at h
 split at h
 ·cases h;refine CW (List.length_filterMap_le _ _) ?_;rw[CH];exact CI _
 ·cases h
theorem Re (h:¬(∃n a:af,ws=[("flat":af),n,a])/\¬(∃n a w:af,ws=[("share":af),n,a,w])/\¬(∃n a b w:af,ws=[("capped":af),n,a,b,w])/\¬(∃n a b w:af,ws=[("least":af),n,a,b,w])/\¬(∃n a w:af,ws=[("bands":af),n,a,w])):jy ws=none:=by
 obtain⟨h1,h2,h3,h4,h5⟩:=h;unfold jy;split
 ·rename_i k n a;rw[K5 λe=>h1 ⟨n,a,by rw[e]⟩]
 ·rename_i k n a w;rw[K5 λe=>h2 ⟨n,a,w,by rw[e]⟩,K5 λe=>h5 ⟨n,a,w,by rw[e]⟩]
 ·rename_i k n a b w;rw[K5 λe=>h3 ⟨n,a,b,w,by rw[e]⟩,K5 λe=>h4 ⟨n,a,b,w,by rw[e]⟩]
 ·rfl
theorem bG (h:(x::ws).length=3):∃n a,ws=[n,a]:=by
 match ws,h with
 |[n,a],_=>exact⟨n,a,U⟩
theorem M7 (h:(x::ws).length=4):∃n a w,ws=[n,a,w]:=by
 match ws,h with
 |[n,a,w],_=>exact⟨n,a,w,U⟩
theorem Nq (h:(x::ws).length=5):∃n a b w,ws=[n,a,b,w]:=by
 match ws,h with
 |[n,a,b,w],_=>exact⟨n,a,b,w,U⟩
theorem X4 {y:af}(e:¬decide (V.str x=V.str y)=true):x≠y:=λh=>e (i' (by rw[h]))
theorem uF {y:af}(e:decide (V.str x=V.str y)=true):x=y:=V.str.inj (G' e)
theorem Ji {xs:List af}(e:decide (V.int ((xs.map V.str).length:Nat)=V.int (n:Nat))=true):xs.length=n:=by
 have:=V.int.inj (G' e);rw[CH]at this;lia
theorem yz {o:Option α}{c:α->Bool}{g:α->β}{x:β}(h:(o.bind λr=>if c r=true then some (g r) else none)=some x):∃r,o=some r/\c r=true/\x=g r:=by
 cases o with
 |none=>cases h
 |some r=>
  have h:(if c r=true then some (g r) else none)=some x:=h
  cases e:c r with
  |true=>rw[e]at h;cases h;exact⟨r,U,e,U⟩
  |false=>rw[e]at h;cases h
theorem Zd {o:Option α}{c:α->Bool}{g:α->β}{r:α}(h:(o.bind λr=>if c r=true then some (g r) else none)=none)(e:o=some r):c r=false:=by
 rw[e]at h;have h:(if c r=true then some (g r) else none)=none:=h
 cases e:c r with
 |false=>rfl
 |true=>rw[e]at h;cases h
theorem uy {γ:Type}{o:Option α}{o2:Option γ}{c:α->γ->Bool}{g:α->γ->β}{x:β}(h:(o.bind λr=>o2.bind λm=>if c r m=true then some (g r m) else none)=some x):∃r m,o=some r/\o2=some m/\c r m=true/\x=g r m:=by
 cases o with
 |none=>cases h
 |some r=>
  obtain⟨m,a,b,c⟩:=yz (o:=o2) (c:=c r) (g:=g r) h;exact⟨r,m,U,a,b,c⟩
theorem Gv {γ:Type}{o:Option α}{o2:Option γ}{c:α->γ->Bool}{g:α->γ->β}{r:α}{m:γ}(h:(o.bind λr=>o2.bind λm=>if c r m=true then some (g r m) else none)=none)(e:o=some r)(e2:o2=some m):c r m=false:=by
 rw[e]at h;exact Zd (o:=o2) (c:=c r) (g:=g r) h e2
theorem cx {o:Option α}{g:α->Option β}(e:o=none):o.bind g=none:=by rw[e];rfl
theorem UQ (n a:af):jy [("flat":af),n,a]=VT n a:=by
 unfold jy;exact K6 rfl
theorem JA (n a w:af):jy [("share":af),n,a,w]=Oc n a w:=by
 unfold jy;exact K6 rfl
theorem JU (n a w:af):jy [("bands":af),n,a,w]=G1 n a w:=by
 unfold jy;exact(K5 ⋯).trans (K6 U)
theorem Qu (n a b w:af):jy [("capped":af),n,a,b,w]=lK n a b w:=by
 unfold jy;exact K6 rfl
theorem Ju (n a b w:af):jy [("least":af),n,a,b,w]=Pf n a b w:=by
 unfold jy;exact(K5 ⋯).trans (K6 U)
end Pg
namespace K12
open PySem PySem.NumText L2 Pg
seal PE PA PT PW PS y8 PG j5 PI jQ PO PK
section
variable {K:BFr}{mg:af->Option ae}
theorem MX {cB:ag}(F:qU K "plain_rule" "plain_rule" (top 65) f fd)(G:vh mg)(X:Er K mg "BadRule" cB)(C1:qX P w K mg base (jS P w) 4 "number_of" ["word"] (Qp cT))(C2:qX P w K mg base (jS P w) 6 "bands_of" ["word"] (QY cT cB))(N0:vA P w K mg base zY 5 "Flat" (Cs 0) ["self","name","amount"] (yS 0 Cs))(N1:vA P w K mg base zY 5 "Share" (Cs 1) ["self","name","parts","way"] (yS 1 Cs))(N2:vA P w K mg base zY 5 "Capped" (Cs 2) ["self","name","parts","most","way"] (yS 2 Cs))(N3:vA P w K mg base zY 5 "Least" (Cs 3) ["self","name","parts","least","way"] (yS 3 Cs))(N4:vA P w K mg base zY 6 "Bands" (Cs 4) ["self","name","rows","way"] (Qa (Cs 4)))(M0:vA P w K mg base (jS P w) 5 "Flat" (Cs 0) ["self","name","amount"] (yQ K 0 Cs cB))(M1:vA P w K mg base (jS P w) 5 "Share" (Cs 1) ["self","name","parts","way"] (yQ K 1 Cs cB))(M2:vA P w K mg base (jS P w) 5 "Capped" (Cs 2) ["self","name","parts","most","way"] (yQ K 2 Cs cB))(M3:vA P w K mg base (jS P w) 5 "Least" (Cs 3) ["self","name","parts","least","way"] (yQ K 3 Cs cB))(M4:vA P w K mg base (jS P w) 6 "Bands" (Cs 4) ["self","name","rows","way"] (yQ K 4 Cs cB)):zL P w K mg base (jS P w) 8 f fd ["words"] (Uo Cs cT cB):=by
 refine F.okE (N:=["words"]) ?_ ?_ ?_;walk_at"t"
 ·obtain⟨l,ws,rfl,_⟩:=h;rfl
 ·obtain⟨l,ws,rfl,hl,ne,q⟩:=h;have hr6:jd (5+1) (A.deeper _):=hr.mono ∅
  refine⟨_,(zg (zK (PW.pt (QO (zx qw (zE zy (pv 0) ze) zj (zD _)) (kT (zx qw (zv zJ U G.len aH (za (pv 0) zd)) ze (zD _))))) (zh (zt (kQ (yB (j:=5) N0 hr6 ∅ zA (za (zE zy (pv 0) ze) (za (zq C1 hr ∅ qO (za (zE zy (pv 0) ze) zd)) zd))) (yB (j:=5) M0 hr6 ∅ qO (za (zE zy (pv 0) ze) (za (zq C1 hr ∅ qO (za (zE zy (pv 0) ze) zd)) zd)))))) zB)
    (zg (zK (PW.pt (QO (zx qw (zE zy (pv 0) ze) zj (zD _)) (kT (zx qw (zv zJ U G.len aH (za (pv 0) zd)) ze (zD _))))) (zh (zt (kQ (yB (j:=5) N1 hr6 ∅ zA (za (zE zy (pv 0) ze) (za (zq C1 hr ∅ qO (za (zE zy (pv 0) ze) zd)) (za (zE zy (pv 0) ze) zd)))) (yB (j:=5) M1 hr6 ∅ qO (za (zE zy (pv 0) ze) (za (zq C1 hr ∅ qO (za (zE zy (pv 0) ze) zd)) (za (zE zy (pv 0) ze) zd))))))) zB)
    (zg (zK (PW.pt (QO (zx qw (zE zy (pv 0) ze) zj (zD _)) (kT (zx qw (zv zJ U G.len aH (za (pv 0) zd)) ze (zD _))))) (zh (zt (kQ (yB (j:=5) N2 hr6 ∅ zA (za (zE zy (pv 0) ze) (za (zq C1 hr ∅ qO (za (zE zy (pv 0) ze) zd)) (za (zq C1 hr ∅ qO (za (zE zy (pv 0) ze) zd)) (za (zE zy (pv 0) ze) zd))))) (yB (j:=5) M2 hr6 ∅ qO (za (zE zy (pv 0) ze) (za (zq C1 hr ∅ qO (za (zE zy (pv 0) ze) zd)) (za (zq C1 hr ∅ qO (za (zE zy (pv 0) ze) zd)) (za (zE zy (pv 0) ze) zd)))))))) zB)
    (zg (zK (PW.pt (QO (zx qw (zE zy (pv 0) ze) zj (zD _)) (kT (zx qw (zv zJ U G.len aH (za (pv 0) zd)) ze (zD _))))) (zh (zt (kQ (yB (j:=5) N3 hr6 ∅ zA (za (zE zy (pv 0) ze) (za (zq C1 hr ∅ qO (za (zE zy (pv 0) ze) zd)) (za (zq C1 hr ∅ qO (za (zE zy (pv 0) ze) zd)) (za (zE zy (pv 0) ze) zd))))) (yB (j:=5) M3 hr6 ∅ qO (za (zE zy (pv 0) ze) (za (zq C1 hr ∅ qO (za (zE zy (pv 0) ze) zd)) (za (zq C1 hr ∅ qO (za (zE zy (pv 0) ze) zd)) (za (zE zy (pv 0) ze) zd)))))))) zB)
    (zg (zK (PW.pt (QO (zx qw (zE zy (pv 0) ze) zj (zD _)) (kT (zx qw (zv zJ U G.len aH (za (pv 0) zd)) ze (zD _))))) (zh (zt (kQ (yB (j:=6) N4 hr ∅ zA (za (zE zy (pv 0) ze) (za (zq C2 hr ∅ qO (za (zE zy (pv 0) ze) zd)) (za (zE zy (pv 0) ze) zd)))) (yB (j:=6) M4 hr ∅ qO (za (zE zy (pv 0) ze) (za (zq C2 hr ∅ qO (za (zE zy (pv 0) ze) zd)) (za (zE zy (pv 0) ze) zd))))))) zB)
    (zh (qP qa U U X.at' X.ex (za zj zd)))))))),?_⟩
  obtain⟨hl,lw,le⟩:=hl
  match ws,ne with
  |x::ws,_=>
   have Q_:=zN.of (K:=K) hl;refine(λ(NX:¬(∃n a:af,x::ws=[("flat":af),n,a])->_)=>⟨_,U,l,_,_,_,U,U,Q_,qJ U,U,_,U,qg (λe=>⟨_,U,l,_,U,.inl Q_,U,_,U,qg (λe2=>?g1) (λe2=>NX fun⟨n,a,h⟩=>e2 (by rw[h];rfl))⟩) (λe=>NX fun⟨n,a,h⟩=>e (i' (by injection h with h1;rw[h1])))⟩) (λno1=>?next1)
   case g1=>
    obtain rfl:=uF e;obtain⟨n,a,rfl⟩:=bG (Ji e2);rw[UQ]at q;have hs:zN K H l ([("flat":af),n,a].map V.str):=Q_;have ln:n.length<=2000000:=le n (C6 _ CU);have Y_:a.length<=2000000:=le a (C6 _ (C6 _ CU));have la:a.length<=4000000:=CW Y_ ∅
    cases ep:VT n a with
    |none=>
     exact .inr ⟨_,U,l,_,_,_,U,U,hs,U,_,U,l,_,_,_,U,U,hs,U,a,U,la,λH1 s1=>⟨λr er o dx o0 d0 ne=>⟨o,dx,_,U,zi,⟨_,_,Qs ln,pP r,Zd (c:=λr=>yT n&&uL r) ep er⟩,λH' fr=>((q H' (s1.trans (qI o0 d0 fr))).2 ep).2⟩,λer=>((q H1 s1).2 ep).1⟩⟩
    |some r0=>
     obtain⟨r,er,eb,rfl⟩:=yz (c:=λr=>yT n&&uL r) (g:=λr=>Rk.flat n r) ep;rw[CM]at eb;exact .inl ⟨_,U,l,_,_,_,U,U,hs,U,_,U,l,_,_,_,U,U,hs,U,a,U,la,λH1 s1=>⟨λr' N_ o dx o0 d0 ne=>by rw[er]at N_;cases N_;exact⟨o,dx,.flat n r,U,U,.flat (wN eb.1) (Ym eb.2),zi,λH' fr e=>⟨U,(q H' (s1.trans (qI o0 d0 fr))).1 _ _ ep (.pln (C9 U) ⟨o,dx,U,e⟩)⟩⟩,λN_=>by rw[er]at N_;cases N_⟩⟩
   refine(λ(NX:¬(∃n a w:af,x::ws=[("share":af),n,a,w])->_)=>⟨_,U,l,_,_,_,U,U,Q_,qJ U,U,_,U,qg (λe=>⟨_,U,l,_,U,.inl Q_,U,_,U,qg (λe2=>?g1) (λe2=>NX fun⟨n,a,w,h⟩=>e2 (by rw[h];rfl))⟩) (λe=>NX fun⟨n,a,w,h⟩=>e (i' (by injection h with h1;rw[h1])))⟩) (λno2=>?next2)
   case g1=>
    obtain rfl:=uF e;obtain⟨n,a,w,rfl⟩:=M7 (Ji e2);rw[JA]at q;have hs:zN K H l ([("share":af),n,a,w].map V.str):=Q_;have ln:n.length<=2000000:=le n (C6 _ CU);have Y_:a.length<=2000000:=le a (C6 _ (C6 _ CU));have la:a.length<=4000000:=CW Y_ ∅
    cases ep:Oc n a w with
    |none=>
     exact .inr ⟨_,U,l,_,_,_,U,U,hs,U,_,U,l,_,_,_,U,U,hs,U,a,U,la,λH1 s1=>⟨λp er=>⟨_,U,l,_,_,_,U,U,s1.seq hs,U,λo dx o0 d0 ne=>⟨o,dx,_,U,zi,⟨_,_,_,Qs ln,Gj p,JZ _,Zd (c:=λp=>yT n&&(vH p&&wayL.contains w)) ep er⟩,λH' fr=>((q H' (s1.trans (qI o0 d0 fr))).2 ep).2⟩⟩,λer=>((q H1 s1).2 ep).1⟩⟩
    |some r0=>
     obtain⟨p,er,eb,rfl⟩:=yz (c:=λp=>yT n&&(vH p&&wayL.contains w)) (g:=λp=>Rk.share n p w) ep;rw[CM,CM]at eb;exact .inl ⟨_,U,l,_,_,_,U,U,hs,U,_,U,l,_,_,_,U,U,hs,U,a,U,la,λH1 s1=>⟨λr' N_=>⟨_,U,l,_,_,_,U,U,s1.seq hs,U,λo dx o0 d0 ne=>by rw[er]at N_;cases N_;exact⟨o,dx,.share n p w,U,U,.share (wN eb.1) (Zn eb.2.1) eb.2.2,zi,λH' fr e=>⟨U,(q H' (s1.trans (qI o0 d0 fr))).1 _ _ ep (.pln (C9 U) ⟨o,dx,U,e⟩)⟩⟩⟩,λN_=>by rw[er]at N_;cases N_⟩⟩
   refine(λ(NX:¬(∃n a b w:af,x::ws=[("capped":af),n,a,b,w])->_)=>⟨_,U,l,_,_,_,U,U,Q_,qJ U,U,_,U,qg (λe=>⟨_,U,l,_,U,.inl Q_,U,_,U,qg (λe2=>?g1) (λe2=>NX fun⟨n,a,b,w,h⟩=>e2 (by rw[h];rfl))⟩) (λe=>NX fun⟨n,a,b,w,h⟩=>e (i' (by injection h with h1;rw[h1])))⟩) (λno3=>?next3)
   case g1=>
    obtain rfl:=uF e;obtain⟨n,a,b,w,rfl⟩:=Nq (Ji e2);rw[Qu]at q;have hs:zN K H l ([("capped":af),n,a,b,w].map V.str):=Q_;have ln:n.length<=2000000:=le n (C6 _ CU);have Y_:a.length<=2000000:=le a (C6 _ (C6 _ CU));have la:a.length<=4000000:=CW Y_ ∅;have lb:b.length<=4000000:=CW (le b (C6 _ (C6 _ (C6 _ CU)))) ∅
    cases ep:lK n a b w with
    |none=>
     exact .inr ⟨_,U,l,_,_,_,U,U,hs,U,_,U,l,_,_,_,U,U,hs,U,a,U,la,λH1 s1=>⟨λp er=>⟨_,U,l,_,_,_,U,U,s1.seq hs,U,b,U,lb,λH2 s2=>⟨λm em=>⟨_,U,l,_,_,_,U,U,(s1.trans s2).seq hs,U,λo dx o0 d0 ne=>⟨o,dx,_,U,zi,⟨_,_,_,_,Qs ln,Gj p,pP m,JZ _,Gv (c:=λp m=>yT n&&((vH p&&wayL.contains w)&&uL m)) ep er em⟩,λH' fr=>((q H' ((s1.trans s2).trans (qI o0 d0 fr))).2 ep).2⟩⟩,λem=>((q H2 (s1.trans s2)).2 ep).1⟩⟩,λer=>((q H1 s1).2 ep).1⟩⟩
    |some r0=>
     obtain⟨p,m,er,em,eb,rfl⟩:=uy (c:=λp m=>yT n&&((vH p&&wayL.contains w)&&uL m)) (g:=λp m=>Rk.capped n p m w) ep;rw[CM,CM,CM]at eb;exact .inl ⟨_,U,l,_,_,_,U,U,hs,U,_,U,l,_,_,_,U,U,hs,U,a,U,la,λH1 s1=>⟨λr' N_=>⟨_,U,l,_,_,_,U,U,s1.seq hs,U,b,U,lb,λH2 s2=>⟨λm' Y'=>⟨_,U,l,_,_,_,U,U,(s1.trans s2).seq hs,U,λo dx o0 d0 ne=>by rw[er]at N_;cases N_;rw[em]at Y';cases Y';exact⟨o,dx,.capped n p m w,U,U,.capped (wN eb.1) (Zn eb.2.1.1) (Ym eb.2.2) eb.2.1.2,zi,λH' fr e=>⟨U,(q H' ((s1.trans s2).trans (qI o0 d0 fr))).1 _ _ ep (.pln (C9 U) ⟨o,dx,U,e⟩)⟩⟩⟩,λY'=>by rw[em]at Y';cases Y'⟩⟩,λN_=>by rw[er]at N_;cases N_⟩⟩
   refine(λ(NX:¬(∃n a b w:af,x::ws=[("least":af),n,a,b,w])->_)=>⟨_,U,l,_,_,_,U,U,Q_,qJ U,U,_,U,qg (λe=>⟨_,U,l,_,U,.inl Q_,U,_,U,qg (λe2=>?g1) (λe2=>NX fun⟨n,a,b,w,h⟩=>e2 (by rw[h];rfl))⟩) (λe=>NX fun⟨n,a,b,w,h⟩=>e (i' (by injection h with h1;rw[h1])))⟩) (λno4=>?next4)
   case g1=>
    obtain rfl:=uF e;obtain⟨n,a,b,w,rfl⟩:=Nq (Ji e2);rw[Ju]at q;have hs:zN K H l ([("least":af),n,a,b,w].map V.str):=Q_;have ln:n.length<=2000000:=le n (C6 _ CU);have Y_:a.length<=2000000:=le a (C6 _ (C6 _ CU));have la:a.length<=4000000:=CW Y_ ∅;have lb:b.length<=4000000:=CW (le b (C6 _ (C6 _ (C6 _ CU)))) ∅
    cases ep:Pf n a b w with
    |none=>
     exact .inr ⟨_,U,l,_,_,_,U,U,hs,U,_,U,l,_,_,_,U,U,hs,U,a,U,la,λH1 s1=>⟨λp er=>⟨_,U,l,_,_,_,U,U,s1.seq hs,U,b,U,lb,λH2 s2=>⟨λm em=>⟨_,U,l,_,_,_,U,U,(s1.trans s2).seq hs,U,λo dx o0 d0 ne=>⟨o,dx,_,U,zi,⟨_,_,_,_,Qs ln,Gj p,pP m,JZ _,Gv (c:=λp m=>yT n&&((vH p&&wayL.contains w)&&uL m)) ep er em⟩,λH' fr=>((q H' ((s1.trans s2).trans (qI o0 d0 fr))).2 ep).2⟩⟩,λem=>((q H2 (s1.trans s2)).2 ep).1⟩⟩,λer=>((q H1 s1).2 ep).1⟩⟩
    |some r0=>
     obtain⟨p,m,er,em,eb,rfl⟩:=uy (c:=λp m=>yT n&&((vH p&&wayL.contains w)&&uL m)) (g:=λp m=>Rk.least n p m w) ep;rw[CM,CM,CM]at eb;exact .inl ⟨_,U,l,_,_,_,U,U,hs,U,_,U,l,_,_,_,U,U,hs,U,a,U,la,λH1 s1=>⟨λr' N_=>⟨_,U,l,_,_,_,U,U,s1.seq hs,U,b,U,lb,λH2 s2=>⟨λm' Y'=>⟨_,U,l,_,_,_,U,U,(s1.trans s2).seq hs,U,λo dx o0 d0 ne=>by rw[er]at N_;cases N_;rw[em]at Y';cases Y';exact⟨o,dx,.least n p m w,U,U,.least (wN eb.1) (Zn eb.2.1.1) (Ym eb.2.2) eb.2.1.2,zi,λH' fr e=>⟨U,(q H' ((s1.trans s2).trans (qI o0 d0 fr))).1 _ _ ep (.pln (C9 U) ⟨o,dx,U,e⟩)⟩⟩⟩,λY'=>by rw[em]at Y';cases Y'⟩⟩,λN_=>by rw[er]at N_;cases N_⟩⟩
   refine(λ(NX:¬(∃n a w:af,x::ws=[("bands":af),n,a,w])->_)=>⟨_,U,l,_,_,_,U,U,Q_,qJ U,U,_,U,qg (λe=>⟨_,U,l,_,U,.inl Q_,U,_,U,qg (λe2=>?g1) (λe2=>NX fun⟨n,a,w,h⟩=>e2 (by rw[h];rfl))⟩) (λe=>NX fun⟨n,a,w,h⟩=>e (i' (by injection h with h1;rw[h1])))⟩) (λrR=>?next5)
   case g1=>
    obtain rfl:=uF e;obtain⟨n,a,w,rfl⟩:=M7 (Ji e2);rw[JU]at q;have hs:zN K H l ([("bands":af),n,a,w].map V.str):=Q_;have ln:n.length<=2000000:=le n (C6 _ CU);have Y_:a.length<=2000000:=le a (C6 _ (C6 _ CU));have la:a.length<=4000000:=CW Y_ ∅;have sl:(av a ",").length<=4000000:=CW (yg a ",").1 (by omega)
    cases ep:G1 n a w with
    |none=>
     exact .inr ⟨_,U,l,_,_,_,U,U,hs,U,_,U,l,_,_,_,U,U,hs,U,a,U,Y_,λH1 s1=>⟨λps u er bd=>⟨_,U,l,_,_,_,U,U,s1.seq hs,U,λo dx o0 d0 ne=>⟨o,dx,_,U,zi,⟨_,_,_,Qs ln,Te (bd.same (zk.made o0 d0)) (CW (gr er) sl),JZ _,Zd (c:=λps=>yT n&&(JB (Jx ps)&&wayL.contains w)) ep er⟩,λH' fr=>((q H' (s1.trans (qI o0 d0 fr))).2 ep).2⟩⟩,λer=>(q H1 s1).2 ep⟩⟩
    |some r0=>
     obtain⟨ps,er,eb,rfl⟩:=yz (c:=λps=>yT n&&(JB (Jx ps)&&wayL.contains w)) (g:=λps=>Rk.bands n ps w) ep;rw[CM,CM]at eb;exact .inl ⟨_,U,l,_,_,_,U,U,hs,U,_,U,l,_,_,_,U,U,hs,U,a,U,Y_,λH1 s1=>⟨λps' u N_ bd=>⟨_,U,l,_,_,_,U,U,s1.seq hs,U,λo dx o0 d0 ne=>by rw[er]at N_;cases N_;exact⟨o,dx,n,u,ps,w,U,wN eb.1,rX eb.2.1,eb.2.2,bd.same (zk.made o0 d0),zi,λH' u' fr e bd'=>⟨U,(q H' (s1.trans (qI o0 d0 fr))).1 _ _ ep (.bands e bd')⟩⟩⟩,λN_=>by rw[er]at N_;cases N_⟩⟩
   exact⟨∅,((q H (zk.refl _)).2 (Re ⟨no1,no2,no3,no4,rR⟩)).2⟩
end
end K12
namespace Pg
open PySem L2 Builtin Builtin.Str
def uC:List af->Bool
 |k::_::_::_::o::_::_=>decide (k = "ontop")&&decide (o = "of")
 |_=>false
theorem jV (d:Nat)(h:uC ws=false):wQ d ws=jy ws:=by
 match d,ws with
 |0,[]=>rfl
 |0,[_]=>rfl
 |0,[_,_]=>rfl
 |0,[_,_,_]=>rfl
 |0,[_,_,_,_]=>rfl
 |0,[_,_,_,_,_]=>rfl
 |0,k::n::a::w::o::x::ws=>
  unfold wQ
  exact K5 λe=>by
   have h:(decide (k = "ontop")&&decide (o = "of"))=false:=h;rw[i' e.1,i' e.2]at h;cases h
 |d+1,[]=>rfl
 |d+1,[_]=>rfl
 |d+1,[_,_]=>rfl
 |d+1,[_,_,_]=>rfl
 |d+1,[_,_,_,_]=>rfl
 |d+1,[_,_,_,_,_]=>rfl
 |d+1,k::n::a::w::o::x::ws=>
  unfold wQ
  exact K5 λe=>by
   have h:(decide (k = "ontop")&&decide (o = "of"))=false:=h;rw[i' e.1,i' e.2]at h;cases h
theorem Jw (h:uC ws=true):∃n a w x r,ws=("ontop":af)::n::a::w::("of":af)::x::r:=by
 match ws,h with
 |k::n::a::w::o::x::r,h=>
  have h:(decide (k = "ontop")&&decide (o = "of"))=true:=h;rw[CM]at h;rw[G' h.1,G' h.2];exact⟨n,a,w,x,r,U⟩
theorem QC (n a w x:af)(r:List af):wQ 0 (("ontop":af)::n::a::w::("of":af)::x::r)=none:=by
 unfold wQ;exact K6 ⟨U,U⟩
theorem Je (d:Nat)(n a w x:af)(r:List af):wQ (d+1) (("ontop":af)::n::a::w::("of":af)::x::r)=(wQ d (x::r)).bind λr=>Lr n a w r:=by
 show(if (_:Prop) then _ else _)=_;exact K6 ⟨U,U⟩
theorem LL {r:Rk}(h:jy ws=some r):Gd 0 r:=by
 unfold jy at h
 split at h
 ·split at h
  ·obtain⟨r,er,eb,rfl⟩:=yz (c:=λr=>yT _&&uL r) (g:=λr=>Rk.flat _ r) h;rw[CM]at eb;exact .pln (.flat (wN eb.1) (Ym eb.2))
  ·cases h
 ·rename_i k n a w
  split at h
  ·obtain⟨r,er,eb,rfl⟩:=yz (c:=λp=>yT n&&(vH p&&wayL.contains w)) (g:=λp=>Rk.share n p w) h;rw[CM,CM]at eb;exact .pln (.share (wN eb.1) (Zn eb.2.1) eb.2.2)
  ·split at h
   ·obtain⟨r,er,eb,rfl⟩:=yz (c:=λps=>yT n&&(JB (Jx ps)&&wayL.contains w)) (g:=λps=>Rk.bands n ps w) h;rw[CM,CM]at eb;exact .bands (wN eb.1) (rX eb.2.1) eb.2.2
   ·cases h
 ·rename_i k n a b w
  split at h
  ·obtain⟨p,m,er,em,eb,rfl⟩:=uy (c:=λp m=>yT n&&((vH p&&wayL.contains w)&&uL m)) (g:=λp m=>Rk.capped n p m w) h;rw[CM,CM,CM]at eb;exact .pln (.capped (wN eb.1) (Zn eb.2.1.1) (Ym eb.2.2) eb.2.1.2)
  ·split at h
   ·obtain⟨p,m,er,em,eb,rfl⟩:=uy (c:=λp m=>yT n&&((vH p&&wayL.contains w)&&uL m)) (g:=λp m=>Rk.least n p m w) h;rw[CM,CM,CM]at eb;exact .pln (.least (wN eb.1) (Zn eb.2.1.1) (Ym eb.2.2) eb.2.1.2)
   ·cases h
 ·cases h
theorem Gi:∀{d:Nat} {ws:List af} {r:Rk},wQ d ws=some r->Gd d r:=by
 intro d
 induction d with
 |zero=>
  intro ws r h
  cases e:uC ws with
  |false=>rw[jV 0 e]at h;exact LL h
  |true=>
   obtain⟨n,a,w,x,r',rfl⟩:=Jw e;rw[QC]at h;cases h
 |succ d ih=>
  intro ws r h
  cases e:uC ws with
  |false=>rw[jV _ e]at h;exact(LL h).le (du _)
  |true=>
   obtain⟨n,a,w,x,r',rfl⟩:=Jw e;rw[Je]at h
   cases e2:wQ d (x::r') with
   |none=>rw[e2]at h;cases h
   |some r2=>
    rw[e2]at h;obtain⟨p,er,eb,rfl⟩:=yz (c:=λp=>yT n&&(vH p&&wayL.contains w)) (g:=λp=>Rk.ontop n p w r2) h;rw[CM,CM]at eb;exact .ontop (wN eb.1) (Zn eb.2.1) eb.2.2 (ih e2)
inductive JM (vs:List V)(H:Hp)(Q:VK)(_:XK):Prop|mk(l ws:_)(_:vs=[.ref l])(_:WR H l ws)(_:ws≠[])(_:Q (.bl (uC ws)) H)
def Jr (Cs:Nat->ag)(cT cB:ag):Nat->Sp
 |0=>λ_ _ _ _=>False
 |d+1=>λvs H Q E=>∃l ws dp,vs=[.ref l,.int dp]/\WR H l ws/\ws≠[]/\0<=dp/\dp+d=3/\∀H',zk H H'->(∀r o,wQ d ws=some r->wW Cs H' r o->Q o H')/\(wQ d ws=none->E (.ref cT) none H'/\E (.ref cB) none H')
inductive YT (K:BFr)(Cs:Nat->ag)(cB:ag)(vs:List V)(H:Hp)(Q:VK)(E:XK):Prop|mk(v:_)(_:vs=[v])(_:((j4 K H v/\E (.ref cB) none H)∨∃z,v=.str z/\z.length<=2000000/\∀H',zk H H'->(∀r o,wQ 3 (av z " ")=some r->wW Cs H' r o->Q o H')/\(wQ 3 (av z " ")=none->E (.ref cB) none H')))
theorem rO (l:List V):jR l (some 5) none=l.drop 5:=O8 (k:=5)
theorem L5 (h:¬5<ws.length):uC ws=false:=by
 match ws with
 |[]=>rfl
 |[_]=>rfl
 |[_,_]=>rfl
 |[_,_,_]=>rfl
 |[_,_,_,_]=>rfl
 |[_,_,_,_,_]=>rfl
 |_::_::_::_::_::_::r=>exact K7 (by simp only[dz];lia) h
theorem V2 (h:x≠"ontop"):uC (x::ws)=false:=by
 match ws with
 |[]=>rfl
 |[_]=>rfl
 |[_,_]=>rfl
 |[_,_,_]=>rfl
 |[_,_,_,_]=>rfl
 |_::_::_::o::_::r=>
  show(decide (x = "ontop")&&decide (o = "of"))=false;rw[D' h];rfl
theorem MC (h:5<(x::ws).length)(e:x = "ontop"):∃o,((x::ws).map V.str)[4]?=some (.str o)/\uC (x::ws)=decide (V.str o=V.str "of"):=by
 match ws,h with
 |[],h=>exact K7 h (by show ¬5<1;decide)
 |[_],h=>exact K7 h (by show ¬5<2;decide)
 |[_,_],h=>exact K7 h (by show ¬5<3;decide)
 |[_,_,_],h=>exact K7 h (by show ¬5<4;decide)
 |[_,_,_,_],h=>exact K7 h (by show ¬5<5;decide)
 |_::_::_::o::_::r,_=>
  refine⟨o,U,?_⟩;show(decide (x = "ontop")&&decide (o = "of"))=_;rw[i' e,dm]
  by_cases h:o = "of"
  ·rw[h,i' U,i' rfl]
  ·rw[D' h,D' λz=>h (V.str.inj z)]
theorem bR (b:Bool)(h:decide (5<ws.length)=b):decide ((5:Int)<((ws.map V.str).length:Nat))=b:=by
 rw[CH,<- h];exact decide_eq_decide.mpr (by omega)
end Pg
namespace L2
open PySem PySem.Spec PyProof.Rows
section
variable {K:BFr}{mg:af->Option ae}
theorem qU.okY {ps:List af}{k:Nat}(F:qU K x qual st f fd)(S:uw N ps (zU st))(len:∀vs H Q E,sp vs H Q E->vs.length=ps.length)(Sh:∀(K9:ae) (A:iG) (outer:List Fu) (s:ar) (H:Hp) (vs:List V) (Q:VK) (E:XK),jd k (A.deeper (aT qual (zU st) s.heap.objs.size f K9))->sp vs H Q E ->
   ∃t,y8 (u5 (mX P w) P w K mg base N qual (zU st) f K9 A outer s H E) (jC st) t/\t {nx:=λ_ H'=>Q .non H',rt:=Q} (uT N vs) H):zL P w K mg base (mX P w) (k+1) f fd ps sp:=by
 obtain⟨oc,od,kV,Sf,pm,an,K9,ct,S0,rfl,lk,Sy⟩:=F.ex;exact mU lk Sy S len λA outer s H vs Q E hr SO=>Sh K9 A outer s H vs Q E hr SO
theorem gL {E:XK}:yW (jS P w) (u5 (mX P w) P w K mg base N qual scope f cd A outer s H E) E:=jN rfl rfl (qa (C:=vw)).plain
end
theorem Pd {R:XK}:yW (mX X.prog X.w) (X.tr pn (ZY vw X pn R)) R:=jN rfl rfl JJ
end L2
namespace K12
open PySem PySem.NumText L2 Pg
seal PE PA PT PW PS y8 PG j5 PI jQ PO PK
section
variable {K:BFr}{mg:af->Option ae}
theorem pA (F:qU K "is_ontop" "is_ontop" (top 66) f fd)(G:vh mg):zL P w K mg base zY 1 f fd ["words"] JM:=by
 refine F.ok (N:=["words"]) ?_ ?_ ?_;walk_at"t"
 ·obtain⟨l,ws,rfl,_⟩:=h;rfl
 ·obtain⟨l,ws,rfl,⟨hl,lw,le⟩,ne,q⟩:=h;refine⟨_,zh (zt (je (qS qw (zE zy (pv 0) ze) zj (zD _)) (je (qS vX (zv zJ U G.len aH (za (pv 0) zd)) ze (zD _)) (jA (qS qw (zE zy (pv 0) ze) zj (zD _)))))),?_⟩
  match ws,ne with
  |x::ws,_=>
   have Q_:=zN.of (K:=K) hl
   by_cases ex:x = "ontop"
   ·by_cases h5:5<(x::ws).length
    ·obtain⟨o,e4,eo⟩:=MC h5 ex;rw[eo]at q;exact⟨_,U,l,_,_,_,U,U,Q_,qJ U,U,true,by rw[ex,i' rfl],qY ⟨_,U,l,_,U,.inl Q_,_,_,U,U,true,K4 V.bl (bR true (i' h5)),qY ⟨_,U,l,_,_,_,U,U,Q_,qQ (j:=4) e4,U,q⟩⟩⟩
    ·rw[L5 h5]at q;exact⟨_,U,l,_,_,_,U,U,Q_,qJ U,U,true,by rw[ex,i' rfl],qY ⟨_,U,l,_,U,.inl Q_,_,_,U,U,false,K4 V.bl (bR false (D' h5)),qM q⟩⟩
   ·rw[V2 ex]at q;exact⟨_,U,l,_,_,_,U,U,Q_,qJ U,U,false,K4 V.bl (D' λz=>ex (V.str.inj z)),qM q⟩
theorem nj {cB:ag}:zL P w K mg base (jS P w) j f fd ["words","depth"] (Jr Cs cT cB 0):=⟨λ_ _ _ _ h=>h.elim,λ_ _ _ _ _ _ _ _ _ _ _ _ _ h=>h.elim⟩
theorem UL {cB:ag}{d:Nat}(hj:19<=j)(F:qU K "rule_of_words" "rule_of_words" (top 67) f fd)(X:Er K mg "BadRule" cB)(N1:WQ mg "MOST_DEPTH" 3)(C1:qX P w K mg base zY 1 "is_ontop" ["words"] JM)(C2:qX P w K mg base (jS P w) 8 "plain_rule" ["words"] (Uo Cs cT cB))(C3:qX P w K mg base (jS P w) 4 "number_of" ["word"] (Qp cT))(C4:qX P w K mg base (jS P w) j "rule_of_words" ["words","depth"] (Jr Cs cT cB d))(N5:vA P w K mg base zY 16 "OnTop" (Cs 5) ["self","name","parts","way","rule"] (Z2 2 Cs))(M5:vA P w K mg base (jS P w) 18 "OnTop" (Cs 5) ["self","name","parts","way","rule"] (QM K SU Cs cB)):zL P w K mg base (jS P w) (j+1) f fd ["words","depth"] (Jr Cs cT cB (d+1)):=by
 obtain⟨tk,em⟩:=N1;have nd:(["words","depth","within"]:List af).Nodup:=⋯
 refine F.okE (nS nd ?_) ?_ ?_;walk_at"t"
 ·obtain⟨l,ws,dp,rfl,_⟩:=h;rfl
 ·obtain⟨l,ws,dp,rfl,hw,ne,d0,d3,q⟩:=h;have hr17:jd (16+1) (A.deeper _):=hr.mono (by lia);have hr19:jd (18+1) (A.deeper _):=hr.mono hj
  refine⟨_,(zg (zK (qB (qC (zq C1 hr (by lia) zA (za (pv 0) zd)))) (zh (zt (zq C2 hr (by lia) qO (za (pv 0) zd)))) zB)
    (zg (zK (zx qw (pv 1) (zQ (v:=.int 3) U em ⟨tk,U⟩) (zD _)) (zh (qP qa U U X.at' X.ex (za zj zd))) zB)
    (zg (zF (i:=2) nd U (ay U) (zq C4 hr (CI _) qO (za (z8 yG (pv 0) (qm ze) qA) (za (zu qo (pv 1) ze) zd))))
    (zh (zt (kQ (yB (j:=16) N5 hr17 ∅ zA (za (zE zy (pv 0) ze) (za (zq C3 hr (by lia) qO (za (zE zy (pv 0) ze) zd)) (za (zE zy (pv 0) ze) (za (pv 2) zd))))) (yB (j:=18) M5 hr19 ∅ qO (za (zE zy (pv 0) ze) (za (zq C3 hr (by lia) qO (za (zE zy (pv 0) ze) zd)) (za (zE zy (pv 0) ze) (za (pv 2) zd))))))))))),?_⟩
  refine⟨_,U,l,ws,U,hw,ne,?_⟩
  cases eo:uC ws with
  |false=>
   rw[jV d eo]at q;exact⟨false,U,qY ⟨_,U,l,ws,U,hw,ne,q⟩⟩
  |true=>
   refine⟨true,U,qM ⟨_,U,U,_,U,qg (λe=>⟨∅,?_⟩) (λe=>?_)⟩⟩
   ·have e:=V.int.inj (G' e);obtain⟨n,a,x,y,r,rfl⟩:=Jw eo;have:d=0:=by lia
    subst this;exact((q H (zk.refl _)).2 (QC _ _ _ _ _)).2
   obtain⟨n,a,x,y,r,rfl⟩:=Jw eo;have hd:dp≠3:=λz=>e (i' (by rw[z]))
   match d,d3,q,C4 with
   |0,d3,_,_=>exact K7 (by lia) hd
   |d+1,d3,q,C4=>
    rw[Je]at q;obtain⟨hl,lw,le⟩:=hw;have Q_:=zN.of (K:=K) hl;refine⟨_,U,_,U,l,_,U,Q_,λt t0=>?_⟩;generalize hc:jR ((("ontop":af)::n::a::x::("of":af)::y::r).map V.str) (some 5) none=cs;have ec:cs=(y::r).map V.str:=by rw[<- hc,rO];rfl
    have s1:zk H (upd H t (.lst cs)):=zk.upd t0;have e1:(upd H t (.lst cs)) t=some (.lst ((y::r).map V.str)):=by rw[zi,ec]
    generalize upd H t (.lst cs)=H1 at s1 e1;refine⟨_,U,_,_,U,U,t,y::r,_,U,⟨e1,by simp only[dz]at lw ⊢;lia,λw hw=>le w (by simp only[CJ]at hw ⊢;rcases hw with h |h<;>simp[h])⟩,(by intro z;cases z),(by show 0<=dp+1;lia),(by show dp+1+(d:Int)=3;lia),λH2 s2=>⟨λr2 u e2 ru=>?_,λe2=>(q H2 (s1.trans s2)).2 (cx e2)⟩⟩;rw[e2]at q;have q:∀H',zk H H'->(∀r o,Lr n a x r2=some r->wW Cs H' r o->Q o H')/\(Lr n a x r2=none->E (.ref cT) none H'/\E (.ref cB) none H'):=q;have S2:=s1.trans s2;have hs:=S2.seq Q_;have ln:n.length<=2000000:=le n (by simp);have la:a.length<=4000000:=CW (le a (by simp)) ∅;have g2:Gd 2 r2:=(Gi e2).le (by lia)
    cases ep:Lr n a x r2 with
    |none=>
     refine .inr ⟨_,U,l,_,_,_,U,U,hs,qQ (j:=1) U,_,U,l,_,_,_,U,U,hs,qQ (j:=2) U,a,U,la,λH3 s3=>⟨λp er=>⟨_,U,l,_,_,_,U,U,s3.seq hs,qQ (j:=3) U,_,U,λo dx o0 W' ne=>⟨o,dx,_,_,_,_,_,_,_,true,U,zi,Qs ln,Gj p,JZ _,.good ((ru.same s3).same (zk.made o0 W')) g2,?_,λH' fr=>((q H' (S2.trans (s3.trans (qI o0 W' fr)))).2 ep).2⟩⟩,λer=>((q H3 (S2.trans s3)).2 ep).1⟩⟩;have:=Zd (c:=λp=>yT n&&(vH p&&wayL.contains x)) ep er;rw[d7];exact this
    |some r0=>
     obtain⟨p,er,eb,rfl⟩:=yz (c:=λp=>yT n&&(vH p&&wayL.contains x)) (g:=λp=>Rk.ontop n p x r2) ep;rw[CM,CM]at eb;exact .inl ⟨_,U,l,_,_,_,U,U,hs,qQ (j:=1) U,_,U,l,_,_,_,U,U,hs,qQ (j:=2) U,a,U,la,λH3 s3=>⟨λp' N_=>⟨_,U,l,_,_,_,U,U,s3.seq hs,qQ (j:=3) U,_,U,λo dx o0 W' ne=>by rw[er]at N_;cases N_;exact⟨o,dx,n,p,x,u,r2,U,wN eb.1,Zn eb.2.1,eb.2.2,(ru.same s3).same (zk.made o0 W'),g2,zi,λH' u' fr SM ri'=>⟨U,(q H' (S2.trans (s3.trans (qI o0 W' fr)))).1 _ _ ep (.ontop SM ri')⟩⟩⟩,λN_=>by rw[er]at N_;cases N_⟩⟩
theorem Ni {cB:ag}(F:qU K "rule_of" "rule_of" (top 68) f fd)(G:vh mg)(X:Er K mg "BadRule" cB)(XT:Er K mg "BadText" cT)(x1:aX K (.ref cT) (.ref cT)=some true)(x2:aX K (.ref cB) (.ref cT)=some false)(C1:qX P w K mg base (jS P w) j "rule_of_words" ["words","depth"] (Jr Cs cT cB 4)):zL P w K mg base (mX P w) (j+1) f fd ["text"] (YT K Cs cB):=by
 refine F.okY (N:=["text"]) ?_ ?_ ?_;walk_at"t"
 ·obtain⟨v,rfl,_⟩:=h;rfl
 ·obtain⟨v,rfl,h⟩:=h;obtain⟨R,hR⟩:∃R:XK,R=λcls _ H'=>(cls=.ref cT∨cls=.ref cB)/\zk H H'/\∀z,v=.str z->wQ 3 (av z " ")=none:=⟨_,U⟩
  refine' ⟨_,zg (zK (qB (qC (zv zG U G.isinstance zz (za (pv 0) (za (yV (v:=.ty "str") U G.str qE U) zd))))) (zh (qP qa U U X.at' X.ex (za zj zd))) zB)
   (zh (NS (Ct:=C0) (R:=R) (E:=E) (tb:=Me λσ H Q=>qN (c0 K "str" RW (zV 0) (qN (tC (.str " ")) y6)) (qN (tC (.int 0)) y6) σ H λvs H1=>Jr Cs cT cB 4 vs H1 Q R) YY U U U XT.at' U X.at' X.ex ?body (λpn ea E=>za zj zd))),?main⟩
  case body=>
   intro pn;exact zh (zt (zq C1 hr (CI _) T9 (za (qH aq aI aR jg (pv 0) (za zj zd)) (za ze zd))))
  rcases h with⟨⟨r,N',ty,ne⟩,q⟩ |⟨z,rfl,hz,q⟩
  ·obtain⟨_,_,k3,_⟩:=kY (K:=K) r N'
   have e:r.2.2.2.1=false:=by
    simp only[Vf,CJ,CV,or_false]at N';rcases N' with rfl |rfl |rfl |rfl |rfl |rfl |rfl<;>first |rfl |exact K7 rfl ne
   rw[e]at k3;exact⟨_,U,_,_,_,_,false,U,U,.inl ty,k3,false,U,qY ⟨∅,q⟩⟩
  have zf:z.length<=au:=ui hz rfl;obtain⟨sl,sn,w0,wr,ew⟩:=yg z " ";refine⟨_,U,_,_,_,_,true,U,U,.inl (.str z),U,true,U,qM ⟨⟨_,U,U,_,_,U,U,U,zf,yw _ hz,λl H1 s1 n1 e1=>?_⟩,?_⟩⟩
  ·refine⟨l,_,0,U,⟨e1,by lia,λw hw=>CW (sn w hw) hz⟩,(by rw[ew];intro z;cases z),∅,∅,λH2 s2=>⟨λr o er ro=>(q H2 (s1.trans s2)).1 r o er ro,λer=>?_⟩⟩;rw[hR]
   have dr:∀z',V.str z=.str z'->wQ 3 (av z' " ")=none:=λz' e=>by
    cases e;exact er
   exact⟨⟨.inl U,s1.trans s2,dr⟩,⟨.inr U,s1.trans s2,dr⟩⟩
  ·intro ea oe vs cls σ' H' r n0 hd h2;rw[hR]at r;obtain⟨rc,sS,re⟩:=r;rcases rc with rfl |rfl
   ·exact .inl ⟨x1,∅,⟨oe,_,vs,zi,hd,.no h2⟩,(q _ (sS.trans (zk.upd n0))).2 (re z U)⟩
   ·exact .inr ⟨x2,(q _ sS).2 (re z U)⟩
theorem Uq {cM:ag}(F:qU K "need_year" "need_year" (top 38) f fd)(X:Er K mg "BadYear" cM)(N1:WQ mg "LAST_YEAR" 9999)(C1:qX P w K mg base zY 2 "is_number_within" ["thing","least","most"] (jI K)):zL P w K mg base (jS P w) 3 f fd ["thing"] (YD K cM 9999):=by
 obtain⟨tm,hm⟩:=N1;refine F.okE (N:=["thing"]) ?_ ?_ ?_;walk_at"t"
 ·obtain⟨v,rfl,_⟩:=h;rfl
 ·obtain⟨v,rfl,h⟩:=h;refine⟨_,zh (zK (qB (qC (zq C1 hr ∅ zA (za (pv 0) (za ze (za (zQ (v:=.int 9999) U hm ⟨_,U⟩) zd)))))) (zh (qP qa U U X.at' X.ex (za zj zd))) zB),?_⟩;rcases h with⟨z,rfl,h0,h1,q⟩ |⟨nn |⟨z,rfl,h0⟩,q⟩
  ·refine⟨_,U,_,_,_,U,.inl ⟨z,U,_,U,?_⟩⟩;rw[i' (show(0:Int)<=z/\z<=9999 from ⟨h0,h1⟩)];exact qM q
  ·exact⟨_,U,_,_,_,U,.inr ⟨nn,false,U,qY ⟨∅,q⟩⟩⟩
  ·refine⟨_,U,_,_,_,U,.inl ⟨z,U,_,U,?_⟩⟩;rw[D' h0];exact qY ⟨∅,q⟩
end
end K12
namespace L2
open PySem PySem.Spec PyProof.Rows
theorem Ph [ct:Zh Ct]{E:XK}{pos:fW}(hE:yA Ct X E)(SN:X.stack=X.env::X.outer)(hf:X.env.frame=some X.env.locals)(hN:X.N.Nodup)(hx:X.N[i]?=some x)(hl:X.env.scope.names.lookup x=some .local)(c:Zw X Nc scope cl src)(L':X.calm=true)(hi:PI X So iter wi)(hb:∀fp C s' H' xe,yA Ct (qv xe X Nc scope cl C fp s' H') E->PG (qv xe X Nc scope cl C fp s' H') So g/\jQ (qv xe X Nc scope cl C fp s' H') Sv tt/\PE (qv xe X Nc scope cl C fp s' H') Sx te)(hsw:Az (.ListComp Sx [⟨So,iter,Sv,0⟩] scope K') (some (.Name x R_)) pos.line X.env=pure true:=by rfl)(hs:∀x,iO iter X.env x=pure x:=by intro _;rfl):PS X (.Assign [.Name x R_] (.ListComp Sx [⟨So,iter,Sv,0⟩] scope K') pos) (tW (UC src wi g tt te) (qc i)):=by
 intro pins s σ H D I h;rw[A7 _ _ _ _ hsw];refine aa (iL (aa ?_));show wpAny _ X.A (do let _ <- comprehension (.ListComp Sx [⟨So,iter,Sv,0⟩] scope K') scope X.env _ (newList []) false (eval iter X.env) (some (C_ (.Name x R_) X.env))) _ _ s;refine aa (fh (iy (use:=some (C_ (.Name x R_) X.env)) (Q:=λ_ s'=>∃σ' H',zH X pins σ' H' s'/\D.nx σ' H') U hs c.clos c.kind c.names (yj (hi pins s σ H _ I h) λv s1 h1=>yj h1 λitv s2 h2=>?_)) (λ_ s' hq=>aj (aj hq)) λ_ _ z=>z);obtain⟨it,fp,tn,J,H2,e,I2,T,Sl,f2,hT⟩:=h2;subst e;refine fF ?_ (by size_fits);have SE:∀b o,s2.heap.get? b=some o->(s2.heap.push {cls:=.type "list",data:=.seq ([]:List ae).toArray}).get? b=some o:=λb o e=>dc _ e;have I3:=I2.laid (a:=s2.heap.objs.size) (o:=.lst []) (t':=s2.toks) (h':=s2.heap.push {cls:=.type "list",data:=.seq ([]:List ae).toArray}) SE (CI _) ⟨du _,[],0,.nil,dA _ U⟩
 have ne:∀b∈fp,b≠s2.heap.objs.size:=λb hb=>by
  obtain⟨o,e,_⟩:=T.obj 0 _ Sl b hb;exact de (C5 e)
 have f3:∀b∈fp,yL X pins (upd H2 s2.heap.objs.size (.lst [])) b:=λb hb=>⟨by rw[zm (ne b hb)];exact(f2 b hb).1,(f2 b hb).2⟩;refine uv (it:=it) (R:=λC=>Ho (aA X.prog X.w) X.A X.xe (some (C_ (.Name x R_) X.env)) (λ_ s'=>∃σ' H',zH X pins σ' H' s'/\D.nx σ' H') _ C) c L' I3 T (T.keep _ _ _ Sl λb _ o e=>SE b o e) f3 (hb fp _ _ _ _ (Yn (Ct:=Ct) (E:=E))) (hT _ (I2.hok.fresh (CI _))) (λx s' z=>Ws hE SN hf I3 f3 z) λC ys σ' H' s' hC J' hD q=>?_;obtain⟨m,hn,_⟩:=id J'.loc;have B:zH X pins σ H' s':=uh I3 f3 J' ⟨U,λ_ _=>rfl⟩;have Cge:∀b o,(s2.heap.push {cls:=.type "list",data:=.seq ([]:List ae).toArray}).get? b=some o->b≠C:=λb o e=>de (dM (C5 e) J'.ok.above)
 have CL:C≠X.env.locals:=λz=>by
  obtain⟨m3,⟨o,_,_,ho,_⟩,_⟩:=I3.loc;exact Cge _ o ho z.symm
 refine Ah (QS B hN hx (.inl hl) (v:=.ref s2.heap.objs.size) U (λs5 I5 hsb=>?_) (.inr hl));obtain⟨a,sb,ha⟩:=hsb
 have aL:a≠C:=by
  rcases ha with rfl |ha
  ·exact CL.symm
  ·obtain⟨v,o,ho,_⟩:=I3.cell x a ha;exact Cge _ o ho
 refine⟨m,hn.sameBut sb aL.symm,λh' hs'=>⟨_,H',I5.turned (t':=s5.toks) (λb o n e=>(hs'.2 b n).trans e) J'.free CL ?_ (λy b e z=>?_) (λp hp z=>?_),q⟩⟩
 ·exact .inr (DW (CW I3.sz J'.ok.above))
 ·obtain⟨v,o,ho,_⟩:=I3.cell y b e;exact Cge _ o ho z
 ·exact Cge _ _ (I3.pin p hp).1 z
end L2
variable {cY:ag}
namespace Pg
open PySem PySem.NumText L2 Builtin Builtin.Str
theorem PJ {K:BFr}(h:j4 K H v):v≠.str z:=λe=>by
 obtain⟨r,_,ty,ne⟩:=h;subst e;generalize r.1=t at ty ne;cases ty;exact ne rfl
def OU:V->Option Rk
 |.str z=>wQ 3 (av z " ")
 |_=>none
def Cw (K:BFr)(H:Hp)(x:V):Prop:=j4 K H x∨∃z,x=.str z/\z.length<=2000000
def rB (K:BFr)(H:Hp)(v:V):Prop:=∃r∈Vf,vN K H v (.type r.1)/\r.2.2.2.2=false
inductive Ud (K:BFr)(cB:ag)(vs:List V)(H:Hp)(Q:VK)(E:XK):Prop|mk(v:_)(_:vs=[v])(_:((rB K H v/\E (.ref cB) none H)∨∃l xs,v=.ref l/\H l=some (.lst xs)/\(8<xs.length->E (.ref cB) none H)/\(xs.length<=8->Q .non H)))
inductive UG (Cs:Nat->ag)(cB:ag)(vs:List V)(H:Hp)(Q:VK)(E:XK):Prop|mk(l rs:_)(_:vs=[.ref l])(_:rA Cs H l rs)(_:(∀r∈rs,Gd 3 r))(_:rs.length<=8)(_:∀H',zk H H'->((rs.map Rk.name).Nodup->Q .non H')/\(¬(rs.map Rk.name).Nodup->E (.ref cB) none H'))
inductive Z4 (K:BFr)(C cY cB cR:ag)(vs:List V)(H:Hp)(Q:VK)(E:XK):Prop|mk(B dx t:ag)(es:List Be)(y v:V)(_:vs=[.ref B,y,v])(_:U6 C H B dx t es)(_:es.length<=20000)(_:((lZ K H 9999 y/\E (.ref cY) none H)∨∃Y,y=.int Y/\0<=Y/\Y<=9999/\((rB K H v/\E (.ref cB) none H)∨∃l xs,v=.ref l/\H l=some (.lst xs)/\(8<xs.length->E (.ref cB) none H)/\(xs.length<=8->(∀x∈xs,Cw K H x)/\((∃x∈xs,OU x=none)->∀H',zk H H'->E (.ref cR) none H')/\∀rs:List Rk,xs.map OU=rs.map some->(¬(rs.map Rk.name).Nodup->∀H',zk H H'->E (.ref cB) none H')/\((rs.map Rk.name).Nodup->∀a H',H a=none->U6 C H' B dx t (vF es Y a rs)->(∀b o,H b=some o->b≠t->H' b=some o)->Q .non H')))))
theorem pM {x:V}{r:Rk}(h:OU x=some r):Gd 3 r:=by
 cases x with
 |str z=>exact Gi h
 |_=>cases h
theorem tU {K:BFr}{x:V}(h:j4 K H x):OU x=none:=by
 cases x with
 |str z=>exact K7 rfl (PJ h (z:=z))
 |_=>rfl
end Pg
namespace K12
open PySem PySem.NumText L2 Pg
seal PE PA PT PW PS y8 PG j5 PI jQ PO PK
section
variable {K:BFr}{mg:af->Option ae}
theorem ML {cB:ag}(F:qU K "need_few" "need_few" (top 71) f fd)(G:vh mg)(X:Er K mg "BadBook" cB)(N1:WQ mg "MOST_RULES" 8):zL P w K mg base (jS P w) 1 f fd ["thing"] (Ud K cB):=by
 obtain⟨tm,hm⟩:=N1;refine F.okE (N:=["thing"]) ?_ ?_ ?_;walk_at"t"
 ·obtain⟨v,rfl,_⟩:=h;rfl
 ·obtain⟨v,rfl,h⟩:=h;refine⟨_,zh (zK (PW.pt (yI (qB (qC (zv zG U G.isinstance zz (za (pv 0) (za (yV (v:=.ty "list") U G.list Qz U) zd))))) (yJ (zx vX (zv zJ U G.len aH (za (pv 0) zd)) (zQ (v:=.int 8) U hm ⟨_,U⟩) (zD _))))) (zh (qP qa U U X.at' X.ex (za zj zd))) zB),?_⟩;rcases h with⟨⟨r,N',ty,e⟩,q⟩ |⟨l,xs,rfl,hl,q1,q2⟩
  ·obtain⟨_,_,_,k4⟩:=kY (K:=K) r N';rw[e]at k4;exact⟨_,U,_,_,_,_,false,U,U,.inl ty,k4,false,U,qY (qY ⟨∅,q⟩)⟩
  ·refine⟨_,U,_,_,_,_,true,U,U,.inl (.lst hl),U,true,U,qM ⟨_,U,l,_,U,.inl (zN.of hl),_,_,U,U,_,U,qg (λe=>⟨∅,q1 ?_⟩) (λe=>q2 ?_)⟩⟩
   ·have:(8:Int)<(xs.length:Nat):=G' e;omega
   ·have:¬(8:Int)<(xs.length:Nat):=λc=>e (i' c);omega
theorem nW {cB:ag}(F:qU K "need_unlike_names" "need_unlike_names" (top 72) f fd)(G:vh mg)(X:Er K mg "BadBook" cB)(CL:∀k,k<6->Yz K (Cs k))(NM:∀k,k<6->yD K (Cs k) "name"):zL P w K mg base (jS P w) 1 f fd ["rules"] (UG Cs cB):=by
 have nc:(["rule"]:List af).Nodup:=⋯
 refine F.okE (N:=["rules"]) ?_ ?_ ?_;walk_at"t"
 ·obtain⟨l,rs,rfl,_⟩:=h;rfl
 ·obtain⟨l,rs,rfl,⟨ys,hl,T⟩,gd,few,q⟩:=h;refine' ⟨_,zh (zK (zx wO (Vl U U G.len U G.set (za ?comp zd)) (zv zJ U G.len aH (za (pv 0) zd)) (zD _)) (zh (qP qa U U X.at' X.ex (za zj zd))) zB),?main⟩
  case comp=>
   refine' qk (cl:=[]) (src:=[none]) (wi:=Zl K (zV 0)) (g:=qc 0) (tt:=qL) (te:=MO K (zV 0) "name")
    (cO nc ⟨U,U,⋯,⋯,(λx c z=>nomatch z),qF (by rfl),zR qb,U⟩) rfl (ye (pv 0)) ?hb
   case hb=>
    intro fp C' s' H';exact⟨zO (i:=0) nc U (ay U),qt,z7 (pv 0) U⟩
  walk_at"d0"
  refine⟨_,U,l,U,⟨_,zN.of hl⟩,λD hD=>js (jc (zN.of hl)) T hD (by rw[ai];omega) (λr=>V.str r.name) (λr hm v H1 R s1 ro k=>?_) (λH1 s1 e1=>?_)⟩
  ·obtain⟨oa,dx,fs,rfl,ho,nm,no⟩:=ro.obj (gd r hm);have k6:=TU r;exact⟨_,U,oa,_,dx,fs,_,U,ho,CL _ k6,NM _ k6,nm,k _ (zk.refl _)⟩
  ·have yl:=T.len;refine⟨D,rs.map Rk.name,U,zN.of (by rw[CP];exact e1),by rw[CH];omega,λn nle nn=>?_⟩;rw[CH]at nle nn;refine⟨_,U,l,_,U,.inl (zN.of (s1 _ _ hl)),_,_,U,U,_,U,qg (λe=>⟨∅,(q H1 s1).2 ?_⟩) (λe=>(q H1 s1).1 ?_)⟩
   ·have:((n:Nat):Int)<(ys.length:Nat):=G' e;exact nn.mp (by omega)
   ·have:¬((n:Nat):Int)<(ys.length:Nat):=λc=>e (i' c)
    by_cases h:(rs.map Rk.name).Nodup
    ·exact h
    ·exact K7 (nn.mpr h) (by omega)
theorem mY {cB:ag}(hj:4<=j)(F:qU K "put" "RuleBook.put" (zX (top 73) 1) f fd)(G:vh mg)(KC:Yz K C)(nT:yD K C "told")(C1:qX P w K mg base (jS P w) 3 "need_year" ["thing"] (YD K cY 9999))(C2:qX P w K mg base (jS P w) 1 "need_few" ["thing"] (Ud K cB))(C3:qX P w K mg base (mX P w) j "rule_of" ["text"] (YT K Cs cR))(C4:qX P w K mg base (jS P w) 1 "need_unlike_names" ["rules"] (UG Cs cB))(MR:∀k,k<6->yu P w K mg base zY 4 (Cs k) "row" ["self"] (jv 3 k Cs)):zL P w K mg base (mX P w) (j+1) f fd ["self","year","rows"] (Z4 K C cY cB cR):=by
 have nd:(["self","year","rows","rules"]:List af).Nodup:=⋯
 have nc1:(["row"]:List af).Nodup:=⋯
 have nc2:(["rule"]:List af).Nodup:=⋯
 refine F.okY (nS nd ?_) ?_ ?_;walk_at"t"
 ·obtain⟨B,dx,t,es,y,v,rfl,_⟩:=h;rfl
 ·obtain⟨B,dx,t,es,y,v,rfl,BK,el,h⟩:=h;have hu:=VM hr
  refine' ⟨_,(zg (z6 (zq C1 hr (by lia) gL (za (pv 1) zd)))
    (zg (z6 (zq C2 hr (by lia) gL (za (pv 2) zd)))
    (zg ?c1
    (zg (z6 (zq C4 hr (by lia) gL (za (pv 3) zd)))
    (zh (Uy hu (z7 (pv 0) U) (pv 1) ?c2 U)))))),?main⟩
  case c1=>
   refine' Ph (Ct:=vw) (E:=E) (i:=3) (cl:=[]) (src:=[none]) (wi:=Zl K (zV 2)) (g:=qc 0) (tt:=qL) (te:=λσ H Q=>qN (zV 0) y6 σ H λvs H1=>YT K Cs cR vs H1 Q E)
    qa rfl rfl nd rfl rfl (cO nc1 ⟨U,U,⋯,⋯,(λx c z=>nomatch z),qF (by rfl),zR qb,U⟩) rfl (ye (pv 2)) ?hb
   case hb=>
    intro fp C' s' H' xe th;exact⟨zO (i:=0) nc1 U (ay U),qt,zq C3 hr (CI _) (jN U U th) (za (pv 0) zd)⟩
  case c2=>
   refine' qk (cl:=[]) (src:=[none]) (wi:=Zl K (zV 3)) (g:=qc 0) (tt:=qL) (te:=λσ H Q=>∃k,k<6/\bZ (Cs k) "row" (jv 3 k Cs) E0 (zV 0) y6 σ H Q)
    (cO nc2 ⟨U,U,⋯,⋯,(λx c z=>nomatch z),qF (by rfl),zR qb,U⟩) rfl (ye (pv 3)) ?hb
   case hb=>
    intro fp C' s' H';exact⟨zO (i:=0) nc2 U (ay U),qt,Z0 (p:=λk=>k<6) λk hk=>jZ (MR k hk) hr hj zA (pv 0)⟩
  walk_at"d0"
  rcases h with⟨ny,q⟩ |⟨Y,rfl,Y0,Y1,h⟩
  ·exact⟨_,U,y,U,.inr ⟨ny,q⟩⟩
  rcases h with⟨nl,q⟩ |⟨l,xs,rfl,hl,q1,q2⟩
  ·exact⟨_,U,_,U,.inl ⟨Y,U,Y0,Y1,_,U,v,U,.inl ⟨nl,q⟩⟩⟩
  refine⟨_,U,_,U,.inl ⟨Y,U,Y0,Y1,_,U,.ref l,U,.inr ⟨l,xs,U,hl,q1,λfew=>?_⟩⟩⟩;obtain⟨tx,qR,q⟩:=q2 few;refine⟨_,U,l,U,⟨_,zN.of hl⟩,λD hD=>?_⟩;refine Y7 (K:=K) (a:=l) (xs:=xs) (λi ys σ H'=>∃(x0:Option V) (rs:List Rk),σ=[x0]/\zk H H'/\H' D=some (.lst ys)/\ys.length=i/\(xs.take i).map OU=rs.map some/\∀(n:Nat) u r,ys[n]?=some u->rs[n]?=some r->wW Cs H' r u) ⟨_,[],U,zk.upd hD,zi,U,U,λn u r h=>nomatch h⟩ (λi ys σ H' hi ⟨x0,rs,e,s2,hd,_⟩=>⟨zN.of (s2 _ _ hl),hd⟩) ?_ ?_
  ·rintro i x ys σ H2 hx ⟨x0,rs,rfl,s2,hd,yl,em,T⟩;have mx:=dG hx;have il:i<xs.length:=(C7.mp hx).1
   have kp:∀{H3:Hp} {SK:List V},zk H2 H3->ZA H3 (upd H3 D (.lst SK)):=λ{H3 SK} s3 b o hb no=>by
    rw[zm λc=>no ys (by rw[c,s3 _ _ hd]at hb;exact(ao hb).symm)];exact hb
   unfold Qb qc qL;dsimp only;refine qY ⟨_,U,x,U,?_⟩
   have good:∀r o H3,OU x=some r->zk H2 H3->wW Cs H3 r o->H3 D=some (.lst ys)/\ys.length<au/\∃(x0:Option V) (rs:List Rk),([x0]:St)=[some x]/\zk H (upd H3 D (.lst (ys++[o])))/\(upd H3 D (.lst (ys++[o]))) D=some (.lst (ys++[o]))/\(ys++[o]).length=i+1/\(xs.take (i+1)).map OU=rs.map some/\∀(n:Nat) u r,(ys++[o])[n]?=some u->rs[n]?=some r->wW Cs (upd H3 D (.lst (ys++[o]))) r u:=λr o H3 er s3 ro=>by
    refine⟨s3 _ _ hd,by rw[yl,ai];lia,_,rs++[r],U,λb o' hb=>?_,zi,?_,?_,λn u r' hu N'=>?_⟩
    ·rw[zm (zC hb hD)];exact s3 _ _ (s2 _ _ hb)
    ·rw[CS,yl];rfl
    ·rw[dR,hx,CN,em,CN];show _++[OU x]=_;rw[er];rfl
    ·have rl:rs.length=i:=by
      have:=K4 fJ em;rw[CH,CH,dH]at this;lia
     by_cases c:n<i
     ·rw[Dh (by lia)]at hu N';exact((T n u r' hu N').same s3).keep (kp s3)
     ·have:n=i:=by
       have:=(C7.mp hu).1;rw[CS]at this;have:n<ys.length+1:=this;lia
      subst this;rw[dZ (by lia),yl,DN]at hu;rw[dZ (by lia),rl,DN]at N';cases hu
      cases N'
      exact ro.keep (kp s3)
   rcases tx x mx with ns |⟨z,rfl,zl⟩
   ·exact .inl ⟨ns.same s2,qR ⟨x,mx,tU ns⟩ H2 s2⟩
   ·refine .inr ⟨z,U,zl,λH3 s3=>⟨λr o er ro=>?_,λer=>qR ⟨_,mx,er⟩ H3 (s2.trans s3)⟩⟩;obtain⟨g1,g2,x0',rs',g3,g4⟩:=good r o H3 er s3 ro;exact⟨g1,g2,_,rs',U,g4⟩
  ·rintro ys σ H1 ⟨x0,rs,rfl,s1,e1,yl,em,T⟩;rw[Do (CI _)]at em;obtain⟨qn,q⟩:=q rs em
   have rl:rs.length=xs.length:=by
    have:=K4 fJ em;rw[CH,CH]at this;lia
   have gd:∀r∈rs,Gd 3 r:=λr N'=>by
    have:some r∈rs.map some:=CK.mpr ⟨r,N',U⟩;rw[<- em]at this;obtain⟨x,_,e⟩:=CK.mp this;exact pM e
   have TI:yN H1 ys rs (λH' v r=>wW Cs H' r v):=⟨by rw[yl,rl],λi y e=>by
    have hi:i<rs.length:=by rw[rl,<- yl];exact(C7.mp e).1
    exact⟨_,CZ hi,λH' s=>(T i y _ e (CZ hi)).same s⟩⟩
   refine⟨_,U,D,rs,U,⟨ys,e1,TI⟩,gd,by lia,λH2 s2=>⟨λnn=>?_,λnn=>qn nn H2 (s1.trans s2)⟩⟩;have ok:Qn rs:=⟨gd,nn,by lia⟩;have e2:=s2 _ _ e1;have T2:=TI.same s2;refine⟨_,U,D,U,⟨_,zN.of e2⟩,λD2 W_=>js (jc (zN.of e2)) T2 W_ (by rw[ai];lia) (λr=>V.str (q8 r)) (λr hm v H3 R s3 ro k=>?_) (λH3 s3 e3=>?_)⟩
   ·obtain⟨oa,dxo,fs,rfl,ho,nm,no⟩:=ro.obj (ok.gd r hm);exact⟨r.kd,TU r,_,U,oa,dxo,fs,U,ho,no "row" ∅,_,r,U,U,ro,ok.gd r hm,λH4 s4=>k _ s4⟩
   have S3:=s1.trans (s2.trans s3);have B3:=BK.fr λb o h=>S3 _ _ h;refine⟨_,U,B,C,dx,_,_,U,B3.ins,KC,nT,U,_,U,t,_,U,Xs.k (k:=a_ Y) B3.dic (by unfold j0;rw[CH,ai];lia),?_⟩;rw[Xv (a:=D2) (rs:=rs)];have D0:H D2=none:=(s1.trans s2).free W_;have nt:∀b xs,H3 b=some (.lst xs)->b≠t:=λb xs h=>yy h B3.dic (by intro z;cases z);refine q nn D2 _ D0 ⟨by rw[zm (yy B3.ins B3.dic (by intro z;cases z))];exact B3.ins,zi,GE B3.nd,λe he=>?_,λe he=>?_⟩ λb o h n=>by rw[zm n];exact S3 _ _ h
   ·rcases vW he with rfl |he
    ·show upd H3 t _ D2=_;rw[zm (nt _ _ e3)];exact e3
    ·rw[zm (nt _ _ (B3.row e he))];exact B3.row e he
   ·rcases vW he with rfl |he
    ·exact ok
    ·exact B3.ok e he
end
end K12
namespace Pg
open PySem PySem.NumText L2 Builtin Builtin.Str
theorem jU {p:Int}(h:Vd p):yi 13 (toString p)=some p:=by
 unfold yi;have e:=jK h.1;rw[K6 ⟨ZG h,by rw[e];exact mh _⟩,e,r9];have:=h.1
 congr 1
 lia
theorem GV (ha:Vd q.1)(hp:YM q.2):yK (yU q)=some q:=by
 unfold yK;rw[(Xu q ha.1 hp.1).1];show gQ (yi 13 _) (yi 13 _)=_;rw[jU ha,jU (ZZ hp)];rfl
theorem X9 (ok:QR ps):jf (av (vx ps) ",")=some ps:=by
 rw[(xx ok).1];refine QF ?_;rw[CP];exact dY λq hq=>GV (ok.ok q hq).1 (ok.ok q hq).2
theorem Gb {r:Int}(h:Vd r):uL r=true:=i' h
theorem WL {r:Int}(h:YM r):vH r=true:=i' h
theorem Vt {n:af}(h:yx n):yT n=true:=by
 unfold yT ug;have h1:=h.ok.lo;have h2:=h.ok.hi;have h3:=h.ok.all;have h4:=h.no;rw[h4,i' h1,i' h2,h3];rfl
theorem xR:∀{zs:List Int},zs.Pairwise (· < ·)->vP zs=true
 |[],_=>rfl
 |[_],_=>rfl
 |a::b::l,h=>by
  obtain⟨h1,h2⟩:=DD.mp h;show(decide (a<b)&&vP (b::l))=true;rw[i' (h1 b CU),xR h2];rfl
theorem b9 (ok:QR ps):JB (Jx ps)=true:=by
 have eo:Jx ps=ps.map some:=dY λq hq=>by
  have:=ok.ok q hq;rw[Gb this.1,WL this.2];rfl
 obtain⟨p,r,e⟩:=ok.hd;unfold JB;rw[eo,Z7,CH,Dv,show(ps.all (fM ∘ some))=true from dj.mpr λ_ _=>rfl,dm];rw[i' (show 1<=ps.length/\ps.length<=12 from ⟨by rw[e];exact Dg _ _,ok.few⟩),dm];rw[xR (Eu.mpr ok.up),d7,e];rfl
theorem XE {d:Nat}{r:Rk}(g:Gd d r):wQ d (qK r)=some r:=by
 induction g with
 |@pln d r p=>
  cases p with
  |@flat n a hn ha=>
   rw[jV d rfl];show jy [("flat":af),n,(toString a:af)]=_;rw[UQ];unfold VT;rw[jU ha];show(if (yT n&&uL a)=true then _ else _)=_;rw[Vt hn,Gb ha];rfl
  |@share n p w hn hp hw=>
   rw[jV d rfl];show jy [("share":af),n,(toString p:af),w]=_;rw[JA];unfold Oc;rw[jU (ZZ hp)];show(if (yT n&&(vH p&&wayL.contains w))=true then _ else _)=_;rw[Vt hn,WL hp,show wayL.contains w=true from hw];rfl
  |@capped n p m w hn hp ha hw=>
   rw[jV d rfl];show jy [("capped":af),n,(toString p:af),(toString m:af),w]=_;rw[Qu];unfold lK;rw[jU (ZZ hp),jU ha];show(if (yT n&&((vH p&&wayL.contains w)&&uL m))=true then _ else _)=_;rw[Vt hn,WL hp,Gb ha,show wayL.contains w=true from hw];rfl
  |@least n p m w hn hp ha hw=>
   rw[jV d rfl];show jy [("least":af),n,(toString p:af),(toString m:af),w]=_;rw[Ju];unfold Pf;rw[jU (ZZ hp),jU ha];show(if (yT n&&((vH p&&wayL.contains w)&&uL m))=true then _ else _)=_;rw[Vt hn,WL hp,Gb ha,show wayL.contains w=true from hw];rfl
 |@bands d n w ps hn ok hw=>
  rw[jV d rfl];show jy [("bands":af),n,vx ps,w]=_;rw[JU];unfold G1;rw[X9 ok];show(if (yT n&&(JB (Jx ps)&&wayL.contains w))=true then _ else _)=_;rw[Vt hn,b9 ok,show wayL.contains w=true from hw];rfl
 |@ontop d n w p r hn hp hw g ih=>
  obtain⟨x,ws,e,_⟩:=wB r
  have:qK (.ontop n p w r)=("ontop":af)::n::(toString p:af)::w::("of":af)::x::ws:=by
   show [("ontop":af),n,(toString p:af),w,("of":af)]++qK r=_;rw[e];rfl
  rw[this,Je,<- e,ih];show Lr n (toString p) w r=_;unfold Lr;rw[jU (ZZ hp)];show(if (yT n&&(vH p&&wayL.contains w))=true then _ else _)=_;rw[Vt hn,WL hp,show wayL.contains w=true from hw];rfl
theorem ud {r:Rk}(g:Gd 3 r):wQ 3 (av (q8 r) " ")=some r:=by
 rw[(oq g).1];exact XE g
end Pg
namespace L2
open PySem PySem.Spec PyProof.Rows
section
variable {r:ag}{Q:VK}{OK:List Int->Prop}
theorem X1 (hc:∀R:List ae->ar->Prop,(∀s1 vs zs,iP vs zs->OK zs->vs.length<64->zH X pins σ H s1->R vs s1)->wpAny (aA X.prog X.w) A.in1 (collect (.ref r)) R E s)(q:∀zs zs':List Int,OK zs->zs'.Perm zs->zs'.Pairwise (·<=·)->x8 H (.lst (zs'.map V.int)) Q):
  wpAny (aA X.prog X.w) A (call (.builtin "sorted") [.ref r]) (EP X pins σ Q) E s:=by
 refine iV Iv Ht Hv (Hw _) ?_;unfold Builtin.«sorted»;refine aa (m:=Kk "sorted" 1 1 _) (aj (aa (hc _ λs1 vs zs hS ok h64 I1=>?_)));refine aa (As ?_ (by rw[ai];lia));have hD:(s1.heap.push (fZ "list" vs.toArray 0)).get? s1.heap.objs.size=some (fZ "list" vs.toArray 0):=dA _ rfl;refine aa (d_ (hV Ff ⟨_,hD,U⟩ A0 (Kl hD hS h64 λout zs' a1 a2 a3=>⟨_,U,?_⟩) (Fg _)));obtain⟨c,he⟩:=sortedHeap_at (out:=out) hD
 have J:=I1.kept (t':=s1.toks) (h':=sortedHeap (s1.heap.push (fZ "list" vs.toArray 0)) s1.heap.objs.size vs out) λb o e=>by
  have lt:=C5 e;rw[Km (de lt) (by rw[DF];exact eP lt)];exact dc _ e
 have hn:H s1.heap.objs.size=none:=I1.hok.fresh (CI _);have rv:=kU a1
 have sl:zs'.length<64:=by
  have:=rv.length;rw[CH]at this;have l2:=(kU hS).length;rw[CH]at l2;have:=a2.length_eq;lia
 refine aj ⟨_,U,.ref _,_,J.adopt (us:=out.toList) (I1.fpOk (CI _) hn) (by rw[Array.toArray_toList];exact he) rv ?_,U,(q zs zs' ok a2 a3).at hn⟩;rw[CH,ai];lia
end
theorem WU {zs:List Int}(r:qp (zs.map V.int) K8):iP K8 zs:=by
 induction zs generalizing K8 with
 |nil=>cases r;exact .nil
 |cons x l ih=>
  cases r with
  |cons a b=>
   obtain⟨t,rfl⟩:=a;exact .cons x t (ih b)
inductive LG (xs:List V)(H:Hp)(Q:VK):Prop|mk(d:ag)(kvs:List (yY×V))(ks:List Int)(_:xs=[.ref d])(_:Rd H d (.dK kvs))(_:kvs.map (·.1)=ks.map a_)(_:ks.length<64)(_:∀zs:List Int,zs.Perm ks->zs.Pairwise (·<=·)->x8 H (.lst (zs.map V.int)) Q)
theorem x9 (L':X.calm=true):uH X (.builtin "sorted") LG:=by
 intro pins s σ H xs us Q I r h;obtain⟨d,kvs,ks,rfl,hd,hk,h64,q⟩:=h;obtain⟨u,rfl,ru⟩:=kA r;cases ru;obtain⟨hz,hsm,vs,P',dd⟩:=JL I.hok hd;obtain⟨ep,hat⟩:=dd.dictAt
 have kl:kvs.length=ks.length:=by
  have:=K4 fJ hk
  rwa [CH,CH]at this
 have rl:ks.length=vs.length:=by rw[<- kl];exact iz P'
 refine X1 (OK:=λzs=>zs=ks) (λR hR=>FO (A:=X.A.in1) (Im (knd:=q9 X.prog X.w) (kvs:=vs) (ep:=ep) hsm) (I.ok.hd L') hat (by rw[<- rl,ai];lia) λh' tk L_ hk hacc=>hR _ _ _ (WU (zs:=ks) ?_) U ?_ (I.kept (t':=tk) hk)) λzs zs' e=>by
  subst e;exact q zs'
 ·refine Qv (by rw[CH,show L_.toList.length=vs.length from (dJ).trans hacc.1];exact rl) λi a b e1 e2=>?_;rw[CO]at e1;obtain⟨z,hz,rfl⟩:=C8.mp e1;obtain⟨k,x,k1,k2⟩:=hacc.2 i b (by rw[<- DQ];exact e2);obtain⟨pp,f1,f2,f3⟩:=QW P' k1;have g1:(kvs.map (·.1))[i]?=some pp.1:=by rw[CO,f1];rfl
  rw[‹kvs.map (·.1)=_›,CO,hz]at g1;have g1:(a_ z:yY)=pp.1:=ao g1;have f2:pp.1=k:=f2;have g:=UW k2;rw[<- f2,<- g1]at g;exact g
 ·rw[show L_.toList.length=vs.length from (dJ).trans hacc.1,<- rl];exact h64
section
variable {K:BFr}{mg:af->Option ae}{C:CT}{k:Nat}{ps:List af}
theorem zL.calm (F:zL P w K mg base (GK C P w) k f fd ps sp):zL P w K mg base zY k f fd ps (λvs H Q _=>sp vs H Q E0):=by
 refine⟨λvs H Q E h=>F.len vs H Q E0 h,λA outer s H args us vs Q E hr e b v h=>ir (F.run A outer s H args us vs Q E0 hr e b v h) λr s' q=>?_⟩
 cases r with
 |ok f=>cases f<;>exact q
 |error e=>
  obtain⟨ea,cls,H',_,_,_,_,_,_,no⟩:=q;exact no.elim
end
end L2
variable {cN:ag}
namespace Pg
open PySem PySem.NumText L2 Builtin Builtin.Str
inductive w9 (K:BFr)(C cY cN:ag)(vs:List V)(H:Hp)(Q:VK)(E:XK):Prop|mk(B dx t:ag)(es:List Be)(y:V)(_:vs=[.ref B,y])(_:U6 C H B dx t es)(_:es.length<=20000)(_:((lZ K H 9999 y/\E (.ref cY) none H)∨∃Y,y=.int Y/\0<=Y/\Y<=9999/\(OX es Y=[]->∀H',zk H H'->E (.ref cN) none H')/\∀m rs,UY (es.map yr) Y m rs->Qn rs->∀l H',zk H H'->H l=none->H' l=some (.lst (yq rs))->Q (.ref l) H'))
end Pg
namespace K12
open PySem PySem.NumText L2 Pg
seal PE PA PT PW PS y8 PG j5 PI jQ PO PK
section
variable {K:BFr}{mg:af->Option ae}
theorem lE (F:qU K "rows" "RuleBook.rows" (zX (top 73) 2) f fd)(G:vh mg)(X:Er K mg "NoYear" cN)(KC:Yz K C)(nT:yD K C "told")(C1:qX P w K mg base (jS P w) 3 "need_year" ["thing"] (YD K cY 9999)):zL P w K mg base (jS P w) 4 f fd ["self","year"] (w9 K C cY cN):=by
 have nd:(["self","year","ahead"]:List af).Nodup:=⋯
 have nc:(["other","year"]:List af).Nodup:=⋯
 refine F.okE (nS nd ?_) ?_ ?_;walk_at"t"
 ·obtain⟨B,dx,t,es,y,rfl,_⟩:=h;rfl
 ·obtain⟨B,dx,t,es,y,rfl,BK,el,h⟩:=h;have hu:=VM hr
  refine' ⟨_,(zg (z6 (zq C1 hr ∅ qO (za (pv 1) zd)))
    (zg (mQ ?c1)
    (zg (zK (zx qw (zv zJ U G.len aH (za (pv 2) zd)) ze (zD _)) (zh (qP qa U U X.at' X.ex (za zj zd))) zB)
    (zh (zt (zZ Qo U G.list Qz (za (Zc hu (z7 (pv 0) U) (zv (Oz U) U G.max PyProof.Rows.boot_max (za (pv 2) zd)) (λ_ _=>rfl)) zd))))))),?main⟩
  case c1=>
   refine' Zb (i:=2) (cl:=[("year",s.heap.objs.size+1)]) (src:=[none,some 1]) (wi:=rY (MO K (zV 0) "told")) (g:=qc 0) (tt:=JD (vp (WJ λi j=>.bl (decide (i<=j))) (zV 0) (zV 1))) (te:=zV 0)
    nd rfl rfl (cO nc ⟨U,U,⋯,⋯,um (JO U),qF (by rfl),zR (yb ⟨_,U,U,U,U⟩ qb),U⟩) rfl (gW (z7 (pv 0) U)) ?hb
   case hb=>
    intro fp C' s' H';exact⟨zO (i:=0) nc U (ay U),ZN (zx Jt (pv 0) (pv 1) (zD _)),pv 0⟩
  walk_at"d0"
  rcases h with⟨ny,q⟩ |⟨Y,rfl,Y0,Y1,qe,q⟩
  ·exact⟨_,U,y,U,.inr ⟨ny,q⟩⟩
  have tB:B≠t:=yy BK.ins BK.dic (by intro z;cases z);refine⟨_,U,_,U,.inl ⟨Y,U,Y0,Y1,t,j0 es,BK.dic,λo=>?_⟩⟩;refine⟨_,U,B,C,dx,_,_,U,by rw[zm tB];exact BK.ins,KC,nT,U,t,o,j0 es,U,zi,λD hD=>?_⟩
  have ek:(j0 es).map (λp=>kV p.1)=(es.map (·.1)).map V.int:=by
   unfold j0;rw[CP,CP];rfl
  have wd:=VC (H:=upd H t (.frz o (.dK (j0 es)))) (d:=t) (o:=o) (kvs:=j0 es) zi;rw[ek]at wd;refine uA wd hD (by rw[CH,CH,ai];omega) (λx=>match x with|.int y=>decide (y<=Y) |_=>false) id (λx hx H' R _ r=>?_) (λx hx _ H' R _ r=>⟨_,U,r⟩) ?_
  ·obtain⟨y,_,rfl⟩:=CK.mp hx;exact⟨_,U,_,U,_,_,U,U,_,U,r⟩
  have ea:(((es.map (·.1)).map V.int).filter λx=>match x with|.int y=>decide (y<=Y) |_=>false).map id=(OX es Y).map V.int:=by
   rw[List.map_id,List.filter_map];rfl
  rw[ea];have Dt:D≠t:=λz=>by rw[z,zi]at hD;cases hD
  have sf:zk (upd H t (.frz o (.dK (j0 es)))) (upd (upd H t (.frz o (.dK (j0 es)))) D (.lst ((OX es Y).map V.int))):=zk.upd hD;refine⟨by rw[zm (fK Dt)];exact zi,?_⟩;have S1:zk H (upd (upd (upd H t (.frz o (.dK (j0 es)))) D (.lst ((OX es Y).map V.int))) t (.dK (j0 es))):=QZ BK.dic sf;have e1:(upd (upd (upd H t (.frz o (.dK (j0 es)))) D (.lst ((OX es Y).map V.int))) t (.dK (j0 es))) D=some (.lst ((OX es Y).map V.int)):=by rw[zm Dt,zi]
  generalize upd (upd (upd H t (.frz o (.dK (j0 es)))) D (.lst ((OX es Y).map V.int))) t (.dK (j0 es))=H1 at S1 e1;have B1:=BK.fr λb o h=>S1 _ _ h;refine⟨_,U,D,_,U,.inl (zN.of e1),U,_,U,qg (λe=>⟨∅,qe ?_ H1 S1⟩) (λe=>?_)⟩
  ·rw[UD,CH]at e;exact eh.mp (by omega)
  have ne:OX es Y≠[]:=λz=>e (by rw[z];exact i' U);obtain⟨m,hm,top⟩:=Ta ne;obtain⟨en,he,em,pk⟩:=lO hm top
  have gd:wZ H1 t (.int m) (some (.ref en.2.1)):=by
   rw[<- em,<- QU B1.nd he];exact wZ.k (k:=a_ en.1) B1.dic
  refine⟨_,U,B,C,dx,_,_,U,B1.ins,KC,nT,U,_,U,D,_,m,U,zN.of e1,hm,top,t,_,U,gd,en.2.1,_,U,.inl (zN.of (B1.row en he)),λb b0=>?_⟩;exact q m en.2.2 pk (B1.ok en he) b _ (S1.trans (zk.upd b0)) (S1.free b0) zi
end
end K12
namespace Pg
theorem VZ:∀{l m:List Int},l.Pairwise (· < ·)->m.Pairwise (· < ·)->(∀z,z∈l↔z∈m)->l=m
 |[],[],_,_,_=>rfl
 |[],b::m,_,_,h=>K7 ((h b).mpr CU) (by simp)
 |a::l,[],_,_,h=>K7 ((h a).mp CU) (by simp)
 |a::l,b::m,h1,h2,h=>by
  rw[DD]at h1 h2
  have e:a=b:=by
   rcases CJ.mp ((h a).mp CU) with e |e
   ·exact e
   ·rcases CJ.mp ((h b).mpr CU) with e' |e'
    ·exact e'.symm
    ·have:=h2.1 a e;have:=h1.1 b e';lia
  subst e
  congr 1
  refine VZ h1.2 h2.2 λz=>⟨λhz=>?_,λhz=>?_⟩
  ·rcases CJ.mp ((h z).mp (C6 _ hz)) with e |e
   ·have:=h1.1 z hz;lia
   ·exact e
  ·rcases CJ.mp ((h z).mpr (C6 _ hz)) with e |e
   ·have:=h2.1 z hz;lia
   ·exact e
end Pg
namespace L2
open PySem PySem.Spec PyProof PyProof.Rows
def Zj:V->Bool
 |.non=>true
 |_=>false
def lH (K:BFr)(H:Hp)(x:V):Prop:=jX x=true∨∃t c,x=.ref t/\yE K H t c
def nU:ae->Bool
 |.none=>true
 |_=>false
theorem cw (hu:A.units<hZ)(I:zH X pins σ H s){x:V}(r:qy x u)(f:lH X.K H x):sx A s u .none (Zj x)/\nU u=Zj x:=by
 rcases f with f |⟨t,c,rfl,ht⟩
 ·cases x with
  |non=>cases r;exact⟨sL _,U⟩
  |bl b=>cases r;exact⟨Fm b,U⟩
  |int i=>obtain⟨t,rfl⟩:=r;exact⟨FI i t,U⟩
  |str z=>obtain⟨t,rfl⟩:=r;exact⟨FJ z t,U⟩
  |_=>exact K7 (show false=true from f) dq
 ·cases r;obtain⟨K8,r,pl,hz⟩:=I.tuple ht;exact⟨SeqAt.EqAt.tuple_none pl hu,U⟩
theorem Pz (hu:A.units<hZ)(I:zH X pins σ H s):∀{xs:List V} {us:List ae},qp xs us->(∀x∈xs,lH X.K H x)->(∀u∈us,sx A s u .none (nU u))/\us.any nU=xs.any Zj
 |_,_,.nil,_=>⟨λ_ h=>(nomatch h),U⟩
 |x::xs,u::us,.cons r t,f=>by
  obtain⟨a,b⟩:=cw hu I r (f x CU);obtain⟨c,d⟩:=Pz hu I t λy hy=>f y (C6 _ hy);refine⟨λw hw=>?_,by rw[DJ,DJ,b,d]⟩;rcases CJ.mp hw with rfl |hw
  ·rw[b];exact a
  ·exact c w hw
inductive Bu (K:BFr)(x y:V)(H:Hp)(Q:VK):Prop|mk(p xs:_)(_:x=.non)(_:y=.ref p)(_:(zN K H p xs∨yE K H p xs))(_:(∀x∈xs,lH K H x))(_:Q (.bl (xs.any Zj)) H)
theorem PZ (un:X.A.units+1<hZ):Zf X (fA .In) (Bu X.K):=by
 intro pins s σ H x y v u Q I rx ry h;obtain⟨p,xs,rfl,rfl,hq,fs,q⟩:=h;cases rx;cases ry;rcases hq with hq |hq
 ·obtain⟨K8,r,pl,hz⟩:=I.list hq;obtain⟨a,b⟩:=Pz (A:=X.A.in1) (show X.A.units+1<hZ from un) I r fs;refine IF nU pl.isList (λw hw=>a w (by simpa using hw)) ⟨.bl _,H,I,U,?_⟩;rw[show K8.toArray.any nU=K8.any nU by simp,b];exact q
 ·obtain⟨K8,r,pl,hz⟩:=I.tuple hq;obtain⟨a,b⟩:=Pz (A:=X.A.in1) (show X.A.units+1<hZ from un) I r fs;refine Ie nU pl (λw hw=>a w (by simpa using hw)) ⟨.bl _,H,I,U,?_⟩;rw[show K8.toArray.any nU=K8.any nU by simp,b];exact q
end L2
namespace Pg
open PySem PySem.NumText L2 Builtin Builtin.Str
theorem VE:∀{n:Nat} {l:List Nat},l.length=n->uz l=true->l=dg (digitsVal l):=by
 intro n
 induction n with
 |zero=>
  intro l e h
  cases l with
  |nil=>cases h
  |cons=>cases e
 |succ n ih=>
  intro l e h;unfold uz at h;rw[CM]at h;obtain⟨hd,ne⟩:=jO h.1;obtain⟨a,c,rfl⟩:∃a c,l=a++[c]:=⟨l.dropLast,l.getLast ne,(Dq ne).symm⟩;have hc:=hd c (dN _ CU)
  cases a with
  |nil=>
   show [c]=dg (0*10+(c-48));rw[UZ (by lia)]
   congr 1
   lia
  |cons b a=>
   have b48:b≠48:=λz=>by
    have h2:=h.2;rw[z]at h2
    have e1:decide (48::a++[c]=[48])=false:=D' λe=>by
     have:=K4 fJ e
     simp at this
    have e2:decide ((48::a++[c]).head?=some 48)=true:=i' rfl;rw[e1,e2]at h2;cases h2
   have na:uz (b::a)=true:=by
    unfold uz vM;rw[CM,CM];refine⟨⟨U,dj.mpr λx hx=>?_⟩,?_⟩
    ·have:=hd x (d9 _ hx);unfold wY;rw[i' this.1,i' this.2];rfl
    ·have:decide ((b::a).head?=some 48)=false:=D' λz=>b48 (ao z);rw[this];exact Ew _
   have ea:=ih (by simp at e ⊢;lia) na
   have p1:1<=digitsVal (b::a):=by
    have hb:=hd b (d9 _ CU);rcases Nat.eq_zero_or_pos (digitsVal (b::a)) with z |z
    ·rw[z,UZ ∅]at ea;exact K7 (FU ea).1 b48
    ·exact z
   rw[Kn,Uj (by lia),show(digitsVal (b::a)*10+(c-48))/10=digitsVal (b::a) by lia,show(digitsVal (b::a)*10+(c-48))%10=c-48 by lia,<- ea]
   congr 2
   lia
def nO (m:Int)(z:af):Option Int:=(yi 13 z).bind λr=>if decide (r<=m)=true then some r else none
def kc:Option Int->V
 |some r=>.int r
 |none=>.non
theorem p6 (h:z = ""∨13<z.length∨z.cps.toList.all wY=false):nO m z=none:=by
 have:yi 13 z=none:=by
  unfold yi;refine K5 λc=>?_;have hf:=c.2;unfold uz vM at hf;rw[CM,CM]at hf;rcases h with h |h |h
  ·rw[h]at hf;exact K7 hf.1.1 ⋯
  ·lia
  ·rw[h]at hf;exact K7 hf.1.2 ∅
 exact cx this
theorem Rx (l:z.length<=13)(h:vM z.cps.toList=true):nO m z=if (!decide ((toString ((digitsVal z.cps.toList:Nat):Int):af)=z) || decide (m<((digitsVal z.cps.toList:Nat):Int)))=true then none else some ((digitsVal z.cps.toList:Nat):Int):=by
 have eq:((toString ((digitsVal z.cps.toList:Nat):Int):af)=z)↔uz z.cps.toList=true:=by
  constructor
  ·intro e;rw[<- e];have:(toString ((digitsVal z.cps.toList:Nat):Int):af).cps.toList=dg (digitsVal z.cps.toList):=j9 _;rw[this];exact mh _
  ·intro e;exact kP ((j9 _).trans (VE U e).symm)
 unfold nO yi
 by_cases c:uz z.cps.toList=true
 ·rw[K6 ⟨l,c⟩,i' (eq.mpr c)];show(if decide ((digitsVal z.cps.toList:Int)<=m)=true then _ else none)=_
  by_cases d:m<(digitsVal z.cps.toList:Nat)
  ·rw[i' d,D' (by lia)];rfl
  ·rw[D' d,i' (by lia)];rfl
 ·rw[K5 λh=>c h.2,D' λh=>c (eq.mp h)];rfl
def Z3 (z:af):Option (List (Int×Int)):=(jf (av z ",")).bind λps=>if JB (Jx ps)=true then some ps else none
inductive Uk (vs:List V)(H:Hp)(Q:VK)(_:XK):Prop|mk(z:_)(_:vs=[.str z])(_:z.length<=2000000)(_:∀H',zk H H'->Q (.bl (yT z)) H')
inductive YN (vs:List V)(H:Hp)(Q:VK)(_:XK):Prop|mk(z m:_)(_:vs=[.str z,.int m])(_:z.length<=2000000)(_:∀H',zk H H'->Q (kc (nO m z)) H')
def WX (H:Hp)(o:Option (List (Int×Int)))(v:V):Prop:=match o with
 |some ps=>∃u,v=.ref u/\vL H u ps
 |none=>v=.non
inductive UI (vs:List V)(H:Hp)(Q:VK)(_:XK):Prop|mk(z:_)(_:vs=[.str z])(_:z.length<=2000000)(_:∀v H',zk H H'->WX H' (Z3 z) v->Q v H')
def pH (H:Hp):List af->List V->Prop
 |k::_::a::r,xs=>if k = "bands" then ∃v,xs=[v]/\WX H (Z3 a) v else if k = "flat" then xs=[kc (nO 1000000000000 a)] else if (k = "capped"∨k = "least") then xs=[kc (nO 20000 a),kc (nO 1000000000000 (r.headD ""))] else xs=[kc (nO 20000 a)]
 |_,_=>False
inductive UR (vs:List V)(H:Hp)(Q:VK)(_:XK):Prop|mk(l k n a r:_)(_:vs=[.ref l])(_:WR H l (k::n::a::r))(_:(k = "capped"∨k = "least"->r≠[]))(_:∀t xs H',zk H H'->H t=none->H' t=some (.lst xs)->pH H' (k::n::a::r) xs->Q (.ref t) H')
def Ca (H:Hp)(o:Option Rk)(v:V):Prop:=match o with
 |some r=>Yv H r v
 |none=>v=.non
def US:Nat->Sp
 |0=>λ_ _ _ _=>False
 |d+1=>λvs H Q _=>∃l ws dp,vs=[.ref l,.int dp]/\WR H l ws/\ws≠[]/\0<=dp/\dp+d=3/\∀v H',zk H H'->Ca H' (wQ d ws) v->Q v H'
inductive Ue (vs:List V)(H:Hp)(Q:VK)(_:XK):Prop|mk(z:_)(_:vs=[.str z])(_:z.length<=2000000)(_:∀v H',zk H H'->Ca H' (wQ 3 (av z " ")) v->Q v H')
end Pg
namespace K12
open PySem PySem.NumText L2 Pg
seal PE PA PT PW PS y8 PG j5 PI jQ PO PK
section
variable {K:BFr}{mg:af->Option ae}
theorem MQ (F:qU K "_law_is_name" "_law_is_name" (top 93) f fd)(G:vh mg):zL P w K mg base zY 1 f fd ["_law_word_here"] Uk:=by
 have nc:(["_law_sign"]:List af).Nodup:=⋯
 refine F.ok (N:=["_law_word_here"]) ?_ ?_ ?_;walk_at"t"
 ·obtain⟨z,rfl,_⟩:=h;rfl
 ·obtain⟨z,rfl,hz,q⟩:=h;have SR:z.length<=au:=ui hz rfl;have Z_:(A.deeper (aT "_law_is_name" (zU (top 93)) s.heap.objs.size f K9)).units<hZ:=Dd (Dp _ 64) hr.units
  refine' ⟨_,zg (zK (PW.pt (yI (qB (Lf Jt Jt ze (zv qi U G.len aH (za (pv 0) zd)) ze)) (yJ (zx uN (pv 0) (yM (za zj (za zj (za zj (za zj zd))))) (by rfl))))) (zh (zt vC)) zB)
    (zh (zt (qS (mH Z_) ?comp (zM zd) (zD _)))),?main⟩
  case comp=>
   refine' qk (cl:=[]) (src:=[none]) (wi:=XQ (zV 0)) (g:=qc 0) (tt:=JD (vp jj (zV 0) (tC (.str "abcdefghijklmnopqrstuvwxyz")))) (te:=zV 0) (cO nc ⟨U,U,⋯,⋯,(λx c z=>nomatch z),qF (by rfl),zR qb,U⟩) rfl (QB (pv 0)) ?hb
   case hb=>
    intro fp C' s' H';exact⟨zO (i:=0) nc U (ay U),ZN (zx wA (pv 0) zj (by rfl)),pv 0⟩
  dsimp only [xw];refine QL (λQ=>∀H',zk H H'->Q (!(decide (1<=z.length)&&decide (z.length<=8)) || noNames.contains z) H') (λR r=>?_) (λH1 s1=>qg (λe=>?_) (λe=>?_))
  ·refine⟨_,U,z,U,SR,_,_,U,U,_,U,qg (λe=>⟨_,_,U,U,_,U,?_⟩) (λe=>⟨false,U,qY ?_⟩)⟩
   ·have l1:1<=z.length:=by have:=G' e;lia
    rw[i' l1,dm]at r
    by_cases l8:z.length<=8
    ·rw[i' l8,ej,dS]at r;rw[i' (show((z.length:Nat):Int)<=8 by lia)];refine qM ⟨_,U,zS U,λt H1 s1 n1 e1=>⟨t,_,U,.inr (yE.of e1),U,U,_,U,?_⟩⟩;have ci:MV (.str z) [V.str "base",V.str "net",V.str "month",V.str "sums"]=noNames.contains z:=uc z noNames;have r:=r H1 s1;rw[<- ci]at r;exact r
    ·rw[D' l8,EU,Bool.true_or]at r;rw[D' (show ¬((z.length:Nat):Int)<=8 by lia)];exact qY (r H (zk.refl _))
   ·have l1:¬1<=z.length:=λh=>e (i' (by lia));rw[D' l1,dO,EU,Bool.true_or]at r;exact r H (zk.refl _)
  ·have:yT z=false:=by
    unfold yT ug;rw[Dz]at e;rcases e with e |e
    ·rw[Ds]at e;rw[e];rfl
    ·rw[e];exact dQ _
   have r:=q H1 s1;rw[this]at r;exact r
  ·rw[Dz,not_or]at e
   have e1:(decide (1<=z.length)&&decide (z.length<=8))=true:=by
    cases h:(decide (1<=z.length)&&decide (z.length<=8)) with
    |true=>rfl
    |false=>exact K7 (by rw[h];rfl) e.1
   have l8:z.length<=8:=by
    rw[CM]at e1;exact G' e1.2
   have wb:yT z=z.cps.toList.all Qr:=by
    unfold yT ug;rw[e1,dm,dI.mpr e.2,EU,d7]
   refine⟨_,U,z,U,λD hD=>?_⟩;refine uA (uW (z:=z)) hD (by rw[CH,<- zI,ai];lia) (λx=>match x with|.str y=>!Qr (y.cps.getD 0 0) |_=>false) (λx=>x) (λx hx H' R _ r=>?_) (λx hx _ H' R _ r=>⟨_,U,r⟩) ?_
   ·obtain⟨c,_,rfl⟩:=CK.mp hx;refine⟨_,U,_,_,U,U,_,U,?_⟩;rw[QV];exact r
   ·refine⟨zS U,λl2 H2 s2 n2 e2=>⟨D,l2,_,U,U,zN.of (s2 _ _ zi),zN.of e2,λe3=>?_,λe3=>?_⟩⟩
    ·have ea:z.cps.toList.all Qr=true:=dj.mpr λc hc=>by
      rw[eS,eU]at e3;have:=e3 _ (CK.mpr ⟨c,hc,U⟩);show Qr c=true
      cases h:Qr c with
      |true=>rfl
      |false=>exact K7 (show(!Qr c)=true by rw[h];rfl) this
     have r:=q H2 (s1.trans ((zk.upd hD).trans s2));rw[wb,ea]at r;exact r
    ·have ea:z.cps.toList.all Qr=false:=dI.mpr λc=>e3 (by
      rw[eS,eU];intro x hx;obtain⟨d,hd,rfl⟩:=CK.mp hx;have:=dj.mp c d hd;show ¬(!Qr d)=true;rw[this];decide)
     have r:=q H2 (s1.trans ((zk.upd hD).trans s2));rw[wb,ea]at r;exact r
theorem Mq (F:qU K "_law_number" "_law_number" (top 94) f fd)(G:vh mg):zL P w K mg base zY 1 f fd ["_law_word_here","_law_most"] YN:=by
 have nc:(["_law_sign"]:List af).Nodup:=⋯
 refine F.ok (N:=["_law_word_here","_law_most"]) ?_ ?_ ?_;walk_at"t"
 ·obtain⟨z,m,rfl,_⟩:=h;rfl
 ·obtain⟨z,m,rfl,hz,q⟩:=h;have SR:z.length<=au:=ui hz rfl;have Z_:(A.deeper (aT "_law_number" (zU (top 94)) s.heap.objs.size f K9)).units<hZ:=Dd (Dp _ 64) hr.units
  refine' ⟨_,(zg (zK (PW.pt (yI (zx qw (pv 0) zj (zD _)) (yI (zx vX (zv qi U G.len aH (za (pv 0) zd)) ze (zD _)) (yJ (zx (Jj Z_) ?comp (zM zd) (zD _)))))) (zh (zt yR)) zB)
    (zg (zK (PW.pt (yI (zx uB (zZ qh U G.str qE (za (zZ ja U G.int vV (za (pv 0) zd)) zd)) (pv 0) (zD _)) (yJ (zx vX (zZ ja U G.int vV (za (pv 0) zd)) (pv 1) (zD _))))) (zh (zt yR)) zB)
    (zh (zt (zZ ja U G.int vV (za (pv 0) zd)))))),?main⟩
  case comp=>
   refine' qk (cl:=[]) (src:=[none]) (wi:=XQ (zV 0)) (g:=qc 0) (tt:=JD (vp jj (zV 0) (tC (.str "0123456789")))) (te:=zV 0) (cO nc ⟨U,U,⋯,⋯,(λx c z=>nomatch z),qF (by rfl),zR qb,U⟩) rfl (QB (pv 0)) ?hb
   case hb=>
    intro fp C' s' H';exact⟨zO (i:=0) nc U (ay U),ZN (zx wA (pv 0) zj (by rfl)),pv 0⟩
  dsimp only [xw];refine QL (λQ=>∀H',zk H H'->Q (decide (z = "") || (decide (13<z.length) || !z.cps.toList.all wY)) H') (λR r=>?_) (λH1 s1=>qg (λe=>?_) (λe=>?_))
  ·refine⟨_,U,U,_,U,qg (λe=>?_) (λe=>?_)⟩
   ·rw[i' (uF e)]at r;exact r H (zk.refl _)
   ·rw[D' (X4 e),dS]at r;refine⟨_,U,z,U,SR,_,_,U,U,_,U,qg (λe2=>?_) (λe2=>?_)⟩
    ·rw[i' (show 13<z.length by have:=G' e2;lia)]at r;exact r H (zk.refl _)
    ·have l13:¬13<z.length:=λh=>e2 (i' (by lia));rw[D' l13,dS]at r;refine⟨_,U,z,U,λD hD=>?_⟩;refine uA (uW (z:=z)) hD (by rw[CH,<- zI,ai];lia) (λx=>match x with|.str y=>!wY (y.cps.getD 0 0) |_=>false) (λx=>x) (λx hx H' R _ r=>?_) (λx hx _ H' R _ r=>⟨_,U,r⟩) ?_
     ·obtain⟨c,_,rfl⟩:=CK.mp hx;refine⟨_,U,_,_,U,U,_,U,?_⟩;rw[Xh];exact r
     ·refine⟨zS U,λl2 H2 s2 n2 e2=>?_⟩;have r:=r H2 ((zk.upd hD).trans s2)
      have Sj:((z.cps.toList.map λc=>V.str ⟨#[c]⟩).filter λx=>match x with|.str y=>!wY (y.cps.getD 0 0) |_=>false)=[]↔z.cps.toList.all wY=true:=by
       rw[eU,dj];constructor
       ·intro h c hc;have:=h _ (CK.mpr ⟨c,hc,U⟩)
        cases h:wY c with
        |true=>rfl
        |false=>exact K7 (show(!wY c)=true by rw[h];rfl) this
       ·intro h x hx;obtain⟨d,hd,rfl⟩:=CK.mp hx;show ¬(!wY d)=true;rw[h d hd];decide
      have Sj:∀xs:List V,xs=(((z.cps.toList.map cm).filter λx=>match x with|.str y=>!wY (y.cps.getD 0 0) |_=>false).map λx=>x)->(xs=[]↔z.cps.toList.all wY=true):=λxs e=>by
       rw[e,eS];exact Sj
      refine⟨D,l2,_,U,U,zN.of (s2 _ _ zi),zN.of e2,λe3=>⟨false,U,?_⟩,λe3=>⟨true,U,?_⟩⟩
      ·rw[(Sj _ U).mp e3]at r;exact r
      ·rw[dI.mpr λh=>e3 ((Sj _ U).mpr h)]at r;exact r
  ·have:nO m z=none:=by
    rw[Dz,Dz]at e;refine p6 ?_;rcases e with e |e |e
    ·exact .inl (G' e)
    ·exact .inr (.inl (G' e))
    ·exact .inr (.inr (by rwa [Ds]at e))
   have r:=q H1 s1;rw[this]at r;exact r
  ·rw[Dz,Dz,not_or,not_or]at e;have z0:z≠"":=λh=>e.1 (i' h);have l13:z.length<=13:=Eg.mp λh=>e.2.1 (i' h)
   have fa:z.cps.toList.all wY=true:=by
    cases h:z.cps.toList.all wY with
    |true=>rfl
    |false=>exact K7 (by rw[h];rfl) e.2.2
   have fg:vM z.cps.toList=true:=by
    unfold vM;rw[fa,d7]
    cases h:z.cps.toList with
    |nil=>exact K7 (kP (by rw[h];decide+kernel)) z0
    |cons=>rfl
   obtain⟨d1,d2⟩:=jO fg;have it:intText? z=some ((digitsVal z.cps.toList:Nat):Int):=Aa d1 d2 (by lia)
   have big:((digitsVal z.cps.toList:Nat):Int).natAbs.log2<1920:=by
    have h1:=bq d1;have h2:10 ^ z.cps.toList.length<=10 ^ 13:=Nat.pow_le_pow_right ∅ (by rw[<- zI];exact l13);have h3:(10:Nat) ^ 13=10000000000000:=∅
    exact uP (by lia) (by show _<(18446744073709551616:Int);lia)
   have no:=Rx (m:=m) l13 fg;have z4:z.length<=640:=by lia
   generalize ((digitsVal z.cps.toList:Nat):Int)=n at it big no;have r:=q H1 s1;rw[no]at r;refine⟨_,U,z,_,U,it,z4,n,U,big,_,U,U,_,U,qg (λe1=>qY ?_) (λe1=>?_)⟩
   ·have e1:(!decide (V.str (toString n)=V.str z))=true:=e1;have ne:(toString n:af)≠z:=λh=>by rw[h,i' rfl]at e1;cases e1
    rw[D' ne]at r;exact r
   ·have eq:(toString n:af)=z:=by
     have e1:¬(!decide (V.str (toString n)=V.str z))=true:=e1
     by_cases h:(toString n:af)=z
     ·exact h
     ·exact K7 (by rw[D' λc=>h (V.str.inj c)];rfl) e1
    rw[i' eq,ej,dS]at r;refine⟨_,U,z,_,U,it,z4,_,U,_,_,U,U,_,U,qg (λe2=>?_) (λe2=>?_)⟩
    ·rw[K6 e2]at r;exact r
    ·rw[K5 e2]at r;exact⟨_,U,z,_,U,it,z4,r⟩
end
end K12
namespace Pg
open PySem PySem.NumText L2 Builtin Builtin.Str
def tR (w:af):Prop:=yK w=none∨∃p,yK w=some p/\(uL p.1&&vH p.2)=false
theorem Px {w:af}(hw:w∈av z ",")(b:tR w):Z3 z=none:=by
 unfold Z3;rcases b with b |⟨p,e,n⟩
 ·exact cx (VP hw b)
 ·cases h:jf (av z ",") with
  |none=>rfl
  |some ps=>
   have mem:p∈ps:=by
    unfold jf at h
    split at h
    ·cases h;exact EB.mpr ⟨some p,CK.mpr ⟨w,hw,e⟩,U⟩
    ·cases h
   have:JB (Jx ps)=false:=by
    unfold JB
    have:(Jx ps).all fM=false:=dI.mpr λc=>by
     have:=dj.mp c _ (CK.mpr ⟨p,mem,U⟩);rw[n]at this;cases this
    rw[this]
    simp
   show(if JB (Jx ps)=true then some ps else none)=none;rw[this];rfl
theorem GB {k:Nat}{r:Int}(h:yi k z=some r):0<=r:=by
 unfold yi at h
 split at h
 ·cases h;lia
 ·cases h
theorem Z8 {r:Int}(h:nO m z=some r):yi 13 z=some r/\0<=r/\r<=m:=by
 obtain⟨r',e,c,rfl⟩:=yz (c:=λr=>decide (r<=m)) (g:=λr=>r) h;exact⟨e,GB e,G' c⟩
theorem GN {r:Int}(h:nO m z=none)(e:yi 13 z=some r):¬r<=m:=of_decide_eq_false (Zd (c:=λr=>decide (r<=m)) (g:=λr=>r) h e)
theorem Bp {m:Int}{r:Int}(h:nO 1000000000000 z=some r):uL r=true:=i' (Z8 h).2
theorem rG {r:Int}(h:nO 20000 z=some r):vH r=true:=i' (Z8 h).2
theorem bU {r:Int}(h:nO 1000000000000 z=none)(e:yi 13 z=some r):uL r=false:=D' λc=>GN h e c.2
theorem rT {r:Int}(h:nO 20000 z=none)(e:yi 13 z=some r):vH r=false:=D' λc=>GN h e c.2
theorem WD {w a b:af}(e:av w ":" = [a,b]):yK w=gQ (yi 13 a) (yi 13 b):=by
 unfold yK;rw[e]
theorem mE {w:af}(e:(av w ":").length≠2):tR w:=by
 refine .inl ?_;unfold yK;split
 ·rename_i a b eb;exact K7 (by rw[eb];rfl) e
 ·rfl
theorem NA {w a b:af}(e:av w ":" = [a,b])(h:MV .non [kc (nO 1000000000000 a),kc (nO 20000 b)]=false):∃p,yK w=some p/\kc (nO 1000000000000 a)=.int p.1/\kc (nO 20000 b)=.int p.2/\(uL p.1&&vH p.2)=true:=by
 cases ha:nO 1000000000000 a with
 |none=>rw[ha]at h;cases h
 |some x=>
  cases hb:nO 20000 b with
  |none=>rw[ha,hb]at h;cases h
  |some y=>exact⟨(x,y),by rw[WD e,(Z8 ha).1,(Z8 hb).1];rfl,U,U,by rw[Bp (m:=0) ha,rG hb];rfl⟩
theorem lW {w a b:af}(e:av w ":" = [a,b])(h:MV .non [kc (nO 1000000000000 a),kc (nO 20000 b)]=true):tR w:=by
 have e2:=WD e
 cases ha:yi 13 a with
 |none=>exact .inl (by rw[e2,ha];rfl)
 |some x=>
  cases hb:yi 13 b with
  |none=>exact .inl (by rw[e2,ha,hb];rfl)
  |some y=>
   refine .inr ⟨(x,y),by rw[e2,ha,hb];rfl,?_⟩
   cases h1:nO 1000000000000 a with
   |none=>show(uL x&&vH y)=false;rw[bU h1 ha];rfl
   |some x' =>
    cases h2:nO 20000 b with
    |none=>show(uL x&&vH y)=false;rw[rT h2 hb];exact dQ _
    |some y'=>rw[h1,h2]at h;cases h
theorem pX:∀{zs:List Int},zs.Pairwise (· < ·)->vP zs=true
 |[],_=>rfl
 |[_],_=>rfl
 |a::b::l,h=>by
  obtain⟨h1,h2⟩:=DD.mp h;show(decide (a<b)&&vP (b::l))=true;rw[i' (h1 b CU),pX h2];rfl
theorem V5:∀{zs:List Int},vP zs=true->zs.Pairwise (· < ·)
 |[],_=>fX
 |[p],_=>j_ (λ_ h=>nomatch h) fX
 |p::q::r,h=>by
  have h:(decide (p<q)&&vP (q::r))=true:=h;rw[CM]at h;have lt:=G' h.1;have ih:=V5 h.2;refine j_ (λx hx=>?_) ih;rcases CJ.mp hx with rfl |hx
  ·exact lt
  ·exact Int.lt_trans lt ((DD.mp ih).1 x hx)
theorem Nn (h:(av z ",").map yK=qs.map some)(ok:∀q∈qs,(uL q.1&&vH q.2)=true):Z3 z=if (decide (1<=qs.length/\qs.length<=12)&&(decide ((qs.map (·.1)).head?=some 0)&&vP (qs.map (·.1))))=true then some qs else none:=by
 have eo:Jx qs=qs.map some:=dY λq hq=>by rw[K6 (ok q hq)]
 unfold Z3;rw[QF h];show(if JB (Jx qs)=true then _ else none)=_;unfold JB;rw[eo,Z7,CH,Dv,show(qs.all (fM ∘ some))=true from dj.mpr λ_ _=>rfl,dm]
theorem NH (a b:Option Int):[kc a,kc b].all jX=true:=by cases a<;>cases b<;>rfl
theorem Z5 (zs:List Int):(zs.map V.int).all jX=true:=by
 rw[Dv];exact dj.mpr λ_ _=>rfl
theorem WX.same {o:Option (List (Int×Int))}(s:zk H H')(h:WX H o v):WX H' o v:=by
 cases o with
 |none=>exact h
 |some ps=>
  obtain⟨u,e,b⟩:=h;exact⟨u,e,b.same s⟩
end Pg
namespace K12
open PySem PySem.NumText L2 Pg
seal PE PA PT PW PS y8 PG j5 PI jQ PO PK
section
variable {K:BFr}{mg:af->Option ae}
theorem nK (F:qU K "_law_pairs_in" "_law_pairs_in" (top 95) f fd)(G:vh mg)(C1:qX P w K mg base zY 1 "_law_number" ["_law_word_here","_law_most"] YN):zL P w K mg base zY 2 f fd ["_law_word_here"] UI:=by
 have nd:(["_law_word_here","_law_pairs_here","_law_part","_law_halves","_law_pair","_law_borders"]:List af).Nodup:=⋯
 have nc:(["_law_pair"]:List af).Nodup:=⋯
 walk_at"k"
 ·obtain⟨z,rfl,_⟩:=h;rfl
 ·obtain⟨z,rfl,hz,q⟩:=h;have Z_:(A.deeper (aT "_law_pairs_in" (zU (top 95)) s.heap.objs.size f K9)).units<hZ:=Dd (Dp _ 64) hr.units
  refine' ⟨_,(zg (zF (i:=1) nd U (ay U) (zM zd))
    (zg (ue fS U (ye (qH aq aI aR jg (pv 0) (za zj zd))) (zO (i:=2) nd U (ay U)) (zg (zF (i:=3) nd U (ay U) (qH aq aI aR jg (pv 2) (za zj zd)))
    (zg (zK (zx uB (zv zJ U G.len aH (za (pv 3) zd)) ze (zD _)) (zh (zt yR)) zB)
    (zg (zF (i:=4) nd U (ay U) (yM (za (zq C1 hr ∅ zA (za (zE zy (pv 3) ze) (za (zu QX ze ze) zd))) (za (zq C1 hr ∅ zA (za (zE zy (pv 3) ze) (za ze zd))) zd))))
    (zg (zK (zx uN yR (pv 4) (by rfl)) (zh (zt yR)) zB)
    (zh (z6 (qH aS e_ fc jJ (pv 1) (za (pv 4) zd)))))))))
    (zg ?comp
    (zg (zK (PW.pt (yI (zx vX (zv zJ U G.len aH (za (pv 1) zd)) ze (zD _)) (yI (zx uB (zE zy (pv 5) ze) ze (zD _)) (yJ (zx (px Z_) (pv 5) (XG U U G.sorted U G.set (za (pv 5) zd)) (zD _)))))) (zh (zt yR)) zB)
    (zh (zt (zZ jB U G.tuple yX (za (pv 1) zd)))))))),?main⟩
  case comp=>
   refine' Zb (i:=5) (cl:=[]) (src:=[none]) (wi:=Zl K (zV 1)) (g:=qc 0) (tt:=qL) (te:=vp (Zg K) (zV 0) (tC (.int 0))) nd rfl rfl
    (cO nc ⟨U,U,⋯,⋯,(λx c z=>nomatch z),qF (by rfl),zR qb,U⟩) rfl (ye (pv 1)) ?hb
   case hb=>
    intro fp C' s' H';exact⟨zO (i:=0) nc U (ay U),qt,zE qT (pv 0) ze⟩
  have zf:z.length<=au:=ui hz rfl;obtain⟨sl,sn,w0,wr,ew⟩:=yg z ",";refine⟨zS U,λD H1 s1 n1 e1=>⟨_,U,U,_,_,U,U,U,zf,yw _ hz,λl H2 s2 n2 e2=>⟨l,U,⟨_,zN.of e2⟩,?_⟩⟩⟩;have lD:l≠D:=λc=>by rw[c,e1]at n2;cases n2
  refine Y5 (K:=K) (a:=l) (xs:=(av z ",").map V.str) (λi σ H'=>∃x2 x3 x4 qs ys,σ=[some (.str z),some (.ref D),x2,x3,x4,none]/\zk H H'/\H' l=some (.lst ((av z ",").map V.str))/\H' D=some (.lst ys)/\qd H' ys (qs.map cB)/\qs.length=i/\((av z ",").take i).map yK=qs.map some/\∀q∈qs,(uL q.1&&vH q.2)=true) ⟨_,_,_,[],_,U,s1.trans s2,e2,s2 _ _ e1,qd.nil,U,U,λ_ h=>nomatch h⟩ (λi σ H' _ ⟨_,_,_,_,_,_,_,h,_⟩=>zN.of h) ?_ ?_
  ·rintro i x σ H3 hx ⟨x2,x3,x4,qs,ys,rfl,s3,hl3,hD3,T,ql,em,ok⟩;rw[CO]at hx
   cases hw:(av z ",")[i]? with
   |none=>rw[hw]at hx;cases hx
   |some w=>
    rw[hw]at hx;cases hx;have mw:=dG hw;have il:=(C7.mp hw).1;have wl:w.length<=2000000:=CW (sn w mw) hz;obtain⟨_,sn2,_⟩:=yg w ":";refine⟨_,U,U,_,_,U,U,U,ui wl U,yw _ wl,λp H4 s4 n4 e4=>?_⟩;have S4:=s3.trans s4
    by_cases h2:(av w ":").length=2
    ·obtain⟨a,b,eb⟩:∃a b,av w ":" = [a,b]:=by
      match av w ":",h2 with
      |[a,b],_=>exact⟨a,b,U⟩
     rw[eb]at e4 sn2;have e4:H4 p=some (.lst [.str a,.str b]):=e4;have la:a.length<=2000000:=CW (sn2 a (by simp)) wl;have lb:b.length<=2000000:=CW (sn2 b (by simp)) wl;refine⟨_,U,p,_,U,.inl (zN.of e4),U,_,U,qM ?_⟩;refine⟨_,U,p,_,_,_,U,U,zN.of e4,U,_,_,U,U,⟨∅,∅,∅⟩,a,_,U,la,λH5 s5=>?_⟩;refine⟨_,U,p,_,_,_,U,U,zN.of (s5 _ _ e4),U,b,_,U,lb,λH6 s6=>⟨zS U,λt H7 s7 n7 e7=>?_⟩⟩;have e7:H7 t=some (.tup [kc (nO 1000000000000 a),kc (nO 20000 b)]):=e7;have S7:=S4.trans (s5.trans (s6.trans s7));have s47:=s4.trans (s5.trans (s6.trans s7));have hl7:=s47 _ _ hl3;have hD7:=s47 _ _ hD3;refine⟨_,U,t,_,U,.inr (yE.of e7),U,NH _ _,_,U,qg (λe=>?_) (λe=>?_)⟩
     ·exact q _ H7 S7 (by rw[Px mw (lW eb e)];rfl)
     ·obtain⟨pr,e8,e9,e10,okp⟩:=NA eb (dI.mpr e);rw[e9,e10]at e7;have ty:t≠D:=λc=>by rw[c,hD7]at e7;cases e7
      have yl:ys.length=i:=by rw[T.len,CH,ql]
      refine⟨_,U,.inl ⟨U,_,zN.of hD7⟩,_,U,D,_,_,U,U,hD7,?_,?_⟩
      ·rw[yl,ai];lia
      ·refine⟨_,_,_,qs++[pr],_,U,λb o hb=>?_,?_,zi,?_,?_,?_,?_⟩
       ·rw[zm (zC hb n1)];exact S7 _ _ hb
       ·rw[zm lD];exact hl7
       ·rw[CN];exact qd.snoc ((T.same s47).upd λc z=>by rw[hD7]at z;cases z) (by rw[zm ty];exact e7)
       ·rw[CS,ql];rfl
       ·rw[dR,hw,CN,em,CN];show _++[yK w]=_;rw[e8];rfl
       ·intro x hx;rcases CQ.mp hx with hx |hx
        ·exact ok x hx
        ·rw[CY.mp hx];exact okp
    ·refine⟨_,U,p,_,U,.inl (zN.of e4),U,_,U,qg (λ_=>?_) (λe=>?_)⟩
     ·exact q _ H4 S4 (by rw[Px mw (mE h2)];rfl)
     ·refine K7 ?_ e;rw[CH,D' λz=>h2 (by injection z with z;lia)];rfl
  ·rintro σ H3 ⟨x2,x3,x4,qs,ys,rfl,s3,hl3,hD3,T,ql,em,ok⟩;rw[CH]at ql em;rw[Do (CI _)]at em;have la:=Nn em ok;have q1:1<=qs.length:=by rw[ql,ew];exact Dg _ _
   have q5:qs.length<=2000002:=by lia
   have yl:ys.length=qs.length:=by rw[T.len,CH]
   refine⟨_,U,D,U,⟨_,zN.of hD3⟩,λD2 W_=>js (jc (zN.of hD3)) (vQ T) W_ (by rw[ai];lia) (λp=>V.int p.1) (λp hp v H4 R s4 ⟨a,ea,e4⟩ r=>?_) (λH4 s4 e4=>?_)⟩
   ·subst ea;exact⟨_,U,a,_,_,_,U,U,yE.of e4,U,r H4 (zk.refl _)⟩
   have hD4:=s4 _ _ hD3;have S4:=s3.trans s4;have no:∀H',zk H4 H'->Z3 z=none->Q .non H':=λH' s e=>q _ H' (S4.trans s) (by rw[e];rfl);refine⟨_,U,D,_,U,.inl (zN.of hD4),_,_,U,U,_,U,qg (λe=>?_) (λe=>?_)⟩
   ·have e:(12:Int)<(ys.length:Nat):=G' e;exact no H4 (zk.refl _) (by rw[la,D' (by lia)];rfl)
   have l12:qs.length<=12:=by
    have e:¬(12:Int)<(ys.length:Nat):=λc=>e (i' c);lia
   rw[i' ⟨q1,l12⟩,dm]at la
   obtain⟨p0,qr,rfl⟩:∃p r,qs=p::r:=by
    cases qs with
    |nil=>exact K7 q1 ∅
    |cons p r=>exact⟨p,r,U⟩
   refine⟨_,U,D2,_,_,_,U,U,zN.of e4,qJ (v:=V.int p0.1) U,U,_,U,qg (λe=>?_) (λe=>?_)⟩
   ·have e:(!decide (V.int p0.1=V.int 0))=true:=e;have n0:p0.1≠0:=λc=>by rw[c,i' rfl]at e;cases e
    exact no H4 (zk.refl _) (by rw[la,show decide (((p0::qr).map (·.1)).head?=some 0)=false from D' λc=>n0 (ao c)];rfl)
   have p00:p0.1=0:=by
    have e:¬(!decide (V.int p0.1=V.int 0))=true:=e
    by_cases h:p0.1=0
    ·exact h
    ·exact K7 (by rw[D' λc=>h (V.int.inj c)];rfl) e
   rw[show decide (((p0::qr).map (·.1)).head?=some 0)=true from i' (K4 some p00),dm]at la;obtain⟨bs,hbs⟩:∃bs,bs=(p0::qr).map (·.1):=⟨_,U⟩;have e4:H4 D2=some (.lst (bs.map V.int)):=by rw[e4,hbs,CP];rfl
   rw[<- hbs]at la;refine⟨_,U,_,U,D2,bs,U,zN.of e4,(by rw[hbs,CH];lia),λcs r1 r2 D5 n5=>?_⟩;have s5:zk H4 (upd H4 D5 (.lst (cs.map V.int))):=zk.upd n5;refine⟨D2,D5,_,_,U,U,zN.of (s5 _ _ e4),zN.of zi,Z5 _,Z5 _,_,U,?_⟩;dsimp only;rw[oV]
   have Sj:decide (bs=cs)=vP bs:=by
    by_cases h:vP bs=true
    ·rw[h];exact i' (VZ (V5 h) r1 λz=>(r2 z).symm)
    ·rw[dI.mpr h];exact D' λc=>h (pX (by rw[c];exact r1))
   rw[Sj];refine qg (λe=>?_) (λe=>?_)
   ·have ea:vP bs=false:=by
     have e:(!vP bs)=true:=e
     rwa [Ds]at e
    exact no _ s5 (by rw[la,ea];rfl)
   have ea:vP bs=true:=by
    cases h:vP bs with
    |true=>rfl
    |false=>exact K7 (show(!vP bs)=true by rw[h];rfl) e
   have S5:=S4.trans s5;refine⟨_,U,D,ys,U,.inl ⟨zN.of (s5 _ _ hD4),λu u0=>?_⟩⟩;have s6:=zk.upd (o:=.tup ys) u0;refine q _ _ (S5.trans s6) ?_;rw[la,ea];exact⟨u,U,ys,zi,T.same (s4.trans (s5.trans s6))⟩
theorem M9 (F:qU K "_law_things_in" "_law_things_in" (top 96) f fd)(C1:qX P w K mg base zY 1 "_law_number" ["_law_word_here","_law_most"] YN)(C2:qX P w K mg base zY 2 "_law_pairs_in" ["_law_word_here"] UI):zL P w K mg base zY 3 f fd ["_law_words"] UR:=by
 have nd:(["_law_words","_law_things"]:List af).Nodup:=⋯
 walk_at"k"
 ·obtain⟨l,k,n,a,r,rfl,_⟩:=h;rfl
 ·obtain⟨l,k,n,a,r,rfl,⟨hl,lw,le⟩,r0,q⟩:=h
  refine⟨_,(zg (zK (zx qw (zE zy (pv 0) ze) zj (zD _)) (zh (zt (zM (za (zq C2 hr ∅ zA (za (zE zy (pv 0) ze) zd)) zd)))) zB)
    (zg (zK (zx qw (zE zy (pv 0) ze) zj (zD _)) (zh (zt (zM (za (zq C1 hr ∅ zA (za (zE zy (pv 0) ze) (za (zu QX ze ze) zd))) zd)))) zB)
    (zg (zF (i:=1) nd U (ay U) (zM (za (zq C1 hr ∅ zA (za (zE zy (pv 0) ze) (za ze zd))) zd)))
    (zg (zK (zx uN (zE zy (pv 0) ze) (yM (za zj (za zj zd))) (by rfl)) (zh (z6 (qH aS e_ fc jJ (pv 1) (za (zq C1 hr ∅ zA (za (zE zy (pv 0) ze) (za (zu QX ze ze) zd))) zd)))) zB)
    (zh (zt (pv 1))))))),?_⟩
  have Q_:=zN.of (K:=K) hl;have la:a.length<=2000000:=le a (by simp);have a2:QA ((k::n::a::r).map V.str) 2=some (.str a):=qQ (j:=2) rfl;refine⟨_,U,l,_,_,_,U,U,Q_,qJ U,U,_,U,qg (λe=>?_) (λe=>?_)⟩
  ·have ek:=uF e;refine⟨_,U,l,_,_,_,U,U,Q_,a2,a,U,la,λv H1 s1 pv=>⟨zS U,λt H2 s2 n2 e2=>q t _ H2 (s1.trans s2) (kb s1 n2) e2 ?_⟩⟩;show(if k = "bands" then _ else _);rw[K6 ek];exact⟨v,U,pv.same s2⟩
  have k1:=X4 e;refine⟨_,U,l,_,_,_,U,U,Q_,qJ U,U,_,U,qg (λe=>?_) (λe=>?_)⟩
  ·have ek:=uF e;refine⟨_,U,l,_,_,_,U,U,Q_,a2,_,_,U,U,⟨∅,∅,∅⟩,a,_,U,la,λH1 s1=>⟨zS U,λt H2 s2 n2 e2=>q t _ H2 (s1.trans s2) (kb s1 n2) e2 ?_⟩⟩;show(if k = "bands" then _ else _);rw[K5 k1,K6 ek];rfl
  have k2:=X4 e;refine⟨_,U,l,_,_,_,U,U,Q_,a2,a,_,U,la,λH1 s1=>⟨zS U,λt H2 s2 n2 e2=>?_⟩⟩;have S2:=s1.trans s2;have tn:=kb s1 n2;refine⟨_,U,l,_,_,_,U,U,zN.of (S2 _ _ hl),qJ U,zS U,λu H3 s3 n3 e3=>⟨u,_,U,.inr (yE.of e3),U,U,_,U,?_⟩⟩;have S3:=S2.trans s3;have ci:MV (.str k) [V.str "capped",V.str "least"]=(["capped","least"]:List af).contains k:=uc k ["capped","least"];dsimp only;rw[ci];have e23:=s3 _ _ e2;refine qg (λe=>?_) (λe=>?_)
  ·have kk:k = "capped"∨k = "least":=by
    have:=dW.mp e
    simpa only [CJ,CV,or_false] using this
   obtain⟨b,r',rfl⟩:∃b r',r=b::r':=by
    cases r with
    |nil=>exact K7 rfl (r0 kk)
    |cons b r'=>exact⟨b,r',U⟩
   have lb:b.length<=2000000:=le b (by simp);have a3:QA ((k::n::a::b::r').map V.str) 3=some (.str b):=qQ (j:=3) rfl;refine⟨_,U,.inl ⟨U,_,zN.of e23⟩,_,U,l,_,_,_,U,U,zN.of (S3 _ _ hl),a3,_,_,U,U,⟨∅,∅,∅⟩,b,_,U,lb,λH4 s4=>⟨t,_,_,U,U,s4 _ _ e23,zS U,?_⟩⟩;refine⟨_,U,q t _ _ (λx o hx=>?_) tn zi ?_⟩
   ·rw[zm (zC hx tn)];exact s4 _ _ (S3 _ _ hx)
   ·show(if k = "bands" then _ else _);rw[K5 k1,K5 k2,K6 kk];rfl
  ·have kk:¬(k = "capped"∨k = "least"):=λc=>e (dW.mpr (by simpa only [CJ,CV,or_false] using c));refine⟨_,U,q t _ H3 S3 tn e23 ?_⟩;show(if k = "bands" then _ else _);rw[K5 k1,K5 k2,K5 kk]
end
end K12
namespace Pg
open PySem PySem.NumText L2 Builtin Builtin.Str
def uu (k:af):Nat:=if k = "flat" then 3 else if k = "share" then 4 else if k = "capped" then 5 else if k = "least" then 5 else if k = "bands" then 4 else if k = "ontop" then 6 else 0
def szD:List (yY×V):=[(.inr "flat",.int 3),(.inr "share",.int 4),(.inr "capped",.int 5),(.inr "least",.int 5),(.inr "bands",.int 4),(.inr "ontop",.int 6)]
inductive L8:af->List af->Prop where
 |flat:L8 "flat" []
 |share (w:af):L8 "share" [w]
 |bands (w:af):L8 "bands" [w]
 |capped (b w:af):L8 "capped" [b,w]
 |least (b w:af):L8 "least" [b,w]
 |ontop (w o x:af) (r:List af):L8 "ontop" (w::o::x::r)
def RB:List af->Bool
 |[]=>true
 |k::ws=>decide (uu k=0) || (decide ((k::ws).length<uu k) || ((decide (uu k<(k::ws).length) && !decide (k = "ontop")) || !yT (ws.headD "")))
theorem Tu (h:RB ws=false):∃k n a r,ws=k::n::a::r/\yT n=true/\L8 k r:=by
 cases ws with
 |nil=>cases h
 |cons k ws=>
  have h:(decide (uu k=0) || (decide ((k::ws).length<uu k) || ((decide (uu k<(k::ws).length) && !decide (k = "ontop")) || !yT (ws.headD ""))))=false:=h;rw[DR,DR,DR,Bool.and_eq_false_iff]at h;obtain⟨h0,h1,h2,h3⟩:=h;have h0:=of_decide_eq_false h0;have h1:=of_decide_eq_false h1
  have rn:yT (ws.headD "")=true:=by
   cases e:yT (ws.headD "") with
   |true=>rfl
   |false=>rw[e]at h3;cases h3
  have eq:k≠"ontop"->(k::ws).length=uu k:=λn=>by
   rcases h2 with h2 |h2
   ·have:=of_decide_eq_false h2;lia
   ·rw[D' n]at h2;cases h2
  by_cases k1:k = "flat"
  ·subst k1;have e:=eq ⋯;rw[show uu ("flat":af)=3 by decide+kernel]at e;obtain⟨n,a,rfl⟩:=bG e;exact⟨_,n,a,[],U,rn,.flat⟩
  by_cases k2:k = "share"
  ·subst k2;have e:=eq ⋯;rw[show uu ("share":af)=4 by decide+kernel]at e;obtain⟨n,a,w,rfl⟩:=M7 e;exact⟨_,n,a,[w],U,rn,.share w⟩
  by_cases k3:k = "bands"
  ·subst k3;have e:=eq ⋯;rw[show uu ("bands":af)=4 by decide+kernel]at e;obtain⟨n,a,w,rfl⟩:=M7 e;exact⟨_,n,a,[w],U,rn,.bands w⟩
  by_cases k4:k = "capped"
  ·subst k4;have e:=eq ⋯;rw[show uu ("capped":af)=5 by decide+kernel]at e;obtain⟨n,a,b,w,rfl⟩:=Nq e;exact⟨_,n,a,[b,w],U,rn,.capped b w⟩
  by_cases k5:k = "least"
  ·subst k5;have e:=eq ⋯;rw[show uu ("least":af)=5 by decide+kernel]at e;obtain⟨n,a,b,w,rfl⟩:=Nq e;exact⟨_,n,a,[b,w],U,rn,.least b w⟩
  by_cases k6:k = "ontop"
  ·subst k6;rw[show uu ("ontop":af)=6 by decide+kernel]at h1
   match ws,h1 with
   |[],h1=>exact K7 h1 (by simp)
   |[_],h1=>exact K7 h1 (by simp)
   |[_,_],h1=>exact K7 h1 (by simp)
   |[_,_,_],h1=>exact K7 h1 (by simp)
   |[_,_,_,_],h1=>exact K7 h1 (by simp)
   |n::a::w::o::x::r,_=>exact⟨_,n,a,_,U,rn,.ontop w o x r⟩
  ·refine K7 ?_ h0;unfold uu;rw[K5 k1,K5 k2,K5 k4,K5 k5,K5 k3,K5 k6]
theorem Nf {R:Rk}(h:jy ws=some R):∃k n r,ws=k::n::r/\yT n=true/\uu k=ws.length/\uu k≠0:=by
 unfold jy at h
 split at h
 ·rename_i k n a
  split at h
  ·rename_i ek;subst ek;obtain⟨r,er,eb,rfl⟩:=yz (c:=λr=>yT n&&uL r) (g:=λr=>Rk.flat n r) h;rw[CM]at eb;exact⟨_,n,_,U,eb.1,(by show uu _=3;decide+kernel),⋯⟩
  ·cases h
 ·rename_i k n a w
  split at h
  ·rename_i ek;subst ek;obtain⟨r,er,eb,rfl⟩:=yz (c:=λp=>yT n&&(vH p&&wayL.contains w)) (g:=λp=>Rk.share n p w) h;rw[CM]at eb;exact⟨_,n,_,U,eb.1,(by show uu _=4;decide+kernel),⋯⟩
  ·split at h
   ·rename_i ek;subst ek;obtain⟨r,er,eb,rfl⟩:=yz (c:=λps=>yT n&&(JB (Jx ps)&&wayL.contains w)) (g:=λps=>Rk.bands n ps w) h;rw[CM]at eb;exact⟨_,n,_,U,eb.1,(by show uu _=4;decide+kernel),⋯⟩
   ·cases h
 ·rename_i k n a b w
  split at h
  ·rename_i ek;subst ek;obtain⟨p,m,er,em,eb,rfl⟩:=uy (c:=λp m=>yT n&&((vH p&&wayL.contains w)&&uL m)) (g:=λp m=>Rk.capped n p m w) h;rw[CM]at eb;exact⟨_,n,_,U,eb.1,(by show uu _=5;decide+kernel),⋯⟩
  ·split at h
   ·rename_i ek;subst ek;obtain⟨p,m,er,em,eb,rfl⟩:=uy (c:=λp m=>yT n&&((vH p&&wayL.contains w)&&uL m)) (g:=λp m=>Rk.least n p m w) h;rw[CM]at eb;exact⟨_,n,_,U,eb.1,(by show uu _=5;decide+kernel),⋯⟩
   ·cases h
 ·cases h
theorem tV {d:Nat}(b:RB ws=true):wQ d ws=none:=by
 cases h:wQ d ws with
 |none=>rfl
 |some R=>
  refine K7 b ?_
  cases e:uC ws with
  |false=>
   rw[jV d e]at h;obtain⟨k,n,r,rfl,rn,sz,s0⟩:=Nf h;show ¬(decide (uu k=0) || (decide ((k::n::r).length<uu k) || ((decide (uu k<(k::n::r).length) && !decide (k = "ontop")) || !yT n)))=true;rw[D' s0,D' (by lia),D' (by lia),rn,dO];decide
  |true=>
   obtain⟨n,a,w,x,r,rfl⟩:=Jw e
   cases d with
   |zero=>rw[QC]at h;cases h
   |succ d=>
    rw[Je]at h
    cases e2:wQ d (x::r) with
    |none=>rw[e2]at h;cases h
    |some r2=>
     rw[e2]at h;obtain⟨p,er,eb,rfl⟩:=yz (c:=λp=>yT n&&(vH p&&wayL.contains w)) (g:=λp=>Rk.ontop n p w r2) h;rw[CM]at eb;show ¬(decide (uu "ontop" = 0) || (decide ((("ontop":af)::n::a::w::("of":af)::x::r).length<uu "ontop") || ((decide (uu "ontop" < (("ontop":af)::n::a::w::("of":af)::x::r).length) && !decide (("ontop":af) = "ontop")) || !yT n)))=true;rw[eb.1,i' (show("ontop":af) = "ontop" from U),ej,dQ,show uu "ontop" = 6 by decide+kernel,D' (show ¬(6=0) by decide),D' (by simp)];decide
theorem gP {B:Int->Bool}{g:Int->α}(h:∀r,0<=r->B r=decide (r<=m)):((yi 13 z).bind λr=>if B r=true then some (g r) else none)=(nO m z).map g:=by
 unfold nO
 cases e:yi 13 z with
 |none=>rfl
 |some r=>
  show(if B r=true then _ else _)=Option.map g (if decide (r<=m)=true then some r else none);rw[h r (GB e)]
  split<;>rfl
theorem Pr (r:Int)(h:0<=r):uL r=decide (r<=1000000000000):=by
 unfold uL;exact decide_eq_decide.mpr ⟨λc=>c.2,λc=>⟨h,c⟩⟩
theorem lU (r:Int)(h:0<=r):vH r=decide (r<=20000):=by
 unfold vH;exact decide_eq_decide.mpr ⟨λc=>c.2,λc=>⟨h,c⟩⟩
theorem mZ {n:af}(rn:yT n=true)(a:af):VT n a=(nO 1000000000000 a).map (Rk.flat n):=by
 unfold VT;exact gP λr h=>by rw[rn,dm];exact Pr r h
theorem tj {n:af}(rn:yT n=true)(a w:af):Oc n a w=if wayL.contains w=true then (nO 20000 a).map λp=>Rk.share n p w else none:=by
 unfold Oc
 cases hw:wayL.contains w with
 |true=>exact gP λr h=>by rw[rn,dm,d7];exact lU r h
 |false=>
  cases yi 13 a with
  |none=>rfl
  |some r=>show(if (yT n&&(vH r&&false))=true then _ else _)=_;rw[dQ,dQ];rfl
theorem rm {n:af}(rn:yT n=true)(a w:af)(R:Rk):Lr n a w R=if wayL.contains w=true then (nO 20000 a).map λp=>Rk.ontop n p w R else none:=by
 unfold Lr
 cases hw:wayL.contains w with
 |true=>exact gP λr h=>by rw[rn,dm,d7];exact lU r h
 |false=>
  cases yi 13 a with
  |none=>rfl
  |some r=>show(if (yT n&&(vH r&&false))=true then _ else _)=_;rw[dQ,dQ];rfl
theorem tZ {n:af}(rn:yT n=true)(a w:af):G1 n a w=if wayL.contains w=true then (Z3 a).map λps=>Rk.bands n ps w else none:=by
 unfold G1 Z3
 cases jf (av a ",") with
 |none=>cases wayL.contains w<;>rfl
 |some ps=>
  show(if (yT n&&(JB (Jx ps)&&wayL.contains w))=true then _ else _)=if wayL.contains w=true then Option.map _ (if JB (Jx ps)=true then some ps else none) else none;rw[rn,dm]
  cases JB (Jx ps)<;>cases wayL.contains w<;>rfl
theorem LZ {n:af}(rn:yT n=true)(g:Int->Int->Rk)(a b w:af):((yi 13 a).bind λp=>(yi 13 b).bind λm=>if (yT n&&((vH p&&wayL.contains w)&&uL m))=true then some (g p m) else none)=if wayL.contains w=true then (nO 20000 a).bind λp=>(nO 1000000000000 b).map λm=>g p m else none:=by
 cases hw:wayL.contains w with
 |false=>
  cases yi 13 a with
  |none=>rfl
  |some p=>
   cases yi 13 b with
   |none=>rfl
   |some m=>show(if (yT n&&((vH p&&false)&&uL m))=true then _ else _)=_;rw[dQ,dO,dQ];rfl
 |true=>
  rw[K6 rfl]
  cases ea:nO 20000 a with
  |none=>
   cases e:yi 13 a with
   |none=>rfl
   |some p=>
    cases yi 13 b with
    |none=>rfl
    |some m=>show(if (yT n&&((vH p&&true)&&uL m))=true then _ else _)=_;rw[rT ea e,dO,dO,dQ];rfl
  |some p=>
   rw[(Z8 ea).1];show((yi 13 b).bind λm=>_)=(nO 1000000000000 b).map _;exact gP λr h=>by rw[rn,rG ea,dm,dm,dm];exact Pr r h
theorem RN (k:af):(ZU (wa [] szD) (.inr k)).getD (.int 0)=.int (uu k:Nat):=by
 have e:wa [] szD=szD:=⋯
 rw[e]
 by_cases k1:k = "flat"
 ·subst k1;decide+kernel
 by_cases k2:k = "share"
 ·subst k2;decide+kernel
 by_cases k3:k = "capped"
 ·subst k3;decide+kernel
 by_cases k4:k = "least"
 ·subst k4;decide+kernel
 by_cases k5:k = "bands"
 ·subst k5;decide+kernel
 by_cases k6:k = "ontop"
 ·subst k6;decide+kernel
 have:szD.find? (λkv=>decide (kv.1=(AV k:yY)))=none:=List.find?_eq_none.mpr λkv h c=>by
  have c:=G' c;simp only[szD,CJ,CV,or_false]at h;rcases h with rfl |rfl |rfl |rfl |rfl |rfl
  ·exact k1 (l_ c).symm
  ·exact k2 (l_ c).symm
  ·exact k3 (l_ c).symm
  ·exact k4 (l_ c).symm
  ·exact k5 (l_ c).symm
  ·exact k6 (l_ c).symm
 unfold ZU;rw[this];unfold uu;rw[K5 k1,K5 k2,K5 k3,K5 k4,K5 k5,K5 k6];rfl
theorem jT {k n a:af}:pH H (k::n::a::r) xs↔(if k = "bands" then ∃v,xs=[v]/\WX H (Z3 a) v else if k = "flat" then xs=[kc (nO 1000000000000 a)] else if (k = "capped"∨k = "least") then xs=[kc (nO 20000 a),kc (nO 1000000000000 (r.headD ""))] else xs=[kc (nO 20000 a)]):=Iff.rfl
def Zv (k:af)(r:List af):List af:=if k = "flat" then [] else if k = "capped"∨k = "least" then (r.drop 1).take 1 else r.take 1
def GQ (ys:List af):Bool:=ys.all wayL.contains
theorem O9 {k n a:af}(sh:L8 k r)(k6:k≠"ontop")(rn:yT n=true)(th:pH H (k::n::a::r) xs):
  ((xs.any Zj || !GQ (Zv k r))=true->jy (k::n::a::r)=none)/\((xs.any Zj || !GQ (Zv k r))=false->∃R,jy (k::n::a::r)=some R/\∀H' t,zk H H'->H' t=some (.tup ([.str k,.str n]++xs++(Zv k r).map V.str))->Yv H' R (.ref t)):=by
 cases sh with
 |flat=>
  have th:xs=[kc (nO 1000000000000 a)]:=by
   rw[jT]at th
   rwa [K5 ⋯,K6 rfl]at th
  subst th;have ew:Zv "flat" []=[]:=by unfold Zv;exact K6 rfl
  rw[ew,UQ,mZ rn]
  cases h:nO 1000000000000 a with
  |none=>exact⟨λ_=>rfl,λc=>by cases c⟩
  |some x=>exact⟨λc=>(by cases c),λ_=>⟨_,U,λH' t s e=>.pln (C9 U) ⟨t,U,e⟩⟩⟩
 |share w=>
  have th:xs=[kc (nO 20000 a)]:=by
   rw[jT]at th
   rwa [K5 ⋯,K5 ⋯,K5 ⋯]at th
  subst th;have ew:Zv "share" [w]=[w]:=by unfold Zv;exact(K5 ⋯).trans (K5 ⋯)
  rw[ew,JA,tj rn];have wb:GQ [w]=wayL.contains w:=d7 _;rw[wb]
  cases h:nO 20000 a with
  |none=>exact⟨λ_=>by cases wayL.contains w<;>rfl,λc=>by cases c⟩
  |some x=>
   cases hw:wayL.contains w with
   |false=>exact⟨λ_=>rfl,λc=>by cases c⟩
   |true=>exact⟨λc=>(by cases c),λ_=>⟨_,U,λH' t s e=>.pln (C9 U) ⟨t,U,e⟩⟩⟩
 |bands w=>
  have th:∃v,xs=[v]/\WX H (Z3 a) v:=by
   rw[jT]at th
   rwa [K6 rfl]at th
  obtain⟨v,rfl,pv⟩:=th;have ew:Zv "bands" [w]=[w]:=by unfold Zv;exact(K5 ⋯).trans (K5 ⋯)
  rw[ew,JU,tZ rn];have wb:GQ [w]=wayL.contains w:=d7 _;rw[wb]
  cases h:Z3 a with
  |none=>
   rw[h]at pv;have pv:v=.non:=pv;subst pv;exact⟨λ_=>by cases wayL.contains w<;>rfl,λc=>by cases c⟩
  |some ps=>
   rw[h]at pv;obtain⟨u,rfl,bd⟩:=pv
   cases hw:wayL.contains w with
   |false=>exact⟨λ_=>rfl,λc=>by cases c⟩
   |true=>exact⟨λc=>(by cases c),λ_=>⟨_,U,λH' t s e=>.bands e (bd.same s)⟩⟩
 |capped b w=>
  have th:xs=[kc (nO 20000 a),kc (nO 1000000000000 b)]:=by
   rw[jT]at th
   rwa [K5 ⋯,K5 ⋯,K6 (ay U)]at th
  subst th;have ew:Zv "capped" [b,w]=[w]:=by unfold Zv;exact(K5 ⋯).trans (K6 (ay U))
  rw[ew,Qu];unfold lK;rw[LZ rn λp m=>Rk.capped n p m w];have wb:GQ [w]=wayL.contains w:=d7 _;rw[wb]
  cases h:nO 20000 a with
  |none=>exact⟨λ_=>by cases wayL.contains w<;>rfl,λc=>by cases c⟩
  |some x=>
   cases h2:nO 1000000000000 b with
   |none=>exact⟨λ_=>by cases wayL.contains w<;>rfl,λc=>by cases c⟩
   |some y=>
    cases hw:wayL.contains w with
    |false=>exact⟨λ_=>rfl,λc=>by cases c⟩
    |true=>exact⟨λc=>(by cases c),λ_=>⟨_,U,λH' t s e=>.pln (C9 U) ⟨t,U,e⟩⟩⟩
 |least b w=>
  have th:xs=[kc (nO 20000 a),kc (nO 1000000000000 b)]:=by
   rw[jT]at th
   rwa [K5 ⋯,K5 ⋯,K6 (i_ U)]at th
  subst th;have ew:Zv "least" [b,w]=[w]:=by unfold Zv;exact(K5 ⋯).trans (K6 (i_ U))
  rw[ew,Ju];unfold Pf;rw[LZ rn λp m=>Rk.least n p m w];have wb:GQ [w]=wayL.contains w:=d7 _;rw[wb]
  cases h:nO 20000 a with
  |none=>exact⟨λ_=>by cases wayL.contains w<;>rfl,λc=>by cases c⟩
  |some x=>
   cases h2:nO 1000000000000 b with
   |none=>exact⟨λ_=>by cases wayL.contains w<;>rfl,λc=>by cases c⟩
   |some y=>
    cases hw:wayL.contains w with
    |false=>exact⟨λ_=>rfl,λc=>by cases c⟩
    |true=>exact⟨λc=>(by cases c),λ_=>⟨_,U,λH' t s e=>.pln (C9 U) ⟨t,U,e⟩⟩⟩
 |ontop=>exact K7 rfl k6
theorem Pe {k n a:af}(sh:L8 k r)(k1:k≠"flat")(th:pH H (k::n::a::r) xs):xs.length<=2/\(k = "ontop"->xs=[kc (nO 20000 a)])/\∃w,Zv k r=[w]/\(k::n::a::r)[2+xs.length]?=some w:=by
 cases sh with
 |flat=>exact K7 rfl k1
 |share w=>
  have th:xs=[kc (nO 20000 a)]:=by
   rw[jT]at th
   rwa [K5 ⋯,K5 ⋯,K5 ⋯]at th
  subst th;exact⟨C9 U,λ_=>rfl,w,(by unfold Zv;exact(K5 ⋯).trans (K5 ⋯)),U⟩
 |bands w=>
  have th:∃v,xs=[v]/\WX H (Z3 a) v:=by
   rw[jT]at th
   rwa [K6 rfl]at th
  obtain⟨v,rfl,_⟩:=th;exact⟨C9 U,λc=>K7 c ⋯,w,(by unfold Zv;exact(K5 ⋯).trans (K5 ⋯)),U⟩
 |capped b w=>
  have th:xs=[kc (nO 20000 a),kc (nO 1000000000000 b)]:=by
   rw[jT]at th
   rwa [K5 ⋯,K5 ⋯,K6 (ay U)]at th
  subst th;exact⟨C9 U,λc=>K7 c ⋯,w,(by unfold Zv;exact(K5 ⋯).trans (K6 (ay U))),U⟩
 |least b w=>
  have th:xs=[kc (nO 20000 a),kc (nO 1000000000000 b)]:=by
   rw[jT]at th
   rwa [K5 ⋯,K5 ⋯,K6 (i_ U)]at th
  subst th;exact⟨C9 U,λc=>K7 c ⋯,w,(by unfold Zv;exact(K5 ⋯).trans (K6 (i_ U))),U⟩
 |ontop w o x r=>
  have th:xs=[kc (nO 20000 a)]:=by
   rw[jT]at th
   rwa [K5 ⋯,K5 ⋯,K5 ⋯]at th
  subst th;exact⟨C9 U,λ_=>rfl,w,(by unfold Zv;exact(K5 ⋯).trans (K5 ⋯)),U⟩
theorem b7 {K:BFr}{k n a:af}(th:pH H (k::n::a::r) xs):xs.length<=2/\∀x∈xs,lH K H x:=by
 have nf:∀o,lH K H (kc o):=λo=>.inl (by cases o<;>rfl);rw[jT]at th
 split at th
 ·obtain⟨v,rfl,pv⟩:=th;refine⟨C9 U,λx hx=>?_⟩;rw[CY.mp hx]
  cases h:Z3 a with
  |none=>rw[h]at pv;cases pv;exact .inl rfl
  |some ps=>
   rw[h]at pv;obtain⟨u,rfl,ys,e,_⟩:=pv;exact .inr ⟨u,ys,U,yE.of e⟩
 ·split at th
  ·subst th;exact⟨C9 U,λx hx=>by rw[CY.mp hx];exact nf _⟩
  ·split at th
   ·subst th;refine⟨C9 U,λx hx=>?_⟩;simp only[CJ,CV,or_false]at hx;rcases hx with rfl |rfl<;>exact nf _
   ·subst th;exact⟨C9 U,λx hx=>by rw[CY.mp hx];exact nf _⟩
theorem Lk (k n a w o x:af)(r:List af):jy (k::n::a::w::o::x::r)=none:=by
 unfold jy;rfl
theorem Xp (d:Nat){n a w o:af}(h:o≠"of"):wQ d (("ontop":af)::n::a::w::o::x::r)=none:=by
 rw[jV d (by
  show(decide (("ontop":af) = "ontop")&&decide (o = "of"))=false;rw[D' h];exact dQ _)]
 exact Lk _ _ _ _ _ _ _
theorem bB (d:Nat){n a w o:af}(rn:yT n=true)(c:([kc (nO 20000 a)].any Zj || !GQ [w])=true):wQ d (("ontop":af)::n::a::w::o::x::r)=none:=by
 by_cases h:o = "of"
 ·subst h
  cases d with
  |zero=>exact QC _ _ _ _ _
  |succ d=>
   rw[Je]
   cases wQ d (x::r) with
   |none=>rfl
   |some R=>
    show Lr n a w R=none;rw[rm rn];have wb:GQ [w]=wayL.contains w:=d7 _;rw[wb]at c
    cases hn:nO 20000 a with
    |none=>cases wayL.contains w<;>rfl
    |some p=>
     cases hw:wayL.contains w with
     |false=>rfl
     |true=>rw[hn,hw]at c;cases c
 ·exact Xp d h
theorem nV (d:Nat){n a w:af}(rn:yT n=true)(c:([kc (nO 20000 a)].any Zj || !GQ [w])=false):∃p,nO 20000 a=some p/\wQ (d+1) (("ontop":af)::n::a::w::("of":af)::x::r)=(wQ d (x::r)).map λR=>Rk.ontop n p w R:=by
 have wb:GQ [w]=wayL.contains w:=d7 _;rw[wb]at c
 cases hn:nO 20000 a with
 |none=>rw[hn]at c;cases c
 |some p=>
  refine⟨p,U,?_⟩;rw[hn]at c
  cases hw:wayL.contains w with
  |false=>rw[hw]at c;cases c
  |true=>
   rw[Je]
   cases wQ d (x::r) with
   |none=>rfl
   |some R=>
    show Lr n a w R=some _;rw[rm rn,hw,hn];rfl
theorem lH.same {K:BFr}{x:V}(s:zk H H')(h:lH K H x):lH K H' x:=h.imp id λhM=>by obtain⟨t,c,e,hq⟩:=hM;exact⟨t,c,e,s.tup hq⟩
theorem NL {K:BFr}(ys:List af):(∀x∈ys.map V.str,lH K H x)/\(ys.map V.str).any Zj=false:=by
 refine⟨λx hx=>?_,?_⟩
 ·obtain⟨y,_,rfl⟩:=CK.mp hx;exact .inl rfl
 ·rw[Em];exact List.any_eq_false.mpr λ_ _=>by intro c;cases c
theorem xb (ys:List af):((ys.map V.str).filter λx=>match x with|.str w=>!wayL.contains w |_=>false)=[]↔GQ ys=true:=by
 unfold GQ;rw[eU,dj];constructor
 ·intro h c hc;have:=h _ (CK.mpr ⟨c,hc,U⟩)
  cases h:wayL.contains c with
  |true=>rfl
  |false=>exact K7 (show(!wayL.contains c)=true by rw[h];rfl) this
 ·intro h x hx;obtain⟨d,hd,rfl⟩:=CK.mp hx;show ¬(!wayL.contains d)=true;rw[h d hd];decide
theorem LH (k:af)(r:List af):(Zv k r).length<=1:=by
 unfold Zv;split
 ·exact du _
 ·split
  ·rw[dH];lia
  ·rw[dH];lia
end Pg
namespace K12
open PySem PySem.NumText L2 Pg
seal PE PA PT PW PS y8 PG j5 PI jQ PO PK
section
variable {K:BFr}{mg:af->Option ae}
theorem Nh:zL P w K mg base zY j f fd ["_law_words","_law_deep"] (US 0):=⟨λ_ _ _ _ h=>h.elim,λ_ _ _ _ _ _ _ _ _ _ _ _ _ h=>h.elim⟩
theorem V9 {d:Nat}(hj:3<=j)(F:qU K "_law_by_words" "_law_by_words" (top 97) f fd)(G:vh mg)(C1:qX P w K mg base zY 1 "_law_is_name" ["_law_word_here"] Uk)(C2:qX P w K mg base zY 3 "_law_things_in" ["_law_words"] UR)(C3:qX P w K mg base zY j "_law_by_words" ["_law_words","_law_deep"] (US d)):zL P w K mg base zY (j+1) f fd ["_law_words","_law_deep"] (US (d+1)):=by
 have nd:(["_law_words","_law_deep","_law_size","_law_things","_law_way_here"]:List af).Nodup:=⋯
 have nc:(["_law_one"]:List af).Nodup:=⋯
 walk_at"k"
 ·obtain⟨l,ws,dp,rfl,_⟩:=h;rfl
 ·obtain⟨l,ws,dp,rfl,hw,ne,d0,d3,q⟩:=h;have Z_:(A.deeper (aT "_law_by_words" (zU (top 97)) s.heap.objs.size f K9)).units<hZ:=Dd (Dp _ 64) hr.units;have un1:(A.deeper (aT "_law_by_words" (zU (top 97)) s.heap.objs.size f K9)).units+1<hZ:=Dd (Eb ∅ _) hr.units
  refine' ⟨_,(zg (zF (i:=2) nd U (ay U) (mV un1 (Nv (uO zj ze (uO zj ze (uO zj ze (uO zj ze (uO zj ze (uO zj ze MK)))))) U U (by intro z;cases z) (C9 U)) (zE zy (pv 0) ze) ze ⟨U,U,U,U⟩))
    (zg (zK (PW.pt (yI (zx qw (pv 2) ze (zD _)) (yI (zx wO (zv zJ U G.len aH (za (pv 0) zd)) (pv 2) (zD _)) (yI (PW.pt (QO (zx vX (zv zJ U G.len aH (za (pv 0) zd)) (pv 2) (zD _)) (kT (zx uB (zE zy (pv 0) ze) zj (zD _))))) (yJ (qB (qC (zq C1 hr (by lia) zA (za (zE zy (pv 0) ze) zd))))))))) (zh (zt yR)) zB)
    (zg (zF (i:=3) nd U (ay U) (zq C2 hr hj zA (za (pv 0) zd)))
    (zg (zF (i:=4) nd U (ay U) (zM zd))
    (uG (zK (zx uB (zE zy (pv 0) ze) zj (zD _)) (zh (zF (i:=4) nd U (ay U) (zM (za (zE zy (pv 0) (zu qo ze (zv zJ U G.len aH (za (pv 3) zd)))) zd)))) zB)
    (zg (zK (PW.pt (yI (zx (PZ un1) yR (pv 3) (by rfl)) (yJ (zx (Jj Z_) ?comp (zM zd) (zD _))))) (zh (zt yR)) zB)
    (zg (zK (zx qw (zE zy (pv 0) ze) zj (zD _)) (zg (zK (PW.pt (yI (zx qw (pv 1) ze (zD _)) (yJ (zx uB (zE zy (pv 0) ze) zj (zD _))))) (zh (zt yR)) zB)
    (zg (zF (i:=3) nd U (ay U) (zu yH (pv 3) (pv 4)))
    (zh (zF (i:=4) nd U (ay U) (zM (za (zq C3 hr (CI _) zA (za (z8 yG (pv 0) (qm ze) qA) (za (zu qo (pv 1) ze) zd))) zd)))))) zB)
    (zg (zK (zx (PZ un1) yR (pv 4) (by rfl)) (zh (zt yR)) zB)
    (zh (zt (zZ jB U G.tuple yX (za (zu yH (zu yH (zM (za (zE zy (pv 0) ze) (za (zE zy (pv 0) ze) zd))) (pv 3)) (pv 4)) zd)))))))))))),?main⟩
  case comp=>
   refine' qk (cl:=[]) (src:=[none]) (wi:=Zl K (zV 4)) (g:=qc 0) (tt:=JD (vp (BL K true) (zV 0) (pC (qN (tC (.str "down")) (qN (tC (.str "up")) (qN (tC (.str "near")) (qN (tC (.str "even")) y6))))))) (te:=zV 0) (cO nc ⟨U,U,⋯,⋯,(λx c z=>nomatch z),qF (by rfl),zR qb,U⟩) rfl (ye (pv 4)) ?hb
   case hb=>
    intro fp C' s' H';exact⟨zO (i:=0) nc U (ay U),ZN (zx wc (pv 0) (yM (za zj (za zj (za zj (za zj zd))))) (by rfl)),pv 0⟩
  match ws,ne with
  |k::ws,_=>
   obtain⟨hl,lw,le⟩:=hw;refineλp hp=>⟨zi,szD,U,∅,p,U,.inl ⟨_,.inl zi⟩,?_⟩;obtain⟨H1,hH1⟩:∃H1,H1=upd (upd H p (.dK [])) p (.dK (wa [] szD)):=⟨_,U⟩;have s1:zk H H1:=λb o hb=>by rw[hH1,zm (zC hb hp),zm (zC hb hp)];exact hb
   have e1:H1 p=some (.dK (wa [] szD)):=by rw[hH1,zi]
   rw[<- hH1];clear hH1;have hl1:=s1 _ _ hl;refine⟨_,U,l,_,_,_,U,U,zN.of hl1,qJ U,_,.inl ⟨_,.inr k,.inl e1,U,U⟩,?_⟩;rw[RN];dsimp only [xw]
   have szz:uu k=0∨3<=uu k:=by
    unfold uu;split
    ·exact .inr ∅
    split
    ·exact .inr ∅
    split
    ·exact .inr ∅
    split
    ·exact .inr ∅
    split
    ·exact .inr ∅
    split
    ·exact .inr ∅
    ·exact .inl rfl
   refine QL (λQ=>∀H',zk H1 H'->Q (RB (k::ws)) H') (λR r=>?_) (λH2 s2=>qg (λe=>?_) (λe=>?_))
   ·have r:∀H',zk H1 H'->R (decide (uu k=0) || (decide ((k::ws).length<uu k) || ((decide (uu k<(k::ws).length) && !decide (k = "ontop")) || !yT (ws.headD "")))) H':=r;refine⟨_,U,U,_,U,qg (λe=>?_) (λe=>?_)⟩
    ·rw[i' (show uu k=0 by have:=V.int.inj (G' e);lia)]at r;exact r H1 (zk.refl _)
    have z0:uu k≠0:=λc=>e (i' (by rw[c];rfl));rw[D' z0,dS]at r;refine⟨_,U,l,_,U,.inl (zN.of hl1),_,U,_,_,U,U,_,U,qg (λe=>?_) (λe=>?_)⟩
    ·have e:=G' e;rw[CH]at e;rw[i' (show(k::ws).length<uu k by lia)]at r;exact r H1 (zk.refl _)
    have z1:¬(k::ws).length<uu k:=λc=>e (i' (by rw[CH];lia));rw[D' z1,dS]at r
    obtain⟨n,wr,rfl⟩:∃n r0,ws=n::r0:=by
     cases ws with
     |nil=>exact K7 (by show 1<uu k;lia) z1
     |cons n r0=>exact⟨n,r0,U⟩
    have ln:n.length<=2000000:=le n (by simp);have r:∀H',zk H1 H'->R ((decide (uu k<(k::n::wr).length) && !decide (k = "ontop")) || !yT n) H':=r;refine(λ(LS:(∀H',zk H1 H'->R (!yT n) H')->_)=>⟨_,U,l,_,U,.inl (zN.of hl1),_,U,_,_,U,U,_,U,qg (λe=>⟨_,U,l,_,_,_,U,U,zN.of hl1,qJ U,U,_,U,qg (λe2=>?_) (λe2=>LS ?_)⟩) (λe=>qM (LS ?_))⟩) (λr'=>?_)
    ·exact⟨_,U,l,_,_,_,U,U,zN.of hl1,qQ (j:=1) U,n,U,ln,λH' s'=>⟨yT n,U,r' H' s'⟩⟩
    ·have e:=G' e;rw[CH]at e;have e2:(!decide (V.str k=V.str "ontop"))=true:=e2;have k6:k≠"ontop":=λc=>by rw[c,i' rfl]at e2;cases e2
     rw[i' (show uu k<(k::n::wr).length by lia),D' k6]at r;exact r H1 (zk.refl _)
    ·have k6:k = "ontop":=by
      have e2:¬(!decide (V.str k=V.str "ontop"))=true:=e2
      by_cases h:k = "ontop"
      ·exact h
      ·exact K7 (by rw[D' λc=>h (V.str.inj c)];rfl) e2
     rw[i' k6,ej,dQ,dS]at r;exact r
    ·have z2:¬uu k<(k::n::wr).length:=λc=>e (i' (by rw[CH];lia));rw[D' z2,dO,dS]at r;exact r
   ·exact q _ H2 (s1.trans s2) (by rw[tV e];rfl)
   obtain⟨k',n,a,r,ek,rn,sh⟩:=Tu (dI.mpr e);injection ek with ek1 ek2;subst ek1;subst ek2;have S2:=s1.trans s2;have hl2:=S2 _ _ hl
   have r0:k = "capped"∨k = "least"->r≠[]:=λh c=>by
    subst c;cases sh;exact K7 h ⋯
   refine⟨_,U,l,k,n,a,r,U,⟨hl2,lw,le⟩,r0,λt xs H3 s3 n3 e3 th=>?_⟩;have S3:=S2.trans s3;have hl3:=S3 _ _ hl;obtain⟨x2,ft⟩:=b7 (K:=K) th;refine⟨zS U,λy H4 s4 n4 e4=>?_⟩;refine kI (λσ H'=>∃y,σ=[some (.ref l),some (.int dp),some (.int (uu k:Nat)),some (.ref t),some (.ref y)]/\zk H3 H'/\H' y=some (.lst ((Zv k r).map V.str))) (λEk kk=>?_) ?_
   ·refine⟨_,U,l,_,_,_,U,U,zN.of (s4 _ _ hl3),qJ U,U,_,U,qg (λe=>?_) (λe=>?_)⟩
    ·have k1:k≠"flat":=λc=>by
      have e:(!decide (V.str k=V.str "flat"))=true:=e;rw[c,i' rfl]at e;cases e
     obtain⟨_,_,w,ew,ew2⟩:=Pe sh k1 th;refine⟨_,U,_,U,t,_,U,.inl (zN.of (s4 _ _ e3)),_,_,U,U,l,_,_,_,U,U,zN.of (s4 _ _ hl3),(qQ (j:=2+xs.length) (by rw[CO,ew2];rfl)),zS U,λy2 H5 s5 n5 e5=>kk _ _ ⟨y2,U,s4.trans s5,by rw[ew];exact e5⟩⟩
    ·have k1:k = "flat":=by
      have e:¬(!decide (V.str k=V.str "flat"))=true:=e
      by_cases h:k = "flat"
      ·exact h
      ·exact K7 (by rw[D' λc=>h (V.str.inj c)];rfl) e
     refine kk _ _ ⟨y,U,s4,?_⟩;rw[k1,show Zv "flat" r=[] by unfold Zv;exact K6 rfl];exact e4
   rintro σ H5 ⟨y,rfl,s5,e5⟩;have S5:=S3.trans s5;have hl5:=S5 _ _ hl;have e35:=s5 _ _ e3;have ft5:∀x∈xs,lH K H5 x:=λx hx=>lH.same s5 (ft x hx);refine QL (λQ=>∀H',zk H5 H'->Q (xs.any Zj || !GQ (Zv k r)) H') (λR rr=>?_) (λH6 s6=>qg (λc1=>?_) (λc1=>?_))
   ·refine⟨_,U,t,xs,U,U,.inl (zN.of e35),ft5,_,U,qg (λe=>?_) (λe=>?_)⟩
    ·rw[e]at rr;exact rr H5 (zk.refl _)
    rw[dI.mpr e,dS]at rr;refine⟨_,U,y,U,⟨_,zN.of e5⟩,λD hD=>?_⟩;refine pG (jc (zN.of e5)) hD (by rw[CH,ai];have:=LH k r;lia) (λx=>match x with|.str w=>!wayL.contains w |_=>false) (λx=>x) (λx hx H' R s' r'=>?_) (λx hx _ H' R s' r'=>⟨_,U,r' H' (zk.refl _)⟩) (λH6 s6 e6=>?_)
    ·obtain⟨w,_,rfl⟩:=CK.mp hx;refine⟨_,U,zS U,λu Hu su nu eu=>⟨u,_,U,.inr (yE.of eu),U,U,_,U,?_⟩⟩;have ci:MV (.str w) [V.str "down",V.str "up",V.str "near",V.str "even"]=wayL.contains w:=uc w wayL;have r':=r' Hu su;dsimp only at r';rw[<- ci]at r';exact r'
    ·rw[eS]at e6;refine⟨zS U,λl2 H7 s7 n7 e7=>⟨D,l2,_,U,U,zN.of (s7 _ _ e6),zN.of e7,λz=>⟨false,U,?_⟩,λz=>⟨true,U,?_⟩⟩⟩
     ·have r2:=rr H7 (s6.trans s7);rw[(xb _).mp z]at r2;exact r2
     ·have r2:=rr H7 (s6.trans s7);rw[dI.mpr λc=>z ((xb _).mpr c)]at r2;exact r2
   ·have S6:=S5.trans s6;refine q _ H6 S6 ?_
    by_cases k6:k = "ontop"
    ·subst k6
     cases sh with
     |ontop w o x r=>
      obtain⟨_,ex,w',ew,_⟩:=Pe (L8.ontop w o x r) ⋯ th;have ew2:Zv "ontop" (w::o::x::r)=[w]:=by unfold Zv;exact(K5 ⋯).trans (K5 ⋯)
      rw[ew2,ex rfl]at c1;rw[bB d rn c1];rfl
    ·have V_:uC (k::n::a::r)=false:=V2 k6;rw[jV d V_,(O9 sh k6 rn th).1 c1];rfl
   have cg:=dI.mpr c1;have S6:=S5.trans s6;have hl6:=S6 _ _ hl;have e36:=s6 _ _ e35;have e56:=s6 _ _ e5;have s36:=s5.trans s6;have wl1:=LH k r;have xl:xs.length<=2:=x2
   by_cases k6:k = "ontop"
   ·subst k6
    cases sh with
    |ontop w o x r=>
     obtain⟨_,ex,_⟩:=Pe (L8.ontop w o x r) ⋯ th;have ex:=ex rfl;have ew2:Zv "ontop" (w::o::x::r)=[w]:=by unfold Zv;exact(K5 ⋯).trans (K5 ⋯)
     rw[ew2]at cg e56;rw[ex]at cg;refine⟨_,U,l,_,_,_,U,U,zN.of hl6,qJ U,U,_,U,Lz ?_⟩;refine⟨_,U,U,_,U,qg (λed=>?_) (λed=>?_)⟩
     ·have ed:=V.int.inj (G' ed);have:d=0:=by lia
      subst this;refine q _ H6 S6 ?_
      by_cases h:o = "of"
      ·subst h;rw[QC];rfl
      ·rw[Xp 0 h];rfl
     refine⟨_,U,l,_,_,_,U,U,zN.of hl6,qQ (j:=4) U,U,_,U,qg (λe2=>?_) (λe2=>?_)⟩
     ·have h:o≠"of":=λc=>by
       have e2:(!decide (V.str o=V.str "of"))=true:=e2;rw[c,i' rfl]at e2;cases e2
      refine q _ H6 S6 ?_;rw[Xp d h];rfl
     have h:o = "of":=by
      have e2:¬(!decide (V.str o=V.str "of"))=true:=e2
      by_cases h:o = "of"
      ·exact h
      ·exact K7 (by rw[D' λc=>h (V.str.inj c)];rfl) e2
     subst h;have dn:dp≠3:=λc=>ed (i' (by rw[c]))
     match d,d3,q,C3 with
     |0,d3,_,_=>exact K7 (by lia) dn
     |d+1,d3,q,C3=>
      obtain⟨pp,hp,eo⟩:=nV d (x:=x) (r:=r) rn cg;rw[eo]at q;rw[ex,hp]at e36;refine⟨_,U,_,U,t,y,_,_,U,U,e36,e56,zS U,λt2 H7 s7 n7 e7=>?_⟩;have S7:=S6.trans s7;refine⟨_,U,_,U,l,_,U,zN.of (S7 _ _ hl),λl2 n8=>?_⟩;generalize hc:jR ((("ontop":af)::n::a::w::("of":af)::x::r).map V.str) (some 5) none=cs;have ec:cs=(x::r).map V.str:=by rw[<- hc,rO];rfl
      have s8:zk H7 (upd H7 l2 (.lst cs)):=zk.upd n8;have e8:(upd H7 l2 (.lst cs)) l2=some (.lst ((x::r).map V.str)):=by rw[zi,ec]
      generalize upd H7 l2 (.lst cs)=H8 at s8 e8;refine⟨_,U,_,_,U,U,l2,x::r,_,U,⟨e8,by simp only[dz]at lw ⊢;lia,λv hv=>le v (by simp only[CJ]at hv ⊢;rcases hv with h |h<;>simp[h])⟩,(by intro z;cases z),(by show 0<=dp+1;lia),(by show dp+1+(d:Int)=3;lia),λv H9 s9 rt=>⟨zS U,λy2 HA sA nA eA=>?_⟩⟩;have SA:=S7.trans (s8.trans (s9.trans sA));have eT:=sA _ _ (s9 _ _ (s8 _ _ e7));have hlA:=SA _ _ hl
      cases er:wQ d (x::r) with
      |none=>
       rw[er]at rt q;have rt:v=.non:=rt;subst rt;exact⟨_,U,y2,_,U,U,.inl (zN.of eA),(λz hz=>by rw[CY.mp hz];exact .inl U),_,U,qY (q _ HA SA U)⟩
      |some R=>
       rw[er]at rt q;have rt:Yv H9 R v:=rt
       obtain⟨tv,cv,rfl,ev⟩:∃tv c,v=.ref tv/\H9 tv=some (.tup c):=by
        cases rt with
        |pln k h=>obtain⟨t,e,h⟩:=h;exact⟨t,_,e,h⟩
        |bands h b=>exact⟨_,_,U,h⟩
        |ontop h b=>exact⟨_,_,U,h⟩
       refine⟨_,U,y2,_,U,U,.inl (zN.of eA),(λz hz=>by rw[CY.mp hz];exact .inr ⟨tv,cv,U,yE.of (sA _ _ ev)⟩),_,U,qM ?_⟩;refine⟨_,U,l,_,_,_,U,U,zN.of hlA,qJ U,_,U,l,_,_,_,U,U,zN.of hlA,qQ (j:=1) U,zS U,λl7 HB sB nB eB=>⟨_,U,l7,t2,_,_,U,U,eB,sB _ _ eT,zS U,λl8 HC sC nC eC=>⟨_,U,l8,y2,_,_,U,U,eC,sC _ _ (sB _ _ eA),zS U,λl9 HD sD nD eD=>⟨l9,_,U,.inl ⟨zN.of eD,λu u0=>?_⟩⟩⟩⟩⟩;refine q _ _ (SA.trans (sB.trans (sC.trans (sD.trans (zk.upd u0))))) ?_;exact .ontop zi (rt.same (sA.trans (sB.trans (sC.trans (sD.trans (zk.upd u0))))))
   ·obtain⟨R,er,mk⟩:=(O9 sh k6 rn th).2 cg;have V_:uC (k::n::a::r)=false:=V2 k6;rw[jV d V_,er]at q;refine⟨_,U,l,_,_,_,U,U,zN.of hl6,qJ U,U,_,U,gH k6 ?_⟩;obtain⟨f1,f2⟩:=NL (K:=K) (H:=H6) (Zv k r);refine⟨_,U,y,_,U,U,.inl (zN.of e56),f1,_,U,?_⟩;rw[f2];refine qM ?_;refine⟨_,U,l,_,_,_,U,U,zN.of hl6,qJ U,_,U,l,_,_,_,U,U,zN.of hl6,qQ (j:=1) U,zS U,λl7 HB sB nB eB=>⟨_,U,l7,t,_,_,U,U,eB,sB _ _ e36,?_,λl8 HC sC nC eC=>⟨_,U,l8,y,_,_,U,U,eC,sC _ _ (sB _ _ e56),?_,λl9 HD sD nD eD=>⟨l9,_,U,.inl ⟨zN.of eD,λu u0=>?_⟩⟩⟩⟩⟩
    ·rw[ai];show 2+xs.length<=_;lia
    ·rw[CS,CH,ai];show 2+xs.length+(Zv k r).length<=_;lia
    ·refine q _ _ (S6.trans (sB.trans (sC.trans (sD.trans (zk.upd u0))))) ?_;exact mk _ u (s36.trans (sB.trans (sC.trans (sD.trans (zk.upd u0))))) zi
end
end K12
namespace Pg
open PySem L2
section
variable {B t o al:ag}{fx:List (ag×HO)}{H4:Hp}{es fs:List Be}{vs:List V}{ds:List (Int×List Int)}
end
theorem RH (l:List V)(x:V):QA (l++[x]) (-1)=some x:=by
 have hl:(l++[x]).length=l.length+1:=CS;unfold QA Mg;rw[K5 ∅,K6 (by rw[hl];lia)];show(l++[x])[((-1:Int)+((l++[x]).length:Nat)).toNat]?=_;rw[hl,show((-1:Int)+((l.length+1:Nat):Nat)).toNat=l.length by lia,dZ (CI _),DN];rfl
open PySem.NumText Builtin Builtin.Str
theorem vO (z y:af):fq z y=decide (z.cps.toList.take y.cps.toList.length=y.cps.toList):=by
 unfold fq HN;obtain⟨⟨l⟩⟩:=z;obtain⟨⟨m⟩⟩:=y;show(decide (0+m.length<=l.length)&&((ie l).extract 0 (0+m.length)==ie m))=decide (l.take m.length=m)
 have e:(ie l).extract 0 (0+m.length)=ie (l.take m.length):=by
  apply Array.ext'
  simp
 rw[e]
 by_cases h:l.take m.length=m
 ·rw[h,i' rfl]
  have:m.length<=l.length:=by
   have:=K4 fJ h;rw[dH]at this;lia
  simp[this]
 ·rw[D' h]
  have:((ie (l.take m.length))==ie m)=false:=by
   simp
   intro z;exact h z
  rw[this,dQ]
def wX (z:af):Bool:=fq z "year " && (decide (z.length=9)&&vM (z.cps.toList.drop 5))
def Yq (z:af):Int:=((digitsVal (z.cps.toList.drop 5):Nat):Int)
def YG (Y:Int):af:=("year ":af)++xB Y
theorem WV:("year ":af).cps.toList=[121,101,97,114,32]:=⋯
theorem Xr (h:0<=Y):(xB Y).cps.toList=uK 4 (dg Y.toNat):=by
 obtain⟨k,rfl⟩:=Dw h;exact Vv (k:=4)
theorem uZ (h:0<=Y):(YG Y).cps.toList=[121,101,97,114,32]++uK 4 (dg Y.toNat):=by
 unfold YG;rw[qW,WV,Xr h]
theorem Xy (h:0<=Y)(h9:Y<=9999):(YG Y).length=9:=by
 rw[zI,uZ h,CS,Jg (u9 ∅ (by lia))];rfl
theorem Li (h:0<=Y)(h9:Y<=9999):wX (YG Y)=true/\Yq (YG Y)=Y:=by
 have d5:(YG Y).cps.toList.drop 5=uK 4 (dg Y.toNat):=by rw[uZ h];rfl
 constructor
 ·unfold wX;rw[vO,WV,d5,Mi,Xy h h9,i' (by rw[uZ h];rfl)];rfl
 ·unfold Yq;rw[d5,pV];lia
theorem MN (h:0<=Y):¬10∈(YG Y).cps.toList:=by
 rw[uZ h];intro m;rcases CQ.mp m with m |m
 ·exact K7 m ∅
 ·have:=ZC (k:=4) (vR Y.toNat) 10 m;lia
theorem ph (ok:QR ps):¬10∈(vx ps).cps.toList:=by
 obtain⟨p,r,e⟩:=ok.hd
 have hb:∀q∈ps,¬10∈(yU q).cps.toList:=λq hq m=>by
  have h:=ok.ok q hq;rw[ux q h.1.1 h.2.1]at m;rcases CQ.mp m with m |m
  ·exact JK (.inl ∅) _ m
  ·rcases CJ.mp m with m |m
   ·exact K7 m ∅
   ·exact JK (.inl ∅) _ m
 unfold vx;rw[e]at hb ⊢;rw[dv,TQ,qu];intro m;rcases CQ.mp m with m |m
 ·exact hb _ CU m
 ·obtain⟨l,hl,m⟩:=DU.mp m;obtain⟨v,hv,rfl⟩:=CK.mp hl;obtain⟨u,hu,rfl⟩:=CK.mp hv;obtain⟨q,hq,rfl⟩:=CK.mp hu;rcases CJ.mp m with m |m
  ·exact K7 m ∅
  ·exact hb q (C6 _ hq) m
theorem kj {w:af}(h:Vc w):¬10∈w.cps.toList:=by
 have h:=dW.mp h;unfold wayL at h;simp only[CJ,CV,or_false]at h;rcases h with rfl |rfl |rfl |rfl<;>decide+kernel
theorem XS {d:Nat}{r:Rk}(g:Gd d r):∀z∈qK r,¬10∈z.cps.toList:=by
 have lit:∀{z:af},z.cps.toList.contains 10=false->¬10∈z.cps.toList:=λh m=>by rw[dW.mpr m]at h;cases h
 have sp:∀{z:af},yx z->¬10∈z.cps.toList:=λh=>Gz ∅ h;have pt:∀{i:Int},YM i->¬10∈(toString i:af).cps.toList:=λh=>QG (.inl ∅) h.1;have am:∀{i:Int},Vd i->¬10∈(toString i:af).cps.toList:=λh=>QG (.inl ∅) h.1
 induction g with
 |pln p=>
  intro z hz
  cases p with
  |flat hn ha=>
   simp only[qK,CJ,CV,or_false]at hz;rcases hz with rfl |rfl |rfl
   ·exact lit ⋯
   ·exact sp hn
   ·exact am ha
  |share hn hp hw=>
   simp only[qK,CJ,CV,or_false]at hz;rcases hz with rfl |rfl |rfl |rfl
   ·exact lit ⋯
   ·exact sp hn
   ·exact pt hp
   ·exact kj hw
  |capped hn hp ha hw=>
   simp only[qK,CJ,CV,or_false]at hz;rcases hz with rfl |rfl |rfl |rfl |rfl
   ·exact lit ⋯
   ·exact sp hn
   ·exact pt hp
   ·exact am ha
   ·exact kj hw
  |least hn hp ha hw=>
   simp only[qK,CJ,CV,or_false]at hz;rcases hz with rfl |rfl |rfl |rfl |rfl
   ·exact lit ⋯
   ·exact sp hn
   ·exact pt hp
   ·exact am ha
   ·exact kj hw
 |bands hn ok hw=>
  intro z hz;simp only[qK,CJ,CV,or_false]at hz;rcases hz with rfl |rfl |rfl |rfl
  ·exact lit ⋯
  ·exact sp hn
  ·exact ph ok
  ·exact kj hw
 |ontop hn hp hw _ ih=>
  intro z hz;rcases CQ.mp hz with hz |hz
  ·simp only[CJ,CV,or_false]at hz;rcases hz with rfl |rfl |rfl |rfl |rfl
   ·exact lit ⋯
   ·exact sp hn
   ·exact pt hp
   ·exact kj hw
   ·exact lit ⋯
  ·exact ih z hz
theorem Lv {d:Nat}{r:Rk}(g:Gd d r):¬10∈(q8 r).cps.toList:=by
 obtain⟨w,ws,e,_⟩:=wB r;have no:=XS g;rw[wk,e,RM,qu];rw[e]at no;intro m;rcases CQ.mp m with m |m
 ·exact no _ CU m
 ·obtain⟨l,hl,m⟩:=DU.mp m;obtain⟨v,hv,rfl⟩:=CK.mp hl;obtain⟨u,hu,rfl⟩:=CK.mp hv;rcases CJ.mp m with m |m
  ·exact K7 m ∅
  ·exact no u (C6 _ hu) m
theorem GX (r:Rk):∃c l,(q8 r).cps.toList=c::l/\c≠121:=by
 have hw:∃c m ws,qK r=⟨⟨c::m⟩⟩::ws/\c≠121:=by
  cases r with
  |flat n a=>exact⟨102,[108,97,116],[n,(toString a:af)],by unfold qK;rw[show("flat":af)=⟨⟨102::[108,97,116]⟩⟩ by decide+kernel],∅⟩
  |share n p w=>exact⟨115,[104,97,114,101],[n,(toString p:af),w],by unfold qK;rw[show("share":af)=⟨⟨115::[104,97,114,101]⟩⟩ by decide+kernel],∅⟩
  |capped n p m w=>exact⟨99,[97,112,112,101,100],[n,(toString p:af),(toString m:af),w],by unfold qK;rw[show("capped":af)=⟨⟨99::[97,112,112,101,100]⟩⟩ by decide+kernel],∅⟩
  |least n p l w=>exact⟨108,[101,97,115,116],[n,(toString p:af),(toString l:af),w],by unfold qK;rw[show("least":af)=⟨⟨108::[101,97,115,116]⟩⟩ by decide+kernel],∅⟩
  |bands n ps w=>exact⟨98,[97,110,100,115],[n,vx ps,w],by unfold qK;rw[show("bands":af)=⟨⟨98::[97,110,100,115]⟩⟩ by decide+kernel],∅⟩
  |ontop n p w r=>exact⟨111,[110,116,111,112],[n,(toString p:af),w,("of":af)]++qK r,by rw[qK,show("ontop":af)=⟨⟨111::[110,116,111,112]⟩⟩ by decide+kernel];rfl,∅⟩
 obtain⟨c,m,ws,e,hc⟩:=hw;rw[wk,e,RM,qu];exact⟨c,_,U,hc⟩
theorem NZ (r:Rk):wX (q8 r)=false:=by
 obtain⟨c,l,e,hc⟩:=GX r;unfold wX;rw[vO,WV,e,D',dO];intro z;injection z with z _;exact hc z
def ur (ps:List (Int×List af))(row:af):List (Int×List af):=if wX row=true then ps++[(Yq row,[])] else match ps.getLast? with
 |none=>ps
 |some p=>ps.dropLast++[(p.1,p.2++[row])]
theorem vZ {ps:List (Int×List af)}(h:wX row=true):ur ps row=ps++[(Yq row,[])]:=by
 unfold ur;exact K6 h
theorem Qc {ps:List (Int×List af)}{p:Int×List af}(h:wX row=false):ur (ps++[p]) row=ps++[(p.1,p.2++[row])]:=by
 unfold ur;rw[K5 (by rw[h];decide),Fs,List.dropLast_concat]
def vc (es:List (Int×List Rk)):List af:=(es.map λe=>YG e.1::e.2.map q8).flatten
def xC (es:List (Int×List Rk)):af:=aG "\n" (vc es)
def Uz (es:List (Int×List Rk)):Prop:=∀e∈es,0<=e.1/\e.1<=9999/\Qn e.2
theorem oW (rs:List Rk)(ps:List (Int×List af))(p:Int×List af):(rs.map q8).foldl ur (ps++[p])=ps++[(p.1,p.2++rs.map q8)]:=by
 induction rs generalizing p with
 |nil=>rw[d8,ET,dF]
 |cons r rs ih=>
  rw[dv,De,Qc (NZ r),ih,dU];rfl
theorem NN {es:List (Int×List Rk)}(ok:Uz es)(ps:List (Int×List af)):(vc es).foldl ur ps=ps++es.map λe=>(e.1,e.2.map q8):=by
 induction es generalizing ps with
 |nil=>exact(dF _).symm
 |cons e es ih=>
  have h:=ok e CU;have hh:=Li h.1 h.2.1;show((YG e.1::e.2.map q8)++vc es).foldl ur ps=_;rw[eg,De,vZ hh.1,hh.2,oW,ih λe he=>ok e (C6 _ he),dU];rfl
theorem rE:("\n":af)=⟨#[10]⟩:=⋯
theorem Rj {es:List (Int×List Rk)}(ok:Uz es):∀z∈vc es,¬10∈z.cps.toList:=λz hz=>by
 obtain⟨l,hl,hz⟩:=DU.mp hz;obtain⟨e,he,rfl⟩:=CK.mp hl;rcases CJ.mp hz with rfl |hz
 ·exact MN (ok e he).1
 ·obtain⟨r,hr,rfl⟩:=CK.mp hz;exact Lv ((ok e he).2.2.gd r hr)
theorem Mv {es:List (Int×List Rk)}(ok:Uz es):(vc es).length<=9*es.length:=by
 induction es with
 |nil=>exact CI _
 |cons e es ih=>
  have h:=(ok e CU).2.2.few;have:=ih λe he=>ok e (C6 _ he);show((YG e.1::e.2.map q8)++vc es).length<=_;rw[CS,dz,CH,dz];lia
theorem m8 {es:List (Int×List Rk)}(ok:Uz es):∀z∈vc es,z.length<=2000:=λz hz=>by
 obtain⟨l,hl,hz⟩:=DU.mp hz;obtain⟨e,he,rfl⟩:=CK.mp hl;rcases CJ.mp hz with rfl |hz
 ·rw[Xy (ok e he).1 (ok e he).2.1];decide
 ·obtain⟨r,hr,rfl⟩:=CK.mp hz;exact CW (kC ((ok e he).2.2.gd r hr)) ∅
theorem xm {e:Int×List Rk}{es:List (Int×List Rk)}(ok:Uz (e::es)):av (xC (e::es)) "\n" = vc (e::es)/\1<=(xC (e::es)).length/\aZ (xC (e::es)) (fk (xC (e::es)) ⟨#[10]⟩ 0 (xC (e::es)).length ((xC (e::es)).length+1)) 1=vc (e::es):=by
 have no:=Rj ok;have e1:vc (e::es)=YG e.1::(e.2.map q8++vc es):=rfl
 have l1:1<=(aG ⟨#[10]⟩ (YG e.1::(e.2.map q8++vc es))).length:=by
  rw[zI,qu,CS];have:=Xy (ok e CU).1 (ok e CU).2.1;rw[zI]at this;lia
 unfold xC;rw[e1]at no ⊢;rw[rE];have sj:=we (c:=10) (w:=YG e.1) (ws:=e.2.map q8++vc es) (GG ∅) (no _ CU) (λv hv=>no v (C6 _ hv)) l1;exact⟨sj.1,l1,sj.2⟩
abbrev Pq:=ag×Int×ag×List af
structure OV (H:Hp)(p:ag)(qs:List Pq):Prop where
 at_:H p=some (.lst (qs.map λq=>.ref q.1))
 tp:∀q∈qs,H q.1=some (.tup [.int q.2.1,.ref q.2.2.1])
 ls:∀q∈qs,H q.2.2.1=some (.lst (q.2.2.2.map V.str))
 nd:(qs.map λq=>q.2.2.1).Nodup
 np:∀q∈qs,q.2.2.1≠p
def qD (q:Pq):Int×List af:=(q.2.1,q.2.2.2)
theorem OV.same {qs:List Pq}(h:OV H p qs)(s:zk H H'):OV H' p qs:=⟨s _ _ h.at_,λq hq=>s _ _ (h.tp q hq),λq hq=>s _ _ (h.ls q hq),h.nd,h.np⟩
theorem OV.new {l tp:ag}{qs:List Pq}(h:OV H p qs)(s1:zk H H1)(l0:H l=none)(e1:H1 l=some (.lst []))(s2:zk H1 H2)(e2:H2 tp=some (.tup [.int Y,.ref l])):OV (upd H2 p (.lst ((qs.map λq=>V.ref q.1)++[.ref tp]))) p (qs++[(tp,Y,l,[])]):=by
 have h2:=h.same (s1.trans s2);have k:∀b ox,H2 b=some ox->b≠p->(upd H2 p (.lst ((qs.map λq=>V.ref q.1)++[.ref tp]))) b=some ox:=λb ox hb n=>by rw[zm n];exact hb
 have lp:l≠p:=(zC h.at_ l0).symm;refine⟨by rw[zi,CN];rfl,λq hq=>?_,λq hq=>?_,?_,λq hq=>?_⟩
 ·rcases CQ.mp hq with hq |hq
  ·exact k _ _ (h2.tp q hq) (yy (h2.tp q hq) h2.at_ (by intro z;cases z))
  ·rw[CY.mp hq];exact k _ _ e2 (yy e2 h2.at_ (by intro z;cases z))
 ·rcases CQ.mp hq with hq |hq
  ·exact k _ _ (h2.ls q hq) (h.np q hq)
  ·rw[CY.mp hq];exact k _ _ (s2 _ _ e1) lp
 ·rw[CN];refine DO.mpr ⟨h.nd,Da.mpr ⟨(λz=>nomatch z),Df⟩,λa ha b hb e=>?_⟩;obtain⟨q,hq,rfl⟩:=CK.mp ha;rw[dv,d8,CY]at hb;exact zC (h.ls q hq) l0 (e.trans hb)
 ·rcases CQ.mp hq with hq |hq
  ·exact h.np q hq
  ·rw[CY.mp hq];exact lp
theorem OV.more {qs:List Pq}{q:Pq}(h:OV H p (qs++[q])):OV (upd H q.2.2.1 (.lst (q.2.2.2.map V.str++[.str z]))) p (qs++[(q.1,q.2.1,q.2.2.1,q.2.2.2++[z])]):=by
 have mq:q∈qs++[q]:=CQ.mpr (.inr CU);have k:∀b ox,H b=some ox->b≠q.2.2.1->(upd H q.2.2.1 (.lst (q.2.2.2.map V.str++[.str z]))) b=some ox:=λb ox hb n=>by rw[zm n];exact hb
 have nd:=h.nd;rw[CN]at nd;have dis:=(DO.mp nd).2.2;refine⟨?_,λx hx=>?_,λx hx=>?_,?_,λx hx=>?_⟩
 ·rw[k _ _ h.at_ (λe=>h.np q mq e.symm),CN,CN];rfl
 ·have:x.1=q.1/\x.2.1=q.2.1/\x.2.2.1=q.2.2.1∨x∈qs:=by
   rcases CQ.mp hx with hx |hx
   ·exact .inr hx
   ·rw[CY.mp hx];exact .inl ⟨U,U,U⟩
  rcases this with⟨e1,e2,e3⟩ |hx
  ·rw[e1,e2,e3];exact k _ _ (h.tp q mq) (yy (h.tp q mq) (h.ls q mq) (by intro z;cases z))
  ·have hx':x∈qs++[q]:=CQ.mpr (.inl hx);exact k _ _ (h.tp x hx') (yy (h.tp x hx') (h.ls q mq) (by intro z;cases z))
 ·rcases CQ.mp hx with hx |hx
  ·exact k _ _ (h.ls x (CQ.mpr (.inl hx))) (dis _ (CK.mpr ⟨x,hx,U⟩) _ (CK.mpr ⟨q,CU,U⟩))
  ·rw[CY.mp hx];show upd H q.2.2.1 _ q.2.2.1=_;rw[zi,CN];rfl
 ·rw[CN];exact nd
 ·rcases CQ.mp hx with hx |hx
  ·exact h.np x (CQ.mpr (.inl hx))
  ·rw[CY.mp hx];exact h.np q mq
theorem Zs (z:af):(fC z (some 5) none).cps.toList=z.cps.toList.drop 5:=by
 rw[uD];unfold W9;have e:HT.Yj z.cps.toList.length 0 (some 5)=min 5 z.cps.toList.length:=HT.wg _ _ 5;rw[e,HT.kH]
 by_cases h:5<=z.cps.toList.length
 ·rw[Dl h];exact Do (by rw[Dj];lia)
 ·rw[ee (by lia),E8 (CI _),E8 (by lia),List.take_nil]
theorem Ga {bs:List Be}{rs:List Rk}(h:∀b∈bs,b.1≠Y):vF bs Y a rs=bs++[(Y,a,rs)]:=by
 unfold vF;refine K5 λz=>?_;obtain⟨b,hb,e⟩:=ES.mp z;exact h b hb (G' e)
theorem GY {qs:List Pq}(h:OV H p qs):yN H (qs.map λq=>V.ref q.1) qs (λH v q=>v=.ref q.1/\H q.1=some (.tup [.int q.2.1,.ref q.2.2.1])):=⟨CH _,λi y e=>by
 rw[CO]at e;obtain⟨q,hq,rfl⟩:=C8.mp e;exact⟨q,hq,λH' s=>⟨U,s _ _ (h.tp q (dG hq))⟩⟩⟩
inductive xO (vs:List V)(H:Hp)(Q:VK)(_:XK):Prop|mk(z:_)(_:vs=[.str z])(_:z.length<=2000000)(_:∀H',zk H H'->Q (.bl (wX z)) H')
end Pg
namespace K12
open PySem PySem.NumText L2 Pg
seal PE PA PT PW PS y8 PG j5 PI jQ PO PK
section
variable {K:BFr}{mg:af->Option ae}
theorem RA (F:qU K "is_head" "is_head" (top 78) f fd)(G:vh mg)(N1:Pg.r8 mg "HEAD" "year ")(C1:qX P w K mg base zY 1 "are_figures" ["text"] YJ):zL P w K mg base zY 2 f fd ["row"] xO:=by
 obtain⟨tm,hm⟩:=N1;refine F.ok (N:=["row"]) ?_ ?_ ?_;walk_at"t"
 ·obtain⟨z,rfl,_⟩:=h;rfl
 ·obtain⟨z,rfl,zl,q⟩:=h;refine⟨_,(zh (zt (je (qH aq sU sV Zo (pv 0) (za (zQ (v:=.str "year ") U hm ⟨_,U⟩) zd)) (je (qS qw (zv qi U G.len aH (za (pv 0) zd)) (zu qo (zv qi U G.len aH (za (zQ (v:=.str "year ") U hm ⟨_,U⟩) zd)) ze) (zD _)) (jA (zq C1 hr ∅ zA (za (z8 vf (pv 0) (qm (zv qi U G.len aH (za (zQ (v:=.str "year ") U hm ⟨_,U⟩) zd))) qA) zd))))))),?_⟩;have l5:("year ":af).length=5:=⋯
  refine⟨_,U,U,_,_,U,U,_,U,qg (λe=>?_) (λe=>?_)⟩
  ·refine⟨_,U,z,U,by rw[ai];lia,_,U,by rw[l5,ai];decide,_,_,U,U,U,_,U,qg (λe9=>?_) (λe9=>?_)⟩
   ·have z9:z.length=9:=by
     have:=V.int.inj (G' e9);rw[l5]at this;lia
    have sl:(fC z (some 5) none).length<=4000000:=by
     rw[zI,Zs,Dj];rw[zI]at z9;lia
    refine⟨_,U,_,U,by rw[l5,ai];decide,_,U,z,U,by rw[ai];lia,_,U,by rw[l5];exact sl,λH' s'=>?_⟩;rw[l5];have:=q H' s';unfold wX at this;rw[e,i' z9]at this;rw[show((5:Nat):Int)=5 from U,Zs];exact this
   ·have:=q H (zk.refl _);unfold wX at this;rw[D' (λc=>e9 (i' (by rw[c,l5];rfl))),dO,dQ]at this;exact this
  ·have:=q H (zk.refl _);unfold wX at this;rw[dI.mpr e,dO]at this;exact this
end
end K12
namespace L2
open PySem PySem.Spec PyProof.Rows
end L2
namespace Pg
open PySem PySem.NumText L2 Builtin Builtin.Str
theorem Gm (h9:Y<=9999):(dg Y.toNat).length<=4:=u9 ∅ (by lia)
theorem RL (h:0<=Y)(h9:Y<=9999):("year ":af)++jx "0" (4-((toString Y:af).length:Nat))++(toString Y:af)=YG Y:=by
 have l4:=Gm h9;apply QD;rw[uZ h,qW,qW,WV,jK h,zI,jK h,dU]
 congr 1
 unfold jx uK;have e0:("0":af)=⟨#[48]⟩:=⋯
 rw[e0,show(4-(((dg Y.toNat).length:Nat):Int)).toNat=4-(dg Y.toNat).length by lia]
 congr 1
 generalize 4-(dg Y.toNat).length=n
 simp
theorem Zx (z:af)(n:Int):(jx z n).length=n.toNat*z.length:=by
 rw[zI];unfold jx;rw[zI z];show((aW n.toNat z.cps.toList).flatten).length=_;rw[List.length_flatten,EN,List.sum_replicate_nat]
theorem Qj (a b:List (Int×List Rk)):vc (a++b)=vc a++vc b:=by
 unfold vc;rw[CN,Ex]
theorem VW (e:Int×List Rk):vc [e]=YG e.1::e.2.map q8:=by
 unfold vc
 simp
end Pg
namespace L2
open PySem PySem.Spec PyProof.Rows PySem.SeqAt
open AutoSeq1 (wpAny_loadPart')
end L2
namespace Pg
open PySem L2
section
variable {K:BFr}
end
open PySem.NumText Builtin Builtin.Str
theorem jm {k:Nat}{r:Int}(h:yi k z=some r):z=toString r:=by
 unfold yi at h
 split at h
 case isFalse=>cases h
 case isTrue c=>
  cases h;exact kP ((VE U c.2).trans (j9 _).symm)
theorem xy (c:Nat):∀(ws:List af) (w:af),(Str.join ⟨#[c]⟩ (w::ws)).cps.toList=w.cps.toList++((ws.map λp=>p.cps.toList).map λv=>c::v).flatten:=by
 intro ws
 induction ws with
 |nil=>exactλw=>(dF _).symm
 |cons x r ih=>
  intro w;show(w++(⟨#[c]⟩:af)++Str.join ⟨#[c]⟩ (x::r)).cps.toList=_;rw[qW,qW,ih x,dU];rfl
theorem ku (z:af)(c:Nat):aG ⟨#[c]⟩ (av z ⟨#[c]⟩)=z:=by
 obtain⟨_,_,w,ws,e⟩:=yg z ⟨#[c]⟩;have h:=StrLaws.join_split z ⟨#[c]⟩;rw[e]at h ⊢;refine Eq.trans (kP ?_) h;rw[qu,xy]
theorem Xn (h:jf ws=some ps):ws.map yK=ps.map some:=by
 unfold jf at h
 split at h
 case isFalse=>cases h
 case isTrue c=>
  cases h;obtain⟨qs,e⟩:=VD c;rw[e,Hj]
  congr 1
  exact(FN).symm
theorem OO {w:af}(h:yK w=some q):w=yU q:=by
 unfold yK at h
 split at h
 ·rename_i a b e
  cases ha:yi 13 a with
  |none=>rw[ha]at h;cases h
  |some x=>
   cases hb:yi 13 b with
   |none=>rw[ha,hb]at h;cases h
   |some y=>
    rw[ha,hb]at h;cases h;have:=ku w 58;rw[<- BW,e,jm ha,jm hb]at this;rw[Jm,<- BW];exact this.symm
 ·cases h
theorem ma {a:af}(h:jf (av a ",")=some ps):a=vx ps:=by
 have e:=Xn h
 have:av a "," = ps.map yU:=by
  refine DP λi=>?_;have ei:=K4 (λl=>l[i]?) e;have ei:((av a ",").map yK)[i]? = (ps.map some)[i]?:=ei;rw[CO,CO]at ei;rw[CO]
  cases h1:(av a ",")[i]? with
  |none=>
   cases h2:ps[i]? with
   |none=>rfl
   |some q=>rw[h1,h2]at ei;cases ei
  |some w=>
   cases h2:ps[i]? with
   |none=>rw[h1,h2]at ei;cases ei
   |some q=>
    rw[h1,h2]at ei;have ei:some (yK w)=some (some q):=ei;show some w=some (yU q);rw[OO (ao ei)]
 have j:=ku a 44;rw[<- TQ,this]at j;exact j.symm
theorem Wh {R:Rk}(h:jy ws=some R):qK R=ws:=by
 unfold jy at h
 split at h
 ·rename_i k n a
  split at h
  ·rename_i ek;subst ek;obtain⟨r,er,eb,rfl⟩:=yz (c:=λr=>yT n&&uL r) (g:=λr=>Rk.flat n r) h;rw[jm er];rfl
  ·cases h
 ·rename_i k n a w
  split at h
  ·rename_i ek;subst ek;obtain⟨r,er,eb,rfl⟩:=yz (c:=λp=>yT n&&(vH p&&wayL.contains w)) (g:=λp=>Rk.share n p w) h;rw[jm er];rfl
  ·split at h
   ·rename_i ek;subst ek;obtain⟨r,er,eb,rfl⟩:=yz (c:=λps=>yT n&&(JB (Jx ps)&&wayL.contains w)) (g:=λps=>Rk.bands n ps w) h;rw[ma er];rfl
   ·cases h
 ·rename_i k n a b w
  split at h
  ·rename_i ek;subst ek;obtain⟨p,m,er,em,eb,rfl⟩:=uy (c:=λp m=>yT n&&((vH p&&wayL.contains w)&&uL m)) (g:=λp m=>Rk.capped n p m w) h;rw[jm er,jm em];rfl
  ·split at h
   ·rename_i ek;subst ek;obtain⟨p,m,er,em,eb,rfl⟩:=uy (c:=λp m=>yT n&&((vH p&&wayL.contains w)&&uL m)) (g:=λp m=>Rk.least n p m w) h;rw[jm er,jm em];rfl
   ·cases h
 ·cases h
theorem xS:∀{d:Nat} {ws:List af} {R:Rk},wQ d ws=some R->qK R=ws:=by
 intro d
 induction d with
 |zero=>
  intro ws R h
  cases e:uC ws with
  |false=>rw[jV 0 e]at h;exact Wh h
  |true=>
   obtain⟨n,a,w,x,r',rfl⟩:=Jw e;rw[QC]at h;cases h
 |succ d ih=>
  intro ws R h
  cases e:uC ws with
  |false=>rw[jV _ e]at h;exact Wh h
  |true=>
   obtain⟨n,a,w,x,r',rfl⟩:=Jw e;rw[Je]at h
   cases e2:wQ d (x::r') with
   |none=>rw[e2]at h;cases h
   |some r2=>
    rw[e2]at h;obtain⟨p,er,eb,rfl⟩:=yz (c:=λp=>yT n&&(vH p&&wayL.contains w)) (g:=λp=>Rk.ontop n p w r2) h;show [("ontop":af),n,(toString p:af),w,("of":af)]++qK r2=_;rw[ih e2,jm er];rfl
theorem Ww {R:Rk}(h:wQ 3 (av z " ")=some R):q8 R=z:=by
 rw[wk,xS h];rw[RM];exact ku z 32
theorem rH {A:Prop}(h:B):if (!decide (V.str x=V.str x))=true then A else B:=by
 rw[i' rfl];exact qM h
def yd (zs:List af):Nat:=(zs.map λz=>z.length+1).sum
theorem uV (a b:List af):yd (a++b)=yd a+yd b:=by
 unfold yd;rw[CN,List.sum_append_nat]
theorem Lw (ws:List af)(i j:Nat):yd ((ws.drop i).take j)<=yd ws:=by
 have h1:yd ws=yd (ws.take i)+yd (ws.drop i):=by rw[<- uV,DE]
 have h2:yd (ws.drop i)=yd ((ws.drop i).take j)+yd ((ws.drop i).drop j):=by rw[<- uV,DE]
 lia
theorem QT (h:yd zs<=10000000):AU ⟨#[c]⟩ zs=true/\(aG ⟨#[c]⟩ zs).length<=yd zs:=by
 have Sj:∀(zs:List af) (k:Nat),zs.foldl (λa z=>a+z.length+(⟨#[c]⟩:af).length) k=k+yd zs:=by
  intro zs
  induction zs with
  |nil=>exactλk=>rfl
  |cons z r ih=>
   intro k;rw[De,ih];show k+z.length+1+yd r=k+(z.length+1+yd r);lia
 constructor
 ·unfold AU sQ;rw[Hg,Ds,decide_eq_false_iff_not,ai];rw[Sj];lia
 ·cases zs with
  |nil=>exact du _
  |cons w ws=>
   rw[zI,qu,CS,<- zI]
   have:∀ws:List af,((ws.map λp=>p.cps.toList).map λv=>c::v).flatten.length=yd ws:=by
    intro ws
    induction ws with
    |nil=>rfl
    |cons v r ih=>
     rw[dv,dv,eZ,CS,ih];show v.cps.toList.length+1+yd r=v.length+1+yd r;rw[<- zI]
   rw[this];show w.length+yd ws<=w.length+1+yd ws;lia
theorem wF (z:af)(c:Nat):yd (av z ⟨#[c]⟩)=z.length+1:=by
 obtain⟨_,_,w,ws,e⟩:=yg z ⟨#[c]⟩;have h:=ku z c;rw[e]at h ⊢
 have:∀ws:List af,((ws.map λp=>p.cps.toList).map λv=>c::v).flatten.length=yd ws:=by
  intro ws
  induction ws with
  |nil=>rfl
  |cons v r ih=>
   rw[dv,dv,eZ,CS,ih];show v.cps.toList.length+1+yd r=v.length+1+yd r;rw[<- zI]
 have l:=K4 Str.length h;rw[zI,qu,CS,<- zI,this]at l;show w.length+1+yd ws=z.length+1;lia
theorem Wy (ws:List af)(lo hi:Option Int):∃us:List af,jR (ws.map V.str) lo hi=us.map V.str/\yd us<=yd ws/\us.length<=ws.length:=by
 unfold jR;refine⟨(ws.drop _).take _,by rw[List.map_take,List.map_drop],Lw _ _ _,?_⟩;rw[dH,Dj];lia
theorem lY (v:af):yd [v]=v.length+1:=rfl
theorem uQ (ws:List af):ws.length<=yd ws:=by
 induction ws with
 |nil=>exact du _
 |cons x r ih=>
  show r.length+1<=x.length+1+yd r;lia
theorem We (ps:List af):yd (ps.map λp=>p++(",":af)++p)=2*yd ps:=by
 induction ps with
 |nil=>rfl
 |cons x r ih=>
  show(x++(",":af)++x).length+1+yd (r.map λp=>p++(",":af)++p)=2*(x.length+1+yd r);rw[ih,yn,yn,show(",":af).length=1 by decide+kernel];lia
inductive JX (vs:List V)(H:Hp)(Q:VK)(_:XK):Prop|mk(z n:_)(_:vs=[.str z,.int n])(_:z.length<=450000)(_:0<=n)(_:∀x H',x.length<=4*z.length+20->zk H H'->Q (.str x) H')
end Pg
namespace SG
open PySem PyProof.Rows
variable [Rk]
theorem VL:∀(f n r:Nat),minRun' f n r<=n+r
 |0,n,r=>CI _
 |f+1,n,r=>by
  rw[minRun'_succ]
  by_cases h:n<64
  ·rw[K6 h];exact CI _
  ·rw[K5 h];have:=VL f (n/2) (max r (n%2));lia
theorem NW {st:Aq}{Q:Unit->Aq->Prop}(hk:cu prog w A s b₀)(hB:Jb b₀ st)(h0:(ip st).toList=b₀.toList)(h2:2<=b₀.size)(up:Up b₀.toList)(K_:∀M',AE M'=none->(ip M').toList=b₀.toList->Q () M'):wpS (aA prog w) A E s sortRuns' Q st:=by
 have sv:ki (ip st) b₀.size:=by
  have:=bI (xs:=ip st) (l:=b₀.toList) (r:=[]) (by rw[h0,dF]) up
  rwa [Bh]at this
 have cnt:∀{Q:Option Nat->Aq->Prop},Q (some b₀.size) st->wpS (aA prog w) A E s (countRun' 0 b₀.size) Q st:=λ{Q} q=>by
  rw[countRun0_eq]
  refine iB (WT hk (CI _) (CI 1) (by lia) hB (λi j a b=>by
   obtain rfl:i=j:=by lia
   exact DA _) λn a1 a2 _ stop=>?_)
  have nN:n=b₀.size:=by
   rcases stop with h |c
   ·exact h
   ·by_cases e:n<b₀.size
    ·exact K7 (sv (n-1) n (by lia) e) (Int.not_le.mpr c)
    ·lia
  subst nN;dsimp only;rw[K6 (by simp)];exact p_ q
 have mr:¬b₀.size<minRun' b₀.size b₀.size 0:=Eg.mpr (VL _ _ _);rw[sortRuns'_eq];refine iB (IL ?_);dsimp only;simp only[hB.size]
 refine iB (wpS_mono (Hq
  (I:=λx c M'=>(x=0/\c=(none,0)/\M'=st)∨(1<=x/\c=(none,b₀.size)/\AE M'=none/\FC M' = #[(0,b₀.size,0)]/\(ip M').toList=b₀.toList)) (Q:=λc M'=>c=(none,b₀.size)/\AE M'=none/\FC M' = #[(0,b₀.size,0)]/\(ip M').toList=b₀.toList) ?turn ?done (.inl ⟨U,U,U⟩)) ?after)
 case done=>
  rintro c M' (⟨z,_⟩ |⟨_,z⟩)
  ·lia
  ·exact z
 case turn=>
  rintro x c M' _ hx (⟨rfl,rfl,rfl⟩ |⟨x1,rfl,z⟩)
  ·dsimp only;rw[K5 (by lia)];simp only[Es,DV];refine iB (cnt ?_);dsimp only;rw[K5 mr];refine iB (IL ?_);rw[show(FC M').back?=none by rw[hB.pend];rfl];dsimp only;exact iB (wpS_modify (p_ (.inr ⟨by lia,U,hB.failed,by show(FC M').push _=_;rw[hB.pend];rfl,h0⟩)))
  ·dsimp only;rw[K6 (CI _)];exact p_ ⟨U,z⟩
 case after=>
  rintro c M' ⟨rfl,z1,z2,z3⟩;dsimp only;refine iB (wpS_mono (Hq (I:=λ_ c Sl=>Sl=M'/\c=(none,())) (Q:=λc Sl=>Sl=M'/\c=(none,())) ?_ (λ_ _ q=>q) ⟨U,U⟩) ?_)
  ·rintro x c Sl _ _ ⟨rfl,rfl⟩;refine iB (IL ?_);rw[K6 (by rw[z2];exact CI 1)];exact p_ ⟨U,U⟩
  ·rintro c Sl ⟨rfl,rfl⟩;exact p_ (K_ _ z1 z3)
end SG
namespace L2
open PySem PySem.Spec PyProof.Rows
section
variable {zs:List Int}{P:Fin->ar->Prop}
theorem nR {vs:List ae}(h:iP vs ns)(up:ns.Pairwise (·<=·)):vs.Pairwise (λx y=>numOf x<=numOf y):=by
 induction h with
 |nil=>exact .nil
 |cons x t r ih=>
  obtain⟨u1,u2⟩:=DD.mp up;refine DD.mpr ⟨λy hy=>?_,ih u2⟩
  have:∀{vs:List ae} {ns:List Int},iP vs ns->y∈vs->numOf y∈ns:=λ{vs ns} h=>by
   induction h with
   |nil=>exactλz=>nomatch z
   |cons x t _ ih=>
    intro z;rcases CJ.mp z with rfl |z
    ·exact CU
    ·exact C6 _ (ih z)
  exact u1 _ (this r hy)
theorem WA (I:zH X pins σ H s)(ha:s.heap.get? a=some (fZ "list" K8.toArray n))(fa:yL X pins H a)(hI:iP K8 zs)(up:zs.Pairwise (·<=·))(hz:K8.length<au)(h:∀s' c,zH X pins σ H s'->s'.heap.get? a=some (fZ "list" K8.toArray c)->P (.done (.ret .none)) s'):
  wpAny (aA X.prog X.w) A (Builtin.«list.sort» ⟨[.ref a],[]⟩) P E s:=by
 letI:SG.Rk:=SS.rk
 have u1:=iY s.heap a (fI λ_=>(#[]:Array ae));obtain⟨e1,g1⟩:∃e1,(s.heap.update a (fI λ_=>(#[]:Array ae))).get? a=some (fZ "list" #[] e1):=⟨_,IC ha λ_=>#[]⟩;have J1:=I.turn1 fa u1;have J2:=J1.kept (t':=s.toks) (h':=(s.heap.update a (fI λ_=>(#[]:Array ae))).push (fZ "tuple" K8.toArray 0)) λb o q=>dc _ q;have J3:=J2.kept (t':=s.toks) (h':=((s.heap.update a (fI λ_=>(#[]:Array ae))).push (fZ "tuple" K8.toArray 0)).push (fZ "list" #[] 0)) λb o q=>dc _ q;have g3:(((s.heap.update a (fI λ_=>(#[]:Array ae))).push (fZ "tuple" K8.toArray 0)).push (fZ "list" #[] 0)).get? a=some (fZ "list" #[] e1):=dc _ (dc _ g1);rw[list_sort_plain];refine aa (listItems_at ha U (aa (listUpdate_at ha U (aa (seqEpoch_at g1 U (aa (Kj (aa (As (d_ ?_) (du _))) (by show K8.length<=_;lia))))) (by rw[dh];lia) (du _))));dsimp only;have zl:(K8.zip K8).length=K8.length:=by rw[List.length_zip,Nat.min_self]
 have zp:(K8.toArray.zip K8.toArray).toList=K8.zip K8:=ksk_zip K8.toArray K8;have zs':(K8.toArray.zip K8.toArray).size=K8.length:=by rw[<- zl,<- zp,dJ]
 have K_:∀(st:Aq),(ip st).toList=K8.zip K8->AE st=none->wpAny (aA X.prog X.w) A (do
   let touched:=(<- seqEpoch a) != e1
   Builtin.List.listUpdate (.ref a) λ_=>(ip st).map (·.2)
   if let some e:=AE st then rule "list.sort.comparison-raised";throw e
   if touched then rule "list.sort.modified";raiseError "ValueError" "list modified during sort"
   ret .none) P E {s with heap:=((s.heap.update a (fI λ_=>(#[]:Array ae))).push (fZ "tuple" K8.toArray 0)).push (fZ "list" #[] 0)}:=λst e3 e2=>by
  have ez:((ip st).map (·.2))=K8.toArray:=by
   apply eG.mp;rw[Array.toList_map,e3];show(K8.zip K8).map Prod.snd=K8;rw[List.map_snd_zip];exact CI _
  have u3:=iY (((s.heap.update a (fI λ_=>(#[]:Array ae))).push (fZ "tuple" K8.toArray 0)).push (fZ "list" #[] 0)) a (fI λ_=>(ip st).map (·.2));have a3:=IC g3 λ_=>(ip st).map (·.2);refine aa (seqEpoch_at g3 U (aa (listUpdate_at g3 U ?_ (du _) (by rw[ez,dh];lia))));rw[e2];simp only[bne_self_eq_false,Dn,if_false];have a4:∃c,((((s.heap.update a (fI λ_=>(#[]:Array ae))).push (fZ "tuple" K8.toArray 0)).push (fZ "list" #[] 0)).update a (fI λ_=>(ip st).map (·.2))).get? a=some (fZ "list" K8.toArray c):=⟨_,a3.trans (K4 (λz=>some (fZ "list" z (if ((Array.map (λx=>x.snd) (ip st)).size==(#[]:Array ae).size)=true then e1 else e1+1))) ez)⟩;obtain⟨c,a4⟩:=a4;exact aj (h _ c (J3.turn1 fa u3) a4)
 by_cases h2:K8.toArray.size<2
 ·rw[K6 h2,K6 h2];refine aa (aj ?_);rw[StateT.run_pure];refine aa (aj ?_);exact K_ _ zp rfl
 ·rw[K5 h2,K5 h2];have h2':2<=K8.length:=by simpa using h2
  have hkk:keyKind' K8.toArray=pure oneType':=by
   match K8,h2',hI with
   |v1::v2::r,_,hI=>exact keyKind_ints hI
  rw[hkk];refine aa (aj ?_)
  have ik:∀p∈K8,∃n t,p=iC n t:=λp hp=>by
   have:∀{vs:List ae} {ns:List Int},iP vs ns->p∈vs->∃n t,p=iC n t:=λ{vs ns} h=>by
    induction h with
    |nil=>exactλz=>nomatch z
    |cons x t _ ih=>
     intro z;rcases CJ.mp z with rfl |z
     ·exact⟨_,_,U⟩
     ·exact ih z
   exact this hI hp
  have up2:SG.Up (K8.toArray.zip K8.toArray).toList:=by
   rw[zp];have hp:=nR hI up;refine DB.mpr λi j hi hj ij=>?_;rw[Io,Io];exact DB.mp hp i j (by rw[zl]at hi;exact hi) (by rw[zl]at hj;exact hj) ij
  refine aa (fh (SG.NW (b₀:=K8.toArray.zip K8.toArray) (st:=SortSt.mk' oneType' (K8.toArray.zip K8.toArray) #[] 7 none) (Q:=λ_ M'=>AE M'=none/\(ip M').toList=(K8.toArray.zip K8.toArray).toList) (λp hp q hq R E' h=>?_) ⟨.refl _,U,U,U⟩ U (by lia) up2 λM' z1 z2=>⟨z1,z2⟩) ?_ λ_ _ z=>z)
  ·rw[zp]at hp hq;obtain⟨n,t,e1⟩:=ik p.1 (DY hp).1;obtain⟨m,u,e2⟩:=ik q.1 (DY hq).1;have h:R (decide (numOf p.1<numOf q.1)) _:=h;show wpAny _ _ (keyLt' oneType' p.1 q.1) R E' _;rw[keyLt'_oneType,e1,e2];rw[e1,e2]at h;exact oneLt_int h
  rintro ⟨⟨⟩,M'⟩ s' ⟨rfl,z1,z2⟩;rw[zp]at z2;exact K_ M' z2 z1
end
inductive Pw (xs:List V)(H:Hp)(Q:VK):Prop|mk(d:ag)(kvs:List (yY×V))(ks:List Int)(_:xs=[.ref d])(_:Rd H d (.dK kvs))(_:kvs.map (·.1)=ks.map a_)(_:((ks.length<64/\∀zs:List Int,zs.Perm ks->zs.Pairwise (·<=·)->x8 H (.lst (zs.map V.int)) Q)∨(ks.Pairwise (·<=·)/\ks.length<au/\x8 H (.lst (ks.map V.int)) Q)))
theorem vY (L':X.calm=true):uH X (.builtin "sorted") Pw:=by
 intro pins s σ H xs us Q I r h;obtain⟨d,kvs,ks,rfl,hd,hk,h⟩:=h;rcases h with⟨h64,q⟩ |⟨up,hs,q⟩
 ·exact x9 L' pins s σ H _ us Q I r ⟨d,kvs,ks,U,hd,hk,h64,q⟩
 obtain⟨u,rfl,ru⟩:=kA r;cases ru;obtain⟨hz,hsm,vs,P',dd⟩:=JL I.hok hd;obtain⟨ep,hat⟩:=dd.dictAt
 have kl:kvs.length=ks.length:=by
  have:=K4 fJ hk
  rwa [CH,CH]at this
 have rl:ks.length=vs.length:=by rw[<- kl];exact iz P'
 refine iV Iv Ht Hv (Hw _) ?_;unfold Builtin.«sorted»;refine aa (m:=Kk "sorted" 1 1 _) (aj (aa (FO (A:=X.A.in1) (Im (knd:=q9 X.prog X.w) (kvs:=vs) (ep:=ep) hsm) (I.ok.hd L') hat (by rw[<- rl];lia) λh' tk L_ hk' hacc=>?_)));have al:L_.toList.length=vs.length:=(dJ).trans hacc.1
 have hI:iP L_.toList ks:=by
  refine WU (zs:=ks) (Qv (by rw[CH,al];exact rl) λi a b e1 e2=>?_);rw[CO]at e1;obtain⟨z,hz,rfl⟩:=C8.mp e1;obtain⟨k,x,k1,k2⟩:=hacc.2 i b (by rw[<- DQ];exact e2);obtain⟨pp,f1,f2,f3⟩:=QW P' k1;have g1:(kvs.map (·.1))[i]?=some pp.1:=by rw[CO,f1];rfl
  rw[hk,CO,hz]at g1;have g1:(a_ z:yY)=pp.1:=ao g1;have f2:pp.1=k:=f2;have g:=UW k2;rw[<- f2,<- g1]at g;exact g
 have I1:=I.kept (t':=tk) hk';generalize L_.toList=K8 at al hI;refine aa (As ?_ (by show K8.length<=_;lia));have J:=I1.kept (t':=tk) (h':=h'.push (fZ "list" K8.toArray 0)) λb o e=>dc _ e;have hn:H h'.objs.size=none:=I1.hok.fresh (CI _);have fa:=I1.fpOk (CI _) hn;refine aa (d_ (hV Ff ⟨_,dA _ U,U⟩ A0 ?body (Fg _)))
 case body=>
  refine WA (X:=X) (pins:=pins) (σ:=σ) (H:=H) J (dA _ U) fa hI up (by lia) λs' c J' hq=>⟨_,U,aj ⟨_,U,?_⟩⟩;exact⟨.ref _,_,J'.adopt fa hq (kU hI) (by rw[CH];lia),U,q.at hn⟩
end L2
namespace Pg
open PySem PySem.NumText L2 Builtin Builtin.Str
def jP (z:af)(es:List (Int×List Rk)):Prop:=z=xC es/\Uz es/\(es.map (·.1)).Pairwise (λx y:Int=>x<y)
def OY (z:af):Option Rk:=wQ 3 (av z " ")
def J8 (ws:List af):List (Int×List af):=ws.foldl ur []
def jY (ps:List (Int×List af)):List af:=(ps.map λp=>YG p.1::p.2).flatten
theorem cS (h4:l.length=4)(hd:vM l=true):uK 4 (dg (digitsVal l))=l/\digitsVal l<=9999:=by
 obtain⟨d1,d2⟩:=jO hd
 match l,h4 with
 |[a,b,c,e],_=>
  have ha:=d1 a (by simp);have hb:=d1 b (by simp);have hc:=d1 c (by simp);have he:=d1 e (by simp)
  have ev:digitsVal [a,b,c,e]=(((a-48)*10+(b-48))*10+(c-48))*10+(e-48):=by
   unfold digitsVal
   simp[List.foldl]
  refine⟨?_,by rw[ev];lia⟩
  have Sj:∀p q r t:Fin 10,uK 4 (dg ((((p.val)*10+(q.val))*10+(r.val))*10+(t.val)))=[48+p.val,48+q.val,48+r.val,48+t.val]:=by
   intro p q r t;have le:(dg ((((p.val)*10+(q.val))*10+(r.val))*10+(t.val))).length<=4:=u9 ∅ (by lia);have A:=ZC (k:=4) (vR ((((p.val)*10+(q.val))*10+(r.val))*10+(t.val)));have B:=pV 4 ((((p.val)*10+(q.val))*10+(r.val))*10+(t.val));have C:=Jg le;generalize uK 4 (dg ((((p.val)*10+(q.val))*10+(r.val))*10+(t.val)))=m at A B C
   match m,C with
   |[x,y,u,v],_=>
    have hx:=A x (by simp);have hy:=A y (by simp);have hu:=A u (by simp);have hv:=A v (by simp)
    have ev:digitsVal [x,y,u,v]=(((x-48)*10+(y-48))*10+(u-48))*10+(v-48):=by
     unfold digitsVal
     simp[List.foldl]
    rw[ev]at B;have e1:x=48+p.val:=by lia
    have e2:y=48+q.val:=by lia
    have e3:u=48+r.val:=by lia
    have e4:v=48+t.val:=by lia
    rw[e1,e2,e3,e4]
  have k:=Sj ⟨a-48,by lia⟩ ⟨b-48,by lia⟩ ⟨c-48,by lia⟩ ⟨e-48,by lia⟩;rw[ev];rw[show(48+(a-48))=a by lia,show(48+(b-48))=b by lia,show(48+(c-48))=c by lia,show(48+(e-48))=e by lia]at k;exact k
theorem UU (h:wX z=true):YG (Yq z)=z/\0<=Yq z/\Yq z<=9999:=by
 unfold wX at h;rw[CM,CM,vO,WV]at h;obtain⟨h1,h2,h3⟩:=h;have h1:z.cps.toList.take 5=[121,101,97,114,32]:=G' h1;have h2:z.length=9:=G' h2
 have l4:(z.cps.toList.drop 5).length=4:=by
  rw[Dj,<- zI,h2]
 obtain⟨p4,p9⟩:=cS l4 h3;have n0:0<=Yq z:=by unfold Yq;lia
 refine⟨?_,n0,by unfold Yq;lia⟩;apply QD;rw[uZ n0];have e:(Yq z).toNat=digitsVal (z.cps.toList.drop 5):=by unfold Yq;lia
 rw[e,p4,<- h1,DE]
theorem Qk (a b:List (Int×List af)):jY (a++b)=jY a++jY b:=by
 unfold jY;rw[CN,Ex]
theorem ZM (p:Int×List af):jY [p]=YG p.1::p.2:=by
 unfold jY
 simp
theorem xh {ps:List (Int×List af)}(h:wX row=true∨ps≠[]):jY (ur ps row)=jY ps++[row]/\ur ps row≠[]:=by
 by_cases hb:wX row=true
 ·rw[vZ hb,Qk,ZM,(UU hb).1];exact⟨U,by simp⟩
 ·obtain⟨qs,p,rfl⟩:∃qs p,ps=qs++[p]:=by
   have ne:=h.resolve_left hb;exact⟨ps.dropLast,ps.getLast ne,(Dq ne).symm⟩
  rw[Qc (dI.mpr hb),Qk,ZM,Qk,ZM,dU];exact⟨U,by simp⟩
theorem Og (ws:List af):∀ps:List (Int×List af),ps≠[]->jY (ws.foldl ur ps)=jY ps++ws:=by
 induction ws with
 |nil=>intro ps _;rw[ET,dF]
 |cons w r ih=>
  intro ps ne;have h:=xh (row:=w) (.inr ne);rw[De,ih _ h.2,h.1,dU];rfl
theorem kJ {w:af}(h:wX w=true):jY (J8 (w::r))=w::r:=by
 have h1:=xh (ps:=[]) (row:=w) (.inl h);unfold J8;rw[De,Og _ _ h1.2,h1.1];rfl
theorem Wn (ws:List af):∀ps:List (Int×List af),(∀p∈ps,0<=p.1/\p.1<=9999)->∀p∈ws.foldl ur ps,0<=p.1/\p.1<=9999:=by
 induction ws with
 |nil=>intro ps h;exact h
 |cons w r ih=>
  intro ps h;rw[De];refine ih _ λp hp=>?_
  by_cases hb:wX w=true
  ·rw[vZ hb]at hp;rcases CQ.mp hp with hp |hp
   ·exact h p hp
   ·rw[CY.mp hp];exact(UU hb).2
  ·unfold ur at hp;rw[K5 hb]at hp
   cases hl:ps.getLast? with
   |none=>rw[hl]at hp;exact h p hp
   |some q=>
    rw[hl]at hp;have mq:q∈ps:=List.mem_of_getLast? hl;rcases CQ.mp hp with hp |hp
    ·exact h p ((List.dropLast_sublist ps).subset hp)
    ·rw[CY.mp hp];exact h q mq
def Va (e:Int×List Rk):Int×List af:=(e.1,e.2.map q8)
theorem Ux (es:List (Int×List Rk)):jY (es.map Va)=vc es:=by
 unfold jY vc;rw[CP];rfl
theorem lF:xC [] = "":=by
 unfold xC vc;rfl
theorem JC:jP "" []:=⟨lF.symm,(λe h=>nomatch h),fX⟩
theorem Qt {es:List (Int×List Rk)}(h:jP "" es):es=[]:=by
 cases es with
 |nil=>rfl
 |cons e r=>
  have:=(xm h.2.1).2.1;rw[<- h.1]at this;exact K7 this ⋯
theorem jq {es:List (Int×List Rk)}(h:jP z es)(ne:z≠""):∃w r,av z "\n" = w::r/\wX w=true/\J8 (w::r)=es.map Va:=by
 cases es with
 |nil=>exact K7 (h.1.trans lF) ne
 |cons e r=>
  have hh:=h.2.1 e CU;refine⟨YG e.1,e.2.map q8++vc r,?_,(Li hh.1 hh.2.1).1,?_⟩
  ·rw[h.1];exact(xm h.2.1).1
  ·have:=NN h.2.1 [];rw[EK]at this;exact this
theorem Gk {w:af}{es:List (Int×List Rk)}(hs:av z "\n" = w::r)(hb:wX w=true)(hp:J8 (w::r)=es.map Va)(up:(es.map (·.1)).Pairwise (λx y:Int=>x<y))(ok:∀e∈es,Qn e.2):jP z es:=by
 refine⟨?_,λe he=>?_,up⟩
 ·have j:=ku z 10;rw[<- rE,hs]at j;rw[<- j,<- kJ hb,hp,Ux];rfl
 ·have m:Va e∈J8 (w::r):=by rw[hp];exact CK.mpr ⟨e,he,U⟩
  have:=Wn (w::r) [] (λp h=>nomatch h) _ m;exact⟨this.1,this.2,ok e he⟩
theorem pR {es fs:List (Int×List Rk)}(h:jP z es)(g:jP z fs):es=fs:=by
 by_cases ne:z = ""
 ·subst ne;rw[Qt h,Qt g]
 ·obtain⟨w,r,s1,_,p1⟩:=jq h ne;obtain⟨w',r',s2,_,p2⟩:=jq g ne;rw[s1]at s2;cases s2;rw[p1]at p2
  have gd:∀{es:List (Int×List Rk)},Uz es->(es.map Va).map (λp=>(p.1,p.2.map OY))=es.map λe=>(e.1,e.2.map some):=λ{es} ok=>by
   rw[CP];refine dY λe he=>?_;show(e.1,(e.2.map q8).map OY)=_;rw[CP]
   congr 1
   refine dY λq hq=>?_;exact ud ((ok e he).2.2.gd q hq)
  have e:=(gd h.2.1).symm.trans ((K4 (KR λp:Int×List af=>(p.1,p.2.map OY)) p2).trans (gd g.2.1))
  have inj:∀a b:Int×List Rk,(a.1,a.2.map some)=(b.1,b.2.map some)->a=b:=λa b h=>by
   have h1:a.1=b.1:=K4 (·.1) h;have h2:a.2.map some=b.2.map some:=K4 (·.2) h;have h3:a.2=b.2:=(eV λ_ _ h=>ao h).mp h2;exact Prod.ext h1 h3
  exact(eV inj).mp e
theorem Pk {l:List Int}(up:l.Pairwise (λx y:Int=>x<y)):∀lo:Int,(∀y∈l,lo<=y/\y<=9999)->(l.length:Int)<=10000-lo∨l=[]:=by
 induction l with
 |nil=>intro lo _;exact .inr rfl
 |cons a r ih=>
  intro lo h;obtain⟨u1,u2⟩:=DD.mp up;have ha:=h a CU;refine .inl ?_;rcases ih u2 (a+1) λy hy=>⟨by have:=u1 y hy;lia,(h y (C6 _ hy)).2⟩ with q |q
  ·rw[dz];lia
  ·rw[q];show((1:Nat):Int)<=_;lia
theorem xt {l:List Int}(up:l.Pairwise (λx y:Int=>x<y))(h:∀y∈l,0<=y/\y<=9999):l.length<=10000:=by
 rcases Pk up 0 h with q |q
 ·lia
 ·rw[q];exact du _
inductive V4 (cT:ag)(vs:List V)(H:Hp)(Q:VK)(E:XK):Prop|mk(l:ag)(ws:List af)(_:vs=[.ref l])(_:H l=some (.lst (ws.map V.str)))(_:ws.length<=2000002)(_:(∀z∈ws,z.length<=2000000))(_:∀H',zk H H'->((∀z,ws.head?=some z->wX z=true)->∀p qs,H p=none->OV H' p qs->qs.map qD=J8 ws->Q (.ref p) H')/\((∃z,ws.head?=some z/\wX z=false)->E (.ref cT) none H'))
inductive UO (K:BFr)(C cT:ag)(vs:List V)(H:Hp)(Q:VK)(E:XK):Prop|mk(v:_)(_:vs=[v])(_:((j4 K H v/\E (.ref cT) none H)∨∃z,v=.str z/\z.length<=2000000/\∀H',zk H H'->(∀es,jP z es->∀B dx t bs,H B=none->H t=none->(∀b∈bs,H b.2.1=none)->U6 C H' B dx t bs->bs.map yr=es->Q (.ref B) H')/\((∀es,¬jP z es)->E (.ref cT) none H')))
end Pg
namespace L2
open PySem PySem.Spec PyProof.Rows
theorem mm {C:CT}{K:BFr}{mg:af->Option ae}{E:XK}:
  KA (aA (u5 (GK C P w) P w K mg base N qual scope f cd A outer s H E).prog (u5 (GK C P w) P w K mg base N qual scope f cd A outer s H E).w) (u5 (GK C P w) P w K mg base N qual scope f cd A outer s H E).A (u5 (GK C P w) P w K mg base N qual scope f cd A outer s H E).env (u5 (GK C P w) P w K mg base N qual scope f cd A outer s H E).xe:=PassesOwn.leaving
theorem OP {C:CT}[ct:Zh C]{R:XK}(hs:X.stack=X.env::X.outer)(hf:X.env.frame=some X.env.locals):KA (aA (X.tr pn (ZY C X pn R)).prog (X.tr pn (ZY C X pn R)).w) (X.tr pn (ZY C X pn R)).A (X.tr pn (ZY C X pn R)).env (X.tr pn (ZY C X pn R)).xe:=by
 intro e s q;obtain⟨ea,cls,fl,σ,H,rfl,I,F,r⟩:=q;refine wq (X:=X.tr pn λ_ _=>True) (A:=X.A) I F hs hf I.ok.frames λs2 I2 F2=>?_;refine gS (X:=X.tr pn λ_ _=>True) (A:=X.A) (E:=ZY C X pn R) I2 F2.head hf λs3 I3 F3=>?_;exact⟨ea,cls,_,σ,H,U,I3,F3.fly,r⟩
end L2
namespace K12
open PySem PySem.NumText L2 Pg
seal PE PA PT PW PS y8 PG j5 PI jQ PO PK
section
variable {K:BFr}{mg:af->Option ae}
theorem nE (F:qU K "parts_of" "parts_of" (top 79) f fd)(G:vh mg)(N1:Pg.r8 mg "HEAD" "year ")(X:Er K mg "BadText" cT)(C1:qX P w K mg base zY 2 "is_head" ["row"] xO):zL P w K mg base (jS P w) 3 f fd ["rows"] (V4 cT):=by
 obtain⟨tm,hm⟩:=N1;have nd:(["rows","parts","row"]:List af).Nodup:=⋯
 refine F.okE (nS nd ?_) ?_ ?_;walk_at"t"
 ·obtain⟨l,ws,rfl,_⟩:=h;rfl
 ·obtain⟨l,ws,rfl,hl,wl,wt,q⟩:=h
  refine⟨_,(zg (zF (i:=1) nd U (ay U) (zM zd))
    (zg (ue mm U (ye (pv 0)) (zO (i:=2) nd U (ay U)) (zh (zK (qC (zq C1 hr ∅ zA (za (pv 2) zd))) (zh (z6 (qH aS e_ fc jJ (pv 1) (za (yM (za (zZ ja U G.int vV (za (z8 vf (pv 2) (qm (zv qi U G.len aH (za (zQ (v:=.str "year ") U hm ⟨_,U⟩) zd))) qA) zd)) (za (zM zd) zd))) zd)))) (zh (zK (zx qw (zv zJ U G.len aH (za (pv 1) zd)) ze (zD _)) (zh (qP qa U U X.at' X.ex (za zj zd))) (zh (z6 (qH aS e_ fc jJ (zE qT (zE zy (pv 1) (GO U2 ze)) ze) (za (pv 2) zd)))))))))
    (zh (zt (pv 1))))),?_⟩
  walk_at"d0"
  refine⟨zS U,λp H1 s1 p0 e1=>?_⟩;have hl1:=s1 _ _ hl;refine⟨_,U,l,U,⟨_,zN.of hl1⟩,u7 (K:=K) (a:=l) (xs:=ws.map V.str) (λi σ H'=>∃x2 qs,σ=[some (.ref l),some (.ref p),x2]/\zk H H'/\OV H' p qs/\qs.map qD=(ws.take i).foldl ur []/\qs.length<=i/\(∀q∈qs,H q.2.2.1=none)/\(∀q∈qs,q.2.2.2.length<=i)/\(1<=i->qs≠[]/\∀z,ws.head?=some z->wX z=true)) ⟨_,[],U,s1,⟨e1,(λq h=>nomatch h),(λq h=>nomatch h),Df,(λq h=>nomatch h)⟩,U,CI _,(λq h=>nomatch h),(λq h=>nomatch h),λz=>K7 z ∅⟩ (λi σ H' _ z=>?_) ?_ ?_⟩
  ·obtain⟨_,_,_,s',_⟩:=z;exact zN.of (s' _ _ hl)
  ·rintro i x σ H2 hx ⟨x2,qs,rfl,s2,PT,fo,ql,qf,qr,q1⟩ E2 k2;rw[CO]at hx;obtain⟨z,hz,rfl⟩:=C8.mp hx;have mz:z∈ws:=dG hz;have hi:i<ws.length:=(C7.mp hz).1;have tk:ws.take (i+1)=ws.take i++[z]:=by rw[dR,hz];rfl
   have zl:=wt z mz;have l5:("year ":af).length=5:=⋯
   refine⟨_,U,z,U,zl,λH3 s3=>⟨_,U,qg (λe=>?_) (λe=>?_)⟩⟩
   ·have PT3:=PT.same s3
    have dg5:vM (z.cps.toList.drop 5)=true/\z.length=9:=by
     have e:(fq z "year " && (decide (z.length=9)&&vM (z.cps.toList.drop 5)))=true:=e;rw[CM,CM]at e;exact⟨e.2.2,G' e.2.1⟩
    obtain⟨d1,d2⟩:=jO dg5.1
    have sl:(fC z (some 5) none).length<=4:=by
     rw[zI,Zs,Dj,<- zI];lia
    have it:intText? (fC z (some 5) none)=some (Yq z):=by
     have:=Aa (x:=fC z (some 5) none) (by rw[Zs];exact d1) (by rw[Zs];exact d2) (by lia);rw[Zs]at this;exact this
    have it5:intText? (fC z (some ((("year ":af).length:Nat):Int)) none)=some (Yq z):=by rw[l5];exact it
    refine⟨_,U,.inl ⟨U,_,zN.of PT3.at_⟩,_,U,_,U,by rw[l5,ai];decide,_,U,z,U,by rw[ai];lia,_,_,U,it5,by rw[l5];exact CW sl ∅,zS U,λl' H4 s4 n4 e4=>⟨zS U,λtp H5 s5 n5 e5=>⟨p,_,_,U,U,s5 _ _ (s4 _ _ PT3.at_),by rw[CH,ai];lia,?_⟩⟩⟩;have PN:=PT3.new (Y:=Yq z) s4 n4 e4 s5 e5;have l0:H l'=none:=(s2.trans s3).free n4;refine k2 _ _ ⟨_,_,U,λb o hb=>?_,PN,?_,?_,?_,?_,?_⟩
    ·rw[zm (zC hb p0)];exact s5 _ _ (s4 _ _ (s3 _ _ (s2 _ _ hb)))
    ·rw[CN,fo,tk,eg];exact(vZ e).symm
    ·rw[CS,dB];exact eQ ql
    ·intro x hx;rcases CQ.mp hx with hx |hx
     ·exact qf x hx
     ·rw[CY.mp hx];exact l0
    ·intro x hx;rcases CQ.mp hx with hx |hx
     ·exact DC (qr x hx)
     ·rw[CY.mp hx];exact du _
    ·intro _;refine⟨λz=>E9 _ (by simp) z,λz' hz'=>?_⟩
     cases i with
     |zero=>
      have:ws.head?=some z:=by rw[<- hz,fb]
      rw[this]at hz'
      cases hz'
      exact e
     |succ i=>exact(q1 (Dg _ _)).2 z' hz'
   ·have PT3:=PT.same s3;have eb:wX z=false:=dI.mpr e
    cases i with
    |zero=>
     have q0:qs=[]:=eh.mp (Nat.le_zero.mp ql);subst q0;have hw:ws.head?=some z:=by rw[<- hz,fb]
     exact⟨_,U,p,_,U,.inl (zN.of PT3.at_),U,_,U,qY ⟨∅,(q H3 (s2.trans s3)).2 ⟨z,hw,eb⟩⟩⟩
    |succ i=>
    have i1:1<=i+1:=Dg _ _;have hd1:=(q1 i1).2;obtain⟨qq,ql',rfl⟩:∃qq qz,qs=qq++[qz]:=⟨qs.dropLast,qs.getLast (q1 i1).1,(Dq (q1 i1).1).symm⟩;have mq:ql'∈qq++[ql']:=CQ.mpr (.inr CU)
    have len0:(((qq++[ql']).map λq=>V.ref q.1).length:Int)≠0:=by
     rw[CH,CS,dB];lia
    refine⟨_,U,p,_,U,.inl (zN.of PT3.at_),U,_,U,?_⟩;rw[D' λc=>len0 (V.int.inj c)];have la:QA ((qq++[ql']).map λq=>V.ref q.1) (-1)=some (.ref ql'.1):=by rw[CN];exact RH _ _
    refine qM ⟨_,U,_,U,p,_,_,_,U,U,zN.of PT3.at_,la,ql'.1,_,_,_,U,U,yE.of (PT3.tp ql' mq),U,.inl ⟨U,_,zN.of (PT3.ls ql' mq)⟩,_,U,ql'.2.2.1,_,_,U,U,PT3.ls ql' mq,(by have:=qr ql' mq;rw[CH,ai];lia),?_⟩;have PM:=PT3.more (z:=z);refine k2 _ _ ⟨_,_,U,λb o hb=>?_,PM,?_,?_,?_,?_,?_⟩
    ·rw[zm (zC hb (qf ql' mq))];exact s3 _ _ (s2 _ _ hb)
    ·rw[CN,tk,eg,<- fo,CN];exact(Qc (p:=qD ql') eb).symm
    ·rw[CS]at ql ⊢;exact DC ql
    ·intro x hx;rcases CQ.mp hx with hx |hx
     ·exact qf x (CQ.mpr (.inl hx))
     ·rw[CY.mp hx];exact qf ql' mq
    ·intro x hx;rcases CQ.mp hx with hx |hx
     ·exact DC (qr x (CQ.mpr (.inl hx)))
     ·rw[CY.mp hx];show(ql'.2.2.2++[z]).length<=i+1+1;rw[CS,dB];exact eQ (qr ql' mq)
    ·intro _;exact⟨λz=>E9 _ (by simp) z,hd1⟩
  ·rintro σ H2 ⟨x2,qs,rfl,s2,PT,fo,_,_,_,q1⟩;rw[CH,dX]at fo;refine⟨_,U,(q H2 s2).1 (λz hz=>?_) p qs p0 PT fo⟩
   cases ws with
   |nil=>cases hz
   |cons a r=>exact(q1 (by rw[CH];exact Dg _ _)).2 z hz
theorem Tw {qs:List Pq}{es:List (Int×List Rk)}{q:Pq}(fo:qs.map qD=J8 ws)(he:J8 ws=es.map Va)(hq:qs[i]?=some q):∃e∈es,qD q=Va e:=by
 have:(J8 ws)[i]?=some (qD q):=by rw[<- fo,CO,hq];rfl
 rw[he,CO]at this;obtain⟨e,h1,h2⟩:=C8.mp this;exact⟨e,dG h1,h2.symm⟩
theorem ZV {rs:List Rk}(gd:∀r∈rs,Gd 3 r):((rs.map q8).map V.str).map OU=rs.map some:=by
 rw[CP,CP];exact dY λr hr=>ud (gd r hr)
theorem tX {cB:ag}{J:Nat}(hJ:3<=J)(F:qU K "book_of" "book_of" (top 80) f fd)(G:vh mg)(X:Er K mg "BadText" cT)(XB:Er K mg "BadBook" cB)(XR:Er K mg "BadRule" cR)(x1:aX K (.ref cB) (.ref cB)=some true)(x2:aX K (.ref cR) (.ref cB)=some false)(x3:aX K (.ref cR) (.ref cR)=some true)(NB:vA P w K mg base zY 1 "RuleBook" C ["self"] (Ql C))(C1:qX P w K mg base (jS P w) 3 "parts_of" ["rows"] (V4 cT))(C2:qX P w K mg base zY 1 "rise" ["things"] (ZO K))(M:yu P w K mg base (mX P w) (J+1) C "put" ["self","year","rows"] (Z4 K C cY cB cR)):zL P w K mg base (mX P w) (J+2) f fd ["text"] (UO K C cT):=by
 have nd:(["text","book","parts","part"]:List af).Nodup:=⋯
 have nc:(["part"]:List af).Nodup:=⋯
 have l1:1<=J+1:=Dg _ _;have l3:3<=J+1:=DC hJ;refine F.okY (nS nd ?_) ?_ ?_;walk_at"t"
 ·obtain⟨v,rfl,_⟩:=h;rfl
 ·obtain⟨v,rfl,h⟩:=h;obtain⟨R,hR⟩:∃R:XK,R=λcls _ H'=>(cls=.ref cB∨cls=.ref cR)/\zk H H'/\∀z,v=.str z->∀es,¬jP z es:=⟨_,U⟩
  refine' ⟨_,(zg (zK (qB (qC (zv zG U G.isinstance zz (za (pv 0) (za (yV (v:=.ty "str") U G.str qE U) zd))))) (zh (qP qa U U X.at' X.ex (za zj zd))) zB)
   (zg (zF (i:=1) nd U (ay U) (Wt (j:=J) NB hr (CW ∅ hJ) zA))
   (zg (zK (zx qw (pv 0) zj (zD _)) (zh (zt (pv 1))) zB)
   (zg (zF (i:=2) nd U (ay U) (zq C1 hr l3 gL (za (qH aq aI aR jg (pv 0) (za zj zd)) zd)))
   (zg (zK (qB (qC (zq C2 hr l1 zA (za ?comp zd)))) (zh (qP qa U U X.at' X.ex (za zj zd))) zB)
   (zg (LA (Ct:=vw) (R:=R) (E:=E) (tb:=bC (Zl K (zV 2)) (qc 3) (rF (bZ C "put" (Z4 K C cY cB cR) R (zV 1) (qN (vp (Zg K) (zV 3) (tC (.int 0))) (qN (vp (Zg K) (zV 3) (tC (.int 1))) y6))))) YY U U U XB.at' U X.at' X.ex U XR.at' U X.at' X.ex ?body (λpn ea E=>za zj zd) (λpn ea E=>za zj zd))
   (zh (zt (pv 1))))))))),?main⟩
  case comp=>
   refine' qk (cl:=[]) (src:=[none]) (wi:=Zl K (zV 2)) (g:=qc 0) (tt:=qL) (te:=vp (Zg K) (zV 0) (tC (.int 0)))
    (cO nc ⟨U,U,⋯,⋯,(λx c z=>nomatch z),qF (by rfl),zR qb,U⟩) rfl (ye (pv 2)) ?hb
   case hb=>
    intro fp C' s' H';exact⟨zO (i:=0) nc U (ay U),qt,zE qT (pv 0) ze⟩
  case body=>
   intro pn;exact zh (ue (OP U U) U (ye (pv 2)) (zO (i:=3) nd U (ay U)) (zh (z6 (YK M hr (CI _) Pd (pv 1) (za (zE qT (pv 3) ze) (za (zE qT (pv 3) ze) zd))))))
  walk_at"d0"
  rcases h with⟨⟨r,N',ty,ne⟩,q⟩ |⟨z,rfl,hz,q⟩
  ·obtain⟨_,_,k3,_⟩:=kY (K:=K) r N'
   have e:r.2.2.2.1=false:=by
    simp only[Vf,CJ,CV,or_false]at N';rcases N' with rfl |rfl |rfl |rfl |rfl |rfl |rfl<;>first |rfl |exact K7 rfl ne
   rw[e]at k3;exact⟨_,U,_,_,_,_,false,U,U,.inl ty,k3,false,U,qY ⟨∅,q⟩⟩
  have zf:z.length<=au:=ui hz rfl;obtain⟨sl,sn,w,wr,ew⟩:=yg z "\n";refine⟨_,U,_,_,_,_,true,U,U,.inl (.str _),U,true,U,qM ?_⟩;refineλB d0 B00 d00 dB0=>⟨B,d0,U,zi,λt H2 t00 BK fr=>⟨U,?_⟩⟩
  have ups:zk H (upd (upd H d0 (.own B)) B (.ins C d0 [])):=λb o hb=>by
   rw[zm (zC hb B00),zm (zC hb d00)];exact hb
  have s2:zk H H2:=λb o hb=>fr b o (ups b o hb) (zC hb B00);have t0:H t=none:=ups.free t00;clear ups fr t00 dB0 d00;refine⟨_,U,U,_,U,?_⟩
  by_cases nz:z = ""
  ·subst nz;rw[i' rfl];exact qY ⟨_,U,(q H2 s2).1 [] JC B d0 t [] B00 t0 (λb h=>nomatch h) BK U⟩
  rw[D' λc=>nz (V.str.inj c)];refine qM ⟨_,U,U,_,_,U,U,U,zf,yw _ hz,λl H3 s3 n3 e3=>?_⟩;refine⟨l,_,U,e3,by lia,λx hx=>CW (sn x hx) hz,λH4 s4=>⟨λhd p qs p0 PT fo=>?_,λhn=>(q H4 (s2.trans (s3.trans s4))).2 λes ib=>?_⟩⟩
  rotate_left
  ·obtain⟨w',r',e1,e2,_⟩:=jq ib nz;obtain⟨y,hy,hf⟩:=hn;rw[e1]at hy;cases hy;rw[e2]at hf;cases hf
  have hw:wX w=true:=hd w (by rw[ew];rfl);rw[ew]at fo;have S4:=s2.trans (s3.trans s4);have B4:=BK.fr λb o h=>s4 _ _ (s3 _ _ h)
  have py:∀x∈qs,0<=x.2.1/\x.2.1<=9999:=λx hx=>by
   have m:qD x∈J8 (w::wr):=by rw[<- fo];exact CK.mpr ⟨x,hx,U⟩
   exact Wn (w::wr) [] (λp h=>nomatch h) _ m
  have ys:qs.map (λx=>x.2.1)=(J8 (w::wr)).map (·.1):=by
   rw[<- fo,CP];rfl
  have back:∀es,jP z es->J8 (w::wr)=es.map Va:=λes ib=>by
   obtain⟨w',r',e1,_,e2⟩:=jq ib nz;rw[ew]at e1;cases e1;exact e2
  have ql:qs.length<=2000002:=by
   have h1:=K4 fJ (K4 jY fo);rw[kJ hw]at h1
   have h2:∀l:List (Int×List af),l.length<=(jY l).length:=λl=>by
    induction l with
    |nil=>exact du _
    |cons a r ih=>
     have:jY (a::r)=jY [a]++jY r:=Qk [a] r;rw[this,ZM,CS,dz,dz];lia
   have h3:=h2 (qs.map qD);rw[h1,CH]at h3;have h4:=K4 fJ ew;lia
  refine⟨_,U,p,U,⟨_,zN.of PT.at_⟩,λD hD=>js (jc (zN.of PT.at_)) (GY PT) hD (by rw[ai];lia) (λq=>.int q.2.1) (λx hx v H5 R s5 e5 r=>?_) (λH5 s5 e5=>?_)⟩
  ·obtain⟨rfl,ht⟩:=e5;exact⟨_,U,x.1,_,_,_,U,U,yE.of ht,U,r _ (zk.refl _)⟩
  have e5':H5 D=some (.lst ((qs.map λx=>x.2.1).map V.int)):=by
   rw[e5,CP];rfl
  refine⟨D,_,U,zN.of e5',by rw[CH];lia,λH6 s6=>⟨_,U,qg (λe=>⟨∅,(q H6 (S4.trans (s5.trans s6))).2 λes ib=>?_⟩) (λe=>?_)⟩⟩
  ·have b:=back es ib;have up:=ib.2.2;have:qs.map (λx=>x.2.1)=es.map (·.1):=by rw[ys,b,CP];rfl
   rw[this,xR up]at e;cases e
  have up:(qs.map λx=>x.2.1).Pairwise (λx y:Int=>x<y):=V5 (by
   cases a:vP (qs.map λx=>x.2.1) with
   |true=>rfl
   |false=>rw[a]at e;exact K7 rfl e)
  have q10:qs.length<=10000:=by
   have:=xt up λy hy=>by
    obtain⟨x,hx,rfl⟩:=CK.mp hy;exact py x hx
   rwa [CH]at this
  have PT6:=PT.same (s5.trans s6);have B6:=B4.fr λb o h=>s6 _ _ (s5 _ _ h);have S6:=S4.trans (s5.trans s6);have et:H6 t=some (.dK (j0 [])):=B6.dic;refine⟨⟨_,U,p,U,⟨_,zN.of PT6.at_⟩,u7 (K:=K) (a:=p) (xs:=qs.map λq=>V.ref q.1) (λi σ H'=>∃x3 bs,σ=[some (.str z),some (.ref B),some (.ref p),x3]/\U6 C H' B d0 t bs/\(qs.take i).map qD=(bs.map yr).map Va/\(∀b o,H6 b=some o->b≠t->H' b=some o)/\(∀b∈bs,H b.2.1=none)/\∀b∈bs,Qn b.2.2) ⟨_,[],U,B6,U,λb o h _=>h,(λb h=>nomatch h),(λb h=>nomatch h)⟩ (λi σ H' _ z=>?_) ?_ ?_⟩,?_⟩
  ·obtain⟨_,_,_,_,_,k,_⟩:=z;exact zN.of (k _ _ PT6.at_ (yy PT6.at_ et (by intro z;cases z)))
  ·rintro i x σ H7 hx ⟨x3,bs,rfl,B7,y7,k7,f7,o7⟩ E7 kk;rw[CO]at hx;obtain⟨qx,hq,rfl⟩:=C8.mp hx;have mq:=dG hq;have hi:i<qs.length:=(C7.mp hq).1;have tp7:=k7 _ _ (PT6.tp qx mq) (yy (PT6.tp qx mq) et (by intro z;cases z));have ls7:=k7 _ _ (PT6.ls qx mq) (yy (PT6.ls qx mq) et (by intro z;cases z));have S7:zk H H7:=λb o h=>k7 _ _ (S6 _ _ h) (zC h t0)
   have bl7:bs.length=i:=by
    have:=K4 fJ y7;rw[CH,CH,CH,dH]at this;lia
   have Sk:∀{H':Hp} {cls:ae},(cls=.ref cB∨cls=.ref cR)->zk H7 H'->(∀e:Int×List Rk,qD qx=Va e->Qn e.2->False)->R cls none H':=λ{H' cls} hc hs no=>by
    rw[hR];refine⟨hc,S7.trans hs,λz' ez es ib=>?_⟩;cases ez;obtain⟨e,me,eq⟩:=Tw fo (back es ib) hq;exact no e eq (ib.2.1 e me).2.2
   have pyx:=py qx mq;refine⟨_,U,B,d0,_,U,B7.ins,U,_,U,qx.1,_,_,_,U,U,yE.of tp7,U,_,U,qx.1,_,_,_,U,U,yE.of tp7,U,B,d0,t,bs,_,_,U,B7,by lia,.inr ⟨qx.2.1,U,pyx.1,pyx.2,.inr ⟨qx.2.2.1,_,U,ls7,λl8=>Sk (.inl U) (zk.refl _) λe eq ok=>?_,λfew=>⟨λx hx=>?_,λhun H8 s8=>Sk (.inr U) s8 λe eq ok=>?_,λrs em=>⟨λnn H8 s8=>Sk (.inl U) s8 λe eq ok=>?_,λnn a H8 a0 B8 k8=>?_⟩⟩⟩⟩⟩
   ·have e2:qx.2.2.2=e.2.map q8:=K4 (·.2) eq;have:=ok.few;rw[CH,e2,CH]at l8;lia
   ·obtain⟨y,hy,rfl⟩:=CK.mp hx;refine .inr ⟨y,U,?_⟩
    have m1:y∈w::wr:=by
     rw[<- kJ hw,<- fo];unfold jY;exact DU.mpr ⟨_,CK.mpr ⟨qD qx,CK.mpr ⟨qx,mq,U⟩,U⟩,C6 _ hy⟩
    rw[<- ew]at m1;exact CW (sn y m1) hz
   ·have e2:qx.2.2.2=e.2.map q8:=K4 (·.2) eq;obtain⟨x,hx,hn⟩:=hun;rw[e2]at hx;obtain⟨y,hy,rfl⟩:=CK.mp hx;obtain⟨r,N',rfl⟩:=CK.mp hy;have:OU (.str (q8 r))=some r:=ud (ok.gd r N');rw[this]at hn;cases hn
   ·have e2:qx.2.2.2=e.2.map q8:=K4 (·.2) eq;rw[e2,ZV ok.gd]at em;have:e.2=rs:=(eV λ_ _ h=>ao h).mp em;exact nn (this ▸ ok.nd)
   ·have gd:∀r∈rs,Gd 3 r:=λr N'=>by
     have:some r∈rs.map some:=CK.mpr ⟨r,N',U⟩;rw[<- em]at this;obtain⟨x,_,e⟩:=CK.mp this;exact pM e
    have rl:rs.length=qx.2.2.2.length:=by
     have:=K4 fJ em;rw[CH,CH,CH]at this;lia
    have ok:Qn rs:=⟨gd,nn,by rw[CH]at few;lia⟩
    have rb:qx.2.2.2=rs.map q8:=by
     refine DP λn=>?_;have e1:=K4 (λl:List (Option Rk)=>l[n]?) em;rw[CP,CO,CO]at e1;rw[CO]
     cases a:qx.2.2.2[n]? with
     |none=>
      rw[a]at e1
      cases b:rs[n]? with
      |none=>rfl
      |some r=>rw[b]at e1;cases e1
     |some y=>
      rw[a]at e1
      cases b:rs[n]? with
      |none=>rw[b]at e1;cases e1
      |some r=>
       rw[b]at e1;have e1:OU (.str y)=some r:=ao e1;show some y=some (q8 r);rw[Ww (z:=y) (R:=r) e1]
    have nw:∀b∈bs,b.1≠qx.2.1:=λb hb e=>by
     obtain⟨j,hj⟩:=Et.mp hb;have ji:j<i:=by rw[<- bl7];exact(C7.mp hj).1
     have e1:=K4 (λl:List (Int×List af)=>l[j]?) y7;rw[CO,CO,CO,hj,EC ji]at e1;obtain⟨qj,h1,h2⟩:=C8.mp e1;have h2:qj.2.1=b.1:=K4 (·.1) h2;have p:=DB.mp up j i (by rw[CH];lia) (by rw[CH];exact hi) ji;rw[Ej,Ej,(C7.mp h1).2,(C7.mp hq).2]at p;lia
    refine kk _ _ ⟨_,_,U,B8,?_,λb o h n=>k8 _ _ (k7 _ _ h n) n,?_,?_⟩
    ·rw[Ga nw,dR,hq,CN,y7,CN,CN]
     congr 1
     show [qD qx]=[Va (yr (qx.2.1,a,rs))];unfold qD Va yr;rw[rb]
    ·intro b hb;rcases vW hb with rfl |hb
     ·cases ha:H a with
      |none=>rfl
      |some o=>rw[S7 _ _ ha]at a0;cases a0
     ·exact f7 b hb
    ·intro b hb;rcases vW hb with rfl |hb
     ·exact ok
     ·exact o7 b hb
  ·rintro σ H7 ⟨x3,bs,rfl,B7,y7,k7,f7,o7⟩;rw[CH,dX,fo]at y7
   have ib:jP z (bs.map yr):=Gk ew hw y7 (by
    have:(bs.map yr).map (·.1)=qs.map λx=>x.2.1:=by rw[ys,y7,CP,CP,CP];rfl
    rw[this]
    exact up) λe he=>by
     obtain⟨b,hb,rfl⟩:=CK.mp he;exact o7 b hb
   exact⟨_,U,(q H7 λb o h=>k7 _ _ (S6 _ _ h) (zC h t0)).1 _ ib B d0 t bs B00 t0 f7 B7 U⟩
  ·intro ea oe vs cls σ' H' r n0 hd h2;rw[hR]at r;obtain⟨rc,sS,re⟩:=r;have K_:=(q _ (sS.trans (zk.upd (o:=Ys ea oe) n0))).2 (re z U);rcases rc with rfl |rfl
   ·exact .inl ⟨x1,∅,⟨oe,_,vs,zi,hd,h2.put n0⟩,K_⟩
   ·exact .inr ⟨x2,.inl ⟨x3,∅,⟨oe,_,vs,zi,hd,h2.put n0⟩,K_⟩⟩
end
end K12
namespace Pg
open PySem PySem.NumText L2 Builtin Builtin.Str
def Ub (ks:List Int):Prop:=ks.length<64∨(ks.Pairwise (λx y:Int=>x<y)/\ks.length<=20000)
theorem Ub.len (h:Ub ks):ks.length<=20000:=by
 rcases h with h |h
 ·lia
 ·exact h.2
inductive kN (C:ag)(vs:List V)(H:Hp)(Q:VK)(_:XK):Prop|mk(B dx t:ag)(es:List Be)(_:vs=[.ref B])(_:U6 C H B dx t es)(_:Ub (es.map (·.1)))(_:∀zs:List Int,zs.Perm (es.map (·.1))->zs.Pairwise (λx y:Int=>x<y)->∀l H',zk H H'->H l=none->H' l=some (.lst (zs.map V.int))->Q (.ref l) H')
inductive Xq (C:ag)(vs:List V)(H:Hp)(Q:VK)(_:XK):Prop|mk(B dx t:ag)(es:List Be)(e:Be)(_:vs=[.ref B,.int e.1])(_:U6 C H B dx t es)(_:es.length<=20000)(_:e∈es)(_:0<=e.1)(_:e.1<=9999)(_:∀l H',zk H H'->H l=none->H' l=some (.lst ((YG e.1::e.2.2.map q8).map V.str))->Q (.ref l) H')
inductive YZ (C:ag)(vs:List V)(H:Hp)(Q:VK)(_:XK):Prop|mk(B dx t:ag)(es:List Be)(ps:List (Int×List Rk))(_:vs=[.ref B])(_:U6 C H B dx t es)(_:Ub (es.map (·.1)))(_:(∀e∈es,0<=e.1/\e.1<=9999))(_:ps.Perm (es.map yr))(_:(ps.map (·.1)).Pairwise (λx y:Int=>x<y))(_:yd (vc ps)<=5000000)(_:∀H',zk H H'->Q (.str (xC ps)) H')
theorem bj {a:List Int}(nd:ks.Nodup)(pa:a.Perm ks)(sa:a.Pairwise (·<=·)):a.Pairwise (λx y:Int=>x<y):=(sa.and (pa.nodup_iff.mpr nd)).imp fun⟨h1,h2⟩=>by lia
theorem QQ {a b:List Int}(ua:a.Pairwise (λx y:Int=>x<y))(ub:b.Pairwise (λx y:Int=>x<y))(p:a.Perm b):a=b:=VZ ua ub λz=>p.mem_iff
theorem ka {Q:VK}(h:Ub ks)(nd:ks.Nodup)(q:∀zs:List Int,zs.Perm ks->zs.Pairwise (λx y:Int=>x<y)->x8 H (.lst (zs.map V.int)) Q):(ks.length<64/\∀zs:List Int,zs.Perm ks->zs.Pairwise (·<=·)->x8 H (.lst (zs.map V.int)) Q)∨(ks.Pairwise (·<=·)/\ks.length<au/\x8 H (.lst (ks.map V.int)) Q):=by
 rcases h with h |⟨up,h⟩
 ·exact .inl ⟨h,λzs p1 p2=>q zs p1 (bj nd p1 p2)⟩
 ·exact .inr ⟨up.imp λh=>Int.le_of_lt h,by rw[ai];lia,q ks (.refl _) up⟩
theorem Ze {es:List Be}{e:Be}(he:e∈es):UY (es.map yr) e.1 e.1 e.2.2:=⟨CK.mpr ⟨e,he,U⟩,DA _,λq _ h=>h⟩
theorem pq {es:List Be}(nd:(es.map (·.1)).Nodup):((es.map yr).map (·.1)).Nodup:=by
 rw[CP];exact nd
structure WZ (H:Hp)(o:ag)(fs:List Be):Prop where
 dic:H o=some (.dK (j0 fs))
 nd:(fs.map (·.1)).Nodup
 row:∀e∈fs,H e.2.1=some (.lst (yq e.2.2))
 gd:∀e∈fs,∀r∈e.2.2,Gd 3 r
theorem WZ.same {o:ag}{fs:List Be}(h:WZ H o fs)(s:zk H H'):WZ H' o fs:=⟨s _ _ h.dic,h.nd,λe he=>s _ _ (h.row e he),h.gd⟩
inductive UH (vs:List V)(H:Hp)(Q:VK)(_:XK):Prop|mk(o:ag)(fs:List Be)(ps:List (Int×List Rk))(_:vs=[.ref o])(_:WZ H o fs)(_:Ub (fs.map (·.1)))(_:(∀e∈fs,0<=e.1/\e.1<=9999))(_:ps.Perm (fs.map yr))(_:(ps.map (·.1)).Pairwise (λx y:Int=>x<y))(_:yd (vc ps)<=5000000)(_:∀H',zk H H'->Q (.str (xC ps)) H')
def Bj (z:af):V:=if wX z=true then .int (Yq z) else .non
inductive YC (vs:List V)(H:Hp)(Q:VK)(_:XK):Prop|mk(z:_)(_:vs=[.str z])(_:z.length<=2000000)(_:∀H',zk H H'->Q (Bj z) H')
inductive X5 (vs:List V)(H:Hp)(Q:VK)(_:XK):Prop|mk(z:_)(_:vs=[.str z])(_:z.length<=2000000)(_:∀H',zk H H'->(∀es,jP z es->∀o fs,H o=none->WZ H' o fs->fs.map yr=es->Q (.ref o) H')/\((∀es,¬jP z es)->Q .non H'))
inductive ZS (K:BFr)(C:ag)(vs:List V)(H:Hp)(Q:VK)(_:XK):Prop|mk(v:_)(_:vs=[v])(_:((j4 K H v/\∀H',zk H H'->Q (.str "text") H')∨∃z,v=.str z/\z.length<=2000000/\∀H',zk H H'->(∀es,jP z es->∀B dx t bs,U6 C H' B dx t bs->bs.map yr=es->Q (.ref B) H')/\((∀es,¬jP z es)->Q (.str "text") H')))
inductive U3 (K:BFr)(d:Nat->ag)(vs:List V)(H:Hp)(Q:VK)(_:XK):Prop|mk(ea C i:_)(_:vs=[.ref ea])(_:oS K H ea C)(_:Bo K d C i)(_:i=2)(_:∀H',zk H H'->Q (.str "text") H')
inductive VY (vs:List V)(H:Hp)(Q:VK)(_:XK):Prop|mk(z:_)(_:vs=[.str z])(_:z.length<=2000000)(_:∀H',zk H H'->Q (.bl true) H')
inductive UB (vs:List V)(H:Hp)(Q:VK)(_:XK):Prop|mk(z n:_)(_:vs=[.str z,.int n])(_:z.length<=450000)(_:0<=n)(_:∀x H',x.length<=4*z.length+20->zk H H'->Q (.str x) H')
inductive Ug (vs:List V)(H:Hp)(Q:VK)(_:XK):Prop|mk(c:_)(_:vs=[.int c])(_:∀(ys:List Int) l H',ys.length=4->(∀y∈ys,0<=y/\y<=9999)->zk H H'->H l=none->H' l=some (.lst (ys.map V.int))->Q (.ref l) H')
theorem NU {es:List (Int×List Rk)}(h:jP z es)(ne:z≠""):yd (vc es)=z.length+1:=by
 obtain⟨w,r,e1,hb,e2⟩:=jq h ne;have:=wF z 10;rw[<- rE,e1]at this;rw[<- this,<- kJ hb,e2,Ux]
theorem WE {bs:List Be}(h:jP z (bs.map yr)):Ub (bs.map (·.1))/\∀e∈bs,0<=e.1/\e.1<=9999:=by
 have e:(bs.map yr).map (·.1)=bs.map (·.1):=by rw[CP];rfl
 have rg:∀e∈bs,0<=e.1/\e.1<=9999:=λb hb=>by
  have:=h.2.1 (yr b) (CK.mpr ⟨b,hb,U⟩);exact⟨this.1,this.2.1⟩
 have up:=h.2.2;rw[e]at up;refine⟨.inr ⟨up,CW (xt up λy hy=>?_) ∅⟩,rg⟩;obtain⟨b,hb,rfl⟩:=CK.mp hy;exact rg b hb
end Pg
namespace K12
open PySem PySem.NumText L2 Pg
seal PE PA PT PW PS y8 PG j5 PI jQ PO PK
section
variable {K:BFr}{mg:af->Option ae}
theorem oy (F:qU K "years" "RuleBook.years" (zX (top 73) 4) f fd)(G:vh mg)(KC:Yz K C)(nT:yD K C "told"):zL P w K mg base zY 1 f fd ["self"] (kN C):=by
 refine F.ok (N:=["self"]) ?_ ?_ ?_;walk_at"t"
 ·obtain⟨B,dx,t,es,rfl,_⟩:=h;rfl
 ·obtain⟨B,dx,t,es,rfl,BK,el,q⟩:=h;refine⟨_,zh (zt (zv (vY U) U G.sorted fV (za (z7 (pv 0) U) zd))),?_⟩;exact⟨_,U,B,C,dx,_,_,U,BK.ins,KC,nT,U,t,j0 es,es.map (·.1),U,.inl BK.dic,(by unfold j0;rw[CP,CP];rfl),ka el BK.nd λzs p1 p2 l H1 s1 n1 e1=>q zs p1 p2 l H1 s1 n1 e1⟩
theorem Tr (F:qU K "year_rows" "year_rows" (top 76) f fd)(N1:Pg.r8 mg "HEAD" "year ")(C1:qX P w K mg base zY 1 "year_text" ["year"] wo)(M:yu P w K mg base zY 4 C "rows" ["self","year"] (λvs H Q _=>w9 K C cY cN vs H Q E0)):zL P w K mg base zY 5 f fd ["book","year"] (Xq C):=by
 obtain⟨tm,hm⟩:=N1;refine F.ok (N:=["book","year"]) ?_ ?_ ?_;walk_at"t"
 ·obtain⟨B,dx,t,es,e,rfl,_⟩:=h;rfl
 ·obtain⟨B,dx,t,es,e,rfl,BK,el,he,Y0,Y1,q⟩:=h;refine⟨_,zh (zt (zu yH (zM (za (zu zT (zQ (v:=.str "year ") U hm ⟨_,U⟩) (zq C1 hr ∅ zA (za (pv 1) zd))) zd)) (YK M hr ∅ zA (pv 0) (za (pv 1) zd)))),?_⟩;have y5:("year ":af).length=5:=⋯
  have y4:=Oa Y0 Y1;refine⟨_,U,e.1,U,Y0,Y1,_,_,U,U,by rw[y5,y4,ai];decide,zS U,λl H1 s1 n1 e1=>?_⟩;have B1:=BK.fr λb o h=>s1 _ _ h;refine⟨_,U,B,dx,_,U,B1.ins,U,_,U,B,dx,t,es,_,U,B1,el,.inr ⟨e.1,U,Y0,Y1,λah=>(GM ah (Ze he)).elim,λm rs pk ok l2 H2 s2 n2 e2=>?_⟩⟩;obtain rfl:rs=e.2.2:=UY.one (pq BK.nd) pk (Ze he);have few:=ok.few;refine⟨l,l2,_,_,U,U,s2 _ _ e1,e2,(by show 1+(yq e.2.2).length<=_;unfold yq;rw[CH,ai];lia),λl3 H3 s3 n3 e3=>q l3 H3 (s1.trans (s2.trans s3)) ((s1.trans s2).free n3) ?_⟩;rw[e3];unfold yq;rw[dv,CP];rfl
theorem RS (F:qU K "text_of" "text_of" (top 77) f fd)(M:yu P w K mg base zY 1 C "years" ["self"] (kN C))(C1:qX P w K mg base zY 5 "year_rows" ["book","year"] (Xq C)):zL P w K mg base zY 6 f fd ["book"] (YZ C):=by
 have nd:(["book","rows","year"]:List af).Nodup:=⋯
 walk_at"k"
 ·obtain⟨B,dx,t,es,ps,rfl,_⟩:=h;rfl
 ·obtain⟨B,dx,t,es,ps,rfl,BK,el,rg,pm,up,ws,q⟩:=h
  refine⟨_,(zg (zF (i:=1) nd U (ay U) (zM zd))
    (zg (ue fS U (ye (jZ M hr ∅ zA (pv 0))) (zO (i:=2) nd U (ay U)) (zh (z6 (qH aS PySem.F.slot_list_extend PySem.F.type_list_extend Od (pv 1) (za (zq C1 hr ∅ zA (za (pv 0) (za (pv 2) zd))) zd)))))
    (zh (zt (qH aq aC aD ya zj (za (pv 1) zd)))))),?_⟩
  walk_at"d0"
  have len:=el.len;rw[CH]at len;have pl:ps.length=es.length:=by rw[pm.length_eq,CH]
  refine⟨zS U,λr0 H1 s1 r00 e1=>?_⟩;have B1:=BK.fr λb o h=>s1 _ _ h;refine⟨_,U,B,dx,_,U,B1.ins,U,B,dx,t,es,U,B1,el,λzs p1 p2 l H2 s2 l0 e2=>?_⟩;obtain rfl:zs=ps.map (·.1):=QQ p2 up (p1.trans (by have:=(pm.map (·.1)).symm;rw[CP]at this;exact this))
  have bp:∀i,(vc (ps.take i)).length<=5000000:=λi=>by
   have h1:=uQ (vc ps);have:vc ps=vc (ps.take i)++vc (ps.drop i):=by rw[<- Qj,DE]
   rw[this,CS]at h1;rw[<- this]at h1;lia
  refine⟨l,U,⟨_,zN.of e2⟩,u7 (K:=K) (a:=l) (xs:=(ps.map (·.1)).map V.int) (λi σ H'=>∃x2,σ=[some (.ref B),some (.ref r0),x2]/\H' r0=some (.lst ((vc (ps.take i)).map V.str))/\zk H H'/\H' l=some (.lst ((ps.map (·.1)).map V.int))) ⟨_,U,s2 _ _ e1,s1.trans s2,e2⟩ (λi σ H' _ z=>?_) ?_ ?_⟩
  ·obtain⟨_,_,_,_,z⟩:=z;exact zN.of z
  ·rintro i x σ H3 hx ⟨x2,rfl,er,s3,el3⟩ E3 kk;rw[CP,CO]at hx;obtain⟨pe,hpe,rfl⟩:=C8.mp hx;have mp:=pm.mem_iff.mp (dG hpe);obtain⟨e,he,rfl⟩:=CK.mp mp;have B3:=BK.fr λb o h=>s3 _ _ h;refine⟨_,U,.inl ⟨U,_,zN.of er⟩,_,U,_,U,B,dx,t,es,e,U,B3,by lia,he,(rg e he).1,(rg e he).2,λl2 H4 s4 n4 e4=>?_⟩;have bi:=bp i;have few:=(BK.ok e he).few;refine⟨r0,l2,_,_,U,U,s4 _ _ er,e4,(by rw[CH,CH,dz,CH,ai];lia),kk _ _ ⟨_,U,?_,λb o h=>?_,?_⟩⟩
   ·rw[zi,dR,hpe,Qj,CN];show some (HO.lst _)=some (HO.lst (_++(vc [yr e]).map V.str));rw[VW];rfl
   ·rw[zm (zC h r00)];exact s4 _ _ (s3 _ _ h)
   ·rw[zm (zC e1 l0).symm];exact s4 _ _ el3
  ·rintro σ H3 ⟨x2,rfl,er,s3,el3⟩;rw[CH,CH,dX]at er;exact⟨U,_,U,_,_,r0,U,U,zN.of er,(by have:=(QT (c:=10) (CW ws ∅)).1;rw[<- rE]at this;exact this),q H3 s3⟩
theorem mS (F:qU K "_law_bent" "_law_bent" (top 99) f fd)(G:vh mg):zL P w K mg base zY 1 f fd ["_law_text_here","_law_number_here"] JX:=by
 have nd:(["_law_text_here","_law_number_here","_law_signs","_law_at","_law_sign","_law_words","_law_one","_law_some","_law_word_here"]:List af).Nodup:=⋯
 have nc:(["_law_part"]:List af).Nodup:=⋯
 walk_at"k"
 ·obtain⟨z,n,rfl,_⟩:=h;rfl
 ·obtain⟨z,n,rfl,zl,n0,q⟩:=h;have zf:z.length<=au:=ui zl rfl
  refine' ⟨_,(zg (zF (i:=2) nd U (ay U) zj)
    (zg (zF (i:=3) nd U (ay U) (zu z5 (zu qZ (pv 1) ze) (zu qo (zv qi U G.len aH (za (pv 0) zd)) ze)))
    (zg (zF (i:=4) nd U (ay U) (zE xG (pv 2) (zu z5 (zu qZ (pv 1) ze) (zv qi U G.len aH (za (pv 2) zd)))))
    (zg (zK (zx wO (zu z5 (pv 1) ze) ze (zD _)) (zh (zt (zu zT (zu zT (z8 vf (pv 0) qA (qm (pv 3))) (pv 4)) (z8 vf (pv 0) (qm (pv 3)) qA)))) zB)
    (zg (zK (zx qw (zu z5 (pv 1) ze) ze (zD _)) (zh (zt (zu zT (z8 vf (pv 0) qA (qm (pv 3))) (z8 vf (pv 0) (qm (zu qo (pv 3) ze)) qA)))) zB)
    (zg (zK (zx qw (zu z5 (pv 1) ze) ze (zD _)) (zh (zt (zu zT (zu zT (z8 vf (pv 0) qA (qm (pv 3))) (pv 4)) (z8 vf (pv 0) (qm (zu qo (pv 3) ze)) qA)))) zB)
    (zg (zF (i:=5) nd U (ay U) (qH aq aI aR jg (pv 0) (za zj zd)))
    (zg (zF (i:=6) nd U (ay U) (zu z5 (zu qZ (pv 1) ze) (zv zJ U G.len aH (za (pv 5) zd))))
    (zg (zK (zx qw (zu z5 (pv 1) ze) ze (zD _)) (zh (zt (qH aq aC aD ya zj (za (zu yH (z8 yG (pv 5) qA (qm (pv 6))) (z8 yG (pv 5) (qm (zu qo (pv 6) ze)) qA)) zd)))) zB)
    (zg (zK (zx qw (zu z5 (pv 1) ze) ze (zD _)) (zh (zt (qH aq aC aD ya zj (za (zu yH (z8 yG (pv 5) qA (qm (zu qo (pv 6) ze))) (z8 yG (pv 5) (qm (pv 6)) qA)) zd)))) zB)
    (zg (zF (i:=7) nd U (ay U) (zM (za zj (za zj (za zj (za zj (za zj (za zj (za zj (za zj (za zj (za zj (za zj (za zj zd))))))))))))))
    (zg (zF (i:=8) nd U (ay U) (zE zy (pv 7) (zu z5 (zu qZ (pv 1) ze) ze)))
    (uG (zK (zx qw (zu z5 (pv 1) ze) ze (zD _)) (zh (zF (i:=8) nd U (ay U) (zu zT zj (zE zy (pv 5) (pv 6))))) zB)
    (uG (zK (zx qw (zu z5 (pv 1) ze) ze (zD _)) (zh (zF (i:=8) nd U (ay U) (qH aq aC aD ya zj (za ?comp zd)))) zB)
    (zh (zt (qH aq aC aD ya zj (za (zu yH (zu yH (z8 yG (pv 5) qA (qm (pv 6))) (zM (za (pv 8) zd))) (z8 yG (pv 5) (qm (zu qo (pv 6) ze)) qA)) zd)))))))))))))))))),?main⟩
  case comp=>
   refine' qk (cl:=[]) (src:=[none]) (g:=qc 0) (tt:=qL) (te:=vp kK (vp kK (zV 0) (tC (.str ","))) (zV 0)) (cO nc ⟨U,U,⋯,⋯,(λx c z=>nomatch z),qF (by rfl),zR qb,U⟩) rfl (ye (qH aq aI aR jg (zE zy (pv 5) (pv 6)) (za zj zd))) ?hb
   case hb=>
    intro fp C' s' H';exact⟨zO (i:=0) nc U (ay U),qt,zu zT (zu zT (pv 0) zj) (pv 0)⟩
  walk_at"d0"
  have zp:(0:Int)<(z.length:Nat)+1:=by lia
  have gl:("0123456789 ,:abdefnopu-+A\n\t.":af).length=28:=⋯
  have gp:(0:Int)<(("0123456789 ,:abdefnopu-+A\n\t.":af).length:Nat):=by rw[gl];decide
  refine⟨_,U,_,_,U,U,⟨∅,∅⟩,_,U,z,U,zf,_,_,U,U,_,_,U,U,zp,?_⟩;obtain⟨c,ec,_⟩:=j8 (xs:=("0123456789 ,:abdefnopu-+A\n\t.":af).cps.toList) (i:=n/900%(("0123456789 ,:abdefnopu-+A\n\t.":af).length:Nat)) (dk _ (by lia)) (dw _ gp);refine⟨_,U,_,U,_,_,U,U,⟨∅,∅⟩,_,U,_,U,ui (Dy gl) U,_,_,U,U,gp,_,_,c,U,U,ui (Dy gl) U,ec,?_⟩;have sl:∀lo hi,(fC z lo hi).length<=z.length:=λlo hi=>AY z lo hi;have c1:(⟨#[c]⟩:af).length=1:=rfl;have f2:∀{a b:Nat},a<=2*z.length+1->b<=z.length+1->a+b<=au:=λh1 h2=>by rw[ai];lia
  refine⟨_,U,_,_,U,U,(by show(0:Int)<9;decide),_,_,U,U,_,U,qg (λ_=>?_) (λ_=>?_)⟩
  ·have h1:=sl none (some (n/9%((z.length:Nat)+1)));have h2:=sl (some (n/9%((z.length:Nat)+1))) none;exact⟨_,U,_,U,_,U,_,U,zf,_,U,_,_,U,U,(by rw[c1,ai];lia),_,U,_,U,_,U,_,U,zf,_,_,U,U,(by rw[yn,c1,ai];lia),q _ H (by rw[yn,yn,c1];lia) (zk.refl _)⟩
  refine⟨_,U,_,_,U,U,(by show(0:Int)<9;decide),U,_,U,qg (λ_=>?_) (λ_=>?_)⟩
  ·have h1:=sl none (some (n/9%((z.length:Nat)+1)));have h2:=sl (some (n/9%((z.length:Nat)+1)+1)) none;exact⟨_,U,_,U,_,U,_,U,zf,_,U,_,U,_,_,U,U,_,U,_,U,zf,_,_,U,U,(by rw[ai];lia),q _ H (by rw[yn];lia) (zk.refl _)⟩
  refine⟨_,U,_,_,U,U,(by show(0:Int)<9;decide),U,_,U,qg (λ_=>?_) (λ_=>?_)⟩
  ·have h1:=sl none (some (n/9%((z.length:Nat)+1)));have h2:=sl (some (n/9%((z.length:Nat)+1)+1)) none;exact⟨_,U,_,U,_,U,_,U,zf,_,U,_,_,U,U,(by rw[c1,ai];lia),_,U,_,U,_,_,U,U,_,U,_,U,zf,_,_,U,U,(by rw[yn,c1,ai];lia),q _ H (by rw[yn,yn,c1];lia) (zk.refl _)⟩
  obtain⟨_,sn,w0,wr,ew⟩:=yg z " ";have ws1:1<=(av z " ").length:=by rw[ew];exact Dg _ _
  have wsm:yd (av z " ")=z.length+1:=by rw[RM];exact wF z 32
  refine⟨_,U,U,_,_,U,U,U,zf,yw _ (by lia),λl H1 s1 n1 e1=>?_⟩;generalize av z " " = ws at e1 ws1 wsm sn;clear ew;have wp:(0:Int)<((ws.map V.str).length:Nat):=by rw[CH];lia
  have wl:=uQ ws;refine⟨_,U,_,_,U,U,⟨∅,∅⟩,_,U,l,_,U,.inl (zN.of e1),_,_,U,U,wp,?_⟩
  have cat:∀{lo hi lo2 hi2:Option Int} (v:List af),yd v<=2*z.length+16->∃zs:List af,jR (ws.map V.str) lo hi++v.map V.str++jR (ws.map V.str) lo2 hi2=zs.map V.str/\AU " " zs=true/\(aG " " zs).length<=4*z.length+20:=λ{lo hi lo2 hi2} v hv=>by
   obtain⟨u1,a1,b1,_⟩:=Wy ws lo hi;obtain⟨u2,a2,b2,_⟩:=Wy ws lo2 hi2;have hs:yd (u1++v++u2)<=4*z.length+20:=by rw[uV,uV];lia
   obtain⟨j1,j2⟩:=QT (c:=32) (zs:=u1++v++u2) (by lia);rw[<- RM]at j1 j2;exact⟨u1++v++u2,by rw[a1,a2,CN,CN],j1,by lia⟩
  have sz:∀{lo hi lo2 hi2:Option Int},(jR (ws.map V.str) lo hi).length+1+(jR (ws.map V.str) lo2 hi2).length<=au:=λ{lo hi lo2 hi2}=>by
   have h1:=jM (ws.map V.str) lo hi;have h2:=jM (ws.map V.str) lo2 hi2;rw[CH]at h1 h2;rw[ai];lia
  have sz0:∀{lo hi lo2 hi2:Option Int},(jR (ws.map V.str) lo hi).length+(jR (ws.map V.str) lo2 hi2).length<=au:=λ{lo hi lo2 hi2}=>by
   have:=sz (lo:=lo) (hi:=hi) (lo2:=lo2) (hi2:=hi2);lia
  refine⟨_,U,_,_,U,U,(by show(0:Int)<9;decide),U,_,U,qg (λ_=>?_) (λ_=>?_)⟩
  ·refine⟨U,_,U,_,U,_,U,l,_,U,zN.of e1,λp p0=>⟨_,U,_,U,_,_,U,U,_,U,l,_,U,zN.of (zk.upd p0 _ _ e1),λp2 SH=>⟨p,p2,_,_,U,U,zk.upd SH _ _ zi,zi,sz0,λl3 H3 s3 n3 e3=>?_⟩⟩⟩;obtain⟨zs,ez,j1,j2⟩:=cat (lo:=none) (hi:=some (n/9%((ws.map V.str).length:Nat))) (lo2:=some (n/9%((ws.map V.str).length:Nat)+1)) (hi2:=none) [] (du _);rw[d8,dF]at ez;exact⟨_,zs,l3,U,U,zN.of (e3.trans (by rw[<- ez])),j1,q _ H3 j2 (s1.trans ((zk.upd p0).trans ((zk.upd SH).trans s3)))⟩
  refine⟨_,U,_,_,U,U,(by show(0:Int)<9;decide),U,_,U,qg (λ_=>?_) (λ_=>?_)⟩
  ·refine⟨U,_,U,_,U,_,_,U,U,_,U,l,_,U,zN.of e1,λp p0=>⟨_,U,_,U,_,U,l,_,U,zN.of (zk.upd p0 _ _ e1),λp2 SH=>⟨p,p2,_,_,U,U,zk.upd SH _ _ zi,zi,sz0,λl3 H3 s3 n3 e3=>?_⟩⟩⟩;obtain⟨zs,ez,j1,j2⟩:=cat (lo:=none) (hi:=some (n/9%((ws.map V.str).length:Nat)+1)) (lo2:=some (n/9%((ws.map V.str).length:Nat))) (hi2:=none) [] (du _);rw[d8,dF]at ez;exact⟨_,zs,l3,U,U,zN.of (e3.trans (by rw[<- ez])),j1,q _ H3 j2 (s1.trans ((zk.upd p0).trans ((zk.upd SH).trans s3)))⟩
  obtain⟨wx,ewx,mwx⟩:=j8 (xs:=ws.map V.str) (i:=n/9%((ws.map V.str).length:Nat)) (dk _ (by lia)) (dw _ wp);obtain⟨wd,hwd,rfl⟩:=CK.mp mwx;have wdl:=sn wd hwd;refine⟨zS U,λl3 H3 s3 n3 e3=>?_⟩;obtain⟨x,ex,mx⟩:=j8 (xs:=[V.str "down",V.str "up",V.str "base",V.str "net",V.str "0",V.str "20001",V.str "00",V.str "1000000000000",V.str "1000000000001",V.str "of",V.str "flat",V.str "0:1,0:2"]) (i:=n/900%12) (dk _ ∅) (dw _ ∅)
  obtain⟨v,rfl,hv⟩:∃v,x=.str v/\v.length<=13:=by
   have all:∀x∈[V.str "down",V.str "up",V.str "base",V.str "net",V.str "0",V.str "20001",V.str "00",V.str "1000000000000",V.str "1000000000001",V.str "of",V.str "flat",V.str "0:1,0:2"],(match x with|.str y=>decide (y.length<=13) |_=>false)=true:=dj.mp ⋯;have:=all x mx
   cases x with
   |str y=>exact⟨y,U,G' this⟩
   |_=>cases this
  refine⟨_,U,_,U,_,_,U,U,⟨∅,∅⟩,_,_,U,U,(by show(0:Int)<12;decide),l3,_,_,_,U,U,zN.of e3,ex,?_⟩;have e13:=s3 _ _ e1;have S3:=s1.trans s3;refine kI (λσ H'=>∃y2 y3 y4 y7 v,σ=[some (.str z),some (.int n),y2,y3,y4,some (.ref l),some (.int (n/9%((ws.map V.str).length:Nat))),y7,some (.str v)]/\v.length<=2*z.length+14/\zk H3 H') (λEk kk=>?_) ?_
  ·refine⟨_,U,_,_,U,U,(by show(0:Int)<9;decide),U,_,U,qg (λ_=>?_) (λ_=>?_)⟩
   ·have h0:("0":af).length=1:=⋯
    exact⟨_,U,_,U,l,_,_,_,U,U,zN.of e13,ewx,_,_,U,U,(by rw[h0,ai];lia),kk _ _ ⟨_,_,_,_,_,U,by rw[yn,h0];lia,zk.refl _⟩⟩
   ·exact kk _ _ ⟨_,_,_,_,_,U,by lia,zk.refl _⟩
  rintro σ H4 ⟨y2,y3,y4,y7,v,rfl,hv,s4⟩;have e14:=s4 _ _ e13;refine kI (λσ H'=>∃y2 y3 y4 y7 v,σ=[some (.str z),some (.int n),y2,y3,y4,some (.ref l),some (.int (n/9%((ws.map V.str).length:Nat))),y7,some (.str v)]/\v.length<=2*z.length+14/\zk H4 H') (λEk kk=>?_) ?_
  ·refine⟨_,U,_,_,U,U,(by show(0:Int)<9;decide),U,_,U,qg (λ_=>?_) (λ_=>?_)⟩
   ·have wf:wd.length<=au:=by rw[ai];lia
    have psm:yd (av wd ",")=wd.length+1:=by rw[TQ];exact wF wd 44
    obtain⟨_,pn,_⟩:=yg wd ",";refine⟨U,_,U,_,U,l,_,_,_,U,U,zN.of e14,ewx,U,_,_,U,U,U,wf,yw _ (by lia),λl5 H5 s5 n5 e5=>?_⟩;generalize av wd "," = ps at e5 psm pn;have pl:=uQ ps;refine⟨l5,U,⟨_,zN.of e5⟩,λD hD=>uA (jc (zN.of e5)) hD (by rw[CH,ai];lia) (λ_=>true) (λx=>match x with|.str p=>.str (p++(",":af)++p) |v=>v) (λx hx H' R _ r=>r) (λx hx _ H' R _ r=>?_) ?_⟩
    ·obtain⟨p,hp,rfl⟩:=CK.mp hx;have p1:=pn p hp;have k1:(",":af).length=1:=⋯
     exact⟨_,U,_,_,U,U,(by rw[k1,ai];lia),_,U,_,_,U,U,(by rw[yn,k1,ai];lia),r⟩
    ·have em:((ps.map V.str).filter λ_=>true).map (λx=>match x with|.str p=>.str (p++(",":af)++p) |v=>v)=(ps.map λp=>p++(",":af)++p).map V.str:=by
      rw[El.mpr λ_ _=>rfl,CP,CP];rfl
     rw[em];obtain⟨j1,j2⟩:=QT (c:=44) (zs:=ps.map λp=>p++(",":af)++p) (by rw[We];lia);rw[<- TQ]at j1 j2;rw[We]at j2;exact⟨_,_,D,U,U,zN.of zi,j1,kk _ _ ⟨_,_,_,_,_,U,by lia,s5.trans (zk.upd hD)⟩⟩
   ·exact kk _ _ ⟨_,_,_,_,_,U,hv,zk.refl _⟩
  rintro σ H5 ⟨y2,y3,y4,y7,v,rfl,hv,s5⟩;have e15:=s5 _ _ e14;have S5:=S3.trans (s4.trans s5);refine⟨U,_,U,_,U,_,U,l,_,U,zN.of e15,λp p0=>⟨_,U,zS U,λl6 H6 s6 n6 e6=>⟨p,l6,_,_,U,U,s6 _ _ zi,e6,?_,λl7 H7 s7 n7 e7=>?_⟩⟩⟩
  ·have:=sz (lo:=none) (hi:=some (n/9%((ws.map V.str).length:Nat))) (lo2:=none) (hi2:=none);show _+1<=_;lia
  have e17:=s7 _ _ (s6 _ _ (zk.upd p0 _ _ e15));refine⟨_,U,_,U,_,_,U,U,_,U,l,_,U,zN.of e17,λp2 SH=>⟨l7,p2,_,_,U,U,zk.upd SH _ _ e7,zi,?_,λl9 H9 s9 n9 e9=>?_⟩⟩
  ·rw[CS];exact sz
  obtain⟨zs,ez,j1,j2⟩:=cat (lo:=none) (hi:=some (n/9%((ws.map V.str).length:Nat))) (lo2:=some ((n/9%((ws.map V.str).length:Nat))+1)) (hi2:=none) [v] (by rw[lY];lia);exact⟨_,zs,l9,U,U,zN.of (e9.trans (by rw[<- ez];rfl)),j1,q _ H9 j2 (S5.trans ((zk.upd p0).trans (s6.trans (s7.trans ((zk.upd SH).trans s9)))))⟩
theorem MB (F:qU K "_law_read" "_law_read" (top 98) f fd)(C1:qX P w K mg base zY j "_law_by_words" ["_law_words","_law_deep"] (US 4)):zL P w K mg base zY (j+1) f fd ["_law_text_here"] Ue:=by
 refine F.ok (N:=["_law_text_here"]) ?_ ?_ ?_;walk_at"t"
 ·obtain⟨z,rfl,_⟩:=h;rfl
 ·obtain⟨z,rfl,hz,q⟩:=h;have zf:z.length<=au:=ui hz rfl;obtain⟨sl,sn,w0,wr,ew⟩:=yg z " ";refine⟨_,zh (zt (zq C1 hr (CI _) zA (za (qH aq aI aR jg (pv 0) (za zj zd)) (za ze zd)))),_,U,U,_,_,U,U,U,zf,yw _ hz,λl H1 s1 n1 e1=>⟨l,_,0,U,⟨e1,by lia,λw hw=>CW (sn w hw) hz⟩,(by rw[ew];intro z;cases z),∅,∅,λv H2 s2 rt=>q v H2 (s1.trans s2) rt⟩⟩
theorem OL (F:qU K "_law_rules" "_law_rules" (top 92) f fd)(G:vh mg)(C1:qX P w K mg base zY 1 "_law_mixed" ["_law_cell","_law_k"] ju)(C2:qX P w K mg base zY 5 "_law_rule" ["_law_cell","_law_name"] ZH):zL P w K mg base zY 6 f fd ["_law_cell","_law_names_here","_law_most"] (QN K):=by
 have nd:(["_law_cell","_law_names_here","_law_most","_law_number_here","_law_many"]:List af).Nodup:=⋯
 have nk:(["_law_k","_law_names_here","_law_cell"]:List af).Nodup:=⋯
 walk_at"k"
 ·obtain⟨c,ln,nms,mo,rfl,_⟩:=h;rfl
 ·obtain⟨c,ln,nms,mo,rfl,mo8,hl,n8,hn,nn,q⟩:=h
  refine' ⟨_,(zg (zF (i:=3) nd U (ay U) (zq C1 hr ∅ zA (za (pv 0) (za ze zd))))
    (zg (zF (i:=4) nd U (ay U) (zE zy (zM (za ze (za ze (za ze (za ze (za (pv 2) (za (zu z5 (zu qZ (pv 3) ze) (zu qo (pv 2) ze)) zd))))))) (zu z5 (pv 3) ze)))
    (zh (zt ?comp)))),?main⟩
  case comp=>
   refine' qk (cl:=[("_law_names_here",s.heap.objs.size+2),("_law_cell",s.heap.objs.size+1)]) (src:=[none,some 1,some 0]) (wi:=VS (qN (zV 4) y6)) (g:=qc 0) (tt:=qL) (te:=λσ H Q=>qN (vp (WJ λi j=>.int (i+j)) (λσ H Q=>qN (zV 2) (qN (vp (WJ λi j=>.int (i+j)) (tC (.int 150)) (zV 0)) y6) σ H λvs H1=>ju vs H1 Q E0) (zV 0)) (qN (vp (Np K) (zV 1) (zV 0)) y6) σ H λvs H1=>ZH vs H1 Q E0)
    (cO nk ⟨U,U,⋯,⋯,um (Ov U (JO U)),qF (by rfl),zR (yb ⟨_,U,U,U,U⟩ (yb ⟨_,U,U,U,U⟩ qb)),U⟩) rfl (jH U G.range (za (pv 4) zd)) ?hb
   case hb=>
    intro fp C' s' H';exact⟨zO (i:=0) nk U (ay U),qt,zq C2 hr ∅ zA (za (zu qo (zq C1 hr ∅ zA (za (pv 2) (za (zu qo ze (pv 0)) zd))) (pv 0)) (za (zE zy (pv 1) (pv 0)) zd))⟩
  walk_at"d0"
  refine⟨_,U,c,_,U,λm m0 m1=>⟨_,U,_,U,_,_,U,U,⟨∅,∅⟩,_,U,_,_,U,U,_,_,U,U,(by show(0:Int)<(mo:Nat)+1;lia),zS U,λg H1 s1 n1 e1=>?_⟩⟩;obtain⟨v,ev,mv⟩:=j8 (xs:=[V.int 0,.int 1,.int 2,.int 3,.int (mo:Nat),.int (m/6%((mo:Nat)+1))]) (i:=m%6) (dk _ ∅) (dw _ ∅)
  obtain⟨n,rfl,h8⟩:∃n:Nat,v=.int (n:Nat)/\n<=8:=by
   simp only[CJ,CV,or_false]at mv;rcases mv with rfl |rfl |rfl |rfl |rfl |rfl
   ·exact⟨0,U,∅⟩
   ·exact⟨1,U,∅⟩
   ·exact⟨2,U,∅⟩
   ·exact⟨3,U,∅⟩
   ·exact⟨mo,U,mo8⟩
   ·obtain⟨k,hk⟩:=Dw (show 0<=m/6%((mo:Nat)+1) from dk _ (by lia));have:m/6%((mo:Nat)+1)<(mo:Nat)+1:=dw _ (by lia);exact⟨k,by rw[hk],by lia⟩
  refine⟨_,U,_,_,U,U,(by show(0:Int)<6;decide),g,_,_,_,U,U,zN.of e1,ev,_,U,_,U,by lia,by lia,?_⟩;rw[dP]
  refineλD hD=>Lq kx (oA n) hD (by rw[dD,ai];lia) (λH' u k=>∃r,Yv H' r u/\Gd 3 r/\nms[k]?=some r.name) (λkp h=>by
   obtain⟨r,h1,h2⟩:=h;exact⟨r,h1.keep kp,h2⟩) (λi k hk v H2 R s2 e2 r=>?_) (λzs H2 s2 e2 M=>?_)
  ·subst e2;obtain⟨hk1,hk2⟩:=C7.mp hk;rw[Ey]at hk2;subst hk2;rw[dD]at hk1;have il:i<nms.length:=by lia
   exact⟨_,U,_,U,_,_,U,U,_,_,U,λm' m0' m1'=>⟨_,U,_,_,U,U,_,U,_,U,ln,_,_,_,U,U,(s1.trans s2).seq hl,qQ (j:=i) (v:=.str nms[i]) (by rw[CO,CZ il];rfl),_,_,U,hn _ (eN il),λv r' H3 gd rn s3 rt=>r v H3 s3 ⟨r',rt,gd,by rw[rn,CZ il]⟩⟩⟩
  ·obtain⟨rs,rl,N'⟩:=WM (P:=λH u r=>Yv H r u) (q:=λk r=>Gd 3 r/\nms[k]?=some r.name) M;have zl:zs.length=n:=by rw[M.len,dD]
   refine q D rs H2 ⟨λr hm=>?_,?_,by lia⟩ (s1.trans s2) (kb s1 hD) ⟨zs,e2,by lia,λi y hy=>?_⟩
   ·obtain⟨i,hi⟩:=Et.mp hm;exact(N' i r hi).1.1
   ·have e:rs.map Rk.name=nms.take n:=by
     apply DP;intro i;rw[CO,Hi]
     by_cases hi:i<n
     ·have h:=CZ (show i<rs.length by lia);rw[K6 hi,h,(N' i _ h).1.2];rfl
     ·rw[K5 hi,Di (by lia)];rfl
    rw[e];exact nn.sublist (ED _ _)
   ·have hi:i<rs.length:=by have:=(C7.mp hy).1;lia
    have h:=CZ hi;obtain⟨u,hu,rt⟩:=(N' i _ h).2;rw[hy]at hu;cases hu;exact⟨_,h,λH' s=>rt.same s⟩
theorem Lc (z:af):(fC z none (some 5)).cps.toList=z.cps.toList.take 5:=by
 rw[uD];unfold W9;have e:HT.Yj z.cps.toList.length z.cps.toList.length (some 5)=min 5 z.cps.toList.length:=HT.wg _ _ 5;rw[e,HT.kH,Ep]
 by_cases h:5<=z.cps.toList.length
 ·rw[Dl h]
 ·rw[ee (by lia),Do (by lia),Do (by lia)]
theorem cZ (a b:af):decide (V.str a=V.str b)=decide (a=b):=decide_eq_decide.mpr ⟨λh=>V.str.inj h,λh=>by rw[h]⟩
theorem RI (z:af):decide (fC z none (some 5)=("year ":af))=fq z "year ":=by
 rw[vO];have e:(("year ":af).cps.toList).length=5:=⋯
 rw[e];refine decide_eq_decide.mpr ⟨λh=>?_,λh=>?_⟩
 ·rw[<- Lc,h]
 ·apply QD;rw[Lc];exact h
theorem Mt (F:qU K "_law_year_in" "_law_year_in" (top 103) f fd)(G:vh mg):zL P w K mg base zY 1 f fd ["_law_row_here"] YC:=by
 have nd:(["_law_row_here","_law_figures"]:List af).Nodup:=⋯
 have nc:(["_law_sign"]:List af).Nodup:=⋯
 walk_at"k"
 ·obtain⟨z,rfl,_⟩:=h;rfl
 ·obtain⟨z,rfl,hz,q⟩:=h;have SR:z.length<=au:=ui hz rfl;have Z_:(A.deeper (aT "_law_year_in" (zU (top 103)) s.heap.objs.size f K9)).units<hZ:=Dd (Dp _ 64) hr.units
  refine' ⟨_,(zg (zF (i:=1) nd U (ay U) (z8 vf (pv 0) (qm ze) qA))
    (zg (zK (PW.pt (yI (zx uB (z8 vf (pv 0) qA (qm ze)) zj (zD _)) (yI (zx uB (zv qi U G.len aH (za (pv 1) zd)) ze (zD _)) (yJ (zx (Jj Z_) ?comp (zM zd) (zD _)))))) (zh (zt yR)) zB)
    (zh (zt (zZ ja U G.int vV (za (pv 1) zd)))))),?main⟩
  case comp=>
   refine' qk (cl:=[]) (src:=[none]) (wi:=XQ (zV 1)) (g:=qc 0) (tt:=JD (vp jj (zV 0) (tC (.str "0123456789")))) (te:=zV 0) (cO nc ⟨U,U,⋯,⋯,(λx c z=>nomatch z),qF (by rfl),zR qb,U⟩) rfl (QB (pv 1)) ?hb
   case hb=>
    intro fp C' s' H';exact⟨zO (i:=0) nc U (ay U),ZN (zx wA (pv 0) zj (by rfl)),pv 0⟩
  have yl:(fC z (some 5) none).length<=z.length:=AY z _ _;have yc:=Zs z;have st:=RI z;have lz:(fC z (some 5) none).length=z.length-5:=by rw[zI,yc,Dj,<- zI]
  refine⟨_,U,_,U,z,U,SR,?_⟩;unfold YC at *;generalize fC z (some 5) none=y at yl yc lz;dsimp only [xw];refine QL (λQ=>∀H',zk H H'->Q (!(fq z "year ") || (!decide (y.length=4) || !y.cps.toList.all wY)) H') (λR r=>?_) (λH1 s1=>qg (λe=>?_) (λe=>?_))
  ·refine⟨_,U,_,U,z,U,SR,U,_,U,qg (λe=>?_) (λe=>?_)⟩
   ·have e:(!decide (V.str (fC z none (some 5))=V.str "year "))=true:=e;rw[cZ,st]at e;rw[e]at r;exact r H (zk.refl _)
   ·have e:¬(!decide (V.str (fC z none (some 5))=V.str "year "))=true:=e;rw[cZ,st]at e;rw[dI.mpr e,dS]at r;refine⟨_,U,y,U,CW yl SR,U,_,U,qg (λe2=>?_) (λe2=>?_)⟩
    ·have e2:(!decide (V.int ((y.length:Nat):Int)=V.int 4))=true:=e2;have:decide (y.length=4)=false:=D' λc=>by rw[c]at e2;exact K7 e2 ∅
     rw[this]at r;exact r H (zk.refl _)
    ·have e2:¬(!decide (V.int ((y.length:Nat):Int)=V.int 4))=true:=e2
     have y4:y.length=4:=by
      have:decide (V.int ((y.length:Nat):Int)=V.int 4)=true:=by
       cases h:decide (V.int ((y.length:Nat):Int)=V.int 4) with
       |true=>rfl
       |false=>rw[h]at e2;exact K7 rfl e2
      have:=V.int.inj (G' this);lia
     rw[i' y4,ej,dS]at r;refine⟨_,U,y,U,λD hD=>?_⟩;refine uA (uW (z:=y)) hD (by rw[CH,<- zI,ai];lia) (λx=>match x with|.str y=>!wY (y.cps.getD 0 0) |_=>false) (λx=>x) (λx hx H' R _ r=>?_) (λx hx _ H' R _ r=>⟨_,U,r⟩) ?_
     ·obtain⟨c,_,rfl⟩:=CK.mp hx;refine⟨_,U,_,_,U,U,_,U,?_⟩;rw[Xh];exact r
     ·refine⟨zS U,λl2 H2 s2 n2 e2=>?_⟩;have r:=r H2 ((zk.upd hD).trans s2)
      have Sj:((y.cps.toList.map λc=>V.str ⟨#[c]⟩).filter λx=>match x with|.str y=>!wY (y.cps.getD 0 0) |_=>false)=[]↔y.cps.toList.all wY=true:=by
       rw[eU,dj];constructor
       ·intro h c hc;have:=h _ (CK.mpr ⟨c,hc,U⟩)
        cases h:wY c with
        |true=>rfl
        |false=>exact K7 (show(!wY c)=true by rw[h];rfl) this
       ·intro h x hx;obtain⟨d,hd,rfl⟩:=CK.mp hx;show ¬(!wY d)=true;rw[h d hd];decide
      have Sj:∀xs:List V,xs=(((y.cps.toList.map cm).filter λx=>match x with|.str y=>!wY (y.cps.getD 0 0) |_=>false).map λx=>x)->(xs=[]↔y.cps.toList.all wY=true):=λxs e=>by
       rw[e,eS];exact Sj
      refine⟨D,l2,_,U,U,zN.of (s2 _ _ zi),zN.of e2,λe3=>⟨false,U,?_⟩,λe3=>⟨true,U,?_⟩⟩
      ·rw[(Sj _ U).mp e3]at r;exact r
      ·rw[dI.mpr λh=>e3 ((Sj _ U).mpr h)]at r;exact r
  ·have hb:wX z=false:=by
    cases h:wX z with
    |false=>rfl
    |true=>
     unfold wX at h;rw[CM,CM]at h;obtain⟨h1,h2,h3⟩:=h;have z9:z.length=9:=G' h2;rw[<- yc]at h3
     have h3:y.cps.toList.all wY=true:=by
      unfold vM at h3;rw[CM]at h3;exact h3.2
     rw[h1,h3,i' (by lia)]at e;exact K7 e ∅
   have:=q H1 s1;unfold Bj at this;rw[K5 (by rw[hb];decide)]at this;exact this
  ·have e:(!(fq z "year ") || (!decide (y.length=4) || !y.cps.toList.all wY))=false:=dI.mpr e;rw[DR,DR]at e;obtain⟨e1,e2,e3⟩:=e;have e1:fq z "year " = true:=by cases h:fq z "year " with|true=>rfl |false=>rw[h]at e1;cases e1
   have y4:y.length=4:=by
    by_cases h:y.length=4
    ·exact h
    ·rw[D' h]at e2;cases e2
   have e3:y.cps.toList.all wY=true:=by cases h:y.cps.toList.all wY with|true=>rfl |false=>rw[h]at e3;cases e3
   have z9:z.length=9:=by lia
   have fg:vM (z.cps.toList.drop 5)=true:=by
    rw[<- yc];unfold vM;rw[e3,d7];rw[zI]at y4
    cases h:y.cps.toList with
    |nil=>rw[h]at y4;cases y4
    |cons a b=>rfl
   have hb:wX z=true:=by
    unfold wX;rw[e1,i' z9,fg];rfl
   obtain⟨d1,d2⟩:=jO fg
   have it:intText? y=some (Yq z):=by
    have:=Aa (x:=y) (by rw[yc];exact d1) (by rw[yc];exact d2) (by lia);rw[yc]at this;exact this
   have:=q H1 s1;unfold Bj at this;rw[K6 hb]at this;exact⟨_,U,_,_,U,it,by lia,this⟩
theorem nH (F:qU K "_law_text" "_law_text" (top 102) f fd)(G:vh mg):zL P w K mg base zY 1 f fd ["_law_own"] UH:=by
 have nd:(["_law_own","_law_rows","_law_year","_law_figures"]:List af).Nodup:=⋯
 walk_at"k"
 ·obtain⟨o,fs,ps,rfl,_⟩:=h;rfl
 ·obtain⟨o,fs,ps,rfl,OW,el,rg,pm,up,ws,q⟩:=h;have hu:=VM hr
  refine⟨_,(zg (zF (i:=1) nd U (ay U) (zM zd))
    (zg (ue fS U (ye (zv (vY U) U G.sorted fV (za (pv 0) zd))) (zO (i:=2) nd U (ay U)) (zg (zF (i:=3) nd U (ay U) (zZ qh U G.str qE (za (pv 2) zd)))
    (zg (z6 (qH aS e_ fc jJ (pv 1) (za (zu zT (zu zT zj (zu Zt zj (zu LY ze (zv qi U G.len aH (za (pv 3) zd))))) (pv 3)) zd)))
    (zh (zF (i:=1) nd U (ay U) (zu yH (pv 1) (Zc hu (pv 0) (pv 2) (λ_ _=>rfl))))))))
    (zh (zt (qH aq aC aD ya zj (za (pv 1) zd)))))),?main⟩
  walk_at"d0"
  have len:=el.len;rw[CH]at len;have pl:ps.length=fs.length:=by rw[pm.length_eq,CH]
  have bp:∀i,(vc (ps.take i)).length<=5000000:=λi=>by
   have h1:=uQ (vc ps);have:vc ps=vc (ps.take i)++vc (ps.drop i):=by rw[<- Qj,DE]
   rw[this,CS]at h1;rw[<- this]at h1;lia
  refine⟨zS U,λr0 H1 s1 r00 e1=>?_⟩;have O1:=OW.same s1;refine⟨_,U,o,j0 fs,fs.map (·.1),U,.inl O1.dic,(by unfold j0;rw[CP,CP];rfl),ka el OW.nd λzs p1 p2 l H2 s2 l0 e2=>?_⟩;obtain rfl:zs=ps.map (·.1):=QQ p2 up (p1.trans (by have:=(pm.map (·.1)).symm;rw[CP]at this;exact this));refine⟨l,U,⟨_,zN.of e2⟩,u7 (K:=K) (a:=l) (xs:=(ps.map (·.1)).map V.int) (λi σ H'=>∃r x3 x4,σ=[some (.ref o),some (.ref r),x3,x4]/\H r=none/\r≠l/\H' r=some (.lst ((vc (ps.take i)).map V.str))/\zk H H'/\H' l=some (.lst ((ps.map (·.1)).map V.int))) ⟨r0,_,_,U,r00,zC e1 l0,s2 _ _ e1,s1.trans s2,e2⟩ (λi σ H' _ z=>?_) ?_ ?_⟩
  ·obtain⟨_,_,_,_,_,_,_,_,z⟩:=z;exact zN.of z
  ·rintro i x σ H3 hx ⟨r,x3,x4,rfl,r0',rl,er,s3,el3⟩ E3 kk;rw[CP,CO]at hx;obtain⟨pe,hpe,rfl⟩:=C8.mp hx;have mp:=pm.mem_iff.mp (dG hpe);obtain⟨e,me,rfl⟩:=CK.mp mp;have yk:=rg e me;dsimp only [Function.comp,yr];have tl4:(toString e.1:af).length<=4:=by rw[zI,jK yk.1];exact Gm yk.2
   have z0:("0":af).length=1:=⋯
   have y5:("year ":af).length=5:=⋯
   have tm:(jx "0" (4-((toString e.1:af).length:Nat))).length<=4:=by rw[Zx,z0];lia
   have bl:=bp i;refine⟨_,U,_,U,uP yk.1 (by have:=yk.2;lia),?_⟩;refine⟨_,U,.inl ⟨U,_,zN.of er⟩,_,U,_,U,by rw[ai];lia,_,_,U,U,_,_,U,U,by lia,by lia,by rw[z0,ai];lia,_,_,U,U,by rw[y5,ai];lia,_,U,_,_,U,U,by rw[yn,y5,ai];lia,r,_,_,U,U,er,by rw[CH,ai];lia,?_⟩;rw[RL yk.1 yk.2];have k4:∀b ox,H3 b=some ox->b≠r->(upd H3 r (.lst ((vc (ps.take i)).map V.str++[.str (YG e.1)]))) b=some ox:=λb ox h n=>by rw[zm n];exact h
   have e4:(upd H3 r (.lst ((vc (ps.take i)).map V.str++[.str (YG e.1)]))) r=some (.lst ((vc (ps.take i)).map V.str++[.str (YG e.1)])):=zi;generalize upd H3 r (.lst ((vc (ps.take i)).map V.str++[.str (YG e.1)]))=H4 at k4 e4;have s4:zk H H4:=λb ox h=>k4 _ _ (s3 _ _ h) (zC h r0');have l4:=k4 _ _ el3 rl.symm;have O4:=OW.same s4
   have gd:wZ H4 o (.int e.1) (some (.ref e.2.1)):=by
    rw[<- QU O4.nd me];exact wZ.k (k:=a_ e.1) O4.dic
   have few:(yq e.2.2).length<=5000000:=by
    have h1:=uQ (vc ps)
    have h2:∀(l:List (Int×List Rk)) p,p∈l->p.2.length<=(vc l).length:=λl p hp=>by
     induction l with
     |nil=>cases hp
     |cons a r ih=>
      have e1:vc (a::r)=vc [a]++vc r:=Qj [a] r;rw[e1,VW,CS,dz,CH];rcases CJ.mp hp with rfl |hp
      ·lia
      ·have:=ih hp;lia
    have h3:=h2 ps (yr e) (dG hpe);unfold yq;rw[CH];have h3:e.2.2.length<=_:=h3;lia
   refine⟨_,U,_,U,_,U,o,_,U,gd,r,e.2.1,_,_,U,U,e4,O4.row e me,by rw[CS,CH,dB,ai];lia,λr' H7 s7 n7 e7=>kk _ _ ⟨r',_,_,U,s4.free n7,(zC l4 n7).symm,?_,s4.trans s7,s7 _ _ l4⟩⟩;rw[e7,dR,hpe,Qj,CN];show some (HO.lst _)=some (HO.lst (_++(vc [yr e]).map V.str));rw[VW,dv,dU];unfold yq yr;rw[CP];rfl
  ·rintro σ H3 ⟨r,x3,x4,rfl,r0',rl,er,s3,el3⟩;rw[CH,CH,dX]at er;exact⟨U,_,U,_,_,r,U,U,zN.of er,(by have:=(QT (c:=10) (CW ws ∅)).1;rw[<- rE]at this;exact this),q H3 s3⟩
theorem Mo (F:qU K "_law_years" "_law_years" (top 101) f fd)(C1:qX P w K mg base zY 1 "_law_mixed" ["_law_cell","_law_k"] ju):zL P w K mg base zY 2 f fd ["_law_cell"] Ug:=by
 have nd:(["_law_cell","_law_first","_law_some"]:List af).Nodup:=⋯
 walk_at"k"
 ·obtain⟨c,rfl,_⟩:=h;rfl
 ·obtain⟨c,rfl,q⟩:=h
  refine⟨_,(zg (zF (i:=1) nd U (ay U) (zu z5 (zq C1 hr ∅ zA (za (pv 0) (za ze zd))) ze))
    (zg (zF (i:=2) nd U (ay U) (zM (za (zM (za (pv 1) (za (zu qo (pv 1) ze) (za (zu qo (pv 1) ze) (za ze zd))))) (za (zM (za ze (za ze (za ze (za ze zd))))) (za (zM (za ze (za ze (za (pv 1) (za ze zd))))) (za (zM (za ze (za ze (za ze (za (pv 1) zd))))) zd))))))
    (zh (zt (zE zy (pv 2) (zu z5 (pv 0) ze)))))),?_⟩
  refine⟨_,U,c,_,U,λm m0 m1=>⟨_,_,U,U,(by show(0:Int)<9996;decide),?_⟩⟩;have f0:0<=m%9996:=dk _ ∅;have f1:m%9996<9996:=dw _ ∅;refine⟨_,U,_,U,_,_,U,U,_,U,_,_,U,U,zS U,λl1 H1 s1 n1 e1=>⟨zS U,λl2 H2 s2 n2 e2=>⟨_,U,zS U,λl3 H3 s3 n3 e3=>⟨_,U,zS U,λl4 H4 s4 n4 e4=>⟨zS U,λl5 H5 s5 n5 e5=>?_⟩⟩⟩⟩⟩;have S4:=s1.trans (s2.trans (s3.trans s4));obtain⟨v,ev,mv⟩:=j8 (xs:=[V.ref l1,.ref l2,.ref l3,.ref l4]) (i:=c%4) (dk _ ∅) (by show c%4<4;exact dw _ ∅);refine⟨_,U,_,U,_,_,U,U,(by show(0:Int)<4;decide),l5,_,_,_,U,U,zN.of e5,ev,?_⟩;simp only[CJ,CV,or_false]at mv;rcases mv with rfl |rfl |rfl |rfl
  ·exact q [m%9996,m%9996+1,m%9996+3,9999] l1 H5 rfl (λy hy=>by simp only[CJ,CV,or_false]at hy;rcases hy with rfl |rfl |rfl |rfl<;>lia) (S4.trans s5) n1 (s5 _ _ (s4 _ _ (s3 _ _ (s2 _ _ e1))))
  ·exact q [0,9,10,100] l2 H5 rfl (λy hy=>by simp only[CJ,CV,or_false]at hy;rcases hy with rfl |rfl |rfl |rfl<;>lia) (S4.trans s5) (s1.free n2) (s5 _ _ (s4 _ _ (s3 _ _ e2)))
  ·exact q [999,1000,m%9996,0] l3 H5 rfl (λy hy=>by simp only[CJ,CV,or_false]at hy;rcases hy with rfl |rfl |rfl |rfl<;>lia) (S4.trans s5) ((s1.trans s2).free n3) (s5 _ _ (s4 _ _ e3))
  ·exact q [9998,9999,1,m%9996] l4 H5 rfl (λy hy=>by simp only[CJ,CV,or_false]at hy;rcases hy with rfl |rfl |rfl |rfl<;>lia) (S4.trans s5) ((s1.trans (s2.trans s3)).free n4) (s5 _ _ e4)
theorem Nx (F:qU K "_law_bent_rows" "_law_bent_rows" (top 105) f fd)(G:vh mg):zL P w K mg base zY 1 f fd ["_law_text_here","_law_number_here"] UB:=by
 have nd:(["_law_text_here","_law_number_here","_law_rows","_law_one"]:List af).Nodup:=⋯
 walk_at"k"
 ·obtain⟨z,n,rfl,_⟩:=h;rfl
 ·obtain⟨z,n,rfl,zl,n0,q⟩:=h;have zf:z.length<=au:=ui zl rfl
  refine⟨_,(zg (zF (i:=2) nd U (ay U) (qH aq aI aR jg (pv 0) (za zj zd)))
    (zg (zF (i:=3) nd U (ay U) (zu z5 (zu qZ (pv 1) ze) (zv zJ U G.len aH (za (pv 2) zd))))
    (zg (zK (zx qw (zu z5 (pv 1) ze) ze (zD _)) (zh (zt (qH aq aC aD ya zj (za (zu yH (z8 yG (pv 2) qA (qm (pv 3))) (z8 yG (pv 2) (qm (zu qo (pv 3) ze)) qA)) zd)))) zB)
    (zg (zK (zx qw (zu z5 (pv 1) ze) ze (zD _)) (zh (zt (qH aq aC aD ya zj (za (zu yH (z8 yG (pv 2) qA (qm (zu qo (pv 3) ze))) (z8 yG (pv 2) (qm (pv 3)) qA)) zd)))) zB)
    (zg (zK (zx qw (zu z5 (pv 1) ze) ze (zD _)) (zh (zt (qH aq aC aD ya zj (za (zu yH (zu yH (z8 yG (pv 2) qA (qm (pv 3))) (z8 yG (pv 2) (qm (zu qo (pv 3) ze)) qA)) (z8 yG (pv 2) (qm (pv 3)) (qm (zu qo (pv 3) ze)))) zd)))) zB)
    (zh (zt (zu zT (zu zT (qH aq aC aD ya zj (za (pv 2) zd)) (zu Zt zj (zu z5 (zu qZ (pv 1) ze) ze))) (zu Zt zj (zu z5 (zu qZ (pv 1) ze) ze)))))))))),?_⟩
  walk_at"d0"
  obtain⟨_,sn,w0,wr,ew⟩:=yg z "\n";have ws1:1<=(av z "\n").length:=by rw[ew];exact Dg _ _
  have wsm:yd (av z "\n")=z.length+1:=by rw[rE];exact wF z 10
  refine⟨_,U,U,_,_,U,U,U,zf,yw _ (by lia),λl H1 s1 n1 e1=>?_⟩;generalize av z "\n" = ws at e1 ws1 wsm sn;clear ew;have wp:(0:Int)<((ws.map V.str).length:Nat):=by rw[CH];lia
  have wl:=uQ ws;refine⟨_,U,_,_,U,U,⟨∅,∅⟩,_,U,l,_,U,.inl (zN.of e1),_,_,U,U,wp,?_⟩
  have cat:∀{lo hi lo2 hi2 lo3 hi3:Option Int},∃zs:List af,jR (ws.map V.str) lo hi++jR (ws.map V.str) lo2 hi2=zs.map V.str/\yd zs<=2*z.length+2:=λ{lo hi lo2 hi2 lo3 hi3}=>by
   obtain⟨u1,a1,b1,_⟩:=Wy ws lo hi;obtain⟨u2,a2,b2,_⟩:=Wy ws lo2 hi2;exact⟨u1++u2,by rw[a1,a2,CN],by rw[uV];lia⟩
  have jn:∀{zs:List af},yd zs<=4*z.length+4->AU "\n" zs=true/\(aG "\n" zs).length<=4*z.length+4:=λ{zs} h=>by
   obtain⟨j1,j2⟩:=QT (c:=10) (zs:=zs) (by lia);rw[<- rE]at j1 j2;exact⟨j1,by lia⟩
  have sz0:∀{lo hi lo2 hi2:Option Int},(jR (ws.map V.str) lo hi).length+(jR (ws.map V.str) lo2 hi2).length<=2000000:=λ{lo hi lo2 hi2}=>by
   have h1:=jM (ws.map V.str) lo hi;have h2:=jM (ws.map V.str) lo2 hi2;rw[CH]at h1 h2;lia
  have sz1:∀{lo hi lo2 hi2:Option Int},(jR (ws.map V.str) lo hi).length+(jR (ws.map V.str) lo2 hi2).length<=au:=λ{lo hi lo2 hi2}=>by
   have:=sz0 (lo:=lo) (hi:=hi) (lo2:=lo2) (hi2:=hi2);rw[ai];lia
  refine⟨_,U,_,_,U,U,(by show(0:Int)<4;decide),U,_,U,qg (λ_=>?_) (λ_=>?_)⟩
  ·refine⟨U,_,U,_,U,_,U,l,_,U,zN.of e1,λp p0=>⟨_,U,_,U,_,_,U,U,_,U,l,_,U,zN.of (zk.upd p0 _ _ e1),λp2 SH=>⟨p,p2,_,_,U,U,zk.upd SH _ _ zi,zi,sz1,λl3 H3 s3 n3 e3=>?_⟩⟩⟩;obtain⟨zs,ez,wz⟩:=cat (lo:=none) (hi:=some (n/4%((ws.map V.str).length:Nat))) (lo2:=some (n/4%((ws.map V.str).length:Nat)+1)) (hi2:=none) (lo3:=none) (hi3:=none);obtain⟨j1,j2⟩:=jn (zs:=zs) (by lia);exact⟨_,zs,l3,U,U,zN.of (e3.trans (by rw[<- ez])),j1,q _ H3 (by lia) (s1.trans ((zk.upd p0).trans ((zk.upd SH).trans s3)))⟩
  refine⟨_,U,_,_,U,U,(by show(0:Int)<4;decide),U,_,U,qg (λ_=>?_) (λ_=>?_)⟩
  ·refine⟨U,_,U,_,U,_,_,U,U,_,U,l,_,U,zN.of e1,λp p0=>⟨_,U,_,U,_,U,l,_,U,zN.of (zk.upd p0 _ _ e1),λp2 SH=>⟨p,p2,_,_,U,U,zk.upd SH _ _ zi,zi,sz1,λl3 H3 s3 n3 e3=>?_⟩⟩⟩;obtain⟨zs,ez,wz⟩:=cat (lo:=none) (hi:=some (n/4%((ws.map V.str).length:Nat)+1)) (lo2:=some (n/4%((ws.map V.str).length:Nat))) (hi2:=none) (lo3:=none) (hi3:=none);obtain⟨j1,j2⟩:=jn (zs:=zs) (by lia);exact⟨_,zs,l3,U,U,zN.of (e3.trans (by rw[<- ez])),j1,q _ H3 (by lia) (s1.trans ((zk.upd p0).trans ((zk.upd SH).trans s3)))⟩
  refine⟨_,U,_,_,U,U,(by show(0:Int)<4;decide),U,_,U,qg (λ_=>?_) (λ_=>?_)⟩
  ·refine⟨U,_,U,_,U,_,U,l,_,U,zN.of e1,λp p0=>⟨_,U,_,U,_,_,U,U,_,U,l,_,U,zN.of (zk.upd p0 _ _ e1),λp2 SH=>⟨p,p2,_,_,U,U,zk.upd SH _ _ zi,zi,sz1,λl3 H3 s3 n3 e3=>?_⟩⟩⟩;have S3:=(zk.upd p0).trans ((zk.upd SH).trans s3);obtain⟨zs,ez,wz⟩:=cat (lo:=none) (hi:=some (n/4%((ws.map V.str).length:Nat))) (lo2:=some (n/4%((ws.map V.str).length:Nat)+1)) (hi2:=none) (lo3:=none) (hi3:=none);obtain⟨us,eu,wu,ul⟩:=Wy ws (some (n/4%((ws.map V.str).length:Nat))) (some (n/4%((ws.map V.str).length:Nat)+1));obtain⟨j1,j2⟩:=jn (zs:=zs++us) (by rw[uV];lia);refine⟨_,U,_,U,_,U,_,U,_,_,U,U,_,U,l,_,U,zN.of (S3 _ _ e1),λp3 p30=>⟨l3,p3,_,_,U,U,zk.upd p30 _ _ e3,zi,?_,λl4 H4 s4 n4 e4=>⟨_,zs++us,l4,U,U,zN.of (e4.trans (by rw[CN,<- ez,<- eu])),j1,q _ H4 (by lia) (s1.trans (S3.trans ((zk.upd p30).trans s4)))⟩⟩⟩;have h3:∀lo hi,(jR (ws.map V.str) lo hi).length<=ws.length:=λlo hi=>CW (jM _ lo hi) (Dy (CH _));rw[CS,ai];exact CW (EI sz0 (h3 _ _)) (by lia)
  obtain⟨j1,j2⟩:=jn (zs:=ws) (by lia);have z1:("\n":af).length=1:=⋯
  have y9:("year 9999":af).length=9:=⋯
  have m1:0<=n/4%2/\n/4%2<2:=⟨dk _ ∅,dw _ ∅⟩;have m2:0<=n/8%2/\n/8%2<2:=⟨dk _ ∅,dw _ ∅⟩;have t1:(jx "\n" (n/4%2)).length<=1:=by rw[Zx,z1];lia
  have t2:(jx "year 9999" (n/8%2)).length<=9:=by
   rw[Zx,y9];have:(n/8%2).toNat<=1:=by lia
   have:=Ei 9 this;lia
  refine⟨U,_,U,_,ws,l,U,U,zN.of e1,j1,?_⟩;refine⟨_,U,_,_,U,U,⟨∅,∅⟩,_,_,U,U,(by show(0:Int)<2;decide),?_⟩;refine⟨_,_,U,U,by lia,by lia,(by rw[z1,ai];lia),_,_,U,U,(by rw[ai];lia),?_⟩;refine⟨_,U,_,_,U,U,⟨∅,∅⟩,_,_,U,U,(by show(0:Int)<2;decide),?_⟩;exact⟨_,_,U,U,by lia,by lia,(by rw[y9,ai];lia),_,_,U,U,(by rw[yn,ai];lia),q _ H1 (by rw[yn,yn];lia) s1⟩
end
end K12
variable {H0:L2.Hp}
namespace Pg
open PySem PySem.NumText L2 Builtin Builtin.Str
theorem OH (ws:List af):∀ps:List (Int×List af),∃ext,(ws.foldl ur ps).map (·.1)=ps.map (·.1)++ext:=by
 induction ws with
 |nil=>intro ps;exact⟨[],(dF _).symm⟩
 |cons w r ih=>
  intro ps;rw[De];obtain⟨e1,h1⟩:=ih (ur ps w)
  have:∃e2,(ur ps w).map (·.1)=ps.map (·.1)++e2:=by
   by_cases hb:wX w=true
   ·rw[vZ hb,CN];exact⟨_,U⟩
   ·cases hl:ps.getLast? with
    |none=>
     unfold ur;rw[K5 hb,hl];exact⟨[],(dF _).symm⟩
    |some p=>
     obtain⟨qs,rfl⟩:∃qs,ps=qs++[p]:=⟨ps.dropLast,by
      have ne:ps≠[]:=λz=>by rw[z]at hl;cases hl
      have:=List.getLast?_eq_some_getLast ne;rw[hl]at this;rw[ao this];exact(Dq ne).symm⟩
     rw[Qc (dI.mpr hb),CN,CN];exact⟨[],(dF _).symm⟩
  obtain⟨e2,h2⟩:=this;exact⟨e2++e1,by rw[h1,h2,dU]⟩
theorem LF {es:List (Int×List Rk)}(h:jP z es)(ne:z≠""):∀r∈av z "\n",wX r=true∨∃R,OY r=some R:=by
 obtain⟨w,wr,e1,hb,e2⟩:=jq h ne;intro r hr;rw[e1,<- kJ hb,e2,Ux]at hr;obtain⟨l,hl,hr⟩:=DU.mp hr;obtain⟨e,he,rfl⟩:=CK.mp hl;have yo:=h.2.1 e he;rcases CJ.mp hr with rfl |hr
 ·exact .inl (Li yo.1 yo.2.1).1
 ·obtain⟨q,hq,rfl⟩:=CK.mp hr;exact .inr ⟨q,ud (yo.2.2.gd q hq)⟩
theorem R8 {es fs:List (Int×List Rk)}(g1:∀e∈es,∀r∈e.2,Gd 3 r)(g2:∀e∈fs,∀r∈e.2,Gd 3 r)(h:es.map Va=fs.map Va):es=fs:=by
 have gd:∀{es:List (Int×List Rk)},(∀e∈es,∀r∈e.2,Gd 3 r)->(es.map Va).map (λp=>(p.1,p.2.map OY))=es.map λe=>(e.1,e.2.map some):=λ{es} ok=>by
  rw[CP];refine dY λe he=>?_;show(e.1,(e.2.map q8).map OY)=_;rw[CP]
  congr 1
  exact dY λq hq=>ud (ok e he q hq)
 have e:=(gd g1).symm.trans ((K4 (KR λp:Int×List af=>(p.1,p.2.map OY)) h).trans (gd g2))
 have inj:∀a b:Int×List Rk,(a.1,a.2.map some)=(b.1,b.2.map some)->a=b:=λa b h=>by
  have h1:a.1=b.1:=K4 (·.1) h;have h2:a.2.map some=b.2.map some:=K4 (·.2) h;exact Prod.ext h1 ((eV λ_ _ h=>ao h).mp h2)
 exact(eV inj).mp e
structure JY (H0 H:Hp)(o:ag)(fs:List Be):Prop where
 own:WZ H o fs
 na:(fs.map (·.2.1)).Nodup
 fr:∀e∈fs,H0 e.2.1=none
theorem JY.same {o:ag}{fs:List Be}(b:JY H0 H o fs)(s:zk H H'):JY H0 H' o fs:=⟨b.own.same s,b.na,b.fr⟩
theorem JY.new {o l:ag}{fs:List Be}(b:JY H0 H o fs)(s0:zk H0 H)(s:zk H H1)(n:H l=none)(e1:H1 l=some (.lst []))(ny:∀e∈fs,e.1≠Y):JY H0 (upd H1 o (.dK (j0 (fs++[(Y,l,[])])))) o (fs++[(Y,l,[])]):=by
 have b1:=b.own.same s
 have k:∀c u,H1 c=some u->(∀kv,u≠.dK kv)->(upd H1 o (.dK (j0 (fs++[(Y,l,[])])))) c=some u:=λc u h q=>by
  rw[zm λe=>by rw[e,b1.dic]at h;exact q _ (ao h).symm];exact h
 refine⟨⟨zi,?_,λe he=>?_,λe he r hr=>?_⟩,?_,λe he=>?_⟩
 ·rw[CN];refine DO.mpr ⟨b1.nd,Da.mpr ⟨(λz=>nomatch z),Df⟩,λa ha c hc e=>?_⟩;obtain⟨x,hx,rfl⟩:=CK.mp ha;rw[dv,d8,CY]at hc;exact ny x hx (e.trans hc)
 ·rcases CQ.mp he with he |he
  ·exact k _ _ (b1.row e he) (λ_ z=>nomatch z)
  ·rw[CY.mp he];exact k _ _ e1 (λ_ z=>nomatch z)
 ·rcases CQ.mp he with he |he
  ·exact b1.gd e he r hr
  ·rw[CY.mp he]at hr;cases hr
 ·rw[CN];refine DO.mpr ⟨b.na,Da.mpr ⟨(λz=>nomatch z),Df⟩,λa ha c hc e=>?_⟩;obtain⟨x,hx,rfl⟩:=CK.mp ha;rw[dv,d8,CY]at hc;exact zC (b.own.row x hx) n (e.trans hc)
 ·rcases CQ.mp he with he |he
  ·exact b.fr e he
  ·rw[CY.mp he];exact s0.free n
theorem JY.more {o:ag}{fs:List Be}{e:Be}{R:Rk}(b:JY H0 H o (fs++[e]))(g:Gd 3 R):JY H0 (upd H e.2.1 (.lst (yq e.2.2++[.str (q8 R)]))) o (fs++[(e.1,e.2.1,e.2.2++[R])]):=by
 have me:e∈fs++[e]:=CQ.mpr (.inr CU);have na:=b.na;rw[CN]at na;have dis:=(DO.mp na).2.2;have k:∀c u,H c=some u->c≠e.2.1->(upd H e.2.1 (.lst (yq e.2.2++[.str (q8 R)]))) c=some u:=λc u h q=>by rw[zm q];exact h
 have ek:j0 (fs++[(e.1,e.2.1,e.2.2++[R])])=j0 (fs++[e]):=by
  unfold j0;rw[CN,CN];rfl
 refine⟨⟨?_,?_,λx hx=>?_,λx hx r hr=>?_⟩,?_,λx hx=>?_⟩
 ·rw[ek];exact k _ _ b.own.dic (yy b.own.dic (b.own.row e me) (by intro z;cases z))
 ·have:=b.own.nd;rw[CN]at this ⊢;exact this
 ·rcases CQ.mp hx with hx |hx
  ·exact k _ _ (b.own.row x (CQ.mpr (.inl hx))) (dis _ (CK.mpr ⟨x,hx,U⟩) _ (CK.mpr ⟨e,CU,U⟩))
  ·rw[CY.mp hx];show upd H e.2.1 _ e.2.1=_;rw[zi];unfold yq;rw[CN];rfl
 ·rcases CQ.mp hx with hx |hx
  ·exact b.own.gd x (CQ.mpr (.inl hx)) r hr
  ·rw[CY.mp hx]at hr;rcases CQ.mp hr with hr |hr
   ·exact b.own.gd e me r hr
   ·rw[CY.mp hr];exact g
 ·rw[CN];exact na
 ·rcases CQ.mp hx with hx |hx
  ·exact b.fr x (CQ.mpr (.inl hx))
  ·rw[CY.mp hx];exact b.fr e me
def vm (fs:List Be):Int:=((fs.getLast?).map (·.1)).getD (-1)
theorem vb (fs:List Be)(e:Be):vm (fs++[e])=e.1:=by
 unfold vm;rw[Fs];rfl
theorem Po (ws:List af)(z:af):J8 (ws++[z])=ur (J8 ws) z:=by
 unfold J8;rw[eg];rfl
end Pg
namespace L2
open PySem PySem.Spec PyProof.Rows
section
variable {K:BFr}{D:j6}
theorem oh (Pv:Nat->St->Hp->Prop)(Rv:V->Hp->Prop)(h0:Pv 0 σ H)(hl:∀i σ H,i<=xs.length->Pv i σ H->zN K H a xs)(hr:∀v H',Rv v H'->D.rt v H')(hs:∀i x σ H,xs[i]?=some x->Pv i σ H->∀E:j6,(∀σ' H',Pv (i+1) σ' H'->E.nx σ' H')->(∀v H',Rv v H'->E.rt v H')->g x σ H λσ2 H2=>tb E σ2 H2)(hd:∀σ H,Pv xs.length σ H->D.nx σ H):m9 (mW K a) g tb D σ H :=
 Y5 Pv h0 hl (λi x σ H hx p=>hs i x σ H hx p _ (λ_ _ h=>h) hr) hd
theorem NF {J:It}(Pv:Nat->St->Hp->Prop)(Rv:V->Hp->Prop)(h0:Pv 0 σ H)(hg:∀i x σ H,xs[i]?=some x->Pv i σ H->J.go i H/\∀y H',J.yld i H y H'->H'=H/\y=x)(hp:∀σ H,Pv xs.length σ H->J.stop xs.length H)(hr:∀v H',Rv v H'->D.rt v H')(hs:∀i x σ H,xs[i]?=some x->Pv i σ H->∀E:j6,(∀σ' H',Pv (i+1) σ' H'->E.nx σ' H')->(∀v H',Rv v H'->E.rt v H')->g x σ H λσ2 H2=>tb E σ2 H2)(hd:∀σ H,Pv xs.length σ H->D.nx σ H):m9 J g tb D σ H :=
 tS Pv h0 hg hp (λi x σ H hx p=>hs i x σ H hx p _ (λ_ _ h=>h) hr) hd
end
end L2
namespace K12
open PySem PySem.NumText L2 Pg
seal PE PA PT PW PS y8 PG j5 PI jQ PO PK
section
variable {K:BFr}{mg:af->Option ae}
theorem tE (F:qU K "_law_book" "_law_book" (top 104) f fd)(G:vh mg)(C1:qX P w K mg base zY 1 "_law_year_in" ["_law_row_here"] YC)(C2:qX P w K mg base zY 9 "_law_read" ["_law_text_here"] Ue):zL P w K mg base zY 10 f fd ["_law_text_here"] X5:=by
 have nd:(["_law_text_here","_law_own","_law_last","_law_row_here","_law_year","_law_told_here"]:List af).Nodup:=⋯
 have nc:(["_law_row_here"]:List af).Nodup:=⋯
 walk_at"k"
 ·obtain⟨z,rfl,_⟩:=h;rfl
 ·obtain⟨z,rfl,hz,q⟩:=h;have hu:=VM hr
  refine' ⟨_,(zg (zF (i:=1) nd U (ay U) ZJ)
   (zg (zF (i:=2) nd U (ay U) (GO U2 ze))
   (zg (zK (zx qw (pv 0) zj (zD _)) (zh (zt (pv 1))) zB)
   (zg (ue fS U (ye (qH aq aI aR jg (pv 0) (za zj zd))) (zO (i:=3) nd U (ay U)) (zg (zF (i:=4) nd U (ay U) (zq C1 hr ∅ zA (za (pv 3) zd)))
    (zh (zK (zx Mx (pv 4) yR (zD _)) (zg (zK (zx Jt (pv 4) (pv 2) (zD _)) (zh (zt yR)) zB)
     (zg (Uy hu (pv 1) (pv 4) (zM zd) U) (zh (zF (i:=2) nd U (ay U) (pv 4)))))
     (zh (zK (PW.pt (yI (zx wO (pv 2) ze (zD _)) (yJ (zx pB (zq C2 hr ∅ zA (za (pv 3) zd)) yR (zD _))))) (zh (zt yR)) (zh (z6 (qH aS e_ fc jJ (Zc hu (pv 1) (pv 2) (λ_ _=>rfl)) (za (pv 3) zd))))))))))
   (zg (mQ (ue fS U (gW (pv 1)) (zO (i:=4) nd U (ay U)) (zg ?c1
    (zh (zK (PW.pt (yI (zx vX (zv zJ U G.len aH (za (pv 5) zd)) ze (zD _)) (yJ (zx wO (Vl U U G.len U G.set (za (pv 5) zd)) (zv zJ U G.len aH (za (pv 5) zd)) (zD _))))) (zh (zt yR)) zB)))))
   (zh (zt (pv 1)))))))),?main⟩
  case c1=>
   refine' Zb (i:=5) (cl:=[]) (src:=[none]) (wi:=Zl K (Le (zV 1) (zV 4))) (g:=qc 0) (tt:=qL) (te:=vp (Zg K) (λσ H Q=>qN (zV 0) y6 σ H λvs H1=>Ue vs H1 Q E0) (tC (.int 1)))
    nd rfl rfl (cO nc ⟨U,U,⋯,⋯,(λx c z=>nomatch z),qF (by rfl),zR qb,U⟩) rfl (ye (Zc hu (pv 1) (pv 4) (λ_ _=>rfl))) ?hb
   case hb=>
    intro fp C' s' H';exact⟨zO (i:=0) nc U (ay U),qt,zE qT (zq C2 hr ∅ zA (za (pv 0) zd)) ze⟩
  walk_at"d0"
  have zf:z.length<=au:=ui hz rfl;obtain⟨sl,sn,w,wr,ew⟩:=yg z "\n";refineλo H1 s1 o0 e1=>?_;have e1:H1 o=some (.dK (j0 [])):=e1;refine⟨_,U,?_⟩;refine⟨_,U,U,_,U,?_⟩
  by_cases nz:z = ""
  ·subst nz;rw[i' rfl];exact qY ⟨_,U,(q H1 s1).1 [] JC o [] o0 ⟨e1,Df,(λe h=>nomatch h),(λe h=>nomatch h)⟩ U⟩
  rw[D' λc=>nz (V.str.inj c)];refine qM ⟨_,U,U,_,_,U,U,U,zf,yw _ hz,λl H2 s2 l0 e2=>?_⟩
  have back:∀es,jP z es->J8 (w::wr)=es.map Va:=λes ib=>by
   obtain⟨w',r',e1,_,e2⟩:=jq ib nz;rw[ew]at e1;cases e1;exact e2
  have first:∀es,jP z es->wX w=true:=λes ib=>by
   obtain⟨w',r',e1,e2,_⟩:=jq ib nz;rw[ew]at e1;cases e1;exact e2
  have rows:∀es,jP z es->∀r∈w::wr,wX r=true∨∃R,OY r=some R:=λes ib r N'=>LF ib nz r (by rw[ew];exact N');rw[ew]at e2 sn sl;generalize hws:w::wr=ws at e2 sn sl back rows;have OB2:JY H H2 o []:=⟨⟨s2 _ _ e1,Df,(λe h=>nomatch h),(λe h=>nomatch h)⟩,Df,(λe h=>nomatch h)⟩
  refine⟨l,U,⟨_,zN.of e2⟩,oh (K:=K) (a:=l) (xs:=ws.map V.str) (λi σ H'=>∃x3 x4 x5 fs,σ=[some (.str z),some (.ref o),some (.int (vm fs)),x3,x4,x5]/\JY H H' o fs/\H' l=some (.lst (ws.map V.str))/\(∀e∈fs,e.2.1≠l)/\zk H H'/\J8 (ws.take i)=(fs.map yr).map Va/\(fs.map (·.1)).Pairwise (λx y:Int=>x<y)/\(1<=i->fs≠[]/\wX w=true)/\(∀e∈fs,e.2.2.length<=i)/\fs.length<=i/\∀e∈fs,0<=e.1) (λv H'=>v=.non/\zk H H'/\∀es,¬jP z es)
   ⟨_,_,_,[],U,OB2,e2,(λe h=>nomatch h),s1.trans s2,U,fX,(λh=>K7 h ∅),(λe h=>nomatch h),CI _,(λe h=>nomatch h)⟩ (λi σ H' _ z=>?_) (λv H' z=>?_) ?_ ?_⟩
  ·obtain⟨_,_,_,_,_,_,z,_⟩:=z;exact zN.of z
  ·obtain⟨rfl,s',no⟩:=z;exact(q H' s').2 no
  ·rintro i x σ H3 hx ⟨x3,x4,x5,fs,rfl,OB,el,nl,s3,pr,up,q1,rl,fl,y0⟩ E3 k3 r3;rw[CO]at hx;obtain⟨y,hy,rfl⟩:=C8.mp hx;have my:=dG hy;have hi:i<ws.length:=(C7.mp hy).1;have tk:ws.take (i+1)=ws.take i++[y]:=by rw[dR,hy];rfl
   have pr':J8 (ws.take (i+1))=ur ((fs.map yr).map Va) y:=by rw[tk,Po,pr]
   have y1:1<=i∨y=w:=by
    cases i with
    |zero=>
     rw[<- hws]at hy;exact .inr (ao hy).symm
    |succ i=>exact .inl (Dg _ _)
   refine⟨_,U,y,U,CW (sn y my) hz,λH4 s4=>?_⟩;have OB4:=OB.same s4;have S4:=s3.trans s4;have el4:=s4 _ _ el;refine⟨_,U,U,_,U,?_⟩
   by_cases hb:wX y=true
   ·have ho:Bj y=.int (Yq y):=K6 hb;rw[ho];have hk:=UU hb;refine qY ⟨_,U,_,U,_,_,U,U,_,U,qg (λe=>?_) (λe=>?_)⟩
    ·have e:Yq y<=vm fs:=G' e;refine r3 _ _ ⟨U,S4,λes ib=>?_⟩;have b:=back es ib;obtain⟨ext,hx⟩:=OH (ws.drop (i+1)) (J8 (ws.take (i+1)))
     have:(ws.drop (i+1)).foldl ur (J8 (ws.take (i+1)))=J8 ws:=by
      unfold J8;rw[<- eg,DE]
     rw[this,b,pr',vZ hb]at hx;have u:=ib.2.2;rw[show es.map (·.1)=(es.map Va).map (·.1) by rw[CP];rfl,hx,CN]at u;have u1:=(eF.mp u).1;have u2:=(eF.mp u1).2.2
     by_cases hf:fs=[]
     ·subst hf;have:vm [] = -1:=rfl;lia
     ·obtain⟨gs,ge,rfl⟩:∃gs ge,fs=gs++[ge]:=⟨fs.dropLast,fs.getLast hf,(Dq hf).symm⟩;rw[vb]at e;have:=u2 ge.1 (CK.mpr ⟨Va (yr ge),CK.mpr ⟨yr ge,CK.mpr ⟨ge,CQ.mpr (.inr CU),U⟩,U⟩,U⟩) (Yq y) CU;lia
    ·have e:¬Yq y<=vm fs:=λc=>e (i' c)
     have below:∀x∈fs,x.1<Yq y:=λx hx=>by
      have hf:fs≠[]:=λz=>by rw[z]at hx;cases hx
      obtain⟨gs,ge,rfl⟩:∃gs ge,fs=gs++[ge]:=⟨fs.dropLast,fs.getLast hf,(Dq hf).symm⟩;rw[vb]at e;rcases CQ.mp hx with hx |hx
      ·rw[CN]at up;have:=(eF.mp up).2.2 x.1 (CK.mpr ⟨x,hx,U⟩) ge.1 CU;lia
      ·rw[CY.mp hx];lia
     refine⟨zS U,λl' H5 s5 n5 e5=>⟨_,U,_,U,o,_,U,Xs.k (k:=a_ (Yq y)) (s5 _ _ OB4.own.dic) (by unfold j0;rw[CH,ai];lia),?_⟩⟩;rw[Xv (a:=l') (rs:=[]),Ga λb SY c=>by have:=below b SY;lia];have ON:=OB4.new (Y:=Yq y) S4 s5 n5 e5 λx hx c=>by have:=below x hx;lia
     refine⟨_,U,k3 _ _ ⟨_,_,_,fs++[(Yq y,l',[])],by rw[vb];rfl,ON,?_,λx hx=>?_,λb u SY=>?_,?_,?_,λ_=>⟨by simp,?_⟩,λx hx=>?_,?_,λx hx=>?_⟩⟩
     ·rw[zm (yy (s5 _ _ el4) (s5 _ _ OB4.own.dic) (by intro z;cases z))];exact s5 _ _ el4
     ·rcases CQ.mp hx with hx |hx
      ·exact nl x hx
      ·rw[CY.mp hx];exact(zC el4 n5).symm
     ·rw[zm (zC SY o0)];exact s5 _ _ (S4 _ _ SY)
     ·rw[pr',vZ hb,CN,CN];rfl
     ·rw[CN];refine eF.mpr ⟨up,EO _ _,λa ha b SY=>?_⟩;obtain⟨x,hx,rfl⟩:=CK.mp ha;rw[dv,d8,CY]at SY;rw[SY];exact below x hx
     ·rcases y1 with y1 |rfl
      ·exact(q1 y1).2
      ·exact hb
     ·rcases CQ.mp hx with hx |hx
      ·exact DC (rl x hx)
      ·rw[CY.mp hx];exact du _
     ·rw[CS,dB];lia
     ·rcases CQ.mp hx with hx |hx
      ·exact y0 x hx
      ·rw[CY.mp hx];exact hk.2.1
   ·have ho:Bj y=.non:=K5 hb;rw[ho];refine qM ?_;refine QL (λR=>∀H',zk H4 H'->R (decide (vm fs<0) || (OY y).isNone) H') (λR r=>?_) (λH5 s5=>qg (λe=>?_) (λe=>?_))
    ·refine⟨_,U,_,_,U,U,_,U,qg (λe=>?_) (λe=>?_)⟩
     ·have e:vm fs<0:=G' e;rw[i' e]at r;exact r H4 (zk.refl _)
     ·have e:¬vm fs<0:=λc=>e (i' c);rw[D' e,dS]at r;refine⟨_,U,y,U,CW (sn y my) hz,λv H5 s5 rt=>?_⟩;have r:=r H5 s5
      cases er:OY y with
      |none=>
       have N_:wQ 3 (av y " ")=none:=er;rw[N_]at rt;have rt:v=.non:=rt;subst rt;rw[er]at r;exact⟨U,_,U,r⟩
      |some R' =>
       have N_:wQ 3 (av y " ")=some R':=er;rw[N_]at rt;have rt:Yv H5 R' v:=rt;obtain⟨t,tl,rfl,ht,hnm⟩:=rt.name (Gi N_);rw[er]at r;exact⟨U,_,U,r⟩
    ·refine r3 _ _ ⟨U,S4.trans s5,λes ib=>?_⟩;rw[Dz]at e;rcases e with e |e
     ·have e:vm fs<0:=G' e
      by_cases hf:fs=[]
      ·rcases y1 with y1 |rfl
       ·exact(q1 y1).1 hf
       ·exact hb (first es ib)
      ·obtain⟨gs,ge,rfl⟩:∃gs ge,fs=gs++[ge]:=⟨fs.dropLast,fs.getLast hf,(Dq hf).symm⟩;rw[vb]at e;have:=y0 ge (CQ.mpr (.inr CU));lia
     ·rcases rows es ib y my with h |⟨R',h⟩
      ·exact hb h
      ·rw[h]at e;cases e
    ·have e:=dI.mpr e;rw[DR]at e;have e1':¬vm fs<0:=of_decide_eq_false e.1
     obtain⟨R',er⟩:∃R',OY y=some R':=by
      cases h:OY y with
      |none=>rw[h]at e;cases e.2
      |some R'=>exact⟨R',U⟩
     have N_:wQ 3 (av y " ")=some R':=er;have gR:Gd 3 R':=Gi N_;have rb:q8 R'=y:=Ww N_
     have hf:fs≠[]:=λz=>by
      rw[z]at e1';exact e1' ∅
     obtain⟨gs,ge,rfl⟩:∃gs ge,fs=gs++[ge]:=⟨fs.dropLast,fs.getLast hf,(Dq hf).symm⟩;have mge:ge∈gs++[ge]:=CQ.mpr (.inr CU);have OB5:=OB4.same s5
     have gd:wZ H5 o (.int (vm (gs++[ge]))) (some (.ref ge.2.1)):=by
      rw[vb,<- QU OB5.own.nd mge];exact wZ.k (k:=a_ ge.1) OB5.own.dic
     have rw5:=OB5.own.row ge mge;have rle:=rl ge mge;refine⟨_,U,_,U,o,_,U,gd,.inl ⟨U,_,zN.of rw5⟩,_,U,ge.2.1,_,_,U,U,rw5,(by unfold yq;rw[CH,ai];lia),?_⟩;have OM:=OB5.more gR;rw[rb]at OM;refine k3 _ _ ⟨_,_,_,gs++[(ge.1,ge.2.1,ge.2.2++[R'])],by rw[vb,vb];rfl,OM,?_,λx hx=>?_,λb u SY=>?_,?_,?_,λ_=>⟨by simp,?_⟩,λx hx=>?_,?_,λx hx=>?_⟩
     ·rw[zm (nl ge mge).symm];exact s5 _ _ el4
     ·rcases CQ.mp hx with hx |hx
      ·exact nl x (CQ.mpr (.inl hx))
      ·rw[CY.mp hx];exact nl ge mge
     ·rw[zm (zC SY (OB.fr ge mge))];exact s5 _ _ (S4 _ _ SY)
     ·rw[pr',CN,CN];show ur (_++[Va (yr ge)]) y=_;rw[Qc (dI.mpr hb),CN,CN,<- rb]
      congr 1
      unfold Va yr;show [(ge.1,ge.2.2.map q8++[q8 R'])]=[(ge.1,(ge.2.2++[R']).map q8)];rw[CN];rfl
     ·rw[CN]at up ⊢;exact up
     ·rcases y1 with y1 |rfl
      ·exact(q1 y1).2
      ·rename_i h0
       cases i with
       |zero=>exact K7 (Nat.le_zero.mp fl) (by simp)
       |succ i=>exact(q1 (Dg _ _)).2
     ·rcases CQ.mp hx with hx |hx
      ·exact DC (rl x (CQ.mpr (.inl hx)))
      ·rw[CY.mp hx];show(ge.2.2++[R']).length<=i+1;rw[CS,dB];lia
     ·rw[CS]at fl ⊢;exact DC fl
     ·rcases CQ.mp hx with hx |hx
      ·exact y0 x (CQ.mpr (.inl hx))
      ·rw[CY.mp hx];exact y0 ge mge
  ·rintro σ H3 ⟨x3,x4,x5,fs,rfl,OB,el,nl,s3,pr,up,q1,rl,fl,y0⟩;rw[CH,dX]at pr;rw[CH]at q1 rl fl;have q1:=q1 (by rw[<- hws];exact Dg _ _)
   have gdf:∀e∈fs.map yr,∀r∈e.2,Gd 3 r:=λe he=>by
    obtain⟨b,hb,rfl⟩:=CK.mp he;exact OB.own.gd b hb
   have only:∀es,jP z es->es=fs.map yr:=λes ib=>R8 (λe he r N'=>(ib.2.1 e he).2.2.gd r N') gdf ((back es ib).symm.trans pr);have dic:=OB.own.dic;refine⟨o,j0 fs,dic,λob=>?_⟩
   have ek:(j0 fs).map (λp=>kV p.1)=(fs.map (·.1)).map V.int:=by
    unfold j0;rw[CP,CP];rfl
   have wd:=VC (H:=upd H3 o (.frz ob (.dK (j0 fs)))) (d:=o) (o:=ob) (kvs:=j0 fs) zi;rw[ek]at wd;refine⟨_,U,o,ob,j0 fs,U,zi,NF (xs:=(fs.map (·.1)).map V.int) (λi σ H'=>∃x4 x5,σ=[some (.str z),some (.ref o),some (.int (vm fs)),x3,x4,x5]/\zk (upd H3 o (.frz ob (.dK (j0 fs)))) H'/\∀e∈fs.take i,Qn e.2.2) (λv H'=>v=.non/\zk (upd H3 o (.frz ob (.dK (j0 fs)))) H'/\∀es,¬jP z es) ⟨_,_,U,zk.refl _,(λe h=>nomatch h)⟩ (λi x σ H' hx z=>?_) (λσ H' z=>?_) (λv H' z=>?_) ?_ ?_⟩
   ·obtain⟨_,_,_,s',_⟩:=z;exact wd.1 i x H' hx s'
   ·obtain⟨_,_,_,s',_⟩:=z;have:=wd.2 H' s';exact this
   ·obtain⟨rfl,s',no⟩:=z;exact⟨s' _ _ zi,(q _ (s3.trans (QZ dic s'))).2 no⟩
   ·rintro i x σ H4 hx ⟨x4,x5,rfl,s4,ok4⟩ E4 k4 r4;rw[CP,CO]at hx;obtain⟨e,he,rfl⟩:=C8.mp hx;have me:=dG he;have do4:H4 o=some (.frz ob (.dK (j0 fs))):=s4 _ _ zi
    have gd:wZ H4 o (.int e.1) (some (.ref e.2.1)):=by
     rw[<- QU OB.own.nd me];exact .inl ⟨j0 fs,a_ e.1,.inr ⟨ob,do4⟩,U,U⟩
    have row4:H4 e.2.1=some (.lst (yq e.2.2)):=s4 _ _ (by rw[zm (yy (OB.own.row e me) dic (by intro z;cases z))];exact OB.own.row e me);have ge:=OB.own.gd e me;have rle:=rl e me;refine⟨_,U,_,U,o,_,U,gd,e.2.1,U,⟨_,zN.of row4⟩,λD hD=>js (jc (zN.of row4)) (X6 e.2.2) hD (by rw[ai];lia) (λr=>V.str r.name) (λr hm v H5 R s5 ev k=>?_) (λH5 s5 e5=>?_)⟩
    ·subst ev;refine⟨_,U,q8 r,U,CW (kC (ge r hm)) ∅,λv H6 s6 rt=>?_⟩;rw[ud (ge r hm)]at rt;have rt:Yv H6 r v:=rt;obtain⟨t,tl,rfl,ht,hnm⟩:=rt.name (ge r hm);exact⟨t,_,_,_,U,U,yE.of ht,hnm,k _ s6⟩
    have e5':H5 D=some (.lst ((e.2.2.map Rk.name).map V.str)):=by rw[e5,CP];rfl
    have S5:=s4.trans s5
    have Sk:¬Qn e.2.2->∀es,¬jP z es:=λno es ib=>by
     have:=only es ib;subst this;exact no (ib.2.1 (yr e) (CK.mpr ⟨e,me,U⟩)).2.2
    refine⟨_,U,D,_,U,.inl (zN.of e5'),_,_,U,U,_,U,qg (λc=>?_) (λc=>?_)⟩
    ·have c:(8:Int)<(((e.2.2.map Rk.name).map V.str).length:Nat):=G' c;rw[CH,CH]at c;exact r4 _ _ ⟨U,S5,Sk λok=>by have:=ok.few;lia⟩
    have c:¬(8:Int)<(((e.2.2.map Rk.name).map V.str).length:Nat):=λh=>c (i' h);rw[CH,CH]at c;refine⟨_,U,D,e.2.2.map Rk.name,U,zN.of e5',by rw[CH];lia,λn nle nn=>?_⟩;rw[CH]at nle nn;refine⟨_,U,D,_,U,.inl (zN.of e5'),_,_,U,U,_,U,qg (λc2=>?_) (λc2=>?_)⟩
    ·have c2:((n:Nat):Int)<(((e.2.2.map Rk.name).map V.str).length:Nat):=G' c2;rw[CH,CH]at c2;exact r4 _ _ ⟨U,S5,Sk λok=>nn.mp (by lia) ok.nd⟩
    ·have c2:¬((n:Nat):Int)<(((e.2.2.map Rk.name).map V.str).length:Nat):=λh=>c2 (i' h);rw[CH,CH]at c2
     have nd':(e.2.2.map Rk.name).Nodup:=by
      by_cases h:(e.2.2.map Rk.name).Nodup
      ·exact h
      ·exact K7 (nn.mpr h) (by lia)
     refine k4 _ _ ⟨_,_,U,S5,λx hx=>?_⟩;rw[dR,he]at hx;rcases CQ.mp hx with hx |hx
     ·exact ok4 x hx
     ·rw[CY.mp hx];exact⟨ge,nd',by lia⟩
   ·rintro σ H4 ⟨x4,x5,rfl,s4,ok4⟩;rw[CH,CH,dX]at ok4;have ST:=QZ dic s4
    have ib:jP z (fs.map yr):=Gk (w:=w) (r:=wr) (by rw[ew]) q1.2 (by rw[hws];exact pr) (by rw[CP];exact up) λe he=>by
     obtain⟨b,hb,rfl⟩:=CK.mp he;exact ok4 b hb
    exact⟨s4 _ _ zi,_,U,(q _ (s3.trans ST)).1 _ ib o fs o0 (OB.own.same ST) U⟩
theorem tM (F:qU K "_law_word" "_law_word" (top 100) f fd)(G:vh mg)(D:cW mg d):WI P w K mg base 1 f fd ["_law_e"] (U3 K d):=by
 have nd:(["_law_e","_law_found","_law_words"]:List af).Nodup:=⋯
 refine F.okQ (nS nd (by walk_at"s")) (λvs H Q E h=>?_) (λK9 A outer s H vs Q hr hq h=>?_)
 ·obtain⟨ea,C,i,rfl,_⟩:=h;rfl
 ·obtain⟨ea,C,i,rfl,h0,kd,hi,q⟩:=h
  refine' ⟨_,(uG (zF (i:=1) nd U (ay U) (zM (za (zv zG U G.isinstance zz (za (pv 0) (za (zQ (v:=.ref (d 0)) U D.g0 U) zd))) (za (zv zG U G.isinstance zz (za (pv 0) (za (zQ (v:=.ref (d 1)) U D.g1 U) zd))) (za (zv zG U G.isinstance zz (za (pv 0) (za (zQ (v:=.ref (d 2)) U D.g2 U) zd))) (za (zv zG U G.isinstance zz (za (pv 0) (za (zQ (v:=.ref (d 3)) U D.g3 U) zd))) zd))))))
    (uG (zF (i:=1) nd U (ay U) (zu yH (pv 1) (zM (za (zv zG U G.isinstance zz (za (pv 0) (za (zQ (v:=.ref (d 4)) U D.g4 U) zd))) (za (zv zG U G.isinstance zz (za (pv 0) (za (zQ (v:=.ref (d 5)) U D.g5 U) zd))) (za (zv zG U G.isinstance zz (za (pv 0) (za (zQ (v:=.ref (d 6)) U D.g6 U) zd))) (za (zv zG U G.isinstance zz (za (pv 0) (za (zQ (v:=.ref (d 7)) U D.g7 U) zd))) zd)))))))
    (uG (zF (i:=1) nd U (ay U) (zu yH (pv 1) (zM (za (zv zG U G.isinstance zz (za (pv 0) (za (zQ (v:=.ref (d 8)) U D.g8 U) zd))) (za (zv zG U G.isinstance zz (za (pv 0) (za (zQ (v:=.ref (d 9)) U D.g9 U) zd))) (za (zv zG U G.isinstance zz (za (pv 0) (za (zQ (v:=.ref (d 10)) U D.g10 U) zd))) (za (zv zG U G.isinstance zz (za (pv 0) (za (zQ (v:=.ref (d 11)) U D.g11 U) zd))) zd)))))))
    (uG (zF (i:=1) nd U (ay U) (zu yH (pv 1) (zM (za (zv zG U G.isinstance zz (za (pv 0) (za (zQ (v:=.ref (d 12)) U D.g12 U) zd))) (za (zv zG U G.isinstance zz (za (pv 0) (za (zQ (v:=.ref (d 13)) U D.g13 U) zd))) (za (zv zG U G.isinstance zz (za (pv 0) (za (zQ (v:=.ref (d 14)) U D.g14 U) zd))) zd))))))
    (zg (zF (i:=2) nd U (ay U) (zM (za zj (za zj (za zj (za zj (za zj (za zj (za zj (za zj (za zj (za zj (za zj (za zj zd))))))))))))))
    (zg (zK (PW.pt (yI (zx uB (qH aS PySem.F.slot_list_count PySem.F.type_list_count lj (pv 1) (za vC zd)) ze (zD _)) (yJ (qB (qC (zv zG U G.isinstance zz (za (pv 0) (za (yV (v:=.ty "ValueError") U G.ve NY U) zd)))))))) (zh (zt zj)) zB)
    (zh (zt (zE zy (zu yH (pv 2) (zM (za zj (za zj (za zj zd))))) (qH aS PySem.F.slot_list_index PySem.F.type_list_index LQ (pv 1) (za vC zd))))))))))),?main⟩
  refine kI (λσ H'=>∃l,σ=[some (.ref ea),some (.ref l),none]/\zk H H'/\H' l=some (.lst ([decide (i=0),decide (i=1),decide (i=2),decide (i=3)].map V.bl))) (λEk kk=>?_) ?_
  ·exact⟨_,U,_,_,_,_,_,U,U,h0.ty,kd.k0,_,U,_,_,_,_,_,U,U,h0.ty,kd.k1,_,U,_,_,_,_,_,U,U,h0.ty,kd.k2,_,U,_,_,_,_,_,U,U,h0.ty,kd.k3,zS U,λl1 H1 s1 n1 e1=>kk _ _ ⟨l1,U,s1,e1⟩⟩
  rintro σ H1 ⟨l1,rfl,s1,e1⟩;have h1:=h0.same s1;refine kI (λσ H'=>∃l,σ=[some (.ref ea),some (.ref l),none]/\zk H H'/\H' l=some (.lst ([decide (i=0),decide (i=1),decide (i=2),decide (i=3),decide (i=4),decide (i=5),decide (i=6),decide (i=7)].map V.bl))) (λEk kk=>?_) ?_
  ·exact⟨_,U,_,U,_,_,_,_,_,U,U,h1.ty,kd.k4,_,U,_,_,_,_,_,U,U,h1.ty,kd.k5,_,U,_,_,_,_,_,U,U,h1.ty,kd.k6,_,U,_,_,_,_,_,U,U,h1.ty,kd.k7,zS U,λl2 H2 s2 n2 e2=>⟨l1,l2,_,_,U,U,s2 _ _ e1,e2,by rw[ai];exact C9 U,λl3 H3 s3 n3 e3=>kk _ _ ⟨l3,U,s1.trans (s2.trans s3),e3⟩⟩⟩
  rintro σ H3 ⟨l3,rfl,S3,e3⟩;have h3:=h0.same S3;refine kI (λσ H'=>∃l,σ=[some (.ref ea),some (.ref l),none]/\zk H H'/\H' l=some (.lst ([decide (i=0),decide (i=1),decide (i=2),decide (i=3),decide (i=4),decide (i=5),decide (i=6),decide (i=7),decide (i=8),decide (i=9),decide (i=10),decide (i=11)].map V.bl))) (λEk kk=>?_) ?_
  ·exact⟨_,U,_,U,_,_,_,_,_,U,U,h3.ty,kd.k8,_,U,_,_,_,_,_,U,U,h3.ty,kd.k9,_,U,_,_,_,_,_,U,U,h3.ty,kd.k10,_,U,_,_,_,_,_,U,U,h3.ty,kd.k11,zS U,λl4 H4 s4 n4 e4=>⟨l3,l4,_,_,U,U,s4 _ _ e3,e4,by rw[ai];exact C9 U,λl5 H5 s5 n5 e5=>kk _ _ ⟨l5,U,S3.trans (s4.trans s5),e5⟩⟩⟩
  rintro σ H5 ⟨l5,rfl,S5,e5⟩;have h5:=h0.same S5;refine kI (λσ H'=>∃l,σ=[some (.ref ea),some (.ref l),none]/\zk H H'/\H' l=some (.lst ([decide (i=0),decide (i=1),decide (i=2),decide (i=3),decide (i=4),decide (i=5),decide (i=6),decide (i=7),decide (i=8),decide (i=9),decide (i=10),decide (i=11),decide (i=12),decide (i=13),decide (i=14)].map V.bl))) (λEk kk=>?_) ?_
  ·exact⟨_,U,_,U,_,_,_,_,_,U,U,h5.ty,kd.k12,_,U,_,_,_,_,_,U,U,h5.ty,kd.k13,_,U,_,_,_,_,_,U,U,h5.ty,kd.k14,zS U,λl6 H6 s6 n6 e6=>⟨l5,l6,_,_,U,U,s6 _ _ e5,e6,by rw[ai];exact C9 U,λl7 H7 s7 n7 e7=>kk _ _ ⟨l7,U,S5.trans (s6.trans s7),e7⟩⟩⟩
  rintro σ H7 ⟨l7,rfl,S7,e7⟩;refine⟨zS U,λwl H8 s8 n8 e8=>?_⟩;have e7':=s8 _ _ e7;have h8:=(h0.same S7).same s8;have S8:=S7.trans s8;have c1:([decide (i=0),decide (i=1),decide (i=2),decide (i=3),decide (i=4),decide (i=5),decide (i=6),decide (i=7),decide (i=8),decide (i=9),decide (i=10),decide (i=11),decide (i=12),decide (i=13),decide (i=14)]).countP id=1:=by subst hi;rfl
  refine⟨_,U,.inl ⟨U,_,zN.of e7'⟩,l7,_,U,U,e7',U,_,U,?_⟩;rw[c1];refine qM ⟨_,U,_,_,_,_,_,U,U,h8.ty,kd.ve,_,U,qM ?_⟩;refine⟨_,U,zS U,λl9 H9 s9 n9 e9=>⟨wl,l9,_,_,U,U,s9 _ _ e8,e9,∅,λla Ha sa na ea'=>?_⟩⟩;have e7a:=sa _ _ (s9 _ _ e7');refine⟨_,U,.inl ⟨U,_,zN.of e7a⟩,l7,_,i,U,U,e7a,?_,(λm hm=>?_),la,_,_,_,U,U,zN.of ea',?_,q Ha (S8.trans (s9.trans sa))⟩
  ·subst hi;rfl
  ·subst hi
   match m,hm with
   |0,_=>rfl
   |1,_=>rfl
  ·subst hi;rfl
theorem NI (hj:1<=j)(F:qU K "_law_told" "_law_told" (top 106) f fd)(mgR:mg "RollError" = some (.ref cR))(Z:Rz K d cR 2)(C1:qX P w K mg base (mX P w) j "book_of" ["text"] (UO K C (d 2)))(Ck:nh P w K mg base 1 "_law_word" ["_law_e"] (U3 K d)):zL P w K mg base zY (j+1) f fd ["_law_text_here"] (ZS K C):=by
 have nd:(["_law_text_here","_law_e"]:List af).Nodup:=⋯
 walk_at"k"
 ·obtain⟨v,rfl,_⟩:=h;rfl
 ·obtain⟨v,rfl,h⟩:=h;obtain⟨R,hR⟩:∃R:XK,R=λcls _ H'=>cls=.ref (d 2)/\zk H H'/\∀z,v=.str z->∀es,¬jP z es:=⟨_,U⟩
  refine' ⟨_,zh (M6 (C:=vw) (R:=R) (i:=1) (th:=λea=>Me (Xc ((A.deeper (aT "_law_told" (zU (top 106)) s.heap.objs.size f K9)).mark (some (.ref ea))) (U3 K d) (qN (zV 1) y6))) (tb:=Me (λσ H Q=>qN (zV 0) y6 σ H λvs H1=>UO K C (d 2) vs H1 Q R))
   rfl rfl rfl mgR (λcls o H' z=>by
    rw[hR]at z;obtain⟨rfl,_⟩:=z;exact Z.ex) nd rfl rfl ?body
   (λpn ea E=>zh (zt (nL (j:=j) Ck ⟨hr.dp,hr.un⟩ hj (za (pv 1) zd))))),?m1,?m2⟩
  case body=>
   intro pn;exact zh (zt (zq C1 hr (CI _) Pd (za (pv 0) zd)))
  case m1=>
   subst hR;refine⟨_,U,v,U,?_⟩;rcases h with⟨ns,q⟩ |⟨z,rfl,hz,q⟩
   ·refine .inl ⟨ns,U,zk.refl _,λz e=>?_⟩;exact K7 e (PJ ns)
   ·refine .inr ⟨z,U,hz,λH1 s1=>⟨λes ib B dx t bs _ _ _ bk ey=>(q H1 s1).1 es ib B dx t bs bk ey,λe=>⟨U,s1,λz' ez=>?_⟩⟩⟩;cases ez;exact e
  case m2=>
   subst hR;rintro ea oe vs cls σ' H' ⟨rfl,s1,re⟩ SQ hcl hd1 hd2 h2 P_;refine⟨.ref ea,EA (by rw[P_];show 1<2;decide),.inr ⟨ea,oe,vs,_,U,zi,hd2,h2.put SQ⟩,ea,d 2,2,U,⟨⟨oe,vs,zi,hcl,hd1,hd2⟩,Z.kd.cls⟩,Z.kd,U,λH2 s2=>?_⟩;have S2:=(s1.trans (zk.upd SQ)).trans s2;rcases h with⟨ns,q⟩ |⟨z,rfl,hz,q⟩
   ·exact q H2 S2
   ·exact(q H2 S2).2 (re z U)
end
end K12
namespace Pg
open PySem PySem.NumText L2 Builtin Builtin.Str
inductive JW (H:Hp)(a:ag)(ps:List (Int×List Rk)):Prop|mk(ys:_)(_:H a=some (.lst ys))(_:ys.length=ps.length)(_:∀(n:Nat) u p,ys[n]?=some u->ps[n]?=some p->∃l,u=.ref l/\H l=some (.lst (yq p.2)))
theorem JW.same {ps:List (Int×List Rk)}(h:JW H a ps)(s:zk H H'):JW H' a ps:=by
 obtain⟨ys,h1,h2,h3⟩:=h
 exact⟨ys,s _ _ h1,h2,λn u p e1 e2=>by
  obtain⟨l,e,h⟩:=h3 n u p e1 e2;exact⟨l,e,s _ _ h⟩⟩
theorem JW.is {K:BFr}{ps:List (Int×List Rk)}(h:JW H a ps):Is K H 2 (.ref a) (.l (ps.map λp=>.l (p.2.map λr=>Dt.v (.str (q8 r))))):=by
 obtain⟨ys,h1,h2,h3⟩:=h;refine .l (zN.of h1) (by rw[CH,h2]) λj x d e1 e2=>?_;rw[CO]at e2;obtain⟨p,hp,rfl⟩:=C8.mp e2;obtain⟨l,rfl,hl⟩:=h3 j x p e1 hp;refine .l (zN.of hl) (by unfold yq;rw[CH,CH]) λi y d e1 e2=>?_;unfold yq at e1;rw[CO]at e1 e2;obtain⟨r,hr,rfl⟩:=C8.mp e2;rw[hr]at e1;cases e1;exact .v rfl
theorem Vy {K:BFr}{ps:List (Int×List Rk)}(hl:H a=some (.lst ((ps.map (·.1)).map V.int)))(hD:H D=none)(hz:ps.length<=20000)(he:∀p∈ps,∀H' R,zk H H'->H' D≠none->(∀l H'',zk H' H''->l≠D->H'' l=some (.lst (yq p.2))->R (.ref l) H'')->te (σ.set 0 (some (.int p.1))) H' R)(hf:∀ys H',zk H H'->H' D=some (.lst ys)->JW H' D ps->K_ ys H'):jt (mW K a) D (qc 0) qL te K_ σ (upd H D (.lst [])):=by
 refine va (jc (zN.of hl)) hD (λi zs H'=>zs.length=i/\∀(n:Nat) u p,zs[n]?=some u->ps[n]?=some p->∃l,u=.ref l/\l≠D/\H' l=some (.lst (yq p.2))) (λσ'=>∀x,σ'.set 0 (some x)=σ.set 0 (some x)) (λ_=>rfl) ⟨U,λn u p h=>nomatch h⟩ ?_ ?_
 ·rintro i y zs σ' H' hy hσ s hd Q_ ⟨zl,G⟩;rw[CP,CO]at hy;obtain⟨p,hp,rfl⟩:=C8.mp hy;have hi:i<ps.length:=(C7.mp hp).1;have Ss:∀z,(σ'.set 0 (some (V.int p.1))).set 0 (some z)=σ.set 0 (some z):=λz=>by rw[DM];exact hσ z
  unfold Qb qc qL;dsimp only [Function.comp];rw[hσ (V.int p.1)]at Ss ⊢;refine qY (he p (dG hp) H' _ s (by rw[hd];intro z;cases z) λl H2 s2 ld hl2=>⟨s2 _ _ hd,by rw[zl,ai];lia,Ss,λb o z=>?_,zi,?_,?_,?_⟩)
  ·rw[zm (zC z hD)];exact s2 _ _ (s _ _ z)
  ·rw[CS,dB];lia
  ·rw[CS,dB];lia
  ·intro n u q hu hq;have kp:∀{x:ag} {o:HO},H2 x=some o->x≠D->(upd H2 D (.lst (zs++[.ref l]))) x=some o:=λh n=>by rw[zm n];exact h
   by_cases c:n<i
   ·rw[Dh (by lia)]at hu;obtain⟨l',e,nl,h⟩:=G n u q hu hq;exact⟨l',e,nl,kp (s2 _ _ h) nl⟩
   ·have ni:n=i:=by
     have:=(C7.mp hu).1;rw[CS,dB]at this;lia
    subst ni;rw[dZ (by lia),zl,DN]at hu;cases hu;rw[hp]at hq;cases hq;exact⟨l,U,ld,kp hl2 ld⟩
 ·rintro zs H' s hd Q_ ⟨zl,G⟩;rw[CH,CH]at zl;refine hf zs H' s hd ⟨zs,hd,zl,λn u p h1 h2=>?_⟩;obtain⟨l,e,_,h⟩:=G n u p h1 h2;exact⟨l,e,h⟩
end Pg
namespace K12
open PySem PySem.NumText L2 Pg
seal PE PA PT PW PS y8 PG j5 PI jQ PO PK
section
variable {K:BFr}{mg:af->Option ae}
theorem Nd (hj:10<=j)(F:qU K "_law_is_right" "_law_is_right" (top 107) f fd)(G:vh mg)(KC:Yz K C)(gK:mg "RuleBook" = some (.ref C))(ia:BfC K C)(ihn:hW K (.builtin "object.__class__") "__get__" = some (some (.builtin "getset_descriptor.__get__")))(itk:A5 K (.builtin "object.__class__")=some true)(im:iZ K C (.type "object")=some true)(ik:BkO K C C true)(C1:qX P w K mg base zY 10 "_law_book" ["_law_text_here"] X5)(C2:qX P w K mg base zY j "_law_told" ["_law_text_here"] (ZS K C))(M1:yu P w K mg base zY 1 C "years" ["self"] (kN C))(C3:qX P w K mg base zY 6 "text_of" ["book"] (YZ C))(M2:yu P w K mg base zY 4 C "rows" ["self","year"] (λvs H Q _=>w9 K C cY cN vs H Q E0)):zL P w K mg base zY (j+1) f fd ["_law_text_here"] VY:=by
 have nd:(["_law_text_here","_law_own","_law_found"]:List af).Nodup:=⋯
 have nc1:(["_law_year","_law_found"]:List af).Nodup:=⋯
 have nc2:(["_law_year","_law_own"]:List af).Nodup:=⋯
 walk_at"k"
 ·obtain⟨z,rfl,_⟩:=h;rfl
 ·obtain⟨z,rfl,hz,q⟩:=h;have hu:=VM hr;have Z_:(A.deeper (aT "_law_is_right" (zU (top 107)) s.heap.objs.size f K9)).units<hZ:=Dd (Dp _ 64) hr.units;have un2:(A.deeper (aT "_law_is_right" (zU (top 107)) s.heap.objs.size f K9)).units+2<hZ:=Dd (Eb (by decide:2<=64) _) hr.units
  refine' ⟨_,(zg (zF (i:=1) nd U (i_ U) (zq C1 hr hj zA (za (pv 0) zd)))
    (zg (zF (i:=2) nd U (i_ U) (zq C2 hr (CI _) zA (za (pv 0) zd)))
    (zg (zK (zx pB (pv 1) yR (zD _)) (zh (zt (qS qw (pv 2) zj (zD _)))) zB)
    (zg (zK (PW.pt (yI (qB (qC (zv zG U G.isinstance zz (za (pv 2) (za (zQ (v:=.ref C) U gK U) zd))))) (yI (zx (px Z_) (jZ M1 hr (by lia) zA (pv 2)) (zv (vY U) U G.sorted fV (za (pv 1) zd)) (zD _)) (yJ (zx uB (zq C3 hr (by lia) zA (za (pv 2) zd)) (pv 0) (zD _)))))) (zh (zt vC)) zB)
    (zh (zt (qS tf ?comp_1 ?comp_2 (zD _)))))))),?main⟩
  case comp_1=>
   refine' qk (cl:=[("_law_found",s.heap.objs.size+2)]) (src:=[none,some 2]) (g:=qc 0) (tt:=qL) (te:=bZ C "rows" (λvs H Q _=>w9 K C cY cN vs H Q E0) E0 (zV 1) (qN (zV 0) y6))
    (cO nc1 ⟨U,U,⋯,⋯,um (JO U),qF (by rfl),zR (yb ⟨_,U,U,U,U⟩ qb),U⟩) rfl (ye (zv (vY U) U G.sorted fV (za (pv 1) zd))) ?hb
   case hb=>
    intro fp C' s' H';exact⟨zO (i:=0) nc1 U (ay U),qt,YK M2 hr (by lia) zA (pv 1) (za (pv 0) zd)⟩
  case comp_2=>
   refine' qk (cl:=[("_law_own",s.heap.objs.size+1)]) (src:=[none,some 1]) (g:=qc 0) (tt:=qL) (te:=Le (zV 1) (zV 0))
    (cO nc2 ⟨U,U,⋯,⋯,um (JO U),qF (by rfl),zR (yb ⟨_,U,U,U,U⟩ qb),U⟩) rfl (ye (zv (vY U) U G.sorted fV (za (pv 1) zd))) ?hb
   case hb=>
    intro fp C' s' H';exact⟨zO (i:=0) nc2 U (ay U),qt,Zc (Dd (Dy U) hu) (pv 1) (pv 0) (λ_ _=>rfl)⟩
  walk_at"d0"
  refine⟨_,U,z,U,hz,λH1 s1=>⟨λes ib o fs o0 ow ey=>?_,λno=>?_⟩⟩
  rotate_left
  ·refine⟨_,U,_,U,.inr ⟨z,U,hz,λH2 s2=>⟨λes ib=>(no es ib).elim,λ_=>?_⟩⟩⟩;exact⟨_,U,U,_,U,qY ⟨_,U,U,q H2 (s1.trans s2)⟩⟩
  refine⟨_,U,_,U,.inr ⟨z,U,hz,λH2 s2=>⟨λNr ib' B dx t bs BK ey'=>?_,λno=>(no es ib).elim⟩⟩⟩;obtain rfl:Nr=es:=pR ib' ib;subst ey;have O2:=ow.same s2;have fu:=WE (bs:=fs) ib;have bu:=WE (bs:=bs) (by rw[ey'];exact ib);have BQ:(fs.map (·.1)).Pairwise (λx y:Int=>x<y):=by have:=ib.2.2;rw[CP]at this;exact this
  have upb:(bs.map (·.1)).Pairwise (λx y:Int=>x<y):=by have:=ib.2.2;rw[<- ey',CP]at this;exact this
  have bf:bs.map (·.1)=fs.map (·.1):=by
   have:=K4 (KR (·.1)) ey';rw[CP,CP]at this;exact this
  have kf:(j0 fs).map (·.1)=(fs.map (·.1)).map a_:=by unfold j0;rw[CP,CP];rfl
  refine⟨_,U,U,_,U,qM ?_⟩;refine⟨_,U,_,_,_,_,true,U,U,.inl (.ins BK.ins KC ia ihn itk im),ik,true,U,qM ?_⟩;refine⟨_,U,B,dx,_,U,BK.ins,U,B,dx,t,bs,U,BK,bu.1,λzs p1 p2 l1 H3 s3 n3 e3=>?_⟩;obtain rfl:zs=bs.map (·.1):=QQ p2 upb p1;refine⟨_,U,o,j0 fs,_,U,.inl (s3 _ _ O2.dic),kf,ka fu.1 ow.nd λzs p1 p2 l2 H4 s4 n4 e4=>?_⟩;obtain rfl:zs=fs.map (·.1):=QQ p2 BQ p1;refine⟨l1,l2,_,_,U,U,zN.of (s4 _ _ e3),zN.of e4,Z5 _,Z5 _,_,U,?_⟩;rw[bf];rw[gG];have S4:=s3.trans s4;have B4:=BK.fr λb o h=>S4 _ _ h
  have wf:yd (vc (fs.map yr))<=5000000:=by
   by_cases nz:z = ""
   ·subst nz;rw[Qt ib];decide
   ·rw[NU ib nz];lia
  refine qM ⟨_,U,B,dx,t,bs,fs.map yr,U,B4,bu.1,bu.2,by rw[ey'],ib.2.2,wf,λH5 s5=>?_⟩;rw[<- ib.1];refine⟨_,U,U,_,U,rH ?_⟩;have S5:=S4.trans s5;have B5:=BK.fr λb o h=>S5 _ _ h;have O5:=O2.same S5;have pl:(fs.map yr).length<=20000:=by have:=fu.1.len;rw[CH]at this ⊢;exact this
  have e1':(fs.map yr).map (·.1)=fs.map (·.1):=by rw[CP];rfl
  refine⟨_,U,o,j0 fs,_,U,.inl O5.dic,kf,ka fu.1 ow.nd λzs p1 p2 l3 H6 s6 n6 e6=>?_⟩;obtain rfl:zs=fs.map (·.1):=QQ p2 BQ p1;refine⟨l3,U,⟨_,zN.of e6⟩,λD hD=>Vy (ps:=fs.map yr) (by rw[e1'];exact e6) hD pl (λp hp H' R s' dn k=>?_) (λys H7 s7 e7 R7=>?_)⟩
  ·rw[<- ey']at hp;obtain⟨b,hb,rfl⟩:=CK.mp hp;have B':=B5.fr λb o h=>s' _ _ (s6 _ _ h);have bl:bs.length<=20000:=by have:=bu.1.len;rw[CH]at this;exact this
   refine⟨_,U,B,dx,_,U,B'.ins,U,_,U,B,dx,t,bs,_,U,B',bl,.inr ⟨b.1,U,(bu.2 b hb).1,(bu.2 b hb).2,λah=>(GM ah (Ze hb)).elim,λm rs pk ok l' H'' s'' n'' e''=>?_⟩⟩;obtain rfl:rs=b.2.2:=UY.one (pq BK.nd) pk (Ze hb);exact k l' H'' s'' (λc=>dn (by rw[<- c];exact n'')) e''
  have S7:=s6.trans s7;have O7:=O5.same S7;refine⟨_,U,o,j0 fs,_,U,.inl O7.dic,kf,ka fu.1 ow.nd λzs p1 p2 l4 H8 s8 n8 e8=>?_⟩;obtain rfl:zs=fs.map (·.1):=QQ p2 BQ p1;refine⟨l4,U,⟨_,zN.of e8⟩,λD2 W_=>Vy (ps:=fs.map yr) (by rw[e1'];exact e8) W_ pl (λp hp H' R s' dn k=>?_) (λys2 H9 s9 e9 R9=>?_)⟩
  ·obtain⟨b,hb,rfl⟩:=CK.mp hp;have O':=O7.same (s8.trans s')
   have gd:wZ H' o (.int b.1) (some (.ref b.2.1)):=by
    rw[<- QU O'.nd hb];exact wZ.k (k:=a_ b.1) O'.dic
   exact⟨_,U,_,U,o,_,U,gd,k _ _ (zk.refl _) (zC (s8 _ _ (O7.row b hb)) W_) (O'.row b hb)⟩
  exact⟨2,_,U,(R7.same (s8.trans s9)).is,R9.is,un2,q H9 (s1.trans (s2.trans (S5.trans (S7.trans (s8.trans s9)))))⟩
end
end K12
namespace Pg
open PySem PySem.NumText L2 Builtin Builtin.Str
def cq (r:Rk):List V:=[.str (q8 r),.str r.name]
inductive rJ (H:Hp)(l:ag)(rs:List Rk):Prop|mk(ys:_)(_:H l=some (.lst ys))(_:qd H ys (rs.map cq))
end Pg
namespace L2
open PySem PySem.Spec PyProof.Rows
section
variable {J:It}{xs:List α}
end
theorem yu.calm {K:BFr}{mg:af->Option ae}{k:Nat}{m:af}{ps:List af}(M:yu P w K mg base (GK Ct P w) k C m ps sp):yu P w K mg base zY k C m ps (λvs H Q _=>sp vs H Q E0):=by
 obtain⟨c,f,fd,a,b,F⟩:=M;exact⟨c,f,fd,a,b,F.calm⟩
end L2
namespace Pg
open PySem L2
structure BV (H:Hp)(o:ag)(fs:List Be):Prop where
 dic:H o=some (.dK (j0 fs))
 nd:(fs.map (·.1)).Nodup
 due:∀e∈fs,rJ H e.2.1 e.2.2
inductive Cc (H:Hp)(hl:ag)(v:V):Prop|mk(p a b xs:_)(_:v=.ref p)(_:H p=some (.tup [.ref a,.ref b]))(_:H a=some (.lst xs))(_:H b=some (.lst xs))(_:xs.all jX=true)(_:a≠hl)(_:b≠hl)
structure Cp (H:Hp)(hl:ag)(hs:List V):Prop where
 at_:H hl=some (.lst hs)
 ok:∀v∈hs,Cc H hl v
open PySem.NumText Builtin Builtin.Str
theorem mM {a b:List α}(h:a.map some=b.map some):a=b:=by
 induction a generalizing b with
 |nil=>cases b with
  |nil=>rfl
  |cons=>cases h
 |cons x a ih=>cases b with
  |nil=>cases h
  |cons y b=>
   injection h with h1 h2;cases h1;rw[ih h2]
end Pg
namespace Pg
open PySem L2
structure Bx (C hl:ag)(H:Hp)(B dx t o:ag)(es fs:List Be):Prop where
 bk:U6 C H B dx t es
 ow:BV H o fs
 ey:fs.map yr=es.map yr
 nr:∀e∈es,e.2.1≠hl
 no:∀e∈fs,e.2.1≠hl
structure W2 (C hl:ag)(B dx t o:Nat->ag)(fx:List (ag×HO))(H:Hp)(es fs:Nat->List Be)(hs:List V):Prop where
 b:∀k,k<2->Bx C hl H (B k) (dx k) (t k) (o k) (es k) (fs k)
 hd:Cp H hl hs
 f:∀q∈fx,H q.1=some q.2/\(∀k,k<2->q.1≠t k/\q.1≠o k)/\q.1≠hl
 tt:∀i j,i<2->j<2->i≠j->t i≠t j
 oo:∀i j,i<2->j<2->i≠j->o i≠o j
 ot:∀i j,i<2->j<2->t i≠o j
def BQ (f:Nat->List Be)(k:Nat)(v:List Be):Nat->List Be:=λi=>if i=k then v else f i
section
variable {hl:ag}{B dx t o:Nat->ag}{fx:List (ag×HO)}{H8 H9 Ha Hb Hd:Hp}{es fs:Nat->List Be}{hs hs':List V}
end
theorem ZV {rs:List Rk}(ok:Qn rs):(yq rs).map OU=rs.map some:=by
 unfold yq;rw[CP];exact dY λr hr=>ud (ok.gd r hr)
def gO (K:BFr)(C cY cB cR:ag):Sp:=λvs H Q _=>Z4 K C cY cB cR vs H Q E0
theorem PD {K:BFr}{cB:ag}{B t l:ag}{es:List Be}{rs:List Rk}{Q:VK}{E:XK}(BK:U6 C H B dx t es)(el:es.length<=100)(Y0:0<=Y)(Y1:Y<=9999)(ok:Qn rs)(e:H l=some (.lst (yq rs)))(q:∀a H',H a=none->U6 C H' B dx t (vF es Y a rs)->(∀b o,H b=some o->b≠t->H' b=some o)->Q .non H'):gO K C cY cB cR [.ref B,.int Y,.ref l] H Q E:=by
 have len:(yq rs).length<=8:=by unfold yq;rw[CH];exact ok.few
 refine⟨B,dx,t,es,_,_,U,BK,by lia,.inr ⟨Y,U,Y0,Y1,.inr ⟨l,_,U,e,λz=>K7 z (by lia),λ_=>⟨λx hx=>?_,fun⟨x,hx,hn⟩=>?_,λrs' ers=>?_⟩⟩⟩⟩
 ·obtain⟨r,hr,rfl⟩:=CK.mp hx;exact .inr ⟨_,U,CW (kC (ok.gd r hr)) ∅⟩
 ·have:none∈rs.map some:=by rw[<- ZV ok,<- hn];exact CK.mpr ⟨x,hx,U⟩
  obtain⟨_,_,z⟩:=CK.mp this;cases z
 ·have:rs'=rs:=mM (by rw[<- ers,ZV ok]);subst this;exact⟨λz=>K7 ok.nd z,λ_=>q⟩
open PySem.NumText Builtin Builtin.Str
theorem GW (es:List (Int×List Rk))(nd:(es.map (·.1)).Nodup):∃ps:List (Int×List Rk),ps.Perm es/\(ps.map (·.1)).Pairwise (λx y:Int=>x<y):=by
 refine⟨es.mergeSort (λa b=>decide (a.1<=b.1)),FP _ _,?_⟩;have p:=FP es (λa b=>decide (a.1<=b.1))
 have s:=List.pairwise_mergeSort (le:=λa b:Int×List Rk=>decide (a.1<=b.1)) (λa b c h1 h2=>i' (Eo (G' h1) (G' h2))) (λa b=>by
  rcases Int.le_total a.1 b.1 with h |h
  ·rw[i' h];rfl
  ·rw[i' h,Ew]) es
 have nd2:((es.mergeSort (λa b=>decide (a.1<=b.1))).map (·.1)).Nodup:=(p.map (·.1)).nodup_iff.mpr nd;rw[Eu];refine(s.and (Eu.mp nd2)).imp λhM=>?_;obtain⟨h1,h2⟩:=hM;have:=G' h1;lia
theorem Na {m:Nat}:∀zs:List af,(∀z∈zs,z.length<=m)->yd zs<=zs.length*(m+1):=by
 intro zs
 induction zs with
 |nil=>intro _;exact du _
 |cons a r ih=>
  intro h;have e:yd (a::r)=(a.length+1)+yd r:=rfl;have h1:=h a CU;have h2:=ih λz hz=>h z (C6 _ hz);rw[e,dz,Ea];lia
theorem mi {ps:List (Int×List Rk)}(ok:Uz ps)(h:ps.length<=6):yd (vc ps)<=108054/\(xC ps).length<=108054:=by
 have h1:=Na (m:=2000) (vc ps) (m8 ok);have h2:=Mv ok
 have h3:yd (vc ps)<=108054:=by
  have:(vc ps).length*2001<=54*2001:=Ei _ (by lia);lia
 refine⟨h3,?_⟩;have:=(QT (c:=10) (zs:=vc ps) (by lia)).2;unfold xC;rw[rE];lia
theorem rS {w:af}(nz:z≠"")(hs:av z "\n" = w::r)(h:wX w=false):∀es,¬jP z es:=λes ib=>by
 obtain⟨w',r',e1,e2,_⟩:=jq ib nz;rw[hs]at e1;cases e1;rw[h]at e2;cases e2
theorem Rl:∀es,¬jP "year 5" es:=rS (w:="year 5") (r:=[]) ⋯ ⋯ ⋯
theorem tN:∀es,¬jP "flat a 5" es:=rS (w:="flat a 5") (r:=[]) ⋯ ⋯ ⋯
structure Wb (C B dx t o:ag)(fx:List (ag×List V))(H:Hp)(es fs:List Be):Prop where
 bk:U6 C H B dx t es
 ow:WZ H o fs
 ey:fs.map yr=es.map yr
 ot:o≠t
 fx:∀q∈fx,H q.1=some (.lst q.2)
 yr:∀e∈es,0<=e.1/\e.1<=9999
theorem Wb.same {B t o:ag}{fx:List (ag×List V)}{es fs:List Be}(w:Wb C B dx t o fx H es fs)(s:zk H H'):Wb C B dx t o fx H' es fs:=⟨w.bk.fr λb o h=>s _ _ h,w.ow.same s,w.ey,w.ot,λq hq=>s _ _ (w.fx q hq),w.yr⟩
theorem Wb.own {B t o:ag}{fx:List (ag×List V)}{es fs:List Be}{rs:List Rk}(w:Wb C B dx t o fx H es fs)(ok:Qn rs)(ha:H a=some (.lst (yq rs))):
  U6 C (upd H o (.dK (j0 (vF fs Y a rs)))) B dx t es/\WZ (upd H o (.dK (j0 (vF fs Y a rs)))) o (vF fs Y a rs)/\∀q∈fx,(upd H o (.dK (j0 (vF fs Y a rs)))) q.1=some (.lst q.2):=by
 have k:∀b u,H b=some u->b≠o->(upd H o (.dK (j0 (vF fs Y a rs)))) b=some u:=λb u h n=>by rw[zm n];exact h
 have nl:∀b ys,H b=some (.lst ys)->b≠o:=λb ys h=>yy h w.ow.dic (by intro z;cases z);refine⟨⟨k _ _ w.bk.ins (yy w.bk.ins w.ow.dic (by intro z;cases z)),k _ _ w.bk.dic (λe=>w.ot e.symm),w.bk.nd,λe he=>k _ _ (w.bk.row e he) (nl _ _ (w.bk.row e he)),w.bk.ok⟩,⟨zi,GE w.ow.nd,λe he=>?_,λe he=>?_⟩,λq hq=>k _ _ (w.fx q hq) (nl _ _ (w.fx q hq))⟩
 ·rcases vW he with rfl |he
  ·exact k _ _ ha (nl _ _ ha)
  ·exact k _ _ (w.ow.row e he) (nl _ _ (w.ow.row e he))
 ·rcases vW he with rfl |he
  ·exact ok.gd
  ·exact w.ow.gd e he
theorem X8 {es:List Be}{rs:List Rk}(h:∀e∈es,0<=e.1/\e.1<=9999)(Y0:0<=Y)(Y1:Y<=9999):∀e∈vF es Y a rs,0<=e.1/\e.1<=9999:=λe he=>by
 rcases vW he with rfl |he
 ·exact⟨Y0,Y1⟩
 ·exact h e he
end Pg
namespace K12
open PySem PySem.NumText L2 Pg
seal PE PA PT PW PS y8 PG j5 PI jQ PO PK
section
variable {K:BFr}{mg:af->Option ae}
theorem Rm {cB:ag}{J:Nat}(hJ:12<=J)(F:qU K "law" "law" (top 108) f fd)(G:vh mg)(C_cell:qX P w K mg base zY 1 "_law_cell_at" ["_law_script","_law_k"] (Ul K))(C_mx:qX P w K mg base zY 1 "_law_mixed" ["_law_cell","_law_k"] ju)(C_yr:qX P w K mg base zY 2 "_law_years" ["_law_cell"] Ug)(C_nm:qX P w K mg base zY 2 "_law_names" ["_law_cell","_law_many"] Ua)(C_ru:qX P w K mg base zY 6 "_law_rules" ["_law_cell","_law_names_here","_law_most"] (QN K))(C_row:qX P w K mg base zY 6 "_law_row" ["_law_rule_here"] (Qi 4))(NB:vA P w K mg base zY 1 "RuleBook" C ["self"] (Ql C))(M_put:yu P w K mg base zY J C "put" ["self","year","rows"] (gO K C cY cB cR))(C_tx:qX P w K mg base zY 1 "_law_text" ["_law_own"] UH)(C_to:qX P w K mg base zY 6 "text_of" ["book"] (YZ C))(C_bt:qX P w K mg base zY 1 "_law_bent" ["_law_text_here","_law_number_here"] JX)(C_br:qX P w K mg base zY 1 "_law_bent_rows" ["_law_text_here","_law_number_here"] UB)(C_rg:qX P w K mg base zY J "_law_is_right" ["_law_text_here"] VY)(C_td:qX P w K mg base zY J "_law_told" ["_law_text_here"] (ZS K C)):zL P w K mg base zY (J+1) f fd ["_law_script"] (V3 K):=by
 obtain⟨J',rfl⟩:∃J',J=J'+1:=⟨J-1,(Nat.sub_add_cancel (CW ∅ hJ)).symm⟩;have l1:1<=J'+1:=Dg _ _;have l2:2<=J'+1:=CW ∅ hJ;have l6:6<=J'+1:=CW ∅ hJ;have n1:1<=J':=Nat.le_of_succ_le_succ l2;have nd:(["_law_script","_law_years_here","_law_names_here","_law_book_here","_law_own","_law_k","_law_cell","_law_year","_law_text_here","_law_number_here","_law_bent_here","_law_twice","_law_one","_law_odd"]:List af).Nodup:=⋯
 have nr:(["_law_rule_here"]:List af).Nodup:=⋯
 walk_at"k"
 ·obtain⟨a,ns,rfl,_⟩:=h;rfl
 ·obtain⟨a,ns,rfl,hs,q⟩:=h;have hu:=VM hr
  refine' ⟨_,(zg (zF (i:=1) nd U (ay U) (zq C_yr hr l2 zA (za (zq C_cell hr l1 zA (za (pv 0) (za ze zd))) zd)))
    (zg (zF (i:=2) nd U (ay U) (zq C_nm hr l2 zA (za (zq C_cell hr l1 zA (za (pv 0) (za ze zd))) (za ze zd))))
    (zg (zF (i:=3) nd U (ay U) (Wt (j:=J') NB hr n1 zA))
    (zg (zF (i:=4) nd U (ay U) ZJ)
    (zg (ue fS U (jH U G.range (za (zu z5 (zq C_cell hr l1 zA (za (pv 0) (za ze zd))) ze) zd)) (zO (i:=5) nd U (ay U)) (zg (zF (i:=6) nd U (ay U) (zq C_cell hr l1 zA (za (pv 0) (za (zu qo ze (pv 5)) zd))))
     (zg (zF (i:=7) nd U (ay U) (zE zy (pv 1) (zu z5 (zq C_mx hr l1 zA (za (pv 6) (za ze zd))) ze)))
     (zg (Uy hu (pv 4) (pv 7) ?comp_1 U)
     (zh (z6 (YK M_put hr (CI _) zA (pv 3) (za (pv 7) (za (zZ Qo U G.list Qz (za (Zc hu (pv 4) (pv 7) (λ_ _=>rfl)) zd)) zd)))))))))
    (zg (zF (i:=8) nd U (ay U) (zq C_tx hr l1 zA (za (pv 4) zd)))
    (zg (zK (PW.pt (yI (qB (qC (zv zG U G.isinstance zz (za (zq C_to hr l6 zA (za (pv 3) zd)) (za (yV (v:=.ty "str") U G.str qE U) zd))))) (yJ (zx uB (zq C_to hr l6 zA (za (pv 3) zd)) (pv 8) (zD _))))) (zh (zt vC)) zB)
    (zg (zF (i:=9) nd U (ay U) (zq C_mx hr l1 zA (za (zq C_cell hr l1 zA (za (pv 0) (za ze zd))) (za ze zd))))
    (zg (zF (i:=10) nd U (ay U) (zq C_bt hr l1 zA (za (pv 8) (za (pv 9) zd))))
    (uG (zK (zx qw (zu z5 (pv 9) ze) ze (zD _)) (zh (zF (i:=10) nd U (ay U) (zq C_br hr l1 zA (za (pv 8) (za (zu qZ (pv 9) ze) zd))))) zB)
    (zg (zF (i:=11) nd U (ay U) (zq C_bt hr l1 zA (za (pv 10) (za (zq C_mx hr l1 zA (za (zq C_cell hr l1 zA (za (pv 0) (za ze zd))) (za ze zd))) zd))))
    (zg (ue fS U (ye (zM (za (pv 8) (za (pv 10) (za (pv 11) (za (pv 8) zd)))))) (zO (i:=12) nd U (ay U)) (zh (zK (qB (qC (zq C_rg hr (CI _) zA (za (pv 12) zd)))) (zh (zt vC)) zB)))
    (zg (zF (i:=13) nd U (ay U) (zE zy (zM (za yR (za ze (za (zM (za (pv 8) zd)) (za vC (za (yM (za (pv 8) zd)) (za ZJ (za zj (za zj zd))))))))) (zu z5 (zq C_cell hr l1 zA (za (pv 0) (za ze zd))) ze)))
    (zh (zt (je (qS qw (zq C_td hr (CI _) zA (za (pv 13) zd)) zj (zD _)) (jA (qS qw (zq C_to hr l6 zA (za (pv 3) zd)) (pv 8) (zD _))))))))))))))))))),?main⟩
  case comp_1=>
   refine' qk (cl:=[]) (src:=[none]) (g:=qc 0) (tt:=qL) (te:=λσ H Q=>qN (zV 0) y6 σ H λvs H1=>Qi 4 vs H1 Q E0)
    (cO nr ⟨U,U,⋯,⋯,(λx c z=>nomatch z),qF (by rfl),zR qb,U⟩) rfl (ye (zq C_ru hr l6 zA (za (pv 6) (za (pv 2) (za ze zd))))) ?hb
   case hb=>
    intro fp C' s' H';exact⟨zO (i:=0) nr U (ay U),qt,zq C_row hr l6 zA (za (pv 0) zd)⟩
  walk_at"d0"
  refine⟨_,U,a,0,ns,U,hs,∅,_,U,λys yl H1 ylen yok s1 yl0 e1=>?_⟩;refine⟨_,U,a,1,ns,U,s1.seq hs,∅,_,8,U,∅,λnms nl H2 nlen nok nnd s2 nl0 e2=>?_⟩;refineλB d0 B00 d00 dB0=>⟨B,d0,U,zi,λt H3 t00 BK fr=>⟨U,?_⟩⟩
  have ups:zk H2 (upd (upd H2 d0 (.own B)) B (.ins C d0 [])):=λb o hb=>by
   rw[zm (zC hb B00),zm (zC hb d00)];exact hb
  have s3:zk H2 H3:=λb o hb=>fr b o (ups b o hb) (zC hb B00);have t0:H t=none:=(s1.trans s2).free (ups.free t00);clear ups fr t00 dB0 d00 B00;refineλo H4 s4 o0' e4=>?_;have S4:=s1.trans (s2.trans (s3.trans s4));have o0:H o=none:=(s1.trans (s2.trans s3)).free o0'
  have W4:Wb C B d0 t o [(yl,ys.map V.int),(nl,nms.map V.str)] H4 [] []:=⟨BK.fr λb o h=>s4 _ _ h,⟨e4,Df,(λe h=>nomatch h),(λe h=>nomatch h)⟩,U,(zC BK.dic o0').symm,λq hq=>by
   simp only[CJ,CV,or_false]at hq;rcases hq with rfl |rfl
   ·exact s4 _ _ (s3 _ _ (s2 _ _ e1))
   ·exact s4 _ _ (s3 _ _ e2),(λe h=>nomatch h)⟩
  clear BK e1 e2 e4 s1 s2 s3 s4 o0' yl0 nl0;obtain⟨fx,hfx⟩:∃fx,fx=[(yl,ys.map V.int),(nl,nms.map V.str)]:=⟨_,U⟩;rw[<- hfx]at W4;have my:(yl,ys.map V.int)∈fx:=by rw[hfx];exact CU
  have mn:(nl,nms.map V.str)∈fx:=by rw[hfx];exact C6 _ CU
  clear hfx;have c7:0<=Yb ns 2%7/\Yb ns 2%7<7:=⟨dk _ ∅,dw _ ∅⟩;refine⟨_,U,a,2,ns,U,S4.seq hs,∅,_,_,U,U,(by show(0:Int)<7;decide),_,U,by lia,by lia,ZF (λi σ H'=>∃x5 x6 x7 es fs,σ=[some (.ref a),some (.ref yl),some (.ref nl),some (.ref B),some (.ref o),x5,x6,x7,none,none,none,none,none,none]/\Wb C B d0 t o fx H' es fs/\es.length<=i/\zk H H') ⟨_,_,_,[],[],U,W4,CI _,S4⟩ ?_ ?_⟩
  ·rintro i σ H5 hi ⟨x5,x6,x7,es,fs,rfl,W5,el,S5⟩ E5 k5;have z0:(0:Int)+(i:Nat)=(i:Nat):=eO _;rw[z0];refine⟨_,U,_,U,_,_,U,U,a,_,ns,U,S5.seq hs,by lia,?_⟩;refine⟨_,U,_,U,_,_,U,λm m0 m1=>?_⟩;have m4:0<=m%4/\m%4<4:=⟨dk _ ∅,dw _ ∅⟩;obtain⟨v,ev,mv⟩:=j8 (xs:=ys.map V.int) (i:=m%4) m4.1 (by rw[CH,ylen];exact m4.2);obtain⟨Y,hY,rfl⟩:=CK.mp mv;have Yk:=yok Y hY;refine⟨_,_,U,U,(by show(0:Int)<4;decide),yl,_,_,_,U,U,zN.of (W5.fx _ my),ev,?_⟩;refine⟨_,U,_,U,_,nl,nms,8,U,∅,zN.of (W5.fx _ mn),nlen,nok,nnd,λrl rs H6 rok s6 rl0 RT=>?_⟩;obtain⟨ry,er,T⟩:=RT;have few:=rok.few;refine⟨rl,U,⟨_,zN.of er⟩,λD hD=>js (jc (zN.of er)) T hD (by rw[ai];lia) (λr=>V.str (q8 r)) (λr hm v H7 R s7 rt k=>?_) (λH7 s7 e7=>?_)⟩
   ·exact⟨_,U,_,r,U,rt,rok.gd r hm,λH8 s8=>k _ s8⟩
   have e7:H7 D=some (.lst (yq rs)):=e7;have W7:=W5.same (s6.trans s7);have S7:=S5.trans (s6.trans s7)
   have fl:fs.length<=6:=by
    have:=K4 fJ W7.ey;rw[CH,CH]at this;lia
   refine⟨_,U,_,U,o,_,U,Xs.k (k:=a_ Y) W7.ow.dic (by unfold j0;rw[CH,ai];lia),?_⟩;rw[Xv (a:=D) (rs:=rs)];obtain⟨b8,o8,f8⟩:=W7.own (Y:=Y) rok e7;have S8:zk H (upd H7 o (.dK (j0 (vF fs Y D rs)))):=λb u hb=>by rw[zm (zC hb o0)];exact S7 _ _ hb
   generalize upd H7 o (.dK (j0 (vF fs Y D rs)))=H8 at b8 o8 f8 S8
   have me:(Y,D,rs)∈vF fs Y D rs:=by
    unfold vF
    by_cases c:(fs.any λe=>decide (e.1=Y))=true
    ·rw[K6 c];obtain⟨x,hx,ex⟩:=ES.mp c;exact CK.mpr ⟨x,hx,by rw[K6 (G' ex)]⟩
    ·rw[K5 c];exact CQ.mpr (.inr CU)
   have gd:wZ H8 o (.int Y) (some (.ref D)):=by
    rw[<- QU o8.nd me];exact wZ.k (k:=a_ Y) o8.dic
   refine⟨_,U,B,d0,_,U,b8.ins,U,_,U,_,U,_,U,o,_,U,gd,D,_,U,.inl (zN.of (o8.row _ me)),λl9 l90=>?_⟩;have s9:zk H8 (upd H8 l9 (.lst (yq rs))):=zk.upd l90;have e9:(upd H8 l9 (.lst (yq rs))) l9=some (.lst (yq rs)):=zi;generalize upd H8 l9 (.lst (yq rs))=H9 at s9 e9;refine PD (E:=E0) (b8.fr λb o h=>s9 _ _ h) (by lia) Yk.1 Yk.2 rok e9 λb10 H10 b0 B10 k10=>?_;have ld:∀x ys,H9 x=some (.lst ys)->x≠t:=λx ys h=>yy h (s9 _ _ b8.dic) (by intro z;cases z);have o9:=o8.same s9;refine k5 _ _ ⟨_,_,_,vF es Y b10 rs,vF fs Y D rs,U,⟨B10,⟨k10 _ _ o9.dic W7.ot,o9.nd,λe he=>k10 _ _ (o9.row e he) (ld _ _ (o9.row e he)),o9.gd⟩,?_,W7.ot,λq hq=>k10 _ _ (s9 _ _ (f8 q hq)) (ld _ _ (s9 _ _ (f8 q hq))),X8 W7.yr Yk.1 Yk.2⟩,CW (pW _ _ _ _) (by lia),λb u hb=>k10 _ _ (s9 _ _ (S8 _ _ hb)) (zC hb t0)⟩;rw[Gp,Gp,W7.ey]
  rintro σ H5 ⟨x5,x6,x7,es,fs,rfl,W5,el,S5⟩;have el6:es.length<=6:=by lia
  have fl6:fs.length<=6:=by
   have:=K4 fJ W5.ey;rw[CH,CH]at this;lia
  obtain⟨ps,pm,up⟩:=GW (es.map yr) (pq W5.bk.nd);have pl:ps.length<=6:=by rw[pm.length_eq,CH];exact el6
  have YO:Uz ps:=λe he=>by
   obtain⟨b,hb,rfl⟩:=CK.mp (pm.mem_iff.mp he);exact⟨(W5.yr b hb).1,(W5.yr b hb).2,W5.bk.ok b hb⟩
  obtain⟨wb,tb⟩:=mi YO pl
  have yf:∀e∈fs,0<=e.1/\e.1<=9999:=λe he=>by
   have:yr e∈es.map yr:=by rw[<- W5.ey];exact CK.mpr ⟨e,he,U⟩
   obtain⟨b,hb,eb⟩:=CK.mp this;have eb:b.1=e.1:=K4 (·.1) eb;rw[<- eb];exact W5.yr b hb
  have few:Ub (es.map (·.1)):=.inl (by rw[CH];lia);have fewf:Ub (fs.map (·.1)):=.inl (by rw[CH];lia);have txo:∀{H':Hp} {Q':VK} {E':XK},Wb C B d0 t o fx H' es fs->(∀H'',zk H' H''->Q' (.str (xC ps)) H'')->YZ C [.ref B] H' Q' E':=λw k=>⟨B,d0,t,es,ps,U,w.bk,few,w.yr,pm,up,by lia,k⟩;refine⟨_,U,o,fs,ps,U,W5.ow,fewf,yf,by rw[W5.ey];exact pm,up,by lia,λH6 s6=>?_⟩;have W6:=W5.same s6;refine⟨_,U,?_⟩;dsimp only [y6];refine txo W6 λH7 s7=>?_;refine⟨_,_,_,_,true,U,U,.inl (.str _),U,true,U,qM ⟨_,U,?_⟩⟩;dsimp only [y6];refine txo (W6.same s7) λH8 s8=>⟨_,U,U,_,U,rH ?_⟩;have S8:=S5.trans (s6.trans (s7.trans s8));have W8:=W6.same (s7.trans s8);generalize hz:xC ps=z at tb txo;refine⟨_,U,a,12,ns,U,S8.seq hs,∅,_,_,U,λm m0 m1=>?_⟩;refine⟨_,U,_,U,z,m,U,by lia,m0,λx H9 xl s9=>?_⟩;refine kI (λσ H'=>∃x,σ=[some (.ref a),some (.ref yl),some (.ref nl),some (.ref B),some (.ref o),x5,x6,x7,some (.str z),some (.int m),some (.str x),none,none,none]/\x.length<=4*z.length+20/\zk H8 H') (λEk kk=>?_) ?_
  ·refine⟨_,U,_,_,U,U,(by show(0:Int)<3;decide),U,_,U,qg (λ_=>?_) (λ_=>kk _ _ ⟨x,U,xl,s9⟩)⟩;exact⟨_,U,_,U,_,_,U,U,⟨∅,∅⟩,z,m/3,U,by lia,Int.ediv_nonneg m0 ∅,λx' H10 xl' s10=>kk _ _ ⟨x',U,xl',s9.trans s10⟩⟩
  rintro σ H10 ⟨x,rfl,xl,s10⟩;have S10:=S8.trans s10;refine⟨_,U,_,U,a,13,ns,U,S10.seq hs,∅,_,_,U,λm' m0' m1'=>⟨x,m',U,by lia,m0',λy H11 yl' s11=>?_⟩⟩;have S11:=s10.trans s11;refine⟨_,U,_,U,_,U,_,U,zS U,λl12 H12 s12 l120 e12=>⟨l12,U,⟨_,zN.of e12⟩,u7 (K:=K) (a:=l12) (xs:=[.str z,.str x,.str y,.str z]) (λi σ H'=>∃x12,σ=[some (.ref a),some (.ref yl),some (.ref nl),some (.ref B),some (.ref o),x5,x6,x7,some (.str z),some (.int m),some (.str x),some (.str y),x12,none]/\zk H12 H') ⟨_,U,zk.refl _⟩ (λi σ H' _ ⟨_,_,s⟩=>zN.of (s _ _ e12)) ?_ ?_⟩⟩
  ·rintro i v σ H13 hv ⟨x12,rfl,s13⟩ E13 k13
   have:∃u,v=.str u/\u.length<=2000000:=by
    have mv:=dG hv;simp only[CJ,CV,or_false]at mv;rcases mv with rfl |rfl |rfl |rfl
    ·exact⟨z,U,by lia⟩
    ·exact⟨x,U,by lia⟩
    ·exact⟨y,U,by lia⟩
    ·exact⟨z,U,by lia⟩
   obtain⟨u,rfl,ul⟩:=this;exact⟨_,U,u,U,ul,λH14 s14=>⟨true,U,qM (k13 _ _ ⟨_,U,s13.trans s14⟩)⟩⟩
  rintro σ H13 ⟨x12,rfl,s13⟩;have S13:=(S11.trans s12).trans s13;refine⟨_,U,zS U,λq1 HA sA nA eA=>⟨_,U,zS U,λq2 HB sB nB eB=>λq3 HC sC nC eC=>⟨zS U,λq4 HD sD nD eD=>?_⟩⟩⟩;have SD:=S13.trans (sA.trans (sB.trans (sC.trans sD)));obtain⟨v9,ev9,mv9⟩:=j8 (xs:=[V.non,V.int 5,V.ref q1,V.bl true,V.ref q2,V.ref q3,V.str "year 5",V.str "flat a 5"]) (i:=Yb ns 14%8) (dk _ ∅) (dw _ ∅);refine⟨_,U,a,14,ns,U,(S8.trans SD).seq hs,∅,_,_,U,U,(by show(0:Int)<8;decide),q4,_,_,_,U,U,zN.of eD,ev9,?_⟩
  have odd:∀{Q':VK} {E':XK},(∀H',zk HD H'->Q' (.str "text") H')->ZS K C [v9] HD Q' E':=λ{Q' E'} k=>by
   refine⟨_,U,?_⟩;simp only[CJ,CV,or_false]at mv9;rcases mv9 with rfl |rfl |rfl |rfl |rfl |rfl |rfl |rfl
   ·exact .inl ⟨NJ,k⟩
   ·exact .inl ⟨tO _,k⟩
   ·exact .inl ⟨RV (sD _ _ (sC _ _ (sB _ _ eA))),k⟩
   ·exact .inl ⟨By _,k⟩
   ·exact .inl ⟨RQ (sD _ _ (sC _ _ eB)),k⟩
   ·exact .inl ⟨Bm (sD _ _ eC),k⟩
   ·exact .inr ⟨_,U,⋯,λH' s'=>⟨λes ib=>(Rl es ib).elim,λ_=>k H' s'⟩⟩
   ·exact .inr ⟨_,U,⋯,λH' s'=>⟨λes ib=>(tN es ib).elim,λ_=>k H' s'⟩⟩
  refine⟨_,U,?_⟩;dsimp only [y6];refine odd λHE sE=>⟨U,true,by rw[i' rfl],qY ?_⟩;refine⟨_,U,?_⟩;dsimp only [y6];refine txo (W8.same (SD.trans sE)) λHF sF=>⟨_,U,U,?_⟩;rw[i' rfl];exact q HF
end
end K12
namespace K12
open PySem PySem.W PySem.Calls PyProof.Rows L2 Pg
theorem Bn:(KG hQ "law").isSome=true:=by kernel_rfl
def hD:KY:=((KG hQ "law").get Bn).1
theorem bV:WalkO hQ [] (XL hQ []) (Z9 RF lB) (PySem.Challenge.rw_coinroll_k12_books_written).row.toRowW hD [] (λf vs=>Kr f vs):=by
 refine nF λK e=>?_;have hF:hFs.map (λx=>jE K (iI K az x.1))=hFs.map (λx=>jG x.1 x.1 (top x.2)):=K4 AH e;have hM:hMs.map (λx=>jE K (aM K (.ref x.1) x.2.1))=hMs.map (λx=>jG x.2.1 x.2.2.1 (zX (top x.2.2.2.1) x.2.2.2.2)):=K4 (λz=>z.2.1) e;have hB:(Mf K).all id=true:=K4 (λz=>z.2.2) e;refine L2.MZ (l:=PySem.Challenge.rw_coinroll_k12_books_written) (K:=λ_=>K) (n:=63) (k:=29) (x:="_law_script") (CX:=λ_=>zY) (sp:=λ_=>(V3 K)) rfl ∅ (by kernel_rfl) ⟨U,∅,∅⟩ (λw h Y=>Y) ?_ (λ_ _ a ns hl _ hS=>⟨a,ns,U,hS,λ_=>rfl⟩) λ_ _ _ _ _ z=>z;intro w mg fa h X G hfa;obtain⟨fl,fdl,al,Fl⟩:=QH (x:="law") (st:=top 108) (kO hF 58 U)
 cases hfa.symm.trans (PySem.W.mg_of X G al)
 refine⟨fdl,λs v=>?_,λbase _ _=>?_⟩
 ·obtain⟨oc,od,kV,Sf,pm,an,K9,ct,S0,rfl,lk,Sy⟩:=Fl.ex;exact .of_eq rfl
 have A:ZE PySem.Challenge.rw_coinroll_k12_books_written.prog w K mg base:=⟨h,X,G⟩;have GL:=Ld A (zw hB 0 U);have KD:=pJ A (zw hB 1 U);have mgR:=vo A (zw hB 2 U);obtain⟨RZ2,x2⟩:=kE (zw hB 3 U);have ER2:Pg.Er K mg "BadText" (Q0 2):=⟨KD.g2,x2⟩;obtain⟨RZ4,x4⟩:=kE (zw hB 4 U);have ER4:Pg.Er K mg "BadYear" (Q0 4):=⟨KD.g4,x4⟩;obtain⟨RZ5,x5⟩:=kE (zw hB 5 U);have ER5:Pg.Er K mg "BadRule" (Q0 5):=⟨KD.g5,x5⟩;obtain⟨RZ6,x6⟩:=kE (zw hB 6 U);have ER6:Pg.Er K mg "BadBook" (Q0 6):=⟨KD.g6,x6⟩;obtain⟨RZ7,x7⟩:=kE (zw hB 7 U);have ER7:Pg.Er K mg "NoYear" (Q0 7):=⟨KD.g7,x7⟩;have N_MOST_SIGNS:=vt A (zw hB 8 U);have N_MOST_PARTS:=vt A (zw hB 9 U);have N_MOST_AMOUNT:=vt A (zw hB 10 U);have N_MOST_BANDS:=vt A (zw hB 11 U);have N_MOST_DEPTH:=vt A (zw hB 12 U);have N_MOST_FIGURES:=vt A (zw hB 13 U);have N_LAST_YEAR:=vt A (zw hB 14 U);have N_MOST_RULES:=vt A (zw hB 15 U);have N_LETTERS:=Jk A (zw hB 16 U);have N_FIGURES:=Jk A (zw hB 17 U);have N_WAYS:Pg.TM K mg "WAYS" ["down","up","near","even"]:=(WK (zw hB 18 U)).mg X G;have N_NO_RULE_NAMES:Pg.TM K mg "NO_RULE_NAMES" ["base","net","month","sums"]:=(WK (zw hB 19 U)).mg X G;have N_HEAD:=Jk A (zw hB 20 U);have KL_Rule:=vz (zw hB 21 U);have mg_Rule:=vo A (zw hB 22 U);have KL_Flat:=vz (zw hB 23 U);have mg_Flat:=vo A (zw hB 24 U);have KL_Share:=vz (zw hB 25 U);have mg_Share:=vo A (zw hB 26 U);have KL_Capped:=vz (zw hB 27 U);have mg_Capped:=vo A (zw hB 28 U);have KL_Least:=vz (zw hB 29 U);have mg_Least:=vo A (zw hB 30 U);have KL_Bands:=vz (zw hB 31 U);have mg_Bands:=vo A (zw hB 32 U);have KL_OnTop:=vz (zw hB 33 U);have mg_OnTop:=vo A (zw hB 34 U);have KL_RuleBook:=vz (zw hB 35 U);have mg_RuleBook:=vo A (zw hB 36 U);have RK:wV K qV:=⟨BA KL_Flat KL_Share KL_Capped KL_Least,BA (uU (zw hB 37 U)) (uU (zw hB 38 U)) (uU (zw hB 39 U)) (uU (zw hB 40 U))⟩;have RX4:JV K (qV 4):=⟨KL_Bands,(uU (zw hB 41 U))⟩;have RX5:JV K (qV 5):=⟨KL_OnTop,(uU (zw hB 42 U))⟩;have RJ:RD K qV 374:=⟨U4 (vd (zw hB 43 U)) (vd (zw hB 44 U)) (vd (zw hB 45 U)) (vd (zw hB 46 U)) (vd (zw hB 47 U)) (vd (zw hB 48 U)),(vd (zw hB 49 U)),(vk (zw hB 50 U)),U4 (vk (zw hB 51 U)) (vk (zw hB 52 U)) (vk (zw hB 53 U)) (vk (zw hB 54 U)) (vk (zw hB 55 U)) (vk (zw hB 56 U)),U4 (vk (zw hB 57 U)) (vk (zw hB 58 U)) (vk (zw hB 59 U)) (vk (zw hB 60 U)) (vk (zw hB 61 U)) (vk (zw hB 62 U)),U4 KL_Flat KL_Share KL_Capped KL_Least KL_Bands KL_OnTop,oG (zw hB 63 U)⟩;have C1:=zP hF A 0 rfl λF=>Ut F GL;have C2:=zP hF A 1 rfl λF=>oX F C1;have C3:=zP hF A 2 rfl λF=>oM F N_MOST_PARTS C2;have C4:=zP hF A 3 rfl λF=>MW F GL N_WAYS;have C11:=zP hF A 4 rfl λF=>Ng F GL N_MOST_SIGNS;have C12:=zP hF A 5 rfl λF=>NK F N_LETTERS C11;have C13:=zP hF A 12 rfl λF=>Ou F N_NO_RULE_NAMES C12;have C14:=zP hF A 13 rfl λF=>mj F N_MOST_AMOUNT C2;have C15:=zP hF A 14 rfl λF=>oI F C14;have C16:=zP hF A 15 rfl λF=>Oj F C3 C4;have C18:=zP hF A 6 rfl λF=>pS F GL;have C19:=zP hF A 16 rfl λF=>P1 F GL C14 C3;have C20:=zP hF A 17 rfl λF=>oE F GL N_MOST_BANDS C19 C18;have R0:=N7 hM A 0 rfl (zw hB 64 U) mg_Rule λF=>OC F C13;have R1:=R0.imp (LU RK);have I0:=v8 (C:=qV 0) hM A 1 rfl (zw hB 65 U) mg_Flat λF=>Of F RK R1 C15;have I1:=v8 (C:=qV 1) hM A 5 rfl (zw hB 66 U) mg_Share λF=>On F RK R1 C16;have I2:=v8 (C:=qV 2) hM A 9 rfl (zw hB 67 U) mg_Capped λF=>om F RK R1 C16 C15;have I3:=v8 (C:=qV 3) hM A 13 rfl (zw hB 68 U) mg_Least λF=>GU F RK R1 C16 C15;have I4:=v8 (C:=qV 4) hM A 17 rfl (zw hB 69 U) mg_Bands λF=>LO F GL RX4 R0 C20 C4;have E0:=yv (C:=qV 0) hM A 3 rfl KL_Flat λF=>Qd (Cs:=qV) (d:=3) (k:=0) ∅ F;have E1:=yv (C:=qV 1) hM A 7 rfl KL_Share λF=>Qd (Cs:=qV) (d:=3) (k:=1) ∅ F;have E2:=yv (C:=qV 2) hM A 11 rfl KL_Capped λF=>Qd (Cs:=qV) (d:=3) (k:=2) ∅ F;have E3:=yv (C:=qV 3) hM A 15 rfl KL_Least λF=>Qd (Cs:=qV) (d:=3) (k:=3) ∅ F;have E4:=yv (C:=qV 4) hM A 19 rfl KL_Bands λF=>Qd (Cs:=qV) (d:=3) (k:=4) ∅ F;have E50:=yv (C:=qV 5) hM A 23 rfl KL_OnTop λF=>p8 (Cs:=qV) (j:=1);have ME0:=Gc E0 E1 E2 E3 E4 (d:=0) ∅ ∅ E50;have E51:=yv (C:=qV 5) hM A 23 rfl KL_OnTop λF=>YB F RX5 ME0;have ME1:=Gc E0 E1 E2 E3 E4 (d:=1) ∅ ∅ E51;have E52:=yv (C:=qV 5) hM A 23 rfl KL_OnTop λF=>YB F RX5 ME1;have ME2:=Gc E0 E1 E2 E3 E4 (d:=2) ∅ ∅ E52;have E53:=yv (C:=qV 5) hM A 23 rfl KL_OnTop λF=>YB F RX5 ME2;have T0:=yv (C:=qV 0) hM A 2 rfl KL_Flat λF=>Lx (d:=3) F RK I0;have T1:=yv (C:=qV 1) hM A 6 rfl KL_Share λF=>pY (d:=3) F RK I1;have T2:=yv (C:=qV 2) hM A 10 rfl KL_Capped λF=>LV (d:=3) F RK I2;have T3:=yv (C:=qV 3) hM A 14 rfl KL_Least λF=>mP (d:=3) F RK I3;have T4:=yv (C:=qV 4) hM A 18 rfl KL_Bands λF=>lL (d:=3) F RX4 I4;have T50:=yv (C:=qV 5) hM A 22 rfl KL_OnTop λF=>G2 (Cs:=qV) (j:=8);have MT0:=GJ T0 T1 T2 T3 T4 (d:=0) ∅ ∅ T50;have I50:=v8 (C:=qV 5) hM A 21 rfl (zw hB 70 U) mg_OnTop λF=>JR F GL RX5 RJ mg_Rule N_MOST_DEPTH ∅ ∅ R0 C16 MT0 (E51.mono ∅);have T51:=yv (C:=qV 5) hM A 22 rfl KL_OnTop λF=>Jf F RX5 I50;have MT1:=GJ T0 T1 T2 T3 T4 (d:=1) ∅ ∅ T51;have I51:=v8 (C:=qV 5) hM A 21 rfl (zw hB 70 U) mg_OnTop λF=>JR F GL RX5 RJ mg_Rule N_MOST_DEPTH ∅ ∅ R0 C16 MT1 (E52.mono ∅);have T52:=yv (C:=qV 5) hM A 22 rfl KL_OnTop λF=>Jf F RX5 I51;have MT2:=GJ T0 T1 T2 T3 T4 (d:=2) ∅ ∅ T52;have I52:=v8 (C:=qV 5) hM A 21 rfl (zw hB 70 U) mg_OnTop λF=>JR F GL RX5 RJ mg_Rule N_MOST_DEPTH ∅ ∅ R0 C16 MT2 (E53.mono ∅);have I5:=I52.mono (k:=16) ∅;have ME3:=Gc E0 E1 E2 E3 E4 (d:=3) ∅ ∅ E53;have E54:=yv (C:=qV 5) hM A 23 rfl KL_OnTop λF=>YB F RX5 ME3;have T53:=yv (C:=qV 5) hM A 22 rfl KL_OnTop λF=>Jf F RX5 I52;have MT3:=GJ T0 T1 T2 T3 T4 (d:=3) ∅ ∅ T53;have C11B:=zP hF A 4 rfl λF=>LI F GL N_MOST_SIGNS;have C12B:=zP hF A 5 rfl λF=>P7 F N_LETTERS C11B;have C13B:=zP hF A 12 rfl λF=>OJ F N_NO_RULE_NAMES C12B;have C4B:=zP hF A 3 rfl λF=>nM F GL N_WAYS;have C3B:=zP hF A 2 rfl λF=>OT F N_MOST_PARTS C2;have C14B:=zP hF A 13 rfl λF=>LC F N_MOST_AMOUNT C2;have C15E:=zP hF A 14 rfl λF=>GR F ER5 C14B;have C16E:=zP hF A 15 rfl λF=>Oo F ER5 C3B C4B;have C19B:=zP hF A 16 rfl λF=>LK F GL C14B C3B;have C18B:=zP hF A 6 rfl λF=>pK F GL;have C20B:=zP hF A 17 rfl λF=>Ow F GL N_MOST_BANDS C19B C18B;have R0E:=N7 hM A 0 rfl (zw hB 64 U) mg_Rule λF=>Ob F ER5 C13B;have I0E:=v8 (C:=qV 0) hM A 1 rfl (zw hB 65 U) mg_Flat λF=>gz F RK R0E C15E;have I1E:=v8 (C:=qV 1) hM A 5 rfl (zw hB 66 U) mg_Share λF=>Xl F RK R0E C16E;have I2E:=v8 (C:=qV 2) hM A 9 rfl (zw hB 67 U) mg_Capped λF=>XD F RK R0E C16E C15E;have I3E:=v8 (C:=qV 3) hM A 13 rfl (zw hB 68 U) mg_Least λF=>Xf F RK R0E C16E C15E;have I4E:=v8 (C:=qV 4) hM A 17 rfl (zw hB 69 U) mg_Bands λF=>GT F ER5 RX4 R0E C20B C4B;have I5E:=v8 (C:=qV 5) hM A 21 rfl (zw hB 70 U) mg_OnTop λF=>Oe F GL ER5 RX5 RJ mg_Rule N_MOST_DEPTH ∅ R0E C16E MT3 (E54.mono ∅);have Q1:=zP hF A 7 rfl λF=>Jy F GL N_FIGURES;have Q2:=zP hF A 8 rfl λF=>MY F Q1;have Q3:=zP hF A 9 rfl λF=>Rh F GL ER2 Q2;have Q4:=zP hF A 18 rfl λF=>nG F N_MOST_FIGURES Q3;have Q5:=zP hF A 19 rfl λF=>pO F GL ER5 Q4;have Q6:=zP hF A 20 rfl λF=>oB F GL Q5;have Q7:=zP hF A 21 rfl λF=>MX F GL ER5 Q4 Q6 I0 I1 I2 I3 I4 I0E I1E I2E I3E I4E;have Q8:=zP hF A 22 rfl λF=>pA F GL;have W0:=zP hF A 23 rfl λF=>nj (Cs:=qV) (cT:=Q0 2) (cB:=Q0 5) (j:=19);have W1:=zP hF A 23 rfl λF=>UL ∅ F ER5 N_MOST_DEPTH Q8 Q7 Q4 W0 I5 I5E;have W2:=zP hF A 23 rfl λF=>UL ∅ F ER5 N_MOST_DEPTH Q8 Q7 Q4 W1 I5 I5E;have W3:=zP hF A 23 rfl λF=>UL ∅ F ER5 N_MOST_DEPTH Q8 Q7 Q4 W2 I5 I5E;have W4:=zP hF A 23 rfl λF=>UL ∅ F ER5 N_MOST_DEPTH Q8 Q7 Q4 W3 I5 I5E;have Ro:=zP hF A 24 rfl λF=>Ni F GL ER5 ER2 (vk (zw hB 71 U)) (vk (zw hB 72 U)) W4;have RW0:=yv (C:=qV 0) hM A 4 rfl KL_Flat λF=>m7 F GL RK;have RW1:=yv (C:=qV 1) hM A 8 rfl KL_Share λF=>ND F GL RK;have RW2:=yv (C:=qV 2) hM A 12 rfl KL_Capped λF=>nJ F GL RK;have RW3:=yv (C:=qV 3) hM A 16 rfl KL_Least λF=>Mr F GL RK;have RW4:=yv (C:=qV 4) hM A 20 rfl KL_Bands λF=>NR (d:=3) F GL RX4;have RW50:=yv (C:=qV 5) hM A 24 rfl KL_OnTop λF=>Pp (Cs:=qV) (j:=1);have MR0:=Gs RW0 RW1 RW2 RW3 RW4 (d:=0) ∅ ∅ RW50;have RW51:=yv (C:=qV 5) hM A 24 rfl KL_OnTop λF=>Uv ∅ F GL RX5 MR0;have MR1:=Gs RW0 RW1 RW2 RW3 RW4 (d:=1) ∅ ∅ RW51;have RW52:=yv (C:=qV 5) hM A 24 rfl KL_OnTop λF=>Uv ∅ F GL RX5 MR1;have MR2:=Gs RW0 RW1 RW2 RW3 RW4 (d:=2) ∅ ∅ RW52;have RW53:=yv (C:=qV 5) hM A 24 rfl KL_OnTop λF=>Uv ∅ F GL RX5 MR2;have MR:=Gs RW0 RW1 RW2 RW3 RW4 (d:=3) (j:=4) ∅ ∅ RW53;have Ny:=zP hF A 10 rfl λF=>Uq F ER4 N_LAST_YEAR C2;have Fw:=zP hF A 25 rfl λF=>ML F GL ER6 N_MOST_RULES;have Un:=zP hF A 26 rfl λF=>nW F GL ER6 (U4 KL_Flat KL_Share KL_Capped KL_Least KL_Bands KL_OnTop) (U4 (show yD K (qV 0) "name" from (ym (zw hB 73 U))) (show yD K (qV 1) "name" from (ym (zw hB 74 U))) (show yD K (qV 2) "name" from (ym (zw hB 75 U))) (show yD K (qV 3) "name" from (ym (zw hB 76 U))) (show yD K (qV 4) "name" from (ym (zw hB 77 U))) (show yD K (qV 5) "name" from (ym (zw hB 78 U))));have B_i:=v8 hM A 25 rfl (zw hB 80 U) mg_RuleBook λF=>pU F KL_RuleBook (ym (zw hB 79 U));have B_p:=yv hM A 26 rfl KL_RuleBook λF=>mY ∅ F GL KL_RuleBook (ym (zw hB 79 U)) Ny Fw Ro Un MR;have B_r:=yv hM A 27 rfl KL_RuleBook λF=>lE F GL ER7 KL_RuleBook (ym (zw hB 79 U)) Ny;have B_rC:=yu.calm B_r;have B_y:=yv hM A 28 rfl KL_RuleBook λF=>oy F GL KL_RuleBook (ym (zw hB 79 U));have Yt:=zP hF A 11 rfl λF=>UT F GL;have Yw:=zP hF A 27 rfl λF=>Tr F N_HEAD Yt B_rC;have Tof:=zP hF A 28 rfl λF=>RS F B_y Yw;have Ih:=zP hF A 29 rfl λF=>RA F GL N_HEAD Q1;have Pt:=zP hF A 30 rfl λF=>nE F GL N_HEAD ER2 Ih;have Bk:=zP hF A 31 rfl λF=>tX (J:=24) ∅ F GL ER2 ER6 ER5 (vk (zw hB 81 U)) (vk (zw hB 82 U)) (vk (zw hB 83 U)) B_i Pt C18B B_p;have D1:=zP hF A 32 rfl λF=>xN F GL;have D2:=zP hF A 33 rfl λF=>Mz F;have D4:=zP hF A 34 rfl λF=>Mm F D2;have D6:=zP hF A 35 rfl λF=>NO F GL D2;have D7:=zP hF A 36 rfl λF=>MS F D2;have D8:=zP hF A 37 rfl λF=>MA F D2;have D9:=zP hF A 38 rfl λF=>Nz F GL D2 D7;have D10:=zP hF A 39 rfl λF=>NT F D4 D7 D8 D9;have D11:=zP hF A 40 rfl λF=>mT F GL D2 D10 D7 D8;have Drules:=zP hF A 42 rfl λF=>OL F GL D2 D11;have B0:=zP hF A 41 rfl λF=>Ly (j:=2);have B1:=zP hF A 41 rfl λF=>YH F GL ∅ B0;have B2:=zP hF A 41 rfl λF=>YH F GL ∅ B1;have B3:=zP hF A 41 rfl λF=>YH F GL ∅ B2;have B4:=zP hF A 41 rfl λF=>YH F GL ∅ B3;have Ln:=zP hF A 43 rfl λF=>MQ F GL;have Lu:=zP hF A 44 rfl λF=>Mq F GL;have Lp:=zP hF A 45 rfl λF=>nK F GL Lu;have Lt:=zP hF A 46 rfl λF=>M9 F Lu Lp;have Y0:=zP hF A 47 rfl λF=>Nh (j:=4);have Y1:=zP hF A 47 rfl λF=>V9 ∅ F GL Ln Lt Y0;have Y2:=zP hF A 47 rfl λF=>V9 ∅ F GL Ln Lt Y1;have Y3:=zP hF A 47 rfl λF=>V9 ∅ F GL Ln Lt Y2;have Y4:=zP hF A 47 rfl λF=>V9 ∅ F GL Ln Lt Y3;have Rd:=zP hF A 48 rfl λF=>MB F Y4;have Bt:=zP hF A 49 rfl λF=>mS F GL;have Wd:=Rc hF A 50 rfl λF=>tM F GL KD;have Yr:=zP hF A 51 rfl λF=>Mo F D2;have Tx:=zP hF A 52 rfl λF=>nH F GL;have Yi:=zP hF A 53 rfl λF=>Mt F GL;have Lb:=zP hF A 54 rfl λF=>tE F GL Yi Rd;have Br:=zP hF A 55 rfl λF=>Nx F GL;have Td:=zP hF A 56 rfl λF=>NI ∅ F mgR RZ2 Bk Wd;have Rg:=zP hF A 57 rfl λF=>Nd ∅ F GL KL_RuleBook mg_RuleBook (vd (zw hB 84 U)) (vd (zw hB 49 U)) (vk (zw hB 50 U)) (vk (zw hB 85 U)) (vk (zw hB 86 U)) Lb Td B_y Tof B_rC;have TdJ:=Td.mono (k:=28) ∅;have PuJ:=(yu.calm B_p).mono (k:=28) ∅;exact Rm ∅ Fl GL D1 D2 Yr D6 Drules B4 B_i PuJ Tx Tof Bt Br Rg TdJ
end K12
open PySem PySem.W PyProof.Rows
set_option maxRecDepth 100000 in
set_option maxHeartbeats 0 in
theorem PySem.Challenge.cw_coinroll_k12_books_written_holds : PySem.Challenge.rw_coinroll_k12_books_written.Holds := by
 w_on;o_law
 refine' holds_open (q:=K12.hQ) (d:=K12.hD) (kwd:=[]) K12.bc ?a1 ?a2 ?a3 XL.keeps ?a4 ?a5 ?a6 ?a7 ?a8 ?a9 ?b1 ?b2 ?b3 K12.bV
 case a1=>exactλw s e=>L2.lG w s e
 case a2=>exact L2.xJ
 case a3=>exactλs e=>xl_of s (Dr.mp e).1
 case a4=>exact L2.MU K12.Bn (by kernel_rfl)
 case a5=>kernel_rfl
 case a6=>kernel_rfl
 case a7=>exactλs e=>recFacts_of (Dr.mp e).2
 case a8=>rfl
 case a9=>assumption
 case b1=>decide+kernel
 case b2=>exact⟨rfl,rfl,rfl,rfl,rfl,⋯⟩
 case b3=>w_witness2
#print axioms PySem.Challenge.cw_coinroll_k12_books_written_holds
