import PyProof.Rows.All
import Wide.All
import OpenK.AllK
import Wide.FinOn
import Lean
import PyProof.EqAt
import PyProof.EqKinds
import PyProof.TupleCall
import PyProof.NeKinds
import PyProof.SumWalkG
import PyProof.EnumMake
import KE.KIntText
import PyProof.StrLawsIn
import PyProof.StrCalls2
import PyProof.Rows.SortRuns
import KE.KSortTup
import KE.KSortKey
import PyProof.StrCalls
import PyProof.ListRange
import KE.IntTextLaws
import KE.IntTextText
import PyProof.SetKind
import PyProof.Rows.SetFrom
import PyProof.Walks
import KE.KItemsList
import PyProof.Rows.FStr
import KE.KDictOf
import PyProof.AttrMissHeap
import PyProof.AutoListH
import PyProof.Rows.ZipGen
import PyProof.Rows.EnumRows
import PyProof.EnumFor
import PyProof.WalksMore
import PyProof.TupleIter
import KE.KRevIter
import PyProof.CollectIter
import PyProof.JoinWalk
import PyProof.Rows.FactsT2
import PyProof.SeqI3
import PyProof.DictWalks
import PyProof.CollectWalk
import PyProof.Rows.SortWalk
import KE.KDictSum
import PyProof.StrReplace2
import PyProof.StrLawsChain
import PyProof.StrCalls6
import PySem.Challenge.RW_coinroll_k27_whole_papers_read
set_option Elab.async false
set_option linter.all false
set_option genSizeOf false
set_option compiler.extract_closed false
set_option maxRecDepth 100000
noncomputable section
open PySem renaming wpAny_bind→aa,Value→ae,Str→af,sizeLine_eq→ah,Addr→aj,wpAny_pure→aq,sizeLine→ar,mainGlobals→au,Shared→av,model→az,Spec→aD,starEach→aE,Expr→aK,wpAny_holding→aY,World→aZ,wpAny_newObj_type→a_,Program→f_,boot_len→g_,Heap→ia,wpAny_truthy_bool→ib,bootBuiltins→ig,codeAny_builtin→iq,compareOp→ir,wpAny_field→iw,rawInt→iz,mem_of_lookup→iE,OsState→iF,wpAny_setState_of→iG,wpAny_comprehension_free→iI,wpAny_call_entry→iK,Obj→iN,importedModules→iR,Pos→iS,foldedSetIterable→i7,strValues→i8,backTo→i9,wpAny_execs_cons→k_,wpAny_setField_rec→m_,builtinLookup_eq_fast→p_,wpAny_passesOwn→r_,wpAny_pyIter_list→sr,binaryOp→su,sysModules→sv,plainId_quiet→sx,Around→sC,wpAny_callSpecial?_slot→sD,intText_digits→sE,wpAny_mono→sH,wpAny_execs_nil→sO,wpAny_attempt→sP,Stmt→sT,assignEach→sU,cLine→sV,wpAny_rule→sW,codeAny_mono→sZ,wpAny_isInstance→s_,Paired→w_,behindInMarks→Aa,attributeBase→Ab,letOwnedTupleGo→Ae,typeLookup_type→Af,wpAny_Call_Name_kw→Aj,typeIs_str→Ak,wpAny_List_spliced→Am,sliceBounds→Aq,SetTable→Au,Keyword→Av,wpAny_Call_method_late→Aw,wpAny_setField→Ax,newFunctionEnv→Ay,codeAny_compStart_list→Az,wpAny_typeOf→AB,wpAny_isTrue_Compare1→AL,call_meets→AM,wpAny_standAt→AR,FuncData→AV,Scope→AW,keywordEach→AX,codeAny_call_builtin→AY,setField→AZ,strIterType→A0,pyNext→A4,wpAny_specialOf→A5,length_partsBetween→A7,call_meetsIn→B_,tupleKind→E_,swapsWith→Fh,builtinsNs→Fj,assign→Fm,recursionLimit→Fn,NameKind→Fo,wpAny_newFunctionEnv_cells→Fp,wpAny_runValue→Fq,wpAny_seqItems→Fs,compEnvC→Ft,tupleKind_room_in1→Fu,spliced→FI,wpAny_assign_Name→FJ,wpAny_Assign_Name→FK,relabel→FL,eval_ListComp→FR,JoinOk→FU,cellsFrom→FY,checkBuiltinCall→FZ,entryFor_of_tree→F0,compPost→F7,scanBound→F8,wpAny_askSetting→F9,wpAny_load→Hq,wpAny_pyNext_list_item→Hr,BindsTo→Hs,wpAny_call→Ht,typeLookup→Hu,wpAny_ite_split→Hx,wpAny_pyIter_listiter→HB,codeAny_call_function→HC,exec_Assign_Name_used→HD,backToKw→HM,wpAny_throw→HN,firstArgMember→HP,wpAny_of_eq→HQ,isSubtype_stop→HR,wpAny_newFunctionEnv→HS,relayAll→HW,isSubtype_type→HX,codeAny_extend_loopS→HY,treeTable→Im,callerA→Io,Fin→Iq,wpAny_Assign_stores→Ir,Env→Iv,Tok→Iw,wpAny_newList→IC,wpAny_Constant_int→IF,wpAny_pyIter_tuple→IG,isInstance→IH,slot_listiter_next→II,getattributeRaised→IJ,call→IQ,Result→Kd,holding→Ke,wpAny_Return_some→Kf,entryFor→Kg,valueAt→Kh,wpAny_Call_method→Ki,wpAny_storeSet_of→Kl,wpAny_pyIter_enum→Km,collect→Kn,wpAny_pyIter_slot→Ko,wpAny_eqBool_int→KH,wpAny_eqBool_str→KI,pyIter→KJ,setFlight→KL,noteFrame→KN,seqItems?→KO,wpAny_pyIter_zip→KP,Arguments→KZ,seqIndex_of→K0,call_tuple_list→K6,codeAny_of_tree→K8,wpAny_updateSeq→K_,ElemsOf→Sa,GenState→Se,wpAny_Name→Sh,bindArgs→Si,bindL→Sj,bindC→Sk,sliceRange_one→Sn,typeIs_int→So,getAttr?→Sq,newExc→Sr,atKey→Ss,wpAny_newTuple→Sx,wpAny_tryCatch→SK,entryFor_alias→SM,wpAny_fieldsOf→SN,setEntries→SO,zfilled→S0,strKind→S8,PadOk→U_,joinParts→W_,Ctx→X_,DefRec→Y_,newList→Z_
open Option.some renaming inj→ai,injEq→FP
open List renaming replicate→aw,zipWith→aH,range→aQ,length→iB,takeWhile→n_,dropWhile→o_,getElem?_toArray→HG,getElem?_reverse→HH,countP_mono_left→HI,zip→H_,range'→Ia,replicate_succ'→Ih,count_le_length→Ii,lt_of_le_of_lt→Iz,foldl→IT,foldl_toArray→I_,append_of_mem→J_,any_map→Kt,take_sublist→Ky,getElem_take→Kz,le_antisymm→KW,countP_cons→KY,map_id→K5,forIn_cons→N_,take_zero→SU,lt_irrefl→SV,drop_take→SW
open Or renaming inl→ax,inr→Ao
open PySem.Txt renaming slice→ay,join→aF,split→aW,slice_le→h9,rjust→iL,zfill→sj,replace→sG,ljust→u_,rstripChars→Ah,startswith→Fw
open PySem.F renaming plainAttrs_str→aA,type_list_append→aO,slot_list_append→aP,plainAttrs_list→aU,type_str_join→hW,slot_str_join→hZ,slot_str_split→iC,slot_dict_get→iU,type_str_split→i_,type_str_zfill→sL,slot_str_zfill→sM,entry_dict_get→sN,plainAttrs_dict→Ar,plain_list_iadd→AI,type_str_startswith→C_,slot_str_startswith→D_,args_str_split_2→FA,entry_str_split→FQ,slot_dict_items→F_,args_dict_get_3→G_,args_dict_get_2→Hj,type_dict_get→HE,slot_range_contains→HJ,plain_proto_collect→HK,entry_proto_collect→HL,plain_extend_loop→IA,entry_list_iadd→KC,slot_set_iter→O_,slot_int_rmul→P_,plain_set_new→Q_
open PySem.W renaming kitOne→aB,boot_heap→aJ,nsIn→hU,kia_one→h_,fnOf→sI,keepIn→sY,findIn→An,cellsFrom_some→AJ,excIn→AU,Frag→A6,boot_drawn→Fi,exmOne→Fx,methodObj→FO,boot_toks→FW,SharedT→Hn,absHeap→Ho,instObj→Hz,OpenLaw→HA,lookIn→Ic,codeIn→Ie,namesBound→ID,looseW→IE,kitx_tuple→IY,codeRec_of→IZ,callWith_K→I0,kitx_list→Ku,kitx_dict→Kv,staticsOk→KG,plainGet→KQ,gensDone→Sb,laidKept→Sd,InstAt→SR,WalkO→S_,defOf→V_
open PySem.Str renaming empty→aC,ofString→AF,mk→IK
open PySem.Value renaming ref→aG,none→aS,int→iQ,str→iW,type→iX,builtin→AS,isStrOf_shape→A8,bool→IM,isStrOf→SX
open PyProof.Rows renaming arrOf→aM,Keyed→aR,wpS_bind→e_,callWith_type1→hV,envOfC→iu,SortSt→iA,wpS_pure→iJ,seqObj→l_,pendingOf→t_,boot_sorted→Ac,wpS_forRange→AA,callWith_builtin1→AQ,AllBare→A_,failedOf→Fv,Subscript_→Hv,subscriptTail_builtinR→Hw,boot_max→HF,wpS_reverse→HU,mirror_perm→HV,slot_tupleiter_next→Iu,subscriptTail→IB,wpS_get→Kj,tuples'→Kk,get?_update_seq→K7,entry_list_sort→K9,IntsAre→R_,plainsOf→Sf,wpS_mono→Su,wpS_modify→Sv,setPending→Sw,joinParts_cons→Sy,slot_list_sort→Sz,args_list_sort→SJ,Call_→T_
open PySem.Builtin.Str renaming occurrences→aN,partsBetween→b_,strSliceIndices→j_,tooLong→y_,strKind→z_,padded→Ap,strSub→SQ
open List.cons renaming inj→aT
open PySem.SetTable renaming below→aV,grown→sF,insertAt→sR,advance→AO,laid→SY
open PySem.PassesOwn renaming never→aX
open PySem.NumText renaming AllDigits→c_,digitsVal→d_,digitsVal_snoc→HZ
open PySem.Around renaming under_plainId→ie,frames_deeper→Il
open PySem.Obj renaming mapSeq→ij,data_mapFields→iY,mapFields→iZ,isFreed_of_fields→sQ,putSet→IS,cls_mapFields→Kw
open PySem.Heap renaming SameBut→ik,ExtBut→Ib
open PySem.Calls renaming spliced_cons→ip,spliced_nil→iO,callWith_builtin→iP,evalArgs_plain→i6,Constant_str→sJ,Name_function_global→FE,call_function_entry→FG
open Sum renaming inr→iy,inl→Ip
open False renaming elim→iD
open List.Pairwise renaming nil→iH,of_map→Ij,cons→Ka
open PySem.Builtin.List renaming listExtendWith→iM,listSameRef→sA,listLengthHint→sS,listTooLong→Ad
open Ne renaming symm→iT
open PySem.Sem renaming wp→iV
open PySem.Builtin.Range renaming rangePlace?→q_,rangeFields→FH
open True renaming intro→sX
open Nat.succ renaming inj→v_
open PySem.Heap.SameBut renaming update→x_,refl→KA
open Prod renaming mk→Ag,fst→Kp
open ForInStep renaming yield→Ai
open PyProof.Rows.F renaming plain_set_update_loop→As,entry_set_update_loop→Hl
open Nat renaming ble→AD,mul_le_mul_right→Ig,mul_le_mul_left→Iy,succ_pos→Kq,succ_mul→Kr,add_comm→Ks,lt_succ_of_le→Kx,not_lt_of_le→KR,mod_eq_of_lt→KS,div_eq_of_lt→KU,log2_lt→K4,strongRecOn→L_,max_eq_left→M_,le_antisymm→Nr
open Array renaming mk→AE,getD→AN,toList_extract→Ik,extract_size→Kb,append_assoc→Kc
open PySem.SetTable.below renaming go→AG
open List.Sublist renaming refl→AH
open PySem.Builtin.SmallTypes renaming stopIteration→AK
open PySem.EntryCells renaming newEntry→A9
open PySem.SeqAt.RcNeAt renaming lists→Fy,lists_lengths→FD
open List.Nodup renaming sublist→Fz
open PySem.Code renaming quiet_builtin→FC
open Classical renaming byContradiction→FF
open PySem.SetTable.probe renaming go→FN
open PySem.Paired renaming length→FV
open PySem.Builtin.Dict renaming updateFrom→Hm
open PySem.SeqAt.EqAt renaming same→Hy,str_int→IU,of_refs→IV,int_str→IW
open PySem.Walks renaming list→IL
open PySem.SeqAt renaming EqAt→IP
theorem Z {α}{a:α}:a=a:=rfl
abbrev i':=@decide_eq_true
abbrev j':=@decide_eq_false
abbrev B':=@of_decide_eq_true
abbrev G':=@congrArg
abbrev K':=@if_neg
abbrev L':=@if_pos
abbrev M':=@absurd
abbrev BFr:=A6
abbrev BnR (K:BFr)(x:af)(c:aj):Prop:=hU K au x=some (some (.ref c))
abbrev BnI (K:BFr)(x:af)(i:Int)(t:Iw):Prop:=hU K au x=some (some (.int i t))
abbrev BfS (K:BFr)(c:aj):Prop:=An K (.ref c) "__setattr__"=some (some (.builtin "object.__setattr__"))
abbrev BfC (K:BFr)(c:aj):Prop:=An K (.ref c) "__class__"=some (some (.builtin "object.__class__"))
abbrev BkO (K:BFr)(a b:aj)(x:Bool):Prop:=aB K (.ref a) (.ref b)=some x
abbrev Bmg_o:=@PySem.W.mg_of
abbrev Bmg_n:=@PySem.W.mg_none_of
set_option hygiene false in
local macro_rules | `(tactic| walk_at "0") => `(tactic| exactλ_ _ _ _ _ _ us hl=>by obtain⟨a,rfl⟩:=qF hl;rfl)
set_option hygiene false in
local macro_rules | `(tactic| walk_at "2") => `(tactic| exactλ_ _ _ _ _ _ us hl=>by obtain⟨a,b,rfl⟩:=ZW hl;rfl)
set_option hygiene false in
local macro_rules | `(tactic| walk_at "s") => `(tactic| exact ⟨rfl,rfl,rfl,by decide +kernel,rfl,by decide +kernel,by decide +kernel⟩)
set_option hygiene false in
local macro_rules | `(tactic| walk_at "c0") => `(tactic| exact ⟨rfl,rfl,by decide +kernel,by decide +kernel,(λx c z=>nomatch z),qc (by rfl),zH zX,rfl⟩)
set_option hygiene false in
local macro_rules | `(tactic| walk_at "c1") => `(tactic| exact ⟨rfl,rfl,by decide +kernel,by decide +kernel,(λx c z=>nomatch z),qc (by rfl),zH (zH zX),rfl⟩)
set_option hygiene false in
local macro_rules | `(tactic| walk_at "c2") => `(tactic| exact ⟨rfl,rfl,by decide +kernel,by decide +kernel,vg (Q0 rfl),qc (by rfl),zH (qR ⟨_,rfl,rfl,rfl,rfl⟩ zX),rfl⟩)
set_option hygiene false in
local macro_rules | `(tactic| walk_at "c3") => `(tactic| exact ⟨rfl,rfl,by decide +kernel,by decide +kernel,vg (mS rfl (Q0 rfl)),qc (by rfl),zH (qR ⟨_,rfl,rfl,rfl,rfl⟩ (qR ⟨_,rfl,rfl,rfl,rfl⟩ zX)),rfl⟩)
set_option hygiene false in
local macro_rules | `(tactic| walk_at "d4") => `(tactic| dsimp (config:={ proj:=false,iota:=false }) only)
set_option hygiene false in
local macro_rules | `(tactic| walk_at "d5") => `(tactic| dsimp (config:={ proj:=false,iota:=false,beta:=false,eta:=false }) only [jQ,uH])
abbrev BnN (K:BFr)(x:af):Prop:=hU K au x=some none
abbrev Cw:=@List.length_map
abbrev Cz:=@Nat.le_refl
abbrev CA:=@List.length_append
abbrev CB:=@List.mem_map
abbrev CC:=@List.getElem?_eq_getElem
abbrev CD:=@Nat.le_trans
abbrev CF:=@List.mem_cons
abbrev CG:=@List.mem_cons_self
abbrev CH:=@PySem.Heap.lt_size
abbrev CI:=@List.getElem?_map
abbrev CJ:=@List.map_append
abbrev CK:=@List.mem_cons_of_mem
abbrev CM:=@Nat.ne_of_lt
abbrev CN:=@PySem.Heap.get?_push_of_some
abbrev CO:=@List.map_cons
abbrev CP:=@Nat.zero_le
abbrev CQ:=@List.length_take
abbrev CS:=@Option.map_eq_some_iff
abbrev CU:=@List.mem_append
abbrev CV:=@List.getElem?_eq_some_iff
abbrev CW:=@Bool.and_eq_true
abbrev CY:=@List.length_cons
abbrev CZ:=@Bool.false_ne_true
abbrev dc:=@List.append_assoc
abbrev de:=@List.size_toArray
abbrev dh:=@List.map_map
abbrev dj:=@PySem.Heap.get?_push_size
abbrev dk:=@List.getElem?_append_right
abbrev dm:=@List.mem_append_right
abbrev du:=@List.mem_singleton
abbrev dv:=@List.mem_of_getElem?
abbrev dw:=@List.not_mem_nil
abbrev dy:=@List.append_nil
abbrev dA:=@List.all_eq_true
abbrev dB:=@List.length_drop
abbrev dD:=@List.getD_eq_getElem?_getD
abbrev dF:=@List.getElem?_append_left
abbrev dG:=@Int.emod_nonneg
abbrev dH:=@Int.emod_lt_of_pos
abbrev dJ:=@Int.toNat_natCast
abbrev dM:=@List.take_length
abbrev dN:=@List.length_singleton
abbrev dO:=@List.getElem?_eq_none
abbrev dP:=@Nat.lt_of_lt_of_le
abbrev dQ:=@List.flatten_cons
abbrev dR:=@Bool.true_and
abbrev dS:=@List.take_add_one
abbrev dU:=@List.foldl_cons
abbrev dW:=@List.take_of_length_le
abbrev dX:=@List.mem_append_left
abbrev dY:=@Nat.le_of_not_lt
abbrev dZ:=@Int.eq_ofNat_of_zero_le
abbrev d6:=@Bool.false_and
abbrev d7:=@List.replicate_succ
abbrev d8:=@Bool.false_eq_true
abbrev d9:=@List.length_range
abbrev Dc:=@Array.length_toList
abbrev Dd:=@List.length_eq_zero_iff
abbrev De:=@Nat.le_add_right
abbrev Df:=@List.forall_mem_cons
abbrev Dg:=@Bool.not_eq_true'
abbrev Dh:=@List.length_replicate
abbrev Di:=@List.nil_append
abbrev Dj:=@List.ext_getElem?
abbrev Dk:=@List.length_reverse
abbrev Dl:=@List.mem_range
abbrev Dm:=@List.filterMap_cons
abbrev Dn:=@List.find?_cons
abbrev Do:=@Nat.le_succ
abbrev Dp:=@Nat.min_eq_left
abbrev Dq:=@Array.getElem?_eq_getElem
abbrev Dr:=@Bool.eq_iff_iff
abbrev Ds:=@List.nodup_cons
abbrev Du:=@PySem.Heap.get?_update_other
abbrev Dv:=@List.drop_zero
abbrev Dw:=@List.cons_append
abbrev Dx:=@List.pairwise_cons
abbrev Dy:=@List.mem_iff_getElem?
abbrev Dz:=@List.of_mem_zip
abbrev DA:=@List.getElem_mem
abbrev DB:=@Int.le_refl
abbrev DC:=@List.concat_eq_append
abbrev DD:=@List.map_nil
abbrev DE:=@List.take_append_drop
abbrev DF:=@List.mem_filter
abbrev DG:=@Option.isSome_iff_exists
abbrev DH:=@Array.getElem?_eq_some_iff
abbrev DJ:=@PySem.Heap.size_push
abbrev DK:=@Option.map_some
abbrev DM:=@Nat.sub_zero
abbrev DN:=@List.eq_nil_or_concat
abbrev DO:=@List.mem_of_mem_take
abbrev DP:=@List.count_append
abbrev DQ:=@Nat.zero_add
abbrev DU:=@Nat.ne_of_gt
abbrev DV:=@PySem.Heap.get?_update_self
abbrev DW:=@Nat.le_of_eq
abbrev DX:=@Nat.lt_of_le_of_lt
abbrev DY:=@List.length_nil
abbrev DZ:=@List.filter_append
abbrev D0:=@List.all_map
abbrev ej:=@List.foldl_append
abbrev eA:=@Array.getElem?_toList
abbrev eE:=@Nat.mod_lt
abbrev eF:=@List.flatten_nil
abbrev eG:=@List.filter_cons_of_pos
abbrev eI:=@Bool.and_eq_true_iff
abbrev eJ:=@Nat.lt_irrefl
abbrev eK:=@Nat.le_of_lt
abbrev eL:=@Nat.lt_succ_self
abbrev eO:=@Int.ediv_nonneg
abbrev eP:=@Nat.sub_self
abbrev eQ:=@List.getLast?_append
abbrev eR:=@List.mem_of_mem_drop
abbrev eT:=@Nat.le_of_ble_eq_true
abbrev eU:=@List.all_cons
abbrev eV:=@PySem.Heap.get?_none_of_le
abbrev eW:=@Nat.mul_comm
abbrev eX:=@Nat.add_le_add_left
abbrev eY:=@Nat.lt_trans
abbrev Ea:=@List.pairwise_append
abbrev Eb:=@List.reverse_append
abbrev Ec:=@Nat.min_self
abbrev Ed:=@List.set_set
abbrev Ee:=@Nat.not_lt
abbrev Ef:=@List.getElem?_range
abbrev Eg:=@List.pairwise_map
abbrev Eh:=@List.map_take
abbrev Ei:=@Bool.and_assoc
abbrev Ej:=@List.filter_cons_of_neg
abbrev Ek:=@List.zip_cons_cons
abbrev El:=@Array.toList_inj
abbrev Em:=@List.any_cons
abbrev Eo:=@Nat.lt_succ_of_lt
abbrev Ep:=@Nat.min_eq_right
abbrev Es:=@List.contains_iff_mem
abbrev Et:=@List.pairwise_singleton
abbrev Eu:=@Bool.and_false
abbrev Ew:=@List.getElem_map
abbrev Ex:=@List.map_congr_left
abbrev Ey:=@Nat.add_sub_cancel
abbrev Ez:=@List.getLast?_singleton
abbrev EA:=@List.length_zipWith
abbrev EB:=@Nat.pow_succ
abbrev EC:=@List.flatten_append
abbrev ED:=@List.zipWith_cons_cons
abbrev EF:=@List.mem_replicate
abbrev EG:=@List.drop_eq_nil_of_le
abbrev EH:=@Nat.le_succ_of_le
abbrev EI:=@List.map_drop
abbrev EJ:=@Array.toList_push
abbrev EK:=@List.all_append
abbrev EL:=@Bool.false_or
abbrev EM:=@List.getElem?_set_self
abbrev EN:=@List.getElem?_replicate
abbrev EO:=@Bool.eq_false_iff
abbrev ER:=@Option.getD_some
abbrev ES:=@List.length_filter_le
abbrev ET:=@Int.not_lt
abbrev EU:=@Int.natCast_nonneg
abbrev EV:=@Array.getElem?_eq_none
abbrev EW:=@List.getElem?_cons_succ
abbrev EY:=@List.pairwise_iff_getElem
abbrev EZ:=@List.drop_drop
abbrev E1:=@List.length_eq_one_iff
abbrev E2:=@List.length_zip
abbrev E3:=@List.any_eq_true
abbrev E4:=@Nat.not_lt_zero
abbrev E5:=@List.getElem?_drop
abbrev E6:=@Nat.add_le_add_right
abbrev E8:=@List.take_append_of_le_length
abbrev E9:=@List.zipWith_append
abbrev fb:=@Nat.le_add_left
abbrev fe:=@List.nil_sublist
abbrev ff:=@List.take_nil
abbrev fh:=@List.getElem_inj
abbrev fj:=@List.getElem?_set_ne
abbrev fk:=@List.mem_filterMap
abbrev fo:=@List.length_set
abbrev fq:=@Option.getD_none
abbrev fu:=@List.lookup_cons
abbrev fA:=@List.take_succ
abbrev fB:=@Bool.or_eq_true
abbrev fC:=@List.takeWhile_append_dropWhile
abbrev fD:=@List.dropLast_concat_getLast
abbrev fE:=@List.mem_iff_getElem
abbrev fF:=@List.isEmpty_iff
abbrev fG:=@Nat.add_le_add
abbrev fH:=@List.getElem?_zip_eq_some
abbrev fI:=@Array.toArray_toList
abbrev fJ:=@List.nodup_nil
abbrev fK:=@List.replicate_append_replicate
abbrev fL:=@List.drop_left
abbrev fM:=@List.take_left
abbrev fN:=@Nat.add_sub_add_right
abbrev fO:=@List.getElem?_take
abbrev fP:=@List.length_pos_of_mem
abbrev fQ:=@List.getElem?_zipWith
abbrev fR:=@Int.natCast_add
abbrev fS:=@Nat.pow_le_pow_right
abbrev fU:=@List.zipWith_map
abbrev fV:=@List.map_zipWith
abbrev fW:=@List.length_tail
abbrev fX:=@List.filter_eq_nil_iff
abbrev fY:=@List.append_eq_nil_iff
abbrev fZ:=@List.filter_nil
abbrev f6:=@List.cons_sublist_cons
abbrev f7:=@Option.bind_eq_some_iff
abbrev f9:=@Int.fdiv_eq_ediv_of_nonneg
abbrev Fb:=@List.getElem?_take_of_lt
abbrev Fc:=@List.perm_append_singleton
abbrev Fe:=@List.drop_eq_getElem_cons
abbrev Ff:=@List.nodup_iff_pairwise_ne
abbrev Fg:=@List.length_eraseIdx_of_lt
variable {s s':av}{w:aZ}{n t' N c:Nat}{t:Au}{h:ia}{r ξ:List af}{l:List Nat}{o:iN}{e:aK}{M:PySem.Model}{β α:Type}{m:Int}{a f b:aj}{x:af}{d:Nat->aj}{q:f_}
namespace L2
open PySem PySem.W PySem.Calls PyProof.Rows
def Ge (tb:String->Option Builtin)(p:f_)(w:aZ)(n₀:Nat)(ann:Option ae):Nat->Hn->Thread->Option Hn
 |0,_,_=>none
 |n+1,s,t=>match through t with
  |true=>some s
  |false=>match stepOk n₀ ann t with
   |false=>none
   |true=>match stepT (denote tb) p w s t with
    |some (s',t')=>Ge tb p w n₀ ann n s' t'
    |none=>none
theorem Rl {tb:String->Option Builtin}{p:f_}{n₀:Nat}{ann:Option ae}(n:Nat):∀{s s':Hn} {t:Thread},Ge tb p w n₀ ann n s t=some s'->topRun tb p w n₀ ann n s.abs t=some s'.abs:=by
 induction n with
 |zero=>intro s s' t h;cases h
 |succ n ih=>
  intro s s' t h;unfold Ge at h;unfold topRun
  cases ht:through t with
  |true=>rw[ht]at h;cases h;rfl
  |false=>
   rw[ht]at h
   cases hk:stepOk n₀ ann t with
   |false=>rw[hk]at h;cases h
   |true=>
    rw[hk]at h
    cases hs:stepT (denote tb) p w s t with
    |none=>rw[hs]at h;cases h
    |some r=>
     obtain⟨s₂,t₂⟩:=r;rw[hs]at h;rw[stepT_spec hs];exact ih h
def Lb:List iN->BT->Nat->Option BT
 |[],t,_=>some t
 |o::l,t,n=>match ((t.ins n o).get n).isSome with
  |true=>Lb l (t.ins n o) (n+1)
  |false=>none
theorem Np {life:Life}(l:List iN):∀{t t':BT} {n:Nat},Lb l t n=some t'->(Ho t' (n+l.length) life).objs.toList=(Ho t n life).objs.toList++l:=by
 induction l with
 |nil=>intro t t' n h;cases h;rw[dy];rfl
 |cons o l ih=>
  intro t t' n h;unfold Lb at h
  cases e:((t.ins n o).get n).isSome with
  |false=>rw[e]at h;cases h
  |true=>
   rw[e]at h;have:=ih h;rw[CY,show n+(l.length+1)=n+1+l.length by lia,this,absHeap_ins e];show((Ho t n life).objs.push o).toList++l=_;rw[EJ,dc];rfl
def LJ (p:f_)(m:Nat)(ann:Option ae)(M:Nat)(see:av->β)(w:aZ)(os:iF):Option β :=
 (Lb (aJ w.params).objs.toList .nil 0).bind λt=>(Ge Im p w m ann M ⟨t,m,(aJ w.params).life,AE [],Fi,FW,os⟩ (topStub p)).map λs=>see s.abs
theorem o7 {p:f_}{Xt:av->Bool}{Yf:av->α}{Ya:aZ->α}{M m:Nat}{g0:Bool}{ann:Option ae}
  (e:opening p=plainProg p.main.scope.names) (hN:AD 600 N=true) (f:∀s,fenceModules? p s=some s) (le:AD M N=true) (size:∀w:aZ,((aJ w.params).isNs au,(aJ w.params).objs.toList.length,(aJ w.params).nsMap au "__annotations__")=(true,m,ann)) (h:∀(w:aZ) (os:iF),LJ p m ann M (λs=>((KG (iR p.main.body) (aJ w.params) s.heap&&ID p s.heap&&Sb s&&Sd (aJ w.params) s.heap),openSeen q ξ (iR p.main.body) Xt g0 s,Yf s)) w os=some (true,openGood q ξ,Ya w)) :
  LeftO p q ξ Xt Yf Ya N g0:=λw=>by
 obtain⟨⟨hp,gs,d,k,os⟩,e1,e2⟩:=CS.mp (boot_open e hN f w)
 obtain⟨rfl,rfl,rfl,rfl⟩:hp=aJ w.params/\gs=AE []/\d=Fi/\k=FW:=by
  have a:=G' Kp e2;have b:=G' (λx=>x.2.1) e2;have c:=G' (λx=>x.2.2.1) e2;have d:=G' (λx=>x.2.2.2) e2;exact⟨a,b,c,d⟩
 have sz:=size w;have z1:(aJ w.params).isNs au=true:=G' Kp sz;have z2:(aJ w.params).objs.toList.length=m:=G' (λx=>x.2.1) sz;have z3:(aJ w.params).nsMap au "__annotations__" = ann:=G' (λx=>x.2.2) sz;have h:=h w os;unfold LJ at h;obtain⟨t,ht,h⟩:=f7.mp h;obtain⟨s,hs,h⟩:=CS.mp h
 have ab:SharedT.abs ⟨t,m,(aJ w.params).life,AE [],Fi,FW,os⟩=⟨aJ w.params,AE [],Fi,FW,os⟩:=by
  have g:=Np (life:=(aJ w.params).life) _ ht;rw[DQ,z2]at g;have g':(Ho t m (aJ w.params).life).objs.toList=(aJ w.params).objs.toList:=g
  have g2:Ho t m (aJ w.params).life=aJ w.params:=by
   show Heap.mk (Ho t m (aJ w.params).life).objs (aJ w.params).life=Heap.mk (aJ w.params).objs (aJ w.params).life;exact G' (Heap.mk · _) (El.mp g')
  show Shared.mk (Ho t m (aJ w.params).life) _ _ _ _=_;rw[g2]
 have r:=Rl M hs;rw[ab]at r;have r:=topRun_mono (N-M) _ _ _ _ r;rw[show M+(N-M)=N by have:=eT le;lia]at r;have l1:=G' Kp h;have l2:=G' Prod.snd h;dsimp only at l1 l2
 have t:topFrom Im p w N ⟨aJ w.params,AE [],Fi,FW,os⟩=some s.abs:=by
  unfold topFrom;have c:((aJ w.params).isNs au&&(AE ([]:List Se)).size==0)=true:=by rw[z1];rfl
  show(match (aJ w.params).isNs au&&(AE ([]:List Se)).size==0 with|true=>_ |false=>none)=_;rw[c];show(topRun Im p w (aJ w.params).objs.size ((aJ w.params).nsMap au "__annotations__") N _ _).bind _=_;rw[show(aJ w.params).objs.size=m from z2,z3,r];show(match _ with|true=>_ |false=>none)=_;rw[l1]
 unfold openEnds;rw[e1];show(topFrom Im p w N _).map _=_;rw[t];exact G' some l2
end L2
variable {j:Nat}{body:List sT}
namespace L2
open PySem PySem.Spec PyProof.Rows
def Yi (s:sT)(j:Nat):sT:=match s with
 |.ClassDef _ _ _ body _ _ _ _ _ _ _=>body.getD j (.Pass ⟨0,0,0,0⟩)
 |_=>.Pass ⟨0,0,0,0⟩
def uU (s:sT):KZ:=match s with
 |.FunctionDef _ a _ _ _ _ _ _ _ _=>a
 |_=>{posonlyargs:=[],args:=[],vararg:=none,kwonlyargs:=[],kw_defaults:=[],kwarg:=none,defaults:=[]}
def jX (s:sT):List sT:=match s with
 |.FunctionDef _ _ b _ _ _ _ _ _ _=>b
 |_=>[]
def z5 (s:sT):AW:=match s with
 |.FunctionDef _ _ _ _ _ _ sc _ _ _=>sc
 |_=>{kind:=.function,names:=[],isGenerator:=false,isCoroutine:=false}
end L2
variable {scope:AW}{qual z:af}{params:KZ}{fd:AV}{v:ae}{st:sT}{D:aj}{its:List ae}{zs:List af}
namespace L2
open PySem PySem.W PySem.Calls PyProof.Rows
def jD (as:List aj)(h:ia):A6:=as.filterMap λa=>(h.get? a).map λo=>(a,o)
structure gT where
 name:af
 qual:af
 params:KZ
 body:FuncBody
 scope:AW
 globals:aj
 closure:List (af×aj)
 defaults:ae
 builtins:aj
 ok:Bool
def vJ (K:A6)(v:Option (Option ae)):Option gT:=match v with
 |some (some (.ref f))=>match K.lookup f with
  |some ⟨_,_,.func fd,_⟩=>some ⟨fd.name,fd.qualname,fd.params,fd.body,fd.scope,fd.globals,fd.closure,fd.defaults,fd.builtins,codeIn K fd.code fd.qualname&&keepIn K (.ref f)&&isFn K (.ref f)⟩
  |_=>none
 |_=>none
def vP (x qual:af)(st:sT):Option gT:=some ⟨x,qual,uU st,.stmts (jX st),z5 st,au,[],.none,Fj,true⟩
abbrev oP:List ae:=[.type "ValueError",.type "Exception",.type "BaseException",.type "object"]
def vn (v:Option (Option ae)):Bool:=match v with
 |some none=>true
 |_=>false
def isInt (z:Int)(v:Option (Option ae)):Bool:=match v with
 |some (some (.int y _))=>decide (y=z)
 |_=>false
def JS (z:af)(v:Option (Option ae)):Bool:=match v with
 |some (some (.str y _))=>decide (y=z)
 |_=>false
def jO (z:aj)(v:Option (Option ae)):Bool:=match v with
 |some (some (.ref y))=>Nat.beq y z
 |_=>false
def xD (z:String)(v:Option (Option ae)):Bool:=match v with
 |some (some (.builtin y))=>decide (y=z)
 |_=>false
def Jm (b:Bool)(v:Option Bool):Bool:=match v with
 |some c=>c==b
 |none=>false
def VG (K:A6)(D:aj):Bool:=(clsIn K D).isSome&&xD "BaseException.__getattribute__" (An K (.ref D) "__getattribute__")&&vn (An K (.ref D) "__getattr__")&&xD "object.__class__" (An K (.ref D) "__class__")&&xD "getset_descriptor.__get__" (specialIn K (.builtin "object.__class__") "__get__")&&Jm true (takesIn K (.builtin "object.__class__"))&&Jm true (mroIn K D (.type "object"))&&Jm true (mroIn K D (.type "BaseException"))
def Yn:List ae->List af->Bool
 |[],[]=>true
 |v::r,z::q=>JS z (some (some v))&&Yn r q
 |_,_=>false
def Uu (K:A6)(x:af)(zs:List af):Bool:=match hU K au x with
 |some (some (.ref a))=>match K.lookup a with
  |some ⟨.type n,_,.seq its _,_⟩=>decide (n = "tuple")&&AD its.size 1000&&Yn its.toList zs
  |_=>false
 |_=>false
end L2
namespace L2
open PySem PySem.W
def Xa (s:Hn)(a:aj):Option iN:=match Nat.blt a s.n with
 |true=>alive ((s.tree.get a).getD default)
 |false=>none
theorem O2 (s:Hn)(a:aj):Xa s a=s.abs.heap.get? a:=by
 unfold Xa;show _=(Ho s.tree s.n s.life).get? a
 cases h:Nat.blt a s.n with
 |true=>
  have h:a<s.n:=Nat.blt_eq.mp h;unfold Heap.get?;rw[absHeap_at,L' h];generalize (s.tree.get a).getD default=o;obtain⟨c,d,dt,sl⟩:=o
  cases dt<;>rfl
 |false=>
  have h:¬a<s.n:=λc=>by rw[Nat.blt_eq.mpr c]at h;cases h
  exact(abs_get_none h).symm
def j5 (as:List aj)(s:Hn):A6:=as.filterMap λa=>(Xa s a).map λo=>(a,o)
theorem wK (as:List aj)(s:Hn):jD as s.abs.heap=j5 as s:=by
 unfold jD j5
 congr 1
 funext a
 rw[O2]
end L2
set_option maxHeartbeats 4000000
variable {i:Nat}
namespace K27
open PySem
def qH (i:Nat):sT:=PySem.Challenge.pw_coinroll_k27_whole_papers_read.main.body.getD i (.Pass ⟨0,0,0,0⟩)
end K27
set_option maxHeartbeats 0
namespace K27
open PySem PySem.W PySem.Calls PyProof.Rows L2
noncomputable def hQ:f_:=PySem.W.view PySem.Challenge.pw_coinroll_k27_whole_papers_read [1,2,3,4,5,6,7,8,9,10,11,12,13,14,15,16,18,19,20,22,23,24,25,26,27,29,30,31,32,33,34,35,36,37,38,39,40,42,43,44,45,46,47,48,49,50,52,53,55,56,58,59,60,61,62,63,64,65,67,68,69,70,71,72,73,74,75,76,77,78,79,80,81,82,83,84,85,86]
noncomputable def Ob:List aj:=[2,3,15,22,23,24,25,28,35,36,37,40,47,48,49,52,59,60,61,64,71,72,73,76,83,84,85,88,95,96,97,100,107,108,109,112,119,120,121,124,131,132,133,136,143,144,145,148,155,156,157,160,167,168,169,172,179,180,181,184,191,192,193,196,203,204,205,208,210,211,213,214,215,217,218,220,221,222,224,225,227,228,229,232,233,234,236,237,239,240,241,244,245,246,248,249,251,252,253,255,256,258,259,260,263,264,265,267,268,270,271,272,274,275,277,278,279,281,282,284,285,286,289,290,291,294,295,296,299,300,301,303,304,306,307,308,310,311,313,314,315,317,318,320,321,322,324,325,327,328,329,331,332,334,335,336,338,339,341,342,343,345,346,348,349,350,352,353,355,356,357,360,361,362,363,365,366,368,369,370,372,373,375,376,377,380,381,382,385,386,387,390,391,392,395,396,397,400,401,402,405,406,407,409,410,412,413,414,416,417,419,420,421,423,424,426,427,428,430,431,433,434,435,438,439,440,442,443,445,446,447,450,451,452,454,455,457,458,459,462,463,464,466,467,469,470,471,474,475,476,479,480,481,484,485,486,489,490,491,494,495,496,498,499,501,502,503,506,507,508,510,511,513,514,515,518,519,520,522,523,525,526]
noncomputable def hFs:List (af×Nat):=[(("is_number":af),18),(("is_number_within":af),19),(("need_amount":af),20),(("is_word_of":af),25),(("is_name":af),26),(("rise":af),27),(("figures_of":af),32),(("told_amount":af),33),(("are_figures":af),34),(("is_number_text":af),35),(("is_amount_text":af),36),(("read_amount":af),37),(("widths_of":af),38),(("row_of":af),39),(("rows_of":af),40),(("need_month":af),44),(("year_of":af),45),(("place_of":af),46),(("year_text":af),47),(("month_text":af),48),(("is_month_text":af),49),(("read_month":af),50),(("dues_together":af),52),(("sums":af),53),(("is_rule_name":af),56),(("due_text":af),59),(("cells_of":af),60),(("paper":af),61),(("words_of":af),62),(("names_of_head":af),63),(("statement_of":af),64),(("read_paper":af),65),(("_law_cell":af),67),(("_law_mixed":af),68),(("_law_whole":af),69),(("_law_next":af),70),(("_law_names":af),71),(("_law_amount":af),72),(("_law_statements":af),73),(("_law_told":af),74),(("_law_reads":af),75),(("_law_month_text":af),76),(("_law_read_month":af),77),(("_law_rows":af),78),(("_law_paper":af),79),(("_law_names_good":af),80),(("_law_due":af),81),(("_law_bent":af),82),(("_law_kind":af),83),(("_law_read":af),84),(("_law_are_statements":af),85),(("law":af),86)]
def hMs:List (aj×af×af×Nat×Nat):=[]
noncomputable def nP (K:A6):List Bool:=[jO 37 (hU K au "BadAmount"),jO 49 (hU K au "BadShare"),jO 61 (hU K au "BadText"),jO 73 (hU K au "BadMonth"),jO 85 (hU K au "BadYear"),jO 97 (hU K au "BadRule"),jO 109 (hU K au "BadBook"),jO 121 (hU K au "NoYear"),jO 133 (hU K au "BadDay"),jO 145 (hU K au "BadEntry"),jO 157 (hU K au "NoMark"),jO 169 (hU K au "NoPerson"),jO 181 (hU K au "TooMany"),jO 193 (hU K au "BadClose"),jO 205 (hU K au "BadLine"),jO 24 (hU K au "RollError"),isInt 8 (hU K au "MOST_SIGNS_names"),isInt 30 (hU K au "MOST_SIGNS_texts"),isInt 1000000000000000000 (hU K au "PIECE"),isInt 18 (hU K au "PIECE_FIGURES"),isInt 12 (hU K au "YEAR_MONTHS"),isInt 119999 (hU K au "LAST_MONTH"),JS "abcdefghijklmnopqrstuvwxyz" (hU K au "LETTERS"),JS "0123456789" (hU K au "FIGURES"),JS "-" (hU K au "NO_DUE"),Uu K "NO_RULE_NAMES" ["base","net","month","sums"],vn (hU K au "isinstance"),vn (hU K au "int"),vn (hU K au "bool"),vn (hU K au "str"),vn (hU K au "len"),vn (hU K au "range"),vn (hU K au "ValueError"),vn (hU K au "list"),vn (hU K au "tuple"),vn (hU K au "dict"),vn (hU K au "set"),vn (hU K au "all"),vn (hU K au "any"),vn (hU K au "sum"),vn (hU K au "sorted"),vn (hU K au "abs"),vn (hU K au "max"),vn (hU K au "min"),vn (hU K au "zip"),vn (hU K au "enumerate"),vn (hU K au "reversed"),excIn K 61 oP "ValueError.__new__",Jm true (exmOne K (.ref 61) (.ref 24)),VG K 61,Jm true (aB K (.ref 61) (.type "ValueError")),Jm false (aB K (.ref 61) (.ref 37)),Jm false (aB K (.ref 61) (.ref 49)),Jm true (aB K (.ref 61) (.ref 61)),Jm false (aB K (.ref 61) (.ref 73)),Jm false (aB K (.ref 61) (.ref 85)),Jm false (aB K (.ref 61) (.ref 97)),Jm false (aB K (.ref 61) (.ref 109)),Jm false (aB K (.ref 61) (.ref 121)),Jm false (aB K (.ref 61) (.ref 133)),Jm false (aB K (.ref 61) (.ref 145)),Jm false (aB K (.ref 61) (.ref 157)),Jm false (aB K (.ref 61) (.ref 169)),Jm false (aB K (.ref 61) (.ref 181)),Jm false (aB K (.ref 61) (.ref 193)),Jm false (aB K (.ref 61) (.ref 205))]
def tK (K:A6):=(hFs.map (λx=>vJ K (hU K au x.1)),hMs.map (λx=>vJ K (An K (.ref x.1) x.2.1)),(nP K).all id)
def Mb:=(hFs.map (λx=>vP x.1 x.1 (qH x.2)),hMs.map (λx=>vP x.2.1 x.2.2.1 (Yi (qH x.2.2.2.1) x.2.2.2.2)),true)
def bT (s:av):Bool:=xlAt hQ [] s&&recOk [] s
def br (w:aZ)(s:av):=((KG (iR PySem.Challenge.pw_coinroll_k27_whole_papers_read.main.body) (aJ w.params) s.heap&&ID PySem.Challenge.pw_coinroll_k27_whole_papers_read s.heap&&Sb s&&Sd (aJ w.params) s.heap),openSeen hQ [] (iR PySem.Challenge.pw_coinroll_k27_whole_papers_read.main.body) bT true s,tK (jD Ob s.heap))
def Ca (K:A6):List Bool:=nP K
def hX (w:aZ)(os:iF):Option Hn:=(Lb (aJ w.params).objs.toList .nil 0).bind λt=>(Ge Im PySem.Challenge.pw_coinroll_k27_whole_papers_read w 11 (some (.ref 6)) 5053 ⟨t,11,(aJ w.params).life,AE [],Fi,FW,os⟩ (topStub PySem.Challenge.pw_coinroll_k27_whole_papers_read))
def LQ (w:aZ)(os:iF):=(hX w os).map λs=>(KG (iR PySem.Challenge.pw_coinroll_k27_whole_papers_read.main.body) (aJ w.params) s.abs.heap)&&((ID PySem.Challenge.pw_coinroll_k27_whole_papers_read s.abs.heap&&Sb s.abs&&Sd (aJ w.params) s.abs.heap))
def mX (_:aZ)(_:iF):=some (true)
theorem Xc:LQ=LQ:=rfl
theorem RW:mX=mX:=rfl
def m9 (w:aZ)(os:iF):=(hX w os).map λs=>seen ((recsOf hQ).map (·.name)) (ownsOf hQ) [] {s.abs with gens:=#[]}
def Lo (_:aZ)(_:iF):=some (expectedOf hQ)
theorem xS:m9=m9:=rfl
theorem X6:Lo=Lo:=rfl
def my (w:aZ)(os:iF):=(hX w os).map λs=>s.abs.heap.bltView
def P2 (_:aZ)(_:iF):=some (bltViewBooted)
theorem Xw:my=my:=rfl
theorem Tf:P2=P2:=rfl
def Ph (w:aZ)(os:iF):=(hX w os).map λs=>(s.abs.heap.keysOk (IE hQ []) ((recsOf hQ).map (·.name)) ((litsOf hQ).map (·.1)) ((clssOf hQ (IE hQ [])).map (·.name)))&&((s.abs.heap.accountedOkI (iR PySem.Challenge.pw_coinroll_k27_whole_papers_read.main.body))&&((s.abs.heap.isNs au&&s.abs.heap.isNs Fj&&tablesOk hQ s.abs.heap&&bT s.abs&&(if true=true then s.abs.gens.size==0 else !leftWithCleanup s.abs.gens))))
def lM (_:aZ)(_:iF):=some (true)
theorem XC:Ph=Ph:=rfl
theorem R0:lM=lM:=rfl
def PH (w:aZ)(os:iF):=(hX w os).map λs=>(tabsOk hQ s.abs,pinSeenD hQ (drecsOf hQ) s.abs,plainSeenD hQ [] s.abs,clsSeenW hQ [] s.abs)
def Pj (_:aZ)(_:iF):=some ((true,pinGoodD (drecsOf hQ),plainGoodD hQ [],clsGoodW hQ []))
theorem XN:PH=PH:=rfl
theorem xV:Pj=Pj:=rfl
def la (w:aZ)(os:iF):=(hX w os).map λs=>((Sf hQ (IE hQ [])).take 10).map λc=>s.abs.heap.plainShapeAt c.withCmp
def Mh (_:aZ)(_:iF):=some (((Sf hQ (IE hQ [])).take 10).map λc=>some c.withCmp.plainShape)
theorem Gc:la=la:=rfl
theorem gK:Mh=Mh:=rfl
def P9 (w:aZ)(os:iF):=(hX w os).map λs=>((Sf hQ (IE hQ [])).drop 10).map λc=>s.abs.heap.plainShapeAt c.withCmp
def PM (_:aZ)(_:iF):=some (((Sf hQ (IE hQ [])).drop 10).map λc=>some c.withCmp.plainShape)
theorem Xx:P9=P9:=rfl
theorem XS:PM=PM:=rfl
def gN (w:aZ)(os:iF):=(hX w os).map λs=>(wdefsOf hQ).map λd=>shapeAtK s.abs.heap d.1.name
def X1 (_:aZ)(_:iF):=some ((wdefsOf hQ).map λd=>some d.1.shape)
theorem UZ:gN=gN:=rfl
theorem xv:X1=X1:=rfl
def XQ (w:aZ)(os:iF):=(hX w os).map λs=>((wdefsOf hQ).all λd=>s.abs.heap.restOk (hQ.nameAt false d.1.name) d.1.name&&dfltAt s.abs.heap d)&&(wlitsOf hQ).all (constAt s.abs.heap)
def gi (_:aZ)(_:iF):=some (true)
theorem W5:XQ=XQ:=rfl
theorem rT:gi=gi:=rfl
def gY (w:aZ)(os:iF):=(hX w os).map λs=>((hFs.drop 0).take 80).map (λx=>vJ (j5 Ob s) (hU (j5 Ob s) au x.1))
def gq (_:aZ)(_:iF):=some (((hFs.drop 0).take 80).map (λx=>vP x.1 x.1 (qH x.2)))
theorem xC:gY=gY:=rfl
theorem xE:gq=gq:=rfl
def XZ (w:aZ)(os:iF):=(hX w os).map λs=>hMs.map (λx=>vJ (j5 Ob s) (An (j5 Ob s) (.ref x.1) x.2.1))
def xR (_:aZ)(_:iF):=some (hMs.map (λx=>vP x.2.1 x.2.2.1 (Yi (qH x.2.2.2.1) x.2.2.2.2)))
theorem WY:XZ=XZ:=rfl
theorem Wk:xR=xR:=rfl
def gk (w:aZ)(os:iF):=(hX w os).map λs=>(Ca (j5 Ob s)).all id
def gc (_:aZ)(_:iF):=some (true)
theorem WZ:gk=gk:=rfl
theorem rK:gc=gc:=rfl
end K27
noncomputable def PySem.W.Fast.tw16531109520606295199:f_:=by
 refine' (?g:(s:f_)->PySem.Challenge.pw_coinroll_k27_whole_papers_read=s->f_) _ ?pf
 case g=>exactλs _=>s
 case pf=>
  unfold PySem.Challenge.pw_coinroll_k27_whole_papers_read;simp only[PySem.Str.ofString_eq_byList,PySem.Str.ofStringByList,String.reduceToList,CO,↓Char.isValue,Char.reduceToNat,DD];rfl
theorem PySem.W.Fast.te16531109520606295199:PySem.Challenge.pw_coinroll_k27_whole_papers_read=PySem.W.Fast.tw16531109520606295199:=by kernel_rfl
lay_quick L2.Ge K27.qH
name_quick hRunQ0 for K27.LQ by K27.Xc
name_quick hRunQ2 for K27.m9 by K27.xS
name_quick hEndQ2 for K27.Lo by K27.X6
name_quick hRunQ3 for K27.my by K27.Xw
name_quick hRunQ4 for K27.Ph by K27.XC
name_quick hRunQ7 for K27.PH by K27.XN
name_quick hEndQ7 for K27.Pj by K27.xV
name_quick hRunQ8 for K27.la by K27.Gc
name_quick hEndQ8 for K27.Mh by K27.gK
name_quick hRunQ9 for K27.P9 by K27.Xx
name_quick hEndQ9 for K27.PM by K27.XS
name_quick hRunQ10 for K27.gN by K27.UZ
name_quick hEndQ10 for K27.X1 by K27.xv
name_quick hRunQ11 for K27.XQ by K27.W5
name_quick hRunQ12 for K27.gY by K27.xC
name_quick hEndQ12 for K27.gq by K27.xE
name_quick hRunQ13 for K27.XZ by K27.WY
name_quick hEndQ13 for K27.xR by K27.Wk
name_quick hRunQ14 for K27.gk by K27.WZ
variable {es:Array (Int×ae)}
namespace K27
open PySem PySem.W PySem.Calls PyProof.Rows L2
theorem tH:Fast.hRunQ0=mX:=by kernel_rfl
theorem Rf:Fast.hRunQ2=Fast.hEndQ2:=by kernel_rfl
theorem Td:Fast.hRunQ3=P2:=by kernel_rfl
theorem RN:Fast.hRunQ4=lM:=by kernel_rfl
theorem tw:Fast.hRunQ7=Fast.hEndQ7:=by kernel_rfl
theorem R3:Fast.hRunQ8=Fast.hEndQ8:=by kernel_rfl
theorem Ro:Fast.hRunQ9=Fast.hEndQ9:=by kernel_rfl
theorem NG:Fast.hRunQ10=Fast.hEndQ10:=by kernel_rfl
theorem Nd:Fast.hRunQ11=gi:=by kernel_rfl
theorem M4:Fast.hRunQ12=Fast.hEndQ12:=by kernel_rfl
theorem NL:Fast.hRunQ13=Fast.hEndQ13:=by kernel_rfl
theorem Mw:Fast.hRunQ14=gc:=by kernel_rfl
theorem ba:LeftO PySem.Challenge.pw_coinroll_k27_whole_papers_read hQ [] bT (λs=>tK (jD Ob s.heap)) (λ_=>Mb) 5053:=by
 refine o7 (M:=5053) (m:=11) (ann:=some (.ref 6)) (by kernel_rfl) (by kernel_rfl) (λs=>by kernel_rfl) (by kernel_rfl) (λw=>by kernel_rfl) λw os=>?_;obtain⟨s,es,e0⟩:=CS.mp (show(hX w os).map _=some _ from congrFun (congrFun (Fast.hRunQ0_eq.trans tH) w) os);obtain⟨s2,es2,e2⟩:=CS.mp (show(hX w os).map _=some _ from congrFun (congrFun (Fast.hRunQ2_eq.trans (Rf.trans Fast.hEndQ2_eq.symm)) w) os);obtain rfl:s=s2:=ai (es.symm.trans es2);obtain⟨s3,es3,e3⟩:=CS.mp (show(hX w os).map _=some _ from congrFun (congrFun (Fast.hRunQ3_eq.trans Td) w) os);obtain rfl:s=s3:=ai (es.symm.trans es3);obtain⟨s4,es4,e4⟩:=CS.mp (show(hX w os).map _=some _ from congrFun (congrFun (Fast.hRunQ4_eq.trans RN) w) os);obtain rfl:s=s4:=ai (es.symm.trans es4);obtain⟨s7,es7,e7⟩:=CS.mp (show(hX w os).map _=some _ from congrFun (congrFun (Fast.hRunQ7_eq.trans (tw.trans Fast.hEndQ7_eq.symm)) w) os);obtain rfl:s=s7:=ai (es.symm.trans es7);obtain⟨s8,es8,e8⟩:=CS.mp (show(hX w os).map _=some _ from congrFun (congrFun (Fast.hRunQ8_eq.trans (R3.trans Fast.hEndQ8_eq.symm)) w) os);obtain rfl:s=s8:=ai (es.symm.trans es8);obtain⟨s9,es9,e9⟩:=CS.mp (show(hX w os).map _=some _ from congrFun (congrFun (Fast.hRunQ9_eq.trans (Ro.trans Fast.hEndQ9_eq.symm)) w) os);obtain rfl:s=s9:=ai (es.symm.trans es9);obtain⟨s10,es10,e10⟩:=CS.mp (show(hX w os).map _=some _ from congrFun (congrFun (Fast.hRunQ10_eq.trans (NG.trans Fast.hEndQ10_eq.symm)) w) os);obtain rfl:s=s10:=ai (es.symm.trans es10);obtain⟨s11,es11,e11⟩:=CS.mp (show(hX w os).map _=some _ from congrFun (congrFun (Fast.hRunQ11_eq.trans Nd) w) os);obtain rfl:s=s11:=ai (es.symm.trans es11);obtain⟨s12,es12,e12⟩:=CS.mp (show(hX w os).map _=some _ from congrFun (congrFun (Fast.hRunQ12_eq.trans (M4.trans Fast.hEndQ12_eq.symm)) w) os);obtain rfl:s=s12:=ai (es.symm.trans es12);obtain⟨s13,es13,e13⟩:=CS.mp (show(hX w os).map _=some _ from congrFun (congrFun (Fast.hRunQ13_eq.trans (NL.trans Fast.hEndQ13_eq.symm)) w) os);obtain rfl:s=s13:=ai (es.symm.trans es13);obtain⟨s14,es14,e14⟩:=CS.mp (show(hX w os).map _=some _ from congrFun (congrFun (Fast.hRunQ14_eq.trans Mw) w) os);obtain rfl:s=s14:=ai (es.symm.trans es14);obtain⟨e0,e1⟩:=eI.mp e0;obtain⟨e4,e5⟩:=eI.mp e4;obtain⟨e5,e6⟩:=eI.mp e5
 have ey:(nP (jD Ob s.abs.heap)).all id=true:=by
  rw[wK];show(Ca (j5 Ob s)).all id=true
  try simp only[EK,CW]
  exact e14
 have el:br w s.abs=(true,openGood hQ [],Mb):=by
  have a1:(KG (iR PySem.Challenge.pw_coinroll_k27_whole_papers_read.main.body) (aJ w.params) s.abs.heap&&ID PySem.Challenge.pw_coinroll_k27_whole_papers_read s.abs.heap&&Sb s.abs&&Sd (aJ w.params) s.abs.heap)=true:=by
   have e1:=e1;simp only[CW]at e1 ⊢;exact⟨⟨⟨e0,e1.1.1⟩,e1.1.2⟩,e1.2⟩
  have ab:(s.abs.heap.keysOk (IE hQ []) ((recsOf hQ).map (·.name)) ((litsOf hQ).map (·.1)) ((clssOf hQ (IE hQ [])).map (·.name))&&s.abs.heap.accountedOkI (iR PySem.Challenge.pw_coinroll_k27_whole_papers_read.main.body)&&s.abs.heap.isNs au&&s.abs.heap.isNs Fj&&tablesOk hQ s.abs.heap&&bT s.abs&&(if true=true then s.abs.gens.size==0 else !leftWithCleanup s.abs.gens))=true:=by
   have e6:=e6;simp only[CW]at e6 ⊢;obtain⟨⟨⟨⟨g1,g2⟩,g3⟩,g4⟩,g5⟩:=e6;exact⟨⟨⟨⟨⟨⟨e4,e5⟩,g1⟩,g2⟩,g3⟩,g4⟩,g5⟩
  have e8:=congr (G' HAppend.hAppend e8) e9;rw[<- CJ,<- CJ,DE]at e8;have a2:openSeen hQ [] (iR PySem.Challenge.pw_coinroll_k27_whole_papers_read.main.body) bT true s.abs=openGood hQ []:=congr (G' Ag e2) (congr (G' Ag e3) (congr (G' Ag ab) (congr (G' Ag (G' Kp e7)) (congr (G' Ag (G' (λz=>z.2.1) e7)) (congr (G' Ag e8) (congr (G' Ag (G' (λz=>z.2.2.1) e7)) (congr (G' Ag (congr (G' Ag e10) e11)) (G' (λz=>z.2.2.2) e7))))))));have e12:((hFs.drop 0).take 80).map (λx=>vJ (jD Ob s.abs.heap) (hU (jD Ob s.abs.heap) au x.1))=((hFs.drop 0).take 80).map (λx=>vP x.1 x.1 (qH x.2)):=by rw[wK];exact e12
  have e13:hMs.map (λx=>vJ (jD Ob s.abs.heap) (An (jD Ob s.abs.heap) (.ref x.1) x.2.1))=hMs.map (λx=>vP x.2.1 x.2.2.1 (Yi (qH x.2.2.2.1) x.2.2.2.2)):=by rw[wK];exact e13
  have ef:=e12
  try simp only[<- CJ]at ef
  rw[show(hFs.drop 0).take 80=hFs by kernel_rfl]at ef;exact congr (G' Ag a1) (congr (G' Ag a2) (congr (G' Ag ef) (congr (G' Ag e13) ey)))
 unfold LJ;obtain⟨t,ht,hs⟩:=f7.mp es;rw[ht];show(Ge _ _ w _ _ _ _ _).map _=_;rw[hs];exact G' some el
end K27
variable {env:Iv}{prog P:f_}{u cls fl cd pm:ae}{ws ps ns:List af}{κ:Type}{C dx I it ea:aj}{lo ep:Nat}{h' base:ia}{vs:Array ae}{mA:af->Option ae}{A:sC}{outer:List Iv}{pn N':List (aj×iN)}{ch fp:List aj}{E Q:ae->av->Prop}{R:Kd->av->Prop}{op:PySem.CmpOp}{tg iter:aK}{τ:iS}{T:af}{cl:List (af×aj)}{ds:List (af×Int)}
namespace L2
open PySem PySem.Spec PyProof.Rows
def lT:aK->Bool
 |.Starred _ _=>true
 |_=>false
theorem qv {es:List aK}(h:lT e=false):aE (e::es) env=(false,eval e env)::aE es env:=by
 cases e<;>first |rfl |cases h
theorem ua {pos:iS}:∀{es:List aK},es.all (λe=>!lT e)=true->(i9 pos (aE es env)).any (·.1)=false
 |[],_=>rfl
 |e::es,h=>by
  rw[eU,CW,Dg]at h;rw[qv h.1];show(false || (i9 pos (aE es env)).any (·.1))=false;rw[EL];exact ua h.2
abbrev jB:=Sum Int af
def VC:jB->ae->Bool
 |.inl k,v=>Value.isInt k v
 |.inr x,v=>SX x v
def cu (w:aZ):jB->Int
 |.inl k=>hashInt k
 |.inr x=>hashStr w x
theorem yd:∀{k:jB} {v:ae},VC k v=true->(∃i t,k=Ip i/\v=iQ i t)∨(∃x t,k=iy x/\v=iW x t)
 |.inl i,v,h=>by
  obtain⟨t,e⟩:=Value.isInt_shape (k:=i) (v:=v) h;exact .inl ⟨i,t,Z,e⟩
 |.inr x,v,h=>by
  obtain⟨t,e⟩:=A8 (x:=x) (v:=v) h;exact .inr ⟨x,t,Z,e⟩
theorem Ol (i:Int)(t:Iw):VC (.inl i) (.int i t)=true:=by simp[VC,Value.isInt]
theorem OC (x:af)(t:Iw):VC (.inr x) (.str x t)=true:=by simp[VC,SX]
theorem Tn (a b:Int):decide ((Ip a:jB)=Ip b)=(a==b):=by
 by_cases e:a=b
 ·subst e;simp
 ·have h:¬(Ip a:jB)=Ip b:=λq=>e (Sum.inl.inj q);rw[j' h];exact(beq_eq_false_iff_ne.mpr e).symm
theorem tI (a b:af):decide ((iy a:jB)=iy b)=decide (a=b):=by
 by_cases e:a=b
 ·subst e;simp
 ·have h:¬(iy a:jB)=iy b:=λq=>e (Sum.inr.inj q);rw[j' h,j' e]
theorem Th (a:Int)(b:af):decide ((Ip a:jB)=iy b)=false:=j' (λq=>nomatch q)
theorem RK (a:af)(b:Int):decide ((iy a:jB)=Ip b)=false:=j' (λq=>nomatch q)
def qM (prog:f_)(w:aZ):PySem.KeyKind prog w jB where
 is:=VC
 hash:=cu w
 inj:=λv a b ha hb=>by
  rcases yd ha with⟨i,t,rfl,rfl⟩ |⟨x,t,rfl,rfl⟩
  ·rcases yd hb with⟨j,u,rfl,e⟩ |⟨y,u,rfl,e⟩
   ·injection e with e1 _;rw[e1]
   ·exact nomatch e
  ·rcases yd hb with⟨j,u,rfl,e⟩ |⟨y,u,rfl,e⟩
   ·exact nomatch e
   ·injection e with e1 _;rw[e1]
 byValue:=λk v h=>by
  rcases yd h with⟨i,t,rfl,rfl⟩ |⟨x,t,rfl,rfl⟩<;>rfl
 pyHash:=λhv h=>by
  rcases yd hv with⟨i,t,rfl,rfl⟩ |⟨x,t,rfl,rfl⟩
  ·exact wpAny_pyHash_int h
  ·exact wpAny_pyHash_str h
 eqBool:=λhu hv h=>by
  rcases yd hu with⟨i,t,rfl,rfl⟩ |⟨x,t,rfl,rfl⟩
  ·rcases yd hv with⟨j,u,rfl,rfl⟩ |⟨y,u,rfl,rfl⟩
   ·rw[Tn]at h;exact KH h
   ·rw[Th]at h;exact IW i t y u _ _ _ _ h
  ·rcases yd hv with⟨j,u,rfl,rfl⟩ |⟨y,u,rfl,rfl⟩
   ·rw[RK]at h;exact IU x t j u _ _ _ _ h
   ·rw[tI]at h;exact KI h
 «strs»:=λk x t v h=>by
  rcases yd h with⟨i,u,rfl,e⟩ |⟨y,u,rfl,e⟩
  ·exact nomatch e
  ·injection e with e1 _;subst e1
   cases v<;>rfl
theorem Wo (prog:f_)(w:aZ)(i:Int)(t:Iw):(qM prog w).is (.inl i) (.int i t)=true:=Ol i t
theorem QV (prog:f_)(w:aZ)(x:af)(t:Iw):(qM prog w).is (.inr x) (.str x t)=true:=OC x t
inductive V where
 |non |bl (b:Bool) |int (i:Int) |str (x:af) |byt (b:Array UInt8) |flt (b:UInt64) |ref (a:aj) |ty (n:String)
 deriving DecidableEq
def qr:V->ae->Prop
 |.non,u=>u=aS
 |.bl b,u=>u=IM b
 |.int i,u=>∃t,u=iQ i t
 |.str x,u=>∃t,u=iW x t
 |.byt b,u=>∃t,u=Value.bytes b t
 |.flt b,u=>∃t,u=Value.float b t
 |.ref a,u=>u=aG a
 |.ty n,u=>u=iX n
abbrev zZ:List V->List ae->Prop:=w_ qr
variable {xs:List L2.V}
theorem zZ.length {us:List ae}(r:zZ xs us):xs.length=us.length:=FV r
theorem zZ.get:∀{xs:List V} {us:List ae} {i:Nat} {x:V},zZ xs us->xs[i]?=some x->∃u,us[i]?=some u/\qr x u
 |_,_,_,_,.nil,e=>by simp at e
 |_,_,0,_,.cons r _,e=>by simp at e;subst e;exact⟨_,Z,r⟩
 |_,_,i+1,x,.cons _ t,e=>by
  obtain⟨u,h1,h2⟩:=zZ.get (i:=i) (x:=x) t (by simpa using e);exact⟨u,by simpa using h1,h2⟩
theorem zZ.set {x:V}(r:qr x u):∀{xs:List V} {us:List ae} (i:Nat),zZ xs us->zZ (xs.set i x) (us.set i u)
 |_,_,_,.nil=>.nil
 |_,_,0,.cons _ t=>.cons r t
 |_,_,i+1,.cons q t=>.cons q (zZ.set r i t)
variable {ys:List L2.V}
theorem zZ.append:∀{xs ys:List V} {us ws:List ae},zZ xs us->zZ ys ws->zZ (xs++ys) (us++ws)
 |_,_,_,_,.nil,s=>s
 |_,_,_,_,.cons r t,s=>.cons r (zZ.append t s)
theorem zZ.take:∀{xs:List V} {us:List ae} (n:Nat),zZ xs us->zZ (xs.take n) (us.take n)
 |_,_,0,_=>.nil
 |_,_,_+1,.nil=>.nil
 |_,_,n+1,.cons r t=>.cons r (zZ.take n t)
theorem zZ.drop:∀{xs:List V} {us:List ae} (n:Nat),zZ xs us->zZ (xs.drop n) (us.drop n)
 |_,_,0,r=>r
 |_,_,_+1,.nil=>.nil
 |_,_,n+1,.cons _ t=>zZ.drop n t
def V3:Option V->Option ae->Prop
 |some v,some u=>qr v u
 |none,none=>True
 |_,_=>False
def KV:List (κ×V)->List (κ×ae)->Prop:=w_ λ(p:κ×V) (q:κ×ae)=>p.1=q.1/\qr p.2 q.2
def kV:jB->V
 |.inl i=>.int i
 |.inr x=>.str x
variable {kvs:List (L2.jB×L2.V)}
inductive HO where
 |lst (xs:List V)
 |tup (xs:List V)
 |dK (kvs:List (jB×V)) |dT (kvs:List (List jB×V))
 |set (S:Int->Bool) (n:Nat)
 |ins (C dx:aj) (fs:List (af×V))
 |own (x:aj)
 |xd (fs:List (af×V))
 |met (f x:aj)
 |rng (lo hi:Int)
 |frz (o:iN) (u:HO)
 |tbl (ps:Array ae)
 |ext (φ:ia->Prop)
abbrev Hp:=aj->Option HO
variable {H:L2.Hp}
def upd (H:Hp)(a:aj)(o:HO):Hp:=λb=>if b=a then some o else H b
theorem zt {o:HO}:upd H a o a=some o:=by unfold upd;rw[L' rfl]
theorem zx {o:HO}(h:b≠a):upd H a o b=H b:=by unfold upd;rw[K' h]
theorem om {o u:HO}:upd (upd H a o) a u=upd H a u:=by
 funext b;unfold upd;split<;>rfl
theorem jH {o u:HO}(h:H a=some o)(h':H b=some u)(d:o≠u):a≠b:=by
 intro e;subst e;rw[h]at h';exact d (ai h')
theorem zo {o:HO}(h:H a=some o)(h':H b=none):a≠b:=by
 intro e;subst e;rw[h]at h';cases h'
section
variable (P:f_)(w:aZ)
def yk (H:Hp)(h:ia)(a:aj):HO->Prop
 |.lst xs=>xs.length<=ar/\∃(its:List ae) (n:Nat),zZ xs its/\h.get? a=some {cls:=.type "list",data:=.seq its.toArray n}
 |.tup xs=>xs.length<=ar/\∃its:List ae,zZ xs its/\IsTup h a its.toArray
 |.dK kvs=>kvs.length<=ar/\(a==sv)=false/\∃vs,KV kvs vs/\h.DictOf (qM P w) a vs
 |.dT kvs=>kvs.length<=ar/\(a==sv)=false/\∃xs:List (List jB×aj×ae),
   w_ (λ(p:List jB×V) (q:List jB×aj×ae)=>p.1=q.1/\H q.2.1=some (.tup (p.1.map kV))/\qr p.2 q.2.2) kvs xs /\
   ∃o es ep,h.get? a=some o/\o.ExactDict/\o.data=.dict es ep/\es.toList=xs.map (entryOfKey (E_ (qM P w)))/\(xs.map (·.1)).Nodup
 |.set S n=>h.SetOf (intKind P w) a S n
 |.ins C dx fs=>H dx=some (.own a)/\fs.length<=1000/\dx≠a/\h.get? a=some (Hz C dx) /\
   ∃mA,h.Ns1 dx mA/\(∀f,V3 (fs.lookup f) (mA f))/\PySem.Within mA (fs.map (·.1))
 |.own _=>∃o,h.get? a=some o
 |.xd fs=>∃mA,h.Ns1 a mA/\∀f,V3 (fs.lookup f) (mA f)
 |.rng lo hi=>∃t u v,h.get? a=some {cls:=.type "range",data:=.fields #[.int lo t,.int hi u,.int 1 v]}
 |.frz o u=>h.get? a=some o/\yk H h a u
 |.tbl ps=>h.get? a=some {cls:=.none,data:=.fields ps}
 |.met f x=>h.get? a=some (FO (.ref f) (.ref x))
 |.ext φ=>φ h/\(∃o,h.get? a=some o)/\∀h1 h2:ia,φ h1->(∀o,h1.get? a=some o->h2.get? a=some o)->φ h2
def wL (H:Hp)(h:ia):Prop:=∀a o,H a=some o->yk P w H h a o
end
variable {y:L2.V}{H':L2.Hp}
section
variable {o:HO}
theorem yk.lt (x:yk P w H h a o):a<h.objs.size:=by
 cases o with
 |lst xs=>obtain⟨_,_,_,_,e⟩:=x;exact CH e
 |tup xs=>obtain⟨_,_,_,p⟩:=x;exact p.lt
 |dK kvs=>obtain⟨_,_,_,_,o,_,_,e,_⟩:=x;exact CH e
 |dT kvs=>obtain⟨_,_,_,_,o,_,_,e,_⟩:=x;exact CH e
 |set S n=>obtain⟨o,_,_,_,e,_⟩:=x;exact CH e
 |ins C dx fs=>obtain⟨_,_,_,e,_⟩:=x;exact CH e
 |own y=>obtain⟨_,e⟩:=x;exact CH e
 |xd fs=>obtain⟨_,⟨_,_,_,e,_⟩,_⟩:=x;exact CH e
 |rng lo hi=>obtain⟨_,_,_,e⟩:=x;exact CH e
 |frz ob u=>obtain⟨e,_⟩:=x;exact CH e
 |tbl ps=>exact CH (show h.get? a=some _ from x)
 |met f y=>exact CH (show h.get? a=some _ from x)
 |ext φ=>obtain⟨_,⟨_,e⟩,_⟩:=x;exact CH e
theorem Paired.mapP {F G:α->β->Prop}:∀{l₁:List α} {l₂:List β},w_ F l₁ l₂->(∀a b,F a b->G a b)->w_ G l₁ l₂
 |_,_,.nil,_=>.nil
 |_,_,.cons r t,f=>.cons (f _ _ r) (Paired.mapP t f)
theorem yk.stay (x:yk P w H h a o)(k:∀b u,(b=a∨H b=some (.own a))->h.get? b=some u->h'.get? b=some u)(ho:∀b,H b=some (.own a)->H' b=some (.own a))(ht:∀b xs,H b=some (.tup xs)->H' b=some (.tup xs)):yk P w H' h' a o:=by
 induction o with
 |lst xs=>obtain⟨z,its,n,r,e⟩:=x;exact⟨z,its,n,r,k _ _ (.inl Z) e⟩
 |tup xs=>obtain⟨z,its,r,ob,e,c⟩:=x;exact⟨z,its,r,ob,k _ _ (.inl Z) e,c⟩
 |dK kvs=>obtain⟨z,y,vs,r,ob,es,ep,e,c⟩:=x;exact⟨z,y,vs,r,ob,es,ep,k _ _ (.inl Z) e,c⟩
 |dT kvs=>
  obtain⟨z,y,xs,r,ob,es,ep,e,c⟩:=x;exact⟨z,y,xs,Paired.mapP r λp q z=>⟨z.1,ht _ _ z.2.1,z.2.2⟩,ob,es,ep,k _ _ (.inl Z) e,c⟩
 |set S n=>obtain⟨ob,es,ep,t,e,c⟩:=x;exact⟨ob,es,ep,t,k _ _ (.inl Z) e,c⟩
 |ins C dx fs=>
  obtain⟨d,z,ne,e,mA,⟨od,es,ep,e2,c⟩,r⟩:=x;exact⟨ho _ d,z,ne,k _ _ (.inl Z) e,mA,⟨od,es,ep,k _ _ (.inr d) e2,c⟩,r⟩
 |own y=>obtain⟨ob,e⟩:=x;exact⟨ob,k _ _ (.inl Z) e⟩
 |xd fs=>obtain⟨mA,⟨od,es,ep,e,c⟩,r⟩:=x;exact⟨mA,⟨od,es,ep,k _ _ (.inl Z) e,c⟩,r⟩
 |rng lo hi=>obtain⟨t,u,v,e⟩:=x;exact⟨t,u,v,k _ _ (.inl Z) e⟩
 |frz ob u ih=>obtain⟨e,q⟩:=x;exact⟨k _ _ (.inl Z) e,ih q⟩
 |tbl ps=>
  have e:h.get? a=some {cls:=.none,data:=.fields ps}:=x;show h'.get? a=some {cls:=.none,data:=.fields ps};exact k a _ (.inl Z) e
 |met f y=>
  have e:h.get? a=some (FO (.ref f) (.ref y)):=x;show h'.get? a=some (FO (.ref f) (.ref y));exact k a _ (.inl Z) e
 |ext φ=>obtain⟨p,⟨o,e⟩,st⟩:=x;exact⟨st _ _ p λo q=>k _ _ (.inl Z) q,⟨o,k _ _ (.inl Z) e⟩,st⟩
theorem wL.lt (x:wL P w H h)(e:H a=some o):a<h.objs.size:=(x a o e).lt
theorem wL.fresh (x:wL P w H h)(e:h.objs.size<=a):H a=none:=by
 cases q:H a with
 |none=>rfl
 |some u=>exact M' (dP (x.lt q) e) (eJ _)
theorem wL.kept (x:wL P w H h)(k:∀b u,h.get? b=some u->h'.get? b=some u):wL P w H h':=λa o e=>
 (x a o e).stay (λb u _ q=>k b u q) (λ_ q=>q) λ_ _ q=>q
theorem wL.laid (x:wL P w H h)(k:∀b u,h.get? b=some u->h'.get? b=some u)(hp:h.objs.size<=a)(new:yk P w (upd H a o) h' a o):wL P w (upd H a o) h':=λb u e=>by
 have hn:=x.fresh hp
 by_cases hb:b=a
 ·subst hb;rw[zt]at e;cases e;exact new
 ·rw[zx hb]at e;exact(x b u e).stay (λc v _ q=>k c v q) (λc q=>by rw[zx (zo q hn)];exact q) λc xs q=>by rw[zx (zo q hn)];exact q
end
def Rd (H:Hp)(a:aj)(u:HO):Prop:=H a=some u∨∃o,H a=some (.frz o u)
theorem Rd.ok {u:HO}(r:Rd H a u)(x:wL P w H h):yk P w H h a u:=by
 rcases r with r |⟨o,r⟩
 ·exact x a u r
 ·obtain⟨_,q⟩:=x a _ r;exact q
def Bq:Option HO->Prop
 |some (.lst _)=>True
 |some (.dK _)=>True
 |some (.dT _)=>True
 |some (.set _ _)=>True
 |some (.ins _ _ _)=>True
 |some (.ext _)=>True
 |_=>False
section
variable {x e:aj}{o':HO}
theorem wL.write (ok:wL P w H h)(mu:Bq (H x))(he:e=x∨H e=some (.own x))(k:∀b u,b≠e->h.get? b=some u->h'.get? b=some u)(heo:∃u,h'.get? e=some u)(new:yk P w (upd H x o') h' x o'):wL P w (upd H x o') h':=λb u q=>by
 have nown:∀c y,H c=some (.own y)->c≠x:=λc y r z=>by subst z;rw[r]at mu;exact mu
 have ntup:∀c xs,H c=some (.tup xs)->c≠x:=λc xs r z=>by subst z;rw[r]at mu;exact mu
 by_cases hb:b=x
 ·subst hb;rw[zt]at q;cases q;exact new
 ·rw[zx hb]at q
  by_cases hbe:b=e
  ·have q':H b=some (.own x):=by
    rcases he with z |z
    ·exact M' (hbe.trans z) hb
    ·rw[hbe];exact z
   rw[q]at q';cases q';obtain⟨v,hv⟩:=heo;exact⟨v,by rw[hbe];exact hv⟩
  ·refine(ok b u q).stay (λc v hc r=>k c v ?_ r) (λc r=>by rw[zx (nown c b r)];exact r) λc xs r=>by rw[zx (ntup c xs r)];exact r
   rcases hc with rfl |hc
   ·exact hbe
   ·rintro rfl;rcases he with z |z
    ·exact nown c b hc z
    ·rw[hc]at z;cases z;exact hb rfl
end
structure Un (fs ex:List aj)(H H':Hp)(h h':ia):Prop where
 keep:∀b o,h.get? b=some o->H b=none->b∉fs->b∉ex->h'.get? b=some o
 slot:∀b o,h.get? b=some o->H b=none->b∈fs->b∉ex->∃sl,h'.get? b=some {o with slots:=sl}
 free:∀b o,h.get? b=some o->H b=none->b∉ex->H' b=none
 there:∀b o,h.get? b=some o->b∉ex->∃o',h'.get? b=some o'
 tups:∀b xs,H b=some (.tup xs)->H' b=some (.tup xs)
 frzs:∀b o u,H b=some (.frz o u)->H' b=some (.frz o u)
 tbls:∀b ps,H b=some (.tbl ps)->∃more,H' b=some (.tbl (ps++more))
variable {H1:L2.Hp}
section
variable {fs fs' ex ex':List aj}{H2:Hp}{h1 h2:ia}{x e:aj}{o:HO}
theorem Un.any (u:Un fs ex H H1 h h1){ob:iN}(q:h.get? b=some ob)(n:H b=none)(hx:b∉ex):∃sl,h1.get? b=some {ob with slots:=sl}:=by
 by_cases hb:b∈fs
 ·exact u.slot b ob q n hb hx
 ·exact⟨ob.slots,u.keep b ob q n hb hx⟩
theorem Un.kept (k:∀b u,h.get? b=some u->h'.get? b=some u):Un fs ex H H h h' :=
 ⟨λb ob q _ _ _=>k b ob q,λb ob q _ _ _=>⟨ob.slots,k b ob q⟩,λ_ _ _ n _=>n,λb ob q _=>⟨ob,k b ob q⟩,λ_ _ q=>q,λ_ _ _ q=>q,λ_ ps q=>⟨#[],by rw[q];simp⟩⟩
theorem Un.refl:Un fs ex H H h h:=Un.kept λ_ _ q=>q
theorem Un.laid (k:∀b u,h.get? b=some u->h'.get? b=some u)(hp:h.objs.size<=a)(hn:H a=none):Un fs ex H (upd H a o) h h' where
 keep:=λb u q _ _ _=>k b u q
 slot:=λb u q _ _ _=>⟨u.slots,k b u q⟩
 free:=λb u q n _=>by rw[zx (CM (dP (CH q) hp))];exact n
 there:=λb u q _=>⟨u,k b u q⟩
 tups:=λb xs q=>by rw[zx (zo q hn)];exact q
 frzs:=λb u xs q=>by rw[zx (zo q hn)];exact q
 tbls:=λb ps q=>⟨#[],by rw[zx (zo q hn),q];simp⟩
theorem Un.write (mu:Bq (H x))(he:e=x∨H e=some (.own x))(k:∀b u,b≠e->h.get? b=some u->h'.get? b=some u)(heo:∃u,h'.get? e=some u):Un fs ex H (upd H x o) h h':=by
 have hx:∀b,H b=none->b≠x:=λb n z=>by subst z;rw[n]at mu;exact mu
 have hb:∀b,H b=none->b≠e:=λb n z=>by
  subst z;rcases he with r |r
  ·exact hx b n r
  ·rw[n]at r;cases r
 have hm:∀b u,H b=some u->¬Bq (some u)->b≠x:=λb u q nm z=>by subst z;rw[q]at mu;exact nm mu
 refine⟨λb u q n _ _=>k b u (hb b n) q,λb u q n _ _=>⟨u.slots,k b u (hb b n) q⟩,λb u q n _=>by rw[zx (hx b n)];exact n,λb u q _=>?_,
  λb xs q=>by rw[zx (hm b _ q λz=>z)];exact q,λb u xs q=>by rw[zx (hm b _ q λz=>z)];exact q,λb ps q=>⟨#[],by rw[zx (hm b _ q λz=>z),q];simp⟩⟩
 by_cases hbe:b=e
 ·subst hbe;exact heo
 ·exact⟨u,k b u hbe q⟩
end
def Bw (h:ia)(H:Hp):List aj:=(aQ h.objs.size).filter λa=>(H a).isSome
def V4 (h:ia)(H:Hp):ia:=PySem.W.hideAll h (Bw h H)
theorem OE (h:ia)(H:Hp):(V4 h H).objs.size=h.objs.size:=PySem.W.hideAll_size _ _
theorem lU (e:h.get? b=some o)(n:H b=none):(V4 h H).get? b=some o :=
 PySem.W.hideAll_get _ e λhm=>by
  have q:(H b).isSome=true:=(DF.mp hm).2;rw[n]at q;simp at q
theorem Nj (e:(V4 h H).get? b=some o):h.get? b=some o/\H b=none:=by
 have e':h.get? b=some o:=PySem.W.of_hideAll (Bw h H) e;refine⟨e',?_⟩
 cases q:H b with
 |none=>rfl
 |some x=>
  have hm:b∈Bw h H:=DF.mpr ⟨Dl.mpr (CH e'),by simp[q]⟩;have z:(V4 h H).get? b=none:=PySem.W.hideAll_none (Bw h H) hm;rw[z]at e;cases e
def nF (g h:ia)(L:aj):List (aj×iN):=(aQ h.objs.size).filterMap λa=>if a=L∨(g.get? a).isSome=true then none else (h.get? a).map λo=>(a,o)
def rest (g h:ia)(L d:aj):List (aj×iN):=(nF g h L).filter λp=>decide (p.1≠d)
structure Mod (K:BFr)(mg:af->Option ae)(base:ia):Prop where
 kin:K.In base
 glob:base.Ns au mg
 blt:∃mb,base.Ns Fj mb/\∀x:af,x≠"__name__"->mb x=ig x
 nolimit:base.NoLimit
structure Cx where
 prog:f_
 w:aZ
 K:BFr
 mg:af->Option ae
 base:ia
 A:sC
 N:List af
 s₀:av
 H₀:Hp
 env:Iv
 outer:List Iv
 stack:List Iv
 ex:List aj
 fn:af->Bool
 calm:Bool
 pn:List (aj×iN)
 xe:ae->av->Prop
def Xg (l:List Iv):List aj:=l.filterMap (·.frame)
variable {X:L2.Cx}
abbrev Cx.fs (X:Cx):List aj:=Xg X.outer
def cq (sc:AW)(x:af):Prop:=sc.names.lookup x=some .local∨sc.names.lookup x=some .cell∨sc.names.lookup x=some .free
def TH (sc:AW)(x:af):Prop:=sc.names.lookup x=some .local∨sc.names.lookup x=some .cell
def BO (env:Iv)(h:ia)(m:af->Option ae)(x:af)(u:ae):Prop :=
 (env.kindOf x=some .local/\m x=some u)∨((env.kindOf x=some .cell∨env.kindOf x=some .free)/\∃c,env.cells.lookup x=some c/\h.IsCell c (some u))
structure Cx.Ok (X:Cx):Prop where
 mod:Mod X.K X.mg X.base
 kind:X.env.scope.kind=.function
 glob:X.env.globals=au
 blt:X.env.builtins=Fj
 above:X.s₀.heap.objs.size<=X.env.locals
 inj:∀x y c,X.env.cells.lookup x=some c->X.env.cells.lookup y=some c->x=y
 has:∀x,(X.env.kindOf x=some .cell∨X.env.kindOf x=some .free)->∃c,X.env.cells.lookup x=some c
 cab:∀x c,X.fn x=true->X.env.cells.lookup x=some c->X.s₀.heap.objs.size<=c
 hd:X.calm=true->X.A.handled=none
 frames:X.A.frames=some X.stack
 stk:X.stack=X.outer∨(X.stack=X.env::X.outer/\X.env.frame=some X.env.locals)
 exf:∀b∈X.ex,b≠X.env.locals/\∀x c,X.env.cells.lookup x=some c->c≠b
 bs:∀b o,X.base.get? b=some o->X.s₀.heap.get? b=some o/\X.H₀ b=none
 bsz:X.base.objs.size<=X.s₀.heap.objs.size
 noex:∀b o,X.base.get? b=some o->b∉X.ex
 exfs:∀b∈X.ex,b∉X.fs
 funs:X.s₀.heap.FunFrames X.base X.outer
 frf:∀b∈X.fs,X.H₀ b=none
structure zF (X:Cx)(N':List (aj×iN))(σ:List (Option V))(H:Hp)(s:av):Prop where
 ok:X.Ok
 os:s.os=X.s₀.os
 bare:A_ s.gens
 base:Un X.fs X.ex X.H₀ H X.s₀.heap s.heap
 loc:∃m,s.heap.Ns X.env.locals m/\∀(i:Nat) (x:af) (v:V),X.N[i]?=some x->σ[i]?=some (some v)->cq X.env.scope x->∃u,qr v u/\BO X.env s.heap m x u
 cell:∀x c,X.env.cells.lookup x=some c->∃v,s.heap.IsCell c v
 free:H X.env.locals=none
 freeC:∀x c,X.env.cells.lookup x=some c->H c=none
 pin:∀p∈X.pn++N',s.heap.get? p.1=some p.2/\H p.1=none/\p.1≠X.env.locals/\p.1∉X.fs/\∀v,p.2.data≠.cell v
 hok:wL X.prog X.w H s.heap
 len:σ.length=X.N.length
section
variable {σ:List (Option V)}
theorem Cx.Ok.nofr (ok:X.Ok)(e:X.base.get? b=some o):b∉X.fs:=λhb=>by
 have:=(ok.funs.mem hb).1;rw[e]at this;cases this
theorem zF.bs (I:zF X N' σ H s):∀b o,X.base.get? b=some o->s.heap.get? b=some o/\H b=none:=λb o e=>
 ⟨I.base.keep b o (I.ok.bs b o e).1 (I.ok.bs b o e).2 (I.ok.nofr e) (I.ok.noex b o e),I.base.free b o (I.ok.bs b o e).1 (I.ok.bs b o e).2 (I.ok.noex b o e)⟩
theorem zF.bk (I:zF X N' σ H s):∀b o,X.base.get? b=some o->s.heap.get? b=some o:=λb o e=>(I.bs b o e).1
theorem zF.mod (I:zF X N' σ H s):Mod X.K X.mg X.base:=I.ok.mod
theorem zF.kIn (I:zF X N' σ H s):X.K.In s.heap:=I.ok.mod.kin.keeps I.bk
theorem zF.lt (I:zF X N' σ H s):X.env.locals<s.heap.objs.size:=let ⟨_,hn,_⟩:=I.loc;hn.lt
theorem zF.sz (I:zF X N' σ H s):X.s₀.heap.objs.size<=s.heap.objs.size:=CD I.ok.above (eK I.lt)
theorem zF.nofs (I:zF X N' σ H s)(h:s.heap.objs.size<=a):a∉X.fs:=λhb=>by
 obtain⟨_,o,ho,_⟩:=I.ok.funs.mem hb;exact M' (dP (CH ho) (CD I.sz h)) (eJ _)
theorem zF.cne (I:zF X N' σ H s):∀x c,X.env.cells.lookup x=some c->c≠X.env.locals:=λx c e z=>by
 obtain⟨v,o,ho,hd⟩:=I.cell x c e;obtain⟨m,⟨o',es,ep,ho',hd',_⟩,_⟩:=I.loc;rw[z,ho']at ho;cases ho;rw[hd']at hd;cases hd
theorem zF.funs (I:zF X N' σ H s):s.heap.FunFrames X.base X.outer:=by
 have all:∀(l:List Iv),(∀b∈Xg l,b∈X.fs)->X.s₀.heap.FunFrames X.base l->s.heap.FunFrames X.base l:=by
  intro l
  induction l with
  |nil=>intro _ _;trivial
  |cons env r ih=>
   intro hs hl;obtain⟨hk,⟨L,o,hf,hn,ho,hd⟩,hr⟩:=hl;have hL:L∈X.fs:=hs L (by unfold Xg;rw[Dm,hf];exact CG);obtain⟨sl,e⟩:=I.base.slot L o ho (I.ok.frf L hL) hL λz=>I.ok.exfs L z hL;exact⟨hk,⟨L,_,hf,hn,e,hd⟩,ih (λb hb=>hs b (by unfold Xg;rw[Dm,hf];exact CK _ hb)) hr⟩
 exact all X.outer (λ_ hb=>hb) I.ok.funs
theorem zF.stack (I:zF X N' σ H s):s.heap.FunFrames X.base X.stack:=by
 rcases I.ok.stk with e |⟨e,hf⟩
 ·rw[e];exact I.funs
 ·rw[e];obtain⟨m,hn,_⟩:=I.loc;refine .cons (by rw[I.ok.kind];decide) hf hn ?_ I.funs;exact eV (CD I.ok.bsz I.ok.above)
theorem zF.stkSub (I:zF X N' σ H s):∀b∈Xg X.stack,b∈X.env.locals::X.fs:=λb hb=>by
 rcases I.ok.stk with e |⟨e,hf⟩
 ·rw[e]at hb;exact CK _ hb
 ·rw[e]at hb;unfold Xg at hb;rw[Dm,hf]at hb;exact hb
theorem zF.stkFree (I:zF X N' σ H s):∀b∈Xg X.stack,H b=none:=λb hb=>by
 rcases CF.mp (I.stkSub b hb) with e |hb
 ·rw[e];exact I.free
 ·obtain⟨_,o,ho,_⟩:=I.ok.funs.mem hb;exact I.base.free b o ho (I.ok.frf b hb) λz=>I.ok.exfs b z hb
theorem zF.step {g':Array Se}{d':Drawn}(I:zF X N' σ H s)(hch:∀b∈ch,(b∈X.ex∨X.s₀.heap.get? b=none)/\b≠X.env.locals/\(∀x c,X.env.cells.lookup x=some c->c≠b)/\∀p∈X.pn++N',p.1≠b)(keep:∀b o,b≠X.env.locals->b∉X.fs->b∉ch->s.heap.get? b=some o->H b=none->h'.get? b=some o)(slot:∀b o,b≠X.env.locals->b∈X.fs->b∉ch->s.heap.get? b=some o->H b=none->∃sl,h'.get? b=some {o with slots:=sl})(free:∀b o,b∉ch->s.heap.get? b=some o->H b=none->H' b=none)(there:∀b o,b∉ch->s.heap.get? b=some o->∃o',h'.get? b=some o')(tups:∀b xs,H b=some (.tup xs)->H' b=some (.tup xs))(frzs:∀b o u,H b=some (.frz o u)->H' b=some (.frz o u))(tbls:∀b ps,H b=some (.tbl ps)->∃more,H' b=some (.tbl (ps++more)))(ns:∀m,s.heap.Ns X.env.locals m->h'.Ns X.env.locals m)(hok:wL X.prog X.w H' h')(hg:A_ g'):
  zF X N' σ H' {s with heap:=h',gens:=g',drawn:=d',toks:=t'}:=by
 have neL:∀b o,X.s₀.heap.get? b=some o->b≠X.env.locals:=λb o e=>CM (dP (CH e) I.ok.above)
 have neC:∀b o,X.s₀.heap.get? b=some o->b∉X.ex->b∉ch:=λb o e hx hb=>by
  rcases (hch b hb).1 with z |z
  ·exact hx z
  ·rw[z]at e;cases e
 have cellK:∀x c,X.env.cells.lookup x=some c->∀v,s.heap.IsCell c v->h'.IsCell c v:=λx c e v ⟨o,ho,hd⟩=>by
  have nch:c∉ch:=λz=>(hch c z).2.2.1 x c e rfl
  by_cases hc:c∈X.fs
  ·obtain⟨sl,q⟩:=slot c o (I.cne x c e) hc nch ho (I.freeC x c e);exact⟨_,q,hd⟩
  ·exact⟨o,keep c o (I.cne x c e) hc nch ho (I.freeC x c e),hd⟩
 refine⟨I.ok,I.os,hg,⟨λb o e n hb hx=>?_,λb o e n hb hx=>?_,λb o e n hx=>?_,λb o e hx=>?_,λb xs e=>tups b xs (I.base.tups b xs e),λb o xs e=>frzs b o xs (I.base.frzs b o xs e),λb ps e=>?_⟩,?_,λx c e=>?_,?_,λx c e=>?_,λp hp=>?_,hok,I.len⟩
 ·exact keep b o (neL b o e) hb (neC b o e hx) (I.base.keep b o e n hb hx) (I.base.free b o e n hx)
 ·obtain⟨sl,e1⟩:=I.base.slot b o e n hb hx;obtain⟨sl',e2⟩:=slot b _ (neL b o e) hb (neC b o e hx) e1 (I.base.free b o e n hx);exact⟨sl',e2⟩
 ·obtain⟨o',e1⟩:=I.base.there b o e hx;exact free b o' (neC b o e hx) e1 (I.base.free b o e n hx)
 ·obtain⟨o',e1⟩:=I.base.there b o e hx;exact there b o' (neC b o e hx) e1
 ·obtain⟨m1,e1⟩:=I.base.tbls b ps e;obtain⟨m2,e2⟩:=tbls b _ e1;exact⟨m1++m2,by rw[e2,Kc]⟩
 ·obtain⟨m,hn,hl⟩:=I.loc;refine⟨m,ns m hn,λi x v e1 e2 e3=>?_⟩;obtain⟨u,r,l⟩:=hl i x v e1 e2 e3;refine⟨u,r,?_⟩;rcases l with l |⟨k,c,e,z⟩
  ·exact .inl l
  ·exact .inr ⟨k,c,e,cellK x c e _ z⟩
 ·obtain⟨v,z⟩:=I.cell x c e;exact⟨v,cellK x c e v z⟩
 ·obtain⟨m,⟨o,_,_,ho,_⟩,_⟩:=I.loc;exact free _ o (λz=>(hch _ z).2.1 Z) ho I.free
 ·obtain⟨v,o,ho,hd⟩:=I.cell x c e;exact free c o (λz=>(hch c z).2.2.1 x c e Z) ho (I.freeC x c e)
 ·obtain⟨e,n,ne,nf,d⟩:=I.pin p hp;have nch:p.1∉ch:=λz=>(hch p.1 z).2.2.2 p hp rfl;exact⟨keep p.1 p.2 ne nf nch e n,free p.1 p.2 nch e n,ne,nf,d⟩
theorem zF.un (I:zF X N' σ H s)(u:Un X.fs [] H H' s.heap h')(hok:wL X.prog X.w H' h'):zF X N' σ H' {s with heap:=h',toks:=t'}:=by
 obtain⟨m,⟨o,es,ep,ho,r⟩,_⟩:=id I.loc;obtain⟨sl,hL⟩:=u.any ho I.free (by simp)
 exact I.step (g':=s.gens) (d':=s.drawn) (ch:=[]) (λ_ z=>nomatch z) (λb o _ hb _ e n=>u.keep b o e n hb (by simp)) (λb o _ hb _ e n=>u.slot b o e n hb (by simp)) (λb o _ e n=>u.free b o e n (by simp)) (λb o _ e=>u.there b o e (by simp)) u.tups u.frzs u.tbls (λm' hm=>by
  obtain⟨o',δ,ep',ho',r'⟩:=hm;rw[ho]at ho';cases ho';exact⟨_,δ,ep',hL,r'⟩) hok I.bare
theorem zF.call {g':Array Se}{d':Drawn}(I:zF X N' σ H s)(u:Un (Xg X.stack) ch H H' s.heap h')(hok:wL X.prog X.w H' h')(hg:A_ g')(hch:∀b∈ch,(b∈X.ex∨X.s₀.heap.get? b=none)/\b≠X.env.locals/\(∀x c,X.env.cells.lookup x=some c->c≠b)/\∀p∈X.pn++N',p.1≠b):
  zF X N' σ H' {s with heap:=h',gens:=g',drawn:=d',toks:=t'}:=by
 obtain⟨m,⟨o,es,ep,ho,r⟩,_⟩:=id I.loc;obtain⟨sl,hL⟩:=u.any ho I.free λz=>(hch _ z).2.1 rfl
 exact I.step (ch:=ch) hch (λb o hL hb hc e n=>u.keep b o e n (λz=>(CF.mp (I.stkSub b z)).elim hL hb) hc) (λb o _ _ hc e n=>u.any e n hc) (λb o hc e n=>u.free b o e n hc) (λb o hc e=>u.there b o e hc) u.tups u.frzs u.tbls (λm' hm=>by
  obtain⟨o',δ,ep',ho',r'⟩:=hm;rw[ho]at ho';cases ho';exact⟨_,δ,ep',hL,r'⟩) hok hg
theorem zF.turned (I:zF X N' σ H s)(k:∀b o,b≠it->s.heap.get? b=some o->h'.get? b=some o)(hn:H it=none)(hL:it≠X.env.locals)(h1:it∈X.ex∨X.s₀.heap.get? it=none)(h2:∀x c,X.env.cells.lookup x=some c->c≠it)(h3:∀p∈X.pn++N',p.1≠it):zF X N' σ H {s with heap:=h',toks:=t'}:=by
 have nit:∀b u,H b=some u->b≠it:=λb u e z=>by rw[z,hn]at e;cases e
 refine I.step (g':=s.gens) (d':=s.drawn) (ch:=[it]) (λb hb=>?_) (λb o _ _ hc e _=>k b o (λz=>hc (by simp[z])) e) (λb o _ _ hc e _=>⟨o.slots,k b o (λz=>hc (by simp[z])) e⟩) (λ_ _ _ _ n=>n)
  (λb o hc e=>⟨o,k b o (λz=>hc (by simp[z])) e⟩) (λ_ _ e=>e) (λ_ _ _ e=>e) (λb ps e=>⟨#[],by rw[e];simp⟩) (λm hm=>?_) (λb u e=>?_) I.bare
 ·have e:b=it:=by simpa using hb
  subst e;exact⟨h1,hL,h2,h3⟩
 ·obtain⟨o,es,ep,ho,r⟩:=hm;exact⟨o,es,ep,k _ o (iT hL) ho,r⟩
 ·refine(I.hok b u e).stay (λc v hc q=>k c v ?_ q) (λ_ q=>q) λ_ _ q=>q;rcases hc with z |z
  ·rw[z];exact nit b u e
  ·exact nit c _ z
theorem zF.tok (I:zF X N' σ H s)(t:Nat):zF X N' σ H {s with toks:=t}:=I.un (h':=s.heap) (t':=t) Un.refl I.hok
theorem zF.kept (I:zF X N' σ H s)(k:∀b u,s.heap.get? b=some u->h'.get? b=some u):zF X N' σ H {s with heap:=h',toks:=t'}:=I.un (Un.kept k) (I.hok.kept k)
theorem zF.laid {o:HO}(I:zF X N' σ H s)(k:∀b u,s.heap.get? b=some u->h'.get? b=some u)(hp:s.heap.objs.size<=a)(new:yk X.prog X.w (upd H a o) h' a o):
  zF X N' σ (upd H a o) {s with heap:=h',toks:=t'}:=I.un (Un.laid k hp (I.hok.fresh hp)) (I.hok.laid k hp new)
theorem zF.write {x e:aj}{o:HO}(I:zF X N' σ H s)(mu:Bq (H x))(he:e=x∨H e=some (.own x))(k:∀b u,b≠e->s.heap.get? b=some u->h'.get? b=some u)(heo:∃u,h'.get? e=some u)(new:yk X.prog X.w (upd H x o) h' x o):zF X N' σ (upd H x o) {s with heap:=h',toks:=t'}:=I.un (Un.write mu he k heo) (I.hok.write mu he k heo new)
theorem zF.pins_of {γ9:List (aj×iN)}(I:zF X N' σ H s)(h:∀p∈γ9,s.heap.get? p.1=some p.2/\H p.1=none/\p.1≠X.env.locals/\p.1∉X.fs/\∀v,p.2.data≠.cell v):zF X γ9 σ H s :=
 ⟨I.ok,I.os,I.bare,I.base,I.loc,I.cell,I.free,I.freeC,λp hp=>(CU.mp hp).elim (λz=>I.pin p (dX _ z)) (h p),I.hok,I.len⟩
theorem WD {N:List af}(hN:N.Nodup)(a:N[i]?=some x)(b:N[j]?=some x):i=j:=by
 obtain⟨h1,e1⟩:=CV.mp a;obtain⟨h2,e2⟩:=CV.mp b;exact(fh hN).mp (e1.trans e2.symm)
theorem Qk {v:V}{Q:Unit->av->Prop}(I:zF X N' σ H s)(hN:X.N.Nodup)(hi:X.N[i]?=some x)(hx:TH X.env.scope x)(r:qr v u)(h:∀s',zF X N' (σ.set i (some v)) H s'->(∃a,ik a s.heap s'.heap/\(a=X.env.locals∨X.env.cells.lookup x=some a))->Q () s')(hf:X.fn x=true∨X.env.scope.names.lookup x=some .local:=by first |exact .inl Z |exact .inr Z |assumption):wpAny M A (storeName X.env x u) Q E s:=by
 obtain⟨m,hn,hl⟩:=id I.loc;have hcls:(X.env.scope.kind == .class || (X.env.scope.kind == .module&&X.env.locals != X.env.globals))=false:=by rw[I.ok.kind];rfl
 have hiσ:i < σ.length:=by rw[I.len];exact(CV.mp hi).1
 have cne:=I.cne
 have tracked:∀{a:aj} {h':ia},(∃o,s.heap.get? a=some o/\H a=none)->ik a s.heap h'->wL X.prog X.w H h':=λ{a h'} ha hs b ob e=>by
  obtain⟨_,_,hfree⟩:=ha;refine(I.hok b ob e).stay (λc w' hc q=>(hs.2 c ?_).trans q) (λ_ q=>q) λ_ _ q=>q;rintro rfl;rcases hc with rfl |hc
  ·rw[hfree]at e;cases e
  ·rw[hfree]at hc;cases hc
 rcases hx with hk |hk
 ·refine wpAny_storeName_local hk hn (λh' hn' hs=>?_) hcls;obtain⟨oL,_,_,hoL,_⟩:=id hn;refine h _ ⟨I.ok,I.os,I.bare,⟨λb o e n hb hx=>?_,λb o e n hb hx=>?_,I.base.free,λb o e hx=>?_,I.base.tups,I.base.frzs,I.base.tbls⟩,⟨_,hn',λj y v' e1 e2 e3=>?_⟩,λy c e=>?_,I.free,I.freeC,λp hp=>?_,tracked ⟨oL,hoL,I.free⟩ hs,by simpa using I.len⟩ ⟨_,hs,.inl Z⟩
  ·exact(hs.2 b (CM (dP (CH e) I.ok.above))).trans (I.base.keep b o e n hb hx)
  ·obtain⟨sl,e1⟩:=I.base.slot b o e n hb hx;exact⟨sl,(hs.2 b (CM (dP (CH e) I.ok.above))).trans e1⟩
  ·obtain⟨o',e1⟩:=I.base.there b o e hx;exact⟨o',(hs.2 b (CM (dP (CH e) I.ok.above))).trans e1⟩
  ·by_cases hj:j=i
   ·subst hj;rw[hi]at e1;cases e1;rw[EM hiσ]at e2;cases e2;exact⟨u,r,.inl ⟨hk,by simp⟩⟩
   ·rw[fj (iT hj)]at e2;obtain⟨u',r',q⟩:=hl j y v' e1 e2 e3;refine⟨u',r',?_⟩;rcases q with⟨k,e⟩ |⟨k,c,e,z⟩
    ·refine .inl ⟨k,?_⟩;have:y≠x:=λe=>hj (WD hN e1 (e ▸ hi))
     simp[this,e]
    ·exact .inr ⟨k,c,e,z.sameBut hs (cne y c e)⟩
  ·obtain⟨w',z⟩:=I.cell y c e;exact⟨w',z.sameBut hs (cne y c e)⟩
  ·obtain⟨e,n,ne,nf,d⟩:=I.pin p hp;exact⟨(hs.2 p.1 ne).trans e,n,ne,nf,d⟩
 ·have hfn:X.fn x=true:=by
   rcases hf with z |z
   ·exact z
   ·rw[z]at hk;cases hk
  obtain⟨c,hc⟩:=I.ok.has x (.inl hk);obtain⟨w',z⟩:=I.cell x c hc;refine wpAny_storeName_cell I.ok.kind hk hc z (λh' hc' hs=>?_);obtain⟨oc,hoc,hocd⟩:=id z;refine h {s with heap:=h'} ⟨I.ok,I.os,I.bare,⟨λb o e n hb hx=>?_,λb o e n hb hx=>?_,I.base.free,λb o e hx=>?_,I.base.tups,I.base.frzs,I.base.tbls⟩,⟨m,hn.sameBut hs (iT (cne x c hc)),λj y v' e1 e2 e3=>?_⟩,λy c' e=>?_,I.free,I.freeC,λp hp=>?_,tracked ⟨oc,hoc,I.freeC x c hc⟩ hs,by simpa using I.len⟩ ⟨c,hs,.inr hc⟩
  ·exact(hs.2 b (CM (dP (CH e) (I.ok.cab x c hfn hc)))).trans (I.base.keep b o e n hb hx)
  ·obtain⟨sl,e1⟩:=I.base.slot b o e n hb hx;exact⟨sl,(hs.2 b (CM (dP (CH e) (I.ok.cab x c hfn hc)))).trans e1⟩
  ·obtain⟨o',e1⟩:=I.base.there b o e hx;exact⟨o',(hs.2 b (CM (dP (CH e) (I.ok.cab x c hfn hc)))).trans e1⟩
  ·by_cases hj:j=i
   ·subst hj;rw[hi]at e1;cases e1;rw[EM hiσ]at e2;cases e2;exact⟨u,r,.inr ⟨.inl hk,c,hc,hc'⟩⟩
   ·rw[fj (iT hj)]at e2;obtain⟨u',r',q⟩:=hl j y v' e1 e2 e3;refine⟨u',r',?_⟩;rcases q with q |⟨k,c',e,z'⟩
    ·exact .inl q
    ·refine .inr ⟨k,c',e,z'.sameBut hs ?_⟩;rintro rfl;exact hj (WD hN e1 (I.ok.inj _ _ _ e hc ▸ hi))
  ·by_cases hcc:c'=c
   ·subst hcc;exact⟨_,hc'⟩
   ·obtain⟨w2,z2⟩:=I.cell y c' e;exact⟨w2,z2.sameBut hs hcc⟩
  ·obtain⟨e,n,ne,nf,d⟩:=I.pin p hp;refine⟨(hs.2 p.1 ?_).trans e,n,ne,nf,d⟩;intro q;rw[q,hoc]at e;have q':oc=p.2:=ai e;exact d w' (by rw[<- q'];exact hocd)
theorem wq {v:V}{Q:Unit->av->Prop}(I:zF X N' σ H s)(hN:X.N.Nodup)(hi:X.N[i]?=some x)(hx:TH X.env.scope x)(r:qr v u)(h:∀s',zF X N' (σ.set i (some v)) H s'->Q () s')(hf:X.fn x=true∨X.env.scope.names.lookup x=some .local:=by first |exact .inl Z |exact .inr Z |assumption):wpAny M A (storeName X.env x u) Q E s :=
 Qk I hN hi hx r (λs' I' _=>h s' I') hf
theorem zF.call' (I:zF X N' σ H s)(ho:s'.os=s.os)(u:Un (Xg X.stack) ch H H' s.heap s'.heap)(hok:wL X.prog X.w H' s'.heap)(hg:A_ s'.gens)(hch:∀b∈ch,(b∈X.ex∨X.s₀.heap.get? b=none)/\b≠X.env.locals/\(∀x c,X.env.cells.lookup x=some c->c≠b)/\∀p∈X.pn++N',p.1≠b):zF X N' σ H' s':=by
 obtain⟨h',g',d',t',o'⟩:=s';have e:o'=s.os:=ho;subst e;exact I.call (g':=g') (t':=t') (d':=d') u hok hg hch
end
abbrev XK:=ae->Option aj->Hp->Prop
abbrev St:=List (Option V)
abbrev VK:=V->Hp->Prop
abbrev TE:=St->Hp->VK->Prop
abbrev TT:=St->Hp->(Bool->Hp->Prop)->Prop
abbrev TA:=St->Hp->(List V->Hp->Prop)->Prop
structure jY where
 nx:St->Hp->Prop
 rt:VK
 bk:St->Hp->Prop:=λ_ _=>False
 ct:St->Hp->Prop:=λ_ _=>False
abbrev TS:=jY->St->Hp->Prop
variable {σ:L2.St}
def EP (X:Cx)(N':List (aj×iN))(σ:St)(Q:VK)(u:ae)(s':av):Prop:=∃v H',zF X N' σ H' s'/\qr v u/\Q v H'
def TP (X:Cx)(N':List (aj×iN))(σ:St)(Q:Bool->Hp->Prop)(b:Bool)(s':av):Prop:=∃H',zF X N' σ H' s'/\Q b H'
def AP (X:Cx)(N':List (aj×iN))(σ:St)(Q:List V->Hp->Prop)(us:List ae)(s':av):Prop:=∃vs H',zF X N' σ H' s'/\zZ vs us/\Q vs H'
variable {σ':L2.St}
def SP (X:Cx)(N':List (aj×iN))(D:jY)(f:Flow)(s':av):Prop :=
 match f with
 |.next=>∃σ' H',zF X N' σ' H' s'/\D.nx σ' H'
 |.brk=>∃σ' H',zF X N' σ' H' s'/\D.bk σ' H'
 |.cont=>∃σ' H',zF X N' σ' H' s'/\D.ct σ' H'
 |.ret u=>∃v σ' H',zF X N' σ' H' s'/\qr v u/\D.rt v H'
def PE (X:Cx)(e:aK)(t:TE):Prop :=
 ∀(N':List (aj×iN)) (s:av) (σ:St) (H:Hp) (Q:VK),zF X N' σ H s->t σ H Q->wpAny (az X.prog X.w) X.A (eval e X.env) (EP X N' σ Q) X.xe s
def PT (X:Cx)(e:aK)(t:TT):Prop :=
 ∀(N':List (aj×iN)) (s:av) (σ:St) (H:Hp) (Q:Bool->Hp->Prop),zF X N' σ H s->t σ H Q->wpAny (az X.prog X.w) X.A (isTrue e X.env (eval e X.env)) (TP X N' σ Q) X.xe s
def PW (X:Cx)(e:aK)(t:TT):Prop :=
 ∀(γ7:Sem ae) (N':List (aj×iN)) (s:av) (σ:St) (H:Hp) (Q:Bool->Hp->Prop),zF X N' σ H s->t σ H Q->wpAny (az X.prog X.w) X.A (isTrue e X.env γ7) (TP X N' σ Q) X.xe s
theorem PW.pt {t:TT}(h:PW X e t):PT X e t:=h _
def PA (X:Cx)(es:List aK)(t:TA):Prop :=
 ∀(pos:iS) (N':List (aj×iN)) (s:av) (σ:St) (H:Hp) (Q:List V->Hp->Prop),zF X N' σ H s->t σ H Q->wpAny (az X.prog X.w) X.A (FI (i9 pos (aE es X.env))) (AP X N' σ Q) X.xe s
def PS (X:Cx)(st:sT)(t:TS):Prop :=
 ∀(N':List (aj×iN)) (s:av) (σ:St) (H:Hp) (D:jY),zF X N' σ H s->t D σ H->wpAny (az X.prog X.w) X.A (exec st X.env) (SP X N' D) X.xe s
def jg (X:Cx)(st:List sT)(t:TS):Prop :=
 ∀(N':List (aj×iN)) (s:av) (σ:St) (H:Hp) (D:jY),zF X N' σ H s->t D σ H->wpAny (az X.prog X.w) X.A (execs st X.env) (SP X N' D) X.xe s
theorem qC {t:Sem α}{Q Q':α->av->Prop}(h:wpAny M A t Q E s)(hQ:∀a s,Q a s->Q' a s):wpAny M A t Q' E s:=sH h hQ λ_ _ x=>x
variable {ta:L2.TA}{tb:L2.TS}{P':List L2.V->L2.Hp->Prop}
section
theorem Cv {a b:aK}{ta tb:TE}(ha:PE X a ta)(hb:PE X b tb){R:V->V->Hp->Prop}(I:zF X N' σ H s)(h:ta σ H λx H1=>tb σ H1 λy H2=>R x y H2)
  {α:Type} {Q:α->av->Prop} {f:ae->ae->Sem α}
  (hf:∀v u s2 x y H2,zF X N' σ H2 s2->qr x v->qr y u->R x y H2->wpAny (az X.prog X.w) X.A (f v u) Q X.xe s2) :
  wpAny (az X.prog X.w) X.A (eval a X.env) (λv s₁=>wpAny (az X.prog X.w) X.A (eval b X.env) (λu s₂=>wpAny (az X.prog X.w) X.A (f v u) Q X.xe s₂) X.xe s₁) X.xe s:=by
 refine qC (ha N' s σ H _ I h) λv s1 hM=>?_;obtain⟨x,H1,I1,r1,q1⟩:=hM;refine qC (hb N' s1 σ H1 _ I1 q1) λu s2 hM=>?_;obtain⟨y,H2,I2,r2,q2⟩:=hM;exact hf v u s2 x y H2 I2 r1 r2 q2
def zN (i:Nat):TE:=λσ H Q=>∃v,σ[i]?=some (some v)/\Q v H
def tC (v:V):TE:=λ_ H Q=>Q v H
theorem Ry {pos:iS}(hN:X.N[i]?=some x)(hv:cq X.env.scope x)(hd:(x==("__debug__":af))=false:=by decide)(hcd:(x==("__classdict__":af))=false:=by decide):PE X (.Name x pos) (zN i):=by
 intro N' s σ H Q I h;obtain⟨v,e,h⟩:=h;obtain⟨m,hn,hl⟩:=I.loc;obtain⟨u,r,l⟩:=hl i x v hN e hv;have P':EP X N' σ Q u s:=⟨v,H,I,r,h⟩;rcases l with⟨hk,hm⟩ |⟨hk,c,hc,hcell⟩
 ·exact Sh (wpAny_loadName_local I.ok.kind hk hn hm P') hd
 ·rcases hk with hk |hk
  ·exact Sh (wpAny_loadName_cell I.ok.kind hk hc hcell P') hd
  ·exact Sh (wpAny_loadName_free I.ok.kind hk hc hcell P' hcd) hd
theorem ze {i j pos}:PE X (.Constant (.int i) j pos) (tC (.int i)):=λ_ _ _ H _ I h=>IF ⟨.int i,H,I.tok _,⟨_,Z⟩,h⟩
theorem vh {b j pos}:PE X (.Constant (.bool b) j pos) (tC (.bl b)):=λ_ _ _ H _ I h=>Constant_bool ⟨.bl b,H,I,Z,h⟩
theorem jf {j pos}:PE X (.Constant .none j pos) (tC .non):=λ_ _ _ H _ I h=>Constant_none ⟨.non,H,I,Z,h⟩
theorem zv {x j pos}:PE X (.Constant (.str x) j pos) (tC (.str x)):=λ_ _ _ H _ I h=>sJ ⟨.str x,H,I.tok _,⟨_,Z⟩,h⟩
def Gl (X:Cx)(x:af):Prop:=X.env.kindOf x=some .globalImplicit
theorem Zw {pos:iS}(I:zF X N' σ H s)(hg:Gl X x)(hm:X.mg x=some u)(h:Q u s)(hd:(x==("__debug__":af))=false:=by decide):wpAny (az X.prog X.w) X.A (eval (.Name x pos) X.env) Q E s :=
 FE I.ok.kind hg (Calls.loadGlobal_global (by rw[I.ok.glob];exact I.mod.glob.keeps I.bk) hm h) hd
theorem ud {pos:iS}(I:zF X N' σ H s)(hg:Gl X x)(hm:X.mg x=none)(hv:ig x=some u)(h:Q u s)(hn:x≠"__name__":=by decide)(hd:(x==("__debug__":af))=false:=by decide):wpAny (az X.prog X.w) X.A (eval (.Name x pos) X.env) Q E s:=by
 obtain⟨mb,h1,h2⟩:=I.mod.blt;exact FE I.ok.kind hg (Calls.loadGlobal_builtin (by rw[I.ok.glob];exact I.mod.glob.keeps I.bk) hm (by rw[I.ok.blt];exact h1.keeps I.bk) ((h2 x hn).trans hv) h) hd
theorem qe {v:V}{pos:iS}(hg:Gl X x)(hm:X.mg x=some u)(r:qr v u)(hd:(x==("__debug__":af))=false:=by decide):PE X (.Name x pos) (tC v) :=
 λ_ _ _ H _ I h=>Zw I hg hm ⟨v,H,I,r,h⟩ hd
theorem yX {v:V}{pos:iS}(hg:Gl X x)(hm:X.mg x=none)(hv:ig x=some u)(r:qr v u)(hn:x≠"__name__":=by decide)(hd:(x==("__debug__":af))=false:=by decide):PE X (.Name x pos) (tC v) :=
 λ_ _ _ H _ I h=>ud I hg hm hv ⟨v,H,I,r,h⟩ hn hd
variable {a b:aK}{ta tb:TE}{pos:iS}
def PC (X:Cx)(op:CmpOp)(a b:aK)(t:TE):Prop :=
 ∀(N':List (aj×iN)) (s:av) (σ:St) (H:Hp) (Q:VK),zF X N' σ H s->t σ H Q ->
  wpAny (az X.prog X.w) X.A (eval a X.env) (λv s₁=>wpAny (az X.prog X.w) X.A (eval b X.env) (λu s₂=>wpAny (az X.prog X.w) X.A (ir op v u) (EP X N' σ Q) X.xe s₂) X.xe s₁) X.xe s
def tB (t:TE):TT:=λσ H Q=>t σ H λx H1=>∃c,x=.bl c/\Q c H1
theorem B6 {t:TE}(h:PC X op a b t)(h1:Aa op b=false:=by first |exact nobehind _ (by decide) (by decide) |rfl):PT X (.Compare a [op] [b] pos) (tB t):=by
 intro N' s σ H Q I hw;refine AL (qC (h N' s σ H _ I hw) λv s1 h1=>qC h1 λu s2 h2=>qC h2 λc s3 hM=>?_) h1;obtain⟨x,H1,I1,r1,q1⟩:=hM;obtain⟨d,rfl,q⟩:=q1;cases r1;exact ib ⟨H1,I1,q⟩
theorem yg {t:TE}(h:PE X e t)(he:∀γ7,isTrue e X.env γ7=(do let v <- γ7;standAt e.pos;Ke [v] (truthy v)):=by intro _;rfl):PT X e (tB t):=by
 intro N' s σ H Q I hw;refine isTrue_plain (qC (h N' s σ H _ I hw) λv s1 hM=>?_) (he _);obtain⟨x,H1,I1,r1,q1⟩:=hM;obtain⟨d,rfl,q⟩:=q1;cases r1;exact ib ⟨H1,I1,q⟩
variable {tA tB':TT}{rest:List aK}
def BK (t u:TT):TT:=λσ H Q=>t σ H λc H1=>if c=true then u σ H1 Q else Q false H1
def Cr (t u:TT):TT:=λσ H Q=>t σ H λc H1=>if c=true then Q true H1 else u σ H1 Q
def cg (t:TT):TT:=λσ H Q=>t σ H λc H1=>Q (!c) H1
theorem oy (ha:PT X a tA):PW X (.BoolOp .And [a] pos) tA:=by
 intro wh N' s σ H Q I h;refine isTrue_and (qC (ha N' s σ H Q I h) λc s1 e=>?_)
 cases c with
 |true=>exact isTrue_and_nil e
 |false=>exact e
theorem jc (ha:PT X a tA):PW X (.BoolOp .Or [a] pos) tA:=by
 intro wh N' s σ H Q I h;refine isTrue_or (qC (ha N' s σ H Q I h) λc s1 e=>?_)
 cases c with
 |false=>exact isTrue_or_nil e
 |true=>exact e
theorem lK (ha:PT X a tA)(hb:PW X (.BoolOp .And (b::rest) pos) tB'):PW X (.BoolOp .And (a::b::rest) pos) (BK tA tB'):=by
 intro wh N' s σ H Q I h;refine isTrue_and (qC (ha N' s σ H _ I h) λc s1 hM=>?_);obtain⟨H1,I1,q1⟩:=hM
 cases c with
 |true=>exact hb wh N' s1 σ H1 Q I1 q1
 |false=>exact⟨H1,I1,q1⟩
theorem jh (ha:PT X a tA)(hb:PW X (.BoolOp .Or (b::rest) pos) tB'):PW X (.BoolOp .Or (a::b::rest) pos) (Cr tA tB'):=by
 intro wh N' s σ H Q I h;refine isTrue_or (qC (ha N' s σ H _ I h) λc s1 hM=>?_);obtain⟨H1,I1,q1⟩:=hM
 cases c with
 |true=>exact⟨H1,I1,q1⟩
 |false=>exact hb wh N' s1 σ H1 Q I1 q1
theorem yx (ha:PT X a tA):PT X (.UnaryOp .Not a pos) (cg tA):=by
 intro N' s σ H Q I h;exact isTrue_not (ha N' s σ H (λc H1=>Q (!c) H1) I h)
def lX (ta tb:TE):TE:=λσ H Q=>ta σ H λx H1=>∃c,x=.bl c/\if c=true then tb σ H1 Q else Q (.bl false) H1
def BY (ta tb:TE):TE:=λσ H Q=>ta σ H λx H1=>∃c,x=.bl c/\if c=true then Q (.bl true) H1 else tb σ H1 Q
def TZ (ta:TE):TE:=λσ H Q=>ta σ H λx H1=>∃c,x=.bl c/\Q (.bl (!c)) H1
theorem vO {op}{t:TE}(h:PE X a t):PE X (.BoolOp op [a] pos) t:=λN' s σ H Q I hw=>BoolOp_one (h N' s σ H Q I hw)
theorem jR (ha:PE X a ta)(hb:PE X (.BoolOp .And (b::rest) pos) tb):PE X (.BoolOp .And (a::b::rest) pos) (lX ta tb):=by
 intro N' s σ H Q I h;refine BoolOp_and (qC (ha N' s σ H _ I h) λv s1 hM=>?_);obtain⟨x,H1,I1,r1,q1⟩:=hM;obtain⟨c,rfl,q1⟩:=q1;cases r1;refine ib ?_
 cases c with
 |true=>exact hb N' s1 σ H1 Q I1 q1
 |false=>exact⟨.bl false,H1,I1,Z,q1⟩
theorem bu (ha:PE X a ta)(hb:PE X (.BoolOp .Or (b::rest) pos) tb):PE X (.BoolOp .Or (a::b::rest) pos) (BY ta tb):=by
 intro N' s σ H Q I h;refine BoolOp_or (qC (ha N' s σ H _ I h) λv s1 hM=>?_);obtain⟨x,H1,I1,r1,q1⟩:=hM;obtain⟨c,rfl,q1⟩:=q1;cases r1;refine ib ?_
 cases c with
 |false=>exact hb N' s1 σ H1 Q I1 q1
 |true=>exact⟨.bl true,H1,I1,Z,q1⟩
theorem gy (ha:PE X a ta):PE X (.UnaryOp .Not a pos) (TZ ta):=by
 intro N' s σ H Q I h;refine UnaryOp_ (qC (ha N' s σ H _ I h) λv s1 hM=>?_);obtain⟨x,H1,I1,r1,q1⟩:=hM;obtain⟨c,rfl,q1⟩:=q1;cases r1;exact not_of (ib ⟨.bl (!c),H1,I1,Z,q1⟩)
def cA (t:TT)(ta tb:TE):TE:=λσ H Q=>t σ H λc H1=>if c=true then ta σ H1 Q else tb σ H1 Q
theorem wM {c:aK}(hc:PT X c tA)(ha:PE X a ta)(hb:PE X b tb):PE X (.IfExp c a b pos) (cA tA ta tb):=by
 intro N' s σ H Q I h;refine wpAny_IfExp (qC (hc N' s σ H _ I h) λd s1 hM=>?_);obtain⟨H1,I1,q1⟩:=hM
 cases d with
 |true=>exact ha N' s1 σ H1 Q I1 q1
 |false=>exact hb N' s1 σ H1 Q I1 q1
end
def zL (K:BFr)(H:Hp)(a:aj)(xs:List V):Prop :=
 Rd H a (.lst xs) ∨
  ∃(o:iN) (its:Array ae) (n:Nat),K.lookup a=some o/\o.cls=.type "list"/\o.dict=none/\o.data=.seq its n/\its.size<=ar/\zZ xs its.toList
def yT (K:BFr)(H:Hp)(a:aj)(xs:List V):Prop :=
 Rd H a (.tup xs) ∨
  ∃(o:iN) (its:Array ae) (n:Nat),K.lookup a=some o/\o.cls=.type "tuple"/\o.data=.seq its n/\its.size<=ar/\zZ xs its.toList
def cL:ae->Option V
 |.none=>some .non
 |.bool b=>some (.bl b)
 |.int i _=>some (.int i)
 |.str x _=>some (.str x)
 |.bytes b _=>some (.byt b)
 |.float b _=>some (.flt b)
 |.ref a=>some (.ref a)
 |.type n=>some (.ty n)
 |_=>none
theorem qr.abs {x:V}(r:qr x u):cL u=some x:=by
 cases x with
 |non=>cases r;rfl
 |bl _=>cases r;rfl
 |int _=>obtain⟨t,rfl⟩:=r;rfl
 |str _=>obtain⟨t,rfl⟩:=r;rfl
 |byt _=>obtain⟨t,rfl⟩:=r;rfl
 |flt _=>obtain⟨t,rfl⟩:=r;rfl
 |ref _=>cases r;rfl
 |ty _=>cases r;rfl
theorem qr.inj {x:V}(r:qr x u)(q:qr y u):x=y:=ai (r.abs.symm.trans q.abs)
theorem zZ.inj:∀{xs ys:List V} {us:List ae},zZ xs us->zZ ys us->xs=ys
 |_,_,_,.nil,.nil=>rfl
 |_,_,_,.cons r t,.cons r' t'=>by rw[r.inj r',zZ.inj t t']
section
theorem zL.of {K:BFr}(h:H a=some (.lst xs)):zL K H a xs:=.inl (.inl h)
theorem yT.of {K:BFr}(h:H a=some (.tup xs)):yT K H a xs:=.inl (.inl h)
theorem zF.list (I:zF X N' σ H s)(h:zL X.K H a xs):∃its:List ae,zZ xs its/\PlainL s.heap a its.toArray/\xs.length<=ar:=by
 rcases h with h |⟨o,its,n,hk,hc,hd,hs,hz,r⟩
 ·obtain⟨z,its,n,r,e⟩:=h.ok I.hok;exact⟨its,r,⟨_,n,e,Z,Z,Z⟩,z⟩
 ·refine⟨its.toList,r,⟨o,n,I.kIn a o hk,hc,hd,by simpa using hs⟩,?_⟩;have e:=r.length;simp only[Dc]at e;lia
theorem zF.tuple (I:zF X N' σ H s)(h:yT X.K H a xs):∃its:List ae,zZ xs its/\IsTup s.heap a its.toArray/\xs.length<=ar:=by
 rcases h with h |⟨o,its,n,hk,hc,hs,hz,r⟩
 ·obtain⟨z,its,r,p⟩:=h.ok I.hok;exact⟨its,r,p,z⟩
 ·refine⟨its.toList,r,⟨o,I.kIn a o hk,hc,n,by simpa using hs⟩,?_⟩;have e:=r.length;simp only[Dc]at e;omega
theorem zF.list_inj (I:zF X N' σ H s)(h:zL X.K H a xs)(h':zL X.K H a ys):xs=ys:=by
 obtain⟨its,r,⟨o,n,e,_,_,d⟩,_⟩:=I.list h;obtain⟨its',r',⟨o',n',e',_,_,d'⟩,_⟩:=I.list h';rw[e]at e';cases e';rw[d]at d';injection d' with d1 _;have:its=its':=by simpa using G' Array.toList d1
 subst this;exact r.inj r'
theorem zF.tuple_inj (I:zF X N' σ H s)(h:yT X.K H a xs)(h':yT X.K H a ys):xs=ys:=by
 obtain⟨its,r,⟨o,e,_,n,d⟩,_⟩:=I.tuple h;obtain⟨its',r',⟨o',e',_,n',d'⟩,_⟩:=I.tuple h';rw[e]at e';cases e';rw[d]at d';injection d' with d1 _;have:its=its':=by simpa using G' Array.toList d1
 subst this;exact r.inj r'
end
abbrev Cx.wish (X:Cx)(E:ae->av->Prop):Cx:={X with xe:=E}
abbrev Cx.nox (X:Cx):Cx:=X.wish λ_ _=>False
theorem Cx.Ok.wish (ok:X.Ok)(E:ae->av->Prop):(X.wish E).Ok :=
 ⟨ok.mod,ok.kind,ok.glob,ok.blt,ok.above,ok.inj,ok.has,ok.cab,ok.hd,ok.frames,ok.stk,ok.exf,ok.bs,ok.bsz,ok.noex,ok.exfs,ok.funs,ok.frf⟩
theorem Cx.Ok.unwish (ok:(X.wish E).Ok):X.Ok :=
 ⟨ok.mod,ok.kind,ok.glob,ok.blt,ok.above,ok.inj,ok.has,ok.cab,ok.hd,ok.frames,ok.stk,ok.exf,ok.bs,ok.bsz,ok.noex,ok.exfs,ok.funs,ok.frf⟩
section
theorem zF.wish (I:zF X N' σ H s)(E:ae->av->Prop):zF (X.wish E) N' σ H s:=⟨I.ok.wish E,I.os,I.bare,I.base,I.loc,I.cell,I.free,I.freeC,I.pin,I.hok,I.len⟩
theorem zF.unwish (I:zF (X.wish E) N' σ H s):zF X N' σ H s:=⟨I.ok.unwish,I.os,I.bare,I.base,I.loc,I.cell,I.free,I.freeC,I.pin,I.hok,I.len⟩
theorem SP.unwish {D:jY}{f:Flow}(h:SP (X.wish E) N' D f s'):SP X N' D f s':=by
 cases f with
 |next=>obtain⟨σ',H',I,q⟩:=h;exact⟨σ',H',I.unwish,q⟩
 |brk=>obtain⟨σ',H',I,q⟩:=h;exact⟨σ',H',I.unwish,q⟩
 |cont=>obtain⟨σ',H',I,q⟩:=h;exact⟨σ',H',I.unwish,q⟩
 |ret u=>obtain⟨v,σ',H',I,r,q⟩:=h;exact⟨v,σ',H',I.unwish,r,q⟩
theorem jg.nox {st:List sT}{t:TS}(h:jg X.nox st t):jg X st t:=λN' s σ H D I hw=>
 sH (h N' s σ H D (I.wish _) hw) (λ_ _ q=>q.unwish) λ_ _ z=>iD z
end
variable {te:L2.TE}{tc:L2.TT}
section
variable {rest:List sT}{t u:TS}{pos:iS}
def GV:TS:=λD σ H=>D.nx σ H
def lS (t u:TS):TS:=λD σ H=>t {D with nx:=u D} σ H
theorem zQ:jg X [] GV:=λ_ _ σ H _ I h=>sO ⟨σ,H,I,h⟩
theorem zh (h1:PS X st t)(h2:jg X rest u):jg X (st::rest) (lS t u):=by
 intro N' s σ H D I h;refine k_ (qC (h1 N' s σ H {D with nx:=u D} I h) λf s1 q=>?_)
 cases f with
 |next=>
  obtain⟨σ',H',I',q⟩:=q;exact h2 N' s1 σ' H' D I' q
 |ret v=>exact q
 |brk=>exact q
 |cont=>exact q
theorem zi (h1:PS X st t):jg X [st] t:=by
 intro N' s σ H D I h;refine k_ (qC (h1 N' s σ H D I h) λf s1 q=>?_)
 cases f with
 |next=>exact sO q
 |ret v=>exact q
 |brk=>exact q
 |cont=>exact q
theorem zF.quiet (I:zF X N' σ H s):interactive X.env=false:=by simp[interactive,I.ok.kind]
def Bv (te:TE):TS:=λD σ H=>te σ H λ_ H1=>D.nx σ H1
theorem yR (he:PE X e te)(hs:Fh e none pos.line X.env=pure false:=by rfl):PS X (.Expr e pos) (Bv te):=by
 intro N' s σ H D I h;exact wpAny_Expr_any (qC (he N' s σ H _ I h) λv s1 hM=>by obtain⟨x,H1,I1,r1,q1⟩:=hM;exact⟨σ,H1,I1,q1⟩) I.quiet hs
def tG (te:TE):TS:=λD σ H=>te σ H D.rt
theorem zB (he:PE X e te):PS X (.Return (some e) pos) (tG te):=by
 intro N' s σ H D I h;exact Kf (qC (he N' s σ H _ I h) λv s1 hM=>by obtain⟨x,H1,I1,r1,q1⟩:=hM;exact⟨x,σ,H1,I1,r1,q1⟩)
def rW (c:TT)(t u:TS):TS:=λD σ H=>c σ H λb H1=>if b=true then t D σ H1 else u D σ H1
theorem qm {c:aK}{a b:List sT}(hc:PT X c tc)(ha:jg X a t)(hb:jg X b u):PS X (.If c a b pos) (rW tc t u):=by
 intro N' s σ H D I h;refine wpAny_If (qC (hc N' s σ H _ I h) λd s1 hM=>?_);obtain⟨H1,I1,q1⟩:=hM
 cases d with
 |true=>exact ha N' s1 σ H1 D I1 q1
 |false=>exact hb N' s1 σ H1 D I1 q1
def RY:TS:=λ_ _ _=>False
theorem Vw {sts:List sT}:jg X sts RY:=λ_ _ _ _ _ _ h=>h.elim
end
abbrev TG:=V->St->Hp->(St->Hp->Prop)->Prop
abbrev rn:=List V->St->Hp->(St->Hp->Prop)->Prop
def PG (X:Cx)(target:aK)(t:TG):Prop :=
 ∀(N':List (aj×iN)) (s:av) (σ:St) (H:Hp) (v:V) (u:ae) (Q:St->Hp->Prop),zF X N' σ H s->qr v u->t v σ H Q ->
  wpAny (az X.prog X.w) X.A (Fm target X.env u) (λ_ s'=>∃σ' H',zF X N' σ' H' s'/\Q σ' H') X.xe s
variable {ts:List L2.V}
def vW (X:Cx)(ts:List aK)(t:rn):Prop :=
 ∀(N':List (aj×iN)) (s:av) (σ:St) (H:Hp) (vs:List V) (us:List ae) (Q:St->Hp->Prop),zF X N' σ H s->zZ vs us->t vs σ H Q ->
  wpAny (az X.prog X.w) X.A (assignInOrder ((sU ts X.env).map (·.2)) us) (λ_ s'=>∃σ' H',zF X N' σ' H' s'/\Q σ' H') X.xe s
abbrev r8:=V->V->V->Hp->(Hp->Prop)->Prop
def Bs (X:Cx)(t:r8):Prop :=
 ∀(N':List (aj×iN)) (s:av) (σ:St) (H:Hp) (o i v:V) (ov iv u:ae) (Q:Hp->Prop),zF X N' σ H s->qr o ov->qr i iv->qr v u->t o i v H Q ->
  wpAny (az X.prog X.w) X.A (setItem ov iv u) (λ_ s'=>∃H',zF X N' σ H' s'/\Q H') X.xe s
variable {to:L2.TE}
section
variable {pos:iS}
def zO (i:Nat):TG:=λv σ H Q=>Q (σ.set i (some v)) H
theorem zA (hN:X.N.Nodup)(hi:X.N[i]?=some x)(hx:TH X.env.scope x)(hf:X.fn x=true∨X.env.scope.names.lookup x=some .local:=by first |exact .inl Z |exact .inr Z |assumption):PG X (.Name x pos) (zO i):=by
 intro N' s σ H v u Q I r h;exact FJ (wq I hN hi hx r (λs' I'=>⟨_,H,I',h⟩) hf)
def wj:rn:=λvs σ H Q=>vs=[]/\Q σ H
def qN (t:TG)(u:rn):rn:=λvs σ H Q=>∃v r,vs=v::r/\t v σ H λσ' H'=>u r σ' H' Q
theorem yz:vW X [] wj:=by
 intro N' s σ H vs us Q I r h;obtain⟨e,h⟩:=h;subst e;cases r;exact assignInOrder_nil ⟨σ,H,I,h⟩
theorem zW {es:List aK}{t:TG}{u:rn}(h1:PG X e t)(h2:vW X es u)(hs:(sU (e::es) X.env).map (·.2)=Fm e X.env::(sU es X.env).map (·.2):=by rfl):vW X (e::es) (qN t u):=by
 intro N' s σ H vs us Q I r h;obtain⟨v,vr,e1,h⟩:=h;subst e1
 cases r with
 |cons r rr=>
  rw[hs];refine assignInOrder_cons (qC (h1 N' s σ H _ _ _ I r h) λ_ s1 hM=>?_);obtain⟨σ1,H1,I1,q1⟩:=hM;exact h2 N' s1 σ1 H1 _ _ Q I1 rr q1
def uQ (K:BFr)(n:Nat)(t:rn):TG:=λv σ H Q=>∃a xs,v=.ref a/\yT K H a xs/\xs.length=n/\t xs σ H Q
theorem jr {es:List aK}{k:Nat}{t:rn}(hc:X.calm=true)(h:vW X es t)(hn:(sU es X.env).length=n:=by rfl)(hst:(sU es X.env).findIdx? (·.1)=none:=by rfl):PG X (.Tuple es k pos) (uQ X.K n t):=by
 intro N' s σ H v u Q I r hw;obtain⟨a,xs,e1,hq,hl,hw⟩:=hw;subst e1;cases r;obtain⟨its,rv,ht,hz⟩:=I.tuple hq;refine assign_Tuple_tuple (I.ok.hd hc) ht (by simp[hn,<- hl,rv.length]) hst λh' hx=>?_;have I1:zF X N' σ H {s with heap:=h'}:=I.kept (t':=s.toks) λb o e=>hx b o (CM (CH e)) e;exact h N' _ σ H xs _ Q I1 (by simpa using rv) hw
def BU (to ti:TE)(t:r8):TG:=λv σ H Q=>to σ H λo H1=>ti σ H1 λi H2=>t o i v H2 λH3=>Q σ H3
theorem m5 {o i:aK}{ti:TE}{t:r8}(ho:PE X o to)(hi:PE X i ti)(hs:Bs X t)(ha:∀v,Fm (.Subscript o i pos) X.env v=(do
   let ov <- Ke [v] (eval o X.env)
   let iv <- Ke [v,ov] (eval i X.env)
   standAt pos
   Ke [v,ov,iv] (setItem ov iv v)
   release [v,ov,iv] []):=by intro _;rfl):PG X (.Subscript o i pos) (BU to ti t):=by
 intro N' s σ H v u Q I r h;rw[ha];refine aa (aY (qC (ho N' s σ H _ I h) λov s1 hM=>?_));obtain⟨x,H1,I1,r1,q1⟩:=hM;refine aa (aY (qC (hi N' s1 σ H1 _ I1 q1) λiv s2 hM=>?_));obtain⟨y,H2,I2,r2,q2⟩:=hM;refine aa (AR (aa (aY (qC (hs N' s2 σ H2 x y v ov iv u _ I2 r1 r2 r q2) λ_ s3 hM=>?_))));obtain⟨H3,I3,q3⟩:=hM;exact wpAny_release ⟨σ,H3,I3,q3⟩
def gg (te:TE)(g:TG):TS:=λD σ H=>te σ H λx H1=>g x σ H1 D.nx
theorem RT {g:TG}(he:PE X e te)(hg:PG X tg g)(hs:swapsWithSole [tg] e pos.line X.env=pure false:=by rfl)(hw:swappedStores [tg] e X.env=pure none:=by rfl)(h1:(sU [tg] X.env).map (·.2)=[Fm tg X.env]:=by rfl):PS X (.Assign [tg] e pos) (gg te g):=by
 intro N' s σ H D I h;refine Ir (qC (he N' s σ H _ I h) λv s1 hM=>?_) hs hw;obtain⟨x,H1,I1,r1,q1⟩:=hM;rw[h1];exact qC (hg N' s1 σ H1 x v _ I1 r1 q1) λ_ s2 q=>q
theorem zE (hN:X.N.Nodup)(hi:X.N[i]?=some x)(hx:TH X.env.scope x)(he:PE X e te)(hs:Fh e (some (.Name x τ)) pos.line X.env=pure false:=by rfl)(hf:X.fn x=true∨X.env.scope.names.lookup x=some .local:=by first |exact .inl Z |exact .inr Z |assumption):
  PS X (.Assign [.Name x τ] e pos) (gg te (zO i)):=by
 intro N' s σ H D I h;refine FK (qC (he N' s σ H _ I h) λv s1 hM=>?_) hs;obtain⟨y,H1,I1,r1,q1⟩:=hM;exact wq I1 hN hi hx r1 (λs2 I2=>⟨_,H1,I2,q1⟩) hf
end
section
variable {pos:iS}
def tL (c:TT)(tb:TS):TS:=λD σ H=>∃W:Nat->St->Hp->Prop,(∃m,W m σ H)/\∀m σ H,W m σ H ->
 c σ H λb H1=>if b=true then ∃N:St->Hp->Prop,(∀σ' H',N σ' H'->∃m',m'<m/\W m' σ' H')/\tb {D with nx:=N,ct:=N,bk:=D.nx} σ H1 else D.nx σ H1
theorem Yw {c:aK}(hp:PassesOwn (az X.prog X.w) X.A X.env X.xe)(hc:PT X c tc)(hb:jg X body tb):PS X (.While c body [] pos) (tL tc tb):=by
 intro N' s σ H D I h;obtain⟨W,⟨m0,w0⟩,turn⟩:=h;refine wpAny_While (codeAny_whileLoop (λn s'=>∃σ' H',zF X N' σ' H' s'/\W n σ' H') ?_ m0 ⟨σ,H,I,w0⟩);rintro n s1 ⟨σ1,H1,I1,w1⟩;refine r_ hp (qC (hc N' s1 σ1 H1 _ I1 (turn n σ1 H1 w1)) λb s2 hM=>?_);obtain⟨H2,I2,q2⟩:=hM
 cases b with
 |true=>
  obtain⟨N,hN,q2⟩:=q2;rw[L' rfl];refine r_ hp (qC (hb N' s2 σ1 H2 _ I2 q2) λf s3 q3=>?_)
  cases f with
  |next=>
   obtain⟨σ3,H3,I3,n3⟩:=q3;obtain⟨m',hm,w3⟩:=hN σ3 H3 n3;exact⟨m',hm,σ3,H3,I3,w3⟩
  |cont=>
   obtain⟨σ3,H3,I3,n3⟩:=q3;obtain⟨m',hm,w3⟩:=hN σ3 H3 n3;exact⟨m',hm,σ3,H3,I3,w3⟩
  |brk=>exact q3
  |ret v=>exact q3
 |false=>
  rw[K' CZ];exact sO ⟨σ1,H2,I2,q2⟩
end
structure It where
 go:Nat->Hp->Prop
 yld:Nat->Hp->V->Hp->Prop
 stop:Nat->Hp->Prop
def yj (X:Cx)(N':List (aj×iN))(H:Hp)(b:aj):Prop :=
 H b=none/\b≠X.env.locals/\b∉X.fs/\(b∈X.ex∨X.s₀.heap.get? b=none)/\(∀x c,X.env.cells.lookup x=some c->c≠b)/\∀p∈X.pn++N',p.1≠b
theorem zF.fpOk (I:zF X N' σ H s)(hb:s.heap.objs.size<=b)(hn:H' b=none):yj X N' H' b:=by
 refine⟨hn,DU (dP I.lt hb),I.nofs hb,.inr (eV (CD I.sz hb)),λx c e z=>?_,λp hp z=>?_⟩
 ·obtain⟨v,q⟩:=I.cell x c e;exact M' (dP q.lt (by rw[z];exact hb)) (eJ _)
 ·exact M' (dP (CH (I.pin p hp).1) (by rw[z];exact hb)) (eJ _)
structure Uj (P:f_)(w:aZ)(K:BFr)(tg:aK)(J:It)(fp:List aj)(it:aj)(tn:Nat->ia->Prop):Prop where
 mem:it∈fp
 obj:∀i h,tn i h->∀b∈fp,∃o,h.get? b=some o/\∀v,o.data≠.cell v
 keep:∀i h h',tn i h->(∀b∈fp,∀o,h.get? b=some o->h'.get? b=some o)->tn i h'
 item:∀(X:Cx),X.prog=P->X.w=w->X.K=K->X.calm=true->∀(i:Nat) (N':List (aj×iN)) (s:av) (σ:St) (H:Hp) (E:ae->av->Prop),zF X N' σ H s->(∀b∈fp,yj X N' H b)->tn i s.heap->J.go i H ->
  wpAny (az P w) X.A (A4 (.ref it)) (λr s1=>∃u,r=some u /\
   wpAny (az P w) X.A (Ae tg (.ref it) u) (λ_ s2=>∃x H',zF X N' σ H' s2/\qr x u/\J.yld i H x H'/\tn (i+1) s2.heap/\∀b∈fp,H' b=none) E s1) E s
 done:∀(X:Cx),X.prog=P->X.w=w->X.K=K->X.calm=true->∀(i:Nat) (N':List (aj×iN)) (s:av) (σ:St) (H:Hp) (E:ae->av->Prop),zF X N' σ H s->(∀b∈fp,yj X N' H b)->tn i s.heap->J.stop i H ->
  wpAny (az P w) X.A (A4 (.ref it)) (λr s1=>r=none/\zF X N' σ H s1) E s
 self:∀(A:sC) (i:Nat) (s:av) (Q:ae->av->Prop) (E:ae->av->Prop),tn i s.heap->Q (.ref it) s->wpAny (az P w) A (KJ (.ref it)) Q E s
abbrev TI:=St->Hp->(It->Hp->Prop)->Prop
def Cb (X:Cx)(N':List (aj×iN))(σ:St)(tg:aK)(R:It->Hp->Prop)(itv:ae)(s2:av):Prop :=
 ∃(it:aj) (fp:List aj) (tn:Nat->ia->Prop) (J:It) (H':Hp),itv=.ref it/\zF X N' σ H' s2/\Uj X.prog X.w X.K tg J fp it tn/\tn 0 s2.heap/\(∀b∈fp,yj X N' H' b)/\R J H'
variable {wi:L2.TI}
def PI (X:Cx)(tg iter:aK)(wi:TI):Prop :=
 ∀(N':List (aj×iN)) (s:av) (σ:St) (H:Hp) (R:It->Hp->Prop),zF X N' σ H s->wi σ H R ->
  wpAny (az X.prog X.w) X.A (eval iter X.env) (λv s1=>wpAny (az X.prog X.w) X.A (KJ v) (Cb X N' σ tg R) X.xe s1) X.xe s
theorem UJ {n:String}{Q:Unit->av->Prop}(ho:s.heap.get? it=some o)(hc:o.cls=.type n)(hd:o.data=.fields vs)(hn:["enumerate","zip","dict_itemiterator","dict_reverseitemiterator","odict_iterator","itertools.zip_longest","itertools.pairwise"].contains n=false)(hQ:Q () s):wpAny M A (Ae tg (.ref it) u) Q E s:=by
 unfold Ae
 cases tg<;>first
  |exact aq hQ
  | (cases u<;>first
    |exact aq hQ
    | (refine aa (Hq ho ?_)
       rw[hc,hd];show wpAny M A (if (["enumerate","zip","dict_itemiterator","dict_reverseitemiterator","odict_iterator","itertools.zip_longest","itertools.pairwise"].contains n&&vs[0]? == some (iz _))=true then _ else _) Q E s;rw[K' (by intro h;rw[hn,d6]at h;cases h)];exact aq hQ))
def rN (K:BFr)(a:aj):It :=
 ⟨λi H=>∃xs x,zL K H a xs/\xs[i]?=some x,λi H x H'=>H'=H/\∀xs,zL K H a xs->xs[i]?=some x,λi H=>∃xs,zL K H a xs/\xs.length<=i⟩
def RO (K:BFr)(a:aj):It :=
 ⟨λi H=>∃xs x,yT K H a xs/\xs[i]?=some x,λi H x H'=>H'=H/\∀xs,yT K H a xs->xs[i]?=some x,λi H=>∃xs,yT K H a xs/\xs.length<=i⟩
def N6 (lo:Int)(n:Nat):It:=⟨λi _=>i<n,λi H x H'=>H'=H/\x=.int (lo+i),λi _=>n<=i⟩
theorem oZ {K:BFr}(a it:aj):Uj P w K tg (rN K a) [it] it (λi h=>h.IsListIter it a i) where
 mem:=by simp
 obj:=λi h st b hb=>by
  have e:b=it:=by simpa using hb
  subst e;obtain⟨o,e,c,d⟩:=st;exact⟨o,e,λv z=>by rw[d]at z;cases z⟩
 keep:=λi h h' st k=>st.at λo e=>k it (by simp) o e
 item:=by
  intro X hP hw hK hc i N' s σ H E I hf st hg;subst hP hw hK;obtain⟨xs,x,hq,hx⟩:=hg;obtain⟨its,rv,p,hz⟩:=I.list hq;obtain⟨u,hu,ru⟩:=rv.get hx;obtain⟨f0,f1,f2,f3,f4,f5⟩:=hf it (by simp);refine Hr st p.isList (x:=u) (by simpa using hu) λh' U' sb=>?_;have I1:zF X N' σ H {s with heap:=h'}:=I.turned (t':=s.toks) (λb o hb e=>(sb.2 b hb).trans e) f0 f1 f3 f4 f5;obtain⟨o,e,c,d⟩:=id U';exact⟨u,Z,UJ (s:={s with heap:=h'}) e c d (by decide) ⟨x,H,I1,ru,⟨Z,λys hy=>by rw[I.list_inj hy hq];exact hx⟩,U',λb hb=>(hf b hb).1⟩⟩
 done:=by
  intro X hP hw hK hc i N' s σ H E I hf st hg;subst hP hw hK;obtain⟨xs,hq,hx⟩:=hg;obtain⟨its,rv,p,hz⟩:=I.list hq;obtain⟨f0,f1,f2,f3,f4,f5⟩:=hf it (by simp);have hl:=rv.length;exact wpAny_pyNext_list_end (I.ok.hd hc) st p.isList (by simp;lia) λh' eb=>⟨Z,I.turned (t':=s.toks) (λb o hb e=>eb b o hb e) f0 f1 f3 f4 f5⟩
 self:=λ_ _ _ _ _ st h=>HB st h
theorem Xv {K:BFr}(a it:aj):Uj P w K tg (RO K a) [it] it (λi h=>h.IsTupleIter it a i) where
 mem:=by simp
 obj:=λi h st b hb=>by
  have e:b=it:=by simpa using hb
  subst e;obtain⟨o,e,c,d⟩:=st;exact⟨o,e,λv z=>by rw[d]at z;cases z⟩
 keep:=λi h h' st k=>st.at λo e=>k it (by simp) o e
 item:=by
  intro X hP hw hK hc i N' s σ H E I hf st hg;subst hP hw hK;obtain⟨xs,x,hq,hx⟩:=hg;obtain⟨its,rv,p,hz⟩:=I.tuple hq;obtain⟨u,hu,ru⟩:=rv.get hx;obtain⟨f0,f1,f2,f3,f4,f5⟩:=hf it (by simp);refine wpAny_pyNext_tuple_item st (show s.heap.IsTuple a its.toArray from p) (x:=u) (by simpa using hu) λh' U' sb=>?_;have I1:zF X N' σ H {s with heap:=h'}:=I.turned (t':=s.toks) (λb o hb e=>(sb.2 b hb).trans e) f0 f1 f3 f4 f5;obtain⟨o,e,c,d⟩:=id U';exact⟨u,Z,UJ (s:={s with heap:=h'}) e c d (by decide) ⟨x,H,I1,ru,⟨Z,λys hy=>by rw[I.tuple_inj hy hq];exact hx⟩,U',λb hb=>(hf b hb).1⟩⟩
 done:=by
  intro X hP hw hK hc i N' s σ H E I hf st hg;subst hP hw hK;obtain⟨xs,hq,hx⟩:=hg;obtain⟨its,rv,p,hz⟩:=I.tuple hq;obtain⟨f0,f1,f2,f3,f4,f5⟩:=hf it (by simp);have hl:=rv.length;exact wpAny_pyNext_tuple_end (I.ok.hd hc) st (show s.heap.IsTuple a its.toArray from p) (by simp;omega) λh' eb=>⟨Z,I.turned (t':=s.toks) (λb o hb e=>eb b o hb e) f0 f1 f3 f4 f5⟩
 self:=λ_ _ _ _ _ st h=>wpAny_pyIter_tupleiter st h
theorem Xl {K:BFr}(it:aj)(lo:Int)(n:Nat):Uj P w K tg (N6 lo n) [it] it (λi h=>IsRangeIter h it (lo+(i:Nat)*1) ((n:Int)-(i:Nat)) 1) where
 mem:=by simp
 obj:=λi h st b hb=>by
  have e:b=it:=by simpa using hb
  subst e
  exact⟨_,st,λv z=>by
   have z':Data.fields _=Data.cell v:=z
   cases z'⟩
 keep:=λi h h' st k=>k it (by simp) _ st
 item:=by
  intro X hP hw hK hc i N' s σ H E I hf st hg;subst hP hw hK;obtain⟨f0,f1,f2,f3,f4,f5⟩:=hf it (by simp);have W:=Walks.range (prog:=X.prog) (w:=X.w) (I.ok.hd hc) it lo 1 n;refine W.item i s _ _ hg st λv h' tk hv U' kk=>?_;obtain⟨t,rfl⟩:=hv;have I1:zF X N' σ H {s with heap:=h',toks:=tk}:=I.turned (λb o hb e=>kk b o (by simpa using hb) e) f0 f1 f3 f4 f5;refine⟨_,Z,UJ (s:={s with heap:=h',toks:=tk}) (n:="range_iterator") U' rfl rfl (by decide) ⟨.int (lo+i),H,I1,⟨t,?_⟩,⟨Z,Z⟩,U',λb hb=>(hf b hb).1⟩⟩;rw[Int.mul_one]
 done:=by
  intro X hP hw hK hc i N' s σ H E I hf st hg;subst hP hw hK;obtain⟨f0,f1,f2,f3,f4,f5⟩:=hf it (by simp);exact wpAny_pyNext_range_end (I.ok.hd hc) st (by have:n<=i:=hg;lia) λh' eb=>⟨Z,I.turned (t':=s.toks) (λb o hb e=>eb b o hb e) f0 f1 f3 f4 f5⟩
 self:=λ_ _ _ _ _ st h=>wpAny_pyIter_rangeiter st h
variable {tl:L2.TE}
section
def jb (K:BFr)(tl:TE):TI:=λσ H R=>tl σ H λx H1=>∃a,x=.ref a/\(∃xs,zL K H1 a xs)/\R (rN K a) H1
def Rw (K:BFr)(tl:TE):TI:=λσ H R=>tl σ H λx H1=>∃a,x=.ref a/\(∃xs,yT K H1 a xs)/\R (RO K a) H1
theorem qh {l:aK}(hl:PE X l tl):PI X tg l (jb X.K tl):=by
 intro N' s σ H R I h;refine qC (hl N' s σ H _ I h) λv s1 hM=>?_;obtain⟨x,H1,I1,r1,q1⟩:=hM;obtain⟨a,e,⟨xs,hq⟩,q⟩:=q1;subst e;cases r1;obtain⟨its,rv,p,hz⟩:=I1.list hq;refine sr p.isList ?_;refine⟨s1.heap.objs.size,[s1.heap.objs.size],_,_,H1,Z,I1.kept (t':=s1.toks) λb o e=>CN _ e,oZ a _,⟨_,dj _ Z,Z,Z⟩,λb hb=>?_,q⟩;have e:b=s1.heap.objs.size:=by simpa using hb
 subst e;exact I1.fpOk (Cz _) (I1.hok.fresh (Cz _))
theorem Z8 {l:aK}(hl:PE X l tl):PI X tg l (Rw X.K tl):=by
 intro N' s σ H R I h;refine qC (hl N' s σ H _ I h) λv s1 hM=>?_;obtain⟨x,H1,I1,r1,q1⟩:=hM;obtain⟨a,e,⟨xs,hq⟩,q⟩:=q1;subst e;cases r1;obtain⟨its,rv,p,hz⟩:=I1.tuple hq;refine IG (show s1.heap.IsTuple a its.toArray from p) ?_;refine⟨s1.heap.objs.size,[s1.heap.objs.size],_,_,H1,Z,I1.kept (t':=s1.toks) λb o e=>CN _ e,Xv a _,⟨_,dj _ Z,Z,Z⟩,λb hb=>?_,q⟩;have e:b=s1.heap.objs.size:=by simpa using hb
 subst e;exact I1.fpOk (Cz _) (I1.hok.fresh (Cz _))
theorem Px {R:It->Hp->Prop}{lo hi:Int}{t u v:Iw}{tk:Nat}(I:zF X N' σ H s)(h1:-(2 ^ 62)<=lo)(h2:lo<2 ^ 62)(h3:-(2 ^ 62)<=hi)(h4:hi<2 ^ 62)(q:R (N6 lo (hi-lo).toNat) H):wpAny (az X.prog X.w) X.A (KJ (.ref s.heap.objs.size)) (Cb X N' σ tg R) E {s with heap:=s.heap.push {cls:=.type "range",data:=.fields #[.int lo t,.int hi u,.int 1 v]},toks:=tk}:=by
 refine wpAny_pyIter_range (IsRange.new ..) (small_one h1 h2 h3 h4) ?_;have I1:zF X N' σ H {s with heap:=s.heap.push {cls:=.type "range",data:=.fields #[.int lo t,.int hi u,.int 1 v]},toks:=tk}:=I.kept λb o e=>CN _ e
 refine⟨(s.heap.push {cls:=.type "range",data:=.fields #[.int lo t,.int hi u,.int 1 v]}).objs.size,[(s.heap.push {cls:=.type "range",data:=.fields #[.int lo t,.int hi u,.int 1 v]}).objs.size],_,_,H,Z,
  I1.kept (t':=tk) λb o e=>CN _ e,Xl _ lo (hi-lo).toNat,?_,λb hb=>?_,q⟩
 ·have e1:lo+((0:Nat):Int)*1=lo:=by simp
  have e2:(((hi-lo).toNat:Nat):Int)-((0:Nat):Int)=Builtin.Range.rangeSize lo hi 1:=by rw[rangeSize_one];split<;>lia
  show IsRangeIter _ _ (lo+((0:Nat):Int)*1) ((((hi-lo).toNat:Nat):Int)-((0:Nat):Int)) 1;rw[e1,e2];exact dj _ rfl
 ·have e:b=(s.heap.push {cls:=.type "range",data:=.fields #[.int lo t,.int hi u,.int 1 v]}).objs.size:=by simpa using hb
  subst e;exact I1.fpOk (Cz _) (I1.hok.fresh (Cz _))
def WB (ta:TA):TI:=λσ H R=>ta σ H λvs H1=>∃j:Int,vs=[.int j]/\-(2 ^ 62)<=j/\j<2 ^ 62/\R (N6 0 j.toNat) H1
theorem vt {a:aK}{p pos:iS}(hg:Gl X "range")(hm:X.mg "range" = none)(ha:PA X [a] ta)(hs:aE [a] X.env=[(false,eval a X.env)]:=by rfl):PI X tg (.Call (.Name "range" p) [a] [] pos) (WB ta):=by
 intro N' s σ H R I h;refine T_ (ud I hg hm boot_range (hV (qC (ha pos N' s σ H _ I h) λus s1 hM=>?_) hs Z));obtain⟨vs,H1,I1,r1,q1⟩:=hM;obtain⟨j,e,q1,q2,q⟩:=q1;subst e
 cases r1 with
 |cons r rr=>
  cases rr;obtain⟨t,rfl⟩:=r;exact call_range_1 (Px I1 (by lia) (by lia) q1 q2 (by simpa using q))
def BS (wi:TI)(g:TG)(tb:TS):TS:=λD σ H=>wi σ H λJ H1=>∃W:Nat->Nat->St->Hp->Prop,(∃m,W 0 m σ H1)/\∀i m σ H,W i m σ H ->
 (J.stop i H/\D.nx σ H)∨(J.go i H/\∃N:St->Hp->Prop,(∀σ' H',N σ' H'->∃m',m'<m/\W (i+1) m' σ' H')/\∀x H',J.yld i H x H'->g x σ H' λσ2 H2=>tb {D with nx:=N,ct:=N,bk:=D.nx} σ2 H2)
def vx (fp:List aj)(h:ia):List (aj×iN):=fp.filterMap λb=>(h.get? b).map λo=>(b,o)
theorem yV (hb:b∈fp)(e:h.get? b=some o):(b,o)∈vx fp h:=fk.mpr ⟨b,hb,by rw[e];rfl⟩
theorem Vc {p:aj×iN}(hp:p∈vx fp h):p.1∈fp/\h.get? p.1=some p.2:=by
 obtain⟨b,hb,e⟩:=fk.mp hp
 cases q:h.get? b with
 |none=>rw[q]at e;cases e
 |some o=>
  rw[q]at e;have e':(b,o)=p:=ai e;subst e';exact⟨hb,q⟩
theorem zF.pinned (I:zF X N' σ H s)(hf:∀b∈fp,yj X N' H b)(ho:∀b∈fp,∃o,s.heap.get? b=some o/\∀v,o.data≠.cell v):zF X (N'++vx fp s.heap) σ H s :=
 I.pins_of λp hp=>(CU.mp hp).elim (λz=>I.pin p (dm _ z)) λz=>by
  obtain⟨hb,e⟩:=Vc z;obtain⟨f0,f1,f2,_⟩:=hf p.1 hb;obtain⟨o,e',d⟩:=ho p.1 hb;rw[e]at e';cases e';exact⟨e,f0,f1,f2,d⟩
theorem zF.unpinned {pl:List (aj×iN)}(I:zF X (N'++pl) σ H s):zF X N' σ H s:=I.pins_of λp hp=>I.pin p (dm _ (dX _ hp))
theorem jC {g:TG}{pos:iS}(hp:PassesOwn (az X.prog X.w) X.A X.env X.xe)(hc:X.calm=true)(hi:PI X tg iter wi)(hg:PG X tg g)(hb:jg X body tb)(hs:∀x,i7 iter X.env x=pure x:=by intro _;rfl):PS X (.For tg iter body [] pos) (BS wi g tb):=by
 intro N' s σ H D I h;refine wpAny_For (qC (hi N' s σ H _ I h) λv s1 h1=>qC h1 λitv s2 h2=>?_) hs;obtain⟨it,fp,tn,J,H2,e,I2,T,ε,f2,W,⟨m0,w0⟩,turn⟩:=h2;subst e;have stat:∀{H':Hp},(∀b∈fp,H' b=none)->∀b∈fp,yj X N' H' b:=λhn b hb=>⟨hn b hb,(f2 b hb).2⟩;refine codeAny_forLoop_any (λn s'=>∃i σ' H',zF X N' σ' H' s'/\tn i s'.heap/\(∀b∈fp,H' b=none)/\W i n σ' H') ?_ m0 ⟨0,σ,H2,I2,ε,λb hb=>(f2 b hb).1,w0⟩;rintro n s3 ⟨i,σ3,H3,I3,st3,fr3,w3⟩;rcases turn i n σ3 H3 w3 with⟨stop,qn⟩ |⟨go,N,hN,step⟩
 ·refine r_ hp (qC (T.done X Z Z Z hc i N' s3 σ3 H3 X.xe I3 (stat fr3) st3 stop) λr s4 hM=>?_);obtain⟨hr,I4⟩:=hM;subst hr;exact sO ⟨σ3,H3,I4,qn⟩
 ·refine r_ hp (qC (T.item X Z Z Z hc i N' s3 σ3 H3 X.xe I3 (stat fr3) st3 go) λr s4 hM=>?_);obtain⟨u,hr,h4⟩:=hM;subst hr;refine r_ hp (qC h4 λ_ s5 hM=>?_);obtain⟨x,H5,I5,r5,y5,st5,fr5⟩:=hM;have I5':=I5.pinned (stat fr5) (T.obj _ _ st5);refine r_ hp (qC (hg _ s5 σ3 H5 x u _ I5' r5 (step x H5 y5)) λ_ s6 hM=>?_);obtain⟨σ6,H6,I6,q6⟩:=hM;refine r_ hp (qC (hb _ s6 σ6 H6 _ I6 q6) λf s7 q7=>?_)
  have again:∀{σ7:St} {H7:Hp},zF X (N'++vx fp s5.heap) σ7 H7 s7->N σ7 H7->∃m,m<n/\∃i σ' H',zF X N' σ' H' s7/\tn i s7.heap/\(∀b∈fp,H' b=none)/\W i m σ' H':=λ{σ7 H7} I7 n7=>by
   obtain⟨m',hm,w7⟩:=hN σ7 H7 n7;refine⟨m',hm,i+1,σ7,H7,I7.unpinned,T.keep _ _ _ st5 λb hb o e=>(I7.pin (b,o) (dm _ (dm _ (yV hb e)))).1,λb hb=>?_,w7⟩;obtain⟨o,e,d⟩:=T.obj _ _ st5 b hb;exact(I7.pin (b,o) (dm _ (dm _ (yV hb e)))).2.1
  cases f with
  |next=>obtain⟨σ7,H7,I7,n7⟩:=q7;exact again I7 n7
  |cont=>obtain⟨σ7,H7,I7,n7⟩:=q7;exact again I7 n7
  |brk=>obtain⟨σ7,H7,I7,q7⟩:=q7;exact⟨σ7,H7,I7.unpinned,q7⟩
  |ret v=>obtain⟨x7,σ7,H7,I7,r7,q7⟩:=q7;exact⟨x7,σ7,H7,I7.unpinned,r7,q7⟩
end
theorem Zu {K:BFr}{g:TG}{D:jY}(Pv:Nat->St->Hp->Prop)(h0:Pv 0 σ H)(hl:∀i σ H,i<=xs.length->Pv i σ H->zL K H a xs)(hs:∀i x σ H,xs[i]?=some x->Pv i σ H->g x σ H λσ2 H2=>tb {D with nx:=Pv (i+1),ct:=Pv (i+1),bk:=D.nx} σ2 H2)(hd:∀σ H,Pv xs.length σ H->D.nx σ H):
  ∃W:Nat->Nat->St->Hp->Prop,(∃m,W 0 m σ H)/\∀i m σ H,W i m σ H ->
   ((rN K a).stop i H/\D.nx σ H)∨((rN K a).go i H/\∃N:St->Hp->Prop,(∀σ' H',N σ' H'->∃m',m'<m/\W (i+1) m' σ' H')/\∀x H',(rN K a).yld i H x H'->g x σ H' λσ2 H2=>tb {D with nx:=N,ct:=N,bk:=D.nx} σ2 H2):=by
 refine⟨λi m σ H=>m=xs.length-i/\i<=xs.length/\Pv i σ H,⟨xs.length,by simp,CP _,h0⟩,?_⟩;rintro i m σ H ⟨rfl,hi,p⟩;have q:=hl i σ H hi p
 by_cases γ:i<xs.length
 ·refine .inr ⟨⟨xs,xs[i],q,by simp[γ]⟩,Pv (i+1),λσ' H' p'=>⟨xs.length-(i+1),by lia,Z,γ,p'⟩,λx H' y=>?_⟩;obtain⟨e,y⟩:=y;subst e;exact hs i x σ _ (y xs q) p
 ·have e:i=xs.length:=by lia
  subst e;exact .inl ⟨⟨xs,q,Cz _⟩,hd σ H p⟩
theorem GA {K:BFr}{g:TG}{D:jY}(Pv:Nat->St->Hp->Prop)(h0:Pv 0 σ H)(hl:∀i σ H,i<=xs.length->Pv i σ H->yT K H a xs)(hs:∀i x σ H,xs[i]?=some x->Pv i σ H->g x σ H λσ2 H2=>tb {D with nx:=Pv (i+1),ct:=Pv (i+1),bk:=D.nx} σ2 H2)(hd:∀σ H,Pv xs.length σ H->D.nx σ H):
  ∃W:Nat->Nat->St->Hp->Prop,(∃m,W 0 m σ H)/\∀i m σ H,W i m σ H ->
   ((RO K a).stop i H/\D.nx σ H)∨((RO K a).go i H/\∃N:St->Hp->Prop,(∀σ' H',N σ' H'->∃m',m'<m/\W (i+1) m' σ' H')/\∀x H',(RO K a).yld i H x H'->g x σ H' λσ2 H2=>tb {D with nx:=N,ct:=N,bk:=D.nx} σ2 H2):=by
 refine⟨λi m σ H=>m=xs.length-i/\i<=xs.length/\Pv i σ H,⟨xs.length,by simp,CP _,h0⟩,?_⟩;rintro i m σ H ⟨rfl,hi,p⟩;have q:=hl i σ H hi p
 by_cases γ:i<xs.length
 ·refine .inr ⟨⟨xs,xs[i],q,by simp[γ]⟩,Pv (i+1),λσ' H' p'=>⟨xs.length-(i+1),by omega,Z,γ,p'⟩,λx H' y=>?_⟩;obtain⟨e,y⟩:=y;subst e;exact hs i x σ _ (y xs q) p
 ·have e:i=xs.length:=by omega
  subst e;exact .inl ⟨⟨xs,q,Cz _⟩,hd σ H p⟩
theorem OU {lo:Int}{g:TG}{D:jY}(Pv:Nat->St->Hp->Prop)(h0:Pv 0 σ H)(hs:∀i σ H,i<n->Pv i σ H->g (.int (lo+i)) σ H λσ2 H2=>tb {D with nx:=Pv (i+1),ct:=Pv (i+1),bk:=D.nx} σ2 H2)(hd:∀σ H,Pv n σ H->D.nx σ H):
  ∃W:Nat->Nat->St->Hp->Prop,(∃m,W 0 m σ H)/\∀i m σ H,W i m σ H ->
   ((N6 lo n).stop i H/\D.nx σ H)∨((N6 lo n).go i H/\∃N:St->Hp->Prop,(∀σ' H',N σ' H'->∃m',m'<m/\W (i+1) m' σ' H')/\∀x H',(N6 lo n).yld i H x H'->g x σ H' λσ2 H2=>tb {D with nx:=N,ct:=N,bk:=D.nx} σ2 H2):=by
 refine⟨λi m σ H=>m=n-i/\i<=n/\Pv i σ H,⟨n,by simp,CP _,h0⟩,?_⟩;rintro i m σ H ⟨rfl,hi,p⟩
 by_cases γ:i<n
 ·refine .inr ⟨γ,Pv (i+1),λσ' H' p'=>⟨n-(i+1),by lia,Z,γ,p'⟩,λx H' y=>?_⟩;obtain⟨e,y⟩:=y;subst e y;exact hs i σ _ γ p
 ·have e:i=n:=by lia
  subst e;exact .inl ⟨Cz _,hd σ H p⟩
abbrev R2:=V->V->Hp->VK->Prop
def uW (X:Cx)(f:ae->ae->Sem ae)(r:R2):Prop :=
 ∀(N':List (aj×iN)) (s:av) (σ:St) (H:Hp) (x y:V) (v u:ae) (Q:VK),zF X N' σ H s->qr x v->qr y u->r x y H Q ->
  wpAny (az X.prog X.w) X.A (f v u) (EP X N' σ Q) X.xe s
def cC (X:Cx)(f:ae->Sem ae)(r:V->Hp->VK->Prop):Prop :=
 ∀(N':List (aj×iN)) (s:av) (σ:St) (H:Hp) (x:V) (v:ae) (Q:VK),zF X N' σ H s->qr x v->r x H Q ->
  wpAny (az X.prog X.w) X.A (f v) (EP X N' σ Q) X.xe s
def jL (X:Cx)(f:ae)(r:List V->Hp->VK->Prop):Prop :=
 ∀(N':List (aj×iN)) (s:av) (σ:St) (H:Hp) (xs:List V) (us:List ae) (Q:VK),zF X N' σ H s->zZ xs us->r xs H Q ->
  wpAny (az X.prog X.w) X.A (call f us) (EP X N' σ Q) X.xe s
def jA (r:R2)(ta tb:TE):TE:=λσ H Q=>ta σ H λx H1=>tb σ H1 λy H2=>r x y H2 Q
def Ci (r:V->Hp->VK->Prop)(ta:TE):TE:=λσ H Q=>ta σ H λx H1=>r x H1 Q
def rI (C:Int->Int->Prop)(g:Int->Int->V):R2:=λx y H Q=>∃i j,x=.int i/\y=.int j/\C i j/\Q (g i j) H
def X3 (g:Int->Int->V):R2:=λx y H Q=>∃i j,x=.int i/\y=.int j/\Q (g i j) H
def rU (g:Int->V):V->Hp->VK->Prop:=λx H Q=>∃i,x=.int i/\Q (g i) H
section
variable {a b c:aK}{ta tb tc:TE}{pos:iS}
theorem RA (ha:PE X a ta)(hb:PE X b tb){R:V->V->Hp->Prop}(I:zF X N' σ H s)(h:ta σ H λx H1=>tb σ H1 λy H2=>R x y H2){f:ae->ae->Sem ae}
  (hf:∀v u s2 x y H2,zF X N' σ H2 s2->qr x v->qr y u->R x y H2->wpAny (az X.prog X.w) X.A (f v u) Q X.xe s2) :
  wpAny (az X.prog X.w) X.A (eval a X.env) (λv s₁=>wpAny (az X.prog X.w) X.A (eval b X.env) (λu s₂=>wpAny (az X.prog X.w) X.A (f v u) Q X.xe s₂) X.xe s₁) X.xe s:=by
 refine qC (ha N' s σ H _ I h) λv s1 hM=>?_;obtain⟨x,H1,I1,r1,q1⟩:=hM;refine qC (hb N' s1 σ H1 _ I1 q1) λu s2 hM=>?_;obtain⟨y,H2,I2,r2,q2⟩:=hM;exact hf v u s2 x y H2 I2 r1 r2 q2
theorem zm {op:Operator}{r:R2}(ho:uW X (su op) r)(ha:PE X a ta)(hb:PE X b tb):PE X (.BinOp a op b pos) (jA r ta tb):=by
 intro N' s σ H Q I h;exact wpAny_BinOp (RA ha hb I h λv u s2 x y H2 I2 rx ry q=>ho N' s2 σ H2 x y v u Q I2 rx ry q)
theorem yL {op:UnaryOp}{r:V->Hp->VK->Prop}(ho:cC X (unaryOp op) r)(ha:PE X a ta):PE X (.UnaryOp op a pos) (Ci r ta):=by
 intro N' s σ H Q I h;exact UnaryOp_ (qC (ha N' s σ H _ I h) λv s1 hM=>by obtain⟨x,H1,I1,r1,q1⟩:=hM;exact ho N' s1 σ H1 x v Q I1 r1 q1)
theorem bF {f:ae->ae->Sem ae}{C:Int->Int->Prop}{g:Int->Int->Int}
  (rule:∀(i j:Int) (t u:Iw) (s:av) (Q:ae->av->Prop) (E:ae->av->Prop),C i j->Q (.int (g i j) s.toks) {s with toks:=s.toks+1}->wpAny (az X.prog X.w) X.A (f (.int i t) (.int j u)) Q E s) :
  uW X f (rI C λi j=>.int (g i j)):=by
 intro N' s σ H x y v u Q I rx ry h;obtain⟨i,j,rfl,rfl,hc,q⟩:=h;obtain⟨t,rfl⟩:=rx;obtain⟨t',rfl⟩:=ry;exact rule i j t t' s _ _ hc ⟨.int (g i j),H,I.tok _,⟨_,Z⟩,q⟩
theorem Bn {f:ae->ae->Sem ae}{g:Int->Int->Int}
  (rule:∀(i j:Int) (t u:Iw) (s:av) (Q:ae->av->Prop) (E:ae->av->Prop),Q (.int (g i j) s.toks) {s with toks:=s.toks+1}->wpAny (az X.prog X.w) X.A (f (.int i t) (.int j u)) Q E s) :
  uW X f (X3 λi j=>.int (g i j)):=by
 intro N' s σ H x y v u Q I rx ry h;obtain⟨i,j,rfl,rfl,q⟩:=h;obtain⟨t,rfl⟩:=rx;obtain⟨t',rfl⟩:=ry;exact rule i j t t' s _ _ ⟨.int (g i j),H,I.tok _,⟨_,Z⟩,q⟩
theorem NO {f:ae->ae->Sem ae}{g:Int->Int->Bool}
  (rule:∀(i j:Int) (t u:Iw) (s:av) (Q:ae->av->Prop) (E:ae->av->Prop),Q (.bool (g i j)) s->wpAny (az X.prog X.w) X.A (f (.int i t) (.int j u)) Q E s) :
  uW X f (X3 λi j=>.bl (g i j)):=by
 intro N' s σ H x y v u Q I rx ry h;obtain⟨i,j,rfl,rfl,q⟩:=h;obtain⟨t,rfl⟩:=rx;obtain⟨t',rfl⟩:=ry;exact rule i j t t' s _ _ ⟨.bl (g i j),H,I,Z,q⟩
def rY (i j:Int):Prop:=0<j/\j<1073741824
def cw (i j:Int):Prop:=0<=j/\j<=1000000/\i.natAbs<2 ^ 64
def Gd (i j:Int):Prop:=(-(2 ^ 64)<i/\i<2 ^ 64)∨(-(2 ^ 64)<j/\j<2 ^ 64)
theorem Gd.ok {i j:Int}(h:Gd i j):IntMulOk i j:=by
 rcases h with⟨h1,h2⟩ |⟨h1,h2⟩
 ·exact .of_left (intBits_le_64 h1 h2)
 ·exact .of_right (intBits_le_64 h1 h2)
theorem qu:uW X (su .Add) (X3 λi j=>.int (i+j)):=Bn λ_ _ _ _ _ _ _ q=>add_int q
theorem kJ:uW X (su .Sub) (X3 λi j=>.int (i-j)):=Bn λ_ _ _ _ _ _ _ q=>sub_int q
theorem yp:uW X (su .Mult) (rI Gd λi j=>.int (i*j)):=bF λ_ _ _ _ _ _ _ hc q=>mul_int q hc.ok
theorem q8:uW X (su .FloorDiv) (rI rY λi j=>.int (i/j)):=bF λi j _ _ _ _ _ hc q=>by
 have h1:(0:Int)<j:=hc.1;have h2:j<1073741824:=hc.2;exact floordiv_int (by lia) (by rw[f9 i (by lia)];exact q) (.inl (PyProof.noPylong_small (by lia)))
theorem qg:uW X (su .Mod) (rI (λ_ j=>0<j) λi j=>.int (i%j)):=bF λi j _ _ _ _ _ hc q=>by
 have h1:(0:Int)<j:=hc;exact mod_int' (by lia) (by rw[Int.fmod_eq_emod_of_nonneg i (by lia)];exact q)
theorem Rt:uW X (su .Pow) (rI cw λi j=>.int (i ^ j.toNat)):=bF λ_ _ _ _ _ _ _ hc q=>pow_int_small hc.1 hc.2.1 hc.2.2 q
theorem Cm {f:ae->Sem ae}{g:Int->Int}
  (rule:∀(i:Int) (t:Iw) (s:av) (Q:ae->av->Prop) (E:ae->av->Prop),Q (.int (g i) s.toks) {s with toks:=s.toks+1}->wpAny (az X.prog X.w) X.A (f (.int i t)) Q E s) :
  cC X f (rU λi=>.int (g i)):=by
 intro N' s σ H x v Q I rx h;obtain⟨i,rfl,q⟩:=h;obtain⟨t,rfl⟩:=rx;exact rule i t s _ _ ⟨.int (g i),H,I.tok _,⟨_,Z⟩,q⟩
theorem qV:cC X (unaryOp .USub) (rU λi=>.int (-i)):=Cm λ_ _ _ _ _ q=>neg_int q
end
def bM:V->V->Bool
 |.non,.non=>true |.non,.int _=>true |.int _,.non=>true |.non,.bl _=>true |.bl _,.non=>true |.non,.str _=>true |.str _,.non=>true
 |.int _,.int _=>true |.bl _,.bl _=>true |.str _,.str _=>true |.byt _,.byt _=>true
 |.int _,.str _=>true |.str _,.int _=>true |.bl _,.str _=>true |.str _,.bl _=>true
 |_,_=>false
def B2:R2:=λx y H Q=>bM x y=true/\Q (.bl (decide (x=y))) H
def bA:R2:=λx y H Q=>bM x y=true/\Q (.bl (!decide (x=y))) H
theorem GT {i j:Int}:decide (V.int i=V.int j)=(i==j):=by
 rw[Dr]
 simp
theorem Pu {i j:Bool}:decide (V.bl i=V.bl j)=(i==j):=by
 rw[Dr]
 simp
theorem GE {i j:af}:decide (V.str i=V.str j)=(i==j):=by
 rw[Dr]
 simp
theorem oI {i j:Array UInt8}:decide (V.byt i=V.byt j)=(i.toList==j.toList):=by
 rw[Dr];cases i;cases j
 simp
section
variable {a b c:aK}{ta tb tc:TE}{pos:iS}
theorem qy {Q:VK}{k k':Bool}(I:zF X N' σ H s)(q:Q (.bl k) H)(e:k=k'):EP X N' σ Q (.bool k') s:=by
 subst e;exact⟨.bl k,H,I,Z,q⟩
theorem y6:uW X (ir .Eq) B2:=by
 intro N' s σ H x y v u Q I rx ry h;obtain⟨hs,q⟩:=h
 cases x with
 |non=>
  cases rx
  cases y with
  |non=>cases ry;exact PySem.EqNone.eq_none_none (qy I q (by simp))
  |bl j=>cases ry;exact PySem.EqNone.eq_none_bool (qy I q (by simp))
  |int j=>obtain⟨t',rfl⟩:=ry;exact PySem.EqNone.eq_none_int (qy I q (by simp))
  |str j=>obtain⟨t',rfl⟩:=ry;exact PySem.EqNone.eq_none_str (qy I q (by simp))
  |_=>exact M' (show false=true from hs) CZ
 |bl i=>
  cases rx
  cases y with
  |non=>cases ry;exact PySem.EqNone.eq_bool_none (qy I q (by simp))
  |bl j=>cases ry;exact eq_bool (qy I q Pu)
  |str j=>obtain⟨t',rfl⟩:=ry;exact PySem.EqMixed.eq_bool_str (qy I q (by simp))
  |_=>exact M' (show false=true from hs) CZ
 |int i=>
  obtain⟨t,rfl⟩:=rx
  cases y with
  |non=>cases ry;exact PySem.EqNone.eq_int_none (qy I q (by simp))
  |int j=>obtain⟨t',rfl⟩:=ry;exact eq_int (qy I q GT)
  |str j=>obtain⟨t',rfl⟩:=ry;exact PySem.EqMixed.eq_int_str (qy I q (by simp))
  |_=>exact M' (show false=true from hs) CZ
 |str i=>
  obtain⟨t,rfl⟩:=rx
  cases y with
  |non=>cases ry;exact PySem.EqNone.eq_str_none (qy I q (by simp))
  |bl j=>cases ry;exact PySem.EqMixed.eq_str_bool (qy I q (by simp))
  |int j=>obtain⟨t',rfl⟩:=ry;exact PySem.EqMixed.eq_str_int (qy I q (by simp))
  |str j=>obtain⟨t',rfl⟩:=ry;exact eq_str (qy I q GE)
  |_=>exact M' (show false=true from hs) CZ
 |byt i=>
  obtain⟨t,rfl⟩:=rx
  cases y with
  |byt j=>obtain⟨t',rfl⟩:=ry;exact PySem.W.eq_bytes (qy I q oI)
  |_=>exact M' (show false=true from hs) CZ
 |_=>cases y<;>exact M' (show false=true from hs) CZ
theorem v8:uW X (ir .NotEq) bA:=by
 intro N' s σ H x y v u Q I rx ry h;obtain⟨hs,q⟩:=h
 cases x with
 |non=>
  cases rx
  cases y with
  |non=>cases ry;exact PySem.EqNone.ne_none_none (qy I q (by simp))
  |bl j=>cases ry;exact PySem.EqNone.ne_none_bool (qy I q (by simp))
  |int j=>obtain⟨t',rfl⟩:=ry;exact PySem.EqNone.ne_none_int (qy I q (by simp))
  |str j=>obtain⟨t',rfl⟩:=ry;exact PySem.EqNone.ne_none_str (qy I q (by simp))
  |_=>exact M' (show false=true from hs) CZ
 |bl i=>
  cases rx
  cases y with
  |non=>cases ry;exact PySem.EqNone.ne_bool_none (qy I q (by simp))
  |bl j=>cases ry;exact ne_bool (qy I q (G' not Pu))
  |str j=>obtain⟨t',rfl⟩:=ry;exact PySem.EqMixed.ne_bool_str (qy I q (by simp))
  |_=>exact M' (show false=true from hs) CZ
 |int i=>
  obtain⟨t,rfl⟩:=rx
  cases y with
  |non=>cases ry;exact PySem.EqNone.ne_int_none (qy I q (by simp))
  |int j=>obtain⟨t',rfl⟩:=ry;exact ne_int (qy I q (G' not GT))
  |str j=>obtain⟨t',rfl⟩:=ry;exact PySem.EqMixed.ne_int_str (qy I q (by simp))
  |_=>exact M' (show false=true from hs) CZ
 |str i=>
  obtain⟨t,rfl⟩:=rx
  cases y with
  |non=>cases ry;exact PySem.EqNone.ne_str_none (qy I q (by simp))
  |bl j=>cases ry;exact PySem.EqMixed.ne_str_bool (qy I q (by simp))
  |int j=>obtain⟨t',rfl⟩:=ry;exact PySem.EqMixed.ne_str_int (qy I q (by simp))
  |str j=>obtain⟨t',rfl⟩:=ry;exact ne_str (qy I q (G' not GE))
  |_=>exact M' (show false=true from hs) CZ
 |byt i=>
  obtain⟨t,rfl⟩:=rx
  cases y with
  |byt j=>obtain⟨t',rfl⟩:=ry;exact PySem.W.ne_bytes (qy I q (G' not oI))
  |_=>exact M' (show false=true from hs) CZ
 |_=>cases y<;>exact M' (show false=true from hs) CZ
theorem Zv:uW X (ir .Lt) (X3 λi j=>.bl (decide (i<j))):=NO λ_ _ _ _ _ _ _ q=>lt_int q
theorem xk:uW X (ir .LtE) (X3 λi j=>.bl (decide (i<=j))):=NO λ_ _ _ _ _ _ _ q=>le_int q
theorem kG:uW X (ir .Gt) (X3 λi j=>.bl (decide (j<i))):=NO λ_ _ _ _ _ _ _ q=>gt_int q
theorem bQ:uW X (ir .GtE) (X3 λi j=>.bl (decide (j<=i))):=NO λ_ _ _ _ _ _ _ q=>ge_int q
theorem Ve:uW X (ir .In) (λx y H Q=>∃i j,x=.str i/\y=.str j/\Q (.bl (!(aN j i 0 j.length 1).isEmpty)) H):=by
 intro N' s σ H x y v u Q I rx ry h;obtain⟨i,j,rfl,rfl,q⟩:=h;obtain⟨t,rfl⟩:=rx;obtain⟨t',rfl⟩:=ry;exact in_str (qy I q Z)
theorem Ur:uW X (ir .Is) (λx y H Q=>y=.non/\Q (.bl (decide (x=.non))) H):=by
 intro N' s σ H x y v u Q I rx ry h;obtain⟨rfl,q⟩:=h;cases ry;refine is_none_gen (qy I q ?_)
 cases x<;>first
  | (cases rx;rfl)
  | (obtain⟨t,rfl⟩:=rx;rfl)
theorem nB:uW X (ir .IsNot) (λx y H Q=>y=.non/\Q (.bl (!decide (x=.non))) H):=by
 intro N' s σ H x y v u Q I rx ry h;obtain⟨rfl,q⟩:=h;cases ry;refine isnot_none_gen (qy I q ?_)
 cases x<;>first
  | (cases rx;rfl)
  | (obtain⟨t,rfl⟩:=rx;rfl)
theorem Zx:uW X (ir .NotIn) (λx y H Q=>∃i j,x=.str i/\y=.str j/\Q (.bl (!(!(aN j i 0 j.length 1).isEmpty))) H):=by
 intro N' s σ H x y v u Q I rx ry h;obtain⟨i,j,rfl,rfl,q⟩:=h;obtain⟨t,rfl⟩:=rx;obtain⟨t',rfl⟩:=ry;exact notIn_str (qy I q Z)
theorem zI (b:aK)(h:op≠.In:=by decide)(h2:op≠.NotIn:=by decide):Aa op b=false:=by
 have e1:(op==CmpOp.In)=false:=by cases op<;>first |rfl |exact M' rfl h
 have e2:(op==CmpOp.NotIn)=false:=by cases op<;>first |rfl |exact M' rfl h2
 cases b<;>simp[Aa,e1,e2]
theorem yn {r:R2}(ho:uW X (ir op) r)(ha:PE X a ta)(hb:PE X b tb)(hm:Aa op b=false):PE X (.Compare a [op] [b] pos) (jA r ta tb):=by
 intro N' s σ H Q I h;exact wpAny_Compare1 (RA ha hb I h λv u s2 x y H2 I2 rx ry q=>ho N' s2 σ H2 x y v u Q I2 rx ry q) hm
def uE (t:TE):TT:=λσ H Q=>t σ H λx H'=>∃k,x=.bl k/\Q k H'
theorem zD {r:R2}(ho:uW X (ir op) r)(ha:PE X a ta)(hb:PE X b tb)(hm:Aa op b=false):PT X (.Compare a [op] [b] pos) (uE (jA r ta tb)):=by
 intro N' s σ H Q I h;refine AL (qC (ha N' s σ H _ I h) λv s1 hM=>?_) hm;obtain⟨x,H1,I1,r1,q1⟩:=hM;refine qC (hb N' s1 σ H1 _ I1 q1) λu s2 hM=>?_;obtain⟨y,H2,I2,r2,q2⟩:=hM;refine qC (ho N' s2 σ H2 x y v u _ I2 r1 r2 q2) λc s3 hM=>?_;obtain⟨z,H3,I3,r3,k,e,q3⟩:=hM;subst e;cases r3;exact ib ⟨H3,I3,q3⟩
def tU (r r':R2)(ta tb tc:TE):TE:=λσ H Q=>ta σ H λx H1=>tb σ H1 λy H2=>r x y H2 λz H3=>∃k,z=.bl k /\
 (if k=true then tc σ H3 λw' H4=>r' y w' H4 Q else Q (.bl false) H3)
theorem Ln {op':CmpOp}{r r':R2}(ho:uW X (ir op) r)(ho':uW X (ir op') r')(ha:PE X a ta)(hb:PE X b tb)(hc:PE X c tc)(hm:lastMarks [op,op'] [b,c]=false:=by with_unfolding_all rfl):PT X (.Compare a [op,op'] [b,c] pos) (uE (tU r r' ta tb tc)):=by
 intro N' s σ H Q I h;refine isTrue_chain (qC (ha N' s σ H _ I h) λv s1 hM=>?_) hm;obtain⟨x,H1,I1,r1,q1⟩:=hM;refine test_link (qC (hb N' s1 σ H1 _ I1 q1) λu s2 hM=>?_);obtain⟨y,H2,I2,r2,q2⟩:=hM;refine qC (ho N' s2 σ H2 x y v u _ I2 r1 r2 q2) λd s3 hM=>?_;obtain⟨z,H3,I3,r3,k,e,q3⟩:=hM;subst e;cases r3;refine ib ?_
 cases k with
 |false=>
  obtain⟨k',e',q'⟩:=q3
  cases e'
  exact ite_ff ⟨H3,I3,q'⟩
 |true=>
  refine ite_tt (test_last (qC (hc N' s3 σ H3 _ I3 q3) λw' s4 hM=>?_));obtain⟨z',H4,I4,r4,q4⟩:=hM;refine qC (ho' N' s4 σ H4 y z' u w' _ I4 r2 r4 q4) λd' s5 hM=>?_;obtain⟨z2,H5,I5,r5,k2,e2,q5⟩:=hM;subst e2;cases r5;exact ib ⟨H5,I5,q5⟩
theorem wJ:(ar:Nat)<2 ^ 63:=by rw[ah];decide
theorem zS:uW X (su .Add) (λx y H Q=>∃i j,x=.str i/\y=.str j/\i.length+j.length<=ar/\Q (.str (i++j)) H):=by
 intro N' s σ H x y v u Q I rx ry h;obtain⟨i,j,rfl,rfl,hz,q⟩:=h;obtain⟨t,rfl⟩:=rx;obtain⟨t',rfl⟩:=ry;exact add_str (λt' tk=>⟨.str (i++j),H,I.tok _,⟨_,Z⟩,q⟩) hz
theorem vB {x:V}{us:List ae}(r:zZ [x] us):∃u,us=[u]/\qr x u:=by
 cases r with
 |cons r1 r2=>cases r2;exact⟨_,Z,r1⟩
theorem GP {x:V}{us:List ae}(r:zZ [x,y] us):∃u w',us=[u,w']/\qr x u/\qr y w':=by
 cases r with
 |cons r1 r2=>
  cases r2 with
  |cons r3 r4=>cases r4;exact⟨_,_,Z,r1,r3⟩
theorem Yu:jL X (.builtin "abs") (λxs H Q=>∃i,xs=[.int i]/\Q (.int (if i<0 then -i else i)) H):=by
 intro N' s σ H xs us Q I r h;obtain⟨i,rfl,q⟩:=h;obtain⟨u,rfl,t,rfl⟩:=vB r;exact call_abs_int λu tk=>⟨.int (if i<0 then -i else i),H,I.tok _,⟨_,Z⟩,q⟩
theorem jS:jL X (.type "int") (λxs H Q=>(∃i,xs=[.int i]/\Q (.int i) H)∨∃k,xs=[.bl k]/\Q (.int (if k then 1 else 0)) H):=by
 intro N' s σ H xs us Q I r h;rcases h with⟨i,rfl,q⟩ |⟨k,rfl,q⟩
 ·obtain⟨u,rfl,t,rfl⟩:=vB r;exact call_int_int ⟨.int i,H,I,⟨_,Z⟩,q⟩
 ·obtain⟨u,rfl,r1⟩:=vB r;cases r1;exact call_int_bool ⟨.int (if k then 1 else 0),H,I.tok _,⟨_,Z⟩,q⟩
theorem yr:jL X (.type "str") (λxs H Q=>∃i,xs=[.int i]/\i.natAbs.log2<1920/\Q (.str (toString i)) H):=by
 intro N' s σ H xs us Q I r h;obtain⟨i,rfl,hz,q⟩:=h;obtain⟨u,rfl,t,rfl⟩:=vB r;exact PySem.P.str_of_int hz ⟨.str _,H,I.tok _,⟨_,Z⟩,q⟩
end
structure RC (h:ia)(x dx C:aj)(mA:af->Option ae):Prop where
 obj:h.get? x=some (Hz C dx)
 ns:h.Ns1 dx mA
 ne:dx≠x
theorem pP (n:h.Ns1 dx mA):∃od,h.get? dx=some od/\∀name,Ic name od=some (mA name):=by
 obtain⟨o,es,ep,ho,hd,hk,_,hm⟩:=n;refine⟨o,ho,λname=>?_⟩;have e:=hm name;unfold nsFind findBy at e;rw[<- Array.find?_toList]at e;unfold Ic;rw[hd];dsimp only;split
 ·rename_i y q;rw[q]at e;exact G' some e
 ·rename_i q;rw[q]at e
  have a:es.toList.any (·.refKey)=false:=by
   rw[List.any_eq_false];intro y hy;obtain⟨z,t,hkey⟩:=hk y (Array.mem_toList_iff.mp hy)
   simp[DictEntry.refKey,hkey]
  have a':¬es.toList.any (·.refKey)=true:=by rw[a];exact CZ
  rw[K' a'];exact G' some e
theorem RC.look {x:aj}(I:RC h x dx C mA):∃od,SR h x (Hz C dx) C (some od)/\∀name,Ic name od=some (mA name) :=
 let ⟨od,ho,hl⟩:=pP I.ns
 ⟨od,⟨I.obj,Z,Z,ho⟩,hl⟩
section
variable {K:BFr}{x:aj}{name:af}
end
section
variable {fs fs':List (af×V)}
theorem MZ (hok:wL P w H h)(e:H a=some (.ins C dx fs)):∃mA,RC h a dx C mA/\(∀f,V3 (fs.lookup f) (mA f))/\PySem.Within mA (fs.map (·.1))/\fs.length<=1000/\H dx=some (.own a):=by
 obtain⟨d,z,ne,ob,mA,n,r,q⟩:=(show yk P w H h a (.ins C dx fs) from hok a _ e);exact⟨mA,⟨ob,n,ne⟩,r,q,z,d⟩
end
structure B8 (K:BFr)(C:aj):Prop where
 pg:KQ K C aC=true
 hd:PySem.W.hasDictIn K C=true
 po:PySem.W.plainOver K C=true
 sa:BfS K C
theorem B8.get {K:BFr}(c:B8 K C)(f:af):KQ K C f=true:=c.pg
section
variable {fs:List (af×V)}{f:af}{v:V}
end
section
variable {o:aK}{f:af}{pos:iS}{ta tv:TE}
end
section
variable {c:ae}{b:Bool}
inductive kN (K:BFr)(H:Hp):V->ae->Prop where
 |non:kN K H .non (.type "NoneType")
 |bl (x:Bool):kN K H (.bl x) (.type "bool")
 |int (i:Int):kN K H (.int i) (.type "int")
 |str (x:af):kN K H (.str x) (.type "str")
 |flt (x:UInt64):kN K H (.flt x) (.type "float")
 |lst {a:aj} {xs:List V} (e:H a=some (.lst xs)):kN K H (.ref a) (.type "list")
 |frz {a:aj} {o:iN} {xs:List V} (e:H a=some (.frz o (.lst xs))):kN K H (.ref a) (.type "list")
 |tup {a:aj} {xs:List V} (e:H a=some (.tup xs)):kN K H (.ref a) (.type "tuple")
 |dK {a:aj} {kvs:List (jB×V)} (e:H a=some (.dK kvs)):kN K H (.ref a) (.type "dict")
 |dT {a:aj} {kvs:List (List jB×V)} (e:H a=some (.dT kvs)):kN K H (.ref a) (.type "dict")
 |ins {a C dx:aj} {fs:List (af×V)} (e:H a=some (.ins C dx fs)) (cl:B8 K C) (ha:BfC K C) (hn:PySem.W.specialIn K (.builtin "object.__class__") "__get__" = some (some (.builtin "getset_descriptor.__get__"))) (htk:PySem.W.takesIn K (.builtin "object.__class__")=some true) (hm:PySem.W.mroIn K C (.type "object")=some true):kN K H (.ref a) (.ref C)
theorem Ow {x:V}{t:ae}(I:zF X N' σ H s)(rx:qr x u)(ty:kN X.K H x t)(e:aB X.K t c=some b)(h:∀tk,Q (.bool b) {s with toks:=tk}):
  wpAny (az X.prog X.w) A (call (.builtin "isinstance") [u,c]) Q E s:=by
 cases ty with
 |non=>cases (show u=aS from rx);exact h_ PySem.W.kitx_none I.kIn sX e (λz=>nomatch z) h
 |bl y=>cases (show u=IM y from rx);exact h_ PySem.W.kitx_bool I.kIn sX e (λz=>nomatch z) h
 |int i=>obtain⟨t,q⟩:=(show ∃t,u=iQ i t from rx);cases q;exact h_ PySem.W.kitx_int I.kIn sX e (λz=>nomatch z) h
 |str y=>obtain⟨t,q⟩:=(show ∃t,u=iW y t from rx);cases q;exact h_ PySem.W.kitx_str I.kIn sX e (λz=>nomatch z) h
 |flt y=>obtain⟨t,q⟩:=(show ∃t,u=Value.float y t from rx);cases q;exact h_ PySem.W.kitx_float I.kIn sX e (λz=>nomatch z) h
 |@lst a xs ea=>
  cases (show u=aG a from rx)
  obtain⟨_,_,n,_,h1⟩:=(show yk X.prog X.w H s.heap a (.lst xs) from I.hok a _ ea);exact h_ Ku I.kIn ⟨_,h1,Z⟩ e (λz=>nomatch z) h
 |@frz a ob xs ea=>
  cases (show u=aG a from rx)
  obtain⟨_,_,_,n,_,h1⟩:=(show yk X.prog X.w H s.heap a (.frz ob (.lst xs)) from I.hok a _ ea);exact h_ Ku I.kIn ⟨_,h1,Z⟩ e (λz=>nomatch z) h
 |@tup a xs ea=>
  cases (show u=aG a from rx)
  obtain⟨_,_,_,p⟩:=(show yk X.prog X.w H s.heap a (.tup xs) from I.hok a _ ea);obtain⟨o,h1,h2,_⟩:=p;exact h_ IY I.kIn ⟨o,h1,h2⟩ e (λz=>nomatch z) h
 |@dK a kvs ea=>
  cases (show u=aG a from rx)
  obtain⟨_,_,vs,_,p⟩:=(show yk X.prog X.w H s.heap a (.dK kvs) from I.hok a _ ea);obtain⟨o,es,ep,h1,h2,_⟩:=p;exact h_ Kv I.kIn ⟨o,h1,h2.1⟩ e (λz=>nomatch z) h
 |@dT a kvs ea=>
  cases (show u=aG a from rx)
  obtain⟨_,_,xs,_,o,es,ep,h1,h2,_⟩:=(show yk X.prog X.w H s.heap a (.dT kvs) from I.hok a _ ea);exact h_ Kv I.kIn ⟨o,h1,h2.1⟩ e (λz=>nomatch z) h
 |@ins a C dx fs ea cl ha hn htk hm=>
  cases (show u=aG a from rx)
  obtain⟨mA,O,_⟩:=MZ I.hok ea;obtain⟨od,J,_⟩:=O.look;exact h_ (PySem.W.kitx_own (cl.get _) cl.hd ha hn htk hm) I.kIn J e (λz=>nomatch z) h
end
structure vS (k:Nat)(A:sC):Prop where
 hd:A.handled=none
 dp:A.depth+3*k+5<Fn
 un:A.units+16*k+200<sV
theorem vS.mono {k:Nat}(r:vS k A)(h:j<=k):vS j A:=⟨r.hd,by have:=r.dp;lia,by have:=r.un;lia⟩
theorem vS.deeper {k:Nat}(r:vS (k+1) A)(env:Iv):vS k (A.deeper env) :=
 ⟨r.hd,by have:=r.dp;show A.depth+1+3*k+5<_;lia,by have:=r.un;show A.units+3+16*k+200<_;lia⟩
theorem vS.depth {k:Nat}(r:vS k A):A.depth<Fn:=by have:=r.dp;lia
theorem vS.units {k:Nat}(r:vS k A):A.units+64<sV:=by have:=r.un;lia
theorem vS.units0 {k:Nat}(r:vS k A):A.units<sV:=by have:=r.un;lia
def yw:TA:=λ_ H Q=>Q [] H
def z6 (ta:TE)(tr:TA):TA:=λσ H Q=>ta σ H λx H1=>tr σ H1 λxs H2=>Q (x::xs) H2
section
variable {es:List aK}{t:TA}{pos:iS}
theorem zd:PA X [] yw:=λ_ _ _ _ H Q I h=>iO ⟨[],H,I,.nil,h⟩
theorem za (ha:PE X e te)(hr:PA X es t)(hs:aE (e::es) X.env=(false,eval e X.env)::aE es X.env:=by exact qv Z):PA X (e::es) (z6 te t):=by
 intro pos N' s σ H Q I h;rw[hs];show wpAny _ _ (FI ((false,eval e X.env)::i9 pos (aE es X.env))) _ _ s;refine ip (qC (ha N' s σ H _ I h) λu s1 hM=>?_);obtain⟨x,H1,I1,r1,q1⟩:=hM;exact qC (hr pos N' s1 σ H1 _ I1 q1) λus s2 hM=>by obtain⟨xs,H2,I2,r2,q2⟩:=hM;exact⟨x::xs,H2,I2,.cons r1 r2,q2⟩
end
abbrev Sp:=List V->Hp->VK->XK->Prop
abbrev Yg:=List Iv->Hp->av->XK->ae->av->Prop
structure L5 (P:f_)(w:aZ)(K:BFr)(mg:af->Option ae)(base:ia)(A:sC)(outer:List Iv)(s:av)(H:Hp):Prop where
 frames:A.frames=some outer
 mod:Mod K mg base
 bs:∀b o,base.get? b=some o->s.heap.get? b=some o/\H b=none
 bsz:base.objs.size<=s.heap.objs.size
 funs:s.heap.FunFrames base outer
 frf:∀b∈Xg outer,H b=none
 hok:wL P w H s.heap
 bare:A_ s.gens
def CE (outer:List Iv)(P:f_)(w:aZ)(H:Hp)(s:av)(Q:VK)(u:ae)(s':av):Prop :=
 ∃v H',s'.os=s.os/\A_ s'.gens/\Un (Xg outer) [] H H' s.heap s'.heap/\wL P w H' s'.heap/\qr v u/\Q v H'
variable {CX:L2.Yg}
def CR (CX:Yg)(outer:List Iv)(P:f_)(w:aZ)(H:Hp)(s:av)(Q:VK)(E:XK)(r:Kd)(s':av):Prop :=
 match r with
 |.ok (.ret u)=>CE outer P w H s Q u s'
 |.ok _=>False
 |.error e=>CX outer H s E e s'
variable {sp:L2.Sp}
structure qD (P:f_)(w:aZ)(K:BFr)(mg:af->Option ae)(base:ia)(CX:Yg)(k:Nat)(f:aj)(fd:AV)(ps:List af)(sp:Sp):Prop where
 len:∀vs H Q E,sp vs H Q E->vs.length=ps.length
 run:∀(A:sC) (outer:List Iv) (s:av) (H:Hp) (args:Args) (us:List ae) (vs:List V) (Q:VK) (E:XK),vS k A->L5 P w K mg base A outer s H->Hs s fd args (ps.zip us)->zZ vs us->sp vs H Q E ->
  codeAny (az P w) A (.call (.ref f) args) (CR CX outer P w H s Q E) s
variable {sp':L2.Sp}
theorem qD.imp {K:BFr}{mg:af->Option ae}{k:Nat}(F:qD P w K mg base CX k f fd ps sp)(h:∀vs H Q E,sp' vs H Q E->sp vs H Q E):qD P w K mg base CX k f fd ps sp' :=
 ⟨λvs H Q E q=>F.len vs H Q E (h _ _ _ _ q),λA outer s H args us vs Q E hr he hb hv hs=>F.run A outer s H args us vs Q E hr he hb hv (h _ _ _ _ hs)⟩
section
theorem zF.env0 (I:zF X N' σ H s):L5 X.prog X.w X.K X.mg X.base X.A X.stack s H :=
 ⟨I.ok.frames,I.ok.mod,I.bs,CD I.ok.bsz I.sz,I.stack,I.stkFree,I.hok,I.bare⟩
theorem zF.after {Q:VK}(I:zF X N' σ H s)(h:CE X.stack X.prog X.w H s Q u s'):EP X N' σ Q u s':=by
 obtain⟨v,H',os,bare,un,hok,r,q⟩:=h;obtain⟨hh,g,d,t,os'⟩:=s';obtain rfl:os'=s.os:=os;exact⟨v,H',I.call (h':=hh) (g':=g) (d':=d) (t':=t) (ch:=[]) un hok bare (λb z=>M' z (by simp)),r,q⟩
end
def rO (sp:Sp)(dvs:List V)(E:XK)(t:TA):TE:=λσ H Q=>t σ H λvs H1=>sp (vs++dvs) H1 Q E
def QQ (K:BFr)(fd:AV)(ps:List af)(ds:List ae):Prop :=
 ∀(s:av) (us:List ae),K.In s.heap->(us++ds).length=ps.length->Hs s fd ⟨us,[]⟩ (ps.zip (us++ds))
theorem QQ.all {K:BFr}(h:∀us:List ae,us.length=ps.length->Si fd ⟨us,[]⟩=pure (ps.zip us)):QQ K fd ps []:=λs us _ hl=>by
 rw[dy]at hl ⊢;exact .of_eq (h us hl)
def Za (CX:Yg)(X:Cx)(E:XK):Prop:=∀(N':List (aj×iN)) (σ:St) (H:Hp) (s:av) (e:ae) (s':av),zF X N' σ H s->CX X.stack H s E e s'->X.xe e s'
section
variable {k:Nat}{dvs:List V}{ds:List ae}{E:XK}{m:af}{p pos:iS}{o:aK}{es:List aK}{ta:TE}{t:TA}
theorem tO {Q:VK}{us:List ae}{vs:List V}(F:qD X.prog X.w X.K X.mg X.base CX k f fd ps sp)(hr:vS k X.A)(hb:QQ X.K fd ps ds)(hd:zZ dvs ds)(hx:Za CX X E)(I:zF X N' σ H s)(r:zZ vs us)(h:sp (vs++dvs) H Q E):wpAny (az X.prog X.w) X.A (call (.ref f) us) (EP X N' σ Q) X.xe s:=by
 have r2:zZ (vs++dvs) (us++ds):=r.append hd;have hl:(us++ds).length=ps.length:=by rw[<- r2.length];exact F.len _ _ _ _ h
 refine Ht (sZ (F.run X.A X.stack s H ⟨us,[]⟩ (us++ds) (vs++dvs) Q E hr I.env0 (hb s us I.kIn hl) r2 h) λr s' hq=>?_)
 cases r with
 |error e=>exact hx N' σ H s e s' I hq
 |ok fl=>
  cases fl with
  |ret u=>exact I.after hq
  |next=>exact iD hq
  |brk=>exact iD hq
  |cont=>exact iD hq
theorem MV (F:qD X.prog X.w X.K X.mg X.base CX k f fd ps sp)(hr:vS k X.A)(hg:Gl X x)(hm:X.mg x=some (.ref f))(hk:sY X.K (.ref f)=true)(hb:QQ X.K fd ps ds)(hd:zZ dvs ds)(hx:Za CX X E)(ha:PA X (e::es) t)(hdb:(x==("__debug__":af))=false:=by decide)(he:aE (e::es) X.env=(false,eval e X.env)::aE es X.env:=by exact qv Z)(hpl:(i9 pos (aE es X.env)).any (·.1)=false:=by exact ua Z):
  PE X (.Call (.Name x p) (e::es) [] pos) (rO sp dvs E t):=by
 intro N' s σ H Q I h;refine Aj (Zw I hg hm ?_ hdb);refine I0 (h₀:=X.base) I.ok.mod.kin hk (qC (ha pos N' s σ H _ I h) λus s1 hM=>?_) he hpl;obtain⟨vs,H1,I1,r,q⟩:=hM;refine⟨I1.kIn,?_⟩;exact tO F hr hb hd hx I1 r q
end
def PK (X:Cx)(kws:List Av)(t:TA):Prop :=
 ∀(pos:iS) (N':List (aj×iN)) (s:av) (σ:St) (H:Hp) (Q:List V->Hp->Prop),zF X N' σ H s->t σ H Q->wpAny (az X.prog X.w) X.A (evalAll ((HM pos (AX kws X.env)).map (·.2))) (AP X N' σ Q) X.xe s
section
variable {k:Nat}{ks:List af}{E:XK}{m:af}{p pos:iS}{o:aK}{es:List aK}{kws:List Av}{ta:TE}{t tk:TA}{nm:Option af}
variable {g:List ae->List ae->List ae}{gV:List V->List V->List V}
end
structure Zn (N P:List af)(sc:AW):Prop where
 kind:sc.kind=.function
 co:sc.isCoroutine=false
 gen:sc.isGenerator=false
 nd:N.Nodup
 pre:N.take P.length=P
 par:∀x∈P,sc.names.lookup x=some .local∨sc.names.lookup x=some .cell
 nofree:∀y∈sc.names,y.2≠.free
theorem JZ {kindOf:af->Option Fo}:∀{binds:List (af×ae)} {m:af->Option ae},(∀v,(x,v)∉binds)->Sj kindOf binds m x=m x
 |[],_,_=>rfl
 | (n,v)::r,m,h=>by
  unfold Sj;rw[JZ λw hw=>h w (CK _ hw)];split
  ·have:x≠n:=by rintro rfl;exact h v CG
   simp[this]
  ·rfl
theorem Vr {kindOf:af->Option Fo}:∀{binds:List (af×ae)} {m:af->Option ae},(∀v,(x,v)∉binds)->Sk kindOf binds m x=m x
 |[],_,_=>rfl
 | (n,v)::r,m,h=>by
  unfold Sk;rw[Vr λw hw=>h w (CK _ hw)];split
  ·rfl
  ·have:x≠n:=by rintro rfl;exact h v CG
   simp[this]
theorem Vx {kindOf:af->Option Fo}:∀{P:List af} {vs:List ae} {i:Nat} {m:af->Option ae},P.Nodup->P[i]?=some x->vs[i]?=some v->kindOf x=some .local ->
  Sj kindOf (P.zip vs) m x=some v
 |[],_,_,_,_,h,_,_=>by simp at h
 |_::_,[],_,_,_,_,h,_=>by simp at h
 |p::P,w::vs,0,m,nd,h1,h2,hk=>by
  simp at h1 h2;subst h1;subst h2
  show Sj kindOf ((p,w)::P.zip vs) m p=_;unfold Sj;rw[JZ λv hv=>(Ds.mp nd).1 (Dz hv).1,L' hk]
  simp
 |p::P,w::vs,i+1,m,nd,h1,h2,hk=>by
  show Sj kindOf ((p,w)::P.zip vs) m x=_;unfold Sj;exact Vx (i:=i) (Ds.mp nd).2 (by simpa using h1) (by simpa using h2) hk
theorem JK {kindOf:af->Option Fo}:∀{P:List af} {vs:List ae} {i:Nat} {m:af->Option ae},P.Nodup->P[i]?=some x->vs[i]?=some v->kindOf x≠some .local ->
  Sk kindOf (P.zip vs) m x=some v
 |[],_,_,_,_,h,_,_=>by simp at h
 |_::_,[],_,_,_,_,h,_=>by simp at h
 |p::P,w::vs,0,m,nd,h1,h2,hk=>by
  simp at h1 h2;subst h1;subst h2
  show Sk kindOf ((p,w)::P.zip vs) m p=_;unfold Sk;rw[Vr λv hv=>(Ds.mp nd).1 (Dz hv).1,K' hk]
  simp
 |p::P,w::vs,i+1,m,nd,h1,h2,hk=>by
  show Sk kindOf ((p,w)::P.zip vs) m x=_;unfold Sk;exact JK (i:=i) (Ds.mp nd).2 (by simpa using h1) (by simpa using h2) hk
def u7 (N:List af)(vs:List V):St:=vs.map some++aw (N.length-vs.length) none
def QZ (CX:Yg)(P:f_)(w:aZ)(K:BFr)(mg:af->Option ae)(base:ia)(N:List af)(qual:af)(scope:AW)(f:aj)(cd:ae)(A:sC)(outer:List Iv)(s:av)(H:Hp)(E:XK):Cx where
 prog:=P
 w:=w
 K:=K
 mg:=mg
 base:=base
 A:=A.deeper (iu qual scope s.heap.objs.size f cd)
 N:=N
 s₀:=s
 H₀:=H
 env:=iu qual scope s.heap.objs.size f cd
 outer:=outer
 stack:=iu qual scope s.heap.objs.size f cd::outer
 ex:=[]
 calm:=true
 fn:=λ_=>true
 pn:=[]
 xe:=λe s'=>wpAny (az P w) (A.deeper (iu qual scope s.heap.objs.size f cd)) (leaving (iu qual scope s.heap.objs.size f cd) e) (λ_ s''=>CX outer H s E e s'') (λe' s''=>CX outer H s E e' s'') s'
theorem Wr {sc:AW}(h:sc.names.lookup x=some .cell):∃c,(FY n sc.names []).lookup x=some c:=by
 have q:=AJ sc.names n [] (.inl h);exact DG.mp q
theorem Vp {K:BFr}{mg:af->Option ae}{N:List af}{s1:av}{E:XK}{us:List ae}{vs:List V}
  (S:Zn N ps scope) (hd:A.handled=none) (e0:L5 P w K mg base A outer s H) (hl:vs.length=ps.length) (r:zZ vs us) (x:InCallC s s.heap.objs.size (Sj (iu qual scope s.heap.objs.size f cd).kindOf (ps.zip us) λ_=>none) (FY (s.heap.objs.size+1) scope.names []) (Sk (iu qual scope s.heap.objs.size f cd).kindOf (ps.zip us) λ_=>none) s1) :
  zF (QZ CX P w K mg base N qual scope f cd A outer s H E) [] (u7 N vs) H s1:=by
 have hpl:ps.length<=N.length:=by have:=G' iB S.pre;rw[CQ]at this;lia
 obtain⟨h1,tk,rfl,hk⟩:=x.done;have noA:∀b:aj,b∉(QZ CX P w K mg base N qual scope f cd A outer s H E).ex:=λb z=>M' (show b∈([]:List aj) from z) (by simp)
 refine⟨⟨e0.mod,S.kind,Z,Z,Cz _,λy z c h1 h2=>?_,λy hy=>?_,λy c _ h=>?_,λ_=>hd,Il e0.frames,.inr ⟨Z,Z⟩,λb z=>M' z (noA b),e0.bs,e0.bsz,λb _ _=>noA b,λb z=>M' z (noA b),e0.funs,e0.frf⟩,
  rfl,e0.bare,Un.kept hk,⟨_,x.toInCall.ns,λi y v h1 h2 h3=>?_⟩,λy c h=>⟨_,x.cell y c h⟩,e0.hok.fresh (Cz _),λy c h=>?_,λp hp=>M' (show p∈([]:List (aj×iN)) from hp) (by simp),e0.hok.kept hk,?_⟩
 ·exact name_of_addr x.apart (iE h1) (iE h2)
 ·have hy:scope.names.lookup y=some .cell∨scope.names.lookup y=some .free:=hy;rcases hy with hy |hy
  ·exact Wr hy
  ·exact M' rfl (S.nofree _ (iE hy))
 ·exact eK (x.above y c (iE h))
 ·have hi:i<vs.length:=by
   unfold u7 at h2
   by_cases hi:i<vs.length
   ·exact hi
   ·rw[dk (by simpa using hi)]at h2;rw[EN]at h2
    split at h2<;>cases h2
  have ha:vs[i]?=some v:=by
   unfold u7 at h2;rw[dF (by simpa using hi),CI]at h2
   cases e:vs[i]? with
   |none=>rw[e]at h2;cases h2
   |some a=>rw[e]at h2;cases h2;rfl
  obtain⟨u,hu,rv⟩:=r.get ha
  have hp:ps[i]?=some y:=by
   rw[<- S.pre,Fb (by lia)];exact h1
  have ndP:ps.Nodup:=by rw[<- S.pre];exact S.nd.sublist (Ky _ _)
  refine⟨u,rv,?_⟩;rcases S.par y (dv hp) with k |k
  ·exact .inl ⟨k,Vx ndP hp hu k⟩
  ·obtain⟨c,e⟩:=Wr (n:=s.heap.objs.size+1) k;refine .inr ⟨.inl k,c,e,?_⟩;have q:=x.cell y c e;rw[JK ndP hp hu (by show scope.names.lookup y≠_;rw[k];decide)]at q;exact q
 ·exact e0.hok.fresh (eK (x.above y c (iE h)))
 ·unfold u7;show _=N.length;rw[CA,Cw,Dh];lia
theorem N8 {K:BFr}{mg:af->Option ae}{k:Nat}{name:af}{dV kV Θ V' ct oc:ae}{an od:Option aj}
  {osl:Array (Option ae)} {N ps:List af} {sp:Sp} (lk:K.lookup f=some ⟨oc,od,.func (sI name qual params body scope dV kV Θ pm an V' ct),osl⟩) (hcd:Ie K V' qual=true) (S:Zn N ps scope) (len:∀vs H Q E,sp vs H Q E->vs.length=ps.length) (Ω:∀(A:sC) (outer:List Iv) (s:av) (H:Hp) (vs:List V) (Q:VK) (E:XK),vS k (A.deeper (iu qual scope s.heap.objs.size f V'))->sp vs H Q E ->
   ∃t,jg (QZ CX P w K mg base N qual scope f V' A outer s H E) body t/\t {nx:=λ_ H'=>Q .non H',rt:=Q} (u7 N vs) H) :
  qD P w K mg base CX (k+1) f (sI name qual params body scope dV kV Θ pm an V' ct) ps sp:=by
 refine⟨len,λA outer s H args us vs Q E hr e0 hb r hsp=>?_⟩;have hl:=len _ _ _ _ hsp;have KX:K.In s.heap:=e0.mod.kin.keeps λb o e=>(e0.bs b o e).1;have lim:s.heap.NoLimit:=e0.mod.nolimit.keeps λb o e=>(e0.bs b o e).1
 have hkind:∀y∈ps.zip us,scope.names.lookup y.1=some .local∨(scope.names.lookup y.1=some .cell/\((FY (s.heap.objs.size+1) scope.names []).lookup y.1).isSome=true):=fun⟨n,v⟩ hy=>by
  rcases S.par n (Dz hy).1 with q |q
  ·exact .inl q
  ·exact .inr ⟨q,AJ _ _ _ (.inl q)⟩
 refine HC hr.depth (KX _ _ lk) rfl S.co S.gen rfl (IZ KX hcd) (hb _ _ _ _ ?_);refine Fp S.kind hkind λenv he s1 x=>?_;subst he;refine⟨lim.keeps x.toInCall.keep,codeAny_func ?_⟩;obtain⟨t,ht,hq⟩:=Ω A outer s H vs Q E (hr.deeper _) hsp;have I:zF (QZ CX P w K mg base N qual scope f V' A outer s H E) [] (u7 N vs) H s1:=Vp S hr.hd e0 hl r x;refine sH (ht [] s1 (u7 N vs) H _ I hq) (λfl s' hs=>?_) λe s' hs=>hs
 have P':∀{σ':St} {H':Hp} {v:V} {u:ae},zF (QZ CX P w K mg base N qual scope f V' A outer s H E) [] σ' H' s'->qr v u->Q v H'->CE outer P w H s Q u s' :=
  λ{σ' H' v u} J rv q=>⟨v,H',J.os,J.bare,J.base,J.hok,rv,q⟩
 cases fl with
 |ret u=>
  obtain⟨v,σ',H',J,rv,q⟩:=hs;exact P' J rv q
 |next=>
  obtain⟨σ',H',J,q⟩:=hs;exact P' (v:=V.non) (u:=aS) J rfl q
 |brk=>
  obtain⟨_,_,_,q⟩:=hs;exact iD q
 |cont=>
  obtain⟨_,_,_,q⟩:=hs;exact iD q
section
variable {p pos:iS}{es:List aK}{t:TA}{id T:String}{r:List V->Hp->VK->Prop}
def p7 (r:List V->Hp->VK->Prop)(t:TA):TE:=λσ H Q=>t σ H λvs H1=>r vs H1 Q
theorem zu (hc:jL X (.builtin id) r)(hg:Gl X x)(hm:X.mg x=none)(hv:ig x=some (.builtin id))(ha:PA X (e::es) t)(hn:x≠"__name__":=by decide)(hdb:(x==("__debug__":af))=false:=by decide)(he:aE (e::es) X.env=(false,eval e X.env)::aE es X.env:=by exact qv Z)(hpl:(i9 pos (aE es X.env)).any (·.1)=false:=by exact ua Z):PE X (.Call (.Name x p) (e::es) [] pos) (p7 r t):=by
 intro N' s σ H Q I h;refine Aj (ud I hg hm hv ?_ hn hdb);exact AQ (qC (ha pos N' s σ H _ I h) λus s1 hM=>by obtain⟨vs,H1,I1,r1,q1⟩:=hM;exact hc N' s1 σ H1 vs us Q I1 r1 q1) he hpl
theorem zY (hc:jL X (.type T) r)(hg:Gl X x)(hm:X.mg x=none)(hv:ig x=some (.type T))(ha:PA X (e::es) t)(hn:x≠"__name__":=by decide)(hdb:(x==("__debug__":af))=false:=by decide)(he:aE (e::es) X.env=(false,eval e X.env)::aE es X.env:=by exact qv Z)(hpl:(i9 pos (aE es X.env)).any (·.1)=false:=by exact ua Z):PE X (.Call (.Name x p) (e::es) [] pos) (p7 r t):=by
 intro N' s σ H Q I h;refine Aj (ud I hg hm hv ?_ hn hdb);exact hV (qC (ha pos N' s σ H _ I h) λus s1 hM=>by obtain⟨vs,H1,I1,r1,q1⟩:=hM;exact hc N' s1 σ H1 vs us Q I1 r1 q1) he hpl
end
end L2
namespace HT
open PySem PyProof.Rows
section
open PySem.SeqAt
open PySem.AutoSeq1 (wpAny_loadPart')
open PySem.MeetsSeq PySem.MeetsSeq2 PySem.MeetsSeq3
end
section
def vQ (n d:Nat):Option Int->Nat
 |none=>d
 |some v=>if v<0 then (v+(n:Int)).toNat else min v.toNat n
theorem yN (n d:Nat):vQ n d none=d:=rfl
theorem jU (n d k:Nat):vQ n d (some (k:Int))=min k n:=by
 show(if (k:Int)<0 then ((k:Int)+(n:Int)).toNat else min (k:Int).toNat n)=min k n;rw[K' (by lia),dJ]
theorem tF (n d:Nat)(hd:d<=n)(o:Option Int):vQ n d o<=n:=by
 cases o with
 |none=>exact hd
 |some v=>
  show(if v<0 then (v+(n:Int)).toNat else min v.toNat n)<=n
  by_cases hv:v<0
  ·rw[L' hv];lia
  ·rw[K' hv];exact Nat.min_le_right _ _
end
end HT
variable {H H' H1:L2.Hp}{X:L2.Cx}{σ:L2.St}{te to:L2.TE}{p2 ν X':iS}{xs ys:List L2.V}{y:L2.V}{value:aK}{P':List L2.V->L2.Hp->Prop}{kvs:List (L2.jB×L2.V)}
namespace L2
open PySem PySem.Spec PyProof.Rows
abbrev TO:=St->Hp->(Option Int->Hp->Prop)->Prop
def PO (X:Cx)(e:Option aK)(t:TO):Prop :=
 ∀(N':List (aj×iN)) (s:av) (σ:St) (H:Hp) (Q:Option Int->Hp->Prop),zF X N' σ H s->t σ H Q ->
  wpAny (az X.prog X.w) X.A (evalPart e X.env) (λu s'=>∃o H',zF X N' σ H' s'/\IsPart u o/\Q o H') X.xe s
def Yd:TO:=λ_ H Q=>Q none H
def Gq (t:TE):TO:=λσ H Q=>t σ H λx H1=>∃i,x=.int i/\Q (some i) H1
section
variable {lo hi:Option aK}{tl th:TO}{pos:iS}
theorem zV:PO X none Yd:=by
 intro N' s σ H Q I h;rw[evalPart_none];exact aq ⟨none,H,I,.none,h⟩
theorem zK (h:PE X e te):PO X (some e) (Gq te):=by
 intro N' s σ H Q I hw;rw[evalPart_some];refine qC (h N' s σ H _ I hw) λu s1 hM=>?_;obtain⟨x,H1,I1,r1,q1⟩:=hM;obtain⟨i,rfl,q⟩:=q1;obtain⟨t,rfl⟩:=r1;exact⟨some i,H1,I1,.int i t,q⟩
def BW (X:Cx)(r:V->Option Int->Option Int->Hp->VK->Prop):Prop :=
 ∀(N':List (aj×iN)) (s:av) (σ:St) (H:Hp) (x:V) (v vl vu:ae) (lo hi:Option Int) (sl:aj) (Q:VK),zF X N' σ H s->qr x v->s.heap.IsSliceOf sl vl vu .none->IsPart vl lo->IsPart vu hi->r x lo hi H Q ->
  ∃T id,Hu (.type T) "__getitem__" = pure (some (.builtin id))/\s.TypeIs v T/\wpAny (az X.prog X.w) X.A (getItem v (.ref sl)) (EP X N' σ Q) X.xe s
def BF (r:V->Option Int->Option Int->Hp->VK->Prop)(te:TE)(tl th:TO):TE:=λσ H Q=>te σ H λx H1=>tl σ H1 λl H2=>th σ H2 λu H3=>r x l u H3 Q
theorem zJ {r:V->Option Int->Option Int->Hp->VK->Prop}(hr:BW X r)(he:PE X e te)(hl:PO X lo tl)(hu:PO X hi th):PE X (.Subscript e (.Slice lo hi none p2) pos) (BF r te tl th):=by
 intro N' s σ H Q I h;refine Hv (qC (he N' s σ H _ I h) λv s1 hM=>?_);obtain⟨x,H1,I1,r1,q1⟩:=hM;refine wpAny_Slice (qC (hl N' s1 σ H1 _ I1 q1) λvl s2 hM=>?_);obtain⟨l,H2,I2,pl,q2⟩:=hM;refine qC (hu N' s2 σ H2 _ I2 q2) λvu s3 hM=>?_;obtain⟨u,H3,I3,pu,q3⟩:=hM;rw[evalPart_none];refine aq ?_;have I4:zF X N' σ H3 {s3 with heap:=s3.heap.push {cls:=.type "slice",data:=.fields #[vl,vu,.none]}}:=I3.kept (t':=s3.toks) λb ob q=>CN _ q;obtain⟨T,id,hT,ht,hg⟩:=hr N' {s3 with heap:=s3.heap.push {cls:=.type "slice",data:=.fields #[vl,vu,.none]}} σ H3 x v vl vu l u s3.heap.objs.size Q I4 r1 (Heap.IsSliceOf.new ..) pl pu q3;show wpAny (az X.prog X.w) X.A (IB e (.Slice lo hi none p2) v (.ref s3.heap.objs.size)) (EP X N' σ Q) X.xe {s3 with heap:=s3.heap.push {cls:=.type "slice",data:=.fields #[vl,vu,.none]}};exact tail_any (ops:=[.ref s3.heap.objs.size,v]) ht hT hg (by with_unfolding_all rfl)
def wN (xs:List V)(lo hi:Option Int):List V:=(xs.drop (HT.vQ xs.length 0 lo)).take (HT.vQ xs.length xs.length hi-HT.vQ xs.length 0 lo)
theorem xI (xs:List V)(lo hi:Option Int):(wN xs lo hi).length<=xs.length:=by
 unfold wN;rw[CQ,dB];lia
end
def XT (n:Nat)(i:Int):Option Nat:=if 0<=i then (if i<n then some i.toNat else none) else if -(n:Int)<=i then some (i+n).toNat else none
def atI (xs:List α)(i:Int):Option α:=(XT xs.length i).bind λj=>xs[j]?
theorem Gu {i:Int}(h:XT n i=some j):seqIndex? i n=some j/\j<n/\-(n:Int)<=i/\i<n:=by
 unfold XT at h
 by_cases h0:0<=i
 ·rw[L' h0]at h
  by_cases h1:i<n
  ·rw[L' h1]at h;have e:i.toNat=j:=ai h;exact⟨by rw[K0 h0 h1,e],by lia,by lia,h1⟩
  ·rw[K' h1]at h;cases h
 ·rw[K' h0]at h
  by_cases h1:-(n:Int)<=i
  ·rw[L' h1]at h;have e:(i+n).toNat=j:=ai h;exact⟨by rw[seqIndex_neg (by lia) h1,e],by lia,h1,by lia⟩
  ·rw[K' h1]at h;cases h
theorem V2 {xs:List α}{i:Int}{v:α}(h:atI xs i=some v):∃j,seqIndex? i xs.length=some j/\xs[j]?=some v/\j<xs.length/\-(xs.length:Int)<=i/\i<xs.length:=by
 unfold atI at h
 cases e:XT xs.length i with
 |none=>rw[e]at h;cases h
 |some j=>
  rw[e]at h;obtain⟨h1,h2,h3,h4⟩:=Gu e;exact⟨j,h1,h,h2,h3,h4⟩
theorem jG {xs:List α}{v:α}(h:xs[j]?=some v):atI xs (j:Int)=some v:=by
 have hj:j<xs.length:=(CV.mp h).1
 have e:XT xs.length (j:Int)=some j:=by
  unfold XT;rw[L' (by lia),L' (by lia)];simp
 unfold atI;rw[e];exact h
theorem Ws (xs:List α)(v:α):atI (xs++[v]) (-1)=some v:=by
 have hl:(xs++[v]).length=xs.length+1:=by simp
 have e:XT (xs++[v]).length (-1)=some xs.length:=by
  unfold XT;rw[hl,K' (by decide),L' (by lia)]
  congr 1
  lia
 unfold atI;rw[e];show(xs++[v])[xs.length]?=some v
 simp
def ou (b:aK):Prop:=∀o i,subscripted b false o i=operate [o,i] (getItem o i)
def TF (X:Cx)(r:R2):Prop :=
 ∀(value slice:aK) (N':List (aj×iN)) (s:av) (σ:St) (H:Hp) (x y:V) (v u:ae) (Q:VK),zF X N' σ H s->qr x v->qr y u->r x y H Q ->
  subscripted slice false v u=operate [v,u] (getItem v u)->wpAny (az X.prog X.w) X.A (IB value slice v u) (EP X N' σ Q) X.xe s
def Mt (X:Cx)(id:String)(r:V->List V->Hp->VK->Prop):Prop :=
 ∀(N':List (aj×iN)) (s:av) (σ:St) (H:Hp) (x:V) (xs:List V) (v:ae) (us:List ae) (Q:VK),zF X N' σ H s->qr x v->zZ xs us->r x xs H Q ->
  wpAny (az X.prog X.w) X.A (call (.builtin id) (v::us)) (EP X N' σ Q) X.xe s
section
variable {a b:aK}{ta tb:TE}{pos:iS}
theorem bc {r:R2}(hr:TF X r)(ha:PE X a ta)(hb:PE X b tb)(hs:ou b):PE X (.Subscript a b pos) (jA r ta tb):=by
 intro N' s σ H Q I h;exact Hv (RA ha hb I h λv u s2 x y H2 I2 rx ry q=>hr a b N' s2 σ H2 x y v u Q I2 rx ry q (hs _ _))
def mP (K:BFr):R2:=λx y H Q=>∃p xs i v,x=.ref p/\y=.int i/\zL K H p xs/\atI xs i=some v/\Q v H
def Jo (K:BFr):R2:=λx y H Q=>∃p xs i v,x=.ref p/\y=.int i/\yT K H p xs/\atI xs i=some v/\Q v H
def nO:R2:=λx y H Q=>∃z i c,x=.str z/\y=.int i/\z.length<=ar/\atI z.cps.toList i=some c/\Q (.str ⟨#[c]⟩) H
theorem qx:TF X (mP X.K):=by
 intro value slice N' s σ H x y v u Q I rx ry h hs;obtain⟨p,xs,i,z,rfl,rfl,hq,he,q⟩:=h;cases rx;obtain⟨t,rfl⟩:=ry;obtain⟨its,r,pl,hz⟩:=I.list hq;obtain⟨j,h1,h2,h3,h4,h5⟩:=V2 he;obtain⟨w,ew,rw'⟩:=r.get h2;have hl:=r.length;have hn:=wJ;have P':EP X N' σ Q w s:=⟨z,H,I,rw',q⟩
 by_cases h0:0<=i
 ·have hj:i.toNat=j:=by
   rw[K0 h0 h5]at h1;exact ai h1
  exact item_listR pl.isList h0 (by lia) (by rw[hj];simpa using ew) P' hs
 ·have hj:(i+(its.toArray.size:Int)).toNat=j:=by
   rw[seqIndex_neg (by lia) h4]at h1;rw[de,<- hl];exact ai h1
  exact Hw (x:=w) pl.isList.typeIs slot_list_getitem.lookup
   (wpAny_getItem_list_neg (Q:=λr s'=>r=w/\EP X N' σ Q r s') pl.isList (by lia) (by rw[de]<;>lia) (by lia) (by rw[hj];simpa using ew) ⟨Z,P'⟩) hs
theorem yA:TF X (Jo X.K):=by
 intro value slice N' s σ H x y v u Q I rx ry h hs;obtain⟨p,xs,i,z,rfl,rfl,hq,he,q⟩:=h;cases rx;obtain⟨t,rfl⟩:=ry;obtain⟨its,r,pl,hz⟩:=I.tuple hq;obtain⟨j,h1,h2,h3,h4,h5⟩:=V2 he;obtain⟨w,ew,rw'⟩:=r.get h2;have hl:=r.length;have hn:=wJ;have P':EP X N' σ Q w s:=⟨z,H,I,rw',q⟩
 exact Hw (x:=w) pl.typeIs slot_tuple_getitem.lookup
  (getItem_tuple (j:=j) (Q:=λr s'=>r=w/\EP X N' σ Q r s') pl (by lia) (by lia) (by rw[de,<- hl];exact h1) (by simpa using ew) ⟨Z,P'⟩) hs
theorem wX:TF X nO:=by
 intro value slice N' s σ H x y v u Q I rx ry h hs;obtain⟨z,i,c,rfl,rfl,hz,he,q⟩:=h;obtain⟨t,rfl⟩:=rx;obtain⟨t',rfl⟩:=ry;obtain⟨j,h1,h2,h3,h4,h5⟩:=V2 he;have hl:z.cps.toList.length=z.length:=by simp[Str.length]
 rw[hl]at h1 h4 h5;have hn:=wJ
 exact tail_any (Ak s z t) slot_str_getitem.lookup (getItem_str (c:=c) (by
  have e1:decide (i < -(2 ^ 63:Int))=false:=j' (by lia);have e2:decide (i >= 2 ^ 63)=false:=j' (by lia);rw[e1,e2,Bool.or_false]) (by rw[h1];simpa using h2) ⟨.str ⟨#[c]⟩,H,I.tok _,⟨_,Z⟩,q⟩) hs
theorem Xn (its:List ae)(n j:Nat)(u:ae):ij (·.setIfInBounds j u) {cls:=.type "list",data:=.seq its.toArray n} = {cls:=.type "list",data:=.seq (its.set j u).toArray n}:=by
 simp[ij]
theorem zF.lst {p:aj}(I:zF X N' σ H s)(h:H p=some (.lst xs)):
  ∃(its:List ae) (n:Nat),zZ xs its/\s.heap.get? p=some {cls:=.type "list",data:=.seq its.toArray n}/\xs.length<=ar:=by
 obtain⟨z,its,n,r,e⟩:=I.hok p _ h;exact⟨its,n,r,e,z⟩
theorem zF.lstUpd {p:aj}{its':List ae}{n':Nat}{f:iN->iN}(I:zF X N' σ H s)(h:H p=some (.lst xs))(ho:s.heap.get? p=some {cls:=.type "list",data:=.seq its.toArray n})(hf:f {cls:=.type "list",data:=.seq its.toArray n} = {cls:=.type "list",data:=.seq its'.toArray n'})(r:zZ ys its')(hz:ys.length<=ar)(t:Nat):
  zF X N' σ (upd H p (.lst ys)) {s with heap:=s.heap.update p f,toks:=t}:=by
 have e:(s.heap.update p f).get? p=some {cls:=.type "list",data:=.seq its'.toArray n'}:=by
  rw[DV f ho (by rw[hf]<;>rfl),hf]
 refine I.write (x:=p) (e:=p) (by rw[h];trivial) (.inl Z) (λb u hb q=>(Du _ _ (iT hb)).trans q) ⟨_,e⟩ ?_;exact⟨hz,its',n',r,e⟩
def bq:V->V->V->Hp->(Hp->Prop)->Prop:=λo i v H Q=>∃p xs k j,o=.ref p/\i=.int k/\H p=some (.lst xs)/\XT xs.length k=some j/\Q (upd H p (.lst (xs.set j v)))
theorem WG:Bs X bq:=by
 intro N' s σ H o i v ov iv u Q I ro ri rv h;obtain⟨p,xs,k,j,rfl,rfl,hp,hj,q⟩:=h;cases ro;obtain⟨t,rfl⟩:=ri;obtain⟨its,n,r,ho,hz⟩:=I.lst hp;obtain⟨h1,h2,h3,h4⟩:=Gu hj;have hl:=r.length;have hn:=wJ
 have I':zF X N' σ (upd H p (.lst (xs.set j v))) {s with heap:=s.heap.update p (ij (·.setIfInBounds j u))} :=
  I.lstUpd hp ho (Xn its n j u) (r.set rv j) (by rw[fo];exact hz) s.toks
 by_cases h0:0<=k
 ·have hk:k.toNat=j:=by
   rw[K0 h0 h4]at h1;exact ai h1
  exact PySem.W.ki_setAt ho h0 (by lia) (by rw[de,<- hl];exact h4) (by rw[hk];exact⟨_,I',q⟩)
 ·have hk:(k+(its.toArray.size:Int)).toNat=j:=by
   rw[seqIndex_neg (by lia) h3]at h1;rw[de,<- hl];exact ai h1
  exact PySem.W.ki_setBack ho (by lia) (by rw[de,<- hl];exact h3) (by lia) (by rw[hk];exact⟨_,I',q⟩)
theorem VP (lo hi:Option Int)(n:Nat):(Aq lo hi none n).1=((HT.vQ n 0 lo:Nat):Int)/\(Aq lo hi none n).2.1=((HT.vQ n n hi:Nat):Int)/\(Aq lo hi none n).2.2=1:=by
 refine⟨?_,?_,Z⟩
 ·cases lo with
  |none=>simp[Aq,HT.vQ]
  |some i=>
   simp only[Aq,HT.vQ,fq,show(1:Int) > 0 by decide,if_true]
   by_cases h:i<0
   ·simp only[h,if_true]<;>lia
   ·simp only[h,if_false]<;>lia
 ·cases hi with
  |none=>simp[Aq,HT.vQ]
  |some i=>
   simp only[Aq,HT.vQ,fq,show(1:Int) > 0 by decide,if_true]
   by_cases h:i<0
   ·simp only[h,if_true]<;>lia
   ·simp only[h,if_false]<;>lia
theorem Jq (its:List ae)(lo hi:Option Int):slicePick its.toArray lo hi none=((its.drop (HT.vQ its.length 0 lo)).take (HT.vQ its.length its.length hi-HT.vQ its.length 0 lo)).toArray:=by
 obtain⟨h1,h2,h3⟩:=VP lo hi its.toArray.size;unfold slicePick;rw[h1,h2,h3];simp only[Sn,pick_run,de]<;>rfl
def T8 (K:BFr):V->Option Int->Option Int->Hp->VK->Prop:=λx lo hi H Q=>∃a xs,x=.ref a/\zL K H a xs/\∀p,H p=none->Q (.ref p) (upd H p (.lst (wN xs lo hi)))
theorem yS:BW X (T8 X.K):=by
 intro N' s σ H x v vl vu lo hi sl Q I rx hs pl pu h;obtain⟨a,xs,rfl,hx,q⟩:=h;cases rx;obtain⟨its,r,ht,hz⟩:=I.list hx;have ζ:=r.length;refine⟨"list",_,slot_list_getitem.lookup,ht.isList.typeIs,?_⟩;refine wpAny_getItem_list_slice ht.isList hs pl pu .none (by simp) ?_ (by rw[de]<;>lia);rw[Jq,<- ζ];refine⟨.ref s.heap.objs.size,_,I.laid (t':=s.toks) (o:=.lst (wN xs lo hi)) (λb ob q=>CN _ q) (Cz _) ?_,Z,q _ (I.hok.fresh (Cz _))⟩;exact⟨CD (xI xs lo hi) hz,_,0,(r.drop (HT.vQ xs.length 0 lo)).take (HT.vQ xs.length xs.length hi-HT.vQ xs.length 0 lo),dj _ Z⟩
def jj:V->Bool
 |.non=>true
 |.bl _=>true
 |.int _=>true
 |.str _=>true
 |_=>false
def xN:V->V->Bool
 |.non,.non=>true
 |.bl a,.bl b=>a==b
 |.bl a,.int b=>(if a then 1 else 0)==b
 |.int a,.bl b=>a==(if b then 1 else 0)
 |.int a,.int b=>a==b
 |.str a,.str b=>a==b
 |_,_=>false
theorem V6 {x:V}(ry:qr y u)(rx:qr x v)(fy:jj y=true)(fx:jj x=true):IP A s u v (xN y x):=by
 cases y with
 |non=>
  cases ry
  cases x with
  |non=>cases rx;exact Hy _
  |bl b=>cases rx;exact SeqAt.EqAt.none_bool b
  |int b=>obtain⟨t,rfl⟩:=rx;exact SeqAt.EqAt.none_int b t
  |str b=>obtain⟨t,rfl⟩:=rx;exact SeqAt.EqAt.none_str b t
  |_=>exact M' (show false=true from fx) CZ
 |bl a=>
  cases ry
  cases x with
  |non=>cases rx;exact SeqAt.EqAt.bool_none a
  |bl b=>cases rx;exact SeqAt.EqAt.bool_bool a b
  |int b=>obtain⟨t,rfl⟩:=rx;exact SeqAt.EqAt.bool_int a b t
  |str b=>obtain⟨t,rfl⟩:=rx;exact SeqAt.EqAt.bool_str a b t
  |_=>exact M' (show false=true from fx) CZ
 |int a=>
  obtain⟨t',rfl⟩:=ry
  cases x with
  |non=>cases rx;exact SeqAt.EqAt.int_none a t'
  |bl b=>cases rx;exact SeqAt.EqAt.int_bool a t' b
  |int b=>obtain⟨t,rfl⟩:=rx;exact SeqAt.EqAt.int_int a t' b t
  |str b=>obtain⟨t,rfl⟩:=rx;exact IW a t' b t
  |_=>exact M' (show false=true from fx) CZ
 |str a=>
  obtain⟨t',rfl⟩:=ry
  cases x with
  |non=>cases rx;exact SeqAt.EqAt.str_none a t'
  |bl b=>cases rx;exact SeqAt.EqAt.str_bool a t' b
  |int b=>obtain⟨t,rfl⟩:=rx;exact IU a t' b t
  |str b=>obtain⟨t,rfl⟩:=rx;exact SeqAt.EqAt.str_str a t' b t
  |_=>exact M' (show false=true from fx) CZ
 |_=>exact M' (show false=true from fy) CZ
def XJ (x:V)(u:ae):Bool:=match u with
 |.none=>xN .non x
 |.bool b=>xN (.bl b) x
 |.int i _=>xN (.int i) x
 |.str z _=>xN (.str z) x
 |_=>false
theorem Mm {x:V}(r:qr y u)(f:jj y=true):XJ x u=xN y x:=by
 cases y with
 |non=>cases r;rfl
 |bl b=>cases r;rfl
 |int i=>obtain⟨t,rfl⟩:=r;rfl
 |str z=>obtain⟨t,rfl⟩:=r;rfl
 |_=>exact M' (show false=true from f) CZ
theorem Z1 {x:V}:∀{xs:List V} {us:List ae},zZ xs us->xs.all jj=true->us.any (XJ x)=xs.any λy=>xN y x
 |_,_,.nil,_=>rfl
 |y::xs,u::us,.cons r t,f=>by
  rw[eU,CW]at f;rw[Em,Em,Mm r f.1,Z1 t f.2]
theorem wG {x:V}(rx:qr x v)(fx:jj x=true):∀{xs:List V} {us:List ae},zZ xs us->xs.all jj=true->∀u∈us,IP A s u v (XJ x u)
 |_,_,.nil,_=>λu hu=>by cases hu
 |y::xs,u::us,.cons r t,f=>λu' hu=>by
  rw[eU,CW]at f;rcases CF.mp hu with rfl |hu
  ·rw[Mm r f.1];exact V6 r rx f.1 fx
  ·exact wG rx fx t f.2 u' hu
def M8 (x:V)(xs:List V):Bool:=xs.any λy=>xN y x
def BB (K:BFr)(neg:Bool):R2:=λx y H Q=>∃p xs,y=.ref p/\(zL K H p xs∨yT K H p xs)/\jj x=true/\xs.all jj=true/\Q (.bl (if neg then !M8 x xs else M8 x xs)) H
theorem Vq:uW X (ir .In) (BB X.K false):=by
 intro N' s σ H x y v u Q I rx ry h;obtain⟨p,xs,rfl,hq,fx,fs,q⟩:=h;cases ry;rcases hq with hq |hq
 ·obtain⟨its,r,pl,hz⟩:=I.list hq;refine SeqAt.in_listAt (XJ x) pl.isList (λw hw=>wG rx fx r fs w (by simpa using hw)) ⟨.bl _,H,I,Z,?_⟩;rw[show its.toArray.any (XJ x)=its.any (XJ x) by simp,Z1 r fs];exact q
 ·obtain⟨its,r,pl,hz⟩:=I.tuple hq;refine SeqAt.in_tupleAt (XJ x) pl (λw hw=>wG rx fx r fs w (by simpa using hw)) ⟨.bl _,H,I,Z,?_⟩;rw[show its.toArray.any (XJ x)=its.any (XJ x) by simp,Z1 r fs];exact q
theorem ZT:uW X (ir .NotIn) (BB X.K true):=by
 intro N' s σ H x y v u Q I rx ry h;obtain⟨p,xs,rfl,hq,fx,fs,q⟩:=h;cases ry;rcases hq with hq |hq
 ·obtain⟨its,r,pl,hz⟩:=I.list hq;refine SeqAt.notIn_listAt (XJ x) pl.isList (λw hw=>wG rx fx r fs w (by simpa using hw)) ⟨.bl _,H,I,Z,?_⟩;rw[show its.toArray.any (XJ x)=its.any (XJ x) by simp,Z1 r fs];exact q
 ·obtain⟨its,r,pl,hz⟩:=I.tuple hq;refine SeqAt.notIn_tupleAt (XJ x) pl (λw hw=>wG rx fx r fs w (by simpa using hw)) ⟨.bl _,H,I,Z,?_⟩;rw[show its.toArray.any (XJ x)=its.any (XJ x) by simp,Z1 r fs];exact q
theorem UF:uW X (ir .NotIn) (λx y H Q=>∃i j,x=.str i/\y=.str j/\Q (.bl (!(!(aN j i 0 j.length 1).isEmpty))) H):=by
 intro N' s σ H x y v u Q I rx ry h;obtain⟨i,j,rfl,rfl,q⟩:=h;obtain⟨t,rfl⟩:=rx;obtain⟨t',rfl⟩:=ry;exact notIn_str ⟨.bl _,H,I,Z,q⟩
theorem qp:jL X (.builtin "len") (λxs H Q=>∃p ys,xs=[.ref p]/\(zL X.K H p ys∨yT X.K H p ys)/\Q (.int ys.length) H):=by
 intro N' s σ H xs us Q I r h;obtain⟨p,ys,rfl,hq,q⟩:=h;obtain⟨u,rfl,rx⟩:=vB r;cases rx;have hn:=wJ;rcases hq with hq |hq
 ·obtain⟨its,r',pl,hz⟩:=I.list hq;have ζ:=r'.length;exact Calls.call_len_list pl.isList (by simp only[de]<;>lia) ⟨.int ys.length,H,I.tok _,⟨s.toks+1,by rw[de,ζ]⟩,q⟩
 ·obtain⟨its,r',pl,hz⟩:=I.tuple hq;have ζ:=r'.length;exact len_tuple pl (by simp only[de]<;>lia) ⟨.int ys.length,H,I.tok _,⟨s.toks+1,by rw[de,ζ]⟩,q⟩
theorem qf:jL X (.builtin "len") (λxs H Q=>∃z,xs=[.str z]/\z.length<=ar/\Q (.int z.length) H):=by
 intro N' s σ H xs us Q I r h;obtain⟨z,rfl,hz,q⟩:=h;obtain⟨u,rfl,t,rfl⟩:=vB r;have hn:=wJ;exact len_str (by lia) ⟨.int z.length,H,I.tok _,⟨_,Z⟩,q⟩
theorem Jy:jL X (.type "tuple") (λxs H Q=>∃p ys,xs=[.ref p]/\((zL X.K H p ys/\∀l,H l=none->Q (.ref l) (upd H l (.tup ys)))∨(yT X.K H p ys/\Q (.ref p) H))):=by
 intro N' s σ H xs us Q I r h;obtain⟨p,ys,rfl,h⟩:=h;obtain⟨u,rfl,rx⟩:=vB r;cases rx;rcases h with⟨hq,q⟩ |⟨hq,q⟩
 ·obtain⟨its,r',pl,hz⟩:=I.list hq;have ζ:=r'.length;refine K6 pl.isList (λh' kp=>?_) (by simp only[de]<;>omega);have I1:zF X N' σ H {s with heap:=h'}:=I.kept (t':=s.toks) kp
  have I2:zF X N' σ (upd H h'.objs.size (.tup ys)) {s with heap:=h'.push {cls:=.type "tuple",data:=.seq its.toArray}} :=
   I1.laid (t':=s.toks) (λb o e=>CN _ e) (Cz _) (show yk X.prog X.w _ _ _ (.tup ys) from ⟨hz,its,r',IsTup.new _ _⟩)
  exact⟨.ref h'.objs.size,_,I2,Z,q _ (I1.hok.fresh (Cz _))⟩
 ·obtain⟨its,r',pl,hz⟩:=I.tuple hq;exact call_tuple_same pl ⟨.ref p,H,I,Z,q⟩
def BR (K:BFr)(T:String)(x:V)(H:Hp):Prop:=match x with
 |.str _=>T = "str"
 |.int _=>T = "int"
 |.ref p=>(T = "list"/\∃xs,zL K H p xs)∨(T = "tuple"/\∃o,K.lookup p=some o/\o.cls=.type "tuple"/\o.dict=none) ∨
   (T = "dict"/\((∃kvs,H p=some (.dK kvs))∨∃kvs,H p=some (.dT kvs)))∨(T = "set"/\∃S n,H p=some (.set S n))
 |_=>False
theorem X7 {T:String}{x:V}(I:zF X N' σ H s)(r:qr x v)(ty:BR X.K T x H):
  s.TypeIs v T/\∀a,v=.ref a->∃ob,s.heap.get? a=some ob/\ob.dict=none:=by
 cases x with
 |str z=>
  obtain⟨t,rfl⟩:=r
  cases (show T = "str" from ty)
  exact⟨Ak s z t,λ_ e=>nomatch e⟩
 |int i=>
  obtain⟨t,rfl⟩:=r
  cases (show T = "int" from ty)
  exact⟨So s i t,λ_ e=>nomatch e⟩
 |ref p=>
  cases r;rcases ty with⟨rfl,xs,hq⟩ |⟨rfl,o,hk,hc,hd⟩ |⟨rfl,hk⟩ |⟨rfl,S,n,hk⟩
  ·obtain⟨its,_,pl,_⟩:=I.list hq;refine⟨pl.isList.typeIs,λa e=>?_⟩;cases e;obtain⟨o,n,e,c,hd,_⟩:=pl;exact⟨o,e,hd⟩
  ·refine⟨⟨o,I.kIn p o hk,hc⟩,λa e=>?_⟩;cases e;exact⟨o,I.kIn _ o hk,hd⟩
  ·have z:∃o,s.heap.get? p=some o/\o.ExactDict:=by
    rcases hk with⟨kvs,hk⟩ |⟨kvs,hk⟩
    ·obtain⟨_,_,_,_,o,_,_,e,ex,_⟩:=I.hok p _ hk;exact⟨o,e,ex⟩
    ·obtain⟨_,_,_,_,o,_,_,e,ex,_⟩:=I.hok p _ hk;exact⟨o,e,ex⟩
   obtain⟨o,e,ex⟩:=z;refine⟨⟨o,e,ex.1⟩,λa e2=>?_⟩;cases e2;exact⟨o,e,ex.2.1⟩
  ·obtain⟨o,_,_,_,e,ex,_⟩:=I.hok p _ hk;refine⟨⟨o,e,ex.1⟩,λa e2=>?_⟩;cases e2;exact⟨o,e,ex.2.1⟩
 |_=>exact iD ty
def cI (K:BFr)(T:String)(r:V->List V->Hp->VK->Prop)(to:TE):TE:=λσ H Q=>to σ H λx H1=>BR K T x H1/\r x [] H1 Q
def tY (K:BFr)(T:String)(r:V->List V->Hp->VK->Prop)(to:TE)(t:TA):TE:=λσ H Q=>to σ H λx H1=>BR K T x H1/\t σ H1 λxs H2=>r x xs H2 Q
variable {o:aK}{es:List aK}{t:TA}{name:af}{T id:String}{r:V->List V->Hp->VK->Prop}
theorem rV (pa:PlainAttrs T)(slot:Slot T name id)(hty:typeOf (.builtin id)=pure (.type "method_descriptor"))(hm:Mt X id r)(ho:PE X o to)(γ0:Ab o name X.env (eval o X.env)=eval o X.env:=by rfl)(γ1:(ν.endLine==X'.line)=true:=by rfl):PE X (.Call (.Attribute o name ν) [] [] X') (cI X.K T r to):=by
 intro N' s σ H Q I h;refine wpAny_Call_method0_late γ0 γ1 (qC (ho N' s σ H _ I h) λv s1 hM=>?_);obtain⟨x,H1,I1,r1,ty,q1⟩:=hM;obtain⟨h1,h2⟩:=X7 I1 r1 ty;exact⟨T,id,pa,slot,hty,h1,h2,iP Z (PySem.evalArgs_none (hm N' s1 σ H1 x [] v [] Q I1 r1 .nil q1))⟩
theorem qX (pa:PlainAttrs T)(slot:Slot T name id)(hty:typeOf (.builtin id)=pure (.type "method_descriptor"))(hm:Mt X id r)(ho:PE X o to)(ha:PA X (e::es) t)(γ0:Ab o name X.env (eval o X.env)=eval o X.env:=by rfl)(δ5:((i9 X' (aE (e::es) X.env)).all (λx=>!x.1)&&(HM X' (AX [] X.env)).all (λx=>x.1.isSome)
   && decide ((e::es).length+([]:List Av).length+(if ([]:List Av).isEmpty then 0 else 1)<30))=true:=by rfl) (γ1:(ν.endLine==X'.line)=true:=by rfl) (hs:aE (e::es) X.env=(false,eval e X.env)::aE es X.env:=by exact qv Z) (hplain:(i9 X' (aE es X.env)).any (·.1)=false:=by rfl) :
  PE X (.Call (.Attribute o name ν) (e::es) [] X') (tY X.K T r to t):=by
 intro N' s σ H Q I h;refine Aw γ0 δ5 γ1 rfl (qC (ho N' s σ H _ I h) λv s1 hM=>?_);obtain⟨x,H1,I1,r1,ty,q1⟩:=hM;obtain⟨h1,h2⟩:=X7 I1 r1 ty;refine⟨T,id,pa,slot,hty,h1,h2,?_⟩;have hA:=ha X' N' s1 σ H1 _ I1 q1;rw[hs]at hA ⊢;refine iP (by show(false || (i9 X' (aE es X.env)).any (·.1))=false;rw[hplain]<;>rfl) (i6 ?_);exact qC hA λus s2 hM=>by obtain⟨vs,H2,I2,r2,q2⟩:=hM;exact hm N' s2 σ H2 x vs v us Q I2 r1 r2 q2
end
def Cq (X:Cx)(id:String)(r:V->List V->Hp->VK->Prop):Prop :=
 ∀(N':List (aj×iN)) (s:av) (σ:St) (H:Hp) (x:V) (xs:List V) (v:ae) (us:List ae) (Q:VK),zF X N' σ H s->qr x v->zZ xs us->r x xs H Q ->
  wpAny (az X.prog X.w) X.A (call (.builtin id) (v::us)) (EP X N' σ Q) X.xe s
theorem zZ.one:∀{x:V} {us:List ae},zZ [x] us->∃u,us=[u]/\qr x u
 |_,_,.cons r .nil=>⟨_,Z,r⟩
theorem zZ.dropLast {us:List ae}(h:zZ xs us):zZ xs.dropLast us.dropLast:=by
 induction h with
 |nil=>exact .nil
 |cons r t ih=>
  cases t with
  |nil=>exact .nil
  |cons q t'=>exact .cons r ih
theorem zZ.rep {us:List ae}(h:zZ xs us):∀k:Nat,zZ (aw k xs).flatten (aw k us).flatten
 |0=>.nil
 |k+1=>by
  rw[d7,d7,dQ,dQ];exact zZ.append h (zZ.rep h k)
theorem tf (l:List α):l.eraseIdx (l.length-1)=l.dropLast:=by
 induction l with
 |nil=>rfl
 |cons a r ih=>
  cases r with
  |nil=>rfl
  |cons b r=>
   have e:(a::b::r).length-1=((b::r).length-1)+1:=by
    have h1:(a::b::r).length=r.length+2:=rfl;have h2:(b::r).length=r.length+1:=rfl;lia
   rw[e,List.eraseIdx_cons_succ,ih]
   all_goals rfl
theorem JU (its:List ae):∀(k:Nat) (O':List ae),
  IT (λx1 x2=>x1++x2) O'.toArray (aw k its.toArray)=(O'++(aw k its).flatten).toArray
 |0,O'=>by simp
 |k+1,O'=>by
  have e:O'.toArray++its.toArray=(O'++its).toArray:=by simp
  have e2:(O'++its)++(aw k its).flatten=O'++(aw (k+1) its).flatten:=by
   rw[d7,dQ,dc]
  rw[<- e2,<- JU its k (O'++its),<- e,d7,dU]
section
variable {l:aj}{zs:List V}
theorem zF.lset {its':List ae}{f:Array ae->Array ae}(I:zF X N' σ H s)(hH:H l=some (.lst xs))(e:s.heap.get? l=some {cls:=.type "list",data:=.seq its.toArray n})(hf:f its.toArray=its'.toArray)(hv:zZ ys its')(hz:ys.length<=ar):
  zF X N' σ (upd H l (.lst ys)) {s with heap:=s.heap.update l (ij f),toks:=t'}:=by
 have q:=PySem.IsL.update e f;rw[hf]at q;refine I.write (x:=l) (e:=l) (by rw[hH];exact trivial) (.inl Z) (λb' u hb hu=>(Du s.heap (ij f) (iT hb)).trans hu) ⟨_,q⟩ ?_;exact⟨hz,its',_,hv,q⟩
theorem zF.lnew (I:zF X N' σ H s)(hv:zZ ys its)(hz:ys.length<=ar):
  zF X N' σ (upd H s.heap.objs.size (.lst ys)) {s with heap:=s.heap.push {cls:=.type "list",data:=.seq its.toArray},toks:=t'} :=
 I.laid (λ_ _ q=>CN _ q) (Cz _) ⟨hz,its,0,hv,dj _ Z⟩
theorem zF.fresh (I:zF X N' σ H s):H s.heap.objs.size=none:=I.hok.fresh (Cz _)
theorem zF.lstM (I:zF X N' σ H s)(hH:H l=some (.lst xs)):xs.length<=ar/\∃(its:List ae) (n:Nat),zZ xs its/\xs.length=its.length/\s.heap.get? l=some {cls:=.type "list",data:=.seq its.toArray n}:=by
 obtain⟨z,its,n,r,e⟩:=I.hok l _ hH;exact⟨z,its,n,r,r.length,e⟩
theorem lY (h:n<=ar):Ad n=false:=by
 unfold Ad;exact j' (by lia)
end
section
def MA:V->List V->Hp->VK->Prop:=λx vs H Q=>∃l xs y,x=.ref l/\vs=[y]/\H l=some (.lst xs)/\xs.length<ar/\Q .non (upd H l (.lst (xs++[y])))
theorem qT:Cq X "list.append" MA:=by
 intro N' s σ H x vs v us Q I rx rv h;obtain⟨l,xs,y,rfl,rfl,hH,hz,q⟩:=h;cases rx;obtain⟨u,rfl,ru⟩:=rv.one;obtain⟨z,its,n,r,hl,e⟩:=I.lstM hH;refine AM F.slot_list_append ⟨_,e,Z⟩ F.entry_list_append (F.args_list_append_2 _ _) (PySem.list_append l its.toArray n u (by rw[de];lia)) ⟨e,?_⟩;refine⟨.non,_,I.lset (its':=its++[u]) hH e (by simp) (r.append (.cons ru .nil)) ?_,Z,q⟩;rw[CA,dN];lia
def cy:R2:=λx y H Q=>∃l b xs zs,x=.ref l/\y=.ref b/\H l=some (.lst xs)/\H b=some (.lst zs)/\xs.length+zs.length<=ar/\∀p,H p=none->Q (.ref p) (upd H p (.lst (xs++zs)))
theorem Rq:uW X (su .Add) cy:=by
 intro N' s σ H x y v u Q I rx ry h;obtain⟨l,b,xs,zs,rfl,rfl,hH,hB,hz,q⟩:=h;cases rx;cases ry;obtain⟨z,its,n,r,hl,e⟩:=I.lstM hH;obtain⟨z2,its2,n2,r2,hl2,e2⟩:=I.lstM hB;refine PySem.P.add_list e e2 ?_ (by rw[de,de];omega);have ea:its.toArray++its2.toArray=(its++its2).toArray:=by simp
 rw[ea];exact⟨.ref _,_,I.lnew (t':=s.toks) (r.append r2) (by rw[CA];omega),Z,q _ I.fresh⟩
def BM:R2:=λx y H Q=>∃l k xs,x=.ref l/\y=.int k/\H l=some (.lst xs)/\-(2 ^ 63)<=k/\k<2 ^ 63/\xs.length*k.toNat<=ar /\
 ∀p,H p=none->Q (.ref p) (upd H p (.lst (aw k.toNat xs).flatten))
theorem G5 (xs:List α)(k:Nat):(aw k xs).flatten.length=k*xs.length:=by
 induction k with
 |zero=>simp
 |succ k ih=>rw[d7,dQ,CA,ih,Kr,Ks]
theorem tJ:uW X (su .Mult) BM:=by
 intro N' s σ H x y v u Q I rx ry h;obtain⟨l,k,xs,rfl,rfl,hH,h1,h2,hz,q⟩:=h;cases rx;obtain⟨t,rfl⟩:=ry;obtain⟨z,its,n,r,hl,e⟩:=I.lstM hH;have ζ:its.toArray.size*k.toNat<=ar:=by rw[de,<- hl];exact hz
 have hcap:¬its.toArray.size*k.toNat > (2 ^ 63-1)/8:=by
  have:(ar:Nat)<=(2 ^ 63-1)/8:=by decide
  lia
 have hfit:¬(!Builtin.List.listFitsIndex k)=true:=by
  rw[fitsIndex_both h1 h2];exact CZ
 have hlong:¬Ad (its.toArray.size*k.toNat)=true:=by
  rw[lY ζ];exact CZ
 have δ6:IT (λx1 x2=>x1++x2) #[] (aw (if its.toArray.isEmpty=true then 0 else k.toNat) its.toArray)=(aw k.toNat its).flatten.toArray:=by
  have f0:∀m:Nat,IT (λx1 x2=>x1++x2) #[] (aw m its.toArray)=(aw m its).flatten.toArray:=λm=>by
   have:=JU its m [];rw[Di]at this;exact this
  rw[f0]
  cases its with
  |nil=>simp
  |cons a r'=>rw[K' (by simp)]
 refine wpAny_binaryOp_repeat_ref (T:="list") (U:="int") (by decide) ⟨_,e,Z⟩ (λs'=>So s' k t) noFill_list_mul F.fills_int_mul P_ repeat_list F.slot_int_index.lookup
  (AM P_ (So s k t) F.entry_int_rmul (F.args_int_rmul_2 _ _) (int___rmul___int_list k t l its.toArray n)
   ⟨e,Z,⟨_,e,Z⟩,AM F.slot_list_mul ⟨_,e,Z⟩ F.entry_list_mul (F.args_list_mul_2 _ _) (AutoListH.list___mul___list_int_3 l its.toArray n k t hfit hcap hlong) ⟨e,?_⟩⟩)
 rw[δ6];exact⟨.ref _,_,I.lnew (t':=s.toks) (r.rep k.toNat) (by rw[G5,eW];exact hz),Z,q _ I.fresh⟩
end
section
end
section
end
end L2
variable {XP:(af->Option ae)->ia->Prop}{YP:aZ->ia->Prop}
namespace Att
open PySem PySem.W PySem.Calls PyProof.Rows
theorem Q2 {P:Params}:∀(ns:List Int) (vs:List ae),WellAll P h vs (ns.map WData.int)->R_ vs ns:=by
 intro ns
 induction ns with
 |nil=>
  intro vs w;rw[DD]at w;cases w;exact .nil
 |cons n ns ih=>
  intro vs w;rw[CO]at w
  cases w with
  |cons a b=>
   cases a;exact .cons _ _ (ih _ b)
theorem O3 {l:OpenLaw}(hn:l.most=some n){P:Params}{args:List WData}{vals:List ae}
  (hpre:l.row.toRowW.claim.pre args=true) (hwl:WellAll P h vals args) :
  ∃a vs ns,vals=[aG a]/\args=[WData.list (ns.map WData.int)]/\h.get? a=some {cls:=.type "list",data:=.seq vs.toArray}/\R_ vs ns/\ns.length<=n:=by
 have hsh:WShape.hasAll [] args [.list .int]=true:=(pre_splitW hpre).1;have hc:l.pre.holds [] {args:=args} = true:=(pre_splitW hpre).2;obtain⟨d,r,rfl,h1,h2⟩:=hasAllW_cons hsh;obtain rfl:=hasAllW_nil h2;obtain⟨xs,rfl,h3⟩:=hasW_list h1;obtain⟨ns,rfl⟩:=items_int h3
 have ζ:ns.length<=n:=by
  unfold OpenLaw.pre at hc
  have h4:(WTm.not (.lt (.lit (.int (n:Int))) (.len (.arg 0)))).holds [] {args:=[.list (ns.map .int)]} = true:=by
   have h4:=(holds_andW hc).1;rw[hn]at h4;exact h4
  have h5:=condW_of h4 (w_not (w_lt w_lit (w_len_list (w_arg Z))));rw[Cw]at h5;refine dY λq=>?_;have q':(n:Int)<((ns.length:Nat):Int):=by omega
  first
   | (rw[i' q']at h5;exact M' h5 (by decide))
   | (simp at h5;omega)
 cases hwl with
 |cons w1 w2=>
  cases w2
  cases w1 with
  |list ho hall=>exact⟨_,_,ns,Z,Z,ho,Q2 ns _ hall,ζ⟩
theorem pj (l:OpenLaw)(args:List WData):l.row.toRowW.claim.post args (.bool true) args=true :=
 postW_of (r:=l.row.toRowW) (X:=(true==true))
  (show WShape.has [] (.bool true) .bool=true by first |rfl |decide |simp[WShape.has,WShape.arms,WShape.armsAll])
  (show(WTm.eq .res (.lit (.bool true))).value [] {args:=args,res:=some (.bool true),after:=args} = some (.bool (true==true)) from w_eq_bool (w_res Z) w_lit) rfl
theorem US {l:OpenLaw}{d:Y_}
  (hn:l.most=some n) (hdf:d.params.defaults=[]) (call:∀(w:aZ) (s₀ s₁:av) (mg mb:af->Option ae) (fa:aj) (o:iN) (pm cd Θ:ae) (a:aj) (vs:List ae) (ns:List Int),
   Ground q ξ [] XP w s₀ mg mb s₁.heap->YP w s₁.heap ->
   s₁.heap.get? fa=some o->o.data=.func (docDef d.name d.params d.body d.scope pm cd Θ)->s₁.heap.CodeRec cd d.name->mg d.name=some (.ref fa) ->
   s₁.heap.get? a=some {cls:=.type "list",data:=.seq vs.toArray}->R_ vs ns->ns.length<=n->s₁.gens = #[] ->
   codeAny (az l.prog w) Io (.call (.ref fa) ⟨[.ref a],[]⟩) (λr s'=>r=.ok (.ret (.bool true))/\OldK s₁.heap s'.heap/\s'.os=s₁.os/\A_ s'.gens) s₁) :
  WalkO q ξ XP YP l.row.toRowW d [] (λf vs=>IQ f vs):=by
 intro w s₀ s₁ mg mb G Y fa o pm cd Θ dV kV ho hd hcd hD hmg hg args vals as hpre hlay hrd hwl hlo;obtain rfl:dV=.none:=Dflts.none hD hdf;obtain rfl:kV=.none:=Dflts.noKw hD;obtain⟨a,vs,ns,rfl,rfl,hobj,δ7,ζ⟩:=O3 hn hpre hwl;refine enter_call (sZ (call w s₀ s₁ mg mb fa o pm cd Θ a vs ns G Y ho (fd_plain hd) hcd hmg hobj δ7 ζ hg) λr s' hq=>?_);obtain⟨rfl,h2,h3,h4⟩:=hq;exact⟨.inl ⟨.bool true,.bool true,[],Z,λ_=>rfl,.bool true,pj l _,λ_=>⟨iH,λ_ hm=>(nomatch hm)⟩⟩,h2,h3,h4⟩
section
variable {K:A6}
end
end Att
variable {CX:L2.Yg}{sp:L2.Sp}{B:Int}
namespace L2
open PySem PySem.Spec PyProof.Rows
theorem VD:∀{vs:List ae} {ns:List Int},R_ vs ns->zZ (ns.map V.int) vs
 |_,_,.nil=>.nil
 |_,_,.cons n t h=>.cons ⟨t,Z⟩ (VD h)
def RL (H:Hp):Prop:=∀b,H b=none∨∃o xs,H b=some (.frz o (.lst xs))
theorem mF {K:BFr}{mg mb:af->Option ae}{k:Nat}{fa:aj}{s₁:av}{vs:List ae}{ns:List Int}
  (KX:K.In s₁.heap) (hns:s₁.heap.Ns au mg) (hb:s₁.heap.Ns Fj mb) (hbb:∀x:af,x≠"__name__"->mb x=ig x) (hlim:s₁.heap.NoLimit) (hg:s₁.gens = #[]) (ha:s₁.heap.get? a=some {cls:=.type "list",data:=.seq vs.toArray}) (hi:R_ vs ns) (hl:ns.length<=ar) (hr:vS k Io) (F:∀base:ia,K.In base->base.Ns au mg->qD P w K mg base CX k fa fd [x] sp) (hbind:∀(s:av) (u:ae),Hs s fd ⟨[u],[]⟩ [(x,u)]) (hsp:∀H:Hp,RL H->zL K H a (ns.map V.int)->sp [.ref a] H (λv _=>v=.bl true) λ_ _ _=>False) (hCX:∀H e s',CX [] H s₁ (λ_ _ _=>False) e s'->False) :
  codeAny (az P w) Io (.call (.ref fa) ⟨[.ref a],[]⟩) (λr s'=>r=.ok (.ret (.bool true))/\OldK s₁.heap s'.heap/\s'.os=s₁.os/\A_ s'.gens) s₁:=by
 have rv:=VD hi;have lenV:=hi.length
 have core:∀H:Hp,RL H->zL K H a (ns.map V.int)->wL P w H s₁.heap->(∀b,H b≠none->b=a)->(H a≠none->K.lookup a=none) ->
   codeAny (az P w) Io (.call (.ref fa) ⟨[.ref a],[]⟩) (λr s'=>r=.ok (.ret (.bool true))/\OldK s₁.heap s'.heap/\s'.os=s₁.os/\A_ s'.gens) s₁:=by
  intro H hO hS hok hA hK;have base_of:∀{b:aj} {o:iN},s₁.heap.get? b=some o->H b=none->(V4 s₁.heap H).get? b=some o:=λe n=>lU e n
  have noA:∀{b:aj} {o:iN} {es:Array DictEntry} {ep:Nat},s₁.heap.get? b=some o->o.data=.dict es ep->H b=none:=λ{b o es ep} e d=>by
   cases q:H b with
   |none=>rfl
   |some u=>
    have e':b=a:=hA b (by rw[q];simp);subst e';rw[ha]at e;cases e;have d':Data.seq vs.toArray _=Data.dict es ep:=d
    cases d'
  have nsK:∀{b:aj} {m:af->Option ae},s₁.heap.Ns b m->(V4 s₁.heap H).Ns b m:=λ{b m} ⟨o,es,ep,e,d,r⟩=>⟨o,es,ep,base_of e (noA e d),d,r⟩
  have hKb:K.In (V4 s₁.heap H):=λb o e=>base_of (KX b o e) (by
   cases q:H b with
   |none=>rfl
   |some u=>
    have e':b=a:=hA b (by rw[q];simp);subst e';rw[hK (by rw[q];simp)]at e;cases e)
  have hM:Mod K mg (V4 s₁.heap H):=⟨hKb,nsK hns,⟨mb,nsK hb,hbb⟩,let ⟨mc,h1,h2⟩:=hlim;⟨mc,nsK h1,h2⟩⟩;have e0:L5 P w K mg (V4 s₁.heap H) Io [] s₁ H:=⟨Z,hM,λb o e=>Nj e,DW (OE _ _),trivial,λb hb=>M' (show b∈([]:List aj) from hb) (by simp),hok,.of_eq hg⟩;refine sZ ((F _ hKb (nsK hns)).run Io [] s₁ H ⟨[.ref a],[]⟩ [.ref a] [.ref a] _ _ hr e0 (hbind s₁ (.ref a)) (.cons Z .nil) (hsp H hO hS)) λr s' h=>?_
  cases r with
  |error e=>exact(hCX H e s' h).elim
  |ok fl=>
   cases fl with
   |next=>exact iD h
   |brk=>exact iD h
   |cont=>exact iD h
   |ret u=>
    obtain⟨v,H',os,bare,un,hok',r',q⟩:=h;have q':v=.bl true:=q;subst q';obtain rfl:u=IM true:=r';refine⟨Z,OldK.of_keep λb o e=>?_,os,bare⟩
    cases q:H b with
    |none=>exact un.keep b o e q (by intro z;exact M' (show b∈([]:List aj) from z) (by simp)) (by simp)
    |some u=>
     rcases hO b with z |⟨ob,xs,z⟩
     ·rw[q]at z;cases z
     ·have z2:=un.frzs b ob _ z;obtain⟨e1,_⟩:=hok b _ z;obtain⟨e2,_⟩:=hok' b _ z2;rw[e]at e1;cases e1;exact e2
 cases hk:K.lookup a with
 |some o=>
  have e:=KX a o hk;rw[ha]at e;cases e;refine core (λ_=>none) (λ_=>.inl Z) (.inr ⟨_,vs.toArray,_,hk,Z,Z,Z,by rw[de,lenV];exact hl,by simpa using rv⟩) (λb u z=>by have z':(none:Option HO)=some u:=z;cases z') (λb z=>M' Z z) λz=>M' rfl z
 |none=>
  refine core (λb=>if b=a then some (.frz {cls:=.type "list",data:=.seq vs.toArray} (.lst (ns.map V.int))) else none) (λb=>?_) (.inl (.inr ⟨{cls:=.type "list",data:=.seq vs.toArray},L' Z⟩)) (λb u z=>?_) (λb z=>?_) λ_=>hk
  ·by_cases hb:b=a
   ·exact .inr ⟨_,_,L' hb⟩
   ·exact .inl (K' hb)
  ·by_cases hb:b=a
   ·have z':=(L' hb).symm.trans z
    cases z'
    subst hb;exact⟨ha,by rw[Cw];exact hl,vs,_,rv,ha⟩
   ·have z':=(K' hb).symm.trans z
    cases z'
  ·by_cases hb:b=a
   ·exact hb
   ·exact M' (K' hb) z
theorem nD {l:HA}{k:Nat}{q:f_}{ξ:List af}{XP:(af->Option ae)->ia->Prop}{d:Y_}{K:Params->BFr}{CX:aZ->Yg}{sp:aZ->Sp}
  (hn:l.most=some n) (hn2:n<=ar) (hdf:d.params.defaults=[]) (hr:vS k Io) (hY:∀(w:aZ) (h:ia),YP w h->(K w.params).In h) (F:∀(w:aZ) (mg:af->Option ae) (fa:aj) (h:ia),(K w.params).In h->h.Ns au mg->mg d.name=some (.ref fa) ->
   ∃fd:AV,(∀(s:av) (u:ae),Hs s fd ⟨[u],[]⟩ [(x,u)]) /\
    ∀base:ia,(K w.params).In base->base.Ns au mg->qD l.prog w (K w.params) mg base (CX w) k fa fd [x] (sp w)) (hsp:∀(w:aZ) (H:Hp) (a:aj) (ns:List Int),ns.length<=n->RL H->zL (K w.params) H a (ns.map V.int)->sp w [.ref a] H (λv _=>v=.bl true) λ_ _ _=>False) (hCX:∀(w:aZ) (H:Hp) (s:av) (e:ae) (s':av),CX w [] H s (λ_ _ _=>False) e s'->False) :
  S_ q ξ XP YP l.row.toRowW d [] (λf vs=>IQ f vs):=by
 refine Att.US hn hdf λw s₀ s₁ mg mb fa o pm cd Θ a vs ns G Y ho hd hcd hmg hobj δ7 ζ hg=>?_;have KX:=hY w _ Y;obtain⟨fd,hb,hF⟩:=F w mg fa _ KX G.T.g hmg;exact mF KX G.T.g G.T.b G.T.builtins G.T.nolimit hg hobj δ7 (CD ζ hn2) hr hF hb (λH hO hS=>hsp w H a ns ζ hO hS) λH e s'=>hCX w H s₁ e s'
abbrev qQ:Yg:=λ_ _ _ _ _ _=>False
abbrev E0:XK:=λ_ _ _=>False
theorem zT:Za qQ X E0:=λ_ _ _ _ _ _ _ h=>h.elim
structure jn (K:BFr)(x qual:af)(st:sT)(f:aj)(fd:AV):Prop where
 ex:∃(oc:ae) (od:Option aj) (kV Θ pm:ae) (an:Option aj) (V' ct:ae) (osl:Array (Option ae)),
  fd=sI x qual (uU st) (jX st) (z5 st) .none kV Θ pm an V' ct/\K.lookup f=some ⟨oc,od,.func fd,osl⟩/\Ie K V' qual=true
 kp:sY K (.ref f)=true
section
variable {K:BFr}{mg:af->Option ae}
theorem jn.ok {N:List af}{k:Nat}(F:jn K x qual st f fd)(S:Zn N ps (z5 st))(len:∀vs H Q E,sp vs H Q E->vs.length=ps.length)(Ω:∀(V':ae) (A:sC) (outer:List Iv) (s:av) (H:Hp) (vs:List V) (Q:VK) (E:XK),vS k (A.deeper (iu qual (z5 st) s.heap.objs.size f V'))->sp vs H Q E ->
   ∃t,jg (QZ qQ P w K mg base N qual (z5 st) f V' A outer s H E).nox (jX st) t/\t {nx:=λ_ H'=>Q .non H',rt:=Q} (u7 N vs) H):qD P w K mg base qQ (k+1) f fd ps sp:=by
 obtain⟨oc,od,kV,Θ,pm,an,V',ct,osl,rfl,lk,hcd⟩:=F.ex;refine N8 lk hcd S len λA outer s H vs Q E hr hsp=>?_;obtain⟨t,h,q⟩:=Ω V' A outer s H vs Q E hr hsp;exact⟨t,h.nox,q⟩
theorem jn.binds (F:jn K x qual st f fd)(h:∀(kV Θ pm:ae) (an:Option aj) (V' ct:ae) (us:List ae),us.length=ps.length->Si (sI x qual (uU st) (jX st) (z5 st) .none kV Θ pm an V' ct) ⟨us,[]⟩=pure (ps.zip us)):QQ K fd ps []:=by
 obtain⟨oc,od,kV,Θ,pm,an,V',ct,osl,rfl,lk,hcd⟩:=F.ex;exact .all (h kV Θ pm an V' ct)
theorem RX {oc:ae}{od an:Option aj}{osl:Array (Option ae)}{kV Θ V' ct:ae}(l:K.lookup f=some ⟨oc,od,.func (sI x qual (uU st) (jX st) (z5 st) .none kV Θ pm an V' ct),osl⟩)(c:Ie K V' qual=true)(k:sY K (.ref f)=true):jn K x qual st f (sI x qual (uU st) (jX st) (z5 st) .none kV Θ pm an V' ct):=⟨⟨oc,od,kV,Θ,pm,an,V',ct,osl,Z,l,c⟩,k⟩
end
theorem rJ {k:Nat}(hr:vS k A):A.units+1<sV:=DX (eX (by decide:1<=64) _) hr.units
section
theorem pv (i:Nat){pos:iS}(hN:X.N[i]?=some x:=by rfl)(hv:cq X.env.scope x:=by first |exact ax Z |exact Ao (ax rfl) |exact Ao (Ao rfl))(hd:(x==("__debug__":af))=false:=by decide)(hcd:(x==("__classdict__":af))=false:=by decide):PE X (.Name x pos) (zN i):=Ry hN hv hd hcd
end
theorem qO {A B:Prop}(h:B):if false=true then A else B:=by
 rw[K' CZ];exact h
theorem yh {A B:Prop}(h:A):if true=true then A else B:=by
 rw[L' rfl];exact h
theorem yo {c A B:Prop}[Decidable c](h1:c->A)(h2:¬c->B):if c then A else B:=by
 by_cases h:c
 ·rw[L' h];exact h1 h
 ·rw[K' h];exact h2 h
def zj (H H':Hp):Prop:=∀b o,H b=some o->H' b=some o
theorem zj.refl (H:Hp):zj H H:=λ_ _ h=>h
theorem zj.trans {H2:Hp}(a:zj H H1)(b:zj H1 H2):zj H H2:=λc o h=>b c o (a c o h)
theorem zj.free (e:zj H H'){l:aj}(h:H' l=Option.none):H l=Option.none:=by
 cases q:H l with
 |none=>rfl
 |some o=>
  rw[e l o q]at h;cases h
theorem zj.seq {K:BFr}(e:zj H H')(h:zL K H a xs):zL K H' a xs:=by
 rcases h with (h |⟨o,h⟩) |h
 ·exact .inl (.inl (e _ _ h))
 ·exact .inl (.inr ⟨o,e _ _ h⟩)
 ·exact .inr h
end L2
namespace XK
open PySem PySem.W PySem.Spec PySem.Calls PyProof.Rows
section
variable {K:A6}{x:aj}{ox:iN}
structure ui (K:A6)(D:aj):Prop where
 cls:(clsIn K D).isSome=true
 ga:An K (.ref D) "__getattribute__" = some (some (.builtin "BaseException.__getattribute__"))
 hook:An K (.ref D) "__getattr__" = some none
 ca:An K (.ref D) "__class__" = some (some (.builtin "object.__class__"))
 get:specialIn K (.builtin "object.__class__") "__get__" = some (some (.builtin "getset_descriptor.__get__"))
 tk:takesIn K (.builtin "object.__class__")=some true
 ob:mroIn K D (.type "object")=some true
 bx:mroIn K D (.type "BaseException")=some true
theorem Bm (c:ui K D):findObj K D none "__class__" = some (.bind (.builtin "getset_descriptor.__get__") (.builtin "object.__class__")):=by
 obtain⟨cd,hc⟩:=DG.mp c.cls;unfold findObj;rw[hc,Option.bind_some,c.ca,Option.bind_some]
 simp[c.get,c.tk]
theorem lb {nameV:ae}{Q:Unit->av->Prop}(X:K.In s.heap)(c:ui K D)(I:InstAt s.heap x ox D none)(h:Q () s):
  wpAny M A (FZ "BaseException.__getattribute__" ⟨[.ref x,nameV],[]⟩) Q E s:=by
 have hk:builtinKind "BaseException.__getattribute__" = some .slot:=by decide+kernel
 have hsplit:splitId "BaseException.__getattribute__" = some ("BaseException","__getattribute__"):=by decide+kernel
 have ha:=F.args_bexc_ga (.ref x) nameV;have L0:=I.type (M:=M);have L1:=looks_mroIn (M:=M) X c.bx;obtain⟨hh,g,d,t,os⟩:=s;simp only[FZ,hk,hsplit];unfold IH
 repeat (first |exact h |refine aa (L0.at ?_) |refine aa (L1.at ?_) |refine L0.at ?_ |refine L1.at ?_ |wp_step)
theorem mm {tk:Iw}{Q:Fin->av->Prop}(X:K.In s.heap)(c:ui K D)(I:InstAt s.heap x ox D none)(h:Q (.done (.ret (.ref D))) s):
  wpAny (az prog w) A (Builtin.«object.__getattribute__» ⟨[.ref x,.str "__class__" tk],[]⟩) Q E s:=by
 have L0:=I.type (M:=az prog w);have L1:=looks_find (M:=az prog w) X I (Bm c);obtain⟨hh,g,d,t,os⟩:=s;unfold Builtin.«object.__getattribute__»
 repeat (first |refine aa (L0.at ?_) |refine aa (L1.at ?_) |wp_step)
 exact class_get X I c.ob (aq h)
theorem N3 {Q:Option ae->av->Prop}(X:K.In s.heap)(c:ui K D)(I:InstAt s.heap x ox D none)(h:Q (some (.ref D)) {s with toks:=s.toks+1}):
  wpAny (az prog w) A (Sq (.ref x) "__class__") Q E s:=by
 have L0:=I.type (M:=az prog w);have L1:=looks_findIn (M:=az prog w) X c.ga;have L2:=looks_findIn (M:=az prog w) X c.hook;have f3:=PySem.F.attr_ValueError.ga.bind (.ref x);have hx2:(AS "BaseException.__getattribute__" == AS "object.__getattribute__")=false:=by decide+kernel
 have hx1:(onTheHeap (aG D)&&AS "BaseException.__getattribute__" == AS "object.__getattribute__")=false:=by rw[hx2];rfl
 obtain⟨hh,g,d,t,os⟩:=s;unfold Sq getAttrBy? getAttrBy;refine aa (wpAny_mkText (aa (sP (aY (aa (L0.at (aa (L1.at ?_))))))));dsimp only;rw[hx1,K' CZ];unfold getAttrByItsOwn hookBefore;rw[show onTheHeap (aG D)=true from Z,L' rfl];refine aa (L2.at ?_);refine aa (sP (aY ?_));unfold callGetattribute;rw[d6,K' CZ];unfold boundAndCalled;rw[f3];refine aa (aq ?_);refine Ht (AY PySem.F.attr_ValueError.ga.plain F.entry_bexc_ga (lb (s:=⟨hh,g,d,t+1,os⟩) X c I (mm (s:=⟨hh,g,d,t+1,os⟩) X c I ?_)))
 repeat (first |exact h |wp_step)
theorem Ld (c:ui K D):KitX K (.ref x) (.ref D) (λh=>InstAt h x ox D none) where
 ty:=λ_ _ _ I=>I.type
 it:=λM h X _=>by
  obtain⟨cd,hc⟩:=DG.mp c.cls;unfold clsIn at hc
  split at hc
  ·rename_i ho;intro A' Q' E' s' k q;unfold isType loadHead;exact aa (wpAny_loadPart (k _ _ (X _ _ ho)) (aq q))
  ·cases hc
 ne:=λh tp dd its n sl X htp=>by
  obtain⟨cd,hc⟩:=DG.mp c.cls;refine EO.mpr λq=>?_;obtain rfl:D=tp:=Value.ref.inj (beq_iff_eq.mp q);unfold clsIn at hc
  split at hc
  ·rename_i ho
   cases (X _ _ ho).symm.trans htp
  ·cases hc
 ca:=λX I k=>N3 X c I k
end
end XK
variable {ts:List L2.V}{oe:iN}{np hpos p1:iS}{tb:L2.TS}{σ':L2.St}{b₀:Array aR}{Nc:List af}{ρ:List aK}{χ η:aK}{src:List (Option Nat)}{tt:L2.TT}{tl:L2.TE}{wi:L2.TI}{qs:List (af×Int)}{ta:L2.TA}
namespace L2
open PySem PySem.Spec PyProof.Rows
section
structure nW (fl:List aj)(e:aj)(oe:iN)(mark:ae)(h h':ia)(T:aj):Prop where
 keep:∀b o,b≠e->b∉fl->h.get? b=some o->h'.get? b=some o
 slot:∀b o,b≠e->h.get? b=some o->∃sl,h'.get? b=some {o with slots:=sl}
 new:h.objs.size<=T
 recd:h'.get? e=some (oe.mapFields (·.setIfInBounds 1 (.ref T)))
 head:∃oT ts,h'.get? T=some oT/\oT.data=.fields ts/\ts[3]?=some mark
theorem Mj {L e:aj}{head:ae}{b:Bool}{Q:Unit->av->Prop}
  (hfr:A.frames=some (env::outer)) (hl:s.heap.FunFrames base (env::outer)) (hf:env.frame=some L) (he:s.heap.get? e=some oe) (hd:oe.data=.fields vs) (hz:1<vs.size) (k:∀h' T,nW ((env::outer).filterMap (·.frame)) e oe (iz L) s.heap h' T->Q () {s with heap:=h'}) :
  wpAny M A (do AZ (.ref e) 1 (<- A9 head (<- frameOf env) .none (iz L) .none (<- entryPlaceOf L b))) Q E s:=by
 have off:e∉(env::outer).filterMap (·.frame):=λhm=>by
  obtain⟨_,o,ho,nf⟩:=hl.mem hm;rw[he]at ho;cases ho;exact nf vs hd
 refine aa (wpAny_frameOf_fun hfr hl hf λg so=>?_);refine aa (wpAny_entryPlaceOf λpl place=>?_);refine aa ?_;unfold A9 newFields;refine a_ ?_ (place.sizeOk5 _ _ _ _ _);have g1:g.get? e=some oe:=(so.2.1 e off).trans he;have g2:=CN (h:=g) {cls:=.type "traceback",dict:=none,data:=.fields ([head,.ref L,.none,iz L,.none]++(if pl.isEmpty then aw 6 aS else pl)).toArray} g1;have ne:g.objs.size≠e:=DU (CH g1);refine Ax g2 hd hz (k _ g.objs.size ?_)
 have oth:∀c o,c≠e->g.get? c=some o->((g.push {cls:=.type "traceback",dict:=none,data:=.fields ([head,.ref L,.none,iz L,.none]++(if pl.isEmpty then aw 6 aS else pl)).toArray}).update e (iZ (·.setIfInBounds 1 (aG g.objs.size)))).get? c=some o:=λc o hc q=>by
  rw[Du _ _ (iT hc)];exact CN _ q
 refine⟨λc o hc hm q=>oth c o hc ((so.2.1 c hm).trans q),λc o hc q=>?_,by rw[so.1];exact Cz _,?_,?_⟩
 ·obtain⟨sl,z⟩:=so.2.2 c o q;exact⟨sl,oth c _ hc z⟩
 ·exact DV _ g2 (sQ (iY hd _))
 ·refine⟨_,_,(Du _ _ (iT ne)).trans (dj g Z),Z,?_⟩
  simp
end
abbrev CT:=Hp->Array ae->Prop
def C0:CT:=λ_ vs=>vs[2]?=some .none
inductive Y2 (H:Hp):Array ae->Prop where
 |no {vs:Array ae}:vs[2]?=some .none->Y2 H vs
 |on {vs:Array ae} {eb:aj} {ob:iN} {ws:Array ae} {u:HO}:vs[2]?=some (.ref eb)->H eb=some (.frz ob u)->ob.data=.fields ws->Y2 H ws->Y2 H vs
class YH (C:CT):Prop where
 keep:∀{H:Hp} {vs:Array ae} {v:ae},C H vs->C H (vs.setIfInBounds 1 v)
 zero:∀{H:Hp} {vs:Array ae},vs[2]?=some .none->C H vs
 ctx:∀{H:Hp} {vs:Array ae},C H vs->Y2 H vs
theorem Pm {n:ae}(h:vs[2]?=some n):(vs.setIfInBounds 1 v)[2]?=some n:=by
 rw[Array.getElem?_setIfInBounds_ne (by decide)];exact h
instance:YH C0:=⟨Pm,id,.no⟩
instance:YH Y2:=⟨λh=>by
 cases h with
 |no h=>exact .no (Pm h)
 |on a b c d=>exact .on (Pm a) b c d,.no,id⟩
def kT (C:CT)(X:Cx)(N':List (aj×iN))(H:Hp)(ea:aj)(cls fl:ae)(h:ia):Prop :=
 yj X N' H ea/\∃oe vs,h.get? ea=some oe/\(oe.cls=cls/\oe.dict=none)/\oe.data=.fields vs/\C H vs /\
  ((vs[1]?=some .none/\fl=.none)∨∃T oT ts,vs[1]?=some (.ref T)/\T≠ea/\yj X N' H T/\h.get? T=some oT/\oT.data=.fields ts/\ts[3]?=some fl)
section
variable {Q:Unit->av->Prop}{C:CT}[ct:YH C]
theorem zF.flown (I:zF X N' σ H s)(f:yj X N' H b)(k:∀c o,c≠b->s.heap.get? c=some o->h'.get? c=some o):zF X N' σ H {s with heap:=h'} :=
 I.turned (t':=s.toks) k f.1 f.2.1 f.2.2.2.1 f.2.2.2.2.1 f.2.2.2.2.2
theorem yk.some {o:HO}(x:yk P w H h a o):∃u,h.get? a=some u:=by
 cases o with
 |lst xs=>obtain⟨_,_,_,_,e⟩:=x;exact⟨_,e⟩
 |tup xs=>obtain⟨_,_,_,u,e,_⟩:=x;exact⟨_,e⟩
 |dK kvs=>obtain⟨_,_,_,_,u,_,_,e,_⟩:=x;exact⟨u,e⟩
 |dT kvs=>obtain⟨_,_,_,_,u,_,_,e,_⟩:=x;exact⟨u,e⟩
 |set S n=>obtain⟨u,_,_,_,e,_⟩:=x;exact⟨u,e⟩
 |ins C dx fs=>obtain⟨_,_,_,e,_⟩:=x;exact⟨_,e⟩
 |own y=>exact x
 |xd fs=>obtain⟨_,⟨u,_,_,e,_⟩,_⟩:=x;exact⟨u,e⟩
 |rng lo hi=>obtain⟨_,_,_,e⟩:=x;exact⟨_,e⟩
 |frz ob u=>obtain⟨e,_⟩:=x;exact⟨_,e⟩
 |tbl ps=>exact⟨_,x⟩
 |met f y=>exact⟨_,x⟩
 |ext φ=>exact x.2.1
theorem zF.none_of (I:zF X N' σ H s)(hb:s.heap.get? b=none):H b=none:=by
 cases q:H b with
 |none=>rfl
 |some o=>
  obtain⟨u,e⟩:=(I.hok b o q).some;rw[hb]at e;cases e
theorem zF.fpNone (I:zF X N' σ H s)(hb:s.heap.get? b=none)(hn:H' b=none):yj X N' H' b:=by
 refine⟨hn,λz=>?_,λz=>?_,?_,λx c e z=>?_,λp hp z=>?_⟩
 ·obtain⟨m,⟨o,_,_,e,_⟩,_⟩:=I.loc;rw[<- z,hb]at e;cases e
 ·obtain⟨_,o,e,_⟩:=I.funs.mem z;rw[hb]at e;cases e
 ·by_cases hx:b∈X.ex
  ·exact .inl hx
  ·refine .inr ?_
   cases q:X.s₀.heap.get? b with
   |none=>rfl
   |some o=>
    obtain⟨o',e⟩:=I.base.there b o q hx;rw[hb]at e;cases e
 ·obtain⟨v,o,e',_⟩:=I.cell x c e;rw[z,hb]at e'
  cases e'
 ·have e:=(I.pin p hp).1;rw[z,hb]at e;cases e
theorem Z5 (I:zF X N' σ H s)(F:kT C X N' H ea cls fl s.heap)(k:∀s',zF X N' σ H s'->kT C X N' H ea cls .none s'.heap->Q () s'):
  wpAny M A (KL (.ref ea) none) Q E s:=by
 obtain⟨f0,oe,vs,he,hc,hd,h2,hh⟩:=F;unfold KL;rcases hh with⟨h1,rfl⟩ |⟨T,oT,ts,h1,hne,fT,hT,hdT,h3⟩
 ·refine aa (iw he hd h1 ?_);rw[K' (by decide)];exact aq (k s I ⟨f0,oe,vs,he,hc,hd,h2,.inl ⟨h1,Z⟩⟩)
 ·have hz:3<ts.size:=(DH.mp h3).1;refine aa (iw he hd h1 ?_);rw[L' (show(aG T != aS)=true by simp)];have oth:∀c,c≠T->(s.heap.update T (iZ (·.setIfInBounds 3 ((none:Option aj).elim aS λf=>iz f)))).get? c=s.heap.get? c:=λc hc=>Du _ _ (iT hc);have hT':=DV (iZ (·.setIfInBounds 3 ((none:Option aj).elim aS λf=>iz f))) hT (sQ (iY hdT _));refine Ax hT hdT hz (k _ (I.flown fT λc o hc q=>(oth c hc).trans q) ⟨f0,oe,vs,(oth ea (iT hne)).trans he,hc,hd,h2,.inr ⟨T,_,_,h1,hne,fT,hT',iY hdT _,?_⟩⟩)
  simp[hz]
theorem Jf (f:Array ae->Array ae)(o:iN):(iZ f o).dict=o.dict:=by
 obtain⟨c,d,dt,sl⟩:=o
 cases dt<;>rfl
theorem Vv (I:zF X N' σ H s)(hs:X.stack=X.env::X.outer)(hf:X.env.frame=some X.env.locals)(hfr:A.frames=some X.stack){head:ae}{b:Bool}
  (f0:yj X N' H ea) (he:s.heap.get? ea=some oe) (hc:oe.cls=cls/\oe.dict=none) (hd:oe.data=.fields vs) (h2:C H vs) (hz:1<vs.size) (k:∀s',zF X N' σ H s'->kT C X N' H ea cls (iz X.env.locals) s'.heap->Q () s') :
  wpAny M A (do AZ (.ref ea) 1 (<- A9 head (<- frameOf X.env) .none (iz X.env.locals) .none (<- entryPlaceOf X.env.locals b))) Q E s:=by
 have stk:s.heap.FunFrames X.base (X.env::X.outer):=by
  have q:=I.stack;rw[hs]at q;exact q
 have fm:∀b,b∈(X.env::X.outer).filterMap (·.frame)↔b=X.env.locals∨b∈X.fs:=λb=>by
  rw[Dm,hf];exact CF
 have fre:∀b∈(X.env::X.outer).filterMap (·.frame),H b=none:=λb hb=>I.stkFree b (by rw[hs];exact hb);refine Mj (hfr.trans (G' some hs)) stk hf he hd hz λh' T W=>?_;have nT:ea≠T:=CM (dP (CH he) W.new)
 have I':zF X N' σ H {s with heap:=h'}:=by
  refine I.step (g':=s.gens) (d':=s.drawn) (t':=s.toks) (ch:=[ea]) (λb hb=>?_) (λb o hL hb hc q _=>?_) (λb o _ _ hc q _=>W.slot b o (λz=>hc (by simp[z])) q) (λ_ _ _ _ n=>n)
   (λb o hc q=>?_) (λ_ _ q=>q) (λ_ _ _ q=>q) (λ_ ps q=>⟨#[],by rw[q];simp⟩) (λm hm=>?_) (λb u q=>?_) I.bare
  ·obtain rfl:b=ea:=by simpa using hb
   exact⟨f0.2.2.2.1,f0.2.1,f0.2.2.2.2.1,f0.2.2.2.2.2⟩
  ·exact W.keep b o (λz=>hc (by simp[z])) (λz=>((fm b).mp z).elim hL hb) q
  ·obtain⟨sl,z⟩:=W.slot b o (λz=>hc (by simp[z])) q;exact⟨_,z⟩
  ·obtain⟨o,es,ep,ho,r⟩:=hm;obtain⟨sl,z⟩:=W.slot _ o (iT f0.2.1) ho;exact⟨_,es,ep,z,r⟩
  ·refine(I.hok b u q).stay (λc v hc z=>?_) (λ_ z=>z) λ_ _ z=>z
   have nc:H c≠none:=by
    rcases hc with rfl |hc
    ·rw[q];simp
    ·rw[hc];simp
   exact W.keep c v (λe=>nc (by rw[e];exact f0.1)) (λe=>nc (fre c e)) z
 obtain⟨oT,ts,hT,hdT,h3⟩:=W.head;refine k _ I' ⟨f0,_,_,W.recd,⟨(Kw _ _).trans hc.1,(Jf _ _).trans hc.2⟩,iY hd _,?_,.inr ⟨T,oT,ts,?_,iT nT,?_,hT,hdT,h3⟩⟩
 ·exact ct.keep h2
 ·simp[hz]
 ·exact I.fpOk W.new (I.hok.fresh W.new)
theorem Uo (I:zF X N' σ H s)(F:kT C X N' H ea cls fl s.heap)(hs:X.stack=X.env::X.outer)(hf:X.env.frame=some X.env.locals)(hfr:A.frames=some X.stack)(k:∀s',zF X N' σ H s'->kT C X N' H ea cls (iz X.env.locals) s'.heap->Q () s'):wpAny M A (KN (.ref ea) X.env) Q E s:=by
 obtain⟨f0,oe,vs,he,hc,hd,h2,hh⟩:=F;unfold KN;simp only[hf];rcases hh with⟨h1,_⟩ |⟨T,oT,ts,h1,hne,fT,hT,hdT,h3⟩
 ·refine aa (iw he hd h1 ?_);rw[K' (by decide)];exact Vv I hs hf hfr f0 he hc hd h2 (DH.mp h1).1 k
 ·have hz:3<ts.size:=(DH.mp h3).1;refine aa (iw he hd h1 ?_);rw[L' (show(aG T != aS)=true by simp)];refine aa (iw hT hdT h3 ?_)
  by_cases me:(fl==iz X.env.locals)=true
  ·rw[L' me];exact aq (k s I ⟨f0,oe,vs,he,hc,hd,h2,.inr ⟨T,oT,ts,h1,hne,fT,hT,hdT,by rw[<- eq_of_beq me];exact h3⟩⟩)
  rw[K' me];have oth:∀c,c≠T->(s.heap.update T (iZ (·.setIfInBounds 3 aS))).get? c=s.heap.get? c:=λc hc=>Du _ _ (iT hc);refine aa (Ax hT hdT hz ?_);exact Vv (I.flown fT λc o hc q=>(oth c hc).trans q) hs hf hfr f0 ((oth ea (iT hne)).trans he) hc hd h2 (DH.mp h1).1 k
end
def Bx (C:CT)(P:f_)(w:aZ):Yg:=λouter H s E e s'=>∃(ea:aj) (cls:ae) (H':Hp),e=.ref ea/\s'.os=s.os/\A_ s'.gens/\Un (Xg outer) [] H H' s.heap s'.heap/\wL P w H' s'.heap /\
 (s.heap.get? ea=none/\H' ea=none/\∃oe vs,s'.heap.get? ea=some oe/\(oe.cls=cls/\oe.dict=none)/\oe.data=.fields vs/\C H' vs /\
  ((vs[1]?=some .none)∨∃T oT ts,vs[1]?=some (.ref T)/\T≠ea/\s.heap.get? T=none/\H' T=none/\s'.heap.get? T=some oT/\oT.data=.fields ts/\ts[3]?=some .none))/\E cls none H'
abbrev gG:=Bx C0
def jW (C:CT)(X:Cx)(E:XK):Prop:=∀(N':List (aj×iN)) (σ:St) (H:Hp) (s:av) (ea:aj) (cls fl:ae),zF X N' σ H s->kT C X N' H ea cls fl s.heap->E cls none H->X.xe (.ref ea) s
theorem vX {C:CT}{E:XK}(hP:X.prog=P)(hw:X.w=w)(t:jW C X E):Za (Bx C P w) X E:=by
 subst hP hw;intro N' σ H s e s' I c;obtain⟨ea,cls,H',rfl,os,bare,un,hok,⟨n0,f0,oe,vs,he,hc,hd,h2,hh⟩,q⟩:=c;have I':zF X N' σ H' s':=I.call' (ch:=[]) os un hok bare λb z=>M' z (by simp);refine t N' σ H' s' ea cls .none I' ⟨I.fpNone n0 f0,oe,vs,he,hc,hd,h2,?_⟩ q;rcases hh with h1 |⟨T,oT,ts,h1,ne,nT,fT,hT,hdT,h3⟩
 ·exact .inl ⟨h1,Z⟩
 ·exact .inr ⟨T,oT,ts,h1,ne,I.fpNone nT fT,hT,hdT,h3⟩
theorem ye {C:CT}[ct:YH C]{K:BFr}{mg:af->Option ae}{N:List af}{E:XK}:
  jW C (QZ (Bx C P w) P w K mg base N qual scope f cd A outer s H E) E:=by
 intro N' σ H' s' ea cls fl I F q;show wpAny _ _ (leaving _ _) _ _ _;unfold leaving;refine aa (Uo I F Z Z I.ok.frames λs1 I1 F1=>?_);refine Z5 I1 F1 λs2 I2 F2=>?_;obtain⟨f0,oe,vs,he,hc,hd,h2,hh⟩:=F2
 have ge:∀{b:aj},yj (QZ (Bx C P w) P w K mg base N qual scope f cd A outer s H E) N' H' b->s.heap.get? b=none:=λ{b} z=>by
  rcases z.2.2.2.1 with z |z
  ·exact M' (show b∈([]:List aj) from z) (by simp)
  ·exact z
 refine⟨ea,cls,H',Z,I2.os,I2.bare,I2.base,I2.hok,⟨ge f0,f0.1,oe,vs,he,hc,hd,h2,?_⟩,q⟩;rcases hh with⟨h1,_⟩ |⟨T,oT,ts,h1,ne,fT,hT,hdT,h3⟩
 ·exact .inl h1
 ·exact .inr ⟨T,oT,ts,h1,ne,ge fT,fT.1,hT,hdT,h3⟩
theorem Mx {K:BFr}{bmB:List ae}{δ8:String}(X:K.In h)(q:AU K C bmB δ8=true):
  ∃bm N nm qn bs hd sn sub ab col dd k0 k1 k2 k3 k5 mN,h.get? C=some (excClassObj nm qn C N bs bm hd sn sub ab col dd k0 k1 k2 k3 k5 δ8)/\h.Ns N mN/\mN "__init__" = none/\OwnTail h bmB bm:=by
 unfold AU at q
 split at q
 case h_2=>cases q
 case h_1 dd cd sl lk=>
  split at q
  case h_2=>cases q
  case h_1 C' bm k0 k1 k2 k3 n k5 em es=>
   simp only[CW,beq_iff_eq,Dg]at q;obtain⟨⟨⟨⟨⟨e1,e2⟩,e3⟩,e4⟩,e5⟩,e6⟩:=q;subst e1 e2;obtain⟨c1,c2,c3,c4,c5,c6,c7,c8,c9,c10,c11⟩:=cd;dsimp only at em e3 e5 e6;subst em e3;obtain⟨ls⟩:=sl;dsimp only at es;subst es;exact⟨bm,c4,c1,c5,c2,c6,c7,c8,c9,c10,dd,k0,k1,k2,k3,k5,_,X _ _ lk,.of_isNs (PySem.W.isNs_of_in X e5),PySem.W.nsMap_none_of_in X e5 e6,PySem.W.tail_of_in X e4⟩
section
variable {E:XK}{Ct:CT}[ct:YH Ct]{e₀:aK}{rest:List aK}{t:TA}{pos:iS}
def Ra (E:XK)(C:aj)(t:TA):TS:=λ_ σ H=>t σ H λvs H1=>vs.length<=ar/\E (.ref C) none H1
theorem jm (hE:jW Ct X E)(hc:X.calm=true)(hg:Gl X x)(hm:X.mg x=some (.ref C))(hx:AU X.K C oP "ValueError.__new__" = true)(ha:PA X (e₀ :: rest) t)(he:aE (e₀ :: rest) X.env=(false,eval e₀ X.env)::aE rest X.env:=by exact qv Z)(hpl:(i9 X' (aE rest X.env)).any (·.1)=false:=by exact ua Z)(hdb:(x==("__debug__":af))=false:=by decide):
  PS X (.Raise (some (.Call (.Name x np) (e₀ :: rest) [] X')) none pos) (Ra E C t):=by
 intro N' s σ H D I h;obtain⟨bm,N,nm,qn,bs,hd,sn,sub,ab,col,dd,k0,k1,k2,k3,k5,mN,oC,oN,ni,T⟩:=Mx I.ok.mod.kin hx;have FB:=PySem.F.excBase_ValueError
 refine wpAny_Raise_call_subT (C:=C) (nm:=nm) (q:=qn) (N:=N) (bs:=bs) (bm:=bm) (hdct:=hd) (sn:=sn) (sub:=sub) (ab:=ab) (col:=col) (dd:=dd) (k0:=k0) (k1:=k1) (k2:=k2) (k3:=k3) (k5:=k5) (mN:=mN)
  FB (T.hasType FB.hasBase) (I.ok.hd hc) (by rw[he];show(false || (i9 X' (aE rest X.env)).any (·.1))=false;rw[hpl];rfl) ni (Zw I hg hm ⟨Z,?_⟩ hdb)
 have q:=ha X' N' s σ H _ I h;rw[he]at q ⊢;refine i6 (qC q λus s2 hM=>?_);obtain⟨vs,H1,I1,r,hl,w⟩:=hM;refine⟨Z,by show us.length<=ar;rw[<- r.length];exact hl,I1.bk _ _ oC,oN.keeps I1.bk,T.keeps I1.bk,λh' e made=>?_⟩;obtain⟨t0,there,_,_⟩:=made.there;exact hE N' σ H1 _ e (.ref C) .none (I1.kept (t':=s2.toks) made.keeps) ⟨I1.fpNone made.new (I1.none_of made.new),_,_,there,⟨Z,Z⟩,Z,ct.zero Z,.inl ⟨Z,Z⟩⟩ w
end
abbrev Cx.tr (X:Cx)(pn:List (aj×iN))(E:ae->av->Prop):Cx:={X with pn:=pn,xe:=E}
abbrev Cx.hdl (X:Cx)(pn:List (aj×iN))(ea:aj)(E:ae->av->Prop):Cx:={X with pn:=pn,xe:=E,A:=X.A.mark (some (.ref ea)),calm:=false}
def Lq (ea:aj)(oe:iN):HO:=.frz oe (.ext λh=>∃o,h.get? ea=some o)
section
theorem Cx.Ok.tr (ok:X.Ok):(X.tr pn E).Ok :=
 ⟨ok.mod,ok.kind,ok.glob,ok.blt,ok.above,ok.inj,ok.has,ok.cab,ok.hd,ok.frames,ok.stk,ok.exf,ok.bs,ok.bsz,ok.noex,ok.exfs,ok.funs,ok.frf⟩
theorem Cx.Ok.hdl (ok:X.Ok):(X.hdl pn ea E).Ok :=
 ⟨ok.mod,ok.kind,ok.glob,ok.blt,ok.above,ok.inj,ok.has,ok.cab,(λz=>nomatch z),ok.frames,ok.stk,ok.exf,ok.bs,ok.bsz,ok.noex,ok.exfs,ok.funs,ok.frf⟩
theorem zF.tr (I:zF X N' σ H s):zF (X.tr (X.pn++N') E) [] σ H s :=
 ⟨I.ok.tr,I.os,I.bare,I.base,I.loc,I.cell,I.free,I.freeC,λp hp=>I.pin p (by simpa using hp),I.hok,I.len⟩
theorem zF.toHdl {E':ae->av->Prop}(I:zF (X.tr pn E') [] σ H s)(ok:X.Ok):zF (X.hdl pn ea E) [] σ H s :=
 ⟨ok.hdl,I.os,I.bare,I.base,I.loc,I.cell,I.free,I.freeC,I.pin,I.hok,I.len⟩
theorem zF.ofHdl (I:zF (X.hdl (X.pn++N') ea E) [] σ H s)(ok:X.Ok):zF X N' σ H s :=
 ⟨ok,I.os,I.bare,I.base,I.loc,I.cell,I.free,I.freeC,λp hp=>I.pin p (by simpa using hp),I.hok,I.len⟩
theorem zF.ofTr (I:zF (X.tr (X.pn++N') E) [] σ H s)(ok:X.Ok):zF X N' σ H s :=
 ⟨ok,I.os,I.bare,I.base,I.loc,I.cell,I.free,I.freeC,λp hp=>I.pin p (by simpa using hp),I.hok,I.len⟩
theorem kT.toHdl {C:CT}{E':ae->av->Prop}{eb:aj}(F:kT C (X.tr pn E') [] H ea cls fl h):kT C (X.hdl pn eb E) [] H ea cls fl h:=F
theorem zF.hold (I:zF X N' σ H s)(f:yj X N' H ea)(he:s.heap.get? ea=some oe):zF X N' σ (upd H ea (Lq ea oe)) s:=by
 have off:∀b u,H b=some u->b≠ea:=λb u q z=>by rw[z,f.1]at q;cases q
 refine I.step (h':=s.heap) (g':=s.gens) (d':=s.drawn) (t':=s.toks) (ch:=[ea]) (λb hb=>?_) (λ_ _ _ _ _ q _=>q) (λb o _ _ _ q _=>⟨o.slots,q⟩) (λb o hc _ n=>?_) (λb o _ q=>⟨o,q⟩)
  (λb xs q=>by rw[zx (off b _ q)];exact q) (λb o u q=>by rw[zx (off b _ q)];exact q) (λb ps q=>⟨#[],by rw[zx (off b _ q),q];simp⟩) (λ_ z=>z) (λb u q=>?_) I.bare
 ·obtain rfl:b=ea:=by simpa using hb
  exact⟨f.2.2.2.1,f.2.1,f.2.2.2.2.1,f.2.2.2.2.2⟩
 ·rw[zx (λz=>hc (by simp[z]))];exact n
 ·by_cases hb:b=ea
  ·subst hb;rw[zt]at q;cases q;exact⟨he,⟨_,he⟩,⟨_,he⟩,λh1 h2 ⟨o,e⟩ k=>⟨o,k o e⟩⟩
  ·rw[zx hb]at q;exact(I.hok b u q).stay (λ_ _ _ z=>z) (λc z=>by rw[zx (off c _ z)];exact z) λc xs z=>by rw[zx (off c _ z)];exact z
theorem zF.relocal {m':af->Option ae}(I:zF X N' σ H s)(hn:h'.Ns X.env.locals m')(hs:ik X.env.locals s.heap h'):
  zF X N' (X.N.map λ_=>none) H {s with heap:=h',toks:=t'}:=by
 have nl:∀b o,X.s₀.heap.get? b=some o->b≠X.env.locals:=λb o e=>CM (dP (CH e) I.ok.above);refine⟨I.ok,I.os,I.bare,⟨λb o e n hb hx=>?_,λb o e n hb hx=>?_,I.base.free,λb o e hx=>?_,I.base.tups,I.base.frzs,I.base.tbls⟩,⟨m',hn,λi x v e1 e2 _=>?_⟩,λx c e=>?_,I.free,I.freeC,λp hp=>?_,λb u q=>?_,by simp⟩
 ·exact(hs.2 b (nl b o e)).trans (I.base.keep b o e n hb hx)
 ·obtain⟨sl,q⟩:=I.base.slot b o e n hb hx;exact⟨sl,(hs.2 b (nl b o e)).trans q⟩
 ·obtain⟨o',q⟩:=I.base.there b o e hx;exact⟨o',(hs.2 b (nl b o e)).trans q⟩
 ·rw[CI,e1]at e2;cases e2
 ·obtain⟨v,z⟩:=I.cell x c e;exact⟨v,z.sameBut hs (I.cne x c e)⟩
 ·obtain⟨e,n,ne,nf,d⟩:=I.pin p hp;exact⟨(hs.2 p.1 ne).trans e,n,ne,nf,d⟩
 ·refine(I.hok b u q).stay (λc v hc z=>(hs.2 c ?_).trans z) (λ_ z=>z) λ_ _ z=>z;rintro rfl;rcases hc with hc |hc
  ·rw[<- hc,I.free]at q;cases q
  ·rw[I.free]at hc;cases hc
end
def nG (C:CT)(X:Cx)(pn:List (aj×iN))(R:XK):ae->av->Prop:=λe s=>∃(ea:aj) (cls fl:ae) (σ:St) (H:Hp),e=.ref ea/\zF (X.tr pn λ_ _=>True) [] σ H s/\kT C (X.tr pn λ_ _=>True) [] H ea cls fl s.heap/\R cls none H
abbrev bh:=nG C0
theorem gH {C:CT}{R:XK}:jW C (X.tr pn (nG C X pn R)) R:=by
 intro N' σ H s ea cls fl I F q;refine⟨ea,cls,fl,σ,H,Z,⟨⟨I.ok.mod,I.ok.kind,I.ok.glob,I.ok.blt,I.ok.above,I.ok.inj,I.ok.has,I.ok.cab,I.ok.hd,I.ok.frames,I.ok.stk,I.ok.exf,I.ok.bs,I.ok.bsz,I.ok.noex,I.ok.exfs,I.ok.funs,I.ok.frf⟩,I.os,I.bare,I.base,I.loc,I.cell,I.free,I.freeC,λp hp=>I.pin p ?_,I.hok,I.len⟩,?_,q⟩
 ·rw[dy]at hp;exact dX _ hp
 ·have cut:∀{b:aj},yj (X.tr pn (nG C X pn R)) N' H b->yj (X.tr pn λ_ _=>True) [] H b:=λ{b} f=>⟨f.1,f.2.1,f.2.2.1,f.2.2.2.1,f.2.2.2.2.1,λp hp=>f.2.2.2.2.2 p (by rw[dy]at hp;exact dX _ hp)⟩;obtain⟨f0,oe,vs,he,hc,hd,h2,hh⟩:=F;refine⟨cut f0,oe,vs,he,hc,hd,h2,?_⟩;rcases hh with z |⟨T,oT,ts,h1,ne,fT,hT,hdT,h3⟩
  ·exact .inl z
  ·exact .inr ⟨T,oT,ts,h1,ne,cut fT,hT,hdT,h3⟩
def Bl (N:List af)(D:jY):jY:={nx:=λ_ H=>D.nx (N.map λ_=>none) H,rt:=D.rt,bk:=λ_ H=>D.bk (N.map λ_=>none) H,ct:=λ_ H=>D.ct (N.map λ_=>none) H}
def rA (C:CT)(R:XK)(N:List af)(i:Nat)(tb:TS)(th:aj->TS):TS:=λD σ H=>tb D σ H/\∀(ea:aj) (oe:iN) (vs:Array ae) (cls:ae) (σ':St) (H':Hp),R cls none H'->H' ea=none->oe.cls=cls->oe.dict=none ->
 oe.data=.fields vs->C H' vs->σ'.length=N.length->th ea (Bl N D) (σ'.set i (some (.ref ea))) (upd H' ea (Lq ea oe))
abbrev cD:=rA C0
theorem Ni {C:CT}[ct:YH C]{n:af}{c:aj}{R:XK}{th:aj->TS}{δ0:List sT}{b₀:sT}{pos:iS}(hs:X.stack=X.env::X.outer)(hf:X.env.frame=some X.env.locals)(hg:Gl X x)(hm:X.mg x=some (.ref c))(hR:∀cls o H,R cls o H->Fx X.K cls (.ref c)=some true)(hN:X.N.Nodup)(hi:X.N[i]?=some n)(hn:X.env.scope.names.lookup n=some .local)(hb:∀pn,jg (X.tr pn (nG C X pn R)) body tb)(hh:∀pn ea E,jg (X.hdl pn ea E) (b₀ :: δ0) (th ea))(hdb:(x==("__debug__":af))=false:=by decide):
  PS X (.Try body [.ExceptHandler (some (.Name x np)) (some n) (b₀ :: δ0) hpos] [] [] pos) (rA C R X.N i tb th):=by
 intro N' s σ H D I h;obtain⟨h1,h2⟩:=h;have ok:=I.ok;have cls0:(X.env.scope.kind == .class || (X.env.scope.kind == .module&&X.env.locals != X.env.globals))=false:=by rw[ok.kind];rfl
 refine wpAny_Try_except (sH (hb (X.pn++N') [] s σ H D I.tr h1) (λf s1 q=>?_) λe s1 q=>?_)
 ·cases f with
  |next=>
   obtain⟨σ',H',I',q⟩:=q;exact sO ⟨σ',H',I'.ofTr ok,q⟩
  |brk=>obtain⟨σ',H',I',q⟩:=q;exact⟨σ',H',I'.ofTr ok,q⟩
  |cont=>obtain⟨σ',H',I',q⟩:=q;exact⟨σ',H',I'.ofTr ok,q⟩
  |ret u=>obtain⟨v,σ',H',I',r,q⟩:=q;exact⟨v,σ',H',I'.ofTr ok,r,q⟩
 ·obtain⟨ea,cls,fl,σ1,H1,rfl,I1,F1,r1⟩:=q;refine Uo (X:=X.tr (X.pn++N') λ_ _=>True) I1 F1 hs hf I1.ok.frames λs2 I2 F2=>?_;refine Z5 I2 F2 λs3 I3 F3=>?_;have J3:zF (X.hdl (X.pn++N') ea λ_ _=>True) [] σ1 H1 s3:=I3.toHdl ok;obtain⟨_,oe3,_,he3,hc3,_⟩:=id F3;refine wpAny_handleBy_cons (codeAny_handlers_test (Zw J3 hg hm ?_ hdb)) (by intro q;cases q)
  have LT:PySem.W.Looks (az X.prog X.w) s3.heap (typeOf (.ref ea)) cls:=by
   rw[<- hc3.1];exact(PySem.W.Looks.ld he3).andThen .now
  refine(PySem.W.exm_one J3.kIn LT (hR cls none H1 r1)).here ?_;refine codeAny_handlers_suite_as ?_;refine Z5 J3 F3.toHdl λs4 J4 F4=>?_;obtain⟨f4,oe,vs,he,hc,hd,h2',_⟩:=F4;have J5:=J4.hold f4 he;refine wq (X:=X.hdl (X.pn++N') ea λ_ _=>True) J5 hN hi (.inl hn) (v:=.ref ea) rfl (λs6 J6=>?_) (.inr hn);have len:σ1.length=X.N.length:=I1.len;have J6':∀E,zF (X.hdl (X.pn++N') ea E) [] (σ1.set i (some (.ref ea))) (upd H1 ea (Lq ea oe)) s6:=λE=>⟨ok.hdl,J6.os,J6.bare,J6.base,J6.loc,J6.cell,J6.free,J6.freeC,J6.pin,J6.hok,J6.len⟩;refine sH (hh (X.pn++N') ea _ [] s6 _ _ (Bl X.N D) (J6' _) (h2 ea oe vs cls σ1 H1 r1 f4.1 hc.1 hc.2 hd h2' len)) (λf s7 q=>?_) λ_ _ z=>z
  have go:∀{σ7:St} {H7:Hp} {E7:ae->av->Prop},zF (X.hdl (X.pn++N') ea E7) [] σ7 H7 s7->(∀s8,zF X N' (X.N.map λ_=>none) H7 s8->SP X N' D f s8) ->
    wpAny (az X.prog X.w) X.A (do bindName X.env n .none;unbindBehindTheSuite X.env n hpos) (λ_ s8=>SP X N' D f s8) X.xe s7:=λ{σ7 H7 E7} J k=>by
   obtain⟨m,hns,_⟩:=J.loc;exact wpAny_nameGoes hn hns cls0 λh' m' hn' ψ=>k _ ((J.ofHdl ok).relocal hn' ψ)
  cases f with
  |next=>obtain⟨σ',H',I',q⟩:=q;exact go I' λs8 I8=>⟨_,_,I8,q⟩
  |brk=>obtain⟨σ',H',I',q⟩:=q;exact go I' λs8 I8=>⟨_,_,I8,q⟩
  |cont=>obtain⟨σ',H',I',q⟩:=q;exact go I' λs8 I8=>⟨_,_,I8,q⟩
  |ret u=>obtain⟨v,σ',H',I',r,q⟩:=q;exact go I' λs8 I8=>⟨v,_,_,I8,r,q⟩
theorem R6 {n:af}{c:aj}{R:XK}{th:aj->TS}{δ0:List sT}{b₀:sT}{pos:iS}(hs:X.stack=X.env::X.outer)(hf:X.env.frame=some X.env.locals)(hg:Gl X x)(hm:X.mg x=some (.ref c))(hR:∀cls o H,R cls o H->Fx X.K cls (.ref c)=some true)(hN:X.N.Nodup)(hi:X.N[i]?=some n)(hn:X.env.scope.names.lookup n=some .local)(hb:∀pn,jg (X.tr pn (bh X pn R)) body tb)(hh:∀pn ea E,jg (X.hdl pn ea E) (b₀ :: δ0) (th ea))(hdb:(x==("__debug__":af))=false:=by decide):
  PS X (.Try body [.ExceptHandler (some (.Name x np)) (some n) (b₀ :: δ0) hpos] [] [] pos) (cD R X.N i tb th):=Ni hs hf hg hm hR hN hi hn hb hh hdb
inductive kB (h:ia):aj->Prop where
 |last {a:aj} {o:iN} {ws:Array ae}:h.get? a=some o->o.data=.fields ws->ws[2]?=some .none->kB h a
 |more {a b:aj} {o:iN} {ws:Array ae}:h.get? a=some o->o.data=.fields ws->ws[2]?=some (.ref b)->kB h b->kB h a
inductive wY (h:ia):aj->aj->Prop where
 |nil {a:aj}:wY h a a
 |cons {a b c:aj} {o:iN} {ws:Array ae}:h.get? a=some o->o.data=.fields ws->ws[2]?=some (.ref b)->wY h b c->wY h a c
theorem wY.snoc {c:aj}{ws:Array ae}(p:wY h a b)(e1:h.get? b=some o)(e2:o.data=.fields ws)(e3:ws[2]?=some (.ref c)):wY h a c:=by
 induction p with
 |nil=>exact .cons e1 e2 e3 .nil
 |cons f1 f2 f3 _ ih=>exact .cons f1 f2 f3 (ih e1)
theorem kB.there (l:kB h a):∃o,h.get? a=some o:=by
 cases l with
 |last e _ _=>exact⟨_,e⟩
 |more e _ _ _=>exact⟨_,e⟩
theorem kB.path (l:kB h a)(p:wY h a b):kB h b:=by
 induction p with
 |nil=>exact l
 |cons f1 f2 f3 _ ih=>
  refine ih ?_
  cases l with
  |last e1 e2 e3=>
   rw[f1]at e1;cases e1;rw[f2]at e2;cases e2;rw[f3]at e3;cases e3
  |more e1 e2 e3 l=>
   rw[f1]at e1;cases e1;rw[f2]at e2;cases e2;rw[f3]at e3;cases e3;exact l
def vD (A:sC)(h:ia):Prop:=A.handled=none∨∃ea,A.handled=some (.ref ea)/\kB h ea
def pZ (A:sC)(h:ia)(b:aj):Prop:=∃ea,A.handled=some (.ref ea)/\wY h ea b
theorem kB.keeps (l:kB h a)(k:∀b o,wY h a b->h.get? b=some o->h'.get? b=some o):kB h' a:=by
 induction l with
 |last e1 e2 e3=>exact .last (k _ _ .nil e1) e2 e3
 |more e1 e2 e3 _ ih=>exact .more (k _ _ .nil e1) e2 e3 (ih λb o p e=>k b o (.cons e1 e2 e3 p) e)
theorem wY.back (p:wY h' a b):kB h a->(∀c o,wY h a c->h.get? c=some o->h'.get? c=some o)->wY h a b:=by
 induction p with
 |nil=>intro _ _;exact .nil
 |cons f1 f2 f3 _ ih=>
  intro l k;obtain⟨o,e⟩:=l.there;have e':=k _ _ .nil e;rw[f1]at e'
  cases e'
  exact .cons e f2 f3 (ih (l.path (.cons e f2 f3 .nil)) λc o p q=>k c o (.cons e f2 f3 p) q)
theorem vD.keeps (q:vD A h)(k:∀b o,pZ A h b->h.get? b=some o->h'.get? b=some o):vD A h':=by
 rcases q with q |⟨ea,e1,l⟩
 ·exact .inl q
 ·exact .inr ⟨ea,e1,l.keeps λb o p=>k b o ⟨ea,e1,p⟩⟩
theorem vD.line (q:vD A h)(e:A.handled=some (.ref ea)):kB h ea:=by
 rcases q with q |⟨eb,e1,l⟩
 ·rw[q]at e;cases e
 ·rw[e1]at e;cases e;exact l
theorem vD.there (q:vD A h)(hb:pZ A h b):∃o,h.get? b=some o:=by
 obtain⟨ea,e,p⟩:=hb;exact((q.line e).path p).there
theorem vD.apart (q:vD A h)(k:∀a o,pZ A h a->h.get? a=some o->h'.get? a=some o)(n:¬pZ A h b):¬pZ A h' b:=λz=>by
 obtain⟨ea,e,p⟩:=z;exact n ⟨ea,e,p.back (q.line e) λc o p=>k c o ⟨ea,e,p⟩⟩
theorem kE:Kg table "proto.unchain" = some Builtin.«proto.unchain»:=F0 (by kernel_rfl)
section
theorem VQ {slow:ae}{t:Bool}(e2:s.heap.get? ea=some oe)(e3:oe.data=.fields vs)(e4:vs[2]?=some .none)(k:R (.ok (.ret .none)) s):codeAny (az prog w) A (.builtin "proto.unchain" ⟨[v,.ref ea,slow,.bool t],[]⟩) R s:=by
 refine iq kE ?_;unfold Builtin.«proto.unchain»;refine aa (iw e2 e3 e4 ?_);rw[L' (by decide)];refine aa (aq (aq ?_));exact k
theorem V5 {v:aj}(k:R (.ok (.ret .none)) s)(l:kB s.heap a):(∀b,wY s.heap a b->b≠v)->∀(x:aj) (t:Bool),(t=false->wY s.heap x a)->(t=true->∃o ws y,s.heap.get? x=some o/\o.data=.fields ws/\ws[2]?=some (.ref y)/\wY s.heap y a) ->
  codeAny (az prog w) A (.builtin "proto.unchain" ⟨[.ref v,.ref a,.ref x,.bool t],[]⟩) R s:=by
 induction l with
 |last e2 e3 e4=>intro _ _ _ _ _;exact VQ e2 e3 e4 k
 |@more a b o ws e2 e3 e4 l ih=>
  intro nv x t h0 h1;have nb:b≠v:=nv b (.cons e2 e3 e4 .nil);refine iq kE ?_;unfold Builtin.«proto.unchain»;refine aa (iw e2 e3 e4 ?_);rw[K' (show ¬((aG b==aS)=true) by simp)];dsimp only;rw[K' (show ¬((aG b==aG v)=true) by simp[nb])]
  by_cases z:b=x
  ·rw[L' (show(aG b==aG x)=true by simp[z])];refine aa (sW (aa (aq (aq ?_))));exact k
  ·rw[K' (show ¬((aG b==aG x)=true) by simp[z])]
   cases t with
   |false=>
    rw[K' (by decide)];refine aa (aq (aq ⟨FC _ (by decide+kernel),ih (λc p=>nv c (.cons e2 e3 e4 p)) x true (λz=>nomatch z) λ_=>?_⟩));have p:=h0 rfl
    cases p with
    |nil=>exact⟨_,_,_,e2,e3,e4,.nil⟩
    |cons f1 f2 f3 p=>exact⟨_,_,_,f1,f2,f3,p.snoc e2 e3 e4⟩
   |true=>
    obtain⟨o',ws',y,f1,f2,f3,p⟩:=h1 rfl;rw[L' (by decide)];refine aa (iw f1 f2 f3 ?_);exact aq ⟨FC _ (by decide+kernel),ih (λc p=>nv c (.cons e2 e3 e4 p)) y false (λ_=>p.snoc e2 e3 e4) λz=>nomatch z⟩
theorem WM {Q:α->av->Prop}{oa:iN}{ws:Array ae}(q:vD A s.heap)(ha:s.heap.get? a=some oa)(hd:oa.data=.fields ws)(hz:2<ws.size)(hne:¬pZ A s.heap a)(k:∀h',(∀b o,b≠a->s.heap.get? b=some o->h'.get? b=some o)->(∃o',h'.get? a=some o'/\o'.cls=oa.cls)->E (.ref a) {s with heap:=h'}):wpAny (az prog w) A (raiseNew (.ref a):Sem α) Q E s:=by
 unfold raiseNew;refine aa (wpAny_handled ?_);rcases q with q |⟨ea,e1,l⟩
 ·rw[q];exact aa (aq (HN (k s.heap (λ_ _ _ z=>z) ⟨oa,ha,Z⟩)))
 ·have ne:ea≠a:=λz=>hne ⟨ea,e1,by rw[z];exact .nil⟩;rw[e1];dsimp only;rw[L' (show(aG ea != aG a)=true by simp[ne])];refine aa (aY (Fq (V5 ?_ l (λb p z=>hne ⟨ea,e1,by rw[<- z];exact p⟩) ea false (λ_=>.nil) λz=>nomatch z)));refine aa ?_;unfold updateField;refine aa (Hq ha ?_);rw[hd];dsimp only;rw[L' hz];exact wpAny_update ha (HN (k _ (λb o hb z=>(Du _ _ (iT hb)).trans z) ⟨_,DV _ ha (sQ (iY hd _)),Kw _ _⟩))
theorem Y4 {ws:Array ae}{Q:α->av->Prop}(q:vD A s.heap)(hi:¬pZ A s.heap it)(ho:s.heap.get? it=some o)(hd:o.data=.fields ws)(hz:0<ws.size)(k:∀h' e,(∀b u,b≠it->s.heap.get? b=some u->h'.get? b=some u)->(∃o',h'.get? e=some o'/\o'.cls=.type "StopIteration")->E (.ref e) {s with heap:=h'}):
  wpAny (az prog w) A (do AZ (.ref it) 0 .none;raiseNew (<- Sr (.type "StopIteration") []):Sem α) Q E s:=by
 refine aa (Ax ho hd hz ?_);unfold Sr newTuple;refine aa (aa (a_ ?_ (by size_fits)));refine aa (m:=HP _ _) (HQ (a:=aS) (by first |rfl | (simp only[HP];rfl)) ?_);refine a_ ?_ (by size_fits);have kp:∀(u1 u2:iN) b u,b≠it->s.heap.get? b=some u->(((s.heap.update it (iZ (·.setIfInBounds 0 aS))).push u1).push u2).get? b=some u:=λu1 u2 b u hb z=>CN _ (CN _ ((Du _ _ (iT hb)).trans z));have sz:∀u:iN,((s.heap.update it (iZ (·.setIfInBounds 0 aS))).push u).objs.size=s.heap.objs.size+1:=λu=>by rw[DJ,Heap.size_after_update]
 have kq:∀(u1 u2:iN) b u,pZ A s.heap b->s.heap.get? b=some u->(((s.heap.update it (iZ (·.setIfInBounds 0 aS))).push u1).push u2).get? b=some u:=λu1 u2 b u hb z=>kp u1 u2 b u (λc=>hi (by rw[<- c];exact hb)) z;refine WM (q.keeps λb u hb z=>kq _ _ b u hb z) (dj _ Z) rfl (by simp;lia) (q.apart (λb u hb z=>kq _ _ b u hb z) λz=>?_) λh' k1 k2=>?_
 ·obtain⟨u,e2⟩:=q.there z;have l1:=CH e2;rw[sz]at l1;exact M' l1 (KR (Do _))
 ·refine k h' _ (λb u hb z=>k1 b u (λc=>?_) (kp _ _ b u hb z)) k2;have l1:=CH z;rw[sz]at c;rw[c]at l1;exact M' l1 (KR (Do _))
theorem Xo {l:aj}{its:Array ae}{Q:Option ae->av->Prop}(q:vD A s.heap)(hq:¬pZ A s.heap it)(hit:s.heap.IsListIter it l j)(hl:s.heap.IsList l its)(hx:its[j]?=none)(k:∀h',(∀b u,b≠it->s.heap.get? b=some u->h'.get? b=some u)->Q none {s with heap:=h'}):wpAny (az prog w) A (A4 (.ref it)) Q E s:=by
 obtain⟨oi,hoi,ci,di⟩:=id hit;obtain⟨ol,hol,_,nl,dl⟩:=hl;unfold A4;refine aa (sP (sD (name:=AF "__next__") hit.typeIs II (iK II hit.typeIs entry_listiter_next ?_ (args_listiter_next _))));refine aa (m:=field (.ref it) 0) (iw hoi di (x:=.ref l) Z ?_);rw[K' (show ¬((aG l==aS)=true) from CZ)];refine aa (m:=field (.ref it) 1) (iw hoi di (x:=.int j 0) Z (aa (m:=KO (.ref l)) (Fs hol dl ?_)));simp only[dJ,hx];unfold AK;refine aa (sW (Y4 (A:=A.in1) q hq hoi di (by simp) λh' e k1 hM=>?_));obtain⟨o',e1,e2⟩:=hM;exact aa (s_ (T:="StopIteration") (b:=true) ⟨o',e1,e2⟩ HR (aq (k h' k1)))
theorem pS {l:aj}{its:Array ae}{Q:Option ae->av->Prop}(q:vD A s.heap)(hq:¬pZ A s.heap it)(hit:IsTupIter s.heap it l j)(hl:IsTup s.heap l its)(hx:its[j]?=none)(k:∀h',(∀b u,b≠it->s.heap.get? b=some u->h'.get? b=some u)->Q none {s with heap:=h'}):wpAny (az prog w) A (A4 (.ref it)) Q E s:=by
 obtain⟨oi,hoi,ci,di⟩:=id hit;obtain⟨ol,hol,_,nl,dl⟩:=hl;unfold A4;refine aa (sP (sD (name:=AF "__next__") hit.typeIs Iu (iK Iu hit.typeIs entry_tupleiter_next ?_ (args_tupleiter_next _))));refine aa (m:=field (.ref it) 0) (iw hoi di (x:=.ref l) Z ?_);rw[K' (show ¬((aG l==aS)=true) from CZ)];refine aa (m:=field (.ref it) 1) (iw hoi di (x:=.int j 0) Z (aa (m:=KO (.ref l)) (Fs hol dl ?_)));simp only[dJ,hx];unfold AK;refine aa (sW (Y4 (A:=A.in1) q hq hoi di (by simp) λh' e k1 hM=>?_));obtain⟨o',e1,e2⟩:=hM;exact aa (s_ (T:="StopIteration") (b:=true) ⟨o',e1,e2⟩ HR (aq (k h' k1)))
theorem mJ {l:aj}{its:Array ae}{ts:List (Bool×(ae->Sem Unit))}{Q:Unit->av->Prop}(q:vD A s.heap)(hl:IsTup s.heap l its)(hn:ts.length=its.size)(hst:ts.findIdx? (·.1)=none)(k:∀h',(∀b u,s.heap.get? b=some u->h'.get? b=some u)->wpAny (az prog w) A (assignInOrder (ts.map (·.2)) its.toList) Q E {s with heap:=h'}):wpAny (az prog w) A (unpack (.ref l) ts) Q E s:=by
 have γ:l≠s.heap.objs.size:=by obtain⟨o,e,_⟩:=hl;exact CM (CH e)
 have new:¬pZ A s.heap s.heap.objs.size:=λz=>by
  obtain⟨u,e2⟩:=q.there z;exact eJ _ (CH e2)
 unfold unpack;rw[hn,hst];refine aa (aY ?_);unfold unpackItems;refine aa ?_;unfold notIterableAtAll;refine aa (A5 hl.typeIs slot_tuple_iter.lookup (aq ?_));simp only[d8,if_false];refine aa (aY (iter_tuple hl (aa (aY (draw_tuple γ its.size 0 _ _ ⟨_,dj _ Z,Z,Z⟩ (hl.push _) (by lia) λh1 hi1 hs1=>?_)))));rw[show List.take its.size (List.drop 0 its.toList)=its.toList by rw[Dv];exact dW (by simp),K' (by simp)];have kp:∀b u,s.heap.get? b=some u->h1.get? b=some u:=λb u z=>(hs1.2 b (CM (CH z))).trans (CN _ z);refine aa (aY (pS (s:={s with heap:=h1}) (q.keeps λb u _ z=>kp b u z) (q.apart (λb u _ z=>kp b u z) new) hi1 ((hl.push _).extBut hs1.extBut γ) (by simp) λh2 k2=>?_));simp only[Option.isSome_none,d8,if_false];exact aq (k h2 λb u z=>k2 b u (CM (CH z)) (kp b u z))
end
def p8 (A:sC)(H:Hp):Prop:=A.handled=none∨∃ea oe vs u,A.handled=some (.ref ea)/\H ea=some (.frz oe u)/\oe.data=.fields vs/\Y2 H vs
theorem Y2.lift (c:Y2 H vs)(k:∀b o u,H b=some (.frz o u)->H' b=some (.frz o u)):Y2 H' vs:=by
 induction c with
 |no c=>exact .no c
 |on f1 f2 f3 _ ih=>exact .on f1 (k _ _ _ f2) f3 ih
theorem Y2.line (c:Y2 H vs)(k:∀b o u,H b=some (.frz o u)->h.get? b=some o):∀{ea:aj} {oe:iN} {u:HO},H ea=some (.frz oe u)->oe.data=.fields vs->kB h ea/\∀b,wY h ea b->H b≠none:=by
 induction c with
 |no c=>
  intro ea oe u e1 e2;refine⟨.last (k _ _ _ e1) e2 c,λb p z=>?_⟩
  cases p with
  |nil=>rw[e1]at z;cases z
  |cons f1 f2 f3 p=>
   rw[k _ _ _ e1]at f1;cases f1;rw[e2]at f2;cases f2;rw[c]at f3;cases f3
 |on g1 g2 g3 _ ih=>
  intro ea oe u e1 e2;obtain⟨l,m⟩:=ih g2 g3;refine⟨.more (k _ _ _ e1) e2 g1 l,λb p z=>?_⟩
  cases p with
  |nil=>rw[e1]at z;cases z
  |cons f1 f2 f3 p=>
   rw[k _ _ _ e1]at f1;cases f1;rw[e2]at f2;cases f2;rw[g1]at f3;cases f3;exact m b p z
section
theorem zF.hdr (I:zF X N' σ H s)(q:p8 X.A X.H₀):p8 X.A H:=by
 rcases q with q |⟨ea,oe,vs,u,e1,e2,e3,e4⟩
 ·exact .inl q
 ·exact .inr ⟨ea,oe,vs,u,e1,I.base.frzs ea oe u e2,e3,e4.lift I.base.frzs⟩
theorem zF.quiet' (I:zF X N' σ H s)(q:p8 X.A X.H₀):vD X.A s.heap/\∀b,H b=none->¬pZ X.A s.heap b:=by
 rcases I.hdr q with q |⟨ea,oe,vs,u,e1,e2,e3,e4⟩
 ·refine⟨.inl q,λb _ z=>?_⟩;obtain⟨_,z,_⟩:=z;rw[q]at z;cases z
 ·obtain⟨l,m⟩:=e4.line (h:=s.heap) (λb o u e=>(I.hok b _ e).1) e2 e3;refine⟨.inr ⟨ea,e1,l⟩,λb hb z=>?_⟩;obtain⟨eb,z,p⟩:=z;rw[e1]at z;cases z;exact m b p hb
theorem MX {es:List aK}{k:Nat}{t:rn}{pos:iS}(hq:p8 X.A X.H₀)(h:vW X es t)(hn:(sU es X.env).length=n:=by rfl)(hst:(sU es X.env).findIdx? (·.1)=none:=by rfl):
  PG X (.Tuple es k pos) (uQ X.K n t):=by
 intro N' s σ H v u Q I r hw;obtain⟨a,xs,e1,hs,hl,hw⟩:=hw;subst e1;cases r;obtain⟨its,rv,ht,hz⟩:=I.tuple hs;rw[assign_Tuple];refine aa (AR (mJ (I.quiet' hq).1 ht (by simp[hn,<- hl,rv.length]) hst λh' kp=>?_));exact h N' _ σ H xs _ Q (I.kept (t':=s.toks) kp) (by simpa using rv) hw
end
def yi (X:Cx)(Nc:List af)(scope:AW)(cl:List (af×aj))(C it:aj)(s:av)(H:Hp):Cx :=
 {X with N:=Nc,s₀:=s,H₀:=H,env:=Ft scope cl C X.env,outer:=X.stack,ex:=[it],fn:=λ_=>false,pn:=[],xe:=λ_ _=>False}
def vf (X:Cx)(ρ:List aK)(t:TT):Prop :=
 ∀(N':List (aj×iN)) (s:av) (σ:St) (H:Hp) (Q:Bool->Hp->Prop),zF X N' σ H s->t σ H Q ->
  wpAny (az X.prog X.w) X.A (forIn ρ true λc r=>if r=true then do let ok <- isTrue c X.env (eval c X.env);pure (Ai ok) else pure (Ai r)) (TP X N' σ Q) X.xe s
def qA:TT:=λ_ H Q=>Q true H
theorem qi:vf X [] qA:=λ_ _ _ H _ I h=>wpAny_tests_nil ⟨H,I,h⟩
theorem vo {c:aK}{t:TT}(h:PT X c t):vf X [c] t:=λN' s σ H Q I q=>wpAny_tests_one (h N' s σ H Q I q)
theorem Qu {χ η iter:aK}{scope:AW}{pos:iS}{it O':ae}{EX:ae->av->Prop}(hx:∀x s',EX x s'->notedBy (az prog w) A env (λe s'=>R (.error e) s') x s')(J:Nat->av->Prop)(turn:∀n s,J n s->wpAny (az prog w) A (A4 it) (λr s1=>match r with
   |none=>R (.ok .next) s1
   |some v=>wpAny (az prog w) A (Ae η it v) (λ_ s2=>wpAny (az prog w) A (Fm η env v) (λ_ s3=>
     wpAny (az prog w) A (forIn ρ true λc r=>if r=true then do let ok <- isTrue c env (eval c env);pure (Ai ok) else pure (Ai r)) (λok s4=>
      if ok=true then wpAny (az prog w) A (eval χ env) (λx s5=>wpAny (az prog w) A (call (.builtin "list.append") [O',x]) (λ_ s6=>∃m,m<n/\J m s6) EX s5) EX s4
      else ∃m,m<n/\J m s4) EX s3) EX s2) EX s1) EX s) (n:Nat) (h:J n s):codeAny (az prog w) A (.compLoop (.ListComp χ [⟨η,iter,ρ,0⟩] scope pos) 0 it O' env) R s:=by
 refine codeAny_loop rfl J (λn s hJ=>?_) n h;show wpAny _ A ((compTurn (.ListComp χ [⟨η,iter,ρ,0⟩] scope pos) 0 it O' env).onRaise (λx=>do KN x env;theTreesLotGoes x)) _ _ s;refine wpAny_noted (sH (E:=EX) ?_ (λ_ _ z=>z) hx);rw[compTurn_list];refine aa (AR (aa (qC (turn n s hJ) λr s1 h1=>?_)))
 cases r with
 |none=>exact aq h1
 |some v=>
  refine aa (qC h1 λ_ s2 h2=>aa (qC h2 λ_ s3 h3=>aa (qC h3 λok s4 h4=>?_)))
  cases ok with
  |false=>exact aq ⟨Z,h4⟩
  |true=>exact aa (aa (qC h4 λx s5 h5=>aa (qC h5 λ_ s6 h6=>aq (aq ⟨Z,h6⟩))))
def ZR (src:List (Option Nat))(σ:St):St:=src.map λo=>o.bind λj=>(σ[j]?).join
def XA (K:BFr)(a D:aj)(xs:List V)(g:TG)(tt:TT)(te:TE)(P':List V->Hp->Prop)(σ:St)(H:Hp):Prop :=
 ∃W:Nat->List V->St->Hp->Prop,W 0 [] σ H/\(∀i ys σ H,W i ys σ H->zL K H a xs/\H D=some (.lst ys)) /\
  (∀i x ys σ H,xs[i]?=some x->W i ys σ H->g x σ H λσ1 H1=>tt σ1 H1 λb H2=>if b=true then te σ1 H2 λy H3=>H3 D=some (.lst ys)/\ys.length<ar/\W (i+1) (ys++[y]) σ1 (upd H3 D (.lst (ys++[y]))) else W (i+1) ys σ1 H2) /\
  ∀ys σ H,W xs.length ys σ H->P' ys H
def bX (K:BFr)(src:List (Option Nat))(tl:TE)(g:TG)(tt:TT)(te:TE):TE:=λσ H Q=>tl σ H λx H1=>∃a xs,x=.ref a/\zL K H1 a xs /\
 ∀D,H1 D=none->XA K a D xs g tt te (λys H2=>Q (.ref D) H2) (ZR src σ) (upd H1 D (.lst []))
section
variable {g:TG}
structure Zg (X:Cx)(Nc:List af)(scope:AW)(cl:List (af×aj))(src:List (Option Nat)):Prop where
 clos:closureFor scope X.env=pure cl
 kind:scope.kind=.function
 cell:∀y∈scope.names,y.2≠.cell
 names:∀y∈scope.names,y.2=.local->scope.names.lookup y.1=some .local
 sub:∀x c,cl.lookup x=some c->X.env.cells.lookup x=some c
 has:∀x,((FL scope X.env).names.lookup x=some .cell∨(FL scope X.env).names.lookup x=some .free)->∃c,cl.lookup x=some c
 frm:∀(i j:Nat),src[i]?=some (some j)->∃x,Nc[i]?=some x/\X.N[j]?=some x/\X.env.scope.names.lookup x=some .cell/\(FL scope X.env).names.lookup x=some .cell
 len:src.length=Nc.length
theorem X4 {R:aj->Kd->av->Prop}{pos:iS}
  (c:Zg X Nc scope cl src) (hq:p8 X.A X.H₀) (I:zF X N' σ H s) (hit:s.heap.IsListIter it a 0) (f:yj X N' H it) (hz:xs.length<=ar) (hb:∀C s' H',p8 X.A H'->PG (yi X Nc scope cl C it s' H') η g/\vf (yi X Nc scope cl C it s' H') ρ tt/\PE (yi X Nc scope cl C it s' H') χ te) (h:XA X.K a D xs g tt te P' (ZR src σ) H) (δ9:∀C ys σ' H' s',H C=none->zF (yi X Nc scope cl C it s H) [] σ' H' s'->H' D=some (.lst ys)->P' ys H'->R C (.ok .next) s') :
  wpAny (az X.prog X.w) X.A (Ay scope X.env.globals cl [] X.env.qual none .none (some X.env)) (λγ4 s4=>
   codeAny (az X.prog X.w) X.A (.compStart (.ListComp χ [⟨η,iter,ρ,0⟩] scope pos) 0 (.ref it) (.ref D) {γ4 with scope:=FL scope X.env}) (R γ4.locals) s4) E s:=by
 obtain⟨W,w0,wi,wt,wf⟩:=h;refine HS c.cell (by intro y hy;simp at hy) (λh1 hn1 hs1=>?_) c.kind;have hC0:H s.heap.objs.size=none:=I.hok.fresh (Cz _);have θ:∀b o,s.heap.get? b=some o->h1.get? b=some o:=λb o e=>hs1.extBut b o (CM (CH e)) (CN _ e);have itlt:it<s.heap.objs.size:=by obtain⟨o,e,_⟩:=hit;exact CH e
 have ω:it∉Xg X.stack:=λz=>(CF.mp (I.stkSub it z)).elim f.2.1 f.2.2.1
 have Yok:(yi X Nc scope cl s.heap.objs.size it s H).Ok:=by
  refine⟨I.ok.mod,c.kind,I.ok.glob,I.ok.blt,Cz _,λx y b h1 h2=>I.ok.inj x y b (c.sub x b h1) (c.sub y b h2),λx hx=>c.has x hx,(λx b h1 _=>nomatch h1),I.ok.hd,I.ok.frames,.inl Z,λb hb=>?_,λb o e=>I.bs b o e,CD I.ok.bsz I.sz,λb o e hb=>?_,λb hb=>?_,I.stack,I.stkFree⟩
  ·obtain rfl:b=it:=by simpa [yi] using hb
   exact⟨CM itlt,λx b' e=>f.2.2.2.2.1 x b' (c.sub x b' e)⟩
  ·obtain rfl:b=it:=by simpa [yi] using hb
   have e0:=(I.ok.bs b o e).1;rcases f.2.2.2.1 with z |z
   ·exact I.ok.noex b o e z
   ·rw[z]at e0;cases e0
  ·obtain rfl:b=it:=by simpa [yi] using hb
   exact ω
 have J0:zF (yi X Nc scope cl s.heap.objs.size it s H) [] (ZR src σ) H {s with heap:=h1,toks:=s.toks+([]:List (af×ae)).length}:=by
  refine⟨Yok,Z,I.bare,Un.kept θ,⟨_,hn1,λi x v e1 e2 e3=>?_⟩,λx b e=>?_,hC0,λx b e=>I.freeC x b (c.sub x b e),λp hp=>M' (show p∈([]:List (aj×iN)) from hp) (by simp),I.hok.kept θ,?_⟩
  ·unfold ZR at e2;rw[CI]at e2
   cases q:src[i]? with
   |none=>rw[q]at e2;cases e2
   |some oj=>
    rw[q]at e2
    cases oj with
    |none=>cases e2
    |some j=>
     obtain⟨y,y1,y2,y3,y4⟩:=c.frm i j q;obtain rfl:y=x:=ai (y1.symm.trans e1);have e2':(σ[j]?).join=some v:=ai e2
     have e2s:σ[j]?=some (some v):=by
      cases z:σ[j]? with
      |none=>rw[z]at e2';cases e2'
      |some ov=>rw[z]at e2';exact G' some e2'
     obtain⟨m,hn,hl⟩:=I.loc;obtain⟨u,r,l⟩:=hl j y v y2 e2s (.inr (.inl y3));refine⟨u,r,.inr ⟨.inl y4,?_⟩⟩;rcases l with⟨k1,_⟩ |⟨_,b,k2,k3⟩
     ·exact M' (k1.symm.trans y3) (by intro z;cases z)
     ·obtain⟨b',k4⟩:=c.has y (.inl y4);have k5:=c.sub y b' k4;rw[k2]at k5;cases k5;obtain⟨o,ho,hd⟩:=k3;exact⟨b,k4,o,θ b o ho,hd⟩
  ·obtain⟨v,o,ho,hd⟩:=I.cell x b (c.sub x b e);exact⟨v,o,θ b o ho,hd⟩
  ·unfold ZR;rw[Cw];exact c.len
 have hit1:h1.IsListIter it a 0:=hit.at λo e=>θ it o e;obtain⟨bg,bi,be⟩:=hb s.heap.objs.size s H (I.hdr hq);have hq':p8 (yi X Nc scope cl s.heap.objs.size it s H).A (yi X Nc scope cl s.heap.objs.size it s H).H₀:=I.hdr hq
 have fpY:∀{σ2:St} {H2:Hp} {s2:av},zF (yi X Nc scope cl s.heap.objs.size it s H) [] σ2 H2 s2->H2 it=none->yj (yi X Nc scope cl s.heap.objs.size it s H) [] H2 it:=λ{σ2 H2 s2} J n=>
  ⟨n,CM itlt,ω,.inl (by simp[yi]),λx b' e=>f.2.2.2.2.1 x b' (c.sub x b' e),λp hp=>M' (show p∈([]:List (aj×iN)) from hp) (by simp)⟩
 have loop:codeAny (az X.prog X.w) X.A (.compLoop (.ListComp χ [⟨η,iter,ρ,0⟩] scope pos) 0 (.ref it) (.ref D) (Ft scope cl s.heap.objs.size X.env)) (R s.heap.objs.size) {s with heap:=h1,toks:=s.toks+([]:List (af×ae)).length}:=by
  refine Qu (EX:=λ_ _=>False) (λ_ _ z=>z.elim) (λn s'=>∃i ys σ' H',n=xs.length-i/\i<=xs.length/\zF (yi X Nc scope cl s.heap.objs.size it s H) [] σ' H' s'/\s'.heap.IsListIter it a i/\H' it=none/\W i ys σ' H') ?_ xs.length
   ⟨0,[],_,H,Z,CP _,J0,hit1,f.1,w0⟩
  rintro n s2 ⟨i,ys,σ2,H2,rfl,hi,J2,it2,fr2,w2⟩;obtain⟨q1,q2⟩:=wi i ys σ2 H2 w2;obtain⟨its,rv,pl,hz'⟩:=J2.list q1
  by_cases γ:i<xs.length
  ·have hx:xs[i]?=some xs[i]:=by simp[γ]
   obtain⟨u,hu,ru⟩:=rv.get hx;refine Hr it2 pl.isList (x:=u) (by simpa using hu) λh3 it3 sb3=>?_;have J3:zF (yi X Nc scope cl s.heap.objs.size it s H) [] σ2 H2 {s2 with heap:=h3}:=J2.flown (fpY J2 fr2) λb o hb' e=>(sb3.2 b hb').trans e;obtain⟨oi,ei,ci,di⟩:=id it3;refine UJ (s:={s2 with heap:=h3}) ei ci di (by decide) ?_;have J3':=J3.pinned (fp:=[it]) (λb hb'=>by obtain rfl:b=it:=(by simpa using hb');exact fpY J3 fr2) (λb hb'=>by obtain rfl:b=it:=(by simpa using hb');exact⟨oi,ei,λv z=>by rw[di]at z;cases z⟩)
   have back:∀{σ4:St} {H4:Hp} {s4:av},zF (yi X Nc scope cl s.heap.objs.size it s H) ([]++vx [it] h3) σ4 H4 s4->zF (yi X Nc scope cl s.heap.objs.size it s H) [] σ4 H4 s4/\s4.heap.IsListIter it a (i+1)/\H4 it=none:=λ{σ4 H4 s4} J4=>by
    have p:=J4.pin (it,oi) (dm _ (dm _ (yV (by simp) ei)));exact⟨J4.unpinned,⟨oi,p.1,ci,di⟩,p.2.1⟩
   refine qC (bg _ _ σ2 H2 xs[i] u _ J3' ru (wt i xs[i] ys σ2 H2 hx w2)) λ_ s4 hM=>?_;obtain⟨σ4,H4,J4,q4⟩:=hM;refine qC (bi _ s4 σ4 H4 _ J4 q4) λb s5 hM=>?_;obtain⟨H5,J5,q5⟩:=hM
   cases b with
   |false=>
    obtain⟨J5',it5,fr5⟩:=back J5;exact⟨xs.length-(i+1),by lia,i+1,ys,σ4,H5,Z,γ,J5',it5,fr5,q5⟩
   |true=>
    refine qC (be _ s5 σ4 H5 _ J5 q5) λy s6 hM=>?_;obtain⟨vy,H6,J6,ry,hD6,hl6,q6⟩:=hM;refine qC (qT (X:=yi X Nc scope cl s.heap.objs.size it s H) _ s6 σ4 H6 (.ref D) [vy] (.ref D) [y] (λ_ H'=>H'=upd H6 D (.lst (ys++[vy]))) J6 Z (.cons ry .nil) ⟨D,ys,vy,Z,Z,hD6,hl6,Z⟩) λ_ s7 hM=>?_;obtain⟨_,H7,J7,_,e7⟩:=hM;subst e7;obtain⟨J7',it7,fr7⟩:=back J7;exact⟨xs.length-(i+1),by lia,i+1,ys++[vy],σ4,_,Z,γ,J7',it7,fr7,q6⟩
  ·have hie:i=xs.length:=by lia
   subst hie;obtain⟨qt,qn⟩:=J2.quiet' hq';have hl:=rv.length;refine Xo qt (qn it fr2) it2 pl.isList (by simp;lia) λh3 k3=>?_;exact δ9 _ ys σ2 H2 _ hC0 (J2.flown (fpY J2 fr2) k3) q2 (wf ys σ2 H2 w2)
 exact Az loop (HB hit1 loop)
theorem Og (I:zF X N' σ H s)(f:yj X N' H it)(J:zF (yi X Nc scope cl C it s H) [] σ' H' s')(hs:ik C s'.heap h'):
  zF X N' σ H' {s' with heap:=h'}:=by
 have nC:∀b o,s.heap.get? b=some o->b≠C:=λb o e=>CM (dP (CH e) J.ok.above);have B:=J.base;refine I.call' (s':={s' with heap:=h'}) (ch:=[it]) J.os ⟨λb o e n hb hx=>(hs.2 b (nC b o e)).trans (B.keep b o e n hb hx),λb o e n hb hx=>?_,B.free,λb o e hx=>?_,B.tups,B.frzs,B.tbls⟩ (λb u q=>?_) J.bare λb hb=>?_
 ·obtain⟨sl,z⟩:=B.slot b o e n hb hx;exact⟨sl,(hs.2 b (nC b o e)).trans z⟩
 ·obtain⟨o',z⟩:=B.there b o e hx;exact⟨o',(hs.2 b (nC b o e)).trans z⟩
 ·have hC:H' C=none:=J.free;refine(J.hok b u q).stay (λc v hc z=>(hs.2 c ?_).trans z) (λ_ z=>z) λ_ _ z=>z;rintro rfl;rcases hc with hc |hc
  ·rw[<- hc,hC]at q;cases q
  ·rw[hC]at hc;cases hc
 ·obtain rfl:b=it:=(by simpa using hb);exact⟨f.2.2.2.1,f.2.1,f.2.2.2.2.1,f.2.2.2.2.2⟩
theorem NT {pos:iS}(c:Zg X Nc scope cl src)(hq:p8 X.A X.H₀)(hi:PE X iter tl)(hb:∀it C s' H',p8 X.A H'->PG (yi X Nc scope cl C it s' H') η g/\vf (yi X Nc scope cl C it s' H') ρ tt/\PE (yi X Nc scope cl C it s' H') χ te)(hs:∀x,i7 iter X.env x=pure x:=by intro _;rfl):PE X (.ListComp χ [⟨η,iter,ρ,0⟩] scope pos) (bX X.K src tl g tt te):=by
 intro N' s σ H Q I h;rw[FR];refine iI (use:=none) rfl hs c.clos c.kind c.names (qC (hi N' s σ H _ I h) λv s1 hM=>?_);obtain⟨x,H1,I1,r,a,xs,e,hS,hT⟩:=hM;subst e;cases r;obtain⟨its,rv,pl,hz⟩:=I1.list hS;refine sr pl.isList ?_;have I2:zF X N' σ H1 {s1 with heap:=s1.heap.push {cls:=.type "list_iterator",data:=.fields #[.ref a,.int 0 0]}}:=I1.kept (t':=s1.toks) λb o e=>CN _ e;have f2:yj X N' H1 s1.heap.objs.size:=I1.fpOk (Cz _) (I1.hok.fresh (Cz _));refine a_ ?_ (by size_fits);have I3:=I2.laid (a:=(s1.heap.push {cls:=.type "list_iterator",data:=.fields #[.ref a,.int 0 0]}).objs.size) (o:=.lst []) (t':=s1.toks) (h':=(s1.heap.push {cls:=.type "list_iterator",data:=.fields #[.ref a,.int 0 0]}).push {cls:=.type "list",data:=.seq ([]:List ae).toArray}) (λb o e=>CN _ e) (Cz _) ⟨CP _,[],0,.nil,dj _ Z⟩;have ne:s1.heap.objs.size≠(s1.heap.push {cls:=.type "list_iterator",data:=.fields #[.ref a,.int 0 0]}).objs.size:=by rw[DJ];exact CM (eL _)
 have f3:yj X N' (upd H1 (s1.heap.push {cls:=.type "list_iterator",data:=.fields #[.ref a,.int 0 0]}).objs.size (.lst [])) s1.heap.objs.size:=⟨by rw[zx ne];exact f2.1,f2.2⟩;refine X4 (it:=s1.heap.objs.size) (R:=λC=>F7 (az X.prog X.w) X.A X.xe none (EP X N' σ Q) _ C) c hq I3 ⟨_,CN _ (dj _ Z),Z,Z⟩ f3 hz (hb _) (hT _ (I2.hok.fresh (Cz _))) λC ys σ' H' s' hC J hD q=>?_;obtain⟨m,hn,_⟩:=id J.loc;exact⟨m,hn,λh' ψ=>⟨.ref _,H',Og I3 f3 J ψ,Z,q⟩⟩
end
structure QE (k:Nat)(A:sC):Prop where
 dp:A.depth+3*k+5<Fn
 un:A.units+16*k+200<sV
theorem QE.mono {k:Nat}(r:QE k A)(h:j<=k):QE j A:=⟨by have:=r.dp;lia,by have:=r.un;lia⟩
structure UW (P:f_)(w:aZ)(K:BFr)(mg:af->Option ae)(base:ia)(k:Nat)(f:aj)(fd:AV)(ps:List af)(sp:Sp):Prop where
 len:∀vs H Q E,sp vs H Q E->vs.length=ps.length
 run:∀(A:sC) (outer:List Iv) (s:av) (H:Hp) (args:Args) (us:List ae) (vs:List V) (Q:VK),QE k A->p8 A H->L5 P w K mg base A outer s H->Hs s fd args (ps.zip us)->zZ vs us->sp vs H Q E0 ->
  codeAny (az P w) A (.call (.ref f) args) (CR qQ outer P w H s Q E0) s
def B7 (P:f_)(w:aZ)(K:BFr)(mg:af->Option ae)(base:ia)(N:List af)(qual:af)(scope:AW)(f:aj)(cd:ae)(A:sC)(outer:List Iv)(s:av)(H:Hp):Cx :=
 {QZ qQ P w K mg base N qual scope f cd A outer s H E0 with calm:=false,xe:=λ_ _=>False}
section
variable {K:BFr}{mg:af->Option ae}
theorem jn.okQ {N:List af}{k:Nat}(F:jn K x qual st f fd)(S:Zn N ps (z5 st))(len:∀vs H Q E,sp vs H Q E->vs.length=ps.length)(Ω:∀(V':ae) (A:sC) (outer:List Iv) (s:av) (H:Hp) (vs:List V) (Q:VK),QE k (A.deeper (iu qual (z5 st) s.heap.objs.size f V'))->p8 (A.deeper (iu qual (z5 st) s.heap.objs.size f V')) H->sp vs H Q E0 ->
   ∃t,jg (B7 P w K mg base N qual (z5 st) f V' A outer s H) (jX st) t/\t {nx:=λ_ H'=>Q .non H',rt:=Q} (u7 N vs) H):UW P w K mg base (k+1) f fd ps sp:=by
 obtain⟨oc,od,kV,Θ,pm,an,V',ct,osl,rfl,lk,hcd⟩:=F.ex;refine⟨len,λA outer s H args us vs Q hr hh e0 hb r hsp=>?_⟩;have hl:=len _ _ _ _ hsp;have KX:K.In s.heap:=e0.mod.kin.keeps λb o e=>(e0.bs b o e).1;have lim:s.heap.NoLimit:=e0.mod.nolimit.keeps λb o e=>(e0.bs b o e).1;have dpt:A.depth<Fn:=by have:=hr.dp;lia
 have kinds:∀y∈ps.zip us,(z5 st).names.lookup y.1=some .local∨((z5 st).names.lookup y.1=some .cell/\((FY (s.heap.objs.size+1) (z5 st).names []).lookup y.1).isSome=true):=fun⟨n,v⟩ hy=>by
  rcases S.par n (Dz hy).1 with q |q
  ·exact .inl q
  ·exact .inr ⟨q,AJ _ _ _ (.inl q)⟩
 refine HC dpt (KX _ _ lk) rfl S.co S.gen rfl (IZ KX hcd) (hb _ _ _ _ ?_);refine Fp S.kind kinds λenv he s1 x=>?_;subst he;refine⟨lim.keeps x.toInCall.keep,codeAny_func ?_⟩;have rq:QE k (A.deeper (iu qual (z5 st) s.heap.objs.size f V')):=⟨by have:=hr.dp;show A.depth+1+3*k+5<_;lia,by have:=hr.un;show A.units+3+16*k+200<_;lia⟩;obtain⟨t,ht,hq⟩:=Ω V' A outer s H vs Q rq hh hsp;have J:=Vp (CX:=qQ) (E:=E0) (A:={A with handled:=none}) S rfl ⟨e0.frames,e0.mod,e0.bs,e0.bsz,e0.funs,e0.frf,e0.hok,e0.bare⟩ hl r x
 have I:zF (B7 P w K mg base N qual (z5 st) f V' A outer s H) [] (u7 N vs) H s1 :=
  ⟨⟨J.ok.mod,J.ok.kind,J.ok.glob,J.ok.blt,J.ok.above,J.ok.inj,J.ok.has,J.ok.cab,(λz=>nomatch z),Il e0.frames,J.ok.stk,J.ok.exf,J.ok.bs,J.ok.bsz,J.ok.noex,J.ok.exfs,J.ok.funs,J.ok.frf⟩,J.os,J.bare,J.base,J.loc,J.cell,J.free,J.freeC,J.pin,J.hok,J.len⟩
 refine sH (ht [] s1 (u7 N vs) H _ I hq) (λfl s' hs=>?_) λe s' hs=>iD hs
 have P':∀{σ':St} {H':Hp} {v:V} {u:ae},zF (B7 P w K mg base N qual (z5 st) f V' A outer s H) [] σ' H' s'->qr v u->Q v H'->CE outer P w H s Q u s' :=
  λ{σ' H' v u} J rv q=>⟨v,H',J.os,J.bare,J.base,J.hok,rv,q⟩
 cases fl with
 |ret u=>
  obtain⟨v,σ',H',J,rv,q⟩:=hs;exact P' J rv q
 |next=>
  obtain⟨σ',H',J,q⟩:=hs;exact P' (v:=V.non) (u:=aS) J rfl q
 |brk=>obtain⟨_,_,_,z⟩:=hs;exact iD z
 |cont=>obtain⟨_,_,_,z⟩:=hs;exact iD z
theorem jn.okE {N:List af}{k:Nat}(F:jn K x qual st f fd)(S:Zn N ps (z5 st))(len:∀vs H Q E,sp vs H Q E->vs.length=ps.length)(Ω:∀(V':ae) (A:sC) (outer:List Iv) (s:av) (H:Hp) (vs:List V) (Q:VK) (E:XK),vS k (A.deeper (iu qual (z5 st) s.heap.objs.size f V'))->sp vs H Q E ->
   ∃t,jg (QZ (gG P w) P w K mg base N qual (z5 st) f V' A outer s H E) (jX st) t/\t {nx:=λ_ H'=>Q .non H',rt:=Q} (u7 N vs) H):qD P w K mg base (gG P w) (k+1) f fd ps sp:=by
 obtain⟨oc,od,kV,Θ,pm,an,V',ct,osl,rfl,lk,hcd⟩:=F.ex;exact N8 lk hcd S len λA outer s H vs Q E hr hsp=>Ω V' A outer s H vs Q E hr hsp
theorem G8 {N:List af}{E:XK}:Za (gG P w) (QZ (gG P w) P w K mg base N qual scope f cd A outer s H E) E:=vX rfl rfl ye
end
theorem bz {R:XK}:Za (gG X.prog X.w) (X.tr pn (bh X pn R)) R:=vX rfl rfl gH
section
variable {k:Nat}{p pos:iS}{es:List aK}{t:TA}
def Ga (A:sC)(sp:Sp)(t:TA):TE:=λσ H Q=>t σ H λvs H1=>p8 A H1/\sp vs H1 Q E0
theorem Lz (F:UW X.prog X.w X.K X.mg X.base k f fd ps sp)(hr:QE k X.A)(hg:Gl X x)(hm:X.mg x=some (.ref f))(hk:sY X.K (.ref f)=true)(hb:QQ X.K fd ps [])(ha:PA X (e::es) t)(hdb:(x==("__debug__":af))=false:=by decide)(he:aE (e::es) X.env=(false,eval e X.env)::aE es X.env:=by exact qv Z)(hpl:(i9 pos (aE es X.env)).any (·.1)=false:=by exact ua Z):
  PE X (.Call (.Name x p) (e::es) [] pos) (Ga X.A sp t):=by
 intro N' s σ H Q I h;refine Aj (Zw I hg hm ?_ hdb);refine I0 (h₀:=X.base) I.ok.mod.kin hk (qC (ha pos N' s σ H _ I h) λus s1 hM=>?_) he hpl;obtain⟨vs,H1,I1,r,hd,q⟩:=hM;refine⟨I1.kIn,?_⟩;have hl:us.length=ps.length:=by rw[<- r.length];exact F.len _ _ _ _ q
 have B:Hs s1 fd ⟨us,[]⟩ (ps.zip us):=by
  have z:=hb s1 us I1.kIn (by rw[dy];exact hl);rw[dy]at z;exact z
 refine Ht (sZ (F.run X.A X.stack s1 H1 ⟨us,[]⟩ us vs Q hr hd I1.env0 B r q) λr s' hq=>?_)
 cases r with
 |error e=>exact iD hq
 |ok fl=>
  cases fl with
  |ret u=>exact I1.after hq
  |next=>exact iD hq
  |brk=>exact iD hq
  |cont=>exact iD hq
end
def tX:V->Option ae
 |.ref a=>some (.ref a)
 |.ty n=>some (.type n)
 |_=>none
def BC (K:BFr)(H:Hp)(x:V)(t:ae):Prop :=
 kN K H x t∨∃a oe C vs,x=.ref a/\t=.ref C/\H a=some (Lq a oe)/\oe.cls=.ref C/\oe.dict=none/\oe.data=.fields vs/\XK.ui K C
section
theorem zP:jL X (.builtin "isinstance") (λxs H Q=>∃x c cv t b,xs=[x,c]/\tX c=some cv/\BC X.K H x t/\aB X.K t cv=some b/\Q (.bl b) H):=by
 intro N' s σ H xs us Q I r h;obtain⟨x,c,cv,t,b,rfl,hc,ty,hk,q⟩:=h;obtain⟨u,v,rfl,ru,rv⟩:=GP r
 obtain rfl:v=cv:=by
  cases c with
  |ref a=>cases hc;exact rv
  |ty n=>cases hc;exact rv
  |_=>cases hc
 rcases ty with ty |⟨a,oe,C,vs,rfl,rfl,ha,e1,e2,e3,ec⟩
 ·exact Ow I ru ty hk λtk=>⟨.bl b,H,I.tok tk,Z,q⟩
 ·cases ru;have g:=(I.hok a _ ha).1;have inst:SR s.heap a oe C none:=⟨g,e1,by unfold PySem.W.notCls;rw[e3],by rw[e2];trivial⟩;exact h_ (XK.Ld (ox:=oe) ec) I.kIn inst hk (λz=>nomatch z) λtk=>⟨.bl b,H,I.tok tk,Z,q⟩
def Yt (xs ys:List V):Bool:=xs.length==ys.length&&(aQ xs.length).all λj=>xN (xs.getD j .non) (ys.getD j .non)
def B3 (K:BFr)(neg:Bool):R2:=λx y H Q=>∃a b xs ys,x=.ref a/\y=.ref b/\zL K H a xs/\zL K H b ys/\xs.all jj=true/\ys.all jj=true/\Q (.bl (if neg then !Yt xs ys else Yt xs ys)) H
theorem Pb (h:xs.all jj=true)(hj:j<xs.length):jj (xs.getD j .non)=true:=by
 rw[dD,CC hj,ER];exact dA.mp h _ (DA hj)
theorem GM {us:List ae}(r:zZ xs us)(hj:j<us.length):qr (xs.getD j .non) us[j]:=by
 have hl:=r.length
 have hx:xs[j]?=some (xs.getD j .non):=by
  rw[dD,CC (by lia),ER]
 obtain⟨u,e,q⟩:=r.get hx;rw[CC hj]at e;cases e;exact q
theorem mG (hu:X.A.units<sV):uW X (ir .NotEq) (B3 X.K true):=by
 intro N' s σ H x y v u Q I rx ry h;obtain⟨a,b,xs,ys,rfl,rfl,h1,h2,f1,f2,q⟩:=h;cases rx;cases ry;obtain⟨us,r1,p1,_⟩:=I.list h1;obtain⟨ws,r2,p2,_⟩:=I.list h2;have l1:=r1.length;have l2:=r2.length
 by_cases hl:xs.length=ys.length
 ·refine Fy p1.isList p2.isList (by simp;lia) hu (e:=λj=>xN (xs.getD j .non) (ys.getD j .non)) (λj h1 h2=>?_) _ _ _ _ ?_
  ·simp at h1 h2
   simp only[List.getElem_toArray];exact V6 (GM r1 h1) (GM r2 h2) (Pb f1 (by lia)) (Pb f2 (by lia))
  ·refine⟨.bl _,H,I,Z,?_⟩
   have e:Yt xs ys=(aQ us.toArray.size).all λj=>xN (xs.getD j .non) (ys.getD j .non):=by
    unfold Yt;rw[beq_iff_eq.mpr hl,dR,de,<- l1]
   rw[<- e];exact q
 ·refine FD p1.isList p2.isList (by simp;lia) hu _ _ _ _ ⟨.bl true,H,I,Z,?_⟩
  have e:Yt xs ys=false:=by
   unfold Yt;rw[beq_eq_false_iff_ne.mpr hl,d6]
  have q':=q;rw[L' Z,e]at q';exact q'
end
def jw (P:f_)(w:aZ)(K:BFr)(mg:af->Option ae)(base:ia)(CX:Yg)(k:Nat)(x:af)(ps:List af)(sp:Sp):Prop :=
 ∃f fd,mg x=some (.ref f)/\sY K (.ref f)=true/\QQ K fd ps []/\qD P w K mg base CX k f fd ps sp
def RI (P:f_)(w:aZ)(K:BFr)(mg:af->Option ae)(base:ia)(k:Nat)(x:af)(ps:List af)(sp:Sp):Prop :=
 ∃f fd,mg x=some (.ref f)/\sY K (.ref f)=true/\QQ K fd ps []/\UW P w K mg base k f fd ps sp
section
variable {k:Nat}{p pos:iS}{es:List aK}{t:TA}{E:XK}
theorem zG (C:jw X.prog X.w X.K X.mg X.base CX k x ps sp)(hr:vS j X.A)(hj:k<=j)(hx:Za CX X E)(ha:PA X (e::es) t)(hg:Gl X x:=by rfl)(hdb:(x==("__debug__":af))=false:=by decide)(he:aE (e::es) X.env=(false,eval e X.env)::aE es X.env:=by exact qv Z)(hpl:(i9 pos (aE es X.env)).any (·.1)=false:=by exact ua Z):
  PE X (.Call (.Name x p) (e::es) [] pos) (λσ H Q=>t σ H λvs H1=>sp vs H1 Q E):=by
 obtain⟨f,fd,hm,hk,hb,F⟩:=C;intro N' s σ H Q I h;refine MV (dvs:=[]) F (hr.mono hj) hg hm hk hb .nil hx ha hdb he hpl N' s σ H Q I ?_;unfold rO;simp only[dy];exact h
theorem N4 (C:RI X.prog X.w X.K X.mg X.base k x ps sp)(hr:QE j X.A)(hj:k<=j)(ha:PA X (e::es) t)(hg:Gl X x:=by rfl)(hdb:(x==("__debug__":af))=false:=by decide)(he:aE (e::es) X.env=(false,eval e X.env)::aE es X.env:=by exact qv Z)(hpl:(i9 pos (aE es X.env)).any (·.1)=false:=by exact ua Z):
  PE X (.Call (.Name x p) (e::es) [] pos) (Ga X.A sp t):=by
 obtain⟨f,fd,hm,hk,hb,F⟩:=C;exact Lz F (hr.mono hj) hg hm hk hb ha hdb he hpl
end
theorem zy:ig "isinstance" = some (.builtin "isinstance"):=by kernel_rfl
theorem YB:ig "abs" = some (.builtin "abs"):=by kernel_rfl
theorem wF:ig "sum" = some (.builtin "sum"):=by kernel_rfl
theorem qP:ig "int" = some (.type "int"):=by kernel_rfl
theorem JR:ig "bool" = some (.type "bool"):=by kernel_rfl
theorem yO:ig "str" = some (.type "str"):=by kernel_rfl
theorem pN:ig "list" = some (.type "list"):=by kernel_rfl
theorem ju:ig "tuple" = some (.type "tuple"):=by kernel_rfl
theorem NU:ig "ValueError" = some (.type "ValueError"):=by kernel_rfl
def Ww:List (String×Bool×Bool×Bool×Bool):=[("NoneType",false,false,false,false),("bool",true,true,false,false),("int",true,false,false,false),("str",false,false,true,false),("list",false,false,false,true),("tuple",false,false,false,false),("dict",false,false,false,false)]
theorem Yp {K:BFr}:∀r∈Ww,aB K (.type r.1) (.type "int")=some r.2.1/\aB K (.type r.1) (.type "bool")=some r.2.2.1/\aB K (.type r.1) (.type "str")=some r.2.2.2.1/\aB K (.type r.1) (.type "list")=some r.2.2.2.2:=by
 intro r hr;simp only[Ww,CF,dw,or_false]at hr;rcases hr with rfl |rfl |rfl |rfl |rfl |rfl |rfl<;>exact⟨by rfl,by rfl,by rfl,by rfl⟩
def rR (K:BFr)(H:Hp)(v:V):Prop:=∃r∈Ww,kN K H v (.type r.1)/\r.1≠"int"
def u9 (K:BFr)(H:Hp)(v:V):Prop:=∃r∈Ww,kN K H v (.type r.1)/\r.1≠"str"
section
variable {κ:Type}[DecidableEq κ]
def vV (kvs:List (κ×V))(k:κ):Option V:=(kvs.find? λkv=>decide (kv.1=k)).map (·.2)
def kR (kvs:List (κ×V))(k:κ)(v:V):List (κ×V) :=
 if (kvs.any λkv=>decide (kv.1=k))=true then kvs.map (λkv=>if kv.1=k then (kv.1,v) else kv) else kvs++[(k,v)]
theorem yM {p:κ×V}{r:List (κ×V)}{k:κ}(e:p.1=k):vV (p::r) k=some p.2:=by simp[vV,Dn,e]
theorem yJ {p:κ×V}{r:List (κ×V)}{k:κ}(e:¬p.1=k):vV (p::r) k=vV r k:=by simp[vV,Dn,e]
theorem Zt (k:κ):∀kvs:List (κ×V),(kvs.any λkv=>decide (kv.1=k))=(vV kvs k).isSome
 |[]=>rfl
 |p::r=>by
  rw[Em]
  by_cases e:p.1=k
  ·simp only[yM e,i' e,Bool.true_or,Option.isSome_some]
  ·rw[yJ e,j' e,EL];exact Zt k r
theorem Wq (k j:κ)(y:V):∀kvs:List (κ×V),vV (kvs.map λkv=>if kv.1=k then (kv.1,y) else kv) j=(vV kvs j).map λx=>if j=k then y else x
 |[]=>rfl
 |p::r=>by
  have ih:=Wq k j y r;rw[CO]
  by_cases h:p.1=k
  ·rw[L' h]
   by_cases e:p.1=j
   ·rw[yM (p:=(p.1,y)) e,yM e,DK,L' (e.symm.trans h)]
   ·rw[yJ (p:=(p.1,y)) e,yJ e,ih]
  ·rw[K' h]
   by_cases e:p.1=j
   ·rw[yM (p:=p) e,yM e,DK,K' (λz=>h (e.trans z))]
   ·rw[yJ (p:=p) e,yJ e,ih]
theorem J8 (k j:κ)(y:V):∀kvs:List (κ×V),vV kvs k=none->vV (kvs++[(k,y)]) j=if j=k then some y else vV kvs j
 |[],_=>by
  by_cases e:k=j
  ·rw[L' e.symm];exact yM (p:=(k,y)) e
  ·rw[K' (λz=>e z.symm)];exact yJ (p:=(k,y)) e
 |p::r,hn=>by
  rw[Dw];have hk:¬p.1=k:=λz=>by rw[yM z]at hn;cases hn
  rw[yJ hk]at hn;have ih:=J8 k j y r hn
  by_cases e:p.1=j
  ·rw[yM e,yM e,K' (λz=>hk (e.trans z))]
  ·rw[yJ e,yJ e,ih]
theorem PL (kvs:List (κ×V))(k j:κ)(y:V):vV (kR kvs k y) j=if j=k then some y else vV kvs j:=by
 unfold kR
 by_cases a:(kvs.any λkv=>decide (kv.1=k))=true
 ·rw[L' a,Wq];rw[Zt]at a
  by_cases e:j=k
  ·obtain⟨x,hx⟩:=DG.mp a;rw[L' e,e,hx,DK,L' rfl]
  ·rw[K' e]
   cases vV kvs j with
   |none=>rfl
   |some x=>rw[DK,K' e]
 ·rw[K' a];refine J8 k j y kvs ?_;rw[Zt]at a
  cases q:vV kvs k with
  |none=>rfl
  |some x=>rw[q]at a;exact(a Z).elim
theorem QU (kvs:List (κ×V))(k:κ)(v:V):(kR kvs k v).length<=kvs.length+1:=by
 unfold kR;split
 ·rw[Cw];lia
 ·rw[CA,CY,DY];lia
theorem V3.isSome_eq {o:Option V}{u:Option ae}(r:V3 o u):o.isSome=u.isSome:=by
 cases o with
 |none=>cases u with
  |none=>rfl
  |some _=>exact(show False from r).elim
 |some _=>cases u with
  |none=>exact(show False from r).elim
  |some _=>rfl
theorem V3.getD {o:Option V}{u:Option ae}{d:V}{d':ae}(r:V3 o u)(rd:qr d d'):qr (o.getD d) (u.getD d'):=by
 cases o with
 |none=>cases u with
  |none=>exact rd
  |some _=>exact(show False from r).elim
 |some _=>cases u with
  |none=>exact(show False from r).elim
  |some _=>exact r
theorem KV.val {kvs:List (κ×V)}{vs:List (κ×ae)}(r:KV kvs vs)(k:κ):V3 (vV kvs k) (Kh vs k):=by
 unfold KV at r
 induction r with
 |nil=>exact sX
 |@cons p q ps qs h t ih=>
  obtain⟨h1,h2⟩:=h
  by_cases e:p.1=k
  ·have e':q.1=k:=h1.symm.trans e;have b:Kh (q::qs) k=some q.2:=by simp[Kh,Dn,e']
   rw[yM e,b];exact h2
  ·have e':¬q.1=k:=λz=>e (h1.trans z);have b:Kh (q::qs) k=Kh qs k:=by simp[Kh,Dn,e']
   rw[yJ e,b];exact ih
theorem KV.any {kvs:List (κ×V)}{vs:List (κ×ae)}(r:KV kvs vs)(k:κ):(kvs.any λkv=>decide (kv.1=k))=vs.any λkv=>decide (kv.1=k):=by
 unfold KV at r
 induction r with
 |nil=>rfl
 |cons h t ih=>rw[Em,Em,ih,h.1]
theorem KV.repl {kvs:List (κ×V)}{vs:List (κ×ae)}(r:KV kvs vs)(k:κ)(ry:qr y u):
  KV (kvs.map λkv=>if kv.1=k then (kv.1,y) else kv) (vs.map λkv=>if kv.1=k then (kv.1,u) else kv):=by
 unfold KV at r ⊢
 induction r with
 |nil=>exact .nil
 |@cons p q ps qs h t ih=>
  rw[CO,CO];refine .cons ?_ ih;obtain⟨h1,h2⟩:=h
  by_cases e:p.1=k
  ·rw[L' e,L' (h1.symm.trans e)];exact⟨h1,ry⟩
  ·rw[K' e,K' (λz=>e (h1.trans z))];exact⟨h1,h2⟩
theorem KV.put {kvs:List (κ×V)}{vs:List (κ×ae)}(r:KV kvs vs)(k:κ)(ry:qr y u):KV (kR kvs k y) (stored vs k u):=by
 unfold kR stored;rw[r.any k]
 by_cases e:(vs.any λkv=>decide (kv.1=k))=true
 ·rw[L' e,L' e];exact r.repl k ry
 ·rw[K' e,K' e];exact Paired.snoc r ⟨Z,ry⟩
theorem KV.length {kvs:List (κ×V)}{vs:List (κ×ae)}(r:KV kvs vs):kvs.length=vs.length:=FV r
end
theorem Gx {k:jB}(r:qr (kV k) u):(qM P w).is k u=true:=by
 cases k with
 |inl i=>obtain⟨t,e⟩:=(show ∃t,u=iQ i t from r);subst e;exact Wo P w i t
 |inr x=>obtain⟨t,e⟩:=(show ∃t,u=iW x t from r);subst e;exact QV P w x t
theorem JQ:∀{ks:List jB} {us:List ae},zZ (ks.map kV) us->ItemsAre (qM P w) ks us
 |[],_,r=>by rw[DD]at r;cases r;exact .nil
 |k::ks,_,r=>by
  rw[CO]at r
  cases r with
  |cons h t=>exact .cons (Gx h) (JQ t)
abbrev KT (H:Hp):List (List jB×V)->List (List jB×aj×ae)->Prop:=w_ λp q=>p.1=q.1/\H q.2.1=some (.tup (p.1.map kV))/\qr p.2 q.2.2
theorem KT.val {kvs:List (List jB×V)}{xs:List (List jB×aj×ae)}(r:KT H kvs xs)(k:List jB):V3 (vV kvs k) ((Ss xs k).map (·.2)):=by
 induction r with
 |nil=>exact sX
 |@cons p q ps qs h t ih=>
  obtain⟨h1,_,h2⟩:=h
  by_cases e:p.1=k
  ·have e':q.1=k:=h1.symm.trans e;have b:Ss (q::qs) k=some q.2:=by simp[Ss,Dn,e']
   rw[yM e,b];exact h2
  ·have e':¬q.1=k:=λz=>e (h1.trans z);have b:Ss (q::qs) k=Ss qs k:=by simp[Ss,Dn,e']
   rw[yJ e,b];exact ih
theorem KT.repl {kvs:List (List jB×V)}{xs:List (List jB×aj×ae)}(r:KT H kvs xs)(k:List jB)(ry:qr y u):
  KT H (kvs.map λkv=>if kv.1=k then (kv.1,y) else kv) (xs.map (putAt k u)):=by
 induction r with
 |nil=>exact .nil
 |@cons p q ps qs h t ih=>
  rw[CO,CO];refine .cons ?_ ih;obtain⟨h1,h2,h3⟩:=h;unfold putAt
  by_cases e:p.1=k
  ·rw[L' e,L' (h1.symm.trans e)];exact⟨h1,h2,ry⟩
  ·rw[K' e,K' (λz=>e (h1.trans z))];exact⟨h1,h2,h3⟩
theorem KT.put {kvs:List (List jB×V)}{xs:List (List jB×aj×ae)}(r:KT H kvs xs)(k:List jB)(hb:H b=some (.tup (k.map kV)))(ry:qr y u):
  KT H (kR kvs k y) (storedH xs k b u):=by
 have e:(kvs.any λkv=>decide (kv.1=k))=(Ss xs k).isSome:=by
  rw[Zt,(r.val k).isSome_eq,Option.isSome_map]
 unfold kR storedH;rw[e]
 by_cases q:(Ss xs k).isSome=true
 ·rw[L' q,L' q];exact r.repl k ry
 ·rw[K' q,K' q];exact Paired.snoc r ⟨Z,hb,ry⟩
theorem KT.keeps {kvs:List (List jB×V)}{xs:List (List jB×aj×ae)}(r:KT H kvs xs)(ht:∀b ys,H b=some (.tup ys)->H' b=some (.tup ys)):KT H' kvs xs :=
 Paired.mapP r λ_ _ z=>⟨z.1,ht _ _ z.2.1,z.2.2⟩
section
theorem rj {u:HO}(ok:wL P w H h)(e:Rd H a u):yk P w H h a u:=e.ok ok
theorem Gv (ok:wL P w H h)(e:Rd H a (.dK kvs)):kvs.length<=ar/\(a==sv)=false/\∃vs,KV kvs vs/\h.DictOf (qM P w) a vs :=
 show yk P w H h a (.dK kvs) from rj ok e
theorem Pi (ok:wL P w H h)(e:H a=some (.dK kvs)):kvs.length<=ar/\(a==sv)=false/\∃vs,KV kvs vs/\h.DictOf (qM P w) a vs:=Gv ok (.inl e)
theorem VY {ks:List jB}(ok:wL P w H h)(e:H a=some (.tup (ks.map kV))):(E_ (qM P w)).is h ks a:=by
 obtain⟨_,its,r,o,h1,h2,n,h3⟩:=(show yk P w H h a (.tup (ks.map kV)) from ok a _ e);exact⟨o,its.toArray,n,h1,h2,h3,by simpa using JQ r⟩
theorem GG {kvs:List (List jB×V)}(ok:wL P w H h)(e:Rd H a (.dT kvs)):kvs.length<=ar/\(a==sv)=false /\
  ∃xs,KT H kvs xs/\h.DictOfH (E_ (qM P w)) a xs:=by
 obtain⟨z,y,xs,r,o,es,ep,h1,h2,h3,h4,h5⟩:=(show yk P w H h a (.dT kvs) from rj ok e);refine⟨z,y,xs,r,o,es,ep,h1,h2,h3,h4,λx hx=>?_,h5⟩
 have all:∀{l:List (List jB×V)} {m:List (List jB×aj×ae)},KT H l m->∀x∈m,(E_ (qM P w)).is h x.1 x.2.1:=by
  intro l m q
  induction q with
  |nil=>intro x hx;exact nomatch hx
  |@cons p q ps qs hq t ih=>
   intro x hx;rcases CF.mp hx with e |hx
   ·subst e;exact VY ok (by rw[<- hq.1];exact hq.2.1)
   ·exact ih x hx
 exact all r x hx
theorem bP {kvs:List (List jB×V)}(ok:wL P w H h)(e:H a=some (.dT kvs)):kvs.length<=ar/\(a==sv)=false /\
  ∃xs,KT H kvs xs/\h.DictOfH (E_ (qM P w)) a xs:=GG ok (.inl e)
end
def xa (H:Hp)(a:aj)(y:V)(r:Option V):Prop :=
 (∃kvs k,Rd H a (.dK kvs)/\y=kV k/\r=vV kvs k)∨∃kvs k b,Rd H a (.dT kvs)/\y=.ref b/\H b=some (.tup (k.map kV))/\r=vV kvs k
def lg (H:Hp)(a:aj)(y v:V)(H':Hp):Prop :=
 (∃kvs k,H a=some (.dK kvs)/\y=kV k/\kvs.length<ar/\H'=upd H a (.dK (kR kvs k v))) ∨
 ∃kvs k b,H a=some (.dT kvs)/\y=.ref b/\H b=some (.tup (k.map kV))/\kvs.length<ar/\H'=upd H a (.dT (kR kvs k v))
theorem xa.k {k:jB}(e:H a=some (.dK kvs)):xa H a (kV k) (vV kvs k):=.inl ⟨kvs,k,.inl e,Z,Z⟩
theorem lg.k {k:jB}{v:V}(e:H a=some (.dK kvs))(hl:kvs.length<ar):lg H a (kV k) v (upd H a (.dK (kR kvs k v))):=.inl ⟨kvs,k,e,Z,hl,Z⟩
section
variable {v:V}{r:ae}{o:Option V}
theorem zF.big (I:zF X N' σ H s):sv<s.heap.objs.size:=by
 have h:au<s.heap.objs.size:=(I.mod.glob.keeps I.bk).lt;exact eY (by decide) h
theorem GC {ob:HO}(I:zF X N' σ H s)(mu:Bq (H a))(hs:ik a s.heap h')(he:∃q,h'.get? a=some q)(new:yk X.prog X.w (upd H a ob) h' a ob):
  zF X N' σ (upd H a ob) {s with heap:=h',toks:=t'} :=
 I.write (x:=a) (e:=a) mu (.inl Z) (λb q hb z=>(hs.2 b hb).trans z) he new
theorem m7 {vs:List (jB×ae)}(z:kvs.length<=ar)(hd:(a==sv)=false)(rel:KV kvs vs)(dd:h'.DictOf (qM P w) a vs):
  yk P w H' h' a (.dK kvs):=⟨z,hd,vs,rel,dd⟩
theorem OB {Q:Unit->av->Prop}(hu:A.units+1<sV)(I:zF X N' σ H s)(g:lg H a y v H')(ry:qr y u)(rv:qr v r)(h:∀s',zF X N' σ H' s'->Q () s'):
  wpAny (az X.prog X.w) A (setItem (.ref a) u r) Q E s:=by
 rcases g with⟨kvs,k,e,ey,l,eH⟩ |⟨kvs,k,b,e,ey,eb,l,eH⟩
 ·subst ey eH;obtain⟨z,hd,vs,rel,dd⟩:=Pi I.hok e;have hz:vs.length<=ar:=by rw[<- rel.length];exact z
  have hl:(kR kvs k v).length<=ar:=by have:=QU kvs k v;lia
  refine wpAny_setItem_pairs (hsz:=hz) (Gx ry) dd λh' dd' hs=>h _ ?_;have he:∃q,h'.get? a=some q:=let ⟨q,_,_,hq,_⟩:=dd';⟨q,hq⟩
  exact GC I (by rw[e];exact sX) hs he (m7 hl hd (rel.put k rv) dd')
 ·subst ey eH
  cases (show u=aG b from ry)
  obtain⟨z,hd,xs,rel,dd⟩:=bP I.hok e;have hz:xs.length<=ar:=by rw[<- FV rel];exact z
  have hl:(kR kvs k v).length<=ar:=by have:=QU kvs k v;lia
  refine wpAny_setItem_heap (hsz:=hz) (Fu hu) (VY I.hok eb) dd λh' dd' hs=>h _ ?_;obtain⟨q,es,ep,hq,h2,h3,h4,_,h5⟩:=dd';refine GC I (by rw[e];exact sX) hs ⟨q,hq⟩ ⟨hl,hd,_,(rel.put k eb rv).keeps λc ys ec=>?_,q,es,ep,hq,h2,h3,h4,h5⟩;rw[zx (jH ec e (λz=>nomatch z))];exact ec
end
section
variable {k:jB}
end
def bo (td ty tv:TE):TS:=λD σ H=>tv σ H λv H1=>td σ H1 λx H2=>ty σ H2 λy H3=>∃a H4,x=.ref a/\lg H3 a y v H4/\D.nx σ H4
section
variable {o i:aK}{pos:iS}{td ty tv:TE}
theorem Nk (hu:X.A.units+1<sV)(ho:PE X o td)(hi:PE X i ty)(hv:PE X value tv)(hs:Fh value (some (.Subscript o i τ)) pos.line X.env=pure false):
  PS X (.Assign [.Subscript o i τ] value pos) (bo td ty tv):=by
 intro N' s σ H D I h;refine wpAny_Assign_Subscript (qC (hv N' s σ H _ I h) λr s1 hM=>?_) hs;obtain⟨v,H1,I1,rv,q1⟩:=hM;refine qC (ho N' s1 σ H1 _ I1 q1) λu s2 hM=>?_;obtain⟨x,H2,I2,rx,q2⟩:=hM;refine qC (hi N' s2 σ H2 _ I2 q2) λiv s3 hM=>?_;obtain⟨y,H3,I3,ry,a,H4,ex,g,q3⟩:=hM;subst ex;obtain rfl:u=aG a:=rx;exact OB hu I3 g ry rv λs4 I4=>⟨σ,H4,I4,q3⟩
end
theorem Pe (h:ia)(hb:sv<h.objs.size):yk P w H (h.push {cls:=.type "dict",data:=.dict #[]}) h.objs.size (.dK []) :=
 ⟨CP _,beq_eq_false_iff_ne.mpr (iT (CM hb)),[],.nil,Heap.DictOf.new h⟩
def r6:TE:=λ_ H Q=>∀p,H p=none->Q (.ref p) (upd H p (.dK []))
section
variable {pos:iS}
theorem Ml:PE X (.Dict [] [] pos) r6:=λN' s σ H Q I h=>
 wpAny_Dict_empty ⟨.ref s.heap.objs.size,_,I.laid (a:=s.heap.objs.size) (o:=.dK []) (t':=s.toks) (λ_ _ q=>CN _ q) (Cz _) (Pe s.heap I.big),Z,h _ (I.hok.fresh (Cz _))⟩
end
structure M1 (X:Cx)(o:aK)(m:af)(ν:iS)(e:aK)(X':iS):Prop where
 base:Ab o m X.env (eval o X.env)=eval o X.env
 few:((i9 X' (aE [e] X.env)).all (λx=>!x.1)&&(HM X' (AX [] X.env)).all (λx=>x.1.isSome)
  && decide (([e]:List aK).length+([]:List Av).length+(if ([]:List Av).isEmpty then 0 else 1)<30))=true
 line:(ν.endLine==X'.line)=true
 trees:i9 X' (aE [e] X.env)=[(false,eval e X.env)]
structure M2 (X:Cx)(o:aK)(m:af)(ν:iS)(e f:aK)(X':iS):Prop where
 base:Ab o m X.env (eval o X.env)=eval o X.env
 few:((i9 X' (aE [e,f] X.env)).all (λx=>!x.1)&&(HM X' (AX [] X.env)).all (λx=>x.1.isSome)
  && decide (([e,f]:List aK).length+([]:List Av).length+(if ([]:List Av).isEmpty then 0 else 1)<30))=true
 line:(ν.endLine==X'.line)=true
 trees:i9 X' (aE [e,f] X.env)=[(false,eval e X.env),(false,eval f X.env)]
def B4 (H:Hp)(a:aj):Prop:=(∃kvs,Rd H a (.dK kvs))∨∃kvs,Rd H a (.dT kvs)
theorem mY (I:zF X N' σ H s)(d:B4 H a):
  s.TypeIs (.ref a) "dict"/\(∀b,aG a=.ref b->∃ob,s.heap.get? b=some ob/\ob.dict=none)/\(a==sv)=false:=by
 rcases d with⟨kvs,e⟩ |⟨kvs,e⟩
 ·obtain⟨_,hd,vs,_,dd⟩:=Gv I.hok e;refine⟨dd.typeIs,λb q=>?_,hd⟩;cases q;obtain⟨ob,_,_,h1,h2,_⟩:=dd;exact⟨ob,h1,h2.2.1⟩
 ·obtain⟨_,hd,xs,_,dd⟩:=GG I.hok e;refine⟨dd.typeIs,λb q=>?_,hd⟩;cases q;obtain⟨ob,_,_,h1,h2,_⟩:=dd;exact⟨ob,h1,h2.2.1⟩
section
variable {d:V}{r:ae}{o:Option V}
theorem To (hu:A.units+1<sV)(I:zF X N' σ H s)(g:xa H a y o)(ry:qr y u)(h:∀w' s',zF X N' σ H s'->qr (o.getD .non) w'->Q w' s'):
  wpAny (az X.prog X.w) A (call (.builtin "dict.get") [.ref a,u]) Q E s:=by
 rcases g with⟨kvs,k,e,ey,l⟩ |⟨kvs,k,b,e,ey,eb,l⟩
 ·subst ey;obtain⟨z,hd,vs,rel,dd⟩:=Gv I.hok e;refine B_ iU dd.typeIs sN (Hj _ _) (meets_dict_get (qM X.prog X.w) a (Gx ry) hd) ⟨_,dd.mapOf,h _ _ (I.tok _) ?_⟩;rw[l];exact(rel.val k).getD rfl
 ·subst ey
  cases (show u=aG b from ry)
  obtain⟨z,hd,xs,rel,dd⟩:=GG I.hok e;refine B_ iU dd.typeIs sN (Hj _ _) (meetsH_dict_get (E_ (qM X.prog X.w)) a b hd) ⟨Fu hu,k,xs,VY I.hok eb,dd,h _ _ (I.tok _) ?_⟩;rw[l];exact(rel.val k).getD rfl
theorem R8 (hu:A.units+1<sV)(I:zF X N' σ H s)(g:xa H a y o)(ry:qr y u)(rd:qr d r)(h:∀w' s',zF X N' σ H s'->qr (o.getD d) w'->Q w' s'):
  wpAny (az X.prog X.w) A (call (.builtin "dict.get") [.ref a,u,r]) Q E s:=by
 rcases g with⟨kvs,k,e,ey,l⟩ |⟨kvs,k,b,e,ey,eb,l⟩
 ·subst ey;obtain⟨z,hd,vs,rel,dd⟩:=Gv I.hok e;refine B_ iU dd.typeIs sN (G_ _ _ _) (meets_dict_get_default (qM X.prog X.w) a (Gx ry) hd r) ⟨_,dd.mapOf,h _ _ (I.tok _) ?_⟩;rw[l];exact(rel.val k).getD rd
 ·subst ey
  cases (show u=aG b from ry)
  obtain⟨z,hd,xs,rel,dd⟩:=GG I.hok e;refine B_ iU dd.typeIs sN (G_ _ _ _) (meetsH_dict_get_default (E_ (qM X.prog X.w)) a b hd r) ⟨Fu hu,k,xs,VY I.hok eb,dd,h _ _ (I.tok _) ?_⟩;rw[l];exact(rel.val k).getD rd
end
def L7 (td ty:TE):TE:=λσ H Q=>td σ H λx H1=>∃a,x=.ref a/\B4 H1 a/\ty σ H1 λy H2=>∃o,xa H2 a y o/\Q (o.getD .non) H2
def Ti (td ty tx:TE):TE:=λσ H Q=>td σ H λx H1=>∃a,x=.ref a/\B4 H1 a/\ty σ H1 λy H2=>tx σ H2 λz H3=>∃o,xa H3 a y o/\Q (o.getD z) H3
section
variable {o f:aK}{td ty tx:TE}
theorem mh (hu:X.A.units+1<sV)(ho:PE X o td)(he:PE X e ty)(m:M1 X o "get" ν e X'):PE X (.Call (.Attribute o "get" ν) [e] [] X') (L7 td ty):=by
 intro N' s σ H Q I h;refine Ki m.base m.few m.line Ar iU HE (qC (ho N' s σ H _ I h) λu s1 hM=>?_);obtain⟨x,H1,I1,rx,a,ex,d,q1⟩:=hM;subst ex;obtain rfl:u=aG a:=rx;obtain⟨t1,t2,_⟩:=mY I1 d;refine⟨t1,t2,?_⟩;rw[m.trees];refine iP rfl (i6 (ip (qC (he N' s1 σ H1 _ I1 q1) λiv s2 hM=>?_)));obtain⟨y,H2,I2,ry,ov,g,q2⟩:=hM;refine iO ?_;exact To hu I2 g ry λw' s3 I3 rw'=>⟨_,H2,I3,rw',q2⟩
theorem PD (hu:X.A.units+1<sV)(ho:PE X o td)(he:PE X e ty)(hf:PE X f tx)(m:M2 X o "get" ν e f X'):PE X (.Call (.Attribute o "get" ν) [e,f] [] X') (Ti td ty tx):=by
 intro N' s σ H Q I h;refine Ki m.base m.few m.line Ar iU HE (qC (ho N' s σ H _ I h) λu s1 hM=>?_);obtain⟨x,H1,I1,rx,a,ex,d,q1⟩:=hM;subst ex;obtain rfl:u=aG a:=rx;obtain⟨t1,t2,_⟩:=mY I1 d;refine⟨t1,t2,?_⟩;rw[m.trees]
 refine iP rfl (i6 (ip (qC (he N' s1 σ H1 _ I1 q1) λiv s2 ⟨y,H2,I2,ry,q2⟩=>
  ip (qC (hf N' s2 σ H2 _ I2 q2) λfv s3 ⟨z,H3,I3,rz,ov,g,q3⟩=>iO ?_))))
 exact R8 hu I3 g ry rz λw' s4 I4 rw'=>⟨_,H3,I4,rw',q3⟩
end
section
end
section
end
section
end
section
variable {κ:Type}[DecidableEq κ]
theorem GN:∀{l:List κ} {k:κ},l.Nodup->¬k∈l->(l++[k]).Nodup
 |[],k,_,_=>by simp
 |a::r,k,h,hk=>by
  obtain⟨h1,h2⟩:=Ds.mp h;show(a::(r++[k])).Nodup;refine Ds.mpr ⟨λm=>?_,GN h2 λm=>hk (CF.mpr (Ao m))⟩;rcases CU.mp m with q |q
  ·exact h1 q
  ·exact hk (CF.mpr (ax (du.mp q).symm))
end
theorem zj.upd {p:aj}{o:HO}(hp:H p=none):zj H (L2.upd H p o):=λb u e=>by
 rw[zx (zo e hp)];exact e
theorem zj.tup {K:BFr}(e:zj H H')(h:yT K H a xs):yT K H' a xs:=by
 rcases h with (h |⟨o,h⟩) |h
 ·exact .inl (.inl (e _ _ h))
 ·exact .inl (.inr ⟨o,e _ _ h⟩)
 ·exact .inr h
section
variable {K:BFr}
theorem nL:u9 K H .non:=⟨("NoneType",false,false,false,false),by decide,.non,by decide⟩
theorem TQ (b:Bool):u9 K H (.bl b):=⟨("bool",true,true,false,false),by decide,.bl b,by decide⟩
theorem Tr (i:Int):u9 K H (.int i):=⟨("int",true,false,false,false),by decide,.int i,by decide⟩
theorem lJ (e:H a=some (.lst xs)):u9 K H (.ref a):=⟨("list",false,false,false,true),by decide,.lst e,by decide⟩
theorem tE (e:H a=some (.tup xs)):u9 K H (.ref a):=⟨("tuple",false,false,false,false),by decide,.tup e,by decide⟩
theorem Bg (e:H a=some (.dK kvs)):u9 K H (.ref a):=⟨("dict",false,false,false,false),by decide,.dK e,by decide⟩
end
def oX:aK->Bool
 |.Slice _ _ _ _=>true
 |_=>false
theorem Y6 {b:aK}(h:oX b=false):ou b:=λo i=>by
 cases b<;>first |rfl |cases h
theorem qa {a b:aK}{ta tb:TE}{pos:iS}{r:R2}(hr:TF X r)(ha:PE X a ta)(hb:PE X b tb)(hs:oX b=false:=by rfl):PE X (.Subscript a b pos) (jA r ta tb):=bc hr ha hb (Y6 hs)
theorem Ys {xs:List α}{i:Int}{v:α}(h0:0<=i)(h:xs[i.toNat]?=some v):atI xs i=some v:=by
 have e:=jG h
 rwa [Int.toNat_of_nonneg h0]at e
theorem kP {xs:List α}{i:Int}(h0:0<=i)(h1:i<xs.length):∃v,atI xs i=some v/\v∈xs:=by
 have hl:i.toNat<xs.length:=by lia
 exact⟨xs[i.toNat],Ys h0 (CC hl),DA hl⟩
theorem B0 {a b:af}:(decide (V.str a=V.str b)=true)↔a=b:=by rw[decide_eq_true_iff];exact⟨λh=>V.str.inj h,λh=>G' V.str h⟩
theorem B1 {a b:Int}:(decide (V.int a=V.int b)=true)↔a=b:=by rw[decide_eq_true_iff];exact⟨λh=>V.int.inj h,λh=>G' V.int h⟩
theorem rL (a b:Int):decide (V.int a=V.int b)=decide (a=b):=Dr.mpr (B1.trans decide_eq_true_iff.symm)
theorem bU (a b:af):decide (V.str a=V.str b)=decide (a=b):=Dr.mpr (B0.trans decide_eq_true_iff.symm)
def JH (ns:List Int)(k:Int):Int:=ns.getD k.toNat 0
def Ju (ns:List Int)(k:Int):Int:=(JH ns k*48271+7919*k*k*k+104729)%2147483647*16807%2147483629
theorem Zk (ns:List Int)(k:Int):0<=Ju ns k:=dG _ (by decide)
theorem ZS (ns:List Int)(k:Int):Ju ns k<2147483629:=dH _ (by decide)
theorem Nx {ns:List Int}{k:Int}(h0:0<=k)(h:k<((ns.map V.int).length:Nat)):atI (ns.map V.int) k=some (.int (JH ns k)):=by
 rw[Cw]at h;have hl:k.toNat<ns.length:=by lia
 refine Ys h0 ?_;unfold JH;rw[CI,CC hl,dD,CC hl];rfl
theorem mL {ns:List Int}{k:Int}(h:¬k<((ns.map V.int).length:Nat)):JH ns k=0:=by
 rw[Cw]at h;unfold JH;rw[dD,dO (by lia)];rfl
theorem z8 (h:AD n 1000=true):n<=ar:=CD (eT h) (by decide)
def G4 (H:Hp)(o:HO)(Q:VK):Prop:=∀p H',zj H H'->H p=none->H' p=some o->Q (.ref p) H'
theorem G4.at {o:HO}{Q:VK}(h:G4 H o Q){p:aj}(hp:H p=none):Q (.ref p) (upd H p o):=h p _ (zj.upd hp) hp zt
def Y9 (t:TA):TE:=λσ H Q=>t σ H λxs H1=>xs.length<=ar/\G4 H1 (.tup xs) Q
def oK (t:TA):TE:=λσ H Q=>t σ H λxs H1=>xs.length<=ar/\G4 H1 (.lst xs) Q
section
variable {es:List aK}{t:TA}{pos:iS}
theorem qq {x1}(h:PA X es t):PE X (.Tuple es x1 pos) (Y9 t):=by
 intro N' s σ H Q I hq;refine wpAny_Tuple_spliced (qC (h pos N' s σ H _ I hq) λus s1 hM=>?_);obtain⟨xs,H1,I1,r,z,q⟩:=hM;refine⟨by rw[<- r.length];exact z,?_⟩;have hf:H1 s1.heap.objs.size=none:=I1.hok.fresh (Cz _);refine⟨.ref s1.heap.objs.size,upd H1 s1.heap.objs.size (.tup xs),I1.laid (t':=s1.toks) (λb u e=>CN _ e) (Cz _) ?_,Z,q.at hf⟩;exact⟨z,us,r,⟨_,dj _ Z,Z,_,Z⟩⟩
theorem zU (h:PA X es t):PE X (.List es pos) (oK t):=by
 intro N' s σ H Q I hq;refine Am (qC (h pos N' s σ H _ I hq) λus s1 hM=>?_);obtain⟨xs,H1,I1,r,z,q⟩:=hM;refine⟨by rw[<- r.length];exact z,?_⟩;have hf:H1 s1.heap.objs.size=none:=I1.hok.fresh (Cz _);refine⟨.ref s1.heap.objs.size,upd H1 s1.heap.objs.size (.lst xs),I1.laid (t':=s1.toks) (λb u e=>CN _ e) (Cz _) ?_,Z,q.at hf⟩;exact⟨z,us,0,r,dj _ Z⟩
def Rh:TE:=λ_ H Q=>G4 H (.dK []) Q
theorem Wc:PE X (.Dict [] [] pos) Rh:=λN' s σ H Q I h=>Ml N' s σ H Q I λp hp=>h.at hp
def rP:R2:=λx y H Q=>∃l b xs zs,x=.ref l/\y=.ref b/\H l=some (.lst xs)/\H b=some (.lst zs)/\xs.length+zs.length<=ar/\G4 H (.lst (xs++zs)) Q
theorem qL:uW X (su .Add) rP:=λN' s σ H x y v u Q I rx ry hM=>by obtain⟨l,b,xs,zs,e1,e2,h1,h2,hz,q⟩:=hM;exact Rq N' s σ H x y v u Q I rx ry ⟨l,b,xs,zs,e1,e2,h1,h2,hz,λp hp=>q.at hp⟩
def bw:R2:=λx y H Q=>∃l k xs,x=.ref l/\y=.int k/\H l=some (.lst xs)/\-(2 ^ 63)<=k/\k<2 ^ 63/\xs.length*k.toNat<=ar/\G4 H (.lst (aw k.toNat xs).flatten) Q
theorem GJ:uW X (su .Mult) bw:=λN' s σ H x y v u Q I rx ry hM=>by obtain⟨l,k,xs,e1,e2,h1,h2,h3,hz,q⟩:=hM;exact tJ N' s σ H x y v u Q I rx ry ⟨l,k,xs,e1,e2,h1,h2,h3,hz,λp hp=>q.at hp⟩
end
theorem ZX {l:List (af×Fo)}(h:l.all (λy=>decide (y.2=.local))=true){k:Fo}(e:l.lookup x=some k):k=.local:=by
 induction l with
 |nil=>cases e
 |cons y r ih=>
  rw[eU,CW]at h;rw[fu]at e
  split at e
  ·cases e;exact B' h.1
  ·exact ih h.2 e
theorem Pp {l:List (af×Fo)}(h:l.all (λy=>decide (y.2=.local))=true)(x:af)(z:l.lookup x=some .cell∨l.lookup x=some .free):∃c,cl.lookup x=some c:=by
 rcases z with z |z
 ·cases ZX h z
 ·cases ZX h z
theorem Tu {C:Nat->Nat->Prop}(i j:Nat)(z:(aw n (none:Option Nat))[i]?=some (some j)):C i j:=by
 rw[EN]at z
 split at z<;>cases z
theorem Wi {K:BFr}{pairs:List (af×Bool)}(hσ:σ.length=2)(hl:ts.length=pairs.length)(ha:H1 a=some (.lst ts))(hD:H1 D=none)(ht:∀(i:Nat) p,pairs[i]?=some p->∃t,ts[i]?=some (V.ref t)/\H1 t=some (.tup [.str p.1,.bl p.2]))(hz:pairs.length<ar)(k:∀H2,zj H1 H2->H2 D=some (.lst ((pairs.filter (·.2)).map λp=>V.str p.1))->P' ((pairs.filter (·.2)).map λp=>V.str p.1) H2):
  XA K a D ts (uQ K 2 (qN (zO 0) (qN (zO 1) wj))) (tB (zN 1)) (zN 0) P' σ (upd H1 D (.lst [])):=by
 refine⟨λi ys σ H=>σ.length=2/\ys=((pairs.take i).filter (·.2)).map (λp=>V.str p.1)/\H D=some (.lst ys)/\zj H1 H,⟨hσ,by simp,zt,zj.upd hD⟩,?_,?_,?_⟩
 ·rintro i ys σ H ⟨_,_,e,s⟩;exact⟨zL.of (s _ _ ha),e⟩
 ·rintro i x ys σ H hx ⟨h2,e,hd,s⟩
  obtain⟨x0,x1,rfl⟩:∃x0 x1,σ=[x0,x1]:=by
   match σ,h2 with
   |[x0,x1],_=>exact⟨x0,x1,Z⟩
  have hi:i<pairs.length:=by
   have:=(CV.mp hx).1;lia
  have hp:pairs[i]?=some pairs[i]:=CC hi;obtain⟨t,e1,e2⟩:=ht i _ hp;rw[hx]at e1;cases e1
  have len:ys.length<=i:=by
   rw[e,Cw];exact CD (ES _ _) (by rw[CQ];exact Nat.min_le_left _ _)
  have tk:pairs.take (i+1)=pairs.take i++[pairs[i]]:=by rw[fA,hp];rfl
  refine⟨t,_,Z,yT.of (s _ _ e2),Z,_,_,Z,_,_,Z,Z,_,Z,pairs[i].2,Z,?_⟩
  cases hb:pairs[i].2 with
  |true=>
   refine yh ⟨_,Z,hd,by lia,Z,?_,zt,λb o z=>?_⟩
   ·rw[tk,DZ,CJ,<- e]
    simp[hb]
   ·rw[zx (zo z hD)];exact s b o z
  |false=>
   refine qO ⟨Z,?_,hd,s⟩;rw[tk,DZ,CJ,<- e]
   simp[hb]
 ·rintro ys σ H ⟨_,e,hd,s⟩;rw[hl,dW (Cz _)]at e;subst e;exact k H s hd
structure VZ (K:BFr)(H:Hp)(ea C:aj):Prop where
 ex:∃oe vs,H ea=some (Lq ea oe)/\oe.cls=.ref C/\oe.dict=none/\oe.data=.fields vs
 cls:XK.ui K C
theorem VZ.same {K:BFr}(h:VZ K H ea C)(s:zj H H'):VZ K H' ea C:=by
 obtain⟨⟨oe,vs,e,r⟩,c⟩:=h;exact⟨⟨oe,vs,s _ _ e,r⟩,c⟩
theorem VZ.ty {K:BFr}(h:VZ K H ea C):BC K H (.ref ea) (.ref C):=by
 obtain⟨⟨oe,vs,e,e1,e2,e3⟩,c⟩:=h;exact .inr ⟨ea,oe,C,vs,Z,Z,e,e1,e2,e3,c⟩
section
theorem zF.walked (I:zF X N' σ H s){u:iN}{tk:Nat}(hk:∀b o,b∉[s.heap.objs.size]->(s.heap.push u).get? b=some o->h'.get? b=some o):
  zF X N' σ H {s with heap:=h',toks:=tk} :=
 I.kept (t':=tk) λb o e=>hk b o (by simp;exact CM (CH e)) (CN _ e)
theorem oU (bs:List α)(d:α)(p:α->Bool):(aQ bs.length).all (λi=>p (bs.getD i d))=bs.all p:=by
 induction bs with
 |nil=>rfl
 |cons b r ih=>
  rw[CY,List.range_succ_eq_map,eU,D0,eU]
  congr 1
theorem Rx {bs:List Bool}(rv:zZ (bs.map V.bl) its)(e:its.toArray[i]?=some v):v=.bool (bs.getD i false):=by
 have hl:=rv.length;rw[Cw]at hl
 have hi:i<its.length:=by
  have:=(DH.mp e).1
  simpa using this
 have hx:(bs.map V.bl)[i]?=some (V.bl (bs.getD i false)):=by
  rw[CI,CC (by lia),dD,CC (by lia)];rfl
 obtain⟨u,e1,e2⟩:=rv.get hx;have e3:its[i]?=some v:=by simpa using e
 rw[e1]at e3;cases e3;exact e2
theorem uB (hc:X.calm=true):jL X (.builtin "all") (λxs H Q=>∃(a:aj) (bs:List Bool),xs=[.ref a]/\zL X.K H a (bs.map V.bl)/\Q (.bl (bs.all id)) H):=by
 intro N' s σ H xs us Q I r h;obtain⟨a,bs,rfl,hS,q⟩:=h;obtain⟨u,rfl,ru⟩:=vB r;cases ru;obtain⟨its,rv,pl,hz⟩:=I.list hS;have hl:its.length=bs.length:=by rw[<- rv.length,Cw]
 have γ:a≠s.heap.objs.size:=by obtain⟨o,e,_⟩:=pl.isList;exact CM (CH e)
 refine call_all_walk (sr pl.isList ?_);refine⟨s.heap.objs.size,_,_,_,_,_,λi=>bs.getD i false,Z,IL (A:=X.A.in1) (I.ok.hd hc) _ a γ its.toArray,⟨⟨_,dj _ Z,Z,Z⟩,pl.isList.push _⟩,λi v s' Q' E' hP hQ=>?_,λh' tk hk=>?_⟩
 ·rw[Rx rv hP];exact ib hQ
 ·refine⟨.bl _,H,I.walked hk,Z,?_⟩
  have e:(aQ its.toArray.size).all (λi=>bs.getD i false)=bs.all id:=by
   rw[de,hl];exact oU bs false id
  rw[e];exact q
theorem Q9 {ns:List Int}(rv:zZ (ns.map V.int) its)(e:its.toArray[i]?=some v):∃t,v=.int (ns.getD i 0) t:=by
 have hl:=rv.length;rw[Cw]at hl
 have hi:i<its.length:=by
  have:=(DH.mp e).1
  simpa using this
 have hx:(ns.map V.int)[i]?=some (V.int (ns.getD i 0)):=by
  rw[CI,CC (by lia),dD,CC (by lia)];rfl
 obtain⟨u,e1,e2⟩:=rv.get hx;have e3:its[i]?=some v:=by simpa using e
 rw[e1]at e3;cases e3;exact e2
theorem QG (l:List Int):∀j,preSum (λi=>l.getD i 0) j=(l.take j).sum
 |0=>by simp[preSum]
 |j+1=>by
  rw[preSum,QG l j]
  by_cases h:j<l.length
  ·have e:l.take (j+1)=l.take j++[l[j]]:=by rw[fA,CC h];rfl
   rw[e,List.sum_append,dD,CC h]
   simp
  ·rw[dW (by lia),dW (by lia),dD,dO (by lia)]
   simp
theorem uy (hc:X.calm=true):jL X (.builtin "sum") (λxs H Q=>∃(a:aj) (ns:List Int),xs=[.ref a]/\zL X.K H a (ns.map V.int)/\Q (.int ns.sum) H):=by
 intro N' s σ H xs us Q I r h;obtain⟨a,ns,rfl,hS,q⟩:=h;obtain⟨u,rfl,ru⟩:=vB r;cases ru;obtain⟨its,rv,pl,hz⟩:=I.list hS;have hl:its.length=ns.length:=by rw[<- rv.length,Cw]
 have ε0:a<s.heap.objs.size:=by obtain⟨o,e,_⟩:=pl.isList;exact CH e
 have γ:a≠s.heap.objs.size:=CM ε0;refine call_sum_walkG (sr pl.isList ?_);refine⟨s.heap.objs.size,_,_,_,_,_,λi=>ns.getD i 0,Z,IL (A:=X.A.in1) (I.ok.hd hc) _ a γ its.toArray,⟨⟨_,dj _ Z,Z,Z⟩,pl.isList.push _⟩,λb hb=>?_,λi v hP=>Q9 rv hP,λh' tk t' hk=>?_⟩
 ·show b<(s.heap.push _).objs.size;rw[DJ];rcases CF.mp hb with rfl |hb
  ·exact eL _
  ·rw[du.mp hb];exact Eo ε0
 ·refine⟨.int _,H,I.walked hk,⟨t',Z⟩,?_⟩
  have e:preSum (λi=>ns.getD i 0) its.toArray.size=ns.sum:=by
   rw[de,hl,QG,dW (Cz _)]
  rw[e];exact q
end
def we (l:List Nat)(lo hi:Option Int):List Nat:=(l.drop (HT.vQ l.length 0 lo)).take (HT.vQ l.length l.length hi-HT.vQ l.length 0 lo)
theorem Yc (n d:Nat)(v:Int):max 0 (min (if v<0 then v+(n:Int) else v) (n:Int))=((HT.vQ n d (some v):Nat):Int):=by
 show _=(((if v<0 then (v+(n:Int)).toNat else min v.toNat n):Nat):Int)
 by_cases hv:v<0
 ·have le:=Int.add_le_add_right (Int.le_of_lt hv) (n:Int);rw[Int.zero_add]at le;rw[L' hv,L' hv,Int.min_eq_left le,Int.ofNat_toNat,Int.max_comm]
 ·obtain⟨m,rfl⟩:=dZ (ET.mp hv);rw[K' hv,K' hv,dJ,Int.max_eq_right (Int.le_min.mpr ⟨EU m,EU n⟩)];rcases Nat.le_total m n with c |c
  ·rw[Dp c,Int.min_eq_left (Int.ofNat_le.mpr c)]
  ·rw[Ep c,Int.min_eq_right (Int.ofNat_le.mpr c)]
theorem mT (lo hi:Option Int)(n:Nat):j_ lo hi 1 n=sliceRange ((HT.vQ n 0 lo:Nat):Int) ((HT.vQ n n hi:Nat):Int) 1:=by
 unfold j_;simp only[show(1:Int) > 0 by decide,if_true]
 cases lo with
 |none=>
  cases hi with
  |none=>rfl
  |some j=>simp only[Yc n n j];rfl
 |some i=>
  cases hi with
  |none=>simp only[Yc n 0 i];rfl
  |some j=>simp only[Yc n 0 i,Yc n n j]
theorem qk (z:af)(lo hi:Option Int):(ay z lo hi).cps.toList=we z.cps.toList lo hi:=by
 have len:z.length=z.cps.toList.length:=Dc.symm;have ix:=(mT lo hi z.length).trans (Sn _ _)
 have key:(j_ lo hi 1 z.length).filterMap (z.cps[·]?)=we z.cps.toList lo hi:=by
  rw[ix,pick_run,len];rfl
 unfold ay;split
 ·rename_i h;have h:(j_ lo hi 1 z.length).length=z.length:=by simpa using h
  rw[ix,Cw,d9,len]at h;have a2:=HT.tF z.cps.toList.length z.cps.toList.length (Cz _) hi
  have hl:(we z.cps.toList lo hi).length=z.cps.toList.length:=by
   unfold we;rw[CQ,dB,h];exact Dp (CD (DW h.symm) (Nat.sub_le_sub_right a2 _))
  exact(((Ky _ _).trans (List.drop_sublist _ _)).eq_of_length hl).symm
 ·exact key
def Rm:V->Option Int->Option Int->Hp->VK->Prop:=λx lo hi H Q=>∃z,x=.str z/\z.length<=ar/\Q (.str (ay z lo hi)) H
theorem JW {o:Option Int}(p:IsPart v o):∃l:Option (Int×Iw),v=partValue l/\o=l.map (·.1):=by
 cases p with
 |none=>exact⟨none,Z,Z⟩
 |int i t=>exact⟨some (i,t),Z,Z⟩
theorem qw:BW X Rm:=by
 intro N' s σ H x v vl vu lo hi sl Q I rx hs pl pu h;obtain⟨z,rfl,hz,q⟩:=h;obtain⟨t,rfl⟩:=rx;obtain⟨l,rfl,rfl⟩:=JW pl;obtain⟨u,rfl,rfl⟩:=JW pu;refine⟨"str",_,F.slot_str_getitem.lookup,Ak _ _ _,wpAny_getItem_str_slice (l:=l) (u:=u) (st:=none) hs Z ?_⟩;exact post_val_or_str ⟨CD (h9 z _ _) hz,λt' k=>⟨.str _,H,I.tok k,⟨t',Z⟩,q⟩⟩
def qo (xe:ae->av->Prop)(X:Cx)(Nc:List af)(scope:AW)(cl:List (af×aj))(C:aj)(fp:List aj)(s:av)(H:Hp):Cx :=
 {X with N:=Nc,s₀:=s,H₀:=H,env:=Ft scope cl C X.env,outer:=X.stack,ex:=fp,fn:=λ_=>false,pn:=[],xe:=xe}
abbrev ka:=qo λ_ _=>False
def yF (J:It)(D:aj)(g:TG)(tt:TT)(te:TE)(P':List V->Hp->Prop)(σ:St)(H:Hp):Prop :=
 ∃W:Nat->Nat->List V->St->Hp->Prop,(∃m,W 0 m [] σ H)/\(∀i m ys σ H,W i m ys σ H->H D=some (.lst ys)) /\
  ∀i m ys σ H,W i m ys σ H->(J.stop i H/\P' ys H) ∨
   (J.go i H/\∃N:List V->St->Hp->Prop,(∀μ σ' H',N μ σ' H'->∃m',m'<m/\W (i+1) m' μ σ' H') /\
    ∀x H',J.yld i H x H'->g x σ H' λσ1 H1=>tt σ1 H1 λb H2=>if b=true then te σ1 H2 λy H3=>H3 D=some (.lst ys)/\ys.length<ar/\N (ys++[y]) σ1 (upd H3 D (.lst (ys++[y]))) else N ys σ1 H2)
def Zj (src:List (Option Nat))(wi:TI)(g:TG)(tt:TT)(te:TE):TE:=λσ H Q=>wi σ H λJ H1=>∀D,H1 D=none->yF J D g tt te (λys H2=>Q (.ref D) H2) (ZR src σ) (upd H1 D (.lst []))
section
variable {g:TG}
theorem uc {xe:ae->av->Prop}{tn:Nat->ia->Prop}{J:It}{R:aj->Kd->av->Prop}{pos:iS}
  (c:Zg X Nc scope cl src) (Z':X.calm=true) (I:zF X N' σ H s) (T:Uj X.prog X.w X.K η J fp it tn) (st0:tn 0 s.heap) (f:∀b∈fp,yj X N' H b) (hb:PG (qo xe X Nc scope cl s.heap.objs.size fp s H) η g/\vf (qo xe X Nc scope cl s.heap.objs.size fp s H) ρ tt/\PE (qo xe X Nc scope cl s.heap.objs.size fp s H) χ te) (h:yF J D g tt te P' (ZR src σ) H) (hx:∀x s',xe x s'->notedBy (az X.prog X.w) X.A (Ft scope cl s.heap.objs.size X.env) (λe s'=>R s.heap.objs.size (.error e) s') x s') (δ9:∀C ys σ' H' s',H C=none->zF (qo xe X Nc scope cl C fp s H) [] σ' H' s'->H' D=some (.lst ys)->P' ys H'->R C (.ok .next) s') :
  wpAny (az X.prog X.w) X.A (Ay scope X.env.globals cl [] X.env.qual none .none (some X.env)) (λγ4 s4=>
   codeAny (az X.prog X.w) X.A (.compStart (.ListComp χ [⟨η,iter,ρ,0⟩] scope pos) 0 (.ref it) (.ref D) {γ4 with scope:=FL scope X.env}) (R γ4.locals) s4) E s:=by
 obtain⟨W,⟨m0,w0⟩,wi,wt⟩:=h;refine HS c.cell (by intro y hy;simp at hy) (λh1 hn1 hs1=>?_) c.kind;have hC0:H s.heap.objs.size=none:=I.hok.fresh (Cz _);have θ:∀b o,s.heap.get? b=some o->h1.get? b=some o:=λb o e=>hs1.extBut b o (CM (CH e)) (CN _ e)
 have δ3:∀b∈fp,b<s.heap.objs.size:=λb hb=>by
  obtain⟨o,e,_⟩:=T.obj 0 _ st0 b hb;exact CH e
 have ω:∀b∈fp,b∉Xg X.stack:=λb hb z=>(CF.mp (I.stkSub b z)).elim (f b hb).2.1 (f b hb).2.2.1
 have Yok:(qo xe X Nc scope cl s.heap.objs.size fp s H).Ok:=by
  refine⟨I.ok.mod,c.kind,I.ok.glob,I.ok.blt,Cz _,λx y b h1 h2=>I.ok.inj x y b (c.sub x b h1) (c.sub y b h2),λx hx=>c.has x hx,(λx b h1 _=>nomatch h1),I.ok.hd,I.ok.frames,.inl Z,λb hb=>?_,λb o e=>I.bs b o e,CD I.ok.bsz I.sz,λb o e hb=>?_,λb hb=>?_,I.stack,I.stkFree⟩
  ·exact⟨CM (δ3 b hb),λx b' e=>(f b hb).2.2.2.2.1 x b' (c.sub x b' e)⟩
  ·have e0:=(I.ok.bs b o e).1;rcases (f b hb).2.2.2.1 with z |z
   ·exact I.ok.noex b o e z
   ·rw[z]at e0;cases e0
  ·exact ω b hb
 have J0:zF (qo xe X Nc scope cl s.heap.objs.size fp s H) [] (ZR src σ) H {s with heap:=h1,toks:=s.toks+([]:List (af×ae)).length}:=by
  refine⟨Yok,Z,I.bare,Un.kept θ,⟨_,hn1,λi x v e1 e2 e3=>?_⟩,λx b e=>?_,hC0,λx b e=>I.freeC x b (c.sub x b e),λp hp=>M' (show p∈([]:List (aj×iN)) from hp) (by simp),I.hok.kept θ,?_⟩
  ·unfold ZR at e2;rw[CI]at e2
   cases q:src[i]? with
   |none=>rw[q]at e2;cases e2
   |some oj=>
    rw[q]at e2
    cases oj with
    |none=>cases e2
    |some j=>
     obtain⟨y,y1,y2,y3,y4⟩:=c.frm i j q;obtain rfl:y=x:=ai (y1.symm.trans e1);have e2':(σ[j]?).join=some v:=ai e2
     have e2s:σ[j]?=some (some v):=by
      cases z:σ[j]? with
      |none=>rw[z]at e2';cases e2'
      |some ov=>rw[z]at e2';exact G' some e2'
     obtain⟨m,hn,hl⟩:=I.loc;obtain⟨u,r,l⟩:=hl j y v y2 e2s (.inr (.inl y3));refine⟨u,r,.inr ⟨.inl y4,?_⟩⟩;rcases l with⟨k1,_⟩ |⟨_,b,k2,k3⟩
     ·exact M' (k1.symm.trans y3) (by intro z;cases z)
     ·obtain⟨b',k4⟩:=c.has y (.inl y4);have k5:=c.sub y b' k4;rw[k2]at k5;cases k5;obtain⟨o,ho,hd⟩:=k3;exact⟨b,k4,o,θ b o ho,hd⟩
  ·obtain⟨v,o,ho,hd⟩:=I.cell x b (c.sub x b e);exact⟨v,o,θ b o ho,hd⟩
  ·unfold ZR;rw[Cw];exact c.len
 have st1:tn 0 h1:=T.keep _ _ _ st0 λb _ o e=>θ b o e;obtain⟨bg,bi,be⟩:=hb
 have fpY:∀{H2:Hp},(∀b∈fp,H2 b=none)->∀b∈fp,yj (qo xe X Nc scope cl s.heap.objs.size fp s H) [] H2 b:=λ{H2} n b hb=>
  ⟨n b hb,CM (δ3 b hb),ω b hb,.inl hb,λx b' e=>(f b hb).2.2.2.2.1 x b' (c.sub x b' e),λp hp=>M' (show p∈([]:List (aj×iN)) from hp) (by simp)⟩
 have loop:codeAny (az X.prog X.w) X.A (.compLoop (.ListComp χ [⟨η,iter,ρ,0⟩] scope pos) 0 (.ref it) (.ref D) (Ft scope cl s.heap.objs.size X.env)) (R s.heap.objs.size) {s with heap:=h1,toks:=s.toks+([]:List (af×ae)).length}:=by
  refine Qu (EX:=xe) hx (λn s'=>∃i ys σ' H',zF (qo xe X Nc scope cl s.heap.objs.size fp s H) [] σ' H' s'/\tn i s'.heap/\(∀b∈fp,H' b=none)/\W i n ys σ' H') ?_ m0 ⟨0,[],_,H,J0,st1,λb hb=>(f b hb).1,w0⟩;rintro n s2 ⟨i,ys,σ2,H2,J2,ε,fr2,w2⟩;have q2:=wi i n ys σ2 H2 w2;rcases wt i n ys σ2 H2 w2 with⟨stop,qn⟩ |⟨go,N,hN,step⟩
  ·refine qC (T.done (qo xe X Nc scope cl s.heap.objs.size fp s H) Z Z Z Z' i [] s2 σ2 H2 _ J2 (fpY fr2) ε stop) λr s4 hM=>?_;obtain⟨hr,I4⟩:=hM;subst hr;exact δ9 _ ys σ2 H2 _ hC0 I4 q2 qn
  ·refine qC (T.item (qo xe X Nc scope cl s.heap.objs.size fp s H) Z Z Z Z' i [] s2 σ2 H2 _ J2 (fpY fr2) ε go) λr s4 hM=>?_;obtain⟨u,hr,h4⟩:=hM;subst hr;refine qC h4 λ_ s5 hM=>?_;obtain⟨x,H5,I5,r5,y5,st5,fr5⟩:=hM;have I5':=I5.pinned (fpY fr5) (T.obj _ _ st5)
   have back:∀{σ7:St} {H7:Hp} {s7:av},zF (qo xe X Nc scope cl s.heap.objs.size fp s H) ([]++vx fp s5.heap) σ7 H7 s7->zF (qo xe X Nc scope cl s.heap.objs.size fp s H) [] σ7 H7 s7/\tn (i+1) s7.heap/\∀b∈fp,H7 b=none:=λ{σ7 H7 s7} I7=>by
    refine⟨I7.unpinned,T.keep _ _ _ st5 λb hb o e=>(I7.pin (b,o) (dm _ (dm _ (yV hb e)))).1,λb hb=>?_⟩;obtain⟨o,e,d⟩:=T.obj _ _ st5 b hb;exact(I7.pin (b,o) (dm _ (dm _ (yV hb e)))).2.1
   refine qC (bg _ s5 σ2 H5 x u _ I5' r5 (step x H5 y5)) λ_ s6 hM=>?_;obtain⟨σ6,H6,I6,q6⟩:=hM;refine qC (bi _ s6 σ6 H6 _ I6 q6) λb s7 hM=>?_;obtain⟨H7,I7,q7⟩:=hM
   cases b with
   |false=>
    obtain⟨m',hm,w7⟩:=hN _ _ _ q7;obtain⟨J7,st7,fr7⟩:=back I7;exact⟨m',hm,i+1,ys,σ6,H7,J7,st7,fr7,w7⟩
   |true=>
    refine qC (be _ s7 σ6 H7 _ I7 q7) λy s8 hM=>?_;obtain⟨vy,H8,I8,ry,hD8,hl8,n8⟩:=hM;refine qC (qT (X:=qo xe X Nc scope cl s.heap.objs.size fp s H) _ s8 σ6 H8 (.ref D) [vy] (.ref D) [y] (λ_ H'=>H'=upd H8 D (.lst (ys++[vy]))) I8 Z (.cons ry .nil) ⟨D,ys,vy,Z,Z,hD8,hl8,Z⟩) λ_ s9 hM=>?_;obtain⟨_,H9,I9,_,e9⟩:=hM;subst e9;obtain⟨m',hm,w8⟩:=hN _ _ _ n8;obtain⟨J9,st9,fr9⟩:=back I9;exact⟨m',hm,i+1,ys++[vy],σ6,_,J9,st9,fr9,w8⟩
 exact Az loop (T.self _ 0 _ _ _ st1 loop)
theorem vF {xe:ae->av->Prop}(I:zF X N' σ H s)(f:∀b∈fp,yj X N' H b)(J:zF (qo xe X Nc scope cl C fp s H) [] σ' H' s')(hs:ik C s'.heap h'):
  zF X N' σ H' {s' with heap:=h'}:=by
 have nC:∀b o,s.heap.get? b=some o->b≠C:=λb o e=>CM (dP (CH e) J.ok.above);have B:=J.base;refine I.call' (s':={s' with heap:=h'}) (ch:=fp) J.os ⟨λb o e n hb hx=>(hs.2 b (nC b o e)).trans (B.keep b o e n hb hx),λb o e n hb hx=>?_,B.free,λb o e hx=>?_,B.tups,B.frzs,B.tbls⟩ (λb u q=>?_) J.bare λb hb=>?_
 ·obtain⟨sl,z⟩:=B.slot b o e n hb hx;exact⟨sl,(hs.2 b (nC b o e)).trans z⟩
 ·obtain⟨o',z⟩:=B.there b o e hx;exact⟨o',(hs.2 b (nC b o e)).trans z⟩
 ·have hC:H' C=none:=J.free;refine(J.hok b u q).stay (λc v hc z=>(hs.2 c ?_).trans z) (λ_ z=>z) λ_ _ z=>z;rintro rfl;rcases hc with hc |hc
  ·rw[<- hc,hC]at q;cases q
  ·rw[hC]at hc;cases hc
 ·exact⟨(f b hb).2.2.2.1,(f b hb).2.1,(f b hb).2.2.2.2.1,(f b hb).2.2.2.2.2⟩
theorem z9 {pos:iS}(c:Zg X Nc scope cl src)(Z':X.calm=true)(hi:PI X η iter wi)(hb:∀fp C s' H',PG (ka X Nc scope cl C fp s' H') η g/\vf (ka X Nc scope cl C fp s' H') ρ tt/\PE (ka X Nc scope cl C fp s' H') χ te)(hs:∀x,i7 iter X.env x=pure x:=by intro _;rfl):PE X (.ListComp χ [⟨η,iter,ρ,0⟩] scope pos) (Zj src wi g tt te):=by
 intro N' s σ H Q I h;rw[FR];refine iI (use:=none) rfl hs c.clos c.kind c.names (qC (hi N' s σ H _ I h) λv s1 h1=>qC h1 λitv s2 h2=>?_);obtain⟨it,fp,tn,J,H2,e,I2,T,ε,f2,hT⟩:=h2;subst e;refine a_ ?_ (by size_fits);have θ:∀b o,s2.heap.get? b=some o->(s2.heap.push {cls:=.type "list",data:=.seq ([]:List ae).toArray}).get? b=some o:=λb o e=>CN _ e;have I3:=I2.laid (a:=s2.heap.objs.size) (o:=.lst []) (t':=s2.toks) (h':=s2.heap.push {cls:=.type "list",data:=.seq ([]:List ae).toArray}) θ (Cz _) ⟨CP _,[],0,.nil,dj _ Z⟩
 have ne:∀b∈fp,b≠s2.heap.objs.size:=λb hb=>by
  obtain⟨o,e,_⟩:=T.obj 0 _ ε b hb;exact CM (CH e)
 have f3:∀b∈fp,yj X N' (upd H2 s2.heap.objs.size (.lst [])) b:=λb hb=>⟨by rw[zx (ne b hb)];exact(f2 b hb).1,(f2 b hb).2⟩;refine uc (it:=it) (R:=λC=>F7 (az X.prog X.w) X.A X.xe none (EP X N' σ Q) _ C) c Z' I3 T (T.keep _ _ _ ε λb _ o e=>θ b o e) f3 (hb fp _ _ _) (hT _ (I2.hok.fresh (Cz _))) (λ_ _ z=>z.elim) λC ys σ' H' s' hC J' hD q=>?_;obtain⟨m,hn,_⟩:=id J'.loc;exact⟨m,hn,λh' ψ=>⟨.ref _,H',vF I3 f3 J' ψ,Z,q⟩⟩
end
section
variable {K:BFr}{g:TG}
def JE (D:aj)(g:TG)(tt:TT)(te:TE)(x:V)(ys:List V)(N:List V->St->Hp->Prop)(σ:St)(H:Hp):Prop :=
 g x σ H λσ1 H1=>tt σ1 H1 λb H2=>if b=true then te σ1 H2 λy H3=>H3 D=some (.lst ys)/\ys.length<ar/\N (ys++[y]) σ1 (upd H3 D (.lst (ys++[y]))) else N ys σ1 H2
end
def Bu (i j:Int):Prop:=0<j/\j<2 ^ 64
theorem Xf (h:n<2 ^ 64):n.log2<9000:=by
 by_cases h0:n=0
 ·rw[h0];decide
 ·exact eY ((K4 h0).mpr h) (by decide)
theorem LV:uW X (su .FloorDiv) (rI Bu λi j=>.int (i/j)):=bF λi j _ _ _ _ _ hc q=>by
 refine floordiv_int (by have:=hc.1;omega) ?_ (.inl (PyProof.noPylong_of_log2 (Xf (by have h1:=hc.1;have h2:=hc.2;omega))));rw[f9 _ (Int.le_of_lt hc.1)];exact q
def BI (z:af):It:=⟨λi _=>i<z.cps.size,λi H x H'=>H'=H/\∃c,z.cps[i]?=some c/\x=.str ⟨#[c]⟩,λi _=>z.cps.size<=i⟩
theorem Uh (z:af):A0 z = "str_ascii_iterator"∨A0 z = "str_iterator":=by
 unfold A0;split
 ·exact .inl rfl
 ·exact .inr rfl
theorem LA {K:BFr}(z:af)(t:Iw)(it:aj):Uj P w K tg (BI z) [it] it (λi h=>h.IsStrIter it (A0 z) z t i) where
 mem:=by simp
 obj:=λi h st b hb=>by
  have e:b=it:=by simpa using hb
  subst e;obtain⟨o,e,c,d⟩:=st;exact⟨o,e,λv q=>by rw[d]at q;cases q⟩
 keep:=λi h h' st k=>by
  obtain⟨o,e,r⟩:=st;exact⟨o,k it (by simp) o e,r⟩
 item:=by
  intro X hP hw hK hc i N' s σ H E I hf st hg;subst hP hw hK;have hg':i<z.cps.size:=hg;have hx:z.cps[i]?=some z.cps[i]:=Dq hg';obtain⟨f0,f1,f2,f3,f4,f5⟩:=hf it (by simp)
  have P':∀h':ia,h'.IsStrIter it (A0 z) z t (i+1)->ik it s.heap h'->∃u,some (iW ⟨#[z.cps[i]]⟩ s.toks)=some u /\
    wpAny (az X.prog X.w) X.A (Ae tg (.ref it) u) (λ_ s2=>∃x H',zF X N' σ H' s2/\qr x u/\(BI z).yld i H x H'/\s2.heap.IsStrIter it (A0 z) z t (i+1)/\∀b∈[it],H' b=none) E {s with heap:=h',toks:=s.toks+1}:=λh' U' sb=>by
   have I1:zF X N' σ H {s with heap:=h',toks:=s.toks+1}:=I.turned (t':=s.toks+1) (λb o hb e=>(sb.2 b hb).trans e) f0 f1 f3 f4 f5;obtain⟨o,e,c,d⟩:=id U';refine⟨_,Z,UJ (s:={s with heap:=h',toks:=s.toks+1}) e c d ?_ ⟨.str ⟨#[z.cps[i]]⟩,H,I1,⟨_,Z⟩,⟨Z,_,hx,Z⟩,U',λb hb=>(hf b hb).1⟩⟩;rcases Uh z with q |q<;>rw[q]<;>decide
  rcases Uh z with q |q
  ·rw[q]at st P' ⊢;exact wpAny_pyNext_ascii_item st hx λh' U' sb=>P' h' U' sb
  ·rw[q]at st P' ⊢;exact wpAny_pyNext_wide_item st hx λh' U' sb=>P' h' U' sb
 done:=by
  intro X hP hw hK hc i N' s σ H E I hf st hg;subst hP hw hK;have hg':z.cps.size<=i:=hg;have hx:z.cps[i]?=none:=EV hg';obtain⟨f0,f1,f2,f3,f4,f5⟩:=hf it (by simp);have P':∀h':ia,Ib it s.heap h'->(none:Option ae)=none/\zF X N' σ H {s with heap:=h'}:=λh' eb=>⟨Z,I.turned (t':=s.toks) (λb o hb e=>eb b o hb e) f0 f1 f3 f4 f5⟩;rcases Uh z with q |q
  ·rw[q]at st;exact wpAny_pyNext_ascii_end (I.ok.hd hc) st hx P'
  ·rw[q]at st;exact wpAny_pyNext_wide_end (I.ok.hd hc) st hx P'
 self:=λ_ _ _ _ _ st h=>by
  rcases Uh z with q |q
  ·rw[q]at st;exact wpAny_pyIter_striter_ascii st h
  ·rw[q]at st;exact wpAny_pyIter_striter_wide st h
def Ov (tl:TE):TI:=λσ H R=>tl σ H λx H1=>∃z,x=.str z/\R (BI z) H1
theorem YW {l:aK}(hl:PE X l tl):PI X tg l (Ov tl):=by
 intro N' s σ H R I h;refine qC (hl N' s σ H _ I h) λv s1 hM=>?_;obtain⟨x,H1,I1,r1,q1⟩:=hM;obtain⟨z,e,q⟩:=q1;subst e;obtain⟨t,rfl⟩:=r1;refine wpAny_pyIter_strU ?_;refine⟨s1.heap.objs.size,[s1.heap.objs.size],_,_,H1,Z,I1.kept (t':=s1.toks) λb o e=>CN _ e,LA z t _,⟨_,dj _ Z,Z,Z⟩,λb hb=>?_,q⟩;have e:b=s1.heap.objs.size:=by simpa using hb
 subst e;exact I1.fpOk (Cz _) (I1.hok.fresh (Cz _))
def p9 (c:Nat):V:=.str ⟨#[c]⟩
section
variable {g:TG}
end
section
theorem oD (x:af)(c:Nat):(!(aN x ⟨#[c]⟩ 0 x.length 1).isEmpty)=x.cps.toList.contains c:=by
 rw[Dr,StrLaws.found_iff,Es];constructor
 ·rintro ⟨i,h⟩;exact dv ((StrLaws.subAt_one x c i).mp h)
 ·intro h;obtain⟨i,hi⟩:=List.getElem?_of_mem h;exact⟨i,(StrLaws.subAt_one x c i).mpr hi⟩
def qE (z:af)(n:Int):af:=⟨(aw n.toNat z.cps.toList).flatten.toArray⟩
theorem Vu (a:Array Nat):∀(k:Nat) (O':Array Nat),((aw k a).foldl (· ++ ·) O').toList=O'.toList++(aw k a.toList).flatten
 |0,O'=>by simp
 |k+1,O'=>by
  rw[d7,dU,Vu a k,d7,dQ,Array.toList_append,dc]
theorem vz:uW X (su .Mult) (λx y H Q=>∃z n,x=.str z/\y=.int n/\-(2 ^ 63)<=n/\n<2 ^ 63/\z.length*n.toNat<=ar/\Q (.str (qE z n)) H):=by
 intro N' s σ H x y v u Q I rx ry h;obtain⟨z,n,rfl,rfl,h1,h2,hz,q⟩:=h;obtain⟨t,rfl⟩:=rx;obtain⟨t',rfl⟩:=ry;have lenz:z.length=z.cps.size:=rfl
 have e1:n<1->qE z n=aC:=λhn=>by
  unfold qE;rw[show n.toNat=0 by lia];rfl
 have e2:(n==1 || z.length==0)=true->¬n<1->qE z n=z:=λhc hn=>by
  unfold qE;rw[fB,beq_iff_eq,beq_iff_eq]at hc;rcases hc with rfl |hc
  ·simp
  ·have:z.cps = #[]:=Array.eq_empty_of_size_eq_zero hc;obtain⟨c⟩:=z
   simp at this
   subst this
   simp
 refine PySem.P.mul_str (by rw[j' (by lia),j' (by lia)];rfl) (λhn hc=>?_) (λhn hc=>?_) ?_
 ·intro hgt
  have hb:(z.length:Int)*n<=2 ^ 63-1:=by
   have hs:(ar:Int)<=2 ^ 63-1:=by have:=wJ;lia
   have:((z.length*n.toNat:Nat):Int)<=(ar:Int):=by exact_mod_cast hz
   rw[Int.natCast_mul,Int.toNat_of_nonneg (by lia)]at this;lia
  have:=(Int.le_ediv_iff_mul_le (by lia:(0:Int)<n)).mpr hb;lia
 ·unfold y_;exact j' (by lia)
 ·by_cases hn:n<1
  ·rw[L' hn];rw[e1 hn]at q;exact⟨by decide,.str _,H,I.tok _,⟨_,Z⟩,q⟩
  ·rw[K' hn]
   by_cases hc:(n==1 || z.length==0)=true
   ·rw[L' hc];rw[e2 hc hn]at q;exact⟨.str z,H,I,⟨t,Z⟩,q⟩
   ·rw[K' hc]
    have e3:(⟨(aw n.toNat z.cps).foldl (· ++ ·) #[]⟩:af)=qE z n:=by
     unfold qE
     congr 1
     apply El.mp;rw[Vu]
     simp
    rw[e3];refine⟨?_,.str _,H,I.tok _,⟨_,Z⟩,q⟩;show(qE z n).cps.size<=ar;unfold qE;rw[de,G5,eW]
    simpa [lenz] using hz
theorem yc:jL X (.type "int") (λxs H Q=>∃z n,xs=[.str z]/\PySem.intText? z=some n/\z.length<=640/\Q (.int n) H):=by
 intro N' s σ H xs us Q I r h;obtain⟨z,n,rfl,hn,hl,q⟩:=h;obtain⟨u,rfl,ru⟩:=vB r;obtain⟨t,rfl⟩:=ru;exact PySem.W.KIN.call_text hn hl ⟨.int n,H,I.tok _,⟨_,Z⟩,q⟩
end
open Builtin.Str (occurrences partsBetween)
theorem Qc:∀{zs:List af} {its:List ae},zZ (zs.map V.str) its->∃l:List (af×Iw),l.map (·.1)=zs/\its=i8 l
 |[],_,.nil=>⟨[],Z,Z⟩
 |z::zs,_,.cons ⟨t,e⟩ r=>by
  obtain⟨l,e1,e2⟩:=Qc r;subst e e2;exact⟨(z,t)::l,by rw[CO,e1],Z⟩
theorem Vm:∀(l:List (af×Iw)),zZ ((l.map (·.1)).map V.str) (i8 l)
 |[]=>.nil
 |p::r=>.cons ⟨p.2,Z⟩ (Vm r)
section
theorem v5:Mt X "str.join" (λx vs H Q=>∃sep zs a,x=.str sep/\vs=[.ref a]/\zL X.K H a (zs.map V.str)/\FU sep zs=true/\Q (.str (aF sep zs)) H):=by
 intro N' s σ H x xs v us Q I rx rv h;obtain⟨sep,zs,a,rfl,rfl,hS,hj,q⟩:=h;obtain⟨t,rfl⟩:=rx;obtain⟨u,rfl,ru⟩:=zZ.one rv;cases ru;obtain⟨its,r,pl,hz⟩:=I.list hS;obtain⟨l,e1,rfl⟩:=Qc r;exact SC.join pl.isList e1 hj λt' k=>⟨.str _,H,I.tok k,⟨t',Z⟩,q⟩
theorem wz:Mt X "str.split" (λx vs H Q=>∃z y,x=.str z/\vs=[.str y]/\(y.length==0)=false/\z.length<=ar/\(b_ z (occurrences z y 0 z.length (z.length+1)) y.length).length<=ar/\G4 H (.lst ((aW z y).map V.str)) Q):=by
 intro N' s σ H x xs v us Q I rx rv h;obtain⟨z,y,rfl,rfl,hy,h1,h2,q⟩:=h;obtain⟨t,rfl⟩:=rx;obtain⟨u,rfl,ru⟩:=zZ.one rv;obtain⟨tu,rfl⟩:=ru
 have P':∀(l:List (af×Iw)) (k:Nat),l.map (·.1)=aW z y->(aW z y).length<=ar->EP X N' σ Q (.ref s.heap.objs.size) {s with toks:=k,heap:=s.heap.push {cls:=.type "list",data:=.seq (i8 l).toArray}}:=λl k e hl=>by
  refine⟨.ref _,upd H s.heap.objs.size (.lst ((aW z y).map V.str)),I.laid (t':=k) (λb o e=>CN _ e) (Cz _) ⟨by rw[Cw];exact hl,i8 l,0,by rw[<- e];exact Vm l,dj _ Z⟩,Z,q.at (I.hok.fresh (Cz _))⟩
 have one:∀e:aW z y=[z],(aW z y).length<=ar:=λe=>by rw[e];exact z8 rfl
 cases c1:(decide (z.length<y.length) || decide (z_ z<z_ y))
 ·cases hf:(occurrences z y 0 z.length (z.length+1)).isEmpty
  ·refine AM iC (Ak _ _ _) FQ (FA _ _) (meets_str_split_sep z y t tu c1 hy hf h1 h2) ?_;show wants _ _ _ {s with toks:=_,heap:=s.heap.push {cls:=.type "list",data:=.seq (strsFrom s.toks (b_ z (occurrences z y 0 z.length (z.length+1)) y.length)).toArray}};rw[strsFrom_eq];have e:aW z y=b_ z (occurrences z y 0 z.length (z.length+1)) y.length:=(K' (ne_true_of_eq_false c1)).trans (K' (ne_true_of_eq_false hf));exact P' (numbered s.toks _) _ ((numbered_texts _ _).trans e.symm) (by rw[e];exact h2)
  ·have e:aW z y=[z]:=(K' (ne_true_of_eq_false c1)).trans (L' hf);exact AM iC (Ak _ _ _) FQ (FA _ _) (meets_str_split_not_found z y t tu c1 hy hf) (P' [(z,t)] s.toks e.symm (one e))
 ·have e:aW z y=[z]:=L' c1;exact AM iC (Ak _ _ _) FQ (FA _ _) (meets_str_split_cannot_occur z y t tu c1) (P' [(z,t)] s.toks e.symm (one e))
end
end L2
namespace L2
open PySem PySem.Spec PyProof.Rows
inductive Dt where
 |v (x:V)
 |l (xs:List Dt)
 |t (xs:List Dt)
inductive Is (K:BFr)(H:Hp):Nat->V->Dt->Prop where
 |v {n:Nat} {x:V}:jj x=true->Is K H n x (.v x)
 |l {n:Nat} {a:aj} {xs:List V} {ds:List Dt}:zL K H a xs->xs.length=ds.length->(∀(j:Nat) x d,xs[j]?=some x->ds[j]?=some d->Is K H n x d)->Is K H (n+1) (.ref a) (.l ds)
 |t {n:Nat} {a:aj} {xs:List V} {ds:List Dt}:yT K H a xs->xs.length=ds.length->(∀(j:Nat) x d,xs[j]?=some x->ds[j]?=some d->Is K H n x d)->Is K H (n+1) (.ref a) (.t ds)
theorem Is.flat {K:BFr}(h:zL K H a xs)(f:xs.all jj=true):Is K H 1 (.ref a) (.l (xs.map Dt.v)):=by
 refine .l h (by simp) λj x d e1 e2=>?_;rw[CI,e1]at e2;cases e2;exact .v (dA.mp f x (dv e1))
theorem Is.flatT {K:BFr}(h:yT K H a xs)(f:xs.all jj=true):Is K H 1 (.ref a) (.t (xs.map Dt.v)):=by
 refine .t h (by simp) λj x d e1 e2=>?_;rw[CI,e1]at e2;cases e2;exact .v (dA.mp f x (dv e1))
theorem xt {x:V}(f:jj x=true):xN x x=true:=by
 cases x<;>simp[jj]at f<;>simp[xN]
theorem uw (n:Nat):(aQ n).all (λ_=>true)=true:=by
 rw[dA];intro _ _;rfl
section
theorem Va (r:zZ xs its)(h:j<its.toArray.size):∃x,xs[j]?=some x/\qr x its.toArray[j]:=by
 have hl:=r.length;have hj:j<xs.length:=by rw[hl];simpa using h
 refine⟨xs[j],CC hj,?_⟩;obtain⟨u,e1,e2⟩:=r.get (CC hj);have:its[j]?=some its.toArray[j]:=by simp at h ⊢
 rw[this]at e1;cases e1;exact e2
theorem O0 (I:zF X N' σ H s):∀(n:Nat) (d:Dt) (x y:V) (u v:ae) (A:sC),Is X.K H n x d->Is X.K H n y d->qr x u->qr y v->A.units+n<sV->IP A s u v true:=by
 intro n
 induction n with
 |zero=>
  intro d x y u v A hx hy ru rv hu
  cases hx with
  |v f=>
   cases hy with
   |v f' =>
    have e:=V6 (A:=A) (s:=s) ru rv f f;rw[xt f]at e;exact e
 |succ n ih=>
  intro d x y u v A hx hy ru rv hu
  cases hx with
  |v f=>
   cases hy with
   |v f' =>
    have e:=V6 (A:=A) (s:=s) ru rv f f;rw[xt f]at e;exact e
  |l h1 h2 h3=>
   cases hy with
   |l g1 g2 g3=>
    cases ru;cases rv;rename_i a xs ds b ys
    by_cases hab:a=b
    ·subst hab;exact Hy _
    ·obtain⟨us,r1,p1,_⟩:=I.list h1;obtain⟨ws,r2,p2,_⟩:=I.list g1
     have e:=SeqAt.RcAt.lists (A:=A) (e:=λ_=>true) p1.isList p2.isList (by rw[de,de,<- r1.length,<- r2.length,h2,g2]) (by lia) λj k1 k2=>by
      obtain⟨x,ex,rx⟩:=Va r1 k1;obtain⟨y,ey,ry⟩:=Va r2 k2
      have hj:j<ds.length:=by
       have:=(CV.mp ex).1;lia
      exact ih ds[j] x y _ _ A.in1 (h3 j x _ ex (CC hj)) (g3 j y _ ey (CC hj)) rx ry (by show A.units+1+n<sV;lia)
     rw[uw]at e;exact IV hab e
  |t h1 h2 h3=>
   cases hy with
   |t g1 g2 g3=>
    cases ru;cases rv;rename_i a xs ds b ys
    by_cases hab:a=b
    ·subst hab;exact Hy _
    ·obtain⟨us,r1,p1,_⟩:=I.tuple h1;obtain⟨ws,r2,p2,_⟩:=I.tuple g1
     have e:=SeqAt.RcAt.tuples (A:=A) (e:=λ_=>true) (show s.heap.IsTuple a us.toArray from p1) (show s.heap.IsTuple b ws.toArray from p2) (by lia) λj k1 k2=>by
      obtain⟨x,ex,rx⟩:=Va r1 k1;obtain⟨y,ey,ry⟩:=Va r2 k2
      have hj:j<ds.length:=by
       have:=(CV.mp ex).1;lia
      exact ih ds[j] x y _ _ A.in1 (h3 j x _ ex (CC hj)) (g3 j y _ ey (CC hj)) rx ry (by show A.units+1+n<sV;lia)
     rw[uw,dR,show(us.toArray.size==ws.toArray.size)=true by rw[beq_iff_eq,de,de,<- r1.length,<- r2.length,h2,g2]]at e;exact IV hab e
theorem MK (I:zF X N' σ H s){ds:List Dt}{us ws:List ae}(r1:zZ xs us)(r2:zZ ys ws)(h2:xs.length=ds.length)(h3:∀(j:Nat) x d,xs[j]?=some x->ds[j]?=some d->Is X.K H n x d)(g3:∀(j:Nat) x d,ys[j]?=some x->ds[j]?=some d->Is X.K H n x d)(hu:A.units+(n+1)<sV):
  ∀j (k1:j<us.toArray.size) (k2:j<ws.toArray.size),IP A.in1 s us.toArray[j] ws.toArray[j] ((λ_=>true) j):=λj k1 k2=>by
 obtain⟨x,ex,rx⟩:=Va r1 k1;obtain⟨y,ey,ry⟩:=Va r2 k2
 have hj:j<ds.length:=by
  have:=(CV.mp ex).1;lia
 exact O0 I n ds[j] x y _ _ A.in1 (h3 j x _ ex (CC hj)) (g3 j y _ ey (CC hj)) rx ry (by show A.units+1+n<sV;lia)
end
section
def TL:Dt->Bool
 |.v _=>false
 |_=>true
def rH (X:Cx)(neg:Bool):R2:=λx y H Q=>∃n d,TL d=true/\Is X.K H n x d/\Is X.K H n y d/\X.A.units+n<sV/\Q (.bl (!neg)) H
theorem Rb:uW X (ir .Eq) (rH X false):=by
 intro N' s σ H x y v u Q I rx ry h;obtain⟨n,d,hq,hx,hy,hu,q⟩:=h
 cases hx with
 |v f=>cases hq
 |l h1 h2 h3=>
  cases hy with
  |l g1 g2 g3=>
   cases rx;cases ry;obtain⟨us,r1,p1,_⟩:=I.list h1;obtain⟨ws,r2,p2,_⟩:=I.list g1;refine SeqAt.eq_listAt p1.isList p2.isList (by rw[de,de,<- r1.length,<- r2.length,h2,g2]) (by lia) (MK I r1 r2 h2 h3 g3 hu) ?_;rw[uw];exact⟨.bl true,H,I,Z,q⟩
 |t h1 h2 h3=>
  cases hy with
  |t g1 g2 g3=>
   cases rx;cases ry;obtain⟨us,r1,p1,_⟩:=I.tuple h1;obtain⟨ws,r2,p2,_⟩:=I.tuple g1;refine SeqAt.eq_tupleAt (show s.heap.IsTuple _ us.toArray from p1) (show s.heap.IsTuple _ ws.toArray from p2) (by lia) (MK I r1 r2 h2 h3 g3 hu) ?_;rw[uw,dR,show(us.toArray.size==ws.toArray.size)=true by rw[beq_iff_eq,de,de,<- r1.length,<- r2.length,h2,g2]];exact⟨.bl true,H,I,Z,q⟩
theorem VT:uW X (ir .NotEq) (rH X true):=by
 intro N' s σ H x y v u Q I rx ry h;obtain⟨n,d,hq,hx,hy,hu,q⟩:=h
 cases hx with
 |v f=>cases hq
 |l h1 h2 h3=>
  cases hy with
  |l g1 g2 g3=>
   cases rx;cases ry;obtain⟨us,r1,p1,_⟩:=I.list h1;obtain⟨ws,r2,p2,_⟩:=I.list g1;refine Fy (e:=λ_=>true) p1.isList p2.isList (by rw[de,de,<- r1.length,<- r2.length,h2,g2]) (by omega) (MK I r1 r2 h2 h3 g3 hu) _ _ _ _ ?_;rw[uw];exact⟨.bl false,H,I,Z,q⟩
 |t h1 h2 h3=>
  cases hy with
  |t g1 g2 g3=>
   cases rx;cases ry;obtain⟨us,r1,p1,_⟩:=I.tuple h1;obtain⟨ws,r2,p2,_⟩:=I.tuple g1;refine SeqAt.RcNeAt.tuples (e:=λ_=>true) (show s.heap.IsTuple _ us.toArray from p1) (show s.heap.IsTuple _ ws.toArray from p2) (by omega) (MK I r1 r2 h2 h3 g3 hu) _ _ _ _ ?_;rw[uw,dR,show(us.toArray.size==ws.toArray.size)=true by rw[beq_iff_eq,de,de,<- r1.length,<- r2.length,h2,g2]];exact⟨.bl false,H,I,Z,q⟩
end
end L2
set_option maxHeartbeats 1000000
namespace SG
open PySem PyProof.Rows
class Rk where
 num:ae->Int
 knd:SortKind
variable [Rk]
def K (xs:Array aR)(i:Nat):Int:=match xs[i]? with
 |some q=>Rk.num q.1
 |none=>0
def vK (xs:Array aR)(n:Nat):Prop:=∀a b,a<=b->b<n->K xs a<=K xs b
structure vk (b₀:Array aR)(st:iA):Prop where
 perm:(aM st).Perm b₀
 kind:kindOf st=Rk.knd
 failed:Fv st=none
 pend:t_ st = #[]
theorem vk.size {st:iA}(h:vk b₀ st):(aM st).size=b₀.size:=h.perm.size_eq
theorem vk.setArr {st:iA}(h:vk b₀ st){ys:Array aR}(q:ys.Perm (aM st)):vk b₀ (PyProof.Rows.setArr st ys):=⟨q.trans h.perm,h.kind,h.failed,h.pend⟩
def MD (prog:f_)(w:aZ)(A:sC)(s:av)(b₀:Array aR):Prop :=
 ∀p∈b₀.toList,∀q∈b₀.toList,∀(Q:Bool->av->Prop) (E:ae->av->Prop),Q (decide (Rk.num p.1<Rk.num q.1)) s->wpAny (az prog w) A (keyLt' Rk.knd p.1 q.1) Q E s
section
theorem vk.mem {st:iA}(h:vk b₀ st)(hi:i<b₀.size):∃p,(aM st)[i]?=some p/\p∈b₀.toList:=by
 have hi':i<(aM st).size:=by rw[h.size];exact hi
 exact⟨_,getElem?_pos _ i hi',(Array.perm_iff_toList_perm.mp h.perm).mem_iff.mp (by simp)⟩
theorem ZM {st:iA}{Q:Option Bool->iA->Prop}(hB:vk b₀ st)(hk:MD prog w A s b₀)(hi:i<b₀.size)(hj:j<b₀.size)(h:Q (some (decide (K (aM st) i<K (aM st) j))) st):wpS (az prog w) A E s (ltAt' i j) Q st:=by
 obtain⟨p,e1,m1⟩:=hB.mem hi;obtain⟨q,e2,m2⟩:=hB.mem hj;have k1:K (aM st) i=Rk.num p.1:=by unfold K;rw[e1]
 have k2:K (aM st) j=Rk.num q.1:=by unfold K;rw[e2]
 rw[k1,k2]at h;rw[ltAt'_eq];refine e_ (Kj ?_);show wpS _ _ _ _ (do let u <- elem' (aM st) i;let v <- elem' (aM st) j;lt' u v) Q st;rw[elem'_eq,elem'_eq,e1,e2];refine e_ (iJ (e_ (iJ (?_))));rw[lt'_eq];refine e_ (Kj ?_);rw[hB.kind];refine e_ (wpS_lift (sP (hk p m1 q m2 _ _ ⟨Z,?_⟩)));exact iJ h
theorem QH {st:iA}{a:Nat}{Q:AscSt->iA->Prop}(hk:MD prog w A s b₀)(hN:N<=b₀.size)(h1:1<=a)(ha:a<=N)(hB:vk b₀ st)(hs:vK (aM st) a)(h:∀m,a<=m->m<=N->vK (aM st) m->(m=N∨K (aM st) m<K (aM st) (m-1))->Q (none,m) st):wpS (az prog w) A E s (ascLoop a N) Q st:=by
 unfold ascLoop;refine AA (I:=λx c U'=>U'=st/\c=(none,x)/\vK (aM st) x) ?turn ?done ⟨Z,Z,hs⟩
 case done=>
  rintro c U' ⟨rfl,rfl,z⟩;have e:max a N=N:=by lia
  rw[e]at z ⊢;exact h N ha (Cz _) z (.inl Z)
 case turn=>
  rintro x c U' hx1 hx2 ⟨rfl,rfl,z⟩;dsimp only;refine e_ (ZM hB hk (by lia) (by lia) ?_)
  by_cases lt:K (aM U') x<K (aM U') (x-1)
  ·simp only[lt,decide_true,if_true];exact iJ (h x hx1 (by lia) z (.inr lt))
  ·simp only[lt,decide_false,d8,if_false];refine iJ ⟨Z,Z,λi j hij hj=>?_⟩
   by_cases c1:j<x
   ·exact z i j hij c1
   ·obtain rfl:j=x:=by lia
    by_cases c2:i=j
    ·rw[c2];exact DB _
    ·have:=z i (j-1) (by lia) (by lia);lia
end
end SG
namespace SG
open PySem PyProof.Rows
variable [Rk]
abbrev ky (p:aR):Int:=Rk.num p.1
def put (x:aR)(l:List aR):List aR:=l.takeWhile (λy=>decide (ky y<=ky x))++x::l.dropWhile (λy=>decide (ky y<=ky x))
def jK (l:List aR):List aR:=l.foldl (λO' x=>put x O') []
theorem Yy (l:List aR)(x:aR):jK (l++[x])=put x (jK l):=by
 unfold jK;rw[ej];rfl
theorem l9 {p:aR->Bool}:∀{a b:List aR},(∀y∈a,p y=true)->(∀y∈b,p y=false)->(a++b).takeWhile p=a/\(a++b).dropWhile p=b
 |[],[],_,_=>⟨Z,Z⟩
 |[],y::b,_,h=>by
  have:=h y CG
  simp[n_,o_,this]
 |x::a,b,h1,h2=>by
  have hx:=h1 x CG;obtain⟨e1,e2⟩:=l9 (λy hy=>h1 y (CK _ hy)) h2;simp only[Dw,n_,o_,hx];exact⟨by rw[e1],e2⟩
theorem xU {x:aR}{a b:List aR}(h1:∀y∈a,ky y<=ky x)(h2:∀y∈b,ky x<ky y):put x (a++b)=a++x::b:=by
 unfold put;obtain⟨e1,e2⟩:=l9 (p:=λy=>decide (ky y<=ky x)) (a:=a) (b:=b) (λy hy=>i' (h1 y hy)) (λy hy=>j' (by have:=h2 y hy;lia));rw[e1,e2]
theorem We (x:aR)(l:List aR):(put x l).Perm (l++[x]):=by
 unfold put;refine List.perm_middle.trans ?_;rw[fC];exact(Fc x l).symm
theorem Wz (l:List aR):(jK l).Perm l:=by
 have:∀(l O':List aR),(l.foldl (λO' x=>put x O') O').Perm (O'++l):=by
  intro l
  induction l with
  |nil=>intro O';simp
  |cons x r ih=>
   intro O';rw[dU];refine(ih _).trans ?_;have:=(We x O').append_right r
   simpa using this
 have q:=this l [];rw[Di]at q;exact q
theorem NQ {l:List aR}{y:aR}:y∈jK l↔y∈l:=(Wz l).mem_iff
theorem jJ (l:List aR):(jK l).length=l.length:=(Wz l).length_eq
abbrev Up (l:List aR):Prop:=l.Pairwise λa b=>ky a<=ky b
theorem RE {x:aR}{l:List aR}(h:Up l):Up (put x l):=by
 have:∀l:List aR,Up l->Up (put x l):=by
  intro l
  induction l with
  |nil=>intro _;exact Et _ _
  |cons y r ih=>
   intro h;obtain⟨h1,h2⟩:=Dx.mp h
   by_cases hy:ky y<=ky x
   ·have e:put x (y::r)=y::put x r:=by
     unfold put
     simp[n_,o_,hy]
    rw[e];refine Dx.mpr ⟨λz hz=>?_,ih h2⟩;rcases CU.mp ((We x r).mem_iff.mp hz) with q |q
    ·exact h1 z q
    ·rw[du.mp q];exact hy
   ·have e:put x (y::r)=x::y::r:=by
     unfold put
     simp[n_,o_,hy]
    rw[e];refine Dx.mpr ⟨λz hz=>?_,h⟩;rcases CF.mp hz with rfl |q
    ·lia
    ·have:=h1 z q;lia
 exact this l h
theorem tV (l:List aR):Up (jK l):=by
 have:∀(l O':List aR),Up O'->Up (l.foldl (λO' x=>put x O') O'):=by
  intro l
  induction l with
  |nil=>intro O' h;exact h
  |cons x r ih=>intro O' h;exact ih _ (RE h)
 exact this l [] iH
theorem W6 (xs:List aR):∀(n:Nat) (b:List aR),b.length=n->Up (jK xs++b)->jK (xs++b)=jK xs++b:=by
 intro n
 induction n with
 |zero=>
  intro b hb _;rw[Dd.mp hb]
  simp
 |succ n ih=>
  intro b hb h;obtain⟨c,z,rfl⟩:∃c z,b=c++[z]:=⟨b.dropLast,b.getLast (by intro e;rw[e]at hb;cases hb),(fD _).symm⟩;rw[CA]at hb;have h':Up ((jK xs++c)++[z]):=by rw[dc];exact h
  obtain⟨u1,_,u3⟩:=Ea.mp h';rw[<- dc,Yy,ih c (by simp at hb;exact hb) u1];have:=xU (x:=z) (a:=jK xs++c) (b:=[]) (λy hy=>u3 y hy z (du.mpr Z)) (λy hy=>M' hy (by simp));rw[dy]at this;rw[this,dc]
theorem Lc {l:List aR}(h:Up l):jK l=l:=by
 have:=W6 [] l.length l rfl (by simpa [jK] using h)
 simpa [jK] using this
theorem VB {xs:List aR}{v:Int}(h1:∀y∈xs,v<ky y):∀(n:Nat) (b:List aR),b.length=n->(∀y∈b,ky y=v)->jK (xs++b)=b++jK xs:=by
 intro n
 induction n with
 |zero=>
  intro b hb _;rw[Dd.mp hb]
  simp
 |succ n ih=>
  intro b hb h;obtain⟨c,z,rfl⟩:∃c z,b=c++[z]:=⟨b.dropLast,b.getLast (by intro e;rw[e]at hb;cases hb),(fD _).symm⟩;rw[CA]at hb;have hz:ky z=v:=h z (by simp);rw[<- dc,Yy,ih c (by simp at hb;exact hb) λy hy=>h y (by simp[hy])];have:=xU (x:=z) (a:=c) (b:=jK xs) (λy hy=>by rw[h y (by simp[hy]),hz];exact DB _) (λy hy=>by rw[hz];exact h1 y (NQ.mp hy));rw[this]
  simp
theorem GZ {xs:Array α}{l:List α}(h:xs.toList=l)(i:Nat):xs[i]?=l[i]?:=by rw[<- h];simp
theorem W3 {xs:Array aR}{p q r:List aR}{x:aR}(h:xs.toList=p++(q++x::r)):(bubble xs (p.length+q.length) q.length).toList=p++(x::(q++r)):=by
 have hs:p.length+q.length<xs.size:=by
  have:xs.size=(p++(q++x::r)).length:=by rw[<- h];simp
  rw[this];simp only[CA,CY];omega
 refine Dj λi=>?_;have e:=getElem?_bubble hs q.length (by omega) i;rw[eA,e,GZ h,GZ h,GZ h,show p.length+q.length-q.length=p.length by omega]
 by_cases h1:i=p.length
 ·have e1:(p++(q++x::r))[p.length+q.length]?=some x:=by
   rw[dk (by omega),dk (by omega)]
   simp
  have e2:(p++(x::(q++r)))[i]?=some x:=by
   rw[dk (by omega),h1]
   simp
  rw[L' h1,e1,e2]
 ·rw[K' h1]
  by_cases h2:p.length<i/\i<=p.length+q.length
  ·obtain⟨j,hj⟩:∃j,i=p.length+(j+1):=⟨i-p.length-1,by omega⟩
   have e1:(p++(q++x::r))[i-1]?=q[j]?:=by
    rw[dk (by omega),dF (by omega)]
    congr 1
    omega
   have e2:(p++(x::(q++r)))[i]?=q[j]?:=by
    rw[dk (by omega),show i-p.length=j+1 by omega,EW,dF (by omega)]
   rw[L' h2,e1,e2]
  ·rw[K' h2]
   by_cases h3:i<p.length
   ·rw[dF h3,dF h3]
   ·obtain⟨j,hj⟩:∃j,i=p.length+q.length+(j+1):=⟨i-p.length-q.length-1,by omega⟩
    have e1:(p++(q++x::r))[i]?=r[j]?:=by
     rw[dk (by omega),dk (by omega),show i-p.length-q.length=j+1 by omega,EW]
    have e2:(p++(x::(q++r)))[i]?=r[j]?:=by
     rw[dk (by omega),show i-p.length=(q.length+j)+1 by omega,EW,dk (by omega)]
     congr 1
     omega
    rw[e1,e2]
theorem wH {xs:Array aR}{p m r:List aR}(h:xs.toList=p++(m++r))(hi:i=p.length)(hj:j=p.length+m.length):(mirror xs i j ((j-i)/2)).toList=p++(m.reverse++r):=by
 subst hi hj
 have hs:p.length+m.length<=xs.size:=by
  have:xs.size=(p++(m++r)).length:=by rw[<- h];simp
  rw[this];simp only[CA];lia
 refine Dj λk=>?_;have e:=getElem?_mirror_all (i:=p.length) hs k;rw[eA,e,GZ h,GZ h]
 by_cases h1:p.length<=k/\k<p.length+m.length
 ·obtain⟨n,hn⟩:∃n,k=p.length+n:=⟨k-p.length,by lia⟩
  have e1:(p++(m++r))[p.length+(p.length+m.length)-1-k]?=m[m.length-1-n]?:=by
   rw[dk (by lia),dF (by lia)]
   congr 1
   lia
  have e2:(p++(m.reverse++r))[k]?=m[m.length-1-n]?:=by
   rw[dk (by lia),dF (by rw[Dk];lia),HH (by lia)]
   congr 1
   lia
  rw[L' h1,e1,e2]
 ·rw[K' h1]
  by_cases h2:k<p.length
  ·rw[dF h2,dF h2]
  ·have e1:(p++(m++r))[k]?=r[k-p.length-m.length]?:=by
    rw[dk (by lia),dk (by lia)]
   have e2:(p++(m.reverse++r))[k]?=r[k-p.length-m.length]?:=by
    rw[dk (by lia),dk (by rw[Dk];lia),Dk]
   rw[e1,e2]
theorem JA {xs:Array aR}{p:aR}(h:xs[i]?=some p):K xs i=ky p:=by
 unfold K;rw[h]
theorem rE {xs:Array aR}{l r:List aR}(h:xs.toList=l++r)(hs:vK xs l.length):Up l:=by
 refine EY.mpr λi j hi hj hij=>?_;have e1:xs[i]?=some l[i]:=by rw[GZ h,dF hi];exact CC hi
 have e2:xs[j]?=some l[j]:=by rw[GZ h,dF hj];exact CC hj
 have:=hs i j (eK hij) hj;rw[JA e1,JA e2]at this;exact this
theorem bW {xs:Array aR}{l r:List aR}(h:xs.toList=l++r)(hu:Up l):vK xs l.length:=by
 intro i j hij hj;have hi:i<l.length:=by lia
 have e1:xs[i]?=some l[i]:=by rw[GZ h,dF hi];exact CC hi
 have e2:xs[j]?=some l[j]:=by rw[GZ h,dF hj];exact CC hj
 rw[JA e1,JA e2]
 by_cases q:i=j
 ·subst q;exact DB _
 ·exact EY.mp hu i j hi hj (by lia)
end SG
namespace SG
open PySem PyProof.Rows
variable [Rk]
section
structure QF (b₀:Array aR)(st:iA)(n:Nat):Prop where
 base:vk b₀ st
 list:(aM st).toList=jK (b₀.toList.take n)++b₀.toList.drop n
theorem QR (b₀:Array aR):b₀.toList.length=b₀.size:=by simp
theorem QF.len {st:iA}(g:QF b₀ st n)(hn:n<=b₀.size):(jK (b₀.toList.take n)).length=n:=by
 rw[jJ,CQ,QR];lia
theorem QF.up {st:iA}(g:QF b₀ st n)(hn:n<=b₀.size):vK (aM st) n:=by
 have:=bW g.list (tV _);rw[g.len hn]at this;exact this
theorem Z3 {k:Nat}(hk:k<b₀.size):b₀.toList.drop k=b₀[k]::b₀.toList.drop (k+1):=by
 rw[Fe (by rw[QR];exact hk)]
 simp
theorem Uq {k:Nat}(hk:k<b₀.size):b₀.toList.take (k+1)=b₀.toList.take k++[b₀[k]]:=by
 rw[fA,CC (by rw[QR];exact hk)]
 simp
theorem QF.next {st:iA}{k:Nat}(g:QF b₀ st k)(hk:k<b₀.size):(aM st)[k]?=some b₀[k]:=by
 rw[GZ g.list,dk (by rw[g.len (by lia)];exact Cz _),g.len (by lia),Z3 hk]
 simp
theorem QF.atI {st:iA}(g:QF b₀ st n)(hn:n<=b₀.size)(hi:i<n):∃y,(jK (b₀.toList.take n))[i]?=some y/\K (aM st) i=ky y:=by
 have hl:=g.len hn;have e:=CC (l:=jK (b₀.toList.take n)) (i:=i) (by rw[hl];exact hi);exact⟨_,e,JA (by rw[GZ g.list,dF (by rw[hl];exact hi)];exact e)⟩
theorem QF.insert {st:iA}{k:Nat}(g:QF b₀ st k)(hk:k<b₀.size)(hc:c<=k)(lo:∀i,i<c->K (aM st) i<=K (aM st) k)(hi:∀i,c<=i->i<k->K (aM st) k<K (aM st) i):
  QF b₀ (setArr st (bubble (aM st) k (k-c))) (k+1):=by
 have hl:=g.len (by lia:k<=b₀.size);have ex:K (aM st) k=ky b₀[k]:=JA (g.next hk);have e0:jK (b₀.toList.take k)=(jK (b₀.toList.take k)).take c++(jK (b₀.toList.take k)).drop c:=(DE _ _).symm;have lp:((jK (b₀.toList.take k)).take c).length=c:=by rw[CQ,hl];lia
 have lq:((jK (b₀.toList.take k)).drop c).length=k-c:=by rw[dB,hl]
 have li:(aM st).toList=(jK (b₀.toList.take k)).take c++((jK (b₀.toList.take k)).drop c++b₀[k]::b₀.toList.drop (k+1)):=by
  rw[g.list,Z3 hk,<- dc,<- e0]
 refine⟨g.base.setArr (bubble_perm _ _ _),?_⟩;have mv:=W3 li;rw[lp,lq,show c+(k-c)=k by lia]at mv;show(bubble (aM st) k (k-c)).toList=_;rw[mv,Uq hk,Yy];have pa:=xU (x:=b₀[k]) (a:=(jK (b₀.toList.take k)).take c) (b:=(jK (b₀.toList.take k)).drop c) (λy hy=>?_) (λy hy=>?_)
 ·rw[<- e0]at pa;rw[pa]
  simp
 ·obtain⟨i,hi',e⟩:=fE.mp hy;rw[lp]at hi';obtain⟨z,ez,kz⟩:=g.atI (by lia) (by lia:i<k)
  have:z=y:=by
   rw[Kz]at e;rw[CC (by rw[hl];lia)]at ez;rw[<- e];exact(ai ez).symm
  have q:=lo i hi';rw[kz,ex,this]at q;exact q
 ·obtain⟨i,hi',e⟩:=fE.mp hy;rw[lq]at hi';obtain⟨z,ez,kz⟩:=g.atI (by lia) (by lia:c+i<k)
  have:z=y:=by
   rw[List.getElem_drop]at e;rw[CC (by rw[hl];lia)]at ez;rw[<- e];exact(ai ez).symm
  have q:=hi (c+i) (by lia) (by lia);rw[kz,ex,this]at q;exact q
theorem MC {st:iA}{m:Nat}{Q:Bool->iA->Prop}(hk:MD prog w A s b₀)(hn:n<=b₀.size)(hm:m<=n)(hm1:1<=m)(g:QF b₀ st m)(P':∀U',QF b₀ U' n->Q true U'):
  wpS (az prog w) A E s (binarySort' 0 n m) Q st:=by
 rw[binarySort'_eq];simp only[DQ];refine e_ (Su (AA (I:=λk c U'=>c=(none,())/\QF b₀ U' k) (Q:=λc U'=>c=(none,())/\QF b₀ U' n) ?turn ?done ?begin) ?after)
 case after=>
  rintro _ U' ⟨rfl,g'⟩;exact iJ (P' U' g')
 case begin=>
  rw[show max m 1=m by lia];exact⟨Z,g⟩
 case done=>
  rintro c U' ⟨hc,g'⟩;rw[show max (max m 1) n=n by lia]at g';exact⟨hc,g'⟩
 case turn=>
  rintro k _ U' lo hi ⟨rfl,g'⟩;have kz:k<b₀.size:=by lia
  have srtd:=g'.up (by lia:k<=b₀.size)
  refine e_ (Su (AA
   (I:=λx c ε=>ε=U'/\∃l r,c=(none,l,r)/\(l<=r/\r<=k/\r-l<=k-x)/\(∀i,i<l->K (aM U') i<=K (aM U') k)/\∀i,r<=i->i<k->K (aM U') k<K (aM U') i) (Q:=λc ε=>ε=U'/\∃l r,c=(none,l,r)/\l<=k/\(∀i,i<l->K (aM U') i<=K (aM U') k)/\∀i,l<=i->i<k->K (aM U') k<K (aM U') i) ?t2 ?d2 ?b2) ?a2)
  case b2=>exact⟨Z,0,k,Z,⟨by lia,by lia,by lia⟩,λi hi=>M' hi (by lia),λi h1 h2=>M' h2 (by lia)⟩
  case d2=>
   rintro c ε ⟨rfl,l,r,rfl,⟨q1,q2,q3⟩,q4,q5⟩;obtain rfl:l=r:=by lia
   exact⟨Z,l,l,Z,q2,q4,q5⟩
  case t2=>
   rintro x c ε _ _ ⟨rfl,l,r,rfl,⟨q1,q2,q3⟩,q4,q5⟩;dsimp only
   by_cases end':l >= r
   ·rw[L' end'];obtain rfl:l=r:=by lia
    exact iJ ⟨Z,l,l,Z,q2,q4,q5⟩
   rw[K' end'];refine e_ (ZM g'.base hk kz (by lia) ?_)
   by_cases less:K (aM ε) k<K (aM ε) ((l+r)/2)
   ·rw[i' less];simp only[if_true];exact iJ ⟨Z,l,(l+r)/2,Z,⟨by lia,by lia,by lia⟩,q4,λi h1 h2=>Int.lt_of_lt_of_le less (srtd _ _ h1 h2)⟩
   ·rw[j' less];simp only[d8,if_false];refine iJ ⟨Z,(l+r)/2+1,r,Z,⟨by lia,by lia,by lia⟩,λi h1=>?_,q5⟩;have:=srtd i ((l+r)/2) (by lia) (by lia);lia
  case a2=>
   rintro c ε ⟨rfl,l,r,rfl,q1,q2,q3⟩;show wpS _ _ _ _ (do moveDown' k l;pure (Ai (none,()))) _ _;rw[moveDown'_eq];exact e_ (Sv (iJ ⟨Z,g'.insert kz q1 q2 q3⟩))
end
end SG
namespace SG
open PySem PyProof.Rows
variable [Rk]
section
theorem QF.on {st:iA}{m:Nat}(g:QF b₀ st n)(h1:n<=m)(h2:m<=b₀.size)(hs:vK (aM st) m):QF b₀ st m:=by
 have et:b₀.toList.take m=b₀.toList.take n++(b₀.toList.drop n).take (m-n):=by
  have:=List.take_add (l:=b₀.toList) (i:=n) (j:=m-n)
  rwa [show n+(m-n)=m by lia]at this
 have ed:b₀.toList.drop n=(b₀.toList.drop n).take (m-n)++b₀.toList.drop m:=by
  have:=(DE (m-n) (b₀.toList.drop n)).symm
  rwa [EZ,show n+(m-n)=m by lia]at this
 have li:(aM st).toList=(jK (b₀.toList.take n)++(b₀.toList.drop n).take (m-n))++b₀.toList.drop m:=by
  rw[g.list,dc,<- ed]
 have ln:(jK (b₀.toList.take n)++(b₀.toList.drop n).take (m-n)).length=m:=by
  rw[CA,g.len (by lia),CQ,dB,QR];lia
 refine⟨g.base,?_⟩;rw[et,W6 _ _ _ Z (rE li (by rw[ln];exact hs))];exact li
theorem Gf {st:iA}{Q:Option Nat->iA->Prop}(hk:MD prog w A s b₀)(hN:N<=b₀.size)(h1:1<=n)(hn:n<=N)(hB:vk b₀ st)(li:(aM st).toList=(jK (b₀.toList.take n)).reverse++b₀.toList.drop n)(P':∀m U',QF b₀ U' m->1<=m->m<=N->Q (some m) U'):wpS (az prog w) A E s (tail3 n N) Q st:=by
 unfold tail3;have ln:(jK (b₀.toList.take n)).length=n:=by rw[jJ,CQ,QR];lia
 refine e_ (HU ?_)
 have g:QF b₀ (setArr st (mirror (aM st) 0 n ((n-0)/2))) n:=by
  refine⟨hB.setArr (HV _ _ _ _),?_⟩;have e:=wH (xs:=aM st) (p:=[]) (m:=(jK (b₀.toList.take n)).reverse) (r:=b₀.toList.drop n) (i:=0) (j:=n) (by rw[Di];exact li) rfl (by rw[Dk,ln];simp);rw[List.reverse_reverse,Di]at e;exact e
 refine e_ (QH hk hN h1 hn g.base (g.up (by lia)) λm a1 a2 a3 _=>?_);exact iJ (P' m _ (g.on a1 (by lia) a3) (by lia) a2)
structure ZZ (b₀:Array aR)(st:iA)(x q:Nat)(xs b:List aR)(v:Int):Prop where
 base:vk b₀ st
 cut:b₀.toList.take x=xs++b
 list:(aM st).toList=(jK xs).reverse++(b++b₀.toList.drop x)
 len:b.length=q+1
 same:∀y∈b,ky y=v
 less:∀y∈xs,v<ky y
theorem ZZ.size {st:iA}{x q:Nat}{xs b:List aR}{v:Int}(f:ZZ b₀ st x q xs b v)(hx:x<=b₀.size):xs.length+(q+1)=x:=by
 have:=G' iB f.cut;rw[CQ,QR,CA,f.len]at this;lia
theorem ZZ.next {st:iA}{x q:Nat}{xs b:List aR}{v:Int}(f:ZZ b₀ st x q xs b v)(hx:x<b₀.size):K (aM st) x=ky b₀[x]:=by
 have sz:=f.size (by lia);refine JA ?_;rw[GZ f.list,dk (by rw[Dk,jJ];lia),dk (by rw[Dk,jJ,f.len];lia),Z3 hx,Dk,jJ,f.len,show x-xs.length-(q+1)=0 by lia];rfl
theorem ZZ.last {st:iA}{x q:Nat}{xs b:List aR}{v:Int}(f:ZZ b₀ st x q xs b v)(hx:x<=b₀.size):K (aM st) (x-1)=v:=by
 have sz:=f.size hx;have hq:q<b.length:=by rw[f.len];omega
 have e:(aM st)[x-1]?=some b[q]:=by
  rw[GZ f.list,dk (by rw[Dk,jJ];omega),dF (by rw[Dk,jJ,f.len];omega),Dk,jJ,show x-1-xs.length=q by omega];exact CC hq
 rw[JA e];exact f.same _ (DA hq)
theorem ZZ.turned {st:iA}{x q:Nat}{xs b:List aR}{v:Int}(f:ZZ b₀ st x q xs b v)(hx:x<=b₀.size):(mirror (aM st) (x-(q+1)) x ((x-(x-(q+1)))/2)).toList=(jK (b₀.toList.take x)).reverse++b₀.toList.drop x:=by
 have sz:=f.size hx;have e:=wH (xs:=aM st) (p:=(jK xs).reverse) (m:=b) (r:=b₀.toList.drop x) (i:=x-(q+1)) (j:=x) f.list (by rw[Dk,jJ];lia) (by rw[Dk,jJ,f.len];lia);rw[e,f.cut,VB f.less _ _ Z f.same,Eb,dc]
theorem ZZ.still {st:iA}{x:Nat}{xs b:List aR}{v:Int}(f:ZZ b₀ st x 0 xs b v):(aM st).toList=(jK (b₀.toList.take x)).reverse++b₀.toList.drop x:=by
 obtain⟨y,hy⟩:∃y,b=[y]:=E1.mp f.len;rw[f.list,f.cut,VB f.less _ _ Z f.same,Eb,dc,hy];rfl
theorem V1 {st:iA}{x:Nat}(hB:vk b₀ st)(hx:x<b₀.size)(li:(aM st).toList=(jK (b₀.toList.take x)).reverse++b₀.toList.drop x)(hl:∀y∈b₀.toList.take x,ky b₀[x]<ky y):
  ZZ b₀ st (x+1) 0 (b₀.toList.take x) [b₀[x]] (ky b₀[x]):=by
 refine⟨hB,Uq hx,?_,Z,λy hy=>by rw[du.mp hy],hl⟩;rw[li,Z3 hx];rfl
theorem OZ {st:iA}{Q:DescSt->iA->Prop}(hk:MD prog w A s b₀)(hN:N<=b₀.size)(h1:1<=n)(hn:n<=N){q0:Nat}{xs0 c0:List aR}{v0:Int}(hq0:q0=0)(f0:ZZ b₀ st n q0 xs0 c0 v0)(P':∀m q U' xs b v,ZZ b₀ U' m q xs b v->n<=m->m<=N->Q (none,m,q) U'):wpS (az prog w) A E s (descLoop n N) Q st:=by
 subst hq0;unfold descLoop;refine AA (I:=λx c U'=>∃q xs b v,c=(none,x,q)/\ZZ b₀ U' x q xs b v) ?turn ?done ⟨0,xs0,c0,v0,Z,f0⟩
 case done=>
  rintro c U' ⟨q,xs,b,v,rfl,f⟩;rw[show max n N=N by lia]at f ⊢;exact P' N q U' xs b v f hn (Cz _)
 case turn=>
  rintro x c U' lo hi ⟨q,xs,b,v,rfl,f⟩;dsimp only;have hx:x<b₀.size:=by lia
  have kx:=f.next hx;have kl:=f.last (by lia);refine e_ (ZM f.base hk (by lia) (by lia) ?_)
  by_cases less:K (aM U') x<K (aM U') (x-1)
  ·rw[i' less];simp only[if_true]
   have hl:∀y∈b₀.toList.take x,ky b₀[x]<ky y:=λy hy=>by
    rw[kx,kl]at less;rw[f.cut]at hy;rcases CU.mp hy with z |z
    ·have:=f.less y z;lia
    ·rw[f.same y z];exact less
   by_cases hq:q > 0
   ·rw[L' hq];exact e_ (HU (iJ ⟨0,_,_,_,Z,V1 (f.base.setArr (HV _ _ _ _)) hx (f.turned (by lia)) hl⟩))
   ·rw[K' hq];obtain rfl:q=0:=by lia
    exact iJ ⟨0,_,_,_,Z,V1 f.base hx f.still hl⟩
  ·rw[j' less];simp only[d8,if_false];refine e_ (ZM f.base hk (by lia) (by lia) ?_)
   by_cases more:K (aM U') (x-1)<K (aM U') x
   ·rw[i' more];simp only[if_true];exact iJ (P' x q U' xs b v f lo (by lia))
   ·rw[j' more];simp only[d8,if_false];have eq:ky b₀[x]=v:=by rw[kx,kl]at less more;lia
    refine iJ ⟨q+1,xs,b++[b₀[x]],v,Z,f.base,?_,?_,by rw[CA,f.len];rfl,λy hy=>?_,f.less⟩
    ·rw[Uq hx,f.cut,dc]
    ·rw[f.list,Z3 hx,dc];rfl
    ·rcases CU.mp hy with z |z
     ·exact f.same y z
     ·rw[du.mp z];exact eq
theorem JX {st:iA}{Q:Option Nat->iA->Prop}(hk:MD prog w A s b₀)(hN:N<=b₀.size)(hn:n+1<=N)(hB:vk b₀ st)(li:(aM st).toList=(jK (b₀.toList.take n)).reverse++b₀.toList.drop n)(hl:∀(h:n<b₀.size),∀y∈b₀.toList.take n,ky b₀[n]<ky y)(P':∀m U',QF b₀ U' m->1<=m->m<=N->Q (some m) U'):wpS (az prog w) A E s (descPart n N) Q st:=by
 unfold descPart;refine e_ (wpS_lift (sW ⟨Z,?_⟩));have hx:n<b₀.size:=by lia
 refine e_ (OZ hk hN (by lia) hn Z (V1 hB hx li (hl hx)) λm q U' xs b v f a1 a2=>?_);dsimp only
 by_cases hq:q > 0
 ·rw[L' hq];exact e_ (HU (Gf hk hN (by lia) a2 (f.base.setArr (HV _ _ _ _)) (f.turned (by lia)) P'))
 ·rw[K' hq];obtain rfl:q=0:=by lia
  exact Gf hk hN (by lia) a2 f.base f.still P'
theorem Ll {st:iA}{Q:Option Nat->iA->Prop}(hk:MD prog w A s b₀)(hN:N<=b₀.size)(h1:1<=N)(hB:vk b₀ st)(h0:(aM st).toList=b₀.toList)(P':∀m U',QF b₀ U' m->1<=m->m<=N->Q (some m) U'):wpS (az prog w) A E s (countRun' 0 N) Q st:=by
 rw[countRun0_eq];have g0:QF b₀ st 0:=⟨hB,by rw[h0];rfl⟩
 refine e_ (QH hk hN (Cz 1) h1 hB (λi j a b=>by
  obtain rfl:i=j:=by lia
  exact DB _) λn a1 a2 up stop=>?_)
 dsimp only;have gn:QF b₀ st n:=g0.on (CP _) (by lia) up
 by_cases e:n=N
 ·rw[L' (by simpa using e)];exact iJ (P' n st gn a1 a2)
 rw[K' (by simpa using e)];have dn:K (aM st) n<K (aM st) (n-1):=stop.resolve_left e;have hn:n<b₀.size:=by lia
 have kn:K (aM st) n=ky b₀[n]:=JA (gn.next hn);have li:(aM st).toList=b₀.toList.take n++b₀.toList.drop n:=by rw[h0,DE]
 have lt:(b₀.toList.take n).length=n:=by rw[CQ,QR];lia
 have id':jK (b₀.toList.take n)=b₀.toList.take n:=Lc (rE li (by rw[lt];exact up))
 have kat:∀y∈b₀.toList.take n,∃i,i<n/\K (aM st) i=ky y:=λy hy=>by
  obtain⟨i,hi,rfl⟩:=fE.mp hy;rw[lt]at hi;exact⟨i,hi,JA (by rw[GZ li,dF (by rw[lt];exact hi)];exact CC _)⟩
 by_cases two:n > 1
 ·rw[L' two];refine e_ (ZM hB hk (by lia) (by lia) ?_)
  by_cases rose:K (aM st) 0<K (aM st) (n-1)
  ·rw[i' rose];simp only[if_true];exact iJ (P' n st gn a1 a2)
  ·rw[j' rose];simp only[d8,if_false];refine e_ (HU (JX hk hN (by lia) (hB.setArr (HV _ _ _ _)) ?_ (λ_ y hy=>?_) P'))
   ·have e:=wH (xs:=aM st) (p:=[]) (m:=b₀.toList.take n) (r:=b₀.toList.drop n) (i:=0) (j:=n) (by rw[Di];exact li) rfl (by rw[lt];simp);rw[id'];exact e
   ·obtain⟨i,hi,ki⟩:=kat y hy;have u1:=up 0 i (by lia) hi;have u2:=up i (n-1) (by lia) (by lia);rw[<- ki,<- kn];lia
 ·rw[K' two];obtain rfl:n=1:=by lia
  refine JX hk hN (by lia) hB ?_ (λ_ y hy=>?_) P'
  ·rw[id'];obtain⟨z,hz⟩:∃z,b₀.toList.take 1=[z]:=E1.mp lt;rw[hz];rw[hz]at li;exact li
  ·obtain⟨i,hi,ki⟩:=kat y hy;obtain rfl:i=0:=by lia
   rw[<- ki,<- kn];exact dn
theorem ME {st:iA}{Q:Unit->iA->Prop}(hk:MD prog w A s b₀)(hB:vk b₀ st)(h0:(aM st).toList=b₀.toList)(h2:2<=b₀.size)(h64:b₀.size<64)(P':∀U',Fv U'=none->(aM U').toList=jK b₀.toList->Q () U'):wpS (az prog w) A E s sortRuns' Q st:=by
 rw[sortRuns'_eq];refine e_ (Kj ?_);dsimp only
 have mr:minRun' b₀.size b₀.size 0=b₀.size:=by
  obtain⟨f,hf⟩:∃f,b₀.size=f+1:=⟨b₀.size-1,by lia⟩
  have q:minRun' (f+1) b₀.size 0=b₀.size:=by
   rw[minRun'_succ,L' h64];rfl
  rwa [<- hf]at q
 simp only[hB.size,mr]
 have γ7:∀{U':iA},QF b₀ U' b₀.size->(aM U').toList=jK b₀.toList:=λ{U'} g=>by
  have:=g.list;rw[<- QR,dW (Cz _),List.drop_of_length_le (Cz _),dy]at this;exact this
 refine e_ (Su (AA
  (I:=λx c U'=>(x=0/\c=(none,0)/\U'=st)∨(1<=x/\c=(none,b₀.size)/\Fv U'=none/\t_ U' = #[(0,b₀.size,0)]/\(aM U').toList=jK b₀.toList)) (Q:=λc U'=>c=(none,b₀.size)/\Fv U'=none/\t_ U' = #[(0,b₀.size,0)]/\(aM U').toList=jK b₀.toList) ?turn ?done (.inl ⟨Z,Z,Z⟩)) ?after)
 case done=>
  rintro c U' (⟨z,_⟩ |⟨_,z⟩)
  ·lia
  ·exact z
 case turn=>
  rintro x c U' _ hx (⟨rfl,rfl,rfl⟩ |⟨x1,rfl,z⟩)
  ·dsimp only;rw[K' (by lia)];simp only[DM,Ec,DQ];refine e_ (Ll hk (Cz _) (by lia) hB h0 λm ε g m1 m2=>?_);dsimp only
   have fin2:∀{st3:iA},QF b₀ st3 b₀.size->(Fv (Sw st3 ((t_ st3).push (0,b₀.size,0)))=none/\t_ (Sw st3 ((t_ st3).push (0,b₀.size,0))) = #[(0,b₀.size,0)]/\(aM (Sw st3 ((t_ st3).push (0,b₀.size,0)))).toList=jK b₀.toList):=λ{st3} g3=>
    ⟨g3.base.failed,by show(t_ st3).push _=_;rw[g3.base.pend];rfl,show(aM st3).toList=jK b₀.toList from γ7 g3⟩
   by_cases lt:m<b₀.size
   ·rw[L' lt];refine e_ (wpS_lift (sW ⟨Z,?_⟩));refine e_ (MC hk (Cz _) m2 m1 g λst3 g3=>?_);simp only[Bool.not_true,d8,if_false];refine e_ (Kj ?_);rw[show(t_ st3).back?=none by rw[g3.base.pend];rfl];dsimp only;exact e_ (Sv (iJ (.inr ⟨by lia,Z,fin2 g3⟩)))
   ·rw[K' lt];obtain rfl:m=b₀.size:=by lia
    refine e_ (Kj ?_);rw[show(t_ ε).back?=none by rw[g.base.pend];rfl];dsimp only;exact e_ (Sv (iJ (.inr ⟨by lia,Z,fin2 g⟩)))
  ·dsimp only;rw[L' (Cz _)];exact iJ ⟨Z,z⟩
 case after=>
  rintro c U' ⟨rfl,z1,z2,z3⟩;dsimp only;refine e_ (Su (AA (I:=λ_ c ε=>ε=U'/\c=(none,())) (Q:=λc ε=>ε=U'/\c=(none,())) ?_ (λ_ _ q=>q) ⟨Z,Z⟩) ?_)
  ·rintro x c ε _ _ ⟨rfl,rfl⟩;refine e_ (Kj ?_);rw[L' (by rw[z2];exact Cz 1)];exact iJ ⟨Z,Z⟩
  ·rintro c ε ⟨rfl,rfl⟩;exact iJ (P' _ z1 z3)
end
end SG
namespace SS
open PySem PyProof.Rows
@[reducible] def rk:SG.Rk:=⟨numOf,oneType'⟩
local instance:SG.Rk:=rk
abbrev ky (p:aR):Int:=numOf p.1
abbrev put (x:aR)(l:List aR):List aR:=@SG.put rk x l
abbrev jK (l:List aR):List aR:=@SG.jK rk l
abbrev Up (l:List aR):Prop:=@SG.Up rk l
end SS
namespace L2
open PySem PySem.Spec PyProof.Rows
section
variable {p:af}{c':aj}{name:af}{body:aK}{ctv:ae}{v:V}{Q:VK}
end
end L2
namespace SS
open PySem PyProof.Rows
def ZA (k:Nat->Int)(x:Nat)(l:List Nat):List Nat:=l.takeWhile (λy=>decide (k y<=k x))++x::l.dropWhile (λy=>decide (k y<=k x))
def L8 (k:Nat->Int)(l:List Nat):List Nat:=l.foldl (λO' x=>ZA k x O') []
end SS
namespace SG
open PySem PyProof.Rows
variable [Rk]
theorem lP {R:Nat->aR->Prop}{k:Nat->Int}(hR:∀i p,R i p->ky p=k i){p:aR}(h:R i p){l':List aR}(u:w_ R l l'):w_ R (SS.ZA k i l) (put p l'):=by
 induction u with
 |nil=>exact .cons h .nil
 |@cons x y l l' r t ih=>
  by_cases q:k x<=k i
  ·have q':ky y<=ky p:=by rw[hR _ _ r,hR _ _ h];exact q
   have e1:SS.ZA k i (x::l)=x::SS.ZA k i l:=by unfold SS.ZA;simp[n_,o_,q]
   have e2:put p (y::l')=y::put p l':=by unfold put;simp[n_,o_,q']
   rw[e1,e2];exact .cons r ih
  ·have q':¬ky y<=ky p:=by rw[hR _ _ r,hR _ _ h];exact q
   have e1:SS.ZA k i (x::l)=i::x::l:=by unfold SS.ZA;simp[n_,o_,q]
   have e2:put p (y::l')=p::y::l':=by unfold put;simp[n_,o_,q']
   rw[e1,e2];exact .cons h (.cons r t)
theorem mf {R:Nat->aR->Prop}{k:Nat->Int}(hR:∀i p,R i p->ky p=k i){l':List aR}(h:w_ R l l'):w_ R (SS.L8 k l) (jK l'):=by
 have:∀(l:List Nat) (l':List aR) (a:List Nat) (a':List aR),w_ R l l'->w_ R a a'->w_ R (l.foldl (λO' x=>SS.ZA k x O') a) (l'.foldl (λO' x=>put x O') a'):=by
  intro l l' a a' h
  induction h generalizing a a' with
  |nil=>intro q;exact q
  |cons r t ih=>intro q;exact ih _ _ (lP hR r q)
 exact this l l' [] [] h .nil
end SG
namespace SS
open PySem PyProof.Rows
end SS
variable {p3:iS}
namespace L2
open PySem PySem.Spec PyProof.Rows
section
variable {kS:aj}{e e1:Nat}{keys:Array ae}{vs:List ae}{kz:List Int}{P:Iq->av->Prop}
theorem zF.turn1 (I:zF X N' σ H s)(f:yj X N' H a)(hs:ik a s.heap h'):zF X N' σ H {s with heap:=h'} :=
 I.turned (t':=s.toks) (λb o n q=>(hs.2 b n).trans q) f.1 f.2.1 f.2.2.2.1 f.2.2.2.2.1 f.2.2.2.2.2
theorem zF.adopt {us:List ae}(I:zF X N' σ H s)(f:yj X N' H a)(ha:s.heap.get? a=some (l_ "list" us.toArray n))(r:zZ xs us)(hz:xs.length<=ar):zF X N' σ (upd H a (.lst xs)) s:=by
 have ne:∀b o,H b=some o->b≠a:=λb o q=>zo q f.1;refine⟨I.ok,I.os,I.bare,⟨I.base.keep,I.base.slot,λb o q n hx=>?_,I.base.there,λb ys q=>?_,λb o u q=>?_,λb ps q=>?_⟩,I.loc,I.cell,?_,λx c q=>?_,λp hp=>?_,λb o q=>?_,I.len⟩
 ·have nb:b≠a:=λz=>by
   subst z;rcases f.2.2.2.1 with z |z
   ·exact hx z
   ·rw[z]at q;cases q
  rw[zx nb];exact I.base.free b o q n hx
 ·have z:=I.base.tups b ys q;rw[zx (ne _ _ z)];exact z
 ·have z:=I.base.frzs b o u q;rw[zx (ne _ _ z)];exact z
 ·obtain⟨m,z⟩:=I.base.tbls b ps q;exact⟨m,by rw[zx (ne _ _ z)];exact z⟩
 ·rw[zx (iT f.2.1)];exact I.free
 ·rw[zx (f.2.2.2.2.1 x c q)];exact I.freeC x c q
 ·obtain⟨p1,p2,p3,p4,p5⟩:=I.pin p hp;exact⟨p1,by rw[zx (f.2.2.2.2.2 p hp)];exact p2,p3,p4,p5⟩
 ·by_cases nb:b=a
  ·subst nb;rw[zt]at q;cases q;exact⟨hz,us,n,r,ha⟩
  ·rw[zx nb]at q;refine(I.hok b o q).stay (λc u _ z=>z) (λc z=>?_) λc ys z=>?_
   ·rw[zx (ne _ _ z)];exact z
   ·rw[zx (ne _ _ z)];exact z
end
theorem Qp {F:α->β->Prop}:∀{l₁:List α} {l₂:List β},l₁.length=l₂.length->(∀(i:Nat) a b,l₁[i]?=some a->l₂[i]?=some b->F a b)->w_ F l₁ l₂
 |[],[],_,_=>.nil
 |[],_::_,h,_=>by simp at h
 |_::_,[],h,_=>by simp at h
 |a::l,b::m,h,f=>.cons (f 0 a b Z Z) (Qp (by simpa using h) λi x y e1 e2=>f (i+1) x y (by simpa using e1) (by simpa using e2))
section
variable {r q:aj}{k:Nat->Int}{Q:VK}
end
open PySem.W
section
variable {p:af}{c P:aj}{body:aK}{pos:iS}
end
end L2
namespace L2
open PySem PySem.Spec PyProof.Rows
def qJ (K:BFr)(x:af)(st:sT):Prop:=∃f fd,hU K au x=some (some (.ref f))/\jn K x x st f fd
section
variable {K:BFr}{mg:af->Option ae}{k:Nat}{h0:ia}
theorem qJ.cal (h:qJ K x st)(X:K.In h0)(G:h0.Ns au mg)(hb:∀(kV Θ pm:ae) (an:Option aj) (V' ct:ae) (us:List ae),us.length=ps.length->Si (sI x x (uU st) (jX st) (z5 st) .none kV Θ pm an V' ct) ⟨us,[]⟩=pure (ps.zip us))(ok:∀f fd,jn K x x st f fd->qD P w K mg base CX k f fd ps sp):jw P w K mg base CX k x ps sp:=by
 obtain⟨f,fd,a,F⟩:=h;exact⟨f,fd,Bmg_o X G a,F.kp,F.binds hb,ok f fd F⟩
theorem qJ.calQ (h:qJ K x st)(X:K.In h0)(G:h0.Ns au mg)(hb:∀(kV Θ pm:ae) (an:Option aj) (V' ct:ae) (us:List ae),us.length=ps.length->Si (sI x x (uU st) (jX st) (z5 st) .none kV Θ pm an V' ct) ⟨us,[]⟩=pure (ps.zip us))(ok:∀f fd,jn K x x st f fd->UW P w K mg base k f fd ps sp):RI P w K mg base k x ps sp:=by
 obtain⟨f,fd,a,F⟩:=h;exact⟨f,fd,Bmg_o X G a,F.kp,F.binds hb,ok f fd F⟩
end
theorem qF {us:List α}(h:us.length=1):∃a,us=[a]:=by
 match us,h with
 |[a],_=>exact⟨a,Z⟩
theorem ZW {us:List α}(h:us.length=2):∃a b,us=[a,b]:=by
 match us,h with
 |[a,b],_=>exact⟨a,b,Z⟩
theorem bC {us:List α}(h:us.length=3):∃a b c,us=[a,b,c]:=by
 match us,h with
 |[a,b,c],_=>exact⟨a,b,c,Z⟩
theorem Bj {us:List α}(h:us.length=5):∃a b c d e,us=[a,b,c,d,e]:=by
 match us,h with
 |[a,b,c,d,e],_=>exact⟨a,b,c,d,e,Z⟩
open PySem.W
end L2
namespace SS
theorem XE (k:Nat->Int)(x:Nat)(l:List Nat):(ZA k x l).Perm (l++[x]):=by
 unfold ZA;refine List.perm_middle.trans ?_;rw[fC];exact(Fc x l).symm
theorem gS (k:Nat->Int)(l:List Nat):(L8 k l).Perm l:=by
 have:∀(l O':List Nat),(l.foldl (λO' x=>ZA k x O') O').Perm (O'++l):=by
  intro l
  induction l with
  |nil=>intro O';simp
  |cons x r ih=>
   intro O';rw[dU];refine(ih _).trans ?_;have:=(XE k x O').append_right r
   simpa using this
 have q:=this l [];rw[Di]at q;exact q
end SS
namespace L2
open PySem PySem.Spec PyProof.Rows PySem.W
section
end
section
variable {nsOf:Nat->List Int}{rk:Nat->Int}{P:Iq->av->Prop}
open Classical in
def wu (its:List ae)(rk:Nat->Int):ae->Int:=λv=>if h:∃i,its[i]?=some v then rk h.choose else 0
end
end L2
namespace L2
open PySem PySem.Spec PyProof.Rows
section
theorem ZI:Mt X "str.zfill" (λx vs H Q=>∃z i,x=.str z/\vs=[.int i]/\U_ i=true/\Q (.str (sj z i)) H):=by
 intro N' s σ H x xs v us Q I rx rv h;obtain⟨z,i,rfl,rfl,hp,q⟩:=h;obtain⟨t,rfl⟩:=rx;obtain⟨u,rfl,ru⟩:=zZ.one rv;obtain⟨tu,rfl⟩:=ru;exact SC.zfill hp λt' k=>⟨.str _,H,I.tok k,⟨t',Z⟩,q⟩
theorem Lv:Mt X "str.ljust" (λx vs H Q=>∃z i,x=.str z/\vs=[.int i]/\U_ i=true/\Q (.str (u_ z i)) H):=by
 intro N' s σ H x xs v us Q I rx rv h;obtain⟨z,i,rfl,rfl,hp,q⟩:=h;obtain⟨t,rfl⟩:=rx;obtain⟨u,rfl,ru⟩:=zZ.one rv;obtain⟨tu,rfl⟩:=ru;exact SC.ljust hp λt' k=>⟨.str _,H,I.tok k,⟨t',Z⟩,q⟩
theorem Lr:Mt X "str.rjust" (λx vs H Q=>∃z i,x=.str z/\vs=[.int i]/\U_ i=true/\Q (.str (iL z i)) H):=by
 intro N' s σ H x xs v us Q I rx rv h;obtain⟨z,i,rfl,rfl,hp,q⟩:=h;obtain⟨t,rfl⟩:=rx;obtain⟨u,rfl,ru⟩:=zZ.one rv;obtain⟨tu,rfl⟩:=ru;exact SC.rjust hp λt' k=>⟨.str _,H,I.tok k,⟨t',Z⟩,q⟩
theorem Xu:Mt X "str.rstrip" (λx vs H Q=>∃z y,x=.str z/\vs=[.str y]/\z.length<=ar/\Q (.str (Ah z y)) H):=by
 intro N' s σ H x xs v us Q I rx rv h;obtain⟨z,y,rfl,rfl,hp,q⟩:=h;obtain⟨t,rfl⟩:=rx;obtain⟨u,rfl,ru⟩:=zZ.one rv;obtain⟨tu,rfl⟩:=ru;exact SC.rstripChars (λt' k=>⟨.str _,H,I.tok k,⟨t',Z⟩,q⟩) hp
theorem kC:Mt X "str.startswith" (λx vs H Q=>∃z y,x=.str z/\vs=[.str y]/\Q (.bl (Fw z y)) H):=by
 intro N' s σ H x xs v us Q I rx rv h;obtain⟨z,y,rfl,rfl,q⟩:=h;obtain⟨t,rfl⟩:=rx;obtain⟨u,rfl,ru⟩:=zZ.one rv;obtain⟨tu,rfl⟩:=ru;exact SC.startswith ⟨.bl _,H,I,Z,q⟩
end
open PySem.W
section
variable {p:af}{c P:aj}{body a:aK}{pos lpos:iS}
end
end L2
variable {cs:List (List Nat)}
namespace L2
open PySem PySem.Spec PyProof.Rows
theorem wQ:ig "all" = some (.builtin "all"):=by kernel_rfl
theorem qc {l:List (af×Fo)}(h:l.all (λy=>match y.2 with|.cell |.free=>(cl.lookup y.1).isSome |_=>true)=true)(x:af)(z:l.lookup x=some .cell∨l.lookup x=some .free):∃c,cl.lookup x=some c:=by
 rcases z with z |z
 ·have:=dA.mp h _ (iE z);exact DG.mp this
 ·have:=dA.mp h _ (iE z);exact DG.mp this
theorem vg {cs:List (af×aj)}(h:∀q∈cl,cs.lookup q.1=some q.2)(x:af)(c:aj)(z:cl.lookup x=some c):cs.lookup x=some c:=h _ (iE z)
theorem zX {C:Nat->Nat->Prop}(i j:Nat)(z:([]:List (Option Nat))[i]?=some (some j)):C i j:=by simp at z
theorem zH {l:List (Option Nat)}{C:Nat->Nat->Prop}(h:∀i j,l[i]?=some (some j)->C (i+1) j)(i j:Nat)(z:(none::l)[i]?=some (some j)):C i j:=by
 cases i with
 |zero=>simp at z
 |succ i=>exact h i j (by simpa using z)
theorem qR {l:List (Option Nat)}{k:Nat}{C:Nat->Nat->Prop}(h0:C 0 k)(h:∀i j,l[i]?=some (some j)->C (i+1) j)(i j:Nat)(z:(some k::l)[i]?=some (some j)):C i j:=by
 cases i with
 |zero=>
  have:some k=some j:=by simpa using z
  cases this;exact h0
 |succ i=>exact h i j (by simpa using z)
section
variable {a b c:aK}{pos:iS}
def Na (X:Cx)(N':List (aj×iN))(σ:St)(R:Int->Int->Hp->Prop)(w:ae)(s':av):Prop :=
 ∃r i j t u v H1,w=.ref r/\zF X N' σ H1 s'/\IsRange s'.heap r i j 1 t u v/\(-(2 ^ 62)<=i/\i<2 ^ 62/\-(2 ^ 62)<=j/\j<2 ^ 62)/\R i j H1
def N7 (ta:TA)(σ:St)(H:Hp)(R:Int->Int->Hp->Prop):Prop:=ta σ H λvs H1=>∃i j:Int,vs=[.int i,.int j]/\(-(2 ^ 62)<=i/\i<2 ^ 62/\-(2 ^ 62)<=j/\j<2 ^ 62)/\R i j H1
theorem O1 (hg:Gl X "range")(hm:X.mg "range" = none)(ha:PA X [a,b] ta)(hs:aE [a,b] X.env=[(false,eval a X.env),(false,eval b X.env)]:=by rfl)(hs2:aE [b] X.env=[(false,eval b X.env)]:=by rfl)
  {N':List (aj×iN)} {s:av} {σ:St} {H:Hp} {R:Int->Int->Hp->Prop} (I:zF X N' σ H s) (h:N7 ta σ H R) :
  wpAny (az X.prog X.w) X.A (eval (.Call (.Name "range" p2) [a,b] [] p3) X.env) (Na X N' σ R) X.xe s:=by
 refine T_ (ud I hg hm boot_range (hV (qC (ha p3 N' s σ H _ I h) λus s1 hM=>?_) (by rw[hs,hs2]) (by rw[hs2];rfl)));obtain⟨vs,H1,I1,r1,q1⟩:=hM;obtain⟨i,j,e,hb,q⟩:=q1;subst e
 cases r1 with
 |cons r rr=>
  cases rr with
  |cons r' rr=>
   cases rr;obtain⟨t,rfl⟩:=r;obtain⟨t',rfl⟩:=r';exact call_range_2 ⟨_,i,j,_,_,_,H1,Z,I1.kept λb o e=>CN _ e,IsRange.new ..,hb,q⟩
theorem Ui {r:aj}{i j x:Int}{t u v tx:Iw}{Q:Bool->av->Prop}(hr:IsRange s.heap r i j 1 t u v)(h:Q (decide (i<=x/\x<j)) s):
  wpAny (az P w) A (contains (.ref r) (.int x tx)) Q E s:=by
 have hT:s.TypeIs (.ref r) "range":=⟨_,hr,Z⟩;refine wpAny_contains_slot hT HJ (iK HJ hT F.entry_range_contains ?_ (F.args_range_contains_2 _ _));show wpAny _ _ (do let (a,b,c) <- FH (.ref r);ret (.bool (q_ a b c x).isSome)) _ _ _
 have e:(q_ i j 1 x).isSome=decide (i<=x/\x<j):=by
  unfold q_;simp only[show(1:Int) > 0 by decide,if_true,Int.emod_one,beq_self_eq_true,Bool.and_true]
  by_cases h1:i<=x/\x<j
  ·rw[L' (by simp[h1]),i' h1];rfl
  ·rw[K' (by simpa using h1),j' h1];rfl
 unfold FH;refine aa (aa (iw hr Z Z (aa (m:=asInt? _) (aq (aa (iw hr Z Z (aa (m:=asInt? _) (aq (aa (iw hr Z Z (aa (m:=asInt? _) (aq (aq ?_)))))))))))));show wpAny _ _ (ret (.bool (q_ i j 1 x).isSome)) _ _ _;rw[e];exact aq ⟨_,Z,ib h⟩
def R9 (te:TE)(ta:TA):TT:=λσ H Q=>te σ H λx H1=>∃n,x=.int n/\N7 ta σ H1 λi j H2=>Q (decide (i<=n/\n<j)) H2
theorem WN (hg:Gl X "range")(hm:X.mg "range" = none)(hc:PE X c te)(ha:PA X [a,b] ta)(hs:aE [a,b] X.env=[(false,eval a X.env),(false,eval b X.env)]:=by rfl)(hs2:aE [b] X.env=[(false,eval b X.env)]:=by rfl)(hk:Aa .NotIn (.Call (.Name "range" p2) [a,b] [] p3)=false:=by rfl):
  PT X (.Compare c [.NotIn] [.Call (.Name "range" p2) [a,b] [] p3] pos) (λσ H Q=>R9 te ta σ H λk H'=>Q (!k) H'):=by
 intro N' s σ H Q I h;refine AL (qC (hc N' s σ H _ I h) λv s1 hM=>?_) hk;obtain⟨x,H1,I1,r1,n,e,q1⟩:=hM;refine qC (O1 hg hm ha hs hs2 I1 q1) λw s2 hq=>?_;subst e;obtain⟨t,rfl⟩:=r1;obtain⟨r,i,j,t1,t2,t3,H2,rfl,I2,hr,_,q⟩:=hq;show wpAny _ _ (do return IM (!(<- contains (.ref r) (.int n t)))) _ _ _;exact aa (Ui hr (aq (ib ⟨H2,I2,q⟩)))
end
section
variable {g:TG}
theorem jV {pos:iS}(hN:X.N.Nodup)(hx:X.N[i]?=some x)(hl:X.env.scope.names.lookup x=some .local)(c:Zg X Nc scope cl src)(Z':X.calm=true)(hi:PI X η iter wi)(hb:∀fp C s' H',PG (ka X Nc scope cl C fp s' H') η g/\vf (ka X Nc scope cl C fp s' H') ρ tt/\PE (ka X Nc scope cl C fp s' H') χ te)(hsw:Fh (.ListComp χ [⟨η,iter,ρ,0⟩] scope X') (some (.Name x τ)) pos.line X.env=pure true:=by rfl)(hs:∀x,i7 iter X.env x=pure x:=by intro _;rfl):PS X (.Assign [.Name x τ] (.ListComp χ [⟨η,iter,ρ,0⟩] scope X') pos) (gg (Zj src wi g tt te) (zO i)):=by
 intro N' s σ H D I h;rw[HD _ _ _ _ hsw];refine aa (AR (aa ?_));show wpAny _ X.A (do let _ <- comprehension (.ListComp χ [⟨η,iter,ρ,0⟩] scope X') scope X.env _ (Z_ []) false (eval iter X.env) (some (Fm (.Name x τ) X.env))) _ _ s;refine aa (sH (iI (use:=some (Fm (.Name x τ) X.env)) (Q:=λ_ s'=>∃σ' H',zF X N' σ' H' s'/\D.nx σ' H') Z hs c.clos c.kind c.names (qC (hi N' s σ H _ I h) λv s1 h1=>qC h1 λitv s2 h2=>?_)) (λ_ s' hq=>aq (aq hq)) λ_ _ z=>z);obtain⟨it,fp,tn,J,H2,e,I2,T,ε,f2,hT⟩:=h2;subst e;refine a_ ?_ (by size_fits);have θ:∀b o,s2.heap.get? b=some o->(s2.heap.push {cls:=.type "list",data:=.seq ([]:List ae).toArray}).get? b=some o:=λb o e=>CN _ e;have I3:=I2.laid (a:=s2.heap.objs.size) (o:=.lst []) (t':=s2.toks) (h':=s2.heap.push {cls:=.type "list",data:=.seq ([]:List ae).toArray}) θ (Cz _) ⟨CP _,[],0,.nil,dj _ Z⟩
 have ne:∀b∈fp,b≠s2.heap.objs.size:=λb hb=>by
  obtain⟨o,e,_⟩:=T.obj 0 _ ε b hb;exact CM (CH e)
 have f3:∀b∈fp,yj X N' (upd H2 s2.heap.objs.size (.lst [])) b:=λb hb=>⟨by rw[zx (ne b hb)];exact(f2 b hb).1,(f2 b hb).2⟩;refine uc (it:=it) (R:=λC=>F7 (az X.prog X.w) X.A X.xe (some (Fm (.Name x τ) X.env)) (λ_ s'=>∃σ' H',zF X N' σ' H' s'/\D.nx σ' H') _ C) c Z' I3 T (T.keep _ _ _ ε λb _ o e=>θ b o e) f3 (hb fp _ _ _) (hT _ (I2.hok.fresh (Cz _))) (λ_ _ z=>z.elim) λC ys σ' H' s' hC J' hD q=>?_;obtain⟨m,hn,_⟩:=id J'.loc;have B:zF X N' σ H' s':=vF I3 f3 J' ⟨Z,λ_ _=>rfl⟩;have Cge:∀b o,(s2.heap.push {cls:=.type "list",data:=.seq ([]:List ae).toArray}).get? b=some o->b≠C:=λb o e=>CM (dP (CH e) J'.ok.above)
 have CL:C≠X.env.locals:=λz=>by
  obtain⟨m3,⟨o,_,_,ho,_⟩,_⟩:=I3.loc;exact Cge _ o ho z.symm
 refine FJ (Qk B hN hx (.inl hl) (v:=.ref s2.heap.objs.size) Z (λs5 I5 hsb=>?_) (.inr hl));obtain⟨a,sb,ha⟩:=hsb
 have aL:a≠C:=by
  rcases ha with rfl |ha
  ·exact CL.symm
  ·obtain⟨v,o,ho,_⟩:=I3.cell x a ha;exact Cge _ o ho
 refine⟨m,hn.sameBut sb aL.symm,λh' ψ=>⟨_,H',I5.turned (t':=s5.toks) (λb o n e=>(ψ.2 b n).trans e) J'.free CL ?_ (λy b e z=>?_) (λp hp z=>?_),q⟩⟩
 ·exact .inr (eV (CD I3.sz J'.ok.above))
 ·obtain⟨v,o,ho,_⟩:=I3.cell y b e;exact Cge _ o ho z
 ·exact Cge _ _ (I3.pin p hp).1 z
end
end L2
namespace L2
open PySem
theorem zj.off (s:zj H H')(h:H' b=none):H b=none:=by
 cases e:H b with
 |none=>rfl
 |some o=>rw[s _ _ e]at h;cases h
end L2
variable {at':Int}{cR:aj}
namespace Pg
open PySem L2
structure wk (mg:af->Option ae):Prop where
 isinstance:mg "isinstance" = none
 int:mg "int" = none
 bool:mg "bool" = none
 str:mg "str" = none
 len:mg "len" = none
 range:mg "range" = none
 ve:mg "ValueError" = none
 list:mg "list" = none
 tuple:mg "tuple" = none
 dict:mg "dict" = none
 set:mg "set" = none
 all:mg "all" = none
 any:mg "any" = none
 sum:mg "sum" = none
 sorted:mg "sorted" = none
 abs:mg "abs" = none
 max:mg "max" = none
 min:mg "min" = none
 zip:mg "zip" = none
 enumerate:mg "enumerate" = none
 reversed:mg "reversed" = none
structure Er (K:BFr)(mg:af->Option ae)(x:af)(c:aj):Prop where
 at':mg x=some (.ref c)
 ex:AU K c oP "ValueError.__new__" = true
def Gi (mg:af->Option ae)(x:af)(n:Int):Prop:=∃t,mg x=some (.int n t)
def Txt (mg:af->Option ae)(x:af)(z:af):Prop:=∃t,mg x=some (.str z t)
structure cY (mg:af->Option ae)(d:Nat->aj):Prop where
 g0:mg "BadAmount" = some (.ref (d 0))
 g1:mg "BadShare" = some (.ref (d 1))
 g2:mg "BadText" = some (.ref (d 2))
 g3:mg "BadMonth" = some (.ref (d 3))
 g4:mg "BadYear" = some (.ref (d 4))
 g5:mg "BadRule" = some (.ref (d 5))
 g6:mg "BadBook" = some (.ref (d 6))
 g7:mg "NoYear" = some (.ref (d 7))
 g8:mg "BadDay" = some (.ref (d 8))
 g9:mg "BadEntry" = some (.ref (d 9))
 g10:mg "NoMark" = some (.ref (d 10))
 g11:mg "NoPerson" = some (.ref (d 11))
 g12:mg "TooMany" = some (.ref (d 12))
 g13:mg "BadClose" = some (.ref (d 13))
 g14:mg "BadLine" = some (.ref (d 14))
structure RQ (K:BFr)(d:Nat->aj)(C:aj)(i:Nat):Prop where
 cls:XK.ui K C
 ve:aB K (.ref C) (.type "ValueError")=some true
 k0:aB K (.ref C) (.ref (d 0))=some (decide (i=0))
 k1:aB K (.ref C) (.ref (d 1))=some (decide (i=1))
 k2:aB K (.ref C) (.ref (d 2))=some (decide (i=2))
 k3:aB K (.ref C) (.ref (d 3))=some (decide (i=3))
 k4:aB K (.ref C) (.ref (d 4))=some (decide (i=4))
 k5:aB K (.ref C) (.ref (d 5))=some (decide (i=5))
 k6:aB K (.ref C) (.ref (d 6))=some (decide (i=6))
 k7:aB K (.ref C) (.ref (d 7))=some (decide (i=7))
 k8:aB K (.ref C) (.ref (d 8))=some (decide (i=8))
 k9:aB K (.ref C) (.ref (d 9))=some (decide (i=9))
 k10:aB K (.ref C) (.ref (d 10))=some (decide (i=10))
 k11:aB K (.ref C) (.ref (d 11))=some (decide (i=11))
 k12:aB K (.ref C) (.ref (d 12))=some (decide (i=12))
 k13:aB K (.ref C) (.ref (d 13))=some (decide (i=13))
 k14:aB K (.ref C) (.ref (d 14))=some (decide (i=14))
structure Rz (K:BFr)(d:Nat->aj)(cR:aj)(i:Nat):Prop where
 ex:Fx K (.ref (d i)) (.ref cR)=some true
 kd:RQ K d (d i) i
def Li (i:Nat):List (af×Bool):=[("amount",decide (i=0)),("share",decide (i=1)),("text",decide (i=2)),("month",decide (i=3)),("year",decide (i=4)),("rule",decide (i=5)),("book",decide (i=6)),("noyear",decide (i=7)),("day",decide (i=8)),("entry",decide (i=9)),("nomark",decide (i=10)),("noperson",decide (i=11)),("many",decide (i=12)),("close",decide (i=13)),("line",decide (i=14))]
def xn (i:Nat):List V:=((Li i).filter (·.2)).map (λp=>V.str p.1)++[.str "value"]
def VL (K:BFr)(d:Nat->aj):Sp:=λvs H Q _=>∃ea C i,vs=[.ref ea]/\VZ K H ea C/\RQ K d C i/\∀l H',zj H H'->H l=none->H' l=some (.lst (xn i))->Q (.ref l) H'
def uM (K:BFr):Sp:=λvs H Q _=>∃v,vs=[v]/\((∃z,v=.int z/\Q (.bl true) H)∨(rR K H v/\Q (.bl false) H))
def JL (K:BFr):Sp:=λvs H Q _=>∃v a b,vs=[v,.int a,.int b]/\((∃z,v=.int z/\Q (.bl (decide (a<=z/\z<=b))) H)∨(rR K H v/\Q (.bl false) H))
def Gj (K:BFr):Sp:=λvs H Q _=>∃a k ns,vs=[.ref a,.int k]/\zL K H a (ns.map V.int)/\0<=k/\Q (.int (JH ns k)) H
def YE (K:BFr):Sp:=λvs H Q _=>∃a k ns,vs=[.ref a,.int k]/\zL K H a (ns.map V.int)/\0<=k/\k<=1000/\Q (.int (Ju ns k)) H
def YC:Sp:=λvs H Q _=>∃z,vs=[.int z]/\Q (.bl true) H
def Ye (K:BFr):Sp:=λvs H Q _=>∃(a:aj) (ns:List Int),vs=[.ref a]/\zL K H a (ns.map V.int)/\∀H',Q (.bl true) H'
theorem Q0 {cs:List (af×aj)}{k:af}(h:cs.lookup k=some a):∀q∈[(k,a)],cs.lookup q.1=some q.2:=λq hq=>by rw[du.mp hq];exact h
theorem mS {cs:List (af×aj)}{k:af}(h:cs.lookup k=some a)(t:∀q∈cl,cs.lookup q.1=some q.2):∀q∈(k,a)::cl,cs.lookup q.1=some q.2:=λq hq=>by
 rcases CF.mp hq with rfl |hq
 ·exact h
 ·exact t q hq
end Pg
namespace L2
open PySem PySem.Spec PyProof.Rows
section
variable {k:Nat}{m:af}{p pos:iS}{o:aK}{es:List aK}{ta:TE}{t:TA}{E:XK}
end
section
variable {K:BFr}{mg:af->Option ae}{m:af}{k:Nat}
end
end L2
namespace L2
open PySem PySem.W PySem.Calls PyProof.Rows
theorem M3 (as:List aj)(h:ia):(jD as h).In h:=by
 intro a o e
 induction as with
 |nil=>cases e
 |cons b r ih=>
  unfold jD at e;rw[Dm]at e
  cases q:h.get? b with
  |none=>rw[q]at e;exact ih e
  |some o' =>
   rw[q]at e
   by_cases c:a=b
   ·subst c;have e:List.lookup a ((a,o')::jD r h)=some o:=e;rw[List.lookup_cons_self]at e;cases e;exact q
   ·have e:List.lookup a ((b,o')::jD r h)=some o:=e;rw[fu,show(a==b)=false from beq_eq_false_iff_ne.mpr c]at e;exact ih e
section
variable {K:A6}{v:Option (Option ae)}{m:af}
theorem NH (h:vJ K v=vP x qual st):∃f fd,v=some (some (.ref f))/\jn K x qual st f fd/\isFn K (.ref f)=true/\keepIn K (.ref f)=true:=by
 unfold vJ vP at h
 split at h
 ·rename_i f
  split at h
  ·rename_i oc od fd osl e;obtain⟨nm,qn,pr,bd,sc,gl,cl,df,kV,Θ,pm,an,V',ct,bl⟩:=fd;simp only[FP,gT.mk.injEq,CW]at h;obtain⟨rfl,rfl,rfl,rfl,rfl,rfl,rfl,rfl,rfl,⟨h1,h2⟩,h3⟩:=h;exact⟨f,_,Z,RX e h1 h2,h3,h2⟩
  ·cases h
 ·cases h
theorem zz (h:vJ K (hU K au x)=vP x x st):qJ K x st:=by
 obtain⟨f,fd,h1,h2,_,_⟩:=NH h;exact⟨f,fd,h1,h2⟩
theorem y7 (h:vn v=true):v=some none:=by
 unfold vn at h
 split at h
 ·rfl
 ·cases h
theorem Qv {z:Int}(h:isInt z v=true):∃t,v=some (some (.int z t)):=by
 unfold isInt at h
 split at h
 ·rw[B' h];exact⟨_,Z⟩
 ·cases h
theorem VU (h:JS z v=true):∃t,v=some (some (.str z t)):=by
 unfold JS at h
 split at h
 ·rw[B' h];exact⟨_,Z⟩
 ·cases h
theorem je (h:jO a v=true):v=some (some (.ref a)):=by
 unfold jO at h
 split at h
 ·rw[Nat.eq_of_beq_eq_true h]
 ·cases h
theorem XG {z:String}(h:xD z v=true):v=some (some (.builtin z)):=by
 unfold xD at h
 split at h
 ·rw[B' h]
 ·cases h
theorem uA {b:Bool}{v:Option Bool}(h:Jm b v=true):v=some b:=by
 unfold Jm at h
 split at h
 ·rw[eq_of_beq h]
 ·cases h
theorem lF (h:VG K D=true):XK.ui K D:=by
 unfold VG at h;simp only[CW]at h;obtain⟨⟨⟨⟨⟨⟨⟨h1,h2⟩,h3⟩,h4⟩,h5⟩,h6⟩,h7⟩,h8⟩:=h;exact⟨h1,XG h2,y7 h3,XG h4,XG h5,uA h6,uA h7,uA h8⟩
end
theorem zC {bs:List Bool}(h:bs.all id=true){b:Bool}(i:Nat)(e:bs[i]?=some b):b=true:=dA.mp h b (dv e)
theorem zM {l:List α}{f g:α->β}(h:l.map f=l.map g){x:α}(i:Nat)(e:l[i]?=some x):f x=g x:=by
 have:(l.map f)[i]? = (l.map g)[i]?:=by rw[h]
 rw[CI,CI,e]at this;exact ai this
def ZE (π:A6->α)(good:α)(_:aZ)(h:ia):Prop:=∃K:A6,K.In h/\π K=good
theorem mZ {π:A6->α}{good:α}{as:List aj}(w:aZ)(s:av)(e:π (jD as s.heap)=good):ZE π good w s.heap:=⟨_,M3 as s.heap,e⟩
theorem XY {π:A6->α}{good:α}(w:aZ)(h h':ia)(y:ZE π good w h)(k:∀b o,h.get? b=some o->h'.get? b=some o):ZE π good w h':=by
 obtain⟨K,X,e⟩:=y;exact⟨K,X.keeps k,e⟩
theorem Nn {π:A6->α}{good:α}{r:RowW}{d:Y_}{kwd:List (af×aK)}{run:ae->List ae->Sem ae}
  (h:∀K:A6,π K=good->WalkO q ξ XP (λ_ h=>K.In h) r d kwd run):WalkO q ξ XP (ZE π good) r d kwd run:=by
 intro w s₀ s₁ mg mb G Y;obtain⟨K,X,e⟩:=Y;exact h K e w s₀ s₁ mg mb G X
theorem nj {n:af}(h:(V_ q n).isSome=true)(k:((V_ q n).map (·.2.isEmpty))=some true):V_ q n=some (((V_ q n).get h).1,[]):=by
 obtain⟨⟨d,kwd⟩,e⟩:=DG.mp h;have e2:(V_ q n).get h=(d,kwd):=Option.get_of_eq_some h e;rw[e2,e];rw[e]at k;have:kwd.isEmpty=true:=ai k;rw[fF.mp this]
end L2
namespace L2
open PySem PySem.Spec PyProof.Rows
section
variable {k:Nat}{m:af}{p pos:iS}{o:aK}{es:List aK}{ta:TE}{t:TA}{E:XK}
end
section
variable {K:BFr}{mg:af->Option ae}{m:af}{k:Nat}
end
end L2
namespace L2
open PySem PySem.W PyProof.Rows
def BD (K:A6)(x:af)(zs:List af):Prop:=∃a,hU K au x=some (some (.ref a))/\∀H,yT K H a (zs.map V.str)
theorem Y1:∀{its:List ae} {zs:List af},Yn its zs=true->zZ (zs.map V.str) its
 |[],[],_=>.nil
 |v::r,z::q,h=>by
  unfold Yn at h;obtain⟨h1,h2⟩:=eI.mp h;obtain⟨t,e⟩:=VU h1;cases e;exact .cons ⟨t,Z⟩ (Y1 h2)
 |[],z::q,h=>by cases h
 |v::r,[],h=>by cases h
theorem Lu {K:A6}(h:Uu K x zs=true):BD K x zs:=by
 unfold Uu at h
 split at h
 ·rename_i a e
  split at h
  ·rename_i n od its k sl e2;rw[CW,CW]at h;obtain⟨⟨h1,h2⟩,h3⟩:=h;refine⟨a,e,λH=>.inr ⟨_,its,k,e2,?_,Z,z8 h2,Y1 h3⟩⟩;rw[B' h1]
  ·cases h
 ·cases h
theorem BD.mg {K:A6}{mg:af->Option ae}(T:BD K x zs)(X:K.In h)(G:h.Ns au mg):∃a,mg x=some (.ref a)/\∀H,yT K H a (zs.map V.str):=by
 obtain⟨a,e,t⟩:=T;exact⟨a,mg_of X G e,t⟩
end L2
set_option maxHeartbeats 4000000
namespace K27
open PySem PySem.NumText L2 Pg
seal PE PA PT PW PS jg PG vW PI vf PO PK
section
variable {K:BFr}{mg:af->Option ae}
theorem Ug (F:jn K "is_number" "is_number" (qH 18) f fd)(G:wk mg):qD P w K mg base qQ 1 f fd ["thing"] (uM K):=by
 refine F.ok (N:=["thing"]) (by walk_at"s") (λvs H Q E h=>?_) (λV' A outer s H vs Q E hr h=>?_)
 ·obtain⟨v,rfl,_⟩:=h;rfl
 ·obtain⟨v,rfl,h⟩:=h
  refine⟨_,zi (zB (jR (zu zP Z G.isinstance zy (za (pv 0) (za (yX (v:=.ty "int") Z G.int qP Z) zd)))
   (vO (gy (zu zP Z G.isinstance zy (za (pv 0) (za (yX (v:=.ty "bool") Z G.bool JR Z) zd))))))),?_⟩
  rcases h with⟨z,rfl,q⟩ |⟨⟨r,Ξ,ty,ne⟩,q⟩
  ·refine⟨_,Z,_,_,_,_,true,Z,Z,.inl (.int z),Z,true,Z,yh ?_⟩;exact⟨_,Z,_,_,_,_,false,Z,Z,.inl (.int z),Z,false,Z,q⟩
  ·obtain⟨k1,k2,_⟩:=Yp (K:=K) r Ξ;refine⟨_,Z,_,_,_,_,r.2.1,Z,Z,.inl ty,k1,r.2.1,Z,?_⟩
   cases e:r.2.1 with
   |false=>exact qO q
   |true=>
    refine yh ⟨_,Z,_,_,_,_,r.2.2.1,Z,Z,.inl ty,k2,r.2.2.1,Z,?_⟩
    have:r.2.2.1=true:=by
     simp only[Ww,CF,dw,or_false]at Ξ;rcases Ξ with rfl |rfl |rfl |rfl |rfl |rfl |rfl<;>first |rfl | (exact M' rfl ne) | (cases e)
    rw[this];exact q
theorem pw (F:jn K "is_number_within" "is_number_within" (qH 19) f fd)(C1:jw P w K mg base qQ 1 "is_number" ["thing"] (uM K)):qD P w K mg base qQ 2 f fd ["thing","least","most"] (JL K):=by
 refine F.ok (N:=["thing","least","most"]) (by walk_at"s") (λvs H Q E h=>?_) (λV' A outer s H vs Q E hr h=>?_)
 ·obtain⟨v,a,b,rfl,_⟩:=h;rfl
 ·obtain⟨v,a,b,rfl,h⟩:=h;refine⟨_,zi (zB (jR (zG C1 hr (by decide) zT (za (pv 0) zd)) (jR (yn xk (pv 1) (pv 0) (zI _)) (vO (yn xk (pv 0) (pv 2) (zI _)))))),?_⟩;rcases h with⟨z,rfl,q⟩ |⟨nn,q⟩
  ·refine⟨_,Z,_,Z,.inl ⟨z,Z,true,Z,yh ⟨_,Z,_,Z,_,_,Z,Z,_,Z,?_⟩⟩⟩;refine yo (λe=>⟨_,Z,_,Z,_,_,Z,Z,?_⟩) (λe=>?_)
   ·have e1:a<=z:=B' e;show Q (.bl (decide (z<=b))) H;rw[show decide (z<=b)=decide (a<=z/\z<=b) by simp[e1]];exact q
   ·have e1:¬a<=z:=λc=>e (i' c);show Q (.bl false) H;rw[show false=decide (a<=z/\z<=b) by simp[e1]];exact q
  ·exact⟨_,Z,_,Z,.inr ⟨nn,false,Z,qO q⟩⟩
end
end K27
variable {cT:aj}
namespace Pg
open PySem PySem.NumText L2
def yI (z:Int):af:=toString z
def dg (n:Nat):List Nat:=(Nat.toDigits 10 n).map Char.toNat
theorem yy (n:Nat):(yI (n:Nat)).cps.toList=dg n:=PySem.W.KIN.signs_num n
theorem yq (n:Nat):c_ (dg n):=by
 intro c hc;obtain⟨ch,hch,e⟩:=CB.mp hc;have r:=PyProof.Rows.digit_range (Nat.isDigit_of_mem_toDigits (by decide) (by decide) hch);rw[<- e];exact r
theorem yv (n:Nat):1<=(dg n).length:=by unfold dg;rw[Cw];exact PySem.toDigits_len_ge 10 n
theorem qj {k:Nat}(hk:1<=k)(hn:n<10 ^ k):(dg n).length<=k:=by unfold dg;rw[Cw];exact PySem.toDigits_len_pow (by decide) hk hn
theorem jd {a b:af}(h:a.cps.toList=b.cps.toList):a=b:=by
 obtain⟨a⟩:=a;obtain⟨b⟩:=b;have:a=b:=El.mp h;rw[this]
def qK (k:Nat)(l:List Nat):List Nat:=aw (k-l.length) 48++l
theorem ji {k:Nat}(h:l.length<=k):(qK k l).length=k:=by unfold qK;rw[CA,Dh];lia
theorem UX {k:Nat}(h:c_ z.cps.toList)(hz:z.cps.toList≠[]):(sj z (k:Nat)).cps.toList=qK k z.cps.toList:=by
 have hl:z.length=z.cps.toList.length:=by show z.cps.size=_;simp
 unfold sj qK
 by_cases hk:((k:Nat):Int)<=z.length
 ·rw[L' hk,show k-z.cps.toList.length=0 by lia];rfl
 ·rw[K' hk]
  have h0:0<z.cps.size:=by
   cases e:z.cps.toList with
   |nil=>exact M' e hz
   |cons c r=>
    have:=G' iB e
    simp at this
    lia
  have hc:z.cps[0]?=some z.cps[0]:=Dq h0;have hd:=h z.cps[0] (by simp)
  have e:S0 z (((k:Nat):Int).toNat-z.length)=Ap z (((k:Nat):Int).toNat-z.length) 0 48:=by
   unfold S0;rw[hc];split
   ·rename_i e;have:=ai e;lia
   ·rename_i e;have:=ai e;lia
   ·rfl
  rw[e];unfold Ap
  simp[hl]
theorem uG {k:Nat}:(sj (yI (n:Nat)) (k:Nat)).cps.toList=qK k (dg n):=by
 have e:=yy n
 rw[UX (by rw[e];exact yq n) (by
  rw[e];intro z;have:=yv n;rw[z]at this;simp at this),e]
theorem jT {z:Int}(h0:0<=z)(h1:z<2 ^ 64):z.natAbs.log2<1920:=by
 by_cases h:z.natAbs=0
 ·rw[h];decide
 ·exact eY ((K4 h).mpr (show z.natAbs<2 ^ 64 by lia)) (by decide)
theorem zR (a b:af):(a++b).cps.toList=a.cps.toList++b.cps.toList:=by
 show(a.cps++b.cps).toList=_
 simp
theorem vG {k:Nat}(hk:0<k)(h:k<=z.cps.toList.length):(ay z (some (-(k:Nat))) none).cps.toList=z.cps.toList.drop (z.cps.toList.length-k):=by
 rw[qk];unfold we HT.vQ;simp only;rw[L' (Int.neg_neg_of_pos (Int.natCast_pos.mpr hk)),Int.add_comm,<- Int.sub_eq_add_neg,Int.toNat_sub,dW (DW dB)]
theorem Zh {k:Nat}(h:k<=z.cps.toList.length):(ay z none (some (k:Nat))).cps.toList=z.cps.toList.take k:=by
 rw[qk];unfold we HT.vQ;simp only[Dv,DM];rw[K' (ET.mpr (EU k)),dJ,Dp h]
theorem kL {k:Nat}(h:k<=z.cps.toList.length):(ay z (some (k:Nat)) none).cps.toList=z.cps.toList.drop k:=by
 rw[qk];unfold we HT.vQ;simp only;rw[K' (ET.mpr (EU k)),dJ,Dp h,dW (DW dB)]
theorem BG {z:Int}(h:0<=z):0<=z/12:=eO h (by decide)
theorem bJ {z:Int}(h:z<=119999):z/12<=9999:=by lia
theorem rh (z:Int):0<=z%12+1:=Int.add_nonneg (dG z (by decide)) (by decide)
theorem rm (z:Int):z%12+1<=99:=by lia
theorem mB {y:Int}(h:y<=9999):y<2 ^ 64:=Int.lt_of_le_of_lt h (by decide)
theorem cZ (z:Int):z%12+1<2 ^ 64:=Int.lt_of_le_of_lt (rm z) (by decide)
theorem BJ {y:Int}(h:y<=9999):y.toNat<10 ^ 4:=by lia
theorem BE {y:Int}(h:y<=99):y.toNat<10 ^ 2:=by lia
theorem zq (z:af):z.length=z.cps.toList.length:=by show z.cps.size=_;simp
theorem qB (a b:af):(a++b).length=a.length+b.length:=by rw[zq,zR,CA,<- zq,<- zq]
theorem Ru {a b:af}{m:Nat}(h1:a.length<=m)(h2:b.length<=n):(a++b).length<=m+n:=by rw[qB];exact fG h1 h2
theorem vT {m:Nat}(h:n<=m)(k:AD m 10000000=true):n<=ar:=CD h (CD (eT k) (by rw[ah];decide))
theorem Lj {a b m:Nat}(h1:a<=m)(h2:b<=n)(k:AD (m+n) 10000000=true):a+b<=ar:=vT (fG h1 h2) k
theorem Ms {m k:Nat}(h:n<=m)(q:AD m k=true):n<=k:=CD h (eT q)
def vd (c:Nat):Bool:=decide (48<=c)&&decide (c<=57)
def j4 (l:List Nat):Bool:=!l.isEmpty&&l.all vd
theorem ya (h:j4 l=true):c_ l/\l≠[]:=by
 unfold j4 at h;rw[CW]at h;refine⟨λc hc=>?_,λe=>by rw[e]at h;simp at h⟩;have:=dA.mp h.2 c hc;unfold vd at this;rw[CW]at this;exact⟨B' this.1,B' this.2⟩
theorem xQ (c:Nat):(!(aN ("0123456789":af) ⟨#[c]⟩ 0 ("0123456789":af).length 1).isEmpty)=vd c:=by
 rw[oD];have e:("0123456789":af).cps.toList=[48,49,50,51,52,53,54,55,56,57]:=by decide+kernel
 rw[e]
 by_cases h:c<58
 ·have all:∀c<58,[48,49,50,51,52,53,54,55,56,57].contains c=vd c:=by decide+kernel
  exact all c h
 ·have e1:vd c=false:=by
   unfold vd;rw[j' (p:=c<=57) (λz=>h (Kx z)),Eu]
  rw[e1,EO];intro z;have all:∀x∈[48,49,50,51,52,53,54,55,56,57],x<58:=by decide+kernel
  exact h (all c (Es.mp z))
def Yb:Sp:=λvs H Q _=>∃z,vs=[.str z]/\z.length<=4000000/\∀H',zj H H'->Q (.bl (j4 z.cps.toList)) H'
def U8 (z:af):Bool:=decide (z.cps.toList.length=7)&&(j4 (z.cps.toList.take 4)&&(decide (z.cps.toList[4]?=some 45)&&j4 (z.cps.toList.drop 5)))
def uC (K:BFr):Sp:=λvs H Q _=>∃v,vs=[v]/\((u9 K H v/\Q (.bl false) H)∨∃z,v=.str z/\z.length<=4000000/\∀H',zj H H'->Q (.bl (U8 z)) H')
def yK (z:af):Option Int:=if U8 z=true/\1<=d_ (z.cps.toList.drop 5)/\d_ (z.cps.toList.drop 5)<=12 then some ((d_ (z.cps.toList.take 4):Nat)*12+(d_ (z.cps.toList.drop 5):Nat)-1) else none
def kD (K:BFr)(cT:aj):Sp:=λvs H Q E=>∃v,vs=[v]/\((u9 K H v/\E (.ref cT) none H)∨∃z,v=.str z/\z.length<=4000000/\∀H',zj H H'->(∀m,yK z=some m->Q (.int m) H')/\(yK z=none->E (.ref cT) none H'))
def Vk (y:Int):af:=sj (yI y) 4
def Zi (p:Int):af:=sj (yI p) 2
def q9 (m:Int):af:=Vk (m/12)++("-":af)++Zi (m%12+1)
def ZL:Sp:=λvs H Q _=>∃z,vs=[.int z]/\0<=z/\z<=9999/\Q (.str (Vk z)) H
theorem w6 {y:Int}(h0:0<=y):(Vk y).cps.toList=qK 4 (dg y.toNat):=by
 obtain⟨n,rfl⟩:=dZ h0;exact uG (n:=n) (k:=4)
theorem uX {p:Int}(h0:0<=p):(Zi p).cps.toList=qK 2 (dg p.toNat):=by
 obtain⟨n,rfl⟩:=dZ h0;exact uG (n:=n) (k:=2)
theorem Qe {y:Int}(h0:0<=y)(h1:y<=9999):(Vk y).length=4:=by rw[zq,w6 h0,ji (qj (by decide) (by lia))]
theorem uN {p:Int}(h0:0<=p)(h1:p<=99):(Zi p).length=2:=by rw[zq,uX h0,ji (qj (by decide) (by lia))]
theorem vN:("-":af).length=1:=by decide+kernel
theorem Q8 (c:Nat):decide (V.str ⟨#[c]⟩=V.str ("-":af))=decide (c=45):=by
 rw[bU];have e:("-":af)=⟨#[45]⟩:=by decide+kernel
 rw[e]
 by_cases h:c=45
 ·subst h;simp
 ·rw[j' h,j'];intro z;exact h (by simpa using z)
end Pg
namespace L2
open PySem PySem.Spec PyProof.Rows
structure QB (J:It)(H:Hp)(xs:List V):Prop where
 go:∀i x H',xs[i]?=some x->zj H H'->J.go i H'/\∀y H'',J.yld i H' y H''->H''=H'/\y=x
 stop:∀H',zj H H'->J.stop xs.length H'
theorem qd {K:BFr}(h:zL K H a xs):QB (rN K a) H xs :=
 ⟨λi x H' e s=>⟨⟨xs,x,s.seq h,e⟩,λy H'' hM=>by obtain⟨e1,e2⟩:=hM;exact⟨e1,ai ((e2 xs (s.seq h)).symm.trans e)⟩⟩,λH' s=>⟨xs,s.seq h,Cz _⟩⟩
theorem ZY {K:BFr}(h:yT K H a xs):QB (RO K a) H xs :=
 ⟨λi x H' e s=>⟨⟨xs,x,s.tup h,e⟩,λy H'' hM=>by obtain⟨e1,e2⟩:=hM;exact⟨e1,ai ((e2 xs (s.tup h)).symm.trans e)⟩⟩,λH' s=>⟨xs,s.tup h,Cz _⟩⟩
theorem Zq {lo:Int}:QB (N6 lo n) H ((aQ n).map λk=>V.int (lo+(k:Nat))):=by
 refine⟨λi x H' e s=>?_,λH' s=>by rw[Cw,d9];exact Cz n⟩;rw[CI]at e;obtain⟨k,hk,rfl⟩:=CS.mp e;obtain⟨h1,h2⟩:=CV.mp hk
 simp at h1 h2
 exact⟨by show i<n;omega,λy H'' ⟨e1,e2⟩=>⟨e1,by rw[e2,<- h2]⟩⟩
theorem wR:QB (BI z) H (z.cps.toList.map p9):=by
 refine⟨λi x H' e s=>?_,λH' s=>by rw[Cw,Dc];exact Cz _⟩;rw[CI]at e;obtain⟨c,hc,rfl⟩:=CS.mp e;have hc':z.cps[i]?=some c:=by simpa using hc
 exact⟨(DH.mp hc').1,λy H'' ⟨e1,c',h1,e2⟩=>⟨e1,by rw[e2,ai (h1.symm.trans hc')];rfl⟩⟩
section
variable {J:It}{g:TG}
theorem jz (W:QB J H xs)(hD:H D=none)(j9:Nat->List V->Hp->Prop)(Sg:St->Prop)(s0:Sg σ)(g0:j9 0 [] (upd H D (.lst [])))(hs:∀i x ys σ' H',xs[i]?=some x->Sg σ'->zj H H'->H' D=some (.lst ys)->ys.length<=i->j9 i ys H'->JE D g tt te x ys (λμ σ2 H2=>Sg σ2/\zj H H2/\H2 D=some (.lst μ)/\μ.length<=i+1/\j9 (i+1) μ H2) σ' H')(hf:∀ys H',zj H H'->H' D=some (.lst ys)->ys.length<=xs.length->j9 xs.length ys H'->P' ys H'):yF J D g tt te P' σ (upd H D (.lst [])):=by
 refine⟨λi m ys σ' H'=>m=xs.length-i/\i<=xs.length/\Sg σ'/\zj H H'/\H' D=some (.lst ys)/\ys.length<=i/\j9 i ys H',⟨xs.length,by simp,CP _,s0,zj.upd hD,zt,Cz _,g0⟩,λi m ys σ H hM=>by obtain⟨_,_,_,_,h,_⟩:=hM;exact h,?_⟩;rintro i m ys σ' H' ⟨rfl,hi,h1,h2,h3,h4,h5⟩
 by_cases γ:i<xs.length
 ·have hx:xs[i]?=some xs[i]:=CC γ;obtain⟨w1,w2⟩:=W.go i _ H' hx h2;refine .inr ⟨w1,λμ σ2 H2=>Sg σ2/\zj H H2/\H2 D=some (.lst μ)/\μ.length<=i+1/\j9 (i+1) μ H2,λμ σ2 H2 p=>⟨xs.length-(i+1),by lia,Z,γ,p⟩,λy H'' hy=>?_⟩;obtain⟨e1,e2⟩:=w2 y H'' hy;subst e1 e2;exact hs i _ ys σ' _ hx h1 h2 h3 h4 h5
 ·have e:i=xs.length:=by lia
  subst e;exact .inl ⟨W.stop H' h2,hf ys H' h2 h3 h4 h5⟩
theorem Zr (W:QB J H xs)(hD:H D=none)(hz:xs.length<ar)(p:V->Bool)(φ:V->V)(ht:∀x∈xs,∀H' R,zj H H'->R (p x) H'->tt (σ.set 0 (some x)) H' R)(he:∀x∈xs,p x=true->∀H' R,zj H H'->R (φ x) H'->te (σ.set 0 (some x)) H' R)(hf:P' ((xs.filter p).map φ) (upd H D (.lst ((xs.filter p).map φ)))):yF J D (zO 0) tt te P' σ (upd H D (.lst [])):=by
 refine jz W hD (λi ys H'=>ys=((xs.take i).filter p).map φ/\H'=upd H D (.lst ys)) (λσ'=>∀x,σ'.set 0 (some x)=σ.set 0 (some x)) (λ_=>rfl) ⟨Z,Z⟩ ?_ ?_
 ·rintro i x ys σ' H' hx hσ s hd hl ⟨rfl,rfl⟩;have hi:i<xs.length:=(CV.mp hx).1;have hm:=dv hx;have tk:xs.take (i+1)=xs.take i++[x]:=by rw[dS,hx];rfl
  have Δ:∀y,(σ'.set 0 (some x)).set 0 (some y)=σ.set 0 (some y):=λy=>by rw[Ed];exact hσ y
  show tt (σ'.set 0 (some x)) _ _;rw[hσ x];refine ht x hm _ _ s ?_;rw[hσ x]at Δ
  cases hp:p x with
  |true=>
   refine yh (he x hm hp _ _ s ⟨hd,by lia,Δ,?_,zt,?_,?_,om⟩)
   ·rw[om];exact zj.upd hD
   ·rw[CA,dN];lia
   ·rw[tk,DZ,CJ];simp[hp]
  |false=>
   refine qO ⟨Δ,s,hd,by lia,?_,Z⟩;rw[tk,DZ,CJ];simp[hp]
 ·rintro ys H' s hd hl ⟨rfl,rfl⟩;rw[dM];exact hf
end
end L2
namespace L2
theorem pM {p q:Nat->Bool}(h:∀x∈l,p x=true->q x=true)(w:∃x∈l,q x=true/\p x=false):l.countP p<l.countP q:=by
 induction l with
 |nil=>
  obtain⟨x,hx,_⟩:=w;cases hx
 |cons a l ih=>
  rw[KY,KY];have hl:∀x∈l,p x=true->q x=true:=λx hx=>h x (CK _ hx);obtain⟨x,hx,h1,h2⟩:=w;rcases CF.mp hx with rfl |hx
  ·rw[h1,h2,L' Z,K' CZ];exact Kx (HI hl)
  ·have:=ih hl ⟨x,hx,h1,h2⟩
   cases e:p a with
   |false=>
    rw[K' CZ];exact dP this (De _ _)
   |true=>
    rw[h a CG e,L' rfl];exact Nat.add_lt_add_right this 1
def TC (key:Nat->List Nat)(n i:Nat):Int:=((aQ n).countP λj=>decide (key j<key i):Nat)
theorem Py {key:Nat->List Nat}(hi:i<n):decide (key i<key j)=decide (TC key n i<TC key n j):=by
 refine decide_eq_decide.mpr ⟨λh=>?_,λh=>?_⟩
 ·refine Int.ofNat_lt.mpr (pM (λx _ e=>i' (List.lt_trans (B' e) h)) ⟨i,Dl.mpr hi,i' h,j' (SV _)⟩)
 ·have h:=Int.ofNat_lt.mp h;refine FF λc=>Ee.mpr (HI λx _ e=>?_) h;have e:=B' e;refine i' (FF λd=>c (Iz d e))
theorem Pa {key:Nat->List Nat}(h:key i=key j):TC key n i=TC key n j:=by
 have:(λk=>decide (key k<key i))=λk=>decide (key k<key j):=funext λk=>decide_eq_decide.mpr (by rw[h]);unfold TC;rw[this]
end L2
set_option maxHeartbeats 1000000
namespace SS
theorem Mz {k:Nat->Int}{x:Nat}(h:l.Pairwise λa b=>k a<=k b):(ZA k x l).Pairwise λa b=>k a<=k b:=by
 unfold ZA;have h':=h;rw[<- fC (p:=λy=>decide (k y<=k x)) (l:=l),Ea]at h';obtain⟨h1,h2,h3⟩:=h';have lo:∀y∈l.takeWhile (λy=>decide (k y<=k x)),k y<=k x:=λy hy=>B' (dA.mp List.all_takeWhile y hy)
 have hi:∀y∈l.dropWhile (λy=>decide (k y<=k x)),k x<=k y:=by
  cases e:l.dropWhile (λy=>decide (k y<=k x)) with
  |nil=>intro y hy;cases hy
  |cons a r=>
   have ha:decide (k a<=k x)=false:=by
    have:=List.head?_dropWhile_not (λy=>decide (k y<=k x)) l;rw[e]at this
    simpa using this
   have ha:=of_decide_eq_false ha;rw[e]at h2;intro y hy;rcases CF.mp hy with rfl |hy
   ·lia
   ·have:=(Dx.mp h2).1 y hy;lia
 refine Ea.mpr ⟨h1,Dx.mpr ⟨hi,h2⟩,λa ha b hb=>?_⟩;rcases CF.mp hb with rfl |hb
 ·exact lo a ha
 ·exact h3 a ha b hb
theorem N0 (k:Nat->Int)(l:List Nat):(L8 k l).Pairwise λa b=>k a<=k b:=by
 have:∀(l O':List Nat),O'.Pairwise (λa b=>k a<=k b)->(l.foldl (λO' x=>ZA k x O') O').Pairwise λa b=>k a<=k b:=by
  intro l
  induction l with
  |nil=>intro O' h;exact h
  |cons x r ih=>
   intro O' h;rw[dU];exact ih _ (Mz h)
 exact this l [] iH
end SS
namespace L2
open PySem PySem.Spec PyProof.Rows PySem.W
section
theorem PY {Q:Bool->av->Prop}{a c:af}{t t2 u u2:Iw}{x y:Int}(h1:a=c->x=y)(h:Q (decide (a.cps.toList<c.cps.toList)) s):
  KatLex prog w A true (decide (2<2)) Q ([iW a t,iQ x t2].zip [iW c u,iQ y u2]) 0 s:=by
 refine kat_cons (KI (kat_go (λe=>kat_yes ?_) λe=>kat_no ?_))
 ·have e:=B' e;have e2:=h1 e;subst e e2;refine kat_cons (KH (kat_go (λe=>kat_yes ?_) λe=>?_))
  ·have h:Q (decide (a.cps.toList<a.cps.toList)) s:=h;rw[j' (SV _)]at h;exact h
  ·simp at e
 ·exact oneLt_str h
end
section
variable {nm:Nat->af}{am:Nat->Int}{P:Iq->av->Prop}
structure Qw (H:Hp)(ts:List V)(nm:Nat->af)(am:Nat->Int):Prop where
 at_:∀i,i<ts.length->∃t,ts[i]?=some (.ref t)/\H t=some (.tup [.str (nm i),.int (am i)])
 one:∀i j,i<ts.length->j<ts.length->nm i=nm j->am i=am j
abbrev GS (nm:Nat->af)(n:Nat):Nat->Int:=TC (λi=>(nm i).cps.toList) n
theorem wO (T:Qw H ts nm am)(rv:zZ ts its){P:f_}(ok:wL P w H h)(hv:its[i]?=some v):∃t o k1 k2 n,v=.ref t/\H t=some (.tup [.str (nm i),.int (am i)])/\h.get? t=some o/\o.cls=.type "tuple"/\o.data=.seq #[iW (nm i) k1,iQ (am i) k2] n:=by
 have hi:i<ts.length:=by rw[rv.length];exact(CV.mp hv).1
 obtain⟨t,e1,e2⟩:=T.at_ i hi;obtain⟨u,hu,ru⟩:=rv.get e1;rw[hv]at hu;cases hu;cases ru;obtain⟨_,us,rv,o,ho,hc,n,hd⟩:=ok t _ e2;obtain⟨u1,u2,rfl,⟨k1,r1⟩,⟨k2,r2⟩⟩:=GP rv;subst r1 r2;exact⟨t,o,k1,k2,n,Z,e2,ho,hc,hd⟩
theorem Qh (T:Qw H ts nm am)(rv:zZ ts its){P:f_}(ok:wL P w H h)(hv:its[i]?=some v):wu its (GS nm ts.length) v=GS nm ts.length i:=by
 have ex:∃i,its[i]?=some v:=⟨i,hv⟩;unfold wu;rw[dif_pos ex];have hj:=ex.choose_spec;generalize ex.choose=j at hj;obtain⟨t,_,_,_,_,e1,e2,_⟩:=wO T rv ok hv;obtain⟨t',_,_,_,_,e1',e2',_⟩:=wO T rv ok hj;rw[e1]at e1'
 cases e1'
 rw[e2]at e2'
 have en:nm i=nm j:=by
  have:=HO.tup.inj (ai e2');exact V.str.inj (aT this).1
 exact Pa (G' (λz:af=>z.cps.toList) en.symm)
theorem oY (T:Qw H ts nm am)(rv:zZ ts its){P:f_}(ok:wL P w H s.heap):
  @SG.MD ⟨wu its (GS nm ts.length),Kk true⟩ P w A s (its.toArray.zip its.toArray):=by
 intro p hp q hq Q E h;rw[ksk_zip]at hp hq;obtain⟨x,x'⟩:=p;obtain⟨y,y'⟩:=q;obtain⟨i,hi⟩:=Dy.mp (Dz hp).1;obtain⟨j,hj⟩:=Dy.mp (Dz hq).1;rw[ksk_tl]at hi hj;have li:i<ts.length:=by rw[rv.length];exact(CV.mp hi).1
 have lj:j<ts.length:=by rw[rv.length];exact(CV.mp hj).1
 have h':Q (decide (wu its (GS nm ts.length) x<wu its (GS nm ts.length) y)) s:=h;rw[Qh T rv ok hi,Qh T rv ok hj,<- Py li]at h';obtain⟨t,o,k1,k2,n,e1,_,e3,_,e5⟩:=wO T rv ok hi;obtain⟨t',o',l1,l2,n',f1,_,f3,_,f5⟩:=wO T rv ok hj;show wpAny (az P w) A (keyLt' (Kk true) x y) Q E s;rw[e1,f1];exact kat_lt e3 e5 f3 f5 (PY (T.one i j li lj) h')
theorem Wx (T:Qw H ts nm am)(rv:zZ ts its){P:f_}(ok:wL P w H h):
  zZ ((SS.L8 (GS nm ts.length) (aQ ts.length)).map λi=>ts.getD i .non) ((@SG.jK ⟨wu its (GS nm ts.length),Kk true⟩ (its.zip its)).map (·.2)):=by
 letI:SG.Rk:=⟨wu its (GS nm ts.length),Kk true⟩
 have tl:=rv.length
 have P0:w_ (λ(i:Nat) (p:aR)=>SG.ky p=GS nm ts.length i/\qr (ts.getD i .non) p.2) (aQ ts.length) (its.zip its):=by
  refine Qp (by rw[d9,E2,Ec,tl]) λi j p e1 e2=>?_
  obtain⟨hi,rfl⟩:i<ts.length/\i=j:=by
   rw[CV]at e1;obtain⟨h1,h2⟩:=e1;rw[List.getElem_range]at h2;exact⟨by simpa using h1,h2⟩
  have e3:its[i]?=some p.1/\its[i]?=some p.2:=fH.mp e2;refine⟨Qh T rv ok e3.1,?_⟩;obtain⟨u,hu,rv⟩:=rv.get (i:=i) (x:=ts.getD i .non) (by rw[dD,CC hi];rfl);rw[e3.2]at hu;cases hu;exact rv
 have P1:=SG.mf (k:=GS nm ts.length) (λi p h=>h.1) P0
 have:∀{l:List Nat} {m:List aR},w_ (λ(i:Nat) (p:aR)=>SG.ky p=GS nm ts.length i/\qr (ts.getD i .non) p.2) l m->zZ (l.map λi=>ts.getD i .non) (m.map (·.2)):=by
  intro l m h
  induction h with
  |nil=>exact .nil
  |cons r _ ih=>exact .cons r.2 ih
 exact this P1
theorem nq (H:∀v∈its,∃a o xs n k t,v=aG a/\h.get? a=some o/\o.cls=.type "tuple"/\o.data=.seq xs n/\xs[0]?=some (iW k t)):∃fs,KatTups h its fs/\fs.length=its.length/\∀f∈fs,∃k t,f=iW k t:=by
 induction its with
 |nil=>exact⟨[],trivial,Z,λf hf=>M' hf (by simp)⟩
 |cons v its ih=>
  obtain⟨fs,t1,t2,t3⟩:=ih λv hv=>H v (CK _ hv);obtain⟨a,o,xs,n,k,t,e1,e2,e3,e4,e5⟩:=H v CG;refine⟨.str k t::fs,⟨⟨a,o,xs,n,e1,e2,e3,e4,e5⟩,t1⟩,by rw[CY,CY,t2],λf hf=>?_⟩;rcases CF.mp hf with rfl |hf
  ·exact⟨k,t,Z⟩
  ·exact t3 f hf
theorem pH (I:zF X N' σ H s)(ha:s.heap.get? a=some (l_ "list" its.toArray n))(fa:yj X N' H a)(h64:its.length<64)(T:Qw H ts nm am)(rv:zZ ts its)(h:∀s' c out,zZ ((SS.L8 (GS nm ts.length) (aQ ts.length)).map λi=>ts.getD i .non) out->zF X N' σ H s'->s'.heap.get? a=some (l_ "list" out.toArray c)->P (.done (.ret .none)) s'):
  wpAny (az X.prog X.w) A (Builtin.«list.sort» ⟨[.ref a],[]⟩) P E s:=by
 letI:SG.Rk:=⟨wu its (GS nm ts.length),Kk true⟩
 have u1:=x_ s.heap a (ij λ_=>(#[]:Array ae));obtain⟨e1,g1⟩:∃e1,(s.heap.update a (ij λ_=>(#[]:Array ae))).get? a=some (l_ "list" #[] e1):=⟨_,K7 ha λ_=>#[]⟩;have J1:=I.turn1 fa u1;have J2:=J1.kept (t':=s.toks) (h':=(s.heap.update a (ij λ_=>(#[]:Array ae))).push (l_ "tuple" its.toArray 0)) λb o q=>CN _ q;have J3:=J2.kept (t':=s.toks) (h':=((s.heap.update a (ij λ_=>(#[]:Array ae))).push (l_ "tuple" its.toArray 0)).push (l_ "list" #[] 0)) λb o q=>CN _ q;have g3:(((s.heap.update a (ij λ_=>(#[]:Array ae))).push (l_ "tuple" its.toArray 0)).push (l_ "list" #[] 0)).get? a=some (l_ "list" #[] e1):=CN _ (CN _ g1);rw[list_sort_plain];refine aa (listItems_at ha Z (aa (listUpdate_at ha Z (aa (seqEpoch_at g1 Z (aa (Sx (aa (IC (aY ?_) (CP _))) (by show its.length<=_;rw[ah];lia))))) (by rw[de,ah];lia) (CP _))));dsimp only;have ov:=Wx T rv J3.hok;have zl:(its.zip its).length=its.length:=by rw[E2,Ec]
 have zs:(its.toArray.zip its.toArray).size=its.length:=by rw[<- zl,<- ksk_tl its,<- ksk_zip,Dc,ksk_tl]
 have P':∀(st:iA),(aM st).toList=SG.jK (its.zip its)->Fv st=none->wpAny (az X.prog X.w) A (do
   let touched:=(<- seqEpoch a) != e1
   Builtin.List.listUpdate (.ref a) λ_=>(aM st).map (·.2)
   if let some e:=Fv st then rule "list.sort.comparison-raised";throw e
   if touched then rule "list.sort.modified";raiseError "ValueError" "list modified during sort"
   ret .none) P E {s with heap:=((s.heap.update a (ij λ_=>(#[]:Array ae))).push (l_ "tuple" its.toArray 0)).push (l_ "list" #[] 0)}:=λst e3 e2=>by
  have ez:((aM st).map (·.2))=((SG.jK (its.zip its)).map (·.2)).toArray:=by rw[<- e3,<- Array.toList_map,fI]
  have sz:((aM st).map (·.2)).size<=64:=by rw[ez];simp only[de,Cw];rw[SG.jJ,zl];lia
  have u3:=x_ (((s.heap.update a (ij λ_=>(#[]:Array ae))).push (l_ "tuple" its.toArray 0)).push (l_ "list" #[] 0)) a (ij λ_=>(aM st).map (·.2));have a3:=K7 g3 λ_=>(aM st).map (·.2);refine aa (seqEpoch_at g3 Z (aa (listUpdate_at g3 Z ?_ (CP _) (CD sz (by rw[ah];lia)))));rw[e2];simp only[bne_self_eq_false,d8,if_false];have a4:∃c,((((s.heap.update a (ij λ_=>(#[]:Array ae))).push (l_ "tuple" its.toArray 0)).push (l_ "list" #[] 0)).update a (ij λ_=>(aM st).map (·.2))).get? a=some (l_ "list" ((SG.jK (its.zip its)).map (·.2)).toArray c):=⟨_,by rw[<- ez];exact a3⟩;obtain⟨c,a4⟩:=a4;exact aq (h _ c _ ov (J3.turn1 fa u3) a4)
 by_cases h2:its.toArray.size<2
 ·rw[L' h2,L' h2];refine aa (aq ?_);rw[StateT.run_pure];refine aa (aq ?_);have h2':its.length<2:=by simpa using h2
  refine P' _ ?_ rfl
  have up:SG.Up (its.zip its):=by
   cases q:its.zip its with
   |nil=>exact iH
   |cons x r=>
    cases r with
    |nil=>exact Et _ _
    |cons y r=>rw[q]at zl;simp at zl;lia
  rw[SG.Lc up];exact ksk_zip its.toArray its
 ·rw[K' h2,K' h2];have h2':2<=its.length:=by simpa using h2
  obtain⟨fs,k1,k2,k3⟩:=nq (h:=(((s.heap.update a (ij λ_=>(#[]:Array ae))).push (l_ "tuple" its.toArray 0)).push (l_ "list" #[] 0))) (its:=its) λv hv=>by
   obtain⟨i,hi⟩:=Dy.mp hv;obtain⟨t,o,k1,k2,n',y1,_,y3,y4,y5⟩:=wO T rv J3.hok hi;exact⟨t,o,_,n',_,k1,y1,y3,y4,y5,Z⟩
  refine aa (kat_kind (T:=.type "str") k1 (by lia) (λv hv=>?_) Z ?_)
  ·obtain⟨k,t,rfl⟩:=k3 v hv;exact .now
  refine aa (sH (SG.ME (b₀:=its.toArray.zip its.toArray) (st:=SortSt.mk' (Kk true) (its.toArray.zip its.toArray) #[] 7 none) (Q:=λ_ U'=>Fv U'=none/\(aM U').toList=SG.jK (its.toArray.zip its.toArray).toList) (oY T rv J3.hok) ⟨.refl _,Z,Z,Z⟩ Z (by lia) (by lia) λU' z1 z2=>⟨z1,z2⟩) ?_ λ_ _ z=>z);rintro ⟨⟨⟩,U'⟩ s' ⟨rfl,z1,z2⟩;rw[ksk_zip]at z2;exact P' U' z2 z1
end
end L2
variable {prs Y':List (af×Int)}
namespace L2
open PySem PySem.Spec PyProof.Rows
structure z4 (H:Hp)(ys:List V)(cs:List (List V)):Prop where
 len:ys.length=cs.length
 at_:∀(i:Nat) (c:List V),cs[i]?=some c->∃a,ys[i]?=some (V.ref a)/\H a=some (.tup c)
section
variable {cs:List (List V)}
theorem z4.nil:z4 H [] []:=⟨Z,λi c e=>by cases e⟩
theorem z4.mono (T:z4 H ys cs)(k:∀b c,H b=some (.tup c)->H' b=some (.tup c)):z4 H' ys cs:=⟨T.len,λi c e=>by
 obtain⟨a,h1,h2⟩:=T.at_ i c e;exact⟨a,h1,k _ _ h2⟩⟩
theorem z4.same (T:z4 H ys cs)(s:zj H H'):z4 H' ys cs:=T.mono λ_ _ h=>s _ _ h
theorem z4.upd {p:aj}{o:HO}(T:z4 H ys cs)(n:∀c,H p≠some (.tup c)):z4 (upd H p o) ys cs:=T.mono λb c h=>by
 rw[zx (show b≠p from λe=>n c (by rw[<- e];exact h))];exact h
theorem z4.snoc {c:List V}(T:z4 H ys cs)(h:H a=some (.tup c)):z4 H (ys++[.ref a]) (cs++[c]):=by
 refine⟨by rw[CA,CA,T.len];rfl,λi d e=>?_⟩
 by_cases hi:i<cs.length
 ·rw[dF hi]at e;rw[dF (by rw[T.len];exact hi)];exact T.at_ i d e
 ·have hi:=dY hi;rw[dk hi]at e;rw[dk (by rw[T.len];exact hi),T.len]
  cases q:i-cs.length with
  |zero=>
   rw[q]at e;cases e;exact⟨a,Z,h⟩
  |succ n=>
   rw[q]at e;cases e
theorem z4.of_at (T:z4 H ys cs)(h:ys[i]?=some y):∃a c,y=.ref a/\cs[i]?=some c/\H a=some (.tup c):=by
 have hi:i<cs.length:=by rw[<- T.len];exact(CV.mp h).1
 obtain⟨a,h1,h2⟩:=T.at_ i _ (CC hi);rw[h]at h1;exact⟨a,_,ai h1,CC hi,h2⟩
end
def cP (p:af×Int):List V:=[.str p.1,.int p.2]
def OH (prs:List (af×Int))(i:Nat):af×Int:=prs.getD i (aC,0)
theorem kX {p:af×Int}(h:prs[i]?=some p):OH prs i=p:=by
 unfold OH;rw[dD,h];rfl
theorem Ox (prs:List (af×Int)):(aQ prs.length).map (OH prs)=prs:=by
 apply Dj;intro i;rw[CI]
 by_cases h:i<prs.length
 ·rw[Ef h,DK,CC h,kX (CC h)]
 ·rw[dO (by simpa using h),dO (dY h)];rfl
theorem NF (T:z4 H ts (prs.map cP))(nd:(prs.map (·.1)).Nodup):Qw H ts (λi=>(OH prs i).1) (λi=>(OH prs i).2):=by
 have tl:ts.length=prs.length:=by rw[T.len,Cw]
 refine⟨λi hi=>?_,λi j hi hj e=>?_⟩
 ·have hp:=CC (tl ▸ hi);rw[kX hp];exact T.at_ i _ (by rw[CI,hp];rfl)
 ·have e1:(OH prs i).1=(OH prs j).1:=e;have hp:=CC (tl ▸ hi);have hq:=CC (tl ▸ hj)
  have:i=j:=by
   have li:i<(prs.map (·.1)).length:=by rw[Cw];exact tl ▸ hi
   have lj:j<(prs.map (·.1)).length:=by rw[Cw];exact tl ▸ hj
   refine(fh (h₀:=li) (h₁:=lj) nd).mp ?_;rw[Ew,Ew,<- kX hp,<- kX hq];exact e1
  rw[this]
theorem gO (T:z4 H ts (prs.map cP)){is:List Nat}(pm:is.Perm (aQ ts.length)):
  (is.map (OH prs)).Perm prs/\z4 H (is.map λi=>ts.getD i .non) ((is.map (OH prs)).map cP):=by
 have tl:ts.length=prs.length:=by rw[T.len,Cw]
 rw[tl]at pm;constructor
 ·have:=pm.map (OH prs);rw[Ox]at this;exact this
 ·refine⟨by simp,λi c e=>?_⟩;rw[CI,CI]at e;obtain⟨q,hq,rfl⟩:=CS.mp e;obtain⟨j,hj,rfl⟩:=CS.mp hq;have lj:j<prs.length:=Dl.mp (pm.mem_iff.mp (dv hj));have hp:=CC lj;obtain⟨a,h1,h2⟩:=T.at_ j _ (by rw[CI,hp];rfl);rw[kX hp];refine⟨a,?_,h2⟩;rw[CI,hj,DK,dD,h1];rfl
section
variable {J:It}{g:TG}{K:BFr}
end
def Yq (Y':List (af×Int)):List (jB×V):=Y'.map λp=>(iy p.1,V.int p.2)
def yP (Y':List (af×Int))(z:af):Option Int:=(Y'.find? λp=>decide (p.1=z)).map (·.2)
def qY (Y':List (af×Int))(z:af):Int:=(yP Y' z).getD 0
def Jd (Y':List (af×Int))(z:af)(v:Int):List (af×Int) :=
 if (Y'.any λp=>decide (p.1=z))=true then Y'.map (λp=>if p.1=z then (p.1,v) else p) else Y'++[(z,v)]
theorem Ze {a:af}:((iy a:jB)=iy z)↔a=z:=⟨λh=>Sum.inr.inj h,λh=>G' _ h⟩
theorem Yo (Y':List (af×Int))(z:af):vV (Yq Y') (iy z)=(yP Y' z).map V.int:=by
 induction Y' with
 |nil=>rfl
 |cons p r ih=>
  by_cases e:p.1=z
  ·rw[show Yq (p::r)=(iy p.1,V.int p.2)::Yq r from Z,yM (Ze.mpr e)];unfold yP;rw[Dn,i' e];rfl
  ·rw[show Yq (p::r)=(iy p.1,V.int p.2)::Yq r from Z,yJ (λh=>e (Ze.mp h)),ih];unfold yP;rw[Dn,j' e]
theorem NW (Y':List (af×Int))(z:af):(vV (Yq Y') (iy z)).getD (.int 0)=.int (qY Y' z):=by
 rw[Yo];unfold qY
 cases yP Y' z<;>rfl
theorem ot (Y':List (af×Int))(z:af)(v:Int):kR (Yq Y') (iy z) (.int v)=Yq (Jd Y' z v):=by
 have e1:((Yq Y').any λkv=>decide (kv.1=(iy z:jB)))=Y'.any λp=>decide (p.1=z):=by
  unfold Yq;rw[Kt]
  congr 1
  funext p
  exact decide_eq_decide.mpr Ze
 unfold kR Jd;rw[e1];split
 ·unfold Yq;rw[dh,dh];refine Ex λp _=>?_;show(if (iy p.1:jB)=iy z then _ else _)=_
  by_cases e:p.1=z
  ·rw[L' (Ze.mpr e)];show _=(iy (if p.1=z then (p.1,v) else p).1,V.int (if p.1=z then (p.1,v) else p).2);rw[L' e]
  ·rw[K' λh=>e (Ze.mp h)];show _=(iy (if p.1=z then (p.1,v) else p).1,V.int (if p.1=z then (p.1,v) else p).2);rw[K' e]
 ·unfold Yq;rw[CJ];rfl
theorem xo (Y':List (af×Int))(z y:af)(v:Int):yP (Jd Y' z v) y=if y=z then some v else yP Y' y:=by
 have h:=PL (Yq Y') (iy z:jB) (iy y) (.int v);rw[ot,Yo,Yo]at h
 have inj:∀a b:Option Int,a.map V.int=b.map V.int->a=b:=λa b e=>by
  cases a<;>cases b<;>first |rfl |cases e |skip
  rfl
 apply inj;rw[h]
 by_cases e:y=z
 ·rw[L' e,L' (Ze.mpr e)];rfl
 ·rw[K' e,K' λh=>e (Ze.mp h)]
theorem U2 (Y':List (af×Int))(z y:af)(v:Int):qY (Jd Y' z v) y=if y=z then v else qY Y' y:=by
 unfold qY;rw[xo]
 split<;>rfl
theorem m8 (Y':List (af×Int))(z:af)(v:Int):(Jd Y' z v).length<=Y'.length+1:=by
 unfold Jd;split
 ·rw[Cw];exact Do _
 ·rw[CA];exact Cz _
theorem pA {v:Int}(h:(Y'.map (·.1)).Nodup):((Jd Y' z v).map (·.1)).Nodup:=by
 unfold Jd;split
 ·rw[dh]
  have:Y'.map ((·.1) ∘ λp=>if p.1=z then (p.1,v) else p)=Y'.map (·.1):=Ex λp _=>by
   show(if p.1=z then (p.1,v) else p).1=p.1
   split<;>rfl
  rw[this];exact h
 ·rename_i c;rw[CJ];refine GN h λm=>c ?_;obtain⟨p,hp,e⟩:=CB.mp m;exact E3.mpr ⟨p,hp,i' e⟩
theorem uF (h:(Y'.map (·.1)).Nodup){p:af×Int}(hp:p∈Y'):yP Y' p.1=some p.2:=by
 induction Y' with
 |nil=>cases hp
 |cons q r ih=>
  have h:(q.1::r.map (·.1)).Nodup:=h;obtain⟨h1,h2⟩:=Ds.mp h;unfold yP;rw[Dn];rcases CF.mp hp with rfl |hp
  ·rw[i' rfl];rfl
  ·rw[j' λe:q.1=p.1=>h1 (e ▸ CB.mpr ⟨p,hp,Z⟩)];exact ih h2 hp
theorem Z9 (h:¬z∈Y'.map (·.1)):yP Y' z=none:=by
 unfold yP;have:Y'.find? (λp=>decide (p.1=z))=none:=List.find?_eq_none.mpr λp hp e=>h (CB.mpr ⟨p,hp,B' e⟩);rw[this];rfl
theorem kr {v:Int}(h:yP Y' z=some v):(z,v)∈Y':=by
 unfold yP at h;obtain⟨p,hp,rfl⟩:=CS.mp h;have e:decide (p.1=z)=true:=List.find?_some (p:=λp:af×Int=>decide (p.1=z)) hp;have e:=B' e;have m:=List.mem_of_find?_eq_some hp;rw[<- e];exact m
end L2
variable {items:Array ae}{tc:L2.TT}
namespace ST
open PySem
def Jr (xs:Array Nat):Prop:=∀i j,i<j->j<xs.size->xs.getD i 0<xs.getD j 0
theorem PB {xs:Array Nat}(h:i<xs.size)(d e:Nat):xs.getD i d=xs.getD i e:=by
 simp[AN,h]
theorem V8 {xs:Array Nat}(hr:Jr xs)(j:Nat):∀(Φ lo hi:Nat),hi-lo<=Φ->lo<=hi->hi<=xs.size->(∀i,i<lo->xs.getD i 0<j)->(∀i,hi<=i->i<xs.size->j<=xs.getD i 0) ->
  (AG xs j Φ lo hi<=xs.size/\(∀i,i<AG xs j Φ lo hi->xs.getD i 0<j)/\∀i,AG xs j Φ lo hi<=i->i<xs.size->j<=xs.getD i 0)
 |0,lo,hi,hf,hl,hs,h1,h2=>by
  have e:lo=hi:=by lia
  subst e;exact⟨hs,h1,h2⟩
 |Φ+1,lo,hi,hf,hl,hs,h1,h2=>by
  unfold AG
  by_cases γ:lo<hi
  ·rw[L' γ];have hm:(lo+hi)/2<hi:=by lia
   have hm2:lo<=(lo+hi)/2:=by lia
   have hms:(lo+hi)/2<xs.size:=by lia
   show(if xs.getD ((lo+hi)/2) j<j then _ else _)<=_/\_;simp only;rw[PB hms j 0]
   by_cases hc:xs.getD ((lo+hi)/2) 0<j
   ·rw[L' hc];refine V8 hr j Φ _ hi (by lia) (by lia) hs (λi hi'=>?_) h2
    by_cases e:i=(lo+hi)/2
    ·rw[e];exact hc
    ·exact eY (hr i _ (by lia) hms) hc
   ·rw[K' hc];refine V8 hr j Φ lo _ (by lia) hm2 (by lia) h1 (λi hi' his=>?_)
    by_cases e:i=(lo+hi)/2
    ·rw[e];exact dY hc
    ·exact CD (dY hc) (eK (hr _ i (by lia) his))
  ·rw[K' γ];have e:lo=hi:=by lia
   subst e;exact⟨hs,h1,h2⟩
theorem kW {xs:Array Nat}(hr:Jr xs)(j:Nat):aV xs j<=xs.size/\(∀i,i<aV xs j->xs.getD i 0<j)/\∀i,aV xs j<=i->i<xs.size->j<=xs.getD i 0 :=
 V8 hr j xs.size 0 xs.size (by lia) (by lia) (Cz _) (λi h=>M' h (E4 i)) (λi h1 h2=>M' h2 (Ee.mpr h1))
theorem Xj {xs:Array Nat}(hr:Jr xs)(hi:i<xs.size):aV xs (xs.getD i 0+1)=i+1:=by
 obtain⟨h1,h2,h3⟩:=kW hr (xs.getD i 0+1);apply Nr
 ·apply dY;intro c;have:=h2 (i+1) c;have:=hr i (i+1) (by omega) (by omega);omega
 ·apply dY;intro c;have:=h3 i (by omega) hi;omega
theorem X9 {xs:Array Nat}(hr:Jr xs):aV xs 0=0:=by
 obtain⟨h1,h2,h3⟩:=kW hr 0;apply Nat.eq_zero_of_not_pos;intro c;exact M' (h2 0 c) (E4 _)
theorem QN {xs:Array Nat}{p x k:Nat}(hp:p<=xs.size):(sR xs p x).getD k 0=if k<p then xs.getD k 0 else if k=p then x else xs.getD (k-1) 0:=by
 unfold sR;have e:∀(ys:Array Nat) (k:Nat),ys.getD k 0=(ys.toList[k]?).getD 0:=λys k=>by simp[Array.getD_eq_getD_getElem?]
 rw[e,e,e]
 have l:((xs.extract 0 p).push x++xs.extract p xs.size).toList=xs.toList.take p++x::xs.toList.drop p:=by
  simp[Ik]
  rw[dW (by simp:_<=_)]
 rw[l]
 by_cases h1:k<p
 ·rw[L' h1,dF (by rw[CQ,Dc];lia),Fb h1]
 ·rw[K' h1,dk (by rw[CQ,Dc];lia),CQ,Dc,Dp hp]
  by_cases h2:k=p
  ·rw[L' h2,h2,eP];rfl
  ·rw[K' h2];obtain⟨m,hm⟩:∃m,k-p=m+1:=⟨k-p-1,by lia⟩;rw[hm,EW,E5]
   congr 2
   lia
theorem W0 {xs:Array Nat}{p x:Nat}(hp:p<=xs.size):(sR xs p x).size=xs.size+1:=by
 unfold sR
 simp
 lia
theorem LF {xs:Array Nat}(hr:Jr xs)(hj:xs[aV xs j]?≠some j):Jr (sR xs (aV xs j) j):=by
 obtain⟨h1,h2,h3⟩:=kW hr j
 have h4:∀i,aV xs j<=i->i<xs.size->j<xs.getD i 0:=λi a b=>by
  refine Nat.lt_of_le_of_ne (h3 i a b) λe=>?_
  by_cases q:i=aV xs j
  ·apply hj;rw[<- q,Dq b];have:xs.getD i 0=xs[i]:=by simp[AN,b]
   rw[<- this,<- e]
  ·have:=hr (aV xs j) i (by omega) b;have:=h3 (aV xs j) (Cz _) (by omega);omega
 intro a b hab hb;rw[W0 h1]at hb;rw[QN h1,QN h1]
 by_cases c1:b<aV xs j
 ·rw[L' (by omega:a<aV xs j),L' c1];exact hr a b hab (by omega)
 ·rw[K' c1]
  by_cases c2:b=aV xs j
  ·rw[L' c2,L' (by omega:a<aV xs j)];exact h2 a (by omega)
  ·rw[K' c2]
   by_cases c3:a<aV xs j
   ·rw[L' c3];exact eY (h2 a c3) (h4 (b-1) (by omega) (by omega))
   ·rw[K' c3]
    by_cases c4:a=aV xs j
    ·rw[L' c4];exact h4 (b-1) (by omega) (by omega)
    ·rw[K' c4];exact hr (a-1) (b-1) (by omega) (by omega)
theorem XO (n:Nat):Jr (Array.range n):=by
 intro i j hij hj;have hj':j<n:=by simpa using hj
 have hi':i<n:=by lia
 simp[AN,hj',hi',hij]
theorem Ql (h:l.Pairwise (· < ·)):Jr l.toArray:=by
 intro i j hij hj;have hj':j<l.length:=by simpa using hj
 have hi':i<l.length:=by lia
 have:=EY.mp h i j hi' hj' hij
 simpa [AN,hi',hj'] using this
theorem pE {mask finger moves:Nat}{led plain:Bool}{hashes:Array Int}{order:Array Nat}(h:SY mask finger moves led plain hashes=some (t,order)):Jr t.place/\t.led=led/\t.plain=plain:=by
 unfold SY at h
 cases e:SetTable.layClean mask hashes with
 |none=>
  rw[e]at h;cases h
 |some owner=>
  rw[e]at h;cases h;refine⟨Ql ?_,Z,Z⟩;rw[List.map_filterMap];refine List.Pairwise.filterMap _ (R:=(· < ·)) ?_ List.pairwise_lt_range;intro a b hab x hx y hy;simp only[Option.map_map,Option.mem_def,CS]at hx hy;obtain⟨_,_,rfl⟩:=hx;obtain⟨_,_,rfl⟩:=hy;exact hab
def YZ (t:Au)(j:Nat):Prop:=t.place[aV t.place j]?≠some j
theorem oE (h:∀i,t.slot j≠.live i):YZ t j:=by
 intro e;unfold SetTable.slot at h;simp only at h;rw[L' (by rw[e];simp)]at h;exact h _ rfl
theorem Zd {f:Nat->Int}{h:Int}:∀(Φ:Nat) (p:SetTable.Probe),(∀d,p.dummy=some d->YZ t d)->∀j d,FN t f h Φ p=some (.empty j d)->YZ t j/\∀e,d=some e->YZ t e
 |0,p,_,j,d,q=>by
  unfold FN at q;cases q
 |Φ+1,p,hp,j,d,q=>by
  unfold FN at q
  cases hs:t.slot p.j with
  |empty=>
   rw[hs]at q;simp only[FP,SetTable.Met.empty.injEq]at q;obtain⟨e1,e2⟩:=q;subst e1 e2;exact⟨oE λi=>by rw[hs];simp,hp⟩
  |dummy=>
   rw[hs]at q;refine Zd Φ _ (λe he=>?_) j d q
   have:(AO t {p with dummy:=some p.j}).dummy=some p.j:=by
    unfold AO
    split<;>rfl
   rw[this]at he;cases he;exact oE λi=>by rw[hs];simp
  |live i=>
   rw[hs]at q;simp only at q
   split at q
   ·cases q
   ·refine Zd Φ _ (λe he=>?_) j d q
    have:(AO t p).dummy=p.dummy:=by
     unfold AO
     split<;>rfl
    rw[this]at he;exact hp e he
theorem ny {h:Int}{s:Nat}{wd:Bool}(q:t.freeSlot h=some (s,wd)):YZ t s:=by
 unfold SetTable.freeSlot at q
 cases e:t.probe (λ_=>h+1) h (t.probeStart h) with
 |none=>rw[e]at q;cases q
 |some m=>
  rw[e]at q
  cases m with
  |candidate j i n=>cases q
  |empty j d=>
   have hp:=Zd _ _ (by intro d hd;cases hd) j d e;simp only[FP,Prod.mk.injEq]at q;obtain⟨q1,_⟩:=q
   cases d with
   |none=>rw[<- q1];exact hp.1
   |some d=>rw[<- q1];exact hp.2 d rfl
structure j9 (b:Bool)(t:Au):Prop where
 led:t.led=b
 rise:Jr t.place
theorem uP {b:Bool}(g:j9 b t)(n:Nat):j9 b (t.standIn n):=⟨g.led,XO n⟩
theorem gx {b:Bool}(g:j9 b t)(p:Bool):j9 b {t with plain:=p}:=⟨g.led,g.rise⟩
theorem LP {b:Bool}(g:j9 b t)(es:Array (Int×ae))(h:Int)(x:ae):j9 b (layNew t es h x).2.1:=by
 unfold layNew
 cases e:t.freeSlot h with
 |none=>exact uP g _
 |some q=>
  obtain⟨s,wd⟩:=q;have gp:j9 b (t.put s).1:=⟨g.led,LF g.rise (ny e)⟩;show j9 b ((t.put s).1.orStandIn _);unfold SetTable.orStandIn;split
  ·exact gp
  ·exact uP gp _
theorem X5 {b:Bool}(g:j9 b t)(es:Array (Int×ae))(n:Nat):j9 b (HW t es n).2.1:=by
 unfold HW
 cases e:t.relaid (es.map (·.1)) n with
 |none=>exact uP g _
 |some q=>
  obtain⟨t',order⟩:=q;simp only;split
  ·obtain⟨r1,r2,_⟩:=pE e;exact⟨r2.trans g.led,r1⟩
  ·exact uP g _
theorem gC (b:Bool):j9 b (SetTable.fresh 0 0 b):=⟨Z,λi j _ h=>M' h (E4 _)⟩
open PySem.Spec
section
variable {K:Type}[DecidableEq K][BEq K][LawfulBEq K]{knd:KeyKind prog w K}
structure At (knd:KeyKind prog w K)(b:Bool)(h:ia)(a:aj)(es:Array (Int×ae)):Prop where
 ex:∃o ep t,h.get? a=some o/\o.ExactSet/\o.data=.set es ep t/\t.fits es.size=true/\j9 b t
 el:Sa knd es.toList
theorem xu {b:Bool}{δ:Array (Int×ae)}{t':Au}(og:h.get? a=some o)(hx:o.ExactSet)(dg:o.data=.set es ep t)(el:Sa knd δ.toList)(fg:t'.fits δ.size=true)(g:j9 b t'):
  (h.update a (IS δ t')).get? a=some {o with data:=.set δ (ep+1) t'}/\At knd b (h.update a (IS δ t')) a δ:=by
 have e:(h.update a (IS δ t')).get? a=some {o with data:=.set δ (ep+1) t'}:=by
  rw[<- putSet_of δ t' dg];exact DV _ og (by rw[putSet_of δ t' dg];rfl)
 exact⟨e,⟨_,_,_,e,hx,Z,fg,g⟩,el⟩
def rS (knd:KeyKind prog w K)(k:K)(x:ae)(es δ:Array (Int×ae)):Prop :=
 ((∃e∈es.toList,knd.is k e.2=true)/\δ=es)∨((∀e∈es.toList,knd.is k e.2=false)/\δ.toList.Perm (es.toList++[(knd.hash k,x)]))
theorem L4 {b:Bool}{k:K}{x:ae}{Q:Bool->av->Prop}(hk:knd.is k x=true)(hx:x.scannable=true)(hA:At knd b s.heap a es)(hb:es.size+1<F8)(h:∀h' δ r,ik a s.heap h'->At knd b h' a δ->rS knd k x es δ->Q r {s with heap:=h'}):wpAny (az prog w) A (setAddHashed a x (knd.hash k)) Q E s:=by
 obtain⟨⟨o,ep,t,og,hex,dg,fg,g⟩,el⟩:=hA;unfold setAddHashed;unfold setAddHashedIn;refine aY (aa (iG og dg fg ?_));dsimp only;rw[byScan_of hx (Nat.lt_of_succ_lt hb) el];simp only[↓reduceIte];unfold setAddByScan;refine aa (aa (sW (aa (wpAny_setScan_of hk og dg fg el ?_))))
 cases met:List.findIdx? (λu=>knd.is k u.2) es.toList with
 |some j=>
  dsimp only;obtain⟨j1,j2,_⟩:=List.findIdx?_eq_some_iff_getElem.mp met;refine aq (aq ?_);have z:=h s.heap es false (KA a s.heap) ⟨⟨o,ep,t,og,hex,dg,fg,g⟩,el⟩ (.inl ⟨⟨_,DA j1,j2⟩,Z⟩);exact z
 |none=>
  dsimp only
  have none_is:∀e∈es.toList,knd.is k e.2=false:=λe he=>by
   have z:=List.findIdx?_eq_none_iff.mp met e he
   simpa using z
  have gw:∀(c:Bool) {s₁:av} {R:Unit->av->Prop},R () s₁->wpAny (az prog w) A (match c with|true=>rule "set.scan.the-table-gave-way" |false=>pure ()) R E s₁:=λc s₁ R q=>by
   cases c
   ·exact aq q
   ·exact sW q
  have pm:=layNew_perm t es (knd.hash k) x;have ft:=layNew_fits t es (knd.hash k) x;have gl:=LP g es (knd.hash k) x;obtain⟨L,hL⟩:∃L,layNew t es (knd.hash k) x=L:=⟨_,Z⟩;rw[hL]at pm ft gl ⊢;obtain⟨es1,t1,wd,gv⟩:=L;dsimp only at pm ft gl ⊢;rw[EJ]at pm;have el1:Sa knd es1.toList:=(el.push hk hx).perm pm;have sz1:es1.size=es.size+1:=by rw[<- Dc,pm.length_eq,CA,Dc];rfl
  have tail:∀tb:Au,tb.fits es1.size=true->j9 b tb->∀R:Option Bool->av->Prop,(∀h' δ,ik a s.heap h'->At knd b h' a δ->δ.toList.Perm es1.toList->R (some true) {s with heap:=h'}) ->
    wpAny (az prog w) A (do
     storeSet a es1 tb
     if (!wd&&tb.tooFull)=true then do
       (match (HW tb es1 (sF es1.size)).2.2 with|true=>rule "set.scan.the-table-gave-way" |false=>pure ())
       storeSet a (HW tb es1 (sF es1.size)).1 (HW tb es1 (sF es1.size)).2.1
       pure (some true)
      else pure (some true)) R E s:=λtb f2 g2 R q=>by
   have fit1:es1.size<=ar:=fits_of_scanBound (by rw[sz1];exact hb);refine aa (Kl og dg ?_ fit1);obtain⟨o1,A1⟩:=xu (knd:=knd) og hex dg el1 f2 g2;have sb1:=x_ s.heap a (IS es1 tb);split
   ·have rp:=relayAll_perm tb es1 (sF es1.size);have rf:=relayAll_fits tb es1 (sF es1.size);have rg:=X5 g2 es1 (sF es1.size);have rs:(HW tb es1 (sF es1.size)).1.size=es1.size:=by rw[<- Dc,rp.length_eq,Dc]
    refine aa (gw _ ?_);refine aa (Kl o1 Z ?_ (by rw[rs];exact fit1));obtain⟨_,A2⟩:=xu (knd:=knd) o1 hex rfl (el1.perm rp) rf rg;exact aq (q _ _ (sb1.trans (x_ _ a _)) A2 rp)
   ·exact aq (q _ _ sb1 A1 (List.Perm.refl _))
  have P':∀h' δ,ik a s.heap h'->At knd b h' a δ->δ.toList.Perm es1.toList->Q true {s with heap:=h'}:=λh' δ sb A2 p=>h h' δ true sb A2 (.inr ⟨none_is,p.trans pm⟩);refine aa (gw _ ?_);split
  ·refine aa ?_;rw[hashByValue_scannable 8 hx];refine aq ?_;refine tail _ ?_ ?_ _ λh' δ sb A2 p=>?_
   ·split
    ·exact ft
    ·exact SetTable.fits_plain_off ft
   ·split
    ·exact gl
    ·exact gx gl _
   ·dsimp only;exact aq (P' h' δ sb A2 p)
  ·refine aa (aq ?_);simp only[↓reduceIte];refine tail _ ft gl _ λh' δ sb A2 p=>?_;dsimp only;exact aq (P' h' δ sb A2 p)
end
def jt (w:aZ):Bool:=w.params.followText "set-order"
section
abbrev vc (w:aZ):iN:={cls:=.type "set",dict:=none,data:=.set #[] 0 (.fresh 0 0 (!jt w))}
theorem L3 (v:ae)(h:Q (.ref s.heap.objs.size) {s with heap:=s.heap.push (vc w)}):
  codeAny (az prog w) A (.call (.builtin "set.__new__") ⟨[.type "set",v],[]⟩) (wants Q E) s:=by
 refine K8 ?_;show wpAny _ A.in1 (FZ "set.__new__" ⟨[.type "set",v],[]⟩ >>= λ_=>again (.builtin "set.__new__" ⟨[.type "set",v],[]⟩)) _ _ s;refine aa (HQ (F.newCall_set_1 v) (aq ⟨sx Q_ _,iq F.entry_set_new ?_⟩));rw[ie Q_ _];unfold Builtin.«set.__new__»;unfold Builtin.Frozenset.newClass;have sub:=sub_set_self;obtain⟨hp,g,d,tk,os⟩:=s;dsimp only
 wp_walk
 refine F9 (aq ?_);dsimp only;simp only[newObj];refine aa (wpAny_alloc (aq ?_));exact aq h
end
open PyProof.Rows
section
variable {K:Type}[DecidableEq K][BEq K][LawfulBEq K]{knd:KeyKind prog w K}
structure xP (kf:ae->K)(es:Array (Int×ae))(l:List K):Prop where
 nd:(es.toList.map λe=>kf e.2).Nodup
 mem:∀k,k∈es.toList.map (λe=>kf e.2)↔k∈l
 len:es.size<=l.length
theorem px (kf:ae->K):xP kf #[] []:=⟨fJ,λk=>Iff.rfl,Cz _⟩
theorem PQ {kf:ae->K}(hkf:∀k v,knd.is k v=true->kf v=k){δ:Array (Int×ae)}{l:List K}{k:K}{x:ae}(el:Sa knd es.toList)(hk:knd.is k x=true)(c:xP kf es l)(a:rS knd k x es δ):xP kf δ (l++[k]):=by
 rcases a with⟨⟨e,he,h1⟩,rfl⟩ |⟨no,pm⟩
 ·refine⟨c.nd,λq=>?_,by rw[CA];exact Nat.le_add_right_of_le c.len⟩;rw[c.mem,CU,du];refine⟨.inl,λz=>z.elim id λz=>?_⟩;rw[z,<- c.mem];exact CB.mpr ⟨e,he,hkf _ _ h1⟩
 ·have pk:(δ.toList.map λe=>kf e.2).Perm ((es.toList.map λe=>kf e.2)++[k]):=by
   have:=pm.map λe=>kf e.2;rw[CJ]at this
   simpa [hkf k x hk] using this
  have nk:¬k∈es.toList.map λe=>kf e.2:=λm=>by
   obtain⟨e,he,e1⟩:=CB.mp m;obtain⟨⟨k',h1,_⟩,_⟩:=el e he;have e2:=hkf _ _ h1;have:=no e he;rw[<- e1,e2,h1]at this;cases this
  refine⟨pk.nodup_iff.mpr ?_,λq=>?_,?_⟩
  ·rw[List.nodup_append];refine⟨c.nd,by simp,λa ha b hb z=>?_⟩;rw[du.mp hb]at z;exact nk (z ▸ ha)
  ·rw[pk.mem_iff,CU,CU,c.mem]
  ·rw[<- Dc,pm.length_eq,CA,CA,Dc];exact E6 c.len _
theorem GI {b:Bool}(x:At knd b h a es)(k:∀o,h.get? a=some o->h'.get? a=some o):At knd b h' a es:=by
 obtain⟨⟨o,ep,t,e,r⟩,el⟩:=x;exact⟨⟨o,ep,t,k o e,r⟩,el⟩
theorem Of {b:Bool}{wr:List aj}{P:Nat->ae->Prop}{St:Nat->ia->Prop}(W:Walks prog w A.in1 I fp wr n P St)(S:aj)(hS:S∉fp){kf:ae->K}(hkf:∀k v,knd.is k v=true->kf v=k)(key:Nat->K)(hv:∀i v,P i v->knd.is (key i) v=true/\v.scannable=true)(hb:n+1<F8):
  ∀(m i:Nat) (s:av) (es:Array (Int×ae)),n-i=m->i<=n->St i s.heap->At knd b s.heap S es->xP kf es ((aQ i).map key) ->
   (∀h' tk δ,(∀c o,c∉wr->c≠S->s.heap.get? c=some o->h'.get? c=some o)->At knd b h' S δ->xP kf δ ((aQ n).map key)->R (.ok (.ret .none)) {s with heap:=h',toks:=tk}) ->
   codeAny (az prog w) A (.builtin "set.update.loop" ⟨[.ref S,.ref I],[]⟩) R s:=by
 have hSw:S∉wr:=λz=>hS (W.sub _ z);intro m
 induction m with
 |zero=>
  intro i s es hm hi st hA hK hR;obtain rfl:i=n:=by lia
  refine iq Hl ?_;rw[ie As _];refine aa (W.done s _ _ st λh' tk keep=>?_);exact aq (hR h' tk es (λc o c1 _ e=>keep c o c1 e) (GI hA λo e=>keep _ o hSw e) hK)
 |succ m ih=>
  intro i s es hm hi st hA hK hR;have lt:i<n:=by lia
  refine iq Hl ?_;rw[ie As _];refine aa (W.item i s _ _ lt st λv h' tk hP U' keep=>?_);obtain⟨v1,v2⟩:=hv i v hP;have hA':At knd b h' S es:=GI hA λo e=>keep _ o hSw e;refine aa (aY ?_);unfold setAdd;refine aY (aa (knd.pyHash v1 ?_))
  have room:es.size+1<F8:=by
   have:=hK.len;rw[Cw,d9]at this;lia
  refine L4 (knd:=knd) (s:={s with heap:=h',toks:=tk+1}) v1 v2 hA' room λh2 es2 r sb A2 ad=>?_
  have K2:xP kf es2 ((aQ (i+1)).map key):=by
   rw[List.range_succ,CJ];exact PQ hkf hA.el v1 hK ad
  refine aq ⟨sx As _,ih (i+1) _ es2 (by lia) lt (W.frame _ _ _ U' λc hc o e=>?_) A2 K2 λh3 tk3 es3 keep3 A3 K3=>?_⟩
  ·exact(sb.2 c λz=>hS (z ▸ hc)).trans e
  ·exact hR h3 tk3 es3 (λc o c1 c2 e=>keep3 c o c1 c2 ((sb.2 c c2).trans (keep c o c1 e))) A3 K3
end
section
variable {K:Type}[DecidableEq K][BEq K][LawfulBEq K]{knd:KeyKind prog w K}
structure Br (knd:KeyKind prog w K)(kf:ae->K)(l:List K)(h₀ h:ia):Prop where
 ex:∃es,At knd (!jt w) h h₀.objs.size es/\xP kf es l
 keep:∀c o,c<h₀.objs.size->h₀.get? c=some o->h.get? c=some o
theorem Pn (e:h.get? a=some (vc w)):At knd (!jt w) h a #[] :=
 ⟨⟨_,_,_,e,⟨Z,Z,Z⟩,Z,Z,gC _⟩,λ_ m=>by cases m⟩
theorem pO {l:aj}(hh:A.handled=none)(hl:s.heap.IsList l items){kf:ae->K}(hkf:∀k v,knd.is k v=true->kf v=k){ks:List K}
  (hv:∀(i:Nat) (v:ae),items[i]?=some v->∃k,ks[i]?=some k/\knd.is k v=true/\v.scannable=true) (hn:ks.length=items.size) (hb:items.size+1<F8) [Inhabited K] :
  codeAny (az prog w) A (.call (.builtin "set.__init__") ⟨[.ref s.heap.objs.size,.ref l],[]⟩)
   (wants (λr s'=>r=.none/\∃h tk,s' = {s with heap:=h,toks:=tk}/\Br knd kf ks s.heap h) E) {s with heap:=s.heap.push (vc w)}:=by
 have e0:(s.heap.push (vc w)).get? s.heap.objs.size=some (vc w):=dj _ rfl;refine AY F.called_set.init.plain F.entry_set_init (check_set_init_1 ⟨_,e0,Z⟩ ?_)
 have lt:l<s.heap.objs.size:=by
  obtain⟨o,e,_⟩:=hl;exact CH e
 have hl1:(s.heap.push (vc w)).IsList l items:=hl.push _;have sz:(s.heap.push (vc w)).objs.size=s.heap.objs.size+1:=DJ _ _;obtain⟨⟨cl,di,da,sl⟩,og,oc,nl,od⟩:=id hl1;dsimp only at oc od;cases oc;cases od;have q1:=F.sub_list_set;have q2:=F.sub_list_frozenset;have q3:(iX "list" == iX "dict")=false:=rfl;unfold Builtin.«set.__init__»;unfold noKeywords;unfold Builtin.Frozenset.updateFrom;generalize z:KJ=it
 wp_walk
 subst z;refine sr hl1 (aa (Fq ?_));have nI:l≠(s.heap.push (vc w)).objs.size:=by rw[sz];exact CM (Eo lt)
 refine Of (knd:=knd) (b:=!jt w) (IL (by simp[hh]) _ l nI items) s.heap.objs.size ?_ hkf (λi=>ks.getD i default) (λi v e=>?_) hb _ 0 _ #[] rfl (CP _)
  ⟨⟨_,dj _ Z,Z,Z⟩,hl1.push _⟩ (Pn (CN _ e0)) (px _) λh tk es keep A1 K1=>?_
 ·rw[sz];intro m;rcases CF.mp m with m |m
  ·exact CM (eL _) m
  ·exact DU lt (du.mp m)
 ·obtain⟨k,k1,k2⟩:=hv i v e;have:ks.getD i default=k:=by rw[dD,k1];rfl
  exact this ▸ k2
 ·have ek:(aQ items.size).map (λi=>ks.getD i default)=ks:=by
   apply Dj;intro i;rw[CI]
   by_cases c:i<items.size
   ·rw[Ef c,DK,dD,CC (hn ▸ c)];rfl
   ·rw[dO (by simpa using c),dO (by lia)];rfl
  rw[ek]at K1;refine aq (aq ⟨Z,h,tk,Z,⟨es,A1,K1⟩,λc o c1 c2=>?_⟩);refine keep c o ?_ (CM c1) (CN _ (CN _ c2));rw[sz];intro m;exact CM (Eo c1) (du.mp m)
end
section
variable {K:Type}[DecidableEq K][BEq K][LawfulBEq K][Inhabited K]{knd:KeyKind prog w K}
set_option maxHeartbeats 3200000 in
theorem pW {l:aj}(hh:A.handled=none)(hl:s.heap.IsList l items){kf:ae->K}(hkf:∀k v,knd.is k v=true->kf v=k){ks:List K}
  (hv:∀(i:Nat) (v:ae),items[i]?=some v->∃k,ks[i]?=some k/\knd.is k v=true/\v.scannable=true) (hn:ks.length=items.size) (hb:items.size+1<F8) {Q:ae->av->Prop}
  (q:∀h tk,Br knd kf ks s.heap h->Q (.ref s.heap.objs.size) {s with heap:=h,toks:=tk}):wpAny (az prog w) A (call (.type "set") [.ref l]) Q E s:=by
 obtain⟨_,_,m⟩:=F.called_set.mro;have md:=F.called_set.made;have sb:=F.called_set.sub;have nt:=F.called_set.notType;have cc:=F.called_set.canCreate;have tc:=F.typeCall_set_1 (.ref l);refine Ht (K8 (show wpAny _ _ (callAny (.type "set") _) _ _ _ from ?_));refine aq ⟨FC _ (by decide+kernel),iq F.entry_type_call ?_⟩;rw[Around.under_plain (weight_type_call_type "set" _ _) rfl]
 repeat' (first |assumption |wp_step)
 refine sZ (L3 (.ref l) (E:=E) (Q:=λv t=>v=.ref s.heap.objs.size/\t = {s with heap:=s.heap.push (vc w)}) ⟨Z,Z⟩) λr t hr=>?_
 match r,hr with
 |.error e,hr=>exact hr
 |.ok (.ret v),hr=>
  obtain⟨e1,e2⟩:=hr;subst e1 e2;have e0:(s.heap.push (vc w)).get? s.heap.objs.size=some (vc w):=dj _ rfl;have ty:Shared.TypeIs {s with heap:=s.heap.push (vc w)} (.ref s.heap.objs.size) "set":=⟨_,e0,Z⟩;have i1:=F.called_set.init.lookup;have i2:=F.called_set.init.bind (.ref s.heap.objs.size)
  repeat' (first |assumption |wp_step)
  refine sZ (pO (knd:=knd) (E:=E) (by simp[hh]) hl hkf hv hn hb) λr2 t2 hr2=>?_
  match r2,hr2 with
  |.error e,hr2=>exact hr2
  |.ok (.ret v2),hr2=>
   obtain⟨f1,h,tk,f2,L⟩:=hr2;subst f1 f2
   repeat' (first |assumption |wp_step)
   exact q h tk L
end
end ST
namespace L2
open PySem PySem.Spec PyProof.Rows
def UI:ae->af
 |.str z _=>z
 |_=>default
section
variable {a:aK}{pos:iS}
end
open PySem.W
section
theorem zF.adoptO {o:HO}(I:zF X N' σ H s)(f:yj X N' H a)(new:yk X.prog X.w (upd H a o) s.heap a o):zF X N' σ (upd H a o) s:=by
 have ne:∀b o,H b=some o->b≠a:=λb o q=>zo q f.1;refine⟨I.ok,I.os,I.bare,⟨I.base.keep,I.base.slot,λb o q n hx=>?_,I.base.there,λb ys q=>?_,λb o u q=>?_,λb ps q=>?_⟩,I.loc,I.cell,?_,λx c q=>?_,λp hp=>?_,λb o q=>?_,I.len⟩
 ·have nb:b≠a:=λz=>by
   subst z;rcases f.2.2.2.1 with z |z
   ·exact hx z
   ·rw[z]at q;cases q
  rw[zx nb];exact I.base.free b o q n hx
 ·have z:=I.base.tups b ys q;rw[zx (ne _ _ z)];exact z
 ·have z:=I.base.frzs b o u q;rw[zx (ne _ _ z)];exact z
 ·obtain⟨m,z⟩:=I.base.tbls b ps q;exact⟨m,by rw[zx (ne _ _ z)];exact z⟩
 ·rw[zx (iT f.2.1)];exact I.free
 ·rw[zx (f.2.2.2.2.1 x c q)];exact I.freeC x c q
 ·obtain⟨p1,p2,p3,p4,p5⟩:=I.pin p hp;exact⟨p1,by rw[zx (f.2.2.2.2.2 p hp)];exact p2,p3,p4,p5⟩
 ·by_cases nb:b=a
  ·subst nb;rw[zt]at q;cases q;exact new
  ·rw[zx nb]at q;refine(I.hok b o q).stay (λc u _ z=>z) (λc z=>?_) λc ys z=>?_
   ·rw[zx (ne _ _ z)];exact z
   ·rw[zx (ne _ _ z)];exact z
theorem gA {prs:List (aj×List V)}(nd:(prs.map (·.1)).Nodup)(I:zF X N' σ H s)(hf:∀p∈prs,yj X N' H p.1)(ht:∀p∈prs,p.2.length<=ar/\∃us:List ae,zZ p.2 us/\IsTup s.heap p.1 us.toArray):
  ∃H',zF X N' σ H' s/\zj H H'/\(∀b,¬b∈prs.map (·.1)->H' b=H b)/\∀p∈prs,H' p.1=some (.tup p.2):=by
 induction prs generalizing H with
 |nil=>exact⟨H,I,zj.refl _,λ_ _=>rfl,λp hp=>nomatch hp⟩
 |cons p r ih=>
  have nd:(p.1::r.map (·.1)).Nodup:=nd;obtain⟨n1,n2⟩:=Ds.mp nd;obtain⟨hz,us,rv,tu⟩:=ht p CG;have fp:=hf p CG;have I2:=I.adoptO (o:=.tup p.2) fp ⟨hz,us,rv,tu⟩
  obtain⟨H',J,S,keep,tups⟩:=ih n2 I2 (λq hq=>by
   have f:=hf q (CK _ hq);refine⟨?_,f.2⟩;rw[zx λe=>n1 (CB.mpr ⟨q,hq,e⟩)];exact f.1) λq hq=>ht q (CK _ hq)
  refine⟨H',J,(zj.upd fp.1).trans S,λb hb=>?_,λq hq=>?_⟩
  ·have hb:¬b∈p.1::r.map (·.1):=hb;rw[keep b λc=>hb (CK _ c),zx (show b≠p.1 from λe=>hb (by rw[e];exact CG))]
  ·rcases CF.mp hq with rfl |hq
   ·exact S _ _ zt
   ·exact tups q hq
end
theorem OJ {F:α->β->Prop}{l:List α}{m:List β}(h:w_ F l m){b:β}(e:m[j]?=some b):∃a,l[j]?=some a/\F a b:=by
 induction h generalizing j with
 |nil=>cases e
 |cons r _ ih=>
  cases j with
  |zero=>
   cases e;exact⟨_,Z,r⟩
  |succ j=>exact ih e
theorem pV (as:List aj):zZ (as.map V.ref) (as.map aG):=by
 induction as with
 |nil=>exact .nil
 |cons a r ih=>exact .cons rfl ih
theorem MI {k:jB}(h:(qM P w).is k v=true):qr (kV k) v:=by
 rcases yd h with⟨i,t,rfl,rfl⟩ |⟨x,t,rfl,rfl⟩
 ·exact⟨t,Z⟩
 ·exact⟨t,Z⟩
def UB (v d:aj):HO:=.ext λh=>h.IsItemsView v d
section
theorem L6:Mt X "dict.items" (λx vs H Q=>∃d kvs,x=.ref d/\vs=[]/\H d=some (.dK kvs)/\∀v,H v=none->Q (.ref v) (upd H v (UB v d))):=by
 intro N' s σ H x vs v us Q I rx r h;obtain⟨d,kvs,rfl,rfl,e,q⟩:=h;cases r;cases rx;obtain⟨_,hd,vs,rel,dd⟩:=Pi I.hok e
 have new:yk X.prog X.w (upd H s.heap.objs.size (UB s.heap.objs.size d)) (s.heap.push {cls:=.type "dict_items",data:=.fields #[.ref d]}) s.heap.objs.size (UB s.heap.objs.size d):=by
  refine⟨⟨_,dj _ Z,Z,Z⟩,⟨_,dj _ Z⟩,λh1 h2 z k=>?_⟩;obtain⟨o,z1,z2⟩:=z;exact⟨o,k o z1,z2⟩
 exact B_ F_ dd.typeIs PySem.F.entry_dict_items (PySem.F.args_dict_items_1 _) (meets_dict_items (qM X.prog X.w) d hd) ⟨⟨vs,dd⟩,.ref _,_,I.laid (t':=s.toks) (λb u z=>CN _ z) (Cz _) new,Z,q _ (I.hok.fresh (Cz _))⟩
end
end L2
namespace Pg
open PySem L2
theorem Jw:("abcdefghijklmnopqrstuvwxyz":af).cps.toList=Ia 97 26:=by decide+kernel
def YN (m:Int):Sp:=λvs H Q _=>∃z,vs=[.int z]/\0<=z/\z<=m/\Q .non H
theorem wV:("abcdefghijklmnopqrstuvwxyz":af).length<=ar:=vT (m:=26) (by decide+kernel) rfl
end Pg
set_option maxHeartbeats 4000000
namespace K27
open PySem PySem.NumText L2 Pg
seal PE PA PT PW PS jg PG vW PI vf PO PK
section
variable {K:BFr}{mg:af->Option ae}
theorem Y7 (F:jn K "need_month" "need_month" (qH 44) f fd)(N1:Gi mg "LAST_MONTH" 119999)(C1:jw P w K mg base qQ 2 "is_number_within" ["thing","least","most"] (JL K)):qD P w K mg base qQ 3 f fd ["thing"] (YN 119999):=by
 obtain⟨tm,hm⟩:=N1;refine F.ok (N:=["thing"]) (by walk_at"s") (λvs H Q E h=>?_) (λV' A outer s H vs Q E hr h=>?_)
 ·obtain⟨v,rfl,_⟩:=h;rfl
 ·obtain⟨z,rfl,h0,h1,q⟩:=h;refine⟨_,zi (qm (yx (yg (zG C1 hr (by decide) zT (za (pv 0) (za ze (za (qe (v:=.int 119999) Z hm ⟨_,Z⟩) zd)))))) Vw zQ),?_⟩;refine⟨_,Z,_,_,_,Z,.inl ⟨z,Z,_,Z,?_⟩⟩;rw[i' (show(0:Int)<=z/\z<=119999 from ⟨h0,h1⟩)];exact qO q
end
end K27
namespace L2
open PySem PySem.Spec PyProof.Rows
abbrev TJ:=St->Hp->(List af->Hp->Prop)->Prop
def j8:List af->af
 |[]=>aC
 |z::r=>z++j8 r
def TM:TJ:=λ_ H Q=>Q [] H
def mV (te:TE)(t:TJ):TJ:=λσ H Q=>te σ H λv H1=>∃z,v=.str z/\z.length<=100000/\t σ H1 λzs H2=>Q (z::zs) H2
def PJ (X:Cx)(es:List aK)(t:TJ):Prop:=∀(N':List (aj×iN)) (s:av) (σ:St) (H:Hp) (out:af) (Q:VK),zF X N' σ H s->out.length+100000*es.length<=ar->(t σ H λzs H'=>Q (.str (out++j8 zs)) H') ->
 wpAny (az X.prog X.w) X.A (W_ out (evalEach es X.env)) (EP X N' σ Q) X.xe s
theorem Str.app_nil (a:af):a++aC=a:=by
 obtain⟨a⟩:=a;show IK (a ++ #[])=_
 simp
theorem Str.app_assoc (a b c:af):a++(b++c)=a++b++c:=by
 obtain⟨a⟩:=a;obtain⟨b⟩:=b;obtain⟨c⟩:=c;show IK (a++(b++c))=IK (a++b++c);rw[Kc]
theorem Str.app_length (a b:af):(a++b).length=a.length+b.length:=by
 show(a.cps++b.cps).size=_;rw[Array.size_append];rfl
section
variable {es:List aK}{t:TJ}{pos:iS}
theorem rZ:PJ X [] TM:=λN' s σ H out Q I hl h=>joinParts_nil (by
 have h':Q (.str (out++aC)) H:=h;rw[Str.app_nil]at h';exact⟨.str out,H,I.tok _,⟨_,Z⟩,h'⟩) (by omega)
theorem Tg {x j}(ht:PJ X es t):PJ X (.Constant (.str x) j pos::es) (mV (tC (.str x)) t):=by
 intro N' s σ H out Q I hl h;rw[CY]at hl;show wpAny _ _ (W_ out (eval (.Constant (.str x) j pos) X.env::evalEach es X.env)) _ _ _;obtain⟨z,e,hz,h⟩:=h;cases e;have hx:(out++x).length<=ar:=by rw[Str.app_length];lia
 refine Sy (sJ ⟨hx,?_⟩);refine ht N' _ σ H (out++x) Q (I.tok _) (by rw[Str.app_length];lia) ?_;have e2:∀zs,out++j8 (x::zs)=out++x++j8 zs:=λzs=>Str.app_assoc _ _ _
 simpa only [e2] using h
theorem XB (he:PE X e te)(ht:PJ X es t):PJ X (.FormattedValue e (-1) none pos::es) (mV te t):=by
 intro N' s σ H out Q I hl h;rw[CY]at hl;show wpAny _ _ (W_ out (eval (.FormattedValue e (-1) none pos) X.env::evalEach es X.env)) _ _ _;refine Sy (FormattedValue_plain (qC (he N' s σ H _ I h) λv s1 hM=>?_));obtain⟨x,H1,I1,r1,z,e1,hz,q⟩:=hM;subst e1;obtain⟨tk,rfl⟩:=r1;have hx:(out++z).length<=ar:=by rw[Str.app_length];lia
 refine formatField_str (λt' k=>⟨hx,?_⟩) (by lia);refine ht N' _ σ H1 (out++z) Q (I1.tok _) (by rw[Str.app_length];lia) ?_;have e2:∀zs,out++j8 (z::zs)=out++z++j8 zs:=λzs=>Str.app_assoc _ _ _
 simpa only [e2] using q
def bV (t:TJ):TE:=λσ H Q=>t σ H λzs H'=>Q (.str (j8 zs)) H'
theorem NM {e1 e2:aK}(h:PJ X (e1::e2::es) t)(hl:AD (e1::e2::es).length 100=true:=by rfl):PE X (.JoinedStr (e1::e2::es) pos) (bV t):=by
 intro N' s σ H Q I hq;refine JoinedStr_many ?_;have hl':=eT hl;refine h N' s σ H aC Q I ?_ ?_
 ·have:(aC).length=0:=rfl;rw[this,ah];lia
 ·have e0:∀zs,aC++j8 zs=j8 zs:=λzs=>by
   obtain⟨c⟩:=j8 zs;show IK (#[]++c)=_
   simp
  have hq':t σ H λzs H'=>Q (.str (j8 zs)) H':=hq
  simpa only [e0] using hq'
end
end L2
namespace Pg
open PySem L2
theorem UU {k:Nat}{a:List Nat}(h1:1<=l.length)(h2:l.length<=k)(ha:a=aw (k-1) 48):(a++l).drop ((a++l).length-k)=qK k l:=by
 subst ha;unfold qK;rw[CA,Dh,List.drop_append_of_le_length (by rw[Dh];lia),List.drop_replicate]
 congr 2
 lia
theorem v9 (h:10<=n):dg n=dg (n/10)++[48+n%10]:=by
 unfold dg;rw[Nat.toDigits_of_base_le (by decide) h,CJ,List.map_singleton]
 congr 2
 have:n%10<10:=eE _ (by decide);generalize n%10=d at this
 match d,this with
 |0,_=>rfl
 |1,_=>rfl
 |2,_=>rfl
 |3,_=>rfl
 |4,_=>rfl
 |5,_=>rfl
 |6,_=>rfl
 |7,_=>rfl
 |8,_=>rfl
 |9,_=>rfl
 |d+10,h=>lia
theorem w9 (h:n<10):dg n=[48+n]:=by
 match n,h with
 |0,_=>rfl
 |1,_=>rfl
 |2,_=>rfl
 |3,_=>rfl
 |4,_=>rfl
 |5,_=>rfl
 |6,_=>rfl
 |7,_=>rfl
 |8,_=>rfl
 |9,_=>rfl
 |d+10,h=>lia
theorem Zm (h:n<100):qK 2 (dg n)=[48+n/10,48+n%10]:=by
 unfold qK
 by_cases h1:n<10
 ·rw[w9 h1,KU h1,KS h1];rfl
 ·rw[v9 (by lia),w9 (by lia)];rfl
theorem VS (n:Nat):qK 3 (dg n)=dg (n/100)++qK 2 (dg (n%100)):=by
 rw[Zm (eE _ (by decide))]
 by_cases h1:n<100
 ·rw[KU h1,KS h1,<- Zm h1,w9 (n:=0) (by decide)];have h2:=qj (k:=2) (n:=n) (by decide) h1;have h3:=yv n;unfold qK;have e:3-(dg n).length=1+(2-(dg n).length):=by omega
  rw[e,<- fK,dc];rfl
 ·have e1:n%100/10=n/10%10:=by omega
  have e2:n%100%10=n%10:=by omega
  have e3:n/10/10=n/100:=by omega
  rw[v9 (n:=n) (by omega),v9 (n:=n/10) (by omega),e1,e2,e3];have h3:=yv (n/100);unfold qK;rw[show 3-(dg (n/100)++[48+n/10%10]++[48+n%10]).length=0 by rw[CA,CA,dN,dN];omega,dc];rfl
def yB (a:Int):Int:=if a<0 then -a else a
theorem ZO (a:Int):0<=yB a:=by unfold yB;split<;>lia
def uo (a:Int):af:=if a<0 then "-" else ""
def qW (a:Int):af:=j8 [uo a,yI (yB a/100),".",sj (yI (yB a%100)) 2]
theorem Wj:(aC).cps.toList=[]:=rfl
theorem vI (a:Int):(qW a).cps.toList=(uo a).cps.toList++(dg ((yB a).toNat/100)++([46]++qK 2 (dg ((yB a).toNat%100)))):=by
 obtain⟨n,hn⟩:=dZ (ZO a);have e1:yB a/100=((n/100:Nat):Int):=by rw[hn];rfl
 have e2:yB a%100=((n%100:Nat):Int):=by rw[hn];rfl
 unfold qW j8 j8 j8 j8 j8;rw[zR,zR,zR,zR,e1,e2,yy,Wj,dy,hn,dJ];have:=uG (n:=n%100) (k:=2);rw[show(sj (yI ((n%100:Nat):Int)) 2).cps.toList=qK 2 (dg (n%100)) from this,show((".":af)).cps.toList=[46] by decide+kernel]
theorem Wb (a:Int):(uo a).length<=1:=by
 unfold uo;split
 ·rw[show("-":af).length=1 by decide+kernel];exact Cz _
 ·rw[show("":af).length=0 by decide+kernel];exact CP _
theorem UK {a:Int}(h:yB a<10 ^ 40):(qW a).length<=44:=by
 rw[zq,vI];have l1:=Wb a;rw[zq]at l1;have l2:(dg ((yB a).toNat/100)).length<=38:=qj (by decide) (by have:=ZO a;lia);have l3:(qK 2 (dg ((yB a).toNat%100))).length=2:=ji (qj (by decide) (eE _ (by decide)));rw[CA,CA,CA,dN,l3];lia
theorem oO {k:Nat}(hk:0<k)(h:k<=z.cps.toList.length:=by omega):(ay z none (some (-(k:Nat)))).cps.toList=z.cps.toList.take (z.cps.toList.length-k):=by
 rw[qk];unfold we
 have e:HT.vQ z.cps.toList.length z.cps.toList.length (some (-(k:Nat):Int))=z.cps.toList.length-k:=by
  unfold HT.vQ;simp only;rw[L' (Int.neg_neg_of_pos (Int.natCast_pos.mpr hk)),Int.add_comm,<- Int.sub_eq_add_neg,Int.toNat_sub]
 rw[e];rfl
theorem Ls {a:Int}(h:z.cps.toList=qK 3 (dg (yB a).toNat)):qE "-" (if decide (a<0)=true then 1 else 0)++ay z none (some (-2)) ++ "." ++ ay z (some (-2)) none=qW a:=by
 refine jd ?_
 have hl:3<=z.cps.toList.length:=by
  rw[h,VS,CA,Zm (eE _ (by decide))];have:=yv ((yB a).toNat/100);show 3<=_+2;lia
 have e1:(ay z (some (-2)) none).cps.toList=qK 2 (dg ((yB a).toNat%100)):=by
  have:=vG (z:=z) (k:=2) (by decide) (by lia);refine this.trans ?_;have e:(qK 2 (dg ((yB a).toNat%100))).length=2:=by rw[Zm (eE _ (by decide))];rfl
  rw[h,VS,CA,e,Ey,fL]
 have e2:(ay z none (some (-2))).cps.toList=dg ((yB a).toNat/100):=by
  have e:(qK 2 (dg ((yB a).toNat%100))).length=2:=by rw[Zm (eE _ (by decide))];rfl
  refine(oO (z:=z) (k:=2) (by decide)).trans ?_;rw[h,VS,CA,e,Ey,fM]
 have e3:(qE "-" (if decide (a<0)=true then 1 else 0)).cps.toList=(uo a).cps.toList:=by
  unfold qE uo
  by_cases c:a<0
  ·rw[L' c,L' (i' c)];decide+kernel
  ·rw[K' c,K' (λq=>c (B' q))];decide+kernel
 rw[zR,zR,zR,e1,e2,e3,vI,show((".":af)).cps.toList=[46] by decide+kernel,dc,dc]
theorem w5 (z:af)(k:Nat):(iL z (k:Nat)).cps.toList=aw (k-z.cps.toList.length) 32++z.cps.toList:=by
 have hl:=zq z;unfold iL;split
 ·rename_i h;rw[show k-z.cps.toList.length=0 by lia];rfl
 ·unfold Ap;rw[dJ,hl]
  simp
theorem wI (z:af)(k:Nat):(u_ z (k:Nat)).cps.toList=z.cps.toList++aw (k-z.cps.toList.length) 32:=by
 have hl:=zq z;unfold u_;split
 ·rename_i h;rw[show k-z.cps.toList.length=0 by lia]
  simp
 ·unfold Ap;rw[dJ,hl]
  simp
theorem YR (n:Nat):(qE " " (n:Nat)).cps.toList=aw n 32:=by
 unfold qE;rw[dJ];show(aw n [32]).flatten=_
 induction n with
 |zero=>rfl
 |succ n ih=>
  rw[d7,dQ,ih];rfl
def js (l:List Nat):List Nat:=l.take (l.length-(l.reverse.takeWhile λc=>decide (c=32)).length)
theorem vp (z:af):(Ah z " ").cps.toList=js z.cps.toList:=by
 have hl:=zq z
 have hg:(λc=>((" ":af).cps.contains c))=λc:Nat=>decide (c=32):=by
  funext c
  show(#[32]:Array Nat).contains c=_
  by_cases e:c=32
  ·subst e
   simp
  ·rw[j' e]
   simp[e]
 unfold Ah Txt.stripBy;have hg':(" ":af).cps.contains=λc:Nat=>decide (c=32):=hg;rw[hg'];unfold stripSame stripped stripLo stripHi js Builtin.Str.strSub;simp only[d8,if_false,if_true,Dv,BEq.rfl,dR,hl];split
 ·rename_i h;have h:=eq_of_beq h;rw[h,dM]
 ·simp
theorem gZ (l:List Nat):js (l++[32])=js l:=by
 unfold js;have e:(l++[32]).reverse=32::l.reverse:=by rw[Eb];rfl
 have e2:(l++[32]).length=l.length+1:=by rw[CA];rfl
 rw[e,List.takeWhile_cons_of_pos (by decide),e2,CY,fN,E8 (Nat.sub_le _ _)]
theorem xJ (h:l.getLast?≠some 32):js l=l:=by
 unfold js
 have e:l.reverse.takeWhile (λc=>decide (c=32))=[]:=by
  rcases DN l with rfl |⟨r,c,rfl⟩
  ·rfl
  ·rw[DC,Eb];refine List.takeWhile_cons_of_neg λq=>h ?_;rw[DC,eQ,Ez,B' q];rfl
 rw[e];exact dM
theorem Zp (sep z:af):aF sep [z]=z:=rfl
theorem km (sep z:af)(h:zs≠[]):aF sep (zs++[z])=aF sep zs++sep++z:=by
 cases zs with
 |nil=>exact M' rfl h
 |cons a r=>
  unfold aF Builtin.Str.glued;show IK ((r++[z]).foldl _ _)=IK (_++_++_);rw[ej];rfl
theorem bB {y:Int}(h0:0<=y)(h1:y<=9999):ay (("000":af)++yI y) (some (-4)) none=Vk y:=by
 obtain⟨n,rfl⟩:=dZ h0
 have e:(("000":af)++yI (n:Nat)).cps.toList=aw 3 48++dg n:=by
  rw[zR,yy,show("000":af).cps.toList=aw 3 48 by decide+kernel]
 have l1:=yv n;have l2:(dg n).length<=4:=qj (by decide) (by simpa using BJ h1);refine jd ?_;have:=vG (z:=("000":af)++yI (n:Nat)) (k:=4) (by decide) (by rw[e,CA,Dh];exact eX l1 _);rw[e]at this;refine this.trans ?_;rw[UU (k:=4) l1 l2 Z,w6 h0,dJ]
theorem bG {y:Int}(h0:0<=y)(h1:y<=99):ay (("0":af)++yI y) (some (-2)) none=Zi y:=by
 obtain⟨n,rfl⟩:=dZ h0
 have e:(("0":af)++yI (n:Nat)).cps.toList=aw 1 48++dg n:=by
  rw[zR,yy,show("0":af).cps.toList=aw 1 48 by decide+kernel]
 have l1:=yv n;have l2:(dg n).length<=2:=qj (by decide) (by simpa using BE h1);refine jd ?_;have:=vG (z:=("0":af)++yI (n:Nat)) (k:=2) (by decide) (by rw[e,CA,Dh];exact eX l1 _);rw[e]at this;refine this.trans ?_;rw[UU (k:=2) l1 l2 Z,uX h0,dJ]
theorem Wp {z:Int}{k:Nat}(h0:0<=z)(hk:1<=k)(h1:z.toNat<10 ^ k):(yI z).length<=k:=by
 obtain⟨n,rfl⟩:=dZ h0;rw[zq,yy];exact qj hk (by simpa using h1)
end Pg
namespace DL
open PySem PySem.Spec PyProof.Rows
section
variable {K:Type}[DecidableEq K]{knd:KeyKind prog w K}
end
end DL
namespace L2
open PySem PySem.Spec PyProof.Rows
section
end
section
theorem xH (p:af)(l:List af)(h:risingS p l=true):(p::l).Pairwise (λa b=>¬b.cps.toList<a.cps.toList):=by
 induction l generalizing p with
 |nil=>exact Et _ _
 |cons x r ih=>
  unfold risingS at h;rw[CW,Dg,ltCps_eq]at h;have h1:=of_decide_eq_false h.1;have h2:=ih x h.2;refine Dx.mpr ⟨λy hy=>?_,h2⟩;rcases CF.mp hy with rfl |hy
  ·exact h1
  ·have h3:=(Dx.mp h2).1 y hy;exactλc=>h1 (Iz h3 c)
theorem QM {l:List af}(h:sortedS l=true):l.Pairwise (λa b=>¬b.cps.toList<a.cps.toList):=by
 cases l with
 |nil=>exact iH
 |cons x r=>exact xH x r h
theorem Mf {ss:List af}(r:zZ (ss.map V.str) its):StrsAre its ss:=by
 induction ss generalizing its with
 |nil=>cases r;exact .nil
 |cons x l ih=>
  cases r with
  |cons a b=>
   obtain⟨t,rfl⟩:=a;exact .cons x t (ih b)
theorem xf {ss:List af}(r:StrsAre its ss):zZ (ss.map V.str) its:=by
 induction r with
 |nil=>exact .nil
 |cons y t _ ih=>exact .cons ⟨t,Z⟩ ih
theorem Jh:jL X (.builtin "sorted") (λxs H Q=>∃(a:aj) (ss:List af),xs=[.ref a]/\zL X.K H a (ss.map V.str)/\ss.length<64 /\
  ∀ss':List af,ss'.Perm ss->ss'.Pairwise (λa b=>¬b.cps.toList<a.cps.toList)->G4 H (.lst (ss'.map V.str)) Q):=by
 intro N' s σ H xs us Q I r h;obtain⟨a,ss,rfl,ha,h64,q⟩:=h;obtain⟨u,rfl,ru⟩:=vB r;cases ru;obtain⟨its,rv,pl,hz⟩:=I.list ha;have il:=rv.length;rw[Cw]at il;refine sorted_strs pl.isList (Mf rv) (by lia) λout ss' S pm so=>?_;obtain⟨e,he⟩:=sortedAll_at s.heap its out;have J:=I.kept (t':=s.toks) (h':=sortedAll s.heap its out) λb o z=>sortedAll_old z;have hn:H (s.heap.objs.size+1)=none:=I.hok.fresh (Do _);refine⟨.ref _,_,J.adopt (us:=out.toList) (I.fpOk (Do _) hn) (by rw[fI];exact he) (xf S) ?_,Z,(q ss' pm (QM so)).at hn⟩;rw[Cw,pm.length_eq,ah];lia
end
end L2
variable {nms:List af}
namespace Pg
open PySem L2
section
variable {S S':List aj}
end
structure bN where
 L:aj
 dx:aj
 t:aj
 m:aj
 o:aj
 pd:aj
 ml:aj
 hl:aj
 tl:aj
 nl:aj
 L2:aj
 dx2:aj
 t2:aj
 m2:aj
 nms:List af
def bN.us (A:bN):List aj:=[A.hl,A.tl,A.ml,A.pd,A.o,A.m2,A.t2,A.L2,A.m,A.t,A.L,A.nl]
def bN.S (A:bN):List aj:=[A.L,A.t,A.m,A.o,A.pd,A.ml,A.hl,A.tl]
section
variable {S:List aj}{A:bN}{b9 told':List (af×Int)}{n':Nat}
end
theorem pK {ps:List (af×Int)}(h1:qs.Perm prs)(h2:ps.Perm prs)(nd:(prs.map (·.1)).Nodup)(s1:qs.Pairwise (λa b=>¬b.1.cps.toList<a.1.cps.toList))(s2:ps.Pairwise (λa b=>¬b.1.cps.toList<a.1.cps.toList)):qs=ps:=by
 refine List.Perm.eq_of_pairwise (λa b ha hb e1 e2=>?_) s1 s2 (h1.trans h2.symm);have e:a.1.cps.toList=b.1.cps.toList:=KW e1 e2
 have e':a.1=b.1:=by
  cases h:a.1;cases h':b.1;rw[h,h']at e;exact G' IK (El.mp e)
 have x:=uF nd (h1.mem_iff.mp ha);have y:=uF nd (h2.mem_iff.mp hb);rw[e']at x;rw[x]at y;exact Prod.ext e' (ai y)
end Pg
variable {tpos:iS}
namespace L2
open PySem PySem.Spec PyProof.Rows
section
theorem zF.turnedS (I:zF X N' σ H s)(k:∀b o,¬b∈fp->s.heap.get? b=some o->h'.get? b=some o)(hf:∀b∈fp,yj X N' H b):zF X N' σ H {s with heap:=h',toks:=t'}:=by
 have nit:∀b u,H b=some u->¬b∈fp:=λb u e z=>by rw[(hf b z).1]at e;cases e
 refine I.step (g':=s.gens) (d':=s.drawn) (ch:=fp) (λb hb=>?_) (λb o _ _ hc e _=>k b o hc e) (λb o _ _ hc e _=>⟨o.slots,k b o hc e⟩) (λ_ _ _ _ n=>n)
  (λb o hc e=>⟨o,k b o hc e⟩) (λ_ _ e=>e) (λ_ _ _ e=>e) (λb ps e=>⟨#[],by rw[e];simp⟩) (λm hm=>?_) (λb u e=>?_) I.bare
 ·obtain⟨_,h2,_,h4,h5,h6⟩:=hf b hb;exact⟨h4,h2,h5,h6⟩
 ·obtain⟨o,es,ep,ho,r⟩:=hm;exact⟨o,es,ep,k _ o (λz=>(hf _ z).2.1 Z) ho,r⟩
 ·refine(I.hok b u e).stay (λc v hc q=>k c v ?_ q) (λ_ q=>q) λ_ _ q=>q;rcases hc with z |z
  ·rw[z];exact nit b u e
  ·exact nit c _ z
theorem zF.pair {v w:V}{x y:ae}(I:zF X N' σ H s)(J:zF X N' σ H {s with heap:=h',toks:=t'})(hv:qr v x)(hw:qr w y)(hp:IsPair h' s.heap.objs.size x y):
  zF X N' σ (upd H s.heap.objs.size (.tup [v,w])) {s with heap:=h',toks:=t'} :=
 J.adoptO (o:=.tup [v,w]) (I.fpOk (Cz _) (I.hok.fresh (Cz _))) ⟨z8 Z,[x,y],.cons hv (.cons hw .nil),_,hp,Z,_,Z⟩
end
def Bo (K:BFr)(a b:aj):It :=
 ⟨λi H=>∃xs ys x y,zL K H a xs/\zL K H b ys/\xs[i]?=some x/\ys[i]?=some y,
  λi H z H'=>∃p x y,z=.ref p/\H p=none/\H'=upd H p (.tup [x,y])/\∀xs ys,zL K H a xs->zL K H b ys->xs[i]?=some x/\ys[i]?=some y,
  λi H=>∃xs ys,zL K H a xs/\zL K H b ys/\(xs.length<=i∨ys.length<=i)⟩
def Tw (K:BFr)(a:aj):It :=
 ⟨λi H=>∃xs x,zL K H a xs/\xs[i]?=some x,
  λi H z H'=>∃p x,z=.ref p/\H p=none/\H'=upd H p (.tup [.int (i:Nat),x])/\∀xs,zL K H a xs->xs[i]?=some x,
  λi H=>∃xs,zL K H a xs/\xs.length<=i⟩
theorem LL {K:BFr}{es:List aK}{pos:iS}{z TI TO i1 i2:aj}(D:ZipApart z TI TO i1 i2 a b):
  Uj P w K (.Tuple es n pos) (Bo K a b) [z,TI,TO,i1,i2] z (λi h=>IsZip h z TI TO .none/\IsPair h TI (.ref i1) (.ref i2)/\(∃u v,IsPair h TO u v)/\h.IsListIter i1 a i/\h.IsListIter i2 b i) where
 mem:=by simp
 obj:=λi h st c hc=>by
  obtain⟨h1,h2,⟨u,v,h3⟩,h4,h5⟩:=st;simp only[CF,dw,or_false]at hc;rcases hc with rfl |rfl |rfl |rfl |rfl
  ·exact⟨_,h1,λv q=>nomatch q⟩
  ·exact⟨_,h2,λv q=>nomatch q⟩
  ·exact⟨_,h3,λv q=>nomatch q⟩
  ·obtain⟨o,e,c,d⟩:=h4;exact⟨o,e,λv q=>by rw[d]at q;cases q⟩
  ·obtain⟨o,e,c,d⟩:=h5;exact⟨o,e,λv q=>by rw[d]at q;cases q⟩
 keep:=λi h h' st k=>by
  obtain⟨h1,h2,⟨u,v,h3⟩,h4,h5⟩:=st;exact⟨k z (by simp) _ h1,k TI (by simp) _ h2,⟨u,v,k TO (by simp) _ h3⟩,h4.at λo e=>k i1 (by simp) o e,h5.at λo e=>k i2 (by simp) o e⟩
 item:=by
  intro X hP hw hK hc i N' s σ H E I hf st hg;subst hP hw hK;obtain⟨h1,h2,⟨u,v,h3⟩,h4,h5⟩:=st;obtain⟨xs,ys,x,y,q1,q2,hx,hy⟩:=hg;obtain⟨its,rv,p,hz⟩:=I.list q1;obtain⟨jts,rw',p',hz'⟩:=I.list q2;obtain⟨x',hx',rx⟩:=rv.get hx;obtain⟨y',hy',ry⟩:=rw'.get hy
  have lt:∀c∈[z,TI,TO,i1,i2],c<s.heap.objs.size:=λc hc=>by
   obtain⟨o4,e4,_⟩:=h4;obtain⟨o5,e5,_⟩:=h5;simp only[CF,dw,or_false]at hc;rcases hc with rfl |rfl |rfl |rfl |rfl
   ·exact CH h1
   ·exact CH h2
   ·exact CH h3
   ·exact CH e4
   ·exact CH e5
  refine wpAny_pyNext_zip_item D h1 h2 h3 h4 h5 p.isList p'.isList (x:=x') (y:=y') (by simpa using hx') (by simpa using hy') λh' k1 k2 k3 k4 k5 k6 k7=>?_;refine⟨_,Z,wpAny_letOwnedTupleGo_zip k1 λh2' m1 sb=>?_⟩;have sb:ik z h' h2':=sb
  have kk:∀c o,¬c∈[z,TI,TO,i1,i2]->s.heap.get? c=some o->h2'.get? c=some o:=λc o hc e=>by
   simp only[CF,dw,or_false,not_or]at hc;exact sb.extBut _ _ hc.1 (k7 c o hc.1 hc.2.2.1 hc.2.2.2.1 hc.2.2.2.2 e)
  have nz:s.heap.objs.size≠z:=DU (lt z (by simp));have J:zF X N' σ H {s with heap:=h2',toks:=s.toks}:=I.turnedS kk hf;refine⟨.ref s.heap.objs.size,_,I.pair J rx ry (sb.extBut _ _ nz k5),Z,⟨_,x,y,Z,I.hok.fresh (Cz _),Z,λxs' μ r1 r2=>?_⟩,⟨m1,?_,⟨_,_,sb.extBut _ _ D.TOz k2⟩,k3.extBut sb.extBut D.i1z,k4.extBut sb.extBut D.i2z⟩,λc hc=>?_⟩
  ·rw[I.list_inj r1 q1,I.list_inj r2 q2];exact⟨hx,hy⟩
  ·exact sb.extBut _ _ D.TIz (k7 _ _ D.TIz D.TITO D.TIi1 D.TIi2 h2)
  ·rw[zx (CM (lt c hc))];exact(hf c hc).1
 done:=by
  intro X hP hw hK hc i N' s σ H E I hf st hg;subst hP hw hK;obtain⟨h1,h2,⟨u,v,h3⟩,h4,h5⟩:=st;obtain⟨xs,ys,q1,q2,hl⟩:=hg;obtain⟨its,rv,p,hz⟩:=I.list q1;obtain⟨jts,rw',p',hz'⟩:=I.list q2;have l1:=rv.length;have l2:=rw'.length;refine wpAny_pyNext_zip_end (I.ok.hd hc) D h1 h2 h3 h4 h5 p.isList p'.isList ?_ λh' k=>⟨Z,I.turnedS (t':=s.toks) (λc o hc e=>?_) hf⟩
  ·rcases hl with hl |hl
   ·exact .inl (by simp;lia)
   ·exact .inr (by simp;lia)
  ·simp only[CF,dw,or_false,not_or]at hc;exact k c o hc.1 hc.2.2.1 hc.2.2.2.1 hc.2.2.2.2 e
 self:=λ_ _ _ _ _ st h=>KP st.1 h
theorem Oh {K:BFr}{es:List aK}{pos:iS}{e:aj}(ne:e≠it):
  Uj P w K (.Tuple es n pos) (Tw K a) [e,it] e (λi h=>(∃θ,IsEnum h e it (i:Nat) θ)/\h.IsListIter it a i) where
 mem:=by simp
 obj:=λi h st c hc=>by
  obtain⟨⟨_,h1⟩,h4⟩:=st;simp only[CF,dw,or_false]at hc;rcases hc with rfl |rfl
  ·exact⟨_,h1,λv q=>nomatch q⟩
  ·obtain⟨o,e,c,d⟩:=h4;exact⟨o,e,λv q=>by rw[d]at q;cases q⟩
 keep:=λi h h' st k=>by
  obtain⟨⟨u,h1⟩,h4⟩:=st;exact⟨⟨u,k e (by simp) _ h1⟩,h4.at λo z=>k it (by simp) o z⟩
 item:=by
  intro X hP hw hK hc i N' s σ H E I hf st hg;subst hP hw hK;obtain⟨⟨u,h1⟩,h4⟩:=st;obtain⟨xs,x,q1,hx⟩:=hg;obtain⟨its,rv,p,hz⟩:=I.list q1;obtain⟨x',hx',rx⟩:=rv.get hx
  have lt:∀c∈[e,it],c<s.heap.objs.size:=λc hc=>by
   obtain⟨o4,e4,_⟩:=h4;simp only[CF,dw,or_false]at hc;rcases hc with rfl |rfl
   ·exact CH h1
   ·exact CH e4
  refine wpAny_pyNext_enum_item h1 h4 p.isList (x:=x') (by simpa using hx') ne λh' k1 k2 k3 k4 k5=>?_;refine⟨_,Z,wpAny_letOwnedTupleGo_enum k1 λh2' m1 sb=>?_⟩;have sb:ik e h' h2':=sb
  have kk:∀c o,¬c∈[e,it]->s.heap.get? c=some o->h2'.get? c=some o:=λc o hc z=>by
   simp only[CF,dw,or_false,not_or]at hc;exact sb.extBut _ _ hc.1 (k5 c o hc.1 hc.2 z)
  have nz:s.heap.objs.size≠e:=DU (lt e (by simp));have J:zF X N' σ H {s with heap:=h2',toks:=s.toks+1}:=I.turnedS kk hf;refine⟨.ref s.heap.objs.size,_,I.pair J (v:=.int (i:Nat)) ⟨_,Z⟩ rx (sb.extBut _ _ nz k3),Z,⟨_,x,Z,I.hok.fresh (Cz _),Z,λxs' r1=>?_⟩,⟨⟨_,m1⟩,k2.extBut sb.extBut ne.symm⟩,λc hc=>?_⟩
  ·rw[I.list_inj r1 q1];exact hx
  ·rw[zx (CM (lt c hc))];exact(hf c hc).1
 done:=by
  intro X hP hw hK hc i N' s σ H E I hf st hg;subst hP hw hK;obtain⟨⟨u,h1⟩,h4⟩:=st;obtain⟨xs,q1,hl⟩:=hg;obtain⟨its,rv,p,hz⟩:=I.list q1;have l1:=rv.length;refine wpAny_pyNext_enum_end (I.ok.hd hc) h1 h4 p.isList (by simp;lia) λh' k=>⟨Z,I.turnedS (t':=s.toks) (λc o hc z=>?_) hf⟩;simp only[CF,dw,or_false,not_or]at hc;exact k c o hc.2 z
 self:=λ_ _ _ _ _ st h=>by
  obtain⟨⟨u,h1⟩,_⟩:=st;exact Km h1 h
def M7 (K:BFr)(ta:TA):TI:=λσ H R=>ta σ H λvs H1=>∃a b,vs=[.ref a,.ref b]/\(∃xs,zL K H1 a xs)/\(∃ys,zL K H1 b ys)/\R (Bo K a b) H1
def b6 (K:BFr)(ta:TA):TI:=λσ H R=>ta σ H λvs H1=>∃a,vs=[.ref a]/\(∃xs,zL K H1 a xs)/\R (Tw K a) H1
section
variable {es:List aK}
theorem YT {a b:aK}{p pos:iS}(hg:Gl X "zip")(hm:X.mg "zip" = none)(ha:PA X [a,b] ta)(hs:aE [a,b] X.env=[(false,eval a X.env),(false,eval b X.env)]:=by rfl)(hs2:aE [b] X.env=[(false,eval b X.env)]:=by rfl):
  PI X (.Tuple es n tpos) (.Call (.Name "zip" p) [a,b] [] pos) (M7 X.K ta):=by
 intro N' s σ H R I h;refine T_ (ud I hg hm boot_zip (hV (qC (ha pos N' s σ H _ I h) λus s1 hM=>?_) (by rw[hs,hs2]) (by rw[hs2];rfl)));obtain⟨vs,H1,I1,r1,q1⟩:=hM;obtain⟨l1,l2,e,⟨xs,h1⟩,⟨ys,h2⟩,q⟩:=q1;subst e
 cases r1 with
 |cons r rr=>
  cases rr with
  |cons r' rr=>
   cases rr;cases r
   cases r'
   obtain⟨its,rv,p,hz⟩:=I1.list h1;obtain⟨jts,rw',p',hz'⟩:=I1.list h2;have a1:l1<s1.heap.objs.size:=by obtain⟨_,e,_⟩:=p.isList;exact CH e
   have a2:l2<s1.heap.objs.size:=by obtain⟨_,e,_⟩:=p'.isList;exact CH e
   refine call_zip_2 p.isList p'.isList λh' k1 k2 k3 k4 k5 k6 k7=>?_;refine KP k1 ?_;refine⟨_,_,_,_,H1,Z,I1.kept (t':=s1.toks) k7,LL (zipApart_new a1 a2),⟨k1,k2,⟨_,_,k3⟩,k4,k5⟩,λc hc=>?_,q⟩
   have hc:s1.heap.objs.size<=c:=by
    simp only[CF,dw,or_false]at hc;rcases hc with rfl |rfl |rfl |rfl |rfl
    ·exact De _ _
    ·exact De _ _
    ·exact De _ _
    ·exact Cz _
    ·exact De _ _
   exact I1.fpOk hc (I1.hok.fresh hc)
theorem Gh {a:aK}{p pos:iS}(hg:Gl X "enumerate")(hm:X.mg "enumerate" = none)(ha:PA X [a] ta)(hs:aE [a] X.env=[(false,eval a X.env)]:=by rfl):
  PI X (.Tuple es n tpos) (.Call (.Name "enumerate" p) [a] [] pos) (b6 X.K ta):=by
 intro N' s σ H R I h;refine T_ (ud I hg hm boot_enumerate (hV (qC (ha pos N' s σ H _ I h) λus s1 hM=>?_) hs Z));obtain⟨vs,H1,I1,r1,q1⟩:=hM;obtain⟨l1,e,⟨xs,h1⟩,q⟩:=q1;subst e
 cases r1 with
 |cons r rr=>
  cases rr;cases r;obtain⟨its,rv,p,hz⟩:=I1.list h1;refine call_enumerate_list p.isList λh' k1 k2 k3 k4=>?_;refine Km k1 ?_;refine⟨_,_,_,_,H1,Z,I1.kept (t':=s1.toks) k4,Oh (Nat.succ_ne_self _),⟨⟨_,k1⟩,k2⟩,λc hc=>?_,q⟩
  have hc:s1.heap.objs.size<=c:=by
   simp only[CF,dw,or_false]at hc;rcases hc with rfl |rfl
   ·exact De _ _
   ·exact Cz _
  exact I1.fpOk hc (I1.hok.fresh hc)
end
theorem mq {K:BFr}{g:TG}{D:jY}(Pv:Nat->St->Hp->Prop)(h0:Pv 0 σ H)(hl:∀i σ H,i<=xs.length->Pv i σ H->zL K H a xs)(hs:∀i x p σ H,xs[i]?=some x->Pv i σ H->H p=none->g (.ref p) σ (upd H p (.tup [.int (i:Nat),x])) λσ2 H2=>tb {D with nx:=Pv (i+1),ct:=Pv (i+1),bk:=D.nx} σ2 H2)(hd:∀σ H,Pv xs.length σ H->D.nx σ H):
  ∃W:Nat->Nat->St->Hp->Prop,(∃m,W 0 m σ H)/\∀i m σ H,W i m σ H ->
   ((Tw K a).stop i H/\D.nx σ H)∨((Tw K a).go i H/\∃N:St->Hp->Prop,(∀σ' H',N σ' H'->∃m',m'<m/\W (i+1) m' σ' H')/\∀x H',(Tw K a).yld i H x H'->g x σ H' λσ2 H2=>tb {D with nx:=N,ct:=N,bk:=D.nx} σ2 H2):=by
 refine⟨λi m σ H=>m=xs.length-i/\i<=xs.length/\Pv i σ H,⟨xs.length,by simp,CP _,h0⟩,?_⟩;rintro i m σ H ⟨rfl,hi,p⟩;have q:=hl i σ H hi p
 by_cases γ:i<xs.length
 ·refine .inr ⟨⟨xs,xs[i],q,CC γ⟩,Pv (i+1),λσ' H' p'=>⟨xs.length-(i+1),by lia,Z,γ,p'⟩,λx H' y=>?_⟩;obtain⟨c,v,e1,e2,e3,y⟩:=y;subst e1 e3;exact hs i v c σ _ (y xs q) p e2
 ·have e:i=xs.length:=by lia
  subst e;exact .inl ⟨⟨xs,q,Cz _⟩,hd σ H p⟩
theorem W9 {K:BFr}(ha:zL K H a xs)(hb:zL K H b ys)(hD:H D=none)(hz:xs.length<ar)(hxy:xs.length=ys.length)(φ:V->V->V)(he:∀(i:Nat) x y,xs[i]?=some x->ys[i]?=some y->∀H' R,zj H H'->(∀H'',zj H' H''->R (φ x y) H'')->te ((σ.set 0 (some x)).set 1 (some y)) H' R)(hf:∀H',zj H H'->H' D=some (.lst (aH φ xs ys))->P' (aH φ xs ys) H'):
  yF (Bo K a b) D (uQ K 2 (qN (zO 0) (qN (zO 1) wj))) qA te P' σ (upd H D (.lst [])):=by
 refine⟨λi m zs σ' H'=>m=xs.length-i/\i<=xs.length/\(∀x y,(σ'.set 0 x).set 1 y=(σ.set 0 x).set 1 y)/\zj H H'/\H' D=some (.lst zs)/\zs=aH φ (xs.take i) (ys.take i),⟨xs.length,by simp,CP _,λ_ _=>rfl,zj.upd hD,zt,Z⟩,λi m zs σ H hM=>by obtain⟨_,_,_,_,h,_⟩:=hM;exact h,?_⟩;rintro i m zs σ' H' ⟨rfl,hi,hσ,s,hd,rfl⟩
 by_cases γ:i<xs.length
 ·have hx:=CC γ;have hy:=CC (show i<ys.length from hxy ▸ γ);have tx:xs.take (i+1)=xs.take i++[xs[i]]:=by rw[dS,hx];rfl
  have ty:ys.take (i+1)=ys.take i++[ys[i]]:=by rw[dS,hy];rfl
  refine .inr ⟨⟨xs,ys,_,_,s.seq ha,s.seq hb,hx,hy⟩,λzs' σ2 H2=>(∀x y,(σ2.set 0 x).set 1 y=(σ.set 0 x).set 1 y)/\zj H H2/\H2 D=some (.lst zs')/\zs'=aH φ (xs.take (i+1)) (ys.take (i+1)),λzs' σ2 H2 p=>⟨xs.length-(i+1),by lia,Z,γ,p⟩,λv H'' hy'=>?_⟩;obtain⟨c,x,y,e1,e2,e3,e4⟩:=hy';obtain⟨e5,e6⟩:=e4 xs ys (s.seq ha) (s.seq hb);subst e1 e3;rw[hx]at e5;rw[hy]at e6;cases e5;cases e6;refine⟨c,_,Z,yT.of zt,Z,_,_,Z,_,_,Z,Z,?_⟩;have s2:zj H' (upd H' c (.tup [xs[i],ys[i]])):=zj.upd e2;unfold qA;dsimp only;refine yh ?_;show te ((σ'.set 0 _).set 1 _) _ _;rw[hσ];refine he i _ _ hx hy _ _ (s.trans s2) λH3 s3=>⟨s3 _ _ (s2 _ _ hd),?_,?_,?_,zt,?_⟩
  ·rw[EA,CQ,CQ];lia
  ·intro x y;rcases σ with _ |⟨_,_ |⟨_,_⟩⟩<;>rfl
  ·intro b o z;rw[zx (zo z hD)];exact s3 _ _ (s2 _ _ (s _ _ z))
  ·rw[tx,ty,E9 (by rw[CQ,CQ];lia)];rfl
 ·have e:i=xs.length:=by lia
  subst e;refine .inl ⟨⟨xs,ys,s.seq ha,s.seq hb,.inl (Cz _)⟩,?_⟩;have e2:ys.take xs.length=ys:=by rw[hxy];exact dM
  rw[dM,e2]at hd ⊢;exact hf H' s hd
end L2
set_option maxHeartbeats 1000000
namespace L2
open PySem PySem.Spec PyProof.Rows PySem.W
theorem GH (Y':List (af×Int)):(Yq Y').length=Y'.length:=Cw _
def RF:List V->Hp->VK->Prop:=λxs H Q=>∃(v d:aj) (Y':List (af×Int)),xs=[.ref v]/\H v=some (UB v d)/\H d=some (.dK (Yq Y'))/\Y'.length<64/\(Y'.map (·.1)).Nodup /\
 ∀(qs:List (af×Int)) (l:aj) (ys:List V) (H':Hp),qs.Perm Y'->qs.Pairwise (λa b=>¬b.1.cps.toList<a.1.cps.toList)->zj H H'->H l=none->H' l=some (.lst ys)->z4 H' ys (qs.map cP)->Q (.ref l) H'
theorem gB (Z':X.calm=true):jL X (.builtin "sorted") RF:=by
 intro N' s σ H xs us Q I r h;obtain⟨v,d,Y',rfl,hv,hd,h64,nd,q⟩:=h;obtain⟨u,rfl,ru⟩:=vB r;cases ru;obtain⟨hz,hsm,vs,rel,dd⟩:=Pi I.hok hd;have view:s.heap.IsItemsView v d:=(I.hok v _ hv).1;obtain⟨ep,hat⟩:=dd.dictAt;have rl:Y'.length=vs.length:=by rw[<- GH];exact FV rel
 refine FG kind_sorted plain_sorted entry_sorted (args_sorted1 _) ?_;unfold Builtin.«sorted»;refine aa (m:=checkCount "sorted" 1 1 _) (aq (aa (kdx_collect (knd:=qM X.prog X.w) (I.ok.hd Z') view hat (by rw[<- rl,ah];lia) λh1 tk as hk hl hG=>aa (IC ?_ (by rw[Cw,ah];lia)))));have al:as.length=Y'.length:=by rw[hl,rl]
 have J:=I.kept (t':=tk) hk;have above:∀a∈as,s.heap.objs.size<=a:=λa ha=>eK (hG.above a ha);have free:∀a,s.heap.objs.size<=a->H a=none:=λa ha=>I.hok.fresh ha;have e1:(as.zip (Y'.map cP)).map (·.1)=as:=List.map_fst_zip (by rw[Cw,al];exact Cz _);have nda:as.Nodup:=hG.rise.imp λh=>CM h
 obtain⟨H1,J',S,keep,tups⟩:=gA (prs:=as.zip (Y'.map cP)) (by rw[e1];exact nda) J (λp hp=>I.fpOk (above _ (Dz hp).1) (free _ (above _ (Dz hp).1))) λp hp=>by
  obtain⟨j,hj⟩:=Dy.mp hp;obtain⟨j1,j2⟩:as[j]?=some p.1/\(Y'.map cP)[j]?=some p.2:=fH.mp hj;obtain⟨key,k,x,g1,g2,g3⟩:=hG.pairs j p.1 j1;obtain⟨pp,f1,f2,f3⟩:=OJ rel g1;unfold Yq at f1;rw[CI]at f1 j2;obtain⟨w,hw,f1⟩:=CS.mp f1;rw[hw]at j2;have j2:cP w=p.2:=ai j2;subst f1;rw[<- j2];refine⟨z8 Z,[key,x],.cons ?_ (.cons f3 .nil),_,g3,Z,_,Z⟩;have f2:(iy w.1:jB)=k:=f2;have g:=MI g2;rw[<- f2]at g;exact g
 have T:z4 H1 (as.map V.ref) (Y'.map cP):=by
  refine⟨by rw[Cw,Cw,al],λi c e=>?_⟩
  have il:i<as.length:=by
   rw[al,<- Cw (f:=cP)];exact(CV.mp e).1
  refine⟨as[i],by rw[CI,CC il];rfl,?_⟩;exact tups (as[i],c) (Dy.mpr ⟨i,fH.mpr ⟨CC il,e⟩⟩)
 have J2:=J'.kept (t':=tk) (h':=h1.push (l_ "list" (as.map aG).toArray 0)) λb o e=>CN _ e;have hn:H1 h1.objs.size=none:=J'.hok.fresh (Cz _);have fa:=J'.fpOk (Cz _) hn;refine aa (aY (iK Sz ⟨_,dj _ Z,Z⟩ K9 ?body (SJ _)))
 case body=>
  refine pH (X:=X) (N':=N') (σ:=σ) (H:=H1) (its:=as.map aG) (ts:=as.map V.ref) J2 (dj _ Z) fa (by rw[Cw];lia) (NF T nd) (pV as) λs' c out ov J3 hq=>⟨_,Z,aq ⟨_,Z,?_⟩⟩;have pm:=SS.gS (GS (λi=>(OH Y' i).1) (as.map V.ref).length) (aQ (as.map V.ref).length);obtain⟨pq,T2⟩:=gO T pm;have hl0:H h1.objs.size=none:=S.free hn;refine⟨.ref _,_,J3.adopt fa hq ov ?_,Z,q _ _ _ _ pq (Eg.mpr ((SS.N0 _ _).imp_of_mem λ{i j} hi hj hl c=>?_)) (S.trans (zj.upd hn)) hl0 zt (T2.same (zj.upd hn))⟩
  ·rw[Cw,pm.length_eq,d9,Cw,ah];lia
  ·have hj:=Dl.mp (pm.mem_iff.mp hj);have e:=Py (key:=λi=>((OH Y' i).1).cps.toList) (j:=i) hj;rw[i' c]at e;exact M' (B' e.symm) (ET.mpr hl)
end L2
namespace DT
open PySem PySem.Spec PyProof.Rows
theorem xA:Kg table "dict.update.loop" = some Builtin.«dict.update.loop»:=F0 (by kernel_rfl)
theorem Zl:plainId "dict.update.loop" = true:=by decide+kernel
theorem Nz:Hu (.type "tuple") "keys" = pure none:=by rw[Af,p_];kernel_rfl
section
theorem OI {xs:Array ae}{k:Nat}{Q:Option ae->av->Prop}(hx:s.heap.get? a=some {cls:=.type "tuple",dict:=none,data:=.seq xs k,slots:=#[]})(hA:A.handled=none)(h:∀h' tk,(∀b o,s.heap.get? b=some o->h'.get? b=some o)->Q none {s with heap:=h',toks:=tk}):wpAny (az prog w) A (Sq (.ref a) "keys") Q E s:=by
 obtain⟨hp,g,d,tk,os⟩:=s;have hT:∀tk',(⟨hp,g,d,tk',os⟩:av).TypeIs (.ref a) "tuple":=λ_=>⟨_,hx,Z⟩;have f1:=sub_AttributeError;have f3:=F.slot_tuple_getattribute.lookup;have f4:=F.slot_tuple_getattribute.bind (.ref a);have f5:=am_tuple_getattr_none;unfold Sq getAttrBy? getAttrBy
 repeat (any_goals (first |assumption |exact hT _ | ((with_reducible show wpAny _ _ (call (AS "tuple.__getattribute__") _ _) _ _ _);refine AM F.slot_tuple_getattribute (hT _) am_entry_tuple_getattribute (F.args_tuple_getattribute_2 _ _) (meets_getattribute_miss_tuple a xs k #[] "keys" _ Nz (by decide)) ⟨hx,hA,λh' tk' e hx'=>?_⟩) |wp_step))
 obtain⟨t',u',he⟩:=hx'.there;show wpAny _ _ (IJ _ _ _ _ _ _ _) _ _ _;unfold IJ
 repeat (any_goals (first |assumption |wp_step))
 exact h _ _ hx'.keeps
variable {K:Type}[DecidableEq K]{knd:KeyKind prog w K}
theorem Pk {l d:aj}{kvs:List (K×ae)}{h₀:ia}(hh:A.handled=none)(nI:l≠I)(dI:d≠I)(dl:d≠l)(hn:(kvs.map (·.1)).Nodup)(hl:kvs.length=items.size)(hz:kvs.length<=ar)(hi:∀(i:Nat) (p:K×ae),kvs[i]?=some p->∃a o key n,items[i]?=some (.ref a)/\a≠d/\a≠I/\h₀.get? a=some o/\o.cls=.type "tuple"/\o.data=.seq #[key,p.2] n/\knd.is p.1 key=true)
  (hR:∀h' tk,(∀b o,b≠d->b≠I->h₀.get? b=some o->h'.get? b=some o)->h'.DictOf knd d kvs->R (.ok (.ret .none)) {s with heap:=h',toks:=tk}) :
  ∀(m i:Nat) (h:ia) (tk:Nat) (j:Int),items.size-i=m->i<=items.size->h.IsTupleIter I l i/\h.IsTuple l items->(∀b o,b≠d->b≠I->h₀.get? b=some o->h.get? b=some o)->h.DictOf knd d (kvs.take i) ->
   codeAny (az prog w) A (.builtin "dict.update.loop" ⟨[.ref d,.ref I,iz j,.none],[]⟩) R {s with heap:=h,toks:=tk}:=by
 intro m
 induction m with
 |zero=>
  intro i h tk j hm hi st keep hD;obtain rfl:i=items.size:=by lia
  refine iq xA ?_;rw[ie Zl _];show wpAny _ A.in1 (A4 (.ref I) >>= _) _ _ _;refine aa ((Walks.tuple (A:=A.in1) (prog:=prog) (w:=w) hh I l nI items).done {s with heap:=h,toks:=tk} _ _ st λh' tk' γ6=>?_);show wpAny _ A.in1 (Builtin.Dict.addKeywords d [] >>= _) _ _ _;refine aa (aq (aq (hR h' tk' (λb o b1 b2 e=>γ6 b o (by simpa using b2) (keep b o b1 b2 e)) ?_)));rw[<- hl,dM]at hD;exact hD.at λo e=>γ6 d o (by simpa using dI) e
 |succ m ih=>
  intro i h tk j hm hile st keep hD;have lt:i<items.size:=by lia
  have lk:i<kvs.length:=by lia
  have hk:=CC lk;obtain⟨a,o,key,n,e1,ad,aI,e2,e3,e4,e5⟩:=hi i _ hk;refine iq xA ?_;rw[ie Zl _];show wpAny _ A.in1 (A4 (.ref I) >>= _) _ _ _;refine aa ((Walks.tuple (A:=A.in1) (prog:=prog) (w:=w) hh I l nI items).item i {s with heap:=h,toks:=tk} _ _ lt st λv h' tk' hP U' γ6=>?_);rw[e1]at hP;cases hP;have ha:h'.get? a=some o:=γ6 a o (by simpa using aI) (keep a o ad aI e2);have hD':h'.DictOf knd d (kvs.take i):=hD.at λo e=>γ6 d o (by simpa using dI) e
  have nk:¬kvs[i].1∈(kvs.take i).map (·.1):=λc=>by
   rw[Eh]at c;obtain⟨q,hq⟩:=Dy.mp c;rw[fO]at hq
   split at hq
   ·obtain⟨l1,x1⟩:=CV.mp hq;have l2:i<(kvs.map (·.1)).length:=by rw[Cw];exact lk
    have x2:(kvs.map (·.1))[i]=kvs[i].1:=Ew _;have:=(fh (h₀:=l1) (h₁:=l2) hn).mp (x1.trans x2.symm);lia
   ·cases hq
  have es:stored (kvs.take i) kvs[i].1 kvs[i].2=kvs.take (i+1):=by
   unfold stored;rw[K',dS,hk]
   ·rfl
   ·intro c;obtain⟨q,hq,e⟩:=E3.mp c;exact nk (CB.mpr ⟨q,hq,B' e⟩)
  have hT:Shared.TypeIs {s with heap:=h',toks:=tk'} (.ref a) "tuple":=⟨o,ha,e3⟩;show wpAny _ A.in1 (Ke [aG a] _ >>= _) _ _ _;refine aa (aY ?_);refine aa (SK ?_);unfold Builtin.Dict.pairItems;refine aa (AB hT ?_);rw[L' (by decide)];refine aa ?_;show wpAny _ _ (load a >>= _) _ _ _;refine aa (Hq ha ?_);rw[e4];refine aq (aq ?_);show wpAny _ _ (Ke [key,kvs[i].2] (dictSet d key kvs[i].2)) _ _ _;refine aY (wpAny_dictSet_pairs (hsz:=by rw[CQ];lia) e5 hD' λh2 D2 sb=>?_);rw[es]at D2;refine aq ⟨sx Zl _,ih (i+1) h2 _ _ (by lia) lt ⟨U'.1.at λo e=>(sb.2 I dI.symm).trans e,U'.2.at λo e=>(sb.2 l dl.symm).trans e⟩ (λb o b1 b2 e=>(sb.2 b b1).trans (γ6 b o (by simpa using b2) (keep b o b1 b2 e))) D2⟩
theorem Xz {l:aj}{k0:Nat}{kvs:List (K×ae)}(hh:A.handled=none)(hx:s.heap.get? l=some {cls:=.type "tuple",dict:=none,data:=.seq items k0,slots:=#[]})(hn:(kvs.map (·.1)).Nodup)(hl:kvs.length=items.size)(hz:kvs.length<=ar)(hi:∀(i:Nat) (p:K×ae),kvs[i]?=some p->∃a o key n,items[i]?=some (.ref a)/\s.heap.get? a=some o/\o.cls=.type "tuple"/\o.data=.seq #[key,p.2] n/\knd.is p.1 key=true)(h:∀h' tk,(∀b o,s.heap.get? b=some o->h'.get? b=some o)->h'.DictOf knd s.heap.objs.size kvs->Q (.ref s.heap.objs.size) {s with heap:=h',toks:=tk}):
  wpAny (az prog w) A (call (.type "dict") [.ref l]) Q E s:=by
 refine callType_codes (Q₁:=λobj s₁=>obj=.ref s.heap.objs.size/\s₁ = {s with heap:=s.heap.push {cls:=.type "dict",data:=.dict #[]}}) F.kt_called_dict (F.kt_typeCall_dict_1 _) F.entry_dict_init (kt_code_dict_new _ ⟨Z,Z⟩) ?_;rintro obj s₁ ⟨rfl,rfl⟩;have δ6:(s.heap.push {cls:=.type "dict",data:=.dict #[]}).DictOf knd s.heap.objs.size []:=Heap.DictOf.new s.heap;have hx1:(s.heap.push {cls:=.type "dict",data:=.dict #[]}).get? l=some {cls:=.type "tuple",dict:=none,data:=.seq items k0,slots:=#[]}:=CN _ hx;refine⟨δ6.typeIs,F.args_dict_init_2 _ _,?_⟩;unfold Builtin.«dict.__init__»;refine aa ?_;unfold Builtin.Dict.selfAndRest;refine aa (wpAny_notOrdered_dict δ6.typeIs ?_);show wpAny _ _ (pure (s.heap.objs.size,[aG l])) _ _ _;refine aq ?_;show wpAny _ _ (Hm "dict.__init__" s.heap.objs.size (.ref l) [] .none) _ _ _;unfold Hm;refine aa (AB (T:="tuple") ⟨_,hx1,Z⟩ ?_);rw[L' (by decide)];refine aa (OI hx1 (by simp[hh]) λh1 tk1 ε1=>?_);rw[L' (show(none:Option ae).isNone=true from Z)];refine aa (sW ?_);have hL1:h1.IsTuple l items:=⟨_,ε1 _ _ hx1,Z,_,Z⟩;refine aa (IG hL1 ?_);have hd1:h1.DictOf knd s.heap.objs.size []:=δ6.at λo e=>ε1 _ o e;have dl:s.heap.objs.size≠l:=DU (CH hx)
 have dI:s.heap.objs.size<h1.objs.size:=by
  obtain⟨o,_,_,e,_⟩:=hd1;exact CH e
 have θ:∀b o,s.heap.get? b=some o->h1.get? b=some o:=λb o e=>ε1 b o (CN _ e);have lt:∀b o,s.heap.get? b=some o->b≠s.heap.objs.size/\b≠h1.objs.size:=λb o e=>⟨CM (CH e),CM (eY (CH e) dI)⟩;refine aq ⟨sx Zl _,Pk (knd:=knd) (h₀:=h1) (l:=l) (I:=h1.objs.size) (items:=items) (kvs:=kvs) (s:=s) (by simp[hh]) (lt l _ hx).2 (CM dI) dl hn hl hz (λi p hp=>?_) (λh' tk keep D=>⟨Z,h h' tk (λb o e=>keep b o (lt b o e).1 (lt b o e).2 (θ b o e)) D⟩) _ 0 _ _ 0 Z (CP _) ⟨⟨_,dj _ Z,Z,Z⟩,hL1.push _⟩ (λb o _ _ e=>CN _ e) (hd1.push _)⟩;obtain⟨a,o,key,n,e1,e2,e3,e4,e5⟩:=hi i p hp;exact⟨a,o,key,n,e1,(lt a o e2).1,(lt a o e2).2,θ _ _ e2,e3,e4,e5⟩
end
end DT
namespace L2
open PySem PySem.Spec PyProof.Rows
def Qa (its:Array ae)(n:Nat):iN:={cls:=.type "tuple",data:=.seq its n}
section
theorem wW:jL X (.type "tuple") (λxs H Q=>∃p ys,xs=[.ref p]/\zL X.K H p ys/\∀l its n,H l=none->Q (.ref l) (upd H l (.frz (Qa its n) (.tup ys)))):=by
 intro N' s σ H xs us Q I r h;obtain⟨p,ys,rfl,hq,q⟩:=h;obtain⟨u,rfl,rx⟩:=vB r;cases rx;obtain⟨its,r',pl,hz⟩:=I.list hq;have ζ:=r'.length;refine K6 pl.isList (λh' kp=>?_) (by simp only[de]<;>lia);have J:=I.kept (t':=s.toks) kp;refine⟨.ref h'.objs.size,_,J.laid (t':=s.toks) (λb o e=>CN _ e) (Cz _) (show yk X.prog X.w _ _ _ (.frz (Qa its.toArray 0) (.tup ys)) from ⟨dj _ Z,hz,its,r',IsTup.new _ _⟩),Z,q _ _ _ (J.hok.fresh (Cz _))⟩
theorem Qm (Z':X.calm=true):jL X (.type "dict") (λxs H Q=>∃(a:aj) (ts:List V) (prs:List (af×Int)),xs=[.ref a]/\(∃its n,H a=some (.frz (Qa its n) (.tup ts)))/\z4 H ts (prs.map cP)/\(prs.map (·.1)).Nodup/\G4 H (.dK (Yq prs)) Q):=by
 intro N' s σ H xs us Q I r h;obtain⟨a,ts,prs,rfl,⟨its0,n0,ha⟩,T,nd,q⟩:=h;obtain⟨u,rfl,ru⟩:=vB r;cases ru;obtain⟨hg0,hz,its,rv,o,ho,hc,n1,hd⟩:=I.hok a _ ha
 have hg:s.heap.get? a=some {cls:=.type "tuple",dict:=none,data:=.seq its.toArray n1,slots:=#[]}:=by
  rw[hg0]at ho;cases ho;have hd:Data.seq its0 n0=.seq its.toArray n1:=hd;rw[hg0];unfold Qa;rw[hd]
 have tl:ts.length=prs.length:=by rw[T.len,Cw]
 have il:=rv.length;have el:(Yq prs).length=prs.length:=by unfold Yq;rw[Cw]
 have val:∀(i:Nat) (p:af×Int),prs[i]?=some p->∃(t:aj) (o:iN) (k1 k2:Iw) (n:Nat),its[i]?=some (aG t)/\s.heap.get? t=some o/\o.cls=.type "tuple"/\o.data=.seq #[iW p.1 k1,iQ p.2 k2] n:=λi p hp=>by
  obtain⟨t,e1,e2⟩:=T.at_ i _ (by rw[CI,hp];rfl);obtain⟨u,hu,ru⟩:=rv.get e1;cases ru;obtain⟨_,us,rv',o,ho,hc,n,hd⟩:=I.hok t _ e2;obtain⟨u1,u2,rfl,⟨k1,r1⟩,⟨k2,r2⟩⟩:=GP rv';subst r1 r2;exact⟨t,o,k1,k2,n,hu,ho,hc,hd⟩
 obtain⟨sec,hsec⟩:∃sec:ae->ae,∀t o n k1 x,s.heap.get? t=some o->o.data=.seq #[k1,x] n->sec (.ref t)=x:=by
  refine⟨λv=>match v with|.ref t=>(match s.heap.get? t with|some o=>(match o.data with|.seq xs _=>xs.getD 1 .none |_=>.none) |none=>.none) |_=>.none,λt o n k1 x h1 h2=>?_⟩;show(match s.heap.get? t with|some o=>(match o.data with|.seq xs _=>xs.getD 1 .none |_=>.none) |none=>aS)=x;rw[h1];show(match o.data with|.seq xs _=>xs.getD 1 .none |_=>aS)=x;rw[h2];rfl
 obtain⟨kvs,hk⟩:∃kvs:List (jB×ae),kvs=(aQ prs.length).map λi=>(iy (OH prs i).1,sec (its.getD i .none)):=⟨_,Z⟩;have kl:kvs.length=prs.length:=by rw[hk,Cw,d9]
 have kat:∀(i:Nat) (p:af×Int),prs[i]?=some p->∃k2:Iw,kvs[i]?=some (iy p.1,iQ p.2 k2):=λi p hp=>by
  obtain⟨t,o,k1,k2,n,e1,e2,e3,e4⟩:=val i p hp;have li:i<prs.length:=(CV.mp hp).1;refine⟨k2,?_⟩;rw[hk,CI,Ef li,DK,kX hp,dD,e1,ER,hsec t o n _ _ e2 e4]
 have keys:kvs.map (·.1)=(prs.map (·.1)).map (iy:af->jB):=by
  apply Dj;intro i;rw[CI,CI,CI]
  by_cases hi:i<prs.length
  ·have hp:=CC hi;obtain⟨k2,e⟩:=kat i _ hp;rw[e,hp];rfl
  ·rw[dO (by lia),dO (by lia)];rfl
 have rel:KV (Yq prs) kvs:=by
  refine Qp (by rw[el,kl]) λi p q e1 e2=>?_;unfold Yq at e1;rw[CI]at e1;obtain⟨p',hp,rfl⟩:=CS.mp e1;obtain⟨k2,e⟩:=kat i _ hp;rw[e]at e2;cases e2;exact⟨Z,k2,Z⟩
 refine DT.Xz (knd:=qM X.prog X.w) (kvs:=kvs) (I.ok.hd Z') hg ?_ (by rw[kl,de,<- il,tl]) (by rw[kl,<- tl];exact hz) (λi p hp=>?_) λh' tk keep D=>?_
 ·rw[keys,Ff,Eg];exact(Ff.mp nd).imp λh e=>h (Sum.inr.inj e)
 ·have li:i<prs.length:=by rw[<- kl];exact(CV.mp hp).1
  have hq:=CC li;obtain⟨t,o,k1,k2,n,e1,e2,e3,e4⟩:=val i _ hq;obtain⟨k3,e5⟩:=kat i _ hq;rw[hp]at e5;cases e5
  have e6:iQ prs[i].2 k3=iQ prs[i].2 k2:=by
   have:kvs[i]?=some (iy prs[i].1,iQ prs[i].2 k2):=by
    rw[hk,CI,Ef li,DK,kX hq,dD,e1,ER,hsec t o n _ _ e2 e4]
   rw[hp]at this;exact G' Prod.snd (ai this)
  exact⟨t,o,_,n,by simpa using e1,e2,e3,by rw[e4,e6],QV _ _ _ _⟩
 ·have J:=I.kept (t':=tk) keep;have hf:H s.heap.objs.size=none:=I.hok.fresh (Cz _)
  have lo:(s.heap.objs.size==sv)=false:=by
   have:=I.big;exact beq_eq_false_iff_ne.mpr (DU this)
  refine⟨.ref _,_,J.adoptO (I.fpOk (Cz _) hf) (m7 (by rw[el,<- tl];exact hz) lo rel D),Z,q.at hf⟩
end
def Bp (ta tb:TE):TE:=λσ H Q=>ta σ H λx H1=>(x=.non/\tb σ H1 Q)∨∃i,x=.int i/\(i≠0->Q (.int i) H1)/\(i=0->tb σ H1 Q)
section
variable {a b:aK}{rest:List aK}{ta tb:TE}{pos:iS}
theorem tW (ha:PE X a ta)(hb:PE X (.BoolOp .Or (b::rest) pos) tb):PE X (.BoolOp .Or (a::b::rest) pos) (Bp ta tb):=by
 intro N' s σ H Q I h;refine BoolOp_or (qC (ha N' s σ H _ I h) λv s1 hM=>?_);obtain⟨x,H1,I1,r1,q1⟩:=hM;rcases q1 with⟨rfl,q⟩ |⟨i,rfl,q1,q2⟩
 ·cases r1;exact truthy_none (hb N' s1 σ H1 Q I1 q)
 ·obtain⟨t,rfl⟩:=r1;refine PySem.P.truthy_int ?_
  by_cases e:i=0
  ·subst e;exact hb N' s1 σ H1 Q I1 (q2 Z)
  ·have e1:(i != 0)=true:=by simpa using e
   rw[e1];exact⟨.int i,H1,I1,⟨t,Z⟩,q1 e⟩
end
def Tb (K:BFr):R2:=λx y H Q=>∃a b xs,x=.ref a/\y=.ref b/\zL K H a xs/\zL K H b []/\(xs=[]->Q (.bl false) H)/\(xs≠[]->Q (.bl true) H)
theorem YY (hu:X.A.units<sV):uW X (ir .NotEq) (Tb X.K):=by
 intro N' s σ H x y v u Q I rx ry h;obtain⟨a,b,xs,rfl,rfl,h1,h2,q1,q2⟩:=h;cases rx;cases ry;obtain⟨us,r1,p1,_⟩:=I.list h1;obtain⟨ws,r2,p2,_⟩:=I.list h2;have l1:=r1.length;have l2:=r2.length;rw[DY]at l2
 by_cases hl:xs=[]
 ·subst hl;rw[DY]at l1;refine Fy p1.isList p2.isList (by simp;lia) hu (e:=λ_=>true) (λj h1 h2=>?_) _ _ _ _ ⟨.bl false,H,I,?_,q1 Z⟩
  ·simp at h1
   lia
  ·have:us=[]:=Dd.mp l1.symm;subst this;rfl
 ·have:0<xs.length:=List.length_pos_iff.mpr hl;exact FD p1.isList p2.isList (by simp;lia) hu _ _ _ _ ⟨.bl true,H,I,Z,q2 hl⟩
open Builtin Builtin.Str
theorem OR:Hu (.type "list_reverseiterator") "__len__" = pure none:=by
 rw[Af,p_]
 kernel_rfl
theorem LO:Hu (.type "list_reverseiterator") "__length_hint__" = pure (some (.builtin "list_reverseiterator.__length_hint__")):=by
 rw[Af,p_]
 kernel_rfl
section
variable {J l:aj}
def bY (items:Array ae)(i:Nat)(v:ae):Prop:=items[items.size-1-i]?=some v
theorem xj {Q:List ae->av->Prop}(hh:A.handled=none)(ne:l≠J)(hit:s.heap.IsRevIter J l ((items.size:Int)-1))(hl:s.heap.IsList l items)(hn:items.size<=ar)(hQ:∀s' O',(∀b o,b≠J->s.heap.get? b=some o->s'.heap.get? b=some o)->s'.gens=s.gens->s'.drawn=s.drawn->s'.os=s.os->ItemsOf (bY items) O' items.size->Q O'.toList s'):wpAny (az prog w) A (Kn (.ref J)) Q E s:=by
 have W:=(Walks.listRev (prog:=prog) (w:=w) (A:=A.in1) hh J l ne items).toS;have hT:∀(i:Nat) (s:av),(i<=items.size/\s.heap.IsRevIter J l ((items.size:Int)-1-(i:Int))/\s.heap.IsList l items)->s.TypeIs (.ref J) "list_reverseiterator":=λ_ _ st=>st.2.1.typeIs
 have lt:∀b∈[J,l],b<s.heap.objs.size:=λb hb=>by
  obtain⟨o,ho,_⟩:=hit;obtain⟨o',ho',_⟩:=hl;rcases CF.mp hb with rfl |hb
  ·exact CH ho
  ·rw[du.mp hb];exact CH ho'
 have nf:¬s.heap.objs.size∈[J,l]:=λhm=>eJ _ (lt _ hm);have nJ:s.heap.objs.size≠J:=λe=>nf (e ▸ CG);have st0:0<=items.size/\s.heap.IsRevIter J l ((items.size:Int)-1-((0:Nat):Int))/\s.heap.IsList l items:=⟨CP _,by rw[Int.natCast_zero,Int.sub_zero];exact hit,hl⟩;unfold Kn;refine aa (Fq (iq HL ?_));rw[ie HK _];show wpAny _ A.in1 (Z_ [] >>= λl=>again (.builtin "list.__iadd__" ⟨[l,.ref J],[]⟩)) _ _ s;refine aa (a_ (aq ⟨sx AI _,iq KC ?_⟩));rw[ie AI _];have st1:=W.frame 0 s (s.heap.push {cls:=.type "list",data:=.seq ([]:List ae).toArray}) s.toks st0 (Cz _) λb _ o e=>CN _ e;have S1:(s.heap.push {cls:=.type "list",data:=.seq ([]:List ae).toArray}).get? s.heap.objs.size=some {cls:=.type "list",data:=.seq ([]:List ae).toArray}:=dj _ rfl;have h1:sA (.ref s.heap.objs.size) (.ref J)=false:=by simp[sA,nJ]
 show wpAny _ A.in1 (iM (.ref s.heap.objs.size) (.ref J) (.ref s.heap.objs.size)) _ _ _;unfold iM;refine aa (AB (hT 0 _ st1) ?_);rw[K' (by rw[h1];decide)];refine aa (W.self 0 _ _ _ st1 ?_);refine aa (aY ?_);unfold sS;refine aa (A5 (hT 0 _ st1) OR ?_);show wpAny _ A.in1 (specialOf (aG J) (AF "__length_hint__") >>= _) _ _ _;refine aa (A5 (hT 0 _ st1) LO ?_)
 (generalize hid:("list_reverseiterator.__length_hint__":String)=id0;(fail_if_success (clear hid id0));wp_delta;rw[show splitId id0=some ("list_reverseiterator","__length_hint__") from by subst hid;decide+kernel];subst hid)
 refine aa (s_ (b:=true) (hT 0 _ st1) (by rw[HX];kernel_rfl) (aq ?_));rw[K' (by decide)];refine aq ⟨sx IA _,HY W hn _ nf _ items.size 0 _ _ _ Z (CP _) st1 S1 (ItemsOf.nil _) λs' acc' c' hm hS' δ1=>?_⟩;show wpAny _ A (load s.heap.objs.size >>= _) _ _ s';have mv:=Moved.drop_new (o:={cls:=.type "list",data:=.seq ([]:List ae).toArray}) (tk:=s.toks) hm (Cz _);exact aa (Hq hS' (aq (hQ s' acc' (λb o hb e=>mv.heap b o (λh=>hb (du.mp h)) e) mv.gens mv.drawn mv.os δ1)))
theorem Lx {t:Iw}{ps:List (af×Iw)}(hh:A.handled=none)(ne:l≠J)(hit:s.heap.IsRevIter J l ((ps.length:Int)-1))(hl:s.heap.IsList l (i8 ps).toArray)(hn:ps.length<=ar)(hok:FU x (ps.map (·.1)).reverse=true)(hq:∀(s':av) (t':Iw) (k:Nat),(∀b o,b≠J->s.heap.get? b=some o->s'.heap.get? b=some o)->s'.gens=s.gens->s'.drawn=s.drawn->s'.os=s.os->Q (.str (aF x (ps.map (·.1)).reverse) t') {s' with toks:=k}):
  wpAny (az prog w) A (call (.builtin "str.join") [.str x t,.ref J]) Q E s:=by
 have sz:(i8 ps).toArray.size=ps.length:=by rw[de];exact Cw _
 refine Ht (AY F.slot_str_join.plain F.entry_str_join (F.slot_str_join.check _ _ _ _ _ _ _ _ (Ak _ _ _) (F.args_str_join_2 _ _) ?_));rw[join_tree_other];refine aa (AB hit.typeIs ?_);show wpAny _ A.in1 ((KJ (.ref J)).tryCatch _ >>= λit=>Kn it >>= λitems=>joinTail x items) _ _ s;refine aa (SK (wpAny_pyIter_revIter hit ?_));refine aa (xj (A:=A.in1) hh ne (by rw[sz];exact hit) hl (by rw[sz];exact hn) λs' O' m1 m2 m3 m4 δ1=>?_)
 have ea:O'.toList=i8 ps.reverse:=by
  apply Dj;intro i
  by_cases hi:i<ps.length
  ·have hi':i<O'.size:=by rw[δ1.1,sz];exact hi
   have h2:=δ1.2 i _ (Dq hi');have h2:(i8 ps).toArray[(i8 ps).toArray.size-1-i]?=some O'[i]:=h2;rw[sz]at h2;have h3:(i8 ps)[ps.length-1-i]?=some O'[i]:=by simpa using h2
   rw[eA,Dq hi',<- h3];unfold i8;rw[CI,CI,HH hi]
  ·rw[dO (by rw[Dc,δ1.1,sz];lia),dO (by unfold i8;rw[Cw,Dk];lia)]
 rw[ea];have er:ps.reverse.map (·.1)=(ps.map (·.1)).reverse:=List.map_reverse;rw[<- er]at hok hq;generalize ps.reverse=qs at hok hq;unfold FU at hok;rw[Dg]at hok
 have g:Gives (joinTail x (i8 qs)) (joinMade x qs):=by
  have g0:=gives_joinTail x qs hok;rcases qs with _ |⟨p,_ |⟨q,r⟩⟩<;>exact g0
 exact g prog w A (wants Q E) s' (post_join qs ⟨joinFit_length hok,λt' k=>hq s' t' k m1 m2 m3 m4⟩)
end
def PZ (K:BFr)(sep:af)(ta:TA):TE:=λσ H Q=>ta σ H λvs H1=>∃(l:aj) (zs:List af),vs=[.ref l]/\zL K H1 l (zs.map V.str)/\zs.length<=100000/\FU sep zs.reverse=true/\Q (.str (aF sep zs.reverse)) H1
section
variable {a:aK}{sep:af}{kn:Nat}
theorem gm (Z':X.calm=true)(hg:Gl X "reversed")(hm:X.mg "reversed" = none)(ha:PA X [a] ta)(hs:aE [a] X.env=[(false,eval a X.env)]:=by rfl)(hs1:aE [.Call (.Name "reversed" p2) [a] [] p3] X.env=[(false,eval (.Call (.Name "reversed" p2) [a] [] p3) X.env)]:=by rfl)(γ0:Ab (Expr.Constant (.str sep) kn p1) "join" X.env (eval (.Constant (.str sep) kn p1) X.env)=eval (.Constant (.str sep) kn p1) X.env:=by rfl)(δ5:((i9 X' (aE [.Call (.Name "reversed" p2) [a] [] p3] X.env)).all (λx=>!x.1)&&(HM X' (AX [] X.env)).all (λx=>x.1.isSome)
   && decide ([Expr.Call (.Name "reversed" p2) [a] [] p3].length+([]:List Av).length+(if ([]:List Av).isEmpty then 0 else 1)<30))=true:=by rfl) (γ1:(ν.endLine==X'.line)=true:=by rfl) :
  PE X (.Call (.Attribute (.Constant (.str sep) kn p1) "join" ν) [.Call (.Name "reversed" p2) [a] [] p3] [] X') (PZ X.K sep ta):=by
 intro N' s σ H Q I h;refine Aw γ0 δ5 γ1 rfl (qC (zv (X:=X) (x:=sep) N' s σ H (λx H1=>x=.str sep/\H1=H) I ⟨Z,Z⟩) λv s1 hM=>?_);obtain⟨x,H1,I1,r1,q1⟩:=hM;obtain⟨rfl,rfl⟩:=q1;obtain⟨tv,rfl⟩:=r1;refine⟨"str","str.join",aA,hZ,hW,Ak _ _ _,?_,?_⟩
 ·exactλ_ e=>nomatch e
 rw[hs1];refine iP rfl (i6 ?_);show wpAny _ _ (FI ((false,eval (.Call (.Name "reversed" p2) [a] [] p3) X.env)::[])) _ _ s1;refine ip ?_;refine T_ (ud I1 hg hm boot_reversed (hV (qC (ha p3 N' s1 σ H1 _ I1 h) λus s2 z=>?_) hs Z));obtain⟨vs,H2,I2,r2,l,zs,e,hS,hz,hj,q⟩:=z;subst e
 cases r2 with
 |cons r rr=>
  cases rr;cases r;obtain⟨its,rv,pl,hz'⟩:=I2.list hS;obtain⟨ps,e1,rfl⟩:=Qc rv;have hl:ps.length=zs.length:=by rw[<- e1,Cw]
  refine call_reversed_list pl.isList (iO ?_);have lt:l<s2.heap.objs.size:=by obtain⟨_,e,_⟩:=pl.isList;exact CH e
  refine Lx (ps:=ps) (J:=s2.heap.objs.size) (l:=l) (I2.ok.hd Z') (CM lt) ⟨_,dj _ Z,Z,?_⟩ (pl.isList.push _) (by rw[ah];lia) (by rw[e1];exact hj) λs' t' k m1 m2 m3 m4=>?_
  ·show Data.fields #[.ref l,iz (((i8 ps).toArray.size:Nat)-1)]=_;rw[de];unfold i8;rw[Cw]
  rw[e1];obtain⟨h',g',d',k',o'⟩:=s';cases m2;cases m3;cases m4;refine⟨.str _,H2,I2.kept (t':=k) (h':=h') λb o e=>m1 b o (CM (CH e)) (CN _ e),⟨t',Z⟩,q⟩
end
end L2
namespace L2
open PySem PySem.Spec PyProof.Rows
section
theorem JN (hc:X.calm=true):jL X (.builtin "max") (λxs H Q=>∃(a:aj) (ns:List Int) (m:Int),xs=[.ref a]/\zL X.K H a (ns.map V.int)/\m∈ns/\(∀x∈ns,x<=m)/\Q (.int m) H):=by
 intro N' s σ H xs us Q I r h;obtain⟨a,ns,m,rfl,hS,hm,hx,q⟩:=h;obtain⟨u,rfl,ru⟩:=vB r;cases ru;obtain⟨its,rv,pl,hz⟩:=I.list hS;have hl:its.length=ns.length:=by rw[<- rv.length,Cw]
 have hn:0<ns.length:=fP hm;have ε0:a<s.heap.objs.size:=by obtain⟨o,e,_⟩:=pl.isList;exact CH e
 have γ:a≠s.heap.objs.size:=CM ε0;refine call_max_walk (sr pl.isList ?_);refine⟨s.heap.objs.size,_,_,_,_,_,λi j=>decide (ns.getD i 0 > ns.getD j 0),Z,IL (A:=X.A.in1) (I.ok.hd hc) _ a γ its.toArray,⟨⟨_,dj _ Z,Z,Z⟩,pl.isList.push _⟩,λb hb=>?_,by rw[de];omega,λi j vi vj s' Q' E' h1 h2 h3=>?_,λv h' tk hv hk=>?_⟩
 ·show b<(s.heap.push _).objs.size;rw[DJ];rcases CF.mp hb with rfl |hb
  ·exact eL _
  ·rw[du.mp hb];exact Eo ε0
 ·obtain⟨t1,rfl⟩:=Q9 rv h1;obtain⟨t2,rfl⟩:=Q9 rv h2;exact gt_int h3
 ·obtain⟨t,rfl⟩:=Q9 rv hv;obtain⟨b1,b2⟩:=argBest_gt (λi=>ns.getD i 0) (its.toArray.size-1);rw[de]at b1 b2;have hi:argBest (λi j=>decide (ns.getD i 0 > ns.getD j 0)) (its.length-1)<ns.length:=by omega
  have e:ns.getD (argBest (λi j=>decide (ns.getD i 0 > ns.getD j 0)) (its.length-1)) 0=m:=by
   refine Int.le_antisymm (hx _ ?_) ?_
   ·rw[dD,CC hi];exact DA hi
   ·obtain⟨j,hj,rfl⟩:=List.getElem_of_mem hm;have:=b2 j (by omega);rw[dD,CC hj]at this;exact this
  refine⟨.int m,H,I.walked hk,⟨t,?_⟩,q⟩;rw[<- e,de]
end
theorem Om {A B:Hp->Prop}(h:A H):qA σ H λb H2=>if b=true then A H2 else B H2:=by
 show if true=true then A H else B H;exact yh h
structure jq {α:Type}(H:Hp)(ys:List V)(xs:List α)(P:Hp->V->α->Prop):Prop where
 len:ys.length=xs.length
 at_:∀(i:Nat) (y:V),ys[i]?=some y->∃x,xs[i]?=some x/\∀H',zj H H'->P H' y x
section
variable {J:It}{xs:List α}{P:Hp->V->α->Prop}
theorem ym (W:QB J H ys)(T:jq H ys xs P)(hD:H D=none)(hz:xs.length<ar)(φ:α->V)(he:∀x∈xs,∀v H' R,zj H H'->P H' v x->(∀H'',zj H' H''->R (φ x) H'')->te (σ.set 0 (some v)) H' R)(hf:∀H',zj H H'->H' D=some (.lst (xs.map φ))->P' (xs.map φ) H'):yF J D (zO 0) qA te P' σ (upd H D (.lst [])):=by
 refine jz W hD (λi zs H'=>zs=(xs.take i).map φ) (λσ'=>∀x,σ'.set 0 (some x)=σ.set 0 (some x)) (λ_=>rfl) rfl ?_ ?_
 ·rintro i y zs σ' H' hy hσ s hd hl rfl;obtain⟨x,hx,hP⟩:=T.at_ i y hy;have tk:xs.take (i+1)=xs.take i++[x]:=by rw[dS,hx];rfl
  have hi:i<xs.length:=(CV.mp hx).1;have Δ:∀z,(σ'.set 0 (some y)).set 0 (some z)=σ.set 0 (some z):=λz=>by rw[Ed];exact hσ z
  unfold JE zO;dsimp only;refine Om ?_;rw[hσ y]at Δ ⊢;refine he x (dv hx) y _ _ s (hP _ s) λH3 s3=>⟨s3 _ _ hd,by lia,Δ,λb o z=>?_,zt,?_,?_⟩
  ·rw[zx (zo z hD)];exact s3 _ _ (s _ _ z)
  ·rw[CA,dN];lia
  ·rw[tk,CJ];rfl
 ·rintro zs H' s hd hl rfl;rw[T.len,dM]at hd ⊢;exact hf H' s hd
theorem Ji (W:QB J H ys)(T:jq H ys xs P)(hD:H D=none)(hz:xs.length<ar)(p:α->Bool)(φ:α->V)(ht:∀x∈xs,∀v H' R,zj H H'->P H' v x->(∀H'',zj H' H''->R (p x) H'')->tt (σ.set 0 (some v)) H' R)(he:∀x∈xs,∀v H' R,zj H H'->P H' v x->(∀H'',zj H' H''->R (φ x) H'')->te (σ.set 0 (some v)) H' R)(hf:∀H',zj H H'->H' D=some (.lst ((xs.filter p).map φ))->P' ((xs.filter p).map φ) H'):yF J D (zO 0) tt te P' σ (upd H D (.lst [])):=by
 refine jz W hD (λi zs H'=>zs=((xs.take i).filter p).map φ) (λσ'=>∀x,σ'.set 0 (some x)=σ.set 0 (some x)) (λ_=>rfl) rfl ?_ ?_
 ·rintro i y zs σ' H' hy hσ s hd hl rfl;obtain⟨x,hx,hP⟩:=T.at_ i y hy;have tk:xs.take (i+1)=xs.take i++[x]:=by rw[dS,hx];rfl
  have hi:i<xs.length:=(CV.mp hx).1;have hm:=dv hx;have Δ:∀z,(σ'.set 0 (some y)).set 0 (some z)=σ.set 0 (some z):=λz=>by rw[Ed];exact hσ z
  unfold JE zO;dsimp only;rw[hσ y]at Δ ⊢;refine ht x hm y _ _ s (hP _ s) λH2 s2=>?_
  cases q:p x with
  |true=>
   refine yh (he x hm y _ _ (s.trans s2) (hP _ (s.trans s2)) λH3 s3=>⟨s3 _ _ (s2 _ _ hd),by lia,Δ,λb o z=>?_,zt,?_,?_⟩)
   ·rw[zx (zo z hD)];exact s3 _ _ (s2 _ _ (s _ _ z))
   ·rw[CA,dN];lia
   ·rw[tk,DZ,CJ];simp[q]
  |false=>
   refine qO ⟨Δ,s.trans s2,s2 _ _ hd,by lia,?_⟩;rw[tk,DZ,CJ];simp[q]
 ·rintro zs H' s hd hl rfl;rw[T.len,dM]at hd ⊢;exact hf H' s hd
theorem P8 (W:QB J H ys)(hl:ys.length=xs.length)(hD:H D=none)(hz:xs.length<ar)(S:V->α->Prop)(he:∀(i:Nat) x v,xs[i]?=some x->ys[i]?=some v->∀H' R,zj H H'->(∀u H'',S u x->zj H' H''->R u H'')->te (σ.set 0 (some v)) H' R)(hf:∀zs H',zj H H'->zs.length=xs.length->(∀(i:Nat) u,zs[i]?=some u->∃x,xs[i]?=some x/\S u x)->H' D=some (.lst zs)->P' zs H'):yF J D (zO 0) qA te P' σ (upd H D (.lst [])):=by
 refine jz W hD (λi zs H'=>zs.length=i/\∀(j:Nat) u,zs[j]?=some u->∃x,xs[j]?=some x/\S u x) (λσ'=>∀x,σ'.set 0 (some x)=σ.set 0 (some x)) (λ_=>rfl) ⟨Z,λj u e=>by cases e⟩ ?_ ?_
 ·rintro i y zs σ' H' hy hσ s hd hl' ⟨g1,g2⟩;have hi:i<xs.length:=by rw[<- hl];exact(CV.mp hy).1
  have hx:=CC hi;have Δ:∀z,(σ'.set 0 (some y)).set 0 (some z)=σ.set 0 (some z):=λz=>by rw[Ed];exact hσ z
  unfold JE zO;dsimp only;refine Om ?_;rw[hσ y]at Δ ⊢;refine he i _ y hx hy _ _ s λu H3 hu s3=>⟨s3 _ _ hd,by lia,Δ,λb o z=>?_,zt,?_,?_,λj w e=>?_⟩
  ·rw[zx (zo z hD)];exact s3 _ _ (s _ _ z)
  ·rw[CA,dN];lia
  ·rw[CA,dN,g1]
  ·by_cases hj:j<zs.length
   ·rw[dF hj]at e;exact g2 j w e
   ·rw[dk (dY hj)]at e
    cases q:j-zs.length with
    |zero=>
     rw[q]at e;cases e;have:j=i:=by lia
     subst this;exact⟨_,hx,hu⟩
    |succ n=>
     rw[q]at e;cases e
 ·rintro zs H' s hd _ ⟨g1,g2⟩;exact hf zs H' s (g1.trans hl) g2 hd
theorem ZP {K:BFr}(W:QB J H ys)(T:z4 H ys (prs.map cP))(hD:H D=none)(hz:prs.length<ar)(φ:af×Int->V)(he:∀q∈prs,∀H' R,zj H H'->(∀H'',zj H' H''->R (φ q) H'')->te ((σ.set 0 (some (.str q.1))).set 1 (some (.int q.2))) H' R)(hf:∀H',zj H H'->H' D=some (.lst (prs.map φ))->P' (prs.map φ) H'):yF J D (uQ K 2 (qN (zO 0) (qN (zO 1) wj))) qA te P' σ (upd H D (.lst [])):=by
 have tl:ys.length=prs.length:=by rw[T.len,Cw]
 refine jz W hD (λi zs H'=>zs=(prs.take i).map φ) (λσ'=>∀x y,(σ'.set 0 x).set 1 y=(σ.set 0 x).set 1 y) (λ_ _=>rfl) rfl ?_ ?_
 ·rintro i y zs σ' H' hy hσ s hd hl rfl;obtain⟨b,c,rfl,h1,h2⟩:=T.of_at hy;rw[CI]at h1;obtain⟨q,hq,rfl⟩:=CS.mp h1;have tk:prs.take (i+1)=prs.take i++[q]:=by rw[dS,hq];rfl
  have hi:i<prs.length:=(CV.mp hq).1;refine⟨b,_,Z,yT.of (s _ _ h2),Z,_,_,Z,_,_,Z,Z,Om ?_⟩;rw[hσ]
  have Δ:∀x y,((((σ.set 0 (some (.str q.1))).set 1 (some (.int q.2))).set 0 x).set 1 y)=(σ.set 0 x).set 1 y:=λx y=>by
   rcases σ with _ |⟨_,_ |⟨_,_⟩⟩<;>rfl
  refine he q (dv hq) _ _ s λH3 s3=>⟨s3 _ _ hd,by lia,Δ,λb o z=>?_,zt,?_,?_⟩
  ·rw[zx (zo z hD)];exact s3 _ _ (s _ _ z)
  ·rw[CA,dN];lia
  ·rw[tk,CJ];rfl
 ·rintro zs H' s hd hl rfl;rw[tl,dM]at hd ⊢;exact hf H' s hd
end
def U4 (h:ia):ia:=(h.push {cls:=.type "dict",data:=.dict #[]}).push {cls:=.type "cell",data:=.cell none}
theorem Ny (h:ia):(U4 h).get? (h.objs.size+1)=some {cls:=.type "cell",data:=.cell none}:=by
 have:=dj (h.push {cls:=.type "dict",data:=.dict #[]}) (o:={cls:=.type "cell",data:=.cell none}) rfl;rw[DJ]at this;exact this
theorem Xm {globals:aj}{x0:af}{Q:Iv->av->Prop}
  (lay:∀n O',FY n scope.names O'=(x0,n)::O') (push:∀h,pushCells h scope.names=h.push {cls:=.type "cell",data:=.cell none}) (h:Q {scope,locals:=s.heap.objs.size,globals,cells:=(x0,s.heap.objs.size+1)::cl,qual,func:=none,code:=env.code,frame:=env.frame,builtins:=env.builtins} {s with heap:=U4 s.heap}) :
  wpAny M A (Ay scope globals cl [] qual none .none (some env)) Q E s:=by
 simp only[Ay,Option.isSome_some,if_true];refine aa (wpAny_alloc (aa (wpAny_layCells _ (λname kind cells=>by cases hkc:kind==NameKind.cell<;>simp[hkc]) _ _ _ _ ?_)));rw[lay,push];rw[List.forIn_nil];refine aa (aq (aq ?_));rw[show({s with heap:=s.heap.push {cls:=.type "dict",data:=.dict #[]}}:av).heap.objs.size=s.heap.objs.size+1 from DJ ..];exact h
structure G7 (X:Cx)(Nc:List af)(scope:AW)(cl:List (af×aj))(src:List (Option Nat))(x0:af):Prop where
 clos:closureFor scope X.env=pure cl
 kind:scope.kind=.function
 lay:∀n O',FY n scope.names O'=(x0,n)::O'
 push:∀h,pushCells h scope.names=h.push {cls:=.type "cell",data:=.cell none}
 names:∀y∈scope.names,y.2=.local->scope.names.lookup y.1=some .local
 sub:∀x c,cl.lookup x=some c->X.env.cells.lookup x=some c
 has:∀c0 x,((FL scope X.env).names.lookup x=some .cell∨(FL scope X.env).names.lookup x=some .free)->∃c,((x0,c0)::cl).lookup x=some c
 frm:∀(i j:Nat),src[i]?=some (some j)->∃x,Nc[i]?=some x/\X.N[j]?=some x/\X.env.scope.names.lookup x=some .cell/\(FL scope X.env).names.lookup x=some .cell/\x≠x0
 len:src.length=Nc.length
def yu (X:Cx)(Nc:List af)(scope:AW)(x0:af)(cl:List (af×aj))(C:aj)(fp:List aj)(s:av)(H:Hp):Cx :=
 {X with N:=Nc,s₀:=s,H₀:=H,env:=Ft scope ((x0,C+1)::cl) C X.env,outer:=X.stack,ex:=fp,fn:=λx=>decide (x=x0),pn:=[],xe:=λ_ _=>False}
section
variable {g:TG}{x0:af}
theorem WI {tn:Nat->ia->Prop}{J:It}{R:aj->Kd->av->Prop}{pos:iS}
  (c:G7 X Nc scope cl src x0) (Z':X.calm=true) (I:zF X N' σ H s) (T:Uj X.prog X.w X.K η J fp it tn) (st0:tn 0 s.heap) (f:∀b∈fp,yj X N' H b) (hb:∀C s' H',PG (yu X Nc scope x0 cl C fp s' H') η g/\vf (yu X Nc scope x0 cl C fp s' H') ρ tt/\PE (yu X Nc scope x0 cl C fp s' H') χ te) (h:yF J D g tt te P' (ZR src σ) H) (δ9:∀C ys σ' H' s',H C=none->zF (yu X Nc scope x0 cl C fp s H) [] σ' H' s'->H' D=some (.lst ys)->P' ys H'->R C (.ok .next) s') :
  wpAny (az X.prog X.w) X.A (Ay scope X.env.globals cl [] X.env.qual none .none (some X.env)) (λγ4 s4=>
   codeAny (az X.prog X.w) X.A (.compStart (.ListComp χ [⟨η,iter,ρ,0⟩] scope pos) 0 (.ref it) (.ref D) {γ4 with scope:=FL scope X.env}) (R γ4.locals) s4) E s:=by
 obtain⟨W,⟨m0,w0⟩,wi,wt⟩:=h;refine Xm c.lay c.push ?_;have hC0:H s.heap.objs.size=none:=I.hok.fresh (Cz _);have hn1:=Heap.Ns.new s.heap (.type "dict");have θ:∀b o,s.heap.get? b=some o->(U4 s.heap).get? b=some o:=λb o e=>CN _ (CN _ e);have hn1:=hn1.keeps (h':=U4 s.heap) λb o e=>CN _ e;have own:(U4 s.heap).IsCell (s.heap.objs.size+1) none:=⟨_,Ny s.heap,Z⟩;have hC1:H (s.heap.objs.size+1)=none:=I.hok.fresh (Do _)
 have lk:∀x b,((x0,s.heap.objs.size+1)::cl).lookup x=some b->(x=x0/\b=s.heap.objs.size+1)∨(x≠x0/\cl.lookup x=some b):=λx b e=>by
  rw[fu]at e
  by_cases q:x=x0
  ·subst q;rw[beq_self_eq_true]at e;exact .inl ⟨Z,(ai e).symm⟩
  ·rw[beq_eq_false_iff_ne.mpr q]at e;exact .inr ⟨q,e⟩
 have clt:∀x b,cl.lookup x=some b->b<s.heap.objs.size:=λx b e=>by
  obtain⟨v,o,ho,_⟩:=I.cell x b (c.sub x b e);exact CH ho
 have δ3:∀b∈fp,b<s.heap.objs.size:=λb hb=>by
  obtain⟨o,e,_⟩:=T.obj 0 _ st0 b hb;exact CH e
 have ω:∀b∈fp,b∉Xg X.stack:=λb hb z=>(CF.mp (I.stkSub b z)).elim (f b hb).2.1 (f b hb).2.2.1
 have Yok:(yu X Nc scope x0 cl s.heap.objs.size fp s H).Ok:=by
  refine⟨I.ok.mod,c.kind,I.ok.glob,I.ok.blt,Cz _,?inj,λx hx=>c.has _ x hx,?cab,I.ok.hd,I.ok.frames,.inl Z,λb hb=>?_,λb o e=>I.bs b o e,CD I.ok.bsz I.sz,λb o e hb=>?_,λb hb=>?_,I.stack,I.stkFree⟩
  ·intro x y b h1 h2;rcases lk x b h1 with⟨e1,e2⟩ |⟨e1,e2⟩
   ·rcases lk y b h2 with⟨e3,e4⟩ |⟨e3,e4⟩
    ·rw[e1,e3]
    ·have:=clt y b e4;rw[e2]at this;exact M' this (Ee.mpr (Do _))
   ·rcases lk y b h2 with⟨e3,e4⟩ |⟨e3,e4⟩
    ·have:=clt x b e2;rw[e4]at this;exact M' this (Ee.mpr (Do _))
    ·exact I.ok.inj x y b (c.sub x b e2) (c.sub y b e4)
  ·intro x b h1 h2;have h1:x=x0:=B' h1;rcases lk x b h2 with⟨_,e2⟩ |⟨e1,_⟩
   ·rw[e2];exact Do _
   ·exact M' h1 e1
  ·refine⟨CM (δ3 b hb),λx b' e=>?_⟩;rcases lk x b' e with⟨_,e2⟩ |⟨_,e2⟩
   ·exactλz=>M' (δ3 b hb) (by rw[<- z,e2];exact Ee.mpr (Do _))
   ·exact(f b hb).2.2.2.2.1 x b' (c.sub x b' e2)
  ·have e0:=(I.ok.bs b o e).1;rcases (f b hb).2.2.2.1 with z |z
   ·exact I.ok.noex b o e z
   ·rw[z]at e0;cases e0
  ·exact ω b hb
 have J0:zF (yu X Nc scope x0 cl s.heap.objs.size fp s H) [] (ZR src σ) H {s with heap:=U4 s.heap}:=by
  refine⟨Yok,Z,I.bare,Un.kept θ,⟨_,hn1,λi x v e1 e2 e3=>?_⟩,λx b e=>?_,hC0,?freeC,λp hp=>M' (show p∈([]:List (aj×iN)) from hp) (by simp),I.hok.kept θ,?_⟩
  ·unfold ZR at e2;rw[CI]at e2
   cases q:src[i]? with
   |none=>rw[q]at e2;cases e2
   |some oj=>
    rw[q]at e2
    cases oj with
    |none=>cases e2
    |some j=>
     obtain⟨y,y1,y2,y3,y4,y5⟩:=c.frm i j q;obtain rfl:y=x:=ai (y1.symm.trans e1);have e2':(σ[j]?).join=some v:=ai e2
     have e2s:σ[j]?=some (some v):=by
      cases z:σ[j]? with
      |none=>rw[z]at e2';cases e2'
      |some ov=>rw[z]at e2';exact G' some e2'
     obtain⟨m,hn,hl⟩:=I.loc;obtain⟨u,r,l⟩:=hl j y v y2 e2s (.inr (.inl y3));refine⟨u,r,.inr ⟨.inl y4,?_⟩⟩;rcases l with⟨k1,_⟩ |⟨_,b,k2,k3⟩
     ·exact M' (k1.symm.trans y3) (by intro z;cases z)
     ·obtain⟨b',k4⟩:=c.has (s.heap.objs.size+1) y (.inl y4);have k5:=c.sub y b' ((lk y b' k4).elim (λz=>M' (z.1.symm ▸ y1:Nc[i]?=some x0) (λw=>y5 (ai (y1.symm.trans w)))) (λz=>z.2));rw[k2]at k5;cases k5;obtain⟨o,ho,hd⟩:=k3;exact⟨b,k4,o,θ b o ho,hd⟩
  ·rcases lk x b e with⟨_,e2⟩ |⟨_,e2⟩
   ·rw[e2];exact⟨_,own⟩
   ·obtain⟨v,o,ho,hd⟩:=I.cell x b (c.sub x b e2);exact⟨v,o,θ b o ho,hd⟩
  ·intro x b e;rcases lk x b e with⟨_,e2⟩ |⟨_,e2⟩
   ·rw[e2];exact hC1
   ·exact I.freeC x b (c.sub x b e2)
  ·unfold ZR;rw[Cw];exact c.len
 have st1:tn 0 (U4 s.heap):=T.keep _ _ _ st0 λb _ o e=>θ b o e;obtain⟨bg,bi,be⟩:=hb s.heap.objs.size s H
 have fpY:∀{H2:Hp},(∀b∈fp,H2 b=none)->∀b∈fp,yj (yu X Nc scope x0 cl s.heap.objs.size fp s H) [] H2 b:=λ{H2} n b hb=>
  ⟨n b hb,CM (δ3 b hb),ω b hb,.inl hb,λx b' e=>(lk x b' e).elim (λz q=>M' (δ3 b hb) (by rw[<- q,z.2];exact Ee.mpr (Do _))) (λz=>(f b hb).2.2.2.2.1 x b' (c.sub x b' z.2)),λp hp=>M' (show p∈([]:List (aj×iN)) from hp) (by simp)⟩
 have loop:codeAny (az X.prog X.w) X.A (.compLoop (.ListComp χ [⟨η,iter,ρ,0⟩] scope pos) 0 (.ref it) (.ref D) (Ft scope ((x0,s.heap.objs.size+1)::cl) s.heap.objs.size X.env)) (R s.heap.objs.size) {s with heap:=U4 s.heap}:=by
  refine Qu (EX:=λ_ _=>False) (λ_ _ z=>z.elim) (λn s'=>∃i ys σ' H',zF (yu X Nc scope x0 cl s.heap.objs.size fp s H) [] σ' H' s'/\tn i s'.heap/\(∀b∈fp,H' b=none)/\W i n ys σ' H') ?_ m0 ⟨0,[],_,H,J0,st1,λb hb=>(f b hb).1,w0⟩;rintro n s2 ⟨i,ys,σ2,H2,J2,ε,fr2,w2⟩;have q2:=wi i n ys σ2 H2 w2;rcases wt i n ys σ2 H2 w2 with⟨stop,qn⟩ |⟨go,N,hN,step⟩
  ·refine qC (T.done (yu X Nc scope x0 cl s.heap.objs.size fp s H) Z Z Z Z' i [] s2 σ2 H2 _ J2 (fpY fr2) ε stop) λr s4 hM=>?_;obtain⟨hr,I4⟩:=hM;subst hr;exact δ9 _ ys σ2 H2 _ hC0 I4 q2 qn
  ·refine qC (T.item (yu X Nc scope x0 cl s.heap.objs.size fp s H) Z Z Z Z' i [] s2 σ2 H2 _ J2 (fpY fr2) ε go) λr s4 hM=>?_;obtain⟨u,hr,h4⟩:=hM;subst hr;refine qC h4 λ_ s5 hM=>?_;obtain⟨x,H5,I5,r5,y5,st5,fr5⟩:=hM;have I5':=I5.pinned (fpY fr5) (T.obj _ _ st5)
   have back:∀{σ7:St} {H7:Hp} {s7:av},zF (yu X Nc scope x0 cl s.heap.objs.size fp s H) ([]++vx fp s5.heap) σ7 H7 s7->zF (yu X Nc scope x0 cl s.heap.objs.size fp s H) [] σ7 H7 s7/\tn (i+1) s7.heap/\∀b∈fp,H7 b=none:=λ{σ7 H7 s7} I7=>by
    refine⟨I7.unpinned,T.keep _ _ _ st5 λb hb o e=>(I7.pin (b,o) (dm _ (dm _ (yV hb e)))).1,λb hb=>?_⟩;obtain⟨o,e,d⟩:=T.obj _ _ st5 b hb;exact(I7.pin (b,o) (dm _ (dm _ (yV hb e)))).2.1
   refine qC (bg _ s5 σ2 H5 x u _ I5' r5 (step x H5 y5)) λ_ s6 hM=>?_;obtain⟨σ6,H6,I6,q6⟩:=hM;refine qC (bi _ s6 σ6 H6 _ I6 q6) λb s7 hM=>?_;obtain⟨H7,I7,q7⟩:=hM
   cases b with
   |false=>
    obtain⟨m',hm,w7⟩:=hN _ _ _ q7;obtain⟨J7,st7,fr7⟩:=back I7;exact⟨m',hm,i+1,ys,σ6,H7,J7,st7,fr7,w7⟩
   |true=>
    refine qC (be _ s7 σ6 H7 _ I7 q7) λy s8 hM=>?_;obtain⟨vy,H8,I8,ry,hD8,hl8,n8⟩:=hM;refine qC (qT (X:=yu X Nc scope x0 cl s.heap.objs.size fp s H) _ s8 σ6 H8 (.ref D) [vy] (.ref D) [y] (λ_ H'=>H'=upd H8 D (.lst (ys++[vy]))) I8 Z (.cons ry .nil) ⟨D,ys,vy,Z,Z,hD8,hl8,Z⟩) λ_ s9 hM=>?_;obtain⟨_,H9,I9,_,e9⟩:=hM;subst e9;obtain⟨m',hm,w8⟩:=hN _ _ _ n8;obtain⟨J9,st9,fr9⟩:=back I9;exact⟨m',hm,i+1,ys++[vy],σ6,_,J9,st9,fr9,w8⟩
 exact Az loop (T.self _ 0 _ _ _ st1 loop)
theorem gU (I:zF X N' σ H s)(f:∀b∈fp,yj X N' H b)(J:zF (yu X Nc scope x0 cl C fp s H) [] σ' H' s')(hs:ik C s'.heap h'):
  zF X N' σ H' {s' with heap:=h'}:=by
 have nC:∀b o,s.heap.get? b=some o->b≠C:=λb o e=>CM (dP (CH e) J.ok.above);have B:=J.base;refine I.call' (s':={s' with heap:=h'}) (ch:=fp) J.os ⟨λb o e n hb hx=>(hs.2 b (nC b o e)).trans (B.keep b o e n hb hx),λb o e n hb hx=>?_,B.free,λb o e hx=>?_,B.tups,B.frzs,B.tbls⟩ (λb u q=>?_) J.bare λb hb=>?_
 ·obtain⟨sl,z⟩:=B.slot b o e n hb hx;exact⟨sl,(hs.2 b (nC b o e)).trans z⟩
 ·obtain⟨o',z⟩:=B.there b o e hx;exact⟨o',(hs.2 b (nC b o e)).trans z⟩
 ·have hC:H' C=none:=J.free;refine(J.hok b u q).stay (λc v hc z=>(hs.2 c ?_).trans z) (λ_ z=>z) λ_ _ z=>z;rintro rfl;rcases hc with hc |hc
  ·rw[<- hc,hC]at q;cases q
  ·rw[hC]at hc;cases hc
 ·exact⟨(f b hb).2.2.2.1,(f b hb).2.1,(f b hb).2.2.2.2.1,(f b hb).2.2.2.2.2⟩
theorem LG {pos:iS}(c:G7 X Nc scope cl src x0)(Z':X.calm=true)(hi:PI X η iter wi)(hb:∀fp C s' H',PG (yu X Nc scope x0 cl C fp s' H') η g/\vf (yu X Nc scope x0 cl C fp s' H') ρ tt/\PE (yu X Nc scope x0 cl C fp s' H') χ te)(hs:∀x,i7 iter X.env x=pure x:=by intro _;rfl):PE X (.ListComp χ [⟨η,iter,ρ,0⟩] scope pos) (Zj src wi g tt te):=by
 intro N' s σ H Q I h;rw[FR];refine iI (use:=none) rfl hs c.clos c.kind c.names (qC (hi N' s σ H _ I h) λv s1 h1=>qC h1 λitv s2 h2=>?_);obtain⟨it,fp,tn,J,H2,e,I2,T,ε,f2,hT⟩:=h2;subst e;refine a_ ?_ (by size_fits);have θ:∀b o,s2.heap.get? b=some o->(s2.heap.push {cls:=.type "list",data:=.seq ([]:List ae).toArray}).get? b=some o:=λb o e=>CN _ e;have I3:=I2.laid (a:=s2.heap.objs.size) (o:=.lst []) (t':=s2.toks) (h':=s2.heap.push {cls:=.type "list",data:=.seq ([]:List ae).toArray}) θ (Cz _) ⟨CP _,[],0,.nil,dj _ Z⟩
 have ne:∀b∈fp,b≠s2.heap.objs.size:=λb hb=>by
  obtain⟨o,e,_⟩:=T.obj 0 _ ε b hb;exact CM (CH e)
 have f3:∀b∈fp,yj X N' (upd H2 s2.heap.objs.size (.lst [])) b:=λb hb=>⟨by rw[zx (ne b hb)];exact(f2 b hb).1,(f2 b hb).2⟩;refine WI (it:=it) (R:=λC=>F7 (az X.prog X.w) X.A X.xe none (EP X N' σ Q) _ C) c Z' I3 T (T.keep _ _ _ ε λb _ o e=>θ b o e) f3 (hb fp) (hT _ (I2.hok.fresh (Cz _))) λC ys σ' H' s' hC J' hD q=>?_;obtain⟨m,hn,_⟩:=id J'.loc;exact⟨m,hn,λh' ψ=>⟨.ref _,H',gU I3 f3 J' ψ,Z,q⟩⟩
end
end L2
variable {W':List (List af)}
namespace Pg
open PySem L2
structure qG (H:Hp)(ys:List V)(W':List (List af)):Prop where
 len:ys.length=W'.length
 at_:∀(i:Nat) (r:List af),W'[i]?=some r->∃a,ys[i]?=some (V.ref a)/\H a=some (.lst (r.map V.str))
section
theorem qG.same (T:qG H ys W')(s:zj H H'):qG H' ys W':=⟨T.len,λi r e=>by
 obtain⟨a,h1,h2⟩:=T.at_ i r e;exact⟨a,h1,s _ _ h2⟩⟩
theorem qG.mono (T:qG H ys W')(k:∀b r,H b=some (.lst r)->V.ref b∈ys->H' b=some (.lst r)):qG H' ys W':=⟨T.len,λi r e=>by
 obtain⟨a,h1,h2⟩:=T.at_ i r e;exact⟨a,h1,k _ _ h2 (dv h1)⟩⟩
theorem qG.snoc (T:qG H ys W')(h:H a=some (.lst (r.map V.str))):qG H (ys++[.ref a]) (W'++[r]):=by
 refine⟨by rw[CA,CA,T.len];rfl,λi d e=>?_⟩
 by_cases hi:i<W'.length
 ·rw[dF hi]at e;rw[dF (by rw[T.len];exact hi)];exact T.at_ i d e
 ·have hi:=dY hi;rw[dk hi]at e;rw[dk (by rw[T.len];exact hi),T.len]
  cases q:i-W'.length with
  |zero=>
   rw[q]at e;cases e;exact⟨a,Z,h⟩
  |succ n=>
   rw[q]at e;cases e
theorem qG.of_at (T:qG H ys W')(h:ys[i]?=some y):∃a r,y=.ref a/\W'[i]?=some r/\H a=some (.lst (r.map V.str)):=by
 have hi:i<W'.length:=by rw[<- T.len];exact(CV.mp h).1
 obtain⟨a,h1,h2⟩:=T.at_ i _ (CC hi);rw[h]at h1;exact⟨a,_,ai h1,CC hi,h2⟩
end
structure vY (W':List (List af))(n:Nat):Prop where
 wide:∀r∈W',r.length=n
 text:∀r∈W',∀z∈r,z.length<=60
 n1:1<=n
 n2:n<=70
 t1:1<=W'.length
 t2:W'.length<=60
def w4 (r:List af)(k:Nat):Nat:=(r.getD k aC).length
def Xe (l:List Nat):Nat:=l.foldr max 0
theorem M6 {x:Nat}(h:x∈l):x<=Xe l:=by
 induction l with
 |nil=>cases h
 |cons a r ih=>
  show x<=max a (Xe r);rcases CF.mp h with rfl |h
  ·exact Nat.le_max_left _ _
  ·exact CD (ih h) (Nat.le_max_right _ _)
theorem xK (h:l≠[]):Xe l∈l:=by
 induction l with
 |nil=>exact M' rfl h
 |cons a r ih=>
  show max a (Xe r)∈_
  by_cases e:r=[]
  ·subst e;rw[show max a (Xe [])=a from M_ (CP _)];exact CG
  ·rcases Nat.le_total a (Xe r) with c |c
   ·rw[Nat.max_eq_right c];exact CK _ (ih e)
   ·rw[M_ c];exact CG
def kI (W':List (List af))(k:Nat):Nat:=Xe (W'.map λr=>w4 r k)
def vM (W':List (List af))(n:Nat):List Nat:=(aQ n).map (kI W')
def yG (r:List af)(ws:List Nat):List af:=(aH (λz (w:Nat)=>iL z w) r ws).set 0 (u_ (r.getD 0 aC) ((ws.getD 0 0:Nat):Int))
def kQ (r:List af)(ws:List Nat):af:=Ah (aF "  " (yG r ws)) " "
def jM (W':List (List af))(n:Nat):List af:=W'.map λr=>kQ r (vM W' n)
section
theorem vY.cell (T:vY W' n)(hr:r∈W')(k:Nat):w4 r k<=60:=by
 unfold w4
 by_cases hk:k<r.length
 ·rw[dD,CC hk];exact T.text r hr _ (DA hk)
 ·rw[dD,dO (dY hk)];exact CP _
theorem vY.ne (T:vY W' n)(k:Nat):W'.map (λr=>w4 r k)≠[]:=λe=>by
 have h:=G' iB e;rw[Cw]at h;have t:=T.t1;rw[h]at t;exact M' t (by decide)
theorem vY.col (T:vY W' n)(k:Nat):kI W' k<=60:=by
 obtain⟨r,hr,e⟩:=CB.mp (xK (T.ne k));unfold kI;rw[<- e];exact T.cell hr k
theorem Xk (hr:r∈W')(k:Nat):w4 r k<=kI W' k:=M6 (CB.mpr ⟨r,hr,Z⟩)
theorem uf:(vM W' n).length=n:=by unfold vM;rw[Cw,d9]
theorem bK {k:Nat}(h:k<n):(vM W' n)[k]?=some (kI W' k):=by
 unfold vM;rw[CI,Ef h];rfl
theorem Mn {w m:Nat}(h1:z.length<=m)(h2:w<=m):(iL z (w:Nat)).length<=m/\(u_ z (w:Nat)).length<=m:=by
 have hl:=zq z;rw[zq,zq,w5,wI,CA,CA,Dh];omega
theorem uD {ws:List Nat}(h:r.length=n)(hw:ws.length=n):(yG r ws).length=n:=by
 unfold yG;rw[fo,EA,h,hw,Ec]
theorem kU {ws:List Nat}(h:r.length=n)(hw:ws.length=n)(h1:1<=n):(yG r ws)[0]?=some (u_ (r.getD 0 aC) ((ws.getD 0 0:Nat):Int)):=by
 unfold yG;rw[EM (by rw[EA,h,hw,Ec];lia)]
theorem W2 {ws:List Nat}{k:Nat}(h:r.length=n)(hw:ws.length=n)(hk:k<n)(h0:k≠0):(yG r ws)[k]?=some (iL (r.getD k aC) ((ws.getD k 0:Nat):Int)):=by
 unfold yG;rw[fj (λe=>h0 e.symm),fQ,CC (by lia:k<r.length),CC (by lia:k<ws.length),dD,dD,CC (by lia:k<r.length),CC (by lia:k<ws.length)];rfl
end
theorem gz (sep:af)(m:Nat):∀(zs:List af) (O':Nat),(∀z∈zs,z.length<=m)->zs.foldl (λa z=>a+z.length+sep.length) O'<=O'+zs.length*(m+sep.length):=by
 intro zs
 induction zs with
 |nil=>intro O' _;simp
 |cons z r ih=>
  intro O' h;rw[dU];have h1:=ih (O'+z.length+sep.length) λz hz=>h z (CK _ hz);have h2:=h z CG;rw[CY,Kr];omega
theorem LS {sep:af}{m:Nat}(hs:sep.length<=2):∀(k:Nat) (zs:List af),zs.length=k->(∀z∈zs,z.length<=m)->(aF sep zs).length<=k*(m+2):=by
 intro k
 induction k with
 |zero=>
  intro zs e _;rw[Dd.mp e];exact CP _
 |succ k ih=>
  intro zs e h;rcases DN zs with rfl |⟨r,z,rfl⟩
  ·cases e
  ·rw[DC]at e h ⊢;have er:r.length=k:=by rw[CA,dN]at e;lia
   have hz:=h z (dm _ CG);have hr:=ih r er λz hz=>h z (dX _ hz);rw[Kr]
   by_cases c:r=[]
   ·subst c;rw[Di,Zp];lia
   ·rw[km _ _ c,qB,qB];lia
theorem yU {sep:af}{m k:Nat}(h:∀z∈zs,z.length<=m)(hk:zs.length<=k)(hs:sep.length<=2)(hz:AD (k*(m+2)) 1000000=true):FU sep zs=true/\(aF sep zs).length<=k*(m+2):=by
 have h1:=gz sep m zs 0 h;have h2:zs.length*(m+sep.length)<=k*(m+2):=Nat.mul_le_mul hk (eX hs _);have h3:=eT hz;constructor
 ·unfold FU y_;rw[I_,Dg,decide_eq_false_iff_not,ah];omega
 ·exact CD (LS hs _ zs Z h) (Ig _ hk)
def xi:Sp:=λvs H Q _=>∃i,vs=[.int i]/\Q .non H
def WE:Sp:=λvs H Q _=>∃z,vs=[.int z]/\0<=z/\z<=119999/\Q (.int (z/12)) H
def Vt:Sp:=λvs H Q _=>∃z,vs=[.int z]/\0<=z/\z<=119999/\Q (.int (z%12+1)) H
def ke:Sp:=λvs H Q _=>∃z,vs=[.int z]/\0<=z/\z<=119999/\Q (.str (q9 z)) H
def Uw:Sp:=λvs H Q _=>∃a,vs=[.int a]/\yB a<10 ^ 40/\∀H',zj H H'->Q (.str (qW a)) H'
def uv (ws:List Nat):List V:=ws.map λw=>V.int (w:Nat)
def JG:Sp:=λvs H Q _=>∃t ys W' n,vs=[.ref t]/\H t=some (.lst ys)/\qG H ys W'/\vY W' n/\∀r H',zj H H'->H r=none->H' r=some (.lst (uv (vM W' n)))->Q (.ref r) H'
def xO:Sp:=λvs H Q _=>∃a b r ws n,vs=[.ref a,.ref b]/\H a=some (.lst (r.map V.str))/\H b=some (.lst (uv ws))/\r.length=n/\ws.length=n/\1<=n/\n<=70/\(∀z∈r,z.length<=60)/\(∀w∈ws,w<=60)/\∀H',zj H H'->Q (.str (kQ r ws)) H'
def Yk:Sp:=λvs H Q _=>∃t ys W' n,vs=[.ref t]/\H t=some (.lst ys)/\qG H ys W'/\vY W' n/\∀r H',zj H H'->H r=none->H' r=some (.lst ((jM W' n).map V.str))->Q (.ref r) H'
theorem uV (T:qG H ys W'):jq H ys W' (λH' v r=>∃b,v=.ref b/\H' b=some (.lst (r.map V.str))) :=
 ⟨T.len,λi y h=>by
  obtain⟨a,r,rfl,h1,h2⟩:=T.of_at h;exact⟨r,h1,λH' s=>⟨a,Z,s _ _ h2⟩⟩⟩
theorem yE (zs:List af):jq H (zs.map V.str) zs (λ_ v z=>v=.str z) :=
 ⟨Cw _,λi y h=>by
  rw[CI]at h;obtain⟨z,h1,rfl⟩:=CS.mp h;exact⟨z,h1,λ_ _=>rfl⟩⟩
theorem ku (n:Nat):jq H ((aQ n).map λk=>V.int (0+(k:Nat))) (aQ n) (λ_ v k=>v=.int (k:Nat)) :=
 ⟨Cw _,λi y h=>by
  rw[CI]at h;obtain⟨z,h1,rfl⟩:=CS.mp h;exact⟨z,h1,λ_ _=>by rw[Int.zero_add]⟩⟩
theorem Qq {k:Nat}(h:k<r.length):atI (r.map V.str) (k:Nat)=some (.str (r.getD k aC)):=jG (by rw[CI,CC h,dD,CC h];rfl)
theorem Rc {ws:List Nat}{k:Nat}(h:k<ws.length):atI (uv ws) (k:Nat)=some (.int (ws.getD k 0:Nat)):=jG (by unfold uv;rw[CI,CC h,dD,CC h];rfl)
theorem Ym (T:vY W' n)(k:Nat):((kI W' k:Nat):Int)∈W'.map (λr=>((w4 r k:Nat):Int))/\∀x∈W'.map (λr=>((w4 r k:Nat):Int)),x<=((kI W' k:Nat):Int):=by
 constructor
 ·obtain⟨r,hr,e⟩:=CB.mp (xK (T.ne k));exact CB.mpr ⟨r,hr,G' _ e⟩
 ·intro x hx;obtain⟨r,hr,rfl⟩:=CB.mp hx;exact Int.ofNat_le.mpr (Xk hr k)
theorem o3 {w:Nat}(h:w<=60):U_ (w:Nat)=true:=by
 unfold U_ y_;rw[dJ,CW];constructor
 ·unfold fitsSsize;rw[Dg,Bool.or_eq_false_iff];exact⟨j' (by lia),j' (by lia)⟩
 ·rw[Dg,decide_eq_false_iff_not,ah];lia
theorem mC (h:1<=n):XT n 0=some 0:=by
 unfold XT;rw[L' (DB 0),L' (by lia)];rfl
theorem G9 {l:List α}{d:α}{k:Nat}{p:α->Prop}(h:∀x∈l,p x)(hd:p d):p (l.getD k d):=by
 rw[dD]
 by_cases hk:k<l.length
 ·rw[CC hk];exact h _ (DA hk)
 ·rw[dO (dY hk)];exact hd
theorem ub {ws:List Nat}(lr:r.length=n)(lw:ws.length=n)(n1:1<=n)(tx:∀z∈r,z.length<=60)(wx:∀w∈ws,w<=60):∀z∈yG r ws,z.length<=60:=λz hz=>by
 obtain⟨k,hk⟩:=Dy.mp hz
 have kn:k<n:=by
  rw[<- uD lr lw];exact(CV.mp hk).1
 have:=Mn (z:=r.getD k aC) (w:=ws.getD k 0) (G9 (p:=λz:af=>z.length<=60) tx (CP _)) (G9 (p:=λw:Nat=>w<=60) wx (CP _))
 by_cases h0:k=0
 ·subst h0;rw[kU lr lw n1]at hk;cases hk;exact this.2
 ·rw[W2 lr lw kn h0]at hk;cases hk;exact this.1
theorem ZN (T:vY W' n):∀w∈vM W' n,w<=60:=λw hw=>by
 obtain⟨k,_,rfl⟩:=CB.mp hw;exact T.col k
end Pg
set_option maxHeartbeats 4000000
variable {Ct:L2.CT}
namespace K27
open PySem PySem.NumText L2 Pg
seal PE PA PT PW PS jg PG vW PI vf PO PK
section
variable {K:BFr}{mg:af->Option ae}
theorem lE (F:jn K "need_amount" "need_amount" (qH 20) f fd)(C1:jw P w K mg base qQ 1 "is_number" ["thing"] (uM K)):qD P w K mg base qQ 2 f fd ["thing"] xi:=by
 refine F.ok (N:=["thing"]) (by walk_at"s") (λvs H Q E h=>?_) (λV' A outer s H vs Q E hr h=>?_)
 ·obtain⟨i,rfl,_⟩:=h;rfl
 ·obtain⟨i,rfl,q⟩:=h;refine⟨_,zi (qm (yx (yg (zG C1 hr (by decide) zT (za (pv 0) zd)))) Vw zQ),?_⟩;exact⟨_,Z,_,Z,.inl ⟨i,Z,true,Z,qO q⟩⟩
theorem OW (F:jn K "place_of" "place_of" (qH 46) f fd)(N1:Gi mg "YEAR_MONTHS" 12)(C1:jw P w K mg base qQ 3 "need_month" ["thing"] (YN 119999)):qD P w K mg base qQ 4 f fd ["month"] Vt:=by
 obtain⟨tm,hm⟩:=N1;refine F.ok (N:=["month"]) (by walk_at"s") (λvs H Q E h=>?_) (λV' A outer s H vs Q E hr h=>?_)
 ·obtain⟨v,rfl,_⟩:=h;rfl
 ·obtain⟨z,rfl,h0,h1,q⟩:=h;refine⟨_,zh (yR (zG C1 hr (by decide) zT (za (pv 0) zd))) (zi (zB (zm qu (zm qg (pv 0) (qe (v:=.int 12) Z hm ⟨_,Z⟩)) ze))),?_⟩;exact⟨_,Z,z,Z,h0,h1,_,Z,_,_,Z,Z,(by show(0:Int)<12;decide),_,_,Z,Z,q⟩
theorem LH (F:jn K "year_of" "year_of" (qH 45) f fd)(N1:Gi mg "YEAR_MONTHS" 12)(C1:jw P w K mg base qQ 3 "need_month" ["thing"] (YN 119999)):qD P w K mg base qQ 4 f fd ["month"] WE:=by
 obtain⟨tm,hm⟩:=N1;refine F.ok (N:=["month"]) (by walk_at"s") (λvs H Q E h=>?_) (λV' A outer s H vs Q E hr h=>?_)
 ·obtain⟨v,rfl,_⟩:=h;rfl
 ·obtain⟨z,rfl,h0,h1,q⟩:=h;refine⟨_,zh (yR (zG C1 hr (by decide) zT (za (pv 0) zd))) (zi (zB (zm q8 (pv 0) (qe (v:=.int 12) Z hm ⟨_,Z⟩)))),?_⟩;exact⟨_,Z,z,Z,h0,h1,_,Z,_,_,Z,Z,⟨by decide,by decide⟩,q⟩
theorem ON (F:jn K "month_text" "month_text" (qH 48) f fd)(G:wk mg)(Cp:jw P w K mg base qQ 4 "place_of" ["month"] Vt)(Cy:jw P w K mg base qQ 4 "year_of" ["month"] WE)(Ct:jw P w K mg base qQ 1 "year_text" ["year"] ZL):qD P w K mg base qQ 5 f fd ["month"] ke:=by
 have nd:(["month","place"]:List af).Nodup:=by decide+kernel
 refine F.ok (N:=["month","place"]) (by walk_at"s") (λvs H Q E h=>?_) (λV' A outer s H vs Q E hr h=>?_)
 ·obtain⟨v,rfl,_⟩:=h;rfl
 ·obtain⟨z,rfl,h0,h1,q⟩:=h
  refine⟨_,zh (zE (i:=1) nd Z (ax Z) (qX aA sM sL ZI (zY yr Z G.str yO (za (zG Cp hr (by decide) zT (za (pv 0) zd)) zd)) (za ze zd)))
   (zi (zB (zm zS (zm zS (zG Ct hr (by decide) zT (za (zG Cy hr (by decide) zT (za (pv 0) zd)) zd)) zv) (pv 1)))),?_⟩
  have y0:0<=z/12:=BG h0;have y1:z/12<=9999:=bJ h1;have ly:=Qe y0 y1;have lp:(Zi (z%12+1)).length=2:=uN (rh z) (rm z);refine⟨_,Z,z,Z,h0,h1,z%12+1,Z,jT (rh z) (cZ z),Z,_,_,Z,Z,by decide+kernel,?_⟩;refine⟨_,Z,z,Z,h0,h1,z/12,Z,y0,y1,_,_,Z,Z,by rw[ly,vN];exact vT (Cz _) Z,_,Z,_,_,Z,Z,?_,q⟩;show(Vk (z/12)++("-":af)).length+(Zi (z%12+1)).length<=ar;rw[qB,ly,vN,lp];exact vT (Cz _) rfl
theorem Um (F:jn K "year_text" "year_text" (qH 47) f fd)(G:wk mg):qD P w K mg base qQ 1 f fd ["year"] ZL:=by
 refine F.ok (N:=["year"]) (by walk_at"s") (λvs H Q E h=>?_) (λV' A outer s H vs Q E hr h=>?_)
 ·obtain⟨z,rfl,_⟩:=h;rfl
 ·obtain⟨z,rfl,h0,h1,q⟩:=h;refine⟨_,zi (zB (qX aA sM sL ZI (zY yr Z G.str yO (za (pv 0) zd)) (za ze zd))),?_⟩;exact⟨_,Z,z,Z,jT h0 (by lia),Z,_,_,Z,Z,by decide+kernel,q⟩
end
end K27
variable {prss:List (List (af×Int))}
namespace Pg
open PySem L2
def UT (t:List (af×Int))(p:af×Int):List (af×Int):=Jd t p.1 (qY t p.1+p.2)
def y9 (t prs:List (af×Int)):List (af×Int):=prs.foldl UT t
def vE (prss:List (List (af×Int))):List (af×Int):=prss.foldl y9 []
theorem LB {t:List (af×Int)}(h:(t.map (·.1)).Nodup):((y9 t prs).map (·.1)).Nodup:=by
 unfold y9
 induction prs generalizing t with
 |nil=>exact h
 |cons p r ih=>exact ih (pA h)
theorem MM {t:List (af×Int)}(h:(t.map (·.1)).Nodup):((prss.foldl y9 t).map (·.1)).Nodup:=by
 induction prss generalizing t with
 |nil=>exact h
 |cons p r ih=>exact ih (LB h)
theorem jx (prss:List (List (af×Int))):((vE prss).map (·.1)).Nodup:=MM fJ
theorem lu {t:List (af×Int)}{y:af}{v:Int}:y∈(Jd t z v).map (·.1)↔y=z∨y∈t.map (·.1):=by
 have h:=xo t z y v
 have key:∀(l:List (af×Int)),y∈l.map (·.1)↔(yP l y).isSome=true:=λl=>by
  constructor
  ·intro m
   cases e:yP l y with
   |some v=>rfl
   |none=>
    obtain⟨p,hp,e1⟩:=CB.mp m;unfold yP at e;rw[Option.map_eq_none_iff,List.find?_eq_none]at e;exact M' (i' e1) (e p hp)
  ·intro m;obtain⟨v,e⟩:=DG.mp m;exact CB.mpr ⟨(y,v),kr e,Z⟩
 rw[key,key,h]
 by_cases e:y=z
 ·rw[L' e]
  simp[e]
 ·rw[K' e]
  simp[e]
theorem xY {t:List (af×Int)}{y:af}:y∈(y9 t prs).map (·.1)↔y∈t.map (·.1)∨y∈prs.map (·.1):=by
 unfold y9
 induction prs generalizing t with
 |nil=>simp
 |cons p r ih=>
  rw[dU,ih];unfold UT;rw[lu,CO,CF];constructor
  ·rintro ((h |h) |h)
   ·exact .inr (.inl h)
   ·exact .inl h
   ·exact .inr (.inr h)
  ·rintro (h |h |h)
   ·exact .inl (.inr h)
   ·exact .inl (.inl h)
   ·exact .inr h
theorem Oa {t:List (af×Int)}{y:af}:y∈(prss.foldl y9 t).map (·.1)↔y∈t.map (·.1)∨∃prs∈prss,y∈prs.map (·.1):=by
 induction prss generalizing t with
 |nil=>simp
 |cons p r ih=>
  rw[dU,ih,xY];constructor
  ·rintro ((h |h) |⟨q,h1,h2⟩)
   ·exact .inl h
   ·exact .inr ⟨p,CG,h⟩
   ·exact .inr ⟨q,CK _ h1,h2⟩
  ·rintro (h |⟨q,h1,h2⟩)
   ·exact .inl (.inl h)
   ·rcases CF.mp h1 with rfl |h1
    ·exact .inl (.inr h2)
    ·exact .inr ⟨q,h1,h2⟩
theorem xG {y:af}:y∈(vE prss).map (·.1)↔∃prs∈prss,y∈prs.map (·.1):=by
 unfold vE;rw[Oa]
 simp
theorem O8 {t:List (af×Int)}(h:¬z∈t.map (·.1)):qY t z=0:=by
 unfold qY;rw[Z9 h];rfl
theorem pY (p:af×Int)(r:List (af×Int))(z:af):qY (p::r) z=if p.1=z then p.2 else qY r z:=by
 unfold qY yP;rw[Dn]
 by_cases e:p.1=z
 ·rw[L' e,i' e];rfl
 ·rw[K' e,j' e]
theorem XD {t:List (af×Int)}(h:(prs.map (·.1)).Nodup):qY (y9 t prs) z=qY t z+qY prs z:=by
 unfold y9
 induction prs generalizing t with
 |nil=>exact(Int.add_zero _).symm
 |cons p r ih=>
  have h:(p.1::r.map (·.1)).Nodup:=h;obtain⟨h1,h2⟩:=Ds.mp h;rw[dU,ih h2,pY];unfold UT;rw[U2]
  by_cases e:z=p.1
  ·subst e;rw[L' Z,L' Z,O8 h1];lia
  ·rw[K' e,K' λc=>e c.symm]
def qS (l:List Int):Int:=l.foldr (· + ·) 0
theorem O4 {t:List (af×Int)}(h:∀prs∈prss,(prs.map (·.1)).Nodup):qY (prss.foldl y9 t) z=qY t z+qS (prss.map λprs=>qY prs z):=by
 induction prss generalizing t with
 |nil=>exact(Int.add_zero _).symm
 |cons p r ih=>
  rw[dU,ih λq hq=>h q (CK _ hq),XD (h p CG),CO];show _=_+(_+_);unfold qS;lia
theorem U3 (h:∀prs∈prss,(prs.map (·.1)).Nodup):qY (vE prss) z=qS (prss.map λprs=>qY prs z):=by
 unfold vE;rw[O4 h];show 0+_=_;lia
theorem vH (hB:0<=B):∀{l:List Int},(∀x∈l,-B<=x/\x<=B)->-(B*l.length)<=qS l/\qS l<=B*l.length:=by
 intro l
 induction l with
 |nil=>intro _;exact⟨by simp[qS],by simp[qS]⟩
 |cons a r ih=>
  intro h;obtain⟨h1,h2⟩:=h a CG;obtain⟨h3,h4⟩:=ih λx hx=>h x (CK _ hx)
  have e:B*((a::r).length:Nat)=B*(r.length:Nat)+B:=by
   rw[CY,fR,Int.mul_add]
   simp
  have e2:qS (a::r)=a+qS r:=rfl;rw[e,e2];lia
theorem gW [DecidableEq α]:∀{l m:List α},l.Nodup->(∀x∈l,x∈m)->l.length<=m.length:=by
 intro l
 induction l with
 |nil=>intro m _ _;exact CP _
 |cons a r ih=>
  intro m nd h;obtain⟨h1,h2⟩:=Ds.mp nd;have ha:=h a CG
  have:=ih (m:=m.erase a) h2 λx hx=>by
   refine(List.mem_erase_of_ne (show x≠a from λe=>h1 (e ▸ hx))).mpr (h x (CK _ hx))
  rw[List.length_erase_of_mem ha]at this;have hp:=fP ha;rw[CY];lia
structure yZ where
 m:Int
 b:Int
 ds:List (af×Int)
 n:Int
def Sm (x:Int):Prop:=-(10 ^ 30)<=x/\x<=10 ^ 30
structure Bk (nms:List af)(s:yZ):Prop where
 m0:0<=s.m
 m1:s.m<=119999
 b:Sm s.b
 n:Sm s.n
 ds:∀p∈s.ds,Sm p.2
 nm:∀p∈s.ds,p.1∈nms
 len:s.ds.length<=63
variable {sts:List Pg.yZ}
structure vA (nms:List af)(sts:List yZ):Prop where
 few:sts.length<=50
 n11:nms.length<=63
 len:∀z∈nms,z.length<=30
 each:∀s∈sts,Bk nms s
def KT (H H':Hp):Prop:=∀b c,(H b=some (.tup c)->H' b=some (.tup c))/\∀o,H b=some (.frz o (.tup c))->H' b=some (.frz o (.tup c))
theorem KT.same (s:zj H H'):KT H H':=λb c=>⟨λh=>s _ _ h,λo h=>s _ _ h⟩
def uZ (H:Hp)(d:aj)(prs:List (af×Int)):Prop:=∃ts,Rd H d (.tup ts)/\z4 H ts (prs.map cP)
theorem uZ.kt {d:aj}(h:uZ H d prs)(k:KT H H'):uZ H' d prs:=by
 obtain⟨ts,h1,h2⟩:=h;refine⟨ts,?_,h2.mono λb c e=>(k b c).1 e⟩;rcases h1 with h1 |⟨o,h1⟩
 ·exact .inl ((k _ _).1 h1)
 ·exact .inr ⟨o,(k _ _).2 o h1⟩
def Jp (H:Hp)(d:aj)(prs:List (af×Int)):Prop:=∃its n ts,H d=some (.frz (Qa its n) (.tup ts))/\z4 H ts (prs.map cP)
theorem Jp.dues {d:aj}(h:Jp H d prs):uZ H d prs:=by
 obtain⟨its,n,ts,h1,h2⟩:=h;exact⟨ts,.inr ⟨_,h1⟩,h2⟩
theorem Jp.kt {d:aj}(h:Jp H d prs)(k:KT H H'):Jp H' d prs:=by
 obtain⟨its,n,ts,h1,h2⟩:=h;exact⟨its,n,ts,(k _ _).2 _ h1,h2.mono λb c e=>(k b c).1 e⟩
def VV (H:Hp)(v:V)(s:yZ):Prop:=∃a d,v=.ref a/\H a=some (.tup [.int s.m,.int s.b,.ref d,.int s.n])/\Jp H d s.ds
theorem VV.kt {v:V}{s:yZ}(h:VV H v s)(k:KT H H'):VV H' v s:=by
 obtain⟨a,d,e,h1,h2⟩:=h;exact⟨a,d,e,(k _ _).1 h1,h2.kt k⟩
structure yC (H:Hp)(ys:List V)(sts:List yZ):Prop where
 len:ys.length=sts.length
 at_:∀(i:Nat) (y:V),ys[i]?=some y->∃s,sts[i]?=some s/\VV H y s
theorem yC.kt (h:yC H ys sts)(k:KT H H'):yC H' ys sts:=⟨h.len,λi y e=>by
 obtain⟨s,h1,h2⟩:=h.at_ i y e;exact⟨s,h1,h2.kt k⟩⟩
theorem Qy (h:yC H ys sts):jq H ys sts VV:=⟨h.len,λi y e=>by
 obtain⟨s,h1,h2⟩:=h.at_ i y e;exact⟨s,h1,λH' s'=>h2.kt (KT.same s')⟩⟩
def Bz (sts:List yZ):Prop:=∀s∈sts,(s.ds.map (·.1)).Nodup
def yY (sts:List yZ):List (af×Int):=vE (sts.map (·.ds))
theorem Zs:z∈(yY sts).map (·.1)↔∃s∈sts,z∈s.ds.map (·.1):=by
 unfold yY;rw[xG];constructor
 ·rintro ⟨prs,h1,h2⟩;obtain⟨s,hs,rfl⟩:=CB.mp h1;exact⟨s,hs,h2⟩
 ·rintro ⟨s,hs,h2⟩;exact⟨s.ds,CB.mpr ⟨s,hs,Z⟩,h2⟩
theorem vA.names (O:vA nms sts)(h:z∈(yY sts).map (·.1)):z∈nms:=by
 obtain⟨s,hs,hz⟩:=Zs.mp h;obtain⟨p,hp,rfl⟩:=CB.mp hz;exact(O.each s hs).nm p hp
theorem vA.tot_len (O:vA nms sts):(yY sts).length<=63:=by
 have nd:((yY sts).map (·.1)).Nodup:=jx _;have:=gW nd (m:=nms) λx hx=>O.names hx;rw[Cw]at this;have:=O.n11;lia
def j6 (prs:List (af×Int))(z:af):af:=match yP prs z with|some v=>qW v |none=>"-"
def jE (γ8:af)(b:Int)(prs:List (af×Int))(n:Int)(nms:List af):List af:=[γ8,qW b]++nms.map (j6 prs)++[qW n]
def ja (nms:List af):List af:=[("month":af),"base"]++nms++[("net":af)]
def qZ (sts:List yZ)(qs:List (af×Int)):List (List af):=[ja (qs.map (·.1))]++sts.map (λs=>jE (q9 s.m) s.b s.ds s.n (qs.map (·.1)))++[jE "sums" (qS (sts.map (·.b))) qs (qS (sts.map (·.n))) (qs.map (·.1))]
def yD (sts:List yZ)(qs:List (af×Int)):af:=aF "\n" (jM (qZ sts qs) (qs.length+3))
def lQ (qs:List (af×Int)):Prop:=qs.Pairwise (λa b=>¬b.1.cps.toList<a.1.cps.toList)
def QD:Sp:=λvs H Q _=>∃l ys prss,vs=[.ref l]/\H l=some (.lst ys)/\jq H ys prss (λH' v prs=>∃d,v=.ref d/\uZ H' d prs)/\(vE prss).length<64/\prss.length<=100/\(∀prs∈prss,prs.length<=100) /\
 ∀qs t μ H',qs.Perm (vE prss)->lQ qs->zj H H'->H t=none->H' t=some (.tup μ)->z4 H' μ (qs.map cP)->Q (.ref t) H'
def GW:Sp:=λvs H Q _=>∃l ys sts nms,vs=[.ref l]/\H l=some (.lst ys)/\yC H ys sts/\vA nms sts /\
 ∀qs t d μ H',qs.Perm (yY sts)->lQ qs->zj H H'->H' t=some (.tup [.int (qS (sts.map (·.b))),.ref d,.int (qS (sts.map (·.n)))])->H' d=some (.tup μ)->z4 H' μ (qs.map cP)->Q (.ref t) H'
def Jj (x:Int):Prop:=yB x<10 ^ 40
def VH:Sp:=λvs H Q _=>∃d prs z,vs=[.ref d,.str z]/\uZ H d prs/\(∀p∈prs,Jj p.2)/\∀H',zj H H'->Q (.str (j6 prs z)) H'
def Wh:Sp:=λvs H Q _=>∃γ8 b d prs n nl nms,vs=[.str γ8,.int b,.ref d,.int n,.ref nl]/\uZ H d prs/\(∀p∈prs,Jj p.2)/\Jj b/\Jj n/\H nl=some (.lst (nms.map V.str))/\nms.length<=100 /\
 ∀r H',zj H H'->H r=none->H' r=some (.lst ((jE γ8 b prs n nms).map V.str))->Q (.ref r) H'
def WK:Sp:=λvs H Q _=>∃l ys sts nms,vs=[.ref l]/\H l=some (.lst ys)/\yC H ys sts/\vA nms sts/\∀qs H',qs.Perm (yY sts)->lQ qs->zj H H'->Q (.str (yD sts qs)) H'
def Qg:Sp:=λvs H Q _=>∃l ys sts nms,vs=[.ref l]/\H l=some (.lst ys)/\yC H ys sts/\vA nms sts/\Bz sts/\∀qs H',qs.Perm (yY sts)->lQ qs->zj H H'->Q (.str (yD sts qs)) H'
theorem OV {p:af×Int}(hp:prs[i]?=some p)(hn:∀q∈prs.take i,q.1≠z)(e:p.1=z):yP prs z=some p.2:=by
 induction prs generalizing i with
 |nil=>cases hp
 |cons a r ih=>
  unfold yP;rw[Dn]
  cases i with
  |zero=>
   cases hp;rw[i' e];rfl
  |succ i=>
   have ha:a.1≠z:=hn a CG;rw[j' ha];exact ih hp λq hq=>hn q (CK _ hq)
theorem qG.put {tb:aj}{Ψ:List V}{o:HO}(T:qG H Ψ W')(h:H tb=some (.lst Ψ)):qG (upd H tb o) Ψ W':=by
 refine T.mono λb r hb m=>?_;rw[zx (show b≠tb from λe=>?_)]
 ·exact hb
 ·subst e;obtain⟨i,hi⟩:=Dy.mp m;obtain⟨a,r',e1,e2,e3⟩:=T.of_at hi;cases e1;rw[h]at e3;have e3:=HO.lst.inj (ai e3);rw[e3]at m;obtain⟨z,_,e⟩:=CB.mp m;cases e
theorem Xr {x:Int}(h:-(10 ^ 38)<=x/\x<=10 ^ 38):Jj x:=by
 unfold Jj yB
 split<;>lia
theorem uY {x:Int}(h:Sm x):Jj x:=by
 unfold Sm at h;exact Xr (by lia)
theorem uT {l:List Int}(h:∀x∈l,Sm x)(hl:l.length<=50):Jj (qS l):=by
 have:=vH (B:=10 ^ 30) (by decide) (l:=l) h;refine Xr ?_;lia
theorem Oo (hB:0<=B):∀{prs t:List (af×Int)} {z:af} {c:Int},(∀p∈prs,-B<=p.2/\p.2<=B)->-c<=qY t z/\qY t z<=c->-(c+B*prs.length)<=qY (y9 t prs) z/\qY (y9 t prs) z<=c+B*prs.length:=by
 intro prs
 induction prs with
 |nil=>intro t z c _ h;simpa [y9] using h
 |cons p r ih=>
  intro t z c h hc;have hp:=h p CG
  have:=ih (t:=UT t p) (z:=z) (c:=c+B) (λq hq=>h q (CK _ hq)) (by
   unfold UT;rw[U2]
   by_cases e:z=p.1
   ·subst e;rw[L' rfl];lia
   ·rw[K' e];lia)
  have e:B*((p::r).length:Nat)=B*(r.length:Nat)+B:=by
   rw[CY,fR,Int.mul_add]
   simp
  show -(c+B*((p::r).length:Nat))<=qY (y9 (UT t p) r) z/\qY (y9 (UT t p) r) z<=c+B*((p::r).length:Nat);lia
theorem Vn (hB:0<=B):∀{prss:List (List (af×Int))} {t:List (af×Int)} {z:af} {c:Int},(∀prs∈prss,prs.length<=63/\∀p∈prs,-B<=p.2/\p.2<=B)->-c<=qY t z/\qY t z<=c->-(c+63*B*prss.length)<=qY (prss.foldl y9 t) z/\qY (prss.foldl y9 t) z<=c+63*B*prss.length:=by
 intro prss
 induction prss with
 |nil=>intro t z c _ h;simpa using h
 |cons p r ih=>
  intro t z c h hc;obtain⟨h1,h2⟩:=h p CG;have a:=Oo hB (prs:=p) (t:=t) (z:=z) h2 hc
  have m:B*(p.length:Nat)<=63*B:=by
   have:=Int.mul_le_mul_of_nonneg_left (show((p.length:Nat):Int)<=63 by lia) hB;lia
  have:=ih (t:=y9 t p) (z:=z) (c:=c+63*B) (λq hq=>h q (CK _ hq)) (by lia)
  have e:63*B*((p::r).length:Nat)=63*B*(r.length:Nat)+63*B:=by
   rw[CY,fR,Int.mul_add]
   simp
  rw[dU];lia
theorem WL (O:vA nms sts):∀p∈yY sts,Jj p.2:=λp hp=>by
 have nd:((yY sts).map (·.1)).Nodup:=jx _
 have e:p.2=qY (yY sts) p.1:=by
  unfold qY;rw[uF nd hp];rfl
 have:=Vn (B:=10 ^ 30) (by decide) (prss:=sts.map (·.ds)) (t:=[]) (z:=p.1) (c:=0) (λprs h=>by
  obtain⟨s,hs,rfl⟩:=CB.mp h;exact⟨(O.each s hs).len,(O.each s hs).ds⟩) ⟨DB _,DB _⟩
 have few:=O.few;rw[Cw]at this;unfold yY vE at e;rw[e];exact Xr (by lia)
theorem VF {x:Int}(h:Jj x):(qW x).length<=60:=CD (UK h) (by decide)
theorem t9 (h:∀p∈prs,Jj p.2)(z:af):(j6 prs z).length<=60:=by
 unfold j6;split
 ·rename_i v e;exact VF (h _ (kr e))
 ·rw[vN];decide
theorem Pw (h0:0<=m)(h1:m<=119999):(q9 m).length<=60:=by
 unfold q9;rw[qB,qB,Qe (BG h0) (bJ h1),vN,uN (rh m) (rm m)];decide
theorem uK (t:af)(b:Int)(prs:List (af×Int))(n:Int)(nms:List af):(jE t b prs n nms).length=nms.length+3:=by
 unfold jE;rw[CA,CA,Cw];show 2+_+1=_;lia
theorem UP {t:af}{b n:Int}(ht:t.length<=60)(hb:Jj b)(hn:Jj n)(hp:∀p∈prs,Jj p.2):∀z∈jE t b prs n nms,z.length<=60:=λz hz=>by
 unfold jE at hz;simp only[CU,CF,dw,or_false]at hz;rcases hz with ((rfl |rfl) |h) |rfl
 ·exact ht
 ·exact VF hb
 ·obtain⟨y,_,rfl⟩:=CB.mp h;exact t9 hp y
 ·exact VF hn
theorem xX (O:vA nms sts)(pm:qs.Perm (yY sts)):vY (qZ sts qs) (qs.length+3):=by
 have ql:qs.length<=63:=by rw[pm.length_eq];exact O.tot_len
 have qb:∀p∈qs,Jj p.2:=λp hp=>WL O p (pm.mem_iff.mp hp);have few:=O.few;have sb:Jj (qS (sts.map (·.b))):=uT (λx hx=>by obtain⟨s,hs,rfl⟩:=CB.mp hx;exact(O.each s hs).b) (by rw[Cw];exact few);have sn:Jj (qS (sts.map (·.n))):=uT (λx hx=>by obtain⟨s,hs,rfl⟩:=CB.mp hx;exact(O.each s hs).n) (by rw[Cw];exact few)
 have tl:(qZ sts qs).length=sts.length+2:=by
  unfold qZ;rw[CA,CA,Cw];show 1+_+1=_;lia
 refine⟨λr hr=>?_,λr hr=>?_,by lia,by lia,by lia,by lia⟩
 ·unfold qZ at hr;simp only[CU,CF,dw,or_false]at hr;rcases hr with (rfl |h) |rfl
  ·unfold ja;rw[CA,CA,Cw];show 2+_+1=_;lia
  ·obtain⟨s,_,rfl⟩:=CB.mp h;rw[uK,Cw]
  ·rw[uK,Cw]
 ·unfold qZ at hr;simp only[CU,CF,dw,or_false]at hr;rcases hr with (rfl |h) |rfl
  ·intro z hz;unfold ja at hz;simp only[CU,CF,dw,or_false]at hz;rcases hz with ((rfl |rfl) |h) |rfl
   ·decide+kernel
   ·decide+kernel
   ·refine CD (O.len z (O.names ?_)) (by decide);obtain⟨p,hp,rfl⟩:=CB.mp h;exact CB.mpr ⟨p,pm.mem_iff.mp hp,Z⟩
   ·decide+kernel
  ·obtain⟨s,hs,rfl⟩:=CB.mp h;have o:=O.each s hs;exact UP (Pw o.m0 o.m1) (uY o.b) (uY o.n) λp hp=>uY (o.ds p hp)
  ·exact UP (by decide+kernel) sb sn qb
theorem mD (T:vY W' n)(hr:r∈W'):(kQ r (vM W' n)).length<=4340:=by
 have cj:=yU (sep:="  ") (zs:=yG r (vM W' n)) (m:=60) (k:=70) (ub (T.wide r hr) uf T.n1 (T.text r hr) (ZN T)) (by rw[uD (T.wide r hr) uf];exact T.n2) (by decide+kernel) rfl;unfold kQ;rw[zq,vp];unfold js;rw[CQ,<- zq];omega
theorem Vo (T:vY W' n):FU "\n" (jM W' n)=true:=by
 refine(yU (m:=4340) (k:=60) (λz hz=>?_) (by unfold jM;rw[Cw];exact T.t2) (by decide+kernel) Z).1;obtain⟨r,hr,rfl⟩:=CB.mp hz;exact mD T hr
def GQ:Sp:=λvs H Q _=>∃n k,vs=[.int n,.int k]/\0<=n/\n<2147483629/\0<=k/\k<=1000/\∀v,0<=v->v<2147483629->Q (.int v) H
def Le:Sp:=λvs H Q _=>∃n,vs=[.int n]/\0<=n/\n<536870911/\∀v H',0<=v->v<=10 ^ 17->zj H H'->Q (.int v) H'
def ZG:Sp:=λvs H Q _=>∃a,vs=[.int a]/\Jj a/\Q (.str (qW a)) H
theorem nQ {z:Int}(h0:0<=z)(h1:z<10 ^ 40):z.natAbs.log2<1920:=by
 by_cases c:z.natAbs=0
 ·rw[c];decide
 ·refine(K4 c).mpr (dP (show z.natAbs<2 ^ 133 by lia) (fS (by decide) (by decide)))
def Cg (K:BFr):List V->Hp->VK->Prop:=λxs H Q=>∃x c cv t b,xs=[x,c]/\tX c=some cv/\BC K H x t/\aB K t cv=some b/\Q (.bl b) H
def Cn (K:BFr)(w:af)(c:aj):TE:=Y9 (z6 (tC (.str w)) (z6 (p7 (Cg K) (z6 (zN 0) (z6 (tC (.ref c)) yw))) yw))
def BH (K:BFr):List (af×aj×Bool)->TA
 |[]=>yw
 |x::r=>z6 (Cn K x.1 x.2.1) (BH K r)
def lN (l:List (af×aj×Bool)):List (af×Bool):=l.map λx=>(x.1,x.2.2)
def Jc (H:Hp)(ts:List V)(ps:List (af×Bool)):Prop:=ts.length=ps.length/\∀(i:Nat) p,ps[i]?=some p->∃t,ts[i]?=some (V.ref t)/\H t=some (.tup [.str p.1,.bl p.2])
theorem Jc.same {ps:List (af×Bool)}(h:Jc H ts ps)(s:zj H H'):Jc H' ts ps :=
 ⟨h.1,λi p e=>let ⟨t,e1,e2⟩:=h.2 i p e;⟨t,e1,s _ _ e2⟩⟩
theorem Jc.app {us:List V}{ps qs:List (af×Bool)}(h:Jc H ts ps)(k:Jc H us qs):Jc H (ts++us) (ps++qs):=by
 refine⟨by rw[CA,CA,h.1,k.1],λi p e=>?_⟩
 by_cases hi:i<ps.length
 ·rw[dF hi]at e;obtain⟨t,e1,e2⟩:=h.2 i p e;exact⟨t,by rw[dF (by rw[h.1];exact hi)];exact e1,e2⟩
 ·rw[dk (by lia)]at e;obtain⟨t,e1,e2⟩:=k.2 _ p e;exact⟨t,by rw[dk (by rw[h.1];lia),h.1];exact e1,e2⟩
section
variable {K:BFr}
theorem mj (hσ:σ[0]?=some (some (.ref ea))):∀(l:List (af×aj×Bool)) (H:Hp) (Q:List V->Hp->Prop),VZ K H ea C->(∀x∈l,aB K (.ref C) (.ref x.2.1)=some x.2.2) ->
  (∀ts H',zj H H'->Jc H' ts (lN l)->Q ts H')->BH K l σ H Q
 |[],H,Q,_,_,q=>q [] H (zj.refl _) ⟨Z,λi p e=>nomatch e⟩
 |x::r,H,Q,h,hk,q=>by
  refine⟨_,hσ,_,_,_,_,_,Z,Z,h.ty,hk x CG,z8 Z,λt H1 s1 _ e1=>?_⟩;refine mj hσ r H1 _ (h.same s1) (λy hy=>hk y (CK _ hy)) λts H2 s2 k=>?_;refine q _ H2 (s1.trans s2) ⟨by rw[CY,k.1];rfl,λi p e=>?_⟩
  cases i with
  |zero=>cases e;exact⟨t,Z,s2 _ _ e1⟩
  |succ i=>exact k.2 i p e
theorem rQ (l:List (af×aj×Bool)){Q:VK}(hσ:σ[0]?=some (some (.ref ea)))(h:VZ K H ea C)(hk:∀x∈l,aB K (.ref C) (.ref x.2.1)=some x.2.2)(hl:AD l.length 1000=true)(q:∀p ts H',zj H H'->H' p=some (.lst ts)->Jc H' ts (lN l)->Q (.ref p) H'):oK (BH K l) σ H Q :=
 mj hσ l H _ h hk λts H1 s1 k=>⟨by rw[k.1];unfold lN;rw[Cw];exact z8 hl,λp H2 s2 _ e=>q p ts H2 (s1.trans s2) e (k.same s2)⟩
theorem Vd (l:List (af×aj×Bool)){ps:List (af×Bool)}{Q:VK}(hσ:σ[0]?=some (some (.ref ea)))(h1:σ[1]?=some (some (.ref f)))(hf:H f=some (.lst ts))(kf:Jc H ts ps)(h:VZ K H ea C)(hk:∀x∈l,aB K (.ref C) (.ref x.2.1)=some x.2.2)(hl:AD l.length 1000=true)(hp:AD (ps.length+l.length) 1000=true)(q:∀p us H',zj H H'->H' p=some (.lst us)->Jc H' us (ps++lN l)->Q (.ref p) H'):jA rP (zN 1) (oK (BH K l)) σ H Q:=by
 refine⟨_,h1,rQ l hσ h hk hl λp us H1 s1 e1 k1=>⟨f,p,ts,us,Z,Z,s1 _ _ hf,e1,?_,λr H2 s2 _ e2=>q r _ H2 (s1.trans s2) e2 (((kf.same s1).app k1).same s2)⟩⟩;have:=k1.1;unfold lN at this;rw[Cw]at this;rw[kf.1,this];exact z8 hp
end
end Pg
namespace L2
open PySem PySem.Spec PyProof.Rows
section
variable {d:aj}
end
section
end
inductive cW {α β:Type}(p:α->β->Prop):Prop where
 |mk (a:α) (b:β) (h:p a b):cW p
inductive cU (a b c d:Prop):Prop where
 |mk (h1:a) (h2:b) (h3:c) (h4:d):cU a b c d
section
variable {J:It}{xs:List α}{P:Hp->V->α->Prop}{K:BFr}
end
section
variable {K:BFr}{g:TG}{D:jY}{lo:Int}
abbrev Mo (J:It)(g:TG)(tb:TS)(D:jY)(σ:St)(H:Hp):Prop:=∃W:Nat->Nat->St->Hp->Prop,(∃m,W 0 m σ H)/\∀i m σ H,W i m σ H ->
   (J.stop i H/\D.nx σ H)∨(J.go i H/\∃N:St->Hp->Prop,(∀σ' H',N σ' H'->∃m',m'<m/\W (i+1) m' σ' H')/\∀x H',J.yld i H x H'->g x σ H' λσ2 H2=>tb {D with nx:=N,ct:=N,bk:=D.nx} σ2 H2)
theorem uI (Pv:Nat->St->Hp->Prop)(h0:Pv 0 σ H)(hl:∀i σ H,i<=xs.length->Pv i σ H->zL K H a xs)(hs:∀i x σ H,xs[i]?=some x->Pv i σ H->∀E:jY,(∀σ' H',Pv (i+1) σ' H'->E.nx σ' H')->g x σ H λσ2 H2=>tb E σ2 H2)(hd:∀σ H,Pv xs.length σ H->D.nx σ H):Mo (rN K a) g tb D σ H :=
 Zu Pv h0 hl (λi x σ H hx p=>hs i x σ H hx p _ λ_ _ h=>h) hd
theorem Lp (Pv:Nat->St->Hp->Prop)(h0:Pv 0 σ H)(hl:∀i σ H,i<=xs.length->Pv i σ H->yT K H a xs)(hs:∀i x σ H,xs[i]?=some x->Pv i σ H->∀E:jY,(∀σ' H',Pv (i+1) σ' H'->E.nx σ' H')->g x σ H λσ2 H2=>tb E σ2 H2)(hd:∀σ H,Pv xs.length σ H->D.nx σ H):Mo (RO K a) g tb D σ H :=
 GA Pv h0 hl (λi x σ H hx p=>hs i x σ H hx p _ λ_ _ h=>h) hd
theorem Ja (Pv:Nat->St->Hp->Prop)(h0:Pv 0 σ H)(hs:∀(i:Nat) σ H,i<n->Pv i σ H->∀E:jY,(∀σ' H',Pv (i+1) σ' H'->E.nx σ' H')->g (.int (lo+i)) σ H λσ2 H2=>tb E σ2 H2)(hd:∀σ H,Pv n σ H->D.nx σ H):Mo (N6 lo n) g tb D σ H :=
 OU Pv h0 (λi σ H hx p=>hs i σ H hx p _ λ_ _ h=>h) hd
theorem Vf (Pv:Nat->St->Hp->Prop)(h0:Pv 0 σ H)(hl:∀i σ H,i<=xs.length->Pv i σ H->zL K H a xs)(hs:∀i x p σ H,xs[i]?=some x->Pv i σ H->H p=none->∀E:jY,(∀σ' H',Pv (i+1) σ' H'->E.nx σ' H')->g (.ref p) σ (upd H p (.tup [.int (i:Nat),x])) λσ2 H2=>tb E σ2 H2)(hd:∀σ H,Pv xs.length σ H->D.nx σ H):Mo (Tw K a) g tb D σ H :=
 mq Pv h0 hl (λi x p σ H hx pv p0=>hs i x p σ H hx pv p0 _ λ_ _ h=>h) hd
end
def Ba (t u:TS):TS:=λD σ H=>∃P:St->Hp->Prop,t {D with nx:=P} σ H/\∀σ' H',P σ' H'->u D σ' H'
theorem nY {rest:List sT}{t u:TS}(h1:PS X st t)(h2:jg X rest u):jg X (st::rest) (Ba t u):=by
 intro N' s σ H D I h;obtain⟨P,h,k⟩:=h;refine k_ (qC (h1 N' s σ H {D with nx:=P} I h) λf s1 q=>?_)
 cases f with
 |next=>
  obtain⟨σ',H',I',q⟩:=q;exact h2 N' s1 σ' H' D I' (k _ _ q)
 |ret v=>exact q
 |brk=>exact q
 |cont=>exact q
theorem Ri {t u:TS}{D:jY}(P0:St->Hp->Prop)(h1:∀E:jY,(∀σ' H',P0 σ' H'->E.nx σ' H')->t E σ H)(h2:∀σ' H',P0 σ' H'->u D σ' H'):Ba t u D σ H:=⟨P0,h1 _ λ_ _ h=>h,h2⟩
theorem LR {g:TG}{u:TS}{D:jY}(C:VK->Prop)(h1:∀Q,C Q->te σ H Q)(h2:C λv H1=>g v σ H1 (u D)):lS (gg te g) u D σ H:=h1 _ h2
theorem YO {c:TT}{t u r:TS}{D:jY}(C:(Bool->Hp->Prop)->Prop)(h1:∀Q,C Q->c σ H Q)(h2:C λb H1=>if b=true then t {D with nx:=r D} σ H1 else u {D with nx:=r D} σ H1):lS (rW c t u) r D σ H:=h1 _ h2
theorem jQ {K:BFr}{mg:af->Option ae}{N:List af}{E:XK}:(QZ CX P w K mg base N qual scope f cd A outer s H E).K=K:=rfl
theorem uH:X.nox.K=X.K:=rfl
section
end
end L2
namespace Pg
open PySem L2 PySem.NumText
theorem Lw {k m:Nat}(hk:1<=k):qK (k+1) (dg m)=qK k (dg (m/10))++[48+m%10]:=by
 by_cases h:10<=m
 ·rw[v9 h];unfold qK;rw[CA,dN,fN,dc]
 ·have e:m/10=0:=by lia
  have e2:m%10=m:=by lia
  rw[w9 (by lia),e,w9 (by decide),e2];unfold qK;rw[dN,dN]
  have:aw (k-1) 48++[48+0]=aw (k+1-1) 48:=by
   obtain⟨j,rfl⟩:∃j,k=j+1:=⟨k-1,by lia⟩;show aw j 48++[48]=aw (j+1) 48;exact(Ih ).symm
  rw[this]
theorem mK:∀{k n:Nat},1<=k->10 ^ k<=n->dg n=dg (n/10 ^ k)++qK k (dg (n%10 ^ k)):=by
 intro k
 induction k with
 |zero=>intro n h;lia
 |succ k ih=>
  intro n _ hn
  by_cases hk:k=0
  ·subst hk;have h10:10<=n:=by simpa using hn
   rw[v9 h10];show dg (n/10)++_=dg (n/10 ^ 1)++qK 1 (dg (n%10 ^ 1));rw[Nat.pow_one,w9 (n:=n%10) (by lia)];rfl
  ·have h1:10 ^ k<=n/10:=by
    rw[EB]at hn;exact(Nat.le_div_iff_mul_le (by decide)).mpr hn
   have h10:10<=n:=by
    have:0<10 ^ k:=Nat.pow_pos (by decide);lia
   have e1:n/10 ^ (k+1)=n/10/10 ^ k:=by rw[EB,eW,Nat.div_div_eq_div_mul]
   have e2:n%10 ^ (k+1)/10=n/10%10 ^ k:=by rw[EB,eW,Nat.mod_mul_right_div_self]
   have e3:n%10 ^ (k+1)%10=n%10:=by rw[EB,eW];exact Nat.mod_mul_right_mod _ _ _
   rw[v9 h10,ih (by lia) h1,Lw (by lia),e1,e2,e3,dc]
theorem QO (zs:List af):(aF ("":af) zs).cps.toList=(zs.map λz=>z.cps.toList).flatten:=by
 have e0:("":af).cps.toList=[]:=by decide+kernel
 have:∀n (zs:List af),zs.length=n->(aF ("":af) zs).cps.toList=(zs.map λz=>z.cps.toList).flatten:=by
  intro n
  induction n with
  |zero=>
   intro zs h;rw[List.eq_nil_of_length_eq_zero h];rfl
  |succ n ih=>
   intro zs h
   by_cases hn:n=0
   ·subst hn;obtain⟨z,rfl⟩:=E1.mp h;rw[Zp,CO,DD,dQ,eF,dy]
   ·have ne:zs≠[]:=λc=>by rw[c]at h;cases h
    have e:=fD ne;have hl:zs.dropLast.length=n:=by rw[List.length_dropLast,h];rfl
    have ne2:zs.dropLast≠[]:=λc=>by rw[c]at hl;exact hn hl.symm
    rw[<- e,km _ _ ne2,zR,zR,e0,ih _ hl,dy,CJ,EC,CO,DD,dQ,eF,dy]
 exact this _ zs rfl
def xB:Sp:=λvs H Q _=>∃n:Int,vs=[.int n]/\0<=n/\n<1000000000000000000000000000000000000000000000000000000/\∀H',zj H H'->Q (.str (yI n)) H'
def UQ:Sp:=λvs H Q _=>∃a,vs=[.int a]/\yB a<10 ^ 50/\∀H',zj H H'->Q (.str (qW a)) H'
def wh (u:List Nat):List Nat:=u.take (u.length-3)
def kF (u:List Nat):List Nat:=u.drop (u.length-2)
def wU (l:List Nat):Bool:=j4 l&&(decide (l=[48]) || !decide (l.head?=some 48))
def Jl (u:List Nat):Bool:=wU (wh u)&&(decide (u[u.length-3]?=some 46)&&j4 (kF u))
def wa (l:List Nat):List Nat:=if l.head?=some 45 then l.tail else l
def QP:List Nat:=[45,48,46,48,48]
def wm (u:List Nat):Int:=((d_ (wh u):Nat):Int)*100+((d_ (kF u):Nat):Int)
def qI (l:List Nat):Option Int:=if l.length<=30/\Jl (wa l)=true/\l≠QP then some (if l.head?=some 45 then -(wm (wa l)) else wm (wa l)) else none
def GF:Sp:=λvs H Q _=>∃z,vs=[.str z]/\z.length<=1000/\∀H',zj H H'->Q (.bl (wU z.cps.toList)) H'
def GD:Sp:=λvs H Q _=>∃z,vs=[.str z]/\z.length<=1000/\∀H',zj H H'->Q (.bl (Jl z.cps.toList)) H'
def YG (K:BFr)(cT:aj):Sp:=λvs H Q E=>∃v,vs=[v]/\((u9 K H v/\E (.ref cT) none H)∨∃z,v=.str z/\z.length<=4000000/\∀H',zj H H'->(∀a,qI z.cps.toList=some a->Q (.int a) H')/\(qI z.cps.toList=none->E (.ref cT) none H'))
def NK:Option Int->V
 |none=>.non
 |some z=>.int z
def QA:Sp:=λvs H Q _=>∃z,vs=[.str z]/\z.length<=4000000/\∀H',zj H H'->Q (NK (qI z.cps.toList)) H'
end Pg
variable {r0:List af}{sts:List Pg.yZ}
namespace K27
open PySem PySem.NumText L2 Pg
seal PE PA PT PW PS jg PG vW PI vf PO PK
section
variable {K:BFr}{mg:af->Option ae}
set_option maxHeartbeats 4000000 in
theorem Mp (F:jn K "figures_of" "figures_of" (qH 32) f fd)(G:wk mg)(N1:Gi mg "PIECE" 1000000000000000000)(N2:Gi mg "PIECE_FIGURES" 18):qD P w K mg base qQ 1 f fd ["number"] xB:=by
 obtain⟨t1,h_PIECE⟩:=N1;obtain⟨t2,h_PIECE_FIGURES⟩:=N2;have nd:(["number","pieces"]:List af).Nodup:=by decide+kernel
 refine F.ok (N:=["number","pieces"]) (by walk_at"s") (λvs H Q E h=>?_) (λV' A outer s H vs Q E hr h=>?_)
 ·obtain⟨n,rfl,_⟩:=h;rfl
 ·obtain⟨n,rfl,h0,h1,q⟩:=h
  refine⟨_,(zh (zE (i:=1) nd Z (ax Z) (zU zd))
    (zh (Yw aX (zD bQ (pv 0) (qe (v:=.int 1000000000000000000) Z h_PIECE ⟨_,Z⟩) (zI _)) (zh (yR (qX aU aP aO qT (pv 1) (za (qX aA sM sL ZI (zY yr Z G.str yO (za (zm qg (pv 0) (qe (v:=.int 1000000000000000000) Z h_PIECE ⟨_,Z⟩)) zd)) (za (qe (v:=.int 18) Z h_PIECE_FIGURES ⟨_,Z⟩) zd)) zd)))
    (zi (zE (i:=0) nd Z (ax Z) (zm LV (pv 0) (qe (v:=.int 1000000000000000000) Z h_PIECE ⟨_,Z⟩))))))
    (zh (yR (qX aU aP aO qT (pv 1) (za (zY yr Z G.str yO (za (pv 0) zd)) zd)))
    (zi (zB (gm Z Z G.reversed (za (pv 1) zd))))))),?_⟩
  refine⟨z8 Z,λr H1 s1 r0 e1=>?_⟩
  refine⟨λm σ H'=>cW λ(num:Int) (zs:List af)=>cU (σ=[some (.int num),some (.ref r)]) (H' r=some (.lst (zs.map V.str))/\zj H H') (m=num.toNat/\0<=num/\((zs.length=0/\num<1000000000000000000000000000000000000000000000000000000)∨(zs.length=1/\num<1000000000000000000000000000000000000)∨(zs.length=2/\num<1000000000000000000))) (dg n.toNat=dg num.toNat++(zs.reverse.map λz=>z.cps.toList).flatten/\∀z∈zs,z.length<=18),
   ⟨_,n,[],Z,⟨e1,s1⟩,⟨Z,h0,.inl ⟨Z,h1⟩⟩,(dy _).symm,λ_ h=>nomatch h⟩,λm σ H' z=>?_⟩
  obtain⟨num,zs,rfl,⟨Ξ,s'⟩,⟨rfl,n0,lim⟩,dq,zl⟩:=z;have zl3:zs.length<=2:=by rcases lim with⟨a,_⟩ |⟨a,_⟩ |⟨a,_⟩<;>lia
  refine⟨_,Z,_,_,Z,Z,_,Z,yo (λe=>?_) (λe=>?_)⟩
  ·have e:(1000000000000000000:Int)<=num:=B' e;have m0:0<=num%1000000000000000000:=dG _ (by decide);have m1:num%1000000000000000000<1000000000000000000:=dH _ (by decide);refine⟨_,λ_ _ h=>h,_,Z,.inl ⟨Z,_,zL.of Ξ⟩,_,Z,_,_,Z,Z,(by show(0:Int)<1000000000000000000;decide),_,Z,jT m0 (by lia),Z,_,_,Z,Z,by decide+kernel,r,_,_,Z,Z,Ξ,(by rw[Cw,ah];lia),?_⟩;refine⟨_,Z,_,_,Z,Z,⟨by decide,by decide⟩,(num/1000000000000000000).toNat,by lia,num/1000000000000000000,zs++[sj (yI (num%1000000000000000000)) (18:Int)],Z,⟨by rw[zt,CJ];rfl,λb o hb=>?_⟩,⟨Z,by lia,?_⟩,?_,λz hz=>?_⟩
   ·rw[zx (zo hb r0)];exact s' _ _ hb
   ·rw[CA,dN];rcases lim with⟨a,b⟩ |⟨a,b⟩ |⟨a,b⟩
    ·exact .inr (.inl ⟨by lia,by lia⟩)
    ·exact .inr (.inr ⟨by lia,by lia⟩)
    ·lia
   ·obtain⟨k,rfl⟩:=dZ n0;have ek:((k:Int)%1000000000000000000)=((k%1000000000000000000:Nat):Int):=rfl;have ed:((k:Int)/1000000000000000000).toNat=k/1000000000000000000:=rfl;have zc:(sj (yI ((k:Int)%1000000000000000000)) (18:Int)).cps.toList=qK 18 (dg (k%1000000000000000000)):=by rw[ek];exact uG (k:=18)
    rw[dq,Eb,CJ,EC,<- dc,ed]
    congr 1
    show dg k=dg (k/1000000000000000000)++([(sj (yI ((k:Int)%1000000000000000000)) (18:Int)).cps.toList].flatten);rw[dQ,eF,dy,zc];exact mK (k:=18) (by decide) (by show 1000000000000000000<=k;lia)
   ·rcases CU.mp hz with hz |hz
    ·exact zl z hz
    ·rw[du.mp hz,zq];obtain⟨k,hk⟩:=dZ m0;rw[hk];have:(sj (yI ((k:Nat):Int)) (18:Int)).cps.toList=qK 18 (dg k):=uG (k:=18);rw[this,ji (qj (by decide) (by show k<1000000000000000000;lia))];exact Cz _
  ·have e:num<1000000000000000000:=by
    have e:¬(1000000000000000000:Int)<=num:=λc=>e (i' c);lia
   refine⟨_,Z,.inl ⟨Z,_,zL.of Ξ⟩,_,Z,num,Z,jT n0 (by lia),r,_,_,Z,Z,Ξ,(by rw[Cw,ah];lia),?_⟩
   have l18:(yI num).length<=18:=by
    obtain⟨k,rfl⟩:=dZ n0;rw[zq,yy];exact qj (by decide) (by lia)
   have er:upd H' r (.lst (zs.map V.str++[.str (yI num)])) r=some (.lst ((zs++[yI num]).map V.str)):=by rw[zt,CJ];rfl
   refine⟨_,Z,r,zs++[yI num],Z,zL.of er,by rw[CA,dN];lia,?_,?_⟩
   ·refine(yU (m:=18) (k:=3) (λz hz=>?_) (by rw[Dk,CA,dN];lia) (by decide+kernel) Z).1;rcases CU.mp (List.mem_reverse.mp hz) with hz |hz
    ·exact zl z hz
    ·rw[du.mp hz];exact l18
   ·have en:aF ("":af) (zs++[yI num]).reverse=yI n:=jd (by
     obtain⟨k,rfl⟩:=dZ n0;obtain⟨j,rfl⟩:=dZ h0;rw[QO,Eb,CJ,EC,yy];show([(yI ((k:Nat):Int)).cps.toList].flatten)++_=dg j;rw[dQ,eF,dy,yy];exact dq.symm)
    rw[en];refine q _ λb o hb=>?_;rw[zx (zo hb r0)];exact s' _ _ hb
theorem P5 (F:jn K "told_amount" "told_amount" (qH 33) f fd)(G:wk mg)(C_need_amount:jw P w K mg base qQ 2 "need_amount" ["thing"] xi)(C_figures_of:jw P w K mg base qQ 1 "figures_of" ["number"] xB):qD P w K mg base qQ 3 f fd ["amount"] UQ:=by
 have nd:(["amount","sign","whole","behind"]:List af).Nodup:=by decide+kernel
 refine F.ok (N:=["amount","sign","whole","behind"]) (by walk_at"s") (λvs H Q E h=>?_) (λV' A outer s H vs Q E hr h=>?_)
 ·obtain⟨n,rfl,_⟩:=h;rfl
 ·obtain⟨a,rfl,hb,q⟩:=h
  refine⟨_,(zh (yR (zG C_need_amount hr (by decide) zT (za (pv 0) zd)))
    (zh (zE (i:=1) nd Z (ax Z) (wM (zD Zv (pv 0) ze (zI _)) zv zv))
    (zh (zE (i:=2) nd Z (ax Z) (zG C_figures_of hr (by decide) zT (za (zm q8 (zu Yu Z G.abs YB (za (pv 0) zd)) ze) zd)))
    (zh (zE (i:=3) nd Z (ax Z) (qX aA sM sL ZI (zY yr Z G.str yO (za (zm qg (zu Yu Z G.abs YB (za (pv 0) zd)) ze) zd)) (za ze zd)))
    (zi (zB (NM (XB (pv 1) (XB (pv 2) (Tg (XB (pv 3) rZ))))))))))),?_⟩
  have n0:=ZO a;have w0:0<=yB a/100:=eO n0 (by decide);have w1:yB a/100<1000000000000000000000000000000000000000000000000000000:=by lia
  have m0:0<=yB a%100:=dG _ (by decide);have m1:yB a%100<100:=dH _ (by decide);unfold qW at q;have l1:=Wb a;unfold uo at q l1;refine⟨_,Z,a,Z,_,Z,_,_,Z,Z,_,Z,yo (λc=>?pos) (λc=>?neg)⟩
  case' pos=>rw[L' (B' c)]at q l1
  case' neg=>rw[K' (λz=>c (i' z))]at q l1
  all_goals
   refine⟨_,Z,a,Z,_,_,Z,Z,⟨by decide,by decide⟩,_,Z,w0,w1,λH1 s1=>?_⟩;refine⟨_,Z,a,Z,_,_,Z,Z,(by show(0:Int)<100;decide),_,Z,jT m0 (by show yB a%100<_;lia),Z,_,_,Z,Z,by decide+kernel,?_⟩
   have l2:(yI (yB a/100)).length<=50:=by
    obtain⟨k,hk⟩:=dZ w0;rw[hk,zq,yy];exact qj (by decide) (by lia)
   have l3:(sj (yI (yB a%100)) 2).length=2:=by
    have:=uN (p:=yB a%100) m0 (by lia);exact this
   refine⟨_,Z,_,Z,CD l1 (by decide),_,Z,_,Z,CD l2 (by decide),_,Z,(by decide+kernel),_,Z,_,Z,?_,q H1 s1⟩;exact CD (DW l3) (by decide)
set_option maxHeartbeats 4000000 in
theorem OQ (F:jn K "widths_of" "widths_of" (qH 38) f fd)(G:wk mg):qD P w K mg base qQ 1 f fd ["table"] JG:=by
 have nd:(["table"]:List af).Nodup:=by decide+kernel
 have nc1:(["place","table"]:List af).Nodup:=by decide+kernel
 have nc2:(["row","place"]:List af).Nodup:=by decide+kernel
 refine F.ok (N:=["table"]) (by walk_at"s") (λvs H Q E h=>?_) (λV' A outer s H vs Q E hr h=>?_)
 ·obtain⟨t,ys,W',n,rfl,_⟩:=h;rfl
 ·obtain⟨t,ys,W',n,rfl,ht,T,TO,q⟩:=h;refine' ⟨_,(zi (zB ?comp_1)),?main⟩
  case comp_1=>
   refine' LG (Nc:=["place","table"]) (cl:=[("table",s.heap.objs.size+1)]) (src:=[none,some 0]) (x0:="place") (wi:=WB (z6 (p7 (λxs H Q=>∃p ys,xs=[.ref p]/\(zL K H p ys∨yT K H p ys)/\Q (.int ys.length) H) (z6 (jA (mP K) (zN 0) (tC (.int 0))) yw)) yw)) (g:=zO 0) (tt:=qA) (te:=p7 (λxs H Q=>∃(a:aj) (ns:List Int) (m:Int),xs=[.ref a]/\zL K H a (ns.map V.int)/\m∈ns/\(∀x∈ns,x<=m)/\Q (.int m) H) (z6 (Zj [none,some 0] (jb K (zN 1)) (zO 0) qA (p7 (λxs H Q=>∃z:af,xs=[.str z]/\z.length<=ar/\Q (.int z.length) H) (z6 (jA (mP K) (zN 0) (zN 1)) yw))) yw))
    ⟨Z,Z,λ_ _=>rfl,λ_=>rfl,by decide+kernel,vg (Q0 Z),λ_=>qc (by rfl),zH (qR ⟨_,Z,Z,Z,Z,by decide+kernel⟩ zX),Z⟩ rfl (vt Z G.range (za (zu qp Z G.len g_ (za (qa qx (pv 0) ze) zd)) zd)) ?hb
   case hb=>
    intro fp C' s' H';refine⟨zA (i:=0) nc1 Z (Ao Z),qi,zu (JN Z) Z G.max HF (za ?c2 zd)⟩
    refine' z9 (Nc:=["row","place"]) (cl:=[("place",C'+1)]) (src:=[none,some 0]) (wi:=jb K (zN 1)) (g:=zO 0) (tt:=qA) (te:=p7 (λxs H Q=>∃z:af,xs=[.str z]/\z.length<=ar/\Q (.int z.length) H) (z6 (jA (mP K) (zN 0) (zN 1)) yw))
     (by walk_at"c2") rfl (qh (pv 1)) ?hb2
    case hb2=>
     intro fp2 C2 s2 H2;exact⟨zA (i:=0) nc2 Z (ax Z),qi,zu qf Z G.len g_ (za (qa qx (pv 0) (pv 1)) zd)⟩
  have t1:=TO.t1;have h0:=CC (show 0<W'.length from t1);obtain⟨a0,y0,e0⟩:=T.at_ 0 _ h0;have l0:(W'[0].map V.str).length=n:=by rw[Cw];exact TO.wide _ (DA _)
  have n2:=TO.n2;refine⟨_,Z,t,ys,0,_,Z,Z,zL.of ht,jG y0,a0,_,Z,.inl (zL.of e0),_,Z,by rw[l0];lia,by rw[l0];lia,λD hD=>?_⟩;rw[l0,dJ];have sz:n<ar:=by rw[ah];lia
  have tz:W'.length<ar:=by have:=TO.t2;rw[ah];lia
  refine ym Zq (ku n) hD (by rw[d9];exact sz) (λk=>.int (kI W' k:Nat)) (λk hk v H1 R s1 e1 r=>?_) (λH1 s1 e1=>q D H1 s1 hD ?_)
  ·subst e1;have kn:=Dl.mp hk;refine⟨_,Z,t,Z,⟨_,zL.of (s1 _ _ ht)⟩,λD2 hD2=>?_⟩;refine ym (qd (zL.of (s1 _ _ ht))) (uV (T.same s1)) hD2 tz (λr=>.int (w4 r k:Nat)) (λr hr v H2 R2 s2 e2 r2=>?_) (λH2 s2 e2=>?_)
   ·obtain⟨b,rfl,hb⟩:=e2;refine⟨_,Z,_,Z,b,_,_,_,Z,Z,zL.of hb,Qq (by rw[TO.wide r hr];exact kn),_,Z,?_,r2 _ (zj.refl _)⟩;exact CD (TO.cell hr k) (by rw[ah];decide)
   ·refine⟨D2,W'.map (λr=>((w4 r k:Nat):Int)),_,Z,zL.of (by rw[dh];exact e2),(Ym TO k).1,(Ym TO k).2,r _ s2⟩
  ·rw[e1];unfold uv vM;rw[dh];rfl
set_option maxHeartbeats 4000000 in
theorem RD (F:jn K "row_of" "row_of" (qH 39) f fd)(G:wk mg):qD P w K mg base qQ 1 f fd ["row","widths"] xO:=by
 have nd:(["row","widths","cells"]:List af).Nodup:=by decide+kernel
 have nc:(["text","width"]:List af).Nodup:=by decide+kernel
 refine F.ok (N:=["row","widths","cells"]) (by walk_at"s") (λvs H Q E h=>?_) (λV' A outer s H vs Q E hr h=>?_)
 ·obtain⟨a,b,r,ws,n,rfl,_⟩:=h;rfl
 ·obtain⟨a,b,r,ws,n,rfl,ha,hb,lr,lw,n1,n2,tx,wx,q⟩:=h
  refine' ⟨_,(zh ?comp_1
    (zh (qm (zD kG (zu qp Z G.len g_ (za (pv 0) zd)) ze (zI _)) (zi (RT (qX aA PySem.F.slot_str_ljust PySem.F.type_str_ljust Lv (qa qx (pv 0) ze) (za (qa qx (pv 1) ze) zd)) (m5 (pv 2) ze WG))) zQ)
    (zi (zB (qX aA PySem.F.slot_str_rstrip PySem.F.type_str_rstrip Xu (qX aA hZ hW v5 zv (za (pv 2) zd)) (za zv zd)))))),?main⟩
  case comp_1=>
   refine' jV (i:=2) (Nc:=["text","width"]) (cl:=[]) (src:=[none,none]) (wi:=M7 K (z6 (zN 0) (z6 (zN 1) yw))) (g:=uQ K 2 (qN (zO 0) (qN (zO 1) wj))) (tt:=qA) (te:=tY K "str" (λx vs H Q=>∃(z:af) (i:Int),x=.str z/\vs=[.int i]/\U_ i=true/\Q (.str (iL z i)) H) (zN 0) (z6 (zN 1) yw)) nd rfl rfl
    (by walk_at"c1") rfl (YT Z G.zip (za (pv 0) (za (pv 1) zd))) ?hb
   case hb=>
    intro fp C' s' H';exact⟨jr Z (zW (zA (i:=0) nc Z (ax Z)) (zW (zA (i:=1) nc Z (ax Z)) yz)),qi,qX aA PySem.F.slot_str_rjust PySem.F.type_str_rjust Lr (pv 0) (za (pv 1) zd)⟩
  have pad:∀w:Nat,w<=60->U_ (w:Nat)=true:=λw h=>o3 h;have lR:(r.map V.str).length=n:=by rw[Cw,lr]
  have lW:(uv ws).length=n:=by unfold uv;rw[Cw,lw]
  have sz:n<ar:=by rw[ah];omega
  refine⟨_,Z,_,Z,a,b,Z,⟨_,zL.of ha⟩,⟨_,zL.of hb⟩,λD hD=>?_⟩;refine W9 (zL.of ha) (zL.of hb) hD (by rw[lR];exact sz) (by rw[lR,lW]) (λx y=>match x,y with|.str z,.int i=>.str (iL z i) |_,_=>.non) (λi x y hx hy H' R s' r'=>?_) (λH1 s1 e1=>?_)
  ·rw[CI]at hx;unfold uv at hy;rw[CI]at hy;obtain⟨z,hz,rfl⟩:=CS.mp hx;obtain⟨w,hw,rfl⟩:=CS.mp hy;exact⟨_,Z,Z,_,Z,_,_,Z,Z,pad w (wx w (dv hw)),r' _ (zj.refl _)⟩
  have ez:aH (λx y=>match x,y with|V.str z,V.int i=>V.str (iL z i) |_,_=>V.non) (r.map V.str) (uv ws)=(aH (λz (w:Nat)=>iL z w) r ws).map V.str:=by
   unfold uv;rw[fU,fV]
  have lz:(aH (λz (w:Nat)=>iL z w) r ws).length=n:=by rw[EA,lr,lw,Ec]
  have g0:=kU (r:=r) (ws:=ws) lr lw n1
  have w0:ws.getD 0 0<=60:=by
   rw[dD,CC (show 0<ws.length by omega)];exact wx _ (DA _)
  refine⟨_,Z,a,_,Z,.inl (zL.of (s1 _ _ ha)),_,_,Z,Z,_,Z,yo (λe=>?_) (λe=>?_)⟩
  ·refine⟨_,Z,a,_,0,_,Z,Z,zL.of (s1 _ _ ha),Qq (k:=0) (by omega),Z,_,Z,b,_,0,_,Z,Z,zL.of (s1 _ _ hb),Rc (k:=0) (by omega),_,_,Z,Z,pad _ w0,?_⟩
   have eS:(aH (λx y=>match x,y with|V.str z,V.int i=>V.str (iL z i) |_,_=>V.non) (r.map V.str) (uv ws)).set 0 (V.str (u_ (r.getD 0 aC) ((ws.getD 0 0:Nat):Int)))=(yG r ws).map V.str:=by
    rw[ez];unfold yG;rw[List.map_set]
   have j0:XT (aH (λx y=>match x,y with|V.str z,V.int i=>V.str (iL z i) |_,_=>V.non) (r.map V.str) (uv ws)).length 0=some 0:=by
    rw[ez,Cw,lz];exact mC n1
   have cj:=yU (sep:="  ") (zs:=yG r ws) (m:=60) (k:=70) (ub lr lw n1 tx wx) (by rw[uD lr lw];exact n2) (by decide+kernel) rfl;refine⟨_,Z,D,_,0,0,Z,Z,e1,j0,?_⟩;have eD:upd H1 D (.lst ((aH (λx y=>match x,y with|V.str z,V.int i=>V.str (iL z i) |_,_=>V.non) (r.map V.str) (uv ws)).set 0 (V.str (u_ (r.getD 0 aC) ((ws.getD 0 0:Nat):Int))))) D=some (.lst ((yG r ws).map V.str)):=by rw[eS];exact zt
   refine⟨Z,_,Z,_,yG r ws,D,Z,Z,zL.of eD,cj.1,Z,_,_,Z,Z,?_,q _ λc o hc=>?_⟩
   ·exact CD cj.2 (by rw[ah];decide)
   ·rw[zx (zo hc hD)];exact s1 _ _ hc
  ·have e:¬(0:Int)<(r.map V.str).length:=λc=>e (i' c);rw[lR]at e;omega
set_option maxHeartbeats 4000000 in
theorem Mv (F:jn K "rows_of" "rows_of" (qH 40) f fd)(G:wk mg)(C_widths_of:jw P w K mg base qQ 1 "widths_of" ["table"] JG)(C_row:jw P w K mg base qQ 1 "row_of" ["row","widths"] xO):qD P w K mg base qQ 2 f fd ["table"] Yk:=by
 have nd:(["table","widths"]:List af).Nodup:=by decide+kernel
 have nc:(["row","widths"]:List af).Nodup:=by decide+kernel
 refine F.ok (N:=["table","widths"]) (by walk_at"s") (λvs H Q E h=>?_) (λV' A outer s H vs Q E hr h=>?_)
 ·obtain⟨t,ys,W',n,rfl,_⟩:=h;rfl
 ·obtain⟨t,ys,W',n,rfl,ht,T,TO,q⟩:=h
  refine' ⟨_,(zh (qm (zD y6 (zu qp Z G.len g_ (za (pv 0) zd)) ze (zI _)) (zi (zB (zU zd))) zQ)
    (zh (zE (i:=1) nd Z (Ao Z) (zG C_widths_of hr (by decide) zT (za (pv 0) zd)))
    (zi (zB ?comp_1)))),?main⟩
  case comp_1=>
   refine' z9 (Nc:=["row","widths"]) (cl:=[("widths",s.heap.objs.size+1)]) (src:=[none,some 1]) (wi:=jb K (zN 0)) (g:=zO 0) (tt:=qA) (te:=λσ H Q=>z6 (zN 0) (z6 (zN 1) yw) σ H λvs H1=>xO vs H1 Q E0)
    (by walk_at"c2") rfl (qh (pv 0)) ?hb
   case hb=>
    intro fp C' s' H';exact⟨zA (i:=0) nc Z (ax Z),qi,zG C_row hr (by decide) zT (za (pv 0) (za (pv 1) zd))⟩
  have t1:=TO.t1;have tl:ys.length=W'.length:=T.len;have tz:W'.length<ar:=by have:=TO.t2;rw[ah];omega
  refine⟨_,Z,t,ys,Z,.inl (zL.of ht),Z,_,Z,yo (λe=>?_) (λe=>?_)⟩
  ·have e:=V.int.inj (B' e);rw[tl]at e;omega
  refine⟨_,Z,t,ys,W',n,Z,ht,T,TO,λr H1 s1 r0 e1=>?_⟩;refine⟨_,Z,t,Z,⟨_,zL.of (s1 _ _ ht)⟩,λD hD=>?_⟩;refine ym (qd (zL.of (s1 _ _ ht))) (uV (T.same s1)) hD tz (λr=>.str (kQ r (vM W' n))) (λrow δ4 v H2 R s2 e2 r2=>?_) (λH2 s2 e2=>q D H2 (s1.trans s2) (s1.free hD) ?_)
  ·obtain⟨b,rfl,hb⟩:=e2;exact⟨_,Z,_,Z,b,r,row,vM W' n,n,Z,hb,s2 _ _ e1,TO.wide _ δ4,uf,TO.n1,TO.n2,TO.text _ δ4,ZN TO,r2⟩
  ·rw[e2];unfold jM;rw[dh];rfl
set_option maxHeartbeats 4000000 in
theorem xq (F:jn K "dues_together" "dues_together" (qH 52) f fd)(G:wk mg):qD P w K mg base qQ 1 f fd ["several"] QD:=by
 have nd:(["several","together","dues","name","due"]:List af).Nodup:=by decide+kernel
 refine F.ok (N:=["several","together","dues","name","due"]) (by walk_at"s") (λvs H Q E h=>?_) (λV' A outer s H vs Q E hr h=>?_)
 ·obtain⟨l,ys,prss,rfl,_⟩:=h;rfl
 ·obtain⟨l,ys,prss,rfl,hl,T,l64,p100,ε2,q⟩:=h;have hu:=rJ hr
  refine' ⟨_,(zh (zE (i:=1) nd Z (ax Z) Wc)
    (zh (jC aX Z (qh (pv 0)) (zA (i:=2) nd Z (ax Z)) (zi (jC aX Z (Z8 (pv 2)) (jr Z (zW (zA (i:=3) nd Z (ax Z)) (zW (zA (i:=4) nd Z (ax Z)) yz))) (zi (Nk hu (pv 1) (pv 3) (zm qu (PD hu (pv 1) (pv 3) ze ⟨Z,Z,Z,Z⟩) (pv 4)) Z)))))
    (zi (zB (zY Jy Z G.tuple ju (za (zu (gB Z) Z G.sorted Ac (za (rV Ar F_ PySem.F.type_dict_items L6 (pv 1)) zd)) zd)))))),?main⟩
  refineλd0 H1 s1 n0 e1=>?_;have ld:l≠d0:=zo hl n0;have pl:ys.length=prss.length:=T.len
  refine⟨_,Z,l,Z,⟨_,zL.of (s1 _ _ hl)⟩,uI (K:=K) (a:=l) (xs:=ys) (λi σ H'=>∃x2 x3 x4 Y',σ=[some (.ref l),some (.ref d0),x2,x3,x4]/\Y'=(prss.take i).foldl y9 []/\Y'.length<=100*i/\H' d0=some (.dK (Yq Y'))/\∀b o,H1 b=some o->b≠d0->H' b=some o)
   ⟨_,_,_,[],Z,Z,Cz _,e1,λb o h _=>h⟩ (λi σ H' _ z=>?_) ?_ ?_⟩
  ·obtain⟨_,_,_,_,_,_,_,_,fr⟩:=z;exact zL.of (fr _ _ (s1 _ _ hl) ld)
  ·rintro i v σ H' hv ⟨x2,x3,x4,Y',rfl,ht,tl,gd,fr⟩ E0' kk;obtain⟨prs,hp,hD⟩:=T.at_ i v hv;obtain⟨d,rfl,ts,hts,Tt⟩:=hD H1 s1;have il:i<prss.length:=(CV.mp hp).1;have tk:prss.take (i+1)=prss.take i++[prs]:=by rw[dS,hp];rfl
   have pz:=ε2 prs (dv hp)
   have kt:∀{H2:Hp},(∀b o,H1 b=some o->b≠d0->H2 b=some o)->Rd H2 d (.tup ts)/\z4 H2 ts (prs.map cP):=λ{H2} f2=>by
    refine⟨?_,Tt.mono λb c e=>f2 _ _ e (jH e e1 (by intro z;cases z))⟩;rcases hts with z |⟨o,z⟩
    ·exact .inl (f2 _ _ z (jH z e1 (by intro w;cases w)))
    ·exact .inr ⟨o,f2 _ _ z (jH z e1 (by intro w;cases w))⟩
   have tz:ts.length=prs.length:=by rw[Tt.len,Cw]
   refine⟨_,Z,d,Z,⟨_,.inl (kt fr).1⟩,Lp (K:=K) (a:=d) (xs:=ts) (λj σ H2=>∃x3 x4 γ2,σ=[some (.ref l),some (.ref d0),some (.ref d),x3,x4]/\γ2=y9 Y' (prs.take j)/\γ2.length<=100*i+j/\H2 d0=some (.dK (Yq γ2))/\∀b o,H1 b=some o->b≠d0->H2 b=some o)
    ⟨_,_,Y',Z,Z,tl,gd,fr⟩ (λj σ H2 _ z=>?_) ?_ ?_⟩
   ·obtain⟨_,_,_,_,_,_,_,f2⟩:=z;exact .inl (kt f2).1
   ·rintro j v σ H2 hv2 ⟨x3,x4,γ2,rfl,ht',tl',gd',f2⟩ E1' k1;obtain⟨b,c,rfl,h1,h2⟩:=(kt f2).2.of_at hv2;rw[CI]at h1;obtain⟨p,hq,rfl⟩:=CS.mp h1;have jl:j<prs.length:=(CV.mp hq).1;have tk2:prs.take (j+1)=prs.take j++[p]:=by rw[dS,hq];rfl
    refine⟨b,_,Z,yT.of h2,Z,_,_,Z,_,_,Z,Z,?_⟩;refine⟨_,Z,d0,Z,.inl ⟨_,.inl gd'⟩,_,Z,_,xa.k (k:=iy p.1) gd',_,Z,_,_,by rw[NW],Z,?_⟩;refine⟨_,Z,_,Z,d0,_,Z,lg.k (k:=iy p.1) gd' (by rw[GH,ah];lia),?_⟩;rw[ot];refine k1 _ _ ⟨_,_,UT γ2 p,Z,?_,?_,zt,λb o hb nb=>?_⟩
    ·rw[tk2,ht'];unfold y9;rw[ej];rfl
    ·have:=m8 γ2 p.1 (qY γ2 p.1+p.2);show(Jd γ2 p.1 (qY γ2 p.1+p.2)).length<=_;lia
    ·rw[zx nb];exact f2 _ _ hb nb
   ·rintro σ H2 ⟨x3,x4,γ2,rfl,ht',tl',gd',f2⟩;rw[tz,dM]at ht';refine kk _ _ ⟨_,_,_,γ2,Z,?_,by rw[tz]at tl';lia,gd',f2⟩;rw[tk,ej,<- ht];exact ht'
  ·rintro σ H' ⟨x2,x3,x4,Y',rfl,ht,tl,gd,fr⟩;rw[pl,dM]at ht;have ht:Y'=vE prss:=ht;refine⟨_,Z,.inr (.inr (.inl ⟨Z,.inl ⟨_,gd⟩⟩)),d0,_,Z,Z,gd,λv v0=>?_⟩;refine⟨v,d0,Y',Z,zt,by rw[zx (zo gd v0)];exact gd,by rw[ht];exact l64,by rw[ht];exact jx _,λqs l2 ys2 H3 pm so s3 l0 el T3=>?_⟩
   have S3:zj H H3:=λb o hb=>s3 _ _ (by
    rw[zx (zo (fr _ _ (s1 _ _ hb) (zo hb n0)) v0)];exact fr _ _ (s1 _ _ hb) (zo hb n0))
   refine⟨l2,ys2,Z,.inl ⟨zL.of el,λt t0=>q qs t ys2 _ (by rw[<- ht];exact pm) so (S3.trans (zj.upd t0)) (S3.free t0) zt (T3.same (zj.upd t0))⟩⟩
set_option maxHeartbeats 4000000 in
theorem NP (F:jn K "sums" "sums" (qH 53) f fd)(G:wk mg)(C_dues_together:jw P w K mg base qQ 1 "dues_together" ["several"] QD):qD P w K mg base qQ 2 f fd ["some"] GW:=by
 have nd:(["some","base","net"]:List af).Nodup:=by decide+kernel
 have nc:(["one"]:List af).Nodup:=by decide+kernel
 refine F.ok (N:=["some","base","net"]) (by walk_at"s") (λvs H Q E h=>?_) (λV' A outer s H vs Q E hr h=>?_)
 ·obtain⟨l,ys,sts,nms,rfl,_⟩:=h;rfl
 ·obtain⟨l,ys,sts,nms,rfl,hl,T,O,q⟩:=h
  refine' ⟨_,(zh (zE (i:=1) nd Z (ax Z) (zu (uy Z) Z G.sum wF (za ?comp_3 zd)))
    (zh (zE (i:=2) nd Z (ax Z) (zu (uy Z) Z G.sum wF (za ?comp_2 zd)))
    (zi (zB (qq (za (pv 1) (za (zG C_dues_together hr (by decide) zT (za ?comp_1 zd)) (za (pv 2) zd)))))))),?main⟩
  case' comp_3=>refine' z9 (Nc:=["one"]) (cl:=[]) (src:=[none]) (wi:=jb K (zN 0)) (g:=zO 0) (tt:=qA) (te:=jA (Jo K) (zN 0) (tC (.int 1))) (by walk_at"c0") rfl (qh (pv 0)) ?hb
  case' comp_2=>refine' z9 (Nc:=["one"]) (cl:=[]) (src:=[none]) (wi:=jb K (zN 0)) (g:=zO 0) (tt:=qA) (te:=jA (Jo K) (zN 0) (tC (.int 3))) (by walk_at"c0") rfl (qh (pv 0)) ?hb
  case' comp_1=>refine' z9 (Nc:=["one"]) (cl:=[]) (src:=[none]) (wi:=jb K (zN 0)) (g:=zO 0) (tt:=qA) (te:=jA (Jo K) (zN 0) (tC (.int 2))) (by walk_at"c0") rfl (qh (pv 0)) ?hb
  case' main=>
   have few:=O.few;have sz:sts.length<ar:=by rw[ah];lia
   refine⟨_,Z,l,Z,⟨_,zL.of hl⟩,λD1 hD1=>ym (qd (zL.of hl)) (Qy T) hD1 sz (λs=>.int s.b) (λx hx v H' R s' e' r=>?a1) (λH1 s1 e1=>?a2)⟩
  case a1=>
   obtain⟨a,d,rfl,h1,h2⟩:=e';exact⟨_,Z,a,_,1,_,Z,Z,yT.of h1,Z,r _ (zj.refl _)⟩
  case' a2=>
   have T1:=T.kt (KT.same s1);refine⟨D1,sts.map (·.b),Z,zL.of (by rw[dh];exact e1),?_⟩;refine⟨_,Z,l,Z,⟨_,zL.of (s1 _ _ hl)⟩,λD2 hD2=>ym (qd (zL.of (s1 _ _ hl))) (Qy T1) hD2 sz (λs=>.int s.n) (λx hx v H' R s' e' r=>?b1) (λH2 s2 e2=>?b2)⟩
  case b1=>
   obtain⟨a,d,rfl,h1,h2⟩:=e';exact⟨_,Z,a,_,3,_,Z,Z,yT.of h1,Z,r _ (zj.refl _)⟩
  case' b2=>
   have T2:=T1.kt (KT.same s2);have S2:=s1.trans s2;refine⟨D2,sts.map (·.n),Z,zL.of (by rw[dh];exact e2),?_⟩;refine⟨_,Z,_,Z,l,Z,⟨_,zL.of (S2 _ _ hl)⟩,λD3 hD3=>P8 (qd (zL.of (S2 _ _ hl))) T2.len hD3 sz (λv s=>∃d,v=.ref d/\Jp H2 d s.ds) (λi x v hx hv H' R s' r=>?c1) (λzs H3 s3 zl zr e3=>?c2)⟩
  case c1=>
   obtain⟨x',hx',a,d,rfl,h1,h2⟩:=T2.at_ i v hv;rw[hx]at hx'
   cases hx'
   exact⟨_,Z,a,_,2,_,Z,Z,yT.of (s' _ _ h1),Z,r _ _ ⟨d,Z,h2⟩ (zj.refl _)⟩
  case' c2=>
   have S3:=S2.trans s3;refine⟨D3,zs,sts.map (·.ds),Z,e3,⟨by rw[zl,Cw],λi u e=>?d1⟩,?d2,by rw[Cw];lia,?d3,λqs t μ H4 pm so s4 t0 e4 T4=>?d4⟩
  case d1=>
   obtain⟨x,hx,d,rfl,h2⟩:=zr i u e;exact⟨x.ds,by rw[CI,hx];rfl,λH' s'=>⟨d,Z,(h2.kt (KT.same (s3.trans s'))).dues⟩⟩
  case d2=>
   have:=O.tot_len;show(yY sts).length<64;lia
  case d3=>
   intro prs hp;obtain⟨x,hx,rfl⟩:=CB.mp hp;have:=(O.each x hx).len;lia
  case d4=>
   refine⟨_,Z,z8 Z,λu H5 s5 u0 e5=>q qs u t μ H5 pm so (S3.trans (s4.trans s5)) e5 (s5 _ _ e4) (T4.same s5)⟩
  all_goals
   intro fp C' s' H';exact⟨zA (i:=0) nc Z (ax Z),qi,qa yA (pv 0) ze⟩
theorem W1 (F:jn K "due_text" "due_text" (qH 59) f fd)(N1:Txt mg "NO_DUE" "-")(C_told_amount:jw P w K mg base qQ 3 "told_amount" ["amount"] Uw):qD P w K mg base qQ 4 f fd ["dues","name"] VH:=by
 obtain⟨t1,γ3⟩:=N1;have nd:(["dues","name","other","due"]:List af).Nodup:=by decide+kernel
 refine F.ok (N:=["dues","name","other","due"]) (by walk_at"s") (λvs H Q E h=>?_) (λV' A outer s H vs Q E hr h=>?_)
 ·obtain⟨d,prs,z,rfl,_⟩:=h;rfl
 ·obtain⟨d,prs,z,rfl,⟨ts,hd,T⟩,bg,q⟩:=h
  refine⟨_,(zh (jC aX Z (Z8 (pv 0)) (jr Z (zW (zA (i:=2) nd Z (ax Z)) (zW (zA (i:=3) nd Z (ax Z)) yz))) (zi (qm (zD y6 (pv 2) (pv 1) (zI _)) (zi (zB (zG C_told_amount hr (by decide) zT (za (pv 3) zd)))) zQ)))
    (zi (zB (qe (v:=.str "-") Z γ3 ⟨_,Z⟩)))),?_⟩
  have tl:ts.length=prs.length:=by rw[T.len,Cw]
  refine⟨_,Z,d,Z,⟨_,.inl hd⟩,GA (K:=K) (a:=d) (xs:=ts) (λi σ H'=>H'=H/\(∃x2 x3,σ=[some (.ref d),some (.str z),x2,x3])/\∀p∈prs.take i,p.1≠z) ⟨Z,⟨_,_,Z⟩,λp hp=>nomatch hp⟩ (λi σ H' _ h=>?_) ?_ ?_⟩
  ·rw[h.1];exact .inl hd
  ·rintro i v σ H' hv ⟨rfl,⟨x2,x3,rfl⟩,hn⟩;obtain⟨b,c,rfl,h1,h2⟩:=T.of_at hv;rw[CI]at h1;obtain⟨p,hp,rfl⟩:=CS.mp h1;have tk:prs.take (i+1)=prs.take i++[p]:=by rw[dS,hp];rfl
   refine⟨b,_,Z,yT.of h2,Z,_,_,Z,_,_,Z,Z,?_⟩;refine⟨_,Z,_,Z,Z,_,Z,yo (λe=>?_) (λe=>?_)⟩
   ·have e:p.1=z:=V.str.inj (B' e);refine⟨_,Z,p.2,Z,bg p (dv hp),λH1 s1=>?_⟩;have:=q H1 s1;unfold j6 at this;rw[OV hp hn e]at this;exact this
   ·have e:p.1≠z:=λc=>e (i' (G' V.str c));refine⟨Z,⟨_,_,Z⟩,λp' hp'=>?_⟩;rw[tk]at hp';rcases CU.mp hp' with hp' |hp'
    ·exact hn p' hp'
    ·rw[du.mp hp'];exact e
  ·rintro σ H' ⟨rfl,⟨x2,x3,rfl⟩,hn⟩;rw[tl,dM]at hn;have:=q H' (zj.refl _);unfold j6 at this;rw[Z9 (z:=z) λm=>by obtain⟨p,hp,e⟩:=CB.mp m;exact hn p hp e]at this;exact this
theorem Md (F:jn K "cells_of" "cells_of" (qH 60) f fd)(C_told_amount:jw P w K mg base qQ 3 "told_amount" ["amount"] Uw)(C_due:jw P w K mg base qQ 4 "due_text" ["dues","name"] VH):qD P w K mg base qQ 5 f fd ["title","base","dues","net","names"] Wh:=by
 have nd:(["title","base","dues","net","names"]:List af).Nodup:=by decide+kernel
 have nc:(["name","dues"]:List af).Nodup:=by decide+kernel
 refine F.ok (N:=["title","base","dues","net","names"]) (by walk_at"s") (λvs H Q E h=>?_) (λV' A outer s H vs Q E hr h=>?_)
 ·obtain⟨γ8,b,d,prs,n,nl,nms,rfl,_⟩:=h;rfl
 ·obtain⟨γ8,b,d,prs,n,nl,nms,rfl,hd,bg,bb,bn,hn,l100,q⟩:=h;refine' ⟨_,(zi (zB (zm qL (zm qL (zU (za (pv 0) (za (zG C_told_amount hr (by decide) zT (za (pv 1) zd)) zd))) ?comp_1) (zU (za (zG C_told_amount hr (by decide) zT (za (pv 3) zd)) zd))))),?main⟩
  case comp_1=>
   refine' z9 (Nc:=["name","dues"]) (cl:=[("dues",s.heap.objs.size+1)]) (src:=[none,some 2]) (wi:=jb K (zN 4)) (g:=zO 0) (tt:=qA) (te:=λσ H Q=>z6 (zN 1) (z6 (zN 0) yw) σ H λvs H1=>VH vs H1 Q E0)
    (by walk_at"c2") rfl (qh (pv 4)) ?hb
   case hb=>
    intro fp C' s' H';exact⟨zA (i:=0) nc Z (ax Z),qi,zG C_due hr (by decide) zT (za (pv 1) (za (pv 0) zd))⟩
  refine⟨_,Z,_,Z,b,Z,bb,λH1 s1=>⟨z8 Z,λl1 H2 s2 l10 e2=>?_⟩⟩;have S2:=s1.trans s2;have hz:nms.length<ar:=by rw[ah];lia
  refine⟨_,Z,nl,Z,⟨_,zL.of (S2 _ _ hn)⟩,λD hD=>ym (qd (zL.of (S2 _ _ hn))) (yE nms) hD hz (λz=>.str (j6 prs z)) (λz hz v H' R s' e' r=>?_) (λH3 s3 e3=>?_)⟩
  ·subst e';exact⟨_,Z,_,Z,d,prs,z,Z,hd.kt (KT.same (S2.trans s')),bg,r⟩
  have S3:=S2.trans s3;refine⟨l1,D,_,_,Z,Z,s3 _ _ e2,e3,by rw[Cw,ah];show 2+_<=_;lia,λl2 H4 s4 l20 e4=>?_⟩;refine⟨_,Z,n,Z,bn,λH5 s5=>⟨z8 Z,λl3 H6 s6 l30 e6=>?_⟩⟩;refine⟨l2,l3,_,_,Z,Z,s6 _ _ (s5 _ _ e4),e6,by rw[CA,Cw,ah];show 2+_+1<=_;lia,λl4 H7 s7 l40 e7=>q l4 H7 (S3.trans (s4.trans (s5.trans (s6.trans s7)))) ?_ ?_⟩
  ·exact(S3.trans (s4.trans (s5.trans s6))).free l40
  ·rw[e7];unfold jE;rw[CJ,CJ,dh];rfl
set_option maxHeartbeats 4000000 in
theorem P3 (F:jn K "paper" "paper" (qH 61) f fd)(G:wk mg)(C_sums:jw P w K mg base qQ 2 "sums" ["some"] GW)(C_month_text:jw P w K mg base qQ 5 "month_text" ["month"] ke)(C_cells_of:jw P w K mg base qQ 5 "cells_of" ["title","base","dues","net","names"] Wh)(C_rows_of:jw P w K mg base qQ 2 "rows_of" ["table"] Yk):qD P w K mg base qQ 6 f fd ["some"] WK:=by
 have nd:(["some","total","names","table","one"]:List af).Nodup:=by decide+kernel
 have nc:(["name","due"]:List af).Nodup:=by decide+kernel
 refine F.ok (N:=["some","total","names","table","one"]) (by walk_at"s") (λvs H Q E h=>?_) (λV' A outer s H vs Q E hr h=>?_)
 ·obtain⟨l,ys,sts,nms,rfl,_⟩:=h;rfl
 ·obtain⟨l,ys,sts,nms,rfl,hl,T,O,q⟩:=h
  refine' ⟨_,(zh (zE (i:=1) nd Z (ax Z) (zG C_sums hr (by decide) zT (za (pv 0) zd)))
    (zh ?comp_1
    (zh (zE (i:=3) nd Z (ax Z) (zU (za (zm qL (zm qL (zU (za zv (za zv zd))) (pv 2)) (zU (za zv zd))) zd)))
    (zh (jC aX Z (qh (pv 0)) (zA (i:=4) nd Z (ax Z)) (zi (yR (qX aU aP aO qT (pv 3) (za (zG C_cells_of hr (by decide) zT (za (zG C_month_text hr (by decide) zT (za (qa yA (pv 4) ze) zd)) (za (qa yA (pv 4) ze) (za (qa yA (pv 4) ze) (za (qa yA (pv 4) ze) (za (pv 2) zd)))))) zd)))))
    (zh (yR (qX aU aP aO qT (pv 3) (za (zG C_cells_of hr (by decide) zT (za zv (za (qa yA (pv 1) ze) (za (qa yA (pv 1) ze) (za (qa yA (pv 1) ze) (za (pv 2) zd)))))) zd)))
    (zi (zB (qX aA hZ hW v5 zv (za (zG C_rows_of hr (by decide) zT (za (pv 3) zd)) zd))))))))),?main⟩
  case comp_1=>
   refine' jV (i:=2) (Nc:=["name","due"]) (cl:=[]) (src:=[none,none]) (wi:=Rw K (jA (Jo K) (zN 1) (tC (.int 1)))) (g:=uQ K 2 (qN (zO 0) (qN (zO 1) wj))) (tt:=qA) (te:=zN 0) nd rfl rfl
    (by walk_at"c1") rfl (Z8 (qa yA (pv 1) ze)) ?hb
   case hb=>
    intro fp C' s' H';exact⟨jr Z (zW (zA (i:=0) nc Z (ax Z)) (zW (zA (i:=1) nc Z (ax Z)) yz)),qi,pv 0⟩
  try (walk_at"d5")
  refine⟨_,Z,l,ys,sts,nms,Z,hl,T,O,λqs tt d μ H1 pm so s1 e1 e2 T1=>?_⟩;have few:=O.few;have ql:qs.length<=63:=by rw[pm.length_eq];exact O.tot_len
  have qz:qs.length<ar:=by rw[ah];lia
  refine⟨_,Z,tt,_,1,_,Z,Z,yT.of e1,Z,d,Z,⟨_,yT.of e2⟩,λD hD=>?_⟩;refine ZP (ZY (yT.of e2)) T1 hD qz (λp=>.str p.1) (λp hp H' R s' r=>⟨_,Z,r _ (zj.refl _)⟩) (λH2 s2 e3=>?_);have en:qs.map (λp=>V.str p.1)=(qs.map (·.1)).map V.str:=by rw[dh];rfl
  rw[en]at e3;have S2:=s1.trans s2;have D1:uZ H2 d qs:=⟨μ,.inl (s2 _ _ e2),T1.same s2⟩;have e12:=s2 _ _ e1;refine⟨z8 Z,λl1 H3 s3 l10 e4=>⟨_,Z,l1,D,_,_,Z,Z,e4,s3 _ _ e3,by rw[Cw,Cw,ah];show 2+_<=_;lia,λl2 H4 s4 l20 e5=>⟨z8 Z,λl3 H5 s5 l30 e6=>?_⟩⟩⟩;refine⟨l2,l3,_,_,Z,Z,s5 _ _ e5,e6,by rw[CA,Cw,Cw,ah];show 2+_+1<=_;lia,λl4 H6 s6 l40 e7=>⟨z8 Z,λtb H7 s7 tb0 e8=>?_⟩⟩;have S7:zj H2 H7:=s3.trans (s4.trans (s5.trans (s6.trans s7)))
  have hh:H7 l4=some (.lst ((ja (qs.map (·.1))).map V.str)):=by
   rw[s7 _ _ e7];unfold ja;rw[CJ,CJ];rfl
  have hT:H2 tb=none:=(s3.trans (s4.trans (s5.trans s6))).free tb0;have h0T:H tb=none:=S2.free hT;have T7:=T.kt (KT.same (S2.trans S7))
  refine⟨_,Z,l,Z,⟨_,zL.of (S7 _ _ (S2 _ _ hl))⟩,uI (K:=K) (a:=l) (xs:=ys) (λi σ H'=>∃x4 Ψ,σ=[some (.ref l),some (.ref tt),some (.ref D),some (.ref tb),x4]/\H' tb=some (.lst Ψ)/\qG H' Ψ ([ja (qs.map (·.1))]++(sts.take i).map (λs=>jE (q9 s.m) s.b s.ds s.n (qs.map (·.1))))/\∀b o,H7 b=some o->b≠tb->H' b=some o)
   ⟨_,_,Z,e8,⟨Z,λi r e=>?_⟩,λb o h _=>h⟩ (λi σ H' _ z=>?_) ?_ ?_⟩
  ·cases i with
   |zero=>
    cases e;exact⟨l4,Z,hh⟩
   |succ i=>cases e
  ·obtain⟨_,_,_,_,_,fr⟩:=z;exact zL.of (fr _ _ (S7 _ _ (S2 _ _ hl)) (zo hl h0T))
  ·rintro i v σ H' hv ⟨x4,Ψ,rfl,gt,LT,fr⟩ E0' kk;obtain⟨x,hx,a,dd,rfl,h1,h2⟩:=T7.at_ i v hv;have il:i<sts.length:=(CV.mp hx).1;have tk:sts.take (i+1)=sts.take i++[x]:=by rw[dS,hx];rfl
   have ox:=O.each x (dv hx);have kt:KT H7 H':=λb c=>⟨λh=>fr _ _ h (jH h e8 (by intro z;cases z)),λo h=>fr _ _ h (jH h e8 (by intro z;cases z))⟩;have h1':=fr _ _ h1 (jH h1 e8 (by intro z;cases z));have tl:Ψ.length=1+(sts.take i).length:=by rw[LT.len,CA,Cw];rfl
   refine⟨_,Z,.inl ⟨Z,_,zL.of gt⟩,_,Z,a,_,0,_,Z,Z,yT.of h1',Z,x.m,Z,ox.m0,ox.m1,_,Z,a,_,1,_,Z,Z,yT.of h1',Z,_,Z,a,_,2,_,Z,Z,yT.of h1',Z,_,Z,a,_,3,_,Z,Z,yT.of h1',Z,_,Z,?_⟩;refine⟨_,x.b,dd,x.ds,x.n,D,qs.map (·.1),Z,(h2.kt kt).dues,λp hp=>uY (ox.ds p hp),uY ox.b,uY ox.n,fr _ _ (S7 _ _ e3) (zo e3 hT),by rw[Cw];lia,λr H8 s8 r0 e9=>?_⟩;refine⟨tb,Ψ,_,Z,Z,s8 _ _ gt,by rw[tl,CQ,ah];lia,?_⟩;refine kk _ _ ⟨_,_,Z,zt,?_,λb o hb nb=>?_⟩
   ·rw[tk,CJ,<- dc];refine qG.snoc ((LT.same s8).put (s8 _ _ gt)) ?_;rw[zx (zo gt r0).symm];exact e9
   ·rw[zx nb];exact s8 _ _ (fr _ _ hb nb)
  ·rintro σ H' ⟨x4,Ψ,rfl,gt,LT,fr⟩;rw[T.len,dM]at LT;have e1':=fr _ _ (S7 _ _ e12) (zo e12 hT);have kt:KT H7 H':=λb c=>⟨λh=>fr _ _ h (jH h e8 (by intro z;cases z)),λo h=>fr _ _ h (jH h e8 (by intro z;cases z))⟩;have tl:Ψ.length=1+sts.length:=by rw[LT.len,CA,Cw];rfl
   have sb:Jj (qS (sts.map (·.b))):=uT (λx hx=>by obtain⟨s,hs,rfl⟩:=CB.mp hx;exact(O.each s hs).b) (by rw[Cw];exact few);have sn:Jj (qS (sts.map (·.n))):=uT (λx hx=>by obtain⟨s,hs,rfl⟩:=CB.mp hx;exact(O.each s hs).n) (by rw[Cw];exact few);refine⟨_,Z,.inl ⟨Z,_,zL.of gt⟩,_,Z,tt,_,0,_,Z,Z,yT.of e1',Z,_,Z,tt,_,1,_,Z,Z,yT.of e1',Z,_,Z,tt,_,2,_,Z,Z,yT.of e1',Z,_,Z,?_⟩;refine⟨_,_,d,qs,_,D,qs.map (·.1),Z,(D1.kt (KT.same S7)).kt kt,λp hp=>WL O p (pm.mem_iff.mp hp),sb,sn,fr _ _ (S7 _ _ e3) (zo e3 hT),by rw[Cw];lia,λr H8 s8 r0 e9=>?_⟩;refine⟨tb,Ψ,_,Z,Z,s8 _ _ gt,by rw[tl,ah];lia,?_⟩;have TO:=xX O pm
   have LT2:qG (upd H8 tb (.lst (Ψ++[.ref r]))) (Ψ++[.ref r]) (qZ sts qs):=by
    refine qG.snoc ((LT.same s8).put (s8 _ _ gt)) ?_;rw[zx (zo gt r0).symm];exact e9
   refine⟨Z,_,Z,tb,_,qZ sts qs,qs.length+3,Z,zt,LT2,TO,λr2 H9 s9 r20 e10=>?_⟩;refine⟨_,jM (qZ sts qs) (qs.length+3),r2,Z,Z,zL.of e10,Vo TO,q qs H9 pm so λb o hb=>s9 _ _ ?_⟩;rw[zx (zo hb h0T)];exact s8 _ _ (fr _ _ (S7 _ _ (S2 _ _ hb)) (zo hb h0T))
theorem YV (F:jn K "are_figures" "are_figures" (qH 34) f fd)(G:wk mg)(N1:Txt mg "FIGURES" "0123456789"):qD P w K mg base qQ 1 f fd ["text"] Yb:=by
 obtain⟨tm,hm⟩:=N1;have nc:(["sign"]:List af).Nodup:=by decide+kernel
 refine F.ok (N:=["text"]) (by walk_at"s") (λvs H Q E h=>?_) (λV' A outer s H vs Q E hr h=>?_)
 ·obtain⟨z,rfl,_⟩:=h;rfl
 ·obtain⟨z,rfl,hz,q⟩:=h;have ls:4000001<=ar:=by rw[ah];decide
  refine' ⟨_,zi (zB (jR (yn kG (zu qf Z G.len g_ (za (pv 0) zd)) ze (zI _)) (vO (zu (uB Z) Z G.all wQ (za ?comp zd))))),?main⟩
  case comp=>
   refine' z9 (Nc:=["sign"]) (cl:=[]) (src:=[none]) (wi:=Ov (zN 0)) (g:=zO 0) (tt:=qA) (te:=jA (λx y H Q=>∃i j,x=.str i/\y=.str j/\Q (.bl (!(aN j i 0 j.length 1).isEmpty)) H) (zN 0) (tC (.str "0123456789"))) (by walk_at"c0") rfl (YW (pv 0)) ?hb
   case hb=>
    intro fp C' s' H';exact⟨zA (i:=0) nc Z (ax Z),qi,yn Ve (pv 0) (qe (v:=.str "0123456789") Z hm ⟨_,Z⟩) (by rfl)⟩
  refine⟨_,Z,z,Z,by lia,_,_,Z,Z,_,Z,yo (λe=>?_) (λe=>?_)⟩
  ·have e:0<z.length:=by have:=B' e;lia
   have ne:z.cps.toList≠[]:=λy=>by rw[zq,y]at e;exact M' e (by decide)
   refine⟨_,Z,z,Z,λD hD=>?_⟩;refine Zr (wR (z:=z)) hD (by rw[Cw,<- zq];lia) (λ_=>true) (λx=>match x with|.str y=>.bl (vd (y.cps.getD 0 0)) |v=>v) (λx _ H' R _ r=>r) (λx hx _ H' R _ r=>?_) ?_
   ·obtain⟨c,_,rfl⟩:=CB.mp hx;refine⟨_,Z,_,_,Z,Z,?_⟩;rw[xQ];exact r
   ·rw[List.filter_eq_self.mpr λ_ _=>rfl,dh];refine⟨D,z.cps.toList.map vd,Z,zL.of (by rw[dh];exact zt),?_⟩
    have e2:j4 z.cps.toList=(z.cps.toList.map vd).all id:=by
     unfold j4;rw[D0]
     cases h:z.cps.toList with
     |nil=>exact M' h ne
     |cons a l=>rfl
    rw[<- e2];exact q _ (zj.upd hD)
  ·have e0:z.cps.toList=[]:=Dd.mp (by
    rw[<- zq];have:¬(0:Int)<(z.length:Nat):=λc=>e (i' c);lia)
   have q':=q H (zj.refl _);rw[e0]at q';exact q'
theorem Qt (F:jn K "is_month_text" "is_month_text" (qH 49) f fd)(G:wk mg)(C1:jw P w K mg base qQ 1 "are_figures" ["text"] Yb):qD P w K mg base qQ 2 f fd ["thing"] (uC K):=by
 refine F.ok (N:=["thing"]) (by walk_at"s") (λvs H Q E h=>?_) (λV' A outer s H vs Q E hr h=>?_)
 ·obtain⟨z,rfl,_⟩:=h;rfl
 ·obtain⟨v,rfl,h⟩:=h
  refine⟨_,(zh (qm (PW.pt (jh (yx (yg (zu zP Z G.isinstance zy (za (pv 0) (za (yX (v:=.ty "str") Z G.str yO Z) zd))))) (jc (zD v8 (zu qf Z G.len g_ (za (pv 0) zd)) ze (zI _))))) (zi (zB vh)) zQ)
    (zi (zB (jR (zG C1 hr (by decide) zT (za (zJ qw (pv 0) zV (zK ze)) zd)) (jR (yn y6 (qa wX (pv 0) ze) zv (zI _)) (vO (zG C1 hr (by decide) zT (za (zJ qw (pv 0) (zK ze) zV) zd)))))))),?_⟩
  rcases h with⟨⟨r,Ξ,ty,ne⟩,q⟩ |⟨z,rfl,hz,q⟩
  ·obtain⟨_,_,k3,_⟩:=Yp (K:=K) r Ξ
   have e:r.2.2.2.1=false:=by
    simp only[Ww,CF,dw,or_false]at Ξ;rcases Ξ with rfl |rfl |rfl |rfl |rfl |rfl |rfl<;>first |rfl |exact M' rfl ne
   rw[e]at k3;exact⟨_,Z,_,_,_,_,false,Z,Z,.inl ty,k3,false,Z,yh q⟩
  have zf:z.length<=ar:=vT hz rfl;refine⟨_,Z,_,_,_,_,true,Z,Z,.inl (.str z),Z,true,Z,qO ⟨_,Z,z,Z,zf,Z,_,Z,yo (λe=>?_) (λe=>?_)⟩⟩
  ·have e1:¬z.cps.toList.length=7:=λy=>by
    rw[<- zq]at y;rw[y]at e;exact M' e (by decide)
   have q':=q H (zj.refl _);unfold U8 at q';rw[j' e1]at q';exact q'
  have e1:z.length=7:=by
   have:¬(!decide (V.int (z.length:Nat)=V.int 7))=true:=e;rw[rL]at this
   simp at this
   lia
  have e2:z.cps.toList.length=7:=by rw[<- zq];exact e1
  have c4:(ay z none (some 4)).cps.toList=z.cps.toList.take 4:=Zh (k:=4) (by rw[e2];decide);have c5:(ay z (some 5) none).cps.toList=z.cps.toList.drop 5:=kL (k:=5) (by rw[e2];decide);have hc:z.cps.toList[4]?=some z.cps.toList[4]:=CC (by rw[e2];decide);unfold U8 at q;rw[i' e2,dR,hc]at q;refine⟨_,Z,_,Z,_,Z,zf,_,Z,CD (h9 z _ _) hz,λH1 s1=>?_⟩;rw[c4];refine⟨_,Z,yo (λe=>?_) (λe=>?_)⟩
  ·rw[e,dR]at q;refine⟨_,Z,z,4,_,Z,Z,zf,Ys (i:=4) (by decide) hc,Z,_,Z,yo (λe=>?_) (λe=>?_)⟩
   ·rw[Q8]at e;have ec:z.cps.toList[4]=45:=B' e;rw[ec,i' Z,dR]at q;refine⟨_,Z,_,Z,_,Z,zf,_,Z,CD (h9 z _ _) hz,λH2 s2=>?_⟩;rw[c5];exact q _ (s1.trans s2)
   ·rw[Q8]at e;have ec:¬z.cps.toList[4]=45:=λy=>e (i' y);have q':=q H1 s1;rw[j' (λy=>ec (ai y)),d6]at q';exact q'
  ·have e':j4 (z.cps.toList.take 4)=false:=by simpa using e
   have q':=q H1 s1;rw[e',d6]at q';exact q'
theorem Jn (F:jn K "read_month" "read_month" (qH 50) f fd)(G:wk mg)(X:Er K mg "BadText" cT)(N1:Gi mg "YEAR_MONTHS" 12)(C1:jw P w K mg base qQ 2 "is_month_text" ["thing"] (uC K)):qD P w K mg base (gG P w) 3 f fd ["text"] (kD K cT):=by
 obtain⟨tm,hm⟩:=N1;have nd:(["text","place"]:List af).Nodup:=by decide+kernel
 refine F.okE (N:=["text","place"]) (by walk_at"s") (λvs H Q E h=>?_) (λV' A outer s H vs Q E hr h=>?_)
 ·obtain⟨v,rfl,_⟩:=h;rfl
 ·obtain⟨v,rfl,h⟩:=h
  refine⟨_,(zh (qm (yx (yg (zG C1 hr (by decide) zT (za (pv 0) zd)))) (zi (jm ye Z Z X.at' X.ex (za zv zd))) zQ)
    (zh (zE (i:=1) nd Z (ax Z) (zY yc Z G.int qP (za (zJ qw (pv 0) (zK ze) zV) zd)))
    (zh (qm (PW.pt (jh (zD Zv (pv 1) ze (zI _)) (jc (zD kG (pv 1) (qe (v:=.int 12) Z hm ⟨_,Z⟩) (zI _))))) (zi (jm ye Z Z X.at' X.ex (za zv zd))) zQ)
    (zi (zB (zm kJ (zm qu (zm yp (zY yc Z G.int qP (za (zJ qw (pv 0) zV (zK ze)) zd)) (qe (v:=.int 12) Z hm ⟨_,Z⟩)) (pv 1)) ze)))))),?_⟩
  rcases h with⟨ns,q⟩ |⟨z,rfl,hz,q⟩
  ·exact⟨_,Z,_,Z,.inl ⟨ns,false,Z,yh ⟨by decide,q⟩⟩⟩
  refine⟨_,Z,_,Z,.inr ⟨z,Z,hz,λH1 s1=>?_⟩⟩;obtain⟨q1,q2⟩:=q H1 s1
  cases hb:U8 z with
  |false=>
   refine⟨false,Z,yh ⟨by decide,q2 ?_⟩⟩;unfold yK;rw[hb,K' (λh=>CZ h.1)]
  |true=>
   refine⟨true,Z,qO ?_⟩;have hb':=hb;unfold U8 at hb';simp only[CW,decide_eq_true_iff]at hb';obtain⟨h7,f4,_,f5⟩:=hb';have c4:(ay z none (some 4)).cps.toList=z.cps.toList.take 4:=Zh (k:=4) (by rw[h7];decide);have c5:(ay z (some 5) none).cps.toList=z.cps.toList.drop 5:=kL (k:=5) (by rw[h7];decide);have zf:z.length<=ar:=vT hz rfl;have z7:z.length=7:=by rw[zq];exact h7
   have l4:(ay z none (some 4)).length<=640:=Ms (h9 z _ _) (by rw[z7];rfl);have l5:(ay z (some 5) none).length<=640:=Ms (h9 z _ _) (by rw[z7];rfl);obtain⟨a4,n4⟩:=ya f4;obtain⟨a5,n5⟩:=ya f5;have t4:=sE (x:=ay z none (some 4)) (by rw[c4];exact a4) (by rw[c4];exact n4) (Ms l4 Z);have t5:=sE (x:=ay z (some 5) none) (by rw[c5];exact a5) (by rw[c5];exact n5) (Ms l5 Z);rw[c4]at t4;rw[c5]at t5;refine⟨_,Z,_,Z,_,Z,zf,_,_,Z,t5,l5,?_⟩;refine⟨_,Z,_,_,Z,Z,_,Z,yo (λe=>⟨by decide,q2 ?_⟩) (λe=>⟨_,Z,_,_,Z,Z,_,Z,yo (λe2=>⟨by decide,q2 ?_⟩) (λe2=>?_)⟩)⟩
   ·have:=B' e;unfold yK;rw[K' (λh=>by have:=h.2.1;lia)]
   ·have:=B' e2;unfold yK;rw[K' (λh=>by have:=h.2.2;lia)]
   ·have e1:¬((d_ (z.cps.toList.drop 5):Nat):Int)<1:=λc=>e (i' c);have e3:¬(12:Int)<((d_ (z.cps.toList.drop 5):Nat):Int):=λc=>e2 (i' c);refine⟨_,Z,_,Z,_,Z,zf,_,_,Z,t4,l4,_,_,Z,Z,.inr ⟨by decide,by decide⟩,_,Z,_,_,Z,Z,_,_,Z,Z,q1 _ ?_⟩;unfold yK;rw[L' ⟨hb,by lia,by lia⟩]
end
end K27
namespace Pg
open PySem L2 PySem.NumText
theorem kh (n d k:Nat)(hk:0<k):HT.vQ n d (some (-(k:Int)))=n-k:=by
 show(if (-(k:Int))<0 then ((-(k:Int))+(n:Int)).toNat else min (-(k:Int)).toNat n)=n-k;rw[L' (by lia)];lia
theorem gj (z:af):(ay z none (some (-3))).cps.toList=wh z.cps.toList:=by
 rw[qk];unfold we wh;have e:HT.vQ z.cps.toList.length z.cps.toList.length (some (-3))=z.cps.toList.length-3:=kh _ _ 3 (by decide);rw[e,HT.yN,Dv,DM]
theorem gJ (z:af):(ay z (some (-2)) none).cps.toList=kF z.cps.toList:=by
 rw[qk];unfold we kF;have e:HT.vQ z.cps.toList.length 0 (some (-2))=z.cps.toList.length-2:=kh _ _ 2 (by decide);rw[e,HT.yN];exact dW (by rw[dB];lia)
theorem Lf (z:af):(ay z (some 1) none).cps.toList=z.cps.toList.tail:=by
 rw[qk];unfold we;have e:HT.vQ z.cps.toList.length 0 (some 1)=min 1 z.cps.toList.length:=HT.jU _ _ 1;rw[e,HT.yN]
 cases z.cps.toList with
 |nil=>rfl
 |cons a l=>
  have:min 1 (a::l).length=1:=by rw[CY];lia
  rw[this];show(l).take _=l;exact dW (by rw[CY];lia)
theorem tQ (z:af):(ay z (some 0) none).cps.toList=z.cps.toList:=by
 rw[qk];unfold we;have e:HT.vQ z.cps.toList.length 0 (some 0)=min 0 z.cps.toList.length:=HT.jU _ _ 0;rw[e,HT.yN,Nat.zero_min,Dv];exact dW (by lia)
theorem r9 (z:af):(ay z none (some 1)).cps.toList=z.cps.toList.take 1:=by
 rw[qk];unfold we;have e:HT.vQ z.cps.toList.length z.cps.toList.length (some 1)=min 1 z.cps.toList.length:=HT.jU _ _ 1;rw[e,HT.yN,Dv,DM]
 cases z.cps.toList with
 |nil=>rfl
 |cons a l=>
  have:min 1 (a::l).length=1:=by rw[CY];lia
  rw[this]
theorem N5 (z:af):(ay z (some (-3)) (some (-2))).cps.toList=(z.cps.toList.drop (z.cps.toList.length-3)).take (z.cps.toList.length-2-(z.cps.toList.length-3)):=by
 rw[qk];unfold we;have e:HT.vQ z.cps.toList.length 0 (some (-3))=z.cps.toList.length-3:=kh _ _ 3 (by decide);have e2:HT.vQ z.cps.toList.length z.cps.toList.length (some (-2))=z.cps.toList.length-2:=kh _ _ 2 (by decide);rw[e,e2]
theorem yW (z y:af):decide (V.str z=V.str y)=decide (z.cps.toList=y.cps.toList):=decide_eq_decide.mpr ⟨λh=>by injection h with h;rw[h],λh=>by rw[jd h]⟩
theorem YS (z:af)(c:Nat):Fw z ⟨#[c]⟩=decide (z.cps.toList.head?=some c):=by
 unfold Fw Builtin.Str.subAt;obtain⟨⟨l⟩⟩:=z;show(decide (0+1<=l.length)&&((AE l).extract 0 (0+1) == #[c]))=decide (l.head?=some c)
 cases l with
 |nil=>rfl
 |cons a l=>
  have e:(AE (a::l)).extract 0 (0+1) = #[a]:=by
   apply Array.ext'
   simp
  rw[e,i' (by rw[CY];lia),dR]
  by_cases h:a=c
  ·subst h
   simp
  ·rw[j' (by intro q;exact h (ai q))]
   simp[h]
theorem Wl:("-":af)=⟨#[45]⟩:=by decide+kernel
theorem Y0:("0":af)=⟨#[48]⟩:=by decide+kernel
theorem oG:(".":af)=⟨#[46]⟩:=by decide+kernel
theorem YX:("-0.00":af).cps.toList=QP:=by decide+kernel
theorem Mg (l:List Nat):(wa l).length<=l.length:=by
 unfold wa;split
 ·rw[fW];omega
 ·exact Cz _
theorem MR (h:j4 l=true):1<=l.length:=by
 unfold j4 at h
 cases l with
 |nil=>cases h
 |cons a l=>rw[CY];lia
theorem Gs {u:List Nat}(h:j4 (wh u)=true):4<=u.length:=by
 have:=MR h;unfold wh at this;rw[CQ]at this;omega
theorem TX (h:3<=l.length):atI l (-3)=l[l.length-3]?:=by
 unfold atI XT;rw[K' (by decide),L' (by lia)];show l[((-3:Int)+(l.length:Nat)).toNat]?=_;rw[show((-3:Int)+(l.length:Nat)).toNat=l.length-3 by lia]
def NR (u:List Nat):Bool:=decide ((u.drop (u.length-3)).take (u.length-2-(u.length-3))=[46])&&(decide (4<=u.length)&&((wh u++kF u).all vd && !(decide (4<u.length)&&decide (u.head?=some 48))))
theorem RP {u:List Nat}(h:4<=u.length):((u.drop (u.length-3)).take (u.length-2-(u.length-3))=[46])↔u[u.length-3]?=some 46:=by
 have e:u.length-2-(u.length-3)=1:=by omega
 have hl:u.length-3<u.length:=by omega
 rw[e,List.take_one,List.head?_drop,CC hl]
 simp
theorem Gg {u:List Nat}(h:4<=u.length):(wh u).head?=u.head?:=by
 unfold wh;rw[List.head?_take,K' (by lia)]
theorem RZ (u:List Nat):NR u=Jl u:=by
 by_cases h4:4<=u.length
 ·have hw:(wh u).length=u.length-3:=by unfold wh;rw[CQ];lia
  have hl:(kF u).length=2:=by unfold kF;rw[dB];lia
  have fw:j4 (wh u)=(wh u).all vd:=by
   unfold j4
   cases e:wh u with
   |nil=>rw[e]at hw;simp at hw;lia
   |cons a l=>rfl
  have fl:j4 (kF u)=(kF u).all vd:=by
   unfold j4
   cases e:kF u with
   |nil=>rw[e]at hl;cases hl
   |cons a l=>rfl
  have nz:(decide (wh u=[48]) || !decide ((wh u).head?=some 48))=!(decide (4<u.length)&&decide (u.head?=some 48)):=by
   rw[Gg h4]
   by_cases h5:4<u.length
   ·have ne:¬wh u=[48]:=λc=>by rw[c]at hw;simp at hw;lia
    rw[j' ne,i' h5,EL,dR]
   ·rw[j' h5,d6,Bool.not_false];obtain⟨a,ha⟩:=E1.mp (show(wh u).length=1 by lia);have hh:=Gg h4;rw[ha]at hh ⊢;rw[<- hh]
    by_cases c:a=48
    ·subst c;rfl
    ·rw[j' (by intro q;exact c (by injection q)),j' (by intro q;exact c (ai q))];rfl
  unfold NR Jl wU;rw[i' h4,fw,fl,nz,decide_eq_decide.mpr (RP h4),EK]
  cases decide (u[u.length-3]?=some 46)<;>cases (wh u).all vd<;>cases (kF u).all vd<;>cases (!(decide (4<u.length)&&decide (u.head?=some 48)))<;>rfl
 ·have:Jl u=false:=by
   cases e:Jl u with
   |false=>rfl
   |true=>
    unfold Jl wU at e;rw[CW,CW]at e;exact M' (Gs e.1.1) h4
  rw[this];unfold NR;rw[j' h4,d6,Eu]
theorem Tq (a b:List Nat)(hb:b.length=2):d_ (a++b)=d_ a*100+d_ b:=by
 match b,hb with
 |[x,y],_=>
  rw[show a++[x,y]=(a++[x])++[y] by simp,HZ,HZ];show _=d_ a*100+((0*10+(x-48))*10+(y-48));lia
end Pg
namespace K27
open PySem PySem.NumText L2 Pg
seal PE PA PT PW PS jg PG vW PI vf PO PK
section
variable {K:BFr}{mg:af->Option ae}
theorem Nb (F:jn K "is_number_text" "is_number_text" (qH 35) f fd)(C1:jw P w K mg base qQ 1 "are_figures" ["text"] Yb):qD P w K mg base qQ 2 f fd ["text"] GF:=by
 refine F.ok (N:=["text"]) (by walk_at"s") (λvs H Q E h=>?_) (λV' A outer s H vs Q E hr h=>?_)
 ·obtain⟨z,rfl,_⟩:=h;rfl
 ·obtain⟨z,rfl,hz,q⟩:=h;refine⟨_,(zi (zB (jR (zG C1 hr (by decide) zT (za (pv 0) zd)) (vO (bu (yn y6 (pv 0) zv (zI _)) (vO (gy (qX aA D_ C_ kC (pv 0) (za zv zd))))))))),?_⟩;refine⟨_,Z,z,Z,by lia,λH1 s1=>⟨_,Z,?_⟩⟩;have q':=q H1 s1;unfold wU at q'
  cases e:j4 z.cps.toList with
  |false=>
   rw[e]at q';exact qO q'
  |true=>
   rw[e,dR]at q';refine yh ⟨_,Z,Z,_,Z,?_⟩;have e0:("0":af).cps.toList=[48]:=by rw[Y0]
   rw[yW,e0]
   by_cases c:z.cps.toList=[48]
   ·rw[i' c]at q' ⊢;exact yh q'
   ·rw[j' c,EL]at q';rw[j' c];refine qO ⟨_,Z,Z,_,_,Z,Z,_,Z,?_⟩;rw[Y0,YS];exact q'
theorem NX (F:jn K "is_amount_text" "is_amount_text" (qH 36) f fd)(C1:jw P w K mg base qQ 1 "are_figures" ["text"] Yb)(C2:jw P w K mg base qQ 2 "is_number_text" ["text"] GF):qD P w K mg base qQ 3 f fd ["text"] GD:=by
 have nd:(["text","whole"]:List af).Nodup:=by decide+kernel
 refine F.ok (N:=["text","whole"]) (by walk_at"s") (λvs H Q E h=>?_) (λV' A outer s H vs Q E hr h=>?_)
 ·obtain⟨z,rfl,_⟩:=h;rfl
 ·obtain⟨z,rfl,hz,q⟩:=h;have zf:z.length<=ar:=vT hz rfl
  refine⟨_,(zh (zE (i:=1) nd Z (ax Z) (zJ qw (pv 0) zV (zK (yL qV ze))))
    (zi (zB (jR (zG C2 hr (by decide) zT (za (pv 1) zd)) (jR (yn y6 (qa wX (pv 0) (yL qV ze)) zv (zI _)) (vO (zG C1 hr (by decide) zT (za (zJ qw (pv 0) (zK (yL qV ze)) zV) zd)))))))),?_⟩
  refine⟨_,Z,_,Z,_,Z,_,Z,zf,?_⟩;refine⟨_,Z,_,Z,CD (h9 z _ _) hz,λH1 s1=>?_⟩;rw[gj];have q1:=q H1 s1;unfold Jl at q1 q;refine⟨_,Z,?_⟩
  cases e:wU (wh z.cps.toList) with
  |false=>
   rw[e,d6]at q1;exact qO q1
  |true=>
   rw[e,dR]at q1 q
   have l4:4<=z.cps.toList.length:=by
    unfold wU at e;rw[CW]at e;exact Gs e.1
   have hc:=CC (show z.cps.toList.length-3<z.cps.toList.length by omega);rw[hc]at q1 q;refine yh ⟨_,Z,_,Z,z,-3,_,Z,Z,zf,(by rw[TX (by omega)];exact hc),Z,_,Z,?_⟩;rw[yW,oG];show if decide ([z.cps.toList[z.cps.toList.length-3]]=[46])=true then _ else _
   by_cases c:z.cps.toList[z.cps.toList.length-3]=46
   ·rw[c,i' Z,dR]at q;rw[c,i' rfl];refine yh ⟨_,Z,_,Z,_,Z,_,Z,zf,_,Z,CD (h9 z _ _) (by omega),λH2 s2=>?_⟩;rw[gJ];exact q _ (s1.trans s2)
   ·rw[j' (λy=>c (ai y)),d6]at q1;rw[j' (λy=>c (aT y).1)];exact qO q1
set_option maxHeartbeats 4000000 in
theorem Ma (F:jn K "read_amount" "read_amount" (qH 37) f fd)(G:wk mg)(X:Er K mg "BadText" cT)(N1:Gi mg "MOST_SIGNS_texts" 30)(C1:jw P w K mg base qQ 3 "is_amount_text" ["text"] GD):qD P w K mg base (gG P w) 4 f fd ["text"] (YG K cT):=by
 obtain⟨tm,hm⟩:=N1;have nd:(["text","below","unsigned","amount"]:List af).Nodup:=by decide+kernel
 refine F.okE (N:=["text","below","unsigned","amount"]) (by walk_at"s") (λvs H Q E h=>?_) (λV' A outer s H vs Q E hr h=>?_)
 ·obtain⟨v,rfl,_⟩:=h;rfl
 ·obtain⟨v,rfl,h⟩:=h
  refine⟨_,(zh (qm (PW.pt (jh (yx (yg (zu zP Z G.isinstance zy (za (pv 0) (za (yX (v:=.ty "str") Z G.str yO Z) zd))))) (jc (zD kG (zu qf Z G.len g_ (za (pv 0) zd)) (qe (v:=.int 30) Z hm ⟨_,Z⟩) (zI _))))) (zi (jm ye Z Z X.at' X.ex (za zv zd))) zQ)
    (zh (zE (i:=1) nd Z (ax Z) (qX aA D_ C_ kC (pv 0) (za zv zd)))
    (zh (zE (i:=2) nd Z (ax Z) (wM (yg (pv 1)) (zJ qw (pv 0) (zK ze) zV) (pv 0)))
    (zh (qm (PW.pt (jh (yx (yg (zG C1 hr (by decide) zT (za (pv 2) zd)))) (jc (zD y6 (pv 0) zv (zI _))))) (zi (jm ye Z Z X.at' X.ex (za zv zd))) zQ)
    (zh (zE (i:=3) nd Z (ax Z) (zm qu (zm yp (zY yc Z G.int qP (za (zJ qw (pv 2) zV (zK (yL qV ze))) zd)) ze) (zY yc Z G.int qP (za (zJ qw (pv 2) (zK (yL qV ze)) zV) zd))))
    (zi (zB (wM (yg (pv 1)) (yL qV (pv 3)) (pv 3))))))))),?_⟩
  rcases h with⟨⟨r,Ξ,ty,ne⟩,q⟩ |⟨z,rfl,hz,q⟩
  ·obtain⟨_,_,k3,_⟩:=Yp (K:=K) r Ξ
   have e:r.2.2.2.1=false:=by
    simp only[Ww,CF,dw,or_false]at Ξ;rcases Ξ with rfl |rfl |rfl |rfl |rfl |rfl |rfl<;>first |rfl |exact M' rfl ne
   rw[e]at k3;exact⟨_,Z,_,_,_,_,false,Z,Z,.inl ty,k3,false,Z,yh (yh ⟨by decide,q⟩)⟩
  have zf:z.length<=ar:=vT hz rfl;refine⟨_,Z,_,_,_,_,true,Z,Z,.inl (.str z),Z,true,Z,qO ⟨_,Z,z,Z,zf,_,_,Z,Z,_,Z,yo (λe=>⟨by decide,(q H (zj.refl _)).2 ?_⟩) (λe=>?_)⟩⟩
  ·have e:(30:Int)<((z.length:Nat):Int):=B' e;unfold qI;rw[K' λh=>by have:=h.1;rw[<- zq]at this;lia]
  have l30:z.length<=30:=by
   have e:¬(30:Int)<((z.length:Nat):Int):=λc=>e (i' c);lia
  refine⟨_,Z,Z,_,_,Z,Z,?_⟩;have ed:Fw z "-" = decide (z.cps.toList.head?=some 45):=by rw[Wl,YS]
  rw[ed];dsimp only [zO];refine LR (λQ=>∀y:af,y.cps.toList=wa z.cps.toList->Q (.str y) H) (λR r=>?_) (λy ey=>?_)
  ·refine⟨_,Z,_,Z,yo (λc=>?_) (λc=>?_)⟩
   ·exact⟨_,Z,_,Z,_,Z,zf,r _ (by rw[Lf];unfold wa;rw[L' (B' c)])⟩
   ·exact⟨_,Z,r _ (by unfold wa;rw[K' λh=>c (i' h)])⟩
  have yl:y.length<=30:=by
   rw[zq,ey];have:=Mg z.cps.toList;rw[<- zq]at this;lia
  have yf:y.length<=ar:=vT yl rfl;refine⟨_,Z,_,Z,by lia,λH1 s1=>?_⟩;obtain⟨q1,q2⟩:=q H1 s1;rw[ey]
  cases eb:Jl (wa z.cps.toList) with
  |false=>
   refine⟨false,Z,yh (yh ⟨by decide,q2 ?_⟩)⟩;unfold qI;rw[K' λh=>by rw[eb]at h;exact CZ h.2.1]
  |true=>
   refine⟨true,Z,qO ⟨_,Z,Z,_,Z,?_⟩⟩;rw[yW,YX]
   by_cases cz:z.cps.toList=QP
   ·rw[i' cz];refine yh ⟨by decide,q2 ?_⟩;unfold qI;rw[K' λh=>h.2.2 cz]
   ·rw[j' cz];refine qO ?_;have eb':=eb;unfold Jl wU at eb';rw[CW,CW,CW]at eb';obtain⟨⟨f1,_⟩,_,f2⟩:=eb';obtain⟨a1,n1⟩:=ya f1;obtain⟨a2,n2⟩:=ya f2;have c1:(ay y none (some (-3))).cps.toList=wh (wa z.cps.toList):=by rw[gj,ey]
    have c2:(ay y (some (-2)) none).cps.toList=kF (wa z.cps.toList):=by rw[gJ,ey]
    have l1:(ay y none (some (-3))).length<=640:=CD (h9 y _ _) (by lia);have l2:(ay y (some (-2)) none).length<=640:=CD (h9 y _ _) (by lia);have t1:=sE (x:=ay y none (some (-3))) (by rw[c1];exact a1) (by rw[c1];exact n1) (Ms l1 Z);have t2:=sE (x:=ay y (some (-2)) none) (by rw[c2];exact a2) (by rw[c2];exact n2) (Ms l2 Z);rw[c1]at t1;rw[c2]at t2
    have rd:qI z.cps.toList=some (if z.cps.toList.head?=some 45 then -(wm (wa z.cps.toList)) else wm (wa z.cps.toList)):=by
     unfold qI;rw[L' ⟨by rw[<- zq];exact l30,eb,cz⟩]
    refine⟨_,Z,_,Z,_,Z,_,Z,yf,_,_,Z,t1,l1,_,_,Z,Z,.inr ⟨by decide,by decide⟩,_,Z,_,Z,_,Z,_,Z,yf,_,_,Z,t2,l2,_,_,Z,Z,?_⟩;refine⟨_,Z,_,Z,yo (λc=>?_) (λc=>?_)⟩
    ·rw[L' (B' c)]at rd;exact⟨_,Z,_,Z,q1 _ rd⟩
    ·rw[K' λh=>c (i' h)]at rd;exact⟨_,Z,q1 _ rd⟩
end
end K27
namespace Pg
open PySem L2
theorem Xd (h:ay z (some (-1)) none = " "):∃l,z.cps.toList=l++[32]/\(ay z none (some (-1))).cps.toList=l:=by
 have hc:(ay z (some (-1)) none).cps.toList=(" ":af).cps.toList:=G' (λz:af=>z.cps.toList) h;rw[show(" ":af).cps.toList=[32] by decide+kernel]at hc
 by_cases c:1<=z.cps.toList.length
 ·have e1:=vG (z:=z) (k:=1) (by decide) c;have e2:=oO (z:=z) (k:=1) (by decide) c;refine⟨z.cps.toList.take (z.cps.toList.length-1),?_,e2⟩;have e3:z.cps.toList.drop (z.cps.toList.length-1)=[32]:=e1.symm.trans hc;rw[<- e3,DE]
 ·have e0:z.cps.toList=[]:=Dd.mp (by lia);rw[qk,e0]at hc;exact M' (G' iB hc) (by decide)
theorem OG (h:¬ay z (some (-1)) none = " "):z.cps.toList.getLast?≠some 32:=λc=>h (jd (by
 rcases DN z.cps.toList with e |⟨l,x,e⟩
 ·rw[e]at c;cases c
 ·rw[DC]at e;have l1:z.cps.toList.length=l.length+1:=by rw[e,CA];rfl
  have e1:=vG (z:=z) (k:=1) (by decide) (by lia);refine Eq.trans e1 ?_;rw[e,eQ,Ez]at c;have cx:x=32:=ai c;rw[l1,Ey,e,fL,cx];decide+kernel))
theorem OY (sep:af):aF sep []=aC:=rfl
theorem ow:("  ":af).length=2:=by decide+kernel
theorem JP (k:Nat):qE "  " (if decide ((0:Int)<((k:Nat):Int))=true then 1 else 0)=if k=0 then aC else "  ":=by
 by_cases c:k=0
 ·subst c;rw[L' rfl];exact jd (by decide+kernel)
 ·rw[K' c,L' (i' (by lia))];exact jd (by decide+kernel)
theorem OD {cs:List af}{k:Nat}{c:af}(h:cs[k]?=some c):aF "  " (cs.take (k+1))=aF "  " (cs.take k)++qE "  " (if decide ((0:Int)<((k:Nat):Int))=true then 1 else 0)++c:=by
 have tk:cs.take (k+1)=cs.take k++[c]:=by rw[dS,h];rfl
 rw[JP,tk]
 by_cases e:k=0
 ·subst e;rw[L' Z,SU,Di,Zp,OY];exact jd (by rw[zR,zR];rfl)
 ·rw[K' e,km];intro z;have:=G' iB z;rw[CQ]at this;have hk:=(CV.mp h).1;rw[DY]at this;lia
theorem xT {w:Nat}(h:z.length<=w):z++qE " " ((w:Nat)-(z.length:Nat):Int)=u_ z (w:Nat):=by
 refine jd ?_;rw[zR,wI,<- zq,show((w:Nat):Int)-((z.length:Nat):Int)=((w-z.length:Nat):Int) by omega,YR]
theorem U7 {w:Nat}(h:z.length<=w):qE " " ((w:Nat)-(z.length:Nat):Int)++z=iL z (w:Nat):=by
 refine jd ?_;rw[zR,w5,<- zq,show((w:Nat):Int)-((z.length:Nat):Int)=((w-z.length:Nat):Int) by lia,YR]
theorem Me {w l:Nat}:(qE " " ((w:Nat)-(l:Nat):Int)).length<=w:=by
 unfold qE;rw[zq];show(aw _ [32]).flatten.toArray.toList.length<=w;rw[List.length_flatten]
 simp
theorem b5 {k:Nat}(T:vY W' n)(hr:r∈W')(hk:k<n):(yG r (vM W' n))[k]?=some (if k=0 then r.getD k aC++qE " " ((kI W' k:Nat)-((r.getD k aC).length:Nat):Int) else qE " " ((kI W' k:Nat)-((r.getD k aC).length:Nat):Int)++r.getD k aC):=by
 have hl:(r.getD k aC).length<=kI W' k:=Xk hr k;have hw:(vM W' n).getD k 0=kI W' k:=by rw[dD,bK hk];rfl
 by_cases e:k=0
 ·subst e;rw[L' Z,kU (T.wide r hr) uf T.n1,hw,xT hl]
 ·rw[K' e,W2 (T.wide r hr) uf hk e,hw,U7 hl]
theorem XR {line:af}(h1:js z.cps.toList=js line.cps.toList)(h2:z.cps.toList.getLast?≠some 32):z=Ah line " ":=jd (by rw[vp,<- h1,xJ h2])
def Wn (o:Option Int):V:=(o.map V.int).getD .non
def TV (o:Option Int):af:=match o with|some v=>qW v |none=>"-"
def Q3 (s:yZ)(nms:List af):List (Option Int):=[some s.b]++nms.map (yP s.ds)++[some s.n]
theorem nK (t:af)(s:yZ)(nms:List af):jE t s.b s.ds s.n nms=[t]++(Q3 s nms).map TV:=by
 unfold jE Q3;rw[CJ,CJ,dh];rfl
def kH (sts:List yZ)(nms:List af):List Int:=[qS (sts.map (·.b))]++nms.map (λz=>qS (sts.map λs=>qY s.ds z))++[qS (sts.map (·.n))]
theorem Qz (l:List Int)(x:Int):qS (l++[x])=qS l+x:=by
 induction l with
 |nil=>show x+0=0+x;lia
 |cons a r ih=>
  show a+qS (r++[x])=a+qS r+x;rw[ih];lia
theorem WO (f g:α->Int)(l:List α):aH (· + ·) (l.map f) (l.map g)=l.map λx=>f x+g x:=by
 induction l with
 |nil=>rfl
 |cons a r ih=>rw[CO,CO,CO,ED,ih]
theorem Oz (sts:List yZ)(s:yZ)(nms:List af):kH (sts++[s]) nms=aH (· + ·) (kH sts nms) ((Q3 s nms).map λo=>o.getD 0):=by
 unfold kH Q3;rw[CJ (f:=λo:Option Int=>o.getD 0),CJ (f:=λo:Option Int=>o.getD 0),dh,E9 (by simp),E9 (by simp),WO]
 congr 2
 ·show [qS ((sts++[s]).map (·.b))]=[_];rw[CJ];show [qS (_++[s.b])]=_;rw[Qz];rfl
 ·refine Ex λz _=>?_;rw[CJ];show qS (_++[qY s.ds z])=_;rw[Qz];rfl
 ·show qS ((sts++[s]).map (·.n))=_;rw[CJ];show qS (_++[s.n])=_;rw[Qz];rfl
theorem lA (nms:List af):((kH [] nms).map V.int)=(aw (nms.length+2) [V.int 0]).flatten:=by
 unfold kH
 have:nms.map (λz=>qS (([]:List yZ).map λs=>qY s.ds z))=aw nms.length 0:=by
  apply Dj;intro i;rw[CI]
  by_cases h:i<nms.length
  ·rw[CC h,EN,L' h];rfl
  ·rw[dO (dY h),EN,K' h];rfl
 rw[this]
 have fl:∀n,(aw n [V.int 0]).flatten=aw n (V.int 0):=λn=>by
  induction n with
  |zero=>rfl
  |succ n ih=>
   rw[d7,dQ,ih];rfl
 rw[fl,CJ,CJ,List.map_replicate];show [V.int 0]++aw nms.length (V.int 0)++[V.int 0]=_;rw[d7,Ih,dc];rfl
theorem ZC (sts:List yZ)(nms:List af):(kH sts nms).length=nms.length+2:=by
 unfold kH;rw[CA,CA,Cw];show 1+_+1=_;lia
theorem Jg (s:yZ)(nms:List af):(Q3 s nms).length=nms.length+2:=by
 unfold Q3;rw[CA,CA,Cw];show 1+_+1=_;lia
def TN:V->Int |.int i=>i |_=>0
theorem Tp (o:Option Int):TN (Wn o)=o.getD 0:=by cases o<;>rfl
theorem Lk (ts:List Int)(os:List (Option Int)):aH (λx y=>V.int (TN x+TN y)) (ts.map V.int) (os.map Wn)=(aH (· + ·) ts (os.map λo=>o.getD 0)).map V.int:=by
 induction ts generalizing os with
 |nil=>rfl
 |cons t r ih=>
  cases os with
  |nil=>rfl
  |cons o q=>
   rw[CO,CO,CO,ED,ED,CO,ih,Tp];rfl
theorem Oe (os:List (Option Int)):jq H (os.map Wn) os (λ_ v o=>v=Wn o) :=
 ⟨Cw _,λi y h=>by
  rw[CI]at h;obtain⟨z,h1,rfl⟩:=CS.mp h;exact⟨z,h1,λ_ _=>rfl⟩⟩
theorem pT (ts:List Int):jq H (ts.map V.int) ts (λ_ v o=>v=.int o) :=
 ⟨Cw _,λi y h=>by
  rw[CI]at h;obtain⟨z,h1,rfl⟩:=CS.mp h;exact⟨z,h1,λ_ _=>rfl⟩⟩
theorem Vh (T:z4 H ts (prs.map cP)):jq H ts prs (λH' v p=>∃b,v=.ref b/\H' b=some (.tup (cP p))) :=
 ⟨by rw[T.len,Cw],λi y h=>by
  obtain⟨b,c,rfl,h1,h2⟩:=T.of_at h;rw[CI]at h1;obtain⟨p,hp,rfl⟩:=CS.mp h1;exact⟨p,hp,λH' s=>⟨b,Z,s _ _ h2⟩⟩⟩
def j3 (sts:List yZ)(nms:List af):List (af×Int):=nms.map λz=>(z,qY (yY sts) z)
theorem YD (sts:List yZ)(nms:List af):(j3 sts nms).map (·.1)=nms:=by
 unfold j3;rw[dh];exact K5 _
theorem XW (nd:nms.Nodup)(h:∀z,z∈nms↔z∈(yY sts).map (·.1)):(j3 sts nms).Perm (yY sts):=by
 have nA:((yY sts).map (·.1)).Nodup:=jx _;have n1:(j3 sts nms).Nodup:=Ij (f:=(·.1)) (S:=λa b=>a≠b) (λa b h e=>h (G' _ e)) (by rw[YD];exact nd);have n2:(yY sts).Nodup:=Ij (f:=(·.1)) (S:=λa b=>a≠b) (λa b h e=>h (G' _ e)) nA;refine(List.perm_ext_iff_of_nodup n1 n2).mpr λp=>?_;unfold j3;constructor
 ·intro hp;obtain⟨z,hz,rfl⟩:=CB.mp hp;obtain⟨q,hq,e⟩:=CB.mp ((h z).mp hz);have e:q.1=z:=e
  have:qY (yY sts) z=q.2:=by
   unfold qY;rw[<- e,uF nA hq];rfl
  rw[this,<- e];exact hq
 ·intro hp;refine CB.mpr ⟨p.1,(h _).mpr (CB.mpr ⟨p,hp,Z⟩),?_⟩
  have:qY (yY sts) p.1=p.2:=by
   unfold qY;rw[uF nA hp];rfl
  rw[this]
theorem pG (hz:z∈nms):j6 (j3 sts nms) z=qW (qY (yY sts) z):=by
 have:yP (j3 sts nms) z=some (qY (yY sts) z):=by
  unfold yP j3
  induction nms with
  |nil=>cases hz
  |cons a r ih=>
   rw[CO,Dn]
   by_cases e:a=z
   ·subst e;rw[i' rfl];rfl
   ·rw[j' e];rcases CF.mp hz with h |h
    ·exact M' h.symm e
    ·exact ih h
 unfold j6;rw[this]
theorem LD (N:Bz sts):jE "sums" (qS (sts.map (·.b))) (j3 sts nms) (qS (sts.map (·.n))) nms=[("sums":af)]++(kH sts nms).map qW:=by
 unfold jE kH;rw[CJ,CJ,dh]
 have:nms.map (j6 (j3 sts nms))=nms.map (qW ∘ λz=>qS (sts.map λs=>qY s.ds z)):=Ex λz hz=>by
  rw[pG hz];show qW (qY (vE (sts.map (·.ds))) z)=_;rw[U3 λprs h=>by obtain⟨s,hs,rfl⟩:=CB.mp h;exact N s hs,dh];rfl
 rw[this];rfl
theorem lV {nm:List af}(O:vA nm sts)(h:sts.length<=50):∀x∈kH sts nms,Jj x:=λx hx=>by
 unfold kH at hx;simp only[CU,CF,dw,or_false]at hx;rcases hx with (rfl |h1) |rfl
 ·exact uT (λy hy=>by obtain⟨s,hs,rfl⟩:=CB.mp hy;exact(O.each s hs).b) (by rw[Cw];exact h)
 ·obtain⟨z,_,rfl⟩:=CB.mp h1;refine uT (λy hy=>?_) (by rw[Cw];exact h);obtain⟨s,hs,rfl⟩:=CB.mp hy;unfold qY
  cases q:yP s.ds z with
  |none=>
   unfold Sm;rw[fq];lia
  |some v=>exact(O.each s hs).ds _ (kr q)
 ·exact uT (λy hy=>by obtain⟨s,hs,rfl⟩:=CB.mp hy;exact(O.each s hs).n) (by rw[Cw];exact h)
theorem PN {s:yZ}{nm:List af}(O:Bk nm s):∀o∈Q3 s nms,∀v,o=some v->Jj v:=λo ho v e=>by
 subst e;unfold Q3 at ho;simp only[CU,CF,dw,or_false]at ho;rcases ho with (h |h) |h
 ·cases h;exact uY O.b
 ·obtain⟨z,_,e⟩:=CB.mp h;exact uY (O.ds _ (kr e))
 ·cases h;exact uY O.n
def O5 (N:List af)(prs:List (af×Int)):List af:=(prs.filter λp=>!decide (p.1∈N)).map (·.1)
structure M9 (N:List af)(sts:List yZ):Prop where
 nd:N.Nodup
 mem:∀z,z∈N↔∃s∈sts,z∈s.ds.map (·.1)
theorem NB {N:List af}{s:yZ}(h:M9 N sts)(nd:(s.ds.map (·.1)).Nodup):M9 (N++O5 N s.ds) (sts++[s]):=by
 have mn:∀z,z∈O5 N s.ds↔z∈s.ds.map (·.1)/\¬z∈N:=λz=>by
  unfold O5;constructor
  ·intro m;obtain⟨p,hp,rfl⟩:=CB.mp m;obtain⟨h1,h2⟩:=DF.mp hp;exact⟨CB.mpr ⟨p,h1,Z⟩,by simpa using h2⟩
  ·rintro ⟨h1,h2⟩;obtain⟨p,hp,rfl⟩:=CB.mp h1;exact CB.mpr ⟨p,DF.mpr ⟨hp,by simpa using h2⟩,Z⟩
 refine⟨?_,λz=>?_⟩
 ·refine List.nodup_append.mpr ⟨h.nd,?_,λa ha b hb e=>?_⟩
  ·unfold O5;exact Fz (List.Sublist.map _ List.filter_sublist) nd
  ·subst e;exact((mn a).mp hb).2 ha
 ·rw[CU,mn,h.mem];constructor
  ·rintro (⟨t,h1,h2⟩ |⟨h1,_⟩)
   ·exact⟨t,dX _ h1,h2⟩
   ·exact⟨s,dm _ CG,h1⟩
  ·rintro ⟨t,h1,h2⟩;rcases CU.mp h1 with h1 |h1
   ·exact .inl ⟨t,h1,h2⟩
   ·rw[du.mp h1]at h2
    by_cases c:z∈N
    ·exact .inl ((h.mem z).mp c)
    ·exact .inr ⟨h2,λq=>c ((h.mem z).mpr q)⟩
theorem OM (N:List af):(N.map V.str).all jj=true:=dA.mpr λx hx=>by
 obtain⟨z,_,rfl⟩:=CB.mp hx;rfl
theorem MF (z:af)(N:List af):(if true then !M8 (.str z) (N.map V.str) else M8 (.str z) (N.map V.str))=!decide (z∈N):=by
 rw[L' rfl]
 congr 1
 unfold M8;rw[Kt,Dr,E3,decide_eq_true_iff];constructor
 ·rintro ⟨y,hy,e⟩;have e:(y==z)=true:=e;rw[<- eq_of_beq e];exact hy
 ·intro h;exact⟨z,h,beq_self_eq_true z⟩
theorem Zc {i:Int}(h0:0<=i)(h1:i<26):atI ("abcdefghijklmnopqrstuvwxyz":af).cps.toList i=some (97+i.toNat):=by
 obtain⟨n,rfl⟩:=dZ h0;rw[Jw];refine jG ?_;rw[List.getElem?_range' (by lia)];rw[dJ]
 congr 1
 lia
def JC (c:Nat):af:=⟨#[c]⟩
theorem Z7 (c:Nat):(JC c).cps.toList=[c]:=rfl
def resv:List af:=["base","net","month","sums"]
def Xq (z:af):Bool:=M8 (.str z) (resv.map V.str)
def Yh (z:af):af:=z++qE "q" (if Xq z=true then 1 else 0)
theorem ur (z:af):(Yh z).cps.toList=z.cps.toList++(if Xq z=true then [113] else []):=by
 unfold Yh;rw[zR]
 congr 1
 by_cases c:Xq z=true
 ·rw[L' c,L' c];decide+kernel
 ·rw[K' c,K' c];decide+kernel
theorem RV (z:af):(Yh z).length<=z.length+1:=by
 rw[zq,ur,CA,zq];split
 ·exact Cz _
 ·exact De _ _
theorem oH (h:Xq z=true):z∈resv:=by
 unfold Xq M8 at h;rw[Kt,E3]at h;obtain⟨y,hy,e⟩:=h;have e:(y==z)=true:=e;rw[<- eq_of_beq e];exact hy
theorem Vz {f:Nat->α}(h:∀i j,i<n->j<n->f i=f j->i=j):((aQ n).map f).Nodup:=by
 refine Eg.mpr (List.Pairwise.imp_of_mem (λ{i j} hi hj ne e=>ne (h i j (Dl.mp hi) (Dl.mp hj) e)) (List.nodup_range (n:=n)))
def Gw (a:af)(at':Int)(x:Int)(k:Nat):af:=ay a none (some at')++JC (97+((x+7*(k:Nat))%26).toNat)++ay a (some at') none
def GR (f:Int)(k:Nat):af:=qE (JC (97+((f+(k:Nat)/8)%26).toNat)) (1+(k:Nat)%8)
theorem um (a:af)(at' x:Int)(k:Nat):(Gw a at' x k).cps.toList=(ay a none (some at')).cps.toList++([97+((x+7*(k:Nat))%26).toNat]++(ay a (some at') none).cps.toList):=by
 unfold Gw;rw[zR,zR,Z7,dc]
theorem Nh {a:af}{x:Int}(hi:i<11)(hj:j<11)(h:Yh (Gw a at' x i)=Yh (Gw a at' x j)):i=j:=by
 have hc:(Yh (Gw a at' x i)).cps.toList=(Yh (Gw a at' x j)).cps.toList:=by rw[h]
 rw[ur,ur]at hc;have e1:=List.append_inj_left hc (by rw[um,um];simp);rw[um,um]at e1;have e2:=List.append_cancel_left e1;have e3:=(aT e2).1;omega
theorem uq (f:Int)(k:Nat):(GR f k).cps.toList=aw (1+k%8) (97+((f+(k:Nat)/8)%26).toNat):=by
 unfold GR qE;rw[Z7,show(1+((k:Nat):Int)%8).toNat=1+k%8 by lia];show(aw _ [_]).flatten=_;generalize 1+k%8=m
 induction m with
 |zero=>rfl
 |succ m ih=>
  rw[d7,dQ,ih];rfl
theorem Gz (f:Int)(k:Nat):Xq (GR f k)=false:=by
 cases c:Xq (GR f k) with
 |false=>rfl
 |true=>
  have m:=oH c;have hc:=uq f k;generalize GR f k=z at m hc;generalize 97+((f+(k:Nat)/8)%26).toNat=c' at hc;generalize 1+k%8=n at hc;unfold resv at m;simp only[CF,dw,or_false]at m
  have key:∀(z:af) (a b:Nat) (l:List Nat),z.cps.toList=a::b::l->z.cps.toList=aw n c'->a=b:=λz a b l e1 e2=>by
   rw[e2]at e1
   cases n with
   |zero=>cases e1
   |succ n=>
    cases n with
    |zero=>cases e1
    |succ n=>
     rw[d7,d7]at e1;have h1:=(aT e1).1;have h2:=(aT (aT e1).2).1;rw[<- h1,<- h2]
  rcases m with rfl |rfl |rfl |rfl
  ·exact M' (key _ 98 97 [115,101] (by decide+kernel) hc) (by decide)
  ·exact M' (key _ 110 101 [116] (by decide+kernel) hc) (by decide)
  ·exact M' (key _ 109 111 [110,116,104] (by decide+kernel) hc) (by decide)
  ·exact M' (key _ 115 117 [109,115] (by decide+kernel) hc) (by decide)
theorem MH {f:Int}(hi:i<11)(hj:j<11)(h:Yh (GR f i)=Yh (GR f j)):i=j:=by
 have hc:(Yh (GR f i)).cps.toList=(Yh (GR f j)).cps.toList:=by rw[h]
 rw[ur,ur,Gz,Gz,uq,uq,K' CZ,dy,dy]at hc;have hl:=G' iB hc;rw[Dh,Dh]at hl;have hh:=G' (λl:List Nat=>l.head?) hc;rw[show 1+i%8=i%8+1 by lia,show 1+j%8=j%8+1 by lia]at hh;have hh:=ai hh;lia
theorem V9 (z:af)(lo hi:Option Int):(ay z lo hi).length<=z.length:=by
 rw[zq,qk,zq];unfold we;rw[CQ,dB];lia
theorem Nf {a:af}{x:Int}(ha:a.length<=7)(k:Nat):(Gw a at' x k).length<=22:=by
 unfold Gw;have h1:=V9 a none (some at');have h2:=V9 a (some at') none;rw[qB,qB,show ∀c,(JC c).length=1 from λ_=>rfl];lia
theorem OA:∀(k:Nat) (zs:List af),zs.length=k->(∀z∈zs,z.length<=1)->(aF "" zs).length<=k:=by
 intro k
 induction k with
 |zero=>
  intro zs e _;rw[Dd.mp e];exact CP _
 |succ k ih=>
  intro zs e h;rcases DN zs with rfl |⟨r,z,rfl⟩
  ·cases e
  ·rw[DC]at e h ⊢;have er:r.length=k:=by rw[CA,dN]at e;lia
   have hz:=h z (dm _ CG);have hr:=ih r er λz hz=>h z (dX _ hz)
   by_cases c:r=[]
   ·subst c;rw[Di,Zp];lia
   ·rw[km _ _ c,qB,qB,show("":af).length=0 by decide+kernel];lia
theorem oz (f:Int)(k:Nat):(GR f k).length<=8:=by
 rw[zq,uq,Dh];lia
theorem yC.snoc {v:V}{s:yZ}(T:yC H ys sts)(h:VV H v s):yC H (ys++[v]) (sts++[s]):=by
 refine⟨by rw[CA,CA,T.len];rfl,λi y e=>?_⟩
 by_cases hi:i<ys.length
 ·rw[dF hi]at e;rw[dF (by rw[<- T.len];exact hi)];exact T.at_ i y e
 ·have hi:=dY hi;rw[dk hi]at e;rw[dk (by rw[<- T.len];exact hi),<- T.len]
  cases q:i-ys.length with
  |zero=>
   rw[q]at e;cases e;exact⟨s,Z,h⟩
  |succ n=>
   rw[q]at e;cases e
theorem yC.nil:yC H [] []:=⟨Z,λi y e=>nomatch e⟩
theorem gD {fl:aj}(h:H fl=some (.lst xs)):KT H (upd H fl (.lst ys)):=λb c=>by
 constructor
 ·intro e;rw[zx (jH e h (by intro z;cases z))];exact e
 ·intro o e;rw[zx (jH e h (by intro z;cases z))];exact e
theorem MN {K:BFr}{H4:Hp}{fl:aj}(h:zL K H4 a xs)(fr:∀b o,H4 b=some o->b≠fl->H' b=some o)(flH:H fl=none)(h0:zL K H a xs):zL K H' a xs:=by
 rcases h0 with (z |⟨o,z⟩) |z
 ·rcases h with (w |⟨o,w⟩) |w
  ·exact .inl (.inl (fr _ _ w (zo z flH)))
  ·exact .inl (.inr ⟨o,fr _ _ w (zo z flH)⟩)
  ·exact .inr w
 ·rcases h with (w |⟨o',w⟩) |w
  ·exact .inl (.inl (fr _ _ w (zo z flH)))
  ·exact .inl (.inr ⟨o',fr _ _ w (zo z flH)⟩)
  ·exact .inr w
 ·exact .inr z
def cQ (s:yZ):Dt:=.t [.v (.int s.m),.v (.int s.b),.t (s.ds.map λp=>.t ((cP p).map Dt.v)),.v (.int s.n)]
theorem NV {K:BFr}{d:aj}(h:uZ H d prs):Is K H 2 (.ref d) (.t (prs.map λp=>.t ((cP p).map Dt.v))):=by
 obtain⟨ts,h1,T⟩:=h;refine .t (.inl h1) (by rw[T.len,Cw,Cw]) λj x d e1 e2=>?_;rw[CI]at e2;obtain⟨p,hp,rfl⟩:=CS.mp e2;obtain⟨a,e3,e4⟩:=T.at_ j _ (by rw[CI,hp];rfl);rw[e1]at e3;cases e3;exact Is.flatT (yT.of e4) rfl
theorem bj {K:BFr}{v:V}{s:yZ}(h:VV H v s):Is K H 3 v (cQ s):=by
 obtain⟨a,d,rfl,h1,h2⟩:=h;refine .t (yT.of h1) rfl λj x e e1 e2=>?_
 match j,e1,e2 with
 |0,e1,e2=>
  cases e1;cases e2;exact .v rfl
 |1,e1,e2=>
  cases e1;cases e2;exact .v rfl
 |2,e1,e2=>
  cases e1;cases e2;exact NV h2.dues
 |3,e1,e2=>
  cases e1;cases e2;exact .v rfl
theorem Qo {K:BFr}(hf:H f=some (.lst ys))(T:yC H ys sts):Is K H 4 (.ref f) (.l (sts.map cQ)):=by
 refine .l (zL.of hf) (by rw[T.len,Cw]) λj x d e1 e2=>?_;obtain⟨s,hs,h⟩:=T.at_ j x e1;rw[CI,hs]at e2;cases e2;exact bj h
theorem JY {ps:List (af×Int)}(h1:qs.Perm (yY sts))(h2:ps.Perm (yY sts))(s1:lQ qs)(s2:lQ ps):qs=ps:=pK h1 h2 (jx _) s1 s2
def cV (K:BFr)(mg:af->Option ae)(x:af)(zs:List af):Prop:=∃a,mg x=some (.ref a)/\∀H,yT K H a (zs.map V.str)
inductive Rk where
 |flat (n:af) (a:Int)
 |share (n:af) (p:Int) (w:af)
 |capped (n:af) (p m:Int) (w:af)
 |least (n:af) (p l:Int) (w:af)
 |bands (n:af) (ps:List (Int×Int)) (w:af)
 |ontop (n:af) (p:Int) (w:af) (r:Rk)
def Rk.name:Rk->af
 |.flat n _=>n
 |.share n _ _=>n
 |.capped n _ _ _=>n
 |.least n _ _ _=>n
 |.bands n _ _=>n
 |.ontop n _ _ _=>n
def Rk.kd:Rk->Nat
 |.flat ..=>0
 |.share ..=>1
 |.capped ..=>2
 |.least ..=>3
 |.bands ..=>4
 |.ontop ..=>5
def MB:List af:=["base","net","month","sums"]
def pos (bs:List Int):Int:=((bs.filter λb=>decide (0<b)).length:Nat)
def dl (bs:List Int):List Int:=(bs.drop (HT.vQ bs.length 0 none)).take (HT.vQ bs.length bs.length (some (-1))-HT.vQ bs.length 0 none)
end Pg
variable {ord:List ae}
namespace ST
open PySem PySem.Spec PyProof.Rows
def own:List Char:="set_iterator".toList.reverse
theorem Gk:Manifest.owners.lookup (String.ofList own.reverse)=some Manifest.sig_set_iterator:=by kernel_rfl
theorem next_slot:Slot "set_iterator" "__next__" "set_iterator.__next__":=by
 refine Slot.of (owner:="set_iterator") (n:="__next__") ?_ ?_ ?_ ?_ (.inl ?_) ?_
 ·rw[Af,p_]
  kernel_rfl
 ·decide+kernel
 ·decide+kernel
 ·decide+kernel
 ·decide+kernel
 ·rw[HX]
  kernel_rfl
theorem JJ:Slot "set_iterator" "__iter__" "set_iterator.__iter__":=by
 refine Slot.of (owner:="set_iterator") (n:="__iter__") ?_ ?_ ?_ ?_ (.inl ?_) ?_
 ·rw[Af,p_]
  kernel_rfl
 ·decide+kernel
 ·decide+kernel
 ·decide+kernel
 ·decide+kernel
 ·rw[HX]
  kernel_rfl
theorem Y5:Kg table "set_iterator.__next__" = some Builtin.«set_iterator.__next__»:=F0 (by kernel_rfl)
theorem XH:Kg table "set_iterator.__iter__" = some Builtin.«dict_keyiterator.__iter__»:=SM (id':="dict_keyiterator.__iter__") (by kernel_rfl) rfl (by decide+kernel) (by kernel_rfl)
theorem OL:Kg table "set.__iter__" = some Builtin.«frozenset.__iter__»:=SM (id':="frozenset.__iter__") (by kernel_rfl) rfl (by decide+kernel) (by kernel_rfl)
theorem JI (a:ae):argsOk "set_iterator.__next__" ⟨[a],[]⟩:=by
 unfold argsOk;rw[signature?_of (id:="set_iterator.__next__") (n:="__next__".toList.reverse) (o:=own) (by kernel_rfl) Gk]
 kernel_rfl
theorem pI (a:ae):argsOk "set_iterator.__iter__" ⟨[a],[]⟩:=by
 unfold argsOk;rw[signature?_of (id:="set_iterator.__iter__") (n:="__iter__".toList.reverse) (o:=own) (by kernel_rfl) Gk]
 kernel_rfl
section
theorem OT {src:Source}{Q:Nat->av->Prop}(hn:0<n)(h:∀i d,i<n->Q i {s with drawn:=d}):wpAny (az prog w) A (choose src n) Q E s :=
 λΓ p hΓ=>⟨DU hn,h _ _ (eE _ hn)⟩
theorem YQ {l:List α}(h:i<l.length):(l[i]::l.eraseIdx i).Perm l:=by
 induction l generalizing i with
 |nil=>exact M' h (E4 _)
 |cons a l ih=>
  cases i with
  |zero=>exact .refl _
  |succ i=>
   have h':i<l.length:=Nat.lt_of_succ_lt_succ h;show(l[i]::a::l.eraseIdx i).Perm (a::l);exact(List.Perm.swap _ _ _).trans (.cons a (ih h'))
theorem NA (n:Nat)(xs:List α){Q:List α->av->Prop}(e:n=xs.length)(h:∀ys d,ys.Perm xs->Q ys {s with drawn:=d}):wpAny (az prog w) A (drawOrder n xs) Q E s:=by
 induction n generalizing xs s Q with
 |zero=>
  cases xs with
  |nil=>exact aq (h [] s.drawn (.refl _))
  |cons x xs=>exact M' e (CM (Kq _))
 |succ n ih=>
  cases xs with
  |nil=>exact M' e (Nat.succ_ne_zero _)
  |cons x xs=>
   unfold drawOrder;refine aa (OT (by simp) λi d hi=>?_);rw[CC hi];have ep:=YQ hi;refine aa (ih _ ?_ λys d' hp=>aq (h _ d' ((List.Perm.cons _ hp).trans ep)));rw[Fg hi];lia
theorem oA (next:Nat->Nat):∀(n k:Nat) (l:List α) (out:Array α),n=l.length->(pickOrder.go next n k l out).toList.Perm (out.toList++l)
 |0,k,[],out,_=>by
  unfold pickOrder.go
  simp
 |n+1,k,x::l,out,e=>by
  unfold pickOrder.go;have hi:next k%(x::l).length<(x::l).length:=eE _ (by simp);rw[CC hi];have ep:=YQ hi;refine(oA next n (k+1) _ _ ?_).trans ?_
  ·rw[Fg hi];lia
  ·rw[EJ,dc];exact List.Perm.append_left _ ep
theorem Vy (next:Nat->Nat)(xs:Array α):(pickOrder next xs).toList.Perm xs.toList:=by
 have:=oA next xs.size 0 xs.toList #[] (by simp);rw[Di]at this;exact this
end
section
def UR (first:ae)(i n ep:Nat)(S:aj):iN:={cls:=.type "set_iterator",dict:=none,data:=.fields #[first,iz i,.ref S,iz n,iz ep],slots:=#[]}
def Yl (es:Array (Int×ae))(t:Au):Bool:=!t.plain&&decide (es.size > 1)
def QC (t:Au)(i:Nat):Nat:=if i=0 then 0 else t.place.getD (i-1) 0+1
theorem XU {b:Bool}(g:j9 b t)(hi:i<=t.place.size):aV t.place (QC t i)=i:=by
 unfold QC
 cases i with
 |zero=>exact X9 g.rise
 |succ i=>exact Xj g.rise hi
inductive v7 (w:aZ)(es:Array (Int×ae))(ep:Nat)(t:Au)(S T:aj)(ord:List ae)(h:ia)(i:Nat):ae->Prop
 |text (k:Nat):jt w=true->ord=(pickOrder (w.params.setOrder S ep) es).toList.map (·.2)->v7 w es ep t S T ord h i (iz k)
 |table:jt w=false->Yl es t=false->j9 true t->ord=es.toList.map (·.2)->v7 w es ep t S T ord h i (iz (QC t i))
 |drawn (ps:List Nat):jt w=false->h.get? T=some (l_ "tuple" (ps.map λ(p:Nat)=>iz p).toArray 0)->ps.Perm (aQ es.size)->ord=ps.map (λp=>(es.getD p (0,.none)).2)->v7 w es ep t S T ord h i (.ref T)
theorem YJ {Q:Bool->av->Prop}(h:Q (jt w) s):wpAny (az prog w) A setsByText Q E s:=by
 unfold setsByText;exact aa (F9 (aq h))
theorem WT {S:aj}{T:aj}{first:Int}{Q:Option (ae×Nat)->av->Prop}(og:s.heap.get? S=some o)(dg:o.data=.set es ep t)(fg:t.fits es.size=true)(hi:i<=es.size)(F:v7 w es ep t S T ord h i (.int first 0))(q:∀k:Nat,(∀h',(∀v,ord[i]?=some v->v7 w es ep t S T ord h' (i+1) (iz k)))->Q (ord[i]?.map λv=>(v,k)) s):wpAny (az prog w) A (setNext S first.toNat i ep) Q E s:=by
 unfold setNext;refine aa (iG og dg fg ?_);refine aa (YJ ?_);generalize hv:iQ first 0=v at F
 cases F with
 |text k e1 e2=>
  cases hv;rw[e1];simp only[↓reduceIte,bne_self_eq_false,d8];unfold setWalk;refine aa (aa (iG og dg fg (aa (YJ ?_))));rw[e1];simp only[↓reduceIte];refine aa (F9 (aq (aq ?_)));have:=q k λh' v _=>.text k e1 e2;rw[e2,CI,eA,Option.map_map]at this;exact this
 |table e1 e2 g e3=>
  have f1:first=QC t i:=by
   cases hv;rfl
  subst f1
  have ts:t.place.size=es.size:=by
   have:=fg;simp only[SetTable.fits,CW,beq_iff_eq]at this;exact this.1
  rw[e1];simp only[d8,↓reduceIte,dJ];show wpAny _ _ (if Yl es t=true then _ else _) _ _ _;rw[e2];simp only[d8,↓reduceIte];show wpAny _ _ ((if (!t.led && !es.isEmpty)=true then unsupported "set:maker-not-led" else pure ()) >>= _) _ _ _;rw[g.led];simp only[Bool.not_true,d6,d8,↓reduceIte];refine aa (aq (aq ?_));rw[XU g (ts ▸ hi)]
  by_cases c:i<es.size
  ·have c':i<t.place.size:=ts ▸ c;rw[Dq c,Dq c']
   have ov:ord[i]?=some es[i].2:=by
    rw[e3,CI,eA,Dq c];rfl
   have sl:QC t (i+1)=t.place[i]+1:=by
    unfold QC
    simp[AN,c']
   have:=q (t.place[i]+1) λh' v _=>sl ▸ v7.table e1 e2 g e3;rw[ov]at this;exact this
  ·rw[EV (dY c)]
   have ov:ord[i]?=none:=by
    rw[e3,CI,eA,EV (dY c)];rfl
   have:=q 0 λh' v z=>by
    rw[ov]at z;cases z
   rw[ov]at this;exact this
 |drawn ps e1 e2 e3 e4=>cases hv
end
section
structure It (w:aZ)(es:Array (Int×ae))(ep:Nat)(t:Au)(S T I:aj)(ord:List ae)(i:Nat)(h:ia):Prop where
 it:∃first,h.get? I=some (UR first i es.size ep S)/\v7 w es ep t S T ord h i first
 set:∃o,h.get? S=some o/\o.data=.set es ep t
 fits:t.fits es.size=true
theorem v7.keep {S T:aj}(F:v7 w es ep t S T ord h i v)(k:∀o,h.get? T=some o->h'.get? T=some o):v7 w es ep t S T ord h' i v:=by
 cases F with
 |text k e1 e2=>exact .text k e1 e2
 |table e1 e2 g e3=>exact .table e1 e2 g e3
 |drawn ps e1 e2 e3 e4=>exact .drawn ps e1 (k _ e2) e3 e4
theorem v7.len {S T:aj}(F:v7 w es ep t S T ord h i v):ord.length=es.size:=by
 cases F with
 |text k e1 e2=>
  rw[e2,Cw,(Vy _ _).length_eq]
  simp
 |table e1 e2 g e3=>
  rw[e3]
  simp
 |drawn ps e1 e2 e3 e4=>
  rw[e4,Cw,e3.length_eq,d9]
theorem OS {S T:aj}{Q:Option ae->av->Prop}(J:It w es ep t S T I ord i s.heap)(hS:S≠I)(hT:T≠I)(hv:ord[i]?=some v)(q:∀h',ik I s.heap h'->It w es ep t S T I ord (i+1) h'->Q (some v) {s with heap:=h'}):wpAny (az prog w) A (A4 (.ref I)) Q E s:=by
 obtain⟨⟨first,ho,F⟩,⟨o,og,dg⟩,fg⟩:=J;have ty:s.TypeIs (.ref I) "set_iterator":=⟨_,ho,Z⟩
 have li:i<es.size:=by
  rw[<- F.len];exact(CV.mp hv).1
 unfold A4;refine aa (sP (sD (name:=AF "__next__") ty next_slot (iK next_slot ty Y5 ?_ (JI _))));unfold Builtin.«set_iterator.__next__»;refine aa (aq (aa (SN ho Z ?_)));dsimp only [iz];unfold SO;refine aa (aa (iG og dg fg (aq ?_)));simp only[bne_self_eq_false,d8,↓reduceIte]
 have P':∀(h1:ia) (x1:ae),ik I s.heap h1->h1.get? I=some (UR x1 (i+1) es.size ep S)->(∀h',(∀o,s.heap.get? T=some o->h'.get? T=some o)->v7 w es ep t S T ord h' (i+1) x1)->Q (some v) {s with heap:=h1}:=λh1 x1 sb e1 F1=>
  q h1 sb ⟨⟨x1,e1,F1 h1 λo z=>(sb.2 T hT).trans z⟩,⟨o,(sb.2 S hS).trans og,dg⟩,fg⟩
 have num:∀f:Int,first=.int f 0->wpAny (az prog w) A.in1 (setNext S f.toNat ((i:Nat):Int).toNat ((ep:Nat):Int).toNat >>= λr=>match r with
    |some (x,next)=>do
     AZ (aG I) 0 (iQ (next:Nat) 0)
     AZ (aG I) 1 (iQ ((i:Nat)+1) 0)
     ret x
    |none=>do
     AZ (aG I) 2 aS
     let e <- Sr (iX "StopIteration") []
     raiseNew e)
   (λP' s'=>∃v,P'=Fin.done (Flow.ret v)/\wpAny (az prog w) A (pure (some v)) Q E s') (λe s'=>wpAny (az prog w) A (do let b <- IH e (iX "StopIteration");if b=true then pure none else throw e) Q E s') s:=by
  intro f ef;subst ef;rw[dJ,dJ];refine aa (WT og dg fg (eK li) F λk F1=>?_);rw[hv];refine aa (m_ ho (by simp) λh1 e1 s1=>?_);refine aa (m_ e1 (by simp) λh2 e2 s2=>?_);exact aq ⟨v,Z,aq (P' h2 (iz k) (s1.trans s2) e2 λh' _=>F1 h' v hv)⟩
 cases F with
 |text k e1 e2=>exact num k rfl
 |table e1 e2 g e3=>exact num _ rfl
 |drawn ps e1 e2 e3 e4=>
  have pv:∃p,ps[i]?=some p/\p<es.size/\v=(es.getD p (0,.none)).2:=by
   rw[e4,CI,CS]at hv;obtain⟨p,p1,p2⟩:=hv;exact⟨p,p1,Dl.mp (e3.mem_iff.mp (dv p1)),p2.symm⟩
  obtain⟨p,p1,p2,p3⟩:=pv;show wpAny _ _ (KO (.ref T) >>= _) _ _ _;refine aa (Fs e2 Z ?_)
  have pe:(ps.map λ(p:Nat)=>iz p).toArray[((i:Nat):Int).toNat]?=some (.int (p:Nat) 0):=by
   rw[dJ,HG,CI,p1];rfl
  dsimp only;rw[pe];dsimp only;rw[dJ,dJ];unfold setNextDrawn;refine aa (aa (iG og dg fg ?_));simp only[bne_self_eq_false,d8,↓reduceIte];rw[Dq p2];refine aq ?_;refine aa (m_ ho (by simp) λh1 e5 s1=>?_)
  have vv:es[p].2=v:=by
   rw[p3]
   simp[AN,p2]
  exact aq ⟨v,vv ▸ Z,aq (P' h1 (.ref T) s1 e5 λh' k=>.drawn ps e1 (k _ e2) e3 e4)⟩
end
section
theorem Vi (hh:A.handled=none){h0:ia}{Q:Option ae->av->Prop}(q:∀h',Ib I h0 h'->Q none {s with heap:=h'}){h1:ia}(x:Ib I h0 h1):
  wpAny (az prog w) A.in1 (Sr (iX "StopIteration") [] >>= λe=>(raiseNew e:Sem Iq))
   (λP' s'=>∃v,P'=Fin.done (Flow.ret v)/\wpAny (az prog w) A (pure (some v)) Q E s') (λe s'=>wpAny (az prog w) A (do let b <- IH e (iX "StopIteration");if b=true then pure none else throw e) Q E s') {s with heap:=h1}:=by
 simp only[Sr,newTuple];refine aa (aa (a_ ?_ (by size_fits)));refine aa (m:=HP _ _) (HQ (a:=aS) Z ?_);refine a_ ?_ (by size_fits);simp only[raiseNew];refine aa (wpAny_handled ?_);rw[show A.in1.handled=none from hh];refine aa (aq (HN ?_));refine aa (s_ (T:="StopIteration") (b:=true) ⟨_,dj _ Z,Z⟩ HR ?_);exact aq (q _ ((x.push _).push _))
theorem lB (hh:A.handled=none){S T:aj}{Q:Option ae->av->Prop}(J:It w es ep t S T I ord es.size s.heap)(q:∀h',Ib I s.heap h'->Q none {s with heap:=h'}):wpAny (az prog w) A (A4 (.ref I)) Q E s:=by
 obtain⟨⟨first,ho,F⟩,⟨o,og,dg⟩,fg⟩:=J;have ty:s.TypeIs (.ref I) "set_iterator":=⟨_,ho,Z⟩;have hv:ord[es.size]?=none:=dO (DW F.len);unfold A4;refine aa (sP (sD (name:=AF "__next__") ty next_slot (iK next_slot ty Y5 ?_ (JI _))));unfold Builtin.«set_iterator.__next__»;refine aa (aq (aa (SN ho Z ?_)));dsimp only [iz];unfold SO;refine aa (aa (iG og dg fg (aq ?_)));simp only[bne_self_eq_false,d8,↓reduceIte]
 have num:∀f:Int,first=.int f 0->wpAny (az prog w) A.in1 (setNext S f.toNat ((es.size:Nat):Int).toNat ((ep:Nat):Int).toNat >>= λr=>match r with
    |some (x,next)=>do
     AZ (aG I) 0 (iQ (next:Nat) 0)
     AZ (aG I) 1 (iQ ((es.size:Nat)+1) 0)
     ret x
    |none=>do
     AZ (aG I) 2 aS
     let e <- Sr (iX "StopIteration") []
     raiseNew e)
   (λP' s'=>∃v,P'=Fin.done (Flow.ret v)/\wpAny (az prog w) A (pure (some v)) Q E s') (λe s'=>wpAny (az prog w) A (do let b <- IH e (iX "StopIteration");if b=true then pure none else throw e) Q E s') s:=by
  intro f ef;subst ef;rw[dJ,dJ];refine aa (WT og dg fg (Cz _) F λk F1=>?_);rw[hv];refine aa (m_ ho (by simp) λh1 e1 s1=>?_);exact Vi hh q s1.extBut
 cases F with
 |text k e1 e2=>exact num k rfl
 |table e1 e2 g e3=>exact num _ rfl
 |drawn ps e1 e2 e3 e4=>
  have pn:ps[es.size]?=none:=dO (by rw[e3.length_eq,d9];exact Cz _);show wpAny _ _ (KO (.ref T) >>= _) _ _ _;refine aa (Fs e2 Z ?_)
  have pe:(ps.map λ(p:Nat)=>iz p).toArray[((es.size:Nat):Int).toNat]?=none:=by
   rw[dJ,HG,CI,pn];rfl
  dsimp only;rw[pe];dsimp only;refine aa (m_ ho (by simp) λh1 e5 s1=>?_);refine aa (m_ e5 (by simp) λh2 e6 s2=>?_);exact Vi hh q (s1.trans s2).extBut
theorem pD {S T:aj}(J:It w es ep t S T I ord i s.heap)(q:Q (.ref I) s):wpAny (az prog w) A (KJ (.ref I)) Q E s:=by
 obtain⟨⟨first,ho,F⟩,_,_⟩:=J;have ty:s.TypeIs (.ref I) "set_iterator":=⟨_,ho,Z⟩;refine Ko ty JJ (iK JJ ty XH ?_ (pI _));exact aq ⟨_,Z,"set_iterator",_,ty,next_slot.lookup,q⟩
theorem mQ (hh:A.handled=none){S T:aj}(hS:S≠I)(hT:T≠I)(hl:ord.length=es.size):
  Walks prog w A I [I,S,T] [I] es.size (λi v=>ord[i]?=some v) (It w es ep t S T I ord) where
 sub:=λb hb=>by
  rw[du.mp hb];exact CG
 frame:=λi h h' J k=>by
  obtain⟨⟨first,ho,F⟩,⟨o,og,dg⟩,fg⟩:=J;exact⟨⟨first,k I (by simp) _ ho,F.keep λo e=>k T (by simp) _ e⟩,⟨o,k S (by simp) _ og,dg⟩,fg⟩
 item:=λi s Q E hi J q=>by
  have hv:ord[i]?=some (ord[i]'(hl ▸ hi)):=CC _;refine OS J hS hT hv λh' sb J'=>?_;exact q _ h' s.toks hv J' λb o hb e=>(sb.2 b λz=>hb (du.mpr z)).trans e
 done:=λs Q E J q=>lB hh J λh' x=>q h' s.toks λb o hb e=>x b o (λz=>hb (du.mpr z)) e
 self:=λi s Q E J q=>pD J q
end
section
theorem mW {S:aj}(og:s.heap.get? S=some o)(hx:o.ExactSet)(dg:o.data=.set es ep t)(fg:t.fits es.size=true)(g:j9 (!jt w) t)(hz:es.size<=ar)(q:∀h' d T I ord,(∀b o,s.heap.get? b=some o->h'.get? b=some o)->s.heap.get? I=none->S≠I->T≠I->It w es ep t S T I ord 0 h'->ord.Perm (es.toList.map (·.2))->(T=S∨s.heap.get? T=none)->Q (.ref I) {s with heap:=h',drawn:=d}):wpAny (az prog w) A (KJ (.ref S)) Q E s:=by
 have ty:s.TypeIs (.ref S) "set":=⟨_,og,hx.1⟩;have lt:S<s.heap.objs.size:=CH og;refine Ko ty O_ (iK O_ ty OL ?_ (F.args_set_iter_1 _));unfold Builtin.«frozenset.__iter__»;refine aa (m:=Builtin.Frozenset.slot0 "__iter__" ⟨[.ref S],[]⟩) (HQ (a:=S) Z ?_);unfold Builtin.Frozenset.sizeOf SO;refine aa (aa (aa (iG og dg fg (aq (aq ?_)))));unfold setDrawn;refine aa (aa (iG og dg fg (aa (YJ (aq ?_)))));show wpAny _ _ (if (!jt w&&Yl es t)=true then _ else _) _ _ _;unfold setEpoch
 have make:∀(h1:ia) (d:Drawn) (first:ae) (T:aj) (ord:List ae),(∀b o,s.heap.get? b=some o->h1.get? b=some o)->T≠h1.objs.size->(∀h',(∀o,h1.get? T=some o->h'.get? T=some o)->v7 w es ep t S T ord h' 0 first)->ord.Perm (es.toList.map (·.2))->(T=S∨s.heap.get? T=none) ->
   wpAny (az prog w) A.in1 ((do return (<- setState S).2.1) >>= λe=>newFields "set_iterator" [first,iz 0,.ref S,iz es.size,iz e] >>= λr=>ret r)
    (λP' s'=>∃v,P'=Fin.done (Flow.ret v)/\∃T' f,s'.TypeIs v T'/\Hu (.type T') (AF "__next__")=pure (some f)/\Q v s') E {s with heap:=h1,drawn:=d}:=by
  intro h1 d first T ord keep nT F1 pm hT
  refine aa (aa (iG (keep _ _ og) dg fg (aq ?_)));refine aa (a_ ?_);have gI:(h1.push (UR first 0 es.size ep S)).get? h1.objs.size=some (UR first 0 es.size ep S):=dj _ rfl;refine aq ⟨_,Z,"set_iterator",_,⟨_,gI,Z⟩,next_slot.lookup,?_⟩;refine q (h1.push (UR first 0 es.size ep S)) d T h1.objs.size ord (λb o e=>CN _ (keep b o e)) ?_ ?_ nT ⟨⟨first,gI,F1 _ λo e=>CN _ e⟩,⟨o,CN _ (keep _ _ og),dg⟩,fg⟩ pm hT
  ·cases e:s.heap.get? h1.objs.size with
   |none=>rfl
   |some o'=>exact M' (CH (keep _ _ e)) (eJ _)
  ·exact CM (CH (keep _ _ og))
 dsimp only
 cases hd:(!jt w&&Yl es t) with
 |true=>
  rw[CW,Dg]at hd;rw[L' rfl];refine aa (NA _ _ d9.symm λps d pm=>?_);have pz:ps.length<=ar:=by rw[pm.length_eq,d9];exact hz
  refine aa (Sx ?_ (by rw[Cw];exact pz));refine make _ d (.ref s.heap.objs.size) s.heap.objs.size (ps.map λp=>(es.getD p (0,.none)).2) (λb o e=>CN _ e) ?_ (λh' k=>.drawn ps hd.1 (k _ (dj _ Z)) pm Z) ?_ (.inr (eV (Cz _)))
  ·rw[DJ];exact CM (eL _)
  ·refine(pm.map _).trans (List.Perm.of_eq ?_);apply Dj;intro i;rw[CI,CI]
   by_cases c:i<es.size
   ·rw[Ef c,eA,Dq c]
    simp[AN,c]
   ·rw[dO (by simpa using c),dO (by simpa using c)];rfl
 |false=>
  rw[K' CZ];refine aa (aq ?_)
  by_cases hb:jt w=true
  ·exact make s.heap s.drawn (iz 0) S _ (λ_ _ e=>e) (CM lt) (λh' k=>.text 0 hb Z) ((Vy _ _).map _) (.inl Z)
  ·have hb:jt w=false:=by simpa using hb
   rw[hb]at hd g;exact make s.heap s.drawn (iz 0) S _ (λ_ _ e=>e) (CM lt) (λh' k=>.table hb (by simpa using hd) g Z) (.refl _) (.inl Z)
end
section
theorem mI {S:aj}{Q:Bool->av->Prop}(og:s.heap.get? S=some o)(hx:o.ExactSet)(q:Q false s):wpAny (az prog w) A (sS (.ref S)) Q E s:=by
 have ty:s.TypeIs (.ref S) "set":=⟨_,og,hx.1⟩;unfold sS;refine aa (A5 ty F.slot_set_len.lookup ?_);generalize hid:("set.__len__":String)=id0
 wp_delta
 rw[show splitId id0=some ("set","__len__") from by subst hid;decide+kernel];subst hid;refine aa (s_ (T:="set") (b:=true) ty sub_set_self ?_);refine Hx (λno=>M' no (by decide)) λ_=>?_;refine Hx (λ_=>?_) λno=>M' (by decide+kernel) no;exact aa (AB ty (aq q))
theorem gF (hh:A.handled=none){S:aj}{c₀:Nat}{res:ae}(og:s.heap.get? S=some o)(hx:o.ExactSet)(dg:o.data=.set es ep t)(fg:t.fits es.size=true)(g:j9 (!jt w) t)(hz:es.size<=ar)(hD:s.heap.get? D=some {cls:=.type "list",data:=.seq #[] c₀})(hR:∀h' d tk O' c,(∀b o,b≠D->s.heap.get? b=some o->h'.get? b=some o)->h'.get? D=some {cls:=.type "list",dict:=none,data:=.seq O' c,slots:=#[]}->O'.toList.Perm (es.toList.map (·.2))->R (.ok (.ret res)) {s with heap:=h',drawn:=d,toks:=tk}):
  wpAny (az prog w) A.in1 (iM (.ref D) (.ref S) res)
   (λP' s'=>match P' with|.done f=>R (.ok f) s' |.again c'=>c'.quiet=true/\codeAny (az prog w) A c' R s') (λe s'=>R (.error e) s') s:=by
 have DS:D≠S:=λe=>by
  rw[e,og]at hD;cases hD;cases dg
 unfold iM;refine aa (AB (T:="set") ⟨_,og,hx.1⟩ ?_);have n1:sA (.ref D) (.ref S)=false:=by simp[sA,DS]
 have n2:(iX "set" == iX "list")=false:=by decide
 have n3:(iX "set" == iX "tuple")=false:=by decide
 simp only[n1,n2,n3,Bool.or_false,d8,if_false];refine aa (mW og hx dg fg g hz λh1 d T I ord keep nI SI TI J pm tT=>?_);have g1:h1.get? D=some {cls:=.type "list",data:=.seq #[] c₀}:=keep _ _ hD;have DI:D≠I:=λe=>by rw[e,nI]at hD;cases hD
 have DT:D≠T:=λe=>by
  rcases tT with rfl |z
  ·exact DS e
  ·rw[e,z]at hD;cases hD
 refine aa (aY (mI (keep _ _ og) hx ?_));refine Hx (λ_=>?_) λno=>M' (by decide+kernel) no;refine aa (sW (aa ?_));show wpAny _ _ (updateSeq D (·.push .none) >>= λ_=>updateSeq D (·.pop)) _ _ _;refine aa (K_ g1 Z ?_);have g2:=DV (ij (·.push aS)) g1 rfl;refine K_ (hz:=by seq_fits) g2 rfl ?_;have g3:=DV (ij (·.pop)) g2 rfl
 have W:=(mQ (prog:=prog) (w:=w) (A:=A.in1) (by simp[hh]) (ep:=ep) (t:=t) SI TI (by
  obtain⟨⟨first,_,F⟩,_⟩:=J;exact F.len):Walks prog w A.in1 I [I,S,T] [I] es.size (λi v=>ord[i]?=some v) (It w es ep t S T I ord))
 have up:∀b o,b≠D->h1.get? b=some o->((h1.update D (ij (·.push aS))).update D (ij (·.pop))).get? b=some o:=λb o hb e=>
  (Du _ _ (iT hb)).trans ((Du _ _ (iT hb)).trans e)
 refine aq ⟨sx IA _,HY W.toS hz D ?_ res es.size 0 _ #[] _ Z (CP _) (W.frame _ _ _ J λb hb o e=>up b o ?_ e) g3 (ItemsOf.nil _) λs' O' c hm hD' δ1=>?_⟩
 ·intro m;simp only[CF,dw,or_false]at m;rcases m with m |m |m
  ·exact DI m
  ·exact DS m
  ·exact DT m
 ·intro z;subst z;simp only[CF,dw,or_false]at hb;rcases hb with m |m |m
  ·exact DI m
  ·exact DS m
  ·exact DT m
 ·rw[Moved.eq_with hm];refine hR s'.heap d s'.toks O' c (λb o hb e=>hm.heap b o (λm=>?_) (up b o hb (keep b o e))) hD' ?_
  ·rcases CF.mp m with m |m
   ·exact hb m
   ·rw[du.mp m,nI]at e;cases e
  ·have:O'.toList=ord:=by
    apply Dj;intro i;rw[eA];have al:=δ1.1
    have ol:ord.length=es.size:=by
     obtain⟨⟨first,_,F⟩,_⟩:=J;exact F.len
    by_cases c:i<es.size
    ·have ca:i<O'.size:=by rw[al];exact c
     rw[Dq ca];exact(δ1.2 i _ (Dq ca)).symm
    ·rw[EV (by rw[al];exact dY c),dO (by rw[ol];exact dY c)]
   rw[this];exact pm
end
section
def bE (w:aZ)(s:av)(es:Array (Int×ae))(r:Kd)(s':av):Prop:=∃h' d tk O' c,r=.ok (.ret (.ref s.heap.objs.size))/\s' = {s with heap:=h',drawn:=d,toks:=tk}/\(∀b o,s.heap.get? b=some o->h'.get? b=some o)/\h'.get? s.heap.objs.size=some {cls:=.type "list",dict:=none,data:=.seq O' c,slots:=#[]}/\O'.toList.Perm (es.toList.map (·.2))
theorem WV (hh:A.handled=none){S:aj}{R:List ae->av->Prop}(og:s.heap.get? S=some o)(hx:o.ExactSet)(dg:o.data=.set es ep t)(fg:t.fits es.size=true)(g:j9 (!jt w) t)(hz:es.size<=ar)(hR:∀h' d tk vs,vs.Perm (es.toList.map (·.2))->(∀b o,s.heap.get? b=some o->h'.get? b=some o)->R vs {s with heap:=h',drawn:=d,toks:=tk}):wpAny (az prog w) A (Kn (.ref S)) R E s:=by
 have go:codeAny (az prog w) A (.builtin "proto.collect" ⟨[.ref S],[]⟩) (bE w s es) s:=by
  refine iq HL ?_;rw[ie HK _];show wpAny _ A.in1 (Z_ [] >>= λl=>again (.builtin "list.__iadd__" ⟨[l,.ref S],[]⟩)) _ _ s;refine aa (a_ (aq ⟨sx AI _,iq KC ?_⟩));rw[ie AI _];show wpAny _ A.in1 (iM (.ref s.heap.objs.size) (.ref S) (.ref s.heap.objs.size)) _ _ _;refine gF (c₀:=0) (R:=bE w s es) (s:={s with heap:=s.heap.push {cls:=.type "list",data:=.seq ([]:List ae).toArray}}) hh (CN _ og) hx dg fg g hz (dj _ Z) λh' d tk O' c keep hD pm=>?_;exact⟨h',d,tk,O',c,Z,Z,λb o e=>keep b o (CM (CH e)) (CN _ e),hD,pm⟩
 unfold Kn;refine aa (Fq (sZ go λr s' q=>?_));obtain⟨h',d,tk,O',c,e1,e2,keep,hD,pm⟩:=q;subst e1 e2;show wpAny _ A (load s.heap.objs.size >>= _) _ _ _;exact aa (Hq hD (aq (hR h' d tk O'.toList pm keep)))
end
end ST
namespace L2
open PySem PySem.Spec PyProof.Rows
section
variable {a:aK}{pos:iS}
theorem zF.drew (I:zF X N' σ H s)(d:Drawn):zF X N' σ H {s with drawn:=d}:=⟨I.ok,I.os,I.bare,I.base,I.loc,I.cell,I.free,I.freeC,I.pin,I.hok,I.len⟩
end
section
variable {r:aj}{Q:VK}{OK:List af->Prop}
theorem XI (hc:∀R:List ae->av->Prop,(∀s1 vs ss,StrsAre vs ss->OK ss->vs.length<64->zF X N' σ H s1->R vs s1)->wpAny (az X.prog X.w) A.in1 (Kn (.ref r)) R E s)(q:∀ss ss':List af,OK ss->ss'.Perm ss->ss'.Pairwise (λa b:af=>¬b.cps.toList<a.cps.toList)->G4 H (.lst (ss'.map V.str)) Q):
  wpAny (az X.prog X.w) A (call (.builtin "sorted") [.ref r]) (EP X N' σ Q) E s:=by
 refine FG kind_sorted plain_sorted entry_sorted (args_sorted1 _) ?_;unfold Builtin.«sorted»;refine aa (m:=checkCount "sorted" 1 1 _) (aq (aa (hc _ λs1 vs ss hS ok h64 I1=>?_)));refine aa (IC ?_ (by rw[ah];lia));have hD:(s1.heap.push (l_ "list" vs.toArray 0)).get? s1.heap.objs.size=some (l_ "list" vs.toArray 0):=dj _ rfl;refine aa (aY (iK Sz ⟨_,hD,Z⟩ K9 (list_sort_treeK strKind_oneLt hD hS.keysOf (λv₁ v₂ rest e=>keyKind_strs (by rw[<- e];exact hS)) h64 λU' hp hs=>⟨_,Z,?_⟩) (SJ _)));obtain⟨ss',a1,a2,a3⟩:=sorted_out_str hS hp hs;obtain⟨c,he⟩:=sortedHeap_at (out:=(aM U').map (·.2)) hD
 have J:=I1.kept (t':=s1.toks) (h':=sortedHeap (s1.heap.push (l_ "list" vs.toArray 0)) s1.heap.objs.size vs ((aM U').map (·.2))) λb o e=>by
  have lt:=CH e;rw[sortedHeap_old (CM lt) (by rw[DJ];exact Eo lt)];exact CN _ e
 have hn:H s1.heap.objs.size=none:=I1.hok.fresh (Cz _);have sl:ss.length<64:=by rw[<- hS.length];exact h64
 refine aq ⟨_,Z,.ref _,_,J.adopt (us:=((aM U').map (·.2)).toList) (I1.fpOk (Cz _) hn) (by rw[fI];exact he) (xf a1) ?_,Z,(q ss ss' ok a2 (QM a3)).at hn⟩;rw[Cw,a2.length_eq,ah];lia
end
theorem nU (el:Sa (S8 prog w) es.toList){vs:List ae}(pm:vs.Perm (es.toList.map (·.2))):StrsAre vs (vs.map UI):=by
 have:∀v∈vs,∃z t,v=iW z t:=λv hv=>by
  obtain⟨e,he,rfl⟩:=CB.mp (pm.mem_iff.mp hv);obtain⟨⟨k,h1,_⟩,_⟩:=el e he;obtain⟨t,q⟩:=A8 h1;exact⟨_,t,q⟩
 clear pm
 induction vs with
 |nil=>exact .nil
 |cons v r ih=>
  obtain⟨z,t,rfl⟩:=this v CG;exact .cons z t (ih λv hv=>this v (CK _ hv))
section
variable {a:aK}{pos:iS}
def O9 (K:BFr)(ta:TA):TE:=λσ H Q=>ta σ H λvs H1=>∃(l:aj) (zs:List af),vs=[.ref l]/\zL K H1 l (zs.map V.str)/\zs.length<64 /\
 ∀ys:List af,ys.Nodup->ys.Pairwise (λa b:af=>¬b.cps.toList<a.cps.toList)->(∀z,z∈ys↔z∈zs)->G4 H1 (.lst (ys.map V.str)) Q
theorem W8 (Z':X.calm=true)(hg1:Gl X "sorted")(hm1:X.mg "sorted" = none)(hg2:Gl X "set")(hm2:X.mg "set" = none)(ha:PA X [a] ta)(hs:aE [a] X.env=[(false,eval a X.env)]:=by rfl)(hs1:aE [.Call (.Name "set" p2) [a] [] p3] X.env=[(false,eval (.Call (.Name "set" p2) [a] [] p3) X.env)]:=by rfl):
  PE X (.Call (.Name "sorted" p1) [.Call (.Name "set" p2) [a] [] p3] [] pos) (O9 X.K ta):=by
 intro N' s σ H Q I h;refine T_ (ud I hg1 hm1 boot_sorted (AQ ?_ hs1 Z));rw[hs1];show wpAny _ _ (FI ((false,eval (.Call (.Name "set" p2) [a] [] p3) X.env)::[])) _ _ s;refine ip ?_;refine T_ (ud I hg2 hm2 boot_set (hV (qC (ha p3 N' s σ H _ I h) λus s1 z=>?_) hs Z));obtain⟨vs,H1,I1,r1,l,zs,e,hS,h64,q⟩:=z;subst e
 cases r1 with
 |cons r rr=>
  cases rr;cases r;obtain⟨its,rv,pl,hz⟩:=I1.list hS;have il:=rv.length;rw[Cw]at il;have hh:=I1.ok.hd Z';refine ST.pW (knd:=S8 X.prog X.w) (kf:=UI) (ks:=zs) hh pl.isList (λk v hv=>?_) (λi v hi=>?_) ?_ ?_ λh1 tk1 L=>iO ?_
  ·obtain⟨t,rfl⟩:=A8 hv;rfl
  ·have hi':i<zs.length:=by
    rw[il];have:=(DH.mp hi).1
    simpa using this
   obtain⟨u,hu,⟨t,rt⟩⟩:=rv.get (i:=i) (x:=.str zs[i]) (by rw[CI,CC hi'];rfl)
   have:v=.str zs[i] t:=by
    have h1:its[i]?=some v:=by simpa using hi
    rw[hu,rt]at h1;exact(ai h1).symm
   subst this;exact⟨_,CC hi',strKind_is _ _ _ _,Z⟩
  ·simpa using il
  ·rw[de,<- il];unfold F8;lia
  ·have J1:zF X N' σ H1 {s1 with heap:=h1,toks:=tk1}:=I1.kept λb o e=>L.keep b o (CH e) e;obtain⟨⟨es,⟨⟨o,ep,t,og,ex,od,ft,g⟩,el⟩,K1⟩,_⟩:=L;have n1:es.size<=zs.length:=K1.len;refine XI (OK:=λss=>ss.Nodup/\∀z,z∈ss↔z∈zs) (λR hR=>ST.WV (by simp[hh]) og ex od ft g (by rw[ah];lia) λh' d tk vs pm keep=>hR _ vs (vs.map UI) (nU el pm) ⟨?_,?_⟩ ?_ ((J1.kept (t':=tk) keep).drew d)) λss ss' ok pm so=>q ss' (pm.nodup_iff.mpr ok.1) so λz=>(pm.mem_iff).trans (ok.2 z)
   ·have:=pm.map UI;rw[dh]at this;exact this.nodup_iff.mpr K1.nd
   ·intro z;have:=pm.map UI;rw[dh]at this;exact this.mem_iff.trans (K1.mem z)
   ·rw[pm.length_eq,Cw,Dc];lia
end
section
variable {a:aK}{p pos:iS}
end
end L2
namespace PySem
namespace F
end F
end PySem
namespace L2
open PySem PySem.Spec PyProof.Rows
section
end
section
variable {a:aK}{p pos:iS}
end
end L2
namespace Pg
open PySem L2
def Cd (a b:Int):Int:=if b > a then b else a
def Cu (a b:Int):Int:=if b<a then b else a
def Cc (r:List (Int×Int))(t:Int):Int:=match r with
 |[]=>t
 |q::_=>Cu t q.1
def pc (b:Int)(r:List (Int×Int))(t:Int):Int:=Cd 0 (Cc r t-b)
def Up (ps:List (Int×Int)):Prop:=ps.Pairwise λx y=>x.1<y.1
def cB (q:Int×Int):List V:=[.int q.1,.int q.2]
theorem Ly (zs:List Int):wN (zs.map V.int) (some 1) none=zs.tail.map V.int:=by
 unfold wN;rw[show(1:Int)=((1:Nat):Int) from Z,HT.jU,HT.yN,Cw]
 cases zs with
 |nil=>rfl
 |cons z r=>
  rw[Dp (show 1<=(z::r).length from Nat.succ_le_succ (CP _))];show((r.map V.int)).take (r.length+1-1)=r.map V.int;rw[dW (by rw[Cw];lia)]
end Pg
set_option maxHeartbeats 1000000
namespace L2
open PySem PySem.Spec PyProof.Rows PySem.W
section
variable {kS:aj}{e e1:Nat}{keys:Array ae}{vs:List ae}{m:Nat->Int}{nm:Nat->af}{P:Iq->av->Prop}
end
section
variable {p:af}{c P:aj}{body a:aK}{pos lpos:iS}{ta:TE}
end
end L2
namespace L2
open PySem PySem.Spec PyProof.Rows
end L2
namespace Pg
open PySem L2
def less (prs:List (af×Int)):List (af×Int):=prs.map λp=>(p.1,-p.2)
def Cf (a b:af):Bool:=decide (¬b.cps.toList<a.cps.toList)
def BV (ks:List af):List af:=ks.mergeSort Cf
def lq:af:=("differences":af) ++ ".<locals>." ++ "<lambda>"
section
variable {zs:List V}{xs us:List α}{P:Hp->V->α->Prop}
end
end Pg
namespace L2
open PySem PySem.Spec PyProof.Rows
def FT (H H':Hp):Prop:=∀b c,H b=some (.tup c)->H' b=some (.tup c)
def Up (P:Hp->V->α->Prop):Prop:=∀H H' v x,FT H H'->P H v x->P H' v x
section
variable {J:It}{zs:List V}{xs:List α}{P:Hp->V->α->Prop}{K:BFr}
end
end L2
namespace Pg
open PySem L2
structure R4 (sg:af)(ok:Nat->Bool):Prop where
 lo:1<=sg.length
 hi:sg.length<=100
 at_:∀i:Int,0<=i->i<(sg.length:Nat)->∃c,atI sg.cps.toList i=some c/\ok c=true
 in_:∀c,(!(aN sg ⟨#[c]⟩ 0 sg.length 1).isEmpty)=ok c
def Ub (sg:af)(c:Nat):Bool:=sg.cps.toList.contains c
theorem BX {sg:af}(h1:1<=sg.length)(h2:sg.length<=100):R4 sg (Ub sg):=⟨h1,h2,λi h0 h1=>by
 obtain⟨c,e,m⟩:=kP (xs:=sg.cps.toList) h0 (by rw[<- zq];exact h1);exact⟨c,e,Es.mpr m⟩,λc=>oD sg c⟩
def sgL:af:="abcdefghijklmnopqrstuvwxyz"
theorem alL:R4 sgL (Ub sgL):=BX (by decide+kernel) (by decide+kernel)
inductive En where
 |wage (p:af) (m r a:Int)
 |extra (p:af) (m a:Int)
def cE:En->List V
 |.wage p m r a=>[.str "wage",.str p,.int m,.int r,.int a]
 |.extra p m a=>[.str "extra",.str p,.int m,.int a]
structure Pt where
 d:Int
 k:af
 t:Option En
def cK (l:List af):List af:=l.foldr (λx r=>if x∈r then r else x::r) []
def b9 (z:af)(ps:List Pt):List (Int×Option En):=(ps.filter λp=>decide (p.k=z)).map λp=>(p.d,p.t)
def Co (l:List (Int×Option En))(D:Int):Option En:=(l.reverse.find? λq=>decide (q.1<=D)).bind (·.2)
def Cj (ps:List Pt):List af:=BV (cK (ps.map (·.k)))
def kn (ps:List Pt)(D:Int):List (af×En):=(Cj ps).filterMap λz=>(Co (b9 z ps) D).map λe=>(z,e)
def own (J t:aj)(ms:List (af×aj)):List aj:=J::t::ms.map (·.2)
def dE (e:En):Dt:=.t ((cE e).map Dt.v)
def Ce (q:af×En):Dt:=.t [.v (.str q.1),dE q.2]
inductive Fd where
 |k (ks:List (af×En))
 |n (ss:List af)
def Fd.dt:Fd->List Dt
 |.k ks=>ks.map Ce
 |.n ss=>ss.map λz=>.v (.str z)
section
variable {J t:aj}{ms:List (af×aj)}{ld:Int}{ps:List Pt}
end
end Pg
namespace L2
open PySem PySem.Spec PyProof.Rows
def XF (H H':Hp):Prop:=∀b o,H b=some o->(∀xs,o≠.lst xs)->H' b=some o
theorem lL (h:H D=some (.lst xs)):XF H (upd H D (.lst ys)):=λb o e n=>by
 rw[zx λz=>?_]
 ·exact e
 ·subst z;rw[h]at e;cases e;exact n _ rfl
structure Rp {α:Type}(H:Hp)(zs:List V)(xs:List α)(S:Hp->V->α->Prop):Prop where
 len:zs.length=xs.length
 at_:∀(i:Nat) (x:α),xs[i]?=some x->∃u,zs[i]?=some u/\S H u x
section
variable {J:It}{xs:List α}{P:Hp->V->α->Prop}
theorem Pc (W:QB J H ys)(T:jq H ys xs P)(hD:H D=none)(hz:xs.length<ar)(S:Hp->V->α->Prop)(mono:∀{H H':Hp} {v:V} {x:α},XF H H'->S H v x->S H' v x)(he:∀(i:Nat) x,xs[i]?=some x->∀v H' R,zj H H'->P H' v x->(∀u H'',zj H' H''->S H'' u x->R u H'')->te (σ.set 0 (some v)) H' R)(hf:∀zs H',zj H H'->H' D=some (.lst zs)->Rp H' zs xs S->P' zs H'):yF J D (zO 0) qA te P' σ (upd H D (.lst [])):=by
 refine jz W hD (λi zs H'=>Rp H' zs (xs.take i) S) (λσ'=>∀x,σ'.set 0 (some x)=σ.set 0 (some x)) (λ_=>rfl) ⟨Z,λi x h=>by cases h⟩ ?_ ?_
 ·rintro i y zs σ' H' hy hσ s hd hl G;obtain⟨x,hx,hP⟩:=T.at_ i y hy;have tk:xs.take (i+1)=xs.take i++[x]:=by rw[dS,hx];rfl
  have hi:i<xs.length:=(CV.mp hx).1;have zl:zs.length=i:=by rw[G.len,CQ];lia
  have Δ:∀z,(σ'.set 0 (some y)).set 0 (some z)=σ.set 0 (some z):=λz=>by rw[Ed];exact hσ z
  unfold JE zO;dsimp only;refine Om ?_;rw[hσ y]at Δ ⊢;refine he i x hx y _ _ s (hP _ s) λu H3 s3 hu=>⟨s3 _ _ hd,by lia,Δ,λb o z=>?_,zt,?_,?_⟩
  ·rw[zx (zo z hD)];exact s3 _ _ (s _ _ z)
  ·rw[CA,dN];lia
  ·have kp:=lL (ys:=zs++[u]) (s3 _ _ hd);refine⟨by rw[tk,CA,CA,G.len];rfl,λj w hw=>?_⟩;rw[tk]at hw
   by_cases hj:j<(xs.take i).length
   ·rw[dF hj]at hw;obtain⟨u',h1,h2⟩:=G.at_ j w hw;exact⟨u',by rw[dF (by rw[G.len];exact hj)];exact h1,mono (λb o e n=>kp b o (s3 _ _ e) n) h2⟩
   ·have hj:=dY hj;rw[dk hj]at hw
    have e0:j-(xs.take i).length=0:=by
     cases q:j-(xs.take i).length with
     |zero=>rfl
     |succ n=>rw[q]at hw;cases hw
    rw[e0]at hw;cases hw;refine⟨u,?_,mono kp hu⟩;rw[dk (by rw[G.len];exact hj),G.len,e0];rfl
 ·rintro zs H' s hd hl G;rw[T.len,dM]at G;exact hf zs H' s hd G
end
end L2
namespace Pg
open PySem L2
end Pg
namespace L2
open PySem
section
variable {K:BFr}{mg:af->Option ae}{k:Nat}{m:af}
end
end L2
namespace Pg
open PySem L2
end Pg
namespace L2
open PySem PySem.StrLaws Builtin Builtin.Str
def y8 (c:Nat):List Nat->Nat->List Nat
 |[],_=>[]
 |a::r,k=>if a=c then k::y8 c r (k+1) else y8 c r (k+1)
theorem P4 (x:af)(c:Nat):∀(l:List Nat) (k:Nat) (f:Array Nat) (fr:Nat),x.cps.toList.drop k=l->k<=x.length->fr<=k->f.size<=k ->
  (forIn (Ia k (l.length+1)) (f,fr) (occBody x ⟨#[c]⟩ x.length (x.length+1))).run.fst.toList=f.toList++y8 c l k:=by
 intro l
 induction l with
 |nil=>
  intro k f fr e hk hf hs;have e1:Ia k (([]:List Nat).length+1)=[k]:=rfl;have e2:y8 c [] k=[]:=rfl;rw[e1,e2,N_];unfold occBody
  have:¬(((f.size<x.length+1/\fr<=k)/\k+(⟨#[c]⟩:af).length<=x.length)/\subAt x ⟨#[c]⟩ k=true):=λh=>by
   have h1:=(subAt_one x c k).mp ⟨h.1.2,h.2⟩;have h2:(x.cps.toList.drop k)[0]?=some c:=by rw[E5];exact h1
   rw[e]at h2;cases h2
  rw[K' this,dy];rfl
 |cons a r ih=>
  intro k f fr e hk hf hs
  have ea:x.cps.toList[k]?=some a:=by
   have h2:(x.cps.toList.drop k)[0]?=some a:=by rw[e];rfl
   rw[E5]at h2;exact h2
  have er:x.cps.toList.drop (k+1)=r:=by
   rw[<- EZ,e];rfl
  have kl:k+1<=x.length:=by
   have:=(CV.mp ea).1;have e2:x.cps.toList.length=x.length:=rfl;lia
  rw[CY,List.range'_succ,N_];unfold occBody
  by_cases h:a=c
  ·subst h;have h1:=(subAt_one x a k).mpr ea;rw[L' ⟨⟨⟨DX hs (by lia),hf⟩,h1.1⟩,h1.2⟩];have:=ih (k+1) (f.push k) (k+1) er kl (Cz _) (by rw[Array.size_push];lia);have c1:y8 a (a::r) k=k::y8 a r (k+1):=L' rfl;rw[c1];refine this.trans ?_;rw[EJ,dc];rfl
  ·have:¬(((f.size<x.length+1/\fr<=k)/\k+(⟨#[c]⟩:af).length<=x.length)/\subAt x ⟨#[c]⟩ k=true):=λq=>by
    have h1:=(subAt_one x c k).mp ⟨q.1.2,q.2⟩;rw[ea]at h1;exact h (ai h1)
   rw[K' this];have c1:y8 c (a::r) k=y8 c r (k+1):=K' h;rw[c1];exact ih (k+1) f fr er kl (by lia) (by lia)
theorem UM (x:af)(c:Nat):occurrences x ⟨#[c]⟩ 0 x.length (x.length+1)=y8 c x.cps.toList 0:=by
 rw[occ_eq];exact P4 x c x.cps.toList 0 #[] 0 rfl (CP _) (Cz _) (Cz _)
theorem Vg {w:List Nat}(h:¬c∈w)(r:List Nat)(k:Nat):y8 c (w++r) k=y8 c r (k+w.length):=by
 induction w generalizing k with
 |nil=>rfl
 |cons a w ih=>
  have n:¬a=c:=λe=>h (by rw[e];exact CG);have e:y8 c (a::w++r) k=y8 c (w++r) (k+1):=K' n;rw[e,ih (λm=>h (CK _ m)),CY]
  congr 1
  lia
theorem Xp (c:Nat)(l:List Nat)(k s:Nat):y8 c l (k+s)=(y8 c l k).map (· + s):=by
 induction l generalizing k with
 |nil=>rfl
 |cons a r ih=>
  show(if a=c then _ else _)=(if a=c then _ else _:List Nat).map _;have e:=ih (k+1);rw[show k+1+s=k+s+1 by lia]at e;split
  ·rw[CO,e]
  ·exact e
def BA (l δ2:List Nat):List (List Nat):=aH (λi j=>(l.drop i).take (j-i)) (0::δ2.map (· + 1)) (δ2++[l.length])
theorem Wy:∀(rest:List (List Nat)) (w:List Nat),¬c∈w->(∀v∈rest,¬c∈v)->BA (w++(rest.map λv=>c::v).flatten) (y8 c (w++(rest.map λv=>c::v).flatten) 0)=w::rest:=by
 intro rest
 induction rest with
 |nil=>
  intro w hw _;rw[Vg hw];show [((w++[]).drop 0).take ((w++[]).length-0)]=[w];rw[dy,Dv,DM,dM]
 |cons v r ih=>
  intro w hw hr;have ih:=ih v (hr v CG) λu hu=>hr u (CK _ hu);have el:(((v::r).map λv=>c::v).flatten)=c::(v++(r.map λv=>c::v).flatten):=rfl;rw[el];generalize v++(r.map λv=>c::v).flatten=l' at ih
  have e1:y8 c (w++c::l') 0=w.length::(y8 c l' 0).map (· + (w.length+1)):=by
   rw[Vg hw,DQ];show(if c=c then _ else _)=_;rw[L' Z,<- Xp,DQ]
  rw[e1];unfold BA at ih ⊢;rw[CO,Dw,ED]
  congr 1
  ·rw[Dv,DM];exact fM
  ·rw[<- ih]
   have s1:(w.length+1)::((y8 c l' 0).map (· + (w.length+1))).map (· + 1)=(0::(y8 c l' 0).map (· + 1)).map (· + (w.length+1)):=by
    rw[CO,DQ,dh,dh]
    congr 1
    refine Ex λi _=>?_;show i+(w.length+1)+1=i+1+(w.length+1);lia
   have s2:(y8 c l' 0).map (· + (w.length+1))++[(w++c::l').length]=(y8 c l' 0++[l'.length]).map (· + (w.length+1)):=by
    rw[CJ,CA,CY]
    congr 1
    show [w.length+(l'.length+1)]=[l'.length+(w.length+1)]
    congr 1
    lia
   rw[s1,s2,fU]
   congr 1
   funext i j
   rw[fN]
   have:(w++c::l').drop (i+(w.length+1))=l'.drop i:=by
    rw[show i+(w.length+1)=w.length+(1+i) by lia,<- EZ,fL,Ks 1 i,List.drop_succ_cons]
   rw[this]
theorem gL (c:Nat):∀(ws:List af) (O':Array Nat),(ws.foldl (λO' p=>O'++(⟨#[c]⟩:af).cps++p.cps) O').toList=O'.toList++((ws.map λp=>p.cps.toList).map λv=>c::v).flatten:=by
 intro ws
 induction ws with
 |nil=>intro O';exact(dy _).symm
 |cons p r ih=>
  intro O';rw[dU,ih]
  simp
theorem j7 (c:Nat)(w:af)(ws:List af):(aF ⟨#[c]⟩ (w::ws)).cps.toList=w.cps.toList++((ws.map λp=>p.cps.toList).map λv=>c::v).flatten:=gL c ws w.cps
theorem QK (x:af)(δ2:List Nat):(b_ x δ2 1).map (λz=>z.cps.toList)=BA x.cps.toList δ2:=by
 unfold b_ BA;rw[dh,H_,fV]
 congr 1
 funext i j
 show(x.cps.extract i j).toList=_;rw[Ik]
 try exact List.extract_eq_drop_take
theorem JV {a b:List af}(h:a.map (λz=>z.cps.toList)=b.map (λz=>z.cps.toList)):a=b:=by
 induction a generalizing b with
 |nil=>
  cases b with
  |nil=>rfl
  |cons=>cases h
 |cons x r ih=>
  cases b with
  |nil=>cases h
  |cons y s=>
   have h1:=aT h
   have e:x=y:=by
    obtain⟨x⟩:=x;obtain⟨y⟩:=y;exact G' IK (El.mp h1.1)
   rw[e,ih h1.2]
theorem gQ {w:af}(hk:strKind (⟨#[c]⟩:af)=1)(hw:¬c∈w.cps.toList)(h:∀v∈ws,¬c∈v.cps.toList)(ne:1<=(aF ⟨#[c]⟩ (w::ws)).length):
  aW (aF ⟨#[c]⟩ (w::ws)) ⟨#[c]⟩=w::ws/\b_ (aF ⟨#[c]⟩ (w::ws)) (occurrences (aF ⟨#[c]⟩ (w::ws)) ⟨#[c]⟩ 0 (aF ⟨#[c]⟩ (w::ws)).length ((aF ⟨#[c]⟩ (w::ws)).length+1)) 1=w::ws:=by
 have e0:b_ (aF ⟨#[c]⟩ (w::ws)) (occurrences (aF ⟨#[c]⟩ (w::ws)) ⟨#[c]⟩ 0 (aF ⟨#[c]⟩ (w::ws)).length ((aF ⟨#[c]⟩ (w::ws)).length+1)) 1=w::ws:=by
  apply JV;rw[QK,UM,j7]
  exact Wy _ _ hw λv hv=>by
   obtain⟨u,hu,rfl⟩:=CB.mp hv;exact h u hu
 refine⟨?_,e0⟩;unfold aW
 have k1:1<=strKind (aF ⟨#[c]⟩ (w::ws)):=by
  unfold z_;split
  ·decide
  ·split<;>decide
 have c1:(decide ((aF ⟨#[c]⟩ (w::ws)).length<(⟨#[c]⟩:af).length) || decide (strKind (aF ⟨#[c]⟩ (w::ws))<strKind (⟨#[c]⟩:af)))=false:=by
  rw[hk,Bool.or_eq_false_iff];exact⟨j' (by show ¬_<1;lia),j' (by lia)⟩
 rw[K' (by rw[c1];exact CZ)];split
 ·rename_i he;have hn:occurrences (aF ⟨#[c]⟩ (w::ws)) ⟨#[c]⟩ 0 (aF ⟨#[c]⟩ (w::ws)).length ((aF ⟨#[c]⟩ (w::ws)).length+1)=[]:=fF.mp he;rw[hn]at e0;have e1:b_ (aF ⟨#[c]⟩ (w::ws)) [] 1=[SQ (aF ⟨#[c]⟩ (w::ws)) 0 (aF ⟨#[c]⟩ (w::ws)).length]:=rfl;refine Eq.trans ?_ (e1.symm.trans e0);have:(aF ⟨#[c]⟩ (w::ws)).cps.extract 0 (aF ⟨#[c]⟩ (w::ws)).length=(aF ⟨#[c]⟩ (w::ws)).cps:=Kb;show [_]=[(⟨_⟩:af)];rw[this]
 ·exact e0
end L2
namespace L2
open PySem PySem.Spec PyProof.Rows
end L2
namespace Pg
open PySem PySem.NumText L2 Builtin Builtin.Str
theorem N9 (n:Nat):d_ (dg n)=n:=by
 induction n using L_ with
 |ind n ih=>
  by_cases h:n<10
  ·rw[w9 h];show 0*10+(48+n-48)=n;lia
  ·rw[v9 (by lia),HZ,ih (n/10) (by lia)];lia
theorem Mc (h:n≠0):∃c r,dg n=c::r/\c≠48:=by
 induction n using L_ with
 |ind n ih=>
  by_cases h10:n<10
  ·exact⟨48+n,[],w9 h10,by lia⟩
  ·obtain⟨c,r,e,ne⟩:=ih (n/10) (by lia) (by lia);exact⟨c,r++[48+n%10],by rw[v9 (by lia),e];rfl,ne⟩
theorem Rg (n:Nat):j4 (dg n)=true:=by
 have h:=yq n;have l:=yv n;unfold j4;rw[CW];constructor
 ·cases e:dg n with
  |nil=>rw[e]at l;exact M' l (by decide)
  |cons=>rfl
 ·rw[dA];intro c hc;have:=h c hc;unfold vd;rw[i' this.1,i' this.2];rfl
theorem RH (n:Nat):wU (dg n)=true:=by
 unfold wU;rw[Rg,dR]
 by_cases h:n=0
 ·subst h;rfl
 ·obtain⟨c,r,e,ne⟩:=Mc h;rw[e];have:decide ((c::r).head?=some 48)=false:=j' λz=>ne (ai z);rw[this];exact Bool.or_true _
def Yv:V->List V->Hp->VK->Prop:=λx vs H Q=>∃z y,x=.str z/\vs=[.str y]/\(y.length==0)=false/\z.length<=ar/\(b_ z (occurrences z y 0 z.length (z.length+1)) y.length).length<=ar/\G4 H (.lst ((aW z y).map V.str)) Q
end Pg
namespace Pg
open PySem L2
open PySem.NumText Builtin Builtin.Str
def wB (ok:Nat->Bool)(z:af):Bool:=decide (1<=z.length)&&(decide (z.length<=8)&&z.cps.toList.all ok)
theorem jv {k:Nat}(h:c_ l):c_ (qK k l):=λc hc=>by
 unfold qK at hc;rcases CU.mp hc with z |z
 ·rw[(EF.mp z).2];decide
 ·exact h c z
theorem ML (n:Nat)(l:List Nat):d_ (aw n 48++l)=d_ l:=by
 induction n with
 |zero=>rfl
 |succ n ih=>rw[d7];exact ih
theorem gb (k n:Nat):d_ (qK k (dg n))=n:=by
 unfold qK;rw[ML,N9]
theorem wZ (h0:0<=m):(q9 m).cps.toList=qK 4 (dg (m/12).toNat)++(45::qK 2 (dg (m%12+1).toNat)):=by
 unfold q9;rw[zR,zR,w6 (BG h0),uX (rh m),dc];rfl
theorem Uv (k n:Nat):j4 (qK k (dg n))=true:=by
 have h:=jv (k:=k) (yq n);unfold j4;rw[CW];constructor
 ·cases e:qK k (dg n) with
  |nil=>
   have l:=yv n;have:(qK k (dg n)).length=0:=by rw[e];rfl
   unfold qK at this;rw[CA]at this;lia
  |cons=>rfl
 ·rw[dA];intro c hc;have:=h c hc;unfold vd;rw[i' this.1,i' this.2];rfl
theorem Je (h0:0<=m)(h1:m<=119999):yK (q9 m)=some m:=by
 have e:=wZ h0;have l4:(qK 4 (dg (m/12).toNat)).length=4:=ji (qj (by decide) (BJ (bJ h1)));have l2:(qK 2 (dg (m%12+1).toNat)).length=2:=ji (qj (by decide) (BE (rm m)));have e4:(q9 m).cps.toList.take 4=qK 4 (dg (m/12).toNat):=by rw[e,List.take_left' l4]
 have e5:(q9 m).cps.toList.drop 5=qK 2 (dg (m%12+1).toNat):=by
  rw[e,List.drop_append,l4,EG (by lia)];rfl
 have ea:(q9 m).cps.toList[4]?=some 45:=by
  rw[e,dk (by lia),l4];rfl
 have el:(q9 m).cps.toList.length=7:=by
  rw[e,CA,CY,l4,l2]
 have hb:U8 (q9 m)=true:=by
  unfold U8;rw[e4,e5,ea,el,Uv,Uv];rfl
 unfold yK;rw[e4,e5,gb,gb,L' ⟨hb,by lia,by lia⟩]
 congr 1
 lia
theorem Ux {a:Int}(h:0<=a):(qW a).cps.toList=dg (a.toNat/100)++([46]++qK 2 (dg (a.toNat%100))):=by
 have e:yB a=a:=by unfold yB;rw[K' (by lia)]
 have es:(uo a).cps.toList=[]:=by unfold uo;rw[K' (by lia)];decide+kernel
 rw[vI,e,es,Di]
theorem MQ (n:Nat):∃c r,dg n=c::r/\48<=c/\c<=57:=by
 cases e:dg n with
 |nil=>have:=yv n;rw[e]at this;exact M' this (by decide)
 |cons c r=>
  have:=yq n c (by rw[e];exact CG);exact⟨c,r,Z,this.1,this.2⟩
theorem NC (l:List Nat)(h:c_ l)(O':Nat):l.foldl (λO' c=>O'*10+(c-48)) O'<(O'+1)*10 ^ l.length:=by
 induction l generalizing O' with
 |nil=>rw[List.foldl_nil,DY,Nat.pow_zero,Nat.mul_one];exact eL _
 |cons c l ih=>
  have hc:=h c CG;have:=ih (λd hd=>h d (CK _ hd)) (O'*10+(c-48));rw[dU,CY,EB,eW (10 ^ l.length),<- Nat.mul_assoc];exact dP this (Ig _ (by lia))
theorem PV (h:c_ l):d_ l<10 ^ l.length:=by
 have:=NC l h 0
 rwa [DQ,Nat.one_mul]at this
theorem xx (h:yK z=some m):0<=m/\m<=119999:=by
 unfold yK at h
 split at h
 case isFalse=>cases h
 case isTrue c=>
  obtain⟨c1,c2,c3⟩:=c;unfold U8 at c1;rw[CW,CW]at c1;have l7:=B' c1.1;have f4:=PV (ya c1.2.1).1;rw[CQ,l7]at f4;have f4:d_ (z.cps.toList.take 4)<10 ^ 4:=f4;cases h
  constructor<;>lia
end Pg
namespace Pg
open PySem L2 PySem.NumText
open Builtin Builtin.Str
def LX:Sp:=λvs H Q _=>∃z sg ok,vs=[.str z,.str sg]/\R4 sg ok/\z.length<=4000000/\∀H',zj H H'->Q (.bl (wB ok z)) H'
def G1:Sp:=λvs H Q _=>∃z,vs=[.str z]/\z.length<=4000000/\∀H',zj H H'->Q (.bl (wB (Ub sgL) z)) H'
theorem XM (x:af)(i j:Nat):(SQ x i j).length<=x.length:=by
 unfold SQ;show(x.cps.extract i j).size<=x.cps.size;rw[Array.size_extract];omega
theorem oh (a b:af):xN (.str a) (.str b)=decide (a=b):=by
 unfold xN
 first |rfl | (rw[Dr];simp)
theorem xp (ws:List af):(ws.map V.str).all jj=true:=by
 rw[D0];exact dA.mpr λ_ _=>rfl
end Pg
set_option maxHeartbeats 4000000
namespace K27
open PySem PySem.NumText L2 Pg
seal PE PA PT PW PS jg PG vW PI vf PO PK
section
variable {K:BFr}{mg:af->Option ae}
theorem Rj (F:jn K "is_word_of" "is_word_of" (qH 25) f fd)(G:wk mg)(N1:Gi mg "MOST_SIGNS_names" 8):qD P w K mg base qQ 1 f fd ["thing","signs"] LX:=by
 obtain⟨tm,hm⟩:=N1;have nc:(["sign","signs"]:List af).Nodup:=by decide+kernel
 refine F.ok (N:=["thing","signs"]) (by walk_at"s") (λvs H Q E h=>?_) (λV' A outer s H vs Q E hr h=>?_)
 ·obtain⟨z,sg,ok,rfl,_⟩:=h;rfl
 ·obtain⟨z,sg,ok,rfl,al,hz,q⟩:=h;have fit:z.length<=ar:=vT hz rfl
  refine' ⟨_,(zh (qm (yx (yg (zu zP Z G.isinstance zy (za (pv 0) (za (yX (v:=.ty "str") Z G.str yO Z) zd))))) (zi (zB vh)) zQ)
    (zh (qm (PW.pt (jh (zD Zv (zu qf Z G.len g_ (za (pv 0) zd)) ze (zI _)) (jc (zD kG (zu qf Z G.len g_ (za (pv 0) zd)) (qe (v:=.int 8) Z hm ⟨_,Z⟩) (zI _))))) (zi (zB vh)) zQ)
    (zi (zB (zu (uB Z) Z G.all wQ (za ?comp zd)))))),?main⟩
  case comp=>
   refine' z9 (Nc:=["sign","signs"]) (cl:=[("signs",s.heap.objs.size+1)]) (src:=[none,some 1]) (wi:=Ov (zN 0)) (g:=zO 0) (tt:=qA) (te:=jA (λx y H Q=>∃i j,x=.str i/\y=.str j/\Q (.bl (!(aN j i 0 j.length 1).isEmpty)) H) (zN 0) (zN 1)) (by walk_at"c2") rfl (YW (pv 0)) ?hb
   case hb=>
    intro fp C' s' H';exact⟨zA (i:=0) nc Z (ax Z),qi,yn Ve (pv 0) (pv 1) (by rfl)⟩
  refine⟨_,Z,_,_,_,_,true,Z,Z,.inl (.str z),Z,true,Z,qO ?_⟩;refine⟨_,Z,z,Z,fit,_,_,Z,Z,_,Z,yo (λe=>yh ?_) (λe=>⟨_,Z,z,Z,fit,_,_,Z,Z,_,Z,yo (λe2=>?_) (λe2=>?_)⟩)⟩
  ·have e:=B' e;have nb:wB ok z=false:=by unfold wB;rw[j' (show ¬1<=z.length by lia)];rfl
   rw[nb]at q;exact q H (zj.refl _)
  ·have e2:=B' e2;have nb:wB ok z=false:=by unfold wB;rw[j' (show ¬z.length<=8 by lia),d6,Eu]
   rw[nb]at q;exact q H (zj.refl _)
  have l1:1<=z.length:=by
   have e:¬((z.length:Nat):Int)<1:=λc=>e (i' c);lia
  have l8:z.length<=8:=by
   have e2:¬(8:Int)<((z.length:Nat):Int):=λc=>e2 (i' c);lia
  refine⟨_,Z,z,Z,λD hD=>?_⟩;refine Zr (wR (z:=z)) hD (by rw[Cw,<- zq,ah];lia) (λ_=>true) (λx=>match x with|.str y=>.bl (ok (y.cps.getD 0 0)) |v=>v) (λx _ H' R _ r=>r) (λx hx _ H' R _ r=>?_) ?_
  ·obtain⟨c,_,rfl⟩:=CB.mp hx;refine⟨_,Z,_,Z,_,_,Z,Z,?_⟩;rw[al.in_];exact r
  ·rw[List.filter_eq_self.mpr λ_ _=>rfl,dh];refine⟨D,z.cps.toList.map ok,Z,zL.of (by rw[dh];exact zt),?_⟩
   have e2:(z.cps.toList.map ok).all id=wB ok z:=by
    unfold wB;rw[D0,i' l1,i' l8];rfl
   rw[e2];exact q _ (zj.upd hD)
theorem Nu (F:jn K "is_name" "is_name" (qH 26) f fd)(N1:Txt mg "LETTERS" "abcdefghijklmnopqrstuvwxyz")(C1:jw P w K mg base qQ 1 "is_word_of" ["thing","signs"] LX):qD P w K mg base qQ 2 f fd ["thing"] G1:=by
 obtain⟨tm,hm⟩:=N1;refine F.ok (N:=["thing"]) (by walk_at"s") (λvs H Q E h=>?_) (λV' A outer s H vs Q E hr h=>?_)
 ·obtain⟨z,rfl,_⟩:=h;rfl
 ·obtain⟨z,rfl,hz,q⟩:=h;exact⟨_,zi (zB (zG C1 hr (by decide) zT (za (pv 0) (za (qe (v:=.str "abcdefghijklmnopqrstuvwxyz") Z hm ⟨_,Z⟩) zd)))),_,Z,z,_,_,Z,alL,hz,q⟩
end
end K27
namespace L2
open PySem
end L2
namespace Pg
open PySem L2
section
variable {K:BFr}{mg:af->Option ae}{d:Nat}{Cs:Nat->aj}
end
section
variable {K:BFr}{v:V}{b:Bool}{o:aj}{fs:List (af×V)}
end
def Js:List Int->Bool
 |a::b::l=>decide (a<b)&&Js (b::l)
 |_=>true
def Wv (K:BFr):Sp:=λvs H Q _=>∃(l:aj) (zs:List Int),vs=[.ref l]/\zL K H l (zs.map V.int)/\zs.length<=3000000/\∀H',zj H H'->Q (.bl (Js zs)) H'
theorem NN:∀zs:List Int,Js zs=((zs.zip zs.tail).all λp=>decide (p.1<p.2))
 |[]=>rfl
 |[_]=>rfl
 |a::b::l=>by
  show(decide (a<b)&&Js (b::l))=_;rw[NN (b::l)];rfl
def cS:V->V->V
 |.int a,.int b=>.bl (decide (a<b))
 |_,_=>.non
theorem tZ (zs ys:List Int):aH cS (zs.map V.int) (ys.map V.int)=(aH (λa b=>decide (a<b)) zs ys).map V.bl:=by
 rw[fU,fV];rfl
theorem P7:∀zs:List Int,(aH (λa b=>decide (a<b)) zs zs.tail).all id=Js zs
 |[]=>rfl
 |[_]=>rfl
 |a::b::l=>by
  show(decide (a<b)&&(aH (λa b=>decide (a<b)) (b::l) (b::l).tail).all id)=_;rw[P7 (b::l)];rfl
end Pg
namespace L2
open PySem PySem.Spec PyProof.Rows
theorem o9 {K:BFr}(ha:zL K H a xs)(hb:zL K H b ys)(hD:H D=none)(hz:ys.length<ar)(hxy:ys.length<=xs.length)(φ:V->V->V)(he:∀(i:Nat) x y,xs[i]?=some x->ys[i]?=some y->∀H' R,zj H H'->(∀H'',zj H' H''->R (φ x y) H'')->te ((σ.set 0 (some x)).set 1 (some y)) H' R)(hf:∀H',zj H H'->H' D=some (.lst (aH φ xs ys))->P' (aH φ xs ys) H'):
  yF (Bo K a b) D (uQ K 2 (qN (zO 0) (qN (zO 1) wj))) qA te P' σ (upd H D (.lst [])):=by
 refine⟨λi m zs σ' H'=>m=ys.length-i/\i<=ys.length/\(∀x y,(σ'.set 0 x).set 1 y=(σ.set 0 x).set 1 y)/\zj H H'/\H' D=some (.lst zs)/\zs=aH φ (xs.take i) (ys.take i),⟨ys.length,by simp,CP _,λ_ _=>rfl,zj.upd hD,zt,Z⟩,λi m zs σ H hM=>by obtain⟨_,_,_,_,h,_⟩:=hM;exact h,?_⟩;rintro i m zs σ' H' ⟨rfl,hi,hσ,s,hd,rfl⟩
 by_cases γ:i<ys.length
 ·have hx:=CC (show i<xs.length by lia);have hy:=CC γ;have tx:xs.take (i+1)=xs.take i++[xs[i]]:=by rw[dS,hx];rfl
  have ty:ys.take (i+1)=ys.take i++[ys[i]]:=by rw[dS,hy];rfl
  refine .inr ⟨⟨xs,ys,_,_,s.seq ha,s.seq hb,hx,hy⟩,λzs' σ2 H2=>(∀x y,(σ2.set 0 x).set 1 y=(σ.set 0 x).set 1 y)/\zj H H2/\H2 D=some (.lst zs')/\zs'=aH φ (xs.take (i+1)) (ys.take (i+1)),λzs' σ2 H2 p=>⟨ys.length-(i+1),by lia,Z,γ,p⟩,λv H'' hy'=>?_⟩;obtain⟨c,x,y,e1,e2,e3,e4⟩:=hy';obtain⟨e5,e6⟩:=e4 xs ys (s.seq ha) (s.seq hb);subst e1 e3;rw[hx]at e5;rw[hy]at e6;cases e5;cases e6;refine⟨c,_,Z,yT.of zt,Z,_,_,Z,_,_,Z,Z,?_⟩;have s2:zj H' (upd H' c (.tup [xs[i],ys[i]])):=zj.upd e2;unfold qA;dsimp only;refine yh ?_;show te ((σ'.set 0 _).set 1 _) _ _;rw[hσ];refine he i _ _ hx hy _ _ (s.trans s2) λH3 s3=>⟨s3 _ _ (s2 _ _ hd),?_,?_,?_,zt,?_⟩
  ·rw[EA,CQ,CQ];lia
  ·intro x y;rcases σ with _ |⟨_,_ |⟨_,_⟩⟩<;>rfl
  ·intro b o z;rw[zx (zo z hD)];exact s3 _ _ (s2 _ _ (s _ _ z))
  ·rw[tx,ty,E9 (by rw[CQ,CQ];lia)];rfl
 ·have e:i=ys.length:=by lia
  subst e;refine .inl ⟨⟨xs,ys,s.seq ha,s.seq hb,.inr (Cz _)⟩,?_⟩
  have e3:aH φ (xs.take ys.length) ys=aH φ xs ys:=by
   apply Dj;intro j;rw[fQ,fQ,fO]
   by_cases h:j<ys.length
   ·rw[L' h]
   ·rw[K' h,dO (l:=ys) (by lia)]
    cases xs[j]?<;>rfl
  rw[dM,e3]at hd ⊢;exact hf H' s hd
end L2
namespace K27
open PySem PySem.NumText L2 Pg
seal PE PA PT PW PS jg PG vW PI vf PO PK
section
variable {K:BFr}{mg:af->Option ae}
theorem lZ (F:jn K "rise" "rise" (qH 27) f fd)(G:wk mg):qD P w K mg base qQ 1 f fd ["things"] (Wv K):=by
 have nc:(["thing","after"]:List af).Nodup:=by decide+kernel
 refine F.ok (N:=["things"]) (by walk_at"s") (λvs H Q E h=>?_) (λV' A outer s H vs Q E hr h=>?_)
 ·obtain⟨l,zs,rfl,_⟩:=h;rfl
 ·obtain⟨l,zs,rfl,hl,zl,q⟩:=h;refine' ⟨_,zi (zB (zu (uB Z) Z G.all wQ (za ?comp zd))),?main⟩
  case comp=>
   refine' z9 (Nc:=["thing","after"]) (cl:=[]) (src:=[none,none]) (wi:=M7 K (z6 (zN 0) (z6 (BF (T8 K) (zN 0) (Gq (tC (.int 1))) Yd) yw))) (g:=uQ K 2 (qN (zO 0) (qN (zO 1) wj))) (tt:=qA) (te:=jA (X3 λi j=>.bl (decide (i<j))) (zN 0) (zN 1))
    (by walk_at"c1") rfl (YT Z G.zip (za (pv 0) (za (zJ yS (pv 0) (zK ze) zV) zd))) ?hb
   case hb=>
    intro fp C' s' H';exact⟨jr Z (zW (zA (i:=0) nc Z (ax Z)) (zW (zA (i:=1) nc Z (ax Z)) yz)),qi,yn Zv (pv 0) (pv 1) (zI _)⟩
  refine⟨_,Z,_,Z,_,Z,l,_,Z,hl,λp p0=>?_⟩;have s1:zj H (upd H p (.lst (wN (zs.map V.int) (some 1) none))):=zj.upd p0;have e1:(upd H p (.lst (wN (zs.map V.int) (some 1) none))) p=some (.lst (zs.tail.map V.int)):=by rw[zt,Ly]
  refine⟨l,p,Z,⟨_,s1.seq hl⟩,⟨_,zL.of e1⟩,λD hD=>o9 (s1.seq hl) (zL.of e1) hD (by rw[Cw,fW,ah];omega) (by rw[Cw,Cw,fW];omega) cS (λi x y hx hy H1 R s2 r=>?_) (λH1 s2 e2=>?_)⟩
  ·rw[CI]at hx hy;obtain⟨a,ha,rfl⟩:=CS.mp hx;obtain⟨b,hb,rfl⟩:=CS.mp hy;exact⟨_,Z,_,Z,a,b,Z,Z,r H1 (zj.refl _)⟩
  ·rw[tZ]at e2;refine⟨D,_,Z,zL.of e2,?_⟩;rw[P7];exact q H1 (s1.trans s2)
theorem Nm (F:jn K "_law_cell" "_law_cell" (qH 67) f fd)(G:wk mg):qD P w K mg base qQ 1 f fd ["_law_script","_law_k"] (Gj K):=by
 refine F.ok (N:=["_law_script","_law_k"]) (by walk_at"s") (λvs H Q E h=>?_) (λV' A outer s H vs Q E hr h=>?_)
 ·obtain⟨a,k,ns,rfl,_⟩:=h;rfl
 ·obtain⟨a,k,ns,rfl,hs,hk,q⟩:=h
  refine⟨_,(zh (qm (zD Zv (pv 1) (zu qp Z G.len g_ (za (pv 0) zd)) (zI _)) (zi (zB (qa qx (pv 0) (pv 1)))) zQ)
    (zi (zB ze))),?_⟩
  refine⟨_,Z,_,Z,a,_,Z,.inl hs,_,_,Z,Z,_,Z,yo (λe=>?_) (λe=>?_)⟩
  ·exact⟨_,Z,_,Z,a,_,_,_,Z,Z,hs,Nx hk (B' e),q⟩
  ·rw[mL λc=>e (i' c)]at q;exact q
theorem Pl (F:jn K "_law_mixed" "_law_mixed" (qH 68) f fd)(C1:jw P w K mg base qQ 1 "_law_cell" ["_law_script","_law_k"] (Gj K)):qD P w K mg base qQ 2 f fd ["_law_script","_law_k"] (YE K):=by
 refine F.ok (N:=["_law_script","_law_k"]) (by walk_at"s") (λvs H Q E h=>?_) (λV' A outer s H vs Q E hr h=>?_)
 ·obtain⟨a,k,ns,rfl,_⟩:=h;rfl
 ·obtain⟨a,k,ns,rfl,hs,hk,hk2,q⟩:=h;refine⟨_,(zi (zB (zm qg (zm yp (zm qg (zm qu (zm qu (zm yp (zG C1 hr (by decide) zT (za (pv 0) (za (pv 1) zd))) ze) (zm yp (zm yp (zm yp ze (pv 1)) (pv 1)) (pv 1))) ze) ze) ze) ze))),?_⟩;refine⟨_,Z,_,Z,a,k,ns,Z,hs,hk,_,_,Z,Z,.inr ⟨by lia,by lia⟩,?_⟩;refine⟨_,Z,_,_,Z,Z,.inr ⟨by lia,by lia⟩,_,Z,_,_,Z,Z,.inr ⟨by lia,by lia⟩,_,Z,_,_,Z,Z,.inr ⟨by lia,by lia⟩,?_⟩;refine⟨_,_,Z,Z,_,_,Z,Z,_,_,Z,Z,(by show(0:Int)<2147483647;decide),_,_,Z,Z,.inr ⟨by lia,by lia⟩,_,_,Z,Z,(by show(0:Int)<2147483629;decide),q⟩
theorem mE (F:jn K "_law_whole" "_law_whole" (qH 69) f fd)(G:wk mg):qD P w K mg base qQ 1 f fd ["_law_found"] YC:=by
 refine F.ok (N:=["_law_found"]) (by walk_at"s") (λvs H Q E h=>?_) (λV' A outer s H vs Q E hr h=>?_)
 ·obtain⟨v,rfl,_⟩:=h;rfl
 ·obtain⟨z,rfl,q⟩:=h
  refine⟨_,zi (zB (jR (zu zP Z G.isinstance zy (za (pv 0) (za (yX (v:=.ty "int") Z G.int qP Z) zd)))
   (vO (gy (zu zP Z G.isinstance zy (za (pv 0) (za (yX (v:=.ty "bool") Z G.bool JR Z) zd))))))),?_⟩
  refine⟨_,Z,_,_,_,_,true,Z,Z,.inl (.int z),Z,true,Z,yh ?_⟩;exact⟨_,Z,_,_,_,_,false,Z,Z,.inl (.int z),Z,false,Z,q⟩
set_option maxHeartbeats 4000000 in
theorem MS (F:jn K "_law_kind" "_law_kind" (qH 83) f fd)(G:wk mg)(D:cY mg d):UW P w K mg base 1 f fd ["_law_e"] (VL K d):=by
 have nd:(["_law_e","_law_found"]:List af).Nodup:=by decide+kernel
 have nc:(["_law_word","_law_fits"]:List af).Nodup:=by decide+kernel
 refine F.okQ (N:=["_law_e","_law_found"]) (by walk_at"s") (λvs H Q E h=>?_) (λV' A outer s H vs Q hr hq h=>?_)
 ·obtain⟨ea,C,i,rfl,_⟩:=h;rfl
 ·obtain⟨ea,C,i,rfl,h0,kd,q⟩:=h
  refine' ⟨_,(zh (zE (i:=1) nd Z (ax Z) (zU (za (qq (za zv (za (zu zP Z G.isinstance zy (za (pv 0) (za (qe (v:=.ref (d 0)) Z D.g0 Z) zd))) zd))) (za (qq (za zv (za (zu zP Z G.isinstance zy (za (pv 0) (za (qe (v:=.ref (d 1)) Z D.g1 Z) zd))) zd))) (za (qq (za zv (za (zu zP Z G.isinstance zy (za (pv 0) (za (qe (v:=.ref (d 2)) Z D.g2 Z) zd))) zd))) zd)))))
   (zh (zE (i:=1) nd Z (ax Z) (zm qL (pv 1) (zU (za (qq (za zv (za (zu zP Z G.isinstance zy (za (pv 0) (za (qe (v:=.ref (d 3)) Z D.g3 Z) zd))) zd))) (za (qq (za zv (za (zu zP Z G.isinstance zy (za (pv 0) (za (qe (v:=.ref (d 4)) Z D.g4 Z) zd))) zd))) zd)))))
   (zh (zE (i:=1) nd Z (ax Z) (zm qL (pv 1) (zU (za (qq (za zv (za (zu zP Z G.isinstance zy (za (pv 0) (za (qe (v:=.ref (d 5)) Z D.g5 Z) zd))) zd))) (za (qq (za zv (za (zu zP Z G.isinstance zy (za (pv 0) (za (qe (v:=.ref (d 6)) Z D.g6 Z) zd))) zd))) zd)))))
   (zh (zE (i:=1) nd Z (ax Z) (zm qL (pv 1) (zU (za (qq (za zv (za (zu zP Z G.isinstance zy (za (pv 0) (za (qe (v:=.ref (d 7)) Z D.g7 Z) zd))) zd))) (za (qq (za zv (za (zu zP Z G.isinstance zy (za (pv 0) (za (qe (v:=.ref (d 8)) Z D.g8 Z) zd))) zd))) zd)))))
   (zh (zE (i:=1) nd Z (ax Z) (zm qL (pv 1) (zU (za (qq (za zv (za (zu zP Z G.isinstance zy (za (pv 0) (za (qe (v:=.ref (d 9)) Z D.g9 Z) zd))) zd))) (za (qq (za zv (za (zu zP Z G.isinstance zy (za (pv 0) (za (qe (v:=.ref (d 10)) Z D.g10 Z) zd))) zd))) zd)))))
   (zh (zE (i:=1) nd Z (ax Z) (zm qL (pv 1) (zU (za (qq (za zv (za (zu zP Z G.isinstance zy (za (pv 0) (za (qe (v:=.ref (d 11)) Z D.g11 Z) zd))) zd))) (za (qq (za zv (za (zu zP Z G.isinstance zy (za (pv 0) (za (qe (v:=.ref (d 12)) Z D.g12 Z) zd))) zd))) zd)))))
   (zh (zE (i:=1) nd Z (ax Z) (zm qL (pv 1) (zU (za (qq (za zv (za (zu zP Z G.isinstance zy (za (pv 0) (za (qe (v:=.ref (d 13)) Z D.g13 Z) zd))) zd))) (za (qq (za zv (za (zu zP Z G.isinstance zy (za (pv 0) (za (qe (v:=.ref (d 14)) Z D.g14 Z) zd))) zd))) zd)))))
   (zi (zB (zm qL ?comp (zm GJ (zU (za zv zd)) (zY jS Z G.int qP (za (zu zP Z G.isinstance zy (za (pv 0) (za (yX (v:=.ty "ValueError") Z G.ve NU Z) zd))) zd))))))))))))),?main⟩
  case comp=>
   refine' NT (Nc:=["_law_word","_law_fits"]) (cl:=[]) (src:=aw 2 none) (g:=uQ K 2 (qN (zO 0) (qN (zO 1) wj))) (tt:=tB (zN 1)) (te:=zN 0) ⟨Z,Z,by decide+kernel,by decide+kernel,(λx c z=>nomatch z),Pp (by rfl),Tu,Z⟩ hq (pv 1) ?hb
   case hb=>
    intro it C s' H' hq';exact⟨MX hq' (zW (zA (i:=0) nc Z (ax Z)) (zW (zA (i:=1) nc Z (ax Z)) yz)),vo (yg (pv 1)),pv 0⟩
  refine rQ [(("amount":af),d 0,decide (i=0)),(("share":af),d 1,decide (i=1)),(("text":af),d 2,decide (i=2))] rfl h0 (Df.mpr ⟨kd.k0,(Df.mpr ⟨kd.k1,(Df.mpr ⟨kd.k2,(λ_ h=>nomatch h)⟩)⟩)⟩) rfl λl0 u0 H0 s0 e0 k0=>?_;refine Vd [(("month":af),d 3,decide (i=3)),(("year":af),d 4,decide (i=4))] rfl rfl e0 k0 (h0.same s0) (Df.mpr ⟨kd.k3,(Df.mpr ⟨kd.k4,(λ_ h=>nomatch h)⟩)⟩) rfl rfl λl1 u1 H1 s1 e1 k1=>?_;have S1:zj H H1:=s0.trans s1;refine Vd [(("rule":af),d 5,decide (i=5)),(("book":af),d 6,decide (i=6))] rfl rfl e1 k1 (h0.same S1) (Df.mpr ⟨kd.k5,(Df.mpr ⟨kd.k6,(λ_ h=>nomatch h)⟩)⟩) rfl rfl λl2 u2 H2 s2 e2 k2=>?_;have S2:zj H H2:=S1.trans s2;refine Vd [(("noyear":af),d 7,decide (i=7)),(("day":af),d 8,decide (i=8))] rfl rfl e2 k2 (h0.same S2) (Df.mpr ⟨kd.k7,(Df.mpr ⟨kd.k8,(λ_ h=>nomatch h)⟩)⟩) rfl rfl λl3 u3 H3 s3 e3 k3=>?_;have S3:zj H H3:=S2.trans s3;refine Vd [(("entry":af),d 9,decide (i=9)),(("nomark":af),d 10,decide (i=10))] rfl rfl e3 k3 (h0.same S3) (Df.mpr ⟨kd.k9,(Df.mpr ⟨kd.k10,(λ_ h=>nomatch h)⟩)⟩) rfl rfl λl4 u4 H4 s4 e4 k4=>?_;have S4:zj H H4:=S3.trans s4;refine Vd [(("noperson":af),d 11,decide (i=11)),(("many":af),d 12,decide (i=12))] rfl rfl e4 k4 (h0.same S4) (Df.mpr ⟨kd.k11,(Df.mpr ⟨kd.k12,(λ_ h=>nomatch h)⟩)⟩) rfl rfl λl5 u5 H5 s5 e5 k5=>?_;have S5:zj H H5:=S4.trans s5;refine Vd [(("close":af),d 13,decide (i=13)),(("line":af),d 14,decide (i=14))] rfl rfl e5 k5 (h0.same S5) (Df.mpr ⟨kd.k13,(Df.mpr ⟨kd.k14,(λ_ h=>nomatch h)⟩)⟩) rfl rfl λl6 u6 H6 s6 e6 k6=>?_;have S6:zj H H6:=S5.trans s6;refine⟨_,Z,_,_,Z,zL.of e6,λDa hD=>Wi (pairs:=Li i) Z k6.1 e6 hD (λj p z=>k6.2 j p z) (by show 15<ar;decide) λHa sa ea=>?_⟩;have ha:=(h0.same S6).same sa;refine⟨z8 Z,λlv Hb sb nb eb=>?_⟩;have hb:=ha.same sb;refine⟨_,Z,_,_,_,_,_,Z,Z,hb.ty,kd.ve,.inr ⟨_,Z,?_⟩⟩;refine⟨_,_,_,Z,Z,eb,by decide,by decide,by decide,λlr Hc sc nc er=>?_⟩;refine⟨_,_,_,_,Z,Z,sc _ _ (sb _ _ ea),er,?_,λl Hd sd nd' el=>?_⟩
  ·refine CD (E6 (m:=15) ?_ _) (by decide);rw[Cw];exact CD (ES _ _) (Cz _)
  ·exact q l Hd (S6.trans (sa.trans (sb.trans (sc.trans sd)))) ((S6.trans (sa.trans (sb.trans sc))).off nd') el
def WX:Sp:=λvs H Q _=>∃z,vs=[.str z]/\z.length<=4000000/\∀H',zj H H'->(∀m,yK z=some m->Q (.int m) H')/\(yK z=none->Q .non H')
theorem Qx (h7:l.length=7):j4 (l.take 4)=true/\j4 (l.drop 5)=true↔(l.take 4++l.drop 5).all vd=true:=by
 have e1:(l.take 4).isEmpty=false:=by
  match l,h7 with
  |[_,_,_,_,_,_,_],_=>rfl
 have e2:(l.drop 5).isEmpty=false:=by
  match l,h7 with
  |[_,_,_,_,_,_,_],_=>rfl
 unfold j4;rw[e1,e2,EK]
 simp
theorem lI (F:jn K "_law_read_month" "_law_read_month" (qH 77) f fd)(G:wk mg):qD P w K mg base qQ 1 f fd ["_law_text"] WX:=by
 have nd:(["_law_text","_law_figures"]:List af).Nodup:=by decide+kernel
 have nc:(["_law_sign"]:List af).Nodup:=by decide+kernel
 refine F.ok (N:=["_law_text","_law_figures"]) (by walk_at"s") (λvs H Q E h=>?_) (λV' A outer s H vs Q E hr h=>?_)
 ·obtain⟨z,rfl,_⟩:=h;rfl
 ·obtain⟨z,rfl,hz,q⟩:=h;have hu:=hr.units0;have ls:300000<=ar:=by rw[ah];decide
  refine' ⟨_,(zh (zE (i:=1) nd Z (ax Z) (zm zS (zJ qw (pv 0) zV (zK ze)) (zJ qw (pv 0) (zK ze) zV)))
    (zh (qm (PW.pt (jh (zD v8 (zu qf Z G.len g_ (za (pv 0) zd)) ze (zI _)) (jh (zD v8 (qa wX (pv 0) ze) zv (zI _)) (jc (zD (mG hu) ?comp_1 (zU zd) (zI _)))))) (zi (zB jf)) zQ)
    (zh (qm (WN Z G.range (zY yc Z G.int qP (za (zJ qw (pv 0) (zK ze) zV) zd)) (za ze (za ze zd))) (zi (zB jf)) zQ)
    (zi (zB (zm kJ (zm qu (zm yp ze (zY yc Z G.int qP (za (zJ qw (pv 0) zV (zK ze)) zd))) (zY yc Z G.int qP (za (zJ qw (pv 0) (zK ze) zV) zd))) ze)))))),?main⟩
  case comp_1=>
   refine' z9 (Nc:=["_law_sign"]) (cl:=[]) (src:=[none]) (wi:=Ov (zN 1)) (g:=zO 0) (tt:=uE (jA (λx y H Q=>∃i j,x=.str i/\y=.str j/\Q (.bl (!(!(aN j i 0 j.length 1).isEmpty))) H) (zN 0) (tC (.str "0123456789")))) (te:=zN 0) (by walk_at"c0") rfl (YW (pv 1)) ?hb
   case hb=>
    intro fp C' s' H';exact⟨zA (i:=0) nc Z (ax Z),vo (zD UF (pv 0) zv (by rfl)),pv 0⟩
  have sl:∀lo hi,(ay z lo hi).length<=4000000:=λlo hi=>CD (h9 z lo hi) hz;have a4:=sl none (some 4);have a5:=sl (some 5) none;have zf:z.length<=ar:=vT hz rfl;refine⟨_,Z,_,Z,_,Z,zf,_,Z,_,Z,_,Z,zf,_,_,Z,Z,Lj a4 a5 Z,?_⟩;refine⟨_,Z,z,Z,zf,Z,_,Z,yo (λe=>?_) (λe=>?_)⟩
  ·refine(q H (zj.refl _)).2 ?_
   have e1:¬z.cps.toList.length=7:=λy=>by
    rw[<- zq]at y;rw[y]at e;exact M' e (by decide)
   unfold yK U8;rw[j' e1,d6,K' (λh=>CZ h.1)]
  have e1:z.length=7:=by
   have:¬(!decide (V.int (z.length:Nat)=V.int 7))=true:=e;rw[rL]at this
   simp at this
   lia
  have h7:z.cps.toList.length=7:=by rw[<- zq];exact e1
  have c4:(ay z none (some 4)).cps.toList=z.cps.toList.take 4:=Zh (k:=4) (by rw[h7];decide);have c5:(ay z (some 5) none).cps.toList=z.cps.toList.drop 5:=kL (k:=5) (by rw[h7];decide);have hc:z.cps.toList[4]?=some z.cps.toList[4]:=CC (by rw[h7];decide);refine⟨_,Z,z,4,_,Z,Z,zf,Ys (i:=4) (by decide) hc,Z,_,Z,yo (λe=>?_) (λe=>?_)⟩
  ·rw[Q8]at e;have ec:¬z.cps.toList[4]=45:=by simpa using e
   refine(q H (zj.refl _)).2 ?_;unfold yK U8;rw[hc,j' (λy=>ec (ai y)),d6,Eu,Eu,K' (λh=>CZ h.1)]
  rw[Q8]at e;have ec:z.cps.toList[4]=45:=by simpa using e
  have hmt:U8 z=(z.cps.toList.take 4++z.cps.toList.drop 5).all vd:=by
   unfold U8;rw[i' h7,dR,hc,ec,i' Z,dR,Dr,<- Qx h7,CW]
  refine⟨_,Z,_,Z,λD hD=>?_⟩;refine Zr (wR (z:=ay z none (some 4)++ay z (some 5) none)) hD (by rw[Cw,<- zq];exact DX (Ru a4 a5) (by rw[ah];decide)) (λx=>match x with|.str y=>!vd (y.cps.getD 0 0) |_=>false) id (λx hx H' R _ r=>?_) (λx hx _ H' R _ r=>⟨_,Z,r⟩) ?_
  ·obtain⟨c,_,rfl⟩:=CB.mp hx;refine⟨_,Z,_,_,Z,Z,_,Z,?_⟩;rw[xQ];exact r
  rw[K5,zR,c4,c5];have s1:=zj.upd (o:=.lst (((z.cps.toList.take 4++z.cps.toList.drop 5).map p9).filter λx=>match x with|.str y=>!vd (y.cps.getD 0 0) |_=>false)) hD;have f1:(upd H D (.lst (((z.cps.toList.take 4++z.cps.toList.drop 5).map p9).filter λx=>match x with|.str y=>!vd (y.cps.getD 0 0) |_=>false))) D=some (.lst (((z.cps.toList.take 4++z.cps.toList.drop 5).map p9).filter λx=>match x with|.str y=>!vd (y.cps.getD 0 0) |_=>false)):=zt;generalize upd H D (.lst (((z.cps.toList.take 4++z.cps.toList.drop 5).map p9).filter λx=>match x with|.str y=>!vd (y.cps.getD 0 0) |_=>false))=H1 at s1 f1 ⊢;refine⟨z8 Z,λl2 H2 s2 n2 f2=>?_⟩;have S2:=s1.trans s2
  have fl:((((z.cps.toList.take 4++z.cps.toList.drop 5).map p9).filter λx=>match x with|.str y=>!vd (y.cps.getD 0 0) |_=>false)).all jj=true:=dA.mpr λx hx=>by
   obtain⟨c,_,rfl⟩:=CB.mp (DF.mp hx).1;rfl
  refine⟨D,l2,_,_,Z,Z,zL.of (s2 _ _ f1),zL.of f2,fl,Z,_,Z,?_⟩
  have eqe:Yt ((((z.cps.toList.take 4++z.cps.toList.drop 5).map p9).filter λx=>match x with|.str y=>!vd (y.cps.getD 0 0) |_=>false)) []=U8 z:=by
   rw[hmt];unfold Yt
   cases hx:((((z.cps.toList.take 4++z.cps.toList.drop 5).map p9).filter λx=>match x with|.str y=>!vd (y.cps.getD 0 0) |_=>false)) with
   |nil=>
    have:(z.cps.toList.take 4++z.cps.toList.drop 5).all vd=true:=dA.mpr λc hc=>by
     have:=fX.mp hx (p9 c) (List.mem_map_of_mem hc)
     simpa [p9] using this
    rw[this];rfl
   |cons a r=>
    have:(z.cps.toList.take 4++z.cps.toList.drop 5).all vd=false:=by
     have ha:a∈((((z.cps.toList.take 4++z.cps.toList.drop 5).map p9).filter λx=>match x with|.str y=>!vd (y.cps.getD 0 0) |_=>false)):=by rw[hx];exact CG
     obtain⟨h1,h2⟩:=DF.mp ha;obtain⟨c,hc,rfl⟩:=CB.mp h1;rw[List.all_eq_false];exact⟨c,hc,by simpa [p9] using h2⟩
    rw[this]
    simp
  show if (!Yt _ [])=true then _ else _;rw[eqe]
  cases hb:U8 z with
  |false=>
   refine yh ((q H2 S2).2 ?_);unfold yK;rw[hb,K' (λh=>CZ h.1)]
  |true=>
   refine qO ?_;have hb':=hb;unfold U8 at hb';simp only[CW,decide_eq_true_iff]at hb';obtain⟨_,f4,_,f5⟩:=hb';have l4:(ay z none (some 4)).length<=640:=Ms (h9 z _ _) (by rw[e1];rfl);have l5:(ay z (some 5) none).length<=640:=Ms (h9 z _ _) (by rw[e1];rfl);obtain⟨d4,n4⟩:=ya f4;obtain⟨d5,n5⟩:=ya f5;have t4:=sE (x:=ay z none (some 4)) (by rw[c4];exact d4) (by rw[c4];exact n4) (Ms l4 Z);have t5:=sE (x:=ay z (some 5) none) (by rw[c5];exact d5) (by rw[c5];exact n5) (Ms l5 Z);rw[c4]at t4;rw[c5]at t5;refine⟨_,Z,_,Z,_,Z,zf,_,_,Z,t5,l5,_,Z,1,13,Z,⟨by decide,by decide,by decide,by decide⟩,?_⟩
   by_cases hp:(1:Int)<=((d_ (z.cps.toList.drop 5):Nat):Int)/\((d_ (z.cps.toList.drop 5):Nat):Int)<13
   ·show if (!decide ((1:Int)<=((d_ (z.cps.toList.drop 5):Nat):Int)/\((d_ (z.cps.toList.drop 5):Nat):Int)<13))=true then _ else _;rw[i' hp];refine qO ⟨_,Z,_,Z,_,Z,zf,_,_,Z,t4,l4,_,_,Z,Z,.inl ⟨by decide,by decide⟩,_,Z,_,Z,_,Z,zf,_,_,Z,t5,l5,_,_,Z,Z,_,_,Z,Z,(q H2 S2).1 _ ?_⟩;unfold yK;rw[L' ⟨hb,by lia,by lia⟩]
    congr 1
    lia
   ·show if (!decide ((1:Int)<=((d_ (z.cps.toList.drop 5):Nat):Int)/\((d_ (z.cps.toList.drop 5):Nat):Int)<13))=true then _ else _;rw[j' hp];refine yh ((q H2 S2).2 ?_);unfold yK;rw[K' (λh=>hp ⟨by have:=h.2.1;lia,by have:=h.2.2;lia⟩)]
theorem G3 (z:af):decide (V.str (ay z none (some 1))=V.str ("-":af))=decide (z.cps.toList.head?=some 45):=by
 rw[yW,r9,Wl];refine decide_eq_decide.mpr ?_;show z.cps.toList.take 1=[45]↔_
 cases z.cps.toList with
 |nil=>exact⟨(λh=>nomatch h),(λh=>nomatch h)⟩
 |cons a l=>exact⟨λh=>G' some (aT h).1,λh=>by rw[ai h];rfl⟩
theorem Re (z:af):(ay z (some (if decide (z.cps.toList.head?=some 45)=true then 1 else 0)) none).cps.toList=wa z.cps.toList:=by
 unfold wa
 by_cases c:z.cps.toList.head?=some 45
 ·rw[L' (i' c),L' c,Lf]
 ·rw[K' λh=>c (B' h),K' c,tQ]
theorem MU (h:l.all vd=true)(n:l≠[]):c_ l/\l≠[]:=ya (by
 unfold j4
 cases l with
 |nil=>exact M' rfl n
 |cons a r=>exact h)
set_option maxHeartbeats 8000000 in
theorem OX (F:jn K "_law_reads" "_law_reads" (qH 75) f fd)(G:wk mg):qD P w K mg base qQ 1 f fd ["_law_text"] QA:=by
 have nd:(["_law_text","_law_body","_law_figures"]:List af).Nodup:=by decide+kernel
 have nc:(["_law_sign"]:List af).Nodup:=by decide+kernel
 refine F.ok (N:=["_law_text","_law_body","_law_figures"]) (by walk_at"s") (λvs H Q E h=>?_) (λV' A outer s H vs Q E hr h=>?_)
 ·obtain⟨z,rfl,_⟩:=h;rfl
 ·obtain⟨z,rfl,hz,q⟩:=h;have zf:z.length<=ar:=vT hz rfl;have un0:(A.deeper (iu "_law_reads" (z5 (qH 75)) s.heap.objs.size f V')).units<sV:=DX (De _ 64) hr.units
  refine' ⟨_,(zh (qm (zD kG (zu qf Z G.len g_ (za (pv 0) zd)) ze (zI _)) (zi (zB jf)) zQ)
    (zh (zE (i:=1) nd Z (ax Z) (zJ qw (pv 0) (zK (zY jS Z G.int qP (za (yn y6 (zJ qw (pv 0) zV (zK ze)) zv (zI _)) zd))) zV))
    (zh (zE (i:=2) nd Z (ax Z) (zm zS (zJ qw (pv 1) zV (zK (yL qV ze))) (zJ qw (pv 1) (zK (yL qV ze)) zV)))
    (zh (qm (PW.pt (jh (zD v8 (zJ qw (pv 1) (zK (yL qV ze)) (zK (yL qV ze))) zv (zI _)) (jh (zD Zv (zu qf Z G.len g_ (za (pv 1) zd)) ze (zI _)) (jc (zD (YY un0) ?comp_1 (zU zd) (zI _)))))) (zi (zB jf)) zQ)
    (zh (qm (PW.pt (jh (PW.pt (lK (zD kG (zu qf Z G.len g_ (za (pv 1) zd)) ze (zI _)) (oy (zD y6 (qa wX (pv 1) ze) zv (zI _))))) (jc (zD y6 (pv 0) zv (zI _))))) (zi (zB jf)) zQ)
    (zi (zB (zm yp (zY yc Z G.int qP (za (pv 2) zd)) (qa qx (zU (za ze (za (yL qV ze) zd))) (zY jS Z G.int qP (za (yn y6 (zJ qw (pv 0) zV (zK ze)) zv (zI _)) zd))))))))))),?main⟩
  case comp_1=>
   refine' z9 (Nc:=["_law_sign"]) (cl:=[]) (src:=[none]) (wi:=Ov (zN 2)) (g:=zO 0) (tt:=uE (jA (λx y H Q=>∃i j,x=.str i/\y=.str j/\Q (.bl (!(!(aN j i 0 j.length 1).isEmpty))) H) (zN 0) (tC (.str "0123456789")))) (te:=zN 0) (by walk_at"c0") rfl (YW (pv 2)) ?hb
   case hb=>
    intro fp C' s' H';exact⟨zA (i:=0) nc Z (ax Z),vo (zD Zx (pv 0) zv (by rfl)),pv 0⟩
  try (walk_at"d5")
  refine⟨_,Z,z,Z,zf,_,_,Z,Z,_,Z,yo (λe=>?_) (λe=>?_)⟩
  ·have e:(30:Int)<((z.length:Nat):Int):=B' e
   have rd:qI z.cps.toList=none:=by
    unfold qI;rw[K' λh=>by have:=h.1;rw[<- zq]at this;lia]
   rw[rd]at q;exact q H (zj.refl _)
  have l30:z.length<=30:=by
   have e:¬(30:Int)<((z.length:Nat):Int):=λc=>e (i' c);lia
  refine⟨_,Z,_,Z,_,Z,_,Z,zf,Z,.inr ⟨_,Z,_,Z,_,Z,zf,?_⟩⟩;rw[G3];have ey:=Re z;generalize ay z (some (if decide (z.cps.toList.head?=some 45)=true then 1 else 0)) none=y at ey
  have yl:y.length<=30:=by
   rw[zq,ey];have:=Mg z.cps.toList;rw[<- zq]at this;lia
  have yf:y.length<=ar:=vT yl rfl;have c3:(ay y none (some (-3))).cps.toList=wh (wa z.cps.toList):=by rw[gj,ey]
  have c2:(ay y (some (-2)) none).cps.toList=kF (wa z.cps.toList):=by rw[gJ,ey]
  have cd:=N5 y;have l1:=CD (h9 y none (some (-3))) yl;have l2:=CD (h9 y (some (-2)) none) yl;refine⟨_,Z,_,Z,_,Z,_,Z,yf,_,Z,_,Z,_,Z,_,Z,yf,_,_,Z,Z,vT (show _<=60 by lia) Z,?_⟩;have fc:(ay y none (some (-3))++ay y (some (-2)) none).cps.toList=wh (wa z.cps.toList)++kF (wa z.cps.toList):=by rw[zR,c3,c2]
  have fl:(ay y none (some (-3))++ay y (some (-2)) none).length<=60:=by rw[qB];lia
  generalize ay y none (some (-3))++ay y (some (-2)) none=fg at fc fl;rw[ey]at cd;generalize hu:wa z.cps.toList=u at ey cd fc c3 c2;have ul:y.length=u.length:=by rw[zq,ey]
  have rdN:Jl u=false->qI z.cps.toList=none:=λh=>by
   unfold qI;rw[hu,K' λh'=>by rw[h]at h';exact CZ h'.2.1]
  dsimp only;refine YO (λR=>∀H',zj H H'->R (!(decide ((u.drop (u.length-3)).take (u.length-2-(u.length-3))=[46])&&(decide (4<=u.length)&&(wh u++kF u).all vd))) H') (λR r=>?_) (λH1 s1=>?_)
  ·refine⟨_,Z,_,Z,_,Z,_,Z,_,Z,_,Z,yf,Z,_,Z,?_⟩;rw[yW,cd,oG];show if (!decide ((u.drop (u.length-3)).take (u.length-2-(u.length-3))=[46]))=true then _ else _
   cases ed:decide ((u.drop (u.length-3)).take (u.length-2-(u.length-3))=[46]) with
   |false=>
    rw[ed,d6]at r;exact yh (r H (zj.refl _))
   |true=>
    rw[ed,dR]at r;refine qO ⟨_,Z,y,Z,yf,_,_,Z,Z,_,Z,yo (λe=>?_) (λe=>?_)⟩
    ·have e:((y.length:Nat):Int)<4:=B' e;rw[j' (show ¬4<=u.length by lia),d6]at r;exact r H (zj.refl _)
    ·have e:¬((y.length:Nat):Int)<4:=λc=>e (i' c);rw[i' (show 4<=u.length by lia),dR]at r;refine⟨_,Z,fg,Z,λD hD=>Zr (wR (z:=fg)) hD (by rw[Cw,<- zq,ah];lia) (λx=>match x with|.str y=>!vd (y.cps.getD 0 0) |_=>false) (λx=>x) (λx hx H' R' _ r'=>?_) (λx hx _ H' R' _ r'=>⟨_,Z,r'⟩) ?_⟩
     ·obtain⟨c,_,rfl⟩:=CB.mp hx;refine⟨_,Z,_,_,Z,Z,_,Z,?_⟩;rw[xQ];exact r'
     ·have nil:((fg.cps.toList.map λc=>V.str ⟨#[c]⟩).filter (λx=>match x with|.str y=>!vd (y.cps.getD 0 0) |_=>false)).map (λx=>x)=[]↔(wh u++kF u).all vd=true:=by
       rw[List.map_id',fX,fc,dA];constructor
       ·intro h c hc;have:=h (V.str ⟨#[c]⟩) (CB.mpr ⟨c,hc,Z⟩)
        cases q:vd c with
        |true=>rfl
        |false=>
         have t:(!vd c)=true:=by rw[q];rfl
         exact M' t this
       ·intro h x hx;obtain⟨c,hc,rfl⟩:=CB.mp hx;show ¬(!vd c)=true;rw[h c hc];exact CZ
      refine⟨z8 Z,λem H2 s2 em0 e2=>⟨D,em,_,Z,Z,zL.of (s2 _ _ zt),zL.of e2,λeN=>⟨false,Z,?_⟩,λnN=>⟨true,Z,?_⟩⟩⟩
      ·rw[nil.mp eN]at r;exact r H2 ((zj.upd hD).trans s2)
      ·have:(wh u++kF u).all vd=false:=by
        cases q:(wh u++kF u).all vd with
        |false=>rfl
        |true=>exact M' (nil.mpr q) nN
       rw[this]at r;exact r H2 ((zj.upd hD).trans s2)
  have lo:=RZ u;unfold NR at lo
  cases ea:(decide ((u.drop (u.length-3)).take (u.length-2-(u.length-3))=[46])&&(decide (4<=u.length)&&(wh u++kF u).all vd)) with
  |false=>
   have ok:Jl u=false:=by
    rw[<- lo,<- Ei,<- Ei];rw[<- Ei]at ea;rw[ea,d6]
   rw[rdN ok]at q;exact yh (q H1 s1)
  |true=>
   refine qO ?_
   have ok:Jl u=!(decide (4<u.length)&&decide (u.head?=some 48)):=by
    rw[<- lo,<- Ei,<- Ei];rw[<- Ei]at ea;rw[ea,dR]
   rw[CW,CW]at ea;obtain⟨_,ea2,ea3⟩:=ea;have h4:4<=u.length:=B' ea2
   obtain⟨x0,ux⟩:∃x0,u.head?=some x0:=by
    cases u with
    |nil=>cases h4
    |cons a l=>exact⟨a,Z⟩
   have a0:atI y.cps.toList 0=some x0:=by
    rw[ey]
    cases u with
    |nil=>cases ux
    |cons a l=>exact Ys (i:=0) (by decide) ux
   dsimp only [GV];refine YO (λR=>R (!Jl u || decide (z.cps.toList=QP)) H1) (λR r=>?_) ?_
   ·refine⟨_,Z,y,Z,yf,_,_,Z,Z,_,Z,?_⟩
    have P':R (!Jl u || decide (z.cps.toList=QP)) H1->¬(decide (4<u.length)&&decide (u.head?=some 48))=true->R (decide (z.cps.toList=QP)) H1:=λr n=>by
     rw[ok]at r
     cases q:(decide (4<u.length)&&decide (u.head?=some 48)) with
     |true=>exact M' q n
     |false=>rw[q]at r;exact r
    refine yo (λe=>?_) (λe=>?_)
    ·have e:(4:Int)<((y.length:Nat):Int):=B' e;refine⟨_,Z,y,0,_,Z,Z,yf,a0,Z,_,Z,?_⟩;rw[yW,Y0];show if decide ([x0]=[48])=true then _ else _
     by_cases c:x0=48
     ·rw[i' (by rw[c])];refine yh ?_;rw[ok,i' (show 4<u.length by lia),ux,c,i' rfl]at r;exact r
     ·rw[j' λq=>c (aT q).1];refine qO ⟨_,Z,Z,_,Z,?_⟩;rw[yW,YX]
      exact P' r λq=>by
       rw[CW]at q;have:=B' q.2;rw[ux]at this;exact c (ai this)
    ·have e:¬(4:Int)<((y.length:Nat):Int):=λc=>e (i' c);refine qO ⟨_,Z,Z,_,Z,?_⟩;rw[yW,YX]
     exact P' r λq=>by
      rw[CW]at q;have:=B' q.1;lia
   cases eo:Jl u with
   |false=>
    rw[rdN eo]at q;exact yh (q H1 s1)
   |true=>
    by_cases cz:z.cps.toList=QP
    ·rw[i' cz]
     have rd:qI z.cps.toList=none:=by
      unfold qI;rw[K' λh=>h.2.2 cz]
     rw[rd]at q;exact yh (q H1 s1)
    ·rw[j' cz];refine qO ?_
     have nn:wh u++kF u≠[]:=λc=>by
      have:(kF u).length=2:=by unfold kF;rw[dB];lia
      rw[(fY.mp c).2]at this;cases this
     obtain⟨a1,n1⟩:=MU ea3 nn;have t1:=sE (x:=fg) (by rw[fc];exact a1) (by rw[fc];exact n1) (by lia);rw[fc,Tq _ _ (by unfold kF;rw[dB];lia)]at t1
     have rd:qI z.cps.toList=some (if z.cps.toList.head?=some 45 then -(wm u) else wm u):=by
      unfold qI;rw[hu,L' ⟨by rw[<- zq];exact l30,eo,cz⟩]
     refine⟨_,Z,fg,_,Z,t1,by lia,_,Z,z8 Z,λl2 H2 s2 n2 e2=>?_⟩;refine⟨_,Z,_,Z,_,Z,zf,Z,.inr ⟨_,Z,?_⟩⟩;rw[G3]
     by_cases c:z.cps.toList.head?=some 45
     ·rw[L' c]at rd;rw[rd]at q;rw[i' c];refine⟨l2,_,1,_,Z,Z,zL.of e2,Z,_,_,Z,Z,.inr ⟨by decide,by decide⟩,?_⟩;have ev:(((d_ (wh u)*100+d_ (kF u):Nat):Int) * -1) = -(wm u):=by unfold wm;lia
      rw[<- ev]at q;exact q H2 (s1.trans s2)
     ·rw[K' c]at rd;rw[rd]at q;rw[j' c];refine⟨l2,_,0,_,Z,Z,zL.of e2,Z,_,_,Z,Z,.inr ⟨by decide,by decide⟩,?_⟩;have ev:(((d_ (wh u)*100+d_ (kF u):Nat):Int)*1)=wm u:=by unfold wm;lia
      rw[<- ev]at q;exact q H2 (s1.trans s2)
theorem NY (F:jn K "_law_next" "_law_next" (qH 70) f fd):qD P w K mg base qQ 1 f fd ["_law_number","_law_k"] GQ:=by
 refine F.ok (N:=["_law_number","_law_k"]) (by walk_at"s") (λvs H Q E h=>?_) (λV' A outer s H vs Q E hr h=>?_)
 ·obtain⟨n,k,rfl,_⟩:=h;rfl
 ·obtain⟨n,k,rfl,n0,n1,k0,k1,q⟩:=h;refine⟨_,(zi (zB (zm qg (zm yp (zm qu (zm qu (zm yp (pv 0) (zm qu (zm yp (pv 1) (pv 1)) ze)) (zm yp ze (pv 1))) ze) ze) ze))),?_⟩
  have kk:k*k<=1000000:=by
   have:=Int.mul_le_mul k1 k1 k0 (by decide);lia
  have kk0:0<=k*k:=Int.mul_nonneg k0 k0;refine⟨_,Z,_,Z,_,Z,_,_,Z,Z,.inr ⟨by lia,by lia⟩,_,_,Z,Z,_,_,Z,Z,.inr ⟨by lia,by lia⟩,?_⟩;refine⟨_,Z,_,_,Z,Z,.inr ⟨by lia,by lia⟩,_,_,Z,Z,_,_,Z,Z,_,_,Z,Z,.inr ⟨by decide,by decide⟩,_,_,Z,Z,(by show(0:Int)<2147483629;decide),q _ (dG _ (by decide)) (dH _ (by decide))⟩
theorem Rn (F:jn K "_law_amount" "_law_amount" (qH 72) f fd):qD P w K mg base qQ 1 f fd ["_law_number"] Le:=by
 have nd:(["_law_number","_law_more"]:List af).Nodup:=by decide+kernel
 refine F.ok (N:=["_law_number","_law_more"]) (by walk_at"s") (λvs H Q E h=>?_) (λV' A outer s H vs Q E hr h=>?_)
 ·obtain⟨n,rfl,_⟩:=h;rfl
 ·obtain⟨n,rfl,n0,n1,q⟩:=h
  refine⟨_,(zh (zE (i:=1) nd Z (ax Z) (zm q8 (pv 0) ze))
    (zi (zB (qa qx (zU (za ze (za (zm qg (pv 1) ze) (za (zm qg (pv 1) (zm Rt ze ze)) (za (pv 1) (za (zm yp (zm yp (pv 1) (pv 1)) ze) zd)))))) (zm qg (pv 0) ze))))),?_⟩
  have m0:0<=n/5:=eO n0 (by decide);have m1:n/5<=107374182:=by lia
  refine⟨_,Z,_,_,Z,Z,⟨by decide,by decide⟩,?_⟩
  walk_at"d4"
  generalize n/5=m at m0 m1;have mm0:0<=m*m:=Int.mul_nonneg m0 m0
  have mm1:m*m<=11529214960461124:=by
   have:=Int.mul_le_mul m1 m1 m0 (by decide);lia
  refine⟨_,Z,_,_,Z,Z,(by show(0:Int)<100;decide),_,Z,_,_,Z,Z,⟨by decide,by decide,by decide⟩,_,_,Z,Z,(by show(0:Int)<10 ^ (6:Int).toNat;decide),_,Z,_,Z,_,Z,_,_,Z,Z,.inr ⟨by lia,by lia⟩,_,_,Z,Z,.inr ⟨by lia,by lia⟩,z8 Z,λr H1 s1 r0 e1=>?_⟩;have g0:0<=n%5:=dG _ (by decide);have g1:n%5<5:=dH _ (by decide);refine⟨_,Z,_,_,Z,Z,(by show(0:Int)<5;decide),?_⟩
  walk_at"d4"
  generalize n%5=g at g0 g1;have a2:0<=m%100/\m%100<100:=⟨dG _ (by decide),dH _ (by decide)⟩;have a3:0<=m%1000000/\m%1000000<1000000:=⟨dG _ (by decide),dH _ (by decide)⟩;have cs:g=0∨g=1∨g=2∨g=3∨g=4:=by lia
  rcases cs with rfl |rfl |rfl |rfl |rfl
  ·exact⟨r,_,0,_,Z,Z,zL.of e1,Z,q 0 H1 (by decide) (by decide) s1⟩
  ·exact⟨r,_,1,_,Z,Z,zL.of e1,Z,q _ H1 a2.1 (by lia) s1⟩
  ·exact⟨r,_,2,_,Z,Z,zL.of e1,Z,q _ H1 a3.1 (by show m%1000000<=_;lia) s1⟩
  ·exact⟨r,_,3,_,Z,Z,zL.of e1,Z,q _ H1 m0 (by lia) s1⟩
  ·exact⟨r,_,4,_,Z,Z,zL.of e1,Z,q _ H1 (by lia) (by lia) s1⟩
theorem LU (F:jn K "_law_told" "_law_told" (qH 74) f fd)(G:wk mg):qD P w K mg base qQ 1 f fd ["_law_amount_here"] ZG:=by
 have nd:(["_law_amount_here","_law_figures"]:List af).Nodup:=by decide+kernel
 refine F.ok (N:=["_law_amount_here","_law_figures"]) (by walk_at"s") (λvs H Q E h=>?_) (λV' A outer s H vs Q E hr h=>?_)
 ·obtain⟨n,rfl,_⟩:=h;rfl
 ·obtain⟨a,rfl,hb,q⟩:=h
  refine⟨_,(zh (zE (i:=1) nd Z (ax Z) (zY yr Z G.str yO (za (zu Yu Z G.abs YB (za (pv 0) zd)) zd)))
    (zh (Yw aX (zD Zv (zu qf Z G.len g_ (za (pv 1) zd)) ze (zI _)) (zi (zE (i:=1) nd Z (ax Z) (zm zS zv (pv 1)))))
    (zi (zB (zm zS (zm zS (zm zS (zm vz zv (zY jS Z G.int qP (za (yn Zv (pv 0) ze (zI _)) zd))) (zJ qw (pv 1) zV (zK (yL qV ze)))) zv) (zJ qw (pv 1) (zK (yL qV ze)) zV)))))),?_⟩
  have n0:=ZO a;obtain⟨n,hn⟩:=dZ n0;have hb':yB a<10 ^ 40:=hb;have nb:n<10 ^ 40:=by lia
  have ln:(dg n).length<=40:=qj (by decide) nb;have lp:=yv n;refine⟨_,Z,a,Z,yB a,Z,nQ n0 hb',?_⟩;refine⟨λm σ H'=>H'=H/\∃(z:af) (k:Nat),σ=[some (.int a),some (.str z)]/\z.cps.toList=aw k 48++dg n/\(k=0∨z.cps.toList.length<=3)/\m=3-z.cps.toList.length,⟨_,Z,yI (yB a),0,Z,by rw[hn,yy];rfl,.inl Z,Z⟩,λm σ H' z=>?_⟩;obtain⟨rfl,z,k,rfl,zc,zk,rfl⟩:=z;have zl:z.cps.toList.length=k+(dg n).length:=by rw[zc,CA,Dh]
  have zlen:z.length=k+(dg n).length:=by rw[zq,zl]
  refine⟨_,Z,z,Z,by rw[ah];lia,_,_,Z,Z,_,Z,yo (λe=>?_) (λe=>?_)⟩
  ·have e:((z.length:Nat):Int)<3:=B' e;refine⟨λσ' H''=>∃m',m'<3-z.cps.toList.length/\H''=H'/\∃(z:af) (k:Nat),σ'=[some (.int a),some (.str z)]/\z.cps.toList=aw k 48++dg n/\(k=0∨z.cps.toList.length<=3)/\m'=3-z.cps.toList.length,λσ' H' h=>h,?_⟩;have l0:("0":af).length=1:=by decide+kernel
   have c0:(("0":af)++z).cps.toList=aw (k+1) 48++dg n:=by
    rw[zR,zc,show("0":af).cps.toList=[48] by decide+kernel,d7];rfl
   have cl:(("0":af)++z).cps.toList.length=k+1+(dg n).length:=by rw[c0,CA,Dh]
   refine⟨_,Z,_,_,Z,Z,by rw[l0,ah];lia,3-(("0":af)++z).cps.toList.length,by rw[cl,zl];lia,Z,_,k+1,Z,c0,.inr (by rw[cl];lia),Z⟩
  ·have e:¬((z.length:Nat):Int)<3:=λc=>e (i' c)
   have zp:z.cps.toList=qK 3 (dg (yB a).toNat):=by
    rw[hn,dJ,zc];unfold qK
    congr 2
    lia
   have tl:=Ls (a:=a) zp;have hl:z.length<=ar:=by rw[ah];lia
   have ll:(qE "-" (if decide (a<0)=true then 1 else 0)++ay z none (some (-2)) ++ "." ++ ay z (some (-2)) none).length<=44:=by rw[tl];exact UK hb
   rw[qB,qB,qB]at ll;have l1:("-":af).length=1:=vN;have l2:(".":af).length=1:=by decide+kernel
   have i1:(if decide (a<0)=true then (1:Int) else 0)=0∨(if decide (a<0)=true then (1:Int) else 0)=1:=by
    by_cases c:a<0
    ·rw[L' (i' c)];exact .inr rfl
    ·rw[K' λq=>c (B' q)];exact .inl rfl
   refine⟨_,Z,_,_,Z,Z,.inr ⟨_,Z,?_⟩⟩;refine⟨_,_,Z,Z,by lia,by lia,by rw[l1,ah];lia,_,Z,_,Z,_,Z,_,Z,hl,?_⟩;refine⟨_,_,Z,Z,by rw[ah];lia,_,_,Z,Z,by rw[qB,ah];lia,_,Z,_,Z,_,Z,_,Z,hl,?_⟩;refine⟨_,_,Z,Z,by rw[qB,qB,ah];lia,?_⟩;rw[<- tl]at q;exact q
theorem O6 (F:jn K "_law_month_text" "_law_month_text" (qH 76) f fd)(G:wk mg):qD P w K mg base qQ 1 f fd ["_law_month"] ke:=by
 have nd:(["_law_month","_law_year","_law_place"]:List af).Nodup:=by decide+kernel
 refine F.ok (N:=["_law_month","_law_year","_law_place"]) (by walk_at"s") (λvs H Q E h=>?_) (λV' A outer s H vs Q E hr h=>?_)
 ·obtain⟨n,rfl,_⟩:=h;rfl
 ·obtain⟨z,rfl,h0,h1,q⟩:=h;have y0:=BG h0;have y1:=bJ h1;have ln:(yI (z/12)).length<=4:=Wp y0 (by decide) (BJ y1);have lm:(yI (z%12+1)).length<=2:=Wp (rh z) (by decide) (BE (rm z));have l3:("000":af).length=3:=by decide+kernel
  have l1:("0":af).length=1:=by decide+kernel
  have sy:=bB (y:=z/12) y0 y1;have sp:=bG (y:=z%12+1) (rh z) (rm z);have ly:=Qe (y:=z/12) y0 y1;have lp:(Zi (z%12+1)).length=2:=uN (rh z) (rm z)
  refine⟨_,(zh (zE (i:=1) nd Z (ax Z) (zm zS zv (zY yr Z G.str yO (za (zm q8 (pv 0) ze) zd))))
    (zh (zE (i:=2) nd Z (ax Z) (zm zS zv (zY yr Z G.str yO (za (zm qu (zm qg (pv 0) ze) ze) zd))))
    (zi (zB (zm zS (zm zS (zJ qw (pv 1) (zK (yL qV ze)) zV) zv) (zJ qw (pv 2) (zK (yL qV ze)) zV)))))),?_⟩
  refine⟨_,Z,_,_,Z,Z,⟨by decide,by decide⟩,z/12,Z,jT y0 (mB y1),("000":af),yI (z/12),Z,Z,by rw[l3];exact Lj (Cz 3) ln Z,?_⟩;refine⟨_,Z,_,_,Z,Z,(by show(0:Int)<12;decide),_,_,Z,Z,z%12+1,Z,jT (rh z) (cZ z),("0":af),yI (z%12+1),Z,Z,by rw[l1];exact Lj (Cz 1) lm Z,?_⟩;refine⟨_,Z,_,Z,_,Z,_,Z,by rw[qB,l3];exact Lj (Cz 3) ln Z,_,_,Z,Z,?_,?_⟩
  ·show(ay (("000":af)++yI (z/12)) (some (-4)) none).length+("-":af).length<=ar;rw[sy,ly,vN];exact vT (Cz _) rfl
  refine⟨_,Z,_,Z,_,Z,_,Z,by rw[qB,l1];exact Lj (Cz 1) lm Z,_,_,Z,Z,?_,?_⟩
  ·show(ay (("000":af)++yI (z/12)) (some (-4)) none++("-":af)).length+(ay (("0":af)++yI (z%12+1)) (some (-2)) none).length<=ar;rw[sy,sp,qB,ly,lp,vN];exact vT (Cz _) rfl
  ·show Q (.str (ay (("000":af)++yI (z/12)) (some (-4)) none++("-":af)++ay (("0":af)++yI (z%12+1)) (some (-2)) none)) H;rw[sy,sp];exact q
set_option maxHeartbeats 8000000 in
theorem LK (F:jn K "_law_rows" "_law_rows" (qH 78) f fd)(G:wk mg):qD P w K mg base qQ 1 f fd ["_law_table"] Yk:=by
 have nd:(["_law_table","_law_found","_law_row","_law_line","_law_k","_law_cell_here","_law_fill"]:List af).Nodup:=by decide+kernel
 have nc:(["_law_other","_law_k"]:List af).Nodup:=by decide+kernel
 refine F.ok (N:=["_law_table","_law_found","_law_row","_law_line","_law_k","_law_cell_here","_law_fill"]) (by walk_at"s") (λvs H Q E h=>?_) (λV' A outer s H vs Q E hr h=>?_)
 ·obtain⟨t,ys,W',n,rfl,_⟩:=h;rfl
 ·obtain⟨t,ys,W',n,rfl,ht,T,TO,q⟩:=h
  refine' ⟨_,(zh (zE (i:=1) nd Z (ax Z) (zU zd))
    (zh (jC aX Z (qh (pv 0)) (zA (i:=2) nd Z (ax Z)) (zh (zE (i:=3) nd Z (ax Z) zv)
    (zh (jC aX Z (Gh Z G.enumerate (za (pv 2) zd)) (jr Z (zW (zA (i:=4) nd Z (Ao Z)) (zW (zA (i:=5) nd Z (ax Z)) yz))) (zh (zE (i:=6) nd Z (ax Z) (zm vz zv (zm kJ (zu (JN Z) Z G.max HF (za ?comp_1 zd)) (zu qf Z G.len g_ (za (pv 5) zd)))))
    (zi (zE (i:=3) nd Z (ax Z) (zm zS (zm zS (pv 3) (zm vz zv (zY jS Z G.int qP (za (yn kG (pv 4) ze (zI _)) zd)))) (qa qx (zU (za (zm zS (pv 5) (pv 6)) (za (zm zS (pv 6) (pv 5)) zd))) (zY jS Z G.int qP (za (yn kG (pv 4) ze (zI _)) zd))))))))
    (zh (Yw aX (zD y6 (zJ qw (pv 3) (zK (yL qV ze)) zV) zv (zI _)) (zi (zE (i:=3) nd Z (ax Z) (zJ qw (pv 3) zV (zK (yL qV ze))))))
    (zi (yR (qX aU aP aO qT (pv 1) (za (pv 3) zd))))))))
    (zi (zB (pv 1))))),?main⟩
  case comp_1=>
   refine' z9 (Nc:=["_law_other","_law_k"]) (cl:=[("_law_k",s.heap.objs.size+1)]) (src:=[none,some 4]) (wi:=jb K (zN 0)) (g:=zO 0) (tt:=qA) (te:=p7 (λxs H Q=>∃z:af,xs=[.str z]/\z.length<=ar/\Q (.int z.length) H) (z6 (jA (mP K) (zN 0) (zN 1)) yw))
    (by walk_at"c2") rfl (qh (pv 0)) ?hb
   case hb=>
    intro fp C' s' H';exact⟨zA (i:=0) nc Z (ax Z),qi,zu qf Z G.len g_ (za (qa qx (pv 0) (pv 1)) zd)⟩
  have n2:=TO.n2;have t2:=TO.t2;have tz:W'.length<ar:=by rw[ah];lia
  have tl:ys.length=W'.length:=T.len
  try (walk_at"d5")
  refine⟨z8 Z,λr H1 s1 r0 e1=>?_⟩
  refine⟨_,Z,t,Z,⟨_,zL.of (s1 _ _ ht)⟩,uI (K:=K) (a:=t) (xs:=ys) (λi σ H'=>∃x2 x3 x4 x5 x6,σ=[some (.ref t),some (.ref r),x2,x3,x4,x5,x6]/\zj H H'/\H' r=some (.lst (((W'.take i).map λrow=>kQ row (vM W' n)).map V.str)))
   ⟨_,_,_,_,_,Z,s1,e1⟩ (λi σ H' _ z=>?_) ?_ ?_⟩
  ·obtain⟨_,_,_,_,_,_,S,_⟩:=z;exact zL.of (S _ _ ht)
  ·rintro i v σ H' hv ⟨x2,x3,x4,x5,x6,rfl,S,gr⟩ E0' kk;obtain⟨ra,row,rfl,δ4,hra⟩:=(T.same S).of_at hv;have mrow:=dv δ4;have rl:=TO.wide row mrow;have tk:W'.take (i+1)=W'.take i++[row]:=by rw[dS,δ4];rfl
   have il:i<W'.length:=(CV.mp δ4).1;obtain⟨cs,hcs⟩:∃cs,cs=yG row (vM W' n):=⟨_,Z⟩;have cb:∀z∈cs,z.length<=60:=by rw[hcs];exact ub rl uf TO.n1 (TO.text row mrow) (ZN TO)
   have cl:cs.length=n:=by rw[hcs];exact uD rl uf
   have jl:∀k,(aF "  " (cs.take k)).length<=4340:=λk=>(yU (m:=60) (k:=70) (λz hz=>cb z (DO hz)) (by rw[CQ];lia) (by decide+kernel) Z).2;refine⟨_,Z,ra,Z,⟨_,zL.of hra⟩,Vf (K:=K) (a:=ra) (xs:=row.map V.str) (λk σ H2=>∃x4 x5 x6,σ=[some (.ref t),some (.ref r),some (.ref ra),some (.str (aF "  " (cs.take k))),x4,x5,x6]/\zj H' H2) ⟨_,_,_,Z,zj.refl _⟩ (λk σ H2 _ z=>?_) ?_ ?_⟩
   ·obtain⟨_,_,_,_,S2⟩:=z;exact zL.of (S2 _ _ hra)
   ·rintro k x p σ H2 hx ⟨x4,x5,x6,rfl,S2⟩ p0 E1' k1;rw[CI]at hx;obtain⟨z,hz,rfl⟩:=CS.mp hx;have kn:k<n:=by rw[<- rl];exact(CV.mp hz).1
    have zg:row.getD k aC=z:=by rw[dD,hz];rfl
    have zw:z.length<=kI W' k:=by rw[<- zg];exact Xk mrow k
    have pc:=b5 TO mrow kn;rw[<- hcs,zg]at pc;have ck:=TO.col k;have fl:=Me (w:=kI W' k) (l:=z.length);have S3:=(S2.trans (zj.upd p0 (o:=.tup [.int (k:Nat),.str z])));refine⟨p,_,Z,yT.of zt,Z,_,_,Z,_,_,Z,Z,?_⟩;refine⟨_,Z,t,Z,⟨_,zL.of (S3 _ _ (S _ _ ht))⟩,λD hD=>ym (qd (zL.of (S3 _ _ (S _ _ ht)))) (uV (T.same (S.trans S3))) hD tz (λr=>.int (w4 r k:Nat)) (λr hr v H4 R s4 e4 r4=>?_) (λH4 s4 e4=>?_)⟩
    ·obtain⟨b,rfl,hb⟩:=e4;refine⟨_,Z,_,Z,b,_,_,_,Z,Z,zL.of hb,Qq (by rw[TO.wide r hr];exact kn),_,Z,?_,r4 _ (zj.refl _)⟩;exact CD (TO.cell hr k) (by rw[ah];decide)
    refine⟨D,W'.map (λr=>((w4 r k:Nat):Int)),_,Z,zL.of (by rw[dh];exact e4),(Ym TO k).1,(Ym TO k).2,_,Z,z,Z,by rw[ah];lia,_,_,Z,Z,_,_,Z,Z,by lia,by lia,by rw[show(" ":af).length=1 by decide+kernel,ah];lia,?_⟩;have ls:=OD pc;have jk:=jl k;have jk1:=jl (k+1)
    walk_at"d4"
    generalize qE " " ((kI W' k:Nat)-(z.length:Nat):Int)=fi at pc fl ls
    have hat:atI [V.str (z++fi),V.str (fi++z)] (if decide ((0:Int)<((k:Nat):Int))=true then 1 else 0)=some (.str (if k=0 then z++fi else fi++z)):=by
     by_cases c:k=0
     ·subst c;rfl
     ·rw[L' (i' (by lia)),K' c];rfl
    have i1:(if decide ((0:Int)<((k:Nat):Int))=true then (1:Int) else 0)=0∨(if decide ((0:Int)<((k:Nat):Int))=true then (1:Int) else 0)=1:=by
     by_cases c:(0:Int)<((k:Nat):Int)
     ·rw[L' (i' c)];exact .inr rfl
     ·rw[K' λq=>c (B' q)];exact .inl rfl
    have zl:z.length<=60:=TO.text row mrow z (dv hz)
    have l2:(qE "  " (if decide ((0:Int)<((k:Nat):Int))=true then 1 else 0)).length<=2:=by
     rw[JP];split
     ·exact CP _
     ·rw[ow];exact Cz _
    have lpc:(if k=0 then z++fi else fi++z).length<=120:=by
     split<;>(rw[qB];lia)
    refine⟨_,Z,_,Z,_,_,Z,Z,.inr ⟨_,Z,_,_,Z,Z,by lia,by lia,by rw[ow,ah];lia,_,_,Z,Z,by rw[ah];lia,?_⟩⟩;refine⟨_,Z,_,Z,_,_,Z,Z,by rw[ah];lia,_,Z,_,Z,_,_,Z,Z,by rw[ah];lia,z8 Z,λl5 H5 s5 l50 e5=>?_⟩;refine⟨_,Z,_,_,Z,Z,.inr ⟨_,Z,l5,_,_,_,Z,Z,zL.of e5,hat,_,_,Z,Z,by rw[qB,ah];lia,k1 _ _ ⟨some (.int (k:Nat)),some (.str z),some (.str fi),?_,S3.trans (s4.trans s5)⟩⟩⟩;rw[ls];rfl
   ·rintro σ H2 ⟨x4,x5,x6,rfl,S2⟩;have tkn:cs.take n=cs:=by rw[<- cl];exact dM
    rw[Cw,rl,tkn]
    have jl0:(aF "  " cs).length<=4340:=by
     have:=jl cs.length;rw[dM]at this;exact this
    refine⟨λm σ H3=>H3=H2/\∃z:af,σ=[some (.ref t),some (.ref r),some (.ref ra),some (.str z),x4,x5,x6]/\m=z.cps.toList.length/\z.length<=4340/\js z.cps.toList=js (aF "  " cs).cps.toList,⟨_,Z,_,Z,Z,jl0,Z⟩,λm σ H3 w3=>?_⟩;obtain⟨rfl,z,rfl,rfl,zl,zs⟩:=w3;have hl:z.length<=ar:=by rw[ah];lia
    refine⟨_,Z,_,Z,_,Z,_,Z,hl,Z,_,Z,yo (λe=>?_) (λe=>?_)⟩
    ·have e:ay z (some (-1)) none = " ":=V.str.inj (B' e);obtain⟨l',h1,h2⟩:=Xd e;refine⟨λσ' H4=>∃m',m'<z.cps.toList.length/\H4=H3/\∃z:af,σ'=[some (.ref t),some (.ref r),some (.ref ra),some (.str z),x4,x5,x6]/\m'=z.cps.toList.length/\z.length<=4340/\js z.cps.toList=js (aF "  " cs).cps.toList,λσ' H4 h=>h,?_⟩;have len1:z.cps.toList.length=l'.length+1:=by rw[h1,CA];rfl
     refine⟨_,Z,_,Z,_,Z,_,Z,hl,(ay z none (some (-1))).cps.toList.length,by rw[h2];lia,Z,_,Z,Z,?_,?_⟩
     ·rw[zq]at zl ⊢;rw[h2];lia
     ·rw[h2,<- gZ,<- h1];exact zs
    ·have e:¬ay z (some (-1)) none = " ":=λc=>e (i' (G' V.str c));have ez:=XR zs (OG e);have g2:=S2 _ _ gr;refine⟨_,Z,.inl ⟨Z,_,zL.of g2⟩,_,Z,r,_,_,Z,Z,g2,?_,?_⟩
     ·rw[Cw,Cw,CQ,ah];lia
     ·refine kk _ _ ⟨_,_,_,_,_,Z,λb o hb=>?_,?_⟩
      ·rw[zx (zo hb r0)];exact S2 _ _ (S _ _ hb)
      ·rw[zt,tk,CJ,CJ,ez,hcs];rfl
  ·rintro σ H' ⟨x2,x3,x4,x5,x6,rfl,S,gr⟩;rw[tl,dM]at gr;exact⟨_,Z,q r H' S r0 gr⟩
set_option maxHeartbeats 8000000 in
theorem Os (F:jn K "_law_paper" "_law_paper" (qH 79) f fd)(G:wk mg)(C_month:jw P w K mg base qQ 1 "_law_month_text" ["_law_month"] ke)(C_told:jw P w K mg base qQ 1 "_law_told" ["_law_amount_here"] ZG)(C_rows:jw P w K mg base qQ 1 "_law_rows" ["_law_table"] Yk):qD P w K mg base qQ 2 f fd ["_law_told_here"] Qg:=by
 have nd:(["_law_told_here","_law_names_here","_law_one","_law_table","_law_totals","_law_month","_law_earned","_law_dues","_law_net","_law_row"]:List af).Nodup:=by decide+kernel
 have nc7:(["_law_pair","_law_names_here"]:List af).Nodup:=by decide+kernel
 have nc6:(["_law_name","_law_dues"]:List af).Nodup:=by decide+kernel
 have nc5:(["_law_one","_law_other"]:List af).Nodup:=by decide+kernel
 have nc1:(["_law_one"]:List af).Nodup:=by decide+kernel
 refine F.ok (N:=["_law_told_here","_law_names_here","_law_one","_law_table","_law_totals","_law_month","_law_earned","_law_dues","_law_net","_law_row"]) (by walk_at"s") (λvs H Q E h=>?_) (λV' A outer s H vs Q E hr h=>?_)
 ·obtain⟨l,ys,sts,nm,rfl,_⟩:=h;rfl
 ·obtain⟨l,ys,sts,nm,rfl,hl,T,O,ND,q⟩:=h;have hu:=rJ hr
  refine' ⟨_,(zh (zE (i:=1) nd Z (Ao Z) (zU zd))
    (zh (jC aX Z (qh (pv 0)) (zA (i:=2) nd Z (ax Z)) (zi (zE (i:=1) nd Z (Ao Z) (zm qL (pv 1) ?comp_7))))
    (zh (zE (i:=1) nd Z (Ao Z) (zu Jh Z G.sorted Ac (za (pv 1) zd)))
    (zh (zE (i:=3) nd Z (ax Z) (zU (za (zm qL (zm qL (zU (za zv (za zv zd))) (pv 1)) (zU (za zv zd))) zd)))
    (zh (zE (i:=4) nd Z (ax Z) (zm GJ (zU (za ze zd)) (zm qu (zu qp Z G.len g_ (za (pv 1) zd)) ze)))
    (zh (jC aX Z (qh (pv 0)) (jr Z (zW (zA (i:=5) nd Z (ax Z)) (zW (zA (i:=6) nd Z (ax Z)) (zW (zA (i:=7) nd Z (Ao Z)) (zW (zA (i:=8) nd Z (ax Z)) yz))))) (zh (zE (i:=9) nd Z (ax Z) (zm qL (zm qL (zU (za (pv 6) zd)) ?comp_6) (zU (za (pv 8) zd))))
    (zh ?comp_5
    (zi (yR (qX aU aP aO qT (pv 3) (za (zm qL (zU (za (zG C_month hr (by decide) zT (za (pv 5) zd)) zd)) ?comp_4) zd)))))))
    (zh (yR (qX aU aP aO qT (pv 3) (za (zm qL (zU (za zv zd)) ?comp_2) zd)))
    (zi (zB (qX aA hZ hW v5 zv (za (zG C_rows hr (by decide) zT (za (pv 3) zd)) zd))))))))))),?main⟩
  case comp_7=>
   refine' z9 (Nc:=["_law_pair","_law_names_here"]) (cl:=[("_law_names_here",s.heap.objs.size+1)]) (src:=[none,some 1]) (wi:=Rw K (jA (Jo K) (zN 2) (tC (.int 2)))) (g:=zO 0) (tt:=uE (jA (BB K true) (jA (Jo K) (zN 0) (tC (.int 0))) (zN 1))) (te:=jA (Jo K) (zN 0) (tC (.int 0)))
    (by walk_at"c2") rfl (Z8 (qa yA (pv 2) ze)) ?hb
   case hb=>
    intro fp C' s' H';exact⟨zA (i:=0) nc7 Z (ax Z),vo (zD ZT (qa yA (pv 0) ze) (pv 1) (by rfl)),qa yA (pv 0) ze⟩
  case comp_6=>
   refine' z9 (Nc:=["_law_name","_law_dues"]) (cl:=[("_law_dues",s.heap.objs.size+2)]) (src:=[none,some 7]) (wi:=jb K (zN 1)) (g:=zO 0) (tt:=qA) (te:=L7 (p7 (λxs H Q=>∃(a:aj) (ts:List V) (prs:List (af×Int)),xs=[.ref a]/\(∃its n,H a=some (.frz (Qa its n) (.tup ts)))/\z4 H ts (prs.map cP)/\(prs.map (·.1)).Nodup/\G4 H (.dK (Yq prs)) Q) (z6 (zN 1) yw)) (zN 0))
    (by walk_at"c2") rfl (qh (pv 1)) ?hb
   case hb=>
    intro fp C' s' H';exact⟨zA (i:=0) nc6 Z (ax Z),qi,mh hu (zY (Qm Z) Z G.dict PyProof.Rows.boot_dict (za (pv 1) zd)) (pv 0) ⟨Z,Z,Z,Z⟩⟩
  case comp_5=>
   refine' jV (i:=4) (Nc:=["_law_one","_law_other"]) (cl:=[]) (src:=[none,none]) (wi:=M7 K (z6 (zN 4) (z6 (zN 9) yw))) (g:=uQ K 2 (qN (zO 0) (qN (zO 1) wj))) (tt:=qA) (te:=jA (X3 λi j=>.int (i+j)) (zN 0) (Bp (zN 1) (tC (.int 0)))) nd rfl rfl
    (by walk_at"c1") rfl (YT Z G.zip (za (pv 4) (za (pv 9) zd))) ?hb
   case hb=>
    intro fp C' s' H';exact⟨jr Z (zW (zA (i:=0) nc5 Z (ax Z)) (zW (zA (i:=1) nc5 Z (ax Z)) yz)),qi,zm qu (pv 0) (tW (pv 1) (vO ze))⟩
  case comp_4=>
   refine' z9 (Nc:=["_law_one"]) (cl:=[]) (src:=[none]) (wi:=jb K (zN 9)) (g:=zO 0) (tt:=qA) (te:=cA (uE (jA (λx y H Q=>y=.non/\Q (.bl (decide (x=.non))) H) (zN 0) (tC .non))) (tC (.str "-")) (λσ H Q=>z6 (zN 0) yw σ H λvs H1=>ZG vs H1 Q E0))
    (by walk_at"c0") rfl (qh (pv 9)) ?hb
   case hb=>
    intro fp C' s' H';exact⟨zA (i:=0) nc1 Z (ax Z),qi,wM (zD Ur (pv 0) jf (zI _)) zv (zG C_told hr (by decide) zT (za (pv 0) zd))⟩
  case comp_2=>
   refine' z9 (Nc:=["_law_one"]) (cl:=[]) (src:=[none]) (wi:=jb K (zN 4)) (g:=zO 0) (tt:=qA) (te:=λσ H Q=>z6 (zN 0) yw σ H λvs H1=>ZG vs H1 Q E0)
    (by walk_at"c0") rfl (qh (pv 4)) ?hb
   case hb=>
    intro fp C' s' H';exact⟨zA (i:=0) nc1 Z (ax Z),qi,zG C_told hr (by decide) zT (za (pv 0) zd)⟩
  try (walk_at"d5")
  have few:=O.few;have sz:sts.length<ar:=by rw[ah];lia
  have len11:∀{N:List af} {i:Nat},M9 N (sts.take i)->N.length<=63:=λ{N i} h=>by
   have:=gW h.nd (m:=nm) λz hz=>by
    obtain⟨x,hx,hz⟩:=(h.mem z).mp hz;obtain⟨p,hp,rfl⟩:=CB.mp hz;exact(O.each x (DO hx)).nm p hp
   have:=O.n11;lia
  refine⟨z8 Z,λnl0 H1 s1 n10 e1=>?_⟩
  refine⟨_,Z,l,Z,⟨_,zL.of (s1 _ _ hl)⟩,uI (K:=K) (a:=l) (xs:=ys) (λi σ H'=>∃x2 nl N,σ=[some (.ref l),some (.ref nl),x2,none,none,none,none,none,none,none]/\zj H H'/\H' nl=some (.lst (N.map V.str))/\M9 N (sts.take i))
   ⟨_,nl0,[],Z,s1,e1,fJ,λz=>⟨λh=>(nomatch h),fun⟨s,h,_⟩=>by cases h⟩⟩ (λi σ H' _ z=>?_) ?_ ?_⟩
  ·obtain⟨_,_,_,_,S,_⟩:=z;exact zL.of (S _ _ hl)
  ·rintro i v σ H' hv ⟨x2,nl,N,rfl,S,gn,ok⟩ E0' kk;obtain⟨x,hx,a,d,rfl,h1,its,nn,ts,h2,h3⟩:=(T.kt (KT.same S)).at_ i v hv;have il:i<sts.length:=(CV.mp hx).1;have tk:sts.take (i+1)=sts.take i++[x]:=by rw[dS,hx];rfl
   have ox:=O.each x (dv hx);have xl:=ox.len;have nl11:=len11 ok;have hd:yT K H' d ts:=.inl (.inr ⟨_,h2⟩);refine⟨_,Z,_,Z,a,_,2,_,Z,Z,yT.of h1,Z,d,Z,⟨_,hd⟩,λD hD=>?_⟩;refine Ji (ZY hd) (Vh h3) hD (by rw[ah];lia) (λp=>!decide (p.1∈N)) (λp=>.str p.1) (λp hp v H2 R s2 e2 r=>?_) (λp hp v H2 R s2 e2 r=>?_) (λH2 s2 e2=>?_)
   ·obtain⟨b,rfl,hb⟩:=e2;refine⟨_,Z,b,_,0,_,Z,Z,yT.of hb,Z,_,Z,nl,_,Z,.inl (zL.of (s2 _ _ gn)),Z,OM N,_,Z,?_⟩;have:=r _ (zj.refl _);rw[<- MF]at this;exact this
   ·obtain⟨b,rfl,hb⟩:=e2;exact⟨_,Z,b,_,0,_,Z,Z,yT.of hb,Z,r _ (zj.refl _)⟩
   ·have lz:((x.ds.filter λp=>!decide (p.1∈N)).map λp=>V.str p.1).length<=63:=by
     rw[Cw];exact CD (ES _ _) xl
    refine⟨nl,D,_,_,Z,Z,s2 _ _ gn,e2,by rw[Cw,ah];lia,λnl' H3 s3 n30 e3=>?_⟩;refine kk _ _ ⟨_,nl',N++O5 N x.ds,Z,S.trans (s2.trans s3),?_,by rw[tk];exact NB ok (ND x (dv hx))⟩;rw[e3,CJ];unfold O5;rw[dh];rfl
  ·rintro σ H' ⟨x2,nl,N,rfl,S,gn,ok⟩;have nl11:=len11 ok;rw[T.len,dM]at ok;refine⟨_,Z,nl,N,Z,zL.of gn,by lia,λnms pm so sl H2 s2 sl0 e2=>?_⟩;have nn:nms.Nodup:=pm.symm.nodup ok.nd;have nlen:nms.length<=63:=by rw[pm.length_eq];exact nl11
   have nmem:∀z,z∈nms↔z∈(yY sts).map (·.1):=λz=>by rw[pm.mem_iff,ok.mem,Zs]
   have S2:=S.trans s2;refine⟨z8 Z,λl1 H3 s3 l10 e3=>⟨_,Z,l1,sl,_,_,Z,Z,e3,s3 _ _ e2,by rw[Cw,ah];show 2+_<=_;lia,λl2 H4 s4 l20 e4=>⟨z8 Z,λl3 H5 s5 l30 e5=>?_⟩⟩⟩;refine⟨l2,l3,_,_,Z,Z,s5 _ _ e4,e5,by rw[CA,Cw,ah];show 2+_+1<=_;lia,λl4 H6 s6 l40 e6=>⟨z8 Z,λtb H7 s7 tb0 e7=>?_⟩⟩;have S7:zj H2 H7:=s3.trans (s4.trans (s5.trans (s6.trans s7)))
   have hh:H7 l4=some (.lst ((ja nms).map V.str)):=by
    rw[s7 _ _ e6];unfold ja;rw[CJ,CJ];rfl
   have hT:H2 tb=none:=(s3.trans (s4.trans (s5.trans s6))).free tb0;have h0T:H tb=none:=S2.free hT;refine⟨z8 Z,λz1 H8 s8 z10 e8=>⟨_,Z,sl,_,Z,.inl (zL.of (s8 _ _ (S7 _ _ e2))),_,_,Z,Z,z1,_,_,Z,Z,e8,by rw[Cw];lia,by rw[Cw];lia,?_,λttl H9 s9 t90 e9=>?_⟩⟩
   ·rw[Cw,ah];show 1*_<=_;lia
   have S9:zj H7 H9:=s8.trans s9
   have e9':H9 ttl=some (.lst ((kH (sts.take 0) nms).map V.int)):=by
    rw[e9,SU,lA,show(((nms.map V.str).length:Nat)+2:Int).toNat=nms.length+2 by rw[Cw];lia]
   have SS:zj H H9:=S2.trans (S7.trans S9);have T9:=T.kt (KT.same SS);have e79:=S9 _ _ e7;have g2:=S9 _ _ (S7 _ _ e2);have sltb:sl≠tb:=zo e2 hT
   refine⟨_,Z,l,Z,⟨_,zL.of (SS _ _ hl)⟩,uI (K:=K) (a:=l) (xs:=ys) (λi σ H'=>∃x5 x6 x7 x8 x9 ttl Ψ,σ=[some (.ref l),some (.ref sl),x2,some (.ref tb),some (.ref ttl),x5,x6,x7,x8,x9]/\ttl≠tb/\H' ttl=some (.lst ((kH (sts.take i) nms).map V.int))/\H' tb=some (.lst Ψ)/\qG H' Ψ ([ja nms]++(sts.take i).map (λs=>jE (q9 s.m) s.b s.ds s.n nms))/\∀b o,H9 b=some o->b≠tb->H' b=some o)
    ⟨_,_,_,_,_,ttl,_,Z,?ttb,e9',e79,⟨Z,λi r e=>?_⟩,λb o h _=>h⟩ (λi σ H' _ z=>?_) ?_ ?_⟩
   ·exact(zo (s8 _ _ e7) t90).symm
   ·cases i with
    |zero=>
     cases e;exact⟨l4,Z,S9 _ _ hh⟩
    |succ i=>cases e
   ·obtain⟨_,_,_,_,_,_,_,_,_,_,_,_,fr⟩:=z;exact zL.of (fr _ _ (SS _ _ hl) (zo hl h0T))
   ·rintro i v σ H' hv ⟨x5,x6,x7,x8,x9,ttl,Ψ,rfl,tne,gtt,gt,LT,fr⟩ E0' kk;obtain⟨x,hx,a,d,rfl,h1,its,nn',ts,h2,h3⟩:=T9.at_ i v hv;have il:i<sts.length:=(CV.mp hx).1;have tk:sts.take (i+1)=sts.take i++[x]:=by rw[dS,hx];rfl
    have ox:=O.each x (dv hx);have h1':=fr _ _ h1 (jH h1 e79 (by intro z;cases z));have h2':=fr _ _ h2 (jH h2 e79 (by intro z;cases z));have h3':z4 H' ts (x.ds.map cP):=h3.mono λb c h=>fr _ _ h (jH h e79 (by intro z;cases z));have g2':=fr _ _ g2 sltb;have tl:Ψ.length=1+(sts.take i).length:=by rw[LT.len,CA,Cw];rfl
    have nz:nms.length<ar:=by rw[ah];lia
    refine⟨a,_,Z,yT.of h1',Z,_,_,Z,_,_,Z,_,_,Z,_,_,Z,Z,?_⟩;refine⟨_,Z,z8 Z,λr1 Ha sa ra0 ea=>⟨_,Z,sl,Z,⟨_,zL.of (sa _ _ g2')⟩,λD hD=>ym (qd (zL.of (sa _ _ g2'))) (yE nms) hD nz (λz=>Wn (yP x.ds z)) (λz hz v Hb R sb eb r=>?_) (λHb sb eb=>?_)⟩⟩
    ·subst eb;refine⟨_,Z,d,ts,x.ds,Z,⟨its,nn',sb _ _ (sa _ _ h2')⟩,(h3'.same sa).same sb,ND x (dv hx),λdd Hc sc nc ec=>⟨dd,Z,.inl ⟨_,.inl ec⟩,_,Z,_,xa.k (k:=iy z) ec,?_⟩⟩;have:=r Hc sc;unfold Wn at this;rw[<- Yo]at this;exact this
    refine⟨r1,D,_,_,Z,Z,sb _ _ ea,eb,by rw[Cw,ah];show 1+_<=_;lia,λr2 Hc sc rc0 ec=>⟨_,Z,z8 Z,λr3 Hd sd rd0 ed=>⟨r2,r3,_,_,Z,Z,sd _ _ ec,ed,by rw[CA,Cw,ah];show 1+_+1<=_;lia,λrw' He se re0 ee=>?_⟩⟩⟩
    have ee':He rw'=some (.lst ((Q3 x nms).map Wn)):=by
     rw[ee];unfold Q3;rw[CJ,CJ,dh];rfl
    have SE:zj H' He:=sa.trans (sb.trans (sc.trans (sd.trans se)));have zl:((kH (sts.take i) nms).map V.int).length=((Q3 x nms).map Wn).length:=by rw[Cw,Cw,ZC,Jg]
    refine⟨_,Z,_,Z,ttl,rw',Z,⟨_,zL.of (SE _ _ gtt)⟩,⟨_,zL.of ee'⟩,λD2 hD2=>W9 (zL.of (SE _ _ gtt)) (zL.of ee') hD2 (by rw[Cw,ZC,ah];lia) zl (λx y=>.int (TN x+TN y)) (λj u y hu' hy Hf R sf rf=>?_) (λHf sf ef=>?_)⟩
    ·rw[CI]at hu' hy;obtain⟨u,_,rfl⟩:=CS.mp hu';obtain⟨o,_,rfl⟩:=CS.mp hy;refine⟨_,Z,_,Z,?_⟩
     cases o with
     |none=>exact .inl ⟨Z,_,_,Z,Z,rf _ (zj.refl _)⟩
     |some o=>
      refine .inr ⟨o,Z,λ_=>⟨_,_,Z,Z,rf _ (zj.refl _)⟩,λe0=>⟨_,_,Z,Z,?_⟩⟩;subst e0;exact rf _ (zj.refl _)
    rw[Lk,<- Oz,<- tk]at ef;have SF:=SE.trans sf;refine⟨_,Z,.inl ⟨Z,_,zL.of (SF _ _ gt)⟩,_,Z,x.m,Z,ox.m0,ox.m1,z8 Z,λm1 Hg sg mg0 eg=>⟨_,Z,rw',Z,⟨_,zL.of (sg _ _ (sf _ _ ee'))⟩,λD3 hD3=>ym (qd (zL.of (sg _ _ (sf _ _ ee')))) (Oe (Q3 x nms)) hD3 (by rw[Jg,ah];lia) (λo=>.str (TV o)) (λo ho v Hh R sh eh r=>?_) (λHh sh eh=>?_)⟩⟩
    ·subst eh;refine⟨_,Z,Z,_,Z,?_⟩
     cases o with
     |none=>exact yo (λ_=>r _ (zj.refl _)) (λe=>M' (i' Z) e)
     |some o=>exact yo (λe=>nomatch (show V.int o=V.non from B' e)) (λ_=>⟨_,Z,o,Z,PN ox _ ho o Z,r _ (zj.refl _)⟩)
    have SH:zj H' Hh:=SF.trans (sg.trans sh);refine⟨m1,D3,_,_,Z,Z,sh _ _ eg,eh,by rw[Cw,Jg,ah];show 1+_<=_;lia,λrr Hi si ri0 ei=>?_⟩;have SI:zj H' Hi:=SH.trans si;have rrt:rr≠tb:=(zo (SH _ _ gt) ri0).symm;have dt:D2≠tb:=(zo (SE _ _ gt) hD2).symm;refine⟨tb,Ψ,_,Z,Z,SI _ _ gt,by rw[tl,CQ,ah];lia,?_⟩;refine kk _ _ ⟨_,_,_,_,_,D2,_,Z,dt,?_,zt,?_,λb o hb nb=>?_⟩
    ·rw[zx dt];exact si _ _ (sh _ _ (sg _ _ ef))
    ·rw[tk,CJ,<- dc];refine qG.snoc ((LT.same SI).put (SI _ _ gt)) ?_;have er:=nK (q9 x.m) x nms;rw[zx rrt,ei];show _=some (HO.lst ((jE (q9 x.m) x.b x.ds x.n nms).map V.str));rw[er,CJ,dh];rfl
    ·rw[zx nb];exact SI _ _ (fr _ _ hb nb)
   ·rintro σ H' ⟨x5,x6,x7,x8,x9,ttl,Ψ,rfl,tne,gtt,gt,LT,fr⟩;rw[T.len,dM]at LT gtt;have tl:Ψ.length=1+sts.length:=by rw[LT.len,CA,Cw];rfl
    refine⟨_,Z,.inl ⟨Z,_,zL.of gt⟩,z8 Z,λm1 Hg sg mg0 eg=>⟨_,Z,ttl,Z,⟨_,zL.of (sg _ _ gtt)⟩,λD3 hD3=>ym (qd (zL.of (sg _ _ gtt))) (pT (kH sts nms)) hD3 (by rw[ZC,ah];lia) (λo=>.str (qW o)) (λo ho v Hh R sh eh r=>?_) (λHh sh eh=>?_)⟩⟩
    ·subst eh;exact⟨_,Z,o,Z,lV O few _ ho,r _ (zj.refl _)⟩
    refine⟨m1,D3,_,_,Z,Z,sh _ _ eg,eh,by rw[Cw,ZC,ah];show 1+_<=_;lia,λrr Hi si ri0 ei=>?_⟩;have SI:zj H' Hi:=sg.trans (sh.trans si);have rrt:rr≠tb:=(zo ((sg.trans sh) _ _ gt) ri0).symm;have pq:=XW nn nmem;have TO:=xX O pq
    have LT2:qG (upd Hi tb (.lst (Ψ++[.ref rr]))) (Ψ++[.ref rr]) (qZ sts (j3 sts nms)):=by
     unfold qZ;rw[YD,LD ND];refine qG.snoc ((LT.same SI).put (SI _ _ gt)) ?_;rw[zx rrt,ei,CJ,dh];rfl
    refine⟨tb,Ψ,_,Z,Z,SI _ _ gt,by rw[tl,ah];lia,?_⟩;refine⟨Z,_,Z,tb,_,qZ sts (j3 sts nms),(j3 sts nms).length+3,Z,zt,LT2,TO,λr2 Hk sk r20 ek=>?_⟩;refine⟨_,jM (qZ sts (j3 sts nms)) ((j3 sts nms).length+3),r2,Z,Z,zL.of ek,Vo TO,q (j3 sts nms) Hk pq ?_ λb o hb=>sk _ _ ?_⟩
    ·unfold lQ j3;exact Eg.mpr so
    ·rw[zx (zo hb h0T)];exact SI _ _ (fr _ _ (SS _ _ hb) (zo hb h0T))
end
end K27
namespace Pg
open PySem PySem.NumText L2 Builtin Builtin.Str
end Pg
namespace Pg
open PySem L2
def uO (c:Nat):List Nat->List (List Nat)
 |[]=>[[]]
 |a::l=>if a=c then []::uO c l else match uO c l with|[]=>[[a]] |h::t=>(a::h)::t
section
theorem yQ (l:List Nat):∃h t,uO c l=h::t:=by
 cases l with
 |nil=>exact⟨_,_,Z⟩
 |cons a l=>
  show ∃h t,(if a=c then []::uO c l else match uO c l with|[]=>[[a]] |h::t=>(a::h)::t)=h::t;split
  ·exact⟨_,_,Z⟩
  ·split<;>exact⟨_,_,Z⟩
theorem ug (l:List Nat):uO c (c::l)=[]::uO c l:=L' rfl
theorem v3 {a:Nat}{h:List Nat}{t:List (List Nat)}(n:a≠c)(e:uO c l=h::t):uO c (a::l)=(a::h)::t:=by
 show(if a=c then _ else _)=_;rw[K' n,e]
theorem wC:∀{l h:List Nat} {t:List (List Nat)},uO c l=h::t->l=h++(t.map (c :: ·)).flatten/\¬c∈h/\∀v∈t,¬c∈v:=by
 intro l
 induction l with
 |nil=>
  intro h t e;cases e;exact⟨Z,(λm=>nomatch m),λv m=>nomatch m⟩
 |cons a l ih=>
  intro h t e;obtain⟨h',t',e'⟩:=yQ (c:=c) l;obtain⟨h1,h2,h3⟩:=ih e'
  by_cases n:a=c
  ·subst n;rw[ug,e']at e;cases e;refine⟨by rw[h1];rfl,(λm=>nomatch m),λv m=>?_⟩;rcases CF.mp m with rfl |m
   ·exact h2
   ·exact h3 v m
  ·rw[v3 n e']at e;cases e;refine⟨by rw[Dw,<- h1],λm=>?_,h3⟩;rcases CF.mp m with m |m
   ·exact n m.symm
   ·exact h2 m
theorem VR:∀{w:List Nat},¬c∈w->∀{l h:List Nat} {t:List (List Nat)},uO c l=h::t->uO c (w++l)=(w++h)::t:=by
 intro w
 induction w with
 |nil=>intro _ l h t e;exact e
 |cons a w ih=>
  intro n l h t e;exact v3 (λq=>n (by rw[q];exact CG)) (ih (λm=>n (CK _ m)) e)
theorem Zo {w:List Nat}(n:¬c∈w):uO c w=[w]:=by
 have:=VR n (l:=[]) (h:=[]) (t:=[]) rfl;rw[dy]at this;exact this
theorem Wf:∀{rest:List (List Nat)} {w:List Nat},¬c∈w->(∀v∈rest,¬c∈v)->uO c (w++(rest.map (c :: ·)).flatten)=w::rest:=by
 intro rest
 induction rest with
 |nil=>
  intro w n _;rw[DD,eF,dy];exact Zo n
 |cons v r ih=>
  intro w n h;rw[CO,dQ]
  have:=VR n (l:=c::v++(r.map (c :: ·)).flatten) (h:=[]) (t:=v::r) (by
   rw[Dw,ug,ih (h v CG) λu hu=>h u (CK _ hu)])
  rw[dy]at this;exact this
theorem Ul:∀{a b h h':List Nat} {t t':List (List Nat)},uO c a=h::t->uO c b=h'::t'->(t=[]/\uO c (a++b)=(h++h')::t')∨∃u m,t=u++[m]/\uO c (a++b)=h::(u++(m++h')::t'):=by
 intro a
 induction a with
 |nil=>
  intro b h h' t t' e1 e2;cases e1;exact .inl ⟨Z,e2⟩
 |cons x a ih=>
  intro b h h' t t' e1 e2;obtain⟨g,s,e⟩:=yQ (c:=c) a
  by_cases n:x=c
  ·subst n;rw[ug,e]at e1;cases e1;refine .inr ?_;rcases ih e e2 with⟨rfl,q⟩ |⟨u,m,rfl,q⟩
   ·exact⟨[],g,Z,by rw[Dw,ug,q];rfl⟩
   ·exact⟨g::u,m,Z,by rw[Dw,ug,q];rfl⟩
  ·rw[v3 n e]at e1;cases e1;rcases ih e e2 with⟨rfl,q⟩ |⟨u,m,rfl,q⟩
   ·exact .inl ⟨Z,v3 n q⟩
   ·exact .inr ⟨u,m,Z,v3 n q⟩
end
theorem QI (z:af)(hk:z_ (⟨#[c]⟩:af)=1):(aW z ⟨#[c]⟩).map (λz=>z.cps.toList)=uO c z.cps.toList:=by
 obtain⟨h,t,e⟩:=yQ (c:=c) z.cps.toList;obtain⟨h1,h2,h3⟩:=wC e
 have em:(t.map λv=>(⟨v.toArray⟩:af)).map (λp=>p.cps.toList)=t:=by
  rw[dh];exact K5 t
 by_cases n:1<=z.length
 ·have ez:z=aF ⟨#[c]⟩ (⟨h.toArray⟩::t.map λv=>⟨v.toArray⟩):=by
   refine jd ?_;rw[j7,em];exact h1
  have:=gQ (c:=c) (w:=⟨h.toArray⟩) (ws:=t.map λv=>⟨v.toArray⟩) hk h2 (λv hv=>by
   obtain⟨u,hu,rfl⟩:=CB.mp hv;exact h3 u hu) (by rw[<- ez];exact n)
  rw[<- ez]at this;rw[this.1,e,CO,em]
 ·have e0:z.cps.toList=[]:=Dd.mp (by rw[<- zq];lia)
  have:aW z ⟨#[c]⟩=[z]:=by
   unfold aW;rw[L'];rw[fB];exact .inl (i' (by show z.length<1;lia))
  rw[this,e0];show [z.cps.toList]=[[]];rw[e0]
def My (l:List Nat):Bool:=!l.isEmpty
def rB (l:List Nat):List (List Nat):=(uO 32 l).filter My
def wc:Nat->List Nat->Nat
 |_,[]=>0
 |p,x::l=>if x=32 then wc 1 l else p+wc 0 l
theorem Ts:∀(l:List Nat) {h:List Nat} {t:List (List Nat)},uO 32 l=h::t->wc 1 l=((h::t).filter My).length/\wc 0 l=(t.filter My).length:=by
 intro l
 induction l with
 |nil=>intro h t e;cases e;exact⟨Z,Z⟩
 |cons x l ih=>
  intro h t e;obtain⟨g,s,e'⟩:=yQ (c:=32) l;obtain⟨i1,i2⟩:=ih e'
  by_cases n:x=32
  ·subst n;rw[ug,e']at e;cases e;have a1:wc 1 (32::l)=wc 1 l:=L' rfl;have a2:wc 0 (32::l)=wc 1 l:=L' rfl;rw[a1,a2,i1];exact⟨Z,Z⟩
  ·rw[v3 n e']at e;cases e;have a1:wc 1 (x::l)=1+wc 0 l:=K' n;have a2:wc 0 (x::l)=0+wc 0 l:=K' n;rw[a1,a2,i2,DQ];refine⟨?_,Z⟩;rw[eG Z,CY,Ks]
theorem Wt (l:List Nat):wc 1 l=(rB l).length:=by
 obtain⟨h,t,e⟩:=yQ (c:=32) l;unfold rB;rw[e];exact(Ts l e).1
theorem rD {p:Nat}(hp:p<=1)(l:List Nat):wc 0 l<=wc p l/\wc p l<=wc 0 l+p:=by
 cases l with
 |nil=>exact⟨Cz _,CP _⟩
 |cons x l=>
  show(if x=32 then _ else _)<=(if x=32 then _ else _)/\_<=(if x=32 then _ else _)+p;show(if x=32 then wc 1 l else 0+wc 0 l)<=(if x=32 then wc 1 l else p+wc 0 l)/\(if x=32 then wc 1 l else p+wc 0 l)<=(if x=32 then wc 1 l else 0+wc 0 l)+p
  split<;>lia
theorem Tc:∀(a b:List Nat) {p:Nat},p<=1->wc p a<=wc p (a++b)/\wc 1 b<=wc p (a++b)+(if p=1 then 0 else 1)/\wc p (a++b)<=wc p a+wc 1 b:=by
 intro a
 induction a with
 |nil=>
  intro b p hp;have:=rD hp b;have:=rD (Cz 1) b;refine⟨CP _,?_,?_⟩
  ·show wc 1 b<=wc p b+_
   by_cases h:p=1
   ·rw[h];exact De _ _
   ·rw[K' h,show p=0 by lia];lia
  ·show wc p b<=0+wc 1 b
   by_cases h:p=1
   ·rw[h];lia
   ·rw[show p=0 by lia];lia
 |cons x a ih=>
  intro b p hp;show(if x=32 then wc 1 a else p+wc 0 a)<=(if x=32 then wc 1 (a++b) else p+wc 0 (a++b))/\wc 1 b<=(if x=32 then wc 1 (a++b) else p+wc 0 (a++b))+_/\(if x=32 then wc 1 (a++b) else p+wc 0 (a++b))<=(if x=32 then wc 1 a else p+wc 0 a)+wc 1 b;have i1:=ih b (Cz 1);have i0:=ih b (CP 1);rw[L' rfl]at i1;rw[K' (by decide)]at i0;split
  ·exact⟨i1.1,CD i1.2.1 (by lia),i1.2.2⟩
  ·refine⟨by lia,?_,by lia⟩
   by_cases h:p=1
   ·rw[L' h];lia
   ·rw[K' h];lia
def WR (N:Nat)(l:List Nat):Prop:=∀r∈uO 10 l,wc 1 r<=N
theorem WR.le {M:Nat}(h:WR N l)(m:N<=M):WR M l:=λr hr=>CD (h r hr) m
theorem Tx (a b:List Nat):wc 1 a<=wc 1 (a++b)/\wc 1 b<=wc 1 (a++b)/\wc 1 (a++b)<=wc 1 a+wc 1 b:=by
 have:=Tc a b (Cz 1);rw[L' rfl]at this;exact this
theorem WR.left {a b:List Nat}(h:WR N (a++b)):WR N a:=by
 obtain⟨g,t,e⟩:=yQ (c:=10) a;obtain⟨g',t',e'⟩:=yQ (c:=10) b;unfold WR at h ⊢;rw[e];rcases Ul e e' with⟨rfl,q⟩ |⟨u,m,rfl,q⟩
 ·rw[q]at h;intro r hr;rw[du.mp hr];exact CD (Tx g g').1 (h _ CG)
 ·rw[q]at h;intro r hr;rcases CF.mp hr with rfl |hr
  ·exact h _ CG
  ·rcases CU.mp hr with hr |hr
   ·exact h r (CK _ (dX _ hr))
   ·rw[du.mp hr];exact CD (Tx m g').1 (h _ (CK _ (dm _ CG)))
theorem WR.right {a b:List Nat}(h:WR N (a++b)):WR N b:=by
 obtain⟨g,t,e⟩:=yQ (c:=10) a;obtain⟨g',t',e'⟩:=yQ (c:=10) b;unfold WR at h ⊢;rw[e'];rcases Ul e e' with⟨rfl,q⟩ |⟨u,m,rfl,q⟩
 ·rw[q]at h;intro r hr;rcases CF.mp hr with rfl |hr
  ·exact CD (Tx g r).2.1 (h _ CG)
  ·exact h r (CK _ hr)
 ·rw[q]at h;intro r hr;rcases CF.mp hr with rfl |hr
  ·exact CD (Tx m r).2.1 (h _ (CK _ (dm _ CG)))
  ·exact h r (CK _ (dm _ (CK _ hr)))
theorem WR.app {M:Nat}{a b:List Nat}(h:WR N a)(h':WR M b):WR (N+M) (a++b):=by
 obtain⟨g,t,e⟩:=yQ (c:=10) a;obtain⟨g',t',e'⟩:=yQ (c:=10) b;unfold WR at h h' ⊢;rw[e]at h;rw[e']at h';have k:∀x,wc 1 x<=N->wc 1 (x++g')<=N+M:=λx hx=>CD (Tx x g').2.2 (fG hx (h' _ CG));rcases Ul e e' with⟨rfl,q⟩ |⟨u,m,rfl,q⟩
 ·rw[q];intro r hr;rcases CF.mp hr with rfl |hr
  ·exact k g (h _ CG)
  ·exact CD (h' r (CK _ hr)) (fb _ _)
 ·rw[q];intro r hr;rcases CF.mp hr with rfl |hr
  ·exact CD (h _ CG) (De _ _)
  ·rcases CU.mp hr with hr |hr
   ·exact CD (h r (CK _ (dX _ hr))) (De _ _)
   ·rcases CF.mp hr with rfl |hr
    ·exact k m (h _ (CK _ (dm _ CG)))
    ·exact CD (h' r (CK _ hr)) (fb _ _)
theorem kc (l:List Nat):(uO 10 l).length=l.count 10+1:=by
 induction l with
 |nil=>rfl
 |cons x l ih=>
  obtain⟨h,t,e⟩:=yQ (c:=10) l
  by_cases n:x=10
  ·subst n;rw[ug,CY,ih,List.count_cons_self]
  ·rw[v3 n e,List.count_cons_of_ne n,<- ih,e];rfl
def Qj (s:Nat×Nat)(x:Nat):Nat×Nat:=if x=10 then (0,1) else if x=32 then (s.1,1) else (s.1+s.2,0)
def uS (N:Nat):List Nat->Nat×Nat->Prop
 |[],s=>s.1<=N
 |x::l,s=>s.1<=N/\uS N l (Qj s x)
theorem Pf:∀(l:List Nat) {s:Nat×Nat} {h:List Nat} {t:List (List Nat)},uO 10 l=h::t->(uS N l s↔s.1+wc s.2 h<=N/\∀r∈t,wc 1 r<=N):=by
 intro l
 induction l with
 |nil=>
  intro s h t e;cases e;exact⟨λq=>⟨q,λr hr=>nomatch hr⟩,λq=>q.1⟩
 |cons x l ih=>
  intro s h t e;obtain⟨g,u,e'⟩:=yQ (c:=10) l;show s.1<=N/\uS N l (Qj s x)↔_;rw[ih (s:=Qj s x) e']
  by_cases n:x=10
  ·subst n;rw[ug,e']at e;cases e;have w:Qj s 10=(0,1):=L' rfl;rw[w];constructor
   ·rintro ⟨q1,q2,q3⟩;refine⟨q1,λr hr=>?_⟩;rcases CF.mp hr with rfl |hr
    ·have:0+wc 1 r<=N:=q2;lia
    ·exact q3 r hr
   ·rintro ⟨q1,q2⟩;have:=q2 g CG;exact⟨q1,by show 0+wc 1 g<=N;lia,λr hr=>q2 r (CK _ hr)⟩
  ·rw[v3 n e']at e;cases e
   by_cases m:x=32
   ·subst m;have w:Qj s 32=(s.1,1):=rfl;have a:wc s.2 (32::g)=wc 1 g:=L' rfl;rw[w,a];exact⟨λq=>q.2,λq=>⟨CD (De _ _) q.1,q⟩⟩
   ·have w:Qj s x=(s.1+s.2,0):=by unfold Qj;rw[K' n,K' m]
    have a:wc s.2 (x::g)=s.2+wc 0 g:=K' m;rw[w,a,<- Nat.add_assoc];exact⟨λq=>q.2,λq=>⟨by have:=q.1;lia,q⟩⟩
theorem Lm:WR N l↔uS N l (0,1):=by
 obtain⟨h,t,e⟩:=yQ (c:=10) l;rw[Pf l e];unfold WR;rw[e];constructor
 ·intro q;refine⟨?_,λr hr=>q r (CK _ hr)⟩;have:=q h CG;show 0+wc 1 h<=N;lia
 ·rintro ⟨q1,q2⟩ r hr;rcases CF.mp hr with rfl |hr
  ·have:0+wc 1 r<=N:=q1;lia
  ·exact q2 r hr
def Mu (s' s:Nat×Nat):Prop:=s'.1<=s.1/\s'.1+s'.2<=s.1+s.2
theorem WA {s' s:Nat×Nat}(h:Mu s' s)(x:Nat):Mu (Qj s' x) (Qj s x):=by
 unfold Qj;obtain⟨h1,h2⟩:=h
 by_cases n:x=10
 ·rw[L' n,L' n];exact⟨Cz _,Cz _⟩
 ·rw[K' n,K' n]
  by_cases m:x=32
  ·rw[L' m,L' m];exact⟨h1,E6 h1 1⟩
  ·rw[K' m,K' m];exact⟨h2,h2⟩
theorem MP {s' s:Nat×Nat}(h:Mu s' s)(l:List Nat):Mu (l.foldl Qj s') (l.foldl Qj s):=by
 induction l generalizing s s' with
 |nil=>exact h
 |cons x l ih=>exact ih (WA h x)
theorem Uk:∀{l:List Nat} {s' s:Nat×Nat},Mu s' s->uS N l s->uS N l s':=by
 intro l
 induction l with
 |nil=>intro s' s h q;exact CD h.1 q
 |cons x l ih=>intro s' s h q;exact⟨CD h.1 q.1,ih (WA h x) q.2⟩
theorem Wu:∀{a b:List Nat} {s:Nat×Nat},uS N (a++b) s↔uS N a s/\uS N b (a.foldl Qj s):=by
 intro a
 induction a with
 |nil=>
  intro b s;refine⟨λq=>⟨?_,q⟩,λq=>q.2⟩;show s.1<=N
  cases b with
  |nil=>exact q
  |cons x b=>exact q.1
 |cons x a ih=>
  intro b s;show s.1<=N/\uS N (a++b) (Qj s x)↔(s.1<=N/\uS N a (Qj s x))/\_;rw[ih];exact⟨λq=>⟨⟨q.1,q.2.1⟩,q.2.2⟩,λq=>⟨q.1.1,q.1.2,q.2⟩⟩
def ko (o:List Nat)(h:List Nat)(t:List (List Nat)):List Nat:=h++(t.map (o ++ ·)).flatten
theorem mU {o n:List Nat}(ho:∀s s',Mu s' s->Mu (n.foldl Qj s') (o.foldl Qj s))(hn:∀s,uS N o s->uS N n s):∀{t:List (List Nat)} {h:List Nat} {s s':Nat×Nat},Mu s' s->uS N (ko o h t) s->uS N (ko n h t) s':=by
 intro t
 induction t with
 |nil=>
  intro h s s' w q;exact Uk w q
 |cons v r ih=>
  intro h s s' w q
  have e:∀x:List Nat,ko x h (v::r)=h++(x++ko x v r):=λx=>by
   unfold ko;rw[CO,dQ,dc]
  rw[e]at q ⊢;rw[Wu,Wu]at q ⊢;have w1:=MP w h;exact⟨Uk w q.1,Uk w1 (hn _ q.2.1),ih (ho _ _ w1) q.2.2⟩
open PySem.NumText
def VX (a:Int):Prop:=-10000000000000000000000000000<a/\a<100000000000000000000000000000
def yt (n:Nat):List Nat:=dg (n/100)++([46]++qK 2 (dg (n%100)))
theorem kM (n:Nat):(yt n).length=(dg (n/100)).length+3/\wh (yt n)=dg (n/100)/\kF (yt n)=qK 2 (dg (n%100))/\Jl (yt n)=true/\wm (yt n)=(n:Nat)/\(yt n).head?≠some 45:=by
 have l2:(qK 2 (dg (n%100))).length=2:=ji (qj (by decide) (by lia))
 have el:(yt n).length=(dg (n/100)).length+3:=by
  unfold yt;rw[CA,CA,l2];rfl
 have hw:wh (yt n)=dg (n/100):=by
  unfold wh;rw[el,Ey];exact fM
 have h2:kF (yt n)=qK 2 (dg (n%100)):=by
  unfold kF;rw[el];unfold yt;rw[<- dc];exact List.drop_left' (by rw[CA];rfl)
 have hp:(yt n)[(yt n).length-3]?=some 46:=by
  rw[el,Ey];unfold yt;rw[dk (Cz _),eP];rfl
 refine⟨el,hw,h2,?_,?_,?_⟩
 ·unfold Jl;rw[hw,h2,hp,RH,Uv];rfl
 ·unfold wm;rw[hw,h2,N9,gb];lia
 ·obtain⟨c,r,ed,c0,c1⟩:=MQ (n/100);unfold yt;rw[ed];intro z;have:c=45:=ai z;lia
theorem Jb {a:Int}(h:a<0):(qW a).cps.toList=45::yt (-a).toNat:=by
 have e:yB a = -a:=by unfold yB;rw[L' h]
 have es:(uo a).cps.toList=[45]:=by unfold uo;rw[L' h];decide+kernel
 rw[vI,e,es];rfl
theorem uJ {a:Int}(h:VX a):qI (qW a).cps.toList=some a:=by
 obtain⟨t1,t2⟩:=h
 by_cases c:0<=a
 ·obtain⟨el,_,_,ok,va,hh⟩:=kM a.toNat;have e:(qW a).cps.toList=yt a.toNat:=Ux c;have lh:(dg (a.toNat/100)).length<=27:=qj (by decide) (by lia);have hu:wa (yt a.toNat)=yt a.toNat:=by unfold wa;rw[K' hh]
  rw[e];unfold qI;rw[L' ⟨by lia,by rw[hu];exact ok,λz=>hh (by rw[z];rfl)⟩,K' hh,hu,va];exact G' some (by lia)
 ·have c:a<0:=by lia
  obtain⟨el,_,_,ok,va,hh⟩:=kM (-a).toNat;have lh:(dg ((-a).toNat/100)).length<=26:=qj (by decide) (by lia);have h45:(45::yt (-a).toNat).head?=some 45:=rfl;have hu:wa (45::yt (-a).toNat)=yt (-a).toNat:=by unfold wa;rw[L' h45];rfl
  have nz:45::yt (-a).toNat≠QP:=λz=>by
   have z:yt (-a).toNat=[48,46,48,48]:=(aT z).2;rw[z]at va;have:wm [48,46,48,48]=0:=by decide+kernel
   lia
  rw[Jb c];unfold qI;rw[L' ⟨by rw[CY];lia,by rw[hu];exact ok,nz⟩,L' h45,hu,va];exact G' some (by lia)
theorem Gp {a:Int}:(qW a).cps.toList≠[45]/\(qW a).cps.toList≠[]:=by
 have k:∀n,3<=(yt n).length:=λn=>by rw[(kM n).1];lia
 by_cases c:0<=a
 ·rw[show(qW a).cps.toList=yt a.toNat from Ux c];have:=k a.toNat;exact⟨λz=>by rw[z]at this;exact M' this (by decide),λz=>by rw[z]at this;exact M' this (by decide)⟩
 ·rw[Jb (by lia)];have:=k (-a).toNat;refine⟨λz=>?_,λz=>by cases z⟩;have z:=(aT z).2;rw[z]at this;exact M' this (by decide)
def cp (c:Nat):Prop:=c=45∨c=46∨(48<=c/\c<=57)
theorem Y3 (n:Nat):∀c∈yt n,cp c:=λc hc=>by
 unfold yt at hc;rcases CU.mp hc with h |h
 ·exact .inr (.inr (yq _ c h))
 ·rcases CU.mp h with h |h
  ·exact .inr (.inl (du.mp h))
  ·exact .inr (.inr (jv (yq _) c h))
theorem Gb (a:Int):∀c∈(qW a).cps.toList,cp c:=λx hx=>by
 by_cases c:0<=a
 ·rw[show(qW a).cps.toList=yt a.toNat from Ux c]at hx;exact Y3 _ x hx
 ·rw[Jb (by lia)]at hx;rcases CF.mp hx with rfl |hx
  ·exact .inl rfl
  ·exact Y3 _ x hx
theorem oQ {a:Int}(h:qI l=some a):l.length<=30/\Jl (wa l)=true/\a=(if l.head?=some 45 then -(wm (wa l)) else wm (wa l)):=by
 unfold qI at h
 split at h
 ·rename_i c;exact⟨c.1,c.2.1,(ai h).symm⟩
 ·cases h
theorem JO {u:List Nat}(h:Jl u=true):c_ (wh u)/\c_ (kF u):=by
 unfold Jl at h;rw[CW,CW]at h;obtain⟨h1,_,h2⟩:=h;unfold wU at h1;rw[CW]at h1;exact⟨(ya h1.1).1,(ya h2).1⟩
theorem VW {u:List Nat}(h:Jl u=true){k:Nat}(hk:(wh u).length<=k):0<=wm u/\wm u<(10 ^ k:Nat)*100:=by
 obtain⟨h1,h2⟩:=JO h;have a1:=PV h1;have a2:=PV h2;have l2:(kF u).length<=2:=by unfold kF;rw[dB];omega
 have p1:10 ^ (wh u).length<=10 ^ k:=fS (by decide) hk;have p2:10 ^ (kF u).length<=10 ^ 2:=fS (by decide) l2;unfold wm;omega
theorem Nv (l:List Nat):(wa l).length<=l.length/\(l.head?=some 45->(wa l).length+1=l.length):=by
 unfold wa
 cases l with
 |nil=>exact⟨Cz _,λz=>by cases z⟩
 |cons a l=>
  split
  ·exact⟨Do _,λ_=>rfl⟩
  ·rename_i n;exact⟨Cz _,λz=>M' z n⟩
theorem ZD {a:Int}(h:qI l=some a):VX a:=by
 obtain⟨l30,ok,e⟩:=oQ h;have wl:(wh (wa l)).length=(wa l).length-3:=by unfold wh;rw[CQ];lia
 have ul:=Nv l;unfold VX
 split at e
 ·rename_i c;have:=ul.2 c;have v:=VW ok (k:=26) (by lia);lia
 ·have v:=VW ok (k:=27) (by lia);lia
def DR (N:Nat)(l:List Nat):Prop:=∀u d v:List Nat,l=u++d++v->c_ d->d.length<=N
theorem DR.infix {u m v:List Nat}(h:DR N l)(e:l=u++m++v):DR N m:=λx d y e' hd=>h (u++x) d (y++v) (by rw[e,e'];simp only[dc]) hd
theorem DR.le {M:Nat}(h:DR N l)(m:N<=M):DR M l:=λu d v e hd=>CD (h u d v e hd) m
theorem X0 {a:Int}(h:qI l=some a)(dr:DR 24 l):-100000000000000000000000000<a/\a<100000000000000000000000000:=by
 obtain⟨l30,ok,e⟩:=oQ h
 have w:(wh (wa l)).length<=24:=by
  obtain⟨u,eu⟩:∃u,l=u++wa l:=by
   unfold wa
   cases l with
   |nil=>exact⟨[],Z⟩
   |cons x l=>
    split
    ·exact⟨[x],Z⟩
    ·exact⟨[],Z⟩
  refine dr u (wh (wa l)) ((wa l).drop ((wa l).length-3)) ?_ (JO ok).1;unfold wh;rw[dc,DE];exact eu
 have v:=VW ok w
 split at e<;>omega
def EE (N:Nat)(l:List Nat):Prop:=∀(u d1:List Nat) (x:Nat) (d2 v:List Nat),l=u++(d1++x::(d2++v))->c_ d1->c_ d2->d1.length+d2.length<=N
theorem EE.dr (h:EE N l):DR (N+1) l:=λu d v e hd=>by
 cases d with
 |nil=>exact CP _
 |cons x d=>
  have:=h u [] x d v (by rw[e];simp) (λc m=>nomatch m) λc m=>hd c (CK _ m);rw[DY]at this;rw[CY];lia
theorem vm:∀{a b u v:List α},a++b=u++v->(∃t,u=a++t/\b=t++v)∨∃t,a=u++t/\v=t++b:=by
 intro a b u v h;rcases List.append_eq_append_iff.mp h with⟨t,h1,h2⟩ |⟨t,h1,h2⟩
 ·exact .inl ⟨t,h1,h2⟩
 ·exact .inr ⟨t,h1,h2⟩
theorem EE.bent {a m b:List Nat}{o:List Nat}(h:EE N (a++(o++b)))(ho:o.length<=1)(hm:m.length<=1):DR (N+2) (a++(m++b)):=λu d v e hd=>by
 have hsub:∀{x y:List Nat},(∀c∈x,c∈y)->c_ y->c_ x:=λs hy c hc=>hy c (s c hc)
 have key:∀(s p r t:List Nat),a=r++s->b=p++t->c_ s->c_ p->s.length+p.length<=N+1:=λs p r t e1 e2 h1 h2=>by
  cases o with
  |nil=>
   have hsp:c_ (s++p):=λc hc=>by
    rcases CU.mp hc with m |m
    ·exact h1 c m
    ·exact h2 c m
   have:=h.dr r (s++p) t (by rw[e1,e2];simp) hsp;rw[CA]at this;exact this
  |cons x o=>
   have e0:o=[]:=Dd.mp (by rw[CY]at ho;lia);subst e0;exact EH (h r s x p t (by rw[e1,e2];simp) h1 h2)
 have inA:∀(p s r:List Nat),a=r++(s++p)->c_ s->s.length<=N+1:=λp s r e1 h1=>h.dr r s (p++(o++b)) (by rw[e1];simp) h1;have inB:∀(r p t:List Nat),b=r++(p++t)->c_ p->p.length<=N+1:=λr p t e1 h1=>h.dr (a++(o++r)) p t (by rw[e1];simp) h1;rw[dc]at e;rcases vm e with⟨t,e1,e2⟩ |⟨t,e1,e2⟩
 ·rcases vm e2 with⟨t2,e3,e4⟩ |⟨t2,e3,e4⟩
  ·exact EH (inB t2 d v e4 hd)
  ·rcases vm e4.symm with⟨t3,e5,e6⟩ |⟨t3,e5,e6⟩
   ·have l2:t2.length<=1:=by rw[e3,CA]at hm;lia
    have:=inB [] t3 v e6 (hsub (λc hc=>by rw[e5];exact dm _ hc) hd);rw[e5,CA];lia
   ·have l2:d.length<=1:=by rw[e3,e5,CA,CA]at hm;lia
    lia
 ·rcases vm e2.symm with⟨t2,e3,e4⟩ |⟨t2,e3,e4⟩
  ·have ht:c_ t:=hsub (λc hc=>by rw[e3];exact dX _ hc) hd;have ht2:c_ t2:=hsub (λc hc=>by rw[e3];exact dm _ hc) hd;rcases vm e4 with⟨t3,e5,e6⟩ |⟨t3,e5,e6⟩
   ·have:=key t t3 u v e1 e6 ht (hsub (λc hc=>by rw[e5];exact dm _ hc) ht2);rw[e3,e5,CA,CA];lia
   ·have:=inA [] t u (by rw[e1,dy]) ht;have l2:t2.length<=1:=by rw[e5,CA]at hm;lia
    rw[e3,CA];lia
  ·exact EH (inA t2 d u (by rw[e1,e3]) hd)
def wo (s:Nat×Nat)(x:Nat):Nat×Nat:=if vd x=true then (s.1+1,s.2) else (0,s.1)
def Z4 (N:Nat):List Nat->Nat×Nat->Prop
 |[],s=>s.1+s.2<=N
 |x::l,s=>s.1+s.2<=N/\Z4 N l (wo s x)
theorem jF:∀{a b:List Nat} {s:Nat×Nat},Z4 N (a++b) s↔Z4 N a s/\Z4 N b (a.foldl wo s):=by
 intro a
 induction a with
 |nil=>
  intro b s;refine⟨λq=>⟨?_,q⟩,λq=>q.2⟩;show s.1+s.2<=N
  cases b with
  |nil=>exact q
  |cons x b=>exact q.1
 |cons x a ih=>
  intro b s;show s.1+s.2<=N/\Z4 N (a++b) (wo s x)↔(s.1+s.2<=N/\Z4 N a (wo s x))/\_;rw[ih];exact⟨λq=>⟨⟨q.1,q.2.1⟩,q.2.2⟩,λq=>⟨q.1.1,q.1.2,q.2⟩⟩
theorem UA (h:48<=c/\c<=57):vd c=true:=by
 unfold vd;rw[i' h.1,i' h.2];rfl
theorem uR:∀{d:List Nat} {s:Nat×Nat},c_ d->d.foldl wo s=(s.1+d.length,s.2):=by
 intro d
 induction d with
 |nil=>intro s _;rfl
 |cons x d ih=>
  intro s h;rw[dU,ih λc hc=>h c (CK _ hc)];unfold wo;rw[L' (UA (h x CG)),CY]
  congr 1
  show s.1+1+_=_;lia
theorem ZJ {s:Nat×Nat}(h:Z4 N l s):(l.foldl wo s).1+(l.foldl wo s).2<=N:=by
 induction l generalizing s with
 |nil=>exact h
 |cons x l ih=>exact ih h.2
theorem nh (h:Z4 N l (0,0)):EE N l:=λu d1 x d2 v e h1 h2=>by
 rw[e,jF,jF]at h;obtain⟨_,_,q⟩:=h;have q:=q.2;rw[jF]at q;have q:=ZJ q.1;rw[uR h1,uR h2]at q;unfold wo at q
 split at q
 ·have:(u.foldl wo (0,0)).1+d1.length+1+d2.length+(u.foldl wo (0,0)).2<=N:=q;lia
 ·have:0+d2.length+((u.foldl wo (0,0)).1+d1.length)<=N:=q;lia
def Mr (l:List Nat):Prop:=∀x∈l,vd x=false
def wA (c:List Nat):Prop:=Mr c∨∃s d x e,c=s++(d++x::e)/\Mr s/\c_ d/\d.length<=18/\vd x=false/\c_ e/\e.length<=2
theorem ZQ:∀{l:List Nat} {s:Nat×Nat},Mr l->s.1+s.2<=N->s.1<=2->Z4 N l s/\(l.foldl wo s).1<=s.1/\(l≠[]->(l.foldl wo s).1=0)/\((l.foldl wo s).2<=s.2∨(l.foldl wo s).2<=2):=by
 intro l
 induction l with
 |nil=>intro s _ h _;exact⟨h,Cz _,λq=>M' Z q,.inl (Cz _)⟩
 |cons x l ih=>
  intro s hn h h2;have e:wo s x=(0,s.1):=by unfold wo;rw[hn x CG];rfl
  obtain⟨i1,i2,i3,i4⟩:=ih (s:=wo s x) (λy hy=>hn y (CK _ hy)) (by rw[e];show 0+s.1<=N;lia) (by rw[e];exact CP _);rw[e]at i1 i2 i3 i4;have z:(l.foldl wo (0,s.1)).1=0:=Nat.le_zero.mp i2;refine⟨⟨h,by rw[e];exact i1⟩,?_,λ_=>?_,?_⟩
  ·rw[dU,e,z];exact CP _
  ·rw[dU,e];exact z
  ·rw[dU,e];refine .inr ?_;rcases i4 with q |q
   ·exact CD q h2
   ·exact q
theorem QW:∀{d:List Nat} {s:Nat×Nat},c_ d->s.1+d.length+s.2<=N->Z4 N d s:=by
 intro d
 induction d with
 |nil=>intro s _ h;exact h
 |cons x d ih=>
  intro s hd h;rw[CY]at h;refine⟨by lia,ih (λc hc=>hd c (CK _ hc)) ?_⟩;unfold wo;rw[L' (UA (hd x CG))];show s.1+1+d.length+s.2<=N;lia
theorem JD {c:List Nat}(h:wA c){s:Nat×Nat}(h0:s.1=0)(h2:s.2<=2):Z4 20 c s/\(c.foldl wo s).1<=2:=by
 rcases h with h |⟨a,d,x,e,rfl,ha,hd,ld,hx,he,le⟩
 ·obtain⟨i1,i2,_,_⟩:=ZQ (N:=20) h (s:=s) (by lia) (by lia);exact⟨i1,by lia⟩
 ·obtain⟨i1,i2,_,i4⟩:=ZQ (N:=20) ha (s:=s) (by lia) (by lia);have j1:(a.foldl wo s).1=0:=by lia
  have j2:(a.foldl wo s).2<=2:=by lia
  have ex:∀t:Nat×Nat,wo t x=(0,t.1):=λt=>by unfold wo;rw[hx];rfl
  refine⟨jF.mpr ⟨i1,jF.mpr ⟨QW hd (by lia),?_⟩⟩,?_⟩
  ·rw[uR hd];refine⟨by show _+d.length+_<=20;lia,?_⟩;rw[ex];exact QW he (by show 0+e.length+(_+d.length)<=20;lia)
  ·rw[ej,ej,dU,ex,uR he];show 0+e.length<=2;lia
inductive jI:List (List Nat)->List Nat->Prop
 |one (c:List Nat):jI [c] c
 |more (c:List Nat) {n:Nat} {cs:List (List Nat)} {l:List Nat}:2<=n->jI cs l->jI (c::cs) (c++(aw n 32++l))
structure kg (cs:List (List Nat)):Prop where
 ne:∀c∈cs,c≠[]
 no32:∀c∈cs,¬32∈c
theorem kg.tail {c:List Nat}(h:kg (c::cs)):kg cs:=⟨λx hx=>h.ne x (CK _ hx),λx hx=>h.no32 x (CK _ hx)⟩
theorem jI.words (h:jI cs l)(ok:kg cs):rB l=cs:=by
 induction h with
 |one c=>
  have:My c=true:=by
   have:=ok.ne c CG;unfold My
   cases c with
   |nil=>exact M' rfl this
   |cons=>rfl
  unfold rB;rw[Zo (ok.no32 c CG),eG this,fZ]
 |@more c n cs l hn _ ih=>
  have ih:=ih ok.tail
  have e:∀n,(uO 32 (aw n 32++l)).filter My=(uO 32 l).filter My:=λn=>by
   induction n with
   |zero=>rfl
   |succ n ih=>rw[d7,Dw,ug,Ej (by decide),ih]
  obtain⟨k,rfl⟩:∃k,n=k+1:=⟨n-1,by lia⟩
  have nc:My c=true:=by
   have:=ok.ne c CG;unfold My
   cases c with
   |nil=>exact M' rfl this
   |cons=>rfl
  unfold rB at ih ⊢;have:=VR (ok.no32 c CG) (l:=aw (k+1) 32++l) (h:=[]) (t:=uO 32 (aw k 32++l)) (by rw[d7,Dw,ug]);rw[this,dy,eG nc,e,ih]
theorem jI.last (h:jI cs l)(ok:kg cs):l≠[]/\l.getLast?≠some 32:=by
 induction h with
 |one c=>
  refine⟨ok.ne c CG,λz=>ok.no32 c CG (List.mem_of_getLast? z)⟩
 |@more c n cs l hn _ ih=>
  obtain⟨i1,i2⟩:=ih ok.tail;refine⟨λz=>i1 ?_,?_⟩
  ·have:=(fY.mp z).2;exact(fY.mp this).2
  ·rw[eQ,eQ]
   cases e:l.getLast? with
   |none=>exact M' (List.getLast?_eq_none_iff.mp e) i1
   |some y=>
    rw[e]at i2;exact i2
theorem jI.free {x:Nat}(h:jI cs l)(hx:x≠32)(no:∀c∈cs,¬x∈c):¬x∈l:=by
 induction h with
 |one c=>exact no c CG
 |@more c n cs l hn _ ih=>
  intro m;rcases CU.mp m with m |m
  ·exact no c CG m
  ·rcases CU.mp m with m |m
   ·exact hx (EF.mp m).2
   ·exact ih (λc hc=>no c (CK _ hc)) m
theorem jI.fit (h:jI cs l)(ok:∀c∈cs,wA c){s:Nat×Nat}(h0:s.1=0)(h2:s.2<=2):Z4 20 l s/\(l.foldl wo s).1<=2:=by
 induction h generalizing s with
 |one c=>exact JD (ok c CG) h0 h2
 |@more c n cs l hn _ ih=>
  obtain⟨i1,i2⟩:=JD (ok c CG) h0 h2;have nb:Mr (aw n 32):=λx hx=>by rw[(EF.mp hx).2];rfl
  obtain⟨b1,b2,b3,b4⟩:=ZQ (N:=20) nb (s:=c.foldl wo s) (ZJ i1) i2;have z:=b3 (λq=>by have:=G' iB q;rw[Dh,DY]at this;lia)
  have z2:((aw n 32).foldl wo (c.foldl wo s)).2<=2:=by
   obtain⟨k,rfl⟩:∃k,n=k+1:=⟨n-1,by lia⟩;have e:wo (c.foldl wo s) 32=(0,(c.foldl wo s).1):=rfl;rw[d7,dU,e];obtain⟨_,_,_,q⟩:=ZQ (N:=20) (l:=aw k 32) (s:=(0,(c.foldl wo s).1)) (λx hx=>by rw[(EF.mp hx).2];rfl) (by show 0+_<=20;lia) (CP _);rcases q with q |q
   ·exact CD q i2
   ·exact q
  obtain⟨j1,j2⟩:=ih (λc hc=>ok c (CK _ hc)) z z2;refine⟨jF.mpr ⟨i1,jF.mpr ⟨b1,j1⟩⟩,?_⟩;rw[ej,ej];exact j2
theorem U0 (sep:af):∀(ws:List af) (O':Array Nat),(ws.foldl (λO' p=>O'++sep.cps++p.cps) O').toList=O'.toList++(ws.map λp=>sep.cps.toList++p.cps.toList).flatten:=by
 intro ws
 induction ws with
 |nil=>intro O';simp
 |cons w ws ih=>
  intro O';rw[dU,ih,CO,dQ]
  simp
theorem QL (sep w:af)(ws:List af):(aF sep (w::ws)).cps.toList=w.cps.toList++(ws.map λp=>sep.cps.toList++p.cps.toList).flatten:=U0 sep ws w.cps
theorem xM:∀(rs:List af) (ws:List Nat) (c:List Nat) (k:Nat),rs.length=ws.length->(rs=[]->k=0)->jI (c::rs.map λz=>z.cps.toList) (c++(aw k 32++((aH (λz (w:Nat)=>iL z w) rs ws).map λp=>("  ":af).cps.toList++p.cps.toList).flatten)):=by
 intro rs
 induction rs with
 |nil=>
  intro ws c k _ hk;rw[hk rfl];show jI [c] (c++([]++[]));rw[dy,dy];exact .one c
 |cons r rs ih=>
  intro ws c k hl _
  cases ws with
  |nil=>cases hl
  |cons w ws=>
   have e2:("  ":af).cps.toList=[32,32]:=by decide+kernel
   have i:=ih ws r.cps.toList 0 (v_ hl) λ_=>rfl;have:=jI.more c (n:=k+(2+(w-r.cps.toList.length))) (by lia) i;rw[CO];refine Eq.mp (G' _ ?_) this;rw[ED,CO,dQ,w5,e2,<- fK,<- fK];show _=c++(aw k 32++(([32,32]++(aw (w-r.cps.toList.length) 32++r.cps.toList))++_));simp only[dc,List.replicate_zero,Di];rfl
theorem o8 {ws:List Nat}(h:r.length=ws.length)(h2:2<=r.length)(ok:kg (r.map λz=>z.cps.toList)):jI (r.map λz=>z.cps.toList) (kQ r ws).cps.toList:=by
 cases r with
 |nil=>exact M' h2 (by decide)
 |cons r0 rs=>
  cases ws with
  |nil=>cases h
  |cons w0 ws=>
   have e:(aF "  " (yG (r0::rs) (w0::ws))).cps.toList=r0.cps.toList++(aw (w0-r0.cps.toList.length) 32++((aH (λz (w:Nat)=>iL z w) rs ws).map λp=>("  ":af).cps.toList++p.cps.toList).flatten):=by
    have e1:yG (r0::rs) (w0::ws)=u_ r0 (w0:Nat)::aH (λz (w:Nat)=>iL z w) rs ws:=rfl;rw[e1,QL,wI,dc]
   have F:=xM rs ws r0.cps.toList (w0-r0.cps.toList.length) (v_ h) (λz=>by rw[z]at h2;exact M' (show 2<=1 from h2) (by decide));rw[<- e]at F;unfold kQ;rw[vp,xJ (F.last ok).2];exact F
open Builtin Builtin.Str
theorem jy (z y:af):(aW z y).length<=z.length+2/\(∀w∈aW z y,w.length<=z.length)/\∃w ws,aW z y=w::ws:=by
 have pb:∀δ2:List Nat,∀w∈b_ z δ2 y.length,w.length<=z.length:=λδ2 w hw=>by
  unfold b_ at hw;obtain⟨p,_,rfl⟩:=CB.mp hw;exact XM _ _ _
 unfold aW;split
 ·exact⟨by rw[dN];lia,λw hw=>by rw[du.mp hw];exact Cz _,z,[],Z⟩
 ·split
  ·exact⟨by rw[dN];lia,λw hw=>by rw[du.mp hw];exact Cz _,z,[],Z⟩
  ·refine⟨?_,pb _,?_⟩
   ·rw[A7];have:=StrLaws.occ_length_le z y 0 z.length (z.length+1);lia
   ·cases e:b_ z (occurrences z y 0 z.length (z.length+1)) y.length with
    |nil=>
     have:=A7 z (occurrences z y 0 z.length (z.length+1)) y.length;rw[e]at this;cases this
    |cons w ws=>exact⟨w,ws,Z⟩
theorem vC (y:af)(h:z.length<=2000000):(b_ z (occurrences z y 0 z.length (z.length+1)) y.length).length<=ar:=by
 rw[A7,ah];have:=StrLaws.occ_length_le z y 0 z.length (z.length+1);lia
end Pg
namespace Pg
open PySem L2 PySem.NumText
def nZ (z:af):List af:=(aW z " ").filter λw=>!decide (w = "")
def uL (z:af):List (List af):=(aW z "\n").map nZ
def QJ (l:List af):List (List Nat):=l.map λz=>z.cps.toList
theorem nS {a b:List af}(h:QJ a=QJ b):a=b:=JV h
theorem Qs (z:af):QJ (nZ z)=rB z.cps.toList:=by
 unfold nZ rB QJ;rw[<- QI z (c:=32) (by decide+kernel),List.filter_map];show _=((aW z " ").filter _).map _
 congr 1
 refine List.filter_congr λw _=>?_;show(!decide (w = ""))=!w.cps.toList.isEmpty
 congr 1
 cases e:w.cps.toList with
 |nil=>exact i' (jd (by rw[e];decide+kernel))
 |cons a l=>
  refine j' λq=>?_;rw[q,show("":af).cps.toList=[] by decide+kernel]at e;cases e
theorem kj (z:af):QJ (aW z "\n")=uO 10 z.cps.toList:=QI z (c:=10) (by decide+kernel)
def vR (z:af):Bool:=wB (Ub sgL) z && !Xq z
def cn (c:Nat):Prop:=c≠32/\c≠10
theorem Uz (h:vR z=true):z.cps.toList≠[]/\(∀c∈z.cps.toList,cn c/\vd c=false)/\z.length<=8:=by
 unfold vR wB at h;simp only[CW,decide_eq_true_iff]at h;obtain⟨⟨h1,h2,h3⟩,_⟩:=h;refine⟨λe=>by rw[zq,e]at h1;exact M' h1 (by decide),λc hc=>?_,h2⟩;have:=dA.mp h3 c hc;have m:c∈sgL.cps.toList:=Es.mp this
 have key:∀x∈sgL.cps.toList,(decide (x≠32)&&(decide (x≠10) && !vd x))=true:=by
  rw[<- dA];decide+kernel
 have k:=key c m;simp only[CW,decide_eq_true_iff,Dg]at k;exact⟨⟨k.1,k.2.1⟩,k.2.2⟩
structure Z0 (z:af):Prop where
 ne:z.cps.toList≠[]
 ok:∀c∈z.cps.toList,cn c
theorem YI (a:Int):Z0 (qW a):=⟨Gp.2,λc hc=>by
 have:=Gb a c hc;unfold cp at this;exact⟨by lia,by lia⟩⟩
theorem Zy (h:(!z.cps.toList.isEmpty&&z.cps.toList.all λc=>decide (c≠32)&&decide (c≠10))=true):Z0 z:=by
 rw[CW,dA]at h;refine⟨λe=>by rw[e]at h;exact M' h.1 (by decide),λc hc=>?_⟩;have:=h.2 c hc;simp only[CW,decide_eq_true_iff]at this;exact this
theorem Oq (h:0<=m):Z0 (q9 m):=by
 have e:=wZ h;refine⟨λq=>by rw[q]at e;exact M' (G' iB e) (by simp),λc hc=>?_⟩;rw[e]at hc;have dd:∀{x:Nat},48<=x/\x<=57->cn x:=λq=>⟨by lia,by lia⟩;rcases CU.mp hc with q |q
 ·exact dd (jv (yq _) c q)
 ·rcases CF.mp q with rfl |q
  ·exact⟨by decide,by decide⟩
  ·exact dd (jv (yq _) c q)
theorem nV (prs:List (af×Int))(z:af):Z0 (j6 prs z):=by
 unfold j6;split
 ·exact YI _
 ·exact Zy (by decide+kernel)
theorem R7 (h:vR z=true):Z0 z:=⟨(Uz h).1,λc hc=>((Uz h).2.1 c hc).1⟩
theorem GB {t:af}{b n:Int}(ht:Z0 t):∀z∈jE t b prs n nms,Z0 z:=λz hz=>by
 unfold jE at hz;simp only[CU,CF,dw,or_false]at hz;rcases hz with ((rfl |rfl) |h) |rfl
 ·exact ht
 ·exact YI _
 ·obtain⟨y,_,rfl⟩:=CB.mp h;exact nV _ _
 ·exact YI _
theorem Pr (h:∀z∈nms,vR z=true):∀z∈ja nms,Z0 z:=λz hz=>by
 unfold ja at hz;simp only[CU,CF,dw,or_false]at hz;rcases hz with ((rfl |rfl) |h') |rfl
 ·exact Zy (by decide+kernel)
 ·exact Zy (by decide+kernel)
 ·exact R7 (h z h')
 ·exact Zy (by decide+kernel)
theorem UN (nms:List af):(ja nms).length=nms.length+3:=by
 unfold ja;rw[CA,CA];show 2+_+1=_;lia
section
theorem Qn (hq:∀p∈qs,vR p.1=true)(hm:∀s∈sts,0<=s.m):∀r∈qZ sts qs,r.length=qs.length+3/\∀z∈r,Z0 z:=λr hr=>by
 unfold qZ at hr;simp only[CU,CF,dw,or_false]at hr;rcases hr with (rfl |h) |rfl
 ·refine⟨by rw[UN,Cw],Pr λz hz=>?_⟩;obtain⟨p,hp,rfl⟩:=CB.mp hz;exact hq p hp
 ·obtain⟨s,hs,rfl⟩:=CB.mp h;exact⟨by rw[uK,Cw],GB (Oq (hm s hs))⟩
 ·exact⟨by rw[uK,Cw],GB (Zy (by decide+kernel))⟩
theorem YA (hq:∀p∈qs,vR p.1=true)(hm:∀s∈sts,0<=s.m):∃ls:List (List Nat),uO 10 (yD sts qs).cps.toList=ls/\ls.length=(qZ sts qs).length/\∀(i:Nat) r l,(qZ sts qs)[i]?=some r->ls[i]?=some l->jI (QJ r) l:=by
 have tc:=Qn hq hm;obtain⟨ls,hls⟩:∃ls,ls=QJ (jM (qZ sts qs) (qs.length+3)):=⟨_,Z⟩
 have form:∀r∈qZ sts qs,jI (QJ r) (kQ r (vM (qZ sts qs) (qs.length+3))).cps.toList:=λr hr=>by
  refine o8 (by rw[(tc r hr).1,uf]) (by rw[(tc r hr).1];lia) ⟨λc hc=>?_,λc hc=>?_⟩
  ·obtain⟨z,hz,rfl⟩:=CB.mp hc;exact((tc r hr).2 z hz).ne
  ·obtain⟨z,hz,rfl⟩:=CB.mp hc;exactλm=>(((tc r hr).2 z hz).ok 32 m).1 rfl
 have no:∀l∈ls,¬10∈l:=λl hl=>by
  rw[hls]at hl;obtain⟨w,hw,rfl⟩:=CB.mp hl;unfold jM at hw;obtain⟨r,hr,rfl⟩:=CB.mp hw;refine(form r hr).free (by decide) λc hc=>?_;obtain⟨z,hz,rfl⟩:=CB.mp hc;exactλm=>(((tc r hr).2 z hz).ok 10 m).2 rfl
 refine⟨ls,?_,?_,λi r l hr hl=>?_⟩
 ·have e:jM (qZ sts qs) (qs.length+3)=kQ (ja (qs.map (·.1))) (vM (qZ sts qs) (qs.length+3))::(jM (qZ sts qs) (qs.length+3)).tail:=rfl;unfold yD;rw[hls]at no;rw[e]at no ⊢;have j:=j7 10 (kQ (ja (qs.map (·.1))) (vM (qZ sts qs) (qs.length+3))) (jM (qZ sts qs) (qs.length+3)).tail;rw[show aF "\n" (kQ (ja (qs.map (·.1))) (vM (qZ sts qs) (qs.length+3))::(jM (qZ sts qs) (qs.length+3)).tail)=aF ⟨#[10]⟩ (kQ (ja (qs.map (·.1))) (vM (qZ sts qs) (qs.length+3))::(jM (qZ sts qs) (qs.length+3)).tail) from Z,j,hls,e];exact Wf (no _ CG) λv hv=>no v (CK _ hv)
 ·rw[hls];unfold QJ jM;rw[Cw,Cw]
 ·rw[hls]at hl;unfold QJ jM at hl;rw[CI,CI,hr]at hl;cases hl;exact form r (dv hr)
theorem QS (hq:∀p∈qs,vR p.1=true)(hm:∀s∈sts,0<=s.m):uL (yD sts qs)=qZ sts qs:=by
 obtain⟨ls,e1,e2,e3⟩:=YA hq hm;have tc:=Qn hq hm;have e0:=kj (yD sts qs);rw[e1]at e0;unfold uL
 have l0:(aW (yD sts qs) "\n").length=ls.length:=by
  rw[<- e0];unfold QJ;rw[Cw]
 refine Dj λi=>?_
 by_cases h:i<ls.length
 ·obtain⟨w,hw⟩:∃w,(aW (yD sts qs) "\n")[i]?=some w:=⟨_,CC (by lia)⟩;obtain⟨r,hr⟩:∃r,(qZ sts qs)[i]?=some r:=⟨_,CC (by lia)⟩
  have hl:ls[i]?=some w.cps.toList:=by
   rw[<- e0];unfold QJ;rw[CI,hw];rfl
  rw[CI,hw,hr];refine G' some (nS ?_);rw[Qs];have tr:=tc _ (dv hr)
  exact(e3 i _ _ hr hl).words ⟨λc hc=>by
   obtain⟨z,hz,rfl⟩:=CB.mp hc
   exact(tr.2 z hz).ne,λc hc=>by
   obtain⟨z,hz,rfl⟩:=CB.mp hc;exactλm=>((tr.2 z hz).ok 32 m).1 rfl⟩
 ·rw[dO (by rw[Cw];lia),dO (by lia)]
end
def yH (ws:List af):List af:=(ws.take (ws.length-1)).drop 2
def vU (rs:List (List af)):List (List af):=(rs.take (rs.length-1)).drop 1
theorem Wg (nms:List af):yH (ja nms)=nms:=by
 unfold yH;rw[UN];unfold ja;rw[E8 (by rw[CA];show _<=2+_;lia),dW (by rw[CA];show 2+_<=_;lia)];rfl
theorem GU (t:af)(b:Int)(prs:List (af×Int))(n:Int)(nms:List af):yH (jE t b prs n nms)=nms.map (j6 prs):=by
 unfold yH;rw[uK];unfold jE;rw[E8 (by rw[CA,Cw];show _<=2+_;lia),dW (by rw[CA,Cw];show 2+_<=_;lia)];rfl
theorem LI (sts:List yZ)(qs:List (af×Int)):vU (qZ sts qs)=sts.map (λs=>jE (q9 s.m) s.b s.ds s.n (qs.map (·.1))):=by
 unfold vU
 have tl:(qZ sts qs).length=sts.length+2:=by
  unfold qZ;rw[CA,CA,Cw];show 1+_+1=_;lia
 rw[tl];unfold qZ;rw[E8 (by rw[CA,Cw];show _<=1+_;lia),dW (by rw[CA,Cw];show 1+_<=_;lia)];rfl
def Jk (p:af×af):Option (af×Int):=(qI p.2.cps.toList).map λv=>(p.1,v)
def uh (p:af×af):Bool:=!decide (p.2 = "-")
structure oB (ns ws:List af)(s:yZ):Prop where
 len:ws.length=ns.length+3
 ds:((ns.zip (yH ws)).filter uh).map Jk=s.ds.map some
 b:qI (ws.getD 1 aC).cps.toList=some s.b
 n:qI (ws.getD (ns.length+2) aC).cps.toList=some s.n
 m:yK (ws.getD 0 aC)=some s.m
 net:s.n=s.b-qS (s.ds.map (·.2))
structure pX (ns ws:List af)(s:yZ):Prop where
 len:ws.length=ns.length+3
 ds:(ns.zip (yH ws)).filterMap Jk=s.ds
 b:qI (ws.getD 1 aC).cps.toList=some s.b
 m:yK (ws.getD 0 aC)=some s.m
 net:s.n=s.b-qS (s.ds.map (·.2))
structure Mq (s:yZ):Prop where
 m0:0<=s.m
 m1:s.m<=119999
 b:VX s.b
 n:VX s.n
 ds:∀p∈s.ds,VX p.2
 net:s.n=s.b-qS (s.ds.map (·.2))
structure kA (z:af)(S:List yZ)(qs:List (af×Int)):Prop where
 pm:qs.Perm (yY S)
 so:lQ qs
 eq:z=yD S qs
 nm:∀p∈qs,vR p.1=true
 sub:∀s∈S,(s.ds.map (·.1)).Sublist (qs.map (·.1))
 each:∀s∈S,Mq s
 up:(S.map (·.m)).Pairwise (λx y:Int=>x<y)
def jN (z:af)(S:List yZ):Prop:=∃qs,kA z S qs
theorem kA.nd {S:List yZ}(h:kA z S qs):(qs.map (·.1)).Nodup:=((h.pm.map (·.1)).nodup_iff).mpr (jx _)
theorem Vb:qI ("-":af).cps.toList=none:=by decide+kernel
theorem UO {f g:α->Option β}:∀{l:List α},(∀x∈l,f x=g x)->l.filterMap f=l.filterMap g:=by
 intro l
 induction l with
 |nil=>intro _;rfl
 |cons a l ih=>
  intro h;rw[Dm,Dm,h a CG,ih λx hx=>h x (CK _ hx)]
theorem UL:∀{nms:List af} {ds:List (af×Int)},nms.Nodup->(ds.map (·.1)).Sublist nms->nms.filterMap (λz=>(yP ds z).map λv=>(z,v))=ds:=by
 intro nms
 induction nms with
 |nil=>
  intro ds _ h
  cases ds with
  |nil=>rfl
  |cons p r=>cases h
 |cons a r ih=>
  intro ds nd h;obtain⟨n1,n2⟩:=Ds.mp nd
  cases ds with
  |nil=>
   have:∀l:List af,l.filterMap (λz=>(yP ([]:List (af×Int)) z).map λv=>(z,v))=[]:=λl=>by
    induction l with
    |nil=>rfl
    |cons b l ih=>rw[Dm];exact ih
   exact this _
  |cons p ps=>
   have g:∀z,yP (p::ps) z=if p.1=z then some p.2 else yP ps z:=λz=>by
    unfold yP;rw[Dn]
    by_cases e:p.1=z
    ·rw[L' e,i' e];rfl
    ·rw[K' e,j' e]
   rw[CO]at h
   by_cases e:p.1=a
   ·have hs:(ps.map (·.1)).Sublist r:=by
     rw[e]at h;exact f6.mp h
    rw[Dm,g,L' e];show(a,p.2)::_=_
    have:r.filterMap (λz=>(yP (p::ps) z).map λv=>(z,v))=ps:=by
     refine Eq.trans (UO λz hz=>?_) (ih n2 hs);rw[g,K' λc=>n1 (by rw[<- e,c];exact hz)]
    rw[this,<- e]
   ·have hs:(p.1::ps.map (·.1)).Sublist r:=by
     cases h with
     |cons _ h=>exact h
     |cons_cons _ h=>exact M' rfl e
    have na:yP (p::ps) a=none:=Z9 λm=>n1 (hs.subset m);rw[Dm,na];exact ih n2 hs
theorem GX (nms:List af)(ds:List (af×Int)):nms.zip (nms.map (j6 ds))=nms.map λz=>(z,j6 ds z):=by
 induction nms with
 |nil=>rfl
 |cons a r ih=>rw[CO,Ek,ih,CO]
theorem WH (h:∀p∈ds,VX p.2)(z:af):qI (j6 ds z).cps.toList=yP ds z:=by
 unfold j6
 cases e:yP ds z with
 |none=>exact Vb
 |some v=>exact uJ (h _ (kr e))
theorem La (z:af):(!decide (j6 ds z = "-"))=(yP ds z).isSome:=by
 unfold j6
 cases e:yP ds z with
 |none=>rfl
 |some v=>
  show(!decide (qW v = "-"))=true;rw[j' λq=>Gp.1 (by rw[q];decide+kernel)];rfl
section
variable {s:yZ}(g:Mq s)(nd:nms.Nodup)(sub:(s.ds.map (·.1)).Sublist nms)
theorem xb (t:af)(b:Int)(prs:List (af×Int))(n:Int)(nms:List af):(jE t b prs n nms).getD 0 aC=t/\(jE t b prs n nms).getD 1 aC=qW b/\(jE t b prs n nms).getD (nms.length+2) aC=qW n:=by
 refine⟨Z,Z,?_⟩;unfold jE;rw[dD,dk (by rw[CA,Cw];show 2+_<=_;lia),CA,Cw];show([qW n][nms.length+2-(2+nms.length)]?).getD _=_;rw[show nms.length+2-(2+nms.length)=0 by lia];rfl
include g nd sub
theorem bf:pX nms (jE (q9 s.m) s.b s.ds s.n nms) s:=by
 obtain⟨r0,r1,r2⟩:=xb (q9 s.m) s.b s.ds s.n nms;refine⟨uK _ _ _ _ _,?_,by rw[r1];exact uJ g.b,by rw[r0];exact Je g.m0 g.m1,g.net⟩;rw[GU,GX,List.filterMap_map];refine Eq.trans (UO λz _=>?_) (UL nd sub);show(qI (j6 s.ds z).cps.toList).map _=_;rw[WH g.ds]
theorem bI:oB nms (jE (q9 s.m) s.b s.ds s.n nms) s:=by
 obtain⟨r0,r1,r2⟩:=xb (q9 s.m) s.b s.ds s.n nms;refine⟨uK _ _ _ _ _,?_,by rw[r1];exact uJ g.b,by rw[r2];exact uJ g.n,by rw[r0];exact Je g.m0 g.m1,g.net⟩;rw[GU,GX];have h:=UL nd sub;generalize nms=l at h ⊢;rw[<- G' (List.map some) h];clear h
 induction l with
 |nil=>rfl
 |cons a r ih=>
  rw[CO,Dm];have e:=La (ds:=s.ds) a
  cases q:yP s.ds a with
  |none=>
   rw[q]at e;rw[Ej (by show ¬uh (a,j6 s.ds a)=true;unfold uh;rw[e];exact CZ)];exact ih
  |some v=>
   rw[q]at e;rw[eG (by show uh (a,j6 s.ds a)=true;unfold uh;rw[e];rfl),CO];show Jk (a,j6 s.ds a)::_=some (a,v)::_;rw[ih]
   have:Jk (a,j6 s.ds a)=some (a,v):=by
    unfold Jk;rw[WH g.ds,q];rfl
   rw[this]
end
theorem U9 {a b:List α}(h:a.map some=b.map some):a=b:=by
 induction a generalizing b with
 |nil=>cases b with
  |nil=>rfl
  |cons=>cases h
 |cons x a ih=>cases b with
  |nil=>cases h
  |cons y b=>
   obtain⟨h1,h2⟩:=aT h;cases h1;rw[ih h2]
theorem oB.uniq {s t:yZ}(h:oB ns ws s)(h':oB ns ws t):s=t:=by
 have e1:=U9 (h.ds.symm.trans h'.ds);have e2:=ai (h.b.symm.trans h'.b);have e3:=ai (h.n.symm.trans h'.n);have e4:=ai (h.m.symm.trans h'.m);cases s;cases t;cases e1;cases e2;cases e3;cases e4;rfl
section
variable {S:List yZ}
theorem kA.table (h:kA z S qs):uL z=qZ S qs:=by
 rw[h.eq];exact QS h.nm λs hs=>(h.each s hs).m0
theorem kA.head (h:kA z S qs){rest:List (List af)}(e:uL z=r0::rest):yH r0=qs.map (·.1):=by
 have t:=h.table;rw[e]at t;have:r0=ja (qs.map (·.1)):=(aT t).1;rw[this,Wg]
theorem kA.rows (h:kA z S qs):vU (uL z)=S.map (λs=>jE (q9 s.m) s.b s.ds s.n (qs.map (·.1))):=by rw[h.table,LI]
theorem kA.at_P (h:kA z S qs)(e:(vU (uL z))[i]?=some ws):∃s,S[i]?=some s/\oB (qs.map (·.1)) ws s/\pX (qs.map (·.1)) ws s:=by
 rw[h.rows,CI]at e;obtain⟨s,hs,rfl⟩:=CS.mp e;have m:=dv hs;exact⟨s,hs,bI (h.each s m) h.nd (h.sub s m),bf (h.each s m) h.nd (h.sub s m)⟩
theorem Yj (z:af):∃r0 rest,uL z=r0::rest:=by
 obtain⟨_,_,w,ws,e⟩:=jy z "\n";unfold uL;rw[e];exact⟨_,_,Z⟩
end
theorem Yr {S T:List yZ}(h:jN z S)(h':jN z T):S=T:=by
 obtain⟨qs,h⟩:=h;obtain⟨ps,h'⟩:=h';obtain⟨r0,rest,e⟩:=Yj z;have en:qs.map (·.1)=ps.map (·.1):=(h.head e).symm.trans (h'.head e);have l1:S.length=(vU (uL z)).length:=by rw[h.rows,Cw]
 have l2:T.length=(vU (uL z)).length:=by rw[h'.rows,Cw]
 refine Dj λi=>?_
 by_cases hi:i<(vU (uL z)).length
 ·obtain⟨s,e1,p1,_⟩:=h.at_P (CC hi);obtain⟨t,e2,p2,_⟩:=h'.at_P (CC hi);rw[<- en]at p2;rw[e1,e2,p1.uniq p2]
 ·rw[dO (by lia),dO (by lia)]
theorem MO:∀(a:List α) (b:List β),((a.zip b).map (·.1)).Sublist a:=by
 intro a
 induction a with
 |nil=>intro b;exact AH _
 |cons x a ih=>
  intro b
  cases b with
  |nil=>exact fe _
  |cons y b=>exact f6.mpr (ih b)
theorem Mk:∀{l:List (af×af)} {ds:List (af×Int)},l.map Jk=ds.map some->ds.map (·.1)=l.map (·.1):=by
 intro l
 induction l with
 |nil=>intro ds h;cases ds with
  |nil=>rfl
  |cons=>cases h
 |cons p l ih=>intro ds h;cases ds with
  |nil=>cases h
  |cons d ds=>
   obtain⟨h1,h2⟩:=aT h;unfold Jk at h1;obtain⟨v,_,rfl⟩:=CS.mp h1;rw[CO,CO,ih h2]
theorem LC {l:List (af×af)}(h:l.map Jk=ds.map some):∀p∈ds,∃w,(p.1,w)∈l/\qI w.cps.toList=some p.2:=λp hp=>by
 have:some p∈l.map Jk:=by rw[h];exact CB.mpr ⟨p,hp,Z⟩
 obtain⟨q,hq,e⟩:=CB.mp this;unfold Jk at e;obtain⟨v,hv,rfl⟩:=CS.mp e;exact⟨q.2,hq,hv⟩
theorem oB.sub {s:yZ}(h:oB ns ws s):(s.ds.map (·.1)).Sublist ns:=by
 rw[Mk h.ds];exact(List.filter_sublist.map _).trans (MO _ _)
theorem oB.good {s:yZ}(h:oB ns ws s):Mq s:=by
 have m:=xx h.m;refine⟨m.1,m.2,ZD h.b,ZD h.n,λp hp=>?_,h.net⟩;obtain⟨w,_,e⟩:=LC h.ds p hp;exact ZD e
theorem pX.sub {s:yZ}(h:pX ns ws s):(s.ds.map (·.1)).Sublist ns:=by
 rw[<- h.ds];clear h;generalize yH ws=us
 induction ns generalizing us with
 |nil=>exact AH _
 |cons a ns ih=>
  cases us with
  |nil=>exact fe _
  |cons u us=>
   rw[Ek,Dm];unfold Jk
   cases qI u.cps.toList with
   |none=>exact(ih us).cons _
   |some v=>exact(ih us).cons_cons _
theorem pX.vals {s:yZ}(h:pX ns ws s):∀p∈s.ds,∃w∈yH ws,qI w.cps.toList=some p.2:=λp hp=>by
 rw[<- h.ds]at hp;obtain⟨q,hq,e⟩:=fk.mp hp;unfold Jk at e;obtain⟨v,hv,rfl⟩:=CS.mp e;exact⟨q.2,(Dz hq).2,hv⟩
def gu (z:af):Prop:=∀ws∈vU (uL z),(∃m,yK (ws.getD 0 aC)=some m)->∀w∈ws,∀a,qI w.cps.toList=some a->-100000000000000000000000000<a/\a<100000000000000000000000000
theorem ZF {w:af}(h:w∈yH ws):w∈ws:=DO (eR h)
theorem vL {k:Nat}(h:k<ws.length):ws.getD k aC∈ws:=by
 rw[dD,CC h];exact DA h
theorem oS {l:List Int}(h:∀x∈l,-100000000000000000000000000<x/\x<100000000000000000000000000)(hl:l.length<=63):-6300000000000000000000000000<=qS l/\qS l<=6300000000000000000000000000:=by
 have:=vH (B:=100000000000000000000000000) (by decide) (l:=l) λx hx=>by have:=h x hx;lia
 lia
theorem pX.good {s:yZ}(h:pX ns ws s)(sm:gu z)(hw:ws∈vU (uL z))(l63:ns.length<=63):Mq s:=by
 have m:=xx h.m;have k:=sm ws hw ⟨_,h.m⟩;have kb:=k _ (vL (k:=1) (by rw[h.len];lia)) _ h.b
 have kd:∀p∈s.ds,-100000000000000000000000000<p.2/\p.2<100000000000000000000000000:=λp hp=>by
  obtain⟨w,hw',e⟩:=h.vals p hp;exact k w (ZF hw') _ e
 have sl:=h.sub.length_le;rw[Cw]at sl;have ss:=oS (l:=s.ds.map (·.2)) (λx hx=>by obtain⟨p,hp,rfl⟩:=CB.mp hx;exact kd p hp) (by rw[Cw];lia);have hn:=h.net;refine⟨m.1,m.2,ZD h.b,⟨by lia,by lia⟩,λp hp=>?_,h.net⟩;have:=kd p hp;exact⟨by lia,by lia⟩
theorem Pq {S:List yZ}{rest:List (List af)}(e:uL z=r0::rest)(ng:∀w∈yH r0,vR w=true)(hs:∀s∈S,Mq s/\(s.ds.map (·.1)).Sublist (yH r0))(up:(S.map (·.m)).Pairwise (λx y:Int=>x<y))(pm:qs.Perm (yY S))(so:lQ qs)(eq:yD S qs=z):kA z S qs:=by
 have nm:∀p∈qs,vR p.1=true:=λp hp=>by
  obtain⟨s,m,h⟩:=Zs.mp (CB.mpr ⟨p,pm.mem_iff.mp hp,Z⟩);exact ng _ ((hs s m).2.subset h)
 have t:=QS nm λs m=>(hs s m).1.m0;rw[eq,e]at t
 have hn:yH r0=qs.map (·.1):=by
  rw[show r0=ja (qs.map (·.1)) from (aT t).1,Wg]
 exact⟨pm,so,eq.symm,nm,λs m=>by rw[<- hn];exact(hs s m).2,λs m=>(hs s m).1,up⟩
structure G0 (z:af):Prop where
 len:z.length<=2000000
 rows:(uL z).length<=45
 wide:∀ws∈uL z,ws.length<=40
 small:gu z
theorem lD (h:DR 24 z.cps.toList∨¬45∈z.cps.toList):gu z:=λws hw hm w hww a ha=>by
 have m1:ws∈uL z:=DO (eR hw);obtain⟨r,hr,rfl⟩:=CB.mp m1
 have inf:∀w∈nZ r,∃u v,z.cps.toList=u++w.cps.toList++v:=λw hw=>by
  have key:∀{c:Nat} {l:List Nat},∀x∈uO c l,∃u v,l=u++x++v:=λ{c l} x hx=>by
   obtain⟨h,t,e⟩:=yQ (c:=c) l;have f:=(wC e).1;rw[e]at hx;rcases CF.mp hx with rfl |hx
   ·exact⟨[],_,f⟩
   ·obtain⟨t1,t2,rfl⟩:=J_ hx;refine⟨h++(t1.map (c :: ·)).flatten++[c],(t2.map (c :: ·)).flatten,?_⟩;rw[f,CJ,CO,EC,dQ]
    simp
  have m2:w.cps.toList∈rB r.cps.toList:=by
   rw[<- Qs];exact CB.mpr ⟨w,hw,Z⟩
  obtain⟨u,v,e1⟩:=key _ (DF.mp m2).1
  have m3:r.cps.toList∈uO 10 z.cps.toList:=by
   rw[<- kj];exact CB.mpr ⟨r,hr,Z⟩
  obtain⟨u',v',e2⟩:=key _ m3;exact⟨u'++u,v++v',by rw[e2,e1];simp⟩
 rcases h with h |h
 ·obtain⟨u,v,e⟩:=inf w hww;exact X0 ha (h.infix e)
 ·exfalso
  obtain⟨m,hm⟩:=hm;unfold yK at hm
  split at hm
  ·rename_i c;have c:=c.1;unfold U8 at c;simp only[CW,decide_eq_true_iff]at c;have c4:=c.2.2.1;have m45:45∈((nZ r).getD 0 aC).cps.toList:=dv c4;have l0:0<(nZ r).length:=fP hww;obtain⟨u,v,e⟩:=inf _ (vL l0);exact h (by rw[e];exact dX _ (dm _ m45))
  ·cases hm
theorem Yx (h1:z.length<=2000000)(h2:z.cps.toList.count 10<=44)(h3:WR 40 z.cps.toList)(h4:DR 24 z.cps.toList∨¬45∈z.cps.toList):G0 z:=by
 refine⟨h1,?_,λws hw=>?_,lD h4⟩
 ·unfold uL;have:=G' iB (kj z);unfold QJ at this;rw[Cw,kc]at this;rw[Cw];lia
 ·obtain⟨r,hr,rfl⟩:=CB.mp hw
  have m3:r.cps.toList∈uO 10 z.cps.toList:=by
   rw[<- kj];exact CB.mpr ⟨r,hr,Z⟩
  have:=h3 _ m3;rw[Wt,<- Qs]at this;unfold QJ at this;rw[Cw]at this;exact this
structure uj (z:af):Prop where
 len:z.length<=20000
 nl:z.cps.toList.count 10<=17
 wr:WR 14 z.cps.toList
 ee:EE 20 z.cps.toList
def Q5 (x:Int):Prop:=-100000000000000000000<x/\x<100000000000000000000
theorem kZ {a:Int}(h:Q5 a):wA (qW a).cps.toList:=by
 refine .inr ⟨(uo a).cps.toList,dg ((yB a).toNat/100),46,qK 2 (dg ((yB a).toNat%100)),vI a,λx hx=>?_,yq _,qj (by decide) ?_,Z,jv (yq _),DW (ji (qj (by decide) (by lia)))⟩
 ·unfold uo at hx
  split at hx
  ·have e:("-":af).cps.toList=[45]:=by decide+kernel
   rw[e]at hx;rw[du.mp hx];rfl
  ·have e:("":af).cps.toList=[]:=by decide+kernel
   rw[e]at hx;cases hx
 ·unfold Q5 at h;have:yB a<100000000000000000000:=by unfold yB;split<;>lia
  have:=ZO a;lia
theorem WQ (h0:0<=m)(h1:m<=119999):wA (q9 m).cps.toList:=.inr ⟨[],qK 4 (dg (m/12).toNat),45,qK 2 (dg (m%12+1).toNat),by rw[wZ h0];rfl,(λx hx=>nomatch hx),jv (yq _),by rw[ji (qj (by decide) (BJ (bJ h1)))];decide,Z,jv (yq _),DW (ji (qj (by decide) (BE (rm m))))⟩
theorem uk (h:(z.cps.toList.all λc=>!vd c)=true):wA z.cps.toList:=.inl λx hx=>by
 have:=dA.mp h x hx
 rwa [Dg]at this
theorem OF (h:∀p∈prs,Q5 p.2)(z:af):wA (j6 prs z).cps.toList:=by
 unfold j6;split
 ·rename_i v e;exact kZ (h _ (kr e))
 ·exact uk (by decide+kernel)
theorem JT {t:af}{b n:Int}(ht:wA t.cps.toList)(hb:Q5 b)(hn:Q5 n)(hp:∀p∈prs,Q5 p.2):∀z∈jE t b prs n nms,wA z.cps.toList:=λz hz=>by
 unfold jE at hz;simp only[CU,CF,dw,or_false]at hz;rcases hz with ((rfl |rfl) |h) |rfl
 ·exact ht
 ·exact kZ hb
 ·obtain⟨y,_,rfl⟩:=CB.mp h;exact OF hp y
 ·exact kZ hn
theorem pU:∀{ls:List (List Nat)} {cs:List (List (List Nat))} {s:Nat×Nat},ls.length=cs.length->(∀(i:Nat) l c,ls[i]?=some l->cs[i]?=some c->jI c l/\∀x∈c,wA x)->s.1<=2->s.1+s.2<=20->Z4 20 ((ls.map (10 :: ·)).flatten) s:=by
 intro ls
 induction ls with
 |nil=>intro cs s _ _ _ h;exact h
 |cons l ls ih=>
  intro cs s hl h h1 h2
  cases cs with
  |nil=>cases hl
  |cons c cs=>
   obtain⟨r,d⟩:=h 0 l c rfl rfl;have e:wo s 10=(0,s.1):=rfl;rw[CO,dQ,Dw];obtain⟨f1,f2⟩:=r.fit d (s:=wo s 10) rfl h1;exact⟨h2,jF.mpr ⟨f1,ih (v_ hl) (λi l' c' e1 e2=>h (i+1) l' c' e1 e2) f2 (ZJ f1)⟩⟩
theorem nX {S:List yZ}(h:kA z S qs)(few:S.length<=15)(l11:qs.length<=11)(ob:∀s∈S,Q5 s.b/\Q5 s.n/\∀p∈s.ds,Q5 p.2)(oq:∀p∈qs,Q5 p.2)(o1:Q5 (qS (S.map (·.b))))(o2:Q5 (qS (S.map (·.n))))(zl:z.length<=20000):uj z:=by
 obtain⟨ls,e1,e2,e3⟩:=YA (sts:=S) (qs:=qs) h.nm λs hs=>(h.each s hs).m0;rw[<- h.eq]at e1
 have tl:(qZ S qs).length=S.length+2:=by
  unfold qZ;rw[CA,CA,Cw];show 1+_+1=_;lia
 have tc:=Qn (sts:=S) (qs:=qs) h.nm λs hs=>(h.each s hs).m0
 have cd:∀r∈qZ S qs,∀z∈r,wA z.cps.toList:=λr hr=>by
  unfold qZ at hr;simp only[CU,CF,dw,or_false]at hr;rcases hr with (rfl |hr) |rfl
  ·intro z hz;unfold ja at hz;simp only[CU,CF,dw,or_false]at hz;rcases hz with ((rfl |rfl) |h') |rfl
   ·exact uk (by decide+kernel)
   ·exact uk (by decide+kernel)
   ·obtain⟨p,hp,rfl⟩:=CB.mp h';exact .inl λx hx=>((Uz (h.nm p hp)).2.1 x hx).2
   ·exact uk (by decide+kernel)
  ·obtain⟨s,hs,rfl⟩:=CB.mp hr;have o:=ob s hs;have g:=h.each s hs;exact JT (WQ g.m0 g.m1) o.1 o.2.1 o.2.2
  ·exact JT (uk (by decide+kernel)) o1 o2 oq
 have at_:∀(i:Nat) l c,ls[i]?=some l->((qZ S qs).map QJ)[i]?=some c->jI c l/\∀x∈c,wA x:=λi l c hl hc=>by
  rw[CI]at hc;obtain⟨r,hr,rfl⟩:=CS.mp hc;refine⟨e3 i r l hr hl,λx hx=>?_⟩;obtain⟨y,hy,rfl⟩:=CB.mp hx;exact cd r (dv hr) y hy
 refine⟨zl,?_,λr hr=>?_,nh ?_⟩
 ·have:=kc z.cps.toList;rw[e1]at this;lia
 ·rw[e1]at hr;obtain⟨i,hi⟩:=Dy.mp hr;have il:i<(qZ S qs).length:=by rw[<- e2];exact(CV.mp hi).1
  have Ξ:=CC il;have t:=tc _ (dv Ξ)
  have:=(e3 i _ _ Ξ hi).words ⟨λc hc=>by
   obtain⟨z,hz,rfl⟩:=CB.mp hc
   exact(t.2 z hz).ne,λc hc=>by
   obtain⟨z,hz,rfl⟩:=CB.mp hc;exactλm=>((t.2 z hz).ok 32 m).1 rfl⟩
  rw[Wt,this];unfold QJ;rw[Cw,t.1];lia
 ·obtain⟨g,t,e⟩:=yQ (c:=10) z.cps.toList;have f:=(wC e).1;rw[e1]at e;rw[f]
  cases ls with
  |nil=>cases e
  |cons l0 lr=>
   cases e
   cases et:(qZ S qs).map QJ with
   |nil=>
    have:=G' iB et;rw[Cw,tl]at this;cases this
   |cons c0 cr=>
    rw[et]at at_;obtain⟨r,d⟩:=at_ 0 g c0 rfl rfl;obtain⟨f1,f2⟩:=r.fit d (s:=(0,0)) rfl (CP _);refine jF.mpr ⟨f1,pU (cs:=cr) ?_ (λi l c e1 e2=>at_ (i+1) l c e1 e2) f2 (ZJ f1)⟩;have:=G' iB et;rw[Cw,CY]at this;rw[CY]at e2;lia
open Builtin Builtin.Str
theorem Yz {x y:List Nat}(s:∀c∈x,c∈y)(hy:c_ y):c_ x:=λc hc=>hy c (s c hc)
theorem DR.app {M:Nat}{a b:List Nat}(h:DR N a)(h':DR M b):DR (N+M) (a++b):=λu d v e hd=>by
 rw[dc]at e;rcases vm e with⟨t,e1,e2⟩ |⟨t,e1,e2⟩
 ·exact CD (h' t d v (by rw[e2,dc]) hd) (fb _ _)
 ·rcases vm e2.symm with⟨t2,e3,e4⟩ |⟨t2,e3,e4⟩
  ·have h1:=h u t [] (by rw[e1,dy]) (Yz (λc hc=>by rw[e3];exact dX _ hc) hd);have h2:=h' [] t2 v (by rw[e4];rfl) (Yz (λc hc=>by rw[e3];exact dm _ hc) hd);rw[e3,CA];lia
  ·exact CD (h u d t2 (by rw[e1,e3,dc]) hd) (De _ _)
theorem DR.sep {a b:List Nat}{x:Nat}(h:DR N a)(h':DR N b)(hx:vd x=false):DR N (a++x::b):=λu d v e hd=>by
 have no:¬x∈d:=λm=>by
  have:=UA (hd x m);rw[hx]at this;cases this
 rw[dc]at e;rcases vm e with⟨t,e1,e2⟩ |⟨t,e1,e2⟩
 ·cases t with
  |nil=>
   cases d with
   |nil=>exact CP _
   |cons y d=>
    have:=(aT e2).1;exact M' (by rw[this];exact CG) no
  |cons y t=>
   have e2:b=t++(d++v):=(aT e2).2;exact h' t d v (by rw[e2,dc]) hd
 ·rcases vm e2.symm with⟨t2,e3,e4⟩ |⟨t2,e3,e4⟩
  ·cases t2 with
   |nil=>
    rw[dy]at e3;exact h u d [] (by rw[e1,e3,dy]) hd
   |cons y t2=>
    have:=(aT e4).1;exact M' (by rw[e3,this];exact dm _ CG) no
  ·exact h u d t2 (by rw[e1,e3,dc]) hd
theorem DR.seps {a b n:List Nat}(h:DR N a)(h':DR N b)(hn:Mr n)(ne:n≠[]):DR N (a++(n++b)):=by
 induction n generalizing a with
 |nil=>exact M' rfl ne
 |cons x n ih=>
  have hx:=hn x CG
  cases n with
  |nil=>exact h.sep h' hx
  |cons y n=>
   have:=ih (a:=a++[x]) (by
    have:=h.sep (b:=[]) (λu d v e _=>by
     have:=G' iB e;rw[DY,CA,CA]at this;lia) hx
    exact this) (λz hz=>hn z (CK _ hz)) (by intro q;cases q)
   rw[dc]at this;exact this
theorem DR.len:DR l.length l:=λu d v e _=>by
 rw[e,CA,CA];lia
theorem DR.nod (h:Mr l):DR 0 l:=λu d v e hd=>by
 cases d with
 |nil=>exact Cz _
 |cons x d=>
  have h1:=h x (by rw[e];exact dX _ (dm _ CG));rw[UA (hd x CG)]at h1;cases h1
theorem uj.dr (h:uj z):DR 21 z.cps.toList:=h.ee.dr
theorem RS {m:List Nat}(h:m.length<=1):WR 1 m:=by
 cases m with
 |nil=>intro r hr;rw[du.mp hr];exact CP _
 |cons x m=>
  have:m=[]:=Dd.mp (by rw[CY]at h;lia);subst this;rw[Lm];show 0<=1/\(Qj (0,1) x).1<=1;unfold Qj;refine⟨by decide,?_⟩;split
  ·decide
  ·split<;>decide
theorem Qf {a o m b:List Nat}(h:uj T)(e:T.cps.toList=a++(o++b))(ho:o.length<=1)(hm:m.length<=1)(ez:z.cps.toList=a++(m++b)):G0 z:=by
 obtain⟨h1,h2,h3,h4⟩:=h;rw[zq]at h1;rw[e]at h1 h2 h3 h4;rw[CA,CA]at h1;rw[DP,DP]at h2;have cm:m.count 10<=1:=CD Ii hm;refine Yx ?_ ?_ ?_ (.inl ?_)
 ·rw[zq,ez,CA,CA];lia
 ·rw[ez,DP,DP];lia
 ·rw[ez];exact(h3.left.app ((RS hm).app h3.right.right)).le (by decide)
 ·rw[ez];exact(h4.bent ho hm).le (by decide)
theorem Mi {b:List Nat}(h:uj T)(hb:Mr b)(l:b.length<=6)(w:WR 1 b)(ez:z.cps.toList=T.cps.toList++b):G0 z:=by
 have h1:=h.len;have h2:=h.nl;rw[zq]at h1;have cm:b.count 10<=6:=CD Ii l;refine Yx ?_ ?_ ?_ (.inl ?_)
 ·rw[zq,ez,CA];lia
 ·rw[ez,DP];lia
 ·rw[ez];exact(h.wr.app w).le (by decide)
 ·rw[ez];exact(h.dr.app (DR.nod hb)).le (by decide)
structure p6 (l:List Nat):Prop where
 no:¬10∈l
 wc:wc 1 l<=16
 dr:DR 24 l
 len:l.length<=80006
theorem uj.row (h:uj T)(hl:l∈uO 10 T.cps.toList):¬10∈l/\Pg.wc 1 l<=14/\DR 21 l/\l.length<=20000:=by
 obtain⟨g,t,e⟩:=yQ (c:=10) T.cps.toList;obtain⟨f,n1,n2⟩:=wC e;have w:=h.wr l hl;have tl:=h.len;rw[zq]at tl;rw[e]at hl
 have inf:∃u v,T.cps.toList=u++l++v:=by
  rcases CF.mp hl with rfl |hl
  ·exact⟨[],_,f⟩
  ·obtain⟨t1,t2,rfl⟩:=J_ hl;refine⟨g++(t1.map (10 :: ·)).flatten++[10],(t2.map (10 :: ·)).flatten,?_⟩;rw[f,CJ,CO,EC,dQ]
   simp
 obtain⟨u,v,ei⟩:=inf;refine⟨?_,w,h.dr.infix ei,?_⟩
 ·rcases CF.mp hl with rfl |hl
  ·exact n1
  ·exact n2 l hl
 ·rw[ei,CA,CA]at tl;lia
theorem uj.rowB (h:uj T)(hl:l∈uO 10 T.cps.toList):p6 l:=by
 obtain⟨a,b,c,d⟩:=h.row hl;exact⟨a,by lia,c.le (by decide),by lia⟩
theorem JF {w:List Nat}{ws:List (List Nat)}(h:∀l∈w::ws,p6 l)(few:ws.length<=20)(ez:z.cps.toList=w++(ws.map (10 :: ·)).flatten):G0 z:=by
 have es:=Wf (c:=10) (w:=w) (rest:=ws) (h w CG).no λv hv=>(h v (CK _ hv)).no;rw[<- ez]at es
 have ln:∀(us:List (List Nat)),(∀l∈us,p6 l)->((us.map (10 :: ·)).flatten).length<=80007*us.length:=λus hu=>by
  induction us with
  |nil=>exact Cz _
  |cons u us ih=>
   have i:=ih λl hl=>hu l (CK _ hl);have:=(hu u CG).len;rw[CO,dQ,CA,CY,CY];lia
 refine Yx ?_ ?_ (λr hr=>?_) (.inl ?_)
 ·have:=ln ws λl hl=>h l (CK _ hl);have:=(h w CG).len;rw[zq,ez,CA];have:80007*ws.length<=80007*20:=Iy _ few;lia
 ·have:=kc z.cps.toList;rw[es,CY]at this;lia
 ·rw[es]at hr;exact CD (h r hr).wc (by decide)
 ·rw[ez];clear es ez few
  induction ws generalizing w with
  |nil=>
   rw[DD,eF,dy];exact(h w CG).dr
  |cons v ws ih=>
   rw[CO,dQ,Dw];exact(h w CG).dr.sep (ih (w:=v) (λl hl=>h l (CK _ hl))) rfl
theorem wD (y:af)(w:af)(ws:List af):(glued y (w::ws)).cps.toList=ko y.cps.toList w.cps.toList (QJ ws):=by
 have:=QL y w ws;unfold ko QJ;rw[dh];exact this
theorem QX (z o n:af):∃h t,z.cps.toList=ko o.cps.toList h t/\(sG z o n).cps.toList=ko n.cps.toList h t:=by
 have one:∀y:List Nat,ko y z.cps.toList []=z.cps.toList:=λy=>by unfold ko;rw[DD,eF,dy]
 unfold sG;split
 ·exact⟨z.cps.toList,[],(one _).symm,(one _).symm⟩
 ·have e:=StrLaws.glued_between_self z o (z.length+1)
  cases q:b_ z (occurrences z o 0 z.length (z.length+1)) o.length with
  |nil=>
   rw[q]at e;refine⟨[],[],?_,Z⟩;rw[<- e];rfl
  |cons w ws=>
   rw[q]at e;refine⟨w.cps.toList,QJ ws,?_,wD n w ws⟩;rw[<- wD,e]
theorem vb (o h v:List Nat)(t:List (List Nat)):ko o h (v::t)=h++(o++ko o v t):=by
 unfold ko;rw[CO,dQ,dc]
theorem vZ (o h:List Nat):ko o h []=h:=by
 unfold ko;rw[DD,eF,dy]
section
variable {o n:List Nat}
theorem pQ (hn:n.count 10=0):∀(t:List (List Nat)) (h:List Nat),(ko n h t).count 10<=(ko o h t).count 10:=by
 intro t
 induction t with
 |nil=>intro h;rw[vZ,vZ];exact Cz _
 |cons v t ih=>
  intro h;rw[vb,vb,DP,DP,DP,DP,hn];have:=ih v;lia
theorem GO (ho:1<=o.length)(hn:n.length<=4):∀(t:List (List Nat)) (h:List Nat),(ko n h t).length<=4*(ko o h t).length:=by
 intro t
 induction t with
 |nil=>intro h;rw[vZ,vZ];lia
 |cons v t ih=>
  intro h;rw[vb,vb,CA,CA,CA,CA];have:=ih v;lia
theorem tS (hn:Mr n)(ne:n≠[]):∀(t:List (List Nat)) (h:List Nat),DR N (ko o h t)->DR N (ko n h t):=by
 intro t
 induction t with
 |nil=>intro h q;rw[vZ]at q ⊢;exact q
 |cons v t ih=>
  intro h q;rw[vb]at q ⊢;exact(q.infix (u:=[]) (m:=h) (v:=o++ko o v t) Z).seps (ih v (q.infix (u:=h++o) (m:=ko o v t) (v:=[]) (by simp))) hn ne
theorem Nl:∀(t:List (List Nat)) (h:List Nat),DR N (ko o h t)->DR (N+3) ([48,48]++ko [48,46,48,48] h t):=by
 intro t
 induction t with
 |nil=>
  intro h q;rw[vZ]at q ⊢;exact((DR.len (l:=[48,48])).app q).le (by show 2+N<=_;lia)
 |cons v t ih=>
  intro h q;rw[vb]at q ⊢;have a:=q.infix (u:=[]) (m:=h) (v:=o++ko o v t) rfl;have b:=ih v (q.infix (u:=h++o) (m:=ko o v t) (v:=[]) (by simp));have c:=((DR.len (l:=[48,48])).app (a.app (DR.len (l:=[48])))).le (show 2+(N+1)<=N+3 by lia);have:=c.sep b (x:=46) rfl;refine Eq.mp (G' _ ?_) this
  simp
theorem gR {x:Nat}(hn:¬x∈n):∀(t:List (List Nat)) (h:List Nat),¬x∈h->(∀v∈t,¬x∈v)->¬x∈ko n h t:=by
 intro t
 induction t with
 |nil=>intro h q _;rw[vZ];exact q
 |cons v t ih=>
  intro h q r m;rw[vb]at m;rcases CU.mp m with m |m
  ·exact q m
  ·rcases CU.mp m with m |m
   ·exact hn m
   ·exact ih v (r v CG) (λu hu=>r u (CK _ hu)) m
theorem MG {x:Nat}:∀(t:List (List Nat)) (h:List Nat),¬x∈ko o h t->¬x∈h/\∀v∈t,¬x∈v:=by
 intro t
 induction t with
 |nil=>intro h q;rw[vZ]at q;exact⟨q,λv hv=>nomatch hv⟩
 |cons v t ih=>
  intro h q;rw[vb]at q;obtain⟨a,b⟩:=ih v λm=>q (dm _ (dm _ m));refine⟨λm=>q (dX _ m),λu hu=>?_⟩;rcases CF.mp hu with rfl |hu
  ·exact a
  ·exact b u hu
structure W7 (N:Nat)(o n:List Nat):Prop where
 st:∀s s',Mu s' s->Mu (n.foldl Qj s') (o.foldl Qj s)
 fit:∀s,uS N o s->uS N n s
def Zf (l:List Nat):Bool:=!l.isEmpty&&l.all λc=>decide (c≠10)&&decide (c≠32)
theorem vq:∀{l:List Nat} {s:Nat×Nat},Zf l=true->l.foldl Qj s=(s.1+s.2,0)/\∀N,uS N l s↔s.1<=N/\s.1+s.2<=N:=by
 intro l
 induction l with
 |nil=>intro s h;cases h
 |cons x l ih=>
  intro s h;unfold Zf at h;simp only[CW,dA,decide_eq_true_iff,CF,forall_eq_or_imp]at h;obtain⟨_,⟨x1,x2⟩,r⟩:=h;have e:Qj s x=(s.1+s.2,0):=by unfold Qj;rw[K' x1,K' x2]
  cases l with
  |nil=>
   refine⟨e,λN=>?_⟩;show s.1<=N/\(Qj s x).1<=N↔_;rw[e]
  |cons y l=>
   have hl:Zf (y::l)=true:=by
    unfold Zf;simp only[CW,dA,decide_eq_true_iff];exact⟨Z,r⟩
   obtain⟨i1,i2⟩:=ih (s:=Qj s x) hl;refine⟨?_,λN=>?_⟩
   ·rw[dU,i1,e];rfl
   ·show s.1<=N/\uS N (y::l) (Qj s x)↔_;rw[i2,e];show s.1<=N/\s.1+s.2<=N/\s.1+s.2+0<=N↔_;rw[Nat.add_zero];exact⟨λq=>⟨q.1,q.2.1⟩,λq=>⟨q.1,q.2,q.2⟩⟩
theorem jZ (ho:Zf o=true)(hn:Zf n=true):W7 N o n:=⟨λs s' h=>by
 rw[(vq ho).1,(vq hn).1]
 exact⟨h.2,h.2⟩,λs h=>by
 rw[(vq hn).2];exact((vq ho).2 N).mp h⟩
theorem pJ (ho:Zf o=true):W7 N o []:=⟨λs s' h=>by
 rw[(vq ho).1];exact⟨CD (De _ _) h.2,h.2⟩,λs h=>(((vq ho).2 N).mp h).1⟩
theorem O7:W7 N [32,32] [32]:=⟨λs s' h=>⟨h.1,E6 h.1 1⟩,λs h=>⟨h.1,h.1⟩⟩
theorem ma (w:W7 N o n){h:List Nat}{t:List (List Nat)}(q:WR N (ko o h t)):WR N (ko n h t):=by
 rw[Lm]at q ⊢;exact mU w.st w.fit ⟨Cz _,Cz _⟩ q
end
theorem Xi (z:af)(c:Nat){n:af}(hn:¬c∈n.cps.toList):¬c∈(sG z ⟨#[c]⟩ n).cps.toList:=by
 obtain⟨h,t,e⟩:=yQ (c:=c) z.cps.toList;obtain⟨f,n1,n2⟩:=wC e
 have pc:QJ (b_ z (occurrences z ⟨#[c]⟩ 0 z.length (z.length+1)) 1)=h::t:=by
  unfold QJ;rw[QK,UM];have:=Wy t h n1 n2;rw[<- f]at this;exact this
 unfold sG;split
 ·rename_i q;rw[fB]at q;rcases q with q |q
  ·rw[fF.mp q]at pc;have e1:b_ z [] 1=[SQ z 0 z.length]:=rfl;rw[e1]at pc;have e2:(SQ z 0 z.length).cps.toList=h:=(aT pc).1
   have e3:SQ z 0 z.length=z:=by
    have:z.cps.extract 0 z.length=z.cps:=Kb;show(⟨_⟩:af)=z;rw[this]
   rw[e3]at e2;rw[e2];exact n1
  ·have:((1:Nat)==0)=true:=(eI.mp q).1;cases this
 ·cases q:b_ z (occurrences z ⟨#[c]⟩ 0 z.length (z.length+1)) (⟨#[c]⟩:af).length with
  |nil=>
   have q':b_ z (occurrences z ⟨#[c]⟩ 0 z.length (z.length+1)) 1=[]:=q;rw[q']at pc;cases pc
  |cons w ws=>
   have q':b_ z (occurrences z ⟨#[c]⟩ 0 z.length (z.length+1)) 1=w::ws:=q;rw[q']at pc;have p1:w.cps.toList=h:=(aT pc).1;have p2:QJ ws=t:=(aT pc).2;rw[wD,p1,p2];exact gR hn t h n1 n2
theorem uz {o n:af}(h:uj T)(lo:1<=o.cps.toList.length)(ln:n.cps.toList.length<=4)(c0:n.cps.toList.count 10=0)(w:W7 14 o.cps.toList n.cps.toList)(d:(Mr n.cps.toList/\n.cps.toList≠[])∨(o = "-"/\n.cps.toList=[])):G0 (sG T o n):=by
 obtain⟨g,t,e1,e2⟩:=QX T o n;have h1:=h.len;rw[zq]at h1;refine Yx ?_ ?_ ?_ ?_
 ·have:=GO lo ln t g;rw[<- e1,<- e2]at this;rw[zq];lia
 ·have:=pQ (o:=o.cps.toList) c0 t g;rw[<- e1,<- e2]at this;have:=h.nl;lia
 ·have:=h.wr;rw[e1]at this;rw[e2];exact(ma w this).le (by decide)
 ·rcases d with⟨d1,d2⟩ |⟨rfl,d2⟩
  ·have:=h.dr;rw[e1]at this;rw[e2];exact .inl ((tS d1 d2 t g this).le (by decide))
  ·refine .inr (Xi T 45 λm=>?_);rw[d2]at m;cases m
theorem NJ {r:af}(h:uj T)(hr:r.cps.toList∈uO 10 T.cps.toList):p6 (sG r "-" "0.00").cps.toList:=by
 obtain⟨r1,r2,r3,r4⟩:=h.row hr;obtain⟨g,t,e1,e2⟩:=QX r "-" "0.00";have o:("-":af).cps.toList=[45]:=by decide+kernel
 have n:("0.00":af).cps.toList=[48,46,48,48]:=by decide+kernel
 rw[o]at e1;rw[n]at e2;rw[e1]at r1 r3 r4;have s:=MG t g r1;rw[e2];refine⟨gR (by decide) t g s.1 s.2,?_,?_,?_⟩
 ·have w:WR 14 (ko [45] g t):=λx hx=>by
   rw[Zo r1,du]at hx;rw[hx,<- e1];exact r2
  have:=ma (n:=[48,46,48,48]) (jZ (by decide) (by decide)) w;have q:=this (ko [48,46,48,48] g t) (by rw[Zo (gR (by decide) t g s.1 s.2)];exact CG);lia
 ·exact(Nl t g r3).infix (u:=[48,48]) (v:=[]) (by simp)
 ·have:=GO (o:=[45]) (n:=[48,46,48,48]) (by decide) (by decide) t g;lia
theorem PR {r:af}(h:uj T)(hr:r.cps.toList∈uO 10 T.cps.toList):p6 (32::r.cps.toList):=by
 obtain⟨r1,r2,r3,r4⟩:=h.row hr;refine⟨λm=>?_,?_,?_,by rw[CY];lia⟩
 ·rcases CF.mp m with m |m
  ·cases m
  ·exact r1 m
 ·show(if (32:Nat)=32 then wc 1 r.cps.toList else _)<=16;rw[L' rfl];lia
 ·exact((DR.nod (l:=[]) (λx hx=>nomatch hx)).le (CP _)).sep (r3.le (by decide)) (x:=32) rfl
theorem lO {r:af}(h:uj T)(hr:r.cps.toList∈uO 10 T.cps.toList):p6 (r.cps.toList++[32,32,48,46,48,48]):=by
 obtain⟨r1,r2,r3,r4⟩:=h.row hr;refine⟨λm=>?_,?_,?_,by rw[CA];show _+6<=_;lia⟩
 ·rcases CU.mp m with m |m
  ·exact r1 m
  ·exact M' m (by decide)
 ·have:=(Tx r.cps.toList [32,32,48,46,48,48]).2.2;have:wc 1 [32,32,48,46,48,48]=1:=by decide
  lia
 ·exact(r3.le (by decide)).sep ((DR.len (l:=[32,48,46,48,48])).le (by decide)) (x:=32) rfl
theorem xr:p6 []:=⟨λm=>(nomatch m),CP _,(DR.nod (l:=[]) (λx hx=>nomatch hx)).le (CP _),CP _⟩
end Pg
namespace L2
open PySem
end L2
namespace Pg
open PySem L2 Builtin Builtin.Str
end Pg
namespace Pg
end Pg
namespace L2
open PySem PySem.Spec PyProof.Rows
inductive Sm (K:BFr)(H:Hp):Nat->V->V->Prop where
 |v {n:Nat} {x:V}:jj x=true->Sm K H n x x
 |r {n:Nat} {a:aj}:Sm K H n (.ref a) (.ref a)
 |l {n:Nat} {a b:aj} {xs ys:List V}:zL K H a xs->zL K H b ys->xs.length=ys.length->(∀(j:Nat) x y,xs[j]?=some x->ys[j]?=some y->Sm K H n x y)->Sm K H (n+1) (.ref a) (.ref b)
section
end
section
end
open PyProof
section
end
end L2
namespace Pg
open PySem PySem.NumText L2 Builtin Builtin.Str
theorem GY:∀{zs:List Int},Js zs=true->zs.Pairwise (· < ·)
 |[],_=>iH
 |[p],_=>Ka (λ_ h=>nomatch h) iH
 |p::q::r,h=>by
  have h:(decide (p<q)&&Js (q::r))=true:=h;rw[CW]at h;have lt:=B' h.1;have ih:=GY h.2;refine Ka (λx hx=>?_) ih;rcases CF.mp hx with rfl |hx
  ·exact lt
  ·exact Int.lt_trans lt ((Dx.mp ih).1 x hx)
theorem LZ:∀{zs:List Int},zs.Pairwise (· < ·)->Js zs=true
 |[],_=>rfl
 |[_],_=>rfl
 |a::b::l,h=>by
  obtain⟨h1,h2⟩:=Dx.mp h;show(decide (a<b)&&Js (b::l))=true;rw[i' (h1 b CG),LZ h2];rfl
end Pg
namespace Pg
open PySem L2 PySem.NumText
def Qb:Sp:=λvs H Q _=>∃z,vs=[.str z]/\z.length<=2000000/\∀r H',zj H H'->H r=none->H' r=some (.lst ((nZ z).map V.str))->Q (.ref r) H'
def gh:Sp:=λvs H Q _=>∃z,vs=[.str z]/\z.length<=2000000/\∀H',zj H H'->Q (.bl (vR z)) H'
def m6 (cT:aj):Sp:=λvs H Q E=>∃(a:aj) (ws:List af),vs=[.ref a]/\H a=some (.lst (ws.map V.str))/\ws.length<=100/\(∀w∈ws,w.length<=2000000)/\∀H',zj H H'->((yH ws).all vR=true->∀r,H r=none->H' r=some (.lst ((yH ws).map V.str))->Q (.ref r) H')/\((yH ws).all vR=false->E (.ref cT) none H')
def UG (cT:aj):Sp:=λvs H Q E=>∃(a b:aj) (ws ns:List af),vs=[.ref a,.ref b]/\H a=some (.lst (ws.map V.str))/\H b=some (.lst (ns.map V.str))/\ws.length<=100/\ns.length<=100/\(∀w∈ws,w.length<=2000000)/\(∀s v H',oB ns ws s->zj H H'->VV H' v s->Q v H')/\((∀s,¬oB ns ws s)->∀H',zj H H'->E (.ref cT) none H')
def UY (K:BFr)(cT:aj):Sp:=λvs H Q E=>∃v,vs=[v]/\((u9 K H v/\E (.ref cT) none H)∨∃z,v=.str z/\G0 z/\(∀S l ys H',jN z S->zj H H'->H l=none->H' l=some (.lst ys)->yC H' ys S->Q (.ref l) H')/\((∀S,¬jN z S)->∀H',zj H H'->E (.ref cT) none H'))
def Gn:Sp:=λvs H Q _=>∃z,vs=[.str z]/\G0 z/\(∀S l ys H',jN z S->zj H H'->H l=none->H' l=some (.lst ys)->yC H' ys S->Q (.ref l) H')/\((∀S,¬jN z S)->∀H',zj H H'->Q .non H')
def xc:Sp:=λvs H Q _=>∃(a:aj) (ws:List af),vs=[.ref a]/\H a=some (.lst (ws.map V.str))/\ws.length<=100/\(∀w∈ws,w.length<=2000000)/\∀H',zj H H'->Q (.bl (ws.all vR)) H'
def xw:Sp:=λvs H Q _=>∃z n,vs=[.str z,.int n]/\uj z/\0<=n/\n<2147483629/\∀x H',G0 x->zj H H'->Q (.str x) H'
def U6 (K:BFr):Sp:=λvs H Q _=>∃v,vs=[v]/\((u9 K H v/\∀t l H',zj H H'->H' t=some (.tup [.ref l])->H' l=some (.lst (xn 2))->Q (.ref t) H')∨∃z,v=.str z/\G0 z/\(∀S l ys H',jN z S->zj H H'->H l=none->H' l=some (.lst ys)->yC H' ys S->Q (.ref l) H')/\((∀S,¬jN z S)->∀t l H',zj H H'->H' t=some (.tup [.ref l])->H' l=some (.lst (xn 2))->Q (.ref t) H'))
def GK (K:BFr):Sp:=λvs H Q _=>∃(l:aj) (ys:List V) (S:List yZ),vs=[.ref l]/\H l=some (.lst ys)/\yC H ys S/\S.length<=100/\(∀s∈S,s.ds.length<=100)/\∀H',zj H H'->Q (.bl true) H'
def oF (K:BFr):Sp:=λvs H Q _=>∃(a:aj) (ns:List Int),vs=[.ref a]/\zL K H a (ns.map V.int)/\∀(S:List yZ) (r:aj) (ys:List V) (H':Hp),S.length<=15->(∃nms,vA nms S)->Bz S->(∀qs,qs.Perm (yY S)->lQ qs->kA (yD S qs) S qs/\uj (yD S qs))->zj H H'->H r=none->H' r=some (.lst ys)->yC H' ys S->Q (.ref r) H'
theorem YK (ws:List af):wN (ws.map V.str) (some 2) (some (-1))=(yH ws).map V.str:=by
 unfold wN yH;have e1:HT.vQ (ws.map V.str).length 0 (some 2)=min 2 ws.length:=by rw[Cw];exact HT.jU _ _ 2
 have e2:HT.vQ (ws.map V.str).length (ws.map V.str).length (some (-1))=ws.length-1:=by rw[Cw];exact kh _ _ 1 (by decide)
 rw[e1,e2,EI,Eh,SW]
 by_cases h:2<=ws.length
 ·rw[Dp h]
 ·have l1:((ws.map V.str).drop (min 2 ws.length)).length=0:=by rw[dB,Cw];lia
  have l2:((ws.map V.str).drop 2).length=0:=by rw[dB,Cw];lia
  rw[Dd.mp l1,Dd.mp l2,ff,ff]
theorem YU (vs:List V):wN vs (some 1) (some (-1))=(vs.take (vs.length-1)).drop 1:=by
 unfold wN;have e1:HT.vQ vs.length 0 (some 1)=min 1 vs.length:=HT.jU _ _ 1;have e2:HT.vQ vs.length vs.length (some (-1))=vs.length-1:=kh _ _ 1 (by decide);rw[e1,e2,SW]
 by_cases h:1<=vs.length
 ·rw[Dp h]
 ·rw[Dd.mp (show vs.length=0 by lia)];rfl
theorem Vs (T:qG H ys W'):qG H ((ys.take (ys.length-1)).drop 1) (vU W'):=by
 unfold vU;rw[T.len];refine⟨by rw[dB,dB,CQ,CQ,T.len],λi r e=>?_⟩;rw[E5,fO]at e ⊢
 split at e
 ·rename_i h;rw[L' h];exact T.at_ _ r e
 ·cases e
theorem LN (ns ws:List af):(((ns.map V.str).zip (ws.map V.str)).filter λq=>!decide (q.2=V.str "-")).map (λq=>[q.1,q.2])=((ns.zip ws).filter uh).map λp=>[V.str p.1,V.str p.2]:=by
 induction ns generalizing ws with
 |nil=>rfl
 |cons a ns ih=>
  cases ws with
  |nil=>rfl
  |cons u ws=>
   rw[CO,CO,Ek,Ek]
   have e:(!decide (V.str u=V.str "-"))=uh (a,u):=by
    unfold uh;rw[show decide (V.str u=V.str "-")=decide (u = "-") from decide_eq_decide.mpr ⟨λh=>V.str.inj h,λh=>by rw[h]⟩]
   cases q:uh (a,u) with
   |true=>
    rw[q]at e;rw[eG (p:=λq:V×V=>!decide (q.2=V.str "-")) (a:=(V.str a,V.str u)) e,eG q,CO,CO,ih]
   |false=>
    rw[q]at e;rw[Ej (p:=λq:V×V=>!decide (q.2=V.str "-")) (a:=(V.str a,V.str u)) (by rw[e];exact CZ),Ej (by rw[q];exact CZ),ih]
theorem L9 {k:Nat}(h:ws.length=k+1):atI (ws.map V.str) (-1)=some (.str (ws.getD k aC)):=by
 rcases DN ws with rfl |⟨r,x,rfl⟩
 ·cases h
 ·rw[DC]at h ⊢;have e:r.length=k:=by rw[CA]at h;exact v_ h
  rw[CJ];refine(Ws _ _).trans ?_;rw[dD,dk (by lia),e,eP];rfl
theorem OO {A:α->β->Prop}{B:Hp->V->β->Prop}:∀{xs:List α} {zs:List V},Rp H zs xs (λH v x=>∃s,A x s/\B H v s)->∃S:List β,S.length=xs.length/\(∀(i:Nat) x,xs[i]?=some x->∃s,S[i]?=some s/\A x s)/\∀(i:Nat) v,zs[i]?=some v->∃s,S[i]?=some s/\B H v s:=by
 intro xs
 induction xs with
 |nil=>
  intro zs M;have:zs=[]:=Dd.mp M.len;subst this;exact⟨[],Z,(λi x h=>nomatch h),λi v h=>nomatch h⟩
 |cons x xs ih=>
  intro zs M
  cases zs with
  |nil=>cases M.len
  |cons z zs=>
   obtain⟨u,h1,s,h2,h3⟩:=M.at_ 0 x rfl;cases h1;obtain⟨S,l,a,b⟩:=ih (zs:=zs) ⟨v_ M.len,λi y h=>M.at_ (i+1) y h⟩;refine⟨s::S,by rw[CY,CY,l],λi y h=>?_,λi v h=>?_⟩
   ·cases i with
    |zero=>
     cases h;exact⟨s,Z,h2⟩
    |succ i=>exact a i y h
   ·cases i with
    |zero=>
     cases h;exact⟨s,Z,h3⟩
    |succ i=>exact b i v h
theorem LY:∀ws∈uL z,∀w∈ws,w.length<=z.length:=λws h w hw=>by
 obtain⟨r,hr,rfl⟩:=CB.mp h;obtain⟨_,k1,_⟩:=jy z "\n";obtain⟨_,k2,_⟩:=jy r " ";exact CD (k2 w (DF.mp hw).1) (k1 r hr)
theorem WJ {rs:List (List af)}(h:ws∈vU rs):ws∈rs:=DO (eR h)
theorem Y8 (rs:List (List af)):(vU rs).length<=rs.length:=by
 unfold vU;rw[dB,CQ];omega
theorem UD (ws:List af):(yH ws).length<=ws.length:=by
 unfold yH;rw[dB,CQ];omega
theorem bD (k:XF H H'):KT H H':=λb c=>⟨λh=>k b _ h (by intro xs z;cases z),λo h=>k b _ h (by intro xs z;cases z)⟩
theorem Pz {S T:List yZ}{rest:List (List af)}(e:uL z=r0::rest)(l:S.length=(vU (uL z)).length)(h:∀(i:Nat) ws,(vU (uL z))[i]?=some ws->∃s,S[i]?=some s/\oB (yH r0) ws s)(q:jN z T):T=S:=by
 obtain⟨qs,q⟩:=q;have l2:T.length=(vU (uL z)).length:=by rw[q.rows,Cw]
 refine Dj λi=>?_
 by_cases hi:i<(vU (uL z)).length
 ·obtain⟨t,e1,p1,_⟩:=q.at_P (CC hi);obtain⟨s,e2,p2⟩:=h i _ (CC hi);rw[q.head e]at p2;rw[e1,e2,p1.uniq p2]
 ·rw[dO (by lia),dO (by lia)]
theorem Xh {S:List yZ}(few:S.length<=50)(l63:nms.length<=63)(ng:∀w∈nms,vR w=true)(h:∀s∈S,Mq s/\(s.ds.map (·.1)).Sublist nms):vA nms S:=by
 have sm:∀{x:Int},VX x->Sm x:=λh=>by unfold Sm;unfold VX at h;lia
 refine⟨few,l63,λw hw=>CD (Uz (ng w hw)).2.2 (by decide),λs hs=>?_⟩;obtain⟨g,sb⟩:=h s hs;have:=sb.length_le;rw[Cw]at this;exact⟨g.m0,g.m1,sm g.b,sm g.n,λp hp=>sm (g.ds p hp),λp hp=>sb.subset (CB.mpr ⟨p,hp,Z⟩),by lia⟩
def BN (l:List Nat):Prop:=∀c∈l,97<=c/\c<=122
theorem TK (h:97<=c/\c<=122):Ub sgL c=true:=by
 have:c∈sgL.cps.toList:=by
  rw[show sgL.cps.toList=Ia 97 26 by decide+kernel];exact List.mem_range'_1.mpr (by lia)
 exact Es.mpr this
theorem oJ (h:BN z.cps.toList)(h1:1<=z.length)(h2:z.length<=8):vR (Yh z)=true:=by
 cases c:Xq z with
 |true=>
  have m:=oH c;unfold resv at m;simp only[CF,dw,or_false]at m;rcases m with rfl |rfl |rfl |rfl<;>decide+kernel
 |false=>
  have e:Yh z=z:=jd (by rw[ur,c];simp);rw[e];unfold vR wB;rw[c,i' h1,i' h2];simp only[dR,Bool.not_false,Bool.and_true,dA];exactλx hx=>TK (h x hx)
theorem tR {i:Int}:97<=97+(i%26).toNat/\97+(i%26).toNat<=122:=by
 have:=dH i (show(0:Int)<26 by decide);have:=dG i (show(26:Int)≠0 by decide);lia
theorem mR {a:af}{x:Int}(h:BN a.cps.toList)(h7:a.length<=7)(k:Nat):vR (Yh (Gw a at' x k))=true:=by
 have e:(Gw a at' x k).cps.toList=a.cps.toList.take (HT.vQ a.cps.toList.length a.cps.toList.length (some at'))++([97+((x+7*(k:Nat))%26).toNat]++a.cps.toList.drop (HT.vQ a.cps.toList.length a.cps.toList.length (some at'))):=by
  rw[um,qk,qk];unfold we;rw[HT.yN,HT.yN,Dv,DM]
  congr 2
  exact dW (by rw[dB];exact Cz _)
 have l:(Gw a at' x k).length=a.length+1:=by
  rw[zq,e,CA,CA,dN,zq,CQ,dB];lia
 refine oJ (λc hc=>?_) (by lia) (by lia);rw[e]at hc;rcases CU.mp hc with m |m
 ·exact h c (DO m)
 ·rcases CU.mp m with m |m
  ·rw[du.mp m];exact tR
  ·exact h c (eR m)
theorem PF (f:Int)(k:Nat):vR (Yh (GR f k))=true:=by
 have e:=uq f k;have l:=oz f k;refine oJ (λc hc=>?_) (by rw[zq,e,Dh];lia) l;rw[e]at hc;rw[(EF.mp hc).2];exact tR
def Vl:Sp:=λvs H Q _=>∃n k,vs=[.int n,.int k]/\0<=n/\n<2147483629/\0<=k/\k<=11/\∀(nms:List af) (r:aj) (H':Hp),nms.length=k.toNat->nms.Nodup->(∀z∈nms,vR z=true)->zj H H'->H r=none->H' r=some (.lst (nms.map V.str))->Q (.ref r) H'
end Pg
namespace L2
open PySem PySem.Spec PyProof.Rows
theorem Vj {K:BFr}(ha:zL K H a xs)(hb:zL K H b ys)(hD:H D=none)(hz:xs.length<ar)(hxy:xs.length=ys.length)(p:V->V->Bool)(ht:∀(i:Nat) x y,xs[i]?=some x->ys[i]?=some y->∀H' R,zj H H'->R (p x y) H'->tt ((σ.set 0 (some x)).set 1 (some y)) H' R)(he:∀(i:Nat) x y,xs[i]?=some x->ys[i]?=some y->∀H' R,zj H H'->(∀c H'',zj H' H''->H'' c=some (.tup [x,y])->R (.ref c) H'')->te ((σ.set 0 (some x)).set 1 (some y)) H' R)(hf:∀zs H',zj H H'->H' D=some (.lst zs)->z4 H' zs (((H_ xs ys).filter λq=>p q.1 q.2).map λq=>[q.1,q.2])->P' zs H'):
  yF (Bo K a b) D (uQ K 2 (qN (zO 0) (qN (zO 1) wj))) tt te P' σ (upd H D (.lst [])):=by
 refine⟨λi m zs σ' H'=>m=xs.length-i/\i<=xs.length/\(∀x y,(σ'.set 0 x).set 1 y=(σ.set 0 x).set 1 y)/\zj H H'/\H' D=some (.lst zs)/\zs.length<=i/\z4 H' zs (((H_ (xs.take i) (ys.take i)).filter λq=>p q.1 q.2).map λq=>[q.1,q.2]),⟨xs.length,by simp,CP _,λ_ _=>rfl,zj.upd hD,zt,Cz _,z4.nil⟩,λi m zs σ H hM=>by obtain⟨_,_,_,_,h,_⟩:=hM;exact h,?_⟩;rintro i m zs σ' H' ⟨rfl,hi,hσ,s,hd,zl,T⟩
 by_cases γ:i<xs.length
 ·have hx:=CC γ;have hy:=CC (show i<ys.length from hxy ▸ γ);have tx:xs.take (i+1)=xs.take i++[xs[i]]:=by rw[dS,hx];rfl
  have ty:ys.take (i+1)=ys.take i++[ys[i]]:=by rw[dS,hy];rfl
  have tz:H_ (xs.take (i+1)) (ys.take (i+1))=H_ (xs.take i) (ys.take i)++[(xs[i],ys[i])]:=by
   rw[tx,ty,List.zip_append (by rw[CQ,CQ];lia)];rfl
  refine .inr ⟨⟨xs,ys,_,_,s.seq ha,s.seq hb,hx,hy⟩,λzs' σ2 H2=>(∀x y,(σ2.set 0 x).set 1 y=(σ.set 0 x).set 1 y)/\zj H H2/\H2 D=some (.lst zs')/\zs'.length<=i+1/\z4 H2 zs' (((H_ (xs.take (i+1)) (ys.take (i+1))).filter λq=>p q.1 q.2).map λq=>[q.1,q.2]),λzs' σ2 H2 p=>⟨xs.length-(i+1),by lia,Z,γ,p⟩,λv H'' hy'=>?_⟩;obtain⟨c,x,y,e1,e2,e3,e4⟩:=hy';obtain⟨e5,e6⟩:=e4 xs ys (s.seq ha) (s.seq hb);subst e1 e3;rw[hx]at e5;rw[hy]at e6;cases e5;cases e6;refine⟨c,_,Z,yT.of zt,Z,_,_,Z,_,_,Z,Z,?_⟩;have s2:zj H' (upd H' c (.tup [xs[i],ys[i]])):=zj.upd e2;show tt ((σ'.set 0 _).set 1 _) _ _;rw[hσ]
  have Δ:∀x y,((((σ.set 0 (some xs[i])).set 1 (some ys[i])).set 0 x).set 1 y)=(σ.set 0 x).set 1 y:=λx y=>by
   rcases σ with _ |⟨_,_ |⟨_,_⟩⟩<;>rfl
  refine ht i _ _ hx hy _ _ (s.trans s2) ?_
  cases q:p xs[i] ys[i] with
  |true=>
   refine yh (he i _ _ hx hy _ _ (s.trans s2) λu H3 s3 hu=>⟨s3 _ _ (s2 _ _ hd),by lia,Δ,λb o z=>?_,zt,?_,?_⟩)
   ·rw[zx (zo z hD)];exact s3 _ _ (s2 _ _ (s _ _ z))
   ·rw[CA,dN];lia
   ·have hd3:=s3 _ _ (s2 _ _ hd);rw[tz,DZ,CJ,eG (p:=λq:V×V=>p q.1 q.2) (a:=(xs[i],ys[i])) q,fZ];refine z4.snoc (((T.same s2).same s3).upd λc z'=>?_) ?_
    ·rw[hd3]at z'
     cases z'
    ·rw[zx (jH hu hd3 (by intro z;cases z))];exact hu
  |false=>
   refine qO ⟨Δ,s.trans s2,s2 _ _ hd,by lia,?_⟩;rw[tz,DZ,Ej (p:=λq:V×V=>p q.1 q.2) (a:=(xs[i],ys[i])) (by show ¬p xs[i] ys[i]=true;rw[q];exact CZ),fZ,dy];exact T.same s2
 ·have e:i=xs.length:=by lia
  subst e;refine .inl ⟨⟨xs,ys,s.seq ha,s.seq hb,.inl (Cz _)⟩,?_⟩;have e2:ys.take xs.length=ys:=by rw[hxy];exact dM
  rw[dM,e2]at T;exact hf zs H' s hd T
section
variable {J:It}{xs:List α}
theorem XX {K:BFr}{c1 c2:α->V}(W:QB J H ys)(T:z4 H ys (xs.map λx=>[c1 x,c2 x]))(hD:H D=none)(hz:xs.length<ar)(f:α->Option β)(g:β->List V)(he:∀x∈xs,∀H' R,zj H H'->(∀b c H'',f x=some b->zj H' H''->H'' c=some (.tup (g b))->R (.ref c) H'')->te ((σ.set 0 (some (c1 x))).set 1 (some (c2 x))) H' R)(hf:∀zs (bs:List β) H',zj H H'->H' D=some (.lst zs)->xs.map f=bs.map some->z4 H' zs (bs.map g)->P' zs H'):yF J D (uQ K 2 (qN (zO 0) (qN (zO 1) wj))) qA te P' σ (upd H D (.lst [])):=by
 have tl:ys.length=xs.length:=by rw[T.len,Cw]
 refine jz W hD (λi zs H'=>∃bs:List β,(xs.take i).map f=bs.map some/\z4 H' zs (bs.map g)) (λσ'=>∀x y,(σ'.set 0 x).set 1 y=(σ.set 0 x).set 1 y) (λ_ _=>rfl) ⟨[],Z,z4.nil⟩ ?_ ?_
 ·rintro i y zs σ' H' hy hσ s hd hl ⟨bs,eb,TB⟩;obtain⟨b,c,rfl,h1,h2⟩:=T.of_at hy;rw[CI]at h1;obtain⟨q,hq,rfl⟩:=CS.mp h1;have tk:xs.take (i+1)=xs.take i++[q]:=by rw[dS,hq];rfl
  have hi:i<xs.length:=(CV.mp hq).1;refine⟨b,_,Z,yT.of (s _ _ h2),Z,_,_,Z,_,_,Z,Z,Om ?_⟩;rw[hσ]
  have Δ:∀x y,((((σ.set 0 (some (c1 q))).set 1 (some (c2 q))).set 0 x).set 1 y)=(σ.set 0 x).set 1 y:=λx y=>by
   rcases σ with _ |⟨_,_ |⟨_,_⟩⟩<;>rfl
  refine he q (dv hq) _ _ s λv u H3 ev s3 hu=>⟨s3 _ _ hd,by lia,Δ,λb o z=>?_,zt,?_,bs++[v],?_,?_⟩
  ·rw[zx (zo z hD)];exact s3 _ _ (s _ _ z)
  ·rw[CA,dN];lia
  ·rw[tk,CJ,CJ,eb];show _++[f q]=_;rw[ev];rfl
  ·rw[CJ];refine z4.snoc ((TB.same s3).upd λc z'=>?_) ?_
   ·rw[s3 _ _ hd]at z'
    cases z'
   ·rw[zx (jH hu (s3 _ _ hd) (by intro z;cases z))];exact hu
 ·rintro zs H' s hd hl ⟨bs,eb,TB⟩;rw[tl,dM]at eb;exact hf zs bs H' s hd eb TB
end
section
variable {J:It}{xs:List α}{P:Hp->V->α->Prop}
def rF (D:aj)(H H':Hp):Prop:=∀b o,H b=some o->b≠D->H' b=some o
theorem WS (W:QB J H ys)(T:jq H ys xs P)(hD:H D=none)(hz:xs.length<ar)(S:Hp->V->α->Prop)(mono:∀{H H':Hp} {v:V} {x:α},rF D H H'->S H v x->S H' v x)(he:∀(i:Nat) x,xs[i]?=some x->∀v H' R,zj H H'->(∃zs,H' D=some (.lst zs))->P H' v x->(∀u H'',zj H' H''->S H'' u x->R u H'')->te (σ.set 0 (some v)) H' R)(hf:∀zs H',zj H H'->H' D=some (.lst zs)->zs.length=xs.length->(∀(i:Nat) u,zs[i]?=some u->∃x,xs[i]?=some x/\S H' u x)->P' zs H'):yF J D (zO 0) qA te P' σ (upd H D (.lst [])):=by
 refine jz W hD (λi zs H'=>zs.length=i/\∀(j:Nat) u,zs[j]?=some u->∃x,xs[j]?=some x/\S H' u x) (λσ'=>∀x,σ'.set 0 (some x)=σ.set 0 (some x)) (λ_=>rfl) ⟨Z,λi x h=>by cases h⟩ ?_ ?_
 ·rintro i y zs σ' H' hy hσ s hd hl ⟨zl,G⟩;obtain⟨x,hx,hP⟩:=T.at_ i y hy;have hi:i<xs.length:=(CV.mp hx).1;have Δ:∀z,(σ'.set 0 (some y)).set 0 (some z)=σ.set 0 (some z):=λz=>by rw[Ed];exact hσ z
  unfold JE zO;dsimp only;refine Om ?_;rw[hσ y]at Δ ⊢;refine he i x hx y _ _ s ⟨zs,hd⟩ (hP _ s) λu H3 s3 hu=>⟨s3 _ _ hd,by lia,Δ,λb o z=>?_,zt,?_,?_,λj w hw=>?_⟩
  ·rw[zx (zo z hD)];exact s3 _ _ (s _ _ z)
  ·rw[CA,dN];lia
  ·rw[CA,dN];lia
  ·have kp:rF D H3 (upd H3 D (.lst (zs++[u]))):=λb o e n=>by rw[zx n];exact e
   by_cases hj:j<zs.length
   ·rw[dF hj]at hw;obtain⟨x',h1,h2⟩:=G j w hw;exact⟨x',h1,mono (λb o e n=>kp b o (s3 _ _ e) n) h2⟩
   ·have hj:=dY hj;rw[dk hj]at hw
    cases q:j-zs.length with
    |zero=>
     rw[q]at hw;cases hw;have:j=i:=by lia
     subst this;exact⟨x,hx,mono kp hu⟩
    |succ n=>rw[q]at hw;cases hw
 ·rintro zs H' s hd hl ⟨zl,G⟩;exact hf zs H' s hd (by rw[zl,T.len]) G
end
theorem VJ:jL X (.builtin "isinstance") (λxs H Q=>∃a ts,xs=[.ref a,.ty "tuple"]/\yT X.K H a ts/\Q (.bl true) H):=by
 intro N' s σ H xs us Q I r h;obtain⟨a,ts,rfl,hq,q⟩:=h;obtain⟨u,v,rfl,ru,rv⟩:=GP r;cases ru;obtain rfl:v=iX "tuple":=rv;obtain⟨its,_,p,_⟩:=I.tuple hq;obtain⟨o,h1,h2,_⟩:=p;exact h_ IY I.kIn ⟨o,h1,h2⟩ (show aB X.K (.type "tuple") (.type "tuple")=some true from Z) (λz=>nomatch z) λtk=>⟨.bl true,H,I.tok tk,Z,q⟩
section
variable {nm q:af}{N:aj}{bs bm bmB:List ae}{hdct:Bool}{sn:List af}{sub:List ae}{ab:Bool}{col:Option Bool}{dd:Option aj}{k0 k1 k2 k3 k5:Option ae}{δ8:String}
end
section
variable {Q:Unit->av->Prop}{C:CT}[ct:YH C]
def Oj (C:CT)(X:Cx)(N':List (aj×iN))(H:Hp)(ea:aj)(cls fl:ae)(h:ia):Prop:=yj X N' H ea/\∃oe vs,h.get? ea=some oe/\(oe.cls=cls/\oe.dict=none)/\oe.data=.fields vs/\C H vs /\
 ∃T oT ts,vs[1]?=some (.ref T)/\T≠ea/\yj X N' H T/\h.get? T=some oT/\oT.data=.fields ts/\ts[3]?=some fl
omit ct in
theorem Oj.fly (F:Oj C X N' H ea cls fl h):kT C X N' H ea cls fl h:=by
 obtain⟨f0,oe,vs,he,hc,hd,h2,hh⟩:=F;exact⟨f0,oe,vs,he,hc,hd,h2,.inr hh⟩
omit ct in
theorem kT.head {L:aj}(F:kT C X N' H ea cls (iz L) h):Oj C X N' H ea cls (iz L) h:=by
 obtain⟨f0,oe,vs,he,hc,hd,h2,hh⟩:=F;rcases hh with⟨_,z⟩ |hh
 ·exact M' z (by simp[iz])
 ·exact⟨f0,oe,vs,he,hc,hd,h2,hh⟩
omit ct in
theorem MT {fr:Option aj}(I:zF X N' σ H s)(F:Oj C X N' H ea cls fl s.heap)(k:∀s',zF X N' σ H s'->Oj C X N' H ea cls (fr.elim .none λf=>iz f) s'.heap->Q () s'):wpAny M A (KL (.ref ea) fr) Q E s:=by
 obtain⟨f0,oe,vs,he,hc,hd,h2,T,oT,ts,h1,hne,fT,hT,hdT,h3⟩:=F;have hz:3<ts.size:=(DH.mp h3).1;unfold KL;refine aa (iw he hd h1 ?_);rw[L' (show(aG T != aS)=true by simp)];have oth:∀c,c≠T->(s.heap.update T (iZ (·.setIfInBounds 3 (fr.elim aS λf=>iz f)))).get? c=s.heap.get? c:=λc hc=>Du _ _ (iT hc);have hT':=DV (iZ (·.setIfInBounds 3 (fr.elim aS λf=>iz f))) hT (sQ (iY hdT _));refine Ax hT hdT hz (k _ (I.flown fT λc o hc q=>(oth c hc).trans q) ⟨f0,oe,vs,(oth ea (iT hne)).trans he,hc,hd,h2,T,_,_,h1,hne,fT,hT',iY hdT _,?_⟩)
 simp[hz]
omit ct in
end
section
variable {Ct:CT}[ct:YH Ct]{y:af}{E:XK}{t:TA}{e₀:aK}{rest:List aK}{np2 npos rpos:iS}{D:jY}
end
def rM (Ct:CT)(X:Cx)(Nc:List af)(scope:AW)(cl:List (af×aj))(C:aj)(fp:List aj)(s:av)(H:Hp)(E:XK):ae->av->Prop:=λe s' =>
 ∃(ea:aj) (cls fl:ae) (N':List (aj×iN)) (σ:St) (H':Hp),e=.ref ea/\zF (qo (λ_ _=>True) X Nc scope cl C fp s H) N' σ H' s'/\kT Ct (qo (λ_ _=>True) X Nc scope cl C fp s H) N' H' ea cls fl s'.heap/\E cls none H'
section
variable {g:TG}
theorem QT {E:XK}:jW Ct (qo (rM Ct X Nc scope cl C fp s H E) X Nc scope cl C fp s H) E:=by
 intro N' σ H' s' ea cls fl I F q;exact⟨ea,cls,fl,N',σ,H',Z,⟨⟨I.ok.mod,I.ok.kind,I.ok.glob,I.ok.blt,I.ok.above,I.ok.inj,I.ok.has,I.ok.cab,I.ok.hd,I.ok.frames,I.ok.stk,I.ok.exf,I.ok.bs,I.ok.bsz,I.ok.noex,I.ok.exfs,I.ok.funs,I.ok.frf⟩,I.os,I.bare,I.base,I.loc,I.cell,I.free,I.freeC,I.pin,I.hok,I.len⟩,F,q⟩
theorem UH [ct:YH Ct]{E:XK}{use:Option (ae->Sem Unit)}{H3:Hp}{s3:av}{x O':ae}(hE:jW Ct X E)(hst:X.stack=X.env::X.outer)(hf:X.env.frame=some X.env.locals)(I3:zF X N' σ H3 s3)(f3:∀b∈fp,yj X N' H3 b)(z:rM Ct X Nc scope cl s3.heap.objs.size fp s3 H3 E x s'):notedBy (az X.prog X.w) X.A (Ft scope cl s3.heap.objs.size X.env) (λe s''=>F7 (az X.prog X.w) X.A X.xe use Q O' s3.heap.objs.size (.error e) s'') x s':=by
 obtain⟨ea,cls,fl,γ9,σ',H',rfl,J',F',q⟩:=z;have J0:zF (qo (λ_ _=>True) X Nc scope cl s3.heap.objs.size fp s3 H3) [] σ' H' s':=⟨J'.ok,J'.os,J'.bare,J'.base,J'.loc,J'.cell,J'.free,J'.freeC,λp hp=>M' (show p∈([]:List (aj×iN)) from hp) (by simp),J'.hok,J'.len⟩;have nC:s3.heap.get? s3.heap.objs.size=none:=eV (Cz _);generalize s3.heap.objs.size=C at *;have IX:zF X N' σ H' s':=vF I3 f3 J0 (KA _ _);have fpC:yj X N' H' C:=I3.fpNone nC J0.free;obtain⟨m,hn,_⟩:=id J0.loc;obtain⟨oC,es,ep,eC,dC,rC⟩:=id hn
 have fpX:∀{b:aj},yj (qo (λ_ _=>True) X Nc scope cl C fp s3 H3) γ9 H' b->yj X N' H' b:=λ{b} f=>by
  rcases f.2.2.2.1 with z |z
  ·exact⟨f.1,(f3 b z).2⟩
  ·exact I3.fpNone z f.1
 have IXp:=IX.pinned (fp:=[C]) (λb hb'=>by obtain rfl:b=C:=(by simpa using hb');exact fpC) (λb hb'=>by obtain rfl:b=C:=(by simpa using hb');exact⟨oC,eC,λv z=>by rw[dC]at z;cases z⟩)
 have fpP:∀{b:aj},yj (qo (λ_ _=>True) X Nc scope cl C fp s3 H3) γ9 H' b->yj X (N'++vx [C] s'.heap) H' b:=λ{b} f=>by
  have g:=fpX f;refine⟨g.1,g.2.1,g.2.2.1,g.2.2.2.1,g.2.2.2.2.1,λp hp=>?_⟩;rcases CU.mp hp with hp |hp
  ·exact g.2.2.2.2.2 p (dX _ hp)
  ·rcases CU.mp hp with hp |hp
   ·exact g.2.2.2.2.2 p (dm _ hp)
   ·have e:p.1=C:=by simpa using (Vc hp).1
    rw[e];exactλz=>f.2.1 z.symm
 have FX:kT Ct X (N'++vx [C] s'.heap) H' ea cls fl s'.heap:=by
  obtain⟨f0,oe,vs,he,hc,hd,h2,hh⟩:=F';refine⟨fpP f0,oe,vs,he,hc,hd,h2,?_⟩;rcases hh with z |⟨T,oT,ts,h1,ne,fT,hT,hdT,h3⟩
  ·exact .inl z
  ·exact .inr ⟨T,oT,ts,h1,ne,fpP fT,hT,hdT,h3⟩
 have memC:((C,oC):aj×iN)∈vx [C] s'.heap:=yV (by simp) eC;show wpAny (az X.prog X.w) X.A (KN (.ref ea) X.env) _ _ s';refine Uo IXp FX hst hf IX.ok.frames λs4 I4 F4=>?_;have eC4:s4.heap.get? C=some oC:=(I4.pin (C,oC) (dm _ (dm _ memC))).1;refine⟨m,⟨oC,es,ep,eC4,dC,rC⟩,λh' ψ γ4 hc'=>?_⟩;have I5:zF X N' σ H' {s4 with heap:=h'}:=I4.unpinned.flown fpC λb o hb e=>(ψ.2 b hb).trans e;have cut:∀{b:aj},yj X (N'++vx [C] s'.heap) H' b->yj X N' H' b/\b≠C:=λ{b} f=>⟨⟨f.1,f.2.1,f.2.2.1,f.2.2.2.1,f.2.2.2.2.1,λp hp=>f.2.2.2.2.2 p ((CU.mp hp).elim (dX _) λz=>dm _ (dX _ z))⟩,λz=>f.2.2.2.2.2 (C,oC) (dm _ (dm _ memC)) z.symm⟩;obtain⟨f0,oe,vs,he,hc,hd,h2,T,oT,ts,h1,hne,fT,hT,hdT,h3⟩:=F4.head;have F5:Oj Ct X N' H' ea cls (iz X.env.locals) h':=⟨(cut f0).1,oe,vs,(ψ.2 ea (cut f0).2).trans he,hc,hd,h2,T,oT,ts,h1,hne,(cut fT).1,(ψ.2 T (cut fT).2).trans hT,hdT,h3⟩;unfold PySem.passOn;refine aa (iw ((ψ.2 ea (cut f0).2).trans he) hd h1 ?_);rw[K' (show ¬((aG T==aS)=true) by simp)];exact aa (MT (fr:=γ4.frame) I5 F5 λs6 I6 F6=>HN (hE N' σ H' s6 ea cls _ I6 F6.fly q))
theorem Po [ct:YH Ct]{E:XK}{pos:iS}(hE:jW Ct X E)(hst:X.stack=X.env::X.outer)(hf:X.env.frame=some X.env.locals)(c:Zg X Nc scope cl src)(Z':X.calm=true)(hi:PI X η iter wi)(hb:∀fp C s' H' xe,jW Ct (qo xe X Nc scope cl C fp s' H') E->PG (qo xe X Nc scope cl C fp s' H') η g/\vf (qo xe X Nc scope cl C fp s' H') ρ tt/\PE (qo xe X Nc scope cl C fp s' H') χ te)(hs:∀x,i7 iter X.env x=pure x:=by intro _;rfl):PE X (.ListComp χ [⟨η,iter,ρ,0⟩] scope pos) (Zj src wi g tt te):=by
 intro N' s σ H Q I h;rw[FR];refine iI (use:=none) rfl hs c.clos c.kind c.names (qC (hi N' s σ H _ I h) λv s1 h1=>qC h1 λitv s2 h2=>?_);obtain⟨it,fp,tn,J,H2,e,I2,T,ε,f2,hT⟩:=h2;subst e;refine a_ ?_ (by size_fits);have θ:∀b o,s2.heap.get? b=some o->(s2.heap.push {cls:=.type "list",data:=.seq ([]:List ae).toArray}).get? b=some o:=λb o e=>CN _ e;have I3:=I2.laid (a:=s2.heap.objs.size) (o:=.lst []) (t':=s2.toks) (h':=s2.heap.push {cls:=.type "list",data:=.seq ([]:List ae).toArray}) θ (Cz _) ⟨CP _,[],0,.nil,dj _ Z⟩
 have ne:∀b∈fp,b≠s2.heap.objs.size:=λb hb=>by
  obtain⟨o,e,_⟩:=T.obj 0 _ ε b hb;exact CM (CH e)
 have f3:∀b∈fp,yj X N' (upd H2 s2.heap.objs.size (.lst [])) b:=λb hb=>⟨by rw[zx (ne b hb)];exact(f2 b hb).1,(f2 b hb).2⟩;refine uc (it:=it) (R:=λC=>F7 (az X.prog X.w) X.A X.xe none (EP X N' σ Q) _ C) c Z' I3 T (T.keep _ _ _ ε λb _ o e=>θ b o e) f3 (hb fp _ _ _ _ (QT (Ct:=Ct) (E:=E))) (hT _ (I2.hok.fresh (Cz _))) (λx s' z=>UH hE hst hf I3 f3 z) λC ys σ' H' s' hC J' hD q=>?_;obtain⟨m,hn,_⟩:=id J'.loc;exact⟨m,hn,λh' ψ=>⟨.ref _,H',vF I3 f3 J' ψ,Z,q⟩⟩
end
section
variable {g:TG}
theorem PU [ct:YH Ct]{E:XK}{pos:iS}(hE:jW Ct X E)(hst:X.stack=X.env::X.outer)(hf:X.env.frame=some X.env.locals)(hN:X.N.Nodup)(hx:X.N[i]?=some x)(hl:X.env.scope.names.lookup x=some .local)(c:Zg X Nc scope cl src)(Z':X.calm=true)(hi:PI X η iter wi)(hb:∀fp C s' H' xe,jW Ct (qo xe X Nc scope cl C fp s' H') E->PG (qo xe X Nc scope cl C fp s' H') η g/\vf (qo xe X Nc scope cl C fp s' H') ρ tt/\PE (qo xe X Nc scope cl C fp s' H') χ te)(hsw:Fh (.ListComp χ [⟨η,iter,ρ,0⟩] scope X') (some (.Name x τ)) pos.line X.env=pure true:=by rfl)(hs:∀x,i7 iter X.env x=pure x:=by intro _;rfl):PS X (.Assign [.Name x τ] (.ListComp χ [⟨η,iter,ρ,0⟩] scope X') pos) (gg (Zj src wi g tt te) (zO i)):=by
 intro N' s σ H D I h;rw[HD _ _ _ _ hsw];refine aa (AR (aa ?_));show wpAny _ X.A (do let _ <- comprehension (.ListComp χ [⟨η,iter,ρ,0⟩] scope X') scope X.env _ (Z_ []) false (eval iter X.env) (some (Fm (.Name x τ) X.env))) _ _ s;refine aa (sH (iI (use:=some (Fm (.Name x τ) X.env)) (Q:=λ_ s'=>∃σ' H',zF X N' σ' H' s'/\D.nx σ' H') Z hs c.clos c.kind c.names (qC (hi N' s σ H _ I h) λv s1 h1=>qC h1 λitv s2 h2=>?_)) (λ_ s' hq=>aq (aq hq)) λ_ _ z=>z);obtain⟨it,fp,tn,J,H2,e,I2,T,ε,f2,hT⟩:=h2;subst e;refine a_ ?_ (by size_fits);have θ:∀b o,s2.heap.get? b=some o->(s2.heap.push {cls:=.type "list",data:=.seq ([]:List ae).toArray}).get? b=some o:=λb o e=>CN _ e;have I3:=I2.laid (a:=s2.heap.objs.size) (o:=.lst []) (t':=s2.toks) (h':=s2.heap.push {cls:=.type "list",data:=.seq ([]:List ae).toArray}) θ (Cz _) ⟨CP _,[],0,.nil,dj _ Z⟩
 have ne:∀b∈fp,b≠s2.heap.objs.size:=λb hb=>by
  obtain⟨o,e,_⟩:=T.obj 0 _ ε b hb;exact CM (CH e)
 have f3:∀b∈fp,yj X N' (upd H2 s2.heap.objs.size (.lst [])) b:=λb hb=>⟨by rw[zx (ne b hb)];exact(f2 b hb).1,(f2 b hb).2⟩;refine uc (it:=it) (R:=λC=>F7 (az X.prog X.w) X.A X.xe (some (Fm (.Name x τ) X.env)) (λ_ s'=>∃σ' H',zF X N' σ' H' s'/\D.nx σ' H') _ C) c Z' I3 T (T.keep _ _ _ ε λb _ o e=>θ b o e) f3 (hb fp _ _ _ _ (QT (Ct:=Ct) (E:=E))) (hT _ (I2.hok.fresh (Cz _))) (λx s' z=>UH hE hst hf I3 f3 z) λC ys σ' H' s' hC J' hD q=>?_;obtain⟨m,hn,_⟩:=id J'.loc;have B:zF X N' σ H' s':=vF I3 f3 J' ⟨Z,λ_ _=>rfl⟩;have Cge:∀b o,(s2.heap.push {cls:=.type "list",data:=.seq ([]:List ae).toArray}).get? b=some o->b≠C:=λb o e=>CM (dP (CH e) J'.ok.above)
 have CL:C≠X.env.locals:=λz=>by
  obtain⟨m3,⟨o,_,_,ho,_⟩,_⟩:=I3.loc;exact Cge _ o ho z.symm
 refine FJ (Qk B hN hx (.inl hl) (v:=.ref s2.heap.objs.size) Z (λs5 I5 hsb=>?_) (.inr hl));obtain⟨a,sb,ha⟩:=hsb
 have aL:a≠C:=by
  rcases ha with rfl |ha
  ·exact CL.symm
  ·obtain⟨v,o,ho,_⟩:=I3.cell x a ha;exact Cge _ o ho
 refine⟨m,hn.sameBut sb aL.symm,λh' ψ=>⟨_,H',I5.turned (t':=s5.toks) (λb o n e=>(ψ.2 b n).trans e) J'.free CL ?_ (λy b e z=>?_) (λp hp z=>?_),q⟩⟩
 ·exact .inr (eV (CD I3.sz J'.ok.above))
 ·obtain⟨v,o,ho,_⟩:=I3.cell y b e;exact Cge _ o ho z
 ·exact Cge _ _ (I3.pin p hp).1 z
end
end L2
namespace K27
open PySem PySem.NumText L2 Pg
seal PE PA PT PW PS jg PG vW PI vf PO PK
section
variable {K:BFr}{mg:af->Option ae}
theorem pB (F:jn K "words_of" "words_of" (qH 62) f fd):qD P w K mg base qQ 1 f fd ["row"] Qb:=by
 have nc:(["word"]:List af).Nodup:=by decide+kernel
 refine F.ok (N:=["row"]) (by walk_at"s") (λvs H Q E h=>?_) (λV' A outer s H vs Q E hr h=>?_)
 ·obtain⟨z,rfl,_⟩:=h;rfl
 ·obtain⟨z,rfl,hz,q⟩:=h;have zf:z.length<=ar:=vT hz rfl;obtain⟨sl,sn,_⟩:=jy z " ";refine' ⟨_,(zi (zB ?comp)),?main⟩
  case comp=>
   refine' z9 (Nc:=["word"]) (cl:=[]) (src:=[none]) (wi:=jb K (tY K "str" Yv (zN 0) (z6 (tC (.str " ")) yw))) (g:=zO 0) (tt:=uE (jA bA (zN 0) (tC (.str "")))) (te:=zN 0)
    (by walk_at"c0") rfl (qh (qX aA iC i_ wz (pv 0) (za zv zd))) ?hb
   case hb=>
    intro fp C' s' H';exact⟨zA (i:=0) nc Z (ax Z),vo (zD v8 (pv 0) zv (zI _)),pv 0⟩
  refine⟨_,Z,Z,_,_,Z,Z,Z,zf,vC _ hz,λl H1 s1 n1 e1=>?_⟩;refine⟨l,Z,⟨_,zL.of e1⟩,λD hD=>Ji (qd (zL.of e1)) (yE (aW z " ")) hD (by rw[ah];lia) (λw=>!decide (w = "")) (λw=>.str w) (λw hw v H2 R s2 e2 r=>?_) (λw hw v H2 R s2 e2 r=>?_) (λH2 s2 e2=>q D H2 (s1.trans s2) (s1.free hD) e2)⟩
  ·subst e2;refine⟨_,Z,Z,_,Z,?_⟩;have:=r H2 (zj.refl _);rw[show decide (V.str w=V.str "")=decide (w = "") from decide_eq_decide.mpr ⟨λh=>V.str.inj h,λh=>by rw[h]⟩];exact this
  ·subst e2;exact⟨_,Z,r _ (zj.refl _)⟩
theorem tj (F:jn K "is_rule_name" "is_rule_name" (qH 56) f fd)(W:cV K mg "NO_RULE_NAMES" MB)(C1:jw P w K mg base qQ 2 "is_name" ["thing"] G1):qD P w K mg base qQ 3 f fd ["thing"] gh:=by
 obtain⟨a,hm,at_⟩:=W;refine F.ok (N:=["thing"]) (by walk_at"s") (λvs H Q E h=>?_) (λV' A outer s H vs Q E hr h=>?_)
 ·obtain⟨z,rfl,_⟩:=h;rfl
 ·obtain⟨z,rfl,hz,q⟩:=h;refine⟨_,zi (zB (jR (zG C1 hr (by decide) zT (za (pv 0) zd)) (vO (yn ZT (pv 0) (qe (v:=.ref a) Z hm Z) (by rfl))))),?_⟩;refine⟨_,Z,z,Z,CD hz (by decide),λH1 s1=>⟨_,Z,?_⟩⟩;have q':=q H1 s1;unfold vR at q'
  cases e:wB (Ub sgL) z with
  |false=>
   rw[e]at q';exact qO q'
  |true=>
   rw[e]at q';refine yh ⟨_,Z,a,_,Z,.inr (at_ H1),Z,Z,?_⟩;rw[L' rfl];exact q'
set_option maxHeartbeats 4000000 in
theorem rX (F:jn K "names_of_head" "names_of_head" (qH 63) f fd)(G:wk mg)(X:Er K mg "BadText" cT)(C1:jw P w K mg base qQ 3 "is_rule_name" ["thing"] gh):qD P w K mg base (gG P w) 4 f fd ["words"] (m6 cT):=by
 have nd:(["words","names"]:List af).Nodup:=by decide+kernel
 have nc:(["name"]:List af).Nodup:=by decide+kernel
 refine F.okE (N:=["words","names"]) (by walk_at"s") (λvs H Q E h=>?_) (λV' A outer s H vs Q E hr h=>?_)
 ·obtain⟨a,ws,rfl,_⟩:=h;rfl
 ·obtain⟨a,ws,rfl,ha,l100,wl,q⟩:=h
  refine' ⟨_,(zh (zE (i:=1) nd Z (ax Z) (zJ yS (pv 0) (zK ze) (zK (yL qV ze))))
    (zh (qm (yx (yg (zu (uB Z) Z G.all wQ (za ?comp_1 zd)))) (zi (jm ye Z Z X.at' X.ex (za zv zd))) zQ)
    (zi (zB (pv 1))))),?main⟩
  case comp_1=>
   refine' z9 (Nc:=["name"]) (cl:=[]) (src:=[none]) (wi:=jb K (zN 1)) (g:=zO 0) (tt:=qA) (te:=λσ H Q=>z6 (zN 0) yw σ H λvs H1=>gh vs H1 Q E0)
    (by walk_at"c0") rfl (qh (pv 1)) ?hb
   case hb=>
    intro fp C' s' H';exact⟨zA (i:=0) nc Z (ax Z),qi,zG C1 hr (by decide) zT (za (pv 0) zd)⟩
  walk_at"d5"
  have ml:(yH ws).length<=100:=by unfold yH;rw[dB,CQ];omega
  refine⟨_,Z,_,Z,_,Z,_,Z,a,_,Z,zL.of ha,λp p0=>?_⟩;rw[YK];have s1:zj H (upd H p (.lst ((yH ws).map V.str))):=zj.upd p0;refine⟨_,Z,p,Z,⟨_,zL.of zt⟩,λD hD=>ym (qd (zL.of zt)) (yE (yH ws)) hD (by rw[ah];omega) (λw=>.bl (vR w)) (λw hw v H1 R s2 e2 r=>?_) (λH1 s2 e2=>?_)⟩
  ·subst e2;exact⟨_,Z,w,Z,wl w (ZF hw),r⟩
  have S2:=s1.trans s2;obtain⟨q1,q2⟩:=q H1 S2;refine⟨D,(yH ws).map vR,Z,zL.of (by rw[dh];exact e2),_,Z,?_⟩;have ea:((yH ws).map vR).all id=(yH ws).all vR:=by rw[D0];rfl
  rw[ea]
  cases e:(yH ws).all vR with
  |false=>exact yh ⟨by decide,q2 e⟩
  |true=>exact qO ⟨_,Z,q1 e p p0 (s2 _ _ zt)⟩
set_option maxHeartbeats 8000000 in
theorem nH (F:jn K "statement_of" "statement_of" (qH 64) f fd)(G:wk mg)(X:Er K mg "BadText" cT)(N1:Txt mg "NO_DUE" "-")(C1:jw P w K mg base (gG P w) 4 "read_amount" ["text"] (YG K cT))(C2:jw P w K mg base (gG P w) 3 "read_month" ["text"] (kD K cT)):qD P w K mg base (gG P w) 5 f fd ["words","names"] (UG cT):=by
 obtain⟨t1,γ3⟩:=N1;have nd:(["words","names","pairs","dues","base","net"]:List af).Nodup:=by decide+kernel
 have nc:(["name","word"]:List af).Nodup:=by decide+kernel
 have nc1:(["name","due"]:List af).Nodup:=by decide+kernel
 refine F.okE (N:=["words","names","pairs","dues","base","net"]) (by walk_at"s") (λvs H Q E h=>?_) (λV' A outer s H vs Q E hr h=>?_)
 ·obtain⟨a,b,ws,ns,rfl,_⟩:=h;rfl
 ·obtain⟨a,b,ws,ns,rfl,ha,hb,l1,l2,wl,q,qn⟩:=h
  refine' ⟨_,(zh (qm (zD v8 (zu qp Z G.len g_ (za (pv 0) zd)) (zm qu (zu qp Z G.len g_ (za (pv 1) zd)) ze) (zI _)) (zi (jm ye Z Z X.at' X.ex (za zv zd))) zQ)
    (zh ?comp_3
    (zh (zE (i:=3) nd Z (ax Z) (zY wW Z G.tuple ju (za ?comp_2 zd)))
    (zh (zE (i:=4) nd Z (ax Z) (zG C1 hr (by decide) G8 (za (qa qx (pv 0) ze) zd)))
    (zh (zE (i:=5) nd Z (ax Z) (zG C1 hr (by decide) G8 (za (qa qx (pv 0) (yL qV ze)) zd)))
    (zh (qm (zD v8 (pv 5) (zm kJ (pv 4) (zu (uy Z) Z G.sum wF (za ?comp_1 zd))) (zI _)) (zi (jm ye Z Z X.at' X.ex (za zv zd))) zQ)
    (zi (zB (qq (za (zG C2 hr (by decide) G8 (za (qa qx (pv 0) ze) zd)) (za (pv 4) (za (pv 3) (za (pv 5) zd))))))))))))),?main⟩
  case comp_3=>
   refine' jV (i:=2) (Nc:=["name","word"]) (cl:=[]) (src:=[none,none]) (g:=uQ K 2 (qN (zO 0) (qN (zO 1) wj))) (tt:=uE (jA bA (zN 1) (tC (.str "-")))) (te:=Y9 (z6 (zN 0) (z6 (zN 1) yw))) nd rfl rfl
    (by walk_at"c1") rfl (YT Z G.zip (za (pv 1) (za (zJ yS (pv 0) (zK ze) (zK (yL qV ze))) zd))) ?hb
   case hb=>
    intro fp C' s' H';exact⟨jr Z (zW (zA (i:=0) nc Z (ax Z)) (zW (zA (i:=1) nc Z (ax Z)) yz)),vo (zD v8 (pv 1) (qe (v:=.str "-") Z γ3 ⟨_,Z⟩) (zI _)),qq (za (pv 0) (za (pv 1) zd))⟩
  case comp_2=>
   refine' Po (Ct:=C0) (E:=E) (Nc:=["name","word"]) (cl:=[]) (src:=[none,none]) (g:=uQ K 2 (qN (zO 0) (qN (zO 1) wj))) (tt:=qA) (te:=Y9 (z6 (zN 0) (z6 (λσ H Q=>z6 (zN 1) yw σ H λvs H1=>YG K cT vs H1 Q E) yw))) ye rfl rfl
    (by walk_at"c1") rfl (qh (pv 2)) ?hb
   case hb=>
    intro fp C' s' H' xe th;exact⟨jr Z (zW (zA (i:=0) nc Z (ax Z)) (zW (zA (i:=1) nc Z (ax Z)) yz)),qi,qq (za (pv 0) (za (zG C1 hr (by decide) (vX Z Z th) (za (pv 1) zd)) zd))⟩
  case comp_1=>
   refine' z9 (Nc:=["name","due"]) (cl:=[]) (src:=[none,none]) (g:=uQ K 2 (qN (zO 0) (qN (zO 1) wj))) (tt:=qA) (te:=zN 1)
    (by walk_at"c1") rfl (Z8 (pv 3)) ?hb
   case hb=>
    intro fp C' s' H';exact⟨jr Z (zW (zA (i:=0) nc1 Z (ax Z)) (zW (zA (i:=1) nc1 Z (ax Z)) yz)),qi,pv 1⟩
  walk_at"d5"
  have lw:(ws.map V.str).length=ws.length:=Cw _;have ln:(ns.map V.str).length=ns.length:=Cw _;refine⟨_,Z,a,_,Z,.inl (zL.of ha),_,Z,b,_,Z,.inl (zL.of hb),_,_,Z,Z,Z,_,Z,yo (λe=>⟨by decide,qn (λs p=>?_) H (zj.refl _)⟩) (λe=>?_)⟩
  ·have:=p.len;rw[lw,ln,this]at e
   simp at e
  have hl:ws.length=ns.length+3:=by
   rw[lw,ln]at e
   simp at e
   lia
  have ml:(yH ws).length=ns.length:=by unfold yH;rw[dB,CQ];lia
  refine⟨_,Z,_,Z,_,Z,_,Z,_,Z,a,_,Z,zL.of ha,λp p0=>?_⟩;rw[YK];have s1:zj H (upd H p (.lst ((yH ws).map V.str))):=zj.upd p0;refine⟨b,p,Z,⟨_,zL.of (s1 _ _ hb)⟩,⟨_,zL.of zt⟩,λD hD=>Vj (zL.of (s1 _ _ hb)) (zL.of zt) hD (by rw[ln,ah];lia) (by rw[ln,Cw,ml]) (λ_ y=>!decide (y=V.str "-")) (λi x y hx hy H2 R s2 r=>?_) (λi x y hx hy H2 R s2 r=>?_) (λzs H2 s2 e2 T2=>?_)⟩
  ·rw[CI]at hy;obtain⟨u,hu,rfl⟩:=CS.mp hy;exact⟨_,Z,Z,_,Z,r⟩
  ·exact⟨_,Z,_,Z,z8 Z,λc H3 s3 c0 e3=>r c H3 s3 e3⟩
  rw[LN]at T2;have S2:=s1.trans s2;generalize hps:(ns.zip (yH ws)).filter uh=ps at T2
  have pl:ps.length<=100:=by
   rw[<- hps];refine CD (ES _ _) ?_;rw[E2];lia
  refine⟨_,Z,D,Z,⟨_,zL.of e2⟩,λD2 hD2=>XX (c1:=λp:af×af=>V.str p.1) (c2:=λp:af×af=>V.str p.2) (qd (zL.of e2)) T2 hD2 (by rw[ah];lia) Jk cP (λx hx H3 R s3 r=>?_) (λzs2 ds H3 s3 e3 ed T3=>?_)⟩
  ·have mx:x.2∈ws:=by
    rw[<- hps]at hx;exact ZF (Dz (DF.mp hx).1).2
   refine⟨_,Z,_,Z,_,Z,.inr ⟨x.2,Z,CD (wl _ mx) (by decide),λH4 s4=>⟨λv ev=>?_,λev=>qn (λs p=>?_) H4 (S2.trans (s3.trans s4))⟩⟩⟩
   ·exact⟨z8 Z,λc H5 s5 c0 e5=>r (x.1,v) c H5 (by unfold Jk;rw[ev];rfl) (s4.trans s5) e5⟩
   ·have pd:=p.ds;rw[hps]at pd;have:Jk x∈s.ds.map some:=by rw[<- pd];exact CB.mpr ⟨x,hx,Z⟩
    obtain⟨d,_,e⟩:=CB.mp this;unfold Jk at e;rw[ev]at e;cases e
  have dl:ds.length<=100:=by
   have:=G' iB ed;rw[Cw,Cw]at this;lia
  have zl2:zs2.length=ds.length:=by rw[T3.len,Cw]
  have pds:∀{t:yZ},oB ns ws t->t.ds=ds:=λp=>by
   have:=p.ds;rw[hps,ed]at this;exact(U9 this).symm
  have S3:=S2.trans s3;refine⟨D2,zs2,Z,zL.of e3,λtt its nn tt0=>?_⟩;have s4:zj H3 (upd H3 tt (.frz (Qa its nn) (.tup zs2))):=zj.upd tt0;have fz:Jp (upd H3 tt (.frz (Qa its nn) (.tup zs2))) tt ds:=⟨its,nn,zs2,zt,T3.same s4⟩;generalize upd H3 tt (.frz (Qa its nn) (.tup zs2))=H4 at s4 fz;have S4:=S3.trans s4;have m1:=vL (ws:=ws) (k:=1) (by lia);have m2:=vL (ws:=ws) (k:=ns.length+2) (by lia);have m0:=vL (ws:=ws) (k:=0) (by lia);refine⟨_,Z,a,_,1,_,Z,Z,zL.of (S4 _ _ ha),Qq (k:=1) (by lia),_,Z,.inr ⟨_,Z,CD (wl _ m1) (by decide),λH5 s5=>⟨λB eB=>?_,λeB=>qn (λs p=>?_) H5 (S4.trans s5)⟩⟩⟩
  rotate_left
  ·have:=p.b;rw[eB]at this;cases this
  have S5:=S4.trans s5;refine⟨_,Z,_,Z,a,_,-1,_,Z,Z,zL.of (S5 _ _ ha),L9 (k:=ns.length+2) (by lia),_,Z,.inr ⟨_,Z,CD (wl _ m2) (by decide),λH6 s6=>⟨λN eN=>?_,λeN=>qn (λs p=>?_) H6 (S5.trans s6)⟩⟩⟩
  rotate_left
  ·have:=p.n;rw[eN]at this;cases this
  have S6:=S5.trans s6;have fz6:=fz.kt (KT.same (s5.trans s6));obtain⟨its6,nn6,ts6,ht6,T6⟩:=fz6;have hd6:yT K H6 tt ts6:=.inl (.inr ⟨_,ht6⟩);have tl6:ts6.length=ds.length:=by rw[T6.len,Cw]
  refine⟨_,Z,_,Z,_,Z,tt,Z,⟨_,hd6⟩,λD3 hD3=>ZP (ZY hd6) T6 hD3 (by rw[ah];lia) (λp=>.int p.2) (λp hp H7 R s7 r=>⟨_,Z,r _ (zj.refl _)⟩) (λH7 s7 e7=>?_)⟩;have S7:=S6.trans s7;refine⟨D3,ds.map (·.2),Z,zL.of (by rw[dh];exact e7),_,_,Z,Z,Z,_,Z,yo (λe=>⟨by decide,qn (λs p=>?_) H7 S7⟩) (λe=>?_)⟩
  ·have h1:=p.net;rw[pds p,ai (p.b.symm.trans eB),ai (p.n.symm.trans eN)]at h1;have e:(!decide (V.int N=V.int (B-qS (ds.map (·.2)))))=true:=e;rw[<- h1]at e
   simp at e
  have net:N=B-qS (ds.map (·.2)):=by
   have e:¬(!decide (V.int N=V.int (B-qS (ds.map (·.2)))))=true:=e
   simp at e
   exact e
  refine⟨_,Z,a,_,0,_,Z,Z,zL.of (S7 _ _ ha),Qq (k:=0) (by lia),_,Z,.inr ⟨_,Z,CD (wl _ m0) (by decide),λH8 s8=>⟨λM eM=>?_,λeM=>qn (λs p=>?_) H8 (S7.trans s8)⟩⟩⟩
  ·refine⟨_,Z,_,Z,_,Z,z8 Z,λc H9 s9 c0 e9=>q ⟨M,B,ds,N⟩ _ H9 ⟨hl,by rw[hps];exact ed,eB,eN,eM,net⟩ (S7.trans (s8.trans s9)) ⟨c,tt,Z,e9,?_⟩⟩;exact fz.kt (KT.same (s5.trans (s6.trans (s7.trans (s8.trans s9)))))
  ·have:=p.m;rw[eM]at this;cases this
set_option maxHeartbeats 8000000 in
theorem PP (F:jn K "read_paper" "read_paper" (qH 65) f fd)(G:wk mg)(X:Er K mg "BadText" cT)(C1:jw P w K mg base qQ 1 "words_of" ["row"] Qb)(C2:jw P w K mg base (gG P w) 4 "names_of_head" ["words"] (m6 cT))(C3:jw P w K mg base (gG P w) 5 "statement_of" ["words","names"] (UG cT))(C4:jw P w K mg base qQ 1 "rise" ["things"] (Wv K))(C5:jw P w K mg base qQ 6 "paper" ["some"] WK):qD P w K mg base (gG P w) 7 f fd ["text"] (UY K cT):=by
 have nd:(["text","rows","names","some"]:List af).Nodup:=by decide+kernel
 have nc3:(["row"]:List af).Nodup:=by decide+kernel
 have nc2:(["words","names"]:List af).Nodup:=by decide+kernel
 have nc1:(["one"]:List af).Nodup:=by decide+kernel
 refine F.okE (N:=["text","rows","names","some"]) (by walk_at"s") (λvs H Q E h=>?_) (λV' A outer s H vs Q E hr h=>?_)
 ·obtain⟨v,rfl,_⟩:=h;rfl
 ·obtain⟨v,rfl,h⟩:=h
  refine' ⟨_,(zh (qm (yx (yg (zu zP Z G.isinstance zy (za (pv 0) (za (yX (v:=.ty "str") Z G.str yO Z) zd))))) (zi (jm ye Z Z X.at' X.ex (za zv zd))) zQ)
    (zh ?comp_3
    (zh (zE (i:=2) nd Z (Ao Z) (zG C2 hr (by decide) G8 (za (qa qx (pv 1) ze) zd)))
    (zh ?comp_2
    (zh (qm (yx (yg (zG C4 hr (by decide) zT (za ?comp_1 zd)))) (zi (jm ye Z Z X.at' X.ex (za zv zd))) zQ)
    (zh (qm (zD v8 (zG C5 hr (by decide) zT (za (pv 3) zd)) (pv 0) (zI _)) (zi (jm ye Z Z X.at' X.ex (za zv zd))) zQ)
    (zi (zB (pv 3))))))))),?main⟩
  case comp_3=>
   refine' jV (i:=1) (Nc:=["row"]) (cl:=[]) (src:=[none]) (wi:=jb K (tY K "str" Yv (zN 0) (z6 (tC (.str "\n")) yw))) (g:=zO 0) (tt:=qA) (te:=λσ H Q=>z6 (zN 0) yw σ H λvs H1=>Qb vs H1 Q E0) nd rfl rfl
    (by walk_at"c0") rfl (qh (qX aA iC i_ wz (pv 0) (za zv zd))) ?hb
   case hb=>
    intro fp C' s' H';exact⟨zA (i:=0) nc3 Z (ax Z),qi,zG C1 hr (by decide) zT (za (pv 0) zd)⟩
  case comp_2=>
   refine' PU (Ct:=C0) (E:=E) (i:=3) (Nc:=["words","names"]) (cl:=[("names",s.heap.objs.size+1)]) (src:=[none,some 2]) (g:=zO 0) (tt:=qA) (te:=λσ H Q=>z6 (zN 0) (z6 (zN 1) yw) σ H λvs H1=>UG cT vs H1 Q E) ye rfl rfl nd rfl rfl
    (by walk_at"c2") rfl (qh (zJ yS (pv 1) (zK ze) (zK (yL qV ze)))) ?hb
   case hb=>
    intro fp C' s' H' xe th;exact⟨zA (i:=0) nc2 Z (ax Z),qi,zG C3 hr (by decide) (vX Z Z th) (za (pv 0) (za (pv 1) zd))⟩
  case comp_1=>
   refine' z9 (Nc:=["one"]) (cl:=[]) (src:=[none]) (wi:=jb K (zN 3)) (g:=zO 0) (tt:=qA) (te:=jA (Jo K) (zN 0) (tC (.int 0)))
    (by walk_at"c0") rfl (qh (pv 3)) ?hb
   case hb=>
    intro fp C' s' H';exact⟨zA (i:=0) nc1 Z (ax Z),qi,qa yA (pv 0) ze⟩
  walk_at"d5"
  rcases h with⟨⟨r,Ξ,ty,ne⟩,q⟩ |⟨z,rfl,tb,q,qn⟩
  ·obtain⟨_,_,k3,_⟩:=Yp (K:=K) r Ξ
   have e:r.2.2.2.1=false:=by
    simp only[Ww,CF,dw,or_false]at Ξ;rcases Ξ with rfl |rfl |rfl |rfl |rfl |rfl |rfl<;>first |rfl |exact M' rfl ne
   rw[e]at k3;exact⟨_,Z,_,_,_,_,false,Z,Z,.inl ty,k3,false,Z,yh ⟨by decide,q⟩⟩
  have hz:=tb.len;have zf:z.length<=ar:=vT hz rfl;obtain⟨sl,sn,_⟩:=jy z "\n";obtain⟨r0,rest,er⟩:=Yj z;refine⟨_,Z,_,_,_,_,true,Z,Z,.inl (.str _),Z,true,Z,qO ?_⟩;refine⟨_,Z,Z,_,_,Z,Z,Z,zf,vC _ hz,λl H1 s1 l0 e1=>?_⟩;refine⟨l,Z,⟨_,zL.of e1⟩,λD hD=>WS (qd (zL.of e1)) (yE (aW z "\n")) hD (by rw[ah];lia) (λH' v r=>∃b,v=.ref b/\b≠D/\H' b=some (.lst ((nZ r).map V.str))) (λ{H H' v x} k h=>?_) (λi x hx v H2 R s2 hd e2 r=>?_) (λzs H2 s2 e2 zl G2=>?_)⟩
  ·obtain⟨b,e,n,h⟩:=h;exact⟨b,e,n,k b _ h n⟩
  ·subst e2;obtain⟨us,hd⟩:=hd;exact⟨_,Z,x,Z,CD (sn x (dv hx)) hz,λc H3 s3 c0 e3=>r _ H3 s3 ⟨c,Z,(zo hd c0).symm,e3⟩⟩
  have LT:qG H2 zs (uL z):=by
   refine⟨by unfold uL;rw[zl,Cw],λi r h=>?_⟩;unfold uL at h;rw[CI]at h;obtain⟨w,hw,rfl⟩:=CS.mp h;have il:i<zs.length:=by rw[zl];exact(CV.mp hw).1
   obtain⟨x,hx,b,eb,_,hb⟩:=G2 i _ (CC il);rw[hw]at hx;cases hx;exact⟨b,by rw[CC il,eb],hb⟩
  have S2:=s1.trans s2;have wide:=tb.wide;have wl:=LY (z:=z);have m0:r0∈uL z:=by rw[er];exact CG
  obtain⟨a0,y0,h0⟩:=LT.at_ 0 r0 (by rw[er];rfl);have w0:=wide r0 m0;refine⟨_,Z,D,_,0,_,Z,Z,zL.of e2,jG (j:=0) y0,a0,r0,Z,h0,by lia,λw hw=>CD (wl r0 m0 w hw) hz,λH3 s3=>⟨λng nl nl0 en=>?_,λng=>qn (λS hS=>?_) H3 (S2.trans s3)⟩⟩
  rotate_left
  ·obtain⟨qs,hq⟩:=hS
   have:(yH r0).all vR=true:=by
    rw[hq.head er,D0,dA];exact hq.nm
   rw[ng]at this;cases this
  have ng':∀w∈yH r0,vR w=true:=dA.mp ng;have S3:=S2.trans s3;have ml:=UD r0;have rl:=tb.rows;have rml:=Y8 (uL z);refine⟨_,Z,_,Z,_,Z,_,Z,D,_,Z,zL.of (s3 _ _ e2),λp p0=>?_⟩;rw[YU];have s4:zj H3 (upd H3 p (.lst ((zs.take (zs.length-1)).drop 1))):=zj.upd p0;have LM:=Vs ((LT.same s3).same s4);have e4:upd H3 p (.lst ((zs.take (zs.length-1)).drop 1)) p=some (.lst ((zs.take (zs.length-1)).drop 1)):=zt;generalize upd H3 p (.lst ((zs.take (zs.length-1)).drop 1))=H4 at s4 LM e4;have S4:=S3.trans s4;refine⟨p,Z,⟨_,zL.of e4⟩,λD2 hD2=>Pc (qd (zL.of e4)) (uV LM) hD2 (by rw[ah];lia) (λH' v ws=>∃s,oB (yH r0) ws s/\VV H' v s) (λ{H H' v x} k h=>?_) (λi ws hx v H5 R s5 e5 r=>?_) (λys H5 s5 e5 M5=>?_)⟩
  ·obtain⟨s,h1,h2⟩:=h;exact⟨s,h1,h2.kt (bD k)⟩
  ·obtain⟨b,rfl,hb⟩:=e5;have mw:=WJ (dv hx);refine⟨_,Z,_,Z,b,nl,ws,yH r0,Z,hb,s5 _ _ (s4 _ _ en),by have:=wide ws mw;lia,by lia,λw hw=>CD (wl ws mw w hw) hz,λs v H6 sp s6 sa=>r v H6 s6 ⟨s,sp,sa⟩,λno H6 s6=>qn (λS hS=>?_) H6 (S4.trans (s5.trans s6))⟩;obtain⟨qs,hq⟩:=hS;obtain⟨s,_,sp,_⟩:=hq.at_P hx;rw[<- hq.head er]at sp;exact no s sp
  obtain⟨S,Sl,SA,SB⟩:=OO M5;have S5:=S4.trans s5;have T5:yC H5 ys S:=⟨by rw[M5.len,Sl],SB⟩;have one:=λT (q:jN z T)=>Pz (S:=S) er Sl SA q
  have sg:∀s∈S,Mq s/\(s.ds.map (·.1)).Sublist (yH r0):=λs hs=>by
   obtain⟨i,hi⟩:=Dy.mp hs;have il:i<(vU (uL z)).length:=by rw[<- Sl];exact(CV.mp hi).1
   obtain⟨s',h1,h2⟩:=SA i _ (CC il);rw[hi]at h1;cases h1;exact⟨h2.good,h2.sub⟩
  refine⟨_,Z,D2,Z,⟨_,zL.of e5⟩,λD3 hD3=>ym (qd (zL.of e5)) (Qy T5) hD3 (by rw[ah];lia) (λs=>.int s.m) (λx hx v H6 R s6 e6 r=>?_) (λH6 s6 e6=>?_)⟩
  ·obtain⟨a,d,rfl,h1,h2⟩:=e6;exact⟨_,Z,a,_,0,_,Z,Z,yT.of h1,Z,r _ (zj.refl _)⟩
  refine⟨D3,S.map (·.m),Z,zL.of (by rw[dh];exact e6),by rw[Cw];lia,λH7 s7=>⟨_,Z,?_⟩⟩;have S7:=S5.trans (s6.trans s7)
  cases ea:Js (S.map (·.m)) with
  |false=>
   refine yh ⟨by decide,qn (λT hT=>?_) H7 S7⟩;have:=one T hT;subst this;obtain⟨qs,hq⟩:=hT;rw[LZ hq.up]at ea;cases ea
  |true=>
   have up:=GY ea;have e57:=s7 _ _ (s6 _ _ e5);have T7:=T5.kt (KT.same (s6.trans s7));refine qO ⟨_,Z,D2,ys,S,yH r0,Z,e57,T7,Xh (by lia) (by lia) ng' sg,λqs H8 pm so s8=>?_⟩;refine⟨_,Z,Z,_,Z,yo (λe=>⟨by decide,qn (λT hT=>?_) H8 (S7.trans s8)⟩) (λe=>?_)⟩
   ·have:=one T hT;subst this;obtain⟨ps,hq⟩:=hT;have e2:=hq.eq;rw[<- JY pm hq.pm so hq.so]at e2;rw[<- e2]at e
    simp at e
   ·have e:yD S qs=z:=by
     simp at e
     exact e
    refine⟨_,Z,q S D2 ys H8 ⟨qs,Pq er ng' sg up pm so e⟩ (S7.trans s8) (S4.free hD2) (s8 _ _ e57) (T7.kt (KT.same s8))⟩
set_option maxHeartbeats 8000000 in
theorem pC (F:jn K "_law_names" "_law_names" (qH 71) f fd)(G:wk mg):qD P w K mg base qQ 1 f fd ["_law_number","_law_many"] Vl:=by
 have nd:(["_law_number","_law_many","_law_letters","_law_size","_law_first","_law_alike","_law_at","_law_found"]:List af).Nodup:=by decide+kernel
 have nc5:(["_law_j","_law_first","_law_letters"]:List af).Nodup:=by decide+kernel
 have nc3:(["_law_k","_law_alike","_law_at","_law_letters","_law_number"]:List af).Nodup:=by decide+kernel
 have nc2:(["_law_k","_law_first","_law_letters"]:List af).Nodup:=by decide+kernel
 have nc1:(["_law_name"]:List af).Nodup:=by decide+kernel
 refine F.ok (N:=["_law_number","_law_many","_law_letters","_law_size","_law_first","_law_alike","_law_at","_law_found"]) (by walk_at"s") (λvs H Q E h=>?_) (λV' A outer s H vs Q E hr h=>?_)
 ·obtain⟨n,k,rfl,_⟩:=h;rfl
 ·obtain⟨n,k,rfl,n0,n1,k0,k1,q⟩:=h
  refine' ⟨_,(zh (zE (i:=2) nd Z (Ao Z) zv)
    (zh (zE (i:=3) nd Z (ax Z) (zm qg (pv 0) ze))
    (zh (zE (i:=4) nd Z (Ao Z) (zm qg (zm q8 (pv 0) ze) ze))
    (zh (zE (i:=5) nd Z (Ao Z) (qX aA hZ hW v5 zv (za ?comp_5 zd)))
    (zh (zE (i:=6) nd Z (Ao Z) (zm qg (zm q8 (pv 0) ze) (zm qu (pv 3) ze)))
    (zh ?comp_3
    (zh (qm (zD y6 (zm qg (zm q8 (pv 0) ze) ze) ze (zI _)) (zi ?comp_2) zQ)
    (zi (zB ?comp_1))))))))),?main⟩
  case comp_5=>
   refine' z9 (Nc:=["_law_j","_law_first","_law_letters"]) (cl:=[("_law_letters",s.heap.objs.size+2),("_law_first",s.heap.objs.size+3)]) (src:=[none,some 4,some 2]) (wi:=WB (z6 (zN 3) yw)) (g:=zO 0) (tt:=qA) (te:=jA nO (zN 2) (jA (rI (λ_ j=>0<j) λi j=>.int (i%j)) (jA (X3 λi j=>.int (i+j)) (jA (X3 λi j=>.int (i+j)) (zN 1) (jA (rI Gd λi j=>.int (i*j)) (jA (rI Gd λi j=>.int (i*j)) (tC (.int 5)) (zN 0)) (zN 0))) (jA (rI Gd λi j=>.int (i*j)) (tC (.int 3)) (zN 0))) (tC (.int 26))))
    (by walk_at"c3") rfl (vt Z G.range (za (pv 3) zd)) ?hb
   case hb=>
    intro fp C' s' H';exact⟨zA (i:=0) nc5 Z (ax Z),qi,qa wX (pv 2) (zm qg (zm qu (zm qu (pv 1) (zm yp (zm yp ze (pv 0)) (pv 0))) (zm yp ze (pv 0))) ze)⟩
  case comp_3=>
   refine' jV (i:=7) (Nc:=["_law_k","_law_alike","_law_at","_law_letters","_law_number"]) (cl:=[("_law_number",s.heap.objs.size+1),("_law_letters",s.heap.objs.size+2),("_law_at",s.heap.objs.size+5),("_law_alike",s.heap.objs.size+4)]) (src:=[none,some 5,some 6,some 2,some 0]) (wi:=WB (z6 (zN 1) yw)) (g:=zO 0) (tt:=qA) (te:=jA (λx y H Q=>∃i j:af,x=.str i/\y=.str j/\i.length+j.length<=ar/\Q (.str (i++j)) H) (jA (λx y H Q=>∃i j:af,x=.str i/\y=.str j/\i.length+j.length<=ar/\Q (.str (i++j)) H) (BF Rm (zN 1) Yd (Gq (zN 2)))
     (jA nO (zN 3) (jA (rI (λ_ j=>0<j) λi j=>.int (i%j)) (jA (X3 λi j=>.int (i+j)) (jA (rI rY λi j=>.int (i/j)) (zN 4) (tC (.int 1872))) (jA (rI Gd λi j=>.int (i*j)) (tC (.int 7)) (zN 0))) (tC (.int 26))))) (BF Rm (zN 1) (Gq (zN 2)) Yd)) nd rfl rfl
    ⟨Z,Z,by decide+kernel,by decide+kernel,vg (mS Z (mS Z (mS Z (Q0 Z)))),qc (by rfl),zH (qR ⟨_,Z,Z,Z,Z⟩ (qR ⟨_,Z,Z,Z,Z⟩ (qR ⟨_,Z,Z,Z,Z⟩ (qR ⟨_,Z,Z,Z,Z⟩ zX)))),Z⟩ rfl (vt Z G.range (za (pv 1) zd)) ?hb
   case hb=>
    intro fp C' s' H';exact⟨zA (i:=0) nc3 Z (ax Z),qi,zm zS (zm zS (zJ qw (pv 1) zV (zK (pv 2))) (qa wX (pv 3) (zm qg (zm qu (zm q8 (pv 4) ze) (zm yp ze (pv 0))) ze))) (zJ qw (pv 1) (zK (pv 2)) zV)⟩
  case comp_2=>
   refine' jV (i:=7) (Nc:=["_law_k","_law_first","_law_letters"]) (cl:=[("_law_letters",s.heap.objs.size+2),("_law_first",s.heap.objs.size+3)]) (src:=[none,some 4,some 2]) (wi:=WB (z6 (zN 1) yw)) (g:=zO 0) (tt:=qA) (te:=jA (λx y H Q=>∃(z:af) (n:Int),x=.str z/\y=.int n/\-(2 ^ 63)<=n/\n<2 ^ 63/\z.length*n.toNat<=ar/\Q (.str (qE z n)) H) (jA nO (zN 2) (jA (rI (λ_ j=>0<j) λi j=>.int (i%j)) (jA (X3 λi j=>.int (i+j)) (zN 1) (jA (rI rY λi j=>.int (i/j)) (zN 0) (tC (.int 8)))) (tC (.int 26)))) (jA (X3 λi j=>.int (i+j)) (tC (.int 1)) (jA (rI (λ_ j=>0<j) λi j=>.int (i%j)) (zN 0) (tC (.int 8))))) nd rfl rfl
    (by walk_at"c3") rfl (vt Z G.range (za (pv 1) zd)) ?hb
   case hb=>
    intro fp C' s' H';exact⟨zA (i:=0) nc2 Z (ax Z),qi,zm vz (qa wX (pv 2) (zm qg (zm qu (pv 1) (zm q8 (pv 0) ze)) ze)) (zm qu ze (zm qg (pv 0) ze))⟩
  case comp_1=>
   refine' z9 (Nc:=["_law_name"]) (cl:=[]) (src:=[none]) (wi:=jb K (zN 7)) (g:=zO 0) (tt:=qA) (te:=jA (λx y H Q=>∃i j:af,x=.str i/\y=.str j/\i.length+j.length<=ar/\Q (.str (i++j)) H) (zN 0) (jA (λx y H Q=>∃(z:af) (n:Int),x=.str z/\y=.int n/\-(2 ^ 63)<=n/\n<2 ^ 63/\z.length*n.toNat<=ar/\Q (.str (qE z n)) H) (tC (.str "q")) (p7 (λxs H Q=>(∃i,xs=[.int i]/\Q (.int i) H)∨∃k:Bool,xs=[.bl k]/\Q (.int (if k then 1 else 0)) H) (z6 (jA (BB K false) (zN 0) (Y9 (z6 (tC (.str "base")) (z6 (tC (.str "net")) (z6 (tC (.str "month")) (z6 (tC (.str "sums")) yw)))))) yw))))
    (by walk_at"c0") rfl (qh (pv 7)) ?hb
   case hb=>
    intro fp C' s' H';exact⟨zA (i:=0) nc1 Z (ax Z),qi,zm zS (pv 0) (zm vz zv (zY jS Z G.int qP (za (yn Vq (pv 0) (qq (za zv (za zv (za zv (za zv zd))))) (by rfl)) zd)))⟩
  have z0:0<=n%8:=dG _ (by decide);have z1:n%8<8:=dH _ (by decide);have f0:0<=n/8%26:=dG _ (by decide);have f1:n/8%26<26:=dH _ (by decide);refine⟨_,Z,_,_,Z,Z,(by show(0:Int)<8;decide),_,Z,_,_,Z,Z,⟨by decide,by decide⟩,_,_,Z,Z,(by show(0:Int)<26;decide),?_⟩
  walk_at"d4"
  generalize n/8%26=fs at f0 f1;generalize n%8=sz at z0 z1;obtain⟨m,rfl⟩:=dZ z0;refine⟨Z,_,Z,_,Z,by lia,by lia,λD hD=>?_⟩;rw[dJ];refine ym Zq (ku m) hD (by rw[d9,ah];lia) (λj=>.str (JC (97+((fs+5*(j:Nat)*(j:Nat)+3*(j:Nat))%26).toNat))) (λj hj v H1 R s1 e1 r=>?_) (λH1 s1 e1=>?_)
  ·subst e1;have hj:=Dl.mp hj;exact⟨_,Z,_,Z,_,Z,_,_,Z,Z,.inr ⟨by lia,by lia⟩,_,Z,_,_,Z,Z,.inr ⟨by lia,by lia⟩,_,_,Z,Z,_,Z,_,_,Z,Z,.inr ⟨by lia,by lia⟩,_,_,Z,Z,_,_,Z,Z,(by show(0:Int)<26;decide),_,_,_,Z,Z,wV,Zc (dG _ (by decide)) (dH _ (by decide)),r _ (zj.refl _)⟩
  obtain⟨ls,hls⟩:∃ls:List af,ls=(aQ m).map λj=>JC (97+((fs+5*(j:Nat)*(j:Nat)+3*(j:Nat))%26).toNat):=⟨_,Z⟩;have ll:ls.length=m:=by rw[hls,Cw,d9]
  have l1:∀z∈ls,z.length<=1:=λz hz=>by
   rw[hls]at hz;obtain⟨j,_,rfl⟩:=CB.mp hz;exact Cz _
  have eD:H1 D=some (.lst (ls.map V.str)):=by rw[e1,hls,dh];rfl
  have jo:=(yU (sep:="") (zs:=ls) (m:=1) (k:=7) l1 (by lia) (by decide+kernel) Z).1;have al:(aF "" ls).length<=7:=CD (OA m ls ll l1) (by lia);refine⟨_,ls,D,Z,Z,zL.of eD,jo,?_⟩;refine⟨_,Z,_,_,Z,Z,⟨by decide,by decide⟩,_,Z,_,_,Z,Z,_,_,Z,Z,(by show(0:Int)<(m:Nat)+1;lia),?_⟩
  walk_at"d4"
  have ag:BN (aF "" ls).cps.toList:=λc hc=>by
   rw[QO]at hc;obtain⟨u,hu,m⟩:=List.mem_flatten.mp hc;obtain⟨y,hy,rfl⟩:=CB.mp hu;rw[hls]at hy;obtain⟨j,_,rfl⟩:=CB.mp hy;rw[Z7,du]at m;rw[m];exact tR
  generalize aF "" ls=ak at al ag;generalize n/208%((m:Nat)+1:Int)=at';obtain⟨kn,rfl⟩:=dZ k0;refine⟨_,Z,_,Z,by lia,by lia,λD2 hD2=>?_⟩;rw[dJ];have ck:kn<=11:=by lia
  have c1:=V9 ak none (some at');have c2:=V9 ak (some at') none;have asz:ak.length<=ar:=by rw[ah];lia
  refine ym Zq (ku kn) hD2 (by rw[d9,ah];lia) (λi=>.str (Gw ak at' (n/1872) i)) (λi hi v H2 R s2 e2 r=>?_) (λH2 s2 e2=>?_)
  ·subst e2;have hi:=Dl.mp hi;refine⟨_,Z,_,Z,_,Z,_,Z,asz,_,Z,_,Z,_,_,Z,Z,⟨by decide,by decide⟩,_,Z,_,_,Z,Z,.inr ⟨by lia,by lia⟩,_,_,Z,Z,_,_,Z,Z,(by show(0:Int)<26;decide),_,_,_,Z,Z,wV,Zc (dG _ (by decide)) (dH _ (by decide)),?_⟩;have o1:∀c,(JC c).length=1:=λ_=>rfl;refine⟨_,JC _,Z,Z,by rw[o1,ah];lia,_,Z,_,Z,_,Z,_,Z,asz,_,_,Z,Z,by rw[qB,o1,ah];lia,r _ (zj.refl _)⟩
  have q':∀(zs:List af) (r:aj) (H':Hp),zs.length=kn->(zs.map Yh).Nodup->(∀z∈zs,vR (Yh z)=true)->zj H H'->H r=none->H' r=some (.lst ((zs.map Yh).map V.str))->Q (.ref r) H':=λzs r H' h1 h2 h3=>q _ r H' (by rw[Cw,h1];rfl) h2 (λz hz=>by
   obtain⟨y,hy,rfl⟩:=CB.mp hz;exact h3 y hy)
  have S2:=s1.trans s2
  have d1:((((aQ kn).map λi=>Gw ak at' (n/1872) i)).map Yh).Nodup:=by
   rw[dh];exact Vz λi j hi hj e=>Nh (by lia) (by lia) e
  have d2:((((aQ kn).map λi=>GR fs i)).map Yh).Nodup:=by
   rw[dh];exact Vz λi j hi hj e=>MH (by lia) (by lia) e
  refine⟨_,Z,_,_,Z,Z,⟨by decide,by decide⟩,_,_,Z,Z,(by show(0:Int)<3;decide),Z,_,Z,yo (λe=>?pa) (λe=>?pb)⟩
  case' pa=>
   refine⟨_,Z,_,Z,by lia,by lia,λD3 hD3=>?_⟩;rw[dJ];refine ym Zq (ku kn) hD3 (by rw[d9,ah];lia) (λi=>.str (GR fs i)) (λi hi v H3 R s3 e3 r=>?pa1) (λH3 s3 e3=>?pa2)
  case pa1=>
   subst e3;have hi:=Dl.mp hi;refine⟨_,Z,_,Z,_,Z,_,_,Z,Z,⟨by decide,by decide⟩,_,_,Z,Z,_,_,Z,Z,(by show(0:Int)<26;decide),_,_,_,Z,Z,wV,Zc (dG _ (by decide)) (dH _ (by decide)),?_⟩;refine⟨_,Z,_,_,Z,Z,(by show(0:Int)<8;decide),_,_,Z,Z,JC _,_,Z,Z,by lia,by lia,by rw[show ∀c,(JC c).length=1 from λ_=>rfl,ah];lia,r _ (zj.refl _)⟩
  case' pa2=>
   have S3:=S2.trans s3;obtain⟨zs,hzs⟩:∃zs:List af,zs=(aQ kn).map λi=>GR fs i:=⟨_,Z⟩;rw[<- hzs]at d2;have zl:zs.length=kn:=by rw[hzs,Cw,d9]
   have zb:∀z∈zs,z.length<=22:=λz hz=>by
    rw[hzs]at hz;obtain⟨i,_,rfl⟩:=CB.mp hz;exact CD (oz fs i) (by decide)
   have zg:∀z∈zs,vR (Yh z)=true:=λz hz=>by
    rw[hzs]at hz;obtain⟨i,_,rfl⟩:=CB.mp hz;exact PF fs i
   have eZ:H3 D3=some (.lst (zs.map V.str)):=by rw[e3,hzs,dh];rfl
   generalize D3=D4 at eZ;have dz:=d2
  case' pb=>
   have S3:=S2;obtain⟨zs,hzs⟩:∃zs:List af,zs=(aQ kn).map λi=>Gw ak at' (n/1872) i:=⟨_,Z⟩;rw[<- hzs]at d1;have zl:zs.length=kn:=by rw[hzs,Cw,d9]
   have zb:∀z∈zs,z.length<=22:=λz hz=>by
    rw[hzs]at hz;obtain⟨i,_,rfl⟩:=CB.mp hz;exact Nf al i
   have zg:∀z∈zs,vR (Yh z)=true:=λz hz=>by
    rw[hzs]at hz;obtain⟨i,_,rfl⟩:=CB.mp hz;exact mR ag al i
   have eZ:H2 D2=some (.lst (zs.map V.str)):=by rw[e2,hzs,dh];rfl
   generalize D2=D4 at eZ;generalize H2=H3 at *;have dz:=d1
  all_goals
   refine⟨_,Z,D4,Z,⟨_,zL.of eZ⟩,λD5 hD5=>?_⟩;refine ym (qd (zL.of eZ)) (yE zs) hD5 (by rw[ah];lia) (λz=>.str (Yh z)) (λz hz v H5 R s5 e5 r=>?_) (λH5 s5 e5=>q' zs D5 H5 zl dz zg (S3.trans s5) (S3.free hD5) (by rw[e5,dh];rfl));subst e5;refine⟨_,Z,_,Z,z8 Z,λtu H6 s6 tu0 e6=>?_⟩;have:=zb z hz
   have i1:(if Xq z=true then (1:Int) else 0)=0∨(if Xq z=true then (1:Int) else 0)=1:=by
    split
    ·exact .inr rfl
    ·exact .inl rfl
   have tq:(qE "q" (if Xq z=true then 1 else 0)).length<=1:=by
    have:=RV z;unfold Yh at this;rw[qB]at this;lia
   refine⟨tu,_,Z,.inr (yT.of e6),Z,Z,.inr ⟨Xq z,Z,_,_,Z,Z,by lia,by lia,?_,_,_,Z,Z,by rw[ah];lia,r H6 s6⟩⟩;rw[show("q":af).length=1 by decide+kernel,ah];lia
end
end K27
namespace Pg
open PySem L2 PySem.NumText
theorem kO {R:α->α->Prop}(as:∀a b,R a b->¬R b a):∀{b a:List α},a.Pairwise R->b.Pairwise R->(∀x∈a,x∈b)->a.Sublist b:=by
 intro b
 induction b with
 |nil=>
  intro a _ _ h
  cases a with
  |nil=>exact AH _
  |cons x a=>exact M' (h x CG) (λm=>nomatch m)
 |cons y b ih=>
  intro a ha hb h;have hb':=Dx.mp hb
  cases a with
  |nil=>exact fe _
  |cons x a=>
   have ha':=Dx.mp ha
   by_cases e:x=y
   ·subst e;refine f6.mpr (ih ha'.2 hb'.2 λz hz=>?_);rcases CF.mp (h z (CK _ hz)) with rfl |m
    ·exact M' (ha'.1 z hz) (as _ _ (ha'.1 z hz))
    ·exact m
   ·have mx:x∈b:=by
     rcases CF.mp (h x CG) with m |m
     ·exact M' m e
     ·exact m
    refine(ih ha hb'.2 λz hz=>?_).cons _;rcases CF.mp hz with rfl |hz
    ·exact mx
    ·rcases CF.mp (h z (CK _ hz)) with rfl |m
     ·exact M' (ha'.1 z hz) (as _ _ (hb'.1 x mx))
     ·exact m
def cM (a b:af):Prop:=¬b.cps.toList<a.cps.toList/\a≠b
theorem gM (a b:af)(h:cM a b):¬cM b a:=λc=>h.2 (jd (KW h.1 c.1))
theorem Qr {l:List af}(s:l.Pairwise (λa b:af=>¬b.cps.toList<a.cps.toList))(nd:l.Nodup):l.Pairwise cM:=List.pairwise_and_iff.mpr ⟨s,nd⟩
structure Gr (nms:List af)(s:yZ):Prop where
 m0:0<=s.m
 m1:s.m<=119999
 b0:0<=s.b
 b1:s.b<=100000000000000000
 ds:∀p∈s.ds,0<=p.2/\p.2<=100000000000000000
 net:s.n=s.b-qS (s.ds.map (·.2))
 sub:(s.ds.map (·.1)).Sublist nms
theorem On {S:List yZ}(O:vA nms S)(pm:qs.Perm (yY S))(few:S.length<=15)(l11:qs.length<=11):(yD S qs).length<=20000:=by
 have T:=xX O pm
 have tl:(qZ S qs).length=S.length+2:=by
  unfold qZ;rw[CA,CA,Cw];show 1+_+1=_;lia
 have row:∀r∈qZ S qs,(kQ r (vM (qZ S qs) (qs.length+3))).length<=868:=λr hr=>by
  have cj:=yU (sep:="  ") (zs:=yG r (vM (qZ S qs) (qs.length+3))) (m:=60) (k:=14) (ub (T.wide r hr) uf T.n1 (T.text r hr) (ZN T)) (by rw[uD (T.wide r hr) uf];lia) (by decide+kernel) rfl;unfold kQ;rw[zq,vp];unfold js;rw[CQ,<- zq];lia
 have:=(yU (sep:="\n") (zs:=jM (qZ S qs) (qs.length+3)) (m:=868) (k:=17) (λz hz=>by
  obtain⟨r,hr,rfl⟩:=CB.mp hz;exact row r hr) (by unfold jM;rw[Cw];lia) (by decide+kernel) rfl).2
 exact CD this (by decide)
theorem P6 {S:List yZ}(ng:∀z∈nms,vR z=true)(l11:nms.length<=11)(few:S.length<=15)(h:∀s∈S,Gr nms s):(∀s∈S,-1100000000000000000<=s.n/\s.n<=100000000000000000)/\(∀s∈S,Mq s)/\vA nms S:=by
 have sm:∀s∈S,-1100000000000000000<=s.n/\s.n<=100000000000000000:=λs hs=>by
  have o:=h s hs;have l:=o.sub.length_le;rw[Cw]at l
  have a:=vH (B:=100000000000000000) (by decide) (l:=s.ds.map (·.2)) λx hx=>by
   obtain⟨p,hp,rfl⟩:=CB.mp hx;have:=o.ds p hp;lia
  have b:0<=qS (s.ds.map (·.2)):=by
   have:∀l:List Int,(∀x∈l,0<=x)->0<=qS l:=λl=>by
    induction l with
    |nil=>intro _;exact DB _
    |cons a r ih=>
     intro q;have h1:=q a CG;have h2:=ih λx hx=>q x (CK _ hx);show 0<=a+qS r;lia
   exact this _ λx hx=>by
    obtain⟨p,hp,rfl⟩:=CB.mp hx;exact(o.ds p hp).1
  rw[Cw]at a;have:=o.net;have:=o.b0;have:=o.b1;lia
 have g:∀s∈S,Mq s:=λs hs=>by
  have o:=h s hs;have a:=sm s hs;have:=o.b0;have:=o.b1;exact⟨o.m0,o.m1,⟨by lia,by lia⟩,⟨by lia,by lia⟩,λp hp=>by have:=o.ds p hp;exact⟨by lia,by lia⟩,o.net⟩
 have O:vA nms S:=Xh (by lia) (by lia) ng λs hs=>⟨g s hs,(h s hs).sub⟩;exact⟨sm,g,O⟩
theorem pL {S:List yZ}(nn:nms.Nodup)(so:nms.Pairwise (λa b:af=>¬b.cps.toList<a.cps.toList))(ng:∀z∈nms,vR z=true)(l11:nms.length<=11)(few:S.length<=15)(h:∀s∈S,Gr nms s)(up:(S.map (·.m)).Pairwise (λx y:Int=>x<y)):∀qs,qs.Perm (yY S)->lQ qs->kA (yD S qs) S qs/\uj (yD S qs):=λqs pm sq=>by
 obtain⟨sm,g,O⟩:=P6 ng l11 few h
 have kn:∀x∈qs.map (·.1),x∈nms:=λx hx=>by
  obtain⟨p,hp,rfl⟩:=CB.mp hx;exact O.names (CB.mpr ⟨p,pm.mem_iff.mp hp,Z⟩)
 have qn:(qs.map (·.1)).Nodup:=((pm.map (·.1)).nodup_iff).mpr (jx _);have ql:=gW qn kn;rw[Cw]at ql
 have I:kA (yD S qs) S qs:=by
  refine⟨pm,sq,Z,λp hp=>ng _ (kn _ (CB.mpr ⟨p,hp,Z⟩)),λs hs=>?_,g,up⟩;refine kO gM ((Qr so nn).sublist (h s hs).sub) (Qr (Eg.mpr sq) qn) λx hx=>?_;have:x∈(yY S).map (·.1):=Zs.mpr ⟨s,hs,hx⟩;exact(pm.map (·.1)).mem_iff.mpr this
 refine⟨I,nX I few (by lia) (λs hs=>?_) (λp hp=>?_) ?_ ?_ (On O pm few (by lia))⟩
 ·have o:=h s hs;have a:=sm s hs;have:=o.b0;have:=o.b1;exact⟨⟨by lia,by lia⟩,⟨by lia,by lia⟩,λp hp=>by have:=o.ds p hp;exact⟨by lia,by lia⟩⟩
 ·have nA:((yY S).map (·.1)).Nodup:=jx _
  have e:p.2=qY (yY S) p.1:=by
   unfold qY;rw[uF nA (pm.mem_iff.mp hp)];rfl
  have:=Vn (B:=100000000000000000) (by decide) (prss:=S.map (·.ds)) (t:=[]) (z:=p.1) (c:=0) (λprs h'=>by
   obtain⟨s,hs,rfl⟩:=CB.mp h';exact⟨(O.each s hs).len,λp hp=>by have:=(h s hs).ds p hp;lia⟩) ⟨DB _,DB _⟩
  rw[Cw]at this;have e':qY (IT y9 [] (S.map (·.ds))) p.1=p.2:=e.symm;rw[e']at this;exact⟨by lia,by lia⟩
 ·have:=vH (B:=100000000000000000) (by decide) (l:=S.map (·.b)) λx hx=>by
   obtain⟨s,hs,rfl⟩:=CB.mp hx;have:=(h s hs).b0;have:=(h s hs).b1;lia
  rw[Cw]at this;exact⟨by lia,by lia⟩
 ·have:=vH (B:=1100000000000000000) (by decide) (l:=S.map (·.n)) λx hx=>by
   obtain⟨s,hs,rfl⟩:=CB.mp hx;have:=sm s hs;lia
  rw[Cw]at this;exact⟨by lia,by lia⟩
end Pg
namespace K27
open PySem PySem.NumText L2 Pg
seal PE PA PT PW PS jg PG vW PI vf PO PK
section
variable {K:BFr}{mg:af->Option ae}
set_option maxHeartbeats 16000000 in
theorem Te (F:jn K "_law_statements" "_law_statements" (qH 73) f fd)(G:wk mg)(C_mixed:jw P w K mg base qQ 2 "_law_mixed" ["_law_script","_law_k"] (YE K))(C_next:jw P w K mg base qQ 1 "_law_next" ["_law_number","_law_k"] GQ)(C_names:jw P w K mg base qQ 1 "_law_names" ["_law_number","_law_many"] Vl)(C_amt:jw P w K mg base qQ 1 "_law_amount" ["_law_number"] Le):qD P w K mg base qQ 3 f fd ["_law_script"] (oF K):=by
 have nd:(["_law_script","_law_number","_law_many","_law_width","_law_names_here","_law_month","_law_found","_law_k","_law_more","_law_earned","_law_dues","_law_j","_law_name","_law_cell_here"]:List af).Nodup:=by decide+kernel
 have nc:(["_law_name","_law_amount_here"]:List af).Nodup:=by decide+kernel
 refine F.ok (N:=["_law_script","_law_number","_law_many","_law_width","_law_names_here","_law_month","_law_found","_law_k","_law_more","_law_earned","_law_dues","_law_j","_law_name","_law_cell_here"]) (by walk_at"s") (λvs H Q E h=>?_) (λV' A outer s H vs Q E hr h=>?_)
 ·obtain⟨a,ns,rfl,_⟩:=h;rfl
 ·obtain⟨a,ns,rfl,hs,q⟩:=h
  refine' ⟨_,(zh (zE (i:=1) nd Z (ax Z) (zG C_mixed hr (by decide) zT (za (pv 0) (za ze zd))))
    (zh (zE (i:=2) nd Z (ax Z) (zm qg (pv 1) ze))
    (zh (zE (i:=3) nd Z (ax Z) (zm qg (zG C_mixed hr (by decide) zT (za (pv 0) (za ze zd))) ze))
    (nY (qm (zD y6 (zm qg (zm q8 (pv 1) ze) ze) ze (zI _)) (zh (zE (i:=2) nd Z (ax Z) (zm qu ze (zm qg (zm q8 (pv 1) ze) ze)))
    (zi (zE (i:=3) nd Z (ax Z) (zm qu ze (zm qg (zm q8 (pv 1) ze) ze))))) zQ)
    (zh (zE (i:=4) nd Z (ax Z) (zu Jh Z G.sorted Ac (za (zG C_names hr (by decide) zT (za (zG C_mixed hr (by decide) zT (za (pv 0) (za ze zd))) (za (pv 3) zd))) zd)))
    (zh (zE (i:=5) nd Z (ax Z) (qa qx (zU (za (zm qg (zG C_mixed hr (by decide) zT (za (pv 0) (za ze zd))) ze) (za ze (za (zm kJ ze (zm yp ze (pv 2))) zd)))) (zm q8 (zm qg (zm q8 (pv 1) ze) ze) ze)))
    (zh (zE (i:=6) nd Z (ax Z) (zU zd))
    (zh (jC aX Z (vt Z G.range (za (pv 2) zd)) (zA (i:=7) nd Z (ax Z)) (zh (zE (i:=8) nd Z (ax Z) (zG C_next hr (by decide) zT (za (zG C_mixed hr (by decide) zT (za (pv 0) (za (zm qu ze (zm qg (pv 7) ze)) zd))) (za (pv 7) zd))))
    (zh (zE (i:=9) nd Z (ax Z) (zG C_amt hr (by decide) zT (za (zm q8 (pv 8) ze) zd)))
    (zh (zE (i:=10) nd Z (ax Z) (zU zd))
    (zh (jC aX Z (Gh Z G.enumerate (za (pv 4) zd)) (jr Z (zW (zA (i:=11) nd Z (ax Z)) (zW (zA (i:=12) nd Z (ax Z)) yz))) (zh (zE (i:=13) nd Z (ax Z) (zG C_next hr (by decide) zT (za (zG C_mixed hr (by decide) zT (za (pv 0) (za (zm qu ze (zm qg (zm qu (zm yp ze (pv 7)) (pv 11)) ze)) zd))) (za (zm qu (zm yp ze (pv 7)) (pv 11)) zd))))
    (zi (qm (zD kG (zm qg (pv 13) ze) ze (zI _)) (zi (yR (qX aU aP aO qT (pv 10) (za (qq (za (pv 12) (za (zG C_amt hr (by decide) zT (za (zm q8 (pv 13) ze) zd)) zd))) zd)))) zQ))))
    (zh (yR (qX aU aP aO qT (pv 6) (za (qq (za (pv 5) (za (pv 9) (za (zY wW Z G.tuple ju (za (pv 10) zd)) (za (zm kJ (pv 9) (zu (uy Z) Z G.sum wF (za ?comp_2 zd))) zd))))) zd)))
    (zi (zE (i:=5) nd Z (ax Z) (zm qu (pv 5) (qa qx (zU (za ze (za ze (za ze (za ze (za ze (za ze (za ze (za ze zd))))))))) (zm qg (pv 8) ze)))))))))))
    (zi (zB (pv 6))))))))))),?main⟩
  case comp_2=>
   refine' z9 (Nc:=["_law_name","_law_amount_here"]) (cl:=[]) (src:=[none,none]) (wi:=jb K (zN 10)) (g:=uQ K 2 (qN (zO 0) (qN (zO 1) wj))) (tt:=qA) (te:=zN 1)
    (by walk_at"c1") rfl (qh (pv 10)) ?hb
   case hb=>
    intro fp C' s' H';exact⟨jr Z (zW (zA (i:=0) nc Z (ax Z)) (zW (zA (i:=1) nc Z (ax Z)) yz)),qi,pv 1⟩
  try (walk_at"d5")
  have x0:=Zk ns 0;have x1:=ZS ns 0;refine⟨_,Z,a,0,ns,Z,hs,by decide,by decide,?_⟩
  walk_at"d4"
  generalize Ju ns 0=num at x0 x1;have w0:0<=Ju ns 2%6:=dG _ (by decide);have w1:Ju ns 2%6<6:=dH _ (by decide);have v0:0<=num%7:=dG _ (by decide);have v1:num%7<7:=dH _ (by decide);have u0:0<=num/3000%9:=dG _ (by decide);have u1:num/3000%9<9:=dH _ (by decide);have t0:0<=num/27000%6:=dG _ (by decide);have t1:num/27000%6<6:=dH _ (by decide);refine⟨_,Z,_,_,Z,Z,(by show(0:Int)<7;decide),_,Z,a,2,ns,Z,hs,by decide,by decide,_,_,Z,Z,(by show(0:Int)<6;decide),?_⟩;dsimp only;refine Ri (λσ' H'=>∃γ5 width:Int,σ'=[some (.ref a),some (.int num),some (.int γ5),some (.int width),none,none,none,none,none,none,none,none,none,none]/\H'=H/\0<=γ5/\γ5<=15/\0<=width/\width<=11) (λE' k'=>?_) ?_
  ·refine⟨_,Z,_,_,Z,Z,⟨by decide,by decide⟩,_,_,Z,Z,(by show(0:Int)<30;decide),Z,_,Z,yo (λe=>?_) (λe=>?_)⟩
   ·exact⟨_,Z,_,_,Z,Z,⟨by decide,by decide⟩,_,_,Z,Z,(by show(0:Int)<9;decide),_,_,Z,Z,_,Z,_,_,Z,Z,⟨by decide,by decide⟩,_,_,Z,Z,(by show(0:Int)<6;decide),_,_,Z,Z,k' _ _ ⟨_,_,Z,Z,by lia,by lia,by lia,by lia⟩⟩
   ·exact k' _ _ ⟨_,_,Z,Z,v0,by lia,w0,by lia⟩
  ·rintro σ' H' ⟨γ5,width,rfl,eH,m0,m1,p0,p1⟩;rw[eH];refine⟨_,Z,a,1,ns,Z,hs,by decide,by decide,_,Z,_,_,Z,Zk _ _,ZS _ _,p0,p1,λnms0 r0 H1 nl nn nb s1 r00 e1=>?_⟩;refine⟨r0,nms0,Z,zL.of e1,by lia,λnms pm so nl' H2 s2 n20 e2=>?_⟩;have S2:=s1.trans s2;have nlen:nms.length<=11:=by rw[pm.length_eq];lia
   have nnd:nms.Nodup:=pm.symm.nodup nn;have nbd:∀z∈nms,vR z=true:=λz hz=>nb z (pm.mem_iff.mp hz);have y0:0<=Ju ns 3%118000:=dG _ (by decide);have y1:Ju ns 3%118000<118000:=dH _ (by decide);refine⟨_,Z,a,3,ns,Z,S2.seq hs,by decide,by decide,_,_,Z,Z,(by show(0:Int)<118000;decide),_,Z,_,_,Z,Z,.inr ⟨by lia,by lia⟩,_,_,Z,Z,z8 Z,λc3 H3 s3 c30 e3=>?_⟩;have g0:0<=num/7%5/2:=eO (dG _ (by decide)) (by decide)
   have g1:num/7%5/2<3:=by
    have:=dH (num/7) (show(0:Int)<5 by decide);lia
   obtain⟨M,hM,mM⟩:=kP (xs:=[V.int (Ju ns 3%118000),V.int 0,V.int (119999-121*γ5)]) g0 g1
   obtain⟨M0,rfl,M1,M2⟩:∃M0:Int,M=.int M0/\0<=M0/\M0<=119999-121*γ5:=by
    simp only[CF,dw,or_false]at mM;rcases mM with rfl |rfl |rfl
    ·exact⟨_,Z,y0,by lia⟩
    ·exact⟨_,Z,by decide,by lia⟩
    ·exact⟨_,Z,by lia,by lia⟩
   refine⟨_,Z,_,_,Z,Z,⟨by decide,by decide⟩,_,_,Z,Z,(by show(0:Int)<5;decide),_,_,Z,Z,⟨by decide,by decide⟩,c3,_,_,_,Z,Z,zL.of e3,hM,z8 Z,λfl H4 s4 fl0 e4=>?_⟩;have S4:zj H H4:=S2.trans (s3.trans s4);have e24:=s4 _ _ (s3 _ _ e2);have fl3:H2 fl=none:=s3.free fl0;have flH:H fl=none:=S2.free fl3
   refine⟨_,Z,_,Z,by lia,by lia,Ja (n:=γ5.toNat) (λk σ H'=>∃mo ys sts x7 x8 x9 x10 x11 x12 x13,σ=[some (.ref a),some (.int num),some (.int γ5),some (.int width),some (.ref nl'),some (.int mo),some (.ref fl),x7,x8,x9,x10,x11,x12,x13]/\0<=mo/\mo<=M0+120*(k:Nat)/\H' fl=some (.lst ys)/\yC H' ys sts/\sts.length=k/\(∀s∈sts,Gr nms s)/\(sts.map (·.m)).Pairwise (λx y:Int=>x<y)/\(∀s∈sts,s.m<mo)/\∀b o,H4 b=some o->b≠fl->H' b=some o)
    ⟨M0,[],[],_,_,_,_,_,_,_,Z,M1,by lia,e4,yC.nil,Z,(λ_ h=>nomatch h),iH,(λ_ h=>nomatch h),λb o h _=>h⟩ ?_ ?_⟩
   ·rintro k σ H' hk ⟨mo,ys,sts,x7,x8,x9,x10,x11,x12,x13,rfl,mo0,mo1,gf,TS,sl,so',up,lm,fr⟩ E0' kk;have hk':(k:Int)<γ5:=by lia
    have ψ:zL K H' a (ns.map V.int):=MN (S4.seq hs) fr flH hs;have gn:=fr _ _ e24 (zo e2 fl3);refine⟨_,Z,_,Z,_,_,Z,Z,(by show(0:Int)<8;decide),_,_,Z,Z,a,_,ns,Z,ψ,?_,?_,_,Z,_,_,Z,Zk _ _,ZS _ _,by lia,by lia,λmore r0' r1'=>?_⟩
    ·have:=dG (0+(k:Int)) (show(8:Int)≠0 by decide);lia
    ·have:=dH (0+(k:Int)) (show(0:Int)<8 by decide);lia
    refine⟨_,Z,_,_,Z,Z,⟨by decide,by decide⟩,_,Z,eO r0' (by decide),by lia,λear H5 ea0 ea1 s5=>?_⟩;refine⟨z8 Z,λdl H6 s6 dl0 e6=>?_⟩;have S6:=s5.trans s6;have dlH:H' dl=none:=s5.free dl0;have gn6:=S6 _ _ gn;have dln:nl'≠dl:=zo gn dlH
    refine⟨_,Z,nl',Z,⟨_,zL.of gn6⟩,Vf (K:=K) (a:=nl') (xs:=nms.map V.str) (λj σ H2'=>∃dys prs x11 x12 x13,σ=[some (.ref a),some (.int num),some (.int γ5),some (.int width),some (.ref nl'),some (.int mo),some (.ref fl),some (.int (0+(k:Int))),some (.int more),some (.int ear),some (.ref dl),x11,x12,x13]/\H2' dl=some (.lst dys)/\z4 H2' dys (prs.map cP)/\(prs.map (·.1)).Sublist (nms.take j)/\(∀p∈prs,p.1∈nms.take j/\0<=p.2/\p.2<=10 ^ 17)/\prs.length<=j/\∀b o,H' b=some o->H2' b=some o)
     ⟨[],[],_,_,_,Z,e6,z4.nil,fe _,(λ_ h=>nomatch h),Cz _,S6⟩ (λj σ H2' _ z=>?_) ?_ ?_⟩
    ·obtain⟨_,_,_,_,_,_,_,_,_,_,_,f2⟩:=z;exact zL.of (f2 _ _ gn)
    ·rintro j v p σ H7 hv ⟨dys,prs,x11,x12,x13,rfl,gd,TD,ndp,bdp,pl,f2⟩ p0 E1' k1;rw[CI]at hv;obtain⟨z,hz,rfl⟩:=CS.mp hv;have jl:j<nms.length:=(CV.mp hz).1;have tk:nms.take (j+1)=nms.take j++[z]:=by rw[dS,hz];rfl
     have s8:zj H7 (upd H7 p (.tup [.int (j:Nat),.str z])):=zj.upd p0;have f3:zj H' (upd H7 p (.tup [.int (j:Nat),.str z])):=λb o hb=>s8 _ _ (f2 b o hb);refine⟨p,_,Z,yT.of zt,Z,_,_,Z,_,_,Z,Z,?_⟩;have q0:=dG (7*(0+(k:Int))+(j:Int)) (show(42:Int)≠0 by decide);have q1:=dH (7*(0+(k:Int))+(j:Int)) (show(0:Int)<42 by decide);refine⟨_,Z,_,Z,_,_,Z,Z,.inr ⟨by lia,by lia⟩,_,Z,_,_,Z,Z,_,_,Z,Z,(by show(0:Int)<42;decide),_,_,Z,Z,a,_,ns,Z,f3.seq ψ,by lia,by lia,_,Z,_,_,Z,Z,.inr ⟨by lia,by lia⟩,_,Z,_,_,Z,Z,_,_,Z,Zk _ _,ZS _ _,by lia,by lia,λcell l0 l1=>?_⟩;refine⟨_,Z,_,_,Z,Z,(by show(0:Int)<4;decide),_,_,Z,Z,_,Z,yo (λe=>?_) (λe=>?_)⟩
     ·refine⟨_,Z,.inl ⟨Z,_,zL.of (s8 _ _ gd)⟩,_,Z,_,Z,_,_,Z,Z,⟨by decide,by decide⟩,_,Z,eO l0 (by decide),by lia,λam H9 a0 a1 s9=>⟨z8 Z,λpt H10 s10 pt0 e10=>?_⟩⟩;have s810:=s8.trans (s9.trans s10);refine⟨dl,dys,_,Z,Z,s810 _ _ gd,by rw[TD.len,Cw,ah];lia,?_⟩;refine k1 _ _ ⟨_,prs++[(z,am)],some (.int (j:Nat)),some (.str z),some (.int cell),Z,zt,?_,?_,λpp hp=>?_,by rw[CA,dN];lia,λb o hb=>?_⟩
      ·rw[CJ];refine z4.snoc ((TD.same s810).upd λc z'=>?_) ?_
       ·rw[s810 _ _ gd]at z'
        cases z'
       ·rw[zx (jH e10 (s810 _ _ gd) (by intro z';cases z'))];exact e10
      ·rw[CJ,tk];exact ndp.append (AH _)
      ·rw[tk];rcases CU.mp hp with hp |hp
       ·exact⟨dX _ (bdp pp hp).1,(bdp pp hp).2⟩
       ·rw[du.mp hp];exact⟨dm _ CG,a0,a1⟩
      ·rw[zx (zo hb dlH)];exact(s9.trans s10) _ _ (f3 _ _ hb)
     ·refine k1 _ _ ⟨dys,prs,some (.int (j:Nat)),some (.str z),some (.int cell),Z,s8 _ _ gd,TD.same s8,by rw[tk];exact ndp.trans (List.sublist_append_left _ _),λpp hp=>?_,by lia,f3⟩;rw[tk];exact⟨dX _ (bdp pp hp).1,(bdp pp hp).2⟩
    ·rintro σ H7 ⟨dys,prs,x11,x12,x13,rfl,gd,TD,ndp,bdp,pl,f2⟩;rw[Cw]at pl bdp ndp;rw[dM]at ndp;have gf7:=f2 _ _ gf;have fd:fl≠dl:=zo gf dlH;refine⟨_,Z,.inl ⟨Z,_,zL.of gf7⟩,_,Z,_,Z,_,Z,dl,dys,Z,zL.of gd,λtt its nn' tt0=>?_⟩;have s8:zj H7 (upd H7 tt (.frz (Qa its nn') (.tup dys))):=zj.upd tt0;refine⟨_,Z,_,Z,dl,Z,⟨_,zL.of (s8 _ _ gd)⟩,λD hD=>ZP (qd (zL.of (s8 _ _ gd))) (TD.same s8) hD (by rw[ah];lia) (λp=>.int p.2) (λp hp H8 R s9 r=>⟨_,Z,r _ (zj.refl _)⟩) (λH8 s9 e8=>?_)⟩;refine⟨D,prs.map (·.2),Z,zL.of (by rw[dh];exact e8),_,_,Z,Z,z8 Z,λst H9 s10 st0 e9=>?_⟩;have s710:=s8.trans (s9.trans s10);refine⟨fl,ys,_,Z,Z,s710 _ _ gf7,by rw[TS.len,sl,ah];lia,?_⟩;have fz:Jp H9 tt prs:=⟨its,nn',dys,s10 _ _ (s9 _ _ zt),TD.same s710⟩;have ktf:KT H9 (upd H9 fl (.lst (ys++[.ref st]))):=gD (s710 _ _ gf7);have stO:Gr nms ⟨mo,ear,prs,ear-qS (prs.map (·.2))⟩:=⟨mo0,by show mo<=119999;lia,ea0,by show ear<=100000000000000000;lia,λp hp=>by have:=(bdp p hp).2;lia,Z,ndp⟩;obtain⟨c,hc,mc⟩:=kP (xs:=[V.int 1,V.int 1,V.int 1,V.int 2,V.int 12,V.int 120,V.int 1,V.int 3]) (i:=more%8) (dG _ (by decide)) (dH _ (by decide))
     obtain⟨ic,rfl,ic0,ic1⟩:∃ic:Int,c=.int ic/\1<=ic/\ic<=120:=by
      simp only[CF,dw,or_false]at mc;rcases mc with rfl |rfl |rfl |rfl |rfl |rfl |rfl |rfl<;>exact⟨_,Z,by decide,by decide⟩
     refine⟨_,Z,z8 Z,λc8 H10 s11 c80 e10=>⟨_,Z,_,_,Z,Z,(by show(0:Int)<8;decide),c8,_,_,_,Z,Z,zL.of e10,hc,_,_,Z,Z,?_⟩⟩;refine kk _ _ ⟨mo+ic,ys++[.ref st],sts++[⟨mo,ear,prs,ear-qS (prs.map (·.2))⟩],_,_,_,_,_,_,_,Z,by lia,by lia,s11 _ _ zt,?_,by rw[CA,sl];rfl,λx hx=>?_,?_,λx hx=>?_,λb o hb nb=>?_⟩
     ·refine yC.kt (yC.snoc (TS.kt λb c=>?_) ⟨st,tt,Z,?_,fz.kt ktf⟩) (KT.same s11)
      ·exact⟨λh=>(ktf b c).1 (s710 _ _ (f2 _ _ h)),λo h=>(ktf b c).2 o (s710 _ _ (f2 _ _ h))⟩
      ·rw[zx (jH e9 (s710 _ _ gf7) (by intro z;cases z))];exact e9
     ·rcases CU.mp hx with hx |hx
      ·exact so' x hx
      ·rw[du.mp hx];exact stO
     ·rw[CJ];refine Ea.mpr ⟨up,Et _ _,λx hx y hy=>?_⟩;obtain⟨t,ht,rfl⟩:=CB.mp hx;rw[du.mp hy];exact lm t ht
     ·rcases CU.mp hx with hx |hx
      ·have:=lm x hx;lia
      ·rw[du.mp hx];show mo<mo+ic;lia
     ·refine s11 _ _ ?_;rw[zx nb];exact s710 _ _ (f2 _ _ (fr _ _ hb nb))
   ·rintro σ H' ⟨mo,ys,sts,x7,x8,x9,x10,x11,x12,x13,rfl,mo0,mo1,gf,TS,sl,so',up,lm,fr⟩;exact⟨_,Z,q sts fl ys H' (by lia) ⟨nms,(P6 nbd nlen (by lia) so').2.2⟩ (λs hs=>Fz (so' s hs).sub nnd) (pL nnd so nbd nlen (by lia) so' up) (λb o hb=>fr _ _ (S4 _ _ hb) (zo hb flH)) flH gf TS⟩
set_option maxHeartbeats 8000000 in
theorem LW (F:jn K "_law_names_good" "_law_names_good" (qH 80) f fd)(G:wk mg):qD P w K mg base qQ 1 f fd ["_law_names_here"] xc:=by
 have nd:(["_law_names_here","_law_name"]:List af).Nodup:=by decide+kernel
 have nc:(["_law_sign"]:List af).Nodup:=by decide+kernel
 refine F.ok (N:=["_law_names_here","_law_name"]) (by walk_at"s") (λvs H Q E h=>?_) (λV' A outer s H vs Q E hr h=>?_)
 ·obtain⟨a,ws,rfl,_⟩:=h;rfl
 ·obtain⟨a,ws,rfl,ha,l100,wl,q⟩:=h;have un0:(A.deeper (iu "_law_names_good" (z5 (qH 80)) s.heap.objs.size f V')).units<sV:=DX (De _ 64) hr.units
  refine' ⟨_,(zh (jC aX Z (qh (pv 0)) (zA (i:=1) nd Z (ax Z)) (zh (qm (PW.pt (jh (yx (Ln xk xk ze (zu qf Z G.len g_ (za (pv 1) zd)) ze)) (jc (zD (YY un0) ?comp_1 (zU zd) (zI _))))) (zi (zB vh)) zQ)
    (zi (qm (zD Vq (pv 1) (qq (za zv (za zv (za zv (za zv zd))))) (by rfl)) (zi (zB vh)) zQ))))
    (zi (zB vh))),?main⟩
  case comp_1=>
   refine' z9 (Nc:=["_law_sign"]) (cl:=[]) (src:=[none]) (wi:=Ov (zN 1)) (g:=zO 0) (tt:=uE (jA (λx y H Q=>∃i j,x=.str i/\y=.str j/\Q (.bl (!(!(aN j i 0 j.length 1).isEmpty))) H) (zN 0) (tC (.str "abcdefghijklmnopqrstuvwxyz")))) (te:=zN 0) (by walk_at"c0") rfl (YW (pv 1)) ?hb
   case hb=>
    intro fp C' s' H';exact⟨zA (i:=0) nc Z (ax Z),vo (zD Zx (pv 0) zv (by rfl)),pv 0⟩
  walk_at"d5"
  have bad:∀{z:af} {H':Hp},z∈ws->vR z=false->zj H H'->Q (.bl false) H':=λ{z H'} m e s'=>by
   have:=q H' s'
   have ea:ws.all vR=false:=EO.mpr λc=>by
    have:=dA.mp c z m;rw[e]at this;cases this
   rw[ea]at this;exact this
  refine⟨_,Z,a,Z,⟨_,zL.of ha⟩,Zu (K:=K) (a:=a) (xs:=ws.map V.str) (λi σ H'=>∃x1,σ=[some (.ref a),x1]/\zj H H'/\(ws.take i).all vR=true) ⟨_,Z,zj.refl _,Z⟩ (λi σ H' _ z=>?_) ?_ ?_⟩
  ·obtain⟨_,_,s',_⟩:=z;exact zL.of (s' _ _ ha)
  ·rintro i x σ H1 hx ⟨x1,rfl,s1,ga⟩;rw[CI]at hx;obtain⟨z,hz,rfl⟩:=CS.mp hx;have mz:=dv hz;have fit:z.length<=ar:=vT (wl z mz) rfl;have tk:ws.take (i+1)=ws.take i++[z]:=by rw[dS,hz];rfl
   have wb:wB (Ub sgL) z=(decide (1<=z.length)&&(decide (z.length<=8)&&z.cps.toList.all (Ub sgL))):=rfl;refine YO (λQ=>∀H',zj H1 H'->Q (!wB (Ub sgL) z) H') (λR r=>?_) (λH2 s2=>yo (λe=>?_) (λe=>?_))
   ·refine⟨_,Z,z,Z,fit,_,_,Z,Z,_,Z,yo (λe=>⟨_,_,Z,Z,_,Z,?_⟩) (λe=>⟨false,Z,yh ?_⟩)⟩
    ·have l1:1<=z.length:=by have:=B' e;lia
     rw[wb,i' l1,dR]at r
     by_cases l8:z.length<=8
     ·rw[i' l8,dR]at r;rw[i' (show((z.length:Nat):Int)<=8 by lia)];refine qO ⟨_,Z,z,Z,λD hD=>?_⟩;refine Zr (wR (z:=z)) hD (by rw[Cw,<- zq,ah];lia) (λx=>match x with|.str y=>!Ub sgL (y.cps.getD 0 0) |_=>false) (λx=>x) (λx hx H' R _ r=>?_) (λx hx _ H' R _ r=>⟨_,Z,r⟩) ?_
      ·obtain⟨c,_,rfl⟩:=CB.mp hx;refine⟨_,Z,_,_,Z,Z,_,Z,?_⟩;rw[show(!(aN ("abcdefghijklmnopqrstuvwxyz":af) ⟨#[c]⟩ 0 ("abcdefghijklmnopqrstuvwxyz":af).length 1).isEmpty)=Ub sgL c from alL.in_ c];exact r
      ·have nil:((z.cps.toList.map λc=>V.str ⟨#[c]⟩).filter (λx=>match x with|.str y=>!Ub sgL (y.cps.getD 0 0) |_=>false)).map (λx=>x)=[]↔z.cps.toList.all (Ub sgL)=true:=by
        rw[List.map_id',fX,dA];constructor
        ·intro h c hc;have:=h (V.str ⟨#[c]⟩) (CB.mpr ⟨c,hc,Z⟩)
         cases q:Ub sgL c with
         |true=>rfl
         |false=>exact M' (show(!Ub sgL c)=true by rw[q];rfl) this
        ·intro h x hx;obtain⟨c,hc,rfl⟩:=CB.mp hx;show ¬(!Ub sgL c)=true;rw[h c hc];exact CZ
       refine⟨z8 Z,λem H2 s2 em0 e2=>⟨D,em,_,Z,Z,zL.of (s2 _ _ zt),zL.of e2,λeN=>⟨false,Z,?_⟩,λnN=>⟨true,Z,?_⟩⟩⟩
       ·rw[nil.mp eN]at r;exact r H2 ((zj.upd hD).trans s2)
       ·have:z.cps.toList.all (Ub sgL)=false:=EO.mpr λc=>nN (nil.mpr c);rw[this]at r;exact r H2 ((zj.upd hD).trans s2)
     ·rw[j' l8,d6]at r;rw[j' (show ¬((z.length:Nat):Int)<=8 by lia)];exact yh (r H1 (zj.refl _))
    ·have l1:¬1<=z.length:=λh=>e (i' (by lia));rw[wb,j' l1,d6]at r;exact r H1 (zj.refl _)
   ·refine bad mz ?_ (s1.trans s2);unfold vR;rw[Dg]at e;rw[e];rfl
   ·have ew:wB (Ub sgL) z=true:=by
     cases h:wB (Ub sgL) z with
     |true=>rfl
     |false=>exact M' (by rw[h];rfl) e
    refine⟨_,Z,z8 Z,λt H3 s3 n3 e3=>⟨t,_,Z,.inr (yT.of e3),Z,Z,_,Z,?_⟩⟩;have en:vR z=!Xq z:=by unfold vR;rw[ew,dR]
    cases ei:Xq z with
    |true=>
     have ei':M8 (.str z) [V.str "base",V.str "net",V.str "month",V.str "sums"]=true:=ei;rw[K' (by decide),ei'];exact yh (bad mz (by rw[en,ei];rfl) (s1.trans (s2.trans s3)))
    |false=>
     have ei':M8 (.str z) [V.str "base",V.str "net",V.str "month",V.str "sums"]=false:=ei;rw[K' (by decide),ei'];refine qO ⟨_,Z,s1.trans (s2.trans s3),?_⟩;rw[tk,EK,ga];show(true&&(vR z&&true))=true;rw[en,ei];rfl
  ·rintro σ H1 ⟨x1,rfl,s1,ga⟩;rw[Cw,dM]at ga;have:=q H1 s1;rw[ga]at this;exact this
end
end K27
namespace L2
open PySem PySem.Spec PyProof.Rows
section
variable {K:BFr}{mg:af->Option ae}
end
end L2
namespace K27
open PySem PySem.NumText L2 Pg
seal PE PA PT PW PS jg PG vW PI vf PO PK
section
variable {K:BFr}{mg:af->Option ae}
set_option maxHeartbeats 8000000 in
theorem lG (F:jn K "_law_read" "_law_read" (qH 84) f fd)(mgR:mg "RollError" = some (.ref cR))(Z2:Rz K d cR 2)(C1:jw P w K mg base (gG P w) 7 "read_paper" ["text"] (UY K (d 2)))(Ck:RI P w K mg base 1 "_law_kind" ["_law_e"] (VL K d)):qD P w K mg base qQ 8 f fd ["_law_text"] (U6 K):=by
 have nd:(["_law_text","_law_e"]:List af).Nodup:=by decide+kernel
 refine F.ok (N:=["_law_text","_law_e"]) (by walk_at"s") (λvs H Q E h=>?_) (λV' A outer s H vs Q E hr h=>?_)
 ·obtain⟨v,rfl,_⟩:=h;rfl
 ·obtain⟨v,rfl,h⟩:=h
  refine⟨_,zi (R6 (R:=λcls _ H'=>cls=.ref (d 2)/\zj H H'/\∀t l H'',zj H H''->H'' t=some (.tup [.ref l])->H'' l=some (.lst (xn 2))->Q (.ref t) H'') (i:=1) (th:=λea=>tG (Y9 (z6 (Ga ((A.deeper (iu "_law_read" (z5 (qH 84)) s.heap.objs.size f V')).mark (some (.ref ea))) (VL K d) (z6 (zN 1) yw)) yw))) Z Z Z mgR (λcls o H' z=>by rw[z.1];exact Z2.ex) nd Z rfl
   (λpn=>zi (zB (zG C1 hr (by decide) bz (za (pv 0) zd))))
   (λpn ea E=>zi (zB (qq (za (N4 (j:=7) Ck ⟨hr.dp,hr.un⟩ (by decide) (za (pv 1) zd)) zd))))),?_,?_⟩
  ·rcases h with⟨ns,q⟩ |⟨z,rfl,zl,q1,q2⟩
   ·exact⟨_,Z,v,Z,.inl ⟨ns,Z,zj.refl _,q⟩⟩
   ·exact⟨_,Z,_,Z,.inr ⟨z,Z,zl,q1,λe H' s'=>⟨Z,s',q2 e⟩⟩⟩
  ·rintro ea oe vs cls σ' H' ⟨rfl,s1,q⟩ hne hcl hd1 hd2 h2 ζ;refine⟨.ref ea,EM (by rw[ζ];show 1<2;decide),.inr ⟨ea,oe,vs,_,Z,zt,hd2,.no h2⟩,ea,d 2,2,Z,⟨⟨oe,vs,zt,hcl,hd1,hd2⟩,Z2.kd.cls⟩,Z2.kd,λl H2 s2 l0 e=>?_⟩;exact⟨z8 Z,λt H3 s3 t0 e3=>q t l H3 ((s1.trans (zj.upd hne)).trans (s2.trans s3)) e3 (s3 _ _ e)⟩
set_option maxHeartbeats 8000000 in
theorem nE (F:jn K "_law_are_statements" "_law_are_statements" (qH 85) f fd)(G:wk mg)(C1:jw P w K mg base qQ 1 "_law_whole" ["_law_found"] YC):qD P w K mg base qQ 2 f fd ["_law_found"] (GK K):=by
 have nd:(["_law_found","_law_one"]:List af).Nodup:=by decide+kernel
 have nc:(["_law_pair"]:List af).Nodup:=by decide+kernel
 refine F.ok (N:=["_law_found","_law_one"]) (by walk_at"s") (λvs H Q E h=>?_) (λV' A outer s H vs Q E hr h=>?_)
 ·obtain⟨l,ys,S,rfl,_⟩:=h;rfl
 ·obtain⟨l,ys,S,rfl,hl,T,l100,ε2,q⟩:=h
  refine' ⟨_,(zh (qm (yx (yg (zu zP Z G.isinstance zy (za (pv 0) (za (yX (v:=.ty "list") Z G.list pN Z) zd))))) (zi (zB vh)) zQ)
    (zh (jC aX Z (qh (pv 0)) (zA (i:=1) nd Z (ax Z)) (zh (qm (PW.pt (jh (yx (yg (zu zP Z G.isinstance zy (za (pv 1) (za (yX (v:=.ty "tuple") Z G.tuple ju Z) zd))))) (jh (zD v8 (zu qp Z G.len g_ (za (pv 1) zd)) ze (zI _)) (jc (yx (yg (zu VJ Z G.isinstance zy (za (qa yA (pv 1) ze) (za (yX (v:=.ty "tuple") Z G.tuple ju Z) zd))))))))) (zi (zB vh)) zQ)
    (zh (qm (yx (yg (zu (uB Z) Z G.all wQ (za ?comp_1 zd)))) (zi (zB vh)) zQ)
    (zi (qm (PW.pt (jh (yx (yg (zG C1 hr (by decide) zT (za (qa yA (pv 1) ze) zd)))) (jh (yx (yg (zG C1 hr (by decide) zT (za (qa yA (pv 1) ze) zd)))) (jc (yx (yg (zG C1 hr (by decide) zT (za (qa yA (pv 1) ze) zd)))))))) (zi (zB vh)) zQ)))))
    (zi (zB vh)))),?main⟩
  case comp_1=>
   refine' z9 (Nc:=["_law_pair"]) (cl:=[]) (src:=[none]) (g:=zO 0) (tt:=qA) (te:=lX (p7 (λxs H Q=>∃x c cv t b,xs=[x,c]/\tX c=some cv/\BC K H x t/\aB K t cv=some b/\Q (.bl b) H) (z6 (zN 0) (z6 (tC (.ty "tuple")) yw))) (lX (jA B2 (p7 (λxs H Q=>∃p ys,xs=[.ref p]/\(zL K H p ys∨yT K H p ys)/\Q (.int ys.length) H) (z6 (zN 0) yw)) (tC (.int 2))) (λσ H Q=>z6 (jA (Jo K) (zN 0) (tC (.int 1))) yw σ H λvs H1=>YC vs H1 Q E0))) (by walk_at"c0") rfl (Z8 (qa yA (pv 1) ze)) (λfp C' s' H'=>⟨zA (i:=0) nc Z (ax Z),qi,jR (zu zP Z G.isinstance zy (za (pv 0) (za (yX (v:=.ty "tuple") Z G.tuple ju Z) zd))) (jR (yn y6 (zu qp Z G.len g_ (za (pv 0) zd)) ze (zI _)) (vO (zG C1 hr (by decide) zT (za (qa yA (pv 0) ze) zd))))⟩)
  walk_at"d5"
  refine⟨_,Z,_,_,_,_,true,Z,Z,.inl (.lst hl),Z,true,Z,qO ?_⟩;refine⟨_,Z,l,Z,⟨_,zL.of hl⟩,Zu (K:=K) (a:=l) (xs:=ys) (λi σ H'=>∃x1,σ=[some (.ref l),x1]/\zj H H') ⟨_,Z,zj.refl _⟩ (λi σ H' _ z=>?_) ?_ ?_⟩
  ·obtain⟨_,_,s'⟩:=z;exact zL.of (s' _ _ hl)
  ·rintro i v σ H1 hv ⟨x1,rfl,s1⟩;obtain⟨x,hx,a,d,rfl,h1,its,nn,ts,h2,h3⟩:=(T.kt (KT.same s1)).at_ i v hv;have hd:yT K H1 d ts:=.inl (.inr ⟨_,h2⟩);have tl:ts.length=x.ds.length:=by rw[h3.len,Cw]
   have dl:=ε2 x (dv hx);refine⟨_,Z,_,_,_,_,true,Z,Z,.inl (.tup h1),Z,true,Z,qO ⟨_,Z,a,_,Z,.inr (yT.of h1),Z,_,Z,qO ?_⟩⟩;refine⟨_,Z,a,_,2,_,Z,Z,yT.of h1,Z,d,_,Z,hd,true,Z,qO ?_⟩;refine⟨_,Z,a,_,2,_,Z,Z,yT.of h1,Z,d,Z,⟨_,hd⟩,λD hD=>ym (ZY hd) (Vh h3) hD (by rw[ah];omega) (λp=>.bl true) (λp hp v H2 R s2 e2 r=>?_) (λH2 s2 e2=>?_)⟩
   ·obtain⟨b,rfl,hb⟩:=e2;refine⟨_,Z,_,_,_,_,true,Z,Z,.inl (.tup hb),Z,true,Z,yh ⟨_,Z,b,_,Z,.inr (yT.of hb),Z,_,Z,yh ⟨_,Z,b,_,1,_,Z,Z,yT.of hb,Z,p.2,Z,r _ (zj.refl _)⟩⟩⟩
   refine⟨D,x.ds.map (λ_=>true),Z,zL.of (by rw[dh];exact e2),_,Z,?_⟩;have ea:(x.ds.map (λ_=>true)).all id=true:=by rw[D0,dA];exactλ_ _=>rfl
   rw[ea];have h1':=s2 _ _ h1;refine qO ⟨_,Z,a,_,0,_,Z,Z,yT.of h1',Z,x.m,Z,true,Z,qO ⟨_,Z,a,_,1,_,Z,Z,yT.of h1',Z,x.b,Z,true,Z,qO ⟨_,Z,a,_,3,_,Z,Z,yT.of h1',Z,x.n,Z,true,Z,qO ⟨_,Z,s1.trans s2⟩⟩⟩⟩
  ·rintro σ H1 ⟨x1,rfl,s1⟩;exact q H1 s1
end
end K27
namespace Pg
open PySem PySem.NumText L2 Builtin Builtin.Str
end Pg
namespace L2
open PySem PySem.Spec PyProof.Rows PySem.SeqAt
open AutoSeq1 (wpAny_loadPart')
end L2
namespace Pg
open PySem L2
section
variable {K:BFr}
end
open PySem.NumText Builtin Builtin.Str
def uu (zs:List af):Nat:=(zs.map λz=>z.length+1).sum
theorem lx (a b:List af):uu (a++b)=uu a+uu b:=by
 unfold uu;rw[CJ,List.sum_append_nat]
theorem RM (h:uu zs<=10000000):FU ⟨#[c]⟩ zs=true/\(aF ⟨#[c]⟩ zs).length<=uu zs:=by
 have key:∀(zs:List af) (k:Nat),zs.foldl (λa z=>a+z.length+(⟨#[c]⟩:af).length) k=k+uu zs:=by
  intro zs
  induction zs with
  |nil=>exactλk=>rfl
  |cons z r ih=>
   intro k;rw[dU,ih];show k+z.length+1+uu r=k+(z.length+1+uu r);lia
 constructor
 ·unfold FU y_;rw[I_,Dg,decide_eq_false_iff_not,ah];rw[key];lia
 ·cases zs with
  |nil=>exact CP _
  |cons w ws=>
   rw[zq,j7,CA,<- zq]
   have:∀ws:List af,((ws.map λp=>p.cps.toList).map λv=>c::v).flatten.length=uu ws:=by
    intro ws
    induction ws with
    |nil=>rfl
    |cons v r ih=>
     rw[CO,CO,dQ,CA,ih];show v.cps.toList.length+1+uu r=v.length+1+uu r;rw[<- zq]
   rw[this];show w.length+uu ws<=w.length+1+uu ws;lia
end Pg
namespace L2
open PySem PySem.Spec PyProof.Rows
theorem Qd {Γ:X_}{p:iS}{t:Sem Fin}{fs:List Frame}{e:End}(h:Runs M Γ p t fs s e s'):s.toks<=s'.toks:=by
 induction h
 all_goals first
  |exact Cz _
  |assumption
  | (rename_i a;exact a)
  | (rename_i a b;exact CD a b)
  | (rename_i a;exact Nat.le_of_succ_le a)
theorem Xb {Γ:X_}{p:iS}{g:Nat}{r:Resume}{res:GenResult}(h:Wakes M Γ p g r s res s'):s.toks<=s'.toks:=by
 unfold Wakes at h
 split at h
 ·exact h.elim
 ·split at h
  ·obtain⟨e₁,s₁,h1,_,_,rfl⟩:=h;have:=Qd h1;exact this
  ·rw[h.2];exact Cz _
  ·rw[h.2];exact Cz _
 ·obtain⟨e₁,s₁,h1,_,_,rfl⟩:=h;have:=Qd h1;exact this
 ·rw[h.2];exact Cz _
 ·rw[h.2];exact Cz _
theorem nu {Γ:X_}(t:Sem α):∀{Q:α->iS->av->Prop} {E:ae->iS->av->Prop} {p:iS} {s:av},lo<=s.toks->iV M Γ t Q E p s->iV M Γ t (λa p' s'=>lo<=s'.toks/\Q a p' s') (λe p' s'=>E e p' s') p s:=by
 induction t with
 |pure a=>intro Q E p s hl h;rw[iV]at h ⊢;exact⟨hl,h⟩
 |raise e=>intro Q E p s hl h;rw[iV]at h ⊢;exact h
 |unsupported w=>intro Q E p s hl h;rw[iV]at h;exact h.elim
 |finish e=>intro Q E p s hl h;rw[iV]at h;exact h.elim
 |rule tag k ih=>intro Q E p s hl h;rw[iV]at h ⊢;exact ih () hl h
 |«at» q k ih=>intro Q E p s hl h;rw[iV]at h ⊢;exact ih () hl h
 |load a part k ih=>intro Q E p s hl h;rw[iV]at h ⊢;obtain⟨o,ho,h⟩:=h;exact⟨o,ho,ih o hl h⟩
 |update a part f k ih=>intro Q E p s hl h;rw[iV]at h ⊢;exact⟨h.1,ih () hl h.2⟩
 |alloc o k ih=>intro Q E p s hl h;rw[iV]at h ⊢;exact ih _ hl h
 |loadIfAlive a k ih=>intro Q E p s hl h;rw[iV]at h ⊢;exact ih _ hl h
 |point l k ih=>intro Q E p s hl h;rw[iV]at h ⊢;exact ih () hl h
 |register a k ih=>intro Q E p s hl h;rw[iV]at h;exact h.elim
 |fresh k ih=>intro Q E p s hl h;rw[iV]at h ⊢;exact ih _ (EH hl) h
 |ask k ih=>intro Q E p s hl h;rw[iV]at h ⊢;exact ih _ hl h
 |choose src n k ih=>intro Q E p s hl h;rw[iV]at h ⊢;exact⟨h.1,ih _ hl h.2⟩
 |os req l k ih=>intro Q E p s hl h;rw[iV]at h ⊢;exact ih _ hl h
 |call c hd g l k ih=>
  intro Q E p s hl h;rw[iV]at h ⊢;obtain⟨r,s',hr,h⟩:=h;exact⟨r,s',hr,ih r (CD hl (Qd hr)) h⟩
 |handled own k ih=>intro Q E p s hl h;rw[iV]at h ⊢;exact ih _ hl h
 |newGen c k ih=>intro Q E p s hl h;rw[iV]at h ⊢;exact ih _ hl h
 |genState g k ih=>intro Q E p s hl h;rw[iV]at h ⊢;obtain⟨st,ho,h⟩:=h;exact⟨st,ho,ih _ hl h⟩
 |resume g r l k ih=>
  intro Q E p s hl h;rw[iV]at h ⊢;obtain⟨res,s',hr,h⟩:=h;exact⟨res,s',hr,ih _ (CD hl (Xb hr)) h⟩
 |yield v g l k ih=>intro Q E p s hl h;rw[iV]at h;exact h.elim
 |stack k ih=>intro Q E p s hl h;rw[iV]at h ⊢;exact ih _ hl h
 |fork c k ih=>intro Q E p s hl h;rw[iV]at h;exact h.elim
 |thread k ih=>intro Q E p s hl h;rw[iV]at h ⊢;exact ih _ hl h
 |await a tk tm l k ih=>intro Q E p s hl h;rw[iV]at h;exact h.elim
section
theorem V0 {t:Sem α}{Q Q':α->av->Prop}(hl:lo<=s.toks)(h:wpAny M A t Q E s)(hQ:∀a s,lo<=s.toks->Q a s->Q' a s):wpAny M A t Q' E s:=by
 have:wpAny M A t (λa s'=>lo<=s'.toks/\Q a s') E s:=λΓ p hΓ=>nu t hl (h Γ p hΓ);exact qC this λa s hM=>by obtain⟨h1,h2⟩:=hM;exact hQ a s h1 h2
def rG (lo:Nat)(X:Cx)(e:aK)(t:TE):Prop :=
 ∀(N':List (aj×iN)) (s:av) (σ:St) (H:Hp) (Q:VK),lo<=s.toks->zF X N' σ H s->t σ H Q->wpAny (az X.prog X.w) X.A (eval e X.env) (EP X N' σ Q) X.xe s
def By (lo:Nat)(X:Cx)(es:List aK)(t:TA):Prop :=
 ∀(pos:iS) (N':List (aj×iN)) (s:av) (σ:St) (H:Hp) (Q:List V->Hp->Prop),lo<=s.toks->zF X N' σ H s->t σ H Q->wpAny (az X.prog X.w) X.A (FI (i9 pos (aE es X.env))) (AP X N' σ Q) X.xe s
def Tz (lo:Nat)(X:Cx)(st:sT)(t:TS):Prop :=
 ∀(N':List (aj×iN)) (s:av) (σ:St) (H:Hp) (D:jY),lo<=s.toks->zF X N' σ H s->t D σ H->wpAny (az X.prog X.w) X.A (exec st X.env) (SP X N' D) X.xe s
def Uc (lo:Nat)(X:Cx)(st:List sT)(t:TS):Prop :=
 ∀(N':List (aj×iN)) (s:av) (σ:St) (H:Hp) (D:jY),lo<=s.toks->zF X N' σ H s->t D σ H->wpAny (az X.prog X.w) X.A (execs st X.env) (SP X N' D) X.xe s
theorem PE.p {t:TE}(h:PE X e t):rG lo X e t:=λN' s σ H Q _ I q=>h N' s σ H Q I q
theorem PS.p {t:TS}(h:PS X st t):Tz lo X st t:=λN' s σ H D _ I q=>h N' s σ H D I q
theorem jg.p {st:List sT}{t:TS}(h:jg X st t):Uc lo X st t:=λN' s σ H D _ I q=>h N' s σ H D I q
variable {es:List aK}{rest:List sT}{t u:TS}{pos:iS}
theorem qU (h1:Tz lo X st t)(h2:Uc lo X rest u):Uc lo X (st::rest) (lS t u):=by
 intro N' s σ H D hl I h;refine k_ (V0 hl (h1 N' s σ H {D with nx:=u D} hl I h) λf s1 l1 q=>?_)
 cases f with
 |next=>
  obtain⟨σ',H',I',q⟩:=q;exact h2 N' s1 σ' H' D l1 I' q
 |ret v=>exact q
 |brk=>exact q
 |cont=>exact q
theorem U5 (h1:Tz lo X st t):Uc lo X [st] t:=by
 intro N' s σ H D hl I h;refine k_ (qC (h1 N' s σ H D hl I h) λf s1 q=>?_)
 cases f with
 |next=>exact sO q
 |ret v=>exact q
 |brk=>exact q
 |cont=>exact q
theorem Tv {c:aK}{a b:List sT}(hc:PT X c tc)(ha:Uc lo X a t)(hb:Uc lo X b u):Tz lo X (.If c a b pos) (rW tc t u):=by
 intro N' s σ H D hl I h;refine wpAny_If (V0 hl (hc N' s σ H _ I h) λd s1 l1 hM=>?_);obtain⟨H1,I1,q1⟩:=hM
 cases d with
 |true=>exact ha N' s1 σ H1 D l1 I1 q1
 |false=>exact hb N' s1 σ H1 D l1 I1 q1
theorem Nq {g:TG}(he:rG lo X e te)(hg:PG X tg g)(hs:swapsWithSole [tg] e pos.line X.env=pure false:=by rfl)(hw:swappedStores [tg] e X.env=pure none:=by rfl)(h1:(sU [tg] X.env).map (·.2)=[Fm tg X.env]:=by rfl):Tz lo X (.Assign [tg] e pos) (gg te g):=by
 intro N' s σ H D hl I h;refine Ir (qC (he N' s σ H _ hl I h) λv s1 hM=>?_) hs hw;obtain⟨x,H1,I1,r1,q1⟩:=hM;rw[h1];exact qC (hg N' s1 σ H1 x v _ I1 r1 q1) λ_ s2 q=>q
theorem MY (he:rG lo X e te):Tz lo X (.Return (some e) pos) (tG te):=by
 intro N' s σ H D hl I h;exact Kf (qC (he N' s σ H _ hl I h) λv s1 hM=>by obtain⟨x,H1,I1,r1,q1⟩:=hM;exact⟨x,σ,H1,I1,r1,q1⟩)
theorem ZH (ha:rG lo X e te)(hr:By lo X es ta)(hs:aE (e::es) X.env=(false,eval e X.env)::aE es X.env:=by exact qv Z):By lo X (e::es) (z6 te ta):=by
 intro pos N' s σ H Q hl I h;rw[hs];show wpAny _ _ (FI ((false,eval e X.env)::i9 pos (aE es X.env))) _ _ s;refine ip (V0 hl (ha N' s σ H _ hl I h) λu s1 l1 hM=>?_);obtain⟨x,H1,I1,r1,q1⟩:=hM;exact qC (hr pos N' s1 σ H1 _ l1 I1 q1) λus s2 hM=>by obtain⟨xs,H2,I2,r2,q2⟩:=hM;exact⟨x::xs,H2,I2,.cons r1 r2,q2⟩
theorem Nw:By lo X [] yw:=λ_ _ _ _ H Q _ I h=>iO ⟨[],H,I,.nil,h⟩
theorem MW (h:By lo X es ta):rG lo X (.List es pos) (oK ta):=by
 intro N' s σ H Q hl I hq;refine Am (qC (h pos N' s σ H _ hl I hq) λus s1 hM=>?_);obtain⟨xs,H1,I1,r,z,q⟩:=hM;refine⟨by rw[<- r.length];exact z,?_⟩;have hf:H1 s1.heap.objs.size=none:=I1.hok.fresh (Cz _);refine⟨.ref s1.heap.objs.size,upd H1 s1.heap.objs.size (.lst xs),I1.laid (t':=s1.toks) (λb u e=>CN _ e) (Cz _) ?_,Z,q.at hf⟩;exact⟨z,us,0,r,dj _ Z⟩
end
inductive Oy:List aK->List af->Prop
 |nil:Oy [] []
 |cons {c:af} {j:Nat} {pos:iS} {es:List aK} {cs:List af}:Oy es cs->Oy (.Constant (.str c) j pos::es) (c::cs)
def X8 (lo hi:Nat)(us:List ae)(cs:List af):Prop:=us.length=cs.length/\∀(i:Nat) (c:af),cs[i]?=some c->∃k:Nat,us[i]?=some (iW c k)/\lo<=k/\k<hi
theorem X8.vals:∀{us:List ae} {cs:List af} {lo hi:Nat},X8 lo hi us cs->zZ (cs.map V.str) us:=by
 intro us
 induction us with
 |nil=>
  intro cs lo hi h
  cases cs with
  |nil=>exact .nil
  |cons c cs=>cases h.1
 |cons u us ih=>
  intro cs lo hi h
  cases cs with
  |nil=>cases h.1
  |cons c cs=>
   obtain⟨k,e,_⟩:=h.2 0 c rfl;cases e;exact .cons ⟨k,Z⟩ (ih (lo:=lo) (hi:=hi) ⟨v_ h.1,λi d e=>h.2 (i+1) d e⟩)
section
theorem G6 {pos:iS}{es:List aK}{cs:List af}(L:Oy es cs):∀{s:av} {R:List ae->av->Prop},(∀us,X8 s.toks (s.toks+cs.length) us cs->R us {s with toks:=s.toks+cs.length})->wpAny M A (FI (i9 pos (aE es env))) R E s:=by
 induction L with
 |nil=>intro s R h;exact iO (h [] ⟨Z,λi c e=>by cases e⟩)
 |@cons c j p es cs L ih=>
  intro s R h;rw[qv rfl];show wpAny _ _ (FI ((false,eval (.Constant (.str c) j p) env)::i9 pos (aE es env))) _ _ s;refine ip (sJ (ih λus tv=>?_));have e:s.toks+1+cs.length=s.toks+(c::cs).length:=by rw[CY];lia
  have tv':X8 s.toks (s.toks+(c::cs).length) (iW c s.toks::us) (c::cs):=by
   refine⟨by rw[CY,CY,tv.1],λi d hd=>?_⟩
   cases i with
   |zero=>
    cases hd;exact⟨s.toks,Z,Cz _,Nat.lt_add_of_pos_right (Kq _)⟩
   |succ i=>
    obtain⟨k,h1,h2,h3⟩:=tv.2 i d hd;have h2:s.toks+1<=k:=h2;have h3:k<s.toks+1+cs.length:=h3;exact⟨k,h1,by lia,by lia⟩
  have:=h _ tv';rw[<- e]at this;exact this
def mH (us:List ae):iN:={cls:=.type "list",data:=.seq us.toArray}
def R1 (K:Nat)(ob:iN)(cs:List af):Prop:=∃us,ob=mH us/\X8 1 K us cs
def B5 (lo:Nat)(X:Cx)(e:aK)(t:TE):Prop :=
 ∀(N':List (aj×iN)) (s:av) (σ:St) (H:Hp) (Q:VK),lo<=s.toks->zF X N' σ H s->t σ H Q->wpAny (az X.prog X.w) X.A (eval e X.env) (λu s'=>∃(x:af) (k:Nat) (H':Hp),u=iW x k/\0<k/\k<s'.toks/\zF X N' σ H' s'/\Q (.str x) H') X.xe s
def B9 (X:Cx)(e:aK)(t:TE):Prop :=
 ∀(N':List (aj×iN)) (s:av) (σ:St) (H:Hp) (Q:VK),zF X N' σ H s->t σ H Q->wpAny (az X.prog X.w) X.A (eval e X.env) (λu s'=>∃(x:af) (k:Nat) (H':Hp),u=iW x k/\s.toks<=k/\zF X N' σ H' s'/\Q (.str x) H') X.xe s
theorem Rr {c:af}{pos:iS}:B5 1 X (.Constant (.str c) j pos) (tC (.str c)):=λN' s σ H Q hl I h=>sJ ⟨c,s.toks,H,Z,hl,eL _,I.tok _,h⟩
theorem tD {c:af}{pos:iS}:B9 X (.Constant (.str c) j pos) (tC (.str c)):=λN' s σ H Q I h=>sJ ⟨c,s.toks,H,Z,Cz _,I.tok _,h⟩
def R5 (cs:List af)(tb:TE):TE:=λσ H Q=>∀a ob,H a=none->tb σ (upd H a (.frz ob (.lst (cs.map V.str)))) λy H2=>∃i c,y=.int i/\0<=i/\H2 a=some (.frz ob (.lst (cs.map V.str)))/\cs[i.toNat]?=some c/\Q (.str c) H2
theorem xm {us:List ae}{cs:List af}{hi k:Nat}(I:zF X N' σ H s)(tv:X8 lo hi us cs)(hz:cs.length<=ar):zF X N' σ (upd H s.heap.objs.size (.frz (mH us) (.lst (cs.map V.str)))) {s with heap:=s.heap.push (mH us),toks:=k}:=by
 refine I.laid (t':=k) (λb u e=>CN _ e) (Cz _) ?_;exact⟨dj _ Z,by rw[Cw];exact hz,us,0,tv.vals,dj _ Z⟩
theorem Gy {us:List ae}{cs:List af}{hi:Nat}{i:Int}{c:af}{tk:Iw}{b:aK}{R:ae->av->Prop}(I:zF X N' σ H s)(ha:H a=some (.frz (mH us) (.lst (cs.map V.str))))(tv:X8 lo hi us cs)(i0:0<=i)(hc:cs[i.toNat]?=some c)(hs:oX b=false)(h:∀k:Nat,lo<=k->k<hi->R (.str c k) s):wpAny (az X.prog X.w) X.A (IB value b (.ref a) (.int i tk)) R X.xe s:=by
 obtain⟨k,h1,h2,h3⟩:=tv.2 _ _ hc;obtain⟨hg,hz,_⟩:=I.hok a _ ha;have il:i.toNat<us.length:=(CV.mp h1).1;have hl:us.length<=ar:=by rw[tv.1,<- Cw (f:=V.str)];exact hz
 have hn:=wJ;have isl:s.heap.IsList a us.toArray:=⟨_,hg,Z,_,Z⟩;exact item_listR isl i0 (by lia) (by simpa using h1) (h k h2 h3) (Y6 hs _ _)
theorem NS {es:List aK}{cs:List af}{b:aK}{tb:TE}{pos:iS}(L:Oy es cs)(hz:cs.length<=ar)(hb:PE X b tb)(hs:oX b=false:=by rfl):B9 X (.Subscript (.List es p1) b pos) (R5 cs tb):=by
 intro N' s σ H Q I h;refine Hv (Am (G6 L λus tv=>⟨by rw[tv.1];exact hz,?_⟩));have I1:=xm (k:=s.toks+cs.length) I tv hz;refine qC (hb N' _ σ _ _ I1 (h _ _ (I.hok.fresh (Cz _)))) λu s2 hM=>?_;obtain⟨y,H2,I2,ry,i,c,ey,i0,ha,hc,q⟩:=hM;subst ey;obtain⟨tk,rfl⟩:=ry;exact Gy I2 ha tv i0 hc hs λk h1 h2=>⟨c,k,H2,Z,h1,I2,q⟩
def RU (a:aj)(ob:iN)(cs:List af)(tn tb:TE):TE:=λσ H Q=>tn σ H λx H1=>x=.ref a/\tb σ H1 λy H2=>∃i c,y=.int i/\0<=i/\H2 a=some (.frz ob (.lst (cs.map V.str)))/\cs[i.toNat]?=some c/\Q (.str c) H2
theorem Ng {ob:iN}{K:Nat}{cs:List af}{n b:aK}{tn tb:TE}{pos:iS}(tv:R1 K ob cs)(hn:PE X n tn)(hb:PE X b tb)(hs:oX b=false:=by rfl):B5 K X (.Subscript n b pos) (RU a ob cs tn tb):=by
 intro N' s σ H Q hl I h;obtain⟨us,rfl,tv⟩:=tv;refine Hv (V0 hl (hn N' s σ H _ I h) λv s1 l1 hM=>?_);obtain⟨x,H1,I1,rx,ex,q1⟩:=hM;subst ex;cases rx;refine V0 l1 (hb N' s1 σ H1 _ I1 q1) λu s2 l2 hM=>?_;obtain⟨y,H2,I2,ry,i,c,ey,i0,ha,hc,q⟩:=hM;subst ey;obtain⟨tk,rfl⟩:=ry;exact Gy I2 ha tv i0 hc hs λk h1 h2=>⟨c,k,H2,Z,h1,dP h2 l2,I2,q⟩
def b7 (to t1 t2:TE):TE:=λσ H Q=>to σ H λx H1=>∃z,x=.str z/\t1 σ H1 λy H2=>t2 σ H2 λw H3=>∃o n,y=.str o/\w=.str n/\(o==n)=false/\z.length+(z.length+1)*n.length<=16777216/\Q (.str (sG z o n)) H3
theorem oR {o a1 a2:aK}{t1 t2:TE}(ho:PE X o to)(h1:B5 lo X a1 t1)(h2:B9 X a2 t2)(γ0:Ab o "replace" X.env (eval o X.env)=eval o X.env:=by rfl)(δ5:((i9 X' (aE [a1,a2] X.env)).all (λx=>!x.1)&&(HM X' (AX [] X.env)).all (λx=>x.1.isSome)
   && decide (([a1,a2]:List aK).length+([]:List Av).length+(if ([]:List Av).isEmpty then 0 else 1)<30))=true:=by rfl) (γ1:(ν.endLine==X'.line)=true:=by rfl) (hs:aE [a1,a2] X.env=[(false,eval a1 X.env),(false,eval a2 X.env)]:=by rfl) :
  rG lo X (.Call (.Attribute o "replace" ν) [a1,a2] [] X') (b7 to t1 t2):=by
 intro N' s σ H Q hl I h;refine Aw γ0 δ5 γ1 rfl (V0 hl (ho N' s σ H _ I h) λv s1 l1 hM=>?_);obtain⟨x,H1,I1,r1,z,ex,q1⟩:=hM;subst ex;obtain⟨g1,g2⟩:=X7 (T:="str") I1 r1 rfl;obtain⟨tz,rfl⟩:=r1;refine⟨"str","str.replace",aA,PySem.F.slot_str_replace,PySem.F.type_str_replace,g1,g2,?_⟩;rw[hs];refine iP rfl (i6 ?_);show wpAny _ _ (FI ((false,eval a1 X.env)::(false,eval a2 X.env)::[])) _ _ s1;refine ip (qC (h1 N' s1 σ H1 _ l1 I1 q1) λu s2 hM=>?_);obtain⟨y,k1,H2,eu,k10,k1s,I2,q2⟩:=hM;subst eu;refine ip (qC (h2 N' s2 σ H2 _ I2 q2) λw s3 hM=>?_);obtain⟨y2,k2,H3,ew,k2s,I3,o',n',e1,e2,ne,fit,q3⟩:=hM;subst ew;cases e1;cases e2;have a1:k1≠0:=by lia
 have a2:k2≠0:=by lia
 have a3:k1≠k2:=by lia
 exact iO (SC.replace a1 a2 a3 ne fit λt' k=>⟨.str _,H3,I3.tok k,⟨t',Z⟩,q3⟩)
end
section
theorem Tj {a b:aK}{ta tb:TE}{pos:iS}{r:R2}(hr:TF X r)(ha:rG lo X a ta)(hb:PE X b tb)(hs:oX b=false:=by rfl):rG lo X (.Subscript a b pos) (jA r ta tb):=by
 intro N' s σ H Q hl I h;refine Hv (qC (ha N' s σ H _ hl I h) λv s1 hM=>?_);obtain⟨x,H1,I1,r1,q1⟩:=hM;refine qC (hb N' s1 σ H1 _ I1 q1) λu s2 hM=>?_;obtain⟨y,H2,I2,r2,q2⟩:=hM;exact hr a b N' s2 σ H2 x y v u Q I2 r1 r2 q2 (Y6 hs _ _)
theorem Ot {a:aK}{op:Operator}{r:R2}{k:Int}{ta:TE}{u:TS}{rest:List sT}{p' pos:iS}(hN:X.N.Nodup)(hi:X.N[i]?=some x)(hx:TH X.env.scope x)(ho:uW X (su op) r)(ha:PE X a ta)(h2:Uc 1 X rest u)(hs:Fh (.BinOp a op (.Constant (.int k) j p2) p1) (some (.Name x p')) pos.line X.env=pure false:=by rfl)(hf:X.fn x=true∨X.env.scope.names.lookup x=some .local:=by first |exact .inl Z |exact .inr Z |assumption):
  jg X (.Assign [.Name x p'] (.BinOp a op (.Constant (.int k) j p2) p1) pos::rest) (lS (gg (jA r ta (tC (.int k))) (zO i)) u):=by
 intro N' s σ H D I h;refine k_ (FK (wpAny_BinOp (qC (ha N' s σ H _ I h) λv s1 hM=>?_)) hs);obtain⟨y,H1,I1,r1,q1⟩:=hM;refine IF ?_;have l2:1<=({s1 with toks:=s1.toks+1}:av).toks:=fb _ _;refine V0 l2 (ho N' _ σ H1 y (.int k) v _ _ (I1.tok _) r1 ⟨_,Z⟩ q1) λw s3 l3 hM=>?_;obtain⟨z,H3,I3,r3,q3⟩:=hM;exact V0 l3 (wq (Q:=λ_ s4=>zF X N' (σ.set i (some z)) H3 s4) I3 hN hi hx r3 (λs4 I4=>I4) hf) λ_ s4 l4 I4=>h2 N' s4 _ H3 D l4 I4 q3
def bO (i:Nat)(cs:List af)(u:aj->iN->TS):TS:=λD σ H=>∀a ob,H a=none->u a ob D (σ.set i (some (.ref a))) (upd H a (.frz ob (.lst (cs.map V.str))))
theorem Pd {es:List aK}{cs:List af}{u:aj->iN->TS}{rest:List sT}{p' pos:iS}(hN:X.N.Nodup)(hi:X.N[i]?=some x)(hx:TH X.env.scope x)(L:Oy es cs)(hz:cs.length<=ar)(h2:∀a ob K,R1 K ob cs->Uc K X rest (u a ob))(hs:Fh (.List es p1) (some (.Name x p')) pos.line X.env=pure false:=by rfl)(hf:X.fn x=true∨X.env.scope.names.lookup x=some .local:=by first |exact .inl Z |exact .inr Z |assumption):
  Uc 1 X (.Assign [.Name x p'] (.List es p1) pos::rest) (bO i cs u):=by
 intro N' s σ H D hl I h;refine k_ (FK (Am (G6 L λus tv=>⟨by rw[tv.1];exact hz,?_⟩)) hs);have I1:=xm (k:=s.toks+cs.length) I tv hz
 have tv':R1 (s.toks+cs.length) (mH us) cs:=⟨us,Z,tv.1,λi c e=>by
  obtain⟨k,h1,h2,h3⟩:=tv.2 i c e;exact⟨k,h1,CD hl h2,h3⟩⟩
 exact V0 (lo:=s.toks+cs.length) (Cz _) (wq (v:=.ref s.heap.objs.size) (Q:=λ_ s4=>zF X N' (σ.set i (some (.ref s.heap.objs.size))) _ s4) I1 hN hi hx Z (λs4 I4=>I4) hf) λ_ s4 l4 I4=>h2 _ _ _ tv' N' s4 _ _ D l4 I4 (h _ _ (I.hok.fresh (Cz _)))
end
end L2
namespace Pg
open PySem L2 PySem.NumText
theorem vw (xs:List V)(p:Nat):wN xs none (some (p:Nat))=xs.take p:=by
 unfold wN;rw[HT.yN,HT.jU,Dv,DM]
 by_cases h:p<=xs.length
 ·rw[Dp h]
 ·rw[Ep (by lia),dM,dW (by lia)]
theorem jP (xs:List V)(p:Nat):wN xs (some (p:Nat)) none=xs.drop p:=by
 unfold wN;rw[HT.yN,HT.jU]
 by_cases h:p<=xs.length
 ·rw[Dp h];exact dW (by rw[dB];exact Cz _)
 ·rw[Ep (by lia),EG (Cz _),EG (by lia),ff]
theorem pR (z:af)(p:Nat):(ay z none (some (p:Nat))).cps.toList=z.cps.toList.take p:=by
 rw[qk];unfold we;rw[HT.yN,HT.jU,Dv,DM]
 by_cases h:p<=z.cps.toList.length
 ·rw[Dp h]
 ·rw[Ep (by lia),dM,dW (by lia)]
theorem JM (z:af)(p:Nat):(ay z (some (p:Nat)) none).cps.toList=z.cps.toList.drop p:=by
 rw[qk];unfold we;rw[HT.yN,HT.jU]
 by_cases h:p<=z.cps.toList.length
 ·rw[Dp h];exact dW (by rw[dB];exact Cz _)
 ·rw[Ep (by lia),EG (Cz _),EG (by lia),ff]
theorem VA (h:∀r∈zs,p6 r.cps.toList)(few:zs.length<=21):G0 (aF "\n" zs)/\FU "\n" zs=true:=by
 have sb:∀us:List af,(∀r∈us,p6 r.cps.toList)->uu us<=80010*us.length:=λus hu=>by
  induction us with
  |nil=>exact Cz _
  |cons u us ih=>
   have i:=ih λl hl=>hu l (CK _ hl);have l1:=(hu u CG).len;rw[<- zq]at l1;have e:uu (u::us)=uu [u]+uu us:=lx [u] us;have e2:uu [u]<=u.length+2:=by unfold uu;simp
   rw[e,CY];lia
 have sz:=sb zs h;refine⟨?_,(RM (c:=10) (zs:=zs) (by lia)).1⟩
 cases zs with
 |nil=>exact JF (w:=[]) (ws:=[]) (λl hl=>by rw[du.mp hl];exact xr) (CP _) rfl
 |cons w ws=>
  refine JF (w:=w.cps.toList) (ws:=QJ ws) (λl hl=>?_) (by unfold QJ;rw[Cw];exact Nat.le_of_succ_le_succ few) ?_
  ·rcases CF.mp hl with rfl |hl
   ·exact h w CG
   ·obtain⟨u,hu,rfl⟩:=CB.mp hl;exact h u (CK _ hu)
  ·have:=j7 10 w ws;exact this
theorem Xs (z:af):∀r∈aW z "\n",r.cps.toList∈uO 10 z.cps.toList:=λr hr=>by
 rw[<- kj];exact CB.mpr ⟨r,hr,Z⟩
theorem pF (h:uj z):(aW z "\n").length<=18:=by
 have:=G' iB (kj z);unfold QJ at this;rw[Cw,kc]at this;have:=h.nl;lia
def olds:List af:=["  ","0.00","net","-",".","month"]
def news:List af:=[" ","-","ten","",",","base"]
theorem mO (h:uj T){o n:af}(ho:olds[i]?=some o)(hn:news[i]?=some n):G0 (sG T o n)/\(o==n)=false/\n.length<=4:=by
 have nod:∀{l:List Nat},(l.all λx=>!vd x)=true->Mr l:=λhl x hx=>by
  have:=dA.mp hl x hx
  rwa [Dg]at this
 have c:∀(s:af) (l:List Nat),s.cps.toList=l->s.cps.toList=l:=λ_ _ h=>h
 match i,ho,hn with
 |0,ho,hn=>
  cases ho;cases hn;have e1:("  ":af).cps.toList=[32,32]:=by decide+kernel
  have e2:(" ":af).cps.toList=[32]:=by decide+kernel
  exact⟨uz h (by rw[e1];decide) (by rw[e2];decide) (by rw[e2];rfl) (by rw[e1,e2];exact O7) (.inl ⟨by rw[e2];exact nod (by decide),by rw[e2];decide⟩),by decide+kernel,by decide+kernel⟩
 |1,ho,hn=>
  cases ho;cases hn;have e1:("0.00":af).cps.toList=[48,46,48,48]:=by decide+kernel
  have e2:("-":af).cps.toList=[45]:=by decide+kernel
  exact⟨uz h (by rw[e1];decide) (by rw[e2];decide) (by rw[e2];rfl) (by rw[e1,e2];exact jZ (by decide) (by decide)) (.inl ⟨by rw[e2];exact nod (by decide),by rw[e2];decide⟩),by decide+kernel,by decide+kernel⟩
 |2,ho,hn=>
  cases ho;cases hn;have e1:("net":af).cps.toList=[110,101,116]:=by decide+kernel
  have e2:("ten":af).cps.toList=[116,101,110]:=by decide+kernel
  exact⟨uz h (by rw[e1];decide) (by rw[e2];decide) (by rw[e2];rfl) (by rw[e1,e2];exact jZ (by decide) (by decide)) (.inl ⟨by rw[e2];exact nod (by decide),by rw[e2];decide⟩),by decide+kernel,by decide+kernel⟩
 |3,ho,hn=>
  cases ho;cases hn;have e1:("-":af).cps.toList=[45]:=by decide+kernel
  have e2:("":af).cps.toList=[]:=by decide+kernel
  exact⟨uz h (by rw[e1];decide) (by rw[e2];decide) (by rw[e2];rfl) (by rw[e1,e2];exact pJ (by decide)) (.inr ⟨Z,e2⟩),by decide+kernel,by decide+kernel⟩
 |4,ho,hn=>
  cases ho;cases hn;have e1:(".":af).cps.toList=[46]:=by decide+kernel
  have e2:(",":af).cps.toList=[44]:=by decide+kernel
  exact⟨uz h (by rw[e1];decide) (by rw[e2];decide) (by rw[e2];rfl) (by rw[e1,e2];exact jZ (by decide) (by decide)) (.inl ⟨by rw[e2];exact nod (by decide),by rw[e2];decide⟩),by decide+kernel,by decide+kernel⟩
 |5,ho,hn=>
  cases ho;cases hn;have e1:("month":af).cps.toList=[109,111,110,116,104]:=by decide+kernel
  have e2:("base":af).cps.toList=[98,97,115,101]:=by decide+kernel
  exact⟨uz h (by rw[e1];decide) (by rw[e2];decide) (by rw[e2];rfl) (by rw[e1,e2];exact jZ (by decide) (by decide)) (.inl ⟨by rw[e2];exact nod (by decide),by rw[e2];decide⟩),by decide+kernel,by decide+kernel⟩
 |i+6,ho,hn=>cases ho
theorem Oc (h:uj T){x:V}(hx:x∈[V.str " ",V.str "\n",V.str "\n\n",V.str "\nsums"]):∃e,x=.str e/\e.length<=5/\G0 (T++e):=by
 have key:∀{e:af} {b:List Nat},e.cps.toList=b->(b.all λx=>!vd x)=true->b.length<=5->WR 1 b->V.str e=.str e/\e.length<=5/\G0 (T++e):=λ{e b} he hn hl hw=>by
  refine⟨Z,by rw[zq,he];exact hl,Mi (b:=b) h (λx hx=>?_) (EH hl) hw (by rw[zR,he])⟩;have:=dA.mp hn x hx
  rwa [Dg]at this
 have w:∀{b:List Nat},(uO 10 b).all (λr=>decide (wc 1 r<=1))=true->WR 1 b:=λhb r hr=>B' (dA.mp hb r hr);simp only[CF,dw,or_false]at hx;rcases hx with rfl |rfl |rfl |rfl
 ·exact⟨_,key (b:=[32]) (by decide+kernel) (by decide) (by decide) (w (by decide+kernel))⟩
 ·exact⟨_,key (b:=[10]) (by decide+kernel) (by decide) (by decide) (w (by decide+kernel))⟩
 ·exact⟨_,key (b:=[10,10]) (by decide+kernel) (by decide) (by decide) (w (by decide+kernel))⟩
 ·exact⟨_,key (b:=[10,115,117,109,115]) (by decide+kernel) (by decide) (by decide) (w (by decide+kernel))⟩
end Pg
namespace K27
open PySem PySem.NumText L2 Pg
seal PE PA PT PW PS jg PG vW PI vf PO PK
section
variable {K:BFr}{mg:af->Option ae}
set_option maxHeartbeats 16000000 in
theorem mi (F:jn K "_law_bent" "_law_bent" (qH 82) f fd)(G:wk mg):qD P w K mg base qQ 1 f fd ["_law_text","_law_number"] xw:=by
 have nd:(["_law_text","_law_number","_law_more","_law_way","_law_at","_law_sign","_law_rows_here","_law_place","_law_olds"]:List af).Nodup:=by decide+kernel
 refine F.ok (N:=["_law_text","_law_number","_law_more","_law_way","_law_at","_law_sign","_law_rows_here","_law_place","_law_olds"]) (by walk_at"s") (λvs H Q E h=>?_) (λV' A outer s H vs Q E hr h=>?_)
 ·obtain⟨z,n,rfl,_⟩:=h;rfl
 ·obtain⟨z,n,rfl,pt,n0,n1,q⟩:=h
  refine' ⟨_,(Ot (i:=2) nd Z (ax Z) q8 (pv 1)
    (qU (PS.p (zE (i:=3) nd Z (ax Z) (zm qg (pv 1) ze)))
    (qU (PS.p (zE (i:=4) nd Z (ax Z) (zm qg (zm q8 (pv 2) ze) (zm qu (zu qf Z G.len g_ (za (pv 0) zd)) ze))))
    (qU (PS.p (zE (i:=5) nd Z (ax Z) (qa wX zv (zm qg (pv 2) ze))))
    (qU (PS.p (qm (zD y6 (pv 3) ze (zI _)) (zi (zB (zm zS (zm zS (zJ qw (pv 0) zV (zK (pv 4))) (pv 5)) (zJ qw (pv 0) (zK (pv 4)) zV)))) zQ))
    (qU (PS.p (qm (zD y6 (pv 3) ze (zI _)) (zi (zB (zm zS (zJ qw (pv 0) zV (zK (pv 4))) (zJ qw (pv 0) (zK (zm qu (pv 4) ze)) zV)))) zQ))
    (qU (PS.p (qm (zD Zv (pv 3) ze (zI _)) (zi (zB (zm zS (zm zS (zJ qw (pv 0) zV (zK (pv 4))) (pv 5)) (zJ qw (pv 0) (zK (zm qu (pv 4) ze)) zV)))) zQ))
    (qU (PS.p (zE (i:=6) nd Z (ax Z) (qX aA iC i_ wz (pv 0) (za zv zd))))
    (qU (PS.p (zE (i:=7) nd Z (ax Z) (zm qg (pv 2) (zu qp Z G.len g_ (za (pv 6) zd)))))
    (qU (PS.p (qm (zD y6 (pv 3) ze (zI _)) (zi (zB (qX aA hZ hW v5 zv (za (zm qL (zJ yS (pv 6) zV (zK (pv 7))) (zJ yS (pv 6) (zK (zm qu (pv 7) ze)) zV)) zd)))) zQ))
    (qU (PS.p (qm (zD y6 (pv 3) ze (zI _)) (zi (zB (qX aA hZ hW v5 zv (za (zm qL (zJ yS (pv 6) zV (zK (zm qu (pv 7) ze))) (zJ yS (pv 6) (zK (pv 7)) zV)) zd)))) zQ))
    (qU (PS.p (qm (zD y6 (pv 3) ze (zI _)) (zi (zB (qX aA hZ hW v5 zv (za (zm qL (zJ yS (pv 6) (zK (pv 7)) zV) (zJ yS (pv 6) zV (zK (pv 7)))) zd)))) zQ))
    (qU (PS.p (qm (zD y6 (pv 3) ze (zI _)) (zi (zB (zm zS (pv 0) (qa qx (zU (za zv (za zv (za zv (za zv zd))))) (zm qg (pv 2) ze))))) zQ))
    (qU (Tv (zD y6 (pv 3) ze (zI _)) (qU (Nq (Tj qx (MW (ZH (PE.p zv) (ZH (PE.p (zm zS zv (qa qx (pv 6) (pv 7)))) (ZH (PE.p (zm zS (qa qx (pv 6) (pv 7)) zv)) (ZH (oR (qa qx (pv 6) (pv 7)) Rr tD) Nw))))) (zm qg (zm q8 (pv 2) ze) ze)) (m5 (pv 6) (pv 7) WG))
     (U5 (PS.p (zB (qX aA hZ hW v5 zv (za (pv 6) zd)))))) (jg.p zQ))
    (Pd (i:=8) (cs:=olds) nd Z (ax Z) (.cons (.cons (.cons (.cons (.cons (.cons .nil)))))) (by decide+kernel) (λa ob KK tv=>U5 (MY (oR (pv 0) (Ng (a:=a) tv (pv 8) (zm qg (pv 2) ze)) (NS (cs:=news) (.cons (.cons (.cons (.cons (.cons (.cons .nil)))))) (by decide+kernel) (zm qg (pv 2) ze)))))))))))))))))))),?main⟩
  try (walk_at"d5")
  have hz:=pt.len;have zf:z.length<=ar:=vT hz rfl;have lz:=zq z;have m0:0<=n/120:=eO n0 (by decide);refine⟨_,Z,_,_,Z,Z,⟨by decide,by decide⟩,_,Z,_,_,Z,Z,(by show(0:Int)<10;decide),?_⟩
  walk_at"d4"
  generalize n/120=m at m0;generalize n%10=wy;have a0:0<=m/20%((z.length:Nat)+1:Int):=dG _ (by lia);have a1:m/20%((z.length:Nat)+1:Int)<(z.length:Nat)+1:=dH _ (by lia);refine⟨_,Z,_,_,Z,Z,⟨by decide,by decide⟩,_,Z,z,Z,zf,_,_,Z,Z,_,_,Z,Z,(by show(0:Int)<(z.length:Nat)+1;lia),?_⟩
  walk_at"d4"
  generalize m/20%((z.length:Nat)+1:Int)=at' at a0 a1;obtain⟨k,rfl⟩:=dZ a0;have kl:k<=z.cps.toList.length:=by lia
  have sl:("0123456789-. \nabz+,_":af).length<=ar:=by decide+kernel
  have sl20:("0123456789-. \nabz+,_":af).cps.toList.length=20:=by decide+kernel
  obtain⟨c,hc,_⟩:=kP (xs:=("0123456789-. \nabz+,_":af).cps.toList) (i:=m%20) (dG _ (by decide)) (by rw[sl20];exact dH _ (by decide));refine⟨_,Z,_,_,Z,Z,(by show(0:Int)<20;decide),_,_,c,Z,Z,sl,hc,?_⟩;have t1:=pR z k;have d1:=JM z k;have d2:=JM z (k+1);have p1:((k:Nat):Int)+1=((k+1:Nat):Int):=rfl;have lt:=h9 z none (some ((k:Nat):Int));have ld:=h9 z (some ((k:Nat):Int)) none;have ld2:=h9 z (some (((k+1:Nat):Nat):Int)) none;have o1:(⟨#[c]⟩:af).length=1:=rfl;have o2:(⟨#[c]⟩:af).cps.toList=[c]:=rfl;have e0:z.cps.toList=z.cps.toList.take k++([]++z.cps.toList.drop k):=by rw[Di,DE]
  have e1:z.cps.toList=z.cps.toList.take k++((z.cps.toList.drop k).take 1++z.cps.toList.drop (k+1)):=by
   rw[<- EZ,DE,DE]
  have ho:((z.cps.toList.drop k).take 1).length<=1:=List.length_take_le _ _;refine⟨_,Z,Z,_,Z,yo (λ_=>?_) (λ_=>?_)⟩
  ·refine⟨_,Z,_,Z,_,Z,_,Z,zf,_,Z,_,_,Z,Z,by rw[o1,ah];lia,_,Z,_,Z,_,Z,_,Z,zf,_,_,Z,Z,by rw[qB,o1,ah];lia,q _ H (Qf (m:=[c]) pt e0 (CP _) (Cz _) ?_) (zj.refl _)⟩;rw[zR,zR,t1,d1,o2,dc]
  refine⟨_,Z,Z,_,Z,yo (λ_=>?_) (λ_=>?_)⟩
  ·refine⟨_,Z,_,Z,_,Z,_,Z,zf,_,Z,_,Z,_,_,Z,Z,_,Z,_,Z,zf,_,_,Z,Z,by rw[p1,ah];lia,q _ H (Qf (m:=[]) pt e1 ho (CP _) ?_) (zj.refl _)⟩;rw[p1,zR,t1,d2,Di]
  refine⟨_,Z,_,_,Z,Z,_,Z,yo (λ_=>?_) (λ_=>?_)⟩
  ·refine⟨_,Z,_,Z,_,Z,_,Z,zf,_,Z,_,_,Z,Z,by rw[o1,ah];lia,_,Z,_,Z,_,_,Z,Z,_,Z,_,Z,zf,_,_,Z,Z,by rw[p1,qB,o1,ah];lia,q _ H (Qf (m:=[c]) pt e1 ho (Cz _) ?_) (zj.refl _)⟩;rw[p1,zR,zR,t1,d2,o2,dc]
  clear e0 e1 ho o1 o2 lt ld ld2 t1 d1 d2 hc;obtain⟨_,sn,w0,wr,ew⟩:=jy z "\n";have wf:=pF pt;have rw':=Xs z;refine⟨_,Z,Z,_,_,Z,Z,Z,zf,vC _ (CD hz (by decide)),λl H1 s1 l0 e1=>?_⟩;generalize hws:aW z "\n" = ws at sn wf rw' e1;have wl:(ws.map V.str).length=ws.length:=Cw _;have wp:0<ws.length:=by rw[<- hws,ew];exact Kq _
  have rb:∀r∈ws,p6 r.cps.toList:=λr hr=>pt.rowB (rw' r hr);have g0:0<=m%(((ws.map V.str).length:Nat):Int):=dG _ (by lia);have g1:m%(((ws.map V.str).length:Nat):Int)<ws.length:=by rw[wl];exact dH _ (by lia)
  refine⟨_,Z,_,Z,l,_,Z,.inl (zL.of e1),_,_,Z,Z,(by show(0:Int)<((ws.map V.str).length:Nat);lia),?_⟩
  walk_at"d4"
  generalize m%(((ws.map V.str).length:Nat):Int)=pl at g0 g1;obtain⟨p,rfl⟩:=dZ g0;have pl':p<ws.length:=by lia
  have pp:((p:Nat):Int)+1=((p+1:Nat):Int):=rfl;have szl:100<=ar:=by rw[ah];decide
  have P':∀{zs:List af} {H':Hp},(∀r∈zs,p6 r.cps.toList)->zs.length<=21->zj H H'->FU "\n" zs=true/\Q (.str (aF "\n" zs)) H':=λ{zs H'} h1 h2 h3=>⟨(VA h1 h2).2,q _ H' (VA h1 h2).1 h3⟩;refine⟨_,Z,Z,_,Z,yo (λ_=>?_) (λ_=>?_)⟩
  ·refine⟨Z,_,Z,_,Z,_,Z,l,_,Z,zL.of e1,λx1 x10=>⟨_,Z,_,Z,_,_,Z,Z,_,Z,l,_,Z,zL.of (zj.upd x10 _ _ e1),λx2 x20=>⟨x1,x2,_,_,Z,Z,zj.upd x20 _ _ zt,zt,?_,λl3 H3 s3 n3 e3=>?_⟩⟩⟩
   ·rw[pp,vw,jP,CQ,dB];lia
   ·rw[pp,vw,jP,<- Eh,<- EI,<- CJ]at e3;obtain⟨j1,j2⟩:=P' (zs:=ws.take p++ws.drop (p+1)) (H':=H3) (λr hr=>rb r (by rcases CU.mp hr with h |h;exact DO h;exact eR h)) (by rw[CA,CQ,dB];lia) (s1.trans ((zj.upd x10).trans ((zj.upd x20).trans s3)));exact⟨_,_,l3,Z,Z,zL.of e3,j1,j2⟩
  refine⟨_,Z,Z,_,Z,yo (λ_=>?_) (λ_=>?_)⟩
  ·refine⟨Z,_,Z,_,Z,_,_,Z,Z,_,Z,l,_,Z,zL.of e1,λx1 x10=>⟨_,Z,_,Z,_,Z,l,_,Z,zL.of (zj.upd x10 _ _ e1),λx2 x20=>⟨x1,x2,_,_,Z,Z,zj.upd x20 _ _ zt,zt,?_,λl3 H3 s3 n3 e3=>?_⟩⟩⟩
   ·rw[pp,vw,jP,CQ,dB];lia
   ·rw[pp,vw,jP,<- Eh,<- EI,<- CJ]at e3;obtain⟨j1,j2⟩:=P' (zs:=ws.take (p+1)++ws.drop p) (H':=H3) (λr hr=>rb r (by rcases CU.mp hr with h |h;exact DO h;exact eR h)) (by rw[CA,CQ,dB];lia) (s1.trans ((zj.upd x10).trans ((zj.upd x20).trans s3)));exact⟨_,_,l3,Z,Z,zL.of e3,j1,j2⟩
  refine⟨_,Z,Z,_,Z,yo (λ_=>?_) (λ_=>?_)⟩
  ·refine⟨Z,_,Z,_,Z,_,Z,l,_,Z,zL.of e1,λx1 x10=>⟨_,Z,_,Z,_,Z,l,_,Z,zL.of (zj.upd x10 _ _ e1),λx2 x20=>⟨x1,x2,_,_,Z,Z,zj.upd x20 _ _ zt,zt,?_,λl3 H3 s3 n3 e3=>?_⟩⟩⟩
   ·rw[vw,jP,CQ,dB];lia
   ·rw[vw,jP,<- Eh,<- EI,<- CJ]at e3;obtain⟨j1,j2⟩:=P' (zs:=ws.drop p++ws.take p) (H':=H3) (λr hr=>rb r (by rcases CU.mp hr with h |h;exact eR h;exact DO h)) (by rw[CA,CQ,dB];lia) (s1.trans ((zj.upd x10).trans ((zj.upd x20).trans s3)));exact⟨_,_,l3,Z,Z,zL.of e3,j1,j2⟩
  refine⟨_,Z,Z,_,Z,yo (λ_=>?_) (λ_=>?_)⟩
  ·obtain⟨x,hx,mx⟩:=kP (xs:=[V.str " ",V.str "\n",V.str "\n\n",V.str "\nsums"]) (i:=m%4) (dG _ (by decide)) (dH _ (by decide));obtain⟨e,rfl,el,tb⟩:=Oc pt mx;refine⟨_,Z,z8 Z,λl3 H3 s3 n3 e3=>⟨_,Z,_,_,Z,Z,(by show(0:Int)<4;decide),l3,_,_,_,Z,Z,zL.of e3,hx,_,_,Z,Z,by rw[ah];lia,q _ H3 tb (s1.trans s3)⟩⟩
  obtain⟨r,hr⟩:∃r,ws[p]?=some r:=⟨_,CC pl'⟩;have mr:=dv hr;have ra:atI (ws.map V.str) ((p:Nat):Int)=some (.str r):=jG (by rw[CI,hr];rfl);have rl:r.length<=20000:=CD (sn r mr) hz;refine⟨_,Z,Z,_,Z,yo (λ_=>?_) (λ_=>?_)⟩
  ·have l1:(" ":af).length=1:=by decide+kernel
   have l6:("  0.00":af).length=6:=by decide+kernel
   have l4:("0.00":af).length=4:=by decide+kernel
   refine⟨_,Z,_,Z,l,_,_,_,Z,Z,zL.of e1,ra,_,_,Z,Z,by rw[l1,ah];lia,_,Z,_,Z,l,_,_,_,Z,Z,zL.of e1,ra,_,_,Z,Z,by rw[l6,ah];lia,_,Z,_,Z,l,_,_,_,Z,Z,zL.of e1,ra,_,Z,_,_,Z,Z,by decide+kernel,by rw[l4];lia,z8 Z,λl3 H3 s3 n3 e3=>?_⟩;obtain⟨x,hx,mx⟩:=kP (xs:=[V.str "",V.str (" " ++ r),V.str (r ++ "  0.00"),V.str (sG r "-" "0.00")]) (i:=m/7%4) (dG _ (by decide)) (dH _ (by decide))
   obtain⟨y,rfl,yb⟩:∃y,x=.str y/\p6 y.cps.toList:=by
    have hm:=rw' r mr;simp only[CF,dw,or_false]at mx;rcases mx with rfl |rfl |rfl |rfl
    ·exact⟨_,Z,by rw[show("":af).cps.toList=[] by decide+kernel];exact xr⟩
    ·exact⟨_,Z,by rw[zR,show(" ":af).cps.toList=[32] by decide+kernel];exact PR pt hm⟩
    ·exact⟨_,Z,by rw[zR,show("  0.00":af).cps.toList=[32,32,48,46,48,48] by decide+kernel];exact lO pt hm⟩
    ·exact⟨_,Z,NJ pt hm⟩
   have e13:=s3 _ _ e1
   have ix:XT (ws.map V.str).length ((p:Nat):Int)=some p:=by
    unfold XT;rw[L' (by lia),L' (by lia)];rfl
   refine⟨_,Z,_,_,Z,Z,⟨by decide,by decide⟩,_,_,Z,Z,(by show(0:Int)<4;decide),l3,_,_,_,Z,Z,zL.of e3,hx,_,Z,_,Z,l,_,_,p,Z,Z,e13,ix,?_⟩
   obtain⟨j1,j2⟩:=P' (zs:=ws.set p y) (H':=upd H3 l (.lst ((ws.map V.str).set p (.str y)))) (λr' Ξ=>by
    rcases List.mem_or_eq_of_mem_set Ξ with h |h
    ·exact rb r' h
    ·rw[h];exact yb) (by rw[fo];lia) (λb o hb=>by
    rw[zx (zo hb l0)];exact s3 _ _ (s1 _ _ hb))
   exact⟨Z,_,Z,_,ws.set p y,l,Z,Z,zL.of (by rw[zt,List.map_set]),j1,j2⟩
  ·intro ao ob ao0;have s2:zj H1 (upd H1 ao (.frz ob (.lst (olds.map V.str)))):=zj.upd ao0;have i0:0<=m%6:=dG _ (by decide);have i1:m%6<6:=dH _ (by decide);obtain⟨oo,hoo⟩:∃oo,olds[(m%6).toNat]?=some oo:=⟨_,CC (show(m%6).toNat<6 by lia)⟩;obtain⟨nn,hnn⟩:∃nn,news[(m%6).toNat]?=some nn:=⟨_,CC (show(m%6).toNat<6 by lia)⟩;obtain⟨tb,ne,nl⟩:=mO pt hoo hnn;have nb:(z.length+1)*nn.length<=(z.length+1)*4:=Iy _ nl;refine⟨_,Z,z,Z,_,Z,Z,_,Z,_,_,Z,Z,(by show(0:Int)<6;decide),m%6,oo,Z,i0,zt,hoo,λan on an0=>?_⟩;have s3:=zj.upd (o:=.frz on (.lst (news.map V.str))) an0;exact⟨_,Z,_,_,Z,Z,(by show(0:Int)<6;decide),m%6,nn,Z,i0,zt,hnn,_,_,Z,Z,ne,by lia,q _ _ tb (s1.trans (s2.trans s3))⟩
end
end K27
namespace Pg
open PySem L2
end Pg
namespace L2
open PySem PySem.Spec PyProof.Rows
section
variable {d:aj}
end
end L2
namespace Pg
open PySem L2
open PySem.NumText Builtin Builtin.Str
end Pg
variable {sp':L2.Sp}
namespace L2
open PySem PySem.Spec PyProof.Rows
section
variable {r:aj}{Q:VK}{OK:List Int->Prop}
end
section
variable {K:BFr}{mg:af->Option ae}{C:CT}{k:Nat}
theorem jw.imp' (M:jw P w K mg base CX k x ps sp)(h:∀vs H Q E,sp' vs H Q E->sp vs H Q E):jw P w K mg base CX k x ps sp':=by
 obtain⟨f,fd,a,b,c,F⟩:=M;exact⟨f,fd,a,b,c,F.imp h⟩
end
end L2
namespace Pg
open PySem PySem.NumText L2 Builtin Builtin.Str
end Pg
namespace Pg
open PySem L2 PySem.NumText
def YM (w:af):V:=NK (qI w.cps.toList)
theorem lC (h:3<=ws.length):(ws.take (ws.length-1)).drop 1=ws.getD 1 aC::yH ws:=by
 unfold yH;have l:1<(ws.take (ws.length-1)).length:=by rw[CQ];lia
 rw[Fe l]
 congr 1
 rw[Kz,dD,CC (show 1<ws.length by lia)];rfl
theorem oW (ns ws:List af):(((ns.map V.str).zip (ws.map YM)).filter λq=>!decide (q.2=V.non)).map (λq=>[q.1,q.2])=((ns.zip ws).filterMap Jk).map cP:=by
 induction ns generalizing ws with
 |nil=>rfl
 |cons a ns ih=>
  cases ws with
  |nil=>rfl
  |cons u ws=>
   rw[CO,CO,Ek,Ek,Dm]
   cases q:qI u.cps.toList with
   |none=>
    have e:(!decide (YM u=V.non))=false:=by unfold YM;rw[q];rfl
    have d:Jk (a,u)=none:=by unfold Jk;rw[q];rfl
    rw[Ej (p:=λq:V×V=>!decide (q.2=V.non)) (a:=(V.str a,YM u)) (by rw[e];exact CZ),d,ih]
   |some v=>
    have e:(!decide (YM u=V.non))=true:=by unfold YM;rw[q];rfl
    have d:Jk (a,u)=some (a,v):=by unfold Jk;rw[q];rfl
    have c:YM u=.int v:=by unfold YM;rw[q];rfl
    rw[eG (p:=λq:V×V=>!decide (q.2=V.non)) (a:=(V.str a,YM u)) e,d,CO,CO,ih,c];rfl
theorem W4 {ys:List af}(h1:ys.Nodup)(h2:ys.Pairwise (λa b:af=>¬b.cps.toList<a.cps.toList))(h3:∀z,z∈ys↔z∈ns)(h4:ns.Nodup)(h5:ns.Pairwise (λa b:af=>¬b.cps.toList<a.cps.toList)):ys=ns:=by
 have s1:=kO gM (Qr h2 h1) (Qr h5 h4) λx hx=>(h3 x).mp hx;have s2:=kO gM (Qr h5 h4) (Qr h2 h1) λx hx=>(h3 x).mpr hx;exact s1.eq_of_length (Nr s1.length_le s2.length_le)
theorem ph (xs ys:List af):Yt (xs.map V.str) (ys.map V.str)=decide (xs=ys):=by
 have len:∀zs:List af,(zs.map V.str).length=zs.length:=λzs=>Cw _;rw[Dr,decide_eq_true_iff];unfold Yt;rw[CW,len,len,dA]
 have at_:∀(zs:List af) (i:Nat) (h:i<zs.length),(zs.map V.str).getD i V.non=.str zs[i]:=λzs i h=>by
  rw[dD,CI,CC h];rfl
 constructor
 ·rintro ⟨h1,h2⟩;have hl:xs.length=ys.length:=eq_of_beq h1;refine List.ext_getElem hl λi a b=>?_;have:=h2 i (Dl.mpr a);rw[at_ xs i a,at_ ys i b,oh]at this;exact B' this
 ·rintro rfl;refine⟨beq_self_eq_true _,λi hi=>?_⟩;rw[at_ xs i (Dl.mp hi),oh];exact i' rfl
theorem uj.txb (h:uj z):G0 z:=Yx (CD h.len (by decide)) (CD h.nl (by decide)) (h.wr.le (by decide)) (.inl (h.dr.le (by decide)))
theorem cX:xn 2=[.str "text",.str "value"]:=by rfl
theorem Gm {K:BFr}{t l:aj}(ht:H t=some (.tup [.ref l]))(hl:H l=some (.lst [.str "text",.str "value"])):Is K H 2 (.ref t) (.t [.l [.v (.str "text"),.v (.str "value")]]):=by
 refine .t (yT.of ht) rfl λj x d e1 e2=>?_
 match j,e1,e2 with
 |0,e1,e2=>
  cases e1;cases e2;exact Is.flat (zL.of hl) rfl
theorem pX.m_eq {s t:yZ}(h:pX ns ws s)(h':pX ns ws t):s.m=t.m:=ai (h.m.symm.trans h'.m)
theorem Lg:∀vs H Q E,Uw vs H Q E->UQ vs H Q E:=λvs H Q E hM=>by obtain⟨a,e,h,q⟩:=hM;exact⟨a,e,Int.lt_of_lt_of_le h (by decide),q⟩
end Pg
namespace L2
open PySem PySem.Spec PyProof.Rows
section
variable {K:BFr}{g:TG}{D:jY}
theorem Od (Pv:Nat->St->Hp->Prop)(Rv:V->Hp->Prop)(h0:Pv 0 σ H)(hl:∀i σ H,i<=xs.length->Pv i σ H->zL K H a xs)(hr:∀v H',Rv v H'->D.rt v H')(hs:∀i x σ H,xs[i]?=some x->Pv i σ H->∀E:jY,(∀σ' H',Pv (i+1) σ' H'->E.nx σ' H')->(∀v H',Rv v H'->E.rt v H')->g x σ H λσ2 H2=>tb E σ2 H2)(hd:∀σ H,Pv xs.length σ H->D.nx σ H):Mo (rN K a) g tb D σ H :=
 Zu Pv h0 hl (λi x σ H hx p=>hs i x σ H hx p _ (λ_ _ h=>h) hr) hd
end
end L2
namespace K27
open PySem PySem.NumText L2 Pg
seal PE PA PT PW PS jg PG vW PI vf PO PK
section
variable {K:BFr}{mg:af->Option ae}
set_option maxHeartbeats 16000000 in
theorem Nt (F:jn K "_law_due" "_law_due" (qH 81) f fd)(G:wk mg)(C1:jw P w K mg base qQ 1 "_law_names_good" ["_law_names_here"] xc)(C2:jw P w K mg base qQ 1 "_law_read_month" ["_law_text"] WX)(C3:jw P w K mg base qQ 1 "_law_reads" ["_law_text"] QA)(C4:jw P w K mg base qQ 2 "_law_paper" ["_law_told_here"] Qg):qD P w K mg base qQ 3 f fd ["_law_text"] Gn:=by
 have nd:(["_law_text","_law_rows_here","_law_names_here","_law_told_here","_law_words","_law_month","_law_cells","_law_dues"]:List af).Nodup:=by decide+kernel
 have nr:(["_law_row"]:List af).Nodup:=by decide+kernel
 have nw:(["_law_word"]:List af).Nodup:=by decide+kernel
 have n2:(["_law_name","_law_one"]:List af).Nodup:=by decide+kernel
 refine F.ok (N:=["_law_text","_law_rows_here","_law_names_here","_law_told_here","_law_words","_law_month","_law_cells","_law_dues"]) (by walk_at"s") (λvs H Q E h=>?_) (λV' A outer s H vs Q E hr h=>?_)
 ·obtain⟨z,rfl,_⟩:=h;rfl
 ·obtain⟨z,rfl,tb,q,qn⟩:=h;have hu:=hr.units0;have un0:(A.deeper (iu "_law_due" (z5 (qH 81)) s.heap.objs.size f V')).units<sV:=DX (De _ 64) hr.units
  refine' ⟨_,(zh ?comp_5
    (zh (zE (i:=2) nd Z (ax Z) (zJ yS (qa qx (pv 1) ze) (zK ze) (zK (yL qV ze))))
    (zh (qm (PW.pt (jh (yx (yg (zG C1 hr (by decide) zT (za (pv 2) zd)))) (jc (zD (mG hu) (pv 2) (W8 Z Z G.sorted Z G.set (za (pv 2) zd)) (zI _))))) (zi (zB jf)) zQ)
    (zh (zE (i:=3) nd Z (ax Z) (zU zd))
    (zh (jC aX Z (qh (zJ yS (pv 1) (zK ze) (zK (yL qV ze)))) (zA (i:=4) nd Z (ax Z)) (zh (qm (zD v8 (zu qp Z G.len g_ (za (pv 4) zd)) (zm qu (zu qp Z G.len g_ (za (pv 2) zd)) ze) (zI _)) (zi (zB jf)) zQ)
    (zh (zE (i:=5) nd Z (ax Z) (zG C2 hr (by decide) zT (za (qa qx (pv 4) ze) zd)))
    (zh ?comp_4
    (zh (qm (PW.pt (jh (zD Ur (pv 5) jf (zI _)) (jh (zD Ur (qa qx (pv 6) ze) jf (zI _)) (jc (PW.pt (lK (zD (YY un0) (pv 3) (zU zd) (zI _)) (oy (zD xk (pv 5) (qa yA (qa qx (pv 3) (yL qV ze)) ze) (zI _))))))))) (zi (zB jf)) zQ)
    (zh ?comp_3
    (zi (yR (qX aU aP aO qT (pv 3) (za (qq (za (pv 5) (za (qa qx (pv 6) ze) (za (zY wW Z G.tuple ju (za (pv 7) zd)) (za (zm kJ (qa qx (pv 6) ze) (zu (uy Z) Z G.sum wF (za ?comp_2 zd))) zd))))) zd))))))))))
    (zh (qm (zD v8 (zG C4 hr (by decide) zT (za (pv 3) zd)) (pv 0) (zI _)) (zi (zB jf)) zQ)
    (zi (zB (pv 3))))))))),?main⟩
  case comp_5=>
   refine' jV (i:=1) (Nc:=["_law_row"]) (cl:=[]) (src:=[none]) (wi:=jb K (tY K "str" Yv (zN 0) (z6 (tC (.str "\n")) yw))) (g:=zO 0) (tt:=qA) (te:=Zj [none] (jb K (tY K "str" Yv (zN 0) (z6 (tC (.str " ")) yw))) (zO 0) (uE (jA bA (zN 0) (tC (.str "")))) (zN 0)) nd rfl rfl
    (by walk_at"c0") rfl (qh (qX aA iC i_ wz (pv 0) (za zv zd))) ?hb
   case hb=>
    intro fp C' s' H';refine⟨zA (i:=0) nr Z (ax Z),qi,?c2⟩
    refine' z9 (Nc:=["_law_word"]) (cl:=[]) (src:=[none]) (wi:=jb K (tY K "str" Yv (zN 0) (z6 (tC (.str " ")) yw))) (g:=zO 0) (tt:=uE (jA bA (zN 0) (tC (.str "")))) (te:=zN 0)
     (by walk_at"c0") rfl (qh (qX aA iC i_ wz (pv 0) (za zv zd))) ?hb2
    case hb2=>
     intro fp2 C2 s2 H2;exact⟨zA (i:=0) nw Z (ax Z),vo (zD v8 (pv 0) zv (zI _)),pv 0⟩
  case comp_4=>
   refine' jV (i:=6) (Nc:=["_law_word"]) (cl:=[]) (src:=[none]) (g:=zO 0) (tt:=qA) (te:=cA (uE (jA B2 (zN 0) (tC (.str "-")))) (tC .non) (λσ H Q=>z6 (zN 0) yw σ H λvs H1=>QA vs H1 Q E0)) nd rfl rfl
    (by walk_at"c0") rfl (qh (zJ yS (pv 4) (zK ze) (zK (yL qV ze)))) ?hb
   case hb=>
    intro fp C' s' H';exact⟨zA (i:=0) nw Z (ax Z),qi,wM (zD y6 (pv 0) zv (zI _)) jf (zG C3 hr (by decide) zT (za (pv 0) zd))⟩
  case comp_3=>
   refine' jV (i:=7) (Nc:=["_law_name","_law_one"]) (cl:=[]) (src:=[none,none]) (g:=uQ K 2 (qN (zO 0) (qN (zO 1) wj))) (tt:=uE (jA (λx y H Q=>y=.non/\Q (.bl (!decide (x=.non))) H) (zN 1) (tC .non))) (te:=Y9 (z6 (zN 0) (z6 (zN 1) yw))) nd rfl rfl
    (by walk_at"c1") rfl (YT Z G.zip (za (pv 2) (za (zJ yS (pv 6) (zK ze) zV) zd))) ?hb
   case hb=>
    intro fp C' s' H';exact⟨jr Z (zW (zA (i:=0) n2 Z (ax Z)) (zW (zA (i:=1) n2 Z (ax Z)) yz)),vo (zD nB (pv 1) jf (zI _)),qq (za (pv 0) (za (pv 1) zd))⟩
  case comp_2=>
   refine' z9 (Nc:=["_law_name","_law_one"]) (cl:=[]) (src:=[none,none]) (wi:=jb K (zN 7)) (g:=uQ K 2 (qN (zO 0) (qN (zO 1) wj))) (tt:=qA) (te:=zN 1)
    (by walk_at"c1") rfl (qh (pv 7)) ?hb
   case hb=>
    intro fp C' s' H';exact⟨jr Z (zW (zA (i:=0) n2 Z (ax Z)) (zW (zA (i:=1) n2 Z (ax Z)) yz)),qi,pv 1⟩
  try (walk_at"d5")
  have hz:=tb.len;have zf:z.length<=ar:=vT hz rfl;obtain⟨sl,sn,_⟩:=jy z "\n";obtain⟨r0,rest,er⟩:=Yj z;refine⟨_,Z,Z,_,_,Z,Z,Z,zf,vC _ hz,λl H1 s1 l0 e1=>?_⟩;refine⟨l,Z,⟨_,zL.of e1⟩,λD hD=>WS (qd (zL.of e1)) (yE (aW z "\n")) hD (by rw[ah];lia) (λH' v r=>∃b,v=.ref b/\b≠D/\H' b=some (.lst ((nZ r).map V.str))) (λ{H H' v x} k h=>?_) (λi x hx v H2 R s2 hd e2 r=>?_) (λzs H2 s2 e2 zl G2=>?_)⟩
  ·obtain⟨b,e,n,h⟩:=h;exact⟨b,e,n,k b _ h n⟩
  ·subst e2;obtain⟨us,hd⟩:=hd;have xl:=CD (sn x (dv hx)) hz;obtain⟨sl',_,_⟩:=jy x " ";refine⟨_,Z,Z,_,_,Z,Z,Z,vT xl Z,vC _ xl,λl' H3 s3 n3 e3=>?_⟩;refine⟨l',Z,⟨_,zL.of e3⟩,λD' hD'=>Ji (qd (zL.of e3)) (yE (aW x " ")) hD' (by rw[ah];lia) (λw=>!decide (w = "")) (λw=>.str w) (λw hw v H4 R s4 e4 r4=>?_) (λw hw v H4 R s4 e4 r4=>?_) (λH4 s4 e4=>r _ H4 (s3.trans s4) ⟨D',Z,(zo (s3 _ _ hd) hD').symm,e4⟩)⟩
   ·subst e4;refine⟨_,Z,Z,_,Z,?_⟩;have:=r4 H4 (zj.refl _);rw[show decide (V.str w=V.str "")=decide (w = "") from decide_eq_decide.mpr ⟨λh=>V.str.inj h,λh=>by rw[h]⟩];exact this
   ·subst e4;exact⟨_,Z,r4 _ (zj.refl _)⟩
  have LT:qG H2 zs (uL z):=by
   refine⟨by unfold uL;rw[zl,Cw],λi r h=>?_⟩;unfold uL at h;rw[CI]at h;obtain⟨w,hw,rfl⟩:=CS.mp h;have il:i<zs.length:=by rw[zl];exact(CV.mp hw).1
   obtain⟨x,hx,b,eb,_,hb⟩:=G2 i _ (CC il);rw[hw]at hx;cases hx;exact⟨b,by rw[CC il,eb],hb⟩
  clear G2;have S2:=s1.trans s2;have wide:=tb.wide;have wl:=LY (z:=z);have m0:r0∈uL z:=by rw[er];exact CG
  obtain⟨a0,y0,h0⟩:=LT.at_ 0 r0 (by rw[er];rfl);have w0:=wide r0 m0;have ml:=UD r0;have rl:=tb.rows;have rml:=Y8 (uL z);refine⟨_,Z,D,_,0,_,Z,Z,zL.of e2,jG (j:=0) y0,_,Z,_,Z,_,Z,a0,_,Z,zL.of h0,λnl nl0=>?_⟩;rw[YK];have s3:zj H2 (upd H2 nl (.lst ((yH r0).map V.str))):=zj.upd nl0;have en:upd H2 nl (.lst ((yH r0).map V.str)) nl=some (.lst ((yH r0).map V.str)):=zt;generalize upd H2 nl (.lst ((yH r0).map V.str))=H3 at s3 en;have S3:=S2.trans s3;dsimp only;refine YO (λR=>∀H',zj H3 H'->(((yH r0).all vR=true/\(yH r0).Nodup/\(yH r0).Pairwise (λa b:af=>¬b.cps.toList<a.cps.toList))->R false H')/\((∀S,¬jN z S)->R true H')) (λR r=>?_) (λH4 s4=>?_)
  ·refine⟨_,Z,nl,yH r0,Z,en,by lia,λw hw=>CD (wl r0 m0 w (ZF hw)) hz,λH4 s4=>⟨_,Z,?_⟩⟩
   cases ea:(yH r0).all vR with
   |false=>
    refine yh ((r H4 s4).2 λS hS=>?_);obtain⟨qs,hq⟩:=hS
    have:(yH r0).all vR=true:=by
     rw[hq.head er,D0,dA];exact hq.nm
    rw[ea]at this;cases this
   |true=>
    refine qO ⟨_,Z,_,Z,nl,yH r0,Z,zL.of (s4 _ _ en),by lia,λys h1 h2 h3 l5 H5 s5 n5 e5=>⟨nl,l5,_,_,Z,Z,zL.of (s5 _ _ (s4 _ _ en)),zL.of e5,xp _,xp _,_,Z,?_⟩⟩;rw[L' Z,ph]
    by_cases ee:yH r0=ys
    ·rw[i' ee];exact(r H5 (s4.trans s5)).1 ⟨ea,by rw[ee];exact h1,by rw[ee];exact h2⟩
    ·rw[j' ee];refine(r H5 (s4.trans s5)).2 λS hS=>?_;obtain⟨qs,hq⟩:=hS;have hd:=hq.head er;exact ee (W4 h1 h2 h3 (by rw[hd];exact hq.nd) (by rw[hd];exact Eg.mpr hq.so)).symm
  refine⟨λgood=>qO ?_,λno=>yh (qn no H4 (S3.trans s4))⟩;obtain⟨ng,nn,ns⟩:=good;have ng':∀w∈yH r0,vR w=true:=dA.mp ng;have S4:=S3.trans s4;have en4:=s4 _ _ en;refine⟨z8 Z,λtl H5 s5 tl0 e5=>?_⟩;have S5:=S4.trans s5;have e25:=s5 _ _ (s4 _ _ (s3 _ _ e2));refine⟨_,Z,_,Z,_,Z,_,Z,D,_,Z,zL.of e25,λp p0=>?_⟩;rw[YU];have s6:zj H5 (upd H5 p (.lst ((zs.take (zs.length-1)).drop 1))):=zj.upd p0;have LM:=Vs LT;have e6:upd H5 p (.lst ((zs.take (zs.length-1)).drop 1)) p=some (.lst ((zs.take (zs.length-1)).drop 1)):=zt;generalize upd H5 p (.lst ((zs.take (zs.length-1)).drop 1))=H6 at s6 e6;generalize (zs.take (zs.length-1)).drop 1=ms at LM e6;have S6:=S5.trans s6;have s26:zj H2 H6:=s3.trans (s4.trans (s5.trans s6));have t6:=s6 _ _ e5;have tlp:tl≠p:=zo e5 p0;have tlH:H tl=none:=S4.free tl0;have tl2:H2 tl=none:=(s3.trans s4).free tl0;have en6:=s6 _ _ (s5 _ _ en4);have tln:nl≠tl:=zo en4 tl0;have mll:ms.length=(vU (uL z)).length:=LM.len;have small:=tb.small
  refine⟨p,Z,⟨_,zL.of e6⟩,Od (K:=K) (a:=p) (xs:=ms) (λi σ H'=>∃x4 x5 x6 x7 ys S,σ=[some (.str z),some (.ref D),some (.ref nl),some (.ref tl),x4,x5,x6,x7]/\H' tl=some (.lst ys)/\yC H' ys S/\S.length=i/\(∀(j:Nat) s,S[j]?=some s->∃ws,(vU (uL z))[j]?=some ws/\pX (yH r0) ws s)/\(S.map (·.m)).Pairwise (λx y:Int=>x<y)/\∀b o,H6 b=some o->b≠tl->H' b=some o) (λv H'=>v=.non/\zj H H'/\∀T,¬jN z T)
   ⟨_,_,_,_,[],[],Z,t6,yC.nil,Z,(λj s h=>nomatch h),iH,λb o h _=>h⟩ (λi σ H' _ z=>?_) (λv H' z=>?_) ?_ ?_⟩
  ·obtain⟨_,_,_,_,_,_,_,_,_,_,_,_,fr⟩:=z;exact zL.of (fr _ _ e6 tlp.symm)
  ·obtain⟨rfl,s',no⟩:=z;exact qn no H' s'
  ·rintro i v σ H7 hv ⟨x4,x5,x6,x7,ys,S,rfl,t7,T7,sl7,st7,up7,fr⟩ E0' kk rr;obtain⟨b,ws,rfl,hws,hb2⟩:=LM.of_at hv;have hb:=s26 _ _ hb2;have btl:b≠tl:=zo hb2 tl2;have mw:=WJ (dv hws);have ww:=wide ws mw;have wwl:∀w∈ws,w.length<=2000000:=λw hw=>CD (wl ws mw w hw) hz;have S7:zj H H7:=λc o h=>fr _ _ (S6 _ _ h) (zo h tlH)
   have no:(∀s,pX (yH r0) ws s->(∀t,S.getLast?=some t->t.m<s.m)->False)->∀T,¬jN z T:=λk T hT=>by
    obtain⟨qs,hq⟩:=hT;obtain⟨s,hs,_,sp⟩:=hq.at_P hws;rw[<- hq.head er]at sp;refine k s sp λt ht=>?_;rcases DN S with e |⟨S',t',e⟩
    ·rw[e]at ht;cases ht
    ·rw[DC]at e;rw[e,eQ,Ez]at ht;cases ht;have hl:S'.length+1=i:=by rw[<- sl7,e,CA];rfl
     obtain⟨ws',hw',sp'⟩:=st7 S'.length t (by rw[e,dk (Cz _),eP];rfl);obtain⟨s',ψ,_,sq'⟩:=hq.at_P hw';rw[<- hq.head er]at sq';have up:=EY.mp hq.up S'.length i (by rw[Cw];exact(CV.mp ψ).1) (by rw[Cw];exact(CV.mp hs).1) (by lia);rw[Ew,Ew,(CV.mp ψ).2,(CV.mp hs).2]at up;rw[sp'.m_eq sq'];exact up
   have hb7:=fr _ _ hb btl;have en7:=fr _ _ en6 tln;have lw:(ws.map V.str).length=ws.length:=Cw _;have ln:((yH r0).map V.str).length=(yH r0).length:=Cw _;refine⟨_,Z,b,_,Z,.inl (zL.of hb7),_,Z,nl,_,Z,.inl (zL.of en7),_,_,Z,Z,Z,_,Z,yo (λe=>rr _ _ ⟨Z,S7,no λs sp _=>?_⟩) (λe=>?_)⟩
   ·have:=sp.len;rw[lw,ln,this]at e
    simp at e
   have hl:ws.length=(yH r0).length+3:=by
    rw[lw,ln]at e
    simp at e
    lia
   have mlw:(yH ws).length=(yH r0).length:=by unfold yH;rw[dB,CQ,dB,CQ];unfold yH at hl;rw[dB,CQ]at hl;lia
   have m1:=vL (ws:=ws) (k:=1) (by lia);have m0':=vL (ws:=ws) (k:=0) (by lia);dsimp only [GV];refine LR (λQ'=>∀H',zj H7 H'->Q' (NK (yK (ws.getD 0 aC))) H') (λQ' r=>?_) (λH8 s8=>?_)
   ·refine⟨_,Z,b,_,0,_,Z,Z,zL.of hb7,Qq (k:=0) (by lia),_,Z,CD (wwl _ m0') (by decide),λH8 s8=>⟨λm em=>?_,λem=>?_⟩⟩
    ·have:=r H8 s8;rw[em]at this;exact this
    ·have:=r H8 s8;rw[em]at this;exact this
   have hb8:=s8 _ _ hb7;have en8:=s8 _ _ en7;have t8:=s8 _ _ t7;refine⟨_,Z,_,Z,_,Z,_,Z,b,_,Z,zL.of hb8,λp2 p20=>?_⟩;rw[YU,lw,<- Eh,<- EI,lC (by lia)];have s9:zj H8 (upd H8 p2 (.lst ((ws.getD 1 aC::yH ws).map V.str))):=zj.upd p20;have e9:upd H8 p2 (.lst ((ws.getD 1 aC::yH ws).map V.str)) p2=some (.lst ((ws.getD 1 aC::yH ws).map V.str)):=zt;generalize upd H8 p2 (.lst ((ws.getD 1 aC::yH ws).map V.str))=H9 at s9 e9
   have cin:∀w∈ws.getD 1 aC::yH ws,w∈ws:=λw hw=>by
    rcases CF.mp hw with rfl |hw
    ·exact m1
    ·exact ZF hw
   refine⟨p2,Z,⟨_,zL.of e9⟩,λD4 hD4=>ym (qd (zL.of e9)) (yE (ws.getD 1 aC::yH ws)) hD4 (by rw[CY,ah];lia) YM (λw hw v Ha R sa ea r=>?_) (λHa sa ea=>?_)⟩
   ·subst ea;refine⟨_,Z,Z,_,Z,yo (λe=>?_) (λe=>⟨_,Z,w,Z,CD (wwl w (cin w hw)) (by decide),λH' s'=>r H' s'⟩)⟩;have e:w = "-":=V.str.inj (B' e);have:=r Ha (zj.refl _);unfold YM at this;rw[e,Vb]at this;exact this
   have e89:=s9.trans sa;have S8a:zj H7 Ha:=s8.trans e89;have ta:=e89 _ _ t8;have Ta:=T7.kt (KT.same S8a);rw[CO]at ea;have yl:ys.length=S.length:=T7.len;dsimp only;refine YO (λR=>∀H',zj Ha H'->(∀M B,yK (ws.getD 0 aC)=some M->qI (ws.getD 1 aC).cps.toList=some B->(∀t,S.getLast?=some t->t.m<M)->R false H')/\((∀T,¬jN z T)->R true H')) (λR r=>?_) (λHb sb=>⟨λM B eM eB lt=>qO ?_,λnon=>yh (rr _ _ ⟨Z,S7.trans (S8a.trans sb),non⟩)⟩)
   ·refine⟨_,Z,Z,_,Z,?_⟩
    cases eM:yK (ws.getD 0 aC) with
    |none=>
     refine yh ((r Ha (zj.refl _)).2 (no λs sp _=>?_));have:=sp.m;rw[eM]at this;cases this
    |some M=>
     refine qO ⟨_,Z,D4,_,0,_,Z,Z,zL.of ea,jG (j:=0) Z,Z,_,Z,?_⟩
     cases eB:qI (ws.getD 1 aC).cps.toList with
     |none=>
      have:YM (ws.getD 1 aC)=.non:=by unfold YM;rw[eB];rfl
      rw[this];refine yh ((r Ha (zj.refl _)).2 (no λs sp _=>?_));have:=sp.b;rw[eB]at this;cases this
     |some B=>
      have:YM (ws.getD 1 aC)=.int B:=by unfold YM;rw[eB];rfl
      rw[this];refine qO ⟨_,Z,z8 Z,λem Hc sc em0 ec=>⟨tl,em,ys,Z,Z,zL.of (sc _ _ ta),zL.of ec,λeN=>⟨false,Z,qO ?_⟩,λnN=>⟨true,Z,yh ?_⟩⟩⟩
      ·refine(r Hc sc).1 M B eM eB λt ht=>?_;have:S=[]:=Dd.mp (by rw[<- yl,eN];rfl);rw[this]at ht;cases ht
      ·rcases DN S with e |⟨S',t,e⟩
       ·exact M' (Dd.mp (by rw[yl,e];rfl)) nN
       rw[DC]at e;rcases DN ys with e' |⟨μ,y,e'⟩
       ·exact M' e' nN
       rw[DC]at e'
       have ll:μ.length=S'.length:=by
        rw[e,e',CA,CA]at yl;exact v_ yl
       obtain⟨t',ht',a',d',rfl,ha',_⟩:=(Ta.kt (KT.same sc)).at_ μ.length y (by rw[e',dk (Cz _),eP];rfl)
       have:t'=t:=by
        rw[e,ll,dk (Cz _),eP]at ht'
        cases ht'
        rfl
       subst this;refine⟨_,Z,_,Z,_,Z,tl,_,-1,_,Z,Z,zL.of (sc _ _ ta),by rw[e'];exact Ws _ _,a',_,0,_,Z,Z,yT.of ha',Z,_,_,Z,Z,_,Z,?_⟩;have gl:S.getLast?=some t':=by rw[e,eQ,Ez];rfl
       by_cases c:M<=t'.m
       ·rw[i' c];refine(r Hc sc).2 (no λs sp lt=>?_);have h1:=lt t' gl;have h2:=sp.m;rw[eM]at h2;have h2:=ai h2;lia
       ·rw[j' c];refine(r Hc sc).1 M B eM eB λt ht=>?_;rw[gl]at ht;cases ht;lia
   have eb:=sb _ _ ea;have enb:=sb _ _ (e89 _ _ en8);have cB:YM (ws.getD 1 aC)=.int B:=by unfold YM;rw[eB];rfl
   rw[cB]at eb;have tb':=sb _ _ ta;have oM:NK (yK (ws.getD 0 aC))=.int M:=by rw[eM];rfl
   rw[oM];dsimp only [GV];refine⟨_,Z,_,Z,_,Z,D4,_,Z,zL.of eb,λp3 p30=>?_⟩;have c1:wN (V.int B::(yH ws).map YM) (some 1) none=(yH ws).map YM:=jP _ 1;rw[c1];have sc:zj Hb (upd Hb p3 (.lst ((yH ws).map YM))):=zj.upd p30;have ec:upd Hb p3 (.lst ((yH ws).map YM)) p3=some (.lst ((yH ws).map YM)):=zt;generalize upd Hb p3 (.lst ((yH ws).map YM))=Hc at sc ec;refine⟨nl,p3,Z,⟨_,zL.of (sc _ _ enb)⟩,⟨_,zL.of ec⟩,λD5 hD5=>Vj (zL.of (sc _ _ enb)) (zL.of ec) hD5 (by rw[ln,ah];lia) (by rw[ln,Cw,mlw]) (λ_ y=>!decide (y=V.non)) (λj x y hx hy H' R s' r=>⟨_,Z,Z,_,Z,r⟩) (λj x y hx hy H' R s' r=>⟨_,Z,_,Z,z8 Z,λc H'' s'' c0 e''=>r c H'' s'' e''⟩) (λzs5 Hd sd ed T5=>?_)⟩;rw[oW]at T5;generalize hds:((yH r0).zip (yH ws)).filterMap Jk=ds at T5
   have dl:ds.length<=100:=by
    rw[<- hds];refine CD (List.length_filterMap_le _ _) ?_;rw[E2];lia
   have zl5:zs5.length=ds.length:=by rw[T5.len,Cw]
   have SD:zj H7 Hd:=S8a.trans (sb.trans (sc.trans sd));have td:=SD _ _ t7;have edd:=(sc.trans sd) _ _ eb;refine⟨_,Z,.inl ⟨Z,_,zL.of td⟩,_,Z,_,Z,D4,_,0,_,Z,Z,zL.of edd,jG (j:=0) Z,_,Z,D5,zs5,Z,zL.of ed,λtt its nn tt0=>?_⟩;have se:zj Hd (upd Hd tt (.frz (Qa its nn) (.tup zs5))):=zj.upd tt0;have fz:Jp (upd Hd tt (.frz (Qa its nn) (.tup zs5))) tt ds:=⟨its,nn,zs5,zt,T5.same se⟩;generalize upd Hd tt (.frz (Qa its nn) (.tup zs5))=He at se fz;refine⟨_,Z,D4,_,0,_,Z,Z,zL.of (se _ _ edd),jG (j:=0) Z,_,Z,D5,Z,⟨_,zL.of (se _ _ ed)⟩,λD6 hD6=>ZP (qd (zL.of (se _ _ ed))) (T5.same se) hD6 (by rw[ah];lia) (λp=>.int p.2) (λp hp H' R s' r=>⟨_,Z,r _ (zj.refl _)⟩) (λHf sf ef=>?_)⟩;refine⟨D6,ds.map (·.2),Z,zL.of (by rw[dh];exact ef),_,_,Z,Z,z8 Z,λstt Hg sg st0 eg=>?_⟩;have SG:=SD.trans (se.trans (sf.trans sg));have tg:=SG _ _ t7;refine⟨tl,ys,_,Z,Z,tg,by rw[yl,sl7,ah];have:=(CV.mp hws).1;lia,?_⟩;have ktf:KT Hg (upd Hg tl (.lst (ys++[.ref stt]))):=gD tg;have net:B-(ds.map (·.2)).sum=B-qS (ds.map (·.2)):=rfl;refine kk _ _ ⟨_,_,_,_,ys++[.ref stt],S++[⟨M,B,ds,B-qS (ds.map (·.2))⟩],Z,zt,?_,by rw[CA,sl7];rfl,λj s hs=>?_,?_,λc o hc nc=>?_⟩
   ·refine yC.snoc ((T7.kt (KT.same SG)).kt ktf) ⟨stt,tt,Z,?_,(fz.kt (KT.same (sf.trans sg))).kt ktf⟩;rw[zx (jH eg tg (by intro z;cases z))];exact eg
   ·by_cases hj:j<S.length
    ·rw[dF hj]at hs;exact st7 j s hs
    ·rw[dk (by lia)]at hs
     have:j=i:=by
      have:=(CV.mp hs).1;have:j-S.length<1:=this;lia
     subst this;rw[sl7,eP]at hs;cases hs;exact⟨ws,hws,hl,hds,eB,eM,Z⟩
   ·rw[CJ];refine Ea.mpr ⟨up7,Et _ _,λx hx y hy=>?_⟩;rw[du.mp hy];rcases DN S with e |⟨S',t,e⟩
    ·rw[e]at hx;cases hx
    ·rw[DC]at e;have lt':=lt t (by rw[e,eQ,Ez];rfl);rw[e,CJ]at hx up7;rcases CU.mp hx with hx |hx
     ·have:=(Ea.mp up7).2.2 x hx t.m CG;show x<M;lia
     ·rw[du.mp hx];exact lt'
   ·rw[zx nc];exact SG _ _ (fr _ _ hc nc)
  ·rintro σ H7 ⟨x4,x5,x6,x7,ys,S,rfl,t7,T7,sl7,st7,up7,fr⟩;have S7:zj H H7:=λc o h=>fr _ _ (S6 _ _ h) (zo h tlH);rw[mll]at sl7
   have sg:∀s∈S,Mq s/\(s.ds.map (·.1)).Sublist (yH r0):=λs hs=>by
    obtain⟨j,hj⟩:=Dy.mp hs;obtain⟨ws,h1,h2⟩:=st7 j s hj;exact⟨h2.good small (dv h1) (by lia),h2.sub⟩
   have one:∀T,jN z T->T=S:=λT hT=>by
    obtain⟨qs,hq⟩:=hT;have l2:T.length=(vU (uL z)).length:=by rw[hq.rows,Cw]
    refine Dj λj=>?_
    by_cases hj:j<S.length
    ·obtain⟨ws,h1,h2⟩:=st7 j _ (CC hj);obtain⟨t,e1,_,sp⟩:=hq.at_P h1;rw[<- hq.head er]at sp;rw[e1,CC hj];refine G' some ?_;have a1:=sp.m_eq h2;have a2:=ai (sp.b.symm.trans h2.b);have a3:t.ds=S[j].ds:=sp.ds.symm.trans h2.ds;have a4:t.n=S[j].n:=by rw[sp.net,h2.net,a2,a3]
     cases t
     cases hs:S[j]
     rw[hs]at a1 a2 a3 a4;cases a1;cases a2;cases a3;cases a4;rfl
    ·rw[dO (by lia),dO (by lia)]
   have nds:Bz S:=λs hs=>Fz (sg s hs).2 nn;refine⟨_,Z,tl,ys,S,yH r0,Z,t7,T7,Xh (by lia) (by lia) ng' sg,nds,λqs H8 pm so s8=>?_⟩;refine⟨_,Z,Z,_,Z,yo (λe=>qn (λT hT=>?_) H8 (S7.trans s8)) (λe=>?_)⟩
   ·have:=one T hT;subst this;obtain⟨ps,hq⟩:=hT;have e2:=hq.eq;rw[<- JY pm hq.pm so hq.so]at e2;rw[<- e2]at e
    simp at e
   ·have e:yD S qs=z:=by
     simp at e
     exact e
    exact⟨_,Z,q S tl ys H8 ⟨qs,Pq er ng' sg up7 pm so e⟩ (S7.trans s8) tlH (s8 _ _ t7) (T7.kt (KT.same s8))⟩
set_option maxHeartbeats 16000000 in
theorem tN (F:jn K "law" "law" (qH 86) f fd)(G:wk mg)(C1:jw P w K mg base qQ 2 "_law_mixed" ["_law_script","_law_k"] (YE K))(C2:jw P w K mg base qQ 3 "_law_statements" ["_law_script"] (oF K))(C3:jw P w K mg base qQ 2 "_law_paper" ["_law_told_here"] Qg)(C4:jw P w K mg base qQ 8 "_law_read" ["_law_text"] (U6 K))(C5:jw P w K mg base qQ 2 "_law_are_statements" ["_law_found"] (GK K))(C6:jw P w K mg base qQ 1 "_law_bent" ["_law_text","_law_number"] xw)(C7:jw P w K mg base qQ 3 "_law_due" ["_law_text"] Gn):qD P w K mg base qQ 9 f fd ["_law_script"] (Ye K):=by
 have nd:(["_law_script","_law_told_here","_law_text","_law_found","_law_k","_law_bent_here","_law_due_here","_law_none"]:List af).Nodup:=by decide+kernel
 refine F.ok (N:=["_law_script","_law_told_here","_law_text","_law_found","_law_k","_law_bent_here","_law_due_here","_law_none"]) (by walk_at"s") (λvs H Q E h=>?_) (λV' A outer s H vs Q E hr h=>?_)
 ·obtain⟨a,ns,rfl,_⟩:=h;rfl
 ·obtain⟨a,ns,rfl,hs,q⟩:=h;have un4:(A.deeper (iu "law" (z5 (qH 86)) s.heap.objs.size f V')).units+4<sV:=DX (eX (by decide:4<=64) _) hr.units;have un2:(A.deeper (iu "law" (z5 (qH 86)) s.heap.objs.size f V')).units+2<sV:=DX (eX (by decide:2<=64) _) hr.units
  refine' ⟨_,(zh (zE (i:=1) nd Z (ax Z) (zG C2 hr (by decide) zT (za (pv 0) zd)))
    (zh (zE (i:=2) nd Z (ax Z) (zG C3 hr (by decide) zT (za (pv 1) zd)))
    (zh (zE (i:=3) nd Z (ax Z) (zG C4 hr (by decide) zT (za (pv 2) zd)))
    (zh (qm (PW.pt (jh (yx (yg (zG C5 hr (by decide) zT (za (pv 3) zd)))) (jc (zD VT (pv 3) (pv 1) (zI _))))) (zi (zB vh)) zQ)
    (zh (yR (qX aU aP aO qT (pv 3) (za ze zd)))
    (zh (qm (PW.pt (jh (zD VT (zG C4 hr (by decide) zT (za (pv 2) zd)) (pv 1) (zI _)) (jc (zD v8 (zu qp Z G.len g_ (za (pv 3) zd)) (zm qu (zu qp Z G.len g_ (za (pv 1) zd)) ze) (zI _))))) (zi (zB vh)) zQ)
    (zh (jC aX Z (vt Z G.range (za ze zd)) (zA (i:=4) nd Z (ax Z)) (zh (zE (i:=5) nd Z (ax Z) (zG C6 hr (by decide) zT (za (pv 2) (za (zG C1 hr (by decide) zT (za (pv 0) (za (zm qu ze (pv 4)) zd))) zd))))
    (zh (zE (i:=6) nd Z (ax Z) (zG C7 hr (by decide) zT (za (pv 5) zd)))
    (zh (zE (i:=3) nd Z (ax Z) (zG C4 hr (by decide) zT (za (pv 5) zd)))
    (zi (qm (zD Ur (pv 6) jf (zI _)) (zi (qm (zD VT (pv 3) (qq (za (zU (za zv (za zv zd))) zd)) (zI _)) (zi (zB vh)) zQ)) (zi (qm (PW.pt (jh (yx (yg (zG C5 hr (by decide) zT (za (pv 3) zd)))) (jc (zD VT (pv 3) (pv 6) (zI _))))) (zi (zB vh)) zQ))))))))
    (zh (zE (i:=7) nd Z (ax Z) (qa qx (zU (za jf (za ze (za vh (za (zU (za (pv 2) zd)) (za (qq (za (pv 2) zd)) (za Wc (za (pv 1) zd)))))))) (zm qg (zG C1 hr (by decide) zT (za (pv 0) (za ze zd))) ze)))
    (zi (zB (yn Rb (zG C4 hr (by decide) zT (za (pv 7) zd)) (qq (za (zU (za zv (za zv zd))) zd)) (zI _)))))))))))),?main⟩
  try (walk_at"d5")
  refine⟨_,Z,a,ns,Z,hs,λS r1 ys1 H1 few O nds pap s1 r10 e1 T1=>?_⟩;obtain⟨nms,O⟩:=O;have ε2:∀s∈S,s.ds.length<=100:=λs h=>CD (O.each s h).len (by decide);refine⟨_,Z,r1,ys1,S,nms,Z,e1,T1,O,nds,λqs H2 pm so s2=>?_⟩;obtain⟨I,PT⟩:=pap qs pm so;generalize yD S qs=z at I PT;have hI:jN z S:=⟨qs,I⟩;have tz:=PT.txb;refine⟨_,Z,_,Z,.inr ⟨z,Z,tz,λS' l μ H3 isp s3 l0 el T3=>?_,λno=>M' hI (no S)⟩⟩;have:=Yr isp hI;subst this;have e13:=s3 _ _ (s2 _ _ e1);have T13:=T1.kt (KT.same (s2.trans s3));refine⟨_,Z,l,μ,S',Z,el,T3,by lia,ε2,λH4 s4=>⟨true,Z,qO ⟨_,Z,_,Z,4,_,Z,Qo (s4 _ _ el) (T3.kt (KT.same s4)),Qo (s4 _ _ e13) (T13.kt (KT.same s4)),un4,_,Z,qO ?_⟩⟩⟩;have yl:μ.length=S'.length:=T3.len;have yl1:ys1.length=S'.length:=T1.len;refine⟨_,Z,.inl ⟨Z,_,zL.of (s4 _ _ el)⟩,l,μ,_,Z,Z,s4 _ _ el,by rw[ah];lia,?_⟩;have r1l:r1≠l:=zo (s2 _ _ e1) l0;have lH:H l=none:=s1.free (s2.free l0);have e15:upd H4 l (.lst (μ++[.int 0])) r1=some (.lst ys1):=by rw[zx r1l];exact s4 _ _ e13
  have T15:=(T13.kt (KT.same s4)).kt (gD (ys:=μ++[.int 0]) (s4 _ _ el))
  have S5:zj H (upd H4 l (.lst (μ++[.int 0]))):=λb o hb=>by
   rw[zx (zo hb lH)];exact s4 _ _ (s3 _ _ (s2 _ _ (s1 _ _ hb)))
  have el5:upd H4 l (.lst (μ++[.int 0])) l=some (.lst (μ++[.int 0])):=zt;generalize upd H4 l (.lst (μ++[.int 0]))=H5 at e15 T15 S5 el5;refine⟨_,Z,_,Z,.inr ⟨z,Z,tz,λS2 l2 y2 H6 isp2 s6 l20 el2 T6=>?_,λno=>M' hI (no S')⟩⟩;have:=Yr isp2 hI;subst this;refine⟨_,Z,4,_,Z,Qo el2 T6,Qo (s6 _ _ e15) (T15.kt (KT.same s6)),un4,_,Z,qO ⟨_,Z,l,_,Z,.inl (zL.of (s6 _ _ el5)),_,Z,r1,_,Z,.inl (zL.of (s6 _ _ e15)),_,_,Z,Z,Z,_,Z,?_⟩⟩
  have ee:(!decide (V.int ((μ++[V.int 0]).length:Nat)=V.int ((ys1.length:Nat)+1)))=false:=by
   rw[CA,yl,yl1]
   simp
  rw[ee];refine qO ?_;have S6:=S5.trans s6;have e16:=s6 _ _ e15;have T16:=T15.kt (KT.same s6);refine⟨3,Z,by decide,by decide,Ja (n:=3) (λi σ H'=>∃x3 x4 x5 x6,σ=[some (.ref a),some (.ref r1),some (.str z),x3,x4,x5,x6,none]/\zj H6 H') ⟨_,_,_,_,Z,zj.refl _⟩ ?_ ?_⟩
  ·rintro i σ H7 hi ⟨x3,x4,x5,x6,rfl,s7⟩ E7 k7;refine⟨_,Z,_,Z,_,Z,_,_,Z,Z,a,_,ns,Z,(S6.trans s7).seq hs,?_,?_,z,_,Z,PT,Zk _ _,ZS _ _,λx H8 tx s8=>?_⟩
   ·show 0<=(54:Int)+(0+(i:Nat));lia
   ·show(54:Int)+(0+(i:Nat))<=1000;lia
   by_cases hx:∃S,jN x S
   ·obtain⟨S3,hx⟩:=hx;refine⟨_,Z,x,Z,tx,λS4 l4 y4 H9 i4 s9 l40 e4 T4=>?_,λno=>M' hx (no S3)⟩;refine⟨_,Z,_,Z,.inr ⟨x,Z,tx,λS5' l5 y5 Ha i5 sa l50 e5 T5=>?_,λno=>M' hx (no S3)⟩⟩;have:=Yr i5 i4;subst this;obtain⟨qs5,I5⟩:=i5;have rl:=tx.rows;have rml:=Y8 (uL x)
    have sl5:S5'.length<=100:=by
     have:=G' iB I5.rows;rw[Cw]at this;lia
    have dl5:∀s∈S5',s.ds.length<=100:=λs ψ=>by
     have h1:=(I5.sub s ψ).length_le;obtain⟨r0,rest,er⟩:=Yj x;have h2:=I5.head er;have h3:=tx.wide r0 (by rw[er];exact CG);have h4:=UD r0;rw[h2,Cw]at h4;rw[Cw,Cw]at h1;lia
    refine⟨_,Z,Z,_,Z,qO ⟨_,Z,l5,y5,S5',Z,e5,T5,sl5,dl5,λHb sb=>⟨true,Z,qO ⟨_,Z,_,Z,4,_,Z,Qo (sb _ _ e5) (T5.kt (KT.same sb)),Qo (sb _ _ (sa _ _ e4)) (T4.kt (KT.same (sa.trans sb))),un4,_,Z,qO ?_⟩⟩⟩⟩;exact k7 _ _ ⟨_,_,_,_,Z,s7.trans (s8.trans (s9.trans (sa.trans sb)))⟩
   ·have nx:∀S,¬jN x S:=λS h=>hx ⟨S,h⟩;refine⟨_,Z,x,Z,tx,λS4 l4 y4 H9 i4=>M' i4 (nx S4),λ_ H9 s9=>?_⟩;refine⟨_,Z,_,Z,.inr ⟨x,Z,tx,λS4 l4 y4 Ha i4=>M' i4 (nx S4),λ_ t l5 Ha sa et e5=>?_⟩⟩;rw[cX]at e5;refine⟨_,Z,Z,_,Z,yh ⟨_,Z,z8 Z,λl6 Hb sb l60 e6=>⟨z8 Z,λt6 Hc sc t60 et6=>⟨2,_,Z,Gm (sc _ _ (sb _ _ et)) (sc _ _ (sb _ _ e5)),Gm et6 (sc _ _ e6),un2,_,Z,qO ?_⟩⟩⟩⟩;exact k7 _ _ ⟨_,_,_,_,Z,s7.trans (s8.trans (s9.trans (sa.trans (sb.trans sc))))⟩
  ·rintro σ H7 ⟨x3,x4,x5,x6,rfl,s7⟩;refine⟨_,Z,z8 Z,λl2 H8 s8 n8 e8=>⟨_,Z,z8 Z,λl3 H9 s9 n9 e9=>λl4 Ha sa na ea=>⟨_,Z,z8 Z,λl5 Hb sb nb eb=>?_⟩⟩⟩;have SB:=s7.trans (s8.trans (s9.trans (sa.trans sb)));obtain⟨x,ex,mx⟩:=kP (xs:=[V.non,V.int 5,V.bl true,V.ref l2,V.ref l3,V.ref l4,V.ref r1]) (i:=Ju ns 57%7) (dG _ (by decide)) (dH _ (by decide))
   have nx:u9 K Hb x:=by
    simp only[CF,dw,or_false]at mx;rcases mx with rfl |rfl |rfl |rfl |rfl |rfl |rfl
    ·exact nL
    ·exact Tr 5
    ·exact TQ true
    ·exact lJ (sb _ _ (sa _ _ (s9 _ _ e8)))
    ·exact tE (sb _ _ (sa _ _ e9))
    ·exact Bg (sb _ _ ea)
    ·exact lJ (SB _ _ e16)
   refine⟨_,Z,a,57,ns,Z,(S6.trans SB).seq hs,by decide,by decide,_,_,Z,Z,(by show(0:Int)<7;decide),l5,_,_,_,Z,Z,zL.of eb,ex,?_⟩;refine⟨_,Z,x,Z,.inl ⟨nx,λt l6 Hc sc et e6=>?_⟩⟩;rw[cX]at e6;exact⟨z8 Z,λl7 Hd sd l70 e7=>⟨z8 Z,λt7 He se t70 et7=>⟨2,_,Z,Gm (se _ _ (sd _ _ et)) (se _ _ (sd _ _ e6)),Gm et7 (se _ _ e7),un2,q He⟩⟩⟩
end
end K27
set_option maxHeartbeats 8000000
namespace K27
open PySem L2 Pg
theorem RG {l:HA}{K:BFr}{mg:af->Option ae}{fa:aj}{c0 c1 c2 c3 c4 c5 c6 c7 c8 c9 c10 c11 c12 c13 c14:aj}{t0 t1 t2 t3 t4 t5:Iw}{u0:Iw}{u1:Iw}{u2:Iw}(X:K.In h)(G:h.Ns au mg)(hfa:mg "law" = some (.ref fa))(U1:qJ K "is_number" (qH 18))(kY:qJ K "is_number_within" (qH 19))(Jx:qJ K "need_amount" (qH 20))(Ue:qJ K "is_word_of" (qH 25))(Oi:qJ K "is_name" (qH 26))(RR:qJ K "rise" (qH 27))(UE:qJ K "figures_of" (qH 32))(Jz:qJ K "told_amount" (qH 33))(Jt:qJ K "are_figures" (qH 34))(Z6:qJ K "is_number_text" (qH 35))(Qi:qJ K "is_amount_text" (qH 36))(Jv:qJ K "read_amount" (qH 37))(UV:qJ K "widths_of" (qH 38))(Lh:qJ K "row_of" (qH 39))(Ou:qJ K "rows_of" (qH 40))(VE:qJ K "need_month" (qH 44))(OP:qJ K "year_of" (qH 45))(gX:qJ K "place_of" (qH 46))(xy:qJ K "year_text" (qH 47))(Ua:qJ K "month_text" (qH 48))(QY:qJ K "is_month_text" (qH 49))(Us:qJ K "read_month" (qH 50))(Q7:qJ K "dues_together" (qH 52))(RJ:qJ K "sums" (qH 53))(YF:qJ K "is_rule_name" (qH 56))(gP:qJ K "due_text" (qH 59))(gE:qJ K "cells_of" (qH 60))(NI:qJ K "paper" (qH 61))(xW:qJ K "words_of" (qH 62))(Q4:qJ K "names_of_head" (qH 63))(YL:qJ K "statement_of" (qH 64))(VM:qJ K "read_paper" (qH 65))(Wm:qJ K "_law_cell" (qH 67))(Ud:qJ K "_law_mixed" (qH 68))(VO:qJ K "_law_whole" (qH 69))(xh:qJ K "_law_next" (qH 70))(Ut:qJ K "_law_names" (qH 71))(JB:qJ K "_law_amount" (qH 72))(ZU:qJ K "_law_statements" (qH 73))(xg:qJ K "_law_told" (qH 74))(UC:qJ K "_law_reads" (qH 75))(ZK:qJ K "_law_month_text" (qH 76))(ZV:qJ K "_law_read_month" (qH 77))(WU:qJ K "_law_rows" (qH 78))(VN:qJ K "_law_paper" (qH 79))(Zz:qJ K "_law_names_good" (qH 80))(xZ:qJ K "_law_due" (qH 81))(WW:qJ K "_law_bent" (qH 82))(Wd:qJ K "_law_kind" (qH 83))(xF:qJ K "_law_read" (qH 84))(wg:qJ K "_law_are_statements" (qH 85))(bZ:qJ K "law" (qH 86))(n0:BnR K "BadAmount" c0)(n1:BnR K "BadShare" c1)(n2:BnR K "BadText" c2)(n3:BnR K "BadMonth" c3)(n4:BnR K "BadYear" c4)(n5:BnR K "BadRule" c5)(n6:BnR K "BadBook" c6)(n7:BnR K "NoYear" c7)(n8:BnR K "BadDay" c8)(n9:BnR K "BadEntry" c9)(n10:BnR K "NoMark" c10)(n11:BnR K "NoPerson" c11)(n12:BnR K "TooMany" c12)(n13:BnR K "BadClose" c13)(n14:BnR K "BadLine" c14)(nR:BnR K "RollError" cR)(gc0:BnI K "MOST_SIGNS_names" 8 t0)(gc1:BnI K "MOST_SIGNS_texts" 30 t1)(gc2:BnI K "PIECE" 1000000000000000000 t2)(gc3:BnI K "PIECE_FIGURES" 18 t3)(gc4:BnI K "YEAR_MONTHS" 12 t4)(gc5:BnI K "LAST_MONTH" 119999 t5)(s0:hU K au "LETTERS" = some (some (.str "abcdefghijklmnopqrstuvwxyz" u0)))(s1:hU K au "FIGURES" = some (some (.str "0123456789" u1)))(s2:hU K au "NO_DUE" = some (some (.str "-" u2)))(s3:BD K "NO_RULE_NAMES" ["base","net","month","sums"])(VI:BnN K "isinstance")(bS:BnN K "int")(tM:BnN K "bool")(bt:BnN K "str")(Bf:BnN K "len")(NZ:BnN K "range")(V7:BnN K "ValueError")(tP:BnN K "list")(nM:BnN K "tuple")(RB:BnN K "dict")(TR:BnN K "set")(Bb:BnN K "all")(Be:BnN K "any")(bH:BnN K "sum")(PX:BnN K "sorted")(TY:BnN K "abs")(Bd:BnN K "max")(Bc:BnN K "min")(Bi:BnN K "zip")(WC:BnN K "enumerate")(Xy:BnN K "reversed")(x2:AU K c2 oP "ValueError.__new__" = true)(e2:Fx K (.ref c2) (.ref cR)=some true)(X2:XK.ui K c2)(v2:aB K (.ref c2) (.type "ValueError")=some true)(BP:BkO K c2 c0 false)(cN:BkO K c2 c1 false)(cf:BkO K c2 c2 true)(cF:BkO K c2 c3 false)(cJ:BkO K c2 c4 false)(cO:BkO K c2 c5 false)(BQ:BkO K c2 c6 false)(cG:BkO K c2 c7 false)(BZ:BkO K c2 c8 false)(BL:BkO K c2 c9 false)(TU:BkO K c2 c10 false)(b8:BkO K c2 c11 false)(bp:BkO K c2 c12 false)(bR:BkO K c2 c13 false)(Bt:BkO K c2 c14 false)
  : ∃fd:AV,(∀(s:av) (v:ae),Hs s fd ⟨[v],[]⟩ [("_law_script",v)])/\∀base:ia,K.In base->base.Ns au mg->qD l.prog w K mg base qQ 9 fa fd ["_law_script"] (Ye K):=by
 obtain⟨d,rfl,rfl,rfl,rfl,rfl,rfl,rfl,rfl,rfl,rfl,rfl,rfl,rfl,rfl,rfl⟩:∃d:Nat->aj,d 0=c0/\d 1=c1/\d 2=c2/\d 3=c3/\d 4=c4/\d 5=c5/\d 6=c6/\d 7=c7/\d 8=c8/\d 9=c9/\d 10=c10/\d 11=c11/\d 12=c12/\d 13=c13/\d 14=c14:=⟨λi=>[c0,c1,c2,c3,c4,c5,c6,c7,c8,c9,c10,c11,c12,c13,c14].getD i 0,Z,Z,Z,Z,Z,Z,Z,Z,Z,Z,Z,Z,Z,Z,Z⟩;obtain⟨fl,fdl,al,Fl⟩:=bZ;have e:=hfa.symm.trans (Bmg_o X G al);cases e;have k2:RQ K d (d 2) 2:=⟨X2,v2,BP,cN,cf,cF,cJ,cO,BQ,cG,BZ,BL,TU,b8,bp,bR,Bt⟩;have Q1:cV K mg "NO_RULE_NAMES" ["base","net","month","sums"]:=s3.mg X G;have GL:wk mg:=⟨Bmg_n X G VI,Bmg_n X G bS,Bmg_n X G tM,Bmg_n X G bt,Bmg_n X G Bf,Bmg_n X G NZ,Bmg_n X G V7,Bmg_n X G tP,Bmg_n X G nM,Bmg_n X G RB,Bmg_n X G TR,Bmg_n X G Bb,Bmg_n X G Be,Bmg_n X G bH,Bmg_n X G PX,Bmg_n X G TY,Bmg_n X G Bd,Bmg_n X G Bc,Bmg_n X G Bi,Bmg_n X G WC,Bmg_n X G Xy⟩;have KD:cY mg d:=⟨Bmg_o X G n0,Bmg_o X G n1,Bmg_o X G n2,Bmg_o X G n3,Bmg_o X G n4,Bmg_o X G n5,Bmg_o X G n6,Bmg_o X G n7,Bmg_o X G n8,Bmg_o X G n9,Bmg_o X G n10,Bmg_o X G n11,Bmg_o X G n12,Bmg_o X G n13,Bmg_o X G n14⟩;have mgR:mg "RollError" = some (.ref cR):=Bmg_o X G nR;have ER2:Er K mg "BadText" (d 2):=⟨Bmg_o X G n2,x2⟩;have RZ2:Rz K d cR 2:=⟨e2,k2⟩;have Zb:Gi mg "MOST_SIGNS_names" 8:=⟨t0,Bmg_o X G gc0⟩;have kK:Gi mg "MOST_SIGNS_texts" 30:=⟨t1,Bmg_o X G gc1⟩;have MJ:Gi mg "PIECE" 1000000000000000000:=⟨t2,Bmg_o X G gc2⟩;have Q6:Gi mg "PIECE_FIGURES" 18:=⟨t3,Bmg_o X G gc3⟩;have ue:Gi mg "YEAR_MONTHS" 12:=⟨t4,Bmg_o X G gc4⟩;have Uy:Gi mg "LAST_MONTH" 119999:=⟨t5,Bmg_o X G gc5⟩;have oV:Pg.Txt mg "LETTERS" "abcdefghijklmnopqrstuvwxyz":=⟨_,Bmg_o X G s0⟩;have o6:Pg.Txt mg "FIGURES" "0123456789":=⟨_,Bmg_o X G s1⟩;have Wa:Pg.Txt mg "NO_DUE" "-":=⟨_,Bmg_o X G s2⟩;have bl:=Fl.binds (ps:=["_law_script"]) (by walk_at"0");refine⟨fdl,λs v=>?_,λbase _ _=>?_⟩
 ·obtain⟨oc,od,kV,Θ,pm,an,V',ct,osl,rfl,lk,hcd⟩:=Fl.ex;exact .of_eq rfl
 have C1:=U1.cal (P:=l.prog) (w:=w) (base:=base) X G (by walk_at"0") λ_ _ F=>Ug F GL;have C2:=kY.cal (P:=l.prog) (w:=w) (base:=base) (ps:=["thing","least","most"]) X G (λ_ _ _ _ _ _ us hl=>by obtain⟨a,b,c,rfl⟩:=bC hl;rfl) λf fd F=>pw F C1;have C3:=Jx.cal (P:=l.prog) (w:=w) (base:=base) X G (by walk_at"0") λ_ _ F=>lE F C1;have C4:=Ue.cal (P:=l.prog) (w:=w) (base:=base) X G (by walk_at"2") λ_ _ F=>Rj F GL Zb;have C5:=Oi.cal (P:=l.prog) (w:=w) (base:=base) X G (by walk_at"0") λ_ _ F=>Nu F oV C4;have C6:=RR.cal (P:=l.prog) (w:=w) (base:=base) X G (by walk_at"0") λ_ _ F=>lZ F GL;have C7:=UE.cal (P:=l.prog) (w:=w) (base:=base) X G (by walk_at"0") λ_ _ F=>Mp F GL MJ Q6;have C8:=Jz.cal (P:=l.prog) (w:=w) (base:=base) X G (by walk_at"0") λ_ _ F=>P5 F GL C3 C7;have C8b:=jw.imp' C8 Lg;have C9:=Jt.cal (P:=l.prog) (w:=w) (base:=base) X G (by walk_at"0") λ_ _ F=>YV F GL o6;have C10:=Z6.cal (P:=l.prog) (w:=w) (base:=base) X G (by walk_at"0") λ_ _ F=>Nb F C9;have C11:=Qi.cal (P:=l.prog) (w:=w) (base:=base) X G (by walk_at"0") λ_ _ F=>NX F C9 C10;have C12:=Jv.cal (P:=l.prog) (w:=w) (base:=base) X G (by walk_at"0") λ_ _ F=>Ma F GL ER2 kK C11;have C13:=UV.cal (P:=l.prog) (w:=w) (base:=base) X G (by walk_at"0") λ_ _ F=>OQ F GL;have C14:=Lh.cal (P:=l.prog) (w:=w) (base:=base) X G (by walk_at"2") λ_ _ F=>RD F GL;have C15:=Ou.cal (P:=l.prog) (w:=w) (base:=base) X G (by walk_at"0") λ_ _ F=>Mv F GL C13 C14;have C16:=VE.cal (P:=l.prog) (w:=w) (base:=base) X G (by walk_at"0") λ_ _ F=>Y7 F Uy C2;have C17:=OP.cal (P:=l.prog) (w:=w) (base:=base) X G (by walk_at"0") λ_ _ F=>LH F ue C16;have C18:=gX.cal (P:=l.prog) (w:=w) (base:=base) X G (by walk_at"0") λ_ _ F=>OW F ue C16;have C19:=xy.cal (P:=l.prog) (w:=w) (base:=base) X G (by walk_at"0") λ_ _ F=>Um F GL;have C20:=Ua.cal (P:=l.prog) (w:=w) (base:=base) X G (by walk_at"0") λ_ _ F=>ON F GL C18 C17 C19;have C21:=QY.cal (P:=l.prog) (w:=w) (base:=base) X G (by walk_at"0") λ_ _ F=>Qt F GL C9;have C22:=Us.cal (P:=l.prog) (w:=w) (base:=base) X G (by walk_at"0") λ_ _ F=>Jn F GL ER2 ue C21;have C23:=Q7.cal (P:=l.prog) (w:=w) (base:=base) X G (by walk_at"0") λ_ _ F=>xq F GL;have C24:=RJ.cal (P:=l.prog) (w:=w) (base:=base) X G (by walk_at"0") λ_ _ F=>NP F GL C23;have C25:=YF.cal (P:=l.prog) (w:=w) (base:=base) X G (by walk_at"0") λ_ _ F=>tj F Q1 C5;have C26:=gP.cal (P:=l.prog) (w:=w) (base:=base) X G (by walk_at"2") λ_ _ F=>W1 F Wa C8b;have C27:=gE.cal (P:=l.prog) (w:=w) (base:=base) (ps:=["title","base","dues","net","names"]) X G (λ_ _ _ _ _ _ us hl=>by obtain⟨a,b,c,d,e,rfl⟩:=Bj hl;rfl) λf fd F=>Md F C8b C26;have C28:=NI.cal (P:=l.prog) (w:=w) (base:=base) X G (by walk_at"0") λ_ _ F=>P3 F GL C24 C20 C27 C15;have C29:=xW.cal (P:=l.prog) (w:=w) (base:=base) X G (by walk_at"0") λ_ _ F=>pB F;have C30:=Q4.cal (P:=l.prog) (w:=w) (base:=base) X G (by walk_at"0") λ_ _ F=>rX F GL ER2 C25;have C31:=YL.cal (P:=l.prog) (w:=w) (base:=base) X G (by walk_at"2") λ_ _ F=>nH F GL ER2 Wa C12 C22;have C32:=VM.cal (P:=l.prog) (w:=w) (base:=base) X G (by walk_at"0") λ_ _ F=>PP F GL ER2 C29 C30 C31 C6 C28;have D1:=Wm.cal (P:=l.prog) (w:=w) (base:=base) X G (by walk_at"2") λ_ _ F=>Nm F GL;have D2:=Ud.cal (P:=l.prog) (w:=w) (base:=base) X G (by walk_at"2") λ_ _ F=>Pl F D1;have D3:=VO.cal (P:=l.prog) (w:=w) (base:=base) X G (by walk_at"0") λ_ _ F=>mE F GL;have D4:=xh.cal (P:=l.prog) (w:=w) (base:=base) X G (by walk_at"2") λ_ _ F=>NY F;have D5:=Ut.cal (P:=l.prog) (w:=w) (base:=base) X G (by walk_at"2") λ_ _ F=>pC F GL;have D6:=JB.cal (P:=l.prog) (w:=w) (base:=base) X G (by walk_at"0") λ_ _ F=>Rn F;have D7:=ZU.cal (P:=l.prog) (w:=w) (base:=base) X G (by walk_at"0") λ_ _ F=>Te F GL D2 D4 D5 D6;have D8:=xg.cal (P:=l.prog) (w:=w) (base:=base) X G (by walk_at"0") λ_ _ F=>LU F GL;have D9:=UC.cal (P:=l.prog) (w:=w) (base:=base) X G (by walk_at"0") λ_ _ F=>OX F GL;have D10:=ZK.cal (P:=l.prog) (w:=w) (base:=base) X G (by walk_at"0") λ_ _ F=>O6 F GL;have D11:=ZV.cal (P:=l.prog) (w:=w) (base:=base) X G (by walk_at"0") λ_ _ F=>lI F GL;have D12:=WU.cal (P:=l.prog) (w:=w) (base:=base) X G (by walk_at"0") λ_ _ F=>LK F GL;have D13:=VN.cal (P:=l.prog) (w:=w) (base:=base) X G (by walk_at"0") λ_ _ F=>Os F GL D10 D8 D12;have D14:=Zz.cal (P:=l.prog) (w:=w) (base:=base) X G (by walk_at"0") λ_ _ F=>LW F GL;have D15:=xZ.cal (P:=l.prog) (w:=w) (base:=base) X G (by walk_at"0") λ_ _ F=>Nt F GL D14 D11 D9 D13;have D16:=WW.cal (P:=l.prog) (w:=w) (base:=base) X G (by walk_at"2") λ_ _ F=>mi F GL;have D17:=Wd.calQ (P:=l.prog) (w:=w) (base:=base) (ps:=["_law_e"]) X G (by walk_at"0") λf fd F=>MS F GL KD;have D18:=xF.cal (P:=l.prog) (w:=w) (base:=base) X G (by walk_at"0") λ_ _ F=>lG F mgR RZ2 C32 D17;have D19:=wg.cal (P:=l.prog) (w:=w) (base:=base) X G (by walk_at"0") λ_ _ F=>nE F GL D3;exact tN Fl GL D2 D7 D13 D18 D19 D16 D15
theorem cH {l:HA}{d:Y_}{K:Params->BFr}(hn:l.most=some 63)(hdf:d.params.defaults=[])(hY:∀(w:aZ) (h:ia),YP w h->(K w.params).In h)(F:∀(w:aZ) (mg:af->Option ae) (fa:aj) (h:ia),(K w.params).In h->h.Ns au mg->mg d.name=some (.ref fa) ->
   ∃fd:AV,(∀(s:av) (u:ae),Hs s fd ⟨[u],[]⟩ [("_law_script",u)])/\∀base:ia,(K w.params).In base->base.Ns au mg->qD l.prog w (K w.params) mg base qQ 9 fa fd ["_law_script"] (Ye (K w.params))) :
  S_ q ξ XP YP l.row.toRowW d [] (λf vs=>IQ f vs) :=
 L2.nD (n:=63) (k:=9) (x:="_law_script") (CX:=λ_=>qQ) (sp:=λw=>(Ye (K w.params))) hn (by decide) hdf ⟨Z,by decide,by decide⟩ hY F (λ_ _ a ns hl _ hS=>⟨a,ns,Z,hS,λ_=>rfl⟩) λ_ _ _ _ _ z=>z
end K27
set_option maxHeartbeats 0
namespace K27
open PySem PySem.W PySem.Calls PyProof.Rows L2
theorem Bh:(V_ hQ "law").isSome=true:=by kernel_rfl
def hD:Y_:=((V_ hQ "law").get Bh).1
theorem bL:WalkO hQ [] (XL hQ []) (ZE tK Mb) (PySem.Challenge.rw_coinroll_k27_whole_papers_read).row.toRowW hD [] (λf vs=>IQ f vs):=by
 refine Nn λK e=>?_;have hF:hFs.map (λx=>vJ K (hU K au x.1))=hFs.map (λx=>vP x.1 x.1 (qH x.2)):=G' Kp e;have hM:hMs.map (λx=>vJ K (An K (.ref x.1) x.2.1))=hMs.map (λx=>vP x.2.1 x.2.2.1 (Yi (qH x.2.2.2.1) x.2.2.2.2)):=G' (λz=>z.2.1) e;have hB:(nP K).all id=true:=G' (λz=>z.2.2) e;obtain⟨t0,gc0⟩:=Qv (zC hB 16 Z);obtain⟨t1,gc1⟩:=Qv (zC hB 17 Z);obtain⟨t2,gc2⟩:=Qv (zC hB 18 Z);obtain⟨t3,gc3⟩:=Qv (zC hB 19 Z);obtain⟨t4,gc4⟩:=Qv (zC hB 20 Z);obtain⟨t5,gc5⟩:=Qv (zC hB 21 Z);obtain⟨u0,s0⟩:=VU (zC hB 22 Z);obtain⟨u1,s1⟩:=VU (zC hB 23 Z);obtain⟨u2,s2⟩:=VU (zC hB 24 Z);refine cH (l:=PySem.Challenge.rw_coinroll_k27_whole_papers_read) (K:=λ_=>K) rfl (by kernel_rfl) (λw h Y=>Y) ?_;intro w mg fa h KX G hmg;exact RG KX G hmg (zz (zM hF 0 Z)) (zz (zM hF 1 Z)) (zz (zM hF 2 Z)) (zz (zM hF 3 Z)) (zz (zM hF 4 Z)) (zz (zM hF 5 Z)) (zz (zM hF 6 Z)) (zz (zM hF 7 Z)) (zz (zM hF 8 Z)) (zz (zM hF 9 Z)) (zz (zM hF 10 Z)) (zz (zM hF 11 Z)) (zz (zM hF 12 Z)) (zz (zM hF 13 Z)) (zz (zM hF 14 Z)) (zz (zM hF 15 Z)) (zz (zM hF 16 Z)) (zz (zM hF 17 Z)) (zz (zM hF 18 Z)) (zz (zM hF 19 Z)) (zz (zM hF 20 Z)) (zz (zM hF 21 Z)) (zz (zM hF 22 Z)) (zz (zM hF 23 Z)) (zz (zM hF 24 Z)) (zz (zM hF 25 Z)) (zz (zM hF 26 Z)) (zz (zM hF 27 Z)) (zz (zM hF 28 Z)) (zz (zM hF 29 Z)) (zz (zM hF 30 Z)) (zz (zM hF 31 Z)) (zz (zM hF 32 Z)) (zz (zM hF 33 Z)) (zz (zM hF 34 Z)) (zz (zM hF 35 Z)) (zz (zM hF 36 Z)) (zz (zM hF 37 Z)) (zz (zM hF 38 Z)) (zz (zM hF 39 Z)) (zz (zM hF 40 Z)) (zz (zM hF 41 Z)) (zz (zM hF 42 Z)) (zz (zM hF 43 Z)) (zz (zM hF 44 Z)) (zz (zM hF 45 Z)) (zz (zM hF 46 Z)) (zz (zM hF 47 Z)) (zz (zM hF 48 Z)) (zz (zM hF 49 Z)) (zz (zM hF 50 Z)) (zz (zM hF 51 Z)) (je (zC hB 0 Z)) (je (zC hB 1 Z)) (je (zC hB 2 Z)) (je (zC hB 3 Z)) (je (zC hB 4 Z)) (je (zC hB 5 Z)) (je (zC hB 6 Z)) (je (zC hB 7 Z)) (je (zC hB 8 Z)) (je (zC hB 9 Z)) (je (zC hB 10 Z)) (je (zC hB 11 Z)) (je (zC hB 12 Z)) (je (zC hB 13 Z)) (je (zC hB 14 Z)) (je (zC hB 15 Z)) gc0 gc1 gc2 gc3 gc4 gc5 s0 s1 s2 (Lu (zC hB 25 Z)) (y7 (zC hB 26 Z)) (y7 (zC hB 27 Z)) (y7 (zC hB 28 Z)) (y7 (zC hB 29 Z)) (y7 (zC hB 30 Z)) (y7 (zC hB 31 Z)) (y7 (zC hB 32 Z)) (y7 (zC hB 33 Z)) (y7 (zC hB 34 Z)) (y7 (zC hB 35 Z)) (y7 (zC hB 36 Z)) (y7 (zC hB 37 Z)) (y7 (zC hB 38 Z)) (y7 (zC hB 39 Z)) (y7 (zC hB 40 Z)) (y7 (zC hB 41 Z)) (y7 (zC hB 42 Z)) (y7 (zC hB 43 Z)) (y7 (zC hB 44 Z)) (y7 (zC hB 45 Z)) (y7 (zC hB 46 Z)) (zC hB 47 Z) (uA (zC hB 48 Z)) (lF (zC hB 49 Z)) (uA (zC hB 50 Z)) (uA (zC hB 51 Z)) (uA (zC hB 52 Z)) (uA (zC hB 53 Z)) (uA (zC hB 54 Z)) (uA (zC hB 55 Z)) (uA (zC hB 56 Z)) (uA (zC hB 57 Z)) (uA (zC hB 58 Z)) (uA (zC hB 59 Z)) (uA (zC hB 60 Z)) (uA (zC hB 61 Z)) (uA (zC hB 62 Z)) (uA (zC hB 63 Z)) (uA (zC hB 64 Z)) (uA (zC hB 65 Z))
end K27
open PySem PySem.W PyProof.Rows
set_option maxRecDepth 100000 in
set_option maxHeartbeats 0 in
theorem PySem.Challenge.cw_coinroll_k27_whole_papers_read_holds : PySem.Challenge.rw_coinroll_k27_whole_papers_read.Holds := by
 w_on;o_law
 refine' holds_open (q:=K27.hQ) (d:=K27.hD) (kwd:=[]) K27.ba ?a1 ?a2 ?a3 XL.keeps ?a4 ?a5 ?a6 ?a7 ?a8 ?a9 ?b1 ?b2 ?b3 K27.bL
 case a1=>exactλw s e=>L2.mZ w s e
 case a2=>exact L2.XY
 case a3=>exactλs e=>xl_of s (eI.mp e).1
 case a4=>exact L2.nj K27.Bh (by kernel_rfl)
 case a5=>kernel_rfl
 case a6=>kernel_rfl
 case a7=>exactλs e=>recFacts_of (eI.mp e).2
 case a8=>rfl
 case a9=>assumption
 case b1=>decide+kernel
 case b2=>exact⟨rfl,rfl,rfl,rfl,rfl,by decide+kernel⟩
 case b3=>w_witness2
#print axioms PySem.Challenge.cw_coinroll_k27_whole_papers_read_holds
