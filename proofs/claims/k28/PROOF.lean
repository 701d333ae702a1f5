import PyProof.Rows.All
import Wide.All
import OpenK.AllK
import Wide.FinOn
import Lean
import PyProof.EqAt
import PyProof.EqKinds
import PyProof.TupleCall
import PyProof.NeKinds
import PyProof.SumWalkG
import PyProof.EnumMake
import KE.KIntText
import PyProof.StrLawsIn
import PyProof.StrCalls2
import PyProof.Rows.SortRuns
import KE.KSortTup
import KE.KSortKey
import PyProof.StrCalls
import PyProof.ListRange
import KE.IntTextLaws
import KE.IntTextText
import PyProof.Rows.FStr
import PyProof.SetKind
import PyProof.Rows.SetFrom
import PyProof.Walks
import KE.KItemsList
import KE.KDictOf
import PyProof.AttrMissHeap
import PyProof.AutoListH
import PyProof.Rows.ZipGen
import PyProof.Rows.EnumRows
import PyProof.EnumFor
import PyProof.WalksMore
import PyProof.TupleIter
import KE.KRevIter
import PyProof.CollectIter
import PyProof.JoinWalk
import PyProof.Rows.FactsT2
import PyProof.SeqI3
import PyProof.DictWalks
import PyProof.CollectWalk
import PyProof.Rows.SortWalk
import KE.KDictSum
import PySem.Challenge.RW_coinroll_k28_lines_read
set_option Elab.async false
set_option linter.all false
set_option genSizeOf false
set_option compiler.extract_closed false
set_option maxRecDepth 100000
namespace L2
open PySem PySem.W PySem.Calls PyProof.Rows

noncomputable def runT (tb : String → Option Builtin) (p : Program) (w : World) (n₀ : Nat) (ann : Option Value) : Nat → SharedT → Thread → Option SharedT
  | 0, _, _ => none
  | n + 1, s, t => match through t with
    | true => some s
    | false => match stepOk n₀ ann t with
      | false => none
      | true => match stepT (denote tb) p w s t with
        | some (s', t') => runT tb p w n₀ ann n s' t'
        | none => none
theorem run_of {tb : String → Option Builtin} {p : Program} {w : World} {n₀ : Nat} {ann : Option Value} (n : Nat) : ∀ {s s' : SharedT} {t : Thread}, runT tb p w n₀ ann n s t = some s' → topRun tb p w n₀ ann n s.abs t = some s'.abs := by
  induction n with
  | zero => intro s s' t h; cases h
  | succ n ih =>
    intro s s' t h
    unfold runT at h
    unfold topRun
    cases ht : through t with
    | true => rw [ht] at h; cases h; rfl
    | false =>
      rw [ht] at h
      cases hk : stepOk n₀ ann t with
      | false => rw [hk] at h; cases h
      | true =>
        rw [hk] at h
        cases hs : stepT (denote tb) p w s t with
        | none => rw [hs] at h; cases h
        | some r =>
          obtain ⟨s₂, t₂⟩ := r
          rw [hs] at h
          rw [stepT_spec hs]
          exact ih h

noncomputable def grow : List Obj → BT → Nat → Option BT
  | [], t, _ => some t
  | o :: l, t, n => match ((t.ins n o).get n).isSome with
    | true => grow l (t.ins n o) (n + 1)
    | false => none
theorem grow_of {life : Life} (l : List Obj) : ∀ {t t' : BT} {n : Nat}, grow l t n = some t' → (absHeap t' (n + l.length) life).objs.toList = (absHeap t n life).objs.toList ++ l := by
  induction l with
  | nil => intro t t' n h; cases h; rw [List.append_nil]; rfl
  | cons o l ih =>
    intro t t' n h
    unfold grow at h
    cases e : ((t.ins n o).get n).isSome with
    | false => rw [e] at h; cases h
    | true =>
      rw [e] at h
      have := ih h
      rw [List.length_cons, show n + (l.length + 1) = n + 1 + l.length by omega, this, absHeap_ins e]
      show ((absHeap t n life).objs.push o).toList ++ l = _
      rw [Array.toList_push, List.append_assoc]
      rfl

noncomputable def onceT {β : Type} (p : Program) (m : Nat) (ann : Option Value) (M : Nat) (see : Shared → β) (w : World) (os : OsState) : Option β :=
  (grow (boot_heap w.params).objs.toList .nil 0).bind fun t => (runT treeTable p w m ann M ⟨t, m, (boot_heap w.params).life, Array.mk [], boot_drawn, boot_toks, os⟩ (topStub p)).map fun s => see s.abs
theorem left_once {p q : Program} {loose : List Str} {Xt : Shared → Bool} {α : Type} {Yf : Shared → α} {Ya : World → α} {N M m : Nat} {g0 : Bool} {ann : Option Value}
    (e : opening p = plainProg p.main.scope.names) (hN : Nat.ble 600 N = true) (f : ∀ s, fenceModules? p s = some s) (le : Nat.ble M N = true)
    (size : ∀ w : World, ((boot_heap w.params).isNs mainGlobals, (boot_heap w.params).objs.toList.length, (boot_heap w.params).nsMap mainGlobals "__annotations__") = (true, m, ann))
    (h : ∀ (w : World) (os : OsState), onceT p m ann M (fun s => ((staticsOk (importedModules p.main.body) (boot_heap w.params) s.heap && namesBound p s.heap && gensDone s && laidKept (boot_heap w.params) s.heap), openSeen q loose (importedModules p.main.body) Xt g0 s, Yf s)) w os = some (true, openGood q loose, Ya w)) :
    LeftO p q loose Xt Yf Ya N g0 := fun w => by
  obtain ⟨⟨hp, gs, d, k, os⟩, e1, e2⟩ := Option.map_eq_some_iff.mp (boot_open e hN f w)
  obtain ⟨rfl, rfl, rfl, rfl⟩ : hp = boot_heap w.params ∧ gs = Array.mk [] ∧ d = boot_drawn ∧ k = boot_toks := by
    have a := congrArg Prod.fst e2
    have b := congrArg (fun x => x.2.1) e2
    have c := congrArg (fun x => x.2.2.1) e2
    have d := congrArg (fun x => x.2.2.2) e2
    exact ⟨a, b, c, d⟩
  have sz := size w
  have z1 : (boot_heap w.params).isNs mainGlobals = true := congrArg Prod.fst sz
  have z2 : (boot_heap w.params).objs.toList.length = m := congrArg (fun x => x.2.1) sz
  have z3 : (boot_heap w.params).nsMap mainGlobals "__annotations__" = ann := congrArg (fun x => x.2.2) sz
  have h := h w os
  unfold onceT at h
  obtain ⟨t, ht, h⟩ := Option.bind_eq_some_iff.mp h
  obtain ⟨s, hs, h⟩ := Option.map_eq_some_iff.mp h
  have ab : SharedT.abs ⟨t, m, (boot_heap w.params).life, Array.mk [], boot_drawn, boot_toks, os⟩ = ⟨boot_heap w.params, Array.mk [], boot_drawn, boot_toks, os⟩ := by
    have g := grow_of (life := (boot_heap w.params).life) _ ht
    rw [Nat.zero_add, z2] at g
    have g' : (absHeap t m (boot_heap w.params).life).objs.toList = (boot_heap w.params).objs.toList := g
    have g2 : absHeap t m (boot_heap w.params).life = boot_heap w.params := by
      show Heap.mk (absHeap t m (boot_heap w.params).life).objs (boot_heap w.params).life = Heap.mk (boot_heap w.params).objs (boot_heap w.params).life
      exact congrArg (Heap.mk · _) (Array.toList_inj.mp g')
    show Shared.mk (absHeap t m (boot_heap w.params).life) _ _ _ _ = _
    rw [g2]
  have r := run_of M hs
  rw [ab] at r
  have r := topRun_mono (N - M) _ _ _ _ r
  rw [show M + (N - M) = N by have := Nat.le_of_ble_eq_true le; omega] at r
  have l1 := congrArg Prod.fst h
  have l2 := congrArg Prod.snd h
  dsimp only at l1 l2
  have t : topFrom treeTable p w N ⟨boot_heap w.params, Array.mk [], boot_drawn, boot_toks, os⟩ = some s.abs := by
    unfold topFrom
    have c : ((boot_heap w.params).isNs mainGlobals && (Array.mk ([] : List GenState)).size == 0) = true := by rw [z1]; rfl
    show (match (boot_heap w.params).isNs mainGlobals && (Array.mk ([] : List GenState)).size == 0 with | true => _ | false => none) = _
    rw [c]
    show (topRun treeTable p w (boot_heap w.params).objs.size ((boot_heap w.params).nsMap mainGlobals "__annotations__") N _ _).bind _ = _
    rw [show (boot_heap w.params).objs.size = m from z2, z3, r]
    show (match _ with | true => _ | false => none) = _
    rw [l1]
  unfold openEnds
  rw [e1]
  show (topFrom treeTable p w N _).map _ = _
  rw [t]
  exact congrArg some l2
end L2
namespace L2
open PySem PySem.Spec PyProof.Rows
noncomputable def inClass (s : Stmt) (j : Nat) : Stmt := match s with
  | .ClassDef _ _ _ body _ _ _ _ _ _ _ => body.getD j (.Pass ⟨0, 0, 0, 0⟩)
  | _ => .Pass ⟨0, 0, 0, 0⟩
noncomputable def defArgs (s : Stmt) : Arguments := match s with
  | .FunctionDef _ a _ _ _ _ _ _ _ _ => a
  | _ => { posonlyargs := [], args := [], vararg := none, kwonlyargs := [], kw_defaults := [], kwarg := none, defaults := [] }
noncomputable def defBody (s : Stmt) : List Stmt := match s with
  | .FunctionDef _ _ b _ _ _ _ _ _ _ => b
  | _ => []
noncomputable def defScope (s : Stmt) : Scope := match s with
  | .FunctionDef _ _ _ _ _ _ sc _ _ _ => sc
  | _ => { kind := .function, names := [], isGenerator := false, isCoroutine := false }
end L2
namespace L2
open PySem PySem.W PySem.Calls PyProof.Rows
noncomputable def fragAt (as : List Addr) (h : Heap) : Frag := as.filterMap fun a => (h.get? a).map fun o => (a, o)
structure FnSeen where
  name : Str
  qual : Str
  params : Arguments
  body : FuncBody
  scope : Scope
  globals : Addr
  closure : List (Str × Addr)
  defaults : Value
  builtins : Addr
  ok : Bool
noncomputable def fnSeen (K : Frag) (v : Option (Option Value)) : Option FnSeen := match v with
  | some (some (.ref f)) => match K.lookup f with
    | some ⟨_, _, .func fd, _⟩ => some ⟨fd.name, fd.qualname, fd.params, fd.body, fd.scope, fd.globals, fd.closure, fd.defaults, fd.builtins, codeIn K fd.code fd.qualname && keepIn K (.ref f) && isFn K (.ref f)⟩
    | _ => none
  | _ => none
noncomputable def fnWant (x qual : Str) (st : Stmt) : Option FnSeen := some ⟨x, qual, defArgs st, .stmts (defBody st), defScope st, mainGlobals, [], .none, builtinsNs, true⟩
noncomputable abbrev veMro : List Value := [.type "ValueError", .type "Exception", .type "BaseException", .type "object"]
noncomputable def isNo (v : Option (Option Value)) : Bool := match v with
  | some none => true
  | _ => false
noncomputable def isInt (z : Int) (v : Option (Option Value)) : Bool := match v with
  | some (some (.int y _)) => decide (y = z)
  | _ => false
noncomputable def isStr (z : Str) (v : Option (Option Value)) : Bool := match v with
  | some (some (.str y _)) => decide (y = z)
  | _ => false
noncomputable def isRef (z : Addr) (v : Option (Option Value)) : Bool := match v with
  | some (some (.ref y)) => Nat.beq y z
  | _ => false
noncomputable def isBlt (z : String) (v : Option (Option Value)) : Bool := match v with
  | some (some (.builtin y)) => decide (y = z)
  | _ => false
noncomputable def isB (b : Bool) (v : Option Bool) : Bool := match v with
  | some c => c == b
  | none => false
noncomputable def excSeen (K : Frag) (D : Addr) : Bool := (clsIn K D).isSome && isBlt "BaseException.__getattribute__" (findIn K (.ref D) "__getattribute__") && isNo (findIn K (.ref D) "__getattr__") && isBlt "object.__class__" (findIn K (.ref D) "__class__") && isBlt "getset_descriptor.__get__" (specialIn K (.builtin "object.__class__") "__get__") && isB true (takesIn K (.builtin "object.__class__")) && isB true (mroIn K D (.type "object")) && isB true (mroIn K D (.type "BaseException"))
noncomputable def isStrsC : List Value → List Str → Bool
  | [], [] => true
  | v :: r, z :: q => isStr z (some (some v)) && isStrsC r q
  | _, _ => false
noncomputable def tupSeen (K : Frag) (x : Str) (zs : List Str) : Bool := match nsIn K mainGlobals x with
  | some (some (.ref a)) => match K.lookup a with
    | some ⟨.type n, _, .seq its _, _⟩ => decide (n = "tuple") && Nat.ble its.size 1000 && isStrsC its.toList zs
    | _ => false
  | _ => false
noncomputable def clsFnSeen (K : PySem.W.Frag) (C : Addr) (m : Str) : Bool :=
  (match PySem.W.specialIn K (.ref C) "__getattribute__" with | some (some (.builtin b)) => b == "type.__getattribute__" | _ => false) && PySem.W.readsIn K C (.type "type") &&
  (match PySem.W.findIn K (.ref C) m, PySem.W.findCls K (.ref C) (.type "type") m with | some (some (.ref f)), some (.val (.ref g)) => Nat.beq f g | _, _ => false)
end L2
set_option Elab.async false
set_option linter.all false
set_option maxRecDepth 100000
set_option maxHeartbeats 4000000
namespace K28
open PySem
noncomputable def top (i : Nat) : Stmt := PySem.Challenge.pw_coinroll_k28_lines_read.main.body.getD i (.Pass ⟨0, 0, 0, 0⟩)
end K28
set_option Elab.async false
set_option linter.all false
set_option maxRecDepth 100000
set_option maxHeartbeats 0
namespace K28
open PySem PySem.W PySem.Calls PyProof.Rows L2
noncomputable def hQ : Program := PySem.W.view PySem.Challenge.pw_coinroll_k28_lines_read [1, 2, 3, 4, 5, 6, 7, 8, 9, 10, 11, 12, 13, 14, 15, 16, 18, 19, 20, 22, 23, 24, 25, 26, 27, 29, 30, 31, 32, 33, 34, 35, 36, 37, 38, 40, 41, 42, 43, 44, 45, 46, 47, 48, 50, 51, 52, 53, 54, 56, 57, 58, 59, 61, 62, 63, 64, 65, 66, 67, 68, 69, 70, 71, 72, 73, 74, 75, 76, 77]
noncomputable def hAs : List Addr := [2, 3, 15, 22, 23, 24, 25, 28, 35, 36, 37, 40, 47, 48, 49, 52, 59, 60, 61, 64, 71, 72, 73, 76, 83, 84, 85, 88, 95, 96, 97, 100, 107, 108, 109, 112, 119, 120, 121, 124, 131, 132, 133, 136, 143, 144, 145, 148, 155, 156, 157, 160, 167, 168, 169, 172, 179, 180, 181, 184, 191, 192, 193, 196, 203, 204, 205, 208, 210, 211, 213, 214, 215, 217, 218, 220, 221, 222, 224, 225, 227, 228, 229, 232, 233, 234, 236, 237, 239, 240, 241, 243, 244, 246, 247, 248, 250, 251, 253, 254, 255, 257, 258, 260, 261, 262, 265, 266, 267, 269, 270, 272, 273, 274, 276, 277, 279, 280, 281, 283, 284, 286, 287, 288, 290, 291, 293, 294, 295, 297, 298, 300, 301, 302, 304, 305, 307, 308, 309, 311, 312, 314, 315, 316, 318, 319, 321, 322, 323, 325, 326, 328, 329, 330, 332, 333, 335, 336, 337, 339, 340, 342, 343, 344, 346, 347, 349, 350, 351, 353, 354, 356, 357, 358, 360, 361, 363, 364, 365, 367, 368, 370, 371, 372, 374, 375, 377, 378, 379, 381, 382, 384, 385, 386, 388, 389, 391, 392, 393, 395, 396, 398, 399, 400, 402, 403, 405, 406, 407, 409, 410, 412, 413, 414, 416, 417, 419, 420, 421, 423, 424, 426, 427, 428, 431, 432, 433, 435, 436, 438, 439, 440, 443, 444, 445, 447, 448, 450, 451, 452, 455, 456, 457, 460, 461, 462, 464, 465, 467, 468, 469, 472, 473, 474, 476, 477, 479, 480, 481, 484, 485, 486, 488, 489, 491, 492]
noncomputable def hFs : List (Str × Nat) := [(("is_number" : Str), 18), (("is_number_within" : Str), 19), (("need_amount" : Str), 20), (("is_word_of" : Str), 25), (("is_name" : Str), 26), (("is_mark" : Str), 27), (("figures_of" : Str), 32), (("told_amount" : Str), 33), (("are_figures" : Str), 34), (("is_number_text" : Str), 35), (("read_number" : Str), 36), (("is_amount_text" : Str), 37), (("read_amount" : Str), 38), (("need_month" : Str), 42), (("year_of" : Str), 43), (("place_of" : Str), 44), (("year_text" : Str), 45), (("month_text" : Str), 46), (("is_month_text" : Str), 47), (("read_month" : Str), 48), (("begins_with" : Str), 52), (("has_person_month_amount" : Str), 53), (("is_entry" : Str), 54), (("line_of" : Str), 57), (("entry_of_words" : Str), 58), (("entry_of" : Str), 59), (("_law_cell" : Str), 61), (("_law_mixed" : Str), 62), (("_law_whole" : Str), 63), (("_law_word" : Str), 64), (("_law_entry" : Str), 65), (("_law_told" : Str), 66), (("_law_reads" : Str), 67), (("_law_month_text" : Str), 68), (("_law_read_month" : Str), 69), (("_law_line" : Str), 70), (("_law_is_of" : Str), 71), (("_law_due" : Str), 72), (("_law_bent" : Str), 73), (("_law_kind" : Str), 74), (("_law_read" : Str), 75), (("_law_is_entry" : Str), 76), (("law" : Str), 77)]
noncomputable def hMs : List (Addr × Str × Str × Nat × Nat) := []
noncomputable def hYes (K : Frag) : List Bool := [isRef 37 (nsIn K mainGlobals "BadAmount"), isRef 49 (nsIn K mainGlobals "BadShare"), isRef 61 (nsIn K mainGlobals "BadText"), isRef 73 (nsIn K mainGlobals "BadMonth"), isRef 85 (nsIn K mainGlobals "BadYear"), isRef 97 (nsIn K mainGlobals "BadRule"), isRef 109 (nsIn K mainGlobals "BadBook"), isRef 121 (nsIn K mainGlobals "NoYear"), isRef 133 (nsIn K mainGlobals "BadDay"), isRef 145 (nsIn K mainGlobals "BadEntry"), isRef 157 (nsIn K mainGlobals "NoMark"), isRef 169 (nsIn K mainGlobals "NoPerson"), isRef 181 (nsIn K mainGlobals "TooMany"), isRef 193 (nsIn K mainGlobals "BadClose"), isRef 205 (nsIn K mainGlobals "BadLine"), isRef 24 (nsIn K mainGlobals "RollError"), isInt 8 (nsIn K mainGlobals "MOST_SIGNS_names"), isInt 30 (nsIn K mainGlobals "MOST_SIGNS_texts"), isInt 1000000000000000000 (nsIn K mainGlobals "PIECE"), isInt 18 (nsIn K mainGlobals "PIECE_FIGURES"), isInt 12 (nsIn K mainGlobals "YEAR_MONTHS"), isInt 119999 (nsIn K mainGlobals "LAST_MONTH"), isInt 99 (nsIn K mainGlobals "MOST_RANK"), isInt 10000000000 (nsIn K mainGlobals "MOST_AMOUNT"), isInt 2 (nsIn K mainGlobals "RANK_FIGURES"), isStr "abcdefghijklmnopqrstuvwxyz" (nsIn K mainGlobals "LETTERS"), isStr "0123456789" (nsIn K mainGlobals "FIGURES"), isNo (nsIn K mainGlobals "isinstance"), isNo (nsIn K mainGlobals "int"), isNo (nsIn K mainGlobals "bool"), isNo (nsIn K mainGlobals "str"), isNo (nsIn K mainGlobals "len"), isNo (nsIn K mainGlobals "range"), isNo (nsIn K mainGlobals "ValueError"), isNo (nsIn K mainGlobals "list"), isNo (nsIn K mainGlobals "tuple"), isNo (nsIn K mainGlobals "dict"), isNo (nsIn K mainGlobals "set"), isNo (nsIn K mainGlobals "all"), isNo (nsIn K mainGlobals "any"), isNo (nsIn K mainGlobals "sum"), isNo (nsIn K mainGlobals "sorted"), isNo (nsIn K mainGlobals "abs"), isNo (nsIn K mainGlobals "max"), isNo (nsIn K mainGlobals "min"), isNo (nsIn K mainGlobals "zip"), isNo (nsIn K mainGlobals "enumerate"), isNo (nsIn K mainGlobals "reversed"), excIn K 61 veMro "ValueError.__new__", isB true (exmOne K (.ref 61) (.ref 24)), excSeen K 61, isB true (kitOne K (.ref 61) (.type "ValueError")), isB false (kitOne K (.ref 61) (.ref 37)), isB false (kitOne K (.ref 61) (.ref 49)), isB true (kitOne K (.ref 61) (.ref 61)), isB false (kitOne K (.ref 61) (.ref 73)), isB false (kitOne K (.ref 61) (.ref 85)), isB false (kitOne K (.ref 61) (.ref 97)), isB false (kitOne K (.ref 61) (.ref 109)), isB false (kitOne K (.ref 61) (.ref 121)), isB false (kitOne K (.ref 61) (.ref 133)), isB false (kitOne K (.ref 61) (.ref 145)), isB false (kitOne K (.ref 61) (.ref 157)), isB false (kitOne K (.ref 61) (.ref 169)), isB false (kitOne K (.ref 61) (.ref 181)), isB false (kitOne K (.ref 61) (.ref 193)), isB false (kitOne K (.ref 61) (.ref 205)), excIn K 73 veMro "ValueError.__new__", isB true (exmOne K (.ref 73) (.ref 24)), excSeen K 73, isB true (kitOne K (.ref 73) (.type "ValueError")), isB false (kitOne K (.ref 73) (.ref 37)), isB false (kitOne K (.ref 73) (.ref 49)), isB false (kitOne K (.ref 73) (.ref 61)), isB true (kitOne K (.ref 73) (.ref 73)), isB false (kitOne K (.ref 73) (.ref 85)), isB false (kitOne K (.ref 73) (.ref 97)), isB false (kitOne K (.ref 73) (.ref 109)), isB false (kitOne K (.ref 73) (.ref 121)), isB false (kitOne K (.ref 73) (.ref 133)), isB false (kitOne K (.ref 73) (.ref 145)), isB false (kitOne K (.ref 73) (.ref 157)), isB false (kitOne K (.ref 73) (.ref 169)), isB false (kitOne K (.ref 73) (.ref 181)), isB false (kitOne K (.ref 73) (.ref 193)), isB false (kitOne K (.ref 73) (.ref 205)), excIn K 205 veMro "ValueError.__new__", isB true (exmOne K (.ref 205) (.ref 24)), excSeen K 205, isB true (kitOne K (.ref 205) (.type "ValueError")), isB false (kitOne K (.ref 205) (.ref 37)), isB false (kitOne K (.ref 205) (.ref 49)), isB false (kitOne K (.ref 205) (.ref 61)), isB false (kitOne K (.ref 205) (.ref 73)), isB false (kitOne K (.ref 205) (.ref 85)), isB false (kitOne K (.ref 205) (.ref 97)), isB false (kitOne K (.ref 205) (.ref 109)), isB false (kitOne K (.ref 205) (.ref 121)), isB false (kitOne K (.ref 205) (.ref 133)), isB false (kitOne K (.ref 205) (.ref 145)), isB false (kitOne K (.ref 205) (.ref 157)), isB false (kitOne K (.ref 205) (.ref 169)), isB false (kitOne K (.ref 205) (.ref 181)), isB false (kitOne K (.ref 205) (.ref 193)), isB true (kitOne K (.ref 205) (.ref 205)), isB true (exmOne K (.ref 61) (.ref 61)), isB false (exmOne K (.ref 205) (.ref 61))]
noncomputable def hSee (K : Frag) := (hFs.map (fun x => fnSeen K (nsIn K mainGlobals x.1)), hMs.map (fun x => fnSeen K (findIn K (.ref x.1) x.2.1)), (hYes K).all id)
noncomputable def hWant := (hFs.map (fun x => fnWant x.1 x.1 (top x.2)), hMs.map (fun x => fnWant x.2.1 x.2.2.1 (inClass (top x.2.2.2.1) x.2.2.2.2)), true)
noncomputable def hXt (s : Shared) : Bool := xlAt hQ [] s && recOk [] s
noncomputable def hLook (w : World) (s : Shared) := ((staticsOk (importedModules PySem.Challenge.pw_coinroll_k28_lines_read.main.body) (boot_heap w.params) s.heap && namesBound PySem.Challenge.pw_coinroll_k28_lines_read s.heap && gensDone s && laidKept (boot_heap w.params) s.heap), openSeen hQ [] (importedModules PySem.Challenge.pw_coinroll_k28_lines_read.main.body) hXt true s, hSee (fragAt hAs s.heap))
noncomputable def hY0 (K : Frag) : List Bool := [isRef 37 (nsIn K mainGlobals "BadAmount"), isRef 49 (nsIn K mainGlobals "BadShare"), isRef 61 (nsIn K mainGlobals "BadText"), isRef 73 (nsIn K mainGlobals "BadMonth"), isRef 85 (nsIn K mainGlobals "BadYear"), isRef 97 (nsIn K mainGlobals "BadRule"), isRef 109 (nsIn K mainGlobals "BadBook"), isRef 121 (nsIn K mainGlobals "NoYear"), isRef 133 (nsIn K mainGlobals "BadDay"), isRef 145 (nsIn K mainGlobals "BadEntry"), isRef 157 (nsIn K mainGlobals "NoMark"), isRef 169 (nsIn K mainGlobals "NoPerson"), isRef 181 (nsIn K mainGlobals "TooMany"), isRef 193 (nsIn K mainGlobals "BadClose"), isRef 205 (nsIn K mainGlobals "BadLine"), isRef 24 (nsIn K mainGlobals "RollError"), isInt 8 (nsIn K mainGlobals "MOST_SIGNS_names"), isInt 30 (nsIn K mainGlobals "MOST_SIGNS_texts"), isInt 1000000000000000000 (nsIn K mainGlobals "PIECE"), isInt 18 (nsIn K mainGlobals "PIECE_FIGURES"), isInt 12 (nsIn K mainGlobals "YEAR_MONTHS"), isInt 119999 (nsIn K mainGlobals "LAST_MONTH"), isInt 99 (nsIn K mainGlobals "MOST_RANK"), isInt 10000000000 (nsIn K mainGlobals "MOST_AMOUNT"), isInt 2 (nsIn K mainGlobals "RANK_FIGURES"), isStr "abcdefghijklmnopqrstuvwxyz" (nsIn K mainGlobals "LETTERS"), isStr "0123456789" (nsIn K mainGlobals "FIGURES"), isNo (nsIn K mainGlobals "isinstance"), isNo (nsIn K mainGlobals "int"), isNo (nsIn K mainGlobals "bool"), isNo (nsIn K mainGlobals "str"), isNo (nsIn K mainGlobals "len"), isNo (nsIn K mainGlobals "range"), isNo (nsIn K mainGlobals "ValueError"), isNo (nsIn K mainGlobals "list"), isNo (nsIn K mainGlobals "tuple"), isNo (nsIn K mainGlobals "dict"), isNo (nsIn K mainGlobals "set"), isNo (nsIn K mainGlobals "all"), isNo (nsIn K mainGlobals "any"), isNo (nsIn K mainGlobals "sum"), isNo (nsIn K mainGlobals "sorted"), isNo (nsIn K mainGlobals "abs"), isNo (nsIn K mainGlobals "max"), isNo (nsIn K mainGlobals "min"), isNo (nsIn K mainGlobals "zip"), isNo (nsIn K mainGlobals "enumerate"), isNo (nsIn K mainGlobals "reversed"), excIn K 61 veMro "ValueError.__new__", isB true (exmOne K (.ref 61) (.ref 24)), excSeen K 61, isB true (kitOne K (.ref 61) (.type "ValueError")), isB false (kitOne K (.ref 61) (.ref 37)), isB false (kitOne K (.ref 61) (.ref 49)), isB true (kitOne K (.ref 61) (.ref 61)), isB false (kitOne K (.ref 61) (.ref 73)), isB false (kitOne K (.ref 61) (.ref 85)), isB false (kitOne K (.ref 61) (.ref 97)), isB false (kitOne K (.ref 61) (.ref 109)), isB false (kitOne K (.ref 61) (.ref 121))]
noncomputable def hY1 (K : Frag) : List Bool := [isB false (kitOne K (.ref 61) (.ref 133)), isB false (kitOne K (.ref 61) (.ref 145)), isB false (kitOne K (.ref 61) (.ref 157)), isB false (kitOne K (.ref 61) (.ref 169)), isB false (kitOne K (.ref 61) (.ref 181)), isB false (kitOne K (.ref 61) (.ref 193)), isB false (kitOne K (.ref 61) (.ref 205)), excIn K 73 veMro "ValueError.__new__", isB true (exmOne K (.ref 73) (.ref 24)), excSeen K 73, isB true (kitOne K (.ref 73) (.type "ValueError")), isB false (kitOne K (.ref 73) (.ref 37)), isB false (kitOne K (.ref 73) (.ref 49)), isB false (kitOne K (.ref 73) (.ref 61)), isB true (kitOne K (.ref 73) (.ref 73)), isB false (kitOne K (.ref 73) (.ref 85)), isB false (kitOne K (.ref 73) (.ref 97)), isB false (kitOne K (.ref 73) (.ref 109)), isB false (kitOne K (.ref 73) (.ref 121)), isB false (kitOne K (.ref 73) (.ref 133)), isB false (kitOne K (.ref 73) (.ref 145)), isB false (kitOne K (.ref 73) (.ref 157)), isB false (kitOne K (.ref 73) (.ref 169)), isB false (kitOne K (.ref 73) (.ref 181)), isB false (kitOne K (.ref 73) (.ref 193)), isB false (kitOne K (.ref 73) (.ref 205)), excIn K 205 veMro "ValueError.__new__", isB true (exmOne K (.ref 205) (.ref 24)), excSeen K 205, isB true (kitOne K (.ref 205) (.type "ValueError")), isB false (kitOne K (.ref 205) (.ref 37)), isB false (kitOne K (.ref 205) (.ref 49)), isB false (kitOne K (.ref 205) (.ref 61)), isB false (kitOne K (.ref 205) (.ref 73)), isB false (kitOne K (.ref 205) (.ref 85)), isB false (kitOne K (.ref 205) (.ref 97)), isB false (kitOne K (.ref 205) (.ref 109)), isB false (kitOne K (.ref 205) (.ref 121)), isB false (kitOne K (.ref 205) (.ref 133)), isB false (kitOne K (.ref 205) (.ref 145)), isB false (kitOne K (.ref 205) (.ref 157)), isB false (kitOne K (.ref 205) (.ref 169)), isB false (kitOne K (.ref 205) (.ref 181)), isB false (kitOne K (.ref 205) (.ref 193)), isB true (kitOne K (.ref 205) (.ref 205)), isB true (exmOne K (.ref 61) (.ref 61)), isB false (exmOne K (.ref 205) (.ref 61))]
noncomputable def hX (w : World) (os : OsState) : Option SharedT := (grow (boot_heap w.params).objs.toList .nil 0).bind fun t => (runT treeTable PySem.Challenge.pw_coinroll_k28_lines_read w 11 (some (.ref 6)) 4850 ⟨t, 11, (boot_heap w.params).life, Array.mk [], boot_drawn, boot_toks, os⟩ (topStub PySem.Challenge.pw_coinroll_k28_lines_read))
noncomputable def hRun0 (w : World) (os : OsState) := (((grow (boot_heap w.params).objs.toList .nil 0).bind fun t => (runT treeTable PySem.Challenge.pw_coinroll_k28_lines_read w 11 (some (.ref 6)) 4850 ⟨t, 11, (boot_heap w.params).life, Array.mk [], boot_drawn, boot_toks, os⟩ (topStub PySem.Challenge.pw_coinroll_k28_lines_read))).map fun s => ((staticsOk (importedModules PySem.Challenge.pw_coinroll_k28_lines_read.main.body) (boot_heap w.params) s.abs.heap && namesBound PySem.Challenge.pw_coinroll_k28_lines_read s.abs.heap && gensDone s.abs && laidKept (boot_heap w.params) s.abs.heap), openSeen hQ [] (importedModules PySem.Challenge.pw_coinroll_k28_lines_read.main.body) hXt true s.abs))
noncomputable def hEnd0 (_ : World) (_ : OsState) := some ((true, openGood hQ []))
theorem hRun0_self : hRun0 = hRun0 := rfl
theorem hEnd0_self : hEnd0 = hEnd0 := rfl
noncomputable def hRun1 (w : World) (os : OsState) := (((grow (boot_heap w.params).objs.toList .nil 0).bind fun t => (runT treeTable PySem.Challenge.pw_coinroll_k28_lines_read w 11 (some (.ref 6)) 4850 ⟨t, 11, (boot_heap w.params).life, Array.mk [], boot_drawn, boot_toks, os⟩ (topStub PySem.Challenge.pw_coinroll_k28_lines_read))).map fun s => (hFs.map (fun x => fnSeen (fragAt hAs s.abs.heap) (nsIn (fragAt hAs s.abs.heap) mainGlobals x.1)), hMs.map (fun x => fnSeen (fragAt hAs s.abs.heap) (findIn (fragAt hAs s.abs.heap) (.ref x.1) x.2.1))))
noncomputable def hEnd1 (_ : World) (_ : OsState) := some ((hFs.map (fun x => fnWant x.1 x.1 (top x.2)), hMs.map (fun x => fnWant x.2.1 x.2.2.1 (inClass (top x.2.2.2.1) x.2.2.2.2))))
theorem hRun1_self : hRun1 = hRun1 := rfl
theorem hEnd1_self : hEnd1 = hEnd1 := rfl
noncomputable def hRun2 (w : World) (os : OsState) := (((grow (boot_heap w.params).objs.toList .nil 0).bind fun t => (runT treeTable PySem.Challenge.pw_coinroll_k28_lines_read w 11 (some (.ref 6)) 4850 ⟨t, 11, (boot_heap w.params).life, Array.mk [], boot_drawn, boot_toks, os⟩ (topStub PySem.Challenge.pw_coinroll_k28_lines_read))).map fun s => (hY0 (fragAt hAs s.abs.heap)).all id)
noncomputable def hEnd2 (_ : World) (_ : OsState) := some (true)
theorem hRun2_self : hRun2 = hRun2 := rfl
noncomputable def hRun3 (w : World) (os : OsState) := (((grow (boot_heap w.params).objs.toList .nil 0).bind fun t => (runT treeTable PySem.Challenge.pw_coinroll_k28_lines_read w 11 (some (.ref 6)) 4850 ⟨t, 11, (boot_heap w.params).life, Array.mk [], boot_drawn, boot_toks, os⟩ (topStub PySem.Challenge.pw_coinroll_k28_lines_read))).map fun s => (hY1 (fragAt hAs s.abs.heap)).all id)
noncomputable def hEnd3 (_ : World) (_ : OsState) := some (true)
theorem hRun3_self : hRun3 = hRun3 := rfl
end K28
lay_quick L2.runT K28.top
name_quick hRunQ0 for K28.hRun0 by K28.hRun0_self
name_quick hEndQ0 for K28.hEnd0 by K28.hEnd0_self
name_quick hRunQ1 for K28.hRun1 by K28.hRun1_self
name_quick hEndQ1 for K28.hEnd1 by K28.hEnd1_self
name_quick hRunQ2 for K28.hRun2 by K28.hRun2_self
name_quick hRunQ3 for K28.hRun3 by K28.hRun3_self
namespace K28
open PySem PySem.W PySem.Calls PyProof.Rows L2
theorem hOnce0 : PySem.W.Fast.hRunQ0 = PySem.W.Fast.hEndQ0 := by kernel_rfl
theorem hOnce1 : PySem.W.Fast.hRunQ1 = PySem.W.Fast.hEndQ1 := by kernel_rfl
theorem hOnce2 : PySem.W.Fast.hRunQ2 = hEnd2 := by kernel_rfl
theorem hOnce3 : PySem.W.Fast.hRunQ3 = hEnd3 := by kernel_rfl
theorem hGot0 (w : World) (os : OsState) : (hX w os).map (fun s => ((staticsOk (importedModules PySem.Challenge.pw_coinroll_k28_lines_read.main.body) (boot_heap w.params) s.abs.heap && namesBound PySem.Challenge.pw_coinroll_k28_lines_read s.abs.heap && gensDone s.abs && laidKept (boot_heap w.params) s.abs.heap), openSeen hQ [] (importedModules PySem.Challenge.pw_coinroll_k28_lines_read.main.body) hXt true s.abs)) = some ((true, openGood hQ [])) := by
  have e : hRun0 = hEnd0 := PySem.W.Fast.hRunQ0_eq.trans (hOnce0.trans PySem.W.Fast.hEndQ0_eq.symm)
  exact congrFun (congrFun e w) os
theorem hGot1 (w : World) (os : OsState) : (hX w os).map (fun s => (hFs.map (fun x => fnSeen (fragAt hAs s.abs.heap) (nsIn (fragAt hAs s.abs.heap) mainGlobals x.1)), hMs.map (fun x => fnSeen (fragAt hAs s.abs.heap) (findIn (fragAt hAs s.abs.heap) (.ref x.1) x.2.1)))) = some ((hFs.map (fun x => fnWant x.1 x.1 (top x.2)), hMs.map (fun x => fnWant x.2.1 x.2.2.1 (inClass (top x.2.2.2.1) x.2.2.2.2)))) := by
  have e : hRun1 = hEnd1 := PySem.W.Fast.hRunQ1_eq.trans (hOnce1.trans PySem.W.Fast.hEndQ1_eq.symm)
  exact congrFun (congrFun e w) os
theorem hGot2 (w : World) (os : OsState) : (hX w os).map (fun s => (hY0 (fragAt hAs s.abs.heap)).all id) = some (true) := by
  have e : hRun2 = hEnd2 := PySem.W.Fast.hRunQ2_eq.trans hOnce2
  exact congrFun (congrFun e w) os
theorem hGot3 (w : World) (os : OsState) : (hX w os).map (fun s => (hY1 (fragAt hAs s.abs.heap)).all id) = some (true) := by
  have e : hRun3 = hEnd3 := PySem.W.Fast.hRunQ3_eq.trans hOnce3
  exact congrFun (congrFun e w) os
theorem hLeft : LeftO PySem.Challenge.pw_coinroll_k28_lines_read hQ [] hXt (fun s => hSee (fragAt hAs s.heap)) (fun _ => hWant) 4850 := by
  refine left_once (M := 4850) (m := 11) (ann := some (.ref 6)) (by kernel_rfl) (by kernel_rfl) (fun s => by kernel_rfl) (by kernel_rfl) (fun w => by kernel_rfl) fun w os => ?_
  obtain ⟨s, es, e0⟩ := Option.map_eq_some_iff.mp (hGot0 w os)
  obtain ⟨s1, es1, e1⟩ := Option.map_eq_some_iff.mp (hGot1 w os)
  obtain rfl : s = s1 := Option.some.inj (es.symm.trans es1)
  obtain ⟨s2, es2, e2⟩ := Option.map_eq_some_iff.mp (hGot2 w os)
  obtain rfl : s = s2 := Option.some.inj (es.symm.trans es2)
  obtain ⟨s3, es3, e3⟩ := Option.map_eq_some_iff.mp (hGot3 w os)
  obtain rfl : s = s3 := Option.some.inj (es.symm.trans es3)
  have ey : (hYes (fragAt hAs s.abs.heap)).all id = true := by
    show (hY0 (fragAt hAs s.abs.heap) ++ hY1 (fragAt hAs s.abs.heap)).all id = true
    try simp only [List.all_append, Bool.and_eq_true]
    exact ⟨e2, e3⟩
  have el : hLook w s.abs = (true, openGood hQ [], hWant) := by
    have a1 := congrArg Prod.fst e0
    have a2 := congrArg Prod.snd e0
    have a3 := congrArg Prod.fst e1
    have a4 := congrArg Prod.snd e1
    exact congr (congrArg Prod.mk a1) (congr (congrArg Prod.mk a2) (congr (congrArg Prod.mk a3) (congr (congrArg Prod.mk a4) ey)))
  unfold onceT
  obtain ⟨t, ht, hs⟩ := Option.bind_eq_some_iff.mp es
  rw [ht]
  show (runT _ _ w _ _ _ _ _).map _ = _
  rw [hs]
  exact congrArg some el
end K28

set_option Elab.async false
set_option linter.all false
set_option maxRecDepth 100000

namespace L2
open PySem PySem.Spec PyProof.Rows

noncomputable def isStar : Expr → Bool
  | .Starred _ _ => true
  | _ => false
theorem starEach_cons {e : Expr} {es : List Expr} {env : Env} (h : isStar e = false) : starEach (e :: es) env = (false, eval e env) :: starEach es env := by
  cases e <;> first | rfl | cases h
theorem noStars {env : Env} {pos : Pos} : ∀ {es : List Expr}, es.all (fun e => !isStar e) = true → (backTo pos (starEach es env)).any (·.1) = false
  | [], _ => rfl
  | e :: es, h => by
    rw [List.all_cons, Bool.and_eq_true, Bool.not_eq_true'] at h
    rw [starEach_cons h.1]
    show (false || (backTo pos (starEach es env)).any (·.1)) = false
    rw [Bool.false_or]
    exact noStars h.2


noncomputable abbrev Key := Sum Int Str
noncomputable def keyIs : Key → Value → Bool
  | .inl k, v => Value.isInt k v
  | .inr x, v => Value.isStrOf x v
noncomputable def keyH (w : World) : Key → Int
  | .inl k => hashInt k
  | .inr x => hashStr w x
theorem keyIs_shape : ∀ {k : Key} {v : Value}, keyIs k v = true → (∃ i t, k = Sum.inl i ∧ v = Value.int i t) ∨ (∃ x t, k = Sum.inr x ∧ v = Value.str x t)
  | .inl i, v, h => by
    obtain ⟨t, e⟩ := Value.isInt_shape (k := i) (v := v) h
    exact .inl ⟨i, t, rfl, e⟩
  | .inr x, v, h => by
    obtain ⟨t, e⟩ := Value.isStrOf_shape (x := x) (v := v) h
    exact .inr ⟨x, t, rfl, e⟩
theorem key_ll (a b : Int) : decide ((Sum.inl a : Key) = Sum.inl b) = (a == b) := by
  by_cases e : a = b
  · subst e; simp
  · have h : ¬ (Sum.inl a : Key) = Sum.inl b := fun q => e (Sum.inl.inj q)
    rw [decide_eq_false h]
    exact (beq_eq_false_iff_ne.mpr e).symm
theorem key_rr (a b : Str) : decide ((Sum.inr a : Key) = Sum.inr b) = decide (a = b) := by
  by_cases e : a = b
  · subst e; simp
  · have h : ¬ (Sum.inr a : Key) = Sum.inr b := fun q => e (Sum.inr.inj q)
    rw [decide_eq_false h, decide_eq_false e]
theorem key_lr (a : Int) (b : Str) : decide ((Sum.inl a : Key) = Sum.inr b) = false := decide_eq_false (fun q => nomatch q)
theorem key_rl (a : Str) (b : Int) : decide ((Sum.inr a : Key) = Sum.inl b) = false := decide_eq_false (fun q => nomatch q)

noncomputable def mixKind (prog : Program) (w : World) : PySem.KeyKind prog w Key where
  is := keyIs
  hash := keyH w
  inj := fun v a b ha hb => by
    rcases keyIs_shape ha with ⟨i, t, rfl, rfl⟩ | ⟨x, t, rfl, rfl⟩
    · rcases keyIs_shape hb with ⟨j, u, rfl, e⟩ | ⟨y, u, rfl, e⟩
      · injection e with e1 _; rw [e1]
      · exact nomatch e
    · rcases keyIs_shape hb with ⟨j, u, rfl, e⟩ | ⟨y, u, rfl, e⟩
      · exact nomatch e
      · injection e with e1 _; rw [e1]
  byValue := fun k v h => by
    rcases keyIs_shape h with ⟨i, t, rfl, rfl⟩ | ⟨x, t, rfl, rfl⟩ <;> rfl
  pyHash := fun hv h => by
    rcases keyIs_shape hv with ⟨i, t, rfl, rfl⟩ | ⟨x, t, rfl, rfl⟩
    · exact wpAny_pyHash_int h
    · exact wpAny_pyHash_str h
  eqBool := fun hu hv h => by
    rcases keyIs_shape hu with ⟨i, t, rfl, rfl⟩ | ⟨x, t, rfl, rfl⟩
    · rcases keyIs_shape hv with ⟨j, u, rfl, rfl⟩ | ⟨y, u, rfl, rfl⟩
      · rw [key_ll] at h; exact wpAny_eqBool_int h
      · rw [key_lr] at h; exact SeqAt.EqAt.int_str i t y u _ _ _ _ h
    · rcases keyIs_shape hv with ⟨j, u, rfl, rfl⟩ | ⟨y, u, rfl, rfl⟩
      · rw [key_rl] at h; exact SeqAt.EqAt.str_int x t j u _ _ _ _ h
      · rw [key_rr] at h; exact wpAny_eqBool_str h
  «strs» := fun k x t v h => by
    rcases keyIs_shape h with ⟨i, u, rfl, e⟩ | ⟨y, u, rfl, e⟩
    · exact nomatch e
    · injection e with e1 _
      subst e1
      cases v <;> rfl

end L2

namespace L2
open PySem PySem.Spec PyProof.Rows


inductive V where
  | non | bl (b : Bool) | int (i : Int) | str (x : Str) | byt (b : Array UInt8) | flt (b : UInt64) | ref (a : Addr) | ty (n : String)
  deriving DecidableEq

noncomputable def RelV : V → Value → Prop
  | .non, u => u = Value.none
  | .bl b, u => u = Value.bool b
  | .int i, u => ∃ t, u = Value.int i t
  | .str x, u => ∃ t, u = Value.str x t
  | .byt b, u => ∃ t, u = Value.bytes b t
  | .flt b, u => ∃ t, u = Value.float b t
  | .ref a, u => u = Value.ref a
  | .ty n, u => u = Value.type n

noncomputable abbrev Vals : List V → List Value → Prop := Paired RelV
theorem Vals.length {xs : List V} {us : List Value} (r : Vals xs us) : xs.length = us.length := Paired.length r
theorem Vals.get : ∀ {xs : List V} {us : List Value} {i : Nat} {x : V}, Vals xs us → xs[i]? = some x → ∃ u, us[i]? = some u ∧ RelV x u
  | _, _, _, _, .nil, e => by simp at e
  | _, _, 0, _, .cons r _, e => by simp at e; subst e; exact ⟨_, rfl, r⟩
  | _, _, i + 1, x, .cons _ t, e => by
    obtain ⟨u, h1, h2⟩ := Vals.get (i := i) (x := x) t (by simpa using e)
    exact ⟨u, by simpa using h1, h2⟩
theorem Vals.set {x : V} {u : Value} (r : RelV x u) : ∀ {xs : List V} {us : List Value} (i : Nat), Vals xs us → Vals (xs.set i x) (us.set i u)
  | _, _, _, .nil => .nil
  | _, _, 0, .cons _ t => .cons r t
  | _, _, i + 1, .cons q t => .cons q (Vals.set r i t)
theorem Vals.append : ∀ {xs ys : List V} {us ws : List Value}, Vals xs us → Vals ys ws → Vals (xs ++ ys) (us ++ ws)
  | _, _, _, _, .nil, s => s
  | _, _, _, _, .cons r t, s => .cons r (Vals.append t s)
theorem Vals.take : ∀ {xs : List V} {us : List Value} (n : Nat), Vals xs us → Vals (xs.take n) (us.take n)
  | _, _, 0, _ => .nil
  | _, _, _ + 1, .nil => .nil
  | _, _, n + 1, .cons r t => .cons r (Vals.take n t)
theorem Vals.drop : ∀ {xs : List V} {us : List Value} (n : Nat), Vals xs us → Vals (xs.drop n) (us.drop n)
  | _, _, 0, r => r
  | _, _, _ + 1, .nil => .nil
  | _, _, n + 1, .cons _ t => Vals.drop n t
noncomputable def RelO : Option V → Option Value → Prop
  | some v, some u => RelV v u
  | none, none => True
  | _, _ => False
noncomputable def KV {κ : Type} : List (κ × V) → List (κ × Value) → Prop := Paired fun (p : κ × V) (q : κ × Value) => p.1 = q.1 ∧ RelV p.2 q.2


noncomputable def kV : Key → V
  | .inl i => .int i
  | .inr x => .str x


inductive HO where

  | lst (xs : List V)

  | tup (xs : List V)

  | dK (kvs : List (Key × V)) | dT (kvs : List (List Key × V))

  | set (S : Int → Bool) (n : Nat)

  | ins (C dx : Addr) (fs : List (Str × V))

  | own (x : Addr)

  | xd (fs : List (Str × V))

  | met (f x : Addr)

  | rng (lo hi : Int)

  | frz (o : Obj) (u : HO)

  | tbl (ps : Array Value)

  | ext (φ : Heap → Prop)

noncomputable abbrev Hp := Addr → Option HO
noncomputable def upd (H : Hp) (a : Addr) (o : HO) : Hp := fun b => if b = a then some o else H b
theorem upd_same {H : Hp} {a : Addr} {o : HO} : upd H a o a = some o := by unfold upd; rw [if_pos rfl]
theorem upd_ne {H : Hp} {a b : Addr} {o : HO} (h : b ≠ a) : upd H a o b = H b := by unfold upd; rw [if_neg h]
theorem upd_upd {H : Hp} {a : Addr} {o u : HO} : upd (upd H a o) a u = upd H a u := by
  funext b; unfold upd; split <;> rfl

theorem ne_of_none {H : Hp} {a b : Addr} {o : HO} (h : H a = some o) (h' : H b = none) : a ≠ b := by
  intro e; subst e; rw [h] at h'; cases h'

section
variable (P : Program) (w : World)
noncomputable def ObjOk (H : Hp) (h : Heap) (a : Addr) : HO → Prop
  | .lst xs => xs.length ≤ sizeLine ∧ ∃ (its : List Value) (n : Nat), Vals xs its ∧ h.get? a = some { cls := .type "list", data := .seq its.toArray n }
  | .tup xs => xs.length ≤ sizeLine ∧ ∃ its : List Value, Vals xs its ∧ IsTup h a its.toArray
  | .dK kvs => kvs.length ≤ sizeLine ∧ (a == sysModules) = false ∧ ∃ vs, KV kvs vs ∧ h.DictOf (mixKind P w) a vs
  | .dT kvs => kvs.length ≤ sizeLine ∧ (a == sysModules) = false ∧ ∃ xs : List (List Key × Addr × Value),
      Paired (fun (p : List Key × V) (q : List Key × Addr × Value) => p.1 = q.1 ∧ H q.2.1 = some (.tup (p.1.map kV)) ∧ RelV p.2 q.2.2) kvs xs ∧
      ∃ o es ep, h.get? a = some o ∧ o.ExactDict ∧ o.data = .dict es ep ∧ es.toList = xs.map (entryOfKey (tupleKind (mixKind P w))) ∧ (xs.map (·.1)).Nodup
  | .set S n => h.SetOf (intKind P w) a S n
  | .ins C dx fs => H dx = some (.own a) ∧ fs.length ≤ 1000 ∧ dx ≠ a ∧ h.get? a = some (PySem.W.instObj C dx) ∧
      ∃ mA, h.Ns1 dx mA ∧ (∀ f, RelO (fs.lookup f) (mA f)) ∧ PySem.Within mA (fs.map (·.1))
  | .own _ => ∃ o, h.get? a = some o
  | .xd fs => ∃ mA, h.Ns1 a mA ∧ ∀ f, RelO (fs.lookup f) (mA f)
  | .rng lo hi => ∃ t u v, h.get? a = some { cls := .type "range", data := .fields #[.int lo t, .int hi u, .int 1 v] }
  | .frz o u => h.get? a = some o ∧ ObjOk H h a u
  | .tbl ps => h.get? a = some { cls := .none, data := .fields ps }
  | .met f x => h.get? a = some (PySem.W.methodObj (.ref f) (.ref x))
  | .ext φ => φ h ∧ (∃ o, h.get? a = some o) ∧ ∀ h1 h2 : Heap, φ h1 → (∀ o, h1.get? a = some o → h2.get? a = some o) → φ h2

noncomputable def HOk (H : Hp) (h : Heap) : Prop := ∀ a o, H a = some o → ObjOk P w H h a o
end

section
variable {P : Program} {w : World} {H H' : Hp} {h h' : Heap} {a : Addr} {o : HO}
theorem ObjOk.lt (x : ObjOk P w H h a o) : a < h.objs.size := by
  cases o with
  | lst xs => obtain ⟨_, _, _, _, e⟩ := x; exact Heap.lt_size e
  | tup xs => obtain ⟨_, _, _, p⟩ := x; exact p.lt
  | dK kvs => obtain ⟨_, _, _, _, o, _, _, e, _⟩ := x; exact Heap.lt_size e
  | dT kvs => obtain ⟨_, _, _, _, o, _, _, e, _⟩ := x; exact Heap.lt_size e
  | set S n => obtain ⟨o, _, _, _, e, _⟩ := x; exact Heap.lt_size e
  | ins C dx fs => obtain ⟨_, _, _, e, _⟩ := x; exact Heap.lt_size e
  | own y => obtain ⟨_, e⟩ := x; exact Heap.lt_size e
  | xd fs => obtain ⟨_, ⟨_, _, _, e, _⟩, _⟩ := x; exact Heap.lt_size e
  | rng lo hi => obtain ⟨_, _, _, e⟩ := x; exact Heap.lt_size e
  | frz ob u => obtain ⟨e, _⟩ := x; exact Heap.lt_size e
  | tbl ps => exact Heap.lt_size (show h.get? a = some _ from x)
  | met f y => exact Heap.lt_size (show h.get? a = some _ from x)
  | ext φ => obtain ⟨_, ⟨_, e⟩, _⟩ := x; exact Heap.lt_size e
theorem Paired.mapP {α β : Type} {F G : α → β → Prop} : ∀ {l₁ : List α} {l₂ : List β}, Paired F l₁ l₂ → (∀ a b, F a b → G a b) → Paired G l₁ l₂
  | _, _, .nil, _ => .nil
  | _, _, .cons r t, f => .cons (f _ _ r) (Paired.mapP t f)
theorem ObjOk.stay (x : ObjOk P w H h a o) (k : ∀ b u, (b = a ∨ H b = some (.own a)) → h.get? b = some u → h'.get? b = some u)
    (ho : ∀ b, H b = some (.own a) → H' b = some (.own a)) (ht : ∀ b xs, H b = some (.tup xs) → H' b = some (.tup xs)) : ObjOk P w H' h' a o := by
  induction o with
  | lst xs => obtain ⟨z, its, n, r, e⟩ := x; exact ⟨z, its, n, r, k _ _ (.inl rfl) e⟩
  | tup xs => obtain ⟨z, its, r, ob, e, c⟩ := x; exact ⟨z, its, r, ob, k _ _ (.inl rfl) e, c⟩
  | dK kvs => obtain ⟨z, y, vs, r, ob, es, ep, e, c⟩ := x; exact ⟨z, y, vs, r, ob, es, ep, k _ _ (.inl rfl) e, c⟩
  | dT kvs =>
    obtain ⟨z, y, xs, r, ob, es, ep, e, c⟩ := x
    exact ⟨z, y, xs, Paired.mapP r fun p q z => ⟨z.1, ht _ _ z.2.1, z.2.2⟩, ob, es, ep, k _ _ (.inl rfl) e, c⟩
  | set S n => obtain ⟨ob, es, ep, t, e, c⟩ := x; exact ⟨ob, es, ep, t, k _ _ (.inl rfl) e, c⟩
  | ins C dx fs =>
    obtain ⟨d, z, ne, e, mA, ⟨od, es, ep, e2, c⟩, r⟩ := x
    exact ⟨ho _ d, z, ne, k _ _ (.inl rfl) e, mA, ⟨od, es, ep, k _ _ (.inr d) e2, c⟩, r⟩
  | own y => obtain ⟨ob, e⟩ := x; exact ⟨ob, k _ _ (.inl rfl) e⟩
  | xd fs => obtain ⟨mA, ⟨od, es, ep, e, c⟩, r⟩ := x; exact ⟨mA, ⟨od, es, ep, k _ _ (.inl rfl) e, c⟩, r⟩
  | rng lo hi => obtain ⟨t, u, v, e⟩ := x; exact ⟨t, u, v, k _ _ (.inl rfl) e⟩
  | frz ob u ih => obtain ⟨e, q⟩ := x; exact ⟨k _ _ (.inl rfl) e, ih q⟩
  | tbl ps =>
    have e : h.get? a = some { cls := .none, data := .fields ps } := x
    show h'.get? a = some { cls := .none, data := .fields ps }
    exact k a _ (.inl rfl) e
  | met f y =>
    have e : h.get? a = some (PySem.W.methodObj (.ref f) (.ref y)) := x
    show h'.get? a = some (PySem.W.methodObj (.ref f) (.ref y))
    exact k a _ (.inl rfl) e
  | ext φ => obtain ⟨p, ⟨o, e⟩, st⟩ := x; exact ⟨st _ _ p fun o q => k _ _ (.inl rfl) q, ⟨o, k _ _ (.inl rfl) e⟩, st⟩
theorem HOk.lt (x : HOk P w H h) (e : H a = some o) : a < h.objs.size := (x a o e).lt
theorem HOk.fresh (x : HOk P w H h) (e : h.objs.size ≤ a) : H a = none := by
  cases q : H a with
  | none => rfl
  | some u => exact absurd (Nat.lt_of_lt_of_le (x.lt q) e) (Nat.lt_irrefl _)

theorem HOk.kept (x : HOk P w H h) (k : ∀ b u, h.get? b = some u → h'.get? b = some u) : HOk P w H h' := fun a o e =>
  (x a o e).stay (fun b u _ q => k b u q) (fun _ q => q) fun _ _ q => q

theorem HOk.laid (x : HOk P w H h) (k : ∀ b u, h.get? b = some u → h'.get? b = some u) (hp : h.objs.size ≤ a) (new : ObjOk P w (upd H a o) h' a o) : HOk P w (upd H a o) h' := fun b u e => by
  have hn := x.fresh hp
  by_cases hb : b = a
  · subst hb; rw [upd_same] at e; cases e; exact new
  · rw [upd_ne hb] at e
    exact (x b u e).stay (fun c v _ q => k c v q) (fun c q => by rw [upd_ne (ne_of_none q hn)]; exact q) fun c xs q => by rw [upd_ne (ne_of_none q hn)]; exact q
end


noncomputable def Rd (H : Hp) (a : Addr) (u : HO) : Prop := H a = some u ∨ ∃ o, H a = some (.frz o u)
theorem Rd.ok {P : Program} {w : World} {H : Hp} {h : Heap} {a : Addr} {u : HO} (r : Rd H a u) (x : HOk P w H h) : ObjOk P w H h a u := by
  rcases r with r | ⟨o, r⟩
  · exact x a u r
  · obtain ⟨_, q⟩ := x a _ r
    exact q

noncomputable def Mut : Option HO → Prop
  | some (.lst _) => True
  | some (.dK _) => True
  | some (.dT _) => True
  | some (.set _ _) => True
  | some (.ins _ _ _) => True
  | some (.ext _) => True
  | _ => False
section
variable {P : Program} {w : World} {H : Hp} {h h' : Heap} {x e : Addr} {o' : HO}

theorem HOk.write (ok : HOk P w H h) (mu : Mut (H x)) (he : e = x ∨ H e = some (.own x)) (k : ∀ b u, b ≠ e → h.get? b = some u → h'.get? b = some u) (heo : ∃ u, h'.get? e = some u)
    (new : ObjOk P w (upd H x o') h' x o') : HOk P w (upd H x o') h' := fun b u q => by
  have nown : ∀ c y, H c = some (.own y) → c ≠ x := fun c y r z => by subst z; rw [r] at mu; exact mu
  have ntup : ∀ c xs, H c = some (.tup xs) → c ≠ x := fun c xs r z => by subst z; rw [r] at mu; exact mu
  by_cases hb : b = x
  · subst hb; rw [upd_same] at q; cases q; exact new
  · rw [upd_ne hb] at q
    by_cases hbe : b = e
    · have q' : H b = some (.own x) := by
        rcases he with z | z
        · exact absurd (hbe.trans z) hb
        · rw [hbe]; exact z
      rw [q] at q'; cases q'
      obtain ⟨v, hv⟩ := heo
      exact ⟨v, by rw [hbe]; exact hv⟩
    · refine (ok b u q).stay (fun c v hc r => k c v ?_ r) (fun c r => by rw [upd_ne (nown c b r)]; exact r) fun c xs r => by rw [upd_ne (ntup c xs r)]; exact r
      rcases hc with rfl | hc
      · exact hbe
      · rintro rfl
        rcases he with z | z
        · exact nown c b hc z
        · rw [hc] at z; cases z; exact hb rfl
end


structure Un (fs ex : List Addr) (H H' : Hp) (h h' : Heap) : Prop where
  keep : ∀ b o, h.get? b = some o → H b = none → b ∉ fs → b ∉ ex → h'.get? b = some o
  slot : ∀ b o, h.get? b = some o → H b = none → b ∈ fs → b ∉ ex → ∃ sl, h'.get? b = some { o with slots := sl }
  free : ∀ b o, h.get? b = some o → H b = none → b ∉ ex → H' b = none
  there : ∀ b o, h.get? b = some o → b ∉ ex → ∃ o', h'.get? b = some o'
  tups : ∀ b xs, H b = some (.tup xs) → H' b = some (.tup xs)
  frzs : ∀ b o u, H b = some (.frz o u) → H' b = some (.frz o u)
  tbls : ∀ b ps, H b = some (.tbl ps) → ∃ more, H' b = some (.tbl (ps ++ more))
section
variable {fs fs' ex ex' : List Addr} {H H1 H2 : Hp} {h h1 h2 h' : Heap} {a x e : Addr} {o : HO}
theorem Un.any (u : Un fs ex H H1 h h1) {b : Addr} {ob : Obj} (q : h.get? b = some ob) (n : H b = none) (hx : b ∉ ex) : ∃ sl, h1.get? b = some { ob with slots := sl } := by
  by_cases hb : b ∈ fs
  · exact u.slot b ob q n hb hx
  · exact ⟨ob.slots, u.keep b ob q n hb hx⟩
theorem Un.kept (k : ∀ b u, h.get? b = some u → h'.get? b = some u) : Un fs ex H H h h' :=
  ⟨fun b ob q _ _ _ => k b ob q, fun b ob q _ _ _ => ⟨ob.slots, k b ob q⟩, fun _ _ _ n _ => n, fun b ob q _ => ⟨ob, k b ob q⟩, fun _ _ q => q, fun _ _ _ q => q, fun _ ps q => ⟨#[], by rw [q]; simp⟩⟩
theorem Un.refl : Un fs ex H H h h := Un.kept fun _ _ q => q
theorem Un.laid (k : ∀ b u, h.get? b = some u → h'.get? b = some u) (hp : h.objs.size ≤ a) (hn : H a = none) : Un fs ex H (upd H a o) h h' where
  keep := fun b u q _ _ _ => k b u q
  slot := fun b u q _ _ _ => ⟨u.slots, k b u q⟩
  free := fun b u q n _ => by rw [upd_ne (Nat.ne_of_lt (Nat.lt_of_lt_of_le (Heap.lt_size q) hp))]; exact n
  there := fun b u q _ => ⟨u, k b u q⟩
  tups := fun b xs q => by rw [upd_ne (ne_of_none q hn)]; exact q
  frzs := fun b u xs q => by rw [upd_ne (ne_of_none q hn)]; exact q
  tbls := fun b ps q => ⟨#[], by rw [upd_ne (ne_of_none q hn), q]; simp⟩
theorem Un.write (mu : Mut (H x)) (he : e = x ∨ H e = some (.own x)) (k : ∀ b u, b ≠ e → h.get? b = some u → h'.get? b = some u) (heo : ∃ u, h'.get? e = some u) : Un fs ex H (upd H x o) h h' := by
  have hx : ∀ b, H b = none → b ≠ x := fun b n z => by subst z; rw [n] at mu; exact mu
  have hb : ∀ b, H b = none → b ≠ e := fun b n z => by
    subst z
    rcases he with r | r
    · exact hx b n r
    · rw [n] at r; cases r
  have hm : ∀ b u, H b = some u → ¬ Mut (some u) → b ≠ x := fun b u q nm z => by subst z; rw [q] at mu; exact nm mu
  refine ⟨fun b u q n _ _ => k b u (hb b n) q, fun b u q n _ _ => ⟨u.slots, k b u (hb b n) q⟩, fun b u q n _ => by rw [upd_ne (hx b n)]; exact n, fun b u q _ => ?_,
    fun b xs q => by rw [upd_ne (hm b _ q fun z => z)]; exact q, fun b u xs q => by rw [upd_ne (hm b _ q fun z => z)]; exact q, fun b ps q => ⟨#[], by rw [upd_ne (hm b _ q fun z => z), q]; simp⟩⟩
  by_cases hbe : b = e
  · subst hbe; exact heo
  · exact ⟨u, k b u hbe q⟩
end


noncomputable def trk (h : Heap) (H : Hp) : List Addr := (List.range h.objs.size).filter fun a => (H a).isSome
noncomputable def hidT (h : Heap) (H : Hp) : Heap := PySem.W.hideAll h (trk h H)
theorem hidT_size (h : Heap) (H : Hp) : (hidT h H).objs.size = h.objs.size := PySem.W.hideAll_size _ _
theorem hidT_get {h : Heap} {H : Hp} {b : Addr} {o : Obj} (e : h.get? b = some o) (n : H b = none) : (hidT h H).get? b = some o :=
  PySem.W.hideAll_get _ e fun hm => by
    have q : (H b).isSome = true := (List.mem_filter.mp hm).2
    rw [n] at q; simp at q
theorem of_hidT {h : Heap} {H : Hp} {b : Addr} {o : Obj} (e : (hidT h H).get? b = some o) : h.get? b = some o ∧ H b = none := by
  have e' : h.get? b = some o := PySem.W.of_hideAll (trk h H) e
  refine ⟨e', ?_⟩
  cases q : H b with
  | none => rfl
  | some x =>
    have hm : b ∈ trk h H := List.mem_filter.mpr ⟨List.mem_range.mpr (Heap.lt_size e'), by simp [q]⟩
    have z : (hidT h H).get? b = none := PySem.W.hideAll_none (trk h H) hm
    rw [z] at e; cases e


noncomputable def allNews (g h : Heap) (L : Addr) : List (Addr × Obj) := (List.range h.objs.size).filterMap fun a => if a = L ∨ (g.get? a).isSome = true then none else (h.get? a).map fun o => (a, o)
noncomputable def rest (g h : Heap) (L d : Addr) : List (Addr × Obj) := (allNews g h L).filter fun p => decide (p.1 ≠ d)
end L2

namespace L2
open PySem PySem.Spec PyProof.Rows


structure Mod (K : PySem.W.Frag) (mg : Str → Option Value) (base : Heap) : Prop where
  kin : K.In base
  glob : base.Ns mainGlobals mg
  blt : ∃ mb, base.Ns builtinsNs mb ∧ ∀ x : Str, x ≠ "__name__" → mb x = bootBuiltins x
  nolimit : base.NoLimit


structure Cx where
  prog : Program
  w : World
  K : PySem.W.Frag
  mg : Str → Option Value
  base : Heap
  A : Around
  N : List Str
  s₀ : Shared
  H₀ : Hp
  env : Env
  outer : List Env
  stack : List Env
  ex : List Addr
  fn : Str → Bool
  calm : Bool
  pn : List (Addr × Obj)
  xe : Value → Shared → Prop

noncomputable def frs (l : List Env) : List Addr := l.filterMap (·.frame)
noncomputable abbrev Cx.fs (X : Cx) : List Addr := frs X.outer

noncomputable def Vis (sc : Scope) (x : Str) : Prop := sc.names.lookup x = some .local ∨ sc.names.lookup x = some .cell ∨ sc.names.lookup x = some .free
noncomputable def Loc (sc : Scope) (x : Str) : Prop := sc.names.lookup x = some .local ∨ sc.names.lookup x = some .cell
noncomputable def Look (env : Env) (h : Heap) (m : Str → Option Value) (x : Str) (u : Value) : Prop :=
  (env.kindOf x = some .local ∧ m x = some u) ∨ ((env.kindOf x = some .cell ∨ env.kindOf x = some .free) ∧ ∃ c, env.cells.lookup x = some c ∧ h.IsCell c (some u))

structure Cx.Ok (X : Cx) : Prop where
  mod : Mod X.K X.mg X.base
  kind : X.env.scope.kind = .function
  glob : X.env.globals = mainGlobals
  blt : X.env.builtins = builtinsNs
  above : X.s₀.heap.objs.size ≤ X.env.locals
  inj : ∀ x y c, X.env.cells.lookup x = some c → X.env.cells.lookup y = some c → x = y
  has : ∀ x, (X.env.kindOf x = some .cell ∨ X.env.kindOf x = some .free) → ∃ c, X.env.cells.lookup x = some c
  cab : ∀ x c, X.fn x = true → X.env.cells.lookup x = some c → X.s₀.heap.objs.size ≤ c
  hd : X.calm = true → X.A.handled = none
  frames : X.A.frames = some X.stack
  stk : X.stack = X.outer ∨ (X.stack = X.env :: X.outer ∧ X.env.frame = some X.env.locals)
  exf : ∀ b ∈ X.ex, b ≠ X.env.locals ∧ ∀ x c, X.env.cells.lookup x = some c → c ≠ b
  bs : ∀ b o, X.base.get? b = some o → X.s₀.heap.get? b = some o ∧ X.H₀ b = none
  bsz : X.base.objs.size ≤ X.s₀.heap.objs.size
  noex : ∀ b o, X.base.get? b = some o → b ∉ X.ex
  exfs : ∀ b ∈ X.ex, b ∉ X.fs
  funs : X.s₀.heap.FunFrames X.base X.outer
  frf : ∀ b ∈ X.fs, X.H₀ b = none

structure Inv (X : Cx) (pins : List (Addr × Obj)) (σ : List (Option V)) (H : Hp) (s : Shared) : Prop where
  ok : X.Ok
  os : s.os = X.s₀.os
  bare : AllBare s.gens
  base : Un X.fs X.ex X.H₀ H X.s₀.heap s.heap
  loc : ∃ m, s.heap.Ns X.env.locals m ∧ ∀ (i : Nat) (x : Str) (v : V), X.N[i]? = some x → σ[i]? = some (some v) → Vis X.env.scope x → ∃ u, RelV v u ∧ Look X.env s.heap m x u
  cell : ∀ x c, X.env.cells.lookup x = some c → ∃ v, s.heap.IsCell c v
  free : H X.env.locals = none
  freeC : ∀ x c, X.env.cells.lookup x = some c → H c = none
  pin : ∀ p ∈ X.pn ++ pins, s.heap.get? p.1 = some p.2 ∧ H p.1 = none ∧ p.1 ≠ X.env.locals ∧ p.1 ∉ X.fs ∧ ∀ v, p.2.data ≠ .cell v
  hok : HOk X.prog X.w H s.heap
  len : σ.length = X.N.length

section
variable {X : Cx} {pins : List (Addr × Obj)} {σ : List (Option V)} {H H' : Hp} {s : Shared} {h' : Heap}

theorem Cx.Ok.nofr (ok : X.Ok) {b : Addr} {o : Obj} (e : X.base.get? b = some o) : b ∉ X.fs := fun hb => by
  have := (ok.funs.mem hb).1
  rw [e] at this; cases this
theorem Inv.bs (I : Inv X pins σ H s) : ∀ b o, X.base.get? b = some o → s.heap.get? b = some o ∧ H b = none := fun b o e =>
  ⟨I.base.keep b o (I.ok.bs b o e).1 (I.ok.bs b o e).2 (I.ok.nofr e) (I.ok.noex b o e), I.base.free b o (I.ok.bs b o e).1 (I.ok.bs b o e).2 (I.ok.noex b o e)⟩
theorem Inv.bk (I : Inv X pins σ H s) : ∀ b o, X.base.get? b = some o → s.heap.get? b = some o := fun b o e => (I.bs b o e).1
theorem Inv.mod (I : Inv X pins σ H s) : Mod X.K X.mg X.base := I.ok.mod
theorem Inv.kIn (I : Inv X pins σ H s) : X.K.In s.heap := I.ok.mod.kin.keeps I.bk
theorem Inv.lt (I : Inv X pins σ H s) : X.env.locals < s.heap.objs.size := let ⟨_, hn, _⟩ := I.loc; hn.lt
theorem Inv.sz (I : Inv X pins σ H s) : X.s₀.heap.objs.size ≤ s.heap.objs.size := Nat.le_trans I.ok.above (Nat.le_of_lt I.lt)
theorem Inv.nofs (I : Inv X pins σ H s) {a : Addr} (h : s.heap.objs.size ≤ a) : a ∉ X.fs := fun hb => by
  obtain ⟨_, o, ho, _⟩ := I.ok.funs.mem hb
  exact absurd (Nat.lt_of_lt_of_le (Heap.lt_size ho) (Nat.le_trans I.sz h)) (Nat.lt_irrefl _)
theorem Inv.cne (I : Inv X pins σ H s) : ∀ x c, X.env.cells.lookup x = some c → c ≠ X.env.locals := fun x c e z => by
  obtain ⟨v, o, ho, hd⟩ := I.cell x c e
  obtain ⟨m, ⟨o', es, ep, ho', hd', _⟩, _⟩ := I.loc
  rw [z, ho'] at ho; cases ho; rw [hd'] at hd; cases hd
theorem Inv.funs (I : Inv X pins σ H s) : s.heap.FunFrames X.base X.outer := by
  have all : ∀ (l : List Env), (∀ b ∈ frs l, b ∈ X.fs) → X.s₀.heap.FunFrames X.base l → s.heap.FunFrames X.base l := by
    intro l
    induction l with
    | nil => intro _ _; trivial
    | cons env r ih =>
      intro hs hl
      obtain ⟨hk, ⟨L, o, hf, hn, ho, hd⟩, hr⟩ := hl
      have hL : L ∈ X.fs := hs L (by unfold frs; rw [List.filterMap_cons, hf]; exact List.mem_cons_self)
      obtain ⟨sl, e⟩ := I.base.slot L o ho (I.ok.frf L hL) hL fun z => I.ok.exfs L z hL
      exact ⟨hk, ⟨L, _, hf, hn, e, hd⟩, ih (fun b hb => hs b (by unfold frs; rw [List.filterMap_cons, hf]; exact List.mem_cons_of_mem _ hb)) hr⟩
  exact all X.outer (fun _ hb => hb) I.ok.funs


theorem Inv.stack (I : Inv X pins σ H s) : s.heap.FunFrames X.base X.stack := by
  rcases I.ok.stk with e | ⟨e, hf⟩
  · rw [e]; exact I.funs
  · rw [e]
    obtain ⟨m, hn, _⟩ := I.loc
    refine .cons (by rw [I.ok.kind]; decide) hf hn ?_ I.funs
    exact Heap.get?_none_of_le (Nat.le_trans I.ok.bsz I.ok.above)
theorem Inv.stkSub (I : Inv X pins σ H s) : ∀ b ∈ frs X.stack, b ∈ X.env.locals :: X.fs := fun b hb => by
  rcases I.ok.stk with e | ⟨e, hf⟩
  · rw [e] at hb; exact List.mem_cons_of_mem _ hb
  · rw [e] at hb
    unfold frs at hb
    rw [List.filterMap_cons, hf] at hb
    exact hb
theorem Inv.stkFree (I : Inv X pins σ H s) : ∀ b ∈ frs X.stack, H b = none := fun b hb => by
  rcases List.mem_cons.mp (I.stkSub b hb) with e | hb
  · rw [e]; exact I.free
  · obtain ⟨_, o, ho, _⟩ := I.ok.funs.mem hb
    exact I.base.free b o ho (I.ok.frf b hb) fun z => I.ok.exfs b z hb


theorem Inv.step {g' : Array GenState} {t' : Nat} {d' : Drawn} {ch : List Addr} (I : Inv X pins σ H s)
    (hch : ∀ b ∈ ch, (b ∈ X.ex ∨ X.s₀.heap.get? b = none) ∧ b ≠ X.env.locals ∧ (∀ x c, X.env.cells.lookup x = some c → c ≠ b) ∧ ∀ p ∈ X.pn ++ pins, p.1 ≠ b)
    (keep : ∀ b o, b ≠ X.env.locals → b ∉ X.fs → b ∉ ch → s.heap.get? b = some o → H b = none → h'.get? b = some o)
    (slot : ∀ b o, b ≠ X.env.locals → b ∈ X.fs → b ∉ ch → s.heap.get? b = some o → H b = none → ∃ sl, h'.get? b = some { o with slots := sl }) (free : ∀ b o, b ∉ ch → s.heap.get? b = some o → H b = none → H' b = none)
    (there : ∀ b o, b ∉ ch → s.heap.get? b = some o → ∃ o', h'.get? b = some o')
    (tups : ∀ b xs, H b = some (.tup xs) → H' b = some (.tup xs)) (frzs : ∀ b o u, H b = some (.frz o u) → H' b = some (.frz o u)) (tbls : ∀ b ps, H b = some (.tbl ps) → ∃ more, H' b = some (.tbl (ps ++ more)))
    (ns : ∀ m, s.heap.Ns X.env.locals m → h'.Ns X.env.locals m) (hok : HOk X.prog X.w H' h') (hg : AllBare g') :
    Inv X pins σ H' { s with heap := h', gens := g', drawn := d', toks := t' } := by
  have neL : ∀ b o, X.s₀.heap.get? b = some o → b ≠ X.env.locals := fun b o e => Nat.ne_of_lt (Nat.lt_of_lt_of_le (Heap.lt_size e) I.ok.above)
  have neC : ∀ b o, X.s₀.heap.get? b = some o → b ∉ X.ex → b ∉ ch := fun b o e hx hb => by
    rcases (hch b hb).1 with z | z
    · exact hx z
    · rw [z] at e; cases e
  have cellK : ∀ x c, X.env.cells.lookup x = some c → ∀ v, s.heap.IsCell c v → h'.IsCell c v := fun x c e v ⟨o, ho, hd⟩ => by
    have nch : c ∉ ch := fun z => (hch c z).2.2.1 x c e rfl
    by_cases hc : c ∈ X.fs
    · obtain ⟨sl, q⟩ := slot c o (I.cne x c e) hc nch ho (I.freeC x c e)
      exact ⟨_, q, hd⟩
    · exact ⟨o, keep c o (I.cne x c e) hc nch ho (I.freeC x c e), hd⟩
  refine ⟨I.ok, I.os, hg, ⟨fun b o e n hb hx => ?_, fun b o e n hb hx => ?_, fun b o e n hx => ?_, fun b o e hx => ?_, fun b xs e => tups b xs (I.base.tups b xs e), fun b o xs e => frzs b o xs (I.base.frzs b o xs e), fun b ps e => ?_⟩, ?_, fun x c e => ?_, ?_, fun x c e => ?_, fun p hp => ?_, hok, I.len⟩
  · exact keep b o (neL b o e) hb (neC b o e hx) (I.base.keep b o e n hb hx) (I.base.free b o e n hx)
  · obtain ⟨sl, e1⟩ := I.base.slot b o e n hb hx
    obtain ⟨sl', e2⟩ := slot b _ (neL b o e) hb (neC b o e hx) e1 (I.base.free b o e n hx)
    exact ⟨sl', e2⟩
  · obtain ⟨o', e1⟩ := I.base.there b o e hx
    exact free b o' (neC b o e hx) e1 (I.base.free b o e n hx)
  · obtain ⟨o', e1⟩ := I.base.there b o e hx
    exact there b o' (neC b o e hx) e1
  · obtain ⟨m1, e1⟩ := I.base.tbls b ps e
    obtain ⟨m2, e2⟩ := tbls b _ e1
    exact ⟨m1 ++ m2, by rw [e2, Array.append_assoc]⟩
  · obtain ⟨m, hn, hl⟩ := I.loc
    refine ⟨m, ns m hn, fun i x v e1 e2 e3 => ?_⟩
    obtain ⟨u, r, l⟩ := hl i x v e1 e2 e3
    refine ⟨u, r, ?_⟩
    rcases l with l | ⟨k, c, e, z⟩
    · exact .inl l
    · exact .inr ⟨k, c, e, cellK x c e _ z⟩
  · obtain ⟨v, z⟩ := I.cell x c e
    exact ⟨v, cellK x c e v z⟩
  · obtain ⟨m, ⟨o, _, _, ho, _⟩, _⟩ := I.loc
    exact free _ o (fun z => (hch _ z).2.1 rfl) ho I.free
  · obtain ⟨v, o, ho, hd⟩ := I.cell x c e
    exact free c o (fun z => (hch c z).2.2.1 x c e rfl) ho (I.freeC x c e)
  · obtain ⟨e, n, ne, nf, d⟩ := I.pin p hp
    have nch : p.1 ∉ ch := fun z => (hch p.1 z).2.2.2 p hp rfl
    exact ⟨keep p.1 p.2 ne nf nch e n, free p.1 p.2 nch e n, ne, nf, d⟩

theorem Inv.un {t' : Nat} (I : Inv X pins σ H s) (u : Un X.fs [] H H' s.heap h') (hok : HOk X.prog X.w H' h') : Inv X pins σ H' { s with heap := h', toks := t' } := by
  obtain ⟨m, ⟨o, es, ep, ho, r⟩, _⟩ := id I.loc
  obtain ⟨sl, hL⟩ := u.any ho I.free (by simp)
  exact I.step (g' := s.gens) (d' := s.drawn) (ch := []) (fun _ z => nomatch z) (fun b o _ hb _ e n => u.keep b o e n hb (by simp)) (fun b o _ hb _ e n => u.slot b o e n hb (by simp)) (fun b o _ e n => u.free b o e n (by simp)) (fun b o _ e => u.there b o e (by simp)) u.tups u.frzs u.tbls (fun m' hm => by
    obtain ⟨o', es', ep', ho', r'⟩ := hm
    rw [ho] at ho'; cases ho'
    exact ⟨_, es', ep', hL, r'⟩) hok I.bare

theorem Inv.call {g' : Array GenState} {t' : Nat} {d' : Drawn} {ch : List Addr} (I : Inv X pins σ H s) (u : Un (frs X.stack) ch H H' s.heap h') (hok : HOk X.prog X.w H' h') (hg : AllBare g')
    (hch : ∀ b ∈ ch, (b ∈ X.ex ∨ X.s₀.heap.get? b = none) ∧ b ≠ X.env.locals ∧ (∀ x c, X.env.cells.lookup x = some c → c ≠ b) ∧ ∀ p ∈ X.pn ++ pins, p.1 ≠ b) :
    Inv X pins σ H' { s with heap := h', gens := g', drawn := d', toks := t' } := by
  obtain ⟨m, ⟨o, es, ep, ho, r⟩, _⟩ := id I.loc
  obtain ⟨sl, hL⟩ := u.any ho I.free fun z => (hch _ z).2.1 rfl
  exact I.step (ch := ch) hch (fun b o hL hb hc e n => u.keep b o e n (fun z => (List.mem_cons.mp (I.stkSub b z)).elim hL hb) hc) (fun b o _ _ hc e n => u.any e n hc) (fun b o hc e n => u.free b o e n hc) (fun b o hc e => u.there b o e hc) u.tups u.frzs u.tbls (fun m' hm => by
    obtain ⟨o', es', ep', ho', r'⟩ := hm
    rw [ho] at ho'; cases ho'
    exact ⟨_, es', ep', hL, r'⟩) hok hg

theorem Inv.turned {t' : Nat} {it : Addr} (I : Inv X pins σ H s) (k : ∀ b o, b ≠ it → s.heap.get? b = some o → h'.get? b = some o) (hn : H it = none) (hL : it ≠ X.env.locals)
    (h1 : it ∈ X.ex ∨ X.s₀.heap.get? it = none) (h2 : ∀ x c, X.env.cells.lookup x = some c → c ≠ it) (h3 : ∀ p ∈ X.pn ++ pins, p.1 ≠ it) : Inv X pins σ H { s with heap := h', toks := t' } := by
  have nit : ∀ b u, H b = some u → b ≠ it := fun b u e z => by rw [z, hn] at e; cases e
  refine I.step (g' := s.gens) (d' := s.drawn) (ch := [it]) (fun b hb => ?_) (fun b o _ _ hc e _ => k b o (fun z => hc (by simp [z])) e) (fun b o _ _ hc e _ => ⟨o.slots, k b o (fun z => hc (by simp [z])) e⟩) (fun _ _ _ _ n => n)
    (fun b o hc e => ⟨o, k b o (fun z => hc (by simp [z])) e⟩) (fun _ _ e => e) (fun _ _ _ e => e) (fun b ps e => ⟨#[], by rw [e]; simp⟩) (fun m hm => ?_) (fun b u e => ?_) I.bare
  · have e : b = it := by simpa using hb
    subst e
    exact ⟨h1, hL, h2, h3⟩
  · obtain ⟨o, es, ep, ho, r⟩ := hm
    exact ⟨o, es, ep, k _ o (Ne.symm hL) ho, r⟩
  · refine (I.hok b u e).stay (fun c v hc q => k c v ?_ q) (fun _ q => q) fun _ _ q => q
    rcases hc with z | z
    · rw [z]; exact nit b u e
    · exact nit c _ z
theorem Inv.tok (I : Inv X pins σ H s) (t : Nat) : Inv X pins σ H { s with toks := t } := I.un (h' := s.heap) (t' := t) Un.refl I.hok

theorem Inv.kept {t' : Nat} (I : Inv X pins σ H s) (k : ∀ b u, s.heap.get? b = some u → h'.get? b = some u) : Inv X pins σ H { s with heap := h', toks := t' } := I.un (Un.kept k) (I.hok.kept k)

theorem Inv.laid {a : Addr} {o : HO} {t' : Nat} (I : Inv X pins σ H s) (k : ∀ b u, s.heap.get? b = some u → h'.get? b = some u) (hp : s.heap.objs.size ≤ a) (new : ObjOk X.prog X.w (upd H a o) h' a o) :
    Inv X pins σ (upd H a o) { s with heap := h', toks := t' } := I.un (Un.laid k hp (I.hok.fresh hp)) (I.hok.laid k hp new)

theorem Inv.write {x e : Addr} {o : HO} {t' : Nat} (I : Inv X pins σ H s) (mu : Mut (H x)) (he : e = x ∨ H e = some (.own x)) (k : ∀ b u, b ≠ e → s.heap.get? b = some u → h'.get? b = some u) (heo : ∃ u, h'.get? e = some u)
    (new : ObjOk X.prog X.w (upd H x o) h' x o) : Inv X pins σ (upd H x o) { s with heap := h', toks := t' } := I.un (Un.write mu he k heo) (I.hok.write mu he k heo new)

theorem Inv.pins_of {pins' : List (Addr × Obj)} (I : Inv X pins σ H s) (h : ∀ p ∈ pins', s.heap.get? p.1 = some p.2 ∧ H p.1 = none ∧ p.1 ≠ X.env.locals ∧ p.1 ∉ X.fs ∧ ∀ v, p.2.data ≠ .cell v) : Inv X pins' σ H s :=
  ⟨I.ok, I.os, I.bare, I.base, I.loc, I.cell, I.free, I.freeC, fun p hp => (List.mem_append.mp hp).elim (fun z => I.pin p (List.mem_append_left _ z)) (h p), I.hok, I.len⟩

theorem nodup_ix {N : List Str} (hN : N.Nodup) {i j : Nat} {x : Str} (a : N[i]? = some x) (b : N[j]? = some x) : i = j := by
  obtain ⟨h1, e1⟩ := List.getElem?_eq_some_iff.mp a
  obtain ⟨h2, e2⟩ := List.getElem?_eq_some_iff.mp b
  exact (List.getElem_inj hN).mp (e1.trans e2.symm)


theorem store_ok2 {M : Model} {A : Around} {E : Value → Shared → Prop} {i : Nat} {x : Str} {v : V} {u : Value} {Q : Unit → Shared → Prop} (I : Inv X pins σ H s) (hN : X.N.Nodup) (hi : X.N[i]? = some x) (hx : Loc X.env.scope x) (r : RelV v u)
    (h : ∀ s', Inv X pins (σ.set i (some v)) H s' → (∃ a, Heap.SameBut a s.heap s'.heap ∧ (a = X.env.locals ∨ X.env.cells.lookup x = some a)) → Q () s') (hf : X.fn x = true ∨ X.env.scope.names.lookup x = some .local := by first | exact .inl rfl | exact .inr rfl | assumption) : wpAny M A (storeName X.env x u) Q E s := by
  obtain ⟨m, hn, hl⟩ := id I.loc
  have hcls : (X.env.scope.kind == .class || (X.env.scope.kind == .module && X.env.locals != X.env.globals)) = false := by rw [I.ok.kind]; rfl
  have hiσ : i < σ.length := by rw [I.len]; exact (List.getElem?_eq_some_iff.mp hi).1
  have cne := I.cne
  have tracked : ∀ {a : Addr} {h' : Heap}, (∃ o, s.heap.get? a = some o ∧ H a = none) → Heap.SameBut a s.heap h' → HOk X.prog X.w H h' := fun {a h'} ha hs b ob e => by
    obtain ⟨_, _, hfree⟩ := ha
    refine (I.hok b ob e).stay (fun c w' hc q => (hs.2 c ?_).trans q) (fun _ q => q) fun _ _ q => q
    rintro rfl
    rcases hc with rfl | hc
    · rw [hfree] at e; cases e
    · rw [hfree] at hc; cases hc
  rcases hx with hk | hk
  · refine wpAny_storeName_local hk hn (fun h' hn' hs => ?_) hcls
    obtain ⟨oL, _, _, hoL, _⟩ := id hn
    refine h _ ⟨I.ok, I.os, I.bare, ⟨fun b o e n hb hx => ?_, fun b o e n hb hx => ?_, I.base.free, fun b o e hx => ?_, I.base.tups, I.base.frzs, I.base.tbls⟩, ⟨_, hn', fun j y v' e1 e2 e3 => ?_⟩, fun y c e => ?_, I.free, I.freeC, fun p hp => ?_, tracked ⟨oL, hoL, I.free⟩ hs, by simpa using I.len⟩ ⟨_, hs, .inl rfl⟩
    · exact (hs.2 b (Nat.ne_of_lt (Nat.lt_of_lt_of_le (Heap.lt_size e) I.ok.above))).trans (I.base.keep b o e n hb hx)
    · obtain ⟨sl, e1⟩ := I.base.slot b o e n hb hx
      exact ⟨sl, (hs.2 b (Nat.ne_of_lt (Nat.lt_of_lt_of_le (Heap.lt_size e) I.ok.above))).trans e1⟩
    · obtain ⟨o', e1⟩ := I.base.there b o e hx
      exact ⟨o', (hs.2 b (Nat.ne_of_lt (Nat.lt_of_lt_of_le (Heap.lt_size e) I.ok.above))).trans e1⟩
    · by_cases hj : j = i
      · subst hj
        rw [hi] at e1; cases e1
        rw [List.getElem?_set_self hiσ] at e2
        cases e2
        exact ⟨u, r, .inl ⟨hk, by simp⟩⟩
      · rw [List.getElem?_set_ne (Ne.symm hj)] at e2
        obtain ⟨u', r', q⟩ := hl j y v' e1 e2 e3
        refine ⟨u', r', ?_⟩
        rcases q with ⟨k, e⟩ | ⟨k, c, e, z⟩
        · refine .inl ⟨k, ?_⟩
          have : y ≠ x := fun e => hj (nodup_ix hN e1 (e ▸ hi))
          simp [this, e]
        · exact .inr ⟨k, c, e, z.sameBut hs (cne y c e)⟩
    · obtain ⟨w', z⟩ := I.cell y c e
      exact ⟨w', z.sameBut hs (cne y c e)⟩
    · obtain ⟨e, n, ne, nf, d⟩ := I.pin p hp
      exact ⟨(hs.2 p.1 ne).trans e, n, ne, nf, d⟩
  · have hfn : X.fn x = true := by
      rcases hf with z | z
      · exact z
      · rw [z] at hk; cases hk
    obtain ⟨c, hc⟩ := I.ok.has x (.inl hk)
    obtain ⟨w', z⟩ := I.cell x c hc
    refine wpAny_storeName_cell I.ok.kind hk hc z (fun h' hc' hs => ?_)
    obtain ⟨oc, hoc, hocd⟩ := id z
    refine h { s with heap := h' } ⟨I.ok, I.os, I.bare, ⟨fun b o e n hb hx => ?_, fun b o e n hb hx => ?_, I.base.free, fun b o e hx => ?_, I.base.tups, I.base.frzs, I.base.tbls⟩, ⟨m, hn.sameBut hs (Ne.symm (cne x c hc)), fun j y v' e1 e2 e3 => ?_⟩, fun y c' e => ?_, I.free, I.freeC, fun p hp => ?_, tracked ⟨oc, hoc, I.freeC x c hc⟩ hs, by simpa using I.len⟩ ⟨c, hs, .inr hc⟩
    · exact (hs.2 b (Nat.ne_of_lt (Nat.lt_of_lt_of_le (Heap.lt_size e) (I.ok.cab x c hfn hc)))).trans (I.base.keep b o e n hb hx)
    · obtain ⟨sl, e1⟩ := I.base.slot b o e n hb hx
      exact ⟨sl, (hs.2 b (Nat.ne_of_lt (Nat.lt_of_lt_of_le (Heap.lt_size e) (I.ok.cab x c hfn hc)))).trans e1⟩
    · obtain ⟨o', e1⟩ := I.base.there b o e hx
      exact ⟨o', (hs.2 b (Nat.ne_of_lt (Nat.lt_of_lt_of_le (Heap.lt_size e) (I.ok.cab x c hfn hc)))).trans e1⟩
    · by_cases hj : j = i
      · subst hj
        rw [hi] at e1; cases e1
        rw [List.getElem?_set_self hiσ] at e2
        cases e2
        exact ⟨u, r, .inr ⟨.inl hk, c, hc, hc'⟩⟩
      · rw [List.getElem?_set_ne (Ne.symm hj)] at e2
        obtain ⟨u', r', q⟩ := hl j y v' e1 e2 e3
        refine ⟨u', r', ?_⟩
        rcases q with q | ⟨k, c', e, z'⟩
        · exact .inl q
        · refine .inr ⟨k, c', e, z'.sameBut hs ?_⟩
          rintro rfl
          exact hj (nodup_ix hN e1 (I.ok.inj _ _ _ e hc ▸ hi))
    · by_cases hcc : c' = c
      · subst hcc; exact ⟨_, hc'⟩
      · obtain ⟨w2, z2⟩ := I.cell y c' e
        exact ⟨w2, z2.sameBut hs hcc⟩
    · obtain ⟨e, n, ne, nf, d⟩ := I.pin p hp
      refine ⟨(hs.2 p.1 ?_).trans e, n, ne, nf, d⟩
      intro q
      rw [q, hoc] at e
      have q' : oc = p.2 := Option.some.inj e
      exact d w' (by rw [← q']; exact hocd)
theorem store_ok {M : Model} {A : Around} {E : Value → Shared → Prop} {i : Nat} {x : Str} {v : V} {u : Value} {Q : Unit → Shared → Prop} (I : Inv X pins σ H s) (hN : X.N.Nodup) (hi : X.N[i]? = some x) (hx : Loc X.env.scope x) (r : RelV v u)
    (h : ∀ s', Inv X pins (σ.set i (some v)) H s' → Q () s') (hf : X.fn x = true ∨ X.env.scope.names.lookup x = some .local := by first | exact .inl rfl | exact .inr rfl | assumption) : wpAny M A (storeName X.env x u) Q E s :=
  store_ok2 I hN hi hx r (fun s' I' _ => h s' I') hf

theorem Inv.call' {s' : Shared} {ch : List Addr} (I : Inv X pins σ H s) (ho : s'.os = s.os) (u : Un (frs X.stack) ch H H' s.heap s'.heap) (hok : HOk X.prog X.w H' s'.heap) (hg : AllBare s'.gens)
    (hch : ∀ b ∈ ch, (b ∈ X.ex ∨ X.s₀.heap.get? b = none) ∧ b ≠ X.env.locals ∧ (∀ x c, X.env.cells.lookup x = some c → c ≠ b) ∧ ∀ p ∈ X.pn ++ pins, p.1 ≠ b) : Inv X pins σ H' s' := by
  obtain ⟨h', g', d', t', o'⟩ := s'
  have e : o' = s.os := ho
  subst e
  exact I.call (g' := g') (t' := t') (d' := d') u hok hg hch
end



noncomputable abbrev XK := Value → Option Addr → Hp → Prop
noncomputable abbrev St := List (Option V)
noncomputable abbrev VK := V → Hp → Prop

noncomputable abbrev TE := St → Hp → VK → Prop
noncomputable abbrev TT := St → Hp → (Bool → Hp → Prop) → Prop
noncomputable abbrev TA := St → Hp → (List V → Hp → Prop) → Prop

structure Ends where
  nx : St → Hp → Prop
  rt : VK
  bk : St → Hp → Prop := fun _ _ => False
  ct : St → Hp → Prop := fun _ _ => False
noncomputable abbrev TS := Ends → St → Hp → Prop

noncomputable def EP (X : Cx) (pins : List (Addr × Obj)) (σ : St) (Q : VK) (u : Value) (s' : Shared) : Prop := ∃ v H', Inv X pins σ H' s' ∧ RelV v u ∧ Q v H'
noncomputable def TP (X : Cx) (pins : List (Addr × Obj)) (σ : St) (Q : Bool → Hp → Prop) (b : Bool) (s' : Shared) : Prop := ∃ H', Inv X pins σ H' s' ∧ Q b H'
noncomputable def AP (X : Cx) (pins : List (Addr × Obj)) (σ : St) (Q : List V → Hp → Prop) (us : List Value) (s' : Shared) : Prop := ∃ vs H', Inv X pins σ H' s' ∧ Vals vs us ∧ Q vs H'
noncomputable def SP (X : Cx) (pins : List (Addr × Obj)) (D : Ends) (f : Flow) (s' : Shared) : Prop :=
  match f with
  | .next => ∃ σ' H', Inv X pins σ' H' s' ∧ D.nx σ' H'
  | .brk => ∃ σ' H', Inv X pins σ' H' s' ∧ D.bk σ' H'
  | .cont => ∃ σ' H', Inv X pins σ' H' s' ∧ D.ct σ' H'
  | .ret u => ∃ v σ' H', Inv X pins σ' H' s' ∧ RelV v u ∧ D.rt v H'

noncomputable def PE (X : Cx) (e : Expr) (t : TE) : Prop :=
  ∀ (pins : List (Addr × Obj)) (s : Shared) (σ : St) (H : Hp) (Q : VK), Inv X pins σ H s → t σ H Q → wpAny (model X.prog X.w) X.A (eval e X.env) (EP X pins σ Q) X.xe s
noncomputable def PT (X : Cx) (e : Expr) (t : TT) : Prop :=
  ∀ (pins : List (Addr × Obj)) (s : Shared) (σ : St) (H : Hp) (Q : Bool → Hp → Prop), Inv X pins σ H s → t σ H Q → wpAny (model X.prog X.w) X.A (isTrue e X.env (eval e X.env)) (TP X pins σ Q) X.xe s

noncomputable def PW (X : Cx) (e : Expr) (t : TT) : Prop :=
  ∀ (whole : Sem Value) (pins : List (Addr × Obj)) (s : Shared) (σ : St) (H : Hp) (Q : Bool → Hp → Prop), Inv X pins σ H s → t σ H Q → wpAny (model X.prog X.w) X.A (isTrue e X.env whole) (TP X pins σ Q) X.xe s
theorem PW.pt {X : Cx} {e : Expr} {t : TT} (h : PW X e t) : PT X e t := h _

noncomputable def PA (X : Cx) (es : List Expr) (t : TA) : Prop :=
  ∀ (pos : Pos) (pins : List (Addr × Obj)) (s : Shared) (σ : St) (H : Hp) (Q : List V → Hp → Prop), Inv X pins σ H s → t σ H Q → wpAny (model X.prog X.w) X.A (spliced (backTo pos (starEach es X.env))) (AP X pins σ Q) X.xe s
noncomputable def PS (X : Cx) (st : Stmt) (t : TS) : Prop :=
  ∀ (pins : List (Addr × Obj)) (s : Shared) (σ : St) (H : Hp) (D : Ends), Inv X pins σ H s → t D σ H → wpAny (model X.prog X.w) X.A (exec st X.env) (SP X pins D) X.xe s
noncomputable def PSs (X : Cx) (st : List Stmt) (t : TS) : Prop :=
  ∀ (pins : List (Addr × Obj)) (s : Shared) (σ : St) (H : Hp) (D : Ends), Inv X pins σ H s → t D σ H → wpAny (model X.prog X.w) X.A (execs st X.env) (SP X pins D) X.xe s

theorem thn {α : Type} {t : Sem α} {Q Q' : α → Shared → Prop} {M : Model} {A : Around} {E : Value → Shared → Prop} {s : Shared} (h : wpAny M A t Q E s) (hQ : ∀ a s, Q a s → Q' a s) : wpAny M A t Q' E s := wpAny_mono h hQ fun _ _ x => x
end L2

namespace L2
open PySem PySem.Spec PyProof.Rows
section
variable {X : Cx}


theorem bin {a b : Expr} {ta tb : TE} (ha : PE X a ta) (hb : PE X b tb) {pins : List (Addr × Obj)} {s : Shared} {σ : St} {H : Hp} {R : V → V → Hp → Prop} (I : Inv X pins σ H s) (h : ta σ H fun x H1 => tb σ H1 fun y H2 => R x y H2)
    {α : Type} {Q : α → Shared → Prop} {f : Value → Value → Sem α}
    (hf : ∀ v u s2 x y H2, Inv X pins σ H2 s2 → RelV x v → RelV y u → R x y H2 → wpAny (model X.prog X.w) X.A (f v u) Q X.xe s2) :
    wpAny (model X.prog X.w) X.A (eval a X.env) (fun v s₁ => wpAny (model X.prog X.w) X.A (eval b X.env) (fun u s₂ => wpAny (model X.prog X.w) X.A (f v u) Q X.xe s₂) X.xe s₁) X.xe s := by
  refine thn (ha pins s σ H _ I h) fun v s1 ⟨x, H1, I1, r1, q1⟩ => ?_
  refine thn (hb pins s1 σ H1 _ I1 q1) fun u s2 ⟨y, H2, I2, r2, q2⟩ => ?_
  exact hf v u s2 x y H2 I2 r1 r2 q2


noncomputable def tVar (i : Nat) : TE := fun σ H Q => ∃ v, σ[i]? = some (some v) ∧ Q v H
noncomputable def tC (v : V) : TE := fun _ H Q => Q v H
theorem pe_var {i : Nat} {x : Str} {pos : Pos} (hN : X.N[i]? = some x) (hv : Vis X.env.scope x) (hd : (x == ("__debug__" : Str)) = false := by decide) (hcd : (x == ("__classdict__" : Str)) = false := by decide) : PE X (.Name x pos) (tVar i) := by
  intro pins s σ H Q I h
  obtain ⟨v, e, h⟩ := h
  obtain ⟨m, hn, hl⟩ := I.loc
  obtain ⟨u, r, l⟩ := hl i x v hN e hv
  have fin : EP X pins σ Q u s := ⟨v, H, I, r, h⟩
  rcases l with ⟨hk, hm⟩ | ⟨hk, c, hc, hcell⟩
  · exact wpAny_Name (wpAny_loadName_local I.ok.kind hk hn hm fin) hd
  · rcases hk with hk | hk
    · exact wpAny_Name (wpAny_loadName_cell I.ok.kind hk hc hcell fin) hd
    · exact wpAny_Name (wpAny_loadName_free I.ok.kind hk hc hcell fin hcd) hd
theorem pe_int {i j pos} : PE X (.Constant (.int i) j pos) (tC (.int i)) := fun _ _ _ H _ I h => wpAny_Constant_int ⟨.int i, H, I.tok _, ⟨_, rfl⟩, h⟩
theorem pe_bl {b j pos} : PE X (.Constant (.bool b) j pos) (tC (.bl b)) := fun _ _ _ H _ I h => Constant_bool ⟨.bl b, H, I, rfl, h⟩
theorem pe_non {j pos} : PE X (.Constant .none j pos) (tC .non) := fun _ _ _ H _ I h => Constant_none ⟨.non, H, I, rfl, h⟩
theorem pe_str {x j pos} : PE X (.Constant (.str x) j pos) (tC (.str x)) := fun _ _ _ H _ I h => Calls.Constant_str ⟨.str x, H, I.tok _, ⟨_, rfl⟩, h⟩


noncomputable def Gl (X : Cx) (x : Str) : Prop := X.env.kindOf x = some .globalImplicit
theorem ld_glob {E : Value → Shared → Prop} {pins : List (Addr × Obj)} {s : Shared} {σ : St} {H : Hp} {x : Str} {u : Value} {pos : Pos} {Q : Value → Shared → Prop} (I : Inv X pins σ H s) (hg : Gl X x) (hm : X.mg x = some u) (h : Q u s)
    (hd : (x == ("__debug__" : Str)) = false := by decide) : wpAny (model X.prog X.w) X.A (eval (.Name x pos) X.env) Q E s :=
  Calls.Name_function_global I.ok.kind hg (Calls.loadGlobal_global (by rw [I.ok.glob]; exact I.mod.glob.keeps I.bk) hm h) hd
theorem ld_blt {E : Value → Shared → Prop} {pins : List (Addr × Obj)} {s : Shared} {σ : St} {H : Hp} {x : Str} {u : Value} {pos : Pos} {Q : Value → Shared → Prop} (I : Inv X pins σ H s) (hg : Gl X x) (hm : X.mg x = none) (hv : bootBuiltins x = some u) (h : Q u s)
    (hn : x ≠ "__name__" := by decide) (hd : (x == ("__debug__" : Str)) = false := by decide) : wpAny (model X.prog X.w) X.A (eval (.Name x pos) X.env) Q E s := by
  obtain ⟨mb, h1, h2⟩ := I.mod.blt
  exact Calls.Name_function_global I.ok.kind hg (Calls.loadGlobal_builtin (by rw [I.ok.glob]; exact I.mod.glob.keeps I.bk) hm (by rw [I.ok.blt]; exact h1.keeps I.bk) ((h2 x hn).trans hv) h) hd

theorem pe_glob {x : Str} {v : V} {u : Value} {pos : Pos} (hg : Gl X x) (hm : X.mg x = some u) (r : RelV v u) (hd : (x == ("__debug__" : Str)) = false := by decide) : PE X (.Name x pos) (tC v) :=
  fun _ _ _ H _ I h => ld_glob I hg hm ⟨v, H, I, r, h⟩ hd
theorem pe_bltn {x : Str} {v : V} {u : Value} {pos : Pos} (hg : Gl X x) (hm : X.mg x = none) (hv : bootBuiltins x = some u) (r : RelV v u) (hn : x ≠ "__name__" := by decide) (hd : (x == ("__debug__" : Str)) = false := by decide) : PE X (.Name x pos) (tC v) :=
  fun _ _ _ H _ I h => ld_blt I hg hm hv ⟨v, H, I, r, h⟩ hn hd



noncomputable def t2I (ta tb : TE) (k : Int → Int → Hp → Prop) : St → Hp → Prop := fun σ H => ta σ H fun x H1 => tb σ H1 fun y H2 => ∃ i j, x = .int i ∧ y = .int j ∧ k i j H2
noncomputable def tAdd (ta tb : TE) : TE := fun σ H Q => t2I ta tb (fun i j H2 => Q (.int (i + j)) H2) σ H
noncomputable def tSub (ta tb : TE) : TE := fun σ H Q => t2I ta tb (fun i j H2 => Q (.int (i - j)) H2) σ H

noncomputable def tMul (ta tb : TE) : TE := fun σ H Q => t2I ta tb (fun i j H2 => (-(2 ^ 64) < i ∧ i < 2 ^ 64) ∧ Q (.int (i * j)) H2) σ H
variable {a b : Expr} {ta tb : TE} {pos : Pos}
noncomputable def PC (X : Cx) (op : CmpOp) (a b : Expr) (t : TE) : Prop :=
  ∀ (pins : List (Addr × Obj)) (s : Shared) (σ : St) (H : Hp) (Q : VK), Inv X pins σ H s → t σ H Q →
    wpAny (model X.prog X.w) X.A (eval a X.env) (fun v s₁ => wpAny (model X.prog X.w) X.A (eval b X.env) (fun u s₂ => wpAny (model X.prog X.w) X.A (compareOp op v u) (EP X pins σ Q) X.xe s₂) X.xe s₁) X.xe s
noncomputable def tCmp (p : Int → Int → Bool) (ta tb : TE) : TE := fun σ H Q => t2I ta tb (fun i j H2 => Q (.bl (p i j)) H2) σ H
noncomputable abbrev tLt : TE → TE → TE := tCmp fun i j => decide (i < j)
noncomputable abbrev tLe : TE → TE → TE := tCmp fun i j => decide (i ≤ j)
noncomputable abbrev tGt : TE → TE → TE := tCmp fun i j => decide (j < i)
noncomputable abbrev tGe : TE → TE → TE := tCmp fun i j => decide (j ≤ i)
noncomputable abbrev tEqI : TE → TE → TE := tCmp fun i j => decide (i = j)
noncomputable abbrev tNeI : TE → TE → TE := tCmp fun i j => !decide (i = j)

noncomputable def tIsN (ta : TE) : TE := fun σ H Q => ta σ H fun x H1 => Q (.bl (decide (x = .non))) H1
noncomputable def tNotN (ta : TE) : TE := fun σ H Q => ta σ H fun x H1 => Q (.bl (!decide (x = .non))) H1
noncomputable def tB (t : TE) : TT := fun σ H Q => t σ H fun x H1 => ∃ c, x = .bl c ∧ Q c H1
theorem pt_cmp {op : CmpOp} {t : TE} (h : PC X op a b t) (h1 : behindInMarks op b = false := by first | exact nobehind _ (by decide) (by decide) | rfl) : PT X (.Compare a [op] [b] pos) (tB t) := by
  intro pins s σ H Q I hw
  refine wpAny_isTrue_Compare1 (thn (h pins s σ H _ I hw) fun v s1 h1 => thn h1 fun u s2 h2 => thn h2 fun c s3 ⟨x, H1, I1, r1, q1⟩ => ?_) h1
  obtain ⟨d, rfl, q⟩ := q1
  cases r1
  exact wpAny_truthy_bool ⟨H1, I1, q⟩

theorem pt_val {e : Expr} {t : TE} (h : PE X e t) (he : ∀ whole, isTrue e X.env whole = (do let v ← whole; standAt e.pos; holding [v] (truthy v)) := by intro _; rfl) : PT X e (tB t) := by
  intro pins s σ H Q I hw
  refine isTrue_plain (thn (h pins s σ H _ I hw) fun v s1 ⟨x, H1, I1, r1, q1⟩ => ?_) (he _)
  obtain ⟨d, rfl, q⟩ := q1
  cases r1
  exact wpAny_truthy_bool ⟨H1, I1, q⟩


variable {tA tB' : TT} {rest : List Expr}
noncomputable def tAnd (t u : TT) : TT := fun σ H Q => t σ H fun c H1 => if c = true then u σ H1 Q else Q false H1
noncomputable def tOr (t u : TT) : TT := fun σ H Q => t σ H fun c H1 => if c = true then Q true H1 else u σ H1 Q
noncomputable def tNot (t : TT) : TT := fun σ H Q => t σ H fun c H1 => Q (!c) H1
theorem pw_and1 (ha : PT X a tA) : PW X (.BoolOp .And [a] pos) tA := by
  intro wh pins s σ H Q I h
  refine isTrue_and (thn (ha pins s σ H Q I h) fun c s1 e => ?_)
  cases c with
  | true => exact isTrue_and_nil e
  | false => exact e
theorem pw_or1 (ha : PT X a tA) : PW X (.BoolOp .Or [a] pos) tA := by
  intro wh pins s σ H Q I h
  refine isTrue_or (thn (ha pins s σ H Q I h) fun c s1 e => ?_)
  cases c with
  | false => exact isTrue_or_nil e
  | true => exact e
theorem pw_and (ha : PT X a tA) (hb : PW X (.BoolOp .And (b :: rest) pos) tB') : PW X (.BoolOp .And (a :: b :: rest) pos) (tAnd tA tB') := by
  intro wh pins s σ H Q I h
  refine isTrue_and (thn (ha pins s σ H _ I h) fun c s1 ⟨H1, I1, q1⟩ => ?_)
  cases c with
  | true => exact hb wh pins s1 σ H1 Q I1 q1
  | false => exact ⟨H1, I1, q1⟩
theorem pw_or (ha : PT X a tA) (hb : PW X (.BoolOp .Or (b :: rest) pos) tB') : PW X (.BoolOp .Or (a :: b :: rest) pos) (tOr tA tB') := by
  intro wh pins s σ H Q I h
  refine isTrue_or (thn (ha pins s σ H _ I h) fun c s1 ⟨H1, I1, q1⟩ => ?_)
  cases c with
  | true => exact ⟨H1, I1, q1⟩
  | false => exact hb wh pins s1 σ H1 Q I1 q1
theorem pt_not (ha : PT X a tA) : PT X (.UnaryOp .Not a pos) (tNot tA) := by
  intro pins s σ H Q I h
  exact isTrue_not (ha pins s σ H (fun c H1 => Q (!c) H1) I h)

noncomputable def tAndV (ta tb : TE) : TE := fun σ H Q => ta σ H fun x H1 => ∃ c, x = .bl c ∧ if c = true then tb σ H1 Q else Q (.bl false) H1
noncomputable def tOrV (ta tb : TE) : TE := fun σ H Q => ta σ H fun x H1 => ∃ c, x = .bl c ∧ if c = true then Q (.bl true) H1 else tb σ H1 Q
noncomputable def tNotV (ta : TE) : TE := fun σ H Q => ta σ H fun x H1 => ∃ c, x = .bl c ∧ Q (.bl (!c)) H1
theorem pe_one {op} {t : TE} (h : PE X a t) : PE X (.BoolOp op [a] pos) t := fun pins s σ H Q I hw => BoolOp_one (h pins s σ H Q I hw)
theorem pe_and (ha : PE X a ta) (hb : PE X (.BoolOp .And (b :: rest) pos) tb) : PE X (.BoolOp .And (a :: b :: rest) pos) (tAndV ta tb) := by
  intro pins s σ H Q I h
  refine BoolOp_and (thn (ha pins s σ H _ I h) fun v s1 ⟨x, H1, I1, r1, q1⟩ => ?_)
  obtain ⟨c, rfl, q1⟩ := q1
  cases r1
  refine wpAny_truthy_bool ?_
  cases c with
  | true => exact hb pins s1 σ H1 Q I1 q1
  | false => exact ⟨.bl false, H1, I1, rfl, q1⟩
theorem pe_or (ha : PE X a ta) (hb : PE X (.BoolOp .Or (b :: rest) pos) tb) : PE X (.BoolOp .Or (a :: b :: rest) pos) (tOrV ta tb) := by
  intro pins s σ H Q I h
  refine BoolOp_or (thn (ha pins s σ H _ I h) fun v s1 ⟨x, H1, I1, r1, q1⟩ => ?_)
  obtain ⟨c, rfl, q1⟩ := q1
  cases r1
  refine wpAny_truthy_bool ?_
  cases c with
  | false => exact hb pins s1 σ H1 Q I1 q1
  | true => exact ⟨.bl true, H1, I1, rfl, q1⟩
theorem pe_not (ha : PE X a ta) : PE X (.UnaryOp .Not a pos) (tNotV ta) := by
  intro pins s σ H Q I h
  refine UnaryOp_ (thn (ha pins s σ H _ I h) fun v s1 ⟨x, H1, I1, r1, q1⟩ => ?_)
  obtain ⟨c, rfl, q1⟩ := q1
  cases r1
  exact not_of (wpAny_truthy_bool ⟨.bl (!c), H1, I1, rfl, q1⟩)

noncomputable def tIf (t : TT) (ta tb : TE) : TE := fun σ H Q => t σ H fun c H1 => if c = true then ta σ H1 Q else tb σ H1 Q
theorem pe_ifExp {c : Expr} (hc : PT X c tA) (ha : PE X a ta) (hb : PE X b tb) : PE X (.IfExp c a b pos) (tIf tA ta tb) := by
  intro pins s σ H Q I h
  refine wpAny_IfExp (thn (hc pins s σ H _ I h) fun d s1 ⟨H1, I1, q1⟩ => ?_)
  cases d with
  | true => exact ha pins s1 σ H1 Q I1 q1
  | false => exact hb pins s1 σ H1 Q I1 q1
end
end L2

namespace L2
open PySem PySem.Spec PyProof.Rows


noncomputable def SqL (K : PySem.W.Frag) (H : Hp) (a : Addr) (xs : List V) : Prop :=
  Rd H a (.lst xs) ∨
    ∃ (o : Obj) (its : Array Value) (n : Nat), K.lookup a = some o ∧ o.cls = .type "list" ∧ o.dict = none ∧ o.data = .seq its n ∧ its.size ≤ sizeLine ∧ Vals xs its.toList
noncomputable def SqT (K : PySem.W.Frag) (H : Hp) (a : Addr) (xs : List V) : Prop :=
  Rd H a (.tup xs) ∨
    ∃ (o : Obj) (its : Array Value) (n : Nat), K.lookup a = some o ∧ o.cls = .type "tuple" ∧ o.data = .seq its n ∧ its.size ≤ sizeLine ∧ Vals xs its.toList
noncomputable def absV : Value → Option V
  | .none => some .non
  | .bool b => some (.bl b)
  | .int i _ => some (.int i)
  | .str x _ => some (.str x)
  | .bytes b _ => some (.byt b)
  | .float b _ => some (.flt b)
  | .ref a => some (.ref a)
  | .type n => some (.ty n)
  | _ => none
theorem RelV.abs {x : V} {u : Value} (r : RelV x u) : absV u = some x := by
  cases x with
  | non => cases r; rfl
  | bl _ => cases r; rfl
  | int _ => obtain ⟨t, rfl⟩ := r; rfl
  | str _ => obtain ⟨t, rfl⟩ := r; rfl
  | byt _ => obtain ⟨t, rfl⟩ := r; rfl
  | flt _ => obtain ⟨t, rfl⟩ := r; rfl
  | ref _ => cases r; rfl
  | ty _ => cases r; rfl
theorem RelV.inj {x y : V} {u : Value} (r : RelV x u) (q : RelV y u) : x = y := Option.some.inj (r.abs.symm.trans q.abs)
theorem Vals.inj : ∀ {xs ys : List V} {us : List Value}, Vals xs us → Vals ys us → xs = ys
  | _, _, _, .nil, .nil => rfl
  | _, _, _, .cons r t, .cons r' t' => by rw [r.inj r', Vals.inj t t']
section
variable {X : Cx} {pins : List (Addr × Obj)} {σ : St} {H : Hp} {s : Shared} {a : Addr} {xs ys : List V}
theorem SqL.of {K : PySem.W.Frag} (h : H a = some (.lst xs)) : SqL K H a xs := .inl (.inl h)
theorem SqT.of {K : PySem.W.Frag} (h : H a = some (.tup xs)) : SqT K H a xs := .inl (.inl h)
theorem Inv.list (I : Inv X pins σ H s) (h : SqL X.K H a xs) : ∃ its : List Value, Vals xs its ∧ PlainL s.heap a its.toArray ∧ xs.length ≤ sizeLine := by
  rcases h with h | ⟨o, its, n, hk, hc, hd, hs, hz, r⟩
  · obtain ⟨z, its, n, r, e⟩ := h.ok I.hok
    exact ⟨its, r, ⟨_, n, e, rfl, rfl, rfl⟩, z⟩
  · refine ⟨its.toList, r, ⟨o, n, I.kIn a o hk, hc, hd, by simpa using hs⟩, ?_⟩
    have e := r.length
    simp only [Array.length_toList] at e
    omega
theorem Inv.tuple (I : Inv X pins σ H s) (h : SqT X.K H a xs) : ∃ its : List Value, Vals xs its ∧ IsTup s.heap a its.toArray ∧ xs.length ≤ sizeLine := by
  rcases h with h | ⟨o, its, n, hk, hc, hs, hz, r⟩
  · obtain ⟨z, its, r, p⟩ := h.ok I.hok
    exact ⟨its, r, p, z⟩
  · refine ⟨its.toList, r, ⟨o, I.kIn a o hk, hc, n, by simpa using hs⟩, ?_⟩
    have e := r.length
    simp only [Array.length_toList] at e
    omega
theorem Inv.list_inj (I : Inv X pins σ H s) (h : SqL X.K H a xs) (h' : SqL X.K H a ys) : xs = ys := by
  obtain ⟨its, r, ⟨o, n, e, _, _, d⟩, _⟩ := I.list h
  obtain ⟨its', r', ⟨o', n', e', _, _, d'⟩, _⟩ := I.list h'
  rw [e] at e'; cases e'
  rw [d] at d'
  injection d' with d1 _
  have : its = its' := by simpa using congrArg Array.toList d1
  subst this
  exact r.inj r'
theorem Inv.tuple_inj (I : Inv X pins σ H s) (h : SqT X.K H a xs) (h' : SqT X.K H a ys) : xs = ys := by
  obtain ⟨its, r, ⟨o, e, _, n, d⟩, _⟩ := I.tuple h
  obtain ⟨its', r', ⟨o', e', _, n', d'⟩, _⟩ := I.tuple h'
  rw [e] at e'; cases e'
  rw [d] at d'
  injection d' with d1 _
  have : its = its' := by simpa using congrArg Array.toList d1
  subst this
  exact r.inj r'
end


noncomputable abbrev Cx.wish (X : Cx) (E : Value → Shared → Prop) : Cx := { X with xe := E }

noncomputable abbrev Cx.nox (X : Cx) : Cx := X.wish fun _ _ => False
theorem Cx.Ok.wish {X : Cx} (ok : X.Ok) (E : Value → Shared → Prop) : (X.wish E).Ok :=
  ⟨ok.mod, ok.kind, ok.glob, ok.blt, ok.above, ok.inj, ok.has, ok.cab, ok.hd, ok.frames, ok.stk, ok.exf, ok.bs, ok.bsz, ok.noex, ok.exfs, ok.funs, ok.frf⟩
theorem Cx.Ok.unwish {X : Cx} {E : Value → Shared → Prop} (ok : (X.wish E).Ok) : X.Ok :=
  ⟨ok.mod, ok.kind, ok.glob, ok.blt, ok.above, ok.inj, ok.has, ok.cab, ok.hd, ok.frames, ok.stk, ok.exf, ok.bs, ok.bsz, ok.noex, ok.exfs, ok.funs, ok.frf⟩
section
variable {X : Cx} {pins : List (Addr × Obj)} {σ : St} {H : Hp} {s : Shared} {E : Value → Shared → Prop}
theorem Inv.wish (I : Inv X pins σ H s) (E : Value → Shared → Prop) : Inv (X.wish E) pins σ H s := ⟨I.ok.wish E, I.os, I.bare, I.base, I.loc, I.cell, I.free, I.freeC, I.pin, I.hok, I.len⟩
theorem Inv.unwish (I : Inv (X.wish E) pins σ H s) : Inv X pins σ H s := ⟨I.ok.unwish, I.os, I.bare, I.base, I.loc, I.cell, I.free, I.freeC, I.pin, I.hok, I.len⟩
theorem SP.unwish {D : Ends} {f : Flow} {s' : Shared} (h : SP (X.wish E) pins D f s') : SP X pins D f s' := by
  cases f with
  | next => obtain ⟨σ', H', I, q⟩ := h; exact ⟨σ', H', I.unwish, q⟩
  | brk => obtain ⟨σ', H', I, q⟩ := h; exact ⟨σ', H', I.unwish, q⟩
  | cont => obtain ⟨σ', H', I, q⟩ := h; exact ⟨σ', H', I.unwish, q⟩
  | ret u => obtain ⟨v, σ', H', I, r, q⟩ := h; exact ⟨v, σ', H', I.unwish, r, q⟩
theorem PSs.nox {st : List Stmt} {t : TS} (h : PSs X.nox st t) : PSs X st t := fun pins s σ H D I hw =>
  wpAny_mono (h pins s σ H D (I.wish _) hw) (fun _ _ q => q.unwish) fun _ _ z => False.elim z
end


section
variable {X : Cx} {st : Stmt} {rest : List Stmt} {t u : TS} {e : Expr} {te : TE} {pos : Pos}
noncomputable def tNext : TS := fun D σ H => D.nx σ H
noncomputable def tSeq (t u : TS) : TS := fun D σ H => t { D with nx := u D } σ H
theorem pss_nil : PSs X [] tNext := fun _ _ σ H _ I h => wpAny_execs_nil ⟨σ, H, I, h⟩
theorem pss_cons (h1 : PS X st t) (h2 : PSs X rest u) : PSs X (st :: rest) (tSeq t u) := by
  intro pins s σ H D I h
  refine wpAny_execs_cons (thn (h1 pins s σ H { D with nx := u D } I h) fun f s1 q => ?_)
  cases f with
  | next =>
    obtain ⟨σ', H', I', q⟩ := q
    exact h2 pins s1 σ' H' D I' q
  | ret v => exact q
  | brk => exact q
  | cont => exact q
theorem pss_one (h1 : PS X st t) : PSs X [st] t := by
  intro pins s σ H D I h
  refine wpAny_execs_cons (thn (h1 pins s σ H D I h) fun f s1 q => ?_)
  cases f with
  | next => exact wpAny_execs_nil q
  | ret v => exact q
  | brk => exact q
  | cont => exact q
noncomputable def tBreak : TS := fun D σ H => D.bk σ H
noncomputable def tCont : TS := fun D σ H => D.ct σ H
theorem Inv.quiet {pins : List (Addr × Obj)} {σ : St} {H : Hp} {s : Shared} (I : Inv X pins σ H s) : interactive X.env = false := by simp [interactive, I.ok.kind]

noncomputable def tDrop (te : TE) : TS := fun D σ H => te σ H fun _ H1 => D.nx σ H1
theorem ps_expr (he : PE X e te) (hs : swapsWith e none pos.line X.env = pure false := by rfl) : PS X (.Expr e pos) (tDrop te) := by
  intro pins s σ H D I h
  exact wpAny_Expr_any (thn (he pins s σ H _ I h) fun v s1 ⟨x, H1, I1, r1, q1⟩ => ⟨σ, H1, I1, q1⟩) I.quiet hs
noncomputable def tRet (te : TE) : TS := fun D σ H => te σ H D.rt
theorem ps_ret (he : PE X e te) : PS X (.Return (some e) pos) (tRet te) := by
  intro pins s σ H D I h
  exact wpAny_Return_some (thn (he pins s σ H _ I h) fun v s1 ⟨x, H1, I1, r1, q1⟩ => ⟨x, σ, H1, I1, r1, q1⟩)
noncomputable def tRetN : TS := fun D _ H => D.rt .non H
noncomputable def tIfS (c : TT) (t u : TS) : TS := fun D σ H => c σ H fun b H1 => if b = true then t D σ H1 else u D σ H1
theorem ps_if {c : Expr} {a b : List Stmt} {tc : TT} (hc : PT X c tc) (ha : PSs X a t) (hb : PSs X b u) : PS X (.If c a b pos) (tIfS tc t u) := by
  intro pins s σ H D I h
  refine wpAny_If (thn (hc pins s σ H _ I h) fun d s1 ⟨H1, I1, q1⟩ => ?_)
  cases d with
  | true => exact ha pins s1 σ H1 D I1 q1
  | false => exact hb pins s1 σ H1 D I1 q1

noncomputable def tNever : TS := fun _ _ _ => False
theorem pss_never {sts : List Stmt} : PSs X sts tNever := fun _ _ _ _ _ _ h => h.elim
end


noncomputable abbrev TG := V → St → Hp → (St → Hp → Prop) → Prop
noncomputable abbrev TGs := List V → St → Hp → (St → Hp → Prop) → Prop
noncomputable def PG (X : Cx) (target : Expr) (t : TG) : Prop :=
  ∀ (pins : List (Addr × Obj)) (s : Shared) (σ : St) (H : Hp) (v : V) (u : Value) (Q : St → Hp → Prop), Inv X pins σ H s → RelV v u → t v σ H Q →
    wpAny (model X.prog X.w) X.A (assign target X.env u) (fun _ s' => ∃ σ' H', Inv X pins σ' H' s' ∧ Q σ' H') X.xe s

noncomputable def PGs (X : Cx) (ts : List Expr) (t : TGs) : Prop :=
  ∀ (pins : List (Addr × Obj)) (s : Shared) (σ : St) (H : Hp) (vs : List V) (us : List Value) (Q : St → Hp → Prop), Inv X pins σ H s → Vals vs us → t vs σ H Q →
    wpAny (model X.prog X.w) X.A (assignInOrder ((assignEach ts X.env).map (·.2)) us) (fun _ s' => ∃ σ' H', Inv X pins σ' H' s' ∧ Q σ' H') X.xe s

noncomputable abbrev TSet := V → V → V → Hp → (Hp → Prop) → Prop
noncomputable def PSet (X : Cx) (t : TSet) : Prop :=
  ∀ (pins : List (Addr × Obj)) (s : Shared) (σ : St) (H : Hp) (o i v : V) (ov iv u : Value) (Q : Hp → Prop), Inv X pins σ H s → RelV o ov → RelV i iv → RelV v u → t o i v H Q →
    wpAny (model X.prog X.w) X.A (setItem ov iv u) (fun _ s' => ∃ H', Inv X pins σ H' s' ∧ Q H') X.xe s

noncomputable abbrev TIp := V → V → Hp → VK → Prop
noncomputable def PIp (X : Cx) (op : Operator) (t : TIp) : Prop :=
  ∀ (pins : List (Addr × Obj)) (s : Shared) (σ : St) (H : Hp) (x y : V) (v u : Value) (Q : VK), Inv X pins σ H s → RelV x v → RelV y u → t x y H Q →
    wpAny (model X.prog X.w) X.A (inplaceOp op v u) (EP X pins σ Q) X.xe s
section
variable {X : Cx} {pos : Pos}
noncomputable def gName (i : Nat) : TG := fun v σ H Q => Q (σ.set i (some v)) H
theorem pg_name {i : Nat} {x : Str} (hN : X.N.Nodup) (hi : X.N[i]? = some x) (hx : Loc X.env.scope x) (hf : X.fn x = true ∨ X.env.scope.names.lookup x = some .local := by first | exact .inl rfl | exact .inr rfl | assumption) : PG X (.Name x pos) (gName i) := by
  intro pins s σ H v u Q I r h
  exact wpAny_assign_Name (store_ok I hN hi hx r (fun s' I' => ⟨_, H, I', h⟩) hf)
noncomputable def gNil : TGs := fun vs σ H Q => vs = [] ∧ Q σ H
noncomputable def gCons (t : TG) (u : TGs) : TGs := fun vs σ H Q => ∃ v r, vs = v :: r ∧ t v σ H fun σ' H' => u r σ' H' Q
theorem pgs_nil : PGs X [] gNil := by
  intro pins s σ H vs us Q I r h
  obtain ⟨e, h⟩ := h
  subst e
  cases r
  exact assignInOrder_nil ⟨σ, H, I, h⟩
theorem pgs_cons {e : Expr} {es : List Expr} {t : TG} {u : TGs} (h1 : PG X e t) (h2 : PGs X es u)
    (hs : (assignEach (e :: es) X.env).map (·.2) = assign e X.env :: (assignEach es X.env).map (·.2) := by rfl) : PGs X (e :: es) (gCons t u) := by
  intro pins s σ H vs us Q I r h
  obtain ⟨v, vr, e1, h⟩ := h
  subst e1
  cases r with
  | cons r rr =>
    rw [hs]
    refine assignInOrder_cons (thn (h1 pins s σ H _ _ _ I r h) fun _ s1 ⟨σ1, H1, I1, q1⟩ => ?_)
    exact h2 pins s1 σ1 H1 _ _ Q I1 rr q1

noncomputable def gTup (K : PySem.W.Frag) (n : Nat) (t : TGs) : TG := fun v σ H Q => ∃ a xs, v = .ref a ∧ SqT K H a xs ∧ xs.length = n ∧ t xs σ H Q
theorem pg_tup {es : List Expr} {k : Nat} {t : TGs} {n : Nat} (hc : X.calm = true) (h : PGs X es t)
    (hn : (assignEach es X.env).length = n := by rfl) (hst : (assignEach es X.env).findIdx? (·.1) = none := by rfl) : PG X (.Tuple es k pos) (gTup X.K n t) := by
  intro pins s σ H v u Q I r hw
  obtain ⟨a, xs, e1, hq, hl, hw⟩ := hw
  subst e1
  cases r
  obtain ⟨its, rv, ht, hz⟩ := I.tuple hq
  refine assign_Tuple_tuple (I.ok.hd hc) ht (by simp [hn, ← hl, rv.length]) hst fun h' hx => ?_
  have I1 : Inv X pins σ H { s with heap := h' } := I.kept (t' := s.toks) fun b o e => hx b o (Nat.ne_of_lt (Heap.lt_size e)) e
  exact h pins _ σ H xs _ Q I1 (by simpa using rv) hw

noncomputable def gSub (to ti : TE) (t : TSet) : TG := fun v σ H Q => to σ H fun o H1 => ti σ H1 fun i H2 => t o i v H2 fun H3 => Q σ H3
theorem pg_sub {o i : Expr} {to ti : TE} {t : TSet} (ho : PE X o to) (hi : PE X i ti) (hs : PSet X t)
    (ha : ∀ v, assign (.Subscript o i pos) X.env v = (do
      let ov ← holding [v] (eval o X.env)
      let iv ← holding [v, ov] (eval i X.env)
      standAt pos
      holding [v, ov, iv] (setItem ov iv v)
      release [v, ov, iv] []) := by intro _; rfl) : PG X (.Subscript o i pos) (gSub to ti t) := by
  intro pins s σ H v u Q I r h
  rw [ha]
  refine wpAny_bind (wpAny_holding (thn (ho pins s σ H _ I h) fun ov s1 ⟨x, H1, I1, r1, q1⟩ => ?_))
  refine wpAny_bind (wpAny_holding (thn (hi pins s1 σ H1 _ I1 q1) fun iv s2 ⟨y, H2, I2, r2, q2⟩ => ?_))
  refine wpAny_bind (wpAny_standAt (wpAny_bind (wpAny_holding (thn (hs pins s2 σ H2 x y v ov iv u _ I2 r1 r2 r q2) fun _ s3 ⟨H3, I3, q3⟩ => ?_))))
  exact wpAny_release ⟨σ, H3, I3, q3⟩

noncomputable def tAsg (te : TE) (g : TG) : TS := fun D σ H => te σ H fun x H1 => g x σ H1 D.nx
theorem ps_asg {tg e : Expr} {te : TE} {g : TG} (he : PE X e te) (hg : PG X tg g) (hs : swapsWithSole [tg] e pos.line X.env = pure false := by rfl) (hw : swappedStores [tg] e X.env = pure none := by rfl)
    (h1 : (assignEach [tg] X.env).map (·.2) = [assign tg X.env] := by rfl) : PS X (.Assign [tg] e pos) (tAsg te g) := by
  intro pins s σ H D I h
  refine wpAny_Assign_stores (thn (he pins s σ H _ I h) fun v s1 ⟨x, H1, I1, r1, q1⟩ => ?_) hs hw
  rw [h1]
  exact thn (hg pins s1 σ H1 x v _ I1 r1 q1) fun _ s2 q => q

theorem ps_set {i : Nat} {x : Str} {e : Expr} {te : TE} {pos' : Pos} (hN : X.N.Nodup) (hi : X.N[i]? = some x) (hx : Loc X.env.scope x) (he : PE X e te) (hs : swapsWith e (some (.Name x pos')) pos.line X.env = pure false := by rfl) (hf : X.fn x = true ∨ X.env.scope.names.lookup x = some .local := by first | exact .inl rfl | exact .inr rfl | assumption) :
    PS X (.Assign [.Name x pos'] e pos) (tAsg te (gName i)) := by
  intro pins s σ H D I h
  refine wpAny_Assign_Name (thn (he pins s σ H _ I h) fun v s1 ⟨y, H1, I1, r1, q1⟩ => ?_) hs
  exact store_ok I1 hN hi hx r1 (fun s2 I2 => ⟨_, H1, I2, q1⟩) hf

noncomputable def tPar (i j : Nat) (ta : TA) : TS := fun D σ H => ta σ H fun vs H1 => ∃ v w, vs = [v, w] ∧ D.nx ((σ.set i (some v)).set j (some w)) H1
noncomputable def tAug (i : Nat) (te : TE) (ti : TIp) : TS := fun D σ H => ∃ x, σ[i]? = some (some x) ∧ te σ H fun y H1 => ti x y H1 fun z H2 => D.nx (σ.set i (some z)) H2
noncomputable def tAugS (to ti te : TE) (tget : V → V → Hp → VK → Prop) (tip : TIp) (tset : TSet) : TS := fun D σ H => to σ H fun o H1 => ti σ H1 fun i H2 => tget o i H2 fun x H3 => te σ H3 fun y H4 => tip x y H4 fun z H5 => tset o i z H5 fun H6 => D.nx σ H6

noncomputable def PGet (X : Cx) (t : V → V → Hp → VK → Prop) : Prop :=
  ∀ (pins : List (Addr × Obj)) (s : Shared) (σ : St) (H : Hp) (o i : V) (ov iv : Value) (Q : VK), Inv X pins σ H s → RelV o ov → RelV i iv → t o i H Q →
    wpAny (model X.prog X.w) X.A (getItem ov iv) (EP X pins σ Q) X.xe s
noncomputable def ipI (f : Int → Int → Int) : TIp := fun x y H Q => ∃ i j, x = .int i ∧ y = .int j ∧ Q (.int (f i j)) H
end


section
variable {X : Cx} {pos : Pos}

noncomputable def tWhile (c : TT) (tb : TS) : TS := fun D σ H => ∃ W : Nat → St → Hp → Prop, (∃ m, W m σ H) ∧ ∀ m σ H, W m σ H →
  c σ H fun b H1 => if b = true then ∃ N : St → Hp → Prop, (∀ σ' H', N σ' H' → ∃ m', m' < m ∧ W m' σ' H') ∧ tb { D with nx := N, ct := N, bk := D.nx } σ H1 else D.nx σ H1
theorem ps_while {c : Expr} {body : List Stmt} {tc : TT} {tb : TS} (hp : PassesOwn (model X.prog X.w) X.A X.env X.xe) (hc : PT X c tc) (hb : PSs X body tb) : PS X (.While c body [] pos) (tWhile tc tb) := by
  intro pins s σ H D I h
  obtain ⟨W, ⟨m0, w0⟩, turn⟩ := h
  refine wpAny_While (codeAny_whileLoop (fun n s' => ∃ σ' H', Inv X pins σ' H' s' ∧ W n σ' H') ?_ m0 ⟨σ, H, I, w0⟩)
  rintro n s1 ⟨σ1, H1, I1, w1⟩
  refine wpAny_passesOwn hp (thn (hc pins s1 σ1 H1 _ I1 (turn n σ1 H1 w1)) fun b s2 ⟨H2, I2, q2⟩ => ?_)
  cases b with
  | true =>
    obtain ⟨N, hN, q2⟩ := q2
    rw [if_pos rfl]
    refine wpAny_passesOwn hp (thn (hb pins s2 σ1 H2 _ I2 q2) fun f s3 q3 => ?_)
    cases f with
    | next =>
      obtain ⟨σ3, H3, I3, n3⟩ := q3
      obtain ⟨m', hm, w3⟩ := hN σ3 H3 n3
      exact ⟨m', hm, σ3, H3, I3, w3⟩
    | cont =>
      obtain ⟨σ3, H3, I3, n3⟩ := q3
      obtain ⟨m', hm, w3⟩ := hN σ3 H3 n3
      exact ⟨m', hm, σ3, H3, I3, w3⟩
    | brk => exact q3
    | ret v => exact q3
  | false =>
    rw [if_neg Bool.false_ne_true]
    exact wpAny_execs_nil ⟨σ1, H2, I2, q2⟩
end



structure It where
  go : Nat → Hp → Prop
  yld : Nat → Hp → V → Hp → Prop
  stop : Nat → Hp → Prop

noncomputable def FpOk (X : Cx) (pins : List (Addr × Obj)) (H : Hp) (b : Addr) : Prop :=
  H b = none ∧ b ≠ X.env.locals ∧ b ∉ X.fs ∧ (b ∈ X.ex ∨ X.s₀.heap.get? b = none) ∧ (∀ x c, X.env.cells.lookup x = some c → c ≠ b) ∧ ∀ p ∈ X.pn ++ pins, p.1 ≠ b
theorem Inv.fpOk {X : Cx} {pins : List (Addr × Obj)} {σ : St} {H H' : Hp} {s : Shared} {b : Addr} (I : Inv X pins σ H s) (hb : s.heap.objs.size ≤ b) (hn : H' b = none) : FpOk X pins H' b := by
  refine ⟨hn, Nat.ne_of_gt (Nat.lt_of_lt_of_le I.lt hb), I.nofs hb, .inr (Heap.get?_none_of_le (Nat.le_trans I.sz hb)), fun x c e z => ?_, fun p hp z => ?_⟩
  · obtain ⟨v, q⟩ := I.cell x c e
    exact absurd (Nat.lt_of_lt_of_le q.lt (by rw [z]; exact hb)) (Nat.lt_irrefl _)
  · exact absurd (Nat.lt_of_lt_of_le (Heap.lt_size (I.pin p hp).1) (by rw [z]; exact hb)) (Nat.lt_irrefl _)
structure Turn (P : Program) (w : World) (K : PySem.W.Frag) (tg : Expr) (J : It) (fp : List Addr) (it : Addr) (tn : Nat → Heap → Prop) : Prop where
  mem : it ∈ fp
  obj : ∀ i h, tn i h → ∀ b ∈ fp, ∃ o, h.get? b = some o ∧ ∀ v, o.data ≠ .cell v
  keep : ∀ i h h', tn i h → (∀ b ∈ fp, ∀ o, h.get? b = some o → h'.get? b = some o) → tn i h'
  item : ∀ (X : Cx), X.prog = P → X.w = w → X.K = K → X.calm = true → ∀ (i : Nat) (pins : List (Addr × Obj)) (s : Shared) (σ : St) (H : Hp) (E : Value → Shared → Prop), Inv X pins σ H s → (∀ b ∈ fp, FpOk X pins H b) → tn i s.heap → J.go i H →
    wpAny (model P w) X.A (pyNext (.ref it)) (fun r s1 => ∃ u, r = some u ∧
      wpAny (model P w) X.A (letOwnedTupleGo tg (.ref it) u) (fun _ s2 => ∃ x H', Inv X pins σ H' s2 ∧ RelV x u ∧ J.yld i H x H' ∧ tn (i + 1) s2.heap ∧ ∀ b ∈ fp, H' b = none) E s1) E s
  done : ∀ (X : Cx), X.prog = P → X.w = w → X.K = K → X.calm = true → ∀ (i : Nat) (pins : List (Addr × Obj)) (s : Shared) (σ : St) (H : Hp) (E : Value → Shared → Prop), Inv X pins σ H s → (∀ b ∈ fp, FpOk X pins H b) → tn i s.heap → J.stop i H →
    wpAny (model P w) X.A (pyNext (.ref it)) (fun r s1 => r = none ∧ Inv X pins σ H s1) E s
  self : ∀ (A : Around) (i : Nat) (s : Shared) (Q : Value → Shared → Prop) (E : Value → Shared → Prop), tn i s.heap → Q (.ref it) s → wpAny (model P w) A (pyIter (.ref it)) Q E s
noncomputable abbrev TI := St → Hp → (It → Hp → Prop) → Prop

noncomputable def PIE (X : Cx) (pins : List (Addr × Obj)) (σ : St) (tg : Expr) (R : It → Hp → Prop) (itv : Value) (s2 : Shared) : Prop :=
  ∃ (it : Addr) (fp : List Addr) (tn : Nat → Heap → Prop) (J : It) (H' : Hp), itv = .ref it ∧ Inv X pins σ H' s2 ∧ Turn X.prog X.w X.K tg J fp it tn ∧ tn 0 s2.heap ∧ (∀ b ∈ fp, FpOk X pins H' b) ∧ R J H'
noncomputable def PI (X : Cx) (tg iter : Expr) (wi : TI) : Prop :=
  ∀ (pins : List (Addr × Obj)) (s : Shared) (σ : St) (H : Hp) (R : It → Hp → Prop), Inv X pins σ H s → wi σ H R →
    wpAny (model X.prog X.w) X.A (eval iter X.env) (fun v s1 => wpAny (model X.prog X.w) X.A (pyIter v) (PIE X pins σ tg R) X.xe s1) X.xe s


theorem go_of {M : Model} {A : Around} {E : Value → Shared → Prop} {s : Shared} {tg : Expr} {it : Addr} {u : Value} {o : Obj} {n : String} {vs : Array Value} {Q : Unit → Shared → Prop} (ho : s.heap.get? it = some o) (hc : o.cls = .type n) (hd : o.data = .fields vs)
    (hn : ["enumerate", "zip", "dict_itemiterator", "dict_reverseitemiterator", "odict_iterator", "itertools.zip_longest", "itertools.pairwise"].contains n = false) (hQ : Q () s) : wpAny M A (letOwnedTupleGo tg (.ref it) u) Q E s := by
  unfold letOwnedTupleGo
  cases tg <;> first
    | exact wpAny_pure hQ
    | (cases u <;> first
        | exact wpAny_pure hQ
        | (refine wpAny_bind (wpAny_load ho ?_)
           rw [hc, hd]
           show wpAny M A (if (["enumerate", "zip", "dict_itemiterator", "dict_reverseitemiterator", "odict_iterator", "itertools.zip_longest", "itertools.pairwise"].contains n && vs[0]? == some (rawInt _)) = true then _ else _) Q E s
           rw [if_neg (by intro h; rw [hn, Bool.false_and] at h; cases h)]
           exact wpAny_pure hQ))


noncomputable def Itl (K : PySem.W.Frag) (a : Addr) : It :=
  ⟨fun i H => ∃ xs x, SqL K H a xs ∧ xs[i]? = some x, fun i H x H' => H' = H ∧ ∀ xs, SqL K H a xs → xs[i]? = some x, fun i H => ∃ xs, SqL K H a xs ∧ xs.length ≤ i⟩
noncomputable def Itt (K : PySem.W.Frag) (a : Addr) : It :=
  ⟨fun i H => ∃ xs x, SqT K H a xs ∧ xs[i]? = some x, fun i H x H' => H' = H ∧ ∀ xs, SqT K H a xs → xs[i]? = some x, fun i H => ∃ xs, SqT K H a xs ∧ xs.length ≤ i⟩

noncomputable def Itr (lo : Int) (n : Nat) : It := ⟨fun i _ => i < n, fun i H x H' => H' = H ∧ x = .int (lo + i), fun i _ => n ≤ i⟩
theorem turn_tuple {P : Program} {w : World} {K : PySem.W.Frag} {tg : Expr} (a it : Addr) : Turn P w K tg (Itt K a) [it] it (fun i h => h.IsTupleIter it a i) where
  mem := by simp
  obj := fun i h st b hb => by
    have e : b = it := by simpa using hb
    subst e
    obtain ⟨o, e, c, d⟩ := st
    exact ⟨o, e, fun v z => by rw [d] at z; cases z⟩
  keep := fun i h h' st k => st.at fun o e => k it (by simp) o e
  item := by
    intro X hP hw hK hc i pins s σ H E I hf st hg
    subst hP hw hK
    obtain ⟨xs, x, hq, hx⟩ := hg
    obtain ⟨its, rv, p, hz⟩ := I.tuple hq
    obtain ⟨u, hu, ru⟩ := rv.get hx
    obtain ⟨f0, f1, f2, f3, f4, f5⟩ := hf it (by simp)
    refine wpAny_pyNext_tuple_item st (show s.heap.IsTuple a its.toArray from p) (x := u) (by simpa using hu) fun h' st' sb => ?_
    have I1 : Inv X pins σ H { s with heap := h' } := I.turned (t' := s.toks) (fun b o hb e => (sb.2 b hb).trans e) f0 f1 f3 f4 f5
    obtain ⟨o, e, c, d⟩ := id st'
    exact ⟨u, rfl, go_of (s := { s with heap := h' }) e c d (by decide) ⟨x, H, I1, ru, ⟨rfl, fun ys hy => by rw [I.tuple_inj hy hq]; exact hx⟩, st', fun b hb => (hf b hb).1⟩⟩
  done := by
    intro X hP hw hK hc i pins s σ H E I hf st hg
    subst hP hw hK
    obtain ⟨xs, hq, hx⟩ := hg
    obtain ⟨its, rv, p, hz⟩ := I.tuple hq
    obtain ⟨f0, f1, f2, f3, f4, f5⟩ := hf it (by simp)
    have hl := rv.length
    exact wpAny_pyNext_tuple_end (I.ok.hd hc) st (show s.heap.IsTuple a its.toArray from p) (by simp; omega) fun h' eb => ⟨rfl, I.turned (t' := s.toks) (fun b o hb e => eb b o hb e) f0 f1 f3 f4 f5⟩
  self := fun _ _ _ _ _ st h => wpAny_pyIter_tupleiter st h
theorem turn_range {P : Program} {w : World} {K : PySem.W.Frag} {tg : Expr} (it : Addr) (lo : Int) (n : Nat) : Turn P w K tg (Itr lo n) [it] it (fun i h => IsRangeIter h it (lo + (i : Nat) * 1) ((n : Int) - (i : Nat)) 1) where
  mem := by simp
  obj := fun i h st b hb => by
    have e : b = it := by simpa using hb
    subst e
    exact ⟨_, st, fun v z => by
      have z' : Data.fields _ = Data.cell v := z
      cases z'⟩
  keep := fun i h h' st k => k it (by simp) _ st
  item := by
    intro X hP hw hK hc i pins s σ H E I hf st hg
    subst hP hw hK
    obtain ⟨f0, f1, f2, f3, f4, f5⟩ := hf it (by simp)
    have W := Walks.range (prog := X.prog) (w := X.w) (I.ok.hd hc) it lo 1 n
    refine W.item i s _ _ hg st fun v h' tk hv st' kk => ?_
    obtain ⟨t, rfl⟩ := hv
    have I1 : Inv X pins σ H { s with heap := h', toks := tk } := I.turned (fun b o hb e => kk b o (by simpa using hb) e) f0 f1 f3 f4 f5
    refine ⟨_, rfl, go_of (s := { s with heap := h', toks := tk }) (n := "range_iterator") st' rfl rfl (by decide) ⟨.int (lo + i), H, I1, ⟨t, ?_⟩, ⟨rfl, rfl⟩, st', fun b hb => (hf b hb).1⟩⟩
    rw [Int.mul_one]
  done := by
    intro X hP hw hK hc i pins s σ H E I hf st hg
    subst hP hw hK
    obtain ⟨f0, f1, f2, f3, f4, f5⟩ := hf it (by simp)
    exact wpAny_pyNext_range_end (I.ok.hd hc) st (by have : n ≤ i := hg; omega) fun h' eb => ⟨rfl, I.turned (t' := s.toks) (fun b o hb e => eb b o hb e) f0 f1 f3 f4 f5⟩
  self := fun _ _ _ _ _ st h => wpAny_pyIter_rangeiter st h
end L2

namespace L2
open PySem PySem.Spec PyProof.Rows
section
variable {X : Cx} {tg : Expr}
noncomputable def iList (K : PySem.W.Frag) (tl : TE) : TI := fun σ H R => tl σ H fun x H1 => ∃ a, x = .ref a ∧ (∃ xs, SqL K H1 a xs) ∧ R (Itl K a) H1
noncomputable def iTup (K : PySem.W.Frag) (tl : TE) : TI := fun σ H R => tl σ H fun x H1 => ∃ a, x = .ref a ∧ (∃ xs, SqT K H1 a xs) ∧ R (Itt K a) H1
theorem pi_tup {l : Expr} {tl : TE} (hl : PE X l tl) : PI X tg l (iTup X.K tl) := by
  intro pins s σ H R I h
  refine thn (hl pins s σ H _ I h) fun v s1 ⟨x, H1, I1, r1, q1⟩ => ?_
  obtain ⟨a, e, ⟨xs, hq⟩, q⟩ := q1
  subst e
  cases r1
  obtain ⟨its, rv, p, hz⟩ := I1.tuple hq
  refine wpAny_pyIter_tuple (show s1.heap.IsTuple a its.toArray from p) ?_
  refine ⟨s1.heap.objs.size, [s1.heap.objs.size], _, _, H1, rfl, I1.kept (t' := s1.toks) fun b o e => Heap.get?_push_of_some _ e, turn_tuple a _, ⟨_, Heap.get?_push_size _ rfl, rfl, rfl⟩, fun b hb => ?_, q⟩
  have e : b = s1.heap.objs.size := by simpa using hb
  subst e
  exact I1.fpOk (Nat.le_refl _) (I1.hok.fresh (Nat.le_refl _))

theorem range_it {pins : List (Addr × Obj)} {σ : St} {H : Hp} {s : Shared} {R : It → Hp → Prop} {E : Value → Shared → Prop} {lo hi : Int} {t u v : Tok} {tk : Nat} (I : Inv X pins σ H s) (h1 : -(2 ^ 62) ≤ lo) (h2 : lo < 2 ^ 62) (h3 : -(2 ^ 62) ≤ hi) (h4 : hi < 2 ^ 62)
    (q : R (Itr lo (hi - lo).toNat) H) : wpAny (model X.prog X.w) X.A (pyIter (.ref s.heap.objs.size)) (PIE X pins σ tg R) E { s with heap := s.heap.push { cls := .type "range", data := .fields #[.int lo t, .int hi u, .int 1 v] }, toks := tk } := by
  refine wpAny_pyIter_range (IsRange.new ..) (small_one h1 h2 h3 h4) ?_
  have I1 : Inv X pins σ H { s with heap := s.heap.push { cls := .type "range", data := .fields #[.int lo t, .int hi u, .int 1 v] }, toks := tk } := I.kept fun b o e => Heap.get?_push_of_some _ e
  refine ⟨(s.heap.push { cls := .type "range", data := .fields #[.int lo t, .int hi u, .int 1 v] }).objs.size, [(s.heap.push { cls := .type "range", data := .fields #[.int lo t, .int hi u, .int 1 v] }).objs.size], _, _, H, rfl,
    I1.kept (t' := tk) fun b o e => Heap.get?_push_of_some _ e, turn_range _ lo (hi - lo).toNat, ?_, fun b hb => ?_, q⟩
  · have e1 : lo + ((0 : Nat) : Int) * 1 = lo := by simp
    have e2 : (((hi - lo).toNat : Nat) : Int) - ((0 : Nat) : Int) = Builtin.Range.rangeSize lo hi 1 := by rw [rangeSize_one]; split <;> omega
    show IsRangeIter _ _ (lo + ((0 : Nat) : Int) * 1) ((((hi - lo).toNat : Nat) : Int) - ((0 : Nat) : Int)) 1
    rw [e1, e2]
    exact Heap.get?_push_size _ rfl
  · have e : b = (s.heap.push { cls := .type "range", data := .fields #[.int lo t, .int hi u, .int 1 v] }).objs.size := by simpa using hb
    subst e
    exact I1.fpOk (Nat.le_refl _) (I1.hok.fresh (Nat.le_refl _))
noncomputable def iRng1 (ta : TA) : TI := fun σ H R => ta σ H fun vs H1 => ∃ j : Int, vs = [.int j] ∧ -(2 ^ 62) ≤ j ∧ j < 2 ^ 62 ∧ R (Itr 0 j.toNat) H1
noncomputable def iRng2 (ta : TA) : TI := fun σ H R => ta σ H fun vs H1 => ∃ i j : Int, vs = [.int i, .int j] ∧ (-(2 ^ 62) ≤ i ∧ i < 2 ^ 62 ∧ -(2 ^ 62) ≤ j ∧ j < 2 ^ 62) ∧ R (Itr i (j - i).toNat) H1
theorem pi_range1 {a : Expr} {ta : TA} {p pos : Pos} (hg : Gl X "range") (hm : X.mg "range" = none) (ha : PA X [a] ta) (hs : starEach [a] X.env = [(false, eval a X.env)] := by rfl) : PI X tg (.Call (.Name "range" p) [a] [] pos) (iRng1 ta) := by
  intro pins s σ H R I h
  refine Call_ (ld_blt I hg hm boot_range (PyProof.Rows.callWith_type1 (thn (ha pos pins s σ H _ I h) fun us s1 ⟨vs, H1, I1, r1, q1⟩ => ?_) hs rfl))
  obtain ⟨j, e, q1, q2, q⟩ := q1
  subst e
  cases r1 with
  | cons r rr =>
    cases rr
    obtain ⟨t, rfl⟩ := r
    exact call_range_1 (range_it I1 (by omega) (by omega) q1 q2 (by simpa using q))
noncomputable def tFor (wi : TI) (g : TG) (tb : TS) : TS := fun D σ H => wi σ H fun J H1 => ∃ W : Nat → Nat → St → Hp → Prop, (∃ m, W 0 m σ H1) ∧ ∀ i m σ H, W i m σ H →
  (J.stop i H ∧ D.nx σ H) ∨ (J.go i H ∧ ∃ N : St → Hp → Prop, (∀ σ' H', N σ' H' → ∃ m', m' < m ∧ W (i + 1) m' σ' H') ∧ ∀ x H', J.yld i H x H' → g x σ H' fun σ2 H2 => tb { D with nx := N, ct := N, bk := D.nx } σ2 H2)

noncomputable def pinsAt (fp : List Addr) (h : Heap) : List (Addr × Obj) := fp.filterMap fun b => (h.get? b).map fun o => (b, o)
theorem mem_pinsAt {fp : List Addr} {h : Heap} {b : Addr} {o : Obj} (hb : b ∈ fp) (e : h.get? b = some o) : (b, o) ∈ pinsAt fp h := List.mem_filterMap.mpr ⟨b, hb, by rw [e]; rfl⟩
theorem of_pinsAt {fp : List Addr} {h : Heap} {p : Addr × Obj} (hp : p ∈ pinsAt fp h) : p.1 ∈ fp ∧ h.get? p.1 = some p.2 := by
  obtain ⟨b, hb, e⟩ := List.mem_filterMap.mp hp
  cases q : h.get? b with
  | none => rw [q] at e; cases e
  | some o =>
    rw [q] at e
    have e' : (b, o) = p := Option.some.inj e
    subst e'
    exact ⟨hb, q⟩
theorem Inv.pinned {pins : List (Addr × Obj)} {σ : St} {H : Hp} {s : Shared} {fp : List Addr} (I : Inv X pins σ H s) (hf : ∀ b ∈ fp, FpOk X pins H b) (ho : ∀ b ∈ fp, ∃ o, s.heap.get? b = some o ∧ ∀ v, o.data ≠ .cell v) : Inv X (pins ++ pinsAt fp s.heap) σ H s :=
  I.pins_of fun p hp => (List.mem_append.mp hp).elim (fun z => I.pin p (List.mem_append_right _ z)) fun z => by
    obtain ⟨hb, e⟩ := of_pinsAt z
    obtain ⟨f0, f1, f2, _⟩ := hf p.1 hb
    obtain ⟨o, e', d⟩ := ho p.1 hb
    rw [e] at e'; cases e'
    exact ⟨e, f0, f1, f2, d⟩
theorem Inv.unpinned {pins pl : List (Addr × Obj)} {σ : St} {H : Hp} {s : Shared} (I : Inv X (pins ++ pl) σ H s) : Inv X pins σ H s := I.pins_of fun p hp => I.pin p (List.mem_append_right _ (List.mem_append_left _ hp))
theorem ps_for {iter : Expr} {body : List Stmt} {wi : TI} {g : TG} {tb : TS} {pos : Pos} (hp : PassesOwn (model X.prog X.w) X.A X.env X.xe) (hc : X.calm = true) (hi : PI X tg iter wi) (hg : PG X tg g) (hb : PSs X body tb)
    (hs : ∀ x, foldedSetIterable iter X.env x = pure x := by intro _; rfl) : PS X (.For tg iter body [] pos) (tFor wi g tb) := by
  intro pins s σ H D I h
  refine wpAny_For (thn (hi pins s σ H _ I h) fun v s1 h1 => thn h1 fun itv s2 h2 => ?_) hs
  obtain ⟨it, fp, tn, J, H2, e, I2, T, st2, f2, W, ⟨m0, w0⟩, turn⟩ := h2
  subst e
  -- what stays true of the iterator's objects through the loop
  have stat : ∀ {H' : Hp}, (∀ b ∈ fp, H' b = none) → ∀ b ∈ fp, FpOk X pins H' b := fun hn b hb => ⟨hn b hb, (f2 b hb).2⟩
  refine codeAny_forLoop_any (fun n s' => ∃ i σ' H', Inv X pins σ' H' s' ∧ tn i s'.heap ∧ (∀ b ∈ fp, H' b = none) ∧ W i n σ' H') ?_ m0 ⟨0, σ, H2, I2, st2, fun b hb => (f2 b hb).1, w0⟩
  rintro n s3 ⟨i, σ3, H3, I3, st3, fr3, w3⟩
  rcases turn i n σ3 H3 w3 with ⟨stop, qn⟩ | ⟨go, N, hN, step⟩
  · refine wpAny_passesOwn hp (thn (T.done X rfl rfl rfl hc i pins s3 σ3 H3 X.xe I3 (stat fr3) st3 stop) fun r s4 ⟨hr, I4⟩ => ?_)
    subst hr
    exact wpAny_execs_nil ⟨σ3, H3, I4, qn⟩
  · refine wpAny_passesOwn hp (thn (T.item X rfl rfl rfl hc i pins s3 σ3 H3 X.xe I3 (stat fr3) st3 go) fun r s4 ⟨u, hr, h4⟩ => ?_)
    subst hr
    refine wpAny_passesOwn hp (thn h4 fun _ s5 ⟨x, H5, I5, r5, y5, st5, fr5⟩ => ?_)
    have I5' := I5.pinned (stat fr5) (T.obj _ _ st5)
    refine wpAny_passesOwn hp (thn (hg _ s5 σ3 H5 x u _ I5' r5 (step x H5 y5)) fun _ s6 ⟨σ6, H6, I6, q6⟩ => ?_)
    refine wpAny_passesOwn hp (thn (hb _ s6 σ6 H6 _ I6 q6) fun f s7 q7 => ?_)
    have again : ∀ {σ7 : St} {H7 : Hp}, Inv X (pins ++ pinsAt fp s5.heap) σ7 H7 s7 → N σ7 H7 → ∃ m, m < n ∧ ∃ i σ' H', Inv X pins σ' H' s7 ∧ tn i s7.heap ∧ (∀ b ∈ fp, H' b = none) ∧ W i m σ' H' := fun {σ7 H7} I7 n7 => by
      obtain ⟨m', hm, w7⟩ := hN σ7 H7 n7
      refine ⟨m', hm, i + 1, σ7, H7, I7.unpinned, T.keep _ _ _ st5 fun b hb o e => (I7.pin (b, o) (List.mem_append_right _ (List.mem_append_right _ (mem_pinsAt hb e)))).1, fun b hb => ?_, w7⟩
      obtain ⟨o, e, d⟩ := T.obj _ _ st5 b hb
      exact (I7.pin (b, o) (List.mem_append_right _ (List.mem_append_right _ (mem_pinsAt hb e)))).2.1
    cases f with
    | next => obtain ⟨σ7, H7, I7, n7⟩ := q7; exact again I7 n7
    | cont => obtain ⟨σ7, H7, I7, n7⟩ := q7; exact again I7 n7
    | brk => obtain ⟨σ7, H7, I7, q7⟩ := q7; exact ⟨σ7, H7, I7.unpinned, q7⟩
    | ret v => obtain ⟨x7, σ7, H7, I7, r7, q7⟩ := q7; exact ⟨x7, σ7, H7, I7.unpinned, r7, q7⟩
end



theorem for_range {lo : Int} {n : Nat} {g : TG} {tb : TS} {D : Ends} {σ : St} {H : Hp} (Pv : Nat → St → Hp → Prop) (h0 : Pv 0 σ H)
    (hs : ∀ i σ H, i < n → Pv i σ H → g (.int (lo + i)) σ H fun σ2 H2 => tb { D with nx := Pv (i + 1), ct := Pv (i + 1), bk := D.nx } σ2 H2) (hd : ∀ σ H, Pv n σ H → D.nx σ H) :
    ∃ W : Nat → Nat → St → Hp → Prop, (∃ m, W 0 m σ H) ∧ ∀ i m σ H, W i m σ H →
      ((Itr lo n).stop i H ∧ D.nx σ H) ∨ ((Itr lo n).go i H ∧ ∃ N : St → Hp → Prop, (∀ σ' H', N σ' H' → ∃ m', m' < m ∧ W (i + 1) m' σ' H') ∧ ∀ x H', (Itr lo n).yld i H x H' → g x σ H' fun σ2 H2 => tb { D with nx := N, ct := N, bk := D.nx } σ2 H2) := by
  refine ⟨fun i m σ H => m = n - i ∧ i ≤ n ∧ Pv i σ H, ⟨n, by simp, Nat.zero_le _, h0⟩, ?_⟩
  rintro i m σ H ⟨rfl, hi, p⟩
  by_cases hlt : i < n
  · refine .inr ⟨hlt, Pv (i + 1), fun σ' H' p' => ⟨n - (i + 1), by omega, rfl, hlt, p'⟩, fun x H' y => ?_⟩
    obtain ⟨e, y⟩ := y
    subst e y
    exact hs i σ _ hlt p
  · have e : i = n := by omega
    subst e
    exact .inl ⟨Nat.le_refl _, hd σ H p⟩

end L2

namespace L2
open PySem PySem.Spec PyProof.Rows

noncomputable abbrev R2 := V → V → Hp → VK → Prop

noncomputable def OpR (X : Cx) (f : Value → Value → Sem Value) (r : R2) : Prop :=
  ∀ (pins : List (Addr × Obj)) (s : Shared) (σ : St) (H : Hp) (x y : V) (v u : Value) (Q : VK), Inv X pins σ H s → RelV x v → RelV y u → r x y H Q →
    wpAny (model X.prog X.w) X.A (f v u) (EP X pins σ Q) X.xe s

noncomputable def UnR (X : Cx) (f : Value → Sem Value) (r : V → Hp → VK → Prop) : Prop :=
  ∀ (pins : List (Addr × Obj)) (s : Shared) (σ : St) (H : Hp) (x : V) (v : Value) (Q : VK), Inv X pins σ H s → RelV x v → r x H Q →
    wpAny (model X.prog X.w) X.A (f v) (EP X pins σ Q) X.xe s

noncomputable def CallR (X : Cx) (f : Value) (r : List V → Hp → VK → Prop) : Prop :=
  ∀ (pins : List (Addr × Obj)) (s : Shared) (σ : St) (H : Hp) (xs : List V) (us : List Value) (Q : VK), Inv X pins σ H s → Vals xs us → r xs H Q →
    wpAny (model X.prog X.w) X.A (call f us) (EP X pins σ Q) X.xe s

noncomputable def TruR (X : Cx) (r : V → Hp → (Bool → Hp → Prop) → Prop) : Prop :=
  ∀ (pins : List (Addr × Obj)) (s : Shared) (σ : St) (H : Hp) (x : V) (v : Value) (Q : Bool → Hp → Prop), Inv X pins σ H s → RelV x v → r x H Q →
    wpAny (model X.prog X.w) X.A (truthy v) (TP X pins σ Q) X.xe s

noncomputable def tOp (r : R2) (ta tb : TE) : TE := fun σ H Q => ta σ H fun x H1 => tb σ H1 fun y H2 => r x y H2 Q
noncomputable def tUn (r : V → Hp → VK → Prop) (ta : TE) : TE := fun σ H Q => ta σ H fun x H1 => r x H1 Q

noncomputable def rI (C : Int → Int → Prop) (g : Int → Int → V) : R2 := fun x y H Q => ∃ i j, x = .int i ∧ y = .int j ∧ C i j ∧ Q (g i j) H
noncomputable def rI0 (g : Int → Int → V) : R2 := fun x y H Q => ∃ i j, x = .int i ∧ y = .int j ∧ Q (g i j) H
noncomputable def rU (g : Int → V) : V → Hp → VK → Prop := fun x H Q => ∃ i, x = .int i ∧ Q (g i) H

section
variable {X : Cx} {a b c : Expr} {ta tb tc : TE} {pos : Pos}

theorem binT (ha : PE X a ta) (hb : PE X b tb) {pins : List (Addr × Obj)} {s : Shared} {σ : St} {H : Hp} {R : V → V → Hp → Prop} (I : Inv X pins σ H s)
    (h : ta σ H fun x H1 => tb σ H1 fun y H2 => R x y H2) {Q : Value → Shared → Prop} {f : Value → Value → Sem Value}
    (hf : ∀ v u s2 x y H2, Inv X pins σ H2 s2 → RelV x v → RelV y u → R x y H2 → wpAny (model X.prog X.w) X.A (f v u) Q X.xe s2) :
    wpAny (model X.prog X.w) X.A (eval a X.env) (fun v s₁ => wpAny (model X.prog X.w) X.A (eval b X.env) (fun u s₂ => wpAny (model X.prog X.w) X.A (f v u) Q X.xe s₂) X.xe s₁) X.xe s := by
  refine thn (ha pins s σ H _ I h) fun v s1 ⟨x, H1, I1, r1, q1⟩ => ?_
  refine thn (hb pins s1 σ H1 _ I1 q1) fun u s2 ⟨y, H2, I2, r2, q2⟩ => ?_
  exact hf v u s2 x y H2 I2 r1 r2 q2

theorem pe_op {op : Operator} {r : R2} (ho : OpR X (binaryOp op) r) (ha : PE X a ta) (hb : PE X b tb) : PE X (.BinOp a op b pos) (tOp r ta tb) := by
  intro pins s σ H Q I h
  exact wpAny_BinOp (binT ha hb I h fun v u s2 x y H2 I2 rx ry q => ho pins s2 σ H2 x y v u Q I2 rx ry q)
theorem pe_un {op : UnaryOp} {r : V → Hp → VK → Prop} (ho : UnR X (unaryOp op) r) (ha : PE X a ta) : PE X (.UnaryOp op a pos) (tUn r ta) := by
  intro pins s σ H Q I h
  exact UnaryOp_ (thn (ha pins s σ H _ I h) fun v s1 ⟨x, H1, I1, r1, q1⟩ => ho pins s1 σ H1 x v Q I1 r1 q1)

theorem opI {f : Value → Value → Sem Value} {C : Int → Int → Prop} {g : Int → Int → Int}
    (rule : ∀ (i j : Int) (t u : Tok) (s : Shared) (Q : Value → Shared → Prop) (E : Value → Shared → Prop), C i j → Q (.int (g i j) s.toks) { s with toks := s.toks + 1 } → wpAny (model X.prog X.w) X.A (f (.int i t) (.int j u)) Q E s) :
    OpR X f (rI C fun i j => .int (g i j)) := by
  intro pins s σ H x y v u Q I rx ry h
  obtain ⟨i, j, rfl, rfl, hc, q⟩ := h
  obtain ⟨t, rfl⟩ := rx
  obtain ⟨t', rfl⟩ := ry
  exact rule i j t t' s _ _ hc ⟨.int (g i j), H, I.tok _, ⟨_, rfl⟩, q⟩
theorem opI0 {f : Value → Value → Sem Value} {g : Int → Int → Int}
    (rule : ∀ (i j : Int) (t u : Tok) (s : Shared) (Q : Value → Shared → Prop) (E : Value → Shared → Prop), Q (.int (g i j) s.toks) { s with toks := s.toks + 1 } → wpAny (model X.prog X.w) X.A (f (.int i t) (.int j u)) Q E s) :
    OpR X f (rI0 fun i j => .int (g i j)) := by
  intro pins s σ H x y v u Q I rx ry h
  obtain ⟨i, j, rfl, rfl, q⟩ := h
  obtain ⟨t, rfl⟩ := rx
  obtain ⟨t', rfl⟩ := ry
  exact rule i j t t' s _ _ ⟨.int (g i j), H, I.tok _, ⟨_, rfl⟩, q⟩
theorem opB0 {f : Value → Value → Sem Value} {g : Int → Int → Bool}
    (rule : ∀ (i j : Int) (t u : Tok) (s : Shared) (Q : Value → Shared → Prop) (E : Value → Shared → Prop), Q (.bool (g i j)) s → wpAny (model X.prog X.w) X.A (f (.int i t) (.int j u)) Q E s) :
    OpR X f (rI0 fun i j => .bl (g i j)) := by
  intro pins s σ H x y v u Q I rx ry h
  obtain ⟨i, j, rfl, rfl, q⟩ := h
  obtain ⟨t, rfl⟩ := rx
  obtain ⟨t', rfl⟩ := ry
  exact rule i j t t' s _ _ ⟨.bl (g i j), H, I, rfl, q⟩

noncomputable def CDiv (i j : Int) : Prop := 0 < j ∧ j < 1073741824
noncomputable def CDivN (i j : Int) : Prop := j ≠ 0 ∧ j.natAbs < 1073741824
noncomputable def CPow (i j : Int) : Prop := 0 ≤ j ∧ j ≤ 1000000 ∧ i.natAbs < 2 ^ 64
noncomputable def CMul (i j : Int) : Prop := (-(2 ^ 64) < i ∧ i < 2 ^ 64) ∨ (-(2 ^ 64) < j ∧ j < 2 ^ 64)
theorem CMul.ok {i j : Int} (h : CMul i j) : IntMulOk i j := by
  rcases h with ⟨h1, h2⟩ | ⟨h1, h2⟩
  · exact .of_left (intBits_le_64 h1 h2)
  · exact .of_right (intBits_le_64 h1 h2)
theorem op_add : OpR X (binaryOp .Add) (rI0 fun i j => .int (i + j)) := opI0 fun _ _ _ _ _ _ _ q => add_int q
theorem op_sub : OpR X (binaryOp .Sub) (rI0 fun i j => .int (i - j)) := opI0 fun _ _ _ _ _ _ _ q => sub_int q
theorem op_mul : OpR X (binaryOp .Mult) (rI CMul fun i j => .int (i * j)) := opI fun _ _ _ _ _ _ _ hc q => mul_int q hc.ok

theorem op_fdiv : OpR X (binaryOp .FloorDiv) (rI CDiv fun i j => .int (i / j)) := opI fun i j _ _ _ _ _ hc q => by
  have h1 : (0 : Int) < j := hc.1
  have h2 : j < 1073741824 := hc.2
  exact floordiv_int (by omega) (by rw [Int.fdiv_eq_ediv_of_nonneg i (by omega)]; exact q) (.inl (PyProof.noPylong_small (by omega)))
theorem op_mod : OpR X (binaryOp .Mod) (rI (fun _ j => 0 < j) fun i j => .int (i % j)) := opI fun i j _ _ _ _ _ hc q => by
  have h1 : (0 : Int) < j := hc
  exact mod_int' (by omega) (by rw [Int.fmod_eq_emod_of_nonneg i (by omega)]; exact q)
theorem op_pow : OpR X (binaryOp .Pow) (rI CPow fun i j => .int (i ^ j.toNat)) := opI fun _ _ _ _ _ _ _ hc q => pow_int_small hc.1 hc.2.1 hc.2.2 q
theorem unI {f : Value → Sem Value} {g : Int → Int}
    (rule : ∀ (i : Int) (t : Tok) (s : Shared) (Q : Value → Shared → Prop) (E : Value → Shared → Prop), Q (.int (g i) s.toks) { s with toks := s.toks + 1 } → wpAny (model X.prog X.w) X.A (f (.int i t)) Q E s) :
    UnR X f (rU fun i => .int (g i)) := by
  intro pins s σ H x v Q I rx h
  obtain ⟨i, rfl, q⟩ := h
  obtain ⟨t, rfl⟩ := rx
  exact rule i t s _ _ ⟨.int (g i), H, I.tok _, ⟨_, rfl⟩, q⟩
theorem un_neg : UnR X (unaryOp .USub) (rU fun i => .int (-i)) := unI fun _ _ _ _ _ q => neg_int q
end



noncomputable def scal : V → V → Bool
  | .non, .non => true | .non, .int _ => true | .int _, .non => true | .non, .bl _ => true | .bl _, .non => true | .non, .str _ => true | .str _, .non => true
  | .int _, .int _ => true | .bl _, .bl _ => true | .str _, .str _ => true | .byt _, .byt _ => true
  | .int _, .str _ => true | .str _, .int _ => true | .bl _, .str _ => true | .str _, .bl _ => true
  | _, _ => false
noncomputable def rEq : R2 := fun x y H Q => scal x y = true ∧ Q (.bl (decide (x = y))) H
noncomputable def rNe : R2 := fun x y H Q => scal x y = true ∧ Q (.bl (!decide (x = y))) H

theorem dec_int {i j : Int} : decide (V.int i = V.int j) = (i == j) := by
  rw [Bool.eq_iff_iff]
  simp
theorem dec_bl {i j : Bool} : decide (V.bl i = V.bl j) = (i == j) := by
  rw [Bool.eq_iff_iff]
  simp
theorem dec_str {i j : Str} : decide (V.str i = V.str j) = (i == j) := by
  rw [Bool.eq_iff_iff]
  simp
theorem dec_byt {i j : Array UInt8} : decide (V.byt i = V.byt j) = (i.toList == j.toList) := by
  rw [Bool.eq_iff_iff]
  cases i
  cases j
  simp

section
variable {X : Cx} {a b c : Expr} {ta tb tc : TE} {pos : Pos}
theorem fin_bl {pins : List (Addr × Obj)} {σ : St} {H : Hp} {s : Shared} {Q : VK} {k k' : Bool} (I : Inv X pins σ H s) (q : Q (.bl k) H) (e : k = k') : EP X pins σ Q (.bool k') s := by
  subst e
  exact ⟨.bl k, H, I, rfl, q⟩
theorem op_eq : OpR X (compareOp .Eq) rEq := by
  intro pins s σ H x y v u Q I rx ry h
  obtain ⟨hs, q⟩ := h
  cases x with
  | non =>
    cases rx
    cases y with
    | non => cases ry; exact PySem.EqNone.eq_none_none (fin_bl I q (by simp))
    | bl j => cases ry; exact PySem.EqNone.eq_none_bool (fin_bl I q (by simp))
    | int j => obtain ⟨t', rfl⟩ := ry; exact PySem.EqNone.eq_none_int (fin_bl I q (by simp))
    | str j => obtain ⟨t', rfl⟩ := ry; exact PySem.EqNone.eq_none_str (fin_bl I q (by simp))
    | _ => exact absurd (show false = true from hs) Bool.false_ne_true
  | bl i =>
    cases rx
    cases y with
    | non => cases ry; exact PySem.EqNone.eq_bool_none (fin_bl I q (by simp))
    | bl j => cases ry; exact eq_bool (fin_bl I q dec_bl)
    | str j => obtain ⟨t', rfl⟩ := ry; exact PySem.EqMixed.eq_bool_str (fin_bl I q (by simp))
    | _ => exact absurd (show false = true from hs) Bool.false_ne_true
  | int i =>
    obtain ⟨t, rfl⟩ := rx
    cases y with
    | non => cases ry; exact PySem.EqNone.eq_int_none (fin_bl I q (by simp))
    | int j => obtain ⟨t', rfl⟩ := ry; exact eq_int (fin_bl I q dec_int)
    | str j => obtain ⟨t', rfl⟩ := ry; exact PySem.EqMixed.eq_int_str (fin_bl I q (by simp))
    | _ => exact absurd (show false = true from hs) Bool.false_ne_true
  | str i =>
    obtain ⟨t, rfl⟩ := rx
    cases y with
    | non => cases ry; exact PySem.EqNone.eq_str_none (fin_bl I q (by simp))
    | bl j => cases ry; exact PySem.EqMixed.eq_str_bool (fin_bl I q (by simp))
    | int j => obtain ⟨t', rfl⟩ := ry; exact PySem.EqMixed.eq_str_int (fin_bl I q (by simp))
    | str j => obtain ⟨t', rfl⟩ := ry; exact eq_str (fin_bl I q dec_str)
    | _ => exact absurd (show false = true from hs) Bool.false_ne_true
  | byt i =>
    obtain ⟨t, rfl⟩ := rx
    cases y with
    | byt j => obtain ⟨t', rfl⟩ := ry; exact PySem.W.eq_bytes (fin_bl I q dec_byt)
    | _ => exact absurd (show false = true from hs) Bool.false_ne_true
  | _ => cases y <;> exact absurd (show false = true from hs) Bool.false_ne_true
theorem op_ne : OpR X (compareOp .NotEq) rNe := by
  intro pins s σ H x y v u Q I rx ry h
  obtain ⟨hs, q⟩ := h
  cases x with
  | non =>
    cases rx
    cases y with
    | non => cases ry; exact PySem.EqNone.ne_none_none (fin_bl I q (by simp))
    | bl j => cases ry; exact PySem.EqNone.ne_none_bool (fin_bl I q (by simp))
    | int j => obtain ⟨t', rfl⟩ := ry; exact PySem.EqNone.ne_none_int (fin_bl I q (by simp))
    | str j => obtain ⟨t', rfl⟩ := ry; exact PySem.EqNone.ne_none_str (fin_bl I q (by simp))
    | _ => exact absurd (show false = true from hs) Bool.false_ne_true
  | bl i =>
    cases rx
    cases y with
    | non => cases ry; exact PySem.EqNone.ne_bool_none (fin_bl I q (by simp))
    | bl j => cases ry; exact ne_bool (fin_bl I q (congrArg not dec_bl))
    | str j => obtain ⟨t', rfl⟩ := ry; exact PySem.EqMixed.ne_bool_str (fin_bl I q (by simp))
    | _ => exact absurd (show false = true from hs) Bool.false_ne_true
  | int i =>
    obtain ⟨t, rfl⟩ := rx
    cases y with
    | non => cases ry; exact PySem.EqNone.ne_int_none (fin_bl I q (by simp))
    | int j => obtain ⟨t', rfl⟩ := ry; exact ne_int (fin_bl I q (congrArg not dec_int))
    | str j => obtain ⟨t', rfl⟩ := ry; exact PySem.EqMixed.ne_int_str (fin_bl I q (by simp))
    | _ => exact absurd (show false = true from hs) Bool.false_ne_true
  | str i =>
    obtain ⟨t, rfl⟩ := rx
    cases y with
    | non => cases ry; exact PySem.EqNone.ne_str_none (fin_bl I q (by simp))
    | bl j => cases ry; exact PySem.EqMixed.ne_str_bool (fin_bl I q (by simp))
    | int j => obtain ⟨t', rfl⟩ := ry; exact PySem.EqMixed.ne_str_int (fin_bl I q (by simp))
    | str j => obtain ⟨t', rfl⟩ := ry; exact ne_str (fin_bl I q (congrArg not dec_str))
    | _ => exact absurd (show false = true from hs) Bool.false_ne_true
  | byt i =>
    obtain ⟨t, rfl⟩ := rx
    cases y with
    | byt j => obtain ⟨t', rfl⟩ := ry; exact PySem.W.ne_bytes (fin_bl I q (congrArg not dec_byt))
    | _ => exact absurd (show false = true from hs) Bool.false_ne_true
  | _ => cases y <;> exact absurd (show false = true from hs) Bool.false_ne_true

theorem op_lt : OpR X (compareOp .Lt) (rI0 fun i j => .bl (decide (i < j))) := opB0 fun _ _ _ _ _ _ _ q => lt_int q
theorem op_le : OpR X (compareOp .LtE) (rI0 fun i j => .bl (decide (i ≤ j))) := opB0 fun _ _ _ _ _ _ _ q => le_int q
theorem op_gt : OpR X (compareOp .Gt) (rI0 fun i j => .bl (decide (j < i))) := opB0 fun _ _ _ _ _ _ _ q => gt_int q
theorem op_ge : OpR X (compareOp .GtE) (rI0 fun i j => .bl (decide (j ≤ i))) := opB0 fun _ _ _ _ _ _ _ q => ge_int q
theorem op_in_str : OpR X (compareOp .In) (fun x y H Q => ∃ i j, x = .str i ∧ y = .str j ∧ Q (.bl (!(Builtin.Str.occurrences j i 0 j.length 1).isEmpty)) H) := by
  intro pins s σ H x y v u Q I rx ry h
  obtain ⟨i, j, rfl, rfl, q⟩ := h
  obtain ⟨t, rfl⟩ := rx
  obtain ⟨t', rfl⟩ := ry
  exact in_str (fin_bl I q rfl)


theorem op_isN : OpR X (compareOp .Is) (fun x y H Q => y = .non ∧ Q (.bl (decide (x = .non))) H) := by
  intro pins s σ H x y v u Q I rx ry h
  obtain ⟨rfl, q⟩ := h
  cases ry
  refine is_none_gen (fin_bl I q ?_)
  cases x <;> first
    | (cases rx; rfl)
    | (obtain ⟨t, rfl⟩ := rx; rfl)
theorem op_notN : OpR X (compareOp .IsNot) (fun x y H Q => y = .non ∧ Q (.bl (!decide (x = .non))) H) := by
  intro pins s σ H x y v u Q I rx ry h
  obtain ⟨rfl, q⟩ := h
  cases ry
  refine isnot_none_gen (fin_bl I q ?_)
  cases x <;> first
    | (cases rx; rfl)
    | (obtain ⟨t, rfl⟩ := rx; rfl)

theorem op_notin_str : OpR X (compareOp .NotIn) (fun x y H Q => ∃ i j, x = .str i ∧ y = .str j ∧ Q (.bl (!(!(Builtin.Str.occurrences j i 0 j.length 1).isEmpty))) H) := by
  intro pins s σ H x y v u Q I rx ry h
  obtain ⟨i, j, rfl, rfl, q⟩ := h
  obtain ⟨t, rfl⟩ := rx
  obtain ⟨t', rfl⟩ := ry
  exact notIn_str (fin_bl I q rfl)

noncomputable def isObj : HO → Bool
  | .lst _ => true
  | .ins _ _ _ => true
  | _ => false
theorem nomark (b : Expr) {op : CmpOp} (h : op ≠ .In := by decide) (h2 : op ≠ .NotIn := by decide) : behindInMarks op b = false := by
  have e1 : (op == CmpOp.In) = false := by cases op <;> first | rfl | exact absurd rfl h
  have e2 : (op == CmpOp.NotIn) = false := by cases op <;> first | rfl | exact absurd rfl h2
  cases b <;> simp [behindInMarks, e1, e2]

theorem pe_cmpR {op : CmpOp} {r : R2} (ho : OpR X (compareOp op) r) (ha : PE X a ta) (hb : PE X b tb) (hm : behindInMarks op b = false) : PE X (.Compare a [op] [b] pos) (tOp r ta tb) := by
  intro pins s σ H Q I h
  exact wpAny_Compare1 (binT ha hb I h fun v u s2 x y H2 I2 rx ry q => ho pins s2 σ H2 x y v u Q I2 rx ry q) hm

noncomputable def tTest (t : TE) : TT := fun σ H Q => t σ H fun x H' => ∃ k, x = .bl k ∧ Q k H'
theorem pt_cmpR {op : CmpOp} {r : R2} (ho : OpR X (compareOp op) r) (ha : PE X a ta) (hb : PE X b tb) (hm : behindInMarks op b = false) : PT X (.Compare a [op] [b] pos) (tTest (tOp r ta tb)) := by
  intro pins s σ H Q I h
  refine wpAny_isTrue_Compare1 (thn (ha pins s σ H _ I h) fun v s1 ⟨x, H1, I1, r1, q1⟩ => thn (hb pins s1 σ H1 _ I1 q1) fun u s2 ⟨y, H2, I2, r2, q2⟩ =>
    thn (ho pins s2 σ H2 x y v u _ I2 r1 r2 q2) fun c s3 ⟨z, H3, I3, r3, k, e, q3⟩ => ?_) hm
  subst e
  cases r3
  exact wpAny_truthy_bool ⟨H3, I3, q3⟩

noncomputable def tChain (r r' : R2) (ta tb tc : TE) : TE := fun σ H Q => ta σ H fun x H1 => tb σ H1 fun y H2 => r x y H2 fun z H3 => ∃ k, z = .bl k ∧
  (if k = true then tc σ H3 fun w' H4 => r' y w' H4 Q else Q (.bl false) H3)
theorem pe_chain {op op' : CmpOp} {r r' : R2} (ho : OpR X (compareOp op) r) (ho' : OpR X (compareOp op') r') (ha : PE X a ta) (hb : PE X b tb) (hc : PE X c tc)
    (hm : lastMarks [op, op'] [b, c] = false := by with_unfolding_all rfl) : PE X (.Compare a [op, op'] [b, c] pos) (tChain r r' ta tb tc) := by
  intro pins s σ H Q I h
  refine Compare_chain (thn (ha pins s σ H _ I h) fun v s1 ⟨x, H1, I1, r1, q1⟩ => chain_link (thn (hb pins s1 σ H1 _ I1 q1) fun u s2 ⟨y, H2, I2, r2, q2⟩ =>
    thn (ho pins s2 σ H2 x y v u _ I2 r1 r2 q2) fun d s3 ⟨z, H3, I3, r3, k, e, q3⟩ => ?_)) hm
  subst e
  cases r3
  refine wpAny_truthy_bool ?_
  cases k with
  | false => exact ite_ff ⟨.bl false, H3, I3, rfl, q3⟩
  | true => exact ite_tt (chain_last (thn (hc pins s3 σ H3 _ I3 q3) fun w' s4 ⟨z', H4, I4, r4, q4⟩ => ho' pins s4 σ H4 y z' u w' Q I4 r2 r4 q4))
theorem pt_chain {op op' : CmpOp} {r r' : R2} (ho : OpR X (compareOp op) r) (ho' : OpR X (compareOp op') r') (ha : PE X a ta) (hb : PE X b tb) (hc : PE X c tc)
    (hm : lastMarks [op, op'] [b, c] = false := by with_unfolding_all rfl) : PT X (.Compare a [op, op'] [b, c] pos) (tTest (tChain r r' ta tb tc)) := by
  intro pins s σ H Q I h
  refine isTrue_chain (thn (ha pins s σ H _ I h) fun v s1 ⟨x, H1, I1, r1, q1⟩ => test_link (thn (hb pins s1 σ H1 _ I1 q1) fun u s2 ⟨y, H2, I2, r2, q2⟩ =>
    thn (ho pins s2 σ H2 x y v u _ I2 r1 r2 q2) fun d s3 ⟨z, H3, I3, r3, k, e, q3⟩ => ?_)) hm
  subst e
  cases r3
  refine wpAny_truthy_bool ?_
  cases k with
  | false =>
    obtain ⟨k', e', q'⟩ := q3
    cases e'
    exact ite_ff ⟨H3, I3, q'⟩
  | true =>
    refine ite_tt (test_last (thn (hc pins s3 σ H3 _ I3 q3) fun w' s4 ⟨z', H4, I4, r4, q4⟩ => thn (ho' pins s4 σ H4 y z' u w' _ I4 r2 r4 q4) fun d' s5 ⟨z2, H5, I5, r5, k2, e2, q5⟩ => ?_))
    subst e2
    cases r5
    exact wpAny_truthy_bool ⟨H5, I5, q5⟩



noncomputable def TruV (K : PySem.W.Frag) (x : V) (H : Hp) (k : Bool) : Prop :=
  match x with
  | .non => k = false
  | .bl b => k = b
  | .int i => k = (i != 0)
  | .str y => y.length ≤ sizeLine ∧ k = ((y.length : Int) != 0)
  | .byt y => y.size ≤ sizeLine ∧ k = ((y.size : Int) != 0)
  | .ref p => (∃ xs, SqL K H p xs ∧ k = !xs.isEmpty) ∨ (∃ xs, SqT K H p xs ∧ k = !xs.isEmpty) ∨ ∃ kvs, H p = some (.dK kvs) ∧ k = !kvs.isEmpty
  | _ => False
theorem line63 : (sizeLine : Nat) < 2 ^ 63 := by rw [sizeLine_eq]; decide
theorem op_add_str : OpR X (binaryOp .Add) (fun x y H Q => ∃ i j, x = .str i ∧ y = .str j ∧ i.length + j.length ≤ sizeLine ∧ Q (.str (i ++ j)) H) := by
  intro pins s σ H x y v u Q I rx ry h
  obtain ⟨i, j, rfl, rfl, hz, q⟩ := h
  obtain ⟨t, rfl⟩ := rx
  obtain ⟨t', rfl⟩ := ry
  exact add_str (fun t' tk => ⟨.str (i ++ j), H, I.tok _, ⟨_, rfl⟩, q⟩) hz
noncomputable def PlainIxT (b : Expr) : Prop := ∀ o i, subscripted b false o i = operate [o, i] (getItem o i)

theorem vals1 {x : V} {us : List Value} (r : Vals [x] us) : ∃ u, us = [u] ∧ RelV x u := by
  cases r with
  | cons r1 r2 => cases r2; exact ⟨_, rfl, r1⟩
theorem vals2 {x y : V} {us : List Value} (r : Vals [x, y] us) : ∃ u w', us = [u, w'] ∧ RelV x u ∧ RelV y w' := by
  cases r with
  | cons r1 r2 =>
    cases r2 with
    | cons r3 r4 => cases r4; exact ⟨_, _, rfl, r1, r3⟩
theorem call_abs : CallR X (.builtin "abs") (fun xs H Q => ∃ i, xs = [.int i] ∧ Q (.int (if i < 0 then -i else i)) H) := by
  intro pins s σ H xs us Q I r h
  obtain ⟨i, rfl, q⟩ := h
  obtain ⟨u, rfl, t, rfl⟩ := vals1 r
  exact call_abs_int fun u tk => ⟨.int (if i < 0 then -i else i), H, I.tok _, ⟨_, rfl⟩, q⟩
theorem call_int1 : CallR X (.type "int") (fun xs H Q => (∃ i, xs = [.int i] ∧ Q (.int i) H) ∨ ∃ k, xs = [.bl k] ∧ Q (.int (if k then 1 else 0)) H) := by
  intro pins s σ H xs us Q I r h
  rcases h with ⟨i, rfl, q⟩ | ⟨k, rfl, q⟩
  · obtain ⟨u, rfl, t, rfl⟩ := vals1 r
    exact call_int_int ⟨.int i, H, I, ⟨_, rfl⟩, q⟩
  · obtain ⟨u, rfl, r1⟩ := vals1 r
    cases r1
    exact call_int_bool ⟨.int (if k then 1 else 0), H, I.tok _, ⟨_, rfl⟩, q⟩
theorem call_str_int : CallR X (.type "str") (fun xs H Q => ∃ i, xs = [.int i] ∧ i.natAbs.log2 < 1920 ∧ Q (.str (toString i)) H) := by
  intro pins s σ H xs us Q I r h
  obtain ⟨i, rfl, hz, q⟩ := h
  obtain ⟨u, rfl, t, rfl⟩ := vals1 r
  exact PySem.P.str_of_int hz ⟨.str _, H, I.tok _, ⟨_, rfl⟩, q⟩
noncomputable def LenV (K : PySem.W.Frag) (x : V) (H : Hp) (n : Nat) : Prop :=
  match x with
  | .str y => y.length ≤ sizeLine ∧ n = y.length
  | .byt y => y.size ≤ sizeLine ∧ n = y.size
  | .ref p => (∃ xs, SqL K H p xs ∧ n = xs.length) ∨ ∃ xs, SqT K H p xs ∧ n = xs.length
  | _ => False
end
end L2

namespace L2
open PySem PySem.Spec PyProof.Rows


structure ObjM (h : Heap) (x dx C : Addr) (mA : Str → Option Value) : Prop where
  obj : h.get? x = some (PySem.W.instObj C dx)
  ns : h.Ns1 dx mA
  ne : dx ≠ x

theorem lookIn_ns {h : Heap} {dx : Addr} {mA : Str → Option Value} (n : h.Ns1 dx mA) : ∃ od, h.get? dx = some od ∧ ∀ name, PySem.W.lookIn name od = some (mA name) := by
  obtain ⟨o, es, ep, ho, hd, hk, _, hm⟩ := n
  refine ⟨o, ho, fun name => ?_⟩
  have e := hm name
  unfold nsFind findBy at e
  rw [← Array.find?_toList] at e
  unfold PySem.W.lookIn
  rw [hd]
  dsimp only
  split
  · rename_i y q
    rw [q] at e
    exact congrArg some e
  · rename_i q
    rw [q] at e
    have a : es.toList.any (·.refKey) = false := by
      rw [List.any_eq_false]
      intro y hy
      obtain ⟨z, t, hkey⟩ := hk y (Array.mem_toList_iff.mp hy)
      simp [DictEntry.refKey, hkey]
    have a' : ¬ es.toList.any (·.refKey) = true := by rw [a]; exact Bool.false_ne_true
    rw [if_neg a']
    exact congrArg some e

theorem ObjM.look {h : Heap} {x dx C : Addr} {mA : Str → Option Value} (I : ObjM h x dx C mA) : ∃ od, PySem.W.InstAt h x (PySem.W.instObj C dx) C (some od) ∧ ∀ name, PySem.W.lookIn name od = some (mA name) :=
  let ⟨od, ho, hl⟩ := lookIn_ns I.ns
  ⟨od, ⟨I.obj, rfl, rfl, ho⟩, hl⟩

section
variable {prog : Program} {w : World} {A : Around} {E : Value → Shared → Prop} {s : Shared} {K : PySem.W.Frag} {x dx C f : Addr} {mA : Str → Option Value} {name : Str} {v : Value}

end


noncomputable def putF (f : Str) (v : V) : List (Str × V) → List (Str × V)
  | [] => [(f, v)]
  | (g, x) :: r => if g = f then (g, v) :: r else (g, x) :: putF f v r
section
variable {P : Program} {w : World} {H H' : Hp} {h h' : Heap} {a C dx : Addr} {fs fs' : List (Str × V)}
theorem ins_get (hok : HOk P w H h) (e : H a = some (.ins C dx fs)) : ∃ mA, ObjM h a dx C mA ∧ (∀ f, RelO (fs.lookup f) (mA f)) ∧ PySem.Within mA (fs.map (·.1)) ∧ fs.length ≤ 1000 ∧ H dx = some (.own a) := by
  obtain ⟨d, z, ne, ob, mA, n, r, q⟩ := (show ObjOk P w H h a (.ins C dx fs) from hok a _ e)
  exact ⟨mA, ⟨ob, n, ne⟩, r, q, z, d⟩
end


structure Cls (K : PySem.W.Frag) (C : Addr) : Prop where
  pg : PySem.W.plainGet K C Str.empty = true
  hd : PySem.W.hasDictIn K C = true
  po : PySem.W.plainOver K C = true
  sa : PySem.W.findIn K (.ref C) "__setattr__" = some (some (.builtin "object.__setattr__"))
theorem Cls.get {K : PySem.W.Frag} {C : Addr} (c : Cls K C) (f : Str) : PySem.W.plainGet K C f = true := c.pg

noncomputable def NoAttr (K : PySem.W.Frag) (C : Addr) (f : Str) : Prop := PySem.W.findIn K (.ref C) f = some none
structure Con (K : PySem.W.Frag) (C : Addr) (f : Str) (v : V) (u : Value) : Prop where
  at_ : PySem.W.findIn K (.ref C) f = some (some u)
  rel : RelV v u
  get : PySem.W.specialIn K u "__get__" = some none
  cp : PySem.W.copiedNames.contains f = false

structure Meth (K : PySem.W.Frag) (C : Addr) (m : Str) (f : Addr) : Prop where
  at_ : PySem.W.findIn K (.ref C) m = some (some (.ref f))
  fn : PySem.W.isFn K (.ref f) = true
  kp : PySem.W.keepIn K (.ref f) = true

section
variable {X : Cx} {pins : List (Addr × Obj)} {σ : St} {H : Hp} {s : Shared} {a C dx : Addr} {fs : List (Str × V)} {f : Str} {v : V} {A : Around} {E : Value → Shared → Prop}

end



noncomputable def tFld (K : PySem.W.Frag) (ta : TE) (f : Str) : TE := fun σ H Q => ta σ H fun x H1 => ∃ a C dx fs v, x = .ref a ∧ H1 a = some (.ins C dx fs) ∧ Cls K C ∧ NoAttr K C f ∧ fs.lookup f = some v ∧ Q v H1

noncomputable def tCon (K : PySem.W.Frag) (ta : TE) (f : Str) : TE := fun σ H Q => ta σ H fun x H1 => ∃ a C dx fs v u, x = .ref a ∧ H1 a = some (.ins C dx fs) ∧ Cls K C ∧ Con K C f v u ∧ fs.lookup f = none ∧ Q v H1

noncomputable def sFld (K : PySem.W.Frag) (ta tv : TE) (f : Str) : TS := fun D σ H => tv σ H fun y H1 => ta σ H1 fun x H2 => ∃ a C dx fs, x = .ref a ∧ H2 a = some (.ins C dx fs) ∧ Cls K C ∧ NoAttr K C f ∧ fs.length < 1000 ∧
  D.nx σ (upd H2 a (.ins C dx (putF f y fs)))

noncomputable def InOp (X : Cx) (op : Operator) (rd : V → V → Hp → VK → Prop) : Prop :=
  ∀ (pins : List (Addr × Obj)) (s : Shared) (σ : St) (H : Hp) (x y : V) (u v : Value) (Q : VK), Inv X pins σ H s → RelV x u → RelV y v → rd x y H Q → wpAny (model X.prog X.w) X.A (inplaceOp op u v) (EP X pins σ Q) X.xe s

noncomputable def sFldAug (K : PySem.W.Frag) (ta tv : TE) (rd : V → V → Hp → VK → Prop) (f : Str) : TS := fun D σ H => ta σ H fun x H1 => ∃ a C dx fs v, x = .ref a ∧ H1 a = some (.ins C dx fs) ∧ Cls K C ∧ NoAttr K C f ∧ fs.lookup f = some v ∧
  tv σ H1 fun y H2 => rd v y H2 fun z H3 => ∃ dx' fs', H3 a = some (.ins C dx' fs') ∧ fs'.length < 1000 ∧ D.nx σ (upd H3 a (.ins C dx' (putF f z fs')))

section
variable {X : Cx} {o e value : Expr} {f : Str} {pos pos' tpos : Pos} {ta tv : TE}
noncomputable def rAdd : V → V → Hp → VK → Prop := fun x y H Q => ∃ i j, x = .int i ∧ y = .int j ∧ Q (.int (i + j)) H
noncomputable def rSub : V → V → Hp → VK → Prop := fun x y H Q => ∃ i j, x = .int i ∧ y = .int j ∧ Q (.int (i - j)) H
end


section
variable {X : Cx} {pins : List (Addr × Obj)} {σ : St} {H : Hp} {s : Shared} {A : Around} {E : Value → Shared → Prop} {Q : Value → Shared → Prop} {c : Value} {b : Bool}

inductive TyOf (K : PySem.W.Frag) (H : Hp) : V → Value → Prop where
  | non : TyOf K H .non (.type "NoneType")
  | bl (x : Bool) : TyOf K H (.bl x) (.type "bool")
  | int (i : Int) : TyOf K H (.int i) (.type "int")
  | str (x : Str) : TyOf K H (.str x) (.type "str")
  | flt (x : UInt64) : TyOf K H (.flt x) (.type "float")
  | lst {a : Addr} {xs : List V} (e : H a = some (.lst xs)) : TyOf K H (.ref a) (.type "list")
  | frz {a : Addr} {o : Obj} {xs : List V} (e : H a = some (.frz o (.lst xs))) : TyOf K H (.ref a) (.type "list")
  | tup {a : Addr} {xs : List V} (e : H a = some (.tup xs)) : TyOf K H (.ref a) (.type "tuple")
  | dK {a : Addr} {kvs : List (Key × V)} (e : H a = some (.dK kvs)) : TyOf K H (.ref a) (.type "dict")
  | dT {a : Addr} {kvs : List (List Key × V)} (e : H a = some (.dT kvs)) : TyOf K H (.ref a) (.type "dict")
  | ins {a C dx : Addr} {fs : List (Str × V)} (e : H a = some (.ins C dx fs)) (cl : Cls K C) (ha : PySem.W.findIn K (.ref C) "__class__" = some (some (.builtin "object.__class__")))
      (hn : PySem.W.specialIn K (.builtin "object.__class__") "__get__" = some (some (.builtin "getset_descriptor.__get__"))) (htk : PySem.W.takesIn K (.builtin "object.__class__") = some true)
      (hm : PySem.W.mroIn K C (.type "object") = some true) : TyOf K H (.ref a) (.ref C)

theorem isinst_ok {x : V} {u t : Value} (I : Inv X pins σ H s) (rx : RelV x u) (ty : TyOf X.K H x t) (e : PySem.W.kitOne X.K t c = some b) (h : ∀ tk, Q (.bool b) { s with toks := tk }) :
    wpAny (model X.prog X.w) A (call (.builtin "isinstance") [u, c]) Q E s := by
  cases ty with
  | non => cases (show u = Value.none from rx); exact PySem.W.kia_one PySem.W.kitx_none I.kIn True.intro e (fun z => nomatch z) h
  | bl y => cases (show u = Value.bool y from rx); exact PySem.W.kia_one PySem.W.kitx_bool I.kIn True.intro e (fun z => nomatch z) h
  | int i => obtain ⟨t, q⟩ := (show ∃ t, u = Value.int i t from rx); cases q; exact PySem.W.kia_one PySem.W.kitx_int I.kIn True.intro e (fun z => nomatch z) h
  | str y => obtain ⟨t, q⟩ := (show ∃ t, u = Value.str y t from rx); cases q; exact PySem.W.kia_one PySem.W.kitx_str I.kIn True.intro e (fun z => nomatch z) h
  | flt y => obtain ⟨t, q⟩ := (show ∃ t, u = Value.float y t from rx); cases q; exact PySem.W.kia_one PySem.W.kitx_float I.kIn True.intro e (fun z => nomatch z) h
  | @lst a xs ea =>
    cases (show u = Value.ref a from rx)
    obtain ⟨_, _, n, _, h1⟩ := (show ObjOk X.prog X.w H s.heap a (.lst xs) from I.hok a _ ea)
    exact PySem.W.kia_one PySem.W.kitx_list I.kIn ⟨_, h1, rfl⟩ e (fun z => nomatch z) h
  | @frz a ob xs ea =>
    cases (show u = Value.ref a from rx)
    obtain ⟨_, _, _, n, _, h1⟩ := (show ObjOk X.prog X.w H s.heap a (.frz ob (.lst xs)) from I.hok a _ ea)
    exact PySem.W.kia_one PySem.W.kitx_list I.kIn ⟨_, h1, rfl⟩ e (fun z => nomatch z) h
  | @tup a xs ea =>
    cases (show u = Value.ref a from rx)
    obtain ⟨_, _, _, p⟩ := (show ObjOk X.prog X.w H s.heap a (.tup xs) from I.hok a _ ea)
    obtain ⟨o, h1, h2, _⟩ := p
    exact PySem.W.kia_one PySem.W.kitx_tuple I.kIn ⟨o, h1, h2⟩ e (fun z => nomatch z) h
  | @dK a kvs ea =>
    cases (show u = Value.ref a from rx)
    obtain ⟨_, _, vs, _, p⟩ := (show ObjOk X.prog X.w H s.heap a (.dK kvs) from I.hok a _ ea)
    obtain ⟨o, es, ep, h1, h2, _⟩ := p
    exact PySem.W.kia_one PySem.W.kitx_dict I.kIn ⟨o, h1, h2.1⟩ e (fun z => nomatch z) h
  | @dT a kvs ea =>
    cases (show u = Value.ref a from rx)
    obtain ⟨_, _, xs, _, o, es, ep, h1, h2, _⟩ := (show ObjOk X.prog X.w H s.heap a (.dT kvs) from I.hok a _ ea)
    exact PySem.W.kia_one PySem.W.kitx_dict I.kIn ⟨o, h1, h2.1⟩ e (fun z => nomatch z) h
  | @ins a C dx fs ea cl ha hn htk hm =>
    cases (show u = Value.ref a from rx)
    obtain ⟨mA, O, _⟩ := ins_get I.hok ea
    obtain ⟨od, J, _⟩ := O.look
    exact PySem.W.kia_one (PySem.W.kitx_own (cl.get _) cl.hd ha hn htk hm) I.kIn J e (fun z => nomatch z) h
end
end L2

namespace L2
open PySem PySem.Spec PyProof.Rows


structure Room (k : Nat) (A : Around) : Prop where
  hd : A.handled = none
  dp : A.depth + 3 * k + 5 < recursionLimit
  un : A.units + 16 * k + 200 < cLine
theorem Room.mono {j k : Nat} {A : Around} (r : Room k A) (h : j ≤ k) : Room j A := ⟨r.hd, by have := r.dp; omega, by have := r.un; omega⟩
theorem Room.deeper {k : Nat} {A : Around} (r : Room (k + 1) A) (env : Env) : Room k (A.deeper env) :=
  ⟨r.hd, by have := r.dp; show A.depth + 1 + 3 * k + 5 < _; omega, by have := r.un; show A.units + 3 + 16 * k + 200 < _; omega⟩
theorem Room.depth {k : Nat} {A : Around} (r : Room k A) : A.depth < recursionLimit := by have := r.dp; omega
theorem Room.units {k : Nat} {A : Around} (r : Room k A) : A.units + 64 < cLine := by have := r.un; omega
theorem Room.units0 {k : Nat} {A : Around} (r : Room k A) : A.units < cLine := by have := r.un; omega


noncomputable def tNil : TA := fun _ H Q => Q [] H
noncomputable def tCons (ta : TE) (tr : TA) : TA := fun σ H Q => ta σ H fun x H1 => tr σ H1 fun xs H2 => Q (x :: xs) H2
section
variable {X : Cx} {e : Expr} {es : List Expr} {te : TE} {t : TA} {pos : Pos}
theorem pa_nil : PA X [] tNil := fun _ _ _ _ H Q I h => Calls.spliced_nil ⟨[], H, I, .nil, h⟩
theorem pa_cons (ha : PE X e te) (hr : PA X es t) (hs : starEach (e :: es) X.env = (false, eval e X.env) :: starEach es X.env := by exact starEach_cons rfl) : PA X (e :: es) (tCons te t) := by
  intro pos pins s σ H Q I h
  rw [hs]
  show wpAny _ _ (spliced ((false, eval e X.env) :: backTo pos (starEach es X.env))) _ _ s
  refine Calls.spliced_cons (thn (ha pins s σ H _ I h) fun u s1 ⟨x, H1, I1, r1, q1⟩ => ?_)
  exact thn (hr pos pins s1 σ H1 _ I1 q1) fun us s2 ⟨xs, H2, I2, r2, q2⟩ => ⟨x :: xs, H2, I2, .cons r1 r2, q2⟩


noncomputable def tTup (t : TA) : TE := fun σ H Q => t σ H fun xs H1 => xs.length ≤ sizeLine ∧ ∀ p, H1 p = none → Q (.ref p) (upd H1 p (.tup xs))
noncomputable def tLst (t : TA) : TE := fun σ H Q => t σ H fun xs H1 => xs.length ≤ sizeLine ∧ ∀ p, H1 p = none → Q (.ref p) (upd H1 p (.lst xs))
end



noncomputable abbrev Sp := List V → Hp → VK → XK → Prop

noncomputable abbrev CXT := List Env → Hp → Shared → XK → Value → Shared → Prop


structure Env0 (P : Program) (w : World) (K : PySem.W.Frag) (mg : Str → Option Value) (base : Heap) (A : Around) (outer : List Env) (s : Shared) (H : Hp) : Prop where
  frames : A.frames = some outer
  mod : Mod K mg base
  bs : ∀ b o, base.get? b = some o → s.heap.get? b = some o ∧ H b = none
  bsz : base.objs.size ≤ s.heap.objs.size
  funs : s.heap.FunFrames base outer
  frf : ∀ b ∈ frs outer, H b = none
  hok : HOk P w H s.heap
  bare : AllBare s.gens

noncomputable def CE (outer : List Env) (P : Program) (w : World) (H : Hp) (s : Shared) (Q : VK) (u : Value) (s' : Shared) : Prop :=
  ∃ v H', s'.os = s.os ∧ AllBare s'.gens ∧ Un (frs outer) [] H H' s.heap s'.heap ∧ HOk P w H' s'.heap ∧ RelV v u ∧ Q v H'
noncomputable def CR (CX : CXT) (outer : List Env) (P : Program) (w : World) (H : Hp) (s : Shared) (Q : VK) (E : XK) (r : Result) (s' : Shared) : Prop :=
  match r with
  | .ok (.ret u) => CE outer P w H s Q u s'
  | .ok _ => False
  | .error e => CX outer H s E e s'
structure FnOk (P : Program) (w : World) (K : PySem.W.Frag) (mg : Str → Option Value) (base : Heap) (CX : CXT) (k : Nat) (f : Addr) (fd : FuncData) (ps : List Str) (sp : Sp) : Prop where
  len : ∀ vs H Q E, sp vs H Q E → vs.length = ps.length
  run : ∀ (A : Around) (outer : List Env) (s : Shared) (H : Hp) (args : Args) (us : List Value) (vs : List V) (Q : VK) (E : XK), Room k A → Env0 P w K mg base A outer s H → BindsTo s fd args (ps.zip us) → Vals vs us → sp vs H Q E →
    codeAny (model P w) A (.call (.ref f) args) (CR CX outer P w H s Q E) s
section
variable {X : Cx} {pins : List (Addr × Obj)} {σ : St} {H : Hp} {s s' : Shared}

theorem Inv.env0 (I : Inv X pins σ H s) : Env0 X.prog X.w X.K X.mg X.base X.A X.stack s H :=
  ⟨I.ok.frames, I.ok.mod, I.bs, Nat.le_trans I.ok.bsz I.sz, I.stack, I.stkFree, I.hok, I.bare⟩

theorem Inv.after {Q : VK} {u : Value} (I : Inv X pins σ H s) (h : CE X.stack X.prog X.w H s Q u s') : EP X pins σ Q u s' := by
  obtain ⟨v, H', os, bare, un, hok, r, q⟩ := h
  obtain ⟨hh, g, d, t, os'⟩ := s'
  obtain rfl : os' = s.os := os
  exact ⟨v, H', I.call (h' := hh) (g' := g) (d' := d) (t' := t) (ch := []) un hok bare (fun b z => absurd z (by simp)), r, q⟩
end



noncomputable def tCall (sp : Sp) (dvs : List V) (E : XK) (t : TA) : TE := fun σ H Q => t σ H fun vs H1 => sp (vs ++ dvs) H1 Q E

noncomputable def tMeth (C : Addr) (m : Str) (sp : Sp) (dvs : List V) (E : XK) (ta : TE) (t : TA) : TE := fun σ H Q => ta σ H fun x H1 => ∃ a dx fs, x = .ref a ∧ H1 a = some (.ins C dx fs) ∧ fs.lookup m = none ∧
  t σ H1 fun vs H2 => sp (x :: (vs ++ dvs)) H2 Q E

noncomputable def tMake (C : Addr) (sp : Sp) (dvs : List V) (E : XK) (t : TA) : TE := fun σ H Q => t σ H fun vs H1 => ∀ x dx, H1 x = none → H1 dx = none → dx ≠ x →
  sp (.ref x :: (vs ++ dvs)) (upd (upd H1 dx (.own x)) x (.ins C dx [])) (fun v H2 => v = .non ∧ Q (.ref x) H2) E


noncomputable def Binds (K : PySem.W.Frag) (fd : FuncData) (ps : List Str) (ds : List Value) : Prop :=
  ∀ (s : Shared) (us : List Value), K.In s.heap → (us ++ ds).length = ps.length → BindsTo s fd ⟨us, []⟩ (ps.zip (us ++ ds))

theorem Binds.all {K : PySem.W.Frag} {fd : FuncData} {ps : List Str} (h : ∀ us : List Value, us.length = ps.length → bindArgs fd ⟨us, []⟩ = pure (ps.zip us)) : Binds K fd ps [] := fun s us _ hl => by
  rw [List.append_nil] at hl ⊢
  exact .of_eq (h us hl)


noncomputable def Passes (CX : CXT) (X : Cx) (E : XK) : Prop := ∀ (pins : List (Addr × Obj)) (σ : St) (H : Hp) (s : Shared) (e : Value) (s' : Shared), Inv X pins σ H s → CX X.stack H s E e s' → X.xe e s'

section
variable {X : Cx} {CX : CXT} {k : Nat} {f C : Addr} {fd : FuncData} {ps : List Str} {sp : Sp} {dvs : List V} {ds : List Value} {E : XK} {x m : Str} {p pos apos : Pos} {e o : Expr} {es : List Expr} {ta : TE} {t : TA}


theorem run_fn {pins : List (Addr × Obj)} {σ : St} {H : Hp} {s : Shared} {Q : VK} {us : List Value} {vs : List V} (F : FnOk X.prog X.w X.K X.mg X.base CX k f fd ps sp) (hr : Room k X.A) (hb : Binds X.K fd ps ds) (hd : Vals dvs ds) (hx : Passes CX X E)
    (I : Inv X pins σ H s) (r : Vals vs us) (h : sp (vs ++ dvs) H Q E) : wpAny (model X.prog X.w) X.A (call (.ref f) us) (EP X pins σ Q) X.xe s := by
  have r2 : Vals (vs ++ dvs) (us ++ ds) := r.append hd
  have hl : (us ++ ds).length = ps.length := by rw [← r2.length]; exact F.len _ _ _ _ h
  refine wpAny_call (codeAny_mono (F.run X.A X.stack s H ⟨us, []⟩ (us ++ ds) (vs ++ dvs) Q E hr I.env0 (hb s us I.kIn hl) r2 h) fun r s' hq => ?_)
  cases r with
  | error e => exact hx pins σ H s e s' I hq
  | ok fl =>
    cases fl with
    | ret u => exact I.after hq
    | next => exact False.elim hq
    | brk => exact False.elim hq
    | cont => exact False.elim hq

theorem pe_call (F : FnOk X.prog X.w X.K X.mg X.base CX k f fd ps sp) (hr : Room k X.A) (hg : Gl X x) (hm : X.mg x = some (.ref f)) (hk : PySem.W.keepIn X.K (.ref f) = true) (hb : Binds X.K fd ps ds) (hd : Vals dvs ds) (hx : Passes CX X E)
    (ha : PA X (e :: es) t) (hdb : (x == ("__debug__" : Str)) = false := by decide) (he : starEach (e :: es) X.env = (false, eval e X.env) :: starEach es X.env := by exact starEach_cons rfl) (hpl : (backTo pos (starEach es X.env)).any (·.1) = false := by exact noStars rfl) :
    PE X (.Call (.Name x p) (e :: es) [] pos) (tCall sp dvs E t) := by
  intro pins s σ H Q I h
  refine wpAny_Call_Name_kw (ld_glob I hg hm ?_ hdb)
  refine PySem.W.callWith_K (h₀ := X.base) I.ok.mod.kin hk (thn (ha pos pins s σ H _ I h) fun us s1 ⟨vs, H1, I1, r, q⟩ => ⟨I1.kIn, ?_⟩) he hpl
  exact run_fn F hr hb hd hx I1 r q
structure Mk (K : PySem.W.Frag) (C f : Addr) : Prop where
  makes : PySem.W.makesIn K C = true
  init : PySem.W.findIn K (.ref C) "__init__" = some (some (.ref f))
  fn : PySem.W.isFn K (.ref f) = true
  kp : PySem.W.keepIn K (.ref C) = true

end



noncomputable def PK (X : Cx) (kws : List Keyword) (t : TA) : Prop :=
  ∀ (pos : Pos) (pins : List (Addr × Obj)) (s : Shared) (σ : St) (H : Hp) (Q : List V → Hp → Prop), Inv X pins σ H s → t σ H Q → wpAny (model X.prog X.w) X.A (evalAll ((backToKw pos (keywordEach kws X.env)).map (·.2))) (AP X pins σ Q) X.xe s
section
variable {X : Cx} {CX : CXT} {k : Nat} {f C : Addr} {fd : FuncData} {ps ks : List Str} {sp : Sp} {E : XK} {x m : Str} {p pos apos kpos : Pos} {e o : Expr} {es : List Expr} {kws : List Keyword} {te ta : TE} {t tk : TA} {nm : Option Str}
structure KBinds (K : PySem.W.Frag) (fd : FuncData) (ps ks : List Str) (g : List Value → List Value → List Value) (gV : List V → List V → List V) : Prop where
  to : ∀ (s : Shared) (us ws : List Value), K.In s.heap → (g us ws).length = ps.length → BindsTo s fd ⟨us, ks.zip ws⟩ (ps.zip (g us ws))
  rel : ∀ {vs : List V} {us : List Value} {zs : List V} {ws : List Value}, Vals vs us → Vals zs ws → Vals (gV vs zs) (g us ws)
noncomputable def tCallK (sp : Sp) (gV : List V → List V → List V) (E : XK) (t tk : TA) : TE := fun σ H Q => t σ H fun vs H1 => tk σ H1 fun zs H2 => sp (gV vs zs) H2 Q E
variable {g : List Value → List Value → List Value} {gV : List V → List V → List V}
end



structure FnScope (N P : List Str) (sc : Scope) : Prop where
  kind : sc.kind = .function
  co : sc.isCoroutine = false
  gen : sc.isGenerator = false
  nd : N.Nodup
  pre : N.take P.length = P
  par : ∀ x ∈ P, sc.names.lookup x = some .local ∨ sc.names.lookup x = some .cell
  nofree : ∀ y ∈ sc.names, y.2 ≠ .free

theorem bindL_out {kindOf : Str → Option NameKind} {x : Str} : ∀ {binds : List (Str × Value)} {m : Str → Option Value}, (∀ v, (x, v) ∉ binds) → bindL kindOf binds m x = m x
  | [], _, _ => rfl
  | (n, v) :: r, m, h => by
    unfold bindL
    rw [bindL_out fun w hw => h w (List.mem_cons_of_mem _ hw)]
    split
    · have : x ≠ n := by rintro rfl; exact h v List.mem_cons_self
      simp [this]
    · rfl
theorem bindC_out {kindOf : Str → Option NameKind} {x : Str} : ∀ {binds : List (Str × Value)} {m : Str → Option Value}, (∀ v, (x, v) ∉ binds) → bindC kindOf binds m x = m x
  | [], _, _ => rfl
  | (n, v) :: r, m, h => by
    unfold bindC
    rw [bindC_out fun w hw => h w (List.mem_cons_of_mem _ hw)]
    split
    · rfl
    · have : x ≠ n := by rintro rfl; exact h v List.mem_cons_self
      simp [this]
theorem bindL_get {kindOf : Str → Option NameKind} {x : Str} {v : Value} : ∀ {P : List Str} {vs : List Value} {i : Nat} {m : Str → Option Value}, P.Nodup → P[i]? = some x → vs[i]? = some v → kindOf x = some .local →
    bindL kindOf (P.zip vs) m x = some v
  | [], _, _, _, _, h, _, _ => by simp at h
  | _ :: _, [], _, _, _, _, h, _ => by simp at h
  | p :: P, w :: vs, 0, m, nd, h1, h2, hk => by
    simp at h1 h2; subst h1; subst h2
    show bindL kindOf ((p, w) :: P.zip vs) m p = _
    unfold bindL
    rw [bindL_out fun v hv => (List.nodup_cons.mp nd).1 (List.of_mem_zip hv).1, if_pos hk]
    simp
  | p :: P, w :: vs, i + 1, m, nd, h1, h2, hk => by
    show bindL kindOf ((p, w) :: P.zip vs) m x = _
    unfold bindL
    exact bindL_get (i := i) (List.nodup_cons.mp nd).2 (by simpa using h1) (by simpa using h2) hk
theorem bindC_get {kindOf : Str → Option NameKind} {x : Str} {v : Value} : ∀ {P : List Str} {vs : List Value} {i : Nat} {m : Str → Option Value}, P.Nodup → P[i]? = some x → vs[i]? = some v → kindOf x ≠ some .local →
    bindC kindOf (P.zip vs) m x = some v
  | [], _, _, _, _, h, _, _ => by simp at h
  | _ :: _, [], _, _, _, _, h, _ => by simp at h
  | p :: P, w :: vs, 0, m, nd, h1, h2, hk => by
    simp at h1 h2; subst h1; subst h2
    show bindC kindOf ((p, w) :: P.zip vs) m p = _
    unfold bindC
    rw [bindC_out fun v hv => (List.nodup_cons.mp nd).1 (List.of_mem_zip hv).1, if_neg hk]
    simp
  | p :: P, w :: vs, i + 1, m, nd, h1, h2, hk => by
    show bindC kindOf ((p, w) :: P.zip vs) m x = _
    unfold bindC
    exact bindC_get (i := i) (List.nodup_cons.mp nd).2 (by simpa using h1) (by simpa using h2) hk


noncomputable def start (N : List Str) (vs : List V) : St := vs.map some ++ List.replicate (N.length - vs.length) none


noncomputable def cxOf (CX : CXT) (P : Program) (w : World) (K : PySem.W.Frag) (mg : Str → Option Value) (base : Heap) (N : List Str) (qual : Str) (scope : Scope) (f : Addr) (cd : Value) (A : Around) (outer : List Env) (s : Shared) (H : Hp) (E : XK) : Cx where
  prog := P
  w := w
  K := K
  mg := mg
  base := base
  A := A.deeper (envOfC qual scope s.heap.objs.size f cd)
  N := N
  s₀ := s
  H₀ := H
  env := envOfC qual scope s.heap.objs.size f cd
  outer := outer
  stack := envOfC qual scope s.heap.objs.size f cd :: outer
  ex := []
  calm := true
  fn := fun _ => true
  pn := []
  xe := fun e s' => wpAny (model P w) (A.deeper (envOfC qual scope s.heap.objs.size f cd)) (leaving (envOfC qual scope s.heap.objs.size f cd) e) (fun _ s'' => CX outer H s E e s'') (fun e' s'' => CX outer H s E e' s'') s'

theorem cell_has {sc : Scope} {n : Nat} {x : Str} (h : sc.names.lookup x = some .cell) : ∃ c, (cellsFrom n sc.names []).lookup x = some c := by
  have q := PySem.W.cellsFrom_some sc.names n [] (.inl h)
  exact Option.isSome_iff_exists.mp q

theorem inv_start {CX : CXT} {P : Program} {w : World} {K : PySem.W.Frag} {mg : Str → Option Value} {base : Heap} {N ps : List Str} {qual : Str} {scope : Scope} {f : Addr} {cd : Value} {A : Around} {outer : List Env} {s s1 : Shared} {H : Hp} {E : XK} {us : List Value} {vs : List V}
    (S : FnScope N ps scope) (hd : A.handled = none) (e0 : Env0 P w K mg base A outer s H) (hl : vs.length = ps.length) (r : Vals vs us)
    (x : InCallC s s.heap.objs.size (bindL (envOfC qual scope s.heap.objs.size f cd).kindOf (ps.zip us) fun _ => none) (cellsFrom (s.heap.objs.size + 1) scope.names []) (bindC (envOfC qual scope s.heap.objs.size f cd).kindOf (ps.zip us) fun _ => none) s1) :
    Inv (cxOf CX P w K mg base N qual scope f cd A outer s H E) [] (start N vs) H s1 := by
  have hpl : ps.length ≤ N.length := by have := congrArg List.length S.pre; rw [List.length_take] at this; omega
  obtain ⟨h1, tk, rfl, hk⟩ := x.done
  have noA : ∀ b : Addr, b ∉ (cxOf CX P w K mg base N qual scope f cd A outer s H E).ex := fun b z => absurd (show b ∈ ([] : List Addr) from z) (by simp)
  refine ⟨⟨e0.mod, S.kind, rfl, rfl, Nat.le_refl _, fun y z c h1 h2 => ?_, fun y hy => ?_, fun y c _ h => ?_, fun _ => hd, Around.frames_deeper e0.frames, .inr ⟨rfl, rfl⟩, fun b z => absurd z (noA b), e0.bs, e0.bsz, fun b _ _ => noA b, fun b z => absurd z (noA b), e0.funs, e0.frf⟩,
    rfl, e0.bare, Un.kept hk, ⟨_, x.toInCall.ns, fun i y v h1 h2 h3 => ?_⟩, fun y c h => ⟨_, x.cell y c h⟩, e0.hok.fresh (Nat.le_refl _), fun y c h => ?_, fun p hp => absurd (show p ∈ ([] : List (Addr × Obj)) from hp) (by simp), e0.hok.kept hk, ?_⟩
  · exact name_of_addr x.apart (PySem.mem_of_lookup h1) (PySem.mem_of_lookup h2)
  · have hy : scope.names.lookup y = some .cell ∨ scope.names.lookup y = some .free := hy
    rcases hy with hy | hy
    · exact cell_has hy
    · exact absurd rfl (S.nofree _ (PySem.mem_of_lookup hy))
  · exact Nat.le_of_lt (x.above y c (PySem.mem_of_lookup h))
  · have hi : i < vs.length := by
      unfold start at h2
      by_cases hi : i < vs.length
      · exact hi
      · rw [List.getElem?_append_right (by simpa using hi)] at h2
        rw [List.getElem?_replicate] at h2
        split at h2 <;> cases h2
    have ha : vs[i]? = some v := by
      unfold start at h2
      rw [List.getElem?_append_left (by simpa using hi), List.getElem?_map] at h2
      cases e : vs[i]? with
      | none => rw [e] at h2; cases h2
      | some a => rw [e] at h2; cases h2; rfl
    obtain ⟨u, hu, rv⟩ := r.get ha
    have hp : ps[i]? = some y := by
      rw [← S.pre, List.getElem?_take_of_lt (by omega)]; exact h1
    have ndP : ps.Nodup := by rw [← S.pre]; exact S.nd.sublist (List.take_sublist _ _)
    refine ⟨u, rv, ?_⟩
    rcases S.par y (List.mem_of_getElem? hp) with k | k
    · exact .inl ⟨k, bindL_get ndP hp hu k⟩
    · obtain ⟨c, e⟩ := cell_has (n := s.heap.objs.size + 1) k
      refine .inr ⟨.inl k, c, e, ?_⟩
      have q := x.cell y c e
      rw [bindC_get ndP hp hu (by show scope.names.lookup y ≠ _; rw [k]; decide)] at q
      exact q
  · exact e0.hok.fresh (Nat.le_of_lt (x.above y c (PySem.mem_of_lookup h)))
  · unfold start
    show _ = N.length
    rw [List.length_append, List.length_map, List.length_replicate]
    omega


theorem fn_of {CX : CXT} {P : Program} {w : World} {K : PySem.W.Frag} {mg : Str → Option Value} {base : Heap} {k : Nat} {f : Addr} {name qual : Str} {params : Arguments} {body : List Stmt} {scope : Scope} {dV kV doc pm cdv ct oc : Value} {an od : Option Addr}
    {osl : Array (Option Value)} {N ps : List Str} {sp : Sp} (lk : K.lookup f = some ⟨oc, od, .func (PySem.W.fnOf name qual params body scope dV kV doc pm an cdv ct), osl⟩) (hcd : PySem.W.codeIn K cdv qual = true) (S : FnScope N ps scope)
    (len : ∀ vs H Q E, sp vs H Q E → vs.length = ps.length)
    (hbody : ∀ (A : Around) (outer : List Env) (s : Shared) (H : Hp) (vs : List V) (Q : VK) (E : XK), Room k (A.deeper (envOfC qual scope s.heap.objs.size f cdv)) → sp vs H Q E →
      ∃ t, PSs (cxOf CX P w K mg base N qual scope f cdv A outer s H E) body t ∧ t { nx := fun _ H' => Q .non H', rt := Q } (start N vs) H) :
    FnOk P w K mg base CX (k + 1) f (PySem.W.fnOf name qual params body scope dV kV doc pm an cdv ct) ps sp := by
  refine ⟨len, fun A outer s H args us vs Q E hr e0 hb r hsp => ?_⟩
  have hl := len _ _ _ _ hsp
  have KX : K.In s.heap := e0.mod.kin.keeps fun b o e => (e0.bs b o e).1
  have lim : s.heap.NoLimit := e0.mod.nolimit.keeps fun b o e => (e0.bs b o e).1
  have hkind : ∀ y ∈ ps.zip us, scope.names.lookup y.1 = some .local ∨ (scope.names.lookup y.1 = some .cell ∧ ((cellsFrom (s.heap.objs.size + 1) scope.names []).lookup y.1).isSome = true) := fun ⟨n, v⟩ hy => by
    rcases S.par n (List.of_mem_zip hy).1 with q | q
    · exact .inl q
    · exact .inr ⟨q, PySem.W.cellsFrom_some _ _ _ (.inl q)⟩
  refine codeAny_call_function hr.depth (KX _ _ lk) rfl S.co S.gen rfl (PySem.W.codeRec_of KX hcd) (hb _ _ _ _ ?_)
  refine wpAny_newFunctionEnv_cells S.kind hkind fun env he s1 x => ?_
  subst he
  refine ⟨lim.keeps x.toInCall.keep, codeAny_func ?_⟩
  obtain ⟨t, ht, hq⟩ := hbody A outer s H vs Q E (hr.deeper _) hsp
  have I : Inv (cxOf CX P w K mg base N qual scope f cdv A outer s H E) [] (start N vs) H s1 := inv_start S hr.hd e0 hl r x
  refine wpAny_mono (ht [] s1 (start N vs) H _ I hq) (fun fl s' hs => ?_) fun e s' hs => hs
  have fin : ∀ {σ' : St} {H' : Hp} {v : V} {u : Value}, Inv (cxOf CX P w K mg base N qual scope f cdv A outer s H E) [] σ' H' s' → RelV v u → Q v H' → CE outer P w H s Q u s' :=
    fun {σ' H' v u} J rv q => ⟨v, H', J.os, J.bare, J.base, J.hok, rv, q⟩
  cases fl with
  | ret u =>
    obtain ⟨v, σ', H', J, rv, q⟩ := hs
    exact fin J rv q
  | next =>
    obtain ⟨σ', H', J, q⟩ := hs
    exact fin (v := V.non) (u := Value.none) J rfl q
  | brk =>
    obtain ⟨_, _, _, q⟩ := hs
    exact False.elim q
  | cont =>
    obtain ⟨_, _, _, q⟩ := hs
    exact False.elim q
end L2

namespace L2
open PySem PySem.Spec PyProof.Rows
section
variable {X : Cx} {x : Str} {p pos : Pos} {e : Expr} {es : List Expr} {t : TA} {id T : String} {r : List V → Hp → VK → Prop}

noncomputable def tCB (r : List V → Hp → VK → Prop) (t : TA) : TE := fun σ H Q => t σ H fun vs H1 => r vs H1 Q

theorem pe_callB (hc : CallR X (.builtin id) r) (hg : Gl X x) (hm : X.mg x = none) (hv : bootBuiltins x = some (.builtin id)) (ha : PA X (e :: es) t) (hn : x ≠ "__name__" := by decide) (hdb : (x == ("__debug__" : Str)) = false := by decide)
    (he : starEach (e :: es) X.env = (false, eval e X.env) :: starEach es X.env := by exact starEach_cons rfl) (hpl : (backTo pos (starEach es X.env)).any (·.1) = false := by exact noStars rfl) : PE X (.Call (.Name x p) (e :: es) [] pos) (tCB r t) := by
  intro pins s σ H Q I h
  refine wpAny_Call_Name_kw (ld_blt I hg hm hv ?_ hn hdb)
  exact PyProof.Rows.callWith_builtin1 (thn (ha pos pins s σ H _ I h) fun us s1 ⟨vs, H1, I1, r1, q1⟩ => hc pins s1 σ H1 vs us Q I1 r1 q1) he hpl

theorem pe_callTy (hc : CallR X (.type T) r) (hg : Gl X x) (hm : X.mg x = none) (hv : bootBuiltins x = some (.type T)) (ha : PA X (e :: es) t) (hn : x ≠ "__name__" := by decide) (hdb : (x == ("__debug__" : Str)) = false := by decide)
    (he : starEach (e :: es) X.env = (false, eval e X.env) :: starEach es X.env := by exact starEach_cons rfl) (hpl : (backTo pos (starEach es X.env)).any (·.1) = false := by exact noStars rfl) : PE X (.Call (.Name x p) (e :: es) [] pos) (tCB r t) := by
  intro pins s σ H Q I h
  refine wpAny_Call_Name_kw (ld_blt I hg hm hv ?_ hn hdb)
  exact PyProof.Rows.callWith_type1 (thn (ha pos pins s σ H _ I h) fun us s1 ⟨vs, H1, I1, r1, q1⟩ => hc pins s1 σ H1 vs us Q I1 r1 q1) he hpl

end
end L2

namespace HT
open PySem PyProof.Rows


noncomputable def lexLt : List Int → List Int → Bool
  | [], [] => false
  | [], _ :: _ => true
  | _ :: _, [] => false
  | x :: xs, y :: ys => if x = y then lexLt xs ys else decide (x < y)
section
open PySem.SeqAt
open PySem.AutoSeq1 (wpAny_loadPart')
open PySem.MeetsSeq PySem.MeetsSeq2 PySem.MeetsSeq3

end

section
variable {prog : Program} {w : World} {A : Around} {E : Value → Shared → Prop} {s : Shared}

noncomputable def sIx (n d : Nat) : Option Int → Nat
  | none => d
  | some v => if v < 0 then (v + (n : Int)).toNat else min v.toNat n
theorem sIx_none (n d : Nat) : sIx n d none = d := rfl
theorem sIx_nat (n d k : Nat) : sIx n d (some (k : Int)) = min k n := by
  show (if (k : Int) < 0 then ((k : Int) + (n : Int)).toNat else min (k : Int).toNat n) = min k n
  rw [if_neg (by omega), Int.toNat_natCast]
theorem sIx_le (n d : Nat) (hd : d ≤ n) (o : Option Int) : sIx n d o ≤ n := by
  cases o with
  | none => exact hd
  | some v =>
    show (if v < 0 then (v + (n : Int)).toNat else min v.toNat n) ≤ n
    by_cases hv : v < 0
    · rw [if_pos hv]; omega
    · rw [if_neg hv]; exact Nat.min_le_right _ _
theorem clip_eq (v : Int) (n d : Nat) : (if v < 0 then max (v + (n : Int)) 0 else min v (n : Int)) = ((sIx n d (some v) : Nat) : Int) := by
  show (if v < 0 then max (v + (n : Int)) 0 else min v (n : Int)) = (((if v < 0 then (v + (n : Int)).toNat else min v.toNat n) : Nat) : Int)
  by_cases hv : v < 0
  · simp only [if_pos hv]; omega
  · simp only [if_neg hv]; omega
theorem adjust_gen (lo hi : Option Int) (n : Nat) : Builtin.Slice.sliceAdjust lo hi 1 (n : Int) = (((sIx n 0 lo : Nat) : Int), ((sIx n n hi : Nat) : Int)) := by
  have h1 : ¬ ((1 : Int) < 0) := by omega
  unfold Builtin.Slice.sliceAdjust
  simp only [h1, if_false]
  refine Prod.ext ?_ ?_
  · cases lo with
    | none => rfl
    | some v => exact clip_eq v n 0
  · cases hi with
    | none => rfl
    | some v => exact clip_eq v n n
theorem places_gen (i j : Nat) : Builtin.Slice.slicePlaces (i : Int) (j : Int) 1 = j - i := by
  unfold Builtin.Slice.slicePlaces
  have h1 : (1 : Int) > 0 := by omega
  simp only [h1, if_true, Int.ediv_one]
  split <;> omega
theorem slicePart_ {v : Value} {o : Option Int} {Q : Option Int → Shared → Prop} (p : IsPart v o) (h : Q o s) : wpAny (model prog w) A (Builtin.Slice.slicePartIndex v) Q E s := by
  cases p with
  | none => exact slicePart_none h
  | int i t => exact slicePart_int h
theorem sliceApplied_gen {sl : Addr} {vl vu : Value} {lo hi : Option Int} {n : Nat} {Q : Int × Int × Nat → Shared → Prop} (hs : s.heap.IsSliceOf sl vl vu .none) (pl : IsPart vl lo) (pu : IsPart vu hi)
    (h : Q (((sIx n 0 lo : Nat) : Int), 1, sIx n n hi - sIx n 0 lo) s) : wpAny (model prog w) A (Builtin.Slice.sliceApplied (.ref sl) (pure (n : Int))) Q E s := by
  obtain ⟨os, hos, hcs, hds⟩ := id hs
  unfold Builtin.Slice.sliceApplied Builtin.Slice.sliceFields
  refine wpAny_bind (wpAny_bind (wpAny_field hos hds (x := vl) rfl (wpAny_bind (wpAny_field hos hds (x := vu) rfl (wpAny_bind (wpAny_field hos hds (x := .none) rfl (wpAny_pure ?_)))))))
  refine wpAny_bind (slicePart_none ?_)
  show wpAny _ _ (if ((1 : Int) == 0) = true then _ else _) _ _ s
  rw [if_neg (by decide)]
  refine wpAny_bind (slicePart_ pl (wpAny_bind (slicePart_ pu (wpAny_bind (wpAny_pure ?_)))))
  show wpAny _ _ (match Builtin.Slice.sliceAdjust lo hi 1 (n : Int) with | (lo, hi) => pure (lo, (1 : Int), Builtin.Slice.slicePlaces lo hi 1)) _ _ s
  rw [adjust_gen lo hi n]
  show wpAny _ _ (pure (((sIx n 0 lo : Nat) : Int), (1 : Int), Builtin.Slice.slicePlaces ((sIx n 0 lo : Nat) : Int) ((sIx n n hi : Nat) : Int) 1)) _ _ s
  rw [places_gen]
  exact wpAny_pure h
theorem pick_gen (xs : Array Value) (i k : Nat) : ((List.range k).filterMap fun (m : Nat) => xs[((i : Int) + (m : Int) * 1).toNat]?).toArray = ((xs.toList.drop i).take k).toArray := by
  have e : (fun (m : Nat) => xs[((i : Int) + (m : Int) * 1).toNat]?) = fun m => xs[i + m]? := by
    funext m
    have : ((i : Int) + (m : Int) * 1).toNat = i + m := by omega
    rw [this]
  rw [e]
  have := pick_run xs i k
  rw [List.filterMap_map] at this
  have e2 : ((fun x => xs[x]?) ∘ fun x => i + x) = fun m => xs[i + m]? := rfl
  rw [e2] at this
  rw [this]

theorem getItem_tuple_cut {t sl : Addr} {items : Array Value} {vl vu : Value} {lo hi : Option Int} {Q : Value → Shared → Prop} (ht : IsTup s.heap t items) (hs : s.heap.IsSliceOf sl vl vu .none) (pl : IsPart vl lo) (pu : IsPart vu hi)
    (hw : ¬ (sIx items.size 0 lo = 0 ∧ sIx items.size items.size hi = items.size))
    (h : Q (.ref s.heap.objs.size) { s with heap := s.heap.push { cls := .type "tuple", data := .seq ((items.toList.drop (sIx items.size 0 lo)).take (sIx items.size items.size hi - sIx items.size 0 lo)).toArray } })
    (hsz : items.size ≤ sizeLine) : wpAny (model prog w) A (getItem (.ref t) (.ref sl)) Q E s := by
  have htake : sizeOk (.seq ((items.toList.drop (sIx items.size 0 lo)).take (sIx items.size items.size hi - sIx items.size 0 lo)).toArray) := by
    show ((items.toList.drop (sIx items.size 0 lo)).take (sIx items.size items.size hi - sIx items.size 0 lo)).toArray.size ≤ sizeLine
    rw [List.size_toArray, List.length_take, List.length_drop, Array.length_toList]
    omega
  have hj : sIx items.size items.size hi ≤ items.size := sIx_le _ _ (Nat.le_refl _) hi
  obtain ⟨os, hos, hcs, hds⟩ := id hs
  have hTs : s.TypeIs (.ref sl) "slice" := ⟨os, hos, hcs⟩
  unfold getItem
  try with_reducible refine wpAny_holding ?_
  first | refine wpAny_bind (wpAny_pure ?_) | skip
  refine wpAny_bind (wpAny_sequenceKey ht.typeIs (by decide) ?_)
  refine wpAny_bind (wpAny_callSpecial?_slot (name := Str.ofString "__getitem__") ht.typeIs PyProof.Rows.slot_tuple_getitem
    (wpAny_call_entry PyProof.Rows.slot_tuple_getitem ht.typeIs entry_tuple_getitem ?_ (args_tuple_getitem _ _)))
  show wpAny _ _ (Builtin.Tuple.tupleItemsOf (.ref t) >>= _) _ _ s
  refine wpAny_bind (tupleItemsOf_ ht ?_)
  refine wpAny_bind (wpAny_typeOf hTs ?_)
  rw [if_pos (by decide)]
  refine wpAny_bind (sliceApplied_gen hs pl pu ?_)
  have hno : ¬ ((((sIx items.size 0 lo : Nat) : Int) == 0 && (1 : Int) == 1 && (sIx items.size items.size hi - sIx items.size 0 lo) == items.size) = true) := by
    intro q
    rw [Bool.and_eq_true, Bool.and_eq_true] at q
    have q1 : ((sIx items.size 0 lo : Nat) : Int) = 0 := eq_of_beq q.1.1
    have q2 : sIx items.size items.size hi - sIx items.size 0 lo = items.size := eq_of_beq q.2
    exact hw ⟨by omega, by omega⟩
  show wpAny _ _ (if (((sIx items.size 0 lo : Nat) : Int) == 0 && (1 : Int) == 1 && (sIx items.size items.size hi - sIx items.size 0 lo) == items.size) = true then _ else _) _ _ s
  rw [if_neg hno, pick_gen]
  first
    | exact wpAny_bind (m := Builtin.Tuple.tupleExact _) (wpAny_newObj_type (wpAny_pure ⟨_, rfl, wpAny_pure h⟩) htake)
    | exact wpAny_bind (m := Builtin.Tuple.tupleExact _) (wpAny_newObj_type (wpAny_bind (wpAny_pure (wpAny_pure ⟨_, rfl, wpAny_pure h⟩))) htake)
    | exact wpAny_bind (wpAny_bind (m := Builtin.Tuple.tupleExact _) (wpAny_newObj_type (wpAny_pure (wpAny_pure ⟨_, rfl, wpAny_pure h⟩)) htake))
    | exact wpAny_bind (wpAny_bind (m := Builtin.Tuple.tupleExact _) (wpAny_newObj_type (wpAny_pure ⟨_, rfl, wpAny_pure h⟩) htake))
end
end HT

namespace L2
open PySem PySem.Spec PyProof.Rows


noncomputable abbrev TO := St → Hp → (Option Int → Hp → Prop) → Prop

noncomputable def PO (X : Cx) (e : Option Expr) (t : TO) : Prop :=
  ∀ (pins : List (Addr × Obj)) (s : Shared) (σ : St) (H : Hp) (Q : Option Int → Hp → Prop), Inv X pins σ H s → t σ H Q →
    wpAny (model X.prog X.w) X.A (evalPart e X.env) (fun u s' => ∃ o H', Inv X pins σ H' s' ∧ IsPart u o ∧ Q o H') X.xe s
noncomputable def tNoPart : TO := fun _ H Q => Q none H
noncomputable def tPart (t : TE) : TO := fun σ H Q => t σ H fun x H1 => ∃ i, x = .int i ∧ Q (some i) H1

section
variable {X : Cx} {e : Expr} {te : TE} {lo hi : Option Expr} {tl th : TO} {pos p2 : Pos}

theorem po_none : PO X none tNoPart := by
  intro pins s σ H Q I h
  rw [evalPart_none]
  exact wpAny_pure ⟨none, H, I, .none, h⟩
theorem po_some (h : PE X e te) : PO X (some e) (tPart te) := by
  intro pins s σ H Q I hw
  rw [evalPart_some]
  refine thn (h pins s σ H _ I hw) fun u s1 ⟨x, H1, I1, r1, q1⟩ => ?_
  obtain ⟨i, rfl, q⟩ := q1
  obtain ⟨t, rfl⟩ := r1
  exact ⟨some i, H1, I1, .int i t, q⟩


noncomputable def SlR (X : Cx) (r : V → Option Int → Option Int → Hp → VK → Prop) : Prop :=
  ∀ (pins : List (Addr × Obj)) (s : Shared) (σ : St) (H : Hp) (x : V) (v vl vu : Value) (lo hi : Option Int) (sl : Addr) (Q : VK), Inv X pins σ H s → RelV x v → s.heap.IsSliceOf sl vl vu .none → IsPart vl lo → IsPart vu hi → r x lo hi H Q →
    ∃ T id, typeLookup (.type T) "__getitem__" = pure (some (.builtin id)) ∧ s.TypeIs v T ∧ wpAny (model X.prog X.w) X.A (getItem v (.ref sl)) (EP X pins σ Q) X.xe s
noncomputable def tSl (r : V → Option Int → Option Int → Hp → VK → Prop) (te : TE) (tl th : TO) : TE := fun σ H Q => te σ H fun x H1 => tl σ H1 fun l H2 => th σ H2 fun u H3 => r x l u H3 Q

theorem pe_slice {r : V → Option Int → Option Int → Hp → VK → Prop} (hr : SlR X r) (he : PE X e te) (hl : PO X lo tl) (hu : PO X hi th) : PE X (.Subscript e (.Slice lo hi none p2) pos) (tSl r te tl th) := by
  intro pins s σ H Q I h
  refine Subscript_ (thn (he pins s σ H _ I h) fun v s1 ⟨x, H1, I1, r1, q1⟩ => ?_)
  refine wpAny_Slice (thn (hl pins s1 σ H1 _ I1 q1) fun vl s2 ⟨l, H2, I2, pl, q2⟩ => thn (hu pins s2 σ H2 _ I2 q2) fun vu s3 ⟨u, H3, I3, pu, q3⟩ => ?_)
  rw [evalPart_none]
  refine wpAny_pure ?_
  have I4 : Inv X pins σ H3 { s3 with heap := s3.heap.push { cls := .type "slice", data := .fields #[vl, vu, .none] } } := I3.kept (t' := s3.toks) fun b ob q => Heap.get?_push_of_some _ q
  obtain ⟨T, id, hT, ht, hg⟩ := hr pins { s3 with heap := s3.heap.push { cls := .type "slice", data := .fields #[vl, vu, .none] } } σ H3 x v vl vu l u s3.heap.objs.size Q I4 r1 (Heap.IsSliceOf.new ..) pl pu q3
  show wpAny (model X.prog X.w) X.A (subscriptTail e (.Slice lo hi none p2) v (.ref s3.heap.objs.size)) (EP X pins σ Q) X.xe { s3 with heap := s3.heap.push { cls := .type "slice", data := .fields #[vl, vu, .none] } }
  exact tail_any (ops := [.ref s3.heap.objs.size, v]) ht hT hg (by with_unfolding_all rfl)


noncomputable def cutV (xs : List V) (lo hi : Option Int) : List V := (xs.drop (HT.sIx xs.length 0 lo)).take (HT.sIx xs.length xs.length hi - HT.sIx xs.length 0 lo)
theorem cutV_length (xs : List V) (lo hi : Option Int) : (cutV xs lo hi).length ≤ xs.length := by
  unfold cutV
  rw [List.length_take, List.length_drop]
  omega

noncomputable def rSlT (K : PySem.W.Frag) : V → Option Int → Option Int → Hp → VK → Prop := fun x lo hi H Q => ∃ a xs, x = .ref a ∧ SqT K H a xs ∧
  ¬ (HT.sIx xs.length 0 lo = 0 ∧ HT.sIx xs.length xs.length hi = xs.length) ∧ ∀ p, H p = none → Q (.ref p) (upd H p (.tup (cutV xs lo hi)))
theorem sl_tup : SlR X (rSlT X.K) := by
  intro pins s σ H x v vl vu lo hi sl Q I rx hs pl pu h
  obtain ⟨a, xs, rfl, hx, hw, q⟩ := h
  cases rx
  obtain ⟨its, r, ht, hz⟩ := I.tuple hx
  have hlen : its.toArray.size = xs.length := by rw [List.size_toArray]; exact r.length.symm
  refine ⟨"tuple", _, PyProof.Rows.slot_tuple_getitem.lookup, ht.typeIs, ?_⟩
  refine HT.getItem_tuple_cut ht hs pl pu (by rw [hlen]; exact hw) ?_ (by rw [hlen]; exact hz)
  rw [hlen]
  refine ⟨.ref s.heap.objs.size, _, I.laid (t' := s.toks) (o := .tup (cutV xs lo hi)) (fun b ob q => Heap.get?_push_of_some _ q) (Nat.le_refl _) ?_, rfl, q _ (I.hok.fresh (Nat.le_refl _))⟩
  exact ⟨Nat.le_trans (cutV_length xs lo hi) hz, _, (r.drop (HT.sIx xs.length 0 lo)).take (HT.sIx xs.length xs.length hi - HT.sIx xs.length 0 lo), IsTup.new _ _⟩


noncomputable def rLtT (K : PySem.W.Frag) : R2 := fun x y H Q => ∃ a b ns ms, x = .ref a ∧ y = .ref b ∧ SqT K H a (ns.map V.int) ∧ SqT K H b (ms.map V.int) ∧ Q (.bl (HT.lexLt ns ms)) H
noncomputable def rCatT (K : PySem.W.Frag) : R2 := fun x y H Q => ∃ a b xs ys, x = .ref a ∧ y = .ref b ∧ SqT K H a xs ∧ SqT K H b ys ∧ xs ≠ [] ∧ xs.length + ys.length ≤ sizeLine ∧
  (ys = [] → Q (.ref a) H) ∧ (ys ≠ [] → ∀ p, H p = none → Q (.ref p) (upd H p (.tup (xs ++ ys))))
end
end L2

namespace L2
open PySem PySem.Spec PyProof.Rows



noncomputable def ixN (n : Nat) (i : Int) : Option Nat := if 0 ≤ i then (if i < n then some i.toNat else none) else if -(n : Int) ≤ i then some (i + n).toNat else none
noncomputable def atI {α : Type} (xs : List α) (i : Int) : Option α := (ixN xs.length i).bind fun j => xs[j]?
theorem ixN_seq {n : Nat} {i : Int} {j : Nat} (h : ixN n i = some j) : seqIndex? i n = some j ∧ j < n ∧ -(n : Int) ≤ i ∧ i < n := by
  unfold ixN at h
  by_cases h0 : 0 ≤ i
  · rw [if_pos h0] at h
    by_cases h1 : i < n
    · rw [if_pos h1] at h
      have e : i.toNat = j := Option.some.inj h
      exact ⟨by rw [seqIndex_of h0 h1, e], by omega, by omega, h1⟩
    · rw [if_neg h1] at h; cases h
  · rw [if_neg h0] at h
    by_cases h1 : -(n : Int) ≤ i
    · rw [if_pos h1] at h
      have e : (i + n).toNat = j := Option.some.inj h
      exact ⟨by rw [seqIndex_neg (by omega) h1, e], by omega, h1, by omega⟩
    · rw [if_neg h1] at h; cases h
theorem atI_get {α : Type} {xs : List α} {i : Int} {v : α} (h : atI xs i = some v) : ∃ j, seqIndex? i xs.length = some j ∧ xs[j]? = some v ∧ j < xs.length ∧ -(xs.length : Int) ≤ i ∧ i < xs.length := by
  unfold atI at h
  cases e : ixN xs.length i with
  | none => rw [e] at h; cases h
  | some j =>
    rw [e] at h
    obtain ⟨h1, h2, h3, h4⟩ := ixN_seq e
    exact ⟨j, h1, h, h2, h3, h4⟩
theorem atI_nat {α : Type} {xs : List α} {j : Nat} {v : α} (h : xs[j]? = some v) : atI xs (j : Int) = some v := by
  have hj : j < xs.length := (List.getElem?_eq_some_iff.mp h).1
  have e : ixN xs.length (j : Int) = some j := by
    unfold ixN
    rw [if_pos (by omega), if_pos (by omega)]; simp
  unfold atI; rw [e]; exact h
noncomputable def PlainIx (b : Expr) : Prop := ∀ o i, subscripted b false o i = operate [o, i] (getItem o i)

noncomputable def IxR (X : Cx) (r : R2) : Prop :=
  ∀ (value slice : Expr) (pins : List (Addr × Obj)) (s : Shared) (σ : St) (H : Hp) (x y : V) (v u : Value) (Q : VK), Inv X pins σ H s → RelV x v → RelV y u → r x y H Q →
    subscripted slice false v u = operate [v, u] (getItem v u) → wpAny (model X.prog X.w) X.A (subscriptTail value slice v u) (EP X pins σ Q) X.xe s

noncomputable def MtR (X : Cx) (id : String) (r : V → List V → Hp → VK → Prop) : Prop :=
  ∀ (pins : List (Addr × Obj)) (s : Shared) (σ : St) (H : Hp) (x : V) (xs : List V) (v : Value) (us : List Value) (Q : VK), Inv X pins σ H s → RelV x v → Vals xs us → r x xs H Q →
    wpAny (model X.prog X.w) X.A (call (.builtin id) (v :: us)) (EP X pins σ Q) X.xe s
section
variable {X : Cx} {a b : Expr} {ta tb : TE} {pos : Pos}
theorem pe_ix {r : R2} (hr : IxR X r) (ha : PE X a ta) (hb : PE X b tb) (hs : PlainIx b) : PE X (.Subscript a b pos) (tOp r ta tb) := by
  intro pins s σ H Q I h
  exact Subscript_ (binT ha hb I h fun v u s2 x y H2 I2 rx ry q => hr a b pins s2 σ H2 x y v u Q I2 rx ry q (hs _ _))

noncomputable def rIxL (K : PySem.W.Frag) : R2 := fun x y H Q => ∃ p xs i v, x = .ref p ∧ y = .int i ∧ SqL K H p xs ∧ atI xs i = some v ∧ Q v H
noncomputable def rIxT (K : PySem.W.Frag) : R2 := fun x y H Q => ∃ p xs i v, x = .ref p ∧ y = .int i ∧ SqT K H p xs ∧ atI xs i = some v ∧ Q v H
noncomputable def rIxS : R2 := fun x y H Q => ∃ z i c, x = .str z ∧ y = .int i ∧ z.length ≤ sizeLine ∧ atI z.cps.toList i = some c ∧ Q (.str ⟨#[c]⟩) H
theorem ix_list : IxR X (rIxL X.K) := by
  intro value slice pins s σ H x y v u Q I rx ry h hs
  obtain ⟨p, xs, i, z, rfl, rfl, hq, he, q⟩ := h
  cases rx
  obtain ⟨t, rfl⟩ := ry
  obtain ⟨its, r, pl, hz⟩ := I.list hq
  obtain ⟨j, h1, h2, h3, h4, h5⟩ := atI_get he
  obtain ⟨w, ew, rw'⟩ := r.get h2
  have hl := r.length
  have hn := line63
  have fin : EP X pins σ Q w s := ⟨z, H, I, rw', q⟩
  by_cases h0 : 0 ≤ i
  · have hj : i.toNat = j := by
      rw [seqIndex_of h0 h5] at h1
      exact Option.some.inj h1
    exact item_listR pl.isList h0 (by omega) (by rw [hj]; simpa using ew) fin hs
  · have hj : (i + (its.toArray.size : Int)).toNat = j := by
      rw [seqIndex_neg (by omega) h4] at h1
      rw [List.size_toArray, ← hl]
      exact Option.some.inj h1
    exact subscriptTail_builtinR (x := w) pl.isList.typeIs slot_list_getitem.lookup
      (wpAny_getItem_list_neg (Q := fun r s' => r = w ∧ EP X pins σ Q r s') pl.isList (by omega) (by rw [List.size_toArray] <;> omega) (by omega) (by rw [hj]; simpa using ew) ⟨rfl, fin⟩) hs
theorem ix_tup : IxR X (rIxT X.K) := by
  intro value slice pins s σ H x y v u Q I rx ry h hs
  obtain ⟨p, xs, i, z, rfl, rfl, hq, he, q⟩ := h
  cases rx
  obtain ⟨t, rfl⟩ := ry
  obtain ⟨its, r, pl, hz⟩ := I.tuple hq
  obtain ⟨j, h1, h2, h3, h4, h5⟩ := atI_get he
  obtain ⟨w, ew, rw'⟩ := r.get h2
  have hl := r.length
  have hn := line63
  have fin : EP X pins σ Q w s := ⟨z, H, I, rw', q⟩
  exact subscriptTail_builtinR (x := w) pl.typeIs slot_tuple_getitem.lookup
    (getItem_tuple (j := j) (Q := fun r s' => r = w ∧ EP X pins σ Q r s') pl (by omega) (by omega) (by rw [List.size_toArray, ← hl]; exact h1) (by simpa using ew) ⟨rfl, fin⟩) hs
theorem ix_str : IxR X rIxS := by
  intro value slice pins s σ H x y v u Q I rx ry h hs
  obtain ⟨z, i, c, rfl, rfl, hz, he, q⟩ := h
  obtain ⟨t, rfl⟩ := rx
  obtain ⟨t', rfl⟩ := ry
  obtain ⟨j, h1, h2, h3, h4, h5⟩ := atI_get he
  have hl : z.cps.toList.length = z.length := by simp [Str.length]
  rw [hl] at h1 h4 h5
  have hn := line63
  exact tail_any (typeIs_str s z t) slot_str_getitem.lookup (getItem_str (c := c) (by
    have e1 : decide (i < -(2 ^ 63 : Int)) = false := decide_eq_false (by omega)
    have e2 : decide (i ≥ 2 ^ 63) = false := decide_eq_false (by omega)
    rw [e1, e2, Bool.or_false]) (by rw [h1]; simpa using h2) ⟨.str ⟨#[c]⟩, H, I.tok _, ⟨_, rfl⟩, q⟩) hs

noncomputable def rIx (K : PySem.W.Frag) : R2 := fun x y H Q => rIxL K x y H Q ∨ rIxT K x y H Q ∨ rIxS x y H Q
theorem mapSeq_set (its : List Value) (n j : Nat) (u : Value) : Obj.mapSeq (·.setIfInBounds j u) { cls := .type "list", data := .seq its.toArray n } = { cls := .type "list", data := .seq (its.set j u).toArray n } := by
  simp [Obj.mapSeq]
theorem Inv.lst {pins : List (Addr × Obj)} {σ : St} {H : Hp} {s : Shared} {p : Addr} {xs : List V} (I : Inv X pins σ H s) (h : H p = some (.lst xs)) :
    ∃ (its : List Value) (n : Nat), Vals xs its ∧ s.heap.get? p = some { cls := .type "list", data := .seq its.toArray n } ∧ xs.length ≤ sizeLine := by
  obtain ⟨z, its, n, r, e⟩ := I.hok p _ h
  exact ⟨its, n, r, e, z⟩

theorem Inv.lstUpd {pins : List (Addr × Obj)} {σ : St} {H : Hp} {s : Shared} {p : Addr} {xs ys : List V} {its its' : List Value} {n n' : Nat} {f : Obj → Obj} (I : Inv X pins σ H s) (h : H p = some (.lst xs))
    (ho : s.heap.get? p = some { cls := .type "list", data := .seq its.toArray n }) (hf : f { cls := .type "list", data := .seq its.toArray n } = { cls := .type "list", data := .seq its'.toArray n' }) (r : Vals ys its') (hz : ys.length ≤ sizeLine) (t : Nat) :
    Inv X pins σ (upd H p (.lst ys)) { s with heap := s.heap.update p f, toks := t } := by
  have e : (s.heap.update p f).get? p = some { cls := .type "list", data := .seq its'.toArray n' } := by
    rw [Heap.get?_update_self f ho (by rw [hf] <;> rfl), hf]
  refine I.write (x := p) (e := p) (by rw [h]; trivial) (.inl rfl) (fun b u hb q => (Heap.get?_update_other _ _ (Ne.symm hb)).trans q) ⟨_, e⟩ ?_
  exact ⟨hz, its', n', r, e⟩
noncomputable def rSetL : V → V → V → Hp → (Hp → Prop) → Prop := fun o i v H Q => ∃ p xs k j, o = .ref p ∧ i = .int k ∧ H p = some (.lst xs) ∧ ixN xs.length k = some j ∧ Q (upd H p (.lst (xs.set j v)))
theorem set_list : PSet X rSetL := by
  intro pins s σ H o i v ov iv u Q I ro ri rv h
  obtain ⟨p, xs, k, j, rfl, rfl, hp, hj, q⟩ := h
  cases ro
  obtain ⟨t, rfl⟩ := ri
  obtain ⟨its, n, r, ho, hz⟩ := I.lst hp
  obtain ⟨h1, h2, h3, h4⟩ := ixN_seq hj
  have hl := r.length
  have hn := line63
  have I' : Inv X pins σ (upd H p (.lst (xs.set j v))) { s with heap := s.heap.update p (Obj.mapSeq (·.setIfInBounds j u)) } :=
    I.lstUpd hp ho (mapSeq_set its n j u) (r.set rv j) (by rw [List.length_set]; exact hz) s.toks
  by_cases h0 : 0 ≤ k
  · have hk : k.toNat = j := by
      rw [seqIndex_of h0 h4] at h1
      exact Option.some.inj h1
    exact PySem.W.ki_setAt ho h0 (by omega) (by rw [List.size_toArray, ← hl]; exact h4) (by rw [hk]; exact ⟨_, I', q⟩)
  · have hk : (k + (its.toArray.size : Int)).toNat = j := by
      rw [seqIndex_neg (by omega) h3] at h1
      rw [List.size_toArray, ← hl]
      exact Option.some.inj h1
    exact PySem.W.ki_setBack ho (by omega) (by rw [List.size_toArray, ← hl]; exact h3) (by omega) (by rw [hk]; exact ⟨_, I', q⟩)


theorem slice_bounds (lo hi : Option Int) (n : Nat) : (sliceBounds lo hi none n).1 = ((HT.sIx n 0 lo : Nat) : Int) ∧ (sliceBounds lo hi none n).2.1 = ((HT.sIx n n hi : Nat) : Int) ∧ (sliceBounds lo hi none n).2.2 = 1 := by
  refine ⟨?_, ?_, rfl⟩
  · cases lo with
    | none => simp [sliceBounds, HT.sIx]
    | some i =>
      simp only [sliceBounds, HT.sIx, Option.getD_none, show (1 : Int) > 0 by decide, if_true]
      by_cases h : i < 0
      · simp only [h, if_true] <;> omega
      · simp only [h, if_false] <;> omega
  · cases hi with
    | none => simp [sliceBounds, HT.sIx]
    | some i =>
      simp only [sliceBounds, HT.sIx, Option.getD_none, show (1 : Int) > 0 by decide, if_true]
      by_cases h : i < 0
      · simp only [h, if_true] <;> omega
      · simp only [h, if_false] <;> omega
theorem slicePick_cut (its : List Value) (lo hi : Option Int) : slicePick its.toArray lo hi none = ((its.drop (HT.sIx its.length 0 lo)).take (HT.sIx its.length its.length hi - HT.sIx its.length 0 lo)).toArray := by
  obtain ⟨h1, h2, h3⟩ := slice_bounds lo hi its.toArray.size
  unfold slicePick
  rw [h1, h2, h3]
  simp only [sliceRange_one, pick_run, List.size_toArray] <;> rfl

noncomputable def rSlL (K : PySem.W.Frag) : V → Option Int → Option Int → Hp → VK → Prop := fun x lo hi H Q => ∃ a xs, x = .ref a ∧ SqL K H a xs ∧ ∀ p, H p = none → Q (.ref p) (upd H p (.lst (cutV xs lo hi)))
theorem sl_list : SlR X (rSlL X.K) := by
  intro pins s σ H x v vl vu lo hi sl Q I rx hs pl pu h
  obtain ⟨a, xs, rfl, hx, q⟩ := h
  cases rx
  obtain ⟨its, r, ht, hz⟩ := I.list hx
  have hlen := r.length
  refine ⟨"list", _, slot_list_getitem.lookup, ht.isList.typeIs, ?_⟩
  refine wpAny_getItem_list_slice ht.isList hs pl pu .none (by simp) ?_ (by rw [List.size_toArray] <;> omega)
  rw [slicePick_cut, ← hlen]
  refine ⟨.ref s.heap.objs.size, _, I.laid (t' := s.toks) (o := .lst (cutV xs lo hi)) (fun b ob q => Heap.get?_push_of_some _ q) (Nat.le_refl _) ?_, rfl, q _ (I.hok.fresh (Nat.le_refl _))⟩
  exact ⟨Nat.le_trans (cutV_length xs lo hi) hz, _, 0, (r.drop (HT.sIx xs.length 0 lo)).take (HT.sIx xs.length xs.length hi - HT.sIx xs.length 0 lo), Heap.get?_push_size _ rfl⟩


noncomputable def flatV : V → Bool
  | .non => true
  | .bl _ => true
  | .int _ => true
  | .str _ => true
  | _ => false

noncomputable def eqV : V → V → Bool
  | .non, .non => true
  | .bl a, .bl b => a == b
  | .bl a, .int b => (if a then 1 else 0) == b
  | .int a, .bl b => a == (if b then 1 else 0)
  | .int a, .int b => a == b
  | .str a, .str b => a == b
  | _, _ => false
theorem eqAt_V {A : Around} {s : Shared} {y x : V} {u v : Value} (ry : RelV y u) (rx : RelV x v) (fy : flatV y = true) (fx : flatV x = true) : SeqAt.EqAt A s u v (eqV y x) := by
  cases y with
  | non =>
    cases ry
    cases x with
    | non => cases rx; exact SeqAt.EqAt.same _
    | bl b => cases rx; exact SeqAt.EqAt.none_bool b
    | int b => obtain ⟨t, rfl⟩ := rx; exact SeqAt.EqAt.none_int b t
    | str b => obtain ⟨t, rfl⟩ := rx; exact SeqAt.EqAt.none_str b t
    | _ => exact absurd (show false = true from fx) Bool.false_ne_true
  | bl a =>
    cases ry
    cases x with
    | non => cases rx; exact SeqAt.EqAt.bool_none a
    | bl b => cases rx; exact SeqAt.EqAt.bool_bool a b
    | int b => obtain ⟨t, rfl⟩ := rx; exact SeqAt.EqAt.bool_int a b t
    | str b => obtain ⟨t, rfl⟩ := rx; exact SeqAt.EqAt.bool_str a b t
    | _ => exact absurd (show false = true from fx) Bool.false_ne_true
  | int a =>
    obtain ⟨t', rfl⟩ := ry
    cases x with
    | non => cases rx; exact SeqAt.EqAt.int_none a t'
    | bl b => cases rx; exact SeqAt.EqAt.int_bool a t' b
    | int b => obtain ⟨t, rfl⟩ := rx; exact SeqAt.EqAt.int_int a t' b t
    | str b => obtain ⟨t, rfl⟩ := rx; exact SeqAt.EqAt.int_str a t' b t
    | _ => exact absurd (show false = true from fx) Bool.false_ne_true
  | str a =>
    obtain ⟨t', rfl⟩ := ry
    cases x with
    | non => cases rx; exact SeqAt.EqAt.str_none a t'
    | bl b => cases rx; exact SeqAt.EqAt.str_bool a t' b
    | int b => obtain ⟨t, rfl⟩ := rx; exact SeqAt.EqAt.str_int a t' b t
    | str b => obtain ⟨t, rfl⟩ := rx; exact SeqAt.EqAt.str_str a t' b t
    | _ => exact absurd (show false = true from fx) Bool.false_ne_true
  | _ => exact absurd (show false = true from fy) Bool.false_ne_true

noncomputable def eqU (x : V) (u : Value) : Bool := match u with
  | .none => eqV .non x
  | .bool b => eqV (.bl b) x
  | .int i _ => eqV (.int i) x
  | .str z _ => eqV (.str z) x
  | _ => false
theorem eqU_of {x y : V} {u : Value} (r : RelV y u) (f : flatV y = true) : eqU x u = eqV y x := by
  cases y with
  | non => cases r; rfl
  | bl b => cases r; rfl
  | int i => obtain ⟨t, rfl⟩ := r; rfl
  | str z => obtain ⟨t, rfl⟩ := r; rfl
  | _ => exact absurd (show false = true from f) Bool.false_ne_true
theorem any_eqU {x : V} : ∀ {xs : List V} {us : List Value}, Vals xs us → xs.all flatV = true → us.any (eqU x) = xs.any fun y => eqV y x
  | _, _, .nil, _ => rfl
  | y :: xs, u :: us, .cons r t, f => by
    rw [List.all_cons, Bool.and_eq_true] at f
    rw [List.any_cons, List.any_cons, eqU_of r f.1, any_eqU t f.2]
theorem mem_eqAt {A : Around} {s : Shared} {x : V} {v : Value} (rx : RelV x v) (fx : flatV x = true) : ∀ {xs : List V} {us : List Value}, Vals xs us → xs.all flatV = true → ∀ u ∈ us, SeqAt.EqAt A s u v (eqU x u)
  | _, _, .nil, _ => fun u hu => by cases hu
  | y :: xs, u :: us, .cons r t, f => fun u' hu => by
    rw [List.all_cons, Bool.and_eq_true] at f
    rcases List.mem_cons.mp hu with rfl | hu
    · rw [eqU_of r f.1]; exact eqAt_V r rx f.1 fx
    · exact mem_eqAt rx fx t f.2 u' hu
noncomputable def inV (x : V) (xs : List V) : Bool := xs.any fun y => eqV y x

noncomputable def rIn (K : PySem.W.Frag) (neg : Bool) : R2 := fun x y H Q => ∃ p xs, y = .ref p ∧ (SqL K H p xs ∨ SqT K H p xs) ∧ flatV x = true ∧ xs.all flatV = true ∧ Q (.bl (if neg then !inV x xs else inV x xs)) H
theorem op_notIn_seq : OpR X (compareOp .NotIn) (rIn X.K true) := by
  intro pins s σ H x y v u Q I rx ry h
  obtain ⟨p, xs, rfl, hq, fx, fs, q⟩ := h
  cases ry
  rcases hq with hq | hq
  · obtain ⟨its, r, pl, hz⟩ := I.list hq
    refine SeqAt.notIn_listAt (eqU x) pl.isList (fun w hw => mem_eqAt rx fx r fs w (by simpa using hw)) ⟨.bl _, H, I, rfl, ?_⟩
    rw [show its.toArray.any (eqU x) = its.any (eqU x) by simp, any_eqU r fs]
    exact q
  · obtain ⟨its, r, pl, hz⟩ := I.tuple hq
    refine SeqAt.notIn_tupleAt (eqU x) pl (fun w hw => mem_eqAt rx fx r fs w (by simpa using hw)) ⟨.bl _, H, I, rfl, ?_⟩
    rw [show its.toArray.any (eqU x) = its.any (eqU x) by simp, any_eqU r fs]
    exact q
theorem op_notIn_str : OpR X (compareOp .NotIn) (fun x y H Q => ∃ i j, x = .str i ∧ y = .str j ∧ Q (.bl (!(!(Builtin.Str.occurrences j i 0 j.length 1).isEmpty))) H) := by
  intro pins s σ H x y v u Q I rx ry h
  obtain ⟨i, j, rfl, rfl, q⟩ := h
  obtain ⟨t, rfl⟩ := rx
  obtain ⟨t', rfl⟩ := ry
  exact notIn_str ⟨.bl _, H, I, rfl, q⟩


theorem call_len_seq : CallR X (.builtin "len") (fun xs H Q => ∃ p ys, xs = [.ref p] ∧ (SqL X.K H p ys ∨ SqT X.K H p ys) ∧ Q (.int ys.length) H) := by
  intro pins s σ H xs us Q I r h
  obtain ⟨p, ys, rfl, hq, q⟩ := h
  obtain ⟨u, rfl, rx⟩ := vals1 r
  cases rx
  have hn := line63
  rcases hq with hq | hq
  · obtain ⟨its, r', pl, hz⟩ := I.list hq
    have hlen := r'.length
    exact Calls.call_len_list pl.isList (by simp only [List.size_toArray] <;> omega) ⟨.int ys.length, H, I.tok _, ⟨s.toks + 1, by rw [List.size_toArray, hlen]⟩, q⟩
  · obtain ⟨its, r', pl, hz⟩ := I.tuple hq
    have hlen := r'.length
    exact len_tuple pl (by simp only [List.size_toArray] <;> omega) ⟨.int ys.length, H, I.tok _, ⟨s.toks + 1, by rw [List.size_toArray, hlen]⟩, q⟩
theorem call_len_str : CallR X (.builtin "len") (fun xs H Q => ∃ z, xs = [.str z] ∧ z.length ≤ sizeLine ∧ Q (.int z.length) H) := by
  intro pins s σ H xs us Q I r h
  obtain ⟨z, rfl, hz, q⟩ := h
  obtain ⟨u, rfl, t, rfl⟩ := vals1 r
  have hn := line63
  exact len_str (by omega) ⟨.int z.length, H, I.tok _, ⟨_, rfl⟩, q⟩
noncomputable def tyV (K : PySem.W.Frag) (T : String) (x : V) (H : Hp) : Prop := match x with
  | .str _ => T = "str"
  | .int _ => T = "int"
  | .ref p => (T = "list" ∧ ∃ xs, SqL K H p xs) ∨ (T = "tuple" ∧ ∃ o, K.lookup p = some o ∧ o.cls = .type "tuple" ∧ o.dict = none) ∨
      (T = "dict" ∧ ((∃ kvs, H p = some (.dK kvs)) ∨ ∃ kvs, H p = some (.dT kvs))) ∨ (T = "set" ∧ ∃ S n, H p = some (.set S n))
  | _ => False
theorem tyV_is {pins : List (Addr × Obj)} {σ : St} {H : Hp} {s : Shared} {T : String} {x : V} {v : Value} (I : Inv X pins σ H s) (r : RelV x v) (ty : tyV X.K T x H) :
    s.TypeIs v T ∧ ∀ a, v = .ref a → ∃ ob, s.heap.get? a = some ob ∧ ob.dict = none := by
  cases x with
  | str z =>
    obtain ⟨t, rfl⟩ := r
    cases (show T = "str" from ty)
    exact ⟨typeIs_str s z t, fun _ e => nomatch e⟩
  | int i =>
    obtain ⟨t, rfl⟩ := r
    cases (show T = "int" from ty)
    exact ⟨typeIs_int s i t, fun _ e => nomatch e⟩
  | ref p =>
    cases r
    rcases ty with ⟨rfl, xs, hq⟩ | ⟨rfl, o, hk, hc, hd⟩ | ⟨rfl, hk⟩ | ⟨rfl, S, n, hk⟩
    · obtain ⟨its, _, pl, _⟩ := I.list hq
      refine ⟨pl.isList.typeIs, fun a e => ?_⟩
      cases e
      obtain ⟨o, n, e, c, hd, _⟩ := pl
      exact ⟨o, e, hd⟩
    · refine ⟨⟨o, I.kIn p o hk, hc⟩, fun a e => ?_⟩
      cases e
      exact ⟨o, I.kIn _ o hk, hd⟩
    · have z : ∃ o, s.heap.get? p = some o ∧ o.ExactDict := by
        rcases hk with ⟨kvs, hk⟩ | ⟨kvs, hk⟩
        · obtain ⟨_, _, _, _, o, _, _, e, ex, _⟩ := I.hok p _ hk
          exact ⟨o, e, ex⟩
        · obtain ⟨_, _, _, _, o, _, _, e, ex, _⟩ := I.hok p _ hk
          exact ⟨o, e, ex⟩
      obtain ⟨o, e, ex⟩ := z
      refine ⟨⟨o, e, ex.1⟩, fun a e2 => ?_⟩
      cases e2
      exact ⟨o, e, ex.2.1⟩
    · obtain ⟨o, _, _, _, e, ex, _⟩ := I.hok p _ hk
      refine ⟨⟨o, e, ex.1⟩, fun a e2 => ?_⟩
      cases e2
      exact ⟨o, e, ex.2.1⟩
  | _ => exact False.elim ty
noncomputable def tBM0 (K : PySem.W.Frag) (T : String) (r : V → List V → Hp → VK → Prop) (to : TE) : TE := fun σ H Q => to σ H fun x H1 => tyV K T x H1 ∧ r x [] H1 Q
noncomputable def tBM (K : PySem.W.Frag) (T : String) (r : V → List V → Hp → VK → Prop) (to : TE) (t : TA) : TE := fun σ H Q => to σ H fun x H1 => tyV K T x H1 ∧ t σ H1 fun xs H2 => r x xs H2 Q
variable {o e : Expr} {es : List Expr} {to : TE} {t : TA} {name : Str} {apos cpos : Pos} {T id : String} {r : V → List V → Hp → VK → Prop}
theorem pe_bm (pa : PlainAttrs T) (slot : Slot T name id) (hty : typeOf (.builtin id) = pure (.type "method_descriptor")) (hm : MtR X id r) (ho : PE X o to) (ha : PA X (e :: es) t)
    (hbase : attributeBase o name X.env (eval o X.env) = eval o X.env := by rfl)
    (hfew : ((backTo cpos (starEach (e :: es) X.env)).all (fun x => !x.1) && (backToKw cpos (keywordEach [] X.env)).all (fun x => x.1.isSome)
      && decide ((e :: es).length + ([] : List Keyword).length + (if ([] : List Keyword).isEmpty then 0 else 1) < 30)) = true := by rfl)
    (hline : (apos.endLine == cpos.line) = true := by rfl) (hs : starEach (e :: es) X.env = (false, eval e X.env) :: starEach es X.env := by exact starEach_cons rfl) (hplain : (backTo cpos (starEach es X.env)).any (·.1) = false := by rfl) :
    PE X (.Call (.Attribute o name apos) (e :: es) [] cpos) (tBM X.K T r to t) := by
  intro pins s σ H Q I h
  refine wpAny_Call_method_late hbase hfew hline rfl (thn (ho pins s σ H _ I h) fun v s1 ⟨x, H1, I1, r1, ty, q1⟩ => ?_)
  obtain ⟨h1, h2⟩ := tyV_is I1 r1 ty
  refine ⟨T, id, pa, slot, hty, h1, h2, ?_⟩
  have hA := ha cpos pins s1 σ H1 _ I1 q1
  rw [hs] at hA ⊢
  refine Calls.callWith_builtin (by show (false || (backTo cpos (starEach es X.env)).any (·.1)) = false; rw [hplain] <;> rfl) (Calls.evalArgs_plain ?_)
  exact thn hA fun us s2 ⟨vs, H2, I2, r2, q2⟩ => hm pins s2 σ H2 x vs v us Q I2 r1 r2 q2

end
end L2

namespace L2
open PySem PySem.Spec PyProof.Rows

noncomputable def MtM (X : Cx) (id : String) (r : V → List V → Hp → VK → Prop) : Prop :=
  ∀ (pins : List (Addr × Obj)) (s : Shared) (σ : St) (H : Hp) (x : V) (xs : List V) (v : Value) (us : List Value) (Q : VK), Inv X pins σ H s → RelV x v → Vals xs us → r x xs H Q →
    wpAny (model X.prog X.w) X.A (call (.builtin id) (v :: us)) (EP X pins σ Q) X.xe s


theorem Vals.one : ∀ {x : V} {us : List Value}, Vals [x] us → ∃ u, us = [u] ∧ RelV x u
  | _, _, .cons r .nil => ⟨_, rfl, r⟩
theorem Vals.dropLast {xs : List V} {us : List Value} (h : Vals xs us) : Vals xs.dropLast us.dropLast := by
  induction h with
  | nil => exact .nil
  | cons r t ih =>
    cases t with
    | nil => exact .nil
    | cons q t' => exact .cons r ih
theorem Vals.rep {xs : List V} {us : List Value} (h : Vals xs us) : ∀ k : Nat, Vals (List.replicate k xs).flatten (List.replicate k us).flatten
  | 0 => .nil
  | k + 1 => by
    rw [List.replicate_succ, List.replicate_succ, List.flatten_cons, List.flatten_cons]
    exact Vals.append h (Vals.rep h k)
theorem erase_last {α : Type} (l : List α) : l.eraseIdx (l.length - 1) = l.dropLast := by
  induction l with
  | nil => rfl
  | cons a r ih =>
    cases r with
    | nil => rfl
    | cons b r =>
      have e : (a :: b :: r).length - 1 = ((b :: r).length - 1) + 1 := by
        have h1 : (a :: b :: r).length = r.length + 2 := rfl
        have h2 : (b :: r).length = r.length + 1 := rfl
        omega
      rw [e, List.eraseIdx_cons_succ, ih]
      all_goals rfl
theorem foldl_rep (its : List Value) : ∀ (k : Nat) (acc : List Value),
    List.foldl (fun x1 x2 => x1 ++ x2) acc.toArray (List.replicate k its.toArray) = (acc ++ (List.replicate k its).flatten).toArray
  | 0, acc => by simp
  | k + 1, acc => by
    have e : acc.toArray ++ its.toArray = (acc ++ its).toArray := by simp
    have e2 : (acc ++ its) ++ (List.replicate k its).flatten = acc ++ (List.replicate (k + 1) its).flatten := by
      rw [List.replicate_succ, List.flatten_cons, List.append_assoc]
    rw [← e2, ← foldl_rep its k (acc ++ its), ← e, List.replicate_succ, List.foldl_cons]

section
variable {X : Cx} {pins : List (Addr × Obj)} {σ : St} {H : Hp} {s : Shared} {l b : Addr} {xs ys zs : List V}


theorem Inv.lset {its its' : List Value} {n : Nat} {f : Array Value → Array Value} {t' : Nat} (I : Inv X pins σ H s) (hH : H l = some (.lst xs))
    (e : s.heap.get? l = some { cls := .type "list", data := .seq its.toArray n }) (hf : f its.toArray = its'.toArray) (hv : Vals ys its') (hz : ys.length ≤ sizeLine) :
    Inv X pins σ (upd H l (.lst ys)) { s with heap := s.heap.update l (Obj.mapSeq f), toks := t' } := by
  have q := PySem.IsL.update e f
  rw [hf] at q
  refine I.write (x := l) (e := l) (by rw [hH]; exact trivial) (.inl rfl) (fun b' u hb hu => (Heap.get?_update_other s.heap (Obj.mapSeq f) (Ne.symm hb)).trans hu) ⟨_, q⟩ ?_
  exact ⟨hz, its', _, hv, q⟩
theorem Inv.lnew {its : List Value} {t' : Nat} (I : Inv X pins σ H s) (hv : Vals ys its) (hz : ys.length ≤ sizeLine) :
    Inv X pins σ (upd H s.heap.objs.size (.lst ys)) { s with heap := s.heap.push { cls := .type "list", data := .seq its.toArray }, toks := t' } :=
  I.laid (fun _ _ q => Heap.get?_push_of_some _ q) (Nat.le_refl _) ⟨hz, its, 0, hv, Heap.get?_push_size _ rfl⟩
theorem Inv.fresh (I : Inv X pins σ H s) : H s.heap.objs.size = none := I.hok.fresh (Nat.le_refl _)
theorem Inv.lstM (I : Inv X pins σ H s) (hH : H l = some (.lst xs)) : xs.length ≤ sizeLine ∧ ∃ (its : List Value) (n : Nat), Vals xs its ∧ xs.length = its.length ∧ s.heap.get? l = some { cls := .type "list", data := .seq its.toArray n } := by
  obtain ⟨z, its, n, r, e⟩ := I.hok l _ hH
  exact ⟨z, its, n, r, r.length, e⟩

theorem notLongL {n : Nat} (h : n ≤ sizeLine) : Builtin.List.listTooLong n = false := by
  unfold Builtin.List.listTooLong
  exact decide_eq_false (by omega)
end

section
variable {X : Cx}


noncomputable def rAppend : V → List V → Hp → VK → Prop := fun x vs H Q => ∃ l xs y, x = .ref l ∧ vs = [y] ∧ H l = some (.lst xs) ∧ xs.length < sizeLine ∧ Q .non (upd H l (.lst (xs ++ [y])))
theorem mt_append : MtM X "list.append" rAppend := by
  intro pins s σ H x vs v us Q I rx rv h
  obtain ⟨l, xs, y, rfl, rfl, hH, hz, q⟩ := h
  cases rx
  obtain ⟨u, rfl, ru⟩ := rv.one
  obtain ⟨z, its, n, r, hl, e⟩ := I.lstM hH
  refine call_meets F.slot_list_append ⟨_, e, rfl⟩ F.entry_list_append (F.args_list_append_2 _ _) (PySem.list_append l its.toArray n u (by rw [List.size_toArray]; omega)) ⟨e, ?_⟩
  refine ⟨.non, _, I.lset (its' := its ++ [u]) hH e (by simp) (r.append (.cons ru .nil)) ?_, rfl, q⟩
  rw [List.length_append, List.length_singleton]
  omega

noncomputable def rExtend : V → List V → Hp → VK → Prop := fun x vs H Q => ∃ l b xs zs, x = .ref l ∧ vs = [.ref b] ∧ H l = some (.lst xs) ∧ H b = some (.lst zs) ∧ xs.length + zs.length ≤ sizeLine ∧ Q .non (upd H l (.lst (xs ++ zs)))
noncomputable def rPop : V → List V → Hp → VK → Prop := fun x vs H Q => ∃ l xs y, x = .ref l ∧ vs = [] ∧ H l = some (.lst xs) ∧ xs[xs.length - 1]? = some y ∧ Q y (upd H l (.lst xs.dropLast))
noncomputable def rPopAt : V → List V → Hp → VK → Prop := fun x vs H Q => ∃ l xs i k y, x = .ref l ∧ vs = [.int i] ∧ H l = some (.lst xs) ∧ -(2 ^ 63) ≤ i ∧ i < 2 ^ 63 ∧ seqIndex? i xs.length = some k ∧ xs[k]? = some y ∧ Q y (upd H l (.lst (xs.eraseIdx k)))
noncomputable def rReverse : V → List V → Hp → VK → Prop := fun x vs H Q => ∃ l xs, x = .ref l ∧ vs = [] ∧ H l = some (.lst xs) ∧ Q .non (upd H l (.lst xs.reverse))
noncomputable def rClear : V → List V → Hp → VK → Prop := fun x vs H Q => ∃ l xs, x = .ref l ∧ vs = [] ∧ H l = some (.lst xs) ∧ Q .non (upd H l (.lst []))
noncomputable def rCat : R2 := fun x y H Q => ∃ l b xs zs, x = .ref l ∧ y = .ref b ∧ H l = some (.lst xs) ∧ H b = some (.lst zs) ∧ xs.length + zs.length ≤ sizeLine ∧ ∀ p, H p = none → Q (.ref p) (upd H p (.lst (xs ++ zs)))
theorem op_cat : OpR X (binaryOp .Add) rCat := by
  intro pins s σ H x y v u Q I rx ry h
  obtain ⟨l, b, xs, zs, rfl, rfl, hH, hB, hz, q⟩ := h
  cases rx
  cases ry
  obtain ⟨z, its, n, r, hl, e⟩ := I.lstM hH
  obtain ⟨z2, its2, n2, r2, hl2, e2⟩ := I.lstM hB
  refine PySem.P.add_list e e2 ?_ (by rw [List.size_toArray, List.size_toArray]; omega)
  have ea : its.toArray ++ its2.toArray = (its ++ its2).toArray := by simp
  rw [ea]
  exact ⟨.ref _, _, I.lnew (t' := s.toks) (r.append r2) (by rw [List.length_append]; omega), rfl, q _ I.fresh⟩

noncomputable def rRep : R2 := fun x y H Q => ∃ l k xs, x = .ref l ∧ y = .int k ∧ H l = some (.lst xs) ∧ -(2 ^ 63) ≤ k ∧ k < 2 ^ 63 ∧ xs.length * k.toNat ≤ sizeLine ∧
  ∀ p, H p = none → Q (.ref p) (upd H p (.lst (List.replicate k.toNat xs).flatten))
theorem len_rep {α : Type} (xs : List α) (k : Nat) : (List.replicate k xs).flatten.length = k * xs.length := by
  induction k with
  | zero => simp
  | succ k ih => rw [List.replicate_succ, List.flatten_cons, List.length_append, ih, Nat.succ_mul, Nat.add_comm]
theorem op_rep : OpR X (binaryOp .Mult) rRep := by
  intro pins s σ H x y v u Q I rx ry h
  obtain ⟨l, k, xs, rfl, rfl, hH, h1, h2, hz, q⟩ := h
  cases rx
  obtain ⟨t, rfl⟩ := ry
  obtain ⟨z, its, n, r, hl, e⟩ := I.lstM hH
  have hlen : its.toArray.size * k.toNat ≤ sizeLine := by rw [List.size_toArray, ← hl]; exact hz
  have hcap : ¬ its.toArray.size * k.toNat > (2 ^ 63 - 1) / 8 := by
    have : (sizeLine : Nat) ≤ (2 ^ 63 - 1) / 8 := by decide
    omega
  have hfit : ¬ (!Builtin.List.listFitsIndex k) = true := by
    rw [fitsIndex_both h1 h2]
    exact Bool.false_ne_true
  have hlong : ¬ Builtin.List.listTooLong (its.toArray.size * k.toNat) = true := by
    rw [notLongL hlen]
    exact Bool.false_ne_true
  have hnew : List.foldl (fun x1 x2 => x1 ++ x2) #[] (List.replicate (if its.toArray.isEmpty = true then 0 else k.toNat) its.toArray) = (List.replicate k.toNat its).flatten.toArray := by
    have f0 : ∀ m : Nat, List.foldl (fun x1 x2 => x1 ++ x2) #[] (List.replicate m its.toArray) = (List.replicate m its).flatten.toArray := fun m => by
      have := foldl_rep its m []
      rw [List.nil_append] at this
      exact this
    rw [f0]
    cases its with
    | nil => simp
    | cons a r' => rw [if_neg (by simp)]
  refine wpAny_binaryOp_repeat_ref (T := "list") (U := "int") (by decide) ⟨_, e, rfl⟩ (fun s' => typeIs_int s' k t) noFill_list_mul F.fills_int_mul F.slot_int_rmul repeat_list F.slot_int_index.lookup
    (call_meets F.slot_int_rmul (typeIs_int s k t) F.entry_int_rmul (F.args_int_rmul_2 _ _) (int___rmul___int_list k t l its.toArray n)
      ⟨e, rfl, ⟨_, e, rfl⟩, call_meets F.slot_list_mul ⟨_, e, rfl⟩ F.entry_list_mul (F.args_list_mul_2 _ _) (AutoListH.list___mul___list_int_3 l its.toArray n k t hfit hcap hlong) ⟨e, ?_⟩⟩)
  rw [hnew]
  exact ⟨.ref _, _, I.lnew (t' := s.toks) (r.rep k.toNat) (by rw [len_rep, Nat.mul_comm]; exact hz), rfl, q _ I.fresh⟩


end


section
variable {prog : Program} {w : World} {A : Around} {E : Value → Shared → Prop} {s : Shared}
end

section
variable {X : Cx}

end
end L2

namespace Att
open PySem PySem.W PySem.Calls PyProof.Rows


theorem ints_of_wellAll {P : Params} {h : Heap} : ∀ (ns : List Int) (vs : List Value), WellAll P h vs (ns.map WData.int) → IntsAre vs ns := by
  intro ns
  induction ns with
  | nil =>
    intro vs w
    rw [List.map_nil] at w
    cases w
    exact .nil
  | cons n ns ih =>
    intro vs w
    rw [List.map_cons] at w
    cases w with
    | cons a b =>
      cases a
      exact .cons _ _ (ih _ b)

theorem script_of {l : OpenLaw} {n : Nat} (hn : l.most = some n) {P : Params} {h : Heap} {args : List WData} {vals : List Value}
    (hpre : l.row.toRowW.claim.pre args = true) (hwl : WellAll P h vals args) :
    ∃ a vs ns, vals = [Value.ref a] ∧ args = [WData.list (ns.map WData.int)] ∧ h.get? a = some { cls := .type "list", data := .seq vs.toArray } ∧ IntsAre vs ns ∧ ns.length ≤ n := by
  have hsh : WShape.hasAll [] args [.list .int] = true := (pre_splitW hpre).1
  have hc : l.pre.holds [] { args := args } = true := (pre_splitW hpre).2
  obtain ⟨d, r, rfl, h1, h2⟩ := hasAllW_cons hsh
  obtain rfl := hasAllW_nil h2
  obtain ⟨xs, rfl, h3⟩ := hasW_list h1
  obtain ⟨ns, rfl⟩ := items_int h3
  have hlen : ns.length ≤ n := by
    unfold OpenLaw.pre at hc
    have h4 : (WTm.not (.lt (.lit (.int (n : Int))) (.len (.arg 0)))).holds [] { args := [.list (ns.map .int)] } = true := by
      have h4 := (holds_andW hc).1
      rw [hn] at h4
      exact h4
    have h5 := condW_of h4 (w_not (w_lt w_lit (w_len_list (w_arg rfl))))
    rw [List.length_map] at h5
    refine Nat.le_of_not_lt fun q => ?_
    have q' : (n : Int) < ((ns.length : Nat) : Int) := by omega
    first
      | (rw [decide_eq_true q'] at h5; exact absurd h5 (by decide))
      | (simp at h5; omega)
  cases hwl with
  | cons w1 w2 =>
    cases w2
    cases w1 with
    | list ho hall => exact ⟨_, _, ns, rfl, rfl, ho, ints_of_wellAll ns _ hall, hlen⟩

theorem post_true (l : OpenLaw) (args : List WData) : l.row.toRowW.claim.post args (.bool true) args = true :=
  postW_of (r := l.row.toRowW) (X := (true == true))
    (show WShape.has [] (.bool true) .bool = true by first | rfl | decide | simp [WShape.has, WShape.arms, WShape.armsAll])
    (show (WTm.eq .res (.lit (.bool true))).value [] { args := args, res := some (.bool true), after := args } = some (.bool (true == true)) from w_eq_bool (w_res rfl) w_lit) rfl


theorem attach_call {l : OpenLaw} {n : Nat} {q : Program} {loose : List Str} {XP : (Str → Option Value) → Heap → Prop} {YP : World → Heap → Prop} {d : DefRec}
    (hn : l.most = some n) (hdf : d.params.defaults = [])
    (call : ∀ (w : World) (s₀ s₁ : Shared) (mg mb : Str → Option Value) (fa : Addr) (o : Obj) (pm cd doc : Value) (a : Addr) (vs : List Value) (ns : List Int),
      Ground q loose [] XP w s₀ mg mb s₁.heap → YP w s₁.heap →
      s₁.heap.get? fa = some o → o.data = .func (docDef d.name d.params d.body d.scope pm cd doc) → s₁.heap.CodeRec cd d.name → mg d.name = some (.ref fa) →
      s₁.heap.get? a = some { cls := .type "list", data := .seq vs.toArray } → IntsAre vs ns → ns.length ≤ n → s₁.gens = #[] →
      codeAny (model l.prog w) callerA (.call (.ref fa) ⟨[.ref a], []⟩) (fun r s' => r = .ok (.ret (.bool true)) ∧ OldK s₁.heap s'.heap ∧ s'.os = s₁.os ∧ AllBare s'.gens) s₁) :
    WalkO q loose XP YP l.row.toRowW d [] (fun f vs => PySem.call f vs) := by
  intro w s₀ s₁ mg mb G Y fa o pm cd doc dV kV ho hd hcd hD hmg hg args vals as hpre hlay hrd hwl hlo
  obtain rfl : dV = .none := Dflts.none hD hdf
  obtain rfl : kV = .none := Dflts.noKw hD
  obtain ⟨a, vs, ns, rfl, rfl, hobj, hints, hlen⟩ := script_of hn hpre hwl
  refine enter_call (codeAny_mono (call w s₀ s₁ mg mb fa o pm cd doc a vs ns G Y ho (fd_plain hd) hcd hmg hobj hints hlen hg) fun r s' hq => ?_)
  obtain ⟨rfl, h2, h3, h4⟩ := hq
  exact ⟨.inl ⟨.bool true, .bool true, [], rfl, fun _ => rfl, .bool true, post_true l _, fun _ => ⟨List.Pairwise.nil, fun _ hm => (nomatch hm)⟩⟩, h2, h3, h4⟩


section
variable {prog : Program} {w : World} {A : Around} {E : Value → Shared → Prop} {s : Shared} {K : Frag}


noncomputable def noObjs (h : Heap) : Heap := { h with objs := #[] }
noncomputable def ledger (h : Heap) (L d : Addr) : List (Addr × Obj) := (List.range h.objs.size).filterMap fun a => if a = L ∨ a = d then none else (h.get? a).map fun o => (a, o)
end
end Att

namespace L2
open PySem PySem.Spec PyProof.Rows

theorem vals_ints : ∀ {vs : List Value} {ns : List Int}, IntsAre vs ns → Vals (ns.map V.int) vs
  | _, _, .nil => .nil
  | _, _, .cons n t h => .cons ⟨t, rfl⟩ (vals_ints h)


noncomputable def Only (H : Hp) : Prop := ∀ b, H b = none ∨ ∃ o xs, H b = some (.frz o (.lst xs))


theorem law_call {P : Program} {w : World} {K : PySem.W.Frag} {mg mb : Str → Option Value} {CX : CXT} {k : Nat} {fa a : Addr} {fd : FuncData} {x : Str} {sp : Sp} {s₁ : Shared} {vs : List Value} {ns : List Int}
    (KX : K.In s₁.heap) (hns : s₁.heap.Ns mainGlobals mg) (hb : s₁.heap.Ns builtinsNs mb) (hbb : ∀ x : Str, x ≠ "__name__" → mb x = bootBuiltins x) (hlim : s₁.heap.NoLimit) (hg : s₁.gens = #[])
    (ha : s₁.heap.get? a = some { cls := .type "list", data := .seq vs.toArray }) (hi : IntsAre vs ns) (hl : ns.length ≤ sizeLine) (hr : Room k callerA)
    (F : ∀ base : Heap, K.In base → base.Ns mainGlobals mg → FnOk P w K mg base CX k fa fd [x] sp) (hbind : ∀ (s : Shared) (u : Value), BindsTo s fd ⟨[u], []⟩ [(x, u)])
    (hsp : ∀ H : Hp, Only H → SqL K H a (ns.map V.int) → sp [.ref a] H (fun v _ => v = .bl true) fun _ _ _ => False)
    (hCX : ∀ H e s', CX [] H s₁ (fun _ _ _ => False) e s' → False) :
    codeAny (model P w) callerA (.call (.ref fa) ⟨[.ref a], []⟩) (fun r s' => r = .ok (.ret (.bool true)) ∧ OldK s₁.heap s'.heap ∧ s'.os = s₁.os ∧ AllBare s'.gens) s₁ := by
  have rv := vals_ints hi
  have lenV := hi.length
  -- from an abstract heap in which nothing but the script may be tracked
  have core : ∀ H : Hp, Only H → SqL K H a (ns.map V.int) → HOk P w H s₁.heap → (∀ b, H b ≠ none → b = a) → (H a ≠ none → K.lookup a = none) →
      codeAny (model P w) callerA (.call (.ref fa) ⟨[.ref a], []⟩) (fun r s' => r = .ok (.ret (.bool true)) ∧ OldK s₁.heap s'.heap ∧ s'.os = s₁.os ∧ AllBare s'.gens) s₁ := by
    intro H hO hS hok hA hK
    have base_of : ∀ {b : Addr} {o : Obj}, s₁.heap.get? b = some o → H b = none → (hidT s₁.heap H).get? b = some o := fun e n => hidT_get e n
    have noA : ∀ {b : Addr} {o : Obj} {es : Array DictEntry} {ep : Nat}, s₁.heap.get? b = some o → o.data = .dict es ep → H b = none := fun {b o es ep} e d => by
      cases q : H b with
      | none => rfl
      | some u =>
        have e' : b = a := hA b (by rw [q]; simp)
        subst e'
        rw [ha] at e; cases e
        have d' : Data.seq vs.toArray _ = Data.dict es ep := d
        cases d'
    have nsK : ∀ {b : Addr} {m : Str → Option Value}, s₁.heap.Ns b m → (hidT s₁.heap H).Ns b m := fun {b m} ⟨o, es, ep, e, d, r⟩ => ⟨o, es, ep, base_of e (noA e d), d, r⟩
    have hKb : K.In (hidT s₁.heap H) := fun b o e => base_of (KX b o e) (by
      cases q : H b with
      | none => rfl
      | some u =>
        have e' : b = a := hA b (by rw [q]; simp)
        subst e'
        rw [hK (by rw [q]; simp)] at e; cases e)
    have hM : Mod K mg (hidT s₁.heap H) := ⟨hKb, nsK hns, ⟨mb, nsK hb, hbb⟩, let ⟨mc, h1, h2⟩ := hlim; ⟨mc, nsK h1, h2⟩⟩
    have e0 : Env0 P w K mg (hidT s₁.heap H) callerA [] s₁ H := ⟨rfl, hM, fun b o e => of_hidT e, Nat.le_of_eq (hidT_size _ _), trivial, fun b hb => absurd (show b ∈ ([] : List Addr) from hb) (by simp), hok, .of_eq hg⟩
    refine codeAny_mono ((F _ hKb (nsK hns)).run callerA [] s₁ H ⟨[.ref a], []⟩ [.ref a] [.ref a] _ _ hr e0 (hbind s₁ (.ref a)) (.cons rfl .nil) (hsp H hO hS)) fun r s' h => ?_
    cases r with
    | error e => exact (hCX H e s' h).elim
    | ok fl =>
      cases fl with
      | next => exact False.elim h
      | brk => exact False.elim h
      | cont => exact False.elim h
      | ret u =>
        obtain ⟨v, H', os, bare, un, hok', r', q⟩ := h
        have q' : v = .bl true := q
        subst q'
        obtain rfl : u = Value.bool true := r'
        refine ⟨rfl, OldK.of_keep fun b o e => ?_, os, bare⟩
        cases q : H b with
        | none => exact un.keep b o e q (by intro z; exact absurd (show b ∈ ([] : List Addr) from z) (by simp)) (by simp)
        | some u =>
          rcases hO b with z | ⟨ob, xs, z⟩
          · rw [q] at z; cases z
          · have z2 := un.frzs b ob _ z
            obtain ⟨e1, _⟩ := hok b _ z
            obtain ⟨e2, _⟩ := hok' b _ z2
            rw [e] at e1; cases e1
            exact e2
  cases hk : K.lookup a with
  | some o =>
    -- the script is one of the module's own objects
    have e := KX a o hk
    rw [ha] at e
    cases e
    refine core (fun _ => none) (fun _ => .inl rfl) (.inr ⟨_, vs.toArray, _, hk, rfl, rfl, rfl, by rw [List.size_toArray, lenV]; exact hl, by simpa using rv⟩) (fun b u z => by have z' : (none : Option HO) = some u := z; cases z') (fun b z => absurd rfl z) fun z => absurd rfl z
  | none =>
    refine core (fun b => if b = a then some (.frz { cls := .type "list", data := .seq vs.toArray } (.lst (ns.map V.int))) else none) (fun b => ?_) (.inl (.inr ⟨{ cls := .type "list", data := .seq vs.toArray }, if_pos rfl⟩)) (fun b u z => ?_) (fun b z => ?_) fun _ => hk
    · by_cases hb : b = a
      · exact .inr ⟨_, _, if_pos hb⟩
      · exact .inl (if_neg hb)
    · by_cases hb : b = a
      · have z' := (if_pos hb).symm.trans z
        cases z'
        subst hb
        exact ⟨ha, by rw [List.length_map]; exact hl, vs, _, rv, ha⟩
      · have z' := (if_neg hb).symm.trans z
        cases z'
    · by_cases hb : b = a
      · exact hb
      · exact absurd (if_neg hb) z
end L2

namespace L2
open PySem PySem.Spec PyProof.Rows

noncomputable abbrev KOf {K : PySem.W.Frag} {h : Heap} (_ : K.In h) : PySem.W.Frag := K


theorem walk_of {l : PySem.W.OpenLaw} {n k : Nat} {q : Program} {loose : List Str} {XP : (Str → Option Value) → Heap → Prop} {YP : World → Heap → Prop} {d : DefRec} {K : Params → PySem.W.Frag} {CX : World → CXT} {sp : World → Sp} {x : Str}
    (hn : l.most = some n) (hn2 : n ≤ sizeLine) (hdf : d.params.defaults = []) (hr : Room k callerA)
    (hY : ∀ (w : World) (h : Heap), YP w h → (K w.params).In h)
    (F : ∀ (w : World) (mg : Str → Option Value) (fa : Addr) (h : Heap), (K w.params).In h → h.Ns mainGlobals mg → mg d.name = some (.ref fa) →
      ∃ fd : FuncData, (∀ (s : Shared) (u : Value), BindsTo s fd ⟨[u], []⟩ [(x, u)]) ∧
        ∀ base : Heap, (K w.params).In base → base.Ns mainGlobals mg → FnOk l.prog w (K w.params) mg base (CX w) k fa fd [x] (sp w))
    (hsp : ∀ (w : World) (H : Hp) (a : Addr) (ns : List Int), ns.length ≤ n → Only H → SqL (K w.params) H a (ns.map V.int) → sp w [.ref a] H (fun v _ => v = .bl true) fun _ _ _ => False)
    (hCX : ∀ (w : World) (H : Hp) (s : Shared) (e : Value) (s' : Shared), CX w [] H s (fun _ _ _ => False) e s' → False) :
    PySem.W.WalkO q loose XP YP l.row.toRowW d [] (fun f vs => PySem.call f vs) := by
  refine Att.attach_call hn hdf fun w s₀ s₁ mg mb fa o pm cd doc a vs ns G Y ho hd hcd hmg hobj hints hlen hg => ?_
  have KX := hY w _ Y
  obtain ⟨fd, hb, hF⟩ := F w mg fa _ KX G.T.g hmg
  exact law_call KX G.T.g G.T.b G.T.builtins G.T.nolimit hg hobj hints (Nat.le_trans hlen hn2) hr hF hb (fun H hO hS => hsp w H a ns hlen hO hS) fun H e s' => hCX w H s₁ e s'

end L2




namespace L2
open PySem PySem.Spec PyProof.Rows






noncomputable abbrev CX0 : CXT := fun _ _ _ _ _ _ => False
noncomputable abbrev E0 : XK := fun _ _ _ => False
theorem pass0 {X : Cx} : Passes CX0 X E0 := fun _ _ _ _ _ _ _ h => h.elim


structure Fun (K : PySem.W.Frag) (x qual : Str) (st : Stmt) (f : Addr) (fd : FuncData) : Prop where
  ex : ∃ (oc : Value) (od : Option Addr) (kV doc pm : Value) (an : Option Addr) (cdv ct : Value) (osl : Array (Option Value)),
    fd = PySem.W.fnOf x qual (defArgs st) (defBody st) (defScope st) .none kV doc pm an cdv ct ∧ K.lookup f = some ⟨oc, od, .func fd, osl⟩ ∧ PySem.W.codeIn K cdv qual = true
  kp : PySem.W.keepIn K (.ref f) = true
section
variable {P : Program} {w : World} {K : PySem.W.Frag} {mg : Str → Option Value} {base : Heap}

theorem Fun.ok {x qual : Str} {st : Stmt} {f : Addr} {fd : FuncData} {N ps : List Str} {k : Nat} {sp : Sp} (F : Fun K x qual st f fd) (S : FnScope N ps (defScope st)) (len : ∀ vs H Q E, sp vs H Q E → vs.length = ps.length)
    (hbody : ∀ (cdv : Value) (A : Around) (outer : List Env) (s : Shared) (H : Hp) (vs : List V) (Q : VK) (E : XK), Room k (A.deeper (envOfC qual (defScope st) s.heap.objs.size f cdv)) → sp vs H Q E →
      ∃ t, PSs (cxOf CX0 P w K mg base N qual (defScope st) f cdv A outer s H E).nox (defBody st) t ∧ t { nx := fun _ H' => Q .non H', rt := Q } (start N vs) H) : FnOk P w K mg base CX0 (k + 1) f fd ps sp := by
  obtain ⟨oc, od, kV, doc, pm, an, cdv, ct, osl, rfl, lk, hcd⟩ := F.ex
  refine fn_of lk hcd S len fun A outer s H vs Q E hr hsp => ?_
  obtain ⟨t, h, q⟩ := hbody cdv A outer s H vs Q E hr hsp
  exact ⟨t, h.nox, q⟩

theorem Fun.binds {x qual : Str} {st : Stmt} {f : Addr} {fd : FuncData} {ps : List Str} (F : Fun K x qual st f fd)
    (h : ∀ (kV doc pm : Value) (an : Option Addr) (cdv ct : Value) (us : List Value), us.length = ps.length → bindArgs (PySem.W.fnOf x qual (defArgs st) (defBody st) (defScope st) .none kV doc pm an cdv ct) ⟨us, []⟩ = pure (ps.zip us)) : Binds K fd ps [] := by
  obtain ⟨oc, od, kV, doc, pm, an, cdv, ct, osl, rfl, lk, hcd⟩ := F.ex
  exact .all (h kV doc pm an cdv ct)
theorem fun_mk {x qual : Str} {st : Stmt} {f : Addr} {oc : Value} {od an : Option Addr} {osl : Array (Option Value)} {kV doc pm cdv ct : Value} (l : K.lookup f = some ⟨oc, od, .func (PySem.W.fnOf x qual (defArgs st) (defBody st) (defScope st) .none kV doc pm an cdv ct), osl⟩)
    (c : PySem.W.codeIn K cdv qual = true) (k : PySem.W.keepIn K (.ref f) = true) : Fun K x qual st f (PySem.W.fnOf x qual (defArgs st) (defBody st) (defScope st) .none kV doc pm an cdv ct) := ⟨⟨oc, od, kV, doc, pm, an, cdv, ct, osl, rfl, l, c⟩, k⟩
end
section
variable {X : Cx}
theorem pv (i : Nat) {x : Str} {pos : Pos} (hN : X.N[i]? = some x := by rfl) (hv : Vis X.env.scope x := by first | exact Or.inl rfl | exact Or.inr (Or.inl rfl) | exact Or.inr (Or.inr rfl)) (hd : (x == ("__debug__" : Str)) = false := by decide)
    (hcd : (x == ("__classdict__" : Str)) = false := by decide) : PE X (.Name x pos) (tVar i) := pe_var hN hv hd hcd
end


theorem iteF {A B : Prop} (h : B) : if false = true then A else B := by
  rw [if_neg Bool.false_ne_true]
  exact h
theorem iteT {A B : Prop} (h : A) : if true = true then A else B := by
  rw [if_pos rfl]
  exact h
theorem ite2 {c A B : Prop} [Decidable c] (h1 : c → A) (h2 : ¬ c → B) : if c then A else B := by
  by_cases h : c
  · rw [if_pos h]
    exact h1 h
  · rw [if_neg h]
    exact h2 h
noncomputable def Same (H H' : Hp) : Prop := ∀ b o, H b = some o → H' b = some o
theorem Same.refl (H : Hp) : Same H H := fun _ _ h => h
theorem Same.trans {H H1 H2 : Hp} (a : Same H H1) (b : Same H1 H2) : Same H H2 := fun c o h => b c o (a c o h)
theorem Same.seq {K : PySem.W.Frag} {H H' : Hp} {a : Addr} {xs : List V} (e : Same H H') (h : SqL K H a xs) : SqL K H' a xs := by
  rcases h with (h | ⟨o, h⟩) | h
  · exact .inl (.inl (e _ _ h))
  · exact .inl (.inr ⟨o, e _ _ h⟩)
  · exact .inr h

end L2
set_option Elab.async false
set_option linter.all false
set_option maxRecDepth 100000

namespace XK
open PySem PySem.W PySem.Spec PySem.Calls PyProof.Rows
section
variable {prog : Program} {w : World} {A : Around} {E : Value → Shared → Prop} {s : Shared} {K : Frag} {x D : Addr} {ox : Obj}


structure ExcCls (K : Frag) (D : Addr) : Prop where
  cls : (clsIn K D).isSome = true
  ga : findIn K (.ref D) "__getattribute__" = some (some (.builtin "BaseException.__getattribute__"))
  hook : findIn K (.ref D) "__getattr__" = some none
  ca : findIn K (.ref D) "__class__" = some (some (.builtin "object.__class__"))
  get : specialIn K (.builtin "object.__class__") "__get__" = some (some (.builtin "getset_descriptor.__get__"))
  tk : takesIn K (.builtin "object.__class__") = some true
  ob : mroIn K D (.type "object") = some true
  bx : mroIn K D (.type "BaseException") = some true

theorem found (c : ExcCls K D) : findObj K D none "__class__" = some (.bind (.builtin "getset_descriptor.__get__") (.builtin "object.__class__")) := by
  obtain ⟨cd, hc⟩ := Option.isSome_iff_exists.mp c.cls
  unfold findObj
  rw [hc, Option.bind_some, c.ca, Option.bind_some]
  simp [c.get, c.tk]

theorem ga_check {nameV : Value} {M : Model} {Q : Unit → Shared → Prop} (X : K.In s.heap) (c : ExcCls K D) (I : InstAt s.heap x ox D none) (h : Q () s) :
    wpAny M A (checkBuiltinCall "BaseException.__getattribute__" ⟨[.ref x, nameV], []⟩) Q E s := by
  have hk : builtinKind "BaseException.__getattribute__" = some .slot := by decide +kernel
  have hsplit : splitId "BaseException.__getattribute__" = some ("BaseException", "__getattribute__") := by decide +kernel
  have ha := F.args_bexc_ga (.ref x) nameV
  have L0 := I.type (M := M)
  have L1 := looks_mroIn (M := M) X c.bx
  obtain ⟨hh, g, d, t, os⟩ := s
  simp only [checkBuiltinCall, hk, hsplit]
  unfold isInstance
  repeat (first | exact h | refine wpAny_bind (L0.at ?_) | refine wpAny_bind (L1.at ?_) | refine L0.at ?_ | refine L1.at ?_ | wp_step)

theorem ga_entry {tk : Tok} {Q : Fin → Shared → Prop} (X : K.In s.heap) (c : ExcCls K D) (I : InstAt s.heap x ox D none) (h : Q (.done (.ret (.ref D))) s) :
    wpAny (model prog w) A (Builtin.«object.__getattribute__» ⟨[.ref x, .str "__class__" tk], []⟩) Q E s := by
  have L0 := I.type (M := model prog w)
  have L1 := looks_find (M := model prog w) X I (found c)
  obtain ⟨hh, g, d, t, os⟩ := s
  unfold Builtin.«object.__getattribute__»
  repeat (first | refine wpAny_bind (L0.at ?_) | refine wpAny_bind (L1.at ?_) | wp_step)
  exact class_get X I c.ob (wpAny_pure h)

theorem ga_attr {Q : Option Value → Shared → Prop} (X : K.In s.heap) (c : ExcCls K D) (I : InstAt s.heap x ox D none) (h : Q (some (.ref D)) { s with toks := s.toks + 1 }) :
    wpAny (model prog w) A (getAttr? (.ref x) "__class__") Q E s := by
  have L0 := I.type (M := model prog w)
  have L1 := looks_findIn (M := model prog w) X c.ga
  have L2 := looks_findIn (M := model prog w) X c.hook
  have f3 := PySem.F.attr_ValueError.ga.bind (.ref x)
  have hx2 : (Value.builtin "BaseException.__getattribute__" == Value.builtin "object.__getattribute__") = false := by decide +kernel
  have hx1 : (onTheHeap (Value.ref D) && Value.builtin "BaseException.__getattribute__" == Value.builtin "object.__getattribute__") = false := by rw [hx2]; rfl
  obtain ⟨hh, g, d, t, os⟩ := s
  unfold getAttr? getAttrBy? getAttrBy
  refine wpAny_bind (wpAny_mkText (wpAny_bind (wpAny_attempt (wpAny_holding (wpAny_bind (L0.at (wpAny_bind (L1.at ?_))))))))
  dsimp only
  rw [hx1, if_neg Bool.false_ne_true]
  unfold getAttrByItsOwn hookBefore
  rw [show onTheHeap (Value.ref D) = true from rfl, if_pos rfl]
  refine wpAny_bind (L2.at ?_)
  refine wpAny_bind (wpAny_attempt (wpAny_holding ?_))
  unfold callGetattribute
  rw [Bool.false_and, if_neg Bool.false_ne_true]
  unfold boundAndCalled
  rw [f3]
  refine wpAny_bind (wpAny_pure ?_)
  refine wpAny_call (codeAny_call_builtin PySem.F.attr_ValueError.ga.plain F.entry_bexc_ga (ga_check (s := ⟨hh, g, d, t + 1, os⟩) X c I (ga_entry (s := ⟨hh, g, d, t + 1, os⟩) X c I ?_)))
  repeat (first | exact h | wp_step)

theorem kitx_exc (c : ExcCls K D) : KitX K (.ref x) (.ref D) (fun h => InstAt h x ox D none) where
  ty := fun _ _ _ I => I.type
  it := fun M h X _ => by
    obtain ⟨cd, hc⟩ := Option.isSome_iff_exists.mp c.cls
    unfold clsIn at hc
    split at hc
    · rename_i ho
      intro A' Q' E' s' k q
      unfold isType loadHead
      exact wpAny_bind (wpAny_loadPart (k _ _ (X _ _ ho)) (wpAny_pure q))
    · cases hc
  ne := fun h tp dd its n sl X htp => by
    obtain ⟨cd, hc⟩ := Option.isSome_iff_exists.mp c.cls
    refine Bool.eq_false_iff.mpr fun q => ?_
    obtain rfl : D = tp := Value.ref.inj (beq_iff_eq.mp q)
    unfold clsIn at hc
    split at hc
    · rename_i ho
      cases (X _ _ ho).symm.trans htp
    · cases hc
  ca := fun X I k => ga_attr X c I k
end
end XK
set_option Elab.async false
set_option linter.all false
set_option maxRecDepth 100000

namespace L2
open PySem PySem.Spec PyProof.Rows


section
variable {M : Model} {A : Around} {E : Value → Shared → Prop} {s : Shared}

structure Entered (fl : List Addr) (e : Addr) (oe : Obj) (mark : Value) (h h' : Heap) (T : Addr) : Prop where
  keep : ∀ b o, b ≠ e → b ∉ fl → h.get? b = some o → h'.get? b = some o
  slot : ∀ b o, b ≠ e → h.get? b = some o → ∃ sl, h'.get? b = some { o with slots := sl }
  new : h.objs.size ≤ T
  recd : h'.get? e = some (oe.mapFields (·.setIfInBounds 1 (.ref T)))
  head : ∃ oT ts, h'.get? T = some oT ∧ oT.data = .fields ts ∧ ts[3]? = some mark

theorem enter_ok {base : Heap} {env : Env} {outer : List Env} {L e : Addr} {oe : Obj} {vs : Array Value} {head : Value} {b : Bool} {Q : Unit → Shared → Prop}
    (hfr : A.frames = some (env :: outer)) (hl : s.heap.FunFrames base (env :: outer)) (hf : env.frame = some L) (he : s.heap.get? e = some oe) (hd : oe.data = .fields vs) (hz : 1 < vs.size)
    (k : ∀ h' T, Entered ((env :: outer).filterMap (·.frame)) e oe (rawInt L) s.heap h' T → Q () { s with heap := h' }) :
    wpAny M A (do setField (.ref e) 1 (← EntryCells.newEntry head (← frameOf env) .none (rawInt L) .none (← entryPlaceOf L b))) Q E s := by
  have off : e ∉ (env :: outer).filterMap (·.frame) := fun hm => by
    obtain ⟨_, o, ho, nf⟩ := hl.mem hm
    rw [he] at ho
    cases ho
    exact nf vs hd
  refine wpAny_bind (wpAny_frameOf_fun hfr hl hf fun g so => ?_)
  refine wpAny_bind (wpAny_entryPlaceOf fun pl place => ?_)
  refine wpAny_bind ?_
  unfold EntryCells.newEntry newFields
  refine wpAny_newObj_type ?_ (place.sizeOk5 _ _ _ _ _)
  have g1 : g.get? e = some oe := (so.2.1 e off).trans he
  have g2 := Heap.get?_push_of_some (h := g) { cls := .type "traceback", dict := none, data := .fields ([head, .ref L, .none, rawInt L, .none] ++ (if pl.isEmpty then List.replicate 6 Value.none else pl)).toArray } g1
  have ne : g.objs.size ≠ e := Nat.ne_of_gt (Heap.lt_size g1)
  refine wpAny_setField g2 hd hz (k _ g.objs.size ?_)
  have oth : ∀ c o, c ≠ e → g.get? c = some o → ((g.push { cls := .type "traceback", dict := none, data := .fields ([head, .ref L, .none, rawInt L, .none] ++ (if pl.isEmpty then List.replicate 6 Value.none else pl)).toArray }).update e (Obj.mapFields (·.setIfInBounds 1 (Value.ref g.objs.size)))).get? c = some o := fun c o hc q => by
    rw [Heap.get?_update_other _ _ (Ne.symm hc)]
    exact Heap.get?_push_of_some _ q
  refine ⟨fun c o hc hm q => oth c o hc ((so.2.1 c hm).trans q), fun c o hc q => ?_, by rw [so.1]; exact Nat.le_refl _, ?_, ?_⟩
  · obtain ⟨sl, z⟩ := so.2.2 c o q
    exact ⟨sl, oth c _ hc z⟩
  · exact Heap.get?_update_self _ g2 (Obj.isFreed_of_fields (Obj.data_mapFields hd _))
  · refine ⟨_, _, (Heap.get?_update_other _ _ (Ne.symm ne)).trans (Heap.get?_push_size g rfl), rfl, ?_⟩
    simp
end



noncomputable abbrev CT := Hp → Array Value → Prop

noncomputable def C0 : CT := fun _ vs => vs[2]? = some .none

noncomputable def CtxR : CT := fun H vs => vs[2]? = some .none ∨ ∃ eb ob ws u, vs[2]? = some (.ref eb) ∧ H eb = some (.frz ob u) ∧ ob.data = .fields ws ∧ ws[2]? = some .none
class CtOk (C : CT) : Prop where
  keep : ∀ {H : Hp} {vs : Array Value} {v : Value}, C H vs → C H (vs.setIfInBounds 1 v)
  zero : ∀ {H : Hp} {vs : Array Value}, vs[2]? = some .none → C H vs
  ctx : ∀ {H : Hp} {vs : Array Value}, C H vs → CtxR H vs
theorem keep2 {vs : Array Value} {v : Value} {n : Value} (h : vs[2]? = some n) : (vs.setIfInBounds 1 v)[2]? = some n := by
  rw [Array.getElem?_setIfInBounds_ne (by decide)]
  exact h
noncomputable instance : CtOk C0 := ⟨keep2, id, .inl⟩
noncomputable instance : CtOk CtxR := ⟨fun h => h.imp keep2 fun ⟨eb, ob, ws, u, f1, f2⟩ => ⟨eb, ob, ws, u, keep2 f1, f2⟩, .inl, id⟩

noncomputable def FlyG (C : CT) (X : Cx) (pins : List (Addr × Obj)) (H : Hp) (ea : Addr) (cls fl : Value) (h : Heap) : Prop :=
  FpOk X pins H ea ∧ ∃ oe vs, h.get? ea = some oe ∧ (oe.cls = cls ∧ oe.dict = none) ∧ oe.data = .fields vs ∧ C H vs ∧
    ((vs[1]? = some .none ∧ fl = .none) ∨ ∃ T oT ts, vs[1]? = some (.ref T) ∧ T ≠ ea ∧ FpOk X pins H T ∧ h.get? T = some oT ∧ oT.data = .fields ts ∧ ts[3]? = some fl)

noncomputable abbrev FlyX := FlyG C0
section
variable {X : Cx} {pins : List (Addr × Obj)} {σ : St} {H : Hp} {s : Shared} {ea : Addr} {cls fl : Value} {M : Model} {A : Around} {E : Value → Shared → Prop} {Q : Unit → Shared → Prop} {C : CT} [ct : CtOk C]


theorem Inv.flown (I : Inv X pins σ H s) {b : Addr} (f : FpOk X pins H b) {h' : Heap} (k : ∀ c o, c ≠ b → s.heap.get? c = some o → h'.get? c = some o) : Inv X pins σ H { s with heap := h' } :=
  I.turned (t' := s.toks) k f.1 f.2.1 f.2.2.2.1 f.2.2.2.2.1 f.2.2.2.2.2

theorem ObjOk.some {P : Program} {w : World} {h : Heap} {a : Addr} {o : HO} (x : ObjOk P w H h a o) : ∃ u, h.get? a = some u := by
  cases o with
  | lst xs => obtain ⟨_, _, _, _, e⟩ := x; exact ⟨_, e⟩
  | tup xs => obtain ⟨_, _, _, u, e, _⟩ := x; exact ⟨_, e⟩
  | dK kvs => obtain ⟨_, _, _, _, u, _, _, e, _⟩ := x; exact ⟨u, e⟩
  | dT kvs => obtain ⟨_, _, _, _, u, _, _, e, _⟩ := x; exact ⟨u, e⟩
  | set S n => obtain ⟨u, _, _, _, e, _⟩ := x; exact ⟨u, e⟩
  | ins C dx fs => obtain ⟨_, _, _, e, _⟩ := x; exact ⟨_, e⟩
  | own y => exact x
  | xd fs => obtain ⟨_, ⟨u, _, _, e, _⟩, _⟩ := x; exact ⟨u, e⟩
  | rng lo hi => obtain ⟨_, _, _, e⟩ := x; exact ⟨_, e⟩
  | frz ob u => obtain ⟨e, _⟩ := x; exact ⟨_, e⟩
  | tbl ps => exact ⟨_, x⟩
  | met f y => exact ⟨_, x⟩
  | ext φ => exact x.2.1
theorem Inv.none_of (I : Inv X pins σ H s) {b : Addr} (hb : s.heap.get? b = none) : H b = none := by
  cases q : H b with
  | none => rfl
  | some o =>
    obtain ⟨u, e⟩ := (I.hok b o q).some
    rw [hb] at e
    cases e

theorem Inv.fpNone {H' : Hp} (I : Inv X pins σ H s) {b : Addr} (hb : s.heap.get? b = none) (hn : H' b = none) : FpOk X pins H' b := by
  refine ⟨hn, fun z => ?_, fun z => ?_, ?_, fun x c e z => ?_, fun p hp z => ?_⟩
  · obtain ⟨m, ⟨o, _, _, e, _⟩, _⟩ := I.loc
    rw [← z, hb] at e
    cases e
  · obtain ⟨_, o, e, _⟩ := I.funs.mem z
    rw [hb] at e
    cases e
  · by_cases hx : b ∈ X.ex
    · exact .inl hx
    · refine .inr ?_
      cases q : X.s₀.heap.get? b with
      | none => rfl
      | some o =>
        obtain ⟨o', e⟩ := I.base.there b o q hx
        rw [hb] at e
        cases e
  · obtain ⟨v, o, e', _⟩ := I.cell x c e
    rw [z, hb] at e'
    cases e'
  · have e := (I.pin p hp).1
    rw [z, hb] at e
    cases e


theorem flight_ok (I : Inv X pins σ H s) (F : FlyG C X pins H ea cls fl s.heap) (k : ∀ s', Inv X pins σ H s' → FlyG C X pins H ea cls .none s'.heap → Q () s') :
    wpAny M A (setFlight (.ref ea) none) Q E s := by
  obtain ⟨f0, oe, vs, he, hc, hd, h2, hh⟩ := F
  unfold setFlight
  rcases hh with ⟨h1, rfl⟩ | ⟨T, oT, ts, h1, hne, fT, hT, hdT, h3⟩
  · refine wpAny_bind (wpAny_field he hd h1 ?_)
    rw [if_neg (by decide)]
    exact wpAny_pure (k s I ⟨f0, oe, vs, he, hc, hd, h2, .inl ⟨h1, rfl⟩⟩)
  · have hz : 3 < ts.size := (Array.getElem?_eq_some_iff.mp h3).1
    refine wpAny_bind (wpAny_field he hd h1 ?_)
    rw [if_pos (show (Value.ref T != Value.none) = true by simp)]
    have oth : ∀ c, c ≠ T → (s.heap.update T (Obj.mapFields (·.setIfInBounds 3 ((none : Option Addr).elim Value.none fun f => rawInt f)))).get? c = s.heap.get? c := fun c hc => Heap.get?_update_other _ _ (Ne.symm hc)
    have hT' := Heap.get?_update_self (Obj.mapFields (·.setIfInBounds 3 ((none : Option Addr).elim Value.none fun f => rawInt f))) hT (Obj.isFreed_of_fields (Obj.data_mapFields hdT _))
    refine wpAny_setField hT hdT hz (k _ (I.flown fT fun c o hc q => (oth c hc).trans q) ⟨f0, oe, vs, (oth ea (Ne.symm hne)).trans he, hc, hd, h2, .inr ⟨T, _, _, h1, hne, fT, hT', Obj.data_mapFields hdT _, ?_⟩⟩)
    simp [hz]

theorem dict_mapFields (f : Array Value → Array Value) (o : Obj) : (Obj.mapFields f o).dict = o.dict := by
  obtain ⟨c, d, dt, sl⟩ := o
  cases dt <;> rfl

theorem enter_fly (I : Inv X pins σ H s) (hs : X.stack = X.env :: X.outer) (hf : X.env.frame = some X.env.locals) (hfr : A.frames = some X.stack) {oe : Obj} {vs : Array Value} {head : Value} {b : Bool}
    (f0 : FpOk X pins H ea) (he : s.heap.get? ea = some oe) (hc : oe.cls = cls ∧ oe.dict = none) (hd : oe.data = .fields vs) (h2 : C H vs) (hz : 1 < vs.size)
    (k : ∀ s', Inv X pins σ H s' → FlyG C X pins H ea cls (rawInt X.env.locals) s'.heap → Q () s') :
    wpAny M A (do setField (.ref ea) 1 (← EntryCells.newEntry head (← frameOf X.env) .none (rawInt X.env.locals) .none (← entryPlaceOf X.env.locals b))) Q E s := by
  have stk : s.heap.FunFrames X.base (X.env :: X.outer) := by
    have q := I.stack
    rw [hs] at q
    exact q
  have fm : ∀ b, b ∈ (X.env :: X.outer).filterMap (·.frame) ↔ b = X.env.locals ∨ b ∈ X.fs := fun b => by
    rw [List.filterMap_cons, hf]
    exact List.mem_cons
  have fre : ∀ b ∈ (X.env :: X.outer).filterMap (·.frame), H b = none := fun b hb => I.stkFree b (by rw [hs]; exact hb)
  refine enter_ok (hfr.trans (congrArg some hs)) stk hf he hd hz fun h' T W => ?_
  have nT : ea ≠ T := Nat.ne_of_lt (Nat.lt_of_lt_of_le (Heap.lt_size he) W.new)
  have I' : Inv X pins σ H { s with heap := h' } := by
    refine I.step (g' := s.gens) (d' := s.drawn) (t' := s.toks) (ch := [ea]) (fun b hb => ?_) (fun b o hL hb hc q _ => ?_) (fun b o _ _ hc q _ => W.slot b o (fun z => hc (by simp [z])) q) (fun _ _ _ _ n => n)
      (fun b o hc q => ?_) (fun _ _ q => q) (fun _ _ _ q => q) (fun _ ps q => ⟨#[], by rw [q]; simp⟩) (fun m hm => ?_) (fun b u q => ?_) I.bare
    · obtain rfl : b = ea := by simpa using hb
      exact ⟨f0.2.2.2.1, f0.2.1, f0.2.2.2.2.1, f0.2.2.2.2.2⟩
    · exact W.keep b o (fun z => hc (by simp [z])) (fun z => ((fm b).mp z).elim hL hb) q
    · obtain ⟨sl, z⟩ := W.slot b o (fun z => hc (by simp [z])) q
      exact ⟨_, z⟩
    · obtain ⟨o, es, ep, ho, r⟩ := hm
      obtain ⟨sl, z⟩ := W.slot _ o (Ne.symm f0.2.1) ho
      exact ⟨_, es, ep, z, r⟩
    · refine (I.hok b u q).stay (fun c v hc z => ?_) (fun _ z => z) fun _ _ z => z
      have nc : H c ≠ none := by
        rcases hc with rfl | hc
        · rw [q]; simp
        · rw [hc]; simp
      exact W.keep c v (fun e => nc (by rw [e]; exact f0.1)) (fun e => nc (fre c e)) z
  obtain ⟨oT, ts, hT, hdT, h3⟩ := W.head
  refine k _ I' ⟨f0, _, _, W.recd, ⟨(Obj.cls_mapFields _ _).trans hc.1, (dict_mapFields _ _).trans hc.2⟩, Obj.data_mapFields hd _, ?_, .inr ⟨T, oT, ts, ?_, Ne.symm nT, ?_, hT, hdT, h3⟩⟩
  · exact ct.keep h2
  · simp [hz]
  · exact I.fpOk W.new (I.hok.fresh W.new)


theorem note_ok (I : Inv X pins σ H s) (F : FlyG C X pins H ea cls .none s.heap) (hs : X.stack = X.env :: X.outer) (hf : X.env.frame = some X.env.locals) (hfr : A.frames = some X.stack)
    (k : ∀ s', Inv X pins σ H s' → FlyG C X pins H ea cls (rawInt X.env.locals) s'.heap → Q () s') : wpAny M A (noteFrame (.ref ea) X.env) Q E s := by
  obtain ⟨f0, oe, vs, he, hc, hd, h2, hh⟩ := F
  unfold noteFrame
  simp only [hf]
  rcases hh with ⟨h1, _⟩ | ⟨T, oT, ts, h1, hne, fT, hT, hdT, h3⟩
  · refine wpAny_bind (wpAny_field he hd h1 ?_)
    rw [if_neg (by decide)]
    exact enter_fly I hs hf hfr f0 he hc hd h2 (Array.getElem?_eq_some_iff.mp h1).1 k
  · have hz : 3 < ts.size := (Array.getElem?_eq_some_iff.mp h3).1
    refine wpAny_bind (wpAny_field he hd h1 ?_)
    rw [if_pos (show (Value.ref T != Value.none) = true by simp)]
    refine wpAny_bind (wpAny_field hT hdT h3 ?_)
    rw [if_neg (show ¬ ((Value.none == rawInt X.env.locals) = true) by simp [rawInt])]
    have oth : ∀ c, c ≠ T → (s.heap.update T (Obj.mapFields (·.setIfInBounds 3 Value.none))).get? c = s.heap.get? c := fun c hc => Heap.get?_update_other _ _ (Ne.symm hc)
    refine wpAny_bind (wpAny_setField hT hdT hz ?_)
    exact enter_fly (I.flown fT fun c o hc q => (oth c hc).trans q) hs hf hfr f0 ((oth ea (Ne.symm hne)).trans he) hc hd h2 (Array.getElem?_eq_some_iff.mp h1).1 k
end



noncomputable def CXG (C : CT) (P : Program) (w : World) : CXT := fun outer H s E e s' => ∃ (ea : Addr) (cls : Value) (H' : Hp), e = .ref ea ∧ s'.os = s.os ∧ AllBare s'.gens ∧ Un (frs outer) [] H H' s.heap s'.heap ∧ HOk P w H' s'.heap ∧
  (s.heap.get? ea = none ∧ H' ea = none ∧ ∃ oe vs, s'.heap.get? ea = some oe ∧ (oe.cls = cls ∧ oe.dict = none) ∧ oe.data = .fields vs ∧ C H' vs ∧
    ((vs[1]? = some .none) ∨ ∃ T oT ts, vs[1]? = some (.ref T) ∧ T ≠ ea ∧ s.heap.get? T = none ∧ H' T = none ∧ s'.heap.get? T = some oT ∧ oT.data = .fields ts ∧ ts[3]? = some .none)) ∧ E cls none H'

noncomputable abbrev CXE := CXG C0
noncomputable abbrev CXY := CXG CtxR

noncomputable def ThrowsG (C : CT) (X : Cx) (E : XK) : Prop := ∀ (pins : List (Addr × Obj)) (σ : St) (H : Hp) (s : Shared) (ea : Addr) (cls : Value), Inv X pins σ H s → FlyG C X pins H ea cls .none s.heap → E cls none H → X.xe (.ref ea) s

noncomputable abbrev Throws := ThrowsG C0
theorem throws_pass {C : CT} {P : Program} {w : World} {X : Cx} {E : XK} (hP : X.prog = P) (hw : X.w = w) (t : ThrowsG C X E) : Passes (CXG C P w) X E := by
  subst hP hw
  intro pins σ H s e s' I c
  obtain ⟨ea, cls, H', rfl, os, bare, un, hok, ⟨n0, f0, oe, vs, he, hc, hd, h2, hh⟩, q⟩ := c
  have I' : Inv X pins σ H' s' := I.call' (ch := []) os un hok bare fun b z => absurd z (by simp)
  refine t pins σ H' s' ea cls I' ⟨I.fpNone n0 f0, oe, vs, he, hc, hd, h2, ?_⟩ q
  rcases hh with h1 | ⟨T, oT, ts, h1, ne, nT, fT, hT, hdT, h3⟩
  · exact .inl ⟨h1, rfl⟩
  · exact .inr ⟨T, oT, ts, h1, ne, I.fpNone nT fT, hT, hdT, h3⟩


theorem passF {C : CT} {P : Program} {w : World} {X : Cx} : Passes (CXG C P w) X E0 := fun _ _ _ _ _ _ _ c => by
  obtain ⟨_, _, _, _, _, _, _, _, _, q⟩ := c
  exact q.elim


theorem throws_fn {C : CT} [ct : CtOk C] {P : Program} {w : World} {K : PySem.W.Frag} {mg : Str → Option Value} {base : Heap} {N : List Str} {qual : Str} {scope : Scope} {f : Addr} {cd : Value} {A : Around} {outer : List Env} {s : Shared} {H : Hp} {E : XK} :
    ThrowsG C (cxOf (CXG C P w) P w K mg base N qual scope f cd A outer s H E) E := by
  intro pins σ H' s' ea cls I F q
  show wpAny _ _ (leaving _ _) _ _ _
  unfold leaving
  refine wpAny_bind (note_ok I F rfl rfl I.ok.frames fun s1 I1 F1 => ?_)
  refine flight_ok I1 F1 fun s2 I2 F2 => ?_
  obtain ⟨f0, oe, vs, he, hc, hd, h2, hh⟩ := F2
  have ge : ∀ {b : Addr}, FpOk (cxOf (CXG C P w) P w K mg base N qual scope f cd A outer s H E) pins H' b → s.heap.get? b = none := fun {b} z => by
    rcases z.2.2.2.1 with z | z
    · exact absurd (show b ∈ ([] : List Addr) from z) (by simp)
    · exact z
  refine ⟨ea, cls, H', rfl, I2.os, I2.bare, I2.base, I2.hok, ⟨ge f0, f0.1, oe, vs, he, hc, hd, h2, ?_⟩, q⟩
  rcases hh with ⟨h1, _⟩ | ⟨T, oT, ts, h1, ne, fT, hT, hdT, h3⟩
  · exact .inl h1
  · exact .inr ⟨T, oT, ts, h1, ne, ge fT, fT.1, hT, hdT, h3⟩




theorem exc_obj {K : PySem.W.Frag} {h : Heap} {C : Addr} {bmB : List Value} {newId : String} (X : K.In h) (q : PySem.W.excIn K C bmB newId = true) :
    ∃ bm N nm qn bs hd sn sub ab col dd k0 k1 k2 k3 k5 mN, h.get? C = some (excClassObj nm qn C N bs bm hd sn sub ab col dd k0 k1 k2 k3 k5 newId) ∧ h.Ns N mN ∧ mN "__init__" = none ∧ OwnTail h bmB bm := by
  unfold PySem.W.excIn at q
  split at q
  case h_2 => cases q
  case h_1 dd cd sl lk =>
    split at q
    case h_2 => cases q
    case h_1 C' bm k0 k1 k2 k3 n k5 em es =>
      simp only [Bool.and_eq_true, beq_iff_eq, Bool.not_eq_true'] at q
      obtain ⟨⟨⟨⟨⟨e1, e2⟩, e3⟩, e4⟩, e5⟩, e6⟩ := q
      subst e1 e2
      obtain ⟨c1, c2, c3, c4, c5, c6, c7, c8, c9, c10, c11⟩ := cd
      dsimp only at em e3 e5 e6
      subst em e3
      obtain ⟨ls⟩ := sl
      dsimp only at es
      subst es
      exact ⟨bm, c4, c1, c5, c2, c6, c7, c8, c9, c10, dd, k0, k1, k2, k3, k5, _, X _ _ lk, .of_isNs (PySem.W.isNs_of_in X e5), PySem.W.nsMap_none_of_in X e5 e6, PySem.W.tail_of_in X e4⟩

section
variable {X : Cx} {E : XK} {x : Str} {C : Addr} {Ct : CT} [ct : CtOk Ct] {e₀ : Expr} {rest : List Expr} {t : TA} {np cpos pos : Pos}
noncomputable def tRaise (E : XK) (C : Addr) (t : TA) : TS := fun _ σ H => t σ H fun vs H1 => vs.length ≤ sizeLine ∧ E (.ref C) none H1
theorem ps_raise (hE : ThrowsG Ct X E) (hc : X.calm = true) (hg : Gl X x) (hm : X.mg x = some (.ref C)) (hx : PySem.W.excIn X.K C veMro "ValueError.__new__" = true) (ha : PA X (e₀ :: rest) t)
    (he : starEach (e₀ :: rest) X.env = (false, eval e₀ X.env) :: starEach rest X.env := by exact starEach_cons rfl) (hpl : (backTo cpos (starEach rest X.env)).any (·.1) = false := by exact noStars rfl) (hdb : (x == ("__debug__" : Str)) = false := by decide) :
    PS X (.Raise (some (.Call (.Name x np) (e₀ :: rest) [] cpos)) none pos) (tRaise E C t) := by
  intro pins s σ H D I h
  obtain ⟨bm, N, nm, qn, bs, hd, sn, sub, ab, col, dd, k0, k1, k2, k3, k5, mN, oC, oN, ni, T⟩ := exc_obj I.ok.mod.kin hx
  have FB := PySem.F.excBase_ValueError
  refine wpAny_Raise_call_subT (C := C) (nm := nm) (q := qn) (N := N) (bs := bs) (bm := bm) (hdct := hd) (sn := sn) (sub := sub) (ab := ab) (col := col) (dd := dd) (k0 := k0) (k1 := k1) (k2 := k2) (k3 := k3) (k5 := k5) (mN := mN)
    FB (T.hasType FB.hasBase) (I.ok.hd hc) (by rw [he]; show (false || (backTo cpos (starEach rest X.env)).any (·.1)) = false; rw [hpl]; rfl) ni (ld_glob I hg hm ⟨rfl, ?_⟩ hdb)
  have q := ha cpos pins s σ H _ I h
  rw [he] at q ⊢
  refine Calls.evalArgs_plain (thn q fun us s2 ⟨vs, H1, I1, r, hl, w⟩ => ⟨rfl, by show us.length ≤ sizeLine; rw [← r.length]; exact hl, I1.bk _ _ oC, oN.keeps I1.bk, T.keeps I1.bk, fun h' e made => ?_⟩)
  obtain ⟨t0, there, _, _⟩ := made.there
  exact hE pins σ H1 _ e (.ref C) (I1.kept (t' := s2.toks) made.keeps) ⟨I1.fpNone made.new (I1.none_of made.new), _, _, there, ⟨rfl, rfl⟩, rfl, ct.zero rfl, .inl ⟨rfl, rfl⟩⟩ w
end
end L2
set_option Elab.async false
set_option linter.all false
set_option maxRecDepth 100000
namespace L2
open PySem PySem.Spec PyProof.Rows


noncomputable abbrev Cx.tr (X : Cx) (pn : List (Addr × Obj)) (E : Value → Shared → Prop) : Cx := { X with pn := pn, xe := E }

noncomputable abbrev Cx.hdl (X : Cx) (pn : List (Addr × Obj)) (ea : Addr) (E : Value → Shared → Prop) : Cx := { X with pn := pn, xe := E, A := X.A.mark (some (.ref ea)), calm := false }

noncomputable def excO (ea : Addr) (oe : Obj) : HO := .frz oe (.ext fun h => ∃ o, h.get? ea = some o)
section
variable {X : Cx} {pn pins : List (Addr × Obj)} {σ : St} {H : Hp} {s : Shared} {E : Value → Shared → Prop} {ea : Addr}
theorem Cx.Ok.tr (ok : X.Ok) : (X.tr pn E).Ok :=
  ⟨ok.mod, ok.kind, ok.glob, ok.blt, ok.above, ok.inj, ok.has, ok.cab, ok.hd, ok.frames, ok.stk, ok.exf, ok.bs, ok.bsz, ok.noex, ok.exfs, ok.funs, ok.frf⟩
theorem Cx.Ok.hdl (ok : X.Ok) : (X.hdl pn ea E).Ok :=
  ⟨ok.mod, ok.kind, ok.glob, ok.blt, ok.above, ok.inj, ok.has, ok.cab, (fun z => nomatch z), ok.frames, ok.stk, ok.exf, ok.bs, ok.bsz, ok.noex, ok.exfs, ok.funs, ok.frf⟩
theorem Inv.tr (I : Inv X pins σ H s) : Inv (X.tr (X.pn ++ pins) E) [] σ H s :=
  ⟨I.ok.tr, I.os, I.bare, I.base, I.loc, I.cell, I.free, I.freeC, fun p hp => I.pin p (by simpa using hp), I.hok, I.len⟩
theorem Inv.toHdl {E' : Value → Shared → Prop} (I : Inv (X.tr pn E') [] σ H s) (ok : X.Ok) : Inv (X.hdl pn ea E) [] σ H s :=
  ⟨ok.hdl, I.os, I.bare, I.base, I.loc, I.cell, I.free, I.freeC, I.pin, I.hok, I.len⟩
theorem Inv.ofHdl (I : Inv (X.hdl (X.pn ++ pins) ea E) [] σ H s) (ok : X.Ok) : Inv X pins σ H s :=
  ⟨ok, I.os, I.bare, I.base, I.loc, I.cell, I.free, I.freeC, fun p hp => I.pin p (by simpa using hp), I.hok, I.len⟩
theorem Inv.ofTr (I : Inv (X.tr (X.pn ++ pins) E) [] σ H s) (ok : X.Ok) : Inv X pins σ H s :=
  ⟨ok, I.os, I.bare, I.base, I.loc, I.cell, I.free, I.freeC, fun p hp => I.pin p (by simpa using hp), I.hok, I.len⟩
theorem FlyG.toHdl {C : CT} {E' : Value → Shared → Prop} {cls fl : Value} {h : Heap} {eb : Addr} (F : FlyG C (X.tr pn E') [] H ea cls fl h) : FlyG C (X.hdl pn eb E) [] H ea cls fl h := F

theorem Inv.hold (I : Inv X pins σ H s) (f : FpOk X pins H ea) {oe : Obj} (he : s.heap.get? ea = some oe) : Inv X pins σ (upd H ea (excO ea oe)) s := by
  have off : ∀ b u, H b = some u → b ≠ ea := fun b u q z => by rw [z, f.1] at q; cases q
  refine I.step (h' := s.heap) (g' := s.gens) (d' := s.drawn) (t' := s.toks) (ch := [ea]) (fun b hb => ?_) (fun _ _ _ _ _ q _ => q) (fun b o _ _ _ q _ => ⟨o.slots, q⟩) (fun b o hc _ n => ?_) (fun b o _ q => ⟨o, q⟩)
    (fun b xs q => by rw [upd_ne (off b _ q)]; exact q) (fun b o u q => by rw [upd_ne (off b _ q)]; exact q) (fun b ps q => ⟨#[], by rw [upd_ne (off b _ q), q]; simp⟩) (fun _ z => z) (fun b u q => ?_) I.bare
  · obtain rfl : b = ea := by simpa using hb
    exact ⟨f.2.2.2.1, f.2.1, f.2.2.2.2.1, f.2.2.2.2.2⟩
  · rw [upd_ne (fun z => hc (by simp [z]))]
    exact n
  · by_cases hb : b = ea
    · subst hb
      rw [upd_same] at q
      cases q
      exact ⟨he, ⟨_, he⟩, ⟨_, he⟩, fun h1 h2 ⟨o, e⟩ k => ⟨o, k o e⟩⟩
    · rw [upd_ne hb] at q
      exact (I.hok b u q).stay (fun _ _ _ z => z) (fun c z => by rw [upd_ne (off c _ z)]; exact z) fun c xs z => by rw [upd_ne (off c _ z)]; exact z

theorem Inv.relocal {h' : Heap} {m' : Str → Option Value} {t' : Nat} (I : Inv X pins σ H s) (hn : h'.Ns X.env.locals m') (hs : Heap.SameBut X.env.locals s.heap h') :
    Inv X pins (X.N.map fun _ => none) H { s with heap := h', toks := t' } := by
  have nl : ∀ b o, X.s₀.heap.get? b = some o → b ≠ X.env.locals := fun b o e => Nat.ne_of_lt (Nat.lt_of_lt_of_le (Heap.lt_size e) I.ok.above)
  refine ⟨I.ok, I.os, I.bare, ⟨fun b o e n hb hx => ?_, fun b o e n hb hx => ?_, I.base.free, fun b o e hx => ?_, I.base.tups, I.base.frzs, I.base.tbls⟩, ⟨m', hn, fun i x v e1 e2 _ => ?_⟩, fun x c e => ?_, I.free, I.freeC, fun p hp => ?_, fun b u q => ?_, by simp⟩
  · exact (hs.2 b (nl b o e)).trans (I.base.keep b o e n hb hx)
  · obtain ⟨sl, q⟩ := I.base.slot b o e n hb hx
    exact ⟨sl, (hs.2 b (nl b o e)).trans q⟩
  · obtain ⟨o', q⟩ := I.base.there b o e hx
    exact ⟨o', (hs.2 b (nl b o e)).trans q⟩
  · rw [List.getElem?_map, e1] at e2
    cases e2
  · obtain ⟨v, z⟩ := I.cell x c e
    exact ⟨v, z.sameBut hs (I.cne x c e)⟩
  · obtain ⟨e, n, ne, nf, d⟩ := I.pin p hp
    exact ⟨(hs.2 p.1 ne).trans e, n, ne, nf, d⟩
  · refine (I.hok b u q).stay (fun c v hc z => (hs.2 c ?_).trans z) (fun _ z => z) fun _ _ z => z
    rintro rfl
    rcases hc with hc | hc
    · rw [← hc, I.free] at q; cases q
    · rw [I.free] at hc; cases hc
end


noncomputable def tryG (C : CT) (X : Cx) (pn : List (Addr × Obj)) (R : XK) : Value → Shared → Prop := fun e s => ∃ (ea : Addr) (cls : Value) (σ : St) (H : Hp), e = .ref ea ∧ Inv (X.tr pn fun _ _ => True) [] σ H s ∧ FlyG C (X.tr pn fun _ _ => True) [] H ea cls .none s.heap ∧ R cls none H
noncomputable abbrev tryE := tryG C0
theorem throws_try {C : CT} {X : Cx} {pn : List (Addr × Obj)} {R : XK} : ThrowsG C (X.tr pn (tryG C X pn R)) R := by
  intro pins σ H s ea cls I F q
  refine ⟨ea, cls, σ, H, rfl, ⟨⟨I.ok.mod, I.ok.kind, I.ok.glob, I.ok.blt, I.ok.above, I.ok.inj, I.ok.has, I.ok.cab, I.ok.hd, I.ok.frames, I.ok.stk, I.ok.exf, I.ok.bs, I.ok.bsz, I.ok.noex, I.ok.exfs, I.ok.funs, I.ok.frf⟩, I.os, I.bare, I.base, I.loc, I.cell, I.free, I.freeC, fun p hp => I.pin p ?_, I.hok, I.len⟩, ?_, q⟩
  · rw [List.append_nil] at hp
    exact List.mem_append_left _ hp
  · have cut : ∀ {b : Addr}, FpOk (X.tr pn (tryG C X pn R)) pins H b → FpOk (X.tr pn fun _ _ => True) [] H b := fun {b} f => ⟨f.1, f.2.1, f.2.2.1, f.2.2.2.1, f.2.2.2.2.1, fun p hp => f.2.2.2.2.2 p (by rw [List.append_nil] at hp; exact List.mem_append_left _ hp)⟩
    obtain ⟨f0, oe, vs, he, hc, hd, h2, hh⟩ := F
    refine ⟨cut f0, oe, vs, he, hc, hd, h2, ?_⟩
    rcases hh with z | ⟨T, oT, ts, h1, ne, fT, hT, hdT, h3⟩
    · exact .inl z
    · exact .inr ⟨T, oT, ts, h1, ne, cut fT, hT, hdT, h3⟩


noncomputable def fall (N : List Str) (D : Ends) : Ends := { nx := fun _ H => D.nx (N.map fun _ => none) H, rt := D.rt, bk := fun _ H => D.bk (N.map fun _ => none) H, ct := fun _ H => D.ct (N.map fun _ => none) H }
noncomputable def tTryG (C : CT) (R : XK) (N : List Str) (i : Nat) (tb : TS) (th : Addr → TS) : TS := fun D σ H => tb D σ H ∧ ∀ (ea : Addr) (oe : Obj) (vs : Array Value) (cls : Value) (σ' : St) (H' : Hp), R cls none H' → H' ea = none → oe.cls = cls → oe.dict = none →
  oe.data = .fields vs → C H' vs → σ'.length = N.length → th ea (fall N D) (σ'.set i (some (.ref ea))) (upd H' ea (excO ea oe))

noncomputable abbrev tTry := tTryG C0
theorem ps_tryC {C : CT} [ct : CtOk C] {X : Cx} {x n : Str} {i : Nat} {c : Addr} {R : XK} {tb : TS} {th : Addr → TS} {body suite : List Stmt} {b₀ : Stmt} {np hpos pos : Pos} (hs : X.stack = X.env :: X.outer) (hf : X.env.frame = some X.env.locals) (hg : Gl X x) (hm : X.mg x = some (.ref c))
    (hR : ∀ cls o H, R cls o H → PySem.W.exmOne X.K cls (.ref c) = some true) (hN : X.N.Nodup) (hi : X.N[i]? = some n) (hn : X.env.scope.names.lookup n = some .local)
    (hb : ∀ pn, PSs (X.tr pn (tryG C X pn R)) body tb) (hh : ∀ pn ea E, PSs (X.hdl pn ea E) (b₀ :: suite) (th ea)) (hdb : (x == ("__debug__" : Str)) = false := by decide) :
    PS X (.Try body [.ExceptHandler (some (.Name x np)) (some n) (b₀ :: suite) hpos] [] [] pos) (tTryG C R X.N i tb th) := by
  intro pins s σ H D I h
  obtain ⟨h1, h2⟩ := h
  have ok := I.ok
  have cls0 : (X.env.scope.kind == .class || (X.env.scope.kind == .module && X.env.locals != X.env.globals)) = false := by rw [ok.kind]; rfl
  refine wpAny_Try_except (wpAny_mono (hb (X.pn ++ pins) [] s σ H D I.tr h1) (fun f s1 q => ?_) fun e s1 q => ?_)
  · cases f with
    | next =>
      obtain ⟨σ', H', I', q⟩ := q
      exact wpAny_execs_nil ⟨σ', H', I'.ofTr ok, q⟩
    | brk => obtain ⟨σ', H', I', q⟩ := q; exact ⟨σ', H', I'.ofTr ok, q⟩
    | cont => obtain ⟨σ', H', I', q⟩ := q; exact ⟨σ', H', I'.ofTr ok, q⟩
    | ret u => obtain ⟨v, σ', H', I', r, q⟩ := q; exact ⟨v, σ', H', I'.ofTr ok, r, q⟩
  · obtain ⟨ea, cls, σ1, H1, rfl, I1, F1, r1⟩ := q
    refine note_ok (X := X.tr (X.pn ++ pins) fun _ _ => True) I1 F1 hs hf I1.ok.frames fun s2 I2 F2 => ?_
    refine flight_ok I2 F2 fun s3 I3 F3 => ?_
    have J3 : Inv (X.hdl (X.pn ++ pins) ea fun _ _ => True) [] σ1 H1 s3 := I3.toHdl ok
    obtain ⟨_, oe3, _, he3, hc3, _⟩ := id F3
    refine wpAny_handleBy_cons (codeAny_handlers_test (ld_glob J3 hg hm ?_ hdb)) (by intro q; cases q)
    have LT : PySem.W.Looks (model X.prog X.w) s3.heap (typeOf (.ref ea)) cls := by
      rw [← hc3.1]
      exact (PySem.W.Looks.ld he3).andThen .now
    refine (PySem.W.exm_one J3.kIn LT (hR cls none H1 r1)).here ?_
    refine codeAny_handlers_suite_as ?_
    refine flight_ok J3 F3.toHdl fun s4 J4 F4 => ?_
    obtain ⟨f4, oe, vs, he, hc, hd, h2', _⟩ := F4
    have J5 := J4.hold f4 he
    refine store_ok (X := X.hdl (X.pn ++ pins) ea fun _ _ => True) J5 hN hi (.inl hn) (v := .ref ea) rfl (fun s6 J6 => ?_) (.inr hn)
    have len : σ1.length = X.N.length := I1.len
    have J6' : ∀ E, Inv (X.hdl (X.pn ++ pins) ea E) [] (σ1.set i (some (.ref ea))) (upd H1 ea (excO ea oe)) s6 := fun E => ⟨ok.hdl, J6.os, J6.bare, J6.base, J6.loc, J6.cell, J6.free, J6.freeC, J6.pin, J6.hok, J6.len⟩
    refine wpAny_mono (hh (X.pn ++ pins) ea _ [] s6 _ _ (fall X.N D) (J6' _) (h2 ea oe vs cls σ1 H1 r1 f4.1 hc.1 hc.2 hd h2' len)) (fun f s7 q => ?_) fun _ _ z => z
    have go : ∀ {σ7 : St} {H7 : Hp} {E7 : Value → Shared → Prop}, Inv (X.hdl (X.pn ++ pins) ea E7) [] σ7 H7 s7 → (∀ s8, Inv X pins (X.N.map fun _ => none) H7 s8 → SP X pins D f s8) →
        wpAny (model X.prog X.w) X.A (do bindName X.env n .none; unbindBehindTheSuite X.env n hpos) (fun _ s8 => SP X pins D f s8) X.xe s7 := fun {σ7 H7 E7} J k => by
      obtain ⟨m, hns, _⟩ := J.loc
      exact wpAny_nameGoes hn hns cls0 fun h' m' hn' hs' => k _ ((J.ofHdl ok).relocal hn' hs')
    cases f with
    | next => obtain ⟨σ', H', I', q⟩ := q; exact go I' fun s8 I8 => ⟨_, _, I8, q⟩
    | brk => obtain ⟨σ', H', I', q⟩ := q; exact go I' fun s8 I8 => ⟨_, _, I8, q⟩
    | cont => obtain ⟨σ', H', I', q⟩ := q; exact go I' fun s8 I8 => ⟨_, _, I8, q⟩
    | ret u => obtain ⟨v, σ', H', I', r, q⟩ := q; exact go I' fun s8 I8 => ⟨v, _, _, I8, r, q⟩
end L2
set_option Elab.async false
set_option linter.all false
set_option maxRecDepth 100000
namespace L2
open PySem PySem.Spec PyProof.Rows


noncomputable def CtxH (h : Heap) (vs : Array Value) : Prop := vs[2]? = some .none ∨ ∃ eb ob ws, vs[2]? = some (.ref eb) ∧ h.get? eb = some ob ∧ ob.data = .fields ws ∧ ws[2]? = some .none

noncomputable def Quiet (A : Around) (h : Heap) : Prop := A.handled = none ∨ ∃ ea oe vs, A.handled = some (.ref ea) ∧ h.get? ea = some oe ∧ oe.data = .fields vs ∧ CtxH h vs

noncomputable def Hnd (A : Around) (h : Heap) (b : Addr) : Prop := A.handled = some (.ref b) ∨ ∃ ea oe vs, A.handled = some (.ref ea) ∧ h.get? ea = some oe ∧ oe.data = .fields vs ∧ vs[2]? = some (.ref b)
theorem Quiet.keeps {A : Around} {h h' : Heap} (q : Quiet A h) (k : ∀ b o, Hnd A h b → h.get? b = some o → h'.get? b = some o) : Quiet A h' := by
  rcases q with q | ⟨ea, oe, vs, e1, e2, e3, e4⟩
  · exact .inl q
  · refine .inr ⟨ea, oe, vs, e1, k ea oe (.inl e1) e2, e3, ?_⟩
    rcases e4 with e4 | ⟨eb, ob, ws, f1, f2, f3, f4⟩
    · exact .inl e4
    · exact .inr ⟨eb, ob, ws, f1, k eb ob (.inr ⟨ea, oe, vs, e1, e2, e3, f1⟩) f2, f3, f4⟩
theorem Quiet.there {A : Around} {h : Heap} {b : Addr} (q : Quiet A h) (hb : Hnd A h b) : ∃ o, h.get? b = some o := by
  rcases q with q | ⟨ea, oe, vs, e1, e2, e3, e4⟩
  · rcases hb with z | ⟨_, _, _, z, _⟩
    · rw [q] at z; cases z
    · rw [q] at z; cases z
  · rcases hb with z | ⟨a, o, us, z, z2, z3, z4⟩
    · rw [e1] at z
      cases z
      exact ⟨_, e2⟩
    · rw [e1] at z
      cases z
      rw [e2] at z2
      cases z2
      rw [e3] at z3
      cases z3
      rcases e4 with e4 | ⟨eb, ob, ws, f1, f2, f3, f4⟩
      · rw [e4] at z4; cases z4
      · rw [f1] at z4
        cases z4
        exact ⟨_, f2⟩
theorem Quiet.apart {A : Around} {h h' : Heap} {b : Addr} (q : Quiet A h) (k : ∀ a o, Hnd A h a → h.get? a = some o → h'.get? a = some o) (n : ¬ Hnd A h b) : ¬ Hnd A h' b := fun z => by
  rcases z with z | ⟨a, o, us, z, z2, z3, z4⟩
  · exact n (.inl z)
  · obtain ⟨u, hu⟩ := q.there (.inl z)
    have e := k a u (.inl z) hu
    rw [z2] at e
    cases e
    exact n (.inr ⟨a, o, us, z, hu, z3, z4⟩)
theorem entry_unchain : entryFor table "proto.unchain" = some Builtin.«proto.unchain» := entryFor_of_tree (by kernel_rfl)
section
variable {prog : Program} {w : World} {A : Around} {E : Value → Shared → Prop} {s : Shared}
theorem unchain_none {v slow : Value} {ea : Addr} {t : Bool} {oe : Obj} {vs : Array Value} {R : Result → Shared → Prop} (e2 : s.heap.get? ea = some oe) (e3 : oe.data = .fields vs) (e4 : vs[2]? = some .none) (k : R (.ok (.ret .none)) s) : codeAny (model prog w) A (.builtin "proto.unchain" ⟨[v, .ref ea, slow, .bool t], []⟩) R s := by
  refine codeAny_builtin entry_unchain ?_
  unfold Builtin.«proto.unchain»
  refine wpAny_bind (wpAny_field e2 e3 e4 ?_)
  rw [if_pos (by decide)]
  refine wpAny_bind (wpAny_pure (wpAny_pure ?_))
  exact k
theorem raise_quiet {α : Type} {Q : α → Shared → Prop} {a : Addr} {oa : Obj} {ws : Array Value} (q : Quiet A s.heap) (ha : s.heap.get? a = some oa) (hd : oa.data = .fields ws) (hz : 2 < ws.size) (hne : ¬ Hnd A s.heap a)
    (k : ∀ h', (∀ b o, b ≠ a → s.heap.get? b = some o → h'.get? b = some o) → (∃ o', h'.get? a = some o' ∧ o'.cls = oa.cls) → E (.ref a) { s with heap := h' }) : wpAny (model prog w) A (raiseNew (.ref a) : Sem α) Q E s := by
  unfold raiseNew
  refine wpAny_bind (wpAny_handled ?_)
  rcases q with q | ⟨ea, oe, vs, e1, e2, e3, e4⟩
  · rw [q]
    exact wpAny_bind (wpAny_pure (wpAny_throw (k s.heap (fun _ _ _ z => z) ⟨oa, ha, rfl⟩)))
  · have ne : ea ≠ a := fun z => hne (.inl (by rw [← z]; exact e1))
    rw [e1]
    dsimp only
    rw [if_pos (show (Value.ref ea != Value.ref a) = true by simp [ne])]
    have fin : wpAny (model prog w) A (do updateField a 2 (.ref ea); throw (.ref a) : Sem α) Q E s := by
      refine wpAny_bind ?_
      unfold updateField
      refine wpAny_bind (wpAny_load ha ?_)
      rw [hd]
      dsimp only
      rw [if_pos hz]
      exact wpAny_update ha (wpAny_throw (k _ (fun b o hb z => (Heap.get?_update_other _ _ (Ne.symm hb)).trans z) ⟨_, Heap.get?_update_self _ ha (Obj.isFreed_of_fields (Obj.data_mapFields hd _)), Obj.cls_mapFields _ _⟩))
    refine wpAny_bind (wpAny_holding (wpAny_runValue ?_))
    rcases e4 with e4 | ⟨eb, ob, us, f1, f2, f3, f4⟩
    · exact unchain_none e2 e3 e4 fin
    · have nb : eb ≠ a := fun z => hne (.inr ⟨ea, oe, vs, e1, e2, e3, by rw [← z]; exact f1⟩)
      refine codeAny_builtin entry_unchain ?_
      unfold Builtin.«proto.unchain»
      refine wpAny_bind (wpAny_field e2 e3 f1 ?_)
      rw [if_neg (show ¬ ((Value.ref eb == Value.none) = true) by simp)]
      dsimp only
      rw [if_neg (show ¬ ((Value.ref eb == Value.ref a) = true) by simp [nb])]
      by_cases z : eb = ea
      · rw [if_pos (show (Value.ref eb == Value.ref ea) = true by simp [z])]
        refine wpAny_bind (wpAny_rule (wpAny_bind (wpAny_pure (wpAny_pure ?_))))
        exact fin
      · rw [if_neg (show ¬ ((Value.ref eb == Value.ref ea) = true) by simp [z]), if_neg (by decide)]
        refine wpAny_bind (wpAny_pure (wpAny_pure ⟨Code.quiet_builtin _ (by decide +kernel), unchain_none f2 f3 f4 fin⟩))


theorem stop_quiet {α : Type} {it : Addr} {o : Obj} {ws : Array Value} {Q : α → Shared → Prop} (q : Quiet A s.heap) (hi : ¬ Hnd A s.heap it) (ho : s.heap.get? it = some o) (hd : o.data = .fields ws) (hz : 0 < ws.size)
    (k : ∀ h' e, (∀ b u, b ≠ it → s.heap.get? b = some u → h'.get? b = some u) → (∃ o', h'.get? e = some o' ∧ o'.cls = .type "StopIteration") → E (.ref e) { s with heap := h' }) :
    wpAny (model prog w) A (do setField (.ref it) 0 .none; raiseNew (← newExc (.type "StopIteration") []) : Sem α) Q E s := by
  refine wpAny_bind (wpAny_setField ho hd hz ?_)
  unfold newExc newTuple
  refine wpAny_bind (wpAny_bind (wpAny_newObj_type ?_ (by size_fits)))
  refine wpAny_bind (m := firstArgMember _ _) (wpAny_of_eq (a := Value.none) (by first | rfl | (simp only [firstArgMember]; rfl)) ?_)
  refine wpAny_newObj_type ?_ (by size_fits)
  have kp : ∀ (u1 u2 : Obj) b u, b ≠ it → s.heap.get? b = some u → (((s.heap.update it (Obj.mapFields (·.setIfInBounds 0 Value.none))).push u1).push u2).get? b = some u := fun u1 u2 b u hb z => Heap.get?_push_of_some _ (Heap.get?_push_of_some _ ((Heap.get?_update_other _ _ (Ne.symm hb)).trans z))
  have sz : ∀ u : Obj, ((s.heap.update it (Obj.mapFields (·.setIfInBounds 0 Value.none))).push u).objs.size = s.heap.objs.size + 1 := fun u => by rw [Heap.size_push, Heap.size_after_update]
  have kq : ∀ (u1 u2 : Obj) b u, Hnd A s.heap b → s.heap.get? b = some u → (((s.heap.update it (Obj.mapFields (·.setIfInBounds 0 Value.none))).push u1).push u2).get? b = some u := fun u1 u2 b u hb z => kp u1 u2 b u (fun c => hi (by rw [← c]; exact hb)) z
  refine raise_quiet (q.keeps fun b u hb z => kq _ _ b u hb z) (Heap.get?_push_size _ rfl) rfl (by simp; omega) (q.apart (fun b u hb z => kq _ _ b u hb z) fun z => ?_) fun h' k1 k2 => ?_
  · obtain ⟨u, e2⟩ := q.there z
    have l1 := Heap.lt_size e2
    rw [sz] at l1
    exact absurd l1 (Nat.not_lt_of_le (Nat.le_succ _))
  · refine k h' _ (fun b u hb z => k1 b u (fun c => ?_) (kp _ _ b u hb z)) k2
    have l1 := Heap.lt_size z
    rw [sz] at c
    rw [c] at l1
    exact absurd l1 (Nat.not_lt_of_le (Nat.le_succ _))

theorem list_end_q {it l : Addr} {j : Nat} {its : Array Value} {Q : Option Value → Shared → Prop} (q : Quiet A s.heap) (hq : ¬ Hnd A s.heap it) (hit : s.heap.IsListIter it l j) (hl : s.heap.IsList l its) (hx : its[j]? = none)
    (k : ∀ h', (∀ b u, b ≠ it → s.heap.get? b = some u → h'.get? b = some u) → Q none { s with heap := h' }) : wpAny (model prog w) A (pyNext (.ref it)) Q E s := by
  obtain ⟨oi, hoi, ci, di⟩ := id hit
  obtain ⟨ol, hol, _, nl, dl⟩ := hl
  unfold pyNext
  refine wpAny_bind (wpAny_attempt (wpAny_callSpecial?_slot (name := Str.ofString "__next__") hit.typeIs slot_listiter_next (wpAny_call_entry slot_listiter_next hit.typeIs entry_listiter_next ?_ (args_listiter_next _))))
  refine wpAny_bind (m := field (.ref it) 0) (wpAny_field hoi di (x := .ref l) rfl ?_)
  rw [if_neg (show ¬ ((Value.ref l == Value.none) = true) from Bool.false_ne_true)]
  refine wpAny_bind (m := field (.ref it) 1) (wpAny_field hoi di (x := .int j 0) rfl (wpAny_bind (m := seqItems? (.ref l)) (wpAny_seqItems hol dl ?_)))
  simp only [Int.toNat_natCast, hx]
  unfold Builtin.SmallTypes.stopIteration
  refine wpAny_bind (wpAny_rule (stop_quiet (A := A.in1) q hq hoi di (by simp) fun h' e k1 ⟨o', e1, e2⟩ => ?_))
  exact wpAny_bind (wpAny_isInstance (T := "StopIteration") (b := true) ⟨o', e1, e2⟩ isSubtype_stop (wpAny_pure (k h' k1)))

theorem tup_end_q {it l : Addr} {j : Nat} {its : Array Value} {Q : Option Value → Shared → Prop} (q : Quiet A s.heap) (hq : ¬ Hnd A s.heap it) (hit : IsTupIter s.heap it l j) (hl : IsTup s.heap l its) (hx : its[j]? = none)
    (k : ∀ h', (∀ b u, b ≠ it → s.heap.get? b = some u → h'.get? b = some u) → Q none { s with heap := h' }) : wpAny (model prog w) A (pyNext (.ref it)) Q E s := by
  obtain ⟨oi, hoi, ci, di⟩ := id hit
  obtain ⟨ol, hol, _, nl, dl⟩ := hl
  unfold pyNext
  refine wpAny_bind (wpAny_attempt (wpAny_callSpecial?_slot (name := Str.ofString "__next__") hit.typeIs slot_tupleiter_next (wpAny_call_entry slot_tupleiter_next hit.typeIs entry_tupleiter_next ?_ (args_tupleiter_next _))))
  refine wpAny_bind (m := field (.ref it) 0) (wpAny_field hoi di (x := .ref l) rfl ?_)
  rw [if_neg (show ¬ ((Value.ref l == Value.none) = true) from Bool.false_ne_true)]
  refine wpAny_bind (m := field (.ref it) 1) (wpAny_field hoi di (x := .int j 0) rfl (wpAny_bind (m := seqItems? (.ref l)) (wpAny_seqItems hol dl ?_)))
  simp only [Int.toNat_natCast, hx]
  unfold Builtin.SmallTypes.stopIteration
  refine wpAny_bind (wpAny_rule (stop_quiet (A := A.in1) q hq hoi di (by simp) fun h' e k1 ⟨o', e1, e2⟩ => ?_))
  exact wpAny_bind (wpAny_isInstance (T := "StopIteration") (b := true) ⟨o', e1, e2⟩ isSubtype_stop (wpAny_pure (k h' k1)))

theorem unpack_q {l : Addr} {its : Array Value} {ts : List (Bool × (Value → Sem Unit))} {Q : Unit → Shared → Prop} (q : Quiet A s.heap) (hl : IsTup s.heap l its) (hn : ts.length = its.size) (hst : ts.findIdx? (·.1) = none)
    (k : ∀ h', (∀ b u, s.heap.get? b = some u → h'.get? b = some u) → wpAny (model prog w) A (assignInOrder (ts.map (·.2)) its.toList) Q E { s with heap := h' }) : wpAny (model prog w) A (unpack (.ref l) ts) Q E s := by
  have hlt : l ≠ s.heap.objs.size := by obtain ⟨o, e, _⟩ := hl; exact Nat.ne_of_lt (Heap.lt_size e)
  have new : ¬ Hnd A s.heap s.heap.objs.size := fun z => by
    obtain ⟨u, e2⟩ := q.there z
    exact Nat.lt_irrefl _ (Heap.lt_size e2)
  unfold unpack
  rw [hn, hst]
  refine wpAny_bind (wpAny_holding ?_)
  unfold unpackItems
  refine wpAny_bind ?_
  unfold notIterableAtAll
  refine wpAny_bind (wpAny_specialOf hl.typeIs slot_tuple_iter.lookup (wpAny_pure ?_))
  simp only [Bool.false_eq_true, if_false]
  refine wpAny_bind (wpAny_holding (iter_tuple hl (wpAny_bind (wpAny_holding (draw_tuple hlt its.size 0 _ _ ⟨_, Heap.get?_push_size _ rfl, rfl, rfl⟩ (hl.push _) (by omega) fun h1 hi1 hs1 => ?_)))))
  rw [show List.take its.size (List.drop 0 its.toList) = its.toList by rw [List.drop_zero]; exact List.take_of_length_le (by simp), if_neg (by simp)]
  have kp : ∀ b u, s.heap.get? b = some u → h1.get? b = some u := fun b u z => (hs1.2 b (Nat.ne_of_lt (Heap.lt_size z))).trans (Heap.get?_push_of_some _ z)
  refine wpAny_bind (wpAny_holding (tup_end_q (s := { s with heap := h1 }) (q.keeps fun b u _ z => kp b u z) (q.apart (fun b u _ z => kp b u z) new) hi1 ((hl.push _).extBut hs1.extBut hlt) (by simp) fun h2 k2 => ?_))
  simp only [Option.isSome_none, Bool.false_eq_true, if_false]
  exact wpAny_pure (k h2 fun b u z => k2 b u (Nat.ne_of_lt (Heap.lt_size z)) (kp b u z))
end



noncomputable def HdR (A : Around) (H : Hp) : Prop := A.handled = none ∨ ∃ ea oe vs u, A.handled = some (.ref ea) ∧ H ea = some (.frz oe u) ∧ oe.data = .fields vs ∧ CtxR H vs
theorem CtxR.put {H : Hp} {vs : Array Value} {a : Addr} {o : HO} (c : CtxR H vs) (n : H a = none) : CtxR (upd H a o) vs := by
  rcases c with c | ⟨eb, ob, ws, u, f1, f2, f3, f4⟩
  · exact .inl c
  · exact .inr ⟨eb, ob, ws, u, f1, by rw [upd_ne fun z => by rw [z, n] at f2; cases f2]; exact f2, f3, f4⟩
section
variable {X : Cx} {pins : List (Addr × Obj)} {σ : St} {H : Hp} {s : Shared}
theorem Inv.quiet' (I : Inv X pins σ H s) (q : HdR X.A X.H₀) : Quiet X.A s.heap ∧ ∀ b, H b = none → ¬ Hnd X.A s.heap b := by
  rcases q with q | ⟨ea, oe, vs, u, e1, e2, e3, e4⟩
  · refine ⟨.inl q, fun b _ z => ?_⟩
    rcases z with z | ⟨_, _, _, z, _⟩
    · rw [q] at z; cases z
    · rw [q] at z; cases z
  · have e := I.base.frzs ea oe u e2
    have he := (I.hok ea _ e).1
    refine ⟨.inr ⟨ea, oe, vs, e1, he, e3, ?_⟩, fun b hb z => ?_⟩
    · rcases e4 with e4 | ⟨eb, ob, ws, u', f1, f2, f3, f4⟩
      · exact .inl e4
      · exact .inr ⟨eb, ob, ws, f1, (I.hok eb _ (I.base.frzs eb ob u' f2)).1, f3, f4⟩
    · rcases z with z | ⟨a, o, us, z, z2, z3, z4⟩
      · rw [e1] at z
        cases z
        rw [e] at hb
        cases hb
      · rw [e1] at z
        cases z
        rw [he] at z2
        cases z2
        rw [e3] at z3
        cases z3
        rcases e4 with e4 | ⟨eb, ob, ws, u2, f1, f2, f3, f4⟩
        · rw [e4] at z4; cases z4
        · rw [f1] at z4
          cases z4
          rw [I.base.frzs _ _ _ f2] at hb
          cases hb
theorem Inv.hdr (I : Inv X pins σ H s) (q : HdR X.A X.H₀) : HdR X.A H := by
  rcases q with q | ⟨ea, oe, vs, u, e1, e2, e3, e4⟩
  · exact .inl q
  · refine .inr ⟨ea, oe, vs, u, e1, I.base.frzs ea oe u e2, e3, ?_⟩
    rcases e4 with e4 | ⟨eb, ob, ws, u', f1, f2, f3, f4⟩
    · exact .inl e4
    · exact .inr ⟨eb, ob, ws, u', f1, I.base.frzs eb ob u' f2, f3, f4⟩

theorem pg_tupQ {es : List Expr} {k : Nat} {t : TGs} {n : Nat} {pos : Pos} (hq : HdR X.A X.H₀) (h : PGs X es t) (hn : (assignEach es X.env).length = n := by rfl) (hst : (assignEach es X.env).findIdx? (·.1) = none := by rfl) :
    PG X (.Tuple es k pos) (gTup X.K n t) := by
  intro pins s σ H v u Q I r hw
  obtain ⟨a, xs, e1, hs, hl, hw⟩ := hw
  subst e1
  cases r
  obtain ⟨its, rv, ht, hz⟩ := I.tuple hs
  rw [assign_Tuple]
  refine wpAny_bind (wpAny_standAt (unpack_q (I.quiet' hq).1 ht (by simp [hn, ← hl, rv.length]) hst fun h' kp => ?_))
  exact h pins _ σ H xs _ Q (I.kept (t' := s.toks) kp) (by simpa using rv) hw
end
end L2
set_option Elab.async false
set_option linter.all false
set_option maxRecDepth 100000
namespace L2
open PySem PySem.Spec PyProof.Rows


noncomputable def cxComp (X : Cx) (Nc : List Str) (scope : Scope) (cl : List (Str × Addr)) (C it : Addr) (s : Shared) (H : Hp) : Cx :=
  { X with N := Nc, s₀ := s, H₀ := H, env := compEnvC scope cl C X.env, outer := X.stack, ex := [it], fn := fun _ => false, pn := [], xe := fun _ _ => False }

noncomputable def PIf (X : Cx) (ifs : List Expr) (t : TT) : Prop :=
  ∀ (pins : List (Addr × Obj)) (s : Shared) (σ : St) (H : Hp) (Q : Bool → Hp → Prop), Inv X pins σ H s → t σ H Q →
    wpAny (model X.prog X.w) X.A (forIn ifs true fun c r => if r = true then do let ok ← isTrue c X.env (eval c X.env); pure (ForInStep.yield ok) else pure (ForInStep.yield r)) (TP X pins σ Q) X.xe s
noncomputable def tNoIf : TT := fun _ H Q => Q true H
theorem pif_nil {X : Cx} : PIf X [] tNoIf := fun _ _ _ H _ I h => wpAny_tests_nil ⟨H, I, h⟩
theorem pif_one {X : Cx} {c : Expr} {t : TT} (h : PT X c t) : PIf X [c] t := fun pins s σ H Q I q => wpAny_tests_one (h pins s σ H Q I q)


theorem comp_loop {prog : Program} {w : World} {A : Around} {R : Result → Shared → Prop} {s : Shared} {elt tgt iter : Expr} {ifs : List Expr} {scope : Scope} {pos : Pos} {it acc : Value} {env : Env} (J : Nat → Shared → Prop)
    (turn : ∀ n s, J n s → wpAny (model prog w) A (pyNext it) (fun r s1 => match r with
      | none => R (.ok .next) s1
      | some v => wpAny (model prog w) A (letOwnedTupleGo tgt it v) (fun _ s2 => wpAny (model prog w) A (assign tgt env v) (fun _ s3 =>
          wpAny (model prog w) A (forIn ifs true fun c r => if r = true then do let ok ← isTrue c env (eval c env); pure (ForInStep.yield ok) else pure (ForInStep.yield r)) (fun ok s4 =>
            if ok = true then wpAny (model prog w) A (eval elt env) (fun x s5 => wpAny (model prog w) A (call (.builtin "list.append") [acc, x]) (fun _ s6 => ∃ m, m < n ∧ J m s6) (fun _ _ => False) s5) (fun _ _ => False) s4
            else ∃ m, m < n ∧ J m s4) (fun _ _ => False) s3) (fun _ _ => False) s2) (fun _ _ => False) s1) (fun _ _ => False) s)
    (n : Nat) (h : J n s) : codeAny (model prog w) A (.compLoop (.ListComp elt [⟨tgt, iter, ifs, 0⟩] scope pos) 0 it acc env) R s := by
  refine codeAny_loop rfl J (fun n s hJ => ?_) n h
  show wpAny _ A ((compTurn (.ListComp elt [⟨tgt, iter, ifs, 0⟩] scope pos) 0 it acc env).onRaise (fun x => do noteFrame x env; theTreesLotGoes x)) _ _ s
  refine wpAny_noted (wpAny_mono (E := fun _ _ => False) ?_ (fun _ _ z => z) fun _ _ z => z.elim)
  rw [compTurn_list]
  refine wpAny_bind (wpAny_standAt (wpAny_bind (thn (turn n s hJ) fun r s1 h1 => ?_)))
  cases r with
  | none => exact wpAny_pure h1
  | some v =>
    refine wpAny_bind (thn h1 fun _ s2 h2 => wpAny_bind (thn h2 fun _ s3 h3 => wpAny_bind (thn h3 fun ok s4 h4 => ?_)))
    cases ok with
    | false => exact wpAny_pure ⟨rfl, h4⟩
    | true => exact wpAny_bind (wpAny_bind (thn h4 fun x s5 h5 => wpAny_bind (thn h5 fun _ s6 h6 => wpAny_pure (wpAny_pure ⟨rfl, h6⟩))))


noncomputable def capt (src : List (Option Nat)) (σ : St) : St := src.map fun o => o.bind fun j => (σ[j]?).join

noncomputable def tTurns (K : PySem.W.Frag) (a D : Addr) (xs : List V) (g : TG) (tt : TT) (te : TE) (fin : List V → Hp → Prop) (σ : St) (H : Hp) : Prop :=
  ∃ W : Nat → List V → St → Hp → Prop, W 0 [] σ H ∧ (∀ i ys σ H, W i ys σ H → SqL K H a xs ∧ H D = some (.lst ys)) ∧
    (∀ i x ys σ H, xs[i]? = some x → W i ys σ H → g x σ H fun σ1 H1 => tt σ1 H1 fun b H2 => if b = true then te σ1 H2 fun y H3 => H3 D = some (.lst ys) ∧ ys.length < sizeLine ∧ W (i + 1) (ys ++ [y]) σ1 (upd H3 D (.lst (ys ++ [y]))) else W (i + 1) ys σ1 H2) ∧
    ∀ ys σ H, W xs.length ys σ H → fin ys H
noncomputable def tComp (K : PySem.W.Frag) (src : List (Option Nat)) (tl : TE) (g : TG) (tt : TT) (te : TE) : TE := fun σ H Q => tl σ H fun x H1 => ∃ a xs, x = .ref a ∧ SqL K H1 a xs ∧
  ∀ D, H1 D = none → tTurns K a D xs g tt te (fun ys H2 => Q (.ref D) H2) (capt src σ) (upd H1 D (.lst []))

section
variable {X : Cx} {elt iter tgt : Expr} {ifs : List Expr} {scope : Scope} {cl : List (Str × Addr)} {Nc : List Str} {src : List (Option Nat)} {g : TG} {tt : TT} {te : TE}

structure CompOk (X : Cx) (Nc : List Str) (scope : Scope) (cl : List (Str × Addr)) (src : List (Option Nat)) : Prop where
  clos : closureFor scope X.env = pure cl
  kind : scope.kind = .function
  cell : ∀ y ∈ scope.names, y.2 ≠ .cell
  names : ∀ y ∈ scope.names, y.2 = .local → scope.names.lookup y.1 = some .local
  sub : ∀ x c, cl.lookup x = some c → X.env.cells.lookup x = some c
  has : ∀ x, ((relabel scope X.env).names.lookup x = some .cell ∨ (relabel scope X.env).names.lookup x = some .free) → ∃ c, cl.lookup x = some c
  frm : ∀ (i j : Nat), src[i]? = some (some j) → ∃ x, Nc[i]? = some x ∧ X.N[j]? = some x ∧ X.env.scope.names.lookup x = some .cell ∧ (relabel scope X.env).names.lookup x = some .cell
  len : src.length = Nc.length

theorem comp_block {pins : List (Addr × Obj)} {σ : St} {H : Hp} {s : Shared} {a D it : Addr} {xs : List V} {R : Addr → Result → Shared → Prop} {fin : List V → Hp → Prop} {pos : Pos} {E : Value → Shared → Prop}
    (c : CompOk X Nc scope cl src) (hq : HdR X.A X.H₀) (I : Inv X pins σ H s) (hit : s.heap.IsListIter it a 0) (f : FpOk X pins H it) (hz : xs.length ≤ sizeLine)
    (hb : ∀ C s' H', HdR X.A H' → PG (cxComp X Nc scope cl C it s' H') tgt g ∧ PIf (cxComp X Nc scope cl C it s' H') ifs tt ∧ PE (cxComp X Nc scope cl C it s' H') elt te)
    (h : tTurns X.K a D xs g tt te fin (capt src σ) H)
    (kend : ∀ C ys σ' H' s', H C = none → Inv (cxComp X Nc scope cl C it s H) [] σ' H' s' → H' D = some (.lst ys) → fin ys H' → R C (.ok .next) s') :
    wpAny (model X.prog X.w) X.A (newFunctionEnv scope X.env.globals cl [] X.env.qual none .none (some X.env)) (fun cenv s4 =>
      codeAny (model X.prog X.w) X.A (.compStart (.ListComp elt [⟨tgt, iter, ifs, 0⟩] scope pos) 0 (.ref it) (.ref D) { cenv with scope := relabel scope X.env }) (R cenv.locals) s4) E s := by
  obtain ⟨W, w0, wi, wt, wf⟩ := h
  refine wpAny_newFunctionEnv c.cell (by intro y hy; simp at hy) (fun h1 hn1 hs1 => ?_) c.kind
  have hC0 : H s.heap.objs.size = none := I.hok.fresh (Nat.le_refl _)
  have old : ∀ b o, s.heap.get? b = some o → h1.get? b = some o := fun b o e => hs1.extBut b o (Nat.ne_of_lt (Heap.lt_size e)) (Heap.get?_push_of_some _ e)
  have itlt : it < s.heap.objs.size := by obtain ⟨o, e, _⟩ := hit; exact Heap.lt_size e
  have inStk : it ∉ frs X.stack := fun z => (List.mem_cons.mp (I.stkSub it z)).elim f.2.1 f.2.2.1
  have Yok : (cxComp X Nc scope cl s.heap.objs.size it s H).Ok := by
    refine ⟨I.ok.mod, c.kind, I.ok.glob, I.ok.blt, Nat.le_refl _, fun x y b h1 h2 => I.ok.inj x y b (c.sub x b h1) (c.sub y b h2), fun x hx => c.has x hx, (fun x b h1 _ => nomatch h1), I.ok.hd, I.ok.frames, .inl rfl, fun b hb => ?_, fun b o e => I.bs b o e, Nat.le_trans I.ok.bsz I.sz, fun b o e hb => ?_, fun b hb => ?_, I.stack, I.stkFree⟩
    · obtain rfl : b = it := by simpa [cxComp] using hb
      exact ⟨Nat.ne_of_lt itlt, fun x b' e => f.2.2.2.2.1 x b' (c.sub x b' e)⟩
    · obtain rfl : b = it := by simpa [cxComp] using hb
      have e0 := (I.ok.bs b o e).1
      rcases f.2.2.2.1 with z | z
      · exact I.ok.noex b o e z
      · rw [z] at e0; cases e0
    · obtain rfl : b = it := by simpa [cxComp] using hb
      exact inStk
  have J0 : Inv (cxComp X Nc scope cl s.heap.objs.size it s H) [] (capt src σ) H { s with heap := h1, toks := s.toks + ([] : List (Str × Value)).length } := by
    refine ⟨Yok, rfl, I.bare, Un.kept old, ⟨_, hn1, fun i x v e1 e2 e3 => ?_⟩, fun x b e => ?_, hC0, fun x b e => I.freeC x b (c.sub x b e), fun p hp => absurd (show p ∈ ([] : List (Addr × Obj)) from hp) (by simp), I.hok.kept old, ?_⟩
    · unfold capt at e2
      rw [List.getElem?_map] at e2
      cases q : src[i]? with
      | none => rw [q] at e2; cases e2
      | some oj =>
        rw [q] at e2
        cases oj with
        | none => cases e2
        | some j =>
          obtain ⟨y, y1, y2, y3, y4⟩ := c.frm i j q
          obtain rfl : y = x := Option.some.inj (y1.symm.trans e1)
          have e2' : (σ[j]?).join = some v := Option.some.inj e2
          have e2s : σ[j]? = some (some v) := by
            cases z : σ[j]? with
            | none => rw [z] at e2'; cases e2'
            | some ov => rw [z] at e2'; exact congrArg some e2'
          obtain ⟨m, hn, hl⟩ := I.loc
          obtain ⟨u, r, l⟩ := hl j y v y2 e2s (.inr (.inl y3))
          refine ⟨u, r, .inr ⟨.inl y4, ?_⟩⟩
          rcases l with ⟨k1, _⟩ | ⟨_, b, k2, k3⟩
          · exact absurd (k1.symm.trans y3) (by intro z; cases z)
          · obtain ⟨b', k4⟩ := c.has y (.inl y4)
            have k5 := c.sub y b' k4
            rw [k2] at k5
            cases k5
            obtain ⟨o, ho, hd⟩ := k3
            exact ⟨b, k4, o, old b o ho, hd⟩
    · obtain ⟨v, o, ho, hd⟩ := I.cell x b (c.sub x b e)
      exact ⟨v, o, old b o ho, hd⟩
    · unfold capt
      rw [List.length_map]
      exact c.len
  have hit1 : h1.IsListIter it a 0 := hit.at fun o e => old it o e
  obtain ⟨bg, bi, be⟩ := hb s.heap.objs.size s H (I.hdr hq)
  have hq' : HdR (cxComp X Nc scope cl s.heap.objs.size it s H).A (cxComp X Nc scope cl s.heap.objs.size it s H).H₀ := I.hdr hq
  have fpY : ∀ {σ2 : St} {H2 : Hp} {s2 : Shared}, Inv (cxComp X Nc scope cl s.heap.objs.size it s H) [] σ2 H2 s2 → H2 it = none → FpOk (cxComp X Nc scope cl s.heap.objs.size it s H) [] H2 it := fun {σ2 H2 s2} J n =>
    ⟨n, Nat.ne_of_lt itlt, inStk, .inl (by simp [cxComp]), fun x b' e => f.2.2.2.2.1 x b' (c.sub x b' e), fun p hp => absurd (show p ∈ ([] : List (Addr × Obj)) from hp) (by simp)⟩
  have loop : codeAny (model X.prog X.w) X.A (.compLoop (.ListComp elt [⟨tgt, iter, ifs, 0⟩] scope pos) 0 (.ref it) (.ref D) (compEnvC scope cl s.heap.objs.size X.env)) (R s.heap.objs.size) { s with heap := h1, toks := s.toks + ([] : List (Str × Value)).length } := by
    refine comp_loop (fun n s' => ∃ i ys σ' H', n = xs.length - i ∧ i ≤ xs.length ∧ Inv (cxComp X Nc scope cl s.heap.objs.size it s H) [] σ' H' s' ∧ s'.heap.IsListIter it a i ∧ H' it = none ∧ W i ys σ' H') ?_ xs.length
      ⟨0, [], _, H, rfl, Nat.zero_le _, J0, hit1, f.1, w0⟩
    rintro n s2 ⟨i, ys, σ2, H2, rfl, hi, J2, it2, fr2, w2⟩
    obtain ⟨q1, q2⟩ := wi i ys σ2 H2 w2
    obtain ⟨its, rv, pl, hz'⟩ := J2.list q1
    by_cases hlt : i < xs.length
    · have hx : xs[i]? = some xs[i] := by simp [hlt]
      obtain ⟨u, hu, ru⟩ := rv.get hx
      refine wpAny_pyNext_list_item it2 pl.isList (x := u) (by simpa using hu) fun h3 it3 sb3 => ?_
      have J3 : Inv (cxComp X Nc scope cl s.heap.objs.size it s H) [] σ2 H2 { s2 with heap := h3 } := J2.flown (fpY J2 fr2) fun b o hb' e => (sb3.2 b hb').trans e
      obtain ⟨oi, ei, ci, di⟩ := id it3
      refine go_of (s := { s2 with heap := h3 }) ei ci di (by decide) ?_
      have J3' := J3.pinned (fp := [it]) (fun b hb' => by obtain rfl : b = it := (by simpa using hb'); exact fpY J3 fr2) (fun b hb' => by obtain rfl : b = it := (by simpa using hb'); exact ⟨oi, ei, fun v z => by rw [di] at z; cases z⟩)
      have back : ∀ {σ4 : St} {H4 : Hp} {s4 : Shared}, Inv (cxComp X Nc scope cl s.heap.objs.size it s H) ([] ++ pinsAt [it] h3) σ4 H4 s4 → Inv (cxComp X Nc scope cl s.heap.objs.size it s H) [] σ4 H4 s4 ∧ s4.heap.IsListIter it a (i + 1) ∧ H4 it = none := fun {σ4 H4 s4} J4 => by
        have p := J4.pin (it, oi) (List.mem_append_right _ (List.mem_append_right _ (mem_pinsAt (by simp) ei)))
        exact ⟨J4.unpinned, ⟨oi, p.1, ci, di⟩, p.2.1⟩
      refine thn (bg _ _ σ2 H2 xs[i] u _ J3' ru (wt i xs[i] ys σ2 H2 hx w2)) fun _ s4 ⟨σ4, H4, J4, q4⟩ => ?_
      refine thn (bi _ s4 σ4 H4 _ J4 q4) fun b s5 ⟨H5, J5, q5⟩ => ?_
      cases b with
      | false =>
        obtain ⟨J5', it5, fr5⟩ := back J5
        exact ⟨xs.length - (i + 1), by omega, i + 1, ys, σ4, H5, rfl, hlt, J5', it5, fr5, q5⟩
      | true =>
        refine thn (be _ s5 σ4 H5 _ J5 q5) fun y s6 ⟨vy, H6, J6, ry, hD6, hl6, q6⟩ => ?_
        refine thn (mt_append (X := cxComp X Nc scope cl s.heap.objs.size it s H) _ s6 σ4 H6 (.ref D) [vy] (.ref D) [y] (fun _ H' => H' = upd H6 D (.lst (ys ++ [vy]))) J6 rfl (.cons ry .nil) ⟨D, ys, vy, rfl, rfl, hD6, hl6, rfl⟩) fun _ s7 ⟨_, H7, J7, _, e7⟩ => ?_
        subst e7
        obtain ⟨J7', it7, fr7⟩ := back J7
        exact ⟨xs.length - (i + 1), by omega, i + 1, ys ++ [vy], σ4, _, rfl, hlt, J7', it7, fr7, q6⟩
    · have hie : i = xs.length := by omega
      subst hie
      obtain ⟨qt, qn⟩ := J2.quiet' hq'
      have hl := rv.length
      refine list_end_q qt (qn it fr2) it2 pl.isList (by simp; omega) fun h3 k3 => ?_
      exact kend _ ys σ2 H2 _ hC0 (J2.flown (fpY J2 fr2) k3) q2 (wf ys σ2 H2 w2)
  exact codeAny_compStart_list loop (wpAny_pyIter_listiter hit1 loop)


theorem comp_back {pins : List (Addr × Obj)} {σ σ' : St} {H H' : Hp} {s s' : Shared} {C it : Addr} {h' : Heap} (I : Inv X pins σ H s) (f : FpOk X pins H it) (J : Inv (cxComp X Nc scope cl C it s H) [] σ' H' s') (hs : Heap.SameBut C s'.heap h') :
    Inv X pins σ H' { s' with heap := h' } := by
  have nC : ∀ b o, s.heap.get? b = some o → b ≠ C := fun b o e => Nat.ne_of_lt (Nat.lt_of_lt_of_le (Heap.lt_size e) J.ok.above)
  have B := J.base
  refine I.call' (s' := { s' with heap := h' }) (ch := [it]) J.os ⟨fun b o e n hb hx => (hs.2 b (nC b o e)).trans (B.keep b o e n hb hx), fun b o e n hb hx => ?_, B.free, fun b o e hx => ?_, B.tups, B.frzs, B.tbls⟩ (fun b u q => ?_) J.bare fun b hb => ?_
  · obtain ⟨sl, z⟩ := B.slot b o e n hb hx
    exact ⟨sl, (hs.2 b (nC b o e)).trans z⟩
  · obtain ⟨o', z⟩ := B.there b o e hx
    exact ⟨o', (hs.2 b (nC b o e)).trans z⟩
  · have hC : H' C = none := J.free
    refine (J.hok b u q).stay (fun c v hc z => (hs.2 c ?_).trans z) (fun _ z => z) fun _ _ z => z
    rintro rfl
    rcases hc with hc | hc
    · rw [← hc, hC] at q; cases q
    · rw [hC] at hc; cases hc
  · obtain rfl : b = it := (by simpa using hb)
    exact ⟨f.2.2.2.1, f.2.1, f.2.2.2.2.1, f.2.2.2.2.2⟩

theorem pe_comp {tl : TE} {pos : Pos} (c : CompOk X Nc scope cl src) (hq : HdR X.A X.H₀) (hi : PE X iter tl)
    (hb : ∀ it C s' H', HdR X.A H' → PG (cxComp X Nc scope cl C it s' H') tgt g ∧ PIf (cxComp X Nc scope cl C it s' H') ifs tt ∧ PE (cxComp X Nc scope cl C it s' H') elt te)
    (hs : ∀ x, foldedSetIterable iter X.env x = pure x := by intro _; rfl) : PE X (.ListComp elt [⟨tgt, iter, ifs, 0⟩] scope pos) (tComp X.K src tl g tt te) := by
  intro pins s σ H Q I h
  rw [eval_ListComp]
  refine wpAny_comprehension_free (use := none) rfl hs c.clos c.kind c.names (thn (hi pins s σ H _ I h) fun v s1 ⟨x, H1, I1, r, a, xs, e, hS, hT⟩ => ?_)
  subst e
  cases r
  obtain ⟨its, rv, pl, hz⟩ := I1.list hS
  refine wpAny_pyIter_list pl.isList ?_
  have I2 : Inv X pins σ H1 { s1 with heap := s1.heap.push { cls := .type "list_iterator", data := .fields #[.ref a, .int 0 0] } } := I1.kept (t' := s1.toks) fun b o e => Heap.get?_push_of_some _ e
  have f2 : FpOk X pins H1 s1.heap.objs.size := I1.fpOk (Nat.le_refl _) (I1.hok.fresh (Nat.le_refl _))
  refine wpAny_newObj_type ?_ (by size_fits)
  have I3 := I2.laid (a := (s1.heap.push { cls := .type "list_iterator", data := .fields #[.ref a, .int 0 0] }).objs.size) (o := .lst []) (t' := s1.toks) (h' := (s1.heap.push { cls := .type "list_iterator", data := .fields #[.ref a, .int 0 0] }).push { cls := .type "list", data := .seq ([] : List Value).toArray }) (fun b o e => Heap.get?_push_of_some _ e) (Nat.le_refl _) ⟨Nat.zero_le _, [], 0, .nil, Heap.get?_push_size _ rfl⟩
  have ne : s1.heap.objs.size ≠ (s1.heap.push { cls := .type "list_iterator", data := .fields #[.ref a, .int 0 0] }).objs.size := by rw [Heap.size_push]; exact Nat.ne_of_lt (Nat.lt_succ_self _)
  have f3 : FpOk X pins (upd H1 (s1.heap.push { cls := .type "list_iterator", data := .fields #[.ref a, .int 0 0] }).objs.size (.lst [])) s1.heap.objs.size := ⟨by rw [upd_ne ne]; exact f2.1, f2.2⟩
  refine comp_block (it := s1.heap.objs.size) (R := fun C => compPost (model X.prog X.w) X.A X.xe none (EP X pins σ Q) _ C) c hq I3 ⟨_, Heap.get?_push_of_some _ (Heap.get?_push_size _ rfl), rfl, rfl⟩ f3 hz (hb _) (hT _ (I2.hok.fresh (Nat.le_refl _))) fun C ys σ' H' s' hC J hD q => ?_
  obtain ⟨m, hn, _⟩ := id J.loc
  exact ⟨m, hn, fun h' hs' => ⟨.ref _, H', comp_back I3 f3 J hs', rfl, q⟩⟩
end
end L2
set_option Elab.async false
set_option linter.all false
set_option maxRecDepth 100000
namespace L2
open PySem PySem.Spec PyProof.Rows

structure RoomQ (k : Nat) (A : Around) : Prop where
  dp : A.depth + 3 * k + 5 < recursionLimit
  un : A.units + 16 * k + 200 < cLine
theorem RoomQ.mono {j k : Nat} {A : Around} (r : RoomQ k A) (h : j ≤ k) : RoomQ j A := ⟨by have := r.dp; omega, by have := r.un; omega⟩
structure FnOkQ (P : Program) (w : World) (K : PySem.W.Frag) (mg : Str → Option Value) (base : Heap) (k : Nat) (f : Addr) (fd : FuncData) (ps : List Str) (sp : Sp) : Prop where
  len : ∀ vs H Q E, sp vs H Q E → vs.length = ps.length
  run : ∀ (A : Around) (outer : List Env) (s : Shared) (H : Hp) (args : Args) (us : List Value) (vs : List V) (Q : VK), RoomQ k A → HdR A H → Env0 P w K mg base A outer s H → BindsTo s fd args (ps.zip us) → Vals vs us → sp vs H Q E0 →
    codeAny (model P w) A (.call (.ref f) args) (CR CX0 outer P w H s Q E0) s

noncomputable def cxQ (P : Program) (w : World) (K : PySem.W.Frag) (mg : Str → Option Value) (base : Heap) (N : List Str) (qual : Str) (scope : Scope) (f : Addr) (cd : Value) (A : Around) (outer : List Env) (s : Shared) (H : Hp) : Cx :=
  { cxOf CX0 P w K mg base N qual scope f cd A outer s H E0 with calm := false, xe := fun _ _ => False }
section
variable {P : Program} {w : World} {K : PySem.W.Frag} {mg : Str → Option Value} {base : Heap}
theorem Fun.okQ {x qual : Str} {st : Stmt} {f : Addr} {fd : FuncData} {N ps : List Str} {k : Nat} {sp : Sp} (F : Fun K x qual st f fd) (S : FnScope N ps (defScope st)) (len : ∀ vs H Q E, sp vs H Q E → vs.length = ps.length)
    (hbody : ∀ (cdv : Value) (A : Around) (outer : List Env) (s : Shared) (H : Hp) (vs : List V) (Q : VK), RoomQ k (A.deeper (envOfC qual (defScope st) s.heap.objs.size f cdv)) → HdR (A.deeper (envOfC qual (defScope st) s.heap.objs.size f cdv)) H → sp vs H Q E0 →
      ∃ t, PSs (cxQ P w K mg base N qual (defScope st) f cdv A outer s H) (defBody st) t ∧ t { nx := fun _ H' => Q .non H', rt := Q } (start N vs) H) : FnOkQ P w K mg base (k + 1) f fd ps sp := by
  obtain ⟨oc, od, kV, doc, pm, an, cdv, ct, osl, rfl, lk, hcd⟩ := F.ex
  refine ⟨len, fun A outer s H args us vs Q hr hh e0 hb r hsp => ?_⟩
  have hl := len _ _ _ _ hsp
  have KX : K.In s.heap := e0.mod.kin.keeps fun b o e => (e0.bs b o e).1
  have lim : s.heap.NoLimit := e0.mod.nolimit.keeps fun b o e => (e0.bs b o e).1
  have dpt : A.depth < recursionLimit := by have := hr.dp; omega
  have kinds : ∀ y ∈ ps.zip us, (defScope st).names.lookup y.1 = some .local ∨ ((defScope st).names.lookup y.1 = some .cell ∧ ((cellsFrom (s.heap.objs.size + 1) (defScope st).names []).lookup y.1).isSome = true) := fun ⟨n, v⟩ hy => by
    rcases S.par n (List.of_mem_zip hy).1 with q | q
    · exact .inl q
    · exact .inr ⟨q, PySem.W.cellsFrom_some _ _ _ (.inl q)⟩
  refine codeAny_call_function dpt (KX _ _ lk) rfl S.co S.gen rfl (PySem.W.codeRec_of KX hcd) (hb _ _ _ _ ?_)
  refine wpAny_newFunctionEnv_cells S.kind kinds fun env he s1 x => ?_
  subst he
  refine ⟨lim.keeps x.toInCall.keep, codeAny_func ?_⟩
  have rq : RoomQ k (A.deeper (envOfC qual (defScope st) s.heap.objs.size f cdv)) := ⟨by have := hr.dp; show A.depth + 1 + 3 * k + 5 < _; omega, by have := hr.un; show A.units + 3 + 16 * k + 200 < _; omega⟩
  obtain ⟨t, ht, hq⟩ := hbody cdv A outer s H vs Q rq hh hsp
  have J := inv_start (CX := CX0) (E := E0) (A := { A with handled := none }) S rfl ⟨e0.frames, e0.mod, e0.bs, e0.bsz, e0.funs, e0.frf, e0.hok, e0.bare⟩ hl r x
  have I : Inv (cxQ P w K mg base N qual (defScope st) f cdv A outer s H) [] (start N vs) H s1 :=
    ⟨⟨J.ok.mod, J.ok.kind, J.ok.glob, J.ok.blt, J.ok.above, J.ok.inj, J.ok.has, J.ok.cab, (fun z => nomatch z), Around.frames_deeper e0.frames, J.ok.stk, J.ok.exf, J.ok.bs, J.ok.bsz, J.ok.noex, J.ok.exfs, J.ok.funs, J.ok.frf⟩, J.os, J.bare, J.base, J.loc, J.cell, J.free, J.freeC, J.pin, J.hok, J.len⟩
  refine wpAny_mono (ht [] s1 (start N vs) H _ I hq) (fun fl s' hs => ?_) fun e s' hs => False.elim hs
  have fin : ∀ {σ' : St} {H' : Hp} {v : V} {u : Value}, Inv (cxQ P w K mg base N qual (defScope st) f cdv A outer s H) [] σ' H' s' → RelV v u → Q v H' → CE outer P w H s Q u s' :=
    fun {σ' H' v u} J rv q => ⟨v, H', J.os, J.bare, J.base, J.hok, rv, q⟩
  cases fl with
  | ret u =>
    obtain ⟨v, σ', H', J, rv, q⟩ := hs
    exact fin J rv q
  | next =>
    obtain ⟨σ', H', J, q⟩ := hs
    exact fin (v := V.non) (u := Value.none) J rfl q
  | brk => obtain ⟨_, _, _, z⟩ := hs; exact False.elim z
  | cont => obtain ⟨_, _, _, z⟩ := hs; exact False.elim z

theorem Fun.okE {x qual : Str} {st : Stmt} {f : Addr} {fd : FuncData} {N ps : List Str} {k : Nat} {sp : Sp} (F : Fun K x qual st f fd) (S : FnScope N ps (defScope st)) (len : ∀ vs H Q E, sp vs H Q E → vs.length = ps.length)
    (hbody : ∀ (cdv : Value) (A : Around) (outer : List Env) (s : Shared) (H : Hp) (vs : List V) (Q : VK) (E : XK), Room k (A.deeper (envOfC qual (defScope st) s.heap.objs.size f cdv)) → sp vs H Q E →
      ∃ t, PSs (cxOf (CXE P w) P w K mg base N qual (defScope st) f cdv A outer s H E) (defBody st) t ∧ t { nx := fun _ H' => Q .non H', rt := Q } (start N vs) H) : FnOk P w K mg base (CXE P w) (k + 1) f fd ps sp := by
  obtain ⟨oc, od, kV, doc, pm, an, cdv, ct, osl, rfl, lk, hcd⟩ := F.ex
  exact fn_of lk hcd S len fun A outer s H vs Q E hr hsp => hbody cdv A outer s H vs Q E hr hsp

theorem passE {N : List Str} {qual : Str} {scope : Scope} {f : Addr} {cd : Value} {A : Around} {outer : List Env} {s : Shared} {H : Hp} {E : XK} : Passes (CXE P w) (cxOf (CXE P w) P w K mg base N qual scope f cd A outer s H E) E := throws_pass rfl rfl throws_fn
end

theorem passT {X : Cx} {pn : List (Addr × Obj)} {R : XK} : Passes (CXE X.prog X.w) (X.tr pn (tryE X pn R)) R := throws_pass rfl rfl throws_try

section
variable {X : Cx} {k : Nat} {f : Addr} {fd : FuncData} {ps : List Str} {sp : Sp} {x : Str} {p pos : Pos} {e : Expr} {es : List Expr} {t : TA}
noncomputable def tCallQ (A : Around) (sp : Sp) (t : TA) : TE := fun σ H Q => t σ H fun vs H1 => HdR A H1 ∧ sp vs H1 Q E0
theorem pe_callQ (F : FnOkQ X.prog X.w X.K X.mg X.base k f fd ps sp) (hr : RoomQ k X.A) (hg : Gl X x) (hm : X.mg x = some (.ref f)) (hk : PySem.W.keepIn X.K (.ref f) = true) (hb : Binds X.K fd ps []) (ha : PA X (e :: es) t)
    (hdb : (x == ("__debug__" : Str)) = false := by decide) (he : starEach (e :: es) X.env = (false, eval e X.env) :: starEach es X.env := by exact starEach_cons rfl) (hpl : (backTo pos (starEach es X.env)).any (·.1) = false := by exact noStars rfl) :
    PE X (.Call (.Name x p) (e :: es) [] pos) (tCallQ X.A sp t) := by
  intro pins s σ H Q I h
  refine wpAny_Call_Name_kw (ld_glob I hg hm ?_ hdb)
  refine PySem.W.callWith_K (h₀ := X.base) I.ok.mod.kin hk (thn (ha pos pins s σ H _ I h) fun us s1 ⟨vs, H1, I1, r, hd, q⟩ => ⟨I1.kIn, ?_⟩) he hpl
  have hl : us.length = ps.length := by rw [← r.length]; exact F.len _ _ _ _ q
  have B : BindsTo s1 fd ⟨us, []⟩ (ps.zip us) := by
    have z := hb s1 us I1.kIn (by rw [List.append_nil]; exact hl)
    rw [List.append_nil] at z
    exact z
  refine wpAny_call (codeAny_mono (F.run X.A X.stack s1 H1 ⟨us, []⟩ us vs Q hr hd I1.env0 B r q) fun r s' hq => ?_)
  cases r with
  | error e => exact False.elim hq
  | ok fl =>
    cases fl with
    | ret u => exact I1.after hq
    | next => exact False.elim hq
    | brk => exact False.elim hq
    | cont => exact False.elim hq
end



noncomputable def clsV : V → Option Value
  | .ref a => some (.ref a)
  | .ty n => some (.type n)
  | _ => none

noncomputable def TyX (K : PySem.W.Frag) (H : Hp) (x : V) (t : Value) : Prop :=
  TyOf K H x t ∨ ∃ a oe C vs, x = .ref a ∧ t = .ref C ∧ H a = some (excO a oe) ∧ oe.cls = .ref C ∧ oe.dict = none ∧ oe.data = .fields vs ∧ XK.ExcCls K C
section
variable {X : Cx}
theorem call_isinst : CallR X (.builtin "isinstance") (fun xs H Q => ∃ x c cv t b, xs = [x, c] ∧ clsV c = some cv ∧ TyX X.K H x t ∧ PySem.W.kitOne X.K t cv = some b ∧ Q (.bl b) H) := by
  intro pins s σ H xs us Q I r h
  obtain ⟨x, c, cv, t, b, rfl, hc, ty, hk, q⟩ := h
  obtain ⟨u, v, rfl, ru, rv⟩ := vals2 r
  obtain rfl : v = cv := by
    cases c with
    | ref a => cases hc; exact rv
    | ty n => cases hc; exact rv
    | _ => cases hc
  rcases ty with ty | ⟨a, oe, C, vs, rfl, rfl, ha, e1, e2, e3, ec⟩
  · exact isinst_ok I ru ty hk fun tk => ⟨.bl b, H, I.tok tk, rfl, q⟩
  · cases ru
    have g := (I.hok a _ ha).1
    have inst : PySem.W.InstAt s.heap a oe C none := ⟨g, e1, by unfold PySem.W.notCls; rw [e3], by rw [e2]; trivial⟩
    exact PySem.W.kia_one (XK.kitx_exc (ox := oe) ec) I.kIn inst hk (fun z => nomatch z) fun tk => ⟨.bl b, H, I.tok tk, rfl, q⟩


noncomputable def eqVs (xs ys : List V) : Bool := xs.length == ys.length && (List.range xs.length).all fun j => eqV (xs.getD j .non) (ys.getD j .non)
noncomputable def rEqL (K : PySem.W.Frag) (neg : Bool) : R2 := fun x y H Q => ∃ a b xs ys, x = .ref a ∧ y = .ref b ∧ SqL K H a xs ∧ SqL K H b ys ∧ xs.all flatV = true ∧ ys.all flatV = true ∧ Q (.bl (if neg then !eqVs xs ys else eqVs xs ys)) H
theorem all_at {xs : List V} (h : xs.all flatV = true) {j : Nat} (hj : j < xs.length) : flatV (xs.getD j .non) = true := by
  rw [List.getD_eq_getElem?_getD, List.getElem?_eq_getElem hj, Option.getD_some]
  exact List.all_eq_true.mp h _ (List.getElem_mem hj)
theorem vals_at {xs : List V} {us : List Value} (r : Vals xs us) {j : Nat} (hj : j < us.length) : RelV (xs.getD j .non) us[j] := by
  have hl := r.length
  have hx : xs[j]? = some (xs.getD j .non) := by
    rw [List.getD_eq_getElem?_getD, List.getElem?_eq_getElem (by omega), Option.getD_some]
  obtain ⟨u, e, q⟩ := r.get hx
  rw [List.getElem?_eq_getElem hj] at e
  cases e
  exact q
theorem op_eqL (hu : X.A.units < cLine) : OpR X (compareOp .Eq) (rEqL X.K false) := by
  intro pins s σ H x y v u Q I rx ry h
  obtain ⟨a, b, xs, ys, rfl, rfl, h1, h2, f1, f2, q⟩ := h
  cases rx
  cases ry
  obtain ⟨us, r1, p1, _⟩ := I.list h1
  obtain ⟨ws, r2, p2, _⟩ := I.list h2
  have l1 := r1.length
  have l2 := r2.length
  by_cases hl : xs.length = ys.length
  · refine SeqAt.eq_listAt p1.isList p2.isList (by simp; omega) hu (e := fun j => eqV (xs.getD j .non) (ys.getD j .non)) (fun j h1 h2 => ?_) ?_
    · simp at h1 h2
      simp only [List.getElem_toArray]
      exact eqAt_V (vals_at r1 h1) (vals_at r2 h2) (all_at f1 (by omega)) (all_at f2 (by omega))
    · refine ⟨.bl _, H, I, rfl, ?_⟩
      have e : eqVs xs ys = (List.range us.toArray.size).all fun j => eqV (xs.getD j .non) (ys.getD j .non) := by
        unfold eqVs
        rw [beq_iff_eq.mpr hl, Bool.true_and, List.size_toArray, ← l1]
      rw [← e]
      exact q
  · refine SeqAt.eq_list_lengthsAt p1.isList p2.isList (by simp; omega) hu ⟨.bl false, H, I, rfl, ?_⟩
    have e : eqVs xs ys = false := by
      unfold eqVs
      rw [beq_eq_false_iff_ne.mpr hl, Bool.false_and]
    rw [← e]
    exact q
theorem op_neL (hu : X.A.units < cLine) : OpR X (compareOp .NotEq) (rEqL X.K true) := by
  intro pins s σ H x y v u Q I rx ry h
  obtain ⟨a, b, xs, ys, rfl, rfl, h1, h2, f1, f2, q⟩ := h
  cases rx
  cases ry
  obtain ⟨us, r1, p1, _⟩ := I.list h1
  obtain ⟨ws, r2, p2, _⟩ := I.list h2
  have l1 := r1.length
  have l2 := r2.length
  by_cases hl : xs.length = ys.length
  · refine SeqAt.RcNeAt.lists p1.isList p2.isList (by simp; omega) hu (e := fun j => eqV (xs.getD j .non) (ys.getD j .non)) (fun j h1 h2 => ?_) _ _ _ _ ?_
    · simp at h1 h2
      simp only [List.getElem_toArray]
      exact eqAt_V (vals_at r1 h1) (vals_at r2 h2) (all_at f1 (by omega)) (all_at f2 (by omega))
    · refine ⟨.bl _, H, I, rfl, ?_⟩
      have e : eqVs xs ys = (List.range us.toArray.size).all fun j => eqV (xs.getD j .non) (ys.getD j .non) := by
        unfold eqVs
        rw [beq_iff_eq.mpr hl, Bool.true_and, List.size_toArray, ← l1]
      rw [← e]
      exact q
  · refine SeqAt.RcNeAt.lists_lengths p1.isList p2.isList (by simp; omega) hu _ _ _ _ ⟨.bl true, H, I, rfl, ?_⟩
    have e : eqVs xs ys = false := by
      unfold eqVs
      rw [beq_eq_false_iff_ne.mpr hl, Bool.false_and]
    have q' := q
    rw [if_pos rfl, e] at q'
    exact q'
end
end L2
set_option Elab.async false
set_option linter.all false
set_option maxRecDepth 100000
namespace L2
open PySem PySem.Spec PyProof.Rows

noncomputable def Cal (P : Program) (w : World) (K : PySem.W.Frag) (mg : Str → Option Value) (base : Heap) (CX : CXT) (k : Nat) (x : Str) (ps : List Str) (sp : Sp) : Prop :=
  ∃ f fd, mg x = some (.ref f) ∧ PySem.W.keepIn K (.ref f) = true ∧ Binds K fd ps [] ∧ FnOk P w K mg base CX k f fd ps sp
noncomputable def CalQ (P : Program) (w : World) (K : PySem.W.Frag) (mg : Str → Option Value) (base : Heap) (k : Nat) (x : Str) (ps : List Str) (sp : Sp) : Prop :=
  ∃ f fd, mg x = some (.ref f) ∧ PySem.W.keepIn K (.ref f) = true ∧ Binds K fd ps [] ∧ FnOkQ P w K mg base k f fd ps sp
section
variable {X : Cx} {CX : CXT} {j k : Nat} {ps : List Str} {sp : Sp} {x : Str} {p pos : Pos} {e : Expr} {es : List Expr} {t : TA} {E : XK}
theorem pe_cal (C : Cal X.prog X.w X.K X.mg X.base CX k x ps sp) (hr : Room j X.A) (hj : k ≤ j) (hx : Passes CX X E) (ha : PA X (e :: es) t) (hg : Gl X x := by rfl)
    (hdb : (x == ("__debug__" : Str)) = false := by decide) (he : starEach (e :: es) X.env = (false, eval e X.env) :: starEach es X.env := by exact starEach_cons rfl) (hpl : (backTo pos (starEach es X.env)).any (·.1) = false := by exact noStars rfl) :
    PE X (.Call (.Name x p) (e :: es) [] pos) (fun σ H Q => t σ H fun vs H1 => sp vs H1 Q E) := by
  obtain ⟨f, fd, hm, hk, hb, F⟩ := C
  intro pins s σ H Q I h
  refine pe_call (dvs := []) F (hr.mono hj) hg hm hk hb .nil hx ha hdb he hpl pins s σ H Q I ?_
  unfold tCall
  simp only [List.append_nil]
  exact h
theorem pe_calQ (C : CalQ X.prog X.w X.K X.mg X.base k x ps sp) (hr : RoomQ j X.A) (hj : k ≤ j) (ha : PA X (e :: es) t) (hg : Gl X x := by rfl)
    (hdb : (x == ("__debug__" : Str)) = false := by decide) (he : starEach (e :: es) X.env = (false, eval e X.env) :: starEach es X.env := by exact starEach_cons rfl) (hpl : (backTo pos (starEach es X.env)).any (·.1) = false := by exact noStars rfl) :
    PE X (.Call (.Name x p) (e :: es) [] pos) (tCallQ X.A sp t) := by
  obtain ⟨f, fd, hm, hk, hb, F⟩ := C
  exact pe_callQ F (hr.mono hj) hg hm hk hb ha hdb he hpl
end

theorem boot_isinstance : bootBuiltins "isinstance" = some (.builtin "isinstance") := by kernel_rfl
theorem boot_abs : bootBuiltins "abs" = some (.builtin "abs") := by kernel_rfl
theorem boot_int : bootBuiltins "int" = some (.type "int") := by kernel_rfl
theorem boot_bool : bootBuiltins "bool" = some (.type "bool") := by kernel_rfl
theorem boot_str : bootBuiltins "str" = some (.type "str") := by kernel_rfl
theorem boot_tuple : bootBuiltins "tuple" = some (.type "tuple") := by kernel_rfl
theorem boot_VE : bootBuiltins "ValueError" = some (.type "ValueError") := by kernel_rfl


noncomputable def OfT (K : PySem.W.Frag) (H : Hp) (v : V) (T : String) : Prop := TyOf K H v (.type T)
noncomputable def numT : List (String × Bool × Bool × Bool × Bool) := [("NoneType", false, false, false, false), ("bool", true, true, false, false), ("int", true, false, false, false), ("str", false, false, true, false), ("list", false, false, false, true), ("tuple", false, false, false, false), ("dict", false, false, false, false)]
theorem kit_tab {K : PySem.W.Frag} : ∀ r ∈ numT, PySem.W.kitOne K (.type r.1) (.type "int") = some r.2.1 ∧ PySem.W.kitOne K (.type r.1) (.type "bool") = some r.2.2.1 ∧ PySem.W.kitOne K (.type r.1) (.type "str") = some r.2.2.2.1 ∧ PySem.W.kitOne K (.type r.1) (.type "list") = some r.2.2.2.2 := by
  intro r hr
  simp only [numT, List.mem_cons, List.not_mem_nil, or_false] at hr
  rcases hr with rfl | rfl | rfl | rfl | rfl | rfl | rfl <;> exact ⟨by rfl, by rfl, by rfl, by rfl⟩

noncomputable def NoNum (K : PySem.W.Frag) (H : Hp) (v : V) : Prop := ∃ r ∈ numT, TyOf K H v (.type r.1) ∧ r.1 ≠ "int"
noncomputable def NoStr (K : PySem.W.Frag) (H : Hp) (v : V) : Prop := ∃ r ∈ numT, TyOf K H v (.type r.1) ∧ r.1 ≠ "str"
end L2
set_option Elab.async false
set_option linter.all false
set_option maxRecDepth 100000
namespace L2
open PySem PySem.Spec PyProof.Rows

section
variable {κ : Type} [DecidableEq κ]
noncomputable def valV (kvs : List (κ × V)) (k : κ) : Option V := (kvs.find? fun kv => decide (kv.1 = k)).map (·.2)

noncomputable def putK (kvs : List (κ × V)) (k : κ) (v : V) : List (κ × V) :=
  if (kvs.any fun kv => decide (kv.1 = k)) = true then kvs.map (fun kv => if kv.1 = k then (kv.1, v) else kv) else kvs ++ [(k, v)]
noncomputable def dropK (kvs : List (κ × V)) (k : κ) : List (κ × V) := kvs.filter fun kv => decide (kv.1 ≠ k)

end



noncomputable abbrev KT (H : Hp) : List (List Key × V) → List (List Key × Addr × Value) → Prop := Paired fun p q => p.1 = q.1 ∧ H q.2.1 = some (.tup (p.1.map kV)) ∧ RelV p.2 q.2.2
section
variable {P : Program} {w : World} {H : Hp} {h : Heap} {a : Addr}
end


noncomputable def DGet (H : Hp) (a : Addr) (y : V) (r : Option V) : Prop :=
  (∃ kvs k, Rd H a (.dK kvs) ∧ y = kV k ∧ r = valV kvs k) ∨ ∃ kvs k b, Rd H a (.dT kvs) ∧ y = .ref b ∧ H b = some (.tup (k.map kV)) ∧ r = valV kvs k

noncomputable def DPut (H : Hp) (a : Addr) (y v : V) (H' : Hp) : Prop :=
  (∃ kvs k, H a = some (.dK kvs) ∧ y = kV k ∧ kvs.length < sizeLine ∧ H' = upd H a (.dK (putK kvs k v))) ∨
  ∃ kvs k b, H a = some (.dT kvs) ∧ y = .ref b ∧ H b = some (.tup (k.map kV)) ∧ kvs.length < sizeLine ∧ H' = upd H a (.dT (putK kvs k v))
section
variable {X : Cx} {pins : List (Addr × Obj)} {σ : St} {H : Hp} {s : Shared} {a : Addr} {y v : V} {u r : Value} {o : Option V} {A : Around} {E : Value → Shared → Prop}

theorem Inv.big (I : Inv X pins σ H s) : sysModules < s.heap.objs.size := by
  have h : mainGlobals < s.heap.objs.size := (I.mod.glob.keeps I.bk).lt
  exact Nat.lt_trans (by decide) h


end

section
variable {X : Cx} {pins : List (Addr × Obj)} {σ : St} {H : Hp} {s : Shared} {a : Addr} {kvs : List (Key × V)} {k : Key} {u : Value} {A : Around} {E : Value → Shared → Prop}

end




noncomputable def NoSl (i : Expr) : Prop := ∀ ov iv, subscripted i false ov iv = operate [ov, iv] (getItem ov iv)
noncomputable def tDGet (td ty : TE) : TE := fun σ H Q => td σ H fun x H1 => ty σ H1 fun y H2 => ∃ a v, x = .ref a ∧ DGet H2 a y (some v) ∧ Q v H2

noncomputable def tDIn (ty td : TE) : TE := fun σ H Q => ty σ H fun y H1 => td σ H1 fun x H2 => ∃ a o, x = .ref a ∧ DGet H2 a y o ∧ Q (.bl o.isSome) H2
noncomputable def tDNotIn (ty td : TE) : TE := fun σ H Q => ty σ H fun y H1 => td σ H1 fun x H2 => ∃ a o, x = .ref a ∧ DGet H2 a y o ∧ Q (.bl (!o.isSome)) H2

noncomputable def sDPut (td ty tv : TE) : TS := fun D σ H => tv σ H fun v H1 => td σ H1 fun x H2 => ty σ H2 fun y H3 => ∃ a H4, x = .ref a ∧ DPut H3 a y v H4 ∧ D.nx σ H4

noncomputable def sDAug (td ty tv : TE) (rd : V → V → Hp → VK → Prop) : TS := fun D σ H => td σ H fun x H1 => ty σ H1 fun y H2 => ∃ a v, x = .ref a ∧ DGet H2 a y (some v) ∧
  tv σ H2 fun y2 H3 => rd v y2 H3 fun z H4 => ∃ H5, DPut H4 a y z H5 ∧ D.nx σ H5

noncomputable def sDDel (td ty : TE) : TS := fun D σ H => td σ H fun x H1 => ty σ H1 fun y H2 => ∃ a kvs k, x = .ref a ∧ H2 a = some (.dK kvs) ∧ y = kV k ∧ (valV kvs k).isSome = true ∧ D.nx σ (upd H2 a (.dK (dropK kvs k)))

section
variable {X : Cx} {o i e value : Expr} {pos pos' tpos : Pos} {td ty tv : TE}
end



theorem dk_empty {P : Program} {w : World} {H : Hp} (h : Heap) (hb : sysModules < h.objs.size) : ObjOk P w H (h.push { cls := .type "dict", data := .dict #[] }) h.objs.size (.dK []) :=
  ⟨Nat.zero_le _, beq_eq_false_iff_ne.mpr (Ne.symm (Nat.ne_of_lt hb)), [], .nil, Heap.DictOf.new h⟩
noncomputable def tDNewK : TE := fun _ H Q => ∀ p, H p = none → Q (.ref p) (upd H p (.dK []))
noncomputable def tDNewT : TE := fun _ H Q => ∀ p, H p = none → Q (.ref p) (upd H p (.dT []))
section
variable {X : Cx} {pos : Pos}
theorem pe_dnewK : PE X (.Dict [] [] pos) tDNewK := fun pins s σ H Q I h =>
  wpAny_Dict_empty ⟨.ref s.heap.objs.size, _, I.laid (a := s.heap.objs.size) (o := .dK []) (t' := s.toks) (fun _ _ q => Heap.get?_push_of_some _ q) (Nat.le_refl _) (dk_empty s.heap I.big), rfl, h _ (I.hok.fresh (Nat.le_refl _))⟩
end


noncomputable def tPairs : List (TE × TE) → St → Hp → (List (V × V) → Hp → Prop) → Prop
  | [], _, H, Q => Q [] H
  | (tk, tv) :: r, σ, H, Q => tk σ H fun x H1 => tv σ H1 fun y H2 => tPairs r σ H2 fun ps H3 => Q ((x, y) :: ps) H3
noncomputable abbrev VV : List (V × V) → List (Value × Value) → Prop := Paired fun p q => RelV p.1 q.1 ∧ RelV p.2 q.2
noncomputable def PPs (X : Cx) (pos : Pos) (keys : List (Option Expr)) (values : List Expr) (trs : List (TE × TE)) : Prop :=
  ∀ (pins : List (Addr × Obj)) (s : Shared) (σ : St) (H : Hp) (Q : List (V × V) → Hp → Prop), Inv X pins σ H s → tPairs trs σ H Q →
    wpAny (model X.prog X.w) X.A (evalPairs (pairTrees keys values X.env pos)) (fun vs s' => ∃ ps H', Inv X pins σ H' s' ∧ VV ps vs ∧ Q ps H') X.xe s
noncomputable def mergeK (kvs more : List (Key × V)) : List (Key × V) := more.foldl (fun acc kv => putK acc kv.1 kv.2) kvs
noncomputable def tDisp (trs : List (TE × TE)) : TE := fun σ H Q => ∀ p, H p = none → tPairs trs σ (upd H p (.dK [])) fun ps H2 => H2 p = some (.dK []) ∧ ∃ kvs : List (Key × V), ps = kvs.map (fun kv => (kV kv.1, kv.2)) ∧ kvs.length ≤ 15 ∧ Q (.ref p) (upd H2 p (.dK (mergeK [] kvs)))
structure M1 (X : Cx) (o : Expr) (m : Str) (apos : Pos) (e : Expr) (cpos : Pos) : Prop where
  base : attributeBase o m X.env (eval o X.env) = eval o X.env
  few : ((backTo cpos (starEach [e] X.env)).all (fun x => !x.1) && (backToKw cpos (keywordEach [] X.env)).all (fun x => x.1.isSome)
    && decide (([e] : List Expr).length + ([] : List Keyword).length + (if ([] : List Keyword).isEmpty then 0 else 1) < 30)) = true
  line : (apos.endLine == cpos.line) = true
  trees : backTo cpos (starEach [e] X.env) = [(false, eval e X.env)]
structure M2 (X : Cx) (o : Expr) (m : Str) (apos : Pos) (e f : Expr) (cpos : Pos) : Prop where
  base : attributeBase o m X.env (eval o X.env) = eval o X.env
  few : ((backTo cpos (starEach [e, f] X.env)).all (fun x => !x.1) && (backToKw cpos (keywordEach [] X.env)).all (fun x => x.1.isSome)
    && decide (([e, f] : List Expr).length + ([] : List Keyword).length + (if ([] : List Keyword).isEmpty then 0 else 1) < 30)) = true
  line : (apos.endLine == cpos.line) = true
  trees : backTo cpos (starEach [e, f] X.env) = [(false, eval e X.env), (false, eval f X.env)]


noncomputable def IsD (H : Hp) (a : Addr) : Prop := (∃ kvs, Rd H a (.dK kvs)) ∨ ∃ kvs, Rd H a (.dT kvs)
section
variable {X : Cx} {pins : List (Addr × Obj)} {σ : St} {H : Hp} {s : Shared} {a : Addr} {y d : V} {u r : Value} {o : Option V} {A : Around} {E : Value → Shared → Prop}

end

noncomputable def tDGet1 (td ty : TE) : TE := fun σ H Q => td σ H fun x H1 => ∃ a, x = .ref a ∧ IsD H1 a ∧ ty σ H1 fun y H2 => ∃ o, DGet H2 a y o ∧ Q (o.getD .non) H2
noncomputable def tDGet2 (td ty tx : TE) : TE := fun σ H Q => td σ H fun x H1 => ∃ a, x = .ref a ∧ IsD H1 a ∧ ty σ H1 fun y H2 => tx σ H2 fun z H3 => ∃ o, DGet H3 a y o ∧ Q (o.getD z) H3

noncomputable def tDPop1 (td ty : TE) : TE := fun σ H Q => td σ H fun x H1 => ∃ a, x = .ref a ∧ IsD H1 a ∧ ty σ H1 fun y H2 => ∃ kvs k v, H2 a = some (.dK kvs) ∧ y = kV k ∧ valV kvs k = some v ∧ Q v (upd H2 a (.dK (dropK kvs k)))
noncomputable def tDPop2 (td ty tx : TE) : TE := fun σ H Q => td σ H fun x H1 => ∃ a, x = .ref a ∧ IsD H1 a ∧ ty σ H1 fun y H2 => tx σ H2 fun z H3 => ∃ kvs k, H3 a = some (.dK kvs) ∧ y = kV k ∧
  (∀ v, valV kvs k = some v → Q v (upd H3 a (.dK (dropK kvs k)))) ∧ (valV kvs k = none → Q z H3)
section
variable {X : Cx} {o e f : Expr} {apos cpos : Pos} {td ty tx : TE}
end


section
variable {X : Cx} {pins : List (Addr × Obj)} {σ : St} {H : Hp} {s : Shared} {a : Addr} {kvs : List (Key × V)} {A : Around} {E : Value → Shared → Prop}
end


section
variable {X : Cx} {pins : List (Addr × Obj)} {σ : St} {H : Hp} {s : Shared} {a : Addr} {y : V} {u : Value} {A : Around} {E : Value → Shared → Prop}

end
section
variable {X : Cx}

end

section
variable {κ : Type} [DecidableEq κ]
end
end L2
set_option Elab.async false
set_option linter.all false
set_option maxRecDepth 100000
namespace L2
open PySem PySem.Spec PyProof.Rows

theorem Same.upd {H : Hp} {p : Addr} {o : HO} (hp : H p = none) : Same H (L2.upd H p o) := fun b u e => by
  rw [upd_ne (ne_of_none e hp)]
  exact e
theorem Same.tup {K : PySem.W.Frag} {H H' : Hp} {a : Addr} {xs : List V} (e : Same H H') (h : SqT K H a xs) : SqT K H' a xs := by
  rcases h with (h | ⟨o, h⟩) | h
  · exact .inl (.inl (e _ _ h))
  · exact .inl (.inr ⟨o, e _ _ h⟩)
  · exact .inr h
section
variable {K : PySem.W.Frag} {H : Hp}
theorem ns_none : NoStr K H .non := ⟨("NoneType", false, false, false, false), by decide, .non, by decide⟩
theorem ns_bl (b : Bool) : NoStr K H (.bl b) := ⟨("bool", true, true, false, false), by decide, .bl b, by decide⟩
theorem ns_int (i : Int) : NoStr K H (.int i) := ⟨("int", true, false, false, false), by decide, .int i, by decide⟩
theorem ns_lst {a : Addr} {xs : List V} (e : H a = some (.lst xs)) : NoStr K H (.ref a) := ⟨("list", false, false, false, true), by decide, .lst e, by decide⟩
theorem ns_tup {a : Addr} {xs : List V} (e : H a = some (.tup xs)) : NoStr K H (.ref a) := ⟨("tuple", false, false, false, false), by decide, .tup e, by decide⟩
theorem ns_dK {a : Addr} {kvs : List (Key × V)} (e : H a = some (.dK kvs)) : NoStr K H (.ref a) := ⟨("dict", false, false, false, false), by decide, .dK e, by decide⟩
end

noncomputable def isSl : Expr → Bool
  | .Slice _ _ _ _ => true
  | _ => false
theorem plain_ix {b : Expr} (h : isSl b = false) : PlainIx b := fun o i => by
  cases b <;> first | rfl | cases h
theorem pe_at {X : Cx} {a b : Expr} {ta tb : TE} {pos : Pos} {r : R2} (hr : IxR X r) (ha : PE X a ta) (hb : PE X b tb) (hs : isSl b = false := by rfl) : PE X (.Subscript a b pos) (tOp r ta tb) := pe_ix hr ha hb (plain_ix hs)

theorem atI_of {α : Type} {xs : List α} {i : Int} {v : α} (h0 : 0 ≤ i) (h : xs[i.toNat]? = some v) : atI xs i = some v := by
  have e := atI_nat h
  rwa [Int.toNat_of_nonneg h0] at e
theorem at_any {α : Type} {xs : List α} {i : Int} (h0 : 0 ≤ i) (h1 : i < xs.length) : ∃ v, atI xs i = some v ∧ v ∈ xs := by
  have hl : i.toNat < xs.length := by omega
  exact ⟨xs[i.toNat], atI_of h0 (List.getElem?_eq_getElem hl), List.getElem_mem hl⟩
theorem dStr {a b : Str} : (decide (V.str a = V.str b) = true) ↔ a = b := by rw [decide_eq_true_iff]; exact ⟨fun h => V.str.inj h, fun h => congrArg V.str h⟩
theorem dInt {a b : Int} : (decide (V.int a = V.int b) = true) ↔ a = b := by rw [decide_eq_true_iff]; exact ⟨fun h => V.int.inj h, fun h => congrArg V.int h⟩
theorem dIntB (a b : Int) : decide (V.int a = V.int b) = decide (a = b) := Bool.eq_iff_iff.mpr (dInt.trans decide_eq_true_iff.symm)
theorem dStrB (a b : Str) : decide (V.str a = V.str b) = decide (a = b) := Bool.eq_iff_iff.mpr (dStr.trans decide_eq_true_iff.symm)
noncomputable def cellZ (ns : List Int) (k : Int) : Int := ns.getD k.toNat 0
noncomputable def mixZ (ns : List Int) (k : Int) : Int := (cellZ ns k * 48271 + 7919 * k * k * k + 104729) % 2147483647 * 16807 % 2147483629
theorem mixZ_nn (ns : List Int) (k : Int) : 0 ≤ mixZ ns k := Int.emod_nonneg _ (by decide)
theorem mixZ_lt (ns : List Int) (k : Int) : mixZ ns k < 2147483629 := Int.emod_lt_of_pos _ (by decide)
theorem cell_at {ns : List Int} {k : Int} (h0 : 0 ≤ k) (h : k < ((ns.map V.int).length : Nat)) : atI (ns.map V.int) k = some (.int (cellZ ns k)) := by
  rw [List.length_map] at h
  have hl : k.toNat < ns.length := by omega
  refine atI_of h0 ?_
  unfold cellZ
  rw [List.getElem?_map, List.getElem?_eq_getElem hl, List.getD_eq_getElem?_getD, List.getElem?_eq_getElem hl]
  rfl
theorem cell_out {ns : List Int} {k : Int} (h : ¬ k < ((ns.map V.int).length : Nat)) : cellZ ns k = 0 := by
  rw [List.length_map] at h
  unfold cellZ
  rw [List.getD_eq_getElem?_getD, List.getElem?_eq_none (by omega)]
  rfl
end L2
set_option Elab.async false
set_option linter.all false
set_option maxRecDepth 100000
namespace L2
open PySem PySem.Spec PyProof.Rows


theorem lenOk {n : Nat} (h : Nat.ble n 1000 = true) : n ≤ sizeLine := Nat.le_trans (Nat.le_of_ble_eq_true h) (by decide)

noncomputable def New (H : Hp) (o : HO) (Q : VK) : Prop := ∀ p H', Same H H' → H p = none → H' p = some o → Q (.ref p) H'
theorem New.at {H : Hp} {o : HO} {Q : VK} (h : New H o Q) {p : Addr} (hp : H p = none) : Q (.ref p) (upd H p o) := h p _ (Same.upd hp) hp upd_same
noncomputable def tTupS (t : TA) : TE := fun σ H Q => t σ H fun xs H1 => xs.length ≤ sizeLine ∧ New H1 (.tup xs) Q
noncomputable def tLstS (t : TA) : TE := fun σ H Q => t σ H fun xs H1 => xs.length ≤ sizeLine ∧ New H1 (.lst xs) Q
section
variable {X : Cx} {es : List Expr} {t : TA} {pos : Pos}
theorem pe_tupS {x1} (h : PA X es t) : PE X (.Tuple es x1 pos) (tTupS t) := by
  intro pins s σ H Q I hq
  refine wpAny_Tuple_spliced (thn (h pos pins s σ H _ I hq) fun us s1 ⟨xs, H1, I1, r, z, q⟩ => ⟨by rw [← r.length]; exact z, ?_⟩)
  have hf : H1 s1.heap.objs.size = none := I1.hok.fresh (Nat.le_refl _)
  refine ⟨.ref s1.heap.objs.size, upd H1 s1.heap.objs.size (.tup xs), I1.laid (t' := s1.toks) (fun b u e => Heap.get?_push_of_some _ e) (Nat.le_refl _) ?_, rfl, q.at hf⟩
  exact ⟨z, us, r, ⟨_, Heap.get?_push_size _ rfl, rfl, _, rfl⟩⟩
theorem pe_lstS (h : PA X es t) : PE X (.List es pos) (tLstS t) := by
  intro pins s σ H Q I hq
  refine wpAny_List_spliced (thn (h pos pins s σ H _ I hq) fun us s1 ⟨xs, H1, I1, r, z, q⟩ => ⟨by rw [← r.length]; exact z, ?_⟩)
  have hf : H1 s1.heap.objs.size = none := I1.hok.fresh (Nat.le_refl _)
  refine ⟨.ref s1.heap.objs.size, upd H1 s1.heap.objs.size (.lst xs), I1.laid (t' := s1.toks) (fun b u e => Heap.get?_push_of_some _ e) (Nat.le_refl _) ?_, rfl, q.at hf⟩
  exact ⟨z, us, 0, r, Heap.get?_push_size _ rfl⟩
noncomputable def tDNewS : TE := fun _ H Q => New H (.dK []) Q
theorem pe_dnewS : PE X (.Dict [] [] pos) tDNewS := fun pins s σ H Q I h => pe_dnewK pins s σ H Q I fun p hp => h.at hp
noncomputable def rCatS : R2 := fun x y H Q => ∃ l b xs zs, x = .ref l ∧ y = .ref b ∧ H l = some (.lst xs) ∧ H b = some (.lst zs) ∧ xs.length + zs.length ≤ sizeLine ∧ New H (.lst (xs ++ zs)) Q
theorem op_catS : OpR X (binaryOp .Add) rCatS := fun pins s σ H x y v u Q I rx ry ⟨l, b, xs, zs, e1, e2, h1, h2, hz, q⟩ => op_cat pins s σ H x y v u Q I rx ry ⟨l, b, xs, zs, e1, e2, h1, h2, hz, fun p hp => q.at hp⟩
noncomputable def rRepS : R2 := fun x y H Q => ∃ l k xs, x = .ref l ∧ y = .int k ∧ H l = some (.lst xs) ∧ -(2 ^ 63) ≤ k ∧ k < 2 ^ 63 ∧ xs.length * k.toNat ≤ sizeLine ∧ New H (.lst (List.replicate k.toNat xs).flatten) Q
theorem op_repS : OpR X (binaryOp .Mult) rRepS := fun pins s σ H x y v u Q I rx ry ⟨l, k, xs, e1, e2, h1, h2, h3, hz, q⟩ => op_rep pins s σ H x y v u Q I rx ry ⟨l, k, xs, e1, e2, h1, h2, h3, hz, fun p hp => q.at hp⟩
end

theorem lookup_local {l : List (Str × NameKind)} (h : l.all (fun y => decide (y.2 = .local)) = true) {x : Str} {k : NameKind} (e : l.lookup x = some k) : k = .local := by
  induction l with
  | nil => cases e
  | cons y r ih =>
    rw [List.all_cons, Bool.and_eq_true] at h
    rw [List.lookup_cons] at e
    split at e
    · cases e
      exact of_decide_eq_true h.1
    · exact ih h.2 e
theorem no_cells {l : List (Str × NameKind)} {cl : List (Str × Addr)} (h : l.all (fun y => decide (y.2 = .local)) = true) (x : Str) (z : l.lookup x = some .cell ∨ l.lookup x = some .free) : ∃ c, cl.lookup x = some c := by
  rcases z with z | z
  · cases lookup_local h z
  · cases lookup_local h z
theorem no_src {n : Nat} {C : Nat → Nat → Prop} (i j : Nat) (z : (List.replicate n (none : Option Nat))[i]? = some (some j)) : C i j := by
  rw [List.getElem?_replicate] at z
  split at z <;> cases z

theorem turns_pairs {K : PySem.W.Frag} {a D : Addr} {ts : List V} {pairs : List (Str × Bool)} {H1 : Hp} {fin : List V → Hp → Prop} {σ : St} (hσ : σ.length = 2) (hl : ts.length = pairs.length) (ha : H1 a = some (.lst ts)) (hD : H1 D = none)
    (ht : ∀ (i : Nat) p, pairs[i]? = some p → ∃ t, ts[i]? = some (V.ref t) ∧ H1 t = some (.tup [.str p.1, .bl p.2])) (hz : pairs.length < sizeLine)
    (k : ∀ H2, Same H1 H2 → H2 D = some (.lst ((pairs.filter (·.2)).map fun p => V.str p.1)) → fin ((pairs.filter (·.2)).map fun p => V.str p.1) H2) :
    tTurns K a D ts (gTup K 2 (gCons (gName 0) (gCons (gName 1) gNil))) (tB (tVar 1)) (tVar 0) fin σ (upd H1 D (.lst [])) := by
  refine ⟨fun i ys σ H => σ.length = 2 ∧ ys = ((pairs.take i).filter (·.2)).map (fun p => V.str p.1) ∧ H D = some (.lst ys) ∧ Same H1 H, ⟨hσ, by simp, upd_same, Same.upd hD⟩, ?_, ?_, ?_⟩
  · rintro i ys σ H ⟨_, _, e, s⟩
    exact ⟨SqL.of (s _ _ ha), e⟩
  · rintro i x ys σ H hx ⟨h2, e, hd, s⟩
    obtain ⟨x0, x1, rfl⟩ : ∃ x0 x1, σ = [x0, x1] := by
      match σ, h2 with
      | [x0, x1], _ => exact ⟨x0, x1, rfl⟩
    have hi : i < pairs.length := by
      have := (List.getElem?_eq_some_iff.mp hx).1
      omega
    have hp : pairs[i]? = some pairs[i] := List.getElem?_eq_getElem hi
    obtain ⟨t, e1, e2⟩ := ht i _ hp
    rw [hx] at e1
    cases e1
    have len : ys.length ≤ i := by
      rw [e, List.length_map]
      exact Nat.le_trans (List.length_filter_le _ _) (by rw [List.length_take]; exact Nat.min_le_left _ _)
    have tk : pairs.take (i + 1) = pairs.take i ++ [pairs[i]] := by rw [List.take_succ, hp]; rfl
    refine ⟨t, _, rfl, SqT.of (s _ _ e2), rfl, _, _, rfl, _, _, rfl, rfl, _, rfl, pairs[i].2, rfl, ?_⟩
    cases hb : pairs[i].2 with
    | true =>
      refine iteT ⟨_, rfl, hd, by omega, rfl, ?_, upd_same, fun b o z => ?_⟩
      · rw [tk, List.filter_append, List.map_append, ← e]
        simp [hb]
      · rw [upd_ne (ne_of_none z hD)]
        exact s b o z
    | false =>
      refine iteF ⟨rfl, ?_, hd, s⟩
      rw [tk, List.filter_append, List.map_append, ← e]
      simp [hb]
  · rintro ys σ H ⟨_, e, hd, s⟩
    rw [hl, List.take_of_length_le (Nat.le_refl _)] at e
    subst e
    exact k H s hd

structure Held (K : PySem.W.Frag) (H : Hp) (ea C : Addr) : Prop where
  ex : ∃ oe vs, H ea = some (excO ea oe) ∧ oe.cls = .ref C ∧ oe.dict = none ∧ oe.data = .fields vs
  cls : XK.ExcCls K C
theorem Held.same {K : PySem.W.Frag} {H H' : Hp} {ea C : Addr} (h : Held K H ea C) (s : Same H H') : Held K H' ea C := by
  obtain ⟨⟨oe, vs, e, r⟩, c⟩ := h
  exact ⟨⟨oe, vs, s _ _ e, r⟩, c⟩
theorem Held.ty {K : PySem.W.Frag} {H : Hp} {ea C : Addr} (h : Held K H ea C) : TyX K H (.ref ea) (.ref C) := by
  obtain ⟨⟨oe, vs, e, e1, e2, e3⟩, c⟩ := h
  exact .inr ⟨ea, oe, C, vs, rfl, rfl, e, e1, e2, e3, c⟩
end L2
set_option Elab.async false
set_option linter.all false
set_option maxRecDepth 100000
namespace L2
open PySem PySem.Spec PyProof.Rows

section
variable {X : Cx}
theorem Inv.walked {pins : List (Addr × Obj)} {σ : St} {H : Hp} {s : Shared} (I : Inv X pins σ H s) {u : Obj} {h' : Heap} {tk : Nat} (hk : ∀ b o, b ∉ [s.heap.objs.size] → (s.heap.push u).get? b = some o → h'.get? b = some o) :
    Inv X pins σ H { s with heap := h', toks := tk } :=
  I.kept (t' := tk) fun b o e => hk b o (by simp; exact Nat.ne_of_lt (Heap.lt_size e)) (Heap.get?_push_of_some _ e)
theorem range_all {α : Type} (bs : List α) (d : α) (p : α → Bool) : (List.range bs.length).all (fun i => p (bs.getD i d)) = bs.all p := by
  induction bs with
  | nil => rfl
  | cons b r ih =>
    rw [List.length_cons, List.range_succ_eq_map, List.all_cons, List.all_map, List.all_cons]
    congr 1
theorem val_bl {bs : List Bool} {its : List Value} (rv : Vals (bs.map V.bl) its) {i : Nat} {v : Value} (e : its.toArray[i]? = some v) : v = .bool (bs.getD i false) := by
  have hl := rv.length
  rw [List.length_map] at hl
  have hi : i < its.length := by
    have := (Array.getElem?_eq_some_iff.mp e).1
    simpa using this
  have hx : (bs.map V.bl)[i]? = some (V.bl (bs.getD i false)) := by
    rw [List.getElem?_map, List.getElem?_eq_getElem (by omega), List.getD_eq_getElem?_getD, List.getElem?_eq_getElem (by omega)]
    rfl
  obtain ⟨u, e1, e2⟩ := rv.get hx
  have e3 : its[i]? = some v := by simpa using e
  rw [e1] at e3
  cases e3
  exact e2
theorem call_allL (hc : X.calm = true) : CallR X (.builtin "all") (fun xs H Q => ∃ (a : Addr) (bs : List Bool), xs = [.ref a] ∧ SqL X.K H a (bs.map V.bl) ∧ Q (.bl (bs.all id)) H) := by
  intro pins s σ H xs us Q I r h
  obtain ⟨a, bs, rfl, hS, q⟩ := h
  obtain ⟨u, rfl, ru⟩ := vals1 r
  cases ru
  obtain ⟨its, rv, pl, hz⟩ := I.list hS
  have hl : its.length = bs.length := by rw [← rv.length, List.length_map]
  have hlt : a ≠ s.heap.objs.size := by obtain ⟨o, e, _⟩ := pl.isList; exact Nat.ne_of_lt (Heap.lt_size e)
  refine call_all_walk (wpAny_pyIter_list pl.isList ?_)
  refine ⟨s.heap.objs.size, _, _, _, _, _, fun i => bs.getD i false, rfl, Walks.list (A := X.A.in1) (I.ok.hd hc) _ a hlt its.toArray, ⟨⟨_, Heap.get?_push_size _ rfl, rfl, rfl⟩, pl.isList.push _⟩, fun i v s' Q' E' hP hQ => ?_, fun h' tk hk => ?_⟩
  · rw [val_bl rv hP]
    exact wpAny_truthy_bool hQ
  · refine ⟨.bl _, H, I.walked hk, rfl, ?_⟩
    have e : (List.range its.toArray.size).all (fun i => bs.getD i false) = bs.all id := by
      rw [List.size_toArray, hl]
      exact range_all bs false id
    rw [e]
    exact q
end
end L2
set_option Elab.async false
set_option linter.all false
set_option maxRecDepth 100000
namespace L2
open PySem PySem.Spec PyProof.Rows


noncomputable def cutL (l : List Nat) (lo hi : Option Int) : List Nat := (l.drop (HT.sIx l.length 0 lo)).take (HT.sIx l.length l.length hi - HT.sIx l.length 0 lo)
theorem clip_lo (n d : Nat) (v : Int) : max 0 (min (if v < 0 then v + (n : Int) else v) (n : Int)) = ((HT.sIx n d (some v) : Nat) : Int) := by
  show _ = (((if v < 0 then (v + (n : Int)).toNat else min v.toNat n) : Nat) : Int)
  by_cases hv : v < 0
  · have le := Int.add_le_add_right (Int.le_of_lt hv) (n : Int)
    rw [Int.zero_add] at le
    rw [if_pos hv, if_pos hv, Int.min_eq_left le, Int.ofNat_toNat, Int.max_comm]
  · obtain ⟨m, rfl⟩ := Int.eq_ofNat_of_zero_le (Int.not_lt.mp hv)
    rw [if_neg hv, if_neg hv, Int.toNat_natCast, Int.max_eq_right (Int.le_min.mpr ⟨Int.natCast_nonneg m, Int.natCast_nonneg n⟩)]
    rcases Nat.le_total m n with c | c
    · rw [Nat.min_eq_left c, Int.min_eq_left (Int.ofNat_le.mpr c)]
    · rw [Nat.min_eq_right c, Int.min_eq_right (Int.ofNat_le.mpr c)]
theorem slice_ix (lo hi : Option Int) (n : Nat) : Builtin.Str.strSliceIndices lo hi 1 n = sliceRange ((HT.sIx n 0 lo : Nat) : Int) ((HT.sIx n n hi : Nat) : Int) 1 := by
  unfold Builtin.Str.strSliceIndices
  simp only [show (1 : Int) > 0 by decide, if_true]
  cases lo with
  | none =>
    cases hi with
    | none => rfl
    | some j => simp only [clip_lo n n j]; rfl
  | some i =>
    cases hi with
    | none => simp only [clip_lo n 0 i]; rfl
    | some j => simp only [clip_lo n 0 i, clip_lo n n j]
theorem slice_codes (z : Str) (lo hi : Option Int) : (Txt.slice z lo hi).cps.toList = cutL z.cps.toList lo hi := by
  have len : z.length = z.cps.toList.length := Array.length_toList.symm
  have ix := (slice_ix lo hi z.length).trans (sliceRange_one _ _)
  have key : (Builtin.Str.strSliceIndices lo hi 1 z.length).filterMap (z.cps[·]?) = cutL z.cps.toList lo hi := by
    rw [ix, pick_run, len]
    rfl
  unfold Txt.slice
  split
  · rename_i h
    have h : (Builtin.Str.strSliceIndices lo hi 1 z.length).length = z.length := by simpa using h
    rw [ix, List.length_map, List.length_range, len] at h
    have a2 := HT.sIx_le z.cps.toList.length z.cps.toList.length (Nat.le_refl _) hi
    have hl : (cutL z.cps.toList lo hi).length = z.cps.toList.length := by
      unfold cutL
      rw [List.length_take, List.length_drop, h]
      exact Nat.min_eq_left (Nat.le_trans (Nat.le_of_eq h.symm) (Nat.sub_le_sub_right a2 _))
    exact (((List.take_sublist _ _).trans (List.drop_sublist _ _)).eq_of_length hl).symm
  · exact key
noncomputable def rSlS : V → Option Int → Option Int → Hp → VK → Prop := fun x lo hi H Q => ∃ z, x = .str z ∧ z.length ≤ sizeLine ∧ Q (.str (Txt.slice z lo hi)) H
theorem part_some {v : Value} {o : Option Int} (p : IsPart v o) : ∃ l : Option (Int × Tok), v = partValue l ∧ o = l.map (·.1) := by
  cases p with
  | none => exact ⟨none, rfl, rfl⟩
  | int i t => exact ⟨some (i, t), rfl, rfl⟩
theorem sl_str {X : Cx} : SlR X rSlS := by
  intro pins s σ H x v vl vu lo hi sl Q I rx hs pl pu h
  obtain ⟨z, rfl, hz, q⟩ := h
  obtain ⟨t, rfl⟩ := rx
  obtain ⟨l, rfl, rfl⟩ := part_some pl
  obtain ⟨u, rfl, rfl⟩ := part_some pu
  refine ⟨"str", _, F.slot_str_getitem.lookup, typeIs_str _ _ _, wpAny_getItem_str_slice (l := l) (u := u) (st := none) hs rfl ?_⟩
  exact post_val_or_str ⟨Nat.le_trans (Txt.slice_le z _ _) hz, fun t' k => ⟨.str _, H, I.tok k, ⟨t', rfl⟩, q⟩⟩
end L2
set_option Elab.async false
set_option linter.all false
set_option maxRecDepth 100000
namespace L2
open PySem PySem.Spec PyProof.Rows

noncomputable def cxCompF (X : Cx) (Nc : List Str) (scope : Scope) (cl : List (Str × Addr)) (C : Addr) (fp : List Addr) (s : Shared) (H : Hp) : Cx :=
  { X with N := Nc, s₀ := s, H₀ := H, env := compEnvC scope cl C X.env, outer := X.stack, ex := fp, fn := fun _ => false, pn := [], xe := fun _ _ => False }

noncomputable def tTurnsI (J : It) (D : Addr) (g : TG) (tt : TT) (te : TE) (fin : List V → Hp → Prop) (σ : St) (H : Hp) : Prop :=
  ∃ W : Nat → Nat → List V → St → Hp → Prop, (∃ m, W 0 m [] σ H) ∧ (∀ i m ys σ H, W i m ys σ H → H D = some (.lst ys)) ∧
    ∀ i m ys σ H, W i m ys σ H → (J.stop i H ∧ fin ys H) ∨
      (J.go i H ∧ ∃ N : List V → St → Hp → Prop, (∀ ys' σ' H', N ys' σ' H' → ∃ m', m' < m ∧ W (i + 1) m' ys' σ' H') ∧
        ∀ x H', J.yld i H x H' → g x σ H' fun σ1 H1 => tt σ1 H1 fun b H2 => if b = true then te σ1 H2 fun y H3 => H3 D = some (.lst ys) ∧ ys.length < sizeLine ∧ N (ys ++ [y]) σ1 (upd H3 D (.lst (ys ++ [y]))) else N ys σ1 H2)
noncomputable def tCompI (src : List (Option Nat)) (wi : TI) (g : TG) (tt : TT) (te : TE) : TE := fun σ H Q => wi σ H fun J H1 => ∀ D, H1 D = none → tTurnsI J D g tt te (fun ys H2 => Q (.ref D) H2) (capt src σ) (upd H1 D (.lst []))
section
variable {X : Cx} {elt iter tgt : Expr} {ifs : List Expr} {scope : Scope} {cl : List (Str × Addr)} {Nc : List Str} {src : List (Option Nat)} {g : TG} {tt : TT} {te : TE}
theorem comp_blockI {pins : List (Addr × Obj)} {σ : St} {H : Hp} {s : Shared} {D it : Addr} {fp : List Addr} {tn : Nat → Heap → Prop} {J : It} {R : Addr → Result → Shared → Prop} {fin : List V → Hp → Prop} {pos : Pos} {E : Value → Shared → Prop}
    (c : CompOk X Nc scope cl src) (hcalm : X.calm = true) (I : Inv X pins σ H s) (T : Turn X.prog X.w X.K tgt J fp it tn) (st0 : tn 0 s.heap) (f : ∀ b ∈ fp, FpOk X pins H b)
    (hb : ∀ C s' H', PG (cxCompF X Nc scope cl C fp s' H') tgt g ∧ PIf (cxCompF X Nc scope cl C fp s' H') ifs tt ∧ PE (cxCompF X Nc scope cl C fp s' H') elt te)
    (h : tTurnsI J D g tt te fin (capt src σ) H)
    (kend : ∀ C ys σ' H' s', H C = none → Inv (cxCompF X Nc scope cl C fp s H) [] σ' H' s' → H' D = some (.lst ys) → fin ys H' → R C (.ok .next) s') :
    wpAny (model X.prog X.w) X.A (newFunctionEnv scope X.env.globals cl [] X.env.qual none .none (some X.env)) (fun cenv s4 =>
      codeAny (model X.prog X.w) X.A (.compStart (.ListComp elt [⟨tgt, iter, ifs, 0⟩] scope pos) 0 (.ref it) (.ref D) { cenv with scope := relabel scope X.env }) (R cenv.locals) s4) E s := by
  obtain ⟨W, ⟨m0, w0⟩, wi, wt⟩ := h
  refine wpAny_newFunctionEnv c.cell (by intro y hy; simp at hy) (fun h1 hn1 hs1 => ?_) c.kind
  have hC0 : H s.heap.objs.size = none := I.hok.fresh (Nat.le_refl _)
  have old : ∀ b o, s.heap.get? b = some o → h1.get? b = some o := fun b o e => hs1.extBut b o (Nat.ne_of_lt (Heap.lt_size e)) (Heap.get?_push_of_some _ e)
  have fplt : ∀ b ∈ fp, b < s.heap.objs.size := fun b hb => by
    obtain ⟨o, e, _⟩ := T.obj 0 _ st0 b hb
    exact Heap.lt_size e
  have inStk : ∀ b ∈ fp, b ∉ frs X.stack := fun b hb z => (List.mem_cons.mp (I.stkSub b z)).elim (f b hb).2.1 (f b hb).2.2.1
  have Yok : (cxCompF X Nc scope cl s.heap.objs.size fp s H).Ok := by
    refine ⟨I.ok.mod, c.kind, I.ok.glob, I.ok.blt, Nat.le_refl _, fun x y b h1 h2 => I.ok.inj x y b (c.sub x b h1) (c.sub y b h2), fun x hx => c.has x hx, (fun x b h1 _ => nomatch h1), I.ok.hd, I.ok.frames, .inl rfl, fun b hb => ?_, fun b o e => I.bs b o e, Nat.le_trans I.ok.bsz I.sz, fun b o e hb => ?_, fun b hb => ?_, I.stack, I.stkFree⟩
    · exact ⟨Nat.ne_of_lt (fplt b hb), fun x b' e => (f b hb).2.2.2.2.1 x b' (c.sub x b' e)⟩
    · have e0 := (I.ok.bs b o e).1
      rcases (f b hb).2.2.2.1 with z | z
      · exact I.ok.noex b o e z
      · rw [z] at e0; cases e0
    · exact inStk b hb
  have J0 : Inv (cxCompF X Nc scope cl s.heap.objs.size fp s H) [] (capt src σ) H { s with heap := h1, toks := s.toks + ([] : List (Str × Value)).length } := by
    refine ⟨Yok, rfl, I.bare, Un.kept old, ⟨_, hn1, fun i x v e1 e2 e3 => ?_⟩, fun x b e => ?_, hC0, fun x b e => I.freeC x b (c.sub x b e), fun p hp => absurd (show p ∈ ([] : List (Addr × Obj)) from hp) (by simp), I.hok.kept old, ?_⟩
    · unfold capt at e2
      rw [List.getElem?_map] at e2
      cases q : src[i]? with
      | none => rw [q] at e2; cases e2
      | some oj =>
        rw [q] at e2
        cases oj with
        | none => cases e2
        | some j =>
          obtain ⟨y, y1, y2, y3, y4⟩ := c.frm i j q
          obtain rfl : y = x := Option.some.inj (y1.symm.trans e1)
          have e2' : (σ[j]?).join = some v := Option.some.inj e2
          have e2s : σ[j]? = some (some v) := by
            cases z : σ[j]? with
            | none => rw [z] at e2'; cases e2'
            | some ov => rw [z] at e2'; exact congrArg some e2'
          obtain ⟨m, hn, hl⟩ := I.loc
          obtain ⟨u, r, l⟩ := hl j y v y2 e2s (.inr (.inl y3))
          refine ⟨u, r, .inr ⟨.inl y4, ?_⟩⟩
          rcases l with ⟨k1, _⟩ | ⟨_, b, k2, k3⟩
          · exact absurd (k1.symm.trans y3) (by intro z; cases z)
          · obtain ⟨b', k4⟩ := c.has y (.inl y4)
            have k5 := c.sub y b' k4
            rw [k2] at k5
            cases k5
            obtain ⟨o, ho, hd⟩ := k3
            exact ⟨b, k4, o, old b o ho, hd⟩
    · obtain ⟨v, o, ho, hd⟩ := I.cell x b (c.sub x b e)
      exact ⟨v, o, old b o ho, hd⟩
    · unfold capt
      rw [List.length_map]
      exact c.len
  have st1 : tn 0 h1 := T.keep _ _ _ st0 fun b _ o e => old b o e
  obtain ⟨bg, bi, be⟩ := hb s.heap.objs.size s H
  have fpY : ∀ {H2 : Hp}, (∀ b ∈ fp, H2 b = none) → ∀ b ∈ fp, FpOk (cxCompF X Nc scope cl s.heap.objs.size fp s H) [] H2 b := fun {H2} n b hb =>
    ⟨n b hb, Nat.ne_of_lt (fplt b hb), inStk b hb, .inl hb, fun x b' e => (f b hb).2.2.2.2.1 x b' (c.sub x b' e), fun p hp => absurd (show p ∈ ([] : List (Addr × Obj)) from hp) (by simp)⟩
  have loop : codeAny (model X.prog X.w) X.A (.compLoop (.ListComp elt [⟨tgt, iter, ifs, 0⟩] scope pos) 0 (.ref it) (.ref D) (compEnvC scope cl s.heap.objs.size X.env)) (R s.heap.objs.size) { s with heap := h1, toks := s.toks + ([] : List (Str × Value)).length } := by
    refine comp_loop (fun n s' => ∃ i ys σ' H', Inv (cxCompF X Nc scope cl s.heap.objs.size fp s H) [] σ' H' s' ∧ tn i s'.heap ∧ (∀ b ∈ fp, H' b = none) ∧ W i n ys σ' H') ?_ m0 ⟨0, [], _, H, J0, st1, fun b hb => (f b hb).1, w0⟩
    rintro n s2 ⟨i, ys, σ2, H2, J2, st2, fr2, w2⟩
    have q2 := wi i n ys σ2 H2 w2
    rcases wt i n ys σ2 H2 w2 with ⟨stop, qn⟩ | ⟨go, N, hN, step⟩
    · refine thn (T.done (cxCompF X Nc scope cl s.heap.objs.size fp s H) rfl rfl rfl hcalm i [] s2 σ2 H2 _ J2 (fpY fr2) st2 stop) fun r s4 ⟨hr, I4⟩ => ?_
      subst hr
      exact kend _ ys σ2 H2 _ hC0 I4 q2 qn
    · refine thn (T.item (cxCompF X Nc scope cl s.heap.objs.size fp s H) rfl rfl rfl hcalm i [] s2 σ2 H2 _ J2 (fpY fr2) st2 go) fun r s4 ⟨u, hr, h4⟩ => ?_
      subst hr
      refine thn h4 fun _ s5 ⟨x, H5, I5, r5, y5, st5, fr5⟩ => ?_
      have I5' := I5.pinned (fpY fr5) (T.obj _ _ st5)
      have back : ∀ {σ7 : St} {H7 : Hp} {s7 : Shared}, Inv (cxCompF X Nc scope cl s.heap.objs.size fp s H) ([] ++ pinsAt fp s5.heap) σ7 H7 s7 → Inv (cxCompF X Nc scope cl s.heap.objs.size fp s H) [] σ7 H7 s7 ∧ tn (i + 1) s7.heap ∧ ∀ b ∈ fp, H7 b = none := fun {σ7 H7 s7} I7 => by
        refine ⟨I7.unpinned, T.keep _ _ _ st5 fun b hb o e => (I7.pin (b, o) (List.mem_append_right _ (List.mem_append_right _ (mem_pinsAt hb e)))).1, fun b hb => ?_⟩
        obtain ⟨o, e, d⟩ := T.obj _ _ st5 b hb
        exact (I7.pin (b, o) (List.mem_append_right _ (List.mem_append_right _ (mem_pinsAt hb e)))).2.1
      refine thn (bg _ s5 σ2 H5 x u _ I5' r5 (step x H5 y5)) fun _ s6 ⟨σ6, H6, I6, q6⟩ => ?_
      refine thn (bi _ s6 σ6 H6 _ I6 q6) fun b s7 ⟨H7, I7, q7⟩ => ?_
      cases b with
      | false =>
        obtain ⟨m', hm, w7⟩ := hN _ _ _ q7
        obtain ⟨J7, st7, fr7⟩ := back I7
        exact ⟨m', hm, i + 1, ys, σ6, H7, J7, st7, fr7, w7⟩
      | true =>
        refine thn (be _ s7 σ6 H7 _ I7 q7) fun y s8 ⟨vy, H8, I8, ry, hD8, hl8, n8⟩ => ?_
        refine thn (mt_append (X := cxCompF X Nc scope cl s.heap.objs.size fp s H) _ s8 σ6 H8 (.ref D) [vy] (.ref D) [y] (fun _ H' => H' = upd H8 D (.lst (ys ++ [vy]))) I8 rfl (.cons ry .nil) ⟨D, ys, vy, rfl, rfl, hD8, hl8, rfl⟩) fun _ s9 ⟨_, H9, I9, _, e9⟩ => ?_
        subst e9
        obtain ⟨m', hm, w8⟩ := hN _ _ _ n8
        obtain ⟨J9, st9, fr9⟩ := back I9
        exact ⟨m', hm, i + 1, ys ++ [vy], σ6, _, J9, st9, fr9, w8⟩
  exact codeAny_compStart_list loop (T.self _ 0 _ _ _ st1 loop)

theorem comp_backI {pins : List (Addr × Obj)} {σ σ' : St} {H H' : Hp} {s s' : Shared} {C : Addr} {fp : List Addr} {h' : Heap} (I : Inv X pins σ H s) (f : ∀ b ∈ fp, FpOk X pins H b) (J : Inv (cxCompF X Nc scope cl C fp s H) [] σ' H' s') (hs : Heap.SameBut C s'.heap h') :
    Inv X pins σ H' { s' with heap := h' } := by
  have nC : ∀ b o, s.heap.get? b = some o → b ≠ C := fun b o e => Nat.ne_of_lt (Nat.lt_of_lt_of_le (Heap.lt_size e) J.ok.above)
  have B := J.base
  refine I.call' (s' := { s' with heap := h' }) (ch := fp) J.os ⟨fun b o e n hb hx => (hs.2 b (nC b o e)).trans (B.keep b o e n hb hx), fun b o e n hb hx => ?_, B.free, fun b o e hx => ?_, B.tups, B.frzs, B.tbls⟩ (fun b u q => ?_) J.bare fun b hb => ?_
  · obtain ⟨sl, z⟩ := B.slot b o e n hb hx
    exact ⟨sl, (hs.2 b (nC b o e)).trans z⟩
  · obtain ⟨o', z⟩ := B.there b o e hx
    exact ⟨o', (hs.2 b (nC b o e)).trans z⟩
  · have hC : H' C = none := J.free
    refine (J.hok b u q).stay (fun c v hc z => (hs.2 c ?_).trans z) (fun _ z => z) fun _ _ z => z
    rintro rfl
    rcases hc with hc | hc
    · rw [← hc, hC] at q; cases q
    · rw [hC] at hc; cases hc
  · exact ⟨(f b hb).2.2.2.1, (f b hb).2.1, (f b hb).2.2.2.2.1, (f b hb).2.2.2.2.2⟩

theorem pe_compI {wi : TI} {pos : Pos} (c : CompOk X Nc scope cl src) (hcalm : X.calm = true) (hi : PI X tgt iter wi)
    (hb : ∀ fp C s' H', PG (cxCompF X Nc scope cl C fp s' H') tgt g ∧ PIf (cxCompF X Nc scope cl C fp s' H') ifs tt ∧ PE (cxCompF X Nc scope cl C fp s' H') elt te)
    (hs : ∀ x, foldedSetIterable iter X.env x = pure x := by intro _; rfl) : PE X (.ListComp elt [⟨tgt, iter, ifs, 0⟩] scope pos) (tCompI src wi g tt te) := by
  intro pins s σ H Q I h
  rw [eval_ListComp]
  refine wpAny_comprehension_free (use := none) rfl hs c.clos c.kind c.names (thn (hi pins s σ H _ I h) fun v s1 h1 => thn h1 fun itv s2 h2 => ?_)
  obtain ⟨it, fp, tn, J, H2, e, I2, T, st2, f2, hT⟩ := h2
  subst e
  refine wpAny_newObj_type ?_ (by size_fits)
  have old : ∀ b o, s2.heap.get? b = some o → (s2.heap.push { cls := .type "list", data := .seq ([] : List Value).toArray }).get? b = some o := fun b o e => Heap.get?_push_of_some _ e
  have I3 := I2.laid (a := s2.heap.objs.size) (o := .lst []) (t' := s2.toks) (h' := s2.heap.push { cls := .type "list", data := .seq ([] : List Value).toArray }) old (Nat.le_refl _) ⟨Nat.zero_le _, [], 0, .nil, Heap.get?_push_size _ rfl⟩
  have ne : ∀ b ∈ fp, b ≠ s2.heap.objs.size := fun b hb => by
    obtain ⟨o, e, _⟩ := T.obj 0 _ st2 b hb
    exact Nat.ne_of_lt (Heap.lt_size e)
  have f3 : ∀ b ∈ fp, FpOk X pins (upd H2 s2.heap.objs.size (.lst [])) b := fun b hb => ⟨by rw [upd_ne (ne b hb)]; exact (f2 b hb).1, (f2 b hb).2⟩
  refine comp_blockI (it := it) (R := fun C => compPost (model X.prog X.w) X.A X.xe none (EP X pins σ Q) _ C) c hcalm I3 T (T.keep _ _ _ st2 fun b _ o e => old b o e) f3 (hb fp) (hT _ (I2.hok.fresh (Nat.le_refl _))) fun C ys σ' H' s' hC J' hD q => ?_
  obtain ⟨m, hn, _⟩ := id J'.loc
  exact ⟨m, hn, fun h' hs' => ⟨.ref _, H', comp_backI I3 f3 J' hs', rfl, q⟩⟩
end

section
variable {K : PySem.W.Frag} {a D : Addr} {xs : List V} {g : TG} {tt : TT} {te : TE} {fin : List V → Hp → Prop} {σ : St} {H : Hp}

noncomputable def cTurn (D : Addr) (g : TG) (tt : TT) (te : TE) (x : V) (ys : List V) (N : List V → St → Hp → Prop) (σ : St) (H : Hp) : Prop :=
  g x σ H fun σ1 H1 => tt σ1 H1 fun b H2 => if b = true then te σ1 H2 fun y H3 => H3 D = some (.lst ys) ∧ ys.length < sizeLine ∧ N (ys ++ [y]) σ1 (upd H3 D (.lst (ys ++ [y]))) else N ys σ1 H2
end
end L2
set_option Elab.async false
set_option linter.all false
set_option maxRecDepth 100000
namespace L2
open PySem PySem.Spec PyProof.Rows

noncomputable def CanCall (X : Cx) (v : V) (vs : List V) (H : Hp) (Q : VK) : Prop :=
  ∃ (CX : CXT) (k : Nat) (f : Addr) (fd : FuncData) (ps : List Str) (sp : Sp) (E : XK), v = .ref f ∧ FnOk X.prog X.w X.K X.mg X.base CX k f fd ps sp ∧ Room k X.A ∧ Binds X.K fd ps [] ∧ Passes CX X E ∧ sp vs H Q E
noncomputable def CDivB (i j : Int) : Prop := 0 < j ∧ j < 2 ^ 64
theorem log2_small {n : Nat} (h : n < 2 ^ 64) : n.log2 < 9000 := by
  by_cases h0 : n = 0
  · rw [h0]; decide
  · exact Nat.lt_trans ((Nat.log2_lt h0).mpr h) (by decide)
theorem op_fdivB {X : Cx} : OpR X (binaryOp .FloorDiv) (rI CDivB fun i j => .int (i / j)) := opI fun i j _ _ _ _ _ hc q => by
  refine floordiv_int (by have := hc.1; omega) ?_ (.inl (PyProof.noPylong_of_log2 (log2_small (by have h1 := hc.1; have h2 := hc.2; omega))))
  rw [Int.fdiv_eq_ediv_of_nonneg _ (Int.le_of_lt hc.1)]
  exact q
end L2
set_option Elab.async false
set_option linter.all false
set_option maxRecDepth 100000
namespace L2
open PySem PySem.Spec PyProof.Rows

noncomputable def Its (z : Str) : It := ⟨fun i _ => i < z.cps.size, fun i H x H' => H' = H ∧ ∃ c, z.cps[i]? = some c ∧ x = .str ⟨#[c]⟩, fun i _ => z.cps.size ≤ i⟩
theorem iterTy (z : Str) : strIterType z = "str_ascii_iterator" ∨ strIterType z = "str_iterator" := by
  unfold strIterType
  split
  · exact .inl rfl
  · exact .inr rfl
theorem turn_str {P : Program} {w : World} {K : PySem.W.Frag} {tg : Expr} (z : Str) (t : Tok) (it : Addr) : Turn P w K tg (Its z) [it] it (fun i h => h.IsStrIter it (strIterType z) z t i) where
  mem := by simp
  obj := fun i h st b hb => by
    have e : b = it := by simpa using hb
    subst e
    obtain ⟨o, e, c, d⟩ := st
    exact ⟨o, e, fun v q => by rw [d] at q; cases q⟩
  keep := fun i h h' st k => by
    obtain ⟨o, e, r⟩ := st
    exact ⟨o, k it (by simp) o e, r⟩
  item := by
    intro X hP hw hK hc i pins s σ H E I hf st hg
    subst hP hw hK
    have hg' : i < z.cps.size := hg
    have hx : z.cps[i]? = some z.cps[i] := Array.getElem?_eq_getElem hg'
    obtain ⟨f0, f1, f2, f3, f4, f5⟩ := hf it (by simp)
    have fin : ∀ h' : Heap, h'.IsStrIter it (strIterType z) z t (i + 1) → Heap.SameBut it s.heap h' → ∃ u, some (Value.str ⟨#[z.cps[i]]⟩ s.toks) = some u ∧
        wpAny (model X.prog X.w) X.A (letOwnedTupleGo tg (.ref it) u) (fun _ s2 => ∃ x H', Inv X pins σ H' s2 ∧ RelV x u ∧ (Its z).yld i H x H' ∧ s2.heap.IsStrIter it (strIterType z) z t (i + 1) ∧ ∀ b ∈ [it], H' b = none) E { s with heap := h', toks := s.toks + 1 } := fun h' st' sb => by
      have I1 : Inv X pins σ H { s with heap := h', toks := s.toks + 1 } := I.turned (t' := s.toks + 1) (fun b o hb e => (sb.2 b hb).trans e) f0 f1 f3 f4 f5
      obtain ⟨o, e, c, d⟩ := id st'
      refine ⟨_, rfl, go_of (s := { s with heap := h', toks := s.toks + 1 }) e c d ?_ ⟨.str ⟨#[z.cps[i]]⟩, H, I1, ⟨_, rfl⟩, ⟨rfl, _, hx, rfl⟩, st', fun b hb => (hf b hb).1⟩⟩
      rcases iterTy z with q | q <;> rw [q] <;> decide
    rcases iterTy z with q | q
    · rw [q] at st fin ⊢
      exact wpAny_pyNext_ascii_item st hx fun h' st' sb => fin h' st' sb
    · rw [q] at st fin ⊢
      exact wpAny_pyNext_wide_item st hx fun h' st' sb => fin h' st' sb
  done := by
    intro X hP hw hK hc i pins s σ H E I hf st hg
    subst hP hw hK
    have hg' : z.cps.size ≤ i := hg
    have hx : z.cps[i]? = none := Array.getElem?_eq_none hg'
    obtain ⟨f0, f1, f2, f3, f4, f5⟩ := hf it (by simp)
    have fin : ∀ h' : Heap, Heap.ExtBut it s.heap h' → (none : Option Value) = none ∧ Inv X pins σ H { s with heap := h' } := fun h' eb => ⟨rfl, I.turned (t' := s.toks) (fun b o hb e => eb b o hb e) f0 f1 f3 f4 f5⟩
    rcases iterTy z with q | q
    · rw [q] at st
      exact wpAny_pyNext_ascii_end (I.ok.hd hc) st hx fin
    · rw [q] at st
      exact wpAny_pyNext_wide_end (I.ok.hd hc) st hx fin
  self := fun _ _ _ _ _ st h => by
    rcases iterTy z with q | q
    · rw [q] at st
      exact wpAny_pyIter_striter_ascii st h
    · rw [q] at st
      exact wpAny_pyIter_striter_wide st h
noncomputable def iStr (tl : TE) : TI := fun σ H R => tl σ H fun x H1 => ∃ z, x = .str z ∧ R (Its z) H1
theorem pi_str {X : Cx} {tg l : Expr} {tl : TE} (hl : PE X l tl) : PI X tg l (iStr tl) := by
  intro pins s σ H R I h
  refine thn (hl pins s σ H _ I h) fun v s1 ⟨x, H1, I1, r1, q1⟩ => ?_
  obtain ⟨z, e, q⟩ := q1
  subst e
  obtain ⟨t, rfl⟩ := r1
  refine wpAny_pyIter_strU ?_
  refine ⟨s1.heap.objs.size, [s1.heap.objs.size], _, _, H1, rfl, I1.kept (t' := s1.toks) fun b o e => Heap.get?_push_of_some _ e, turn_str z t _, ⟨_, Heap.get?_push_size _ rfl, rfl, rfl⟩, fun b hb => ?_, q⟩
  have e : b = s1.heap.objs.size := by simpa using hb
  subst e
  exact I1.fpOk (Nat.le_refl _) (I1.hok.fresh (Nat.le_refl _))

noncomputable def sgn (c : Nat) : V := .str ⟨#[c]⟩
section
variable {D : Addr} {g : TG} {tt : TT} {te : TE} {fin : List V → Hp → Prop} {σ : St} {H : Hp} {z : Str}
end
end L2
set_option Elab.async false
set_option linter.all false
set_option maxRecDepth 100000
namespace L2
open PySem PySem.Spec PyProof.Rows

section
variable {X : Cx}

theorem sign_in (x : Str) (c : Nat) : (!(Builtin.Str.occurrences x ⟨#[c]⟩ 0 x.length 1).isEmpty) = x.cps.toList.contains c := by
  rw [Bool.eq_iff_iff, StrLaws.found_iff, List.contains_iff_mem]
  constructor
  · rintro ⟨i, h⟩
    exact List.mem_of_getElem? ((StrLaws.subAt_one x c i).mp h)
  · intro h
    obtain ⟨i, hi⟩ := List.getElem?_of_mem h
    exact ⟨i, (StrLaws.subAt_one x c i).mpr hi⟩

noncomputable def timesS (z : Str) (n : Int) : Str := ⟨(List.replicate n.toNat z.cps.toList).flatten.toArray⟩
theorem foldl_app (a : Array Nat) : ∀ (k : Nat) (acc : Array Nat), ((List.replicate k a).foldl (· ++ ·) acc).toList = acc.toList ++ (List.replicate k a.toList).flatten
  | 0, acc => by simp
  | k + 1, acc => by
    rw [List.replicate_succ, List.foldl_cons, foldl_app a k, List.replicate_succ, List.flatten_cons, Array.toList_append, List.append_assoc]
theorem op_mul_str : OpR X (binaryOp .Mult) (fun x y H Q => ∃ z n, x = .str z ∧ y = .int n ∧ -(2 ^ 63) ≤ n ∧ n < 2 ^ 63 ∧ z.length * n.toNat ≤ sizeLine ∧ Q (.str (timesS z n)) H) := by
  intro pins s σ H x y v u Q I rx ry h
  obtain ⟨z, n, rfl, rfl, h1, h2, hz, q⟩ := h
  obtain ⟨t, rfl⟩ := rx
  obtain ⟨t', rfl⟩ := ry
  have lenz : z.length = z.cps.size := rfl
  have e1 : n < 1 → timesS z n = Str.empty := fun hn => by
    unfold timesS
    rw [show n.toNat = 0 by omega]
    rfl
  have e2 : (n == 1 || z.length == 0) = true → ¬ n < 1 → timesS z n = z := fun hc hn => by
    unfold timesS
    rw [Bool.or_eq_true, beq_iff_eq, beq_iff_eq] at hc
    rcases hc with rfl | hc
    · simp
    · have : z.cps = #[] := Array.eq_empty_of_size_eq_zero hc
      obtain ⟨c⟩ := z
      simp at this
      subst this
      simp
  refine PySem.P.mul_str (by rw [decide_eq_false (by omega), decide_eq_false (by omega)]; rfl) (fun hn hc => ?_) (fun hn hc => ?_) ?_
  · intro hgt
    have hb : (z.length : Int) * n ≤ 2 ^ 63 - 1 := by
      have hs : (sizeLine : Int) ≤ 2 ^ 63 - 1 := by have := line63; omega
      have : ((z.length * n.toNat : Nat) : Int) ≤ (sizeLine : Int) := by exact_mod_cast hz
      rw [Int.natCast_mul, Int.toNat_of_nonneg (by omega)] at this
      omega
    have := (Int.le_ediv_iff_mul_le (by omega : (0 : Int) < n)).mpr hb
    omega
  · unfold Builtin.Str.tooLong
    exact decide_eq_false (by omega)
  · by_cases hn : n < 1
    · rw [if_pos hn]
      rw [e1 hn] at q
      exact ⟨by decide, .str _, H, I.tok _, ⟨_, rfl⟩, q⟩
    · rw [if_neg hn]
      by_cases hc : (n == 1 || z.length == 0) = true
      · rw [if_pos hc]
        rw [e2 hc hn] at q
        exact ⟨.str z, H, I, ⟨t, rfl⟩, q⟩
      · rw [if_neg hc]
        have e3 : (⟨(List.replicate n.toNat z.cps).foldl (· ++ ·) #[]⟩ : Str) = timesS z n := by
          unfold timesS
          congr 1
          apply Array.toList_inj.mp
          rw [foldl_app]
          simp
        rw [e3]
        refine ⟨?_, .str _, H, I.tok _, ⟨_, rfl⟩, q⟩
        show (timesS z n).cps.size ≤ sizeLine
        unfold timesS
        rw [List.size_toArray, len_rep, Nat.mul_comm]
        simpa [lenz] using hz

theorem call_int_text : CallR X (.type "int") (fun xs H Q => ∃ z n, xs = [.str z] ∧ PySem.intText? z = some n ∧ z.length ≤ 640 ∧ Q (.int n) H) := by
  intro pins s σ H xs us Q I r h
  obtain ⟨z, n, rfl, hn, hl, q⟩ := h
  obtain ⟨u, rfl, ru⟩ := vals1 r
  obtain ⟨t, rfl⟩ := ru
  exact PySem.W.KIN.call_text hn hl ⟨.int n, H, I.tok _, ⟨_, rfl⟩, q⟩
end
end L2
set_option Elab.async false
set_option linter.all false
set_option maxRecDepth 100000
namespace L2
open PySem PySem.Spec PyProof.Rows
open Builtin.Str (occurrences partsBetween)

theorem vals_strs : ∀ {zs : List Str} {its : List Value}, Vals (zs.map V.str) its → ∃ l : List (Str × Tok), l.map (·.1) = zs ∧ its = strValues l
  | [], _, .nil => ⟨[], rfl, rfl⟩
  | z :: zs, _, .cons ⟨t, e⟩ r => by
    obtain ⟨l, e1, e2⟩ := vals_strs r
    subst e e2
    exact ⟨(z, t) :: l, by rw [List.map_cons, e1], rfl⟩
theorem strs_vals : ∀ (l : List (Str × Tok)), Vals ((l.map (·.1)).map V.str) (strValues l)
  | [] => .nil
  | p :: r => .cons ⟨p.2, rfl⟩ (strs_vals r)
section
variable {X : Cx}
theorem mt_join : MtR X "str.join" (fun x vs H Q => ∃ sep zs a, x = .str sep ∧ vs = [.ref a] ∧ SqL X.K H a (zs.map V.str) ∧ JoinOk sep zs = true ∧ Q (.str (Txt.join sep zs)) H) := by
  intro pins s σ H x xs v us Q I rx rv h
  obtain ⟨sep, zs, a, rfl, rfl, hS, hj, q⟩ := h
  obtain ⟨t, rfl⟩ := rx
  obtain ⟨u, rfl, ru⟩ := Vals.one rv
  cases ru
  obtain ⟨its, r, pl, hz⟩ := I.list hS
  obtain ⟨l, e1, rfl⟩ := vals_strs r
  exact SC.join pl.isList e1 hj fun t' k => ⟨.str _, H, I.tok k, ⟨t', rfl⟩, q⟩
theorem mt_split : MtR X "str.split" (fun x vs H Q => ∃ z y, x = .str z ∧ vs = [.str y] ∧ (y.length == 0) = false ∧ z.length ≤ sizeLine ∧ (partsBetween z (occurrences z y 0 z.length (z.length + 1)) y.length).length ≤ sizeLine ∧ New H (.lst ((Txt.split z y).map V.str)) Q) := by
  intro pins s σ H x xs v us Q I rx rv h
  obtain ⟨z, y, rfl, rfl, hy, h1, h2, q⟩ := h
  obtain ⟨t, rfl⟩ := rx
  obtain ⟨u, rfl, ru⟩ := Vals.one rv
  obtain ⟨tu, rfl⟩ := ru
  have fin : ∀ (l : List (Str × Tok)) (k : Nat), l.map (·.1) = Txt.split z y → (Txt.split z y).length ≤ sizeLine → EP X pins σ Q (.ref s.heap.objs.size) { s with toks := k, heap := s.heap.push { cls := .type "list", data := .seq (strValues l).toArray } } := fun l k e hl => by
    refine ⟨.ref _, upd H s.heap.objs.size (.lst ((Txt.split z y).map V.str)), I.laid (t' := k) (fun b o e => Heap.get?_push_of_some _ e) (Nat.le_refl _) ⟨by rw [List.length_map]; exact hl, strValues l, 0, by rw [← e]; exact strs_vals l, Heap.get?_push_size _ rfl⟩, rfl, q.at (I.hok.fresh (Nat.le_refl _))⟩
  have one : ∀ e : Txt.split z y = [z], (Txt.split z y).length ≤ sizeLine := fun e => by rw [e]; exact lenOk rfl
  cases c1 : (decide (z.length < y.length) || decide (Builtin.Str.strKind z < Builtin.Str.strKind y))
  · cases hf : (occurrences z y 0 z.length (z.length + 1)).isEmpty
    · refine call_meets F.slot_str_split (typeIs_str _ _ _) F.entry_str_split (F.args_str_split_2 _ _) (meets_str_split_sep z y t tu c1 hy hf h1 h2) ?_
      show wants _ _ _ { s with toks := _, heap := s.heap.push { cls := .type "list", data := .seq (strsFrom s.toks (partsBetween z (occurrences z y 0 z.length (z.length + 1)) y.length)).toArray } }
      rw [strsFrom_eq]
      have e : Txt.split z y = partsBetween z (occurrences z y 0 z.length (z.length + 1)) y.length := (if_neg (ne_true_of_eq_false c1)).trans (if_neg (ne_true_of_eq_false hf))
      exact fin (numbered s.toks _) _ ((numbered_texts _ _).trans e.symm) (by rw [e]; exact h2)
    · have e : Txt.split z y = [z] := (if_neg (ne_true_of_eq_false c1)).trans (if_pos hf)
      exact call_meets F.slot_str_split (typeIs_str _ _ _) F.entry_str_split (F.args_str_split_2 _ _) (meets_str_split_not_found z y t tu c1 hy hf) (fin [(z, t)] s.toks e.symm (one e))
  · have e : Txt.split z y = [z] := if_pos c1
    exact call_meets F.slot_str_split (typeIs_str _ _ _) F.entry_str_split (F.args_str_split_2 _ _) (meets_str_split_cannot_occur z y t tu c1) (fin [(z, t)] s.toks e.symm (one e))
end
end L2
set_option Elab.async false
set_option linter.all false
set_option maxRecDepth 100000
namespace L2
open PySem PySem.Spec PyProof.Rows

inductive Dt where
  | v (x : V)
  | l (xs : List Dt)
  | t (xs : List Dt)

inductive Is (K : PySem.W.Frag) (H : Hp) : Nat → V → Dt → Prop where
  | v {n : Nat} {x : V} : flatV x = true → Is K H n x (.v x)
  | l {n : Nat} {a : Addr} {xs : List V} {ds : List Dt} : SqL K H a xs → xs.length = ds.length → (∀ (j : Nat) x d, xs[j]? = some x → ds[j]? = some d → Is K H n x d) → Is K H (n + 1) (.ref a) (.l ds)
  | t {n : Nat} {a : Addr} {xs : List V} {ds : List Dt} : SqT K H a xs → xs.length = ds.length → (∀ (j : Nat) x d, xs[j]? = some x → ds[j]? = some d → Is K H n x d) → Is K H (n + 1) (.ref a) (.t ds)
theorem Is.flatT {K : PySem.W.Frag} {H : Hp} {a : Addr} {xs : List V} (h : SqT K H a xs) (f : xs.all flatV = true) : Is K H 1 (.ref a) (.t (xs.map Dt.v)) := by
  refine .t h (by simp) fun j x d e1 e2 => ?_
  rw [List.getElem?_map, e1] at e2
  cases e2
  exact .v (List.all_eq_true.mp f x (List.mem_of_getElem? e1))
theorem eqV_self {x : V} (f : flatV x = true) : eqV x x = true := by
  cases x <;> simp [flatV] at f <;> simp [eqV]
theorem all_true (n : Nat) : (List.range n).all (fun _ => true) = true := by
  rw [List.all_eq_true]
  intro _ _
  rfl
section
variable {X : Cx} {pins : List (Addr × Obj)} {σ : St} {H : Hp} {s : Shared}
theorem ix_of {xs : List V} {its : List Value} (r : Vals xs its) {j : Nat} (h : j < its.toArray.size) : ∃ x, xs[j]? = some x ∧ RelV x its.toArray[j] := by
  have hl := r.length
  have hj : j < xs.length := by rw [hl]; simpa using h
  refine ⟨xs[j], List.getElem?_eq_getElem hj, ?_⟩
  obtain ⟨u, e1, e2⟩ := r.get (List.getElem?_eq_getElem hj)
  have : its[j]? = some its.toArray[j] := by simp at h ⊢
  rw [this] at e1
  cases e1
  exact e2
theorem eqAt_same (I : Inv X pins σ H s) : ∀ (n : Nat) (d : Dt) (x y : V) (u v : Value) (A : Around), Is X.K H n x d → Is X.K H n y d → RelV x u → RelV y v → A.units + n < cLine → SeqAt.EqAt A s u v true := by
  intro n
  induction n with
  | zero =>
    intro d x y u v A hx hy ru rv hu
    cases hx with
    | v f =>
      cases hy with
      | v f' =>
        have e := eqAt_V (A := A) (s := s) ru rv f f
        rw [eqV_self f] at e
        exact e
  | succ n ih =>
    intro d x y u v A hx hy ru rv hu
    cases hx with
    | v f =>
      cases hy with
      | v f' =>
        have e := eqAt_V (A := A) (s := s) ru rv f f
        rw [eqV_self f] at e
        exact e
    | l h1 h2 h3 =>
      cases hy with
      | l g1 g2 g3 =>
        cases ru
        cases rv
        rename_i a xs ds b ys
        by_cases hab : a = b
        · subst hab
          exact SeqAt.EqAt.same _
        · obtain ⟨us, r1, p1, _⟩ := I.list h1
          obtain ⟨ws, r2, p2, _⟩ := I.list g1
          have e := SeqAt.RcAt.lists (A := A) (e := fun _ => true) p1.isList p2.isList (by rw [List.size_toArray, List.size_toArray, ← r1.length, ← r2.length, h2, g2]) (by omega) fun j k1 k2 => by
            obtain ⟨x, ex, rx⟩ := ix_of r1 k1
            obtain ⟨y, ey, ry⟩ := ix_of r2 k2
            have hj : j < ds.length := by
              have := (List.getElem?_eq_some_iff.mp ex).1
              omega
            exact ih ds[j] x y _ _ A.in1 (h3 j x _ ex (List.getElem?_eq_getElem hj)) (g3 j y _ ey (List.getElem?_eq_getElem hj)) rx ry (by show A.units + 1 + n < cLine; omega)
          rw [all_true] at e
          exact SeqAt.EqAt.of_refs hab e
    | t h1 h2 h3 =>
      cases hy with
      | t g1 g2 g3 =>
        cases ru
        cases rv
        rename_i a xs ds b ys
        by_cases hab : a = b
        · subst hab
          exact SeqAt.EqAt.same _
        · obtain ⟨us, r1, p1, _⟩ := I.tuple h1
          obtain ⟨ws, r2, p2, _⟩ := I.tuple g1
          have e := SeqAt.RcAt.tuples (A := A) (e := fun _ => true) (show s.heap.IsTuple a us.toArray from p1) (show s.heap.IsTuple b ws.toArray from p2) (by omega) fun j k1 k2 => by
            obtain ⟨x, ex, rx⟩ := ix_of r1 k1
            obtain ⟨y, ey, ry⟩ := ix_of r2 k2
            have hj : j < ds.length := by
              have := (List.getElem?_eq_some_iff.mp ex).1
              omega
            exact ih ds[j] x y _ _ A.in1 (h3 j x _ ex (List.getElem?_eq_getElem hj)) (g3 j y _ ey (List.getElem?_eq_getElem hj)) rx ry (by show A.units + 1 + n < cLine; omega)
          rw [all_true, Bool.true_and, show (us.toArray.size == ws.toArray.size) = true by rw [beq_iff_eq, List.size_toArray, List.size_toArray, ← r1.length, ← r2.length, h2, g2]] at e
          exact SeqAt.EqAt.of_refs hab e

theorem kids (I : Inv X pins σ H s) {n : Nat} {ds : List Dt} {xs ys : List V} {us ws : List Value} {A : Around} (r1 : Vals xs us) (r2 : Vals ys ws) (h2 : xs.length = ds.length)
    (h3 : ∀ (j : Nat) x d, xs[j]? = some x → ds[j]? = some d → Is X.K H n x d) (g3 : ∀ (j : Nat) x d, ys[j]? = some x → ds[j]? = some d → Is X.K H n x d) (hu : A.units + (n + 1) < cLine) :
    ∀ j (k1 : j < us.toArray.size) (k2 : j < ws.toArray.size), SeqAt.EqAt A.in1 s us.toArray[j] ws.toArray[j] ((fun _ => true) j) := fun j k1 k2 => by
  obtain ⟨x, ex, rx⟩ := ix_of r1 k1
  obtain ⟨y, ey, ry⟩ := ix_of r2 k2
  have hj : j < ds.length := by
    have := (List.getElem?_eq_some_iff.mp ex).1
    omega
  exact eqAt_same I n ds[j] x y _ _ A.in1 (h3 j x _ ex (List.getElem?_eq_getElem hj)) (g3 j y _ ey (List.getElem?_eq_getElem hj)) rx ry (by show A.units + 1 + n < cLine; omega)
end
section
variable {X : Cx}
noncomputable def isSeq : Dt → Bool
  | .v _ => false
  | _ => true
noncomputable def rSame (X : Cx) (neg : Bool) : R2 := fun x y H Q => ∃ n d, isSeq d = true ∧ Is X.K H n x d ∧ Is X.K H n y d ∧ X.A.units + n < cLine ∧ Q (.bl (!neg)) H
theorem op_neD : OpR X (compareOp .NotEq) (rSame X true) := by
  intro pins s σ H x y v u Q I rx ry h
  obtain ⟨n, d, hq, hx, hy, hu, q⟩ := h
  cases hx with
  | v f => cases hq
  | l h1 h2 h3 =>
    cases hy with
    | l g1 g2 g3 =>
      cases rx
      cases ry
      obtain ⟨us, r1, p1, _⟩ := I.list h1
      obtain ⟨ws, r2, p2, _⟩ := I.list g1
      refine SeqAt.RcNeAt.lists (e := fun _ => true) p1.isList p2.isList (by rw [List.size_toArray, List.size_toArray, ← r1.length, ← r2.length, h2, g2]) (by omega) (kids I r1 r2 h2 h3 g3 hu) _ _ _ _ ?_
      rw [all_true]
      exact ⟨.bl false, H, I, rfl, q⟩
  | t h1 h2 h3 =>
    cases hy with
    | t g1 g2 g3 =>
      cases rx
      cases ry
      obtain ⟨us, r1, p1, _⟩ := I.tuple h1
      obtain ⟨ws, r2, p2, _⟩ := I.tuple g1
      refine SeqAt.RcNeAt.tuples (e := fun _ => true) (show s.heap.IsTuple _ us.toArray from p1) (show s.heap.IsTuple _ ws.toArray from p2) (by omega) (kids I r1 r2 h2 h3 g3 hu) _ _ _ _ ?_
      rw [all_true, Bool.true_and, show (us.toArray.size == ws.toArray.size) = true by rw [beq_iff_eq, List.size_toArray, List.size_toArray, ← r1.length, ← r2.length, h2, g2]]
      exact ⟨.bl false, H, I, rfl, q⟩
end
end L2
set_option Elab.async false
set_option linter.all false
set_option maxRecDepth 100000
set_option maxHeartbeats 1000000

namespace SG
open PySem PyProof.Rows
class Rk where
  num : Value → Int
  knd : SortKind
variable [Rk]
noncomputable def K (xs : Array Keyed) (i : Nat) : Int := match xs[i]? with
  | some q => Rk.num q.1
  | none => 0
noncomputable def SortedTo (xs : Array Keyed) (n : Nat) : Prop := ∀ a b, a ≤ b → b < n → K xs a ≤ K xs b
structure SBase (b₀ : Array Keyed) (st : SortSt) : Prop where
  perm : (arrOf st).Perm b₀
  kind : kindOf st = Rk.knd
  failed : failedOf st = none
  pend : pendingOf st = #[]
noncomputable def Cmp (prog : Program) (w : World) (A : Around) (s : Shared) (b₀ : Array Keyed) : Prop :=
  ∀ p ∈ b₀.toList, ∀ q ∈ b₀.toList, ∀ (Q : Bool → Shared → Prop) (E : Value → Shared → Prop), Q (decide (Rk.num p.1 < Rk.num q.1)) s → wpAny (model prog w) A (keyLt' Rk.knd p.1 q.1) Q E s
section
variable {prog : Program} {w : World} {A : Around} {E : Value → Shared → Prop} {s : Shared} {b₀ : Array Keyed}
end
end SG
namespace SG
open PySem PyProof.Rows
variable [Rk]
noncomputable abbrev ky (p : Keyed) : Int := Rk.num p.1
noncomputable def put (x : Keyed) (l : List Keyed) : List Keyed := l.takeWhile (fun y => decide (ky y ≤ ky x)) ++ x :: l.dropWhile (fun y => decide (ky y ≤ ky x))
noncomputable def srt (l : List Keyed) : List Keyed := l.foldl (fun acc x => put x acc) []
noncomputable abbrev Up (l : List Keyed) : Prop := l.Pairwise fun a b => ky a ≤ ky b
end SG
namespace SG
open PySem PyProof.Rows
variable [Rk]
section
variable {prog : Program} {w : World} {A : Around} {E : Value → Shared → Prop} {s : Shared} {b₀ : Array Keyed}

structure Got (b₀ : Array Keyed) (st : SortSt) (n : Nat) : Prop where
  base : SBase b₀ st
  list : (arrOf st).toList = srt (b₀.toList.take n) ++ b₀.toList.drop n
end
end SG
namespace SG
open PySem PyProof.Rows
variable [Rk]
section
variable {prog : Program} {w : World} {A : Around} {E : Value → Shared → Prop} {s : Shared} {b₀ : Array Keyed}
structure Fall (b₀ : Array Keyed) (st : SortSt) (x q : Nat) (xs b : List Keyed) (v : Int) : Prop where
  base : SBase b₀ st
  cut : b₀.toList.take x = xs ++ b
  list : (arrOf st).toList = (srt xs).reverse ++ (b ++ b₀.toList.drop x)
  len : b.length = q + 1
  same : ∀ y ∈ b, ky y = v
  less : ∀ y ∈ xs, v < ky y
end
end SG
set_option Elab.async false
set_option linter.all false
set_option maxRecDepth 100000

namespace SS
open PySem PyProof.Rows
@[reducible] noncomputable def rk : SG.Rk := ⟨numOf, oneType'⟩
noncomputable local instance : SG.Rk := rk
noncomputable abbrev ky (p : Keyed) : Int := numOf p.1
noncomputable abbrev put (x : Keyed) (l : List Keyed) : List Keyed := @SG.put rk x l
noncomputable abbrev srt (l : List Keyed) : List Keyed := @SG.srt rk l
noncomputable abbrev Up (l : List Keyed) : Prop := @SG.Up rk l
end SS
set_option Elab.async false
set_option linter.all false
set_option maxRecDepth 100000
namespace L2
open PySem PySem.Spec PyProof.Rows

noncomputable abbrev lamEnv (qual : Str) (scope : Scope) (cl : List (Str × Addr)) (f c' : Addr) (C : Addr) : Env := PySem.W.envX qual scope C f (.ref c') cl
noncomputable def cxLam (X : Cx) (A : Around) (Nc : List Str) (qual : Str) (scope : Scope) (cl : List (Str × Addr)) (f c' : Addr) (s : Shared) (H : Hp) : Cx :=
  { X with A := A.deeper (lamEnv qual scope cl f c' s.heap.objs.size), N := Nc, s₀ := s, H₀ := H, env := lamEnv qual scope cl f c' s.heap.objs.size, outer := X.stack, stack := lamEnv qual scope cl f c' s.heap.objs.size :: X.stack, ex := [], fn := fun _ => false, pn := [], xe := fun _ _ => False }

structure LamOk (X : Cx) (p : Str) (Nr : List Str) (scope : Scope) (cl : List (Str × Addr)) (src : List (Option Nat)) : Prop where
  clos : closureFor scope X.env = pure cl
  kind : scope.kind = .function
  co : scope.isCoroutine = false
  gen : scope.isGenerator = false
  cell : ∀ y ∈ scope.names, y.2 ≠ .cell
  par : scope.names.lookup p = some .local
  sub : ∀ x c, cl.lookup x = some c → X.env.cells.lookup x = some c
  has : ∀ x, (scope.names.lookup x = some .cell ∨ scope.names.lookup x = some .free) → ∃ c, cl.lookup x = some c
  frm : ∀ (i j : Nat), src[i]? = some (some j) → ∃ x, Nr[i]? = some x ∧ X.N[j]? = some x ∧ X.env.scope.names.lookup x = some .cell ∧ scope.names.lookup x = some .free
  len : src.length = Nr.length
section
variable {X : Cx} {A : Around} {p : Str} {Nr : List Str} {scope : Scope} {cl : List (Str × Addr)} {src : List (Option Nat)} {pins : List (Addr × Obj)} {σ : St} {H : Hp} {s : Shared} {f c' : Addr} {name qual : Str} {params : Arguments} {body : Expr} {pm ctv u : Value} {v : V} {te : TE} {Q : VK}
end
end L2
set_option Elab.async false
set_option linter.all false
set_option maxRecDepth 100000
namespace SS
open PySem PyProof.Rows

noncomputable def iput (k : Nat → Int) (x : Nat) (l : List Nat) : List Nat := l.takeWhile (fun y => decide (k y ≤ k x)) ++ x :: l.dropWhile (fun y => decide (k y ≤ k x))
noncomputable def iord (k : Nat → Int) (l : List Nat) : List Nat := l.foldl (fun acc x => iput k x acc) []
end SS
namespace SG
open PySem PyProof.Rows
variable [Rk]
end SG
namespace SS
open PySem PyProof.Rows
end SS
namespace L2
open PySem PySem.Spec PyProof.Rows
section
variable {X : Cx} {A : Around} {E : Value → Shared → Prop} {pins : List (Addr × Obj)} {σ : St} {H : Hp} {s : Shared} {a kS : Addr} {e e1 : Nat} {keys : Array Value} {vs : List Value} {kz : List Int} {P : PySem.Fin → Shared → Prop}
end
end L2
set_option Elab.async false
set_option linter.all false
set_option maxRecDepth 100000
namespace L2
open PySem PySem.Spec PyProof.Rows
section
variable {X : Cx} {A : Around} {E : Value → Shared → Prop} {pins : List (Addr × Obj)} {σ : St} {H : Hp} {s : Shared} {r q : Addr} {xs : List V} {k : Nat → Int} {Q : VK}
noncomputable def RngCome (s : Shared) (lo : Int) (n : Nat) (w : Result) (s' : Shared) : Prop := ∃ h' tk acc c, w = .ok (.ret (.ref s.heap.objs.size)) ∧ s' = { s with heap := h', toks := tk } ∧ (∀ b o, s.heap.get? b = some o → h'.get? b = some o) ∧ h'.get? s.heap.objs.size = some { cls := .type "list", dict := none, data := .seq acc c, slots := #[] } ∧ ItemsOf (fun i v => ∃ t, v = .int (lo + i * 1) t) acc n
end
end L2
set_option Elab.async false
set_option linter.all false
set_option maxRecDepth 100000
namespace L2
open PySem PySem.Spec PyProof.Rows PySem.W

structure LamHd (X : Cx) (c P : Addr) : Prop where
  code : X.env.code = .ref c
  hd : CodeHd X.base c P
  bm : ∃ bm o, X.mg "__builtins__" = some (.ref bm) ∧ bm ≠ builtinsNs ∧ bm ≠ mainGlobals ∧ X.base.get? bm = some o ∧ o.cls = .type "module" ∧ o.dict = some builtinsNs ∧ o.data = .plain

noncomputable def LamAt (H : Hp) (c' : Addr) (qual : Str) : Prop := ∃ oc vs t u, H c' = some (.frz oc u) ∧ oc.data = .fields vs ∧ vs[1]? = some (.str qual t)

noncomputable def LamTab (H : Hp) (P : Addr) (pos : Pos) (qual : Str) : Prop :=
  ∃ ps, H P = some (.tbl ps) ∧ TriplesOk ps.toList ∧ (codeAmong pos ps.toList = none ∨ ∃ c', codeAmong pos ps.toList = some (.ref c') ∧ LamAt H c' qual)
noncomputable def LamNext (H H' : Hp) (P : Addr) : Prop := ∀ b o, b ≠ P → H b = some o → H' b = some o
section
variable {X : Cx} {p : Str} {Nr : List Str} {scope : Scope} {cl : List (Str × Addr)} {src : List (Option Nat)} {pins : List (Addr × Obj)} {σ : St} {H : Hp} {s : Shared} {c P : Addr} {params : Arguments} {body : Expr} {pos : Pos} {E : Value → Shared → Prop}

noncomputable def LamCome (X : Cx) (pins : List (Addr × Obj)) (σ : St) (H : Hp) (P : Addr) (pos : Pos) (qual : Str) (params : Arguments) (body : Expr) (scope : Scope) (cl : List (Str × Addr)) (w : Value) (s' : Shared) : Prop :=
  ∃ f c' pm ctv H', w = .ref f ∧ Inv X pins σ H' s' ∧ LamNext H H' P ∧ LamTab H' P pos qual ∧ LamAt H' c' qual ∧ FpOk X pins H' f ∧ s'.heap.get? f = some (kla_obj "<lambda>" qual params body scope cl pm c' ctv)
end
end L2
set_option Elab.async false
set_option linter.all false
set_option maxRecDepth 100000
namespace L2
open PySem PySem.Spec PyProof.Rows

noncomputable def FnAt (K : PySem.W.Frag) (x : Str) (st : Stmt) : Prop := ∃ f fd, PySem.W.nsIn K mainGlobals x = some (some (.ref f)) ∧ Fun K x x st f fd
section
variable {P : Program} {w : World} {K : PySem.W.Frag} {mg : Str → Option Value} {base : Heap} {x : Str} {st : Stmt} {CX : CXT} {k : Nat} {ps : List Str} {sp : Sp} {h0 : Heap}
theorem FnAt.cal (h : FnAt K x st) (X : K.In h0) (G : h0.Ns mainGlobals mg)
    (hb : ∀ (kV doc pm : Value) (an : Option Addr) (cdv ct : Value) (us : List Value), us.length = ps.length → bindArgs (PySem.W.fnOf x x (defArgs st) (defBody st) (defScope st) .none kV doc pm an cdv ct) ⟨us, []⟩ = pure (ps.zip us))
    (ok : ∀ f fd, Fun K x x st f fd → FnOk P w K mg base CX k f fd ps sp) : Cal P w K mg base CX k x ps sp := by
  obtain ⟨f, fd, a, F⟩ := h
  exact ⟨f, fd, PySem.W.mg_of X G a, F.kp, F.binds hb, ok f fd F⟩
theorem FnAt.calQ (h : FnAt K x st) (X : K.In h0) (G : h0.Ns mainGlobals mg)
    (hb : ∀ (kV doc pm : Value) (an : Option Addr) (cdv ct : Value) (us : List Value), us.length = ps.length → bindArgs (PySem.W.fnOf x x (defArgs st) (defBody st) (defScope st) .none kV doc pm an cdv ct) ⟨us, []⟩ = pure (ps.zip us))
    (ok : ∀ f fd, Fun K x x st f fd → FnOkQ P w K mg base k f fd ps sp) : CalQ P w K mg base k x ps sp := by
  obtain ⟨f, fd, a, F⟩ := h
  exact ⟨f, fd, PySem.W.mg_of X G a, F.kp, F.binds hb, ok f fd F⟩
end

theorem ulen1 {α : Type} {us : List α} (h : us.length = 1) : ∃ a, us = [a] := by
  match us, h with
  | [a], _ => exact ⟨a, rfl⟩
theorem ulen2 {α : Type} {us : List α} (h : us.length = 2) : ∃ a b, us = [a, b] := by
  match us, h with
  | [a, b], _ => exact ⟨a, b, rfl⟩
theorem ulen3 {α : Type} {us : List α} (h : us.length = 3) : ∃ a b c, us = [a, b, c] := by
  match us, h with
  | [a, b, c], _ => exact ⟨a, b, c, rfl⟩
end L2
set_option Elab.async false
set_option linter.all false
set_option maxRecDepth 100000
namespace L2
open PySem PySem.Spec PyProof.Rows PySem.W

noncomputable def BMain (mg : Str → Option Value) (base : Heap) : Prop := ∃ bm o, mg "__builtins__" = some (.ref bm) ∧ bm ≠ builtinsNs ∧ bm ≠ mainGlobals ∧ base.get? bm = some o ∧ o.cls = .type "module" ∧ o.dict = some builtinsNs ∧ o.data = .plain

noncomputable def OnlyT (tabs : List (Addr × Addr)) (H : Hp) : Prop := ∀ b, H b = none ∨ (∃ o xs, H b = some (.frz o (.lst xs))) ∨ ((∃ q ∈ tabs, q.2 = b) ∧ H b = some (.tbl #[]))
end L2
set_option Elab.async false
set_option linter.all false
set_option maxRecDepth 100000
set_option maxHeartbeats 1000000
namespace SS
end SS
namespace L2
open PySem PySem.Spec PyProof.Rows PySem.W
section
variable {prog : Program} {w : World} {A : Around} {E : Value → Shared → Prop} {s : Shared}
end
noncomputable def rSortTup : List V → Hp → VK → Prop := fun xs H Q => ∃ (a : Addr) (ts : List V) (nsOf : Nat → List Int) (rk : Nat → Int), xs = [.ref a] ∧ H a = some (.lst ts) ∧ ts.length < 64 ∧
  (∀ i, i < ts.length → ∃ t, ts[i]? = some (.ref t) ∧ H t = some (.tup ((nsOf i).map V.int)) ∧ nsOf i ≠ []) ∧ (∀ i j, i < ts.length → j < ts.length → HT.lexLt (nsOf i) (nsOf j) = decide (rk i < rk j)) ∧
  New H (.lst ((SS.iord rk (List.range ts.length)).map fun i => ts.getD i .non)) Q
section
variable {X : Cx} {A : Around} {E : Value → Shared → Prop} {pins : List (Addr × Obj)} {σ : St} {H : Hp} {s : Shared} {a : Addr} {its : List Value} {ts : List V} {nsOf : Nat → List Int} {rk : Nat → Int} {P : PySem.Fin → Shared → Prop}

noncomputable def TupAt (H : Hp) (ts : List V) (its : List Value) (nsOf : Nat → List Int) : Prop := Vals ts its ∧ ∀ i, i < ts.length → ∃ t, ts[i]? = some (.ref t) ∧ H t = some (.tup ((nsOf i).map V.int)) ∧ nsOf i ≠ []
open Classical in
noncomputable def rankOf (its : List Value) (rk : Nat → Int) : Value → Int := fun v => if h : ∃ i, its[i]? = some v then rk h.choose else 0
end
end L2
set_option Elab.async false
set_option linter.all false
set_option maxRecDepth 100000
namespace L2
open PySem PySem.Spec PyProof.Rows

section
variable {X : Cx}
theorem mt_zfill : MtR X "str.zfill" (fun x vs H Q => ∃ z i, x = .str z ∧ vs = [.int i] ∧ PadOk i = true ∧ Q (.str (Txt.zfill z i)) H) := by
  intro pins s σ H x xs v us Q I rx rv h
  obtain ⟨z, i, rfl, rfl, hp, q⟩ := h
  obtain ⟨t, rfl⟩ := rx
  obtain ⟨u, rfl, ru⟩ := Vals.one rv
  obtain ⟨tu, rfl⟩ := ru
  exact SC.zfill hp fun t' k => ⟨.str _, H, I.tok k, ⟨t', rfl⟩, q⟩
theorem mt_startswith : MtR X "str.startswith" (fun x vs H Q => ∃ z y, x = .str z ∧ vs = [.str y] ∧ Q (.bl (Txt.startswith z y)) H) := by
  intro pins s σ H x xs v us Q I rx rv h
  obtain ⟨z, y, rfl, rfl, q⟩ := h
  obtain ⟨t, rfl⟩ := rx
  obtain ⟨u, rfl, ru⟩ := Vals.one rv
  obtain ⟨tu, rfl⟩ := ru
  exact SC.startswith ⟨.bl _, H, I, rfl, q⟩
end
end L2
set_option Elab.async false
set_option linter.all false
set_option maxRecDepth 100000
namespace L2
open PySem PySem.Spec PyProof.Rows PySem.W
noncomputable def tSortK (P : Addr) (lpos : Pos) (qual : Str) (src : List (Option Nat)) (ta : TA) (te : TE) : TE := fun σ H Q => ta σ H fun vs H1 => ∃ (n : Nat) (k : Nat → Int), vs = [.int n] ∧ n < 64 ∧ LamTab H1 P lpos qual ∧
  ∀ H2, LamNext H1 H2 P → LamTab H2 P lpos qual → (∀ i, i < n → te (some (.int i) :: capt src σ) H2 fun x H' => x = .int (k i) ∧ H' = H2) ∧ ∀ D, H2 D = none → Q (.ref D) (upd H2 D (.lst ((SS.iord k (List.range n)).map fun i => .int (i : Nat))))
section
variable {X : Cx} {p : Str} {Nr : List Str} {scope : Scope} {cl : List (Str × Addr)} {src : List (Option Nat)} {c P : Addr} {params : Arguments} {body a : Expr} {pos lpos kpos p1 p2 p3 : Pos} {ta : TA} {te : TE}
end
end L2
set_option Elab.async false
set_option linter.all false
set_option maxRecDepth 100000
namespace L2
open PySem PySem.Spec PyProof.Rows

theorem boot_all : bootBuiltins "all" = some (.builtin "all") := by kernel_rfl
theorem has_of {l : List (Str × NameKind)} {cl : List (Str × Addr)} (h : l.all (fun y => match y.2 with | .cell | .free => (cl.lookup y.1).isSome | _ => true) = true) (x : Str) (z : l.lookup x = some .cell ∨ l.lookup x = some .free) : ∃ c, cl.lookup x = some c := by
  rcases z with z | z
  · have := List.all_eq_true.mp h _ (PySem.mem_of_lookup z)
    exact Option.isSome_iff_exists.mp this
  · have := List.all_eq_true.mp h _ (PySem.mem_of_lookup z)
    exact Option.isSome_iff_exists.mp this
theorem sub_of {cl cs : List (Str × Addr)} (h : ∀ q ∈ cl, cs.lookup q.1 = some q.2) (x : Str) (c : Addr) (z : cl.lookup x = some c) : cs.lookup x = some c := h _ (PySem.mem_of_lookup z)
theorem frm_nil {C : Nat → Nat → Prop} (i j : Nat) (z : ([] : List (Option Nat))[i]? = some (some j)) : C i j := by simp at z
theorem frm_none {l : List (Option Nat)} {C : Nat → Nat → Prop} (h : ∀ i j, l[i]? = some (some j) → C (i + 1) j) (i j : Nat) (z : (none :: l)[i]? = some (some j)) : C i j := by
  cases i with
  | zero => simp at z
  | succ i => exact h i j (by simpa using z)
theorem frm_some {l : List (Option Nat)} {k : Nat} {C : Nat → Nat → Prop} (h0 : C 0 k) (h : ∀ i j, l[i]? = some (some j) → C (i + 1) j) (i j : Nat) (z : (some k :: l)[i]? = some (some j)) : C i j := by
  cases i with
  | zero =>
    have : some k = some j := by simpa using z
    cases this
    exact h0
  | succ i => exact h i j (by simpa using z)

end L2
set_option Elab.async false
set_option linter.all false
set_option maxRecDepth 100000
namespace L2
open PySem PySem.Spec PyProof.Rows

section
variable {X : Cx} {a b c : Expr} {ta : TA} {te : TE} {p1 p2 p3 pos : Pos}

noncomputable def RngHere (X : Cx) (pins : List (Addr × Obj)) (σ : St) (R : Int → Int → Hp → Prop) (w : Value) (s' : Shared) : Prop :=
  ∃ r i j t u v H1, w = .ref r ∧ Inv X pins σ H1 s' ∧ IsRange s'.heap r i j 1 t u v ∧ (-(2 ^ 62) ≤ i ∧ i < 2 ^ 62 ∧ -(2 ^ 62) ≤ j ∧ j < 2 ^ 62) ∧ R i j H1
noncomputable def tRng2 (ta : TA) (σ : St) (H : Hp) (R : Int → Int → Hp → Prop) : Prop := ta σ H fun vs H1 => ∃ i j : Int, vs = [.int i, .int j] ∧ (-(2 ^ 62) ≤ i ∧ i < 2 ^ 62 ∧ -(2 ^ 62) ≤ j ∧ j < 2 ^ 62) ∧ R i j H1
theorem eval_rng2 (hg : Gl X "range") (hm : X.mg "range" = none) (ha : PA X [a, b] ta) (hs : starEach [a, b] X.env = [(false, eval a X.env), (false, eval b X.env)] := by rfl) (hs2 : starEach [b] X.env = [(false, eval b X.env)] := by rfl)
    {pins : List (Addr × Obj)} {s : Shared} {σ : St} {H : Hp} {R : Int → Int → Hp → Prop} (I : Inv X pins σ H s) (h : tRng2 ta σ H R) :
    wpAny (model X.prog X.w) X.A (eval (.Call (.Name "range" p2) [a, b] [] p3) X.env) (RngHere X pins σ R) X.xe s := by
  refine Call_ (ld_blt I hg hm boot_range (PyProof.Rows.callWith_type1 (thn (ha p3 pins s σ H _ I h) fun us s1 ⟨vs, H1, I1, r1, q1⟩ => ?_) (by rw [hs, hs2]) (by rw [hs2]; rfl)))
  obtain ⟨i, j, e, hb, q⟩ := q1
  subst e
  cases r1 with
  | cons r rr =>
    cases rr with
    | cons r' rr =>
      cases rr
      obtain ⟨t, rfl⟩ := r
      obtain ⟨t', rfl⟩ := r'
      exact call_range_2 ⟨_, i, j, _, _, _, H1, rfl, I1.kept fun b o e => Heap.get?_push_of_some _ e, IsRange.new .., hb, q⟩
noncomputable def tListRng (ta : TA) : TE := fun σ H Q => tRng2 ta σ H fun i j H1 => (j - i).toNat ≤ 2 ^ 24 ∧ New H1 (.lst ((List.range (j - i).toNat).map fun k => .int (i + (k : Nat)))) Q
theorem rng_contains {s : Shared} {A : Around} {P : Program} {w : World} {E : Value → Shared → Prop} {r : Addr} {i j x : Int} {t u v tx : Tok} {Q : Bool → Shared → Prop} (hr : IsRange s.heap r i j 1 t u v) (h : Q (decide (i ≤ x ∧ x < j)) s) :
    wpAny (model P w) A (contains (.ref r) (.int x tx)) Q E s := by
  have hT : s.TypeIs (.ref r) "range" := ⟨_, hr, rfl⟩
  refine wpAny_contains_slot hT F.slot_range_contains (wpAny_call_entry F.slot_range_contains hT F.entry_range_contains ?_ (F.args_range_contains_2 _ _))
  show wpAny _ _ (do let (a, b, c) ← Builtin.Range.rangeFields (.ref r); ret (.bool (Builtin.Range.rangePlace? a b c x).isSome)) _ _ _
  have e : (Builtin.Range.rangePlace? i j 1 x).isSome = decide (i ≤ x ∧ x < j) := by
    unfold Builtin.Range.rangePlace?
    simp only [show (1 : Int) > 0 by decide, if_true, Int.emod_one, beq_self_eq_true, Bool.and_true]
    by_cases h1 : i ≤ x ∧ x < j
    · rw [if_pos (by simp [h1]), decide_eq_true h1]; rfl
    · rw [if_neg (by simpa using h1), decide_eq_false h1]; rfl
  unfold Builtin.Range.rangeFields
  refine wpAny_bind (wpAny_bind (wpAny_field hr rfl rfl (wpAny_bind (m := asInt? _) (wpAny_pure (wpAny_bind (wpAny_field hr rfl rfl (wpAny_bind (m := asInt? _) (wpAny_pure (wpAny_bind (wpAny_field hr rfl rfl (wpAny_bind (m := asInt? _) (wpAny_pure (wpAny_pure ?_)))))))))))))
  show wpAny _ _ (ret (.bool (Builtin.Range.rangePlace? i j 1 x).isSome)) _ _ _
  rw [e]
  exact wpAny_pure ⟨_, rfl, wpAny_truthy_bool h⟩
noncomputable def tInRng (te : TE) (ta : TA) : TT := fun σ H Q => te σ H fun x H1 => ∃ n, x = .int n ∧ tRng2 ta σ H1 fun i j H2 => Q (decide (i ≤ n ∧ n < j)) H2
theorem pt_notInRng (hg : Gl X "range") (hm : X.mg "range" = none) (hc : PE X c te) (ha : PA X [a, b] ta)
    (hs : starEach [a, b] X.env = [(false, eval a X.env), (false, eval b X.env)] := by rfl) (hs2 : starEach [b] X.env = [(false, eval b X.env)] := by rfl) (hk : behindInMarks .NotIn (.Call (.Name "range" p2) [a, b] [] p3) = false := by rfl) :
    PT X (.Compare c [.NotIn] [.Call (.Name "range" p2) [a, b] [] p3] pos) (fun σ H Q => tInRng te ta σ H fun k H' => Q (!k) H') := by
  intro pins s σ H Q I h
  refine wpAny_isTrue_Compare1 (thn (hc pins s σ H _ I h) fun v s1 ⟨x, H1, I1, r1, n, e, q1⟩ => thn (eval_rng2 hg hm ha hs hs2 I1 q1) fun w s2 hq => ?_) hk
  subst e
  obtain ⟨t, rfl⟩ := r1
  obtain ⟨r, i, j, t1, t2, t3, H2, rfl, I2, hr, _, q⟩ := hq
  show wpAny _ _ (do return Value.bool (!(← contains (.ref r) (.int n t)))) _ _ _
  exact wpAny_bind (rng_contains hr (wpAny_pure (wpAny_truthy_bool ⟨H2, I2, q⟩)))
end
end L2
set_option Elab.async false
set_option linter.all false
set_option maxRecDepth 100000
namespace L2
open PySem PySem.Spec PyProof.Rows

section
variable {X : Cx} {elt iter tgt : Expr} {ifs : List Expr} {scope : Scope} {cl : List (Str × Addr)} {Nc : List Str} {src : List (Option Nat)} {g : TG} {tt : TT} {te : TE}
end
end L2
set_option Elab.async false
set_option linter.all false
set_option maxRecDepth 100000
namespace L2
open PySem
theorem Same.off {H H' : Hp} {b : Addr} (s : Same H H') (h : H' b = none) : H b = none := by
  cases e : H b with
  | none => rfl
  | some o => rw [s _ _ e] at h; cases h
end L2
namespace Pg
open PySem L2

structure Glb (mg : Str → Option Value) : Prop where
  isinstance : mg "isinstance" = none
  int : mg "int" = none
  bool : mg "bool" = none
  str : mg "str" = none
  len : mg "len" = none
  range : mg "range" = none
  ve : mg "ValueError" = none
  list : mg "list" = none
  tuple : mg "tuple" = none
  dict : mg "dict" = none
  set : mg "set" = none
  all : mg "all" = none
  any : mg "any" = none
  sum : mg "sum" = none
  sorted : mg "sorted" = none
  abs : mg "abs" = none
  max : mg "max" = none
  min : mg "min" = none
  zip : mg "zip" = none
  enumerate : mg "enumerate" = none
  reversed : mg "reversed" = none

structure Er (K : PySem.W.Frag) (mg : Str → Option Value) (x : Str) (c : Addr) : Prop where
  at' : mg x = some (.ref c)
  ex : PySem.W.excIn K c veMro "ValueError.__new__" = true

noncomputable def Num (mg : Str → Option Value) (x : Str) (n : Int) : Prop := ∃ t, mg x = some (.int n t)
noncomputable def Txt (mg : Str → Option Value) (x : Str) (z : Str) : Prop := ∃ t, mg x = some (.str z t)

structure Kds (mg : Str → Option Value) (d : Nat → Addr) : Prop where
  g0 : mg "BadAmount" = some (.ref (d 0))
  g1 : mg "BadShare" = some (.ref (d 1))
  g2 : mg "BadText" = some (.ref (d 2))
  g3 : mg "BadMonth" = some (.ref (d 3))
  g4 : mg "BadYear" = some (.ref (d 4))
  g5 : mg "BadRule" = some (.ref (d 5))
  g6 : mg "BadBook" = some (.ref (d 6))
  g7 : mg "NoYear" = some (.ref (d 7))
  g8 : mg "BadDay" = some (.ref (d 8))
  g9 : mg "BadEntry" = some (.ref (d 9))
  g10 : mg "NoMark" = some (.ref (d 10))
  g11 : mg "NoPerson" = some (.ref (d 11))
  g12 : mg "TooMany" = some (.ref (d 12))
  g13 : mg "BadClose" = some (.ref (d 13))
  g14 : mg "BadLine" = some (.ref (d 14))

structure KdOf (K : PySem.W.Frag) (d : Nat → Addr) (C : Addr) (i : Nat) : Prop where
  cls : XK.ExcCls K C
  ve : PySem.W.kitOne K (.ref C) (.type "ValueError") = some true
  k0 : PySem.W.kitOne K (.ref C) (.ref (d 0)) = some (decide (i = 0))
  k1 : PySem.W.kitOne K (.ref C) (.ref (d 1)) = some (decide (i = 1))
  k2 : PySem.W.kitOne K (.ref C) (.ref (d 2)) = some (decide (i = 2))
  k3 : PySem.W.kitOne K (.ref C) (.ref (d 3)) = some (decide (i = 3))
  k4 : PySem.W.kitOne K (.ref C) (.ref (d 4)) = some (decide (i = 4))
  k5 : PySem.W.kitOne K (.ref C) (.ref (d 5)) = some (decide (i = 5))
  k6 : PySem.W.kitOne K (.ref C) (.ref (d 6)) = some (decide (i = 6))
  k7 : PySem.W.kitOne K (.ref C) (.ref (d 7)) = some (decide (i = 7))
  k8 : PySem.W.kitOne K (.ref C) (.ref (d 8)) = some (decide (i = 8))
  k9 : PySem.W.kitOne K (.ref C) (.ref (d 9)) = some (decide (i = 9))
  k10 : PySem.W.kitOne K (.ref C) (.ref (d 10)) = some (decide (i = 10))
  k11 : PySem.W.kitOne K (.ref C) (.ref (d 11)) = some (decide (i = 11))
  k12 : PySem.W.kitOne K (.ref C) (.ref (d 12)) = some (decide (i = 12))
  k13 : PySem.W.kitOne K (.ref C) (.ref (d 13)) = some (decide (i = 13))
  k14 : PySem.W.kitOne K (.ref C) (.ref (d 14)) = some (decide (i = 14))

structure Rz (K : PySem.W.Frag) (d : Nat → Addr) (cR : Addr) (i : Nat) : Prop where
  ex : PySem.W.exmOne K (.ref (d i)) (.ref cR) = some true
  kd : KdOf K d (d i) i
noncomputable def kPairs (i : Nat) : List (Str × Bool) := [("amount", decide (i = 0)), ("share", decide (i = 1)), ("text", decide (i = 2)), ("month", decide (i = 3)), ("year", decide (i = 4)), ("rule", decide (i = 5)), ("book", decide (i = 6)), ("noyear", decide (i = 7)), ("day", decide (i = 8)), ("entry", decide (i = 9)), ("nomark", decide (i = 10)), ("noperson", decide (i = 11)), ("many", decide (i = 12)), ("close", decide (i = 13)), ("line", decide (i = 14))]
noncomputable def kWord (i : Nat) : List V := ((kPairs i).filter (·.2)).map (fun p => V.str p.1) ++ [.str "value"]
noncomputable def sp_kind (K : PySem.W.Frag) (d : Nat → Addr) : Sp := fun vs H Q _ => ∃ ea C i, vs = [.ref ea] ∧ Held K H ea C ∧ KdOf K d C i ∧ ∀ l H', Same H H' → H l = none → H' l = some (.lst (kWord i)) → Q (.ref l) H'
noncomputable def sp_is_number (K : PySem.W.Frag) : Sp := fun vs H Q _ => ∃ v, vs = [v] ∧ ((∃ z, v = .int z ∧ Q (.bl true) H) ∨ (NoNum K H v ∧ Q (.bl false) H))
noncomputable def sp_within (K : PySem.W.Frag) : Sp := fun vs H Q _ => ∃ v a b, vs = [v, .int a, .int b] ∧ ((∃ z, v = .int z ∧ Q (.bl (decide (a ≤ z ∧ z ≤ b))) H) ∨ (NoNum K H v ∧ Q (.bl false) H))
noncomputable def sp_need_amount (K : PySem.W.Frag) (cA : Addr) : Sp := fun vs H Q E => ∃ v, vs = [v] ∧ ((∃ z, v = .int z ∧ Q .non H) ∨ (NoNum K H v ∧ E (.ref cA) none H))

noncomputable def NotTo (K : PySem.W.Frag) (H : Hp) (m : Int) (v : V) : Prop := NoNum K H v ∨ ∃ z, v = .int z ∧ ¬ (0 ≤ z ∧ z ≤ m)
noncomputable def sp_need (K : PySem.W.Frag) (c : Addr) (m : Int) : Sp := fun vs H Q E => ∃ v, vs = [v] ∧ ((∃ z, v = .int z ∧ 0 ≤ z ∧ z ≤ m ∧ Q .non H) ∨ (NotTo K H m v ∧ E (.ref c) none H))

noncomputable def sp_cell (K : PySem.W.Frag) : Sp := fun vs H Q _ => ∃ a k ns, vs = [.ref a, .int k] ∧ SqL K H a (ns.map V.int) ∧ 0 ≤ k ∧ Q (.int (cellZ ns k)) H
noncomputable def sp_mixed (K : PySem.W.Frag) : Sp := fun vs H Q _ => ∃ a k ns, vs = [.ref a, .int k] ∧ SqL K H a (ns.map V.int) ∧ 0 ≤ k ∧ k ≤ 1000 ∧ Q (.int (mixZ ns k)) H
noncomputable def sp_whole : Sp := fun vs H Q _ => ∃ z, vs = [.int z] ∧ Q (.bl true) H
noncomputable def sp_lawS (K : PySem.W.Frag) : Sp := fun vs H Q _ => ∃ (a : Addr) (ns : List Int), vs = [.ref a] ∧ SqL K H a (ns.map V.int) ∧ ∀ H', Q (.bl true) H'
theorem sub1 {cs : List (Str × Addr)} {k : Str} {a : Addr} (h : cs.lookup k = some a) : ∀ q ∈ [(k, a)], cs.lookup q.1 = some q.2 := fun q hq => by rw [List.mem_singleton.mp hq]; exact h
noncomputable def sp_year_of (K : PySem.W.Frag) (c : Addr) : Sp := fun vs H Q E => ∃ v, vs = [v] ∧ ((∃ z, v = .int z ∧ 0 ≤ z ∧ z ≤ 119999 ∧ Q (.int (z / 12)) H) ∨ (NotTo K H 119999 v ∧ E (.ref c) none H))
noncomputable def sp_place_of (K : PySem.W.Frag) (c : Addr) : Sp := fun vs H Q E => ∃ v, vs = [v] ∧ ((∃ z, v = .int z ∧ 0 ≤ z ∧ z ≤ 119999 ∧ Q (.int (z % 12 + 1)) H) ∨ (NotTo K H 119999 v ∧ E (.ref c) none H))
noncomputable def monthsL (i : Int) (n : Nat) : List V := (List.range n).map fun k => .int (i + (k : Nat))
noncomputable def sp_months_of (K : PySem.W.Frag) (c : Addr) : Sp := fun vs H Q E => ∃ v, vs = [v] ∧ ((∃ z, v = .int z ∧ 0 ≤ z ∧ z ≤ 9999 ∧ New H (.lst (monthsL (z * 12) 12)) Q) ∨ (NotTo K H 9999 v ∧ E (.ref c) none H))
end Pg


set_option Elab.async false
set_option linter.all false
set_option maxRecDepth 100000
namespace L2
open PySem PySem.Spec PyProof.Rows

noncomputable def CalM (P : Program) (w : World) (K : PySem.W.Frag) (mg : Str → Option Value) (base : Heap) (CX : CXT) (k : Nat) (C : Addr) (m : Str) (ps : List Str) (sp : Sp) : Prop :=
  Cls K C ∧ ∃ f fd, Meth K C m f ∧ Binds K fd ps [] ∧ FnOk P w K mg base CX k f fd ps sp
noncomputable def CalN (P : Program) (w : World) (K : PySem.W.Frag) (mg : Str → Option Value) (base : Heap) (CX : CXT) (k : Nat) (x : Str) (C : Addr) (ps : List Str) (sp : Sp) : Prop :=
  mg x = some (.ref C) ∧ ∃ f fd, Mk K C f ∧ Binds K fd ps [] ∧ FnOk P w K mg base CX k f fd ps sp
section
variable {X : Cx} {CX : CXT} {j k : Nat} {C : Addr} {ps : List Str} {sp : Sp} {x m : Str} {p apos pos : Pos} {o e : Expr} {es : List Expr} {ta : TE} {t : TA} {E : XK}
noncomputable def tMt (C : Addr) (m : Str) (sp : Sp) (E : XK) (ta : TE) (t : TA) : TE := fun σ H Q => ta σ H fun x H1 => ∃ a dx fs, x = .ref a ∧ H1 a = some (.ins C dx fs) ∧ fs.lookup m = none ∧ t σ H1 fun vs H2 => sp (x :: vs) H2 Q E
noncomputable def tMk (C : Addr) (sp : Sp) (E : XK) (t : TA) : TE := fun σ H Q => t σ H fun vs H1 => ∀ x dx, H1 x = none → H1 dx = none → dx ≠ x →
  sp (.ref x :: vs) (upd (upd H1 dx (.own x)) x (.ins C dx [])) (fun v H2 => v = .non ∧ Q (.ref x) H2) E
end

noncomputable def MtAt (K : PySem.W.Frag) (C : Addr) (m qual : Str) (st : Stmt) : Prop := ∃ f fd, Meth K C m f ∧ Fun K m qual st f fd
noncomputable def NwAt (K : PySem.W.Frag) (C : Addr) (qual : Str) (st : Stmt) : Prop := ∃ f fd, Mk K C f ∧ Fun K "__init__" qual st f fd
section
variable {P : Program} {w : World} {K : PySem.W.Frag} {mg : Str → Option Value} {base : Heap} {C : Addr} {x m qual : Str} {st : Stmt} {CX : CXT} {k : Nat} {ps : List Str} {sp : Sp}
end
end L2
set_option Elab.async false
set_option linter.all false
set_option maxRecDepth 100000
namespace L2
open PySem PySem.W PySem.Calls PyProof.Rows


theorem frag_in (as : List Addr) (h : Heap) : (fragAt as h).In h := by
  intro a o e
  induction as with
  | nil => cases e
  | cons b r ih =>
    unfold fragAt at e
    rw [List.filterMap_cons] at e
    cases q : h.get? b with
    | none => rw [q] at e; exact ih e
    | some o' =>
      rw [q] at e
      by_cases c : a = b
      · subst c
        have e : List.lookup a ((a, o') :: fragAt r h) = some o := e
        rw [List.lookup_cons_self] at e
        cases e
        exact q
      · have e : List.lookup a ((b, o') :: fragAt r h) = some o := e
        rw [List.lookup_cons, show (a == b) = false from beq_eq_false_iff_ne.mpr c] at e
        exact ih e

section
variable {K : Frag} {v : Option (Option Value)} {x qual m : Str} {st : Stmt} {C a : Addr}
theorem fn_seen (h : fnSeen K v = fnWant x qual st) : ∃ f fd, v = some (some (.ref f)) ∧ Fun K x qual st f fd ∧ isFn K (.ref f) = true ∧ keepIn K (.ref f) = true := by
  unfold fnSeen fnWant at h
  split at h
  · rename_i f
    split at h
    · rename_i oc od fd osl e
      obtain ⟨nm, qn, pr, bd, sc, gl, cl, df, kV, doc, pm, an, cdv, ct, bl⟩ := fd
      simp only [Option.some.injEq, FnSeen.mk.injEq, Bool.and_eq_true] at h
      obtain ⟨rfl, rfl, rfl, rfl, rfl, rfl, rfl, rfl, rfl, ⟨h1, h2⟩, h3⟩ := h
      exact ⟨f, _, rfl, fun_mk e h1 h2, h3, h2⟩
    · cases h
  · cases h
theorem fnAt_seen (h : fnSeen K (nsIn K mainGlobals x) = fnWant x x st) : FnAt K x st := by
  obtain ⟨f, fd, h1, h2, _, _⟩ := fn_seen h
  exact ⟨f, fd, h1, h2⟩
theorem no_of (h : isNo v = true) : v = some none := by
  unfold isNo at h
  split at h
  · rfl
  · cases h

theorem int_of {z : Int} (h : isInt z v = true) : ∃ t, v = some (some (.int z t)) := by
  unfold isInt at h
  split at h
  · rw [of_decide_eq_true h]; exact ⟨_, rfl⟩
  · cases h

theorem str_of {z : Str} (h : isStr z v = true) : ∃ t, v = some (some (.str z t)) := by
  unfold isStr at h
  split at h
  · rw [of_decide_eq_true h]; exact ⟨_, rfl⟩
  · cases h

theorem ref_of (h : isRef a v = true) : v = some (some (.ref a)) := by
  unfold isRef at h
  split at h
  · rw [Nat.eq_of_beq_eq_true h]
  · cases h

theorem blt_of {z : String} (h : isBlt z v = true) : v = some (some (.builtin z)) := by
  unfold isBlt at h
  split at h
  · rw [of_decide_eq_true h]
  · cases h

theorem b_of {b : Bool} {v : Option Bool} (h : isB b v = true) : v = some b := by
  unfold isB at h
  split at h
  · rw [eq_of_beq h]
  · cases h

theorem exc_seen {D : Addr} (h : excSeen K D = true) : XK.ExcCls K D := by
  unfold excSeen at h
  simp only [Bool.and_eq_true] at h
  obtain ⟨⟨⟨⟨⟨⟨⟨h1, h2⟩, h3⟩, h4⟩, h5⟩, h6⟩, h7⟩, h8⟩ := h
  exact ⟨h1, blt_of h2, no_of h3, blt_of h4, blt_of h5, b_of h6, b_of h7, b_of h8⟩
noncomputable def clsSeen (K : Frag) (C : Addr) : Bool := plainGet K C Str.empty && hasDictIn K C && plainOver K C && isBlt "object.__setattr__" (findIn K (.ref C) "__setattr__")
end
theorem all_get {bs : List Bool} (h : bs.all id = true) {b : Bool} (i : Nat) (e : bs[i]? = some b) : b = true := List.all_eq_true.mp h b (List.mem_of_getElem? e)
theorem map_get {α β : Type} {l : List α} {f g : α → β} (h : l.map f = l.map g) {x : α} (i : Nat) (e : l[i]? = some x) : f x = g x := by
  have : (l.map f)[i]? = (l.map g)[i]? := by rw [h]
  rw [List.getElem?_map, List.getElem?_map, e] at this
  exact Option.some.inj this

noncomputable def FactsIn {α : Type} (facts : Frag → α) (good : α) (_ : World) (h : Heap) : Prop := ∃ K : Frag, K.In h ∧ facts K = good
theorem facts_of {α : Type} {facts : Frag → α} {good : α} {as : List Addr} (w : World) (s : Shared) (e : facts (fragAt as s.heap) = good) : FactsIn facts good w s.heap := ⟨_, frag_in as s.heap, e⟩
theorem facts_keep {α : Type} {facts : Frag → α} {good : α} (w : World) (h h' : Heap) (y : FactsIn facts good w h) (k : ∀ b o, h.get? b = some o → h'.get? b = some o) : FactsIn facts good w h' := by
  obtain ⟨K, X, e⟩ := y
  exact ⟨K, X.keeps k, e⟩
theorem walk_ex {q : Program} {loose : List Str} {XP : (Str → Option Value) → Heap → Prop} {α : Type} {facts : Frag → α} {good : α} {r : RowW} {d : DefRec} {kwd : List (Str × Expr)} {run : Value → List Value → Sem Value}
    (h : ∀ K : Frag, facts K = good → WalkO q loose XP (fun _ h => K.In h) r d kwd run) : WalkO q loose XP (FactsIn facts good) r d kwd run := by
  intro w s₀ s₁ mg mb G Y
  obtain ⟨K, X, e⟩ := Y
  exact h K e w s₀ s₁ mg mb G X
theorem def_get {q : Program} {n : Str} (h : (defOf q n).isSome = true) (k : ((defOf q n).map (·.2.isEmpty)) = some true) : defOf q n = some (((defOf q n).get h).1, []) := by
  obtain ⟨⟨d, kwd⟩, e⟩ := Option.isSome_iff_exists.mp h
  have e2 : (defOf q n).get h = (d, kwd) := Option.get_of_eq_some h e
  rw [e2, e]
  rw [e] at k
  have : kwd.isEmpty = true := Option.some.inj k
  rw [List.isEmpty_iff.mp this]
end L2
set_option Elab.async false
set_option linter.all false
set_option maxRecDepth 100000
namespace L2
open PySem PySem.Spec PyProof.Rows

structure ClsFn (K : PySem.W.Frag) (C : Addr) (m : Str) (f : Addr) : Prop where
  ga : PySem.W.specialIn K (.ref C) "__getattribute__" = some (some (.builtin "type.__getattribute__"))
  rd : PySem.W.readsIn K C (.type "type") = true
  at_ : PySem.W.findCls K (.ref C) (.type "type") m = some (.val (.ref f))
  kp : PySem.W.keepIn K (.ref f) = true
noncomputable def CalC (P : Program) (w : World) (K : PySem.W.Frag) (mg : Str → Option Value) (base : Heap) (CX : CXT) (k : Nat) (x m : Str) (ps : List Str) (sp : Sp) : Prop :=
  ∃ C f fd, mg x = some (.ref C) ∧ ClsFn K C m f ∧ Binds K fd ps [] ∧ FnOk P w K mg base CX k f fd ps sp
section
variable {X : Cx} {CX : CXT} {j k : Nat} {C : Addr} {ps : List Str} {sp : Sp} {x m : Str} {p apos pos : Pos} {o e : Expr} {es : List Expr} {ta : TE} {t : TA} {E : XK}
noncomputable def tCl (sp : Sp) (E : XK) (t : TA) : TE := fun σ H Q => t σ H fun vs H2 => sp vs H2 Q E
end
section
variable {P : Program} {w : World} {K : PySem.W.Frag} {mg : Str → Option Value} {base : Heap} {C : Addr} {x m qual : Str} {st : Stmt} {CX : CXT} {k : Nat} {ps : List Str} {sp : Sp}


end
end L2
set_option Elab.async false
set_option linter.all false
set_option maxRecDepth 100000
namespace L2
open PySem PySem.W PyProof.Rows

noncomputable def TpC (K : Frag) (x : Str) (zs : List Str) : Prop := ∃ a, nsIn K mainGlobals x = some (some (.ref a)) ∧ ∀ H, SqT K H a (zs.map V.str)

end L2

set_option Elab.async false
set_option linter.all false
set_option maxRecDepth 100000
set_option maxHeartbeats 4000000
namespace K28
open PySem PySem.NumText L2 Pg
seal PE PA PT PW PS PSs PG PGs PI PIf PO PK
section
variable {P : Program} {w : World} {K : PySem.W.Frag} {mg : Str → Option Value} {base : Heap} {f : Addr} {fd : FuncData} {d : Nat → Addr} {cR : Addr}
theorem ok_is_number (F : Fun K "is_number" "is_number" (top 18) f fd) (G : Glb mg) : FnOk P w K mg base CX0 1 f fd ["thing"] (sp_is_number K) := by
  refine F.ok (N := ["thing"]) ⟨rfl, rfl, rfl, by decide +kernel, rfl, by decide +kernel, by decide +kernel⟩ (fun vs H Q E h => ?_) (fun cdv A outer s H vs Q E hr h => ?_)
  · obtain ⟨v, rfl, _⟩ := h
    rfl
  · obtain ⟨v, rfl, h⟩ := h
    refine ⟨_, pss_one (ps_ret (pe_and (pe_callB call_isinst rfl G.isinstance boot_isinstance (pa_cons (pv 0) (pa_cons (pe_bltn (v := .ty "int") rfl G.int boot_int rfl) pa_nil)))
      (pe_one (pe_not (pe_callB call_isinst rfl G.isinstance boot_isinstance (pa_cons (pv 0) (pa_cons (pe_bltn (v := .ty "bool") rfl G.bool boot_bool rfl) pa_nil))))))), ?_⟩
    rcases h with ⟨z, rfl, q⟩ | ⟨⟨r, hr', ty, ne⟩, q⟩
    · refine ⟨_, rfl, _, _, _, _, true, rfl, rfl, .inl (.int z), rfl, true, rfl, iteT ?_⟩
      exact ⟨_, rfl, _, _, _, _, false, rfl, rfl, .inl (.int z), rfl, false, rfl, q⟩
    · obtain ⟨k1, k2, _⟩ := kit_tab (K := K) r hr'
      refine ⟨_, rfl, _, _, _, _, r.2.1, rfl, rfl, .inl ty, k1, r.2.1, rfl, ?_⟩
      cases e : r.2.1 with
      | false => exact iteF q
      | true =>
        refine iteT ⟨_, rfl, _, _, _, _, r.2.2.1, rfl, rfl, .inl ty, k2, r.2.2.1, rfl, ?_⟩
        have : r.2.2.1 = true := by
          simp only [numT, List.mem_cons, List.not_mem_nil, or_false] at hr'
          rcases hr' with rfl | rfl | rfl | rfl | rfl | rfl | rfl <;> first | rfl | (exact absurd rfl ne) | (cases e)
        rw [this]
        exact q
end
end K28
set_option Elab.async false
set_option linter.all false
set_option maxRecDepth 100000
set_option maxHeartbeats 4000000
namespace K28
open PySem PySem.NumText L2 Pg
seal PE PA PT PW PS PSs PG PGs PI PIf PO PK
section
variable {P : Program} {w : World} {K : PySem.W.Frag} {mg : Str → Option Value} {base : Heap} {f : Addr} {fd : FuncData} {d : Nat → Addr} {cR : Addr}
theorem ok_within (F : Fun K "is_number_within" "is_number_within" (top 19) f fd) (C1 : Cal P w K mg base CX0 1 "is_number" ["thing"] (sp_is_number K)) : FnOk P w K mg base CX0 2 f fd ["thing", "least", "most"] (sp_within K) := by
  refine F.ok (N := ["thing", "least", "most"]) ⟨rfl, rfl, rfl, by decide +kernel, rfl, by decide +kernel, by decide +kernel⟩ (fun vs H Q E h => ?_) (fun cdv A outer s H vs Q E hr h => ?_)
  · obtain ⟨v, a, b, rfl, _⟩ := h
    rfl
  · obtain ⟨v, a, b, rfl, h⟩ := h
    refine ⟨_, pss_one (ps_ret (pe_and (pe_cal C1 hr (by decide) pass0 (pa_cons (pv 0) pa_nil)) (pe_and (pe_cmpR op_le (pv 1) (pv 0) (nomark _)) (pe_one (pe_cmpR op_le (pv 0) (pv 2) (nomark _)))))), ?_⟩
    rcases h with ⟨z, rfl, q⟩ | ⟨nn, q⟩
    · refine ⟨_, rfl, _, rfl, .inl ⟨z, rfl, true, rfl, iteT ⟨_, rfl, _, rfl, _, _, rfl, rfl, _, rfl, ?_⟩⟩⟩
      refine ite2 (fun e => ⟨_, rfl, _, rfl, _, _, rfl, rfl, ?_⟩) (fun e => ?_)
      · have e1 : a ≤ z := of_decide_eq_true e
        show Q (.bl (decide (z ≤ b))) H
        rw [show decide (z ≤ b) = decide (a ≤ z ∧ z ≤ b) by simp [e1]]
        exact q
      · have e1 : ¬ a ≤ z := fun c => e (decide_eq_true c)
        show Q (.bl false) H
        rw [show false = decide (a ≤ z ∧ z ≤ b) by simp [e1]]
        exact q
    · exact ⟨_, rfl, _, rfl, .inr ⟨nn, false, rfl, iteF q⟩⟩
end
end K28
set_option Elab.async false
set_option linter.all false
set_option maxRecDepth 100000
namespace Pg
open PySem PySem.NumText L2

noncomputable def numS (z : Int) : Str := toString z
noncomputable def dg (n : Nat) : List Nat := (Nat.toDigits 10 n).map Char.toNat
theorem numS_codes (n : Nat) : (numS (n : Nat)).cps.toList = dg n := PySem.W.KIN.signs_num n
theorem dg_digits (n : Nat) : AllDigits (dg n) := by
  intro c hc
  obtain ⟨ch, hch, e⟩ := List.mem_map.mp hc
  have r := PyProof.Rows.digit_range (Nat.isDigit_of_mem_toDigits (by decide) (by decide) hch)
  rw [← e]
  exact r
theorem dg_len_pos (n : Nat) : 1 ≤ (dg n).length := by unfold dg; rw [List.length_map]; exact PySem.toDigits_len_ge 10 n
theorem dg_len_le {k n : Nat} (hk : 1 ≤ k) (hn : n < 10 ^ k) : (dg n).length ≤ k := by unfold dg; rw [List.length_map]; exact PySem.toDigits_len_pow (by decide) hk hn
theorem str_eq {a b : Str} (h : a.cps.toList = b.cps.toList) : a = b := by
  obtain ⟨a⟩ := a
  obtain ⟨b⟩ := b
  have : a = b := Array.toList_inj.mp h
  rw [this]

noncomputable def padZ (k : Nat) (l : List Nat) : List Nat := List.replicate (k - l.length) 48 ++ l
theorem padZ_len {k : Nat} {l : List Nat} (h : l.length ≤ k) : (padZ k l).length = k := by unfold padZ; rw [List.length_append, List.length_replicate]; omega
theorem zfill_codes {z : Str} {k : Nat} (h : AllDigits z.cps.toList) (hz : z.cps.toList ≠ []) : (Txt.zfill z (k : Nat)).cps.toList = padZ k z.cps.toList := by
  have hl : z.length = z.cps.toList.length := by show z.cps.size = _; simp
  unfold Txt.zfill padZ
  by_cases hk : ((k : Nat) : Int) ≤ z.length
  · rw [if_pos hk, show k - z.cps.toList.length = 0 by omega]
    rfl
  · rw [if_neg hk]
    have h0 : 0 < z.cps.size := by
      cases e : z.cps.toList with
      | nil => exact absurd e hz
      | cons c r =>
        have := congrArg List.length e
        simp at this
        omega
    have hc : z.cps[0]? = some z.cps[0] := Array.getElem?_eq_getElem h0
    have hd := h z.cps[0] (by simp)
    have e : PySem.zfilled z (((k : Nat) : Int).toNat - z.length) = Builtin.Str.padded z (((k : Nat) : Int).toNat - z.length) 0 48 := by
      unfold PySem.zfilled
      rw [hc]
      split
      · rename_i e; have := Option.some.inj e; omega
      · rename_i e; have := Option.some.inj e; omega
      · rfl
    rw [e]
    unfold Builtin.Str.padded
    simp [hl]
theorem zfill_num {n k : Nat} : (Txt.zfill (numS (n : Nat)) (k : Nat)).cps.toList = padZ k (dg n) := by
  have e := numS_codes n
  rw [zfill_codes (by rw [e]; exact dg_digits n) (by
    rw [e]; intro z
    have := dg_len_pos n
    rw [z] at this; simp at this), e]
theorem log_small {z : Int} (h0 : 0 ≤ z) (h1 : z < 2 ^ 64) : z.natAbs.log2 < 1920 := by
  by_cases h : z.natAbs = 0
  · rw [h]; decide
  · exact Nat.lt_trans ((Nat.log2_lt h).mpr (show z.natAbs < 2 ^ 64 by omega)) (by decide)
theorem app_codes (a b : Str) : (a ++ b).cps.toList = a.cps.toList ++ b.cps.toList := by
  show (a.cps ++ b.cps).toList = _
  simp

theorem last_codes {z : Str} {k : Nat} (hk : 0 < k) (h : k ≤ z.cps.toList.length) : (Txt.slice z (some (-(k : Nat))) none).cps.toList = z.cps.toList.drop (z.cps.toList.length - k) := by
  rw [slice_codes]
  unfold cutL HT.sIx
  simp only
  rw [if_pos (Int.neg_neg_of_pos (Int.natCast_pos.mpr hk)), Int.add_comm, ← Int.sub_eq_add_neg, Int.toNat_sub, List.take_of_length_le (Nat.le_of_eq List.length_drop)]
theorem head_codes {z : Str} {k : Nat} (h : k ≤ z.cps.toList.length) : (Txt.slice z none (some (k : Nat))).cps.toList = z.cps.toList.take k := by
  rw [slice_codes]
  unfold cutL HT.sIx
  simp only [List.drop_zero, Nat.sub_zero]
  rw [if_neg (Int.not_lt.mpr (Int.natCast_nonneg k)), Int.toNat_natCast, Nat.min_eq_left h]
theorem tail_codes {z : Str} {k : Nat} (h : k ≤ z.cps.toList.length) : (Txt.slice z (some (k : Nat)) none).cps.toList = z.cps.toList.drop k := by
  rw [slice_codes]
  unfold cutL HT.sIx
  simp only
  rw [if_neg (Int.not_lt.mpr (Int.natCast_nonneg k)), Int.toNat_natCast, Nat.min_eq_left h, List.take_of_length_le (Nat.le_of_eq List.length_drop)]
theorem mY0 {z : Int} (h : 0 ≤ z) : 0 ≤ z / 12 := Int.ediv_nonneg h (by decide)
theorem mY1 {z : Int} (h : z ≤ 119999) : z / 12 ≤ 9999 := by omega
theorem mP0 (z : Int) : 0 ≤ z % 12 + 1 := Int.add_nonneg (Int.emod_nonneg z (by decide)) (by decide)
theorem mP1 (z : Int) : z % 12 + 1 ≤ 99 := by omega
theorem mB {y : Int} (h : y ≤ 9999) : y < 2 ^ 64 := Int.lt_of_le_of_lt h (by decide)
theorem mBP (z : Int) : z % 12 + 1 < 2 ^ 64 := Int.lt_of_le_of_lt (mP1 z) (by decide)
theorem mL4 {y : Int} (h : y ≤ 9999) : y.toNat < 10 ^ 4 := by omega
theorem mL2 {y : Int} (h : y ≤ 99) : y.toNat < 10 ^ 2 := by omega
theorem len_codes (z : Str) : z.length = z.cps.toList.length := by show z.cps.size = _; simp
theorem app_len (a b : Str) : (a ++ b).length = a.length + b.length := by rw [len_codes, app_codes, List.length_append, ← len_codes, ← len_codes]
theorem app_le {a b : Str} {m n : Nat} (h1 : a.length ≤ m) (h2 : b.length ≤ n) : (a ++ b).length ≤ m + n := by rw [app_len]; exact Nat.add_le_add h1 h2
theorem fitS {n m : Nat} (h : n ≤ m) (k : Nat.ble m 1000000 = true) : n ≤ sizeLine := Nat.le_trans h (Nat.le_trans (Nat.le_of_ble_eq_true k) (by rw [sizeLine_eq]; decide))
theorem fitA {a b m n : Nat} (h1 : a ≤ m) (h2 : b ≤ n) (k : Nat.ble (m + n) 1000000 = true) : a + b ≤ sizeLine := fitS (Nat.add_le_add h1 h2) k
theorem leB {n m k : Nat} (h : n ≤ m) (q : Nat.ble m k = true) : n ≤ k := Nat.le_trans h (Nat.le_of_ble_eq_true q)

noncomputable def isF (c : Nat) : Bool := decide (48 ≤ c) && decide (c ≤ 57)
noncomputable def figL (l : List Nat) : Bool := !l.isEmpty && l.all isF
theorem figL_digits {l : List Nat} (h : figL l = true) : AllDigits l ∧ l ≠ [] := by
  unfold figL at h
  rw [Bool.and_eq_true] at h
  refine ⟨fun c hc => ?_, fun e => by rw [e] at h; simp at h⟩
  have := List.all_eq_true.mp h.2 c hc
  unfold isF at this
  rw [Bool.and_eq_true] at this
  exact ⟨of_decide_eq_true this.1, of_decide_eq_true this.2⟩
theorem fig_in (c : Nat) : (!(Builtin.Str.occurrences ("0123456789" : Str) ⟨#[c]⟩ 0 ("0123456789" : Str).length 1).isEmpty) = isF c := by
  rw [sign_in]
  have e : ("0123456789" : Str).cps.toList = [48, 49, 50, 51, 52, 53, 54, 55, 56, 57] := by decide +kernel
  rw [e]
  by_cases h : c < 58
  · have all : ∀ c < 58, [48, 49, 50, 51, 52, 53, 54, 55, 56, 57].contains c = isF c := by decide +kernel
    exact all c h
  · have e1 : isF c = false := by
      unfold isF
      rw [decide_eq_false (p := c ≤ 57) (fun z => h (Nat.lt_succ_of_le z)), Bool.and_false]
    rw [e1, Bool.eq_false_iff]
    intro z
    have all : ∀ x ∈ [48, 49, 50, 51, 52, 53, 54, 55, 56, 57], x < 58 := by decide +kernel
    exact h (all c (List.contains_iff_mem.mp z))
noncomputable def sp_figs : Sp := fun vs H Q _ => ∃ z, vs = [.str z] ∧ z.length ≤ 100000 ∧ ∀ H', Same H H' → Q (.bl (figL z.cps.toList)) H'
noncomputable def mtB (z : Str) : Bool := decide (z.cps.toList.length = 7) && (figL (z.cps.toList.take 4) && (decide (z.cps.toList[4]? = some 45) && figL (z.cps.toList.drop 5)))
noncomputable def sp_is_month_text (K : PySem.W.Frag) : Sp := fun vs H Q _ => ∃ v, vs = [v] ∧ ((NoStr K H v ∧ Q (.bl false) H) ∨ ∃ z, v = .str z ∧ z.length ≤ 100000 ∧ ∀ H', Same H H' → Q (.bl (mtB z)) H')

noncomputable def readM (z : Str) : Option Int := if mtB z = true ∧ 1 ≤ digitsVal (z.cps.toList.drop 5) ∧ digitsVal (z.cps.toList.drop 5) ≤ 12 then some ((digitsVal (z.cps.toList.take 4) : Nat) * 12 + (digitsVal (z.cps.toList.drop 5) : Nat) - 1) else none
noncomputable def sp_read_month (K : PySem.W.Frag) (cT : Addr) : Sp := fun vs H Q E => ∃ v, vs = [v] ∧ ((NoStr K H v ∧ E (.ref cT) none H) ∨ ∃ z, v = .str z ∧ z.length ≤ 100000 ∧ ∀ H', Same H H' → (∀ m, readM z = some m → Q (.int m) H') ∧ (readM z = none → E (.ref cT) none H'))
noncomputable def yearS (y : Int) : Str := Txt.zfill (numS y) 4
noncomputable def placeS (p : Int) : Str := Txt.zfill (numS p) 2
noncomputable def monthS (m : Int) : Str := yearS (m / 12) ++ ("-" : Str) ++ placeS (m % 12 + 1)
noncomputable def sp_year_text : Sp := fun vs H Q _ => ∃ z, vs = [.int z] ∧ 0 ≤ z ∧ z ≤ 9999 ∧ Q (.str (yearS z)) H
noncomputable def sp_month_text (K : PySem.W.Frag) (c : Addr) : Sp := fun vs H Q E => ∃ v, vs = [v] ∧ ((∃ z, v = .int z ∧ 0 ≤ z ∧ z ≤ 119999 ∧ Q (.str (monthS z)) H) ∨ (NotTo K H 119999 v ∧ E (.ref c) none H))
theorem yearS_codes {y : Int} (h0 : 0 ≤ y) : (yearS y).cps.toList = padZ 4 (dg y.toNat) := by
  obtain ⟨n, rfl⟩ := Int.eq_ofNat_of_zero_le h0
  exact zfill_num (n := n) (k := 4)
theorem placeS_codes {p : Int} (h0 : 0 ≤ p) : (placeS p).cps.toList = padZ 2 (dg p.toNat) := by
  obtain ⟨n, rfl⟩ := Int.eq_ofNat_of_zero_le h0
  exact zfill_num (n := n) (k := 2)
theorem yearS_len {y : Int} (h0 : 0 ≤ y) (h1 : y ≤ 9999) : (yearS y).length = 4 := by rw [len_codes, yearS_codes h0, padZ_len (dg_len_le (by decide) (by omega))]
theorem placeS_len {p : Int} (h0 : 0 ≤ p) (h1 : p ≤ 99) : (placeS p).length = 2 := by rw [len_codes, placeS_codes h0, padZ_len (dg_len_le (by decide) (by omega))]
theorem dash_len : ("-" : Str).length = 1 := by decide +kernel
theorem dash_eq (c : Nat) : decide (V.str ⟨#[c]⟩ = V.str ("-" : Str)) = decide (c = 45) := by
  rw [dStrB]
  have e : ("-" : Str) = ⟨#[45]⟩ := by decide +kernel
  rw [e]
  by_cases h : c = 45
  · subst h; simp
  · rw [decide_eq_false h, decide_eq_false]
    intro z
    exact h (by simpa using z)
end Pg
set_option Elab.async false
set_option linter.all false
set_option maxRecDepth 100000
namespace L2
open PySem PySem.Spec PyProof.Rows

noncomputable abbrev TJ := St → Hp → (List Str → Hp → Prop) → Prop
noncomputable def joinS : List Str → Str
  | [] => Str.empty
  | z :: r => z ++ joinS r
noncomputable def tjNil : TJ := fun _ H Q => Q [] H
noncomputable def tjCons (te : TE) (t : TJ) : TJ := fun σ H Q => te σ H fun v H1 => ∃ z, v = .str z ∧ z.length ≤ 100000 ∧ t σ H1 fun zs H2 => Q (z :: zs) H2

noncomputable def PJ (X : Cx) (es : List Expr) (t : TJ) : Prop := ∀ (pins : List (Addr × Obj)) (s : Shared) (σ : St) (H : Hp) (out : Str) (Q : VK), Inv X pins σ H s → out.length + 100000 * es.length ≤ sizeLine → (t σ H fun zs H' => Q (.str (out ++ joinS zs)) H') →
  wpAny (model X.prog X.w) X.A (joinParts out (evalEach es X.env)) (EP X pins σ Q) X.xe s
theorem Str.app_nil (a : Str) : a ++ Str.empty = a := by
  obtain ⟨a⟩ := a
  show Str.mk (a ++ #[]) = _
  simp
theorem Str.app_assoc (a b c : Str) : a ++ (b ++ c) = a ++ b ++ c := by
  obtain ⟨a⟩ := a
  obtain ⟨b⟩ := b
  obtain ⟨c⟩ := c
  show Str.mk (a ++ (b ++ c)) = Str.mk (a ++ b ++ c)
  rw [Array.append_assoc]
theorem Str.app_length (a b : Str) : (a ++ b).length = a.length + b.length := by
  show (a.cps ++ b.cps).size = _
  rw [Array.size_append]
  rfl
section
variable {X : Cx} {e : Expr} {es : List Expr} {te : TE} {t : TJ} {pos : Pos}
theorem pj_nil : PJ X [] tjNil := fun pins s σ H out Q I hl h => joinParts_nil (by
  have h' : Q (.str (out ++ Str.empty)) H := h
  rw [Str.app_nil] at h'
  exact ⟨.str out, H, I.tok _, ⟨_, rfl⟩, h'⟩) (by omega)
theorem pj_str {x j} (ht : PJ X es t) : PJ X (.Constant (.str x) j pos :: es) (tjCons (tC (.str x)) t) := by
  intro pins s σ H out Q I hl h
  rw [List.length_cons] at hl
  show wpAny _ _ (joinParts out (eval (.Constant (.str x) j pos) X.env :: evalEach es X.env)) _ _ _
  obtain ⟨z, e, hz, h⟩ := h
  cases e
  have hx : (out ++ x).length ≤ sizeLine := by rw [Str.app_length]; omega
  refine joinParts_cons (Calls.Constant_str ⟨hx, ?_⟩)
  refine ht pins _ σ H (out ++ x) Q (I.tok _) (by rw [Str.app_length]; omega) ?_
  have e2 : ∀ zs, out ++ joinS (x :: zs) = out ++ x ++ joinS zs := fun zs => Str.app_assoc _ _ _
  simpa only [e2] using h
theorem pj_fmt (he : PE X e te) (ht : PJ X es t) : PJ X (.FormattedValue e (-1) none pos :: es) (tjCons te t) := by
  intro pins s σ H out Q I hl h
  rw [List.length_cons] at hl
  show wpAny _ _ (joinParts out (eval (.FormattedValue e (-1) none pos) X.env :: evalEach es X.env)) _ _ _
  refine joinParts_cons (FormattedValue_plain (thn (he pins s σ H _ I h) fun v s1 ⟨x, H1, I1, r1, z, e1, hz, q⟩ => ?_))
  subst e1
  obtain ⟨tk, rfl⟩ := r1
  have hx : (out ++ z).length ≤ sizeLine := by rw [Str.app_length]; omega
  refine formatField_str (fun t' k => ⟨hx, ?_⟩) (by omega)
  refine ht pins _ σ H1 (out ++ z) Q (I1.tok _) (by rw [Str.app_length]; omega) ?_
  have e2 : ∀ zs, out ++ joinS (z :: zs) = out ++ z ++ joinS zs := fun zs => Str.app_assoc _ _ _
  simpa only [e2] using q
noncomputable def tFStr (t : TJ) : TE := fun σ H Q => t σ H fun zs H' => Q (.str (joinS zs)) H'
theorem pe_fstr {e1 e2 : Expr} (h : PJ X (e1 :: e2 :: es) t) (hl : Nat.ble (e1 :: e2 :: es).length 100 = true := by rfl) : PE X (.JoinedStr (e1 :: e2 :: es) pos) (tFStr t) := by
  intro pins s σ H Q I hq
  refine JoinedStr_many ?_
  have hl' := Nat.le_of_ble_eq_true hl
  refine h pins s σ H Str.empty Q I ?_ ?_
  · have : (Str.empty).length = 0 := rfl
    rw [this, sizeLine_eq]
    omega
  · have e0 : ∀ zs, Str.empty ++ joinS zs = joinS zs := fun zs => by
      obtain ⟨c⟩ := joinS zs
      show Str.mk (#[] ++ c) = _
      simp
    have hq' : t σ H fun zs H' => Q (.str (joinS zs)) H' := hq
    simpa only [e0] using hq'
end
end L2
set_option Elab.async false
set_option linter.all false
set_option maxRecDepth 100000
namespace Pg
open PySem L2

theorem dg_step {n : Nat} (h : 10 ≤ n) : dg n = dg (n / 10) ++ [48 + n % 10] := by
  unfold dg
  rw [Nat.toDigits_of_base_le (by decide) h, List.map_append, List.map_singleton]
  congr 2
  have : n % 10 < 10 := Nat.mod_lt _ (by decide)
  generalize n % 10 = d at this
  match d, this with
  | 0, _ => rfl
  | 1, _ => rfl
  | 2, _ => rfl
  | 3, _ => rfl
  | 4, _ => rfl
  | 5, _ => rfl
  | 6, _ => rfl
  | 7, _ => rfl
  | 8, _ => rfl
  | 9, _ => rfl
  | d + 10, h => omega
theorem dg_one {n : Nat} (h : n < 10) : dg n = [48 + n] := by
  match n, h with
  | 0, _ => rfl
  | 1, _ => rfl
  | 2, _ => rfl
  | 3, _ => rfl
  | 4, _ => rfl
  | 5, _ => rfl
  | 6, _ => rfl
  | 7, _ => rfl
  | 8, _ => rfl
  | 9, _ => rfl
  | d + 10, h => omega
theorem pad2_dg {n : Nat} (h : n < 100) : padZ 2 (dg n) = [48 + n / 10, 48 + n % 10] := by
  unfold padZ
  by_cases h1 : n < 10
  · rw [dg_one h1, Nat.div_eq_of_lt h1, Nat.mod_eq_of_lt h1]
    rfl
  · rw [dg_step (by omega), dg_one (by omega)]
    rfl

theorem pad3_dg (n : Nat) : padZ 3 (dg n) = dg (n / 100) ++ padZ 2 (dg (n % 100)) := by
  rw [pad2_dg (Nat.mod_lt _ (by decide))]
  by_cases h1 : n < 100
  · rw [Nat.div_eq_of_lt h1, Nat.mod_eq_of_lt h1, ← pad2_dg h1, dg_one (n := 0) (by decide)]
    have h2 := dg_len_le (k := 2) (n := n) (by decide) h1
    have h3 := dg_len_pos n
    unfold padZ
    have e : 3 - (dg n).length = 1 + (2 - (dg n).length) := by omega
    rw [e, ← List.replicate_append_replicate, List.append_assoc]
    rfl
  · have e1 : n % 100 / 10 = n / 10 % 10 := by omega
    have e2 : n % 100 % 10 = n % 10 := by omega
    have e3 : n / 10 / 10 = n / 100 := by omega
    rw [dg_step (n := n) (by omega), dg_step (n := n / 10) (by omega), e1, e2, e3]
    have h3 := dg_len_pos (n / 100)
    unfold padZ
    rw [show 3 - (dg (n / 100) ++ [48 + n / 10 % 10] ++ [48 + n % 10]).length = 0 by rw [List.length_append, List.length_append, List.length_singleton, List.length_singleton]; omega, List.append_assoc]
    rfl
noncomputable def absI (a : Int) : Int := if a < 0 then -a else a
theorem absI_nn (a : Int) : 0 ≤ absI a := by unfold absI; split <;> omega
noncomputable def signS (a : Int) : Str := if a < 0 then "-" else ""
noncomputable def toldS (a : Int) : Str := joinS [signS a, numS (absI a / 100), ".", Txt.zfill (numS (absI a % 100)) 2]
theorem empty_codes : (Str.empty).cps.toList = [] := rfl
theorem told_codes (a : Int) : (toldS a).cps.toList = (signS a).cps.toList ++ (dg ((absI a).toNat / 100) ++ ([46] ++ padZ 2 (dg ((absI a).toNat % 100)))) := by
  obtain ⟨n, hn⟩ := Int.eq_ofNat_of_zero_le (absI_nn a)
  have e1 : absI a / 100 = ((n / 100 : Nat) : Int) := by rw [hn]; rfl
  have e2 : absI a % 100 = ((n % 100 : Nat) : Int) := by rw [hn]; rfl
  unfold toldS joinS joinS joinS joinS joinS
  rw [app_codes, app_codes, app_codes, app_codes, e1, e2, numS_codes, empty_codes, List.append_nil, hn, Int.toNat_natCast]
  have := zfill_num (n := n % 100) (k := 2)
  rw [show (Txt.zfill (numS ((n % 100 : Nat) : Int)) 2).cps.toList = padZ 2 (dg (n % 100)) from this, show (("." : Str)).cps.toList = [46] by decide +kernel]
theorem sign_len (a : Int) : (signS a).length ≤ 1 := by
  unfold signS
  split
  · rw [show ("-" : Str).length = 1 by decide +kernel]
    exact Nat.le_refl _
  · rw [show ("" : Str).length = 0 by decide +kernel]
    exact Nat.zero_le _
theorem cut_end {z : Str} {k : Nat} (hk : 0 < k) (h : k ≤ z.cps.toList.length := by omega) : (Txt.slice z none (some (-(k : Nat)))).cps.toList = z.cps.toList.take (z.cps.toList.length - k) := by
  rw [slice_codes]
  unfold cutL
  have e : HT.sIx z.cps.toList.length z.cps.toList.length (some (-(k : Nat) : Int)) = z.cps.toList.length - k := by
    unfold HT.sIx
    simp only
    rw [if_pos (Int.neg_neg_of_pos (Int.natCast_pos.mpr hk)), Int.add_comm, ← Int.sub_eq_add_neg, Int.toNat_sub]
  rw [e]
  rfl

theorem told_law {a : Int} {z : Str} (h : z.cps.toList = padZ 3 (dg (absI a).toNat)) : timesS "-" (if decide (a < 0) = true then 1 else 0) ++ Txt.slice z none (some (-2)) ++ "." ++ Txt.slice z (some (-2)) none = toldS a := by
  refine str_eq ?_
  have hl : 3 ≤ z.cps.toList.length := by
    rw [h, pad3_dg, List.length_append, pad2_dg (Nat.mod_lt _ (by decide))]
    have := dg_len_pos ((absI a).toNat / 100)
    show 3 ≤ _ + 2
    omega
  have e1 : (Txt.slice z (some (-2)) none).cps.toList = padZ 2 (dg ((absI a).toNat % 100)) := by
    have := last_codes (z := z) (k := 2) (by decide) (by omega)
    refine this.trans ?_
    have e : (padZ 2 (dg ((absI a).toNat % 100))).length = 2 := by rw [pad2_dg (Nat.mod_lt _ (by decide))]; rfl
    rw [h, pad3_dg, List.length_append, e, Nat.add_sub_cancel, List.drop_left]
  have e2 : (Txt.slice z none (some (-2))).cps.toList = dg ((absI a).toNat / 100) := by
    have e : (padZ 2 (dg ((absI a).toNat % 100))).length = 2 := by rw [pad2_dg (Nat.mod_lt _ (by decide))]; rfl
    refine (cut_end (z := z) (k := 2) (by decide)).trans ?_
    rw [h, pad3_dg, List.length_append, e, Nat.add_sub_cancel, List.take_left]
  have e3 : (timesS "-" (if decide (a < 0) = true then 1 else 0)).cps.toList = (signS a).cps.toList := by
    unfold timesS signS
    by_cases c : a < 0
    · rw [if_pos c, if_pos (decide_eq_true c)]
      decide +kernel
    · rw [if_neg c, if_neg (fun q => c (of_decide_eq_true q))]
      decide +kernel
  rw [app_codes, app_codes, app_codes, e1, e2, e3, told_codes, show (("." : Str)).cps.toList = [46] by decide +kernel, List.append_assoc, List.append_assoc]

noncomputable def stripR (l : List Nat) : List Nat := l.take (l.length - (l.reverse.takeWhile fun c => decide (c = 32)).length)
theorem join_one (sep z : Str) : Txt.join sep [z] = z := rfl
theorem join_snoc (sep z : Str) {zs : List Str} (h : zs ≠ []) : Txt.join sep (zs ++ [z]) = Txt.join sep zs ++ sep ++ z := by
  cases zs with
  | nil => exact absurd rfl h
  | cons a r =>
    unfold Txt.join Builtin.Str.glued
    show Str.mk ((r ++ [z]).foldl _ _) = Str.mk (_ ++ _ ++ _)
    rw [List.foldl_append]
    rfl
theorem numS_len {z : Int} {k : Nat} (h0 : 0 ≤ z) (hk : 1 ≤ k) (h1 : z.toNat < 10 ^ k) : (numS z).length ≤ k := by
  obtain ⟨n, rfl⟩ := Int.eq_ofNat_of_zero_le h0
  rw [len_codes, numS_codes]
  exact dg_len_le hk (by simpa using h1)
end Pg
set_option Elab.async false
set_option linter.all false
set_option maxRecDepth 100000
namespace L2
open PySem PySem.Spec PyProof.Rows

structure Walk (J : It) (H : Hp) (xs : List V) : Prop where
  go : ∀ i x H', xs[i]? = some x → Same H H' → J.go i H' ∧ ∀ y H'', J.yld i H' y H'' → H'' = H' ∧ y = x
  stop : ∀ H', Same H H' → J.stop xs.length H'
theorem walk_tup {K : PySem.W.Frag} {a : Addr} {xs : List V} {H : Hp} (h : SqT K H a xs) : Walk (Itt K a) H xs :=
  ⟨fun i x H' e s => ⟨⟨xs, x, s.tup h, e⟩, fun y H'' ⟨e1, e2⟩ => ⟨e1, Option.some.inj ((e2 xs (s.tup h)).symm.trans e)⟩⟩, fun H' s => ⟨xs, s.tup h, Nat.le_refl _⟩⟩
theorem walk_rng {lo : Int} {n : Nat} {H : Hp} : Walk (Itr lo n) H ((List.range n).map fun k => V.int (lo + (k : Nat))) := by
  refine ⟨fun i x H' e s => ?_, fun H' s => by rw [List.length_map, List.length_range]; exact Nat.le_refl n⟩
  rw [List.getElem?_map] at e
  obtain ⟨k, hk, rfl⟩ := Option.map_eq_some_iff.mp e
  obtain ⟨h1, h2⟩ := List.getElem?_eq_some_iff.mp hk
  simp at h1 h2
  exact ⟨by show i < n; omega, fun y H'' ⟨e1, e2⟩ => ⟨e1, by rw [e2, ← h2]⟩⟩
theorem walk_str {z : Str} {H : Hp} : Walk (Its z) H (z.cps.toList.map sgn) := by
  refine ⟨fun i x H' e s => ?_, fun H' s => by rw [List.length_map, Array.length_toList]; exact Nat.le_refl _⟩
  rw [List.getElem?_map] at e
  obtain ⟨c, hc, rfl⟩ := Option.map_eq_some_iff.mp e
  have hc' : z.cps[i]? = some c := by simpa using hc
  exact ⟨(Array.getElem?_eq_some_iff.mp hc').1, fun y H'' ⟨e1, c', h1, e2⟩ => ⟨e1, by rw [e2, Option.some.inj (h1.symm.trans hc')]; rfl⟩⟩
section
variable {J : It} {D : Addr} {g : TG} {tt : TT} {te : TE} {fin : List V → Hp → Prop} {σ : St} {H : Hp} {xs : List V}
theorem comp_walk (W : Walk J H xs) (hD : H D = none) (Good : Nat → List V → Hp → Prop) (Sg : St → Prop) (s0 : Sg σ) (g0 : Good 0 [] (upd H D (.lst [])))
    (hs : ∀ i x ys σ' H', xs[i]? = some x → Sg σ' → Same H H' → H' D = some (.lst ys) → ys.length ≤ i → Good i ys H' → cTurn D g tt te x ys (fun ys' σ2 H2 => Sg σ2 ∧ Same H H2 ∧ H2 D = some (.lst ys') ∧ ys'.length ≤ i + 1 ∧ Good (i + 1) ys' H2) σ' H')
    (hf : ∀ ys H', Same H H' → H' D = some (.lst ys) → ys.length ≤ xs.length → Good xs.length ys H' → fin ys H') : tTurnsI J D g tt te fin σ (upd H D (.lst [])) := by
  refine ⟨fun i m ys σ' H' => m = xs.length - i ∧ i ≤ xs.length ∧ Sg σ' ∧ Same H H' ∧ H' D = some (.lst ys) ∧ ys.length ≤ i ∧ Good i ys H', ⟨xs.length, by simp, Nat.zero_le _, s0, Same.upd hD, upd_same, Nat.le_refl _, g0⟩, fun i m ys σ H ⟨_, _, _, _, h, _⟩ => h, ?_⟩
  rintro i m ys σ' H' ⟨rfl, hi, h1, h2, h3, h4, h5⟩
  by_cases hlt : i < xs.length
  · have hx : xs[i]? = some xs[i] := List.getElem?_eq_getElem hlt
    obtain ⟨w1, w2⟩ := W.go i _ H' hx h2
    refine .inr ⟨w1, fun ys' σ2 H2 => Sg σ2 ∧ Same H H2 ∧ H2 D = some (.lst ys') ∧ ys'.length ≤ i + 1 ∧ Good (i + 1) ys' H2, fun ys' σ2 H2 p => ⟨xs.length - (i + 1), by omega, rfl, hlt, p⟩, fun y H'' hy => ?_⟩
    obtain ⟨e1, e2⟩ := w2 y H'' hy
    subst e1 e2
    exact hs i _ ys σ' _ hx h1 h2 h3 h4 h5
  · have e : i = xs.length := by omega
    subst e
    exact .inl ⟨W.stop H' h2, hf ys H' h2 h3 h4 h5⟩

theorem comp_fm (W : Walk J H xs) (hD : H D = none) (hz : xs.length < sizeLine) (p : V → Bool) (φ : V → V)
    (ht : ∀ x ∈ xs, ∀ H' R, Same H H' → R (p x) H' → tt (σ.set 0 (some x)) H' R)
    (he : ∀ x ∈ xs, p x = true → ∀ H' R, Same H H' → R (φ x) H' → te (σ.set 0 (some x)) H' R)
    (hf : fin ((xs.filter p).map φ) (upd H D (.lst ((xs.filter p).map φ)))) : tTurnsI J D (gName 0) tt te fin σ (upd H D (.lst [])) := by
  refine comp_walk W hD (fun i ys H' => ys = ((xs.take i).filter p).map φ ∧ H' = upd H D (.lst ys)) (fun σ' => ∀ x, σ'.set 0 (some x) = σ.set 0 (some x)) (fun _ => rfl) ⟨rfl, rfl⟩ ?_ ?_
  · rintro i x ys σ' H' hx hσ s hd hl ⟨rfl, rfl⟩
    have hi : i < xs.length := (List.getElem?_eq_some_iff.mp hx).1
    have hm := List.mem_of_getElem? hx
    have tk : xs.take (i + 1) = xs.take i ++ [x] := by rw [List.take_add_one, hx]; rfl
    have hσ2 : ∀ y, (σ'.set 0 (some x)).set 0 (some y) = σ.set 0 (some y) := fun y => by rw [List.set_set]; exact hσ y
    show tt (σ'.set 0 (some x)) _ _
    rw [hσ x]
    refine ht x hm _ _ s ?_
    rw [hσ x] at hσ2
    cases hp : p x with
    | true =>
      refine iteT (he x hm hp _ _ s ⟨hd, by omega, hσ2, ?_, upd_same, ?_, ?_, upd_upd⟩)
      · rw [upd_upd]; exact Same.upd hD
      · rw [List.length_append, List.length_singleton]; omega
      · rw [tk, List.filter_append, List.map_append]; simp [hp]
    | false =>
      refine iteF ⟨hσ2, s, hd, by omega, ?_, rfl⟩
      rw [tk, List.filter_append, List.map_append]; simp [hp]
  · rintro ys H' s hd hl ⟨rfl, rfl⟩
    rw [List.take_length]
    exact hf
end
end L2
set_option Elab.async false
set_option linter.all false
namespace L2

noncomputable def rkT (key : Nat → List Nat) (n i : Nat) : Int := ((List.range n).countP fun j => decide (key j < key i) : Nat)
end L2
set_option Elab.async false
set_option linter.all false
set_option maxRecDepth 100000
set_option maxHeartbeats 1000000
namespace SS
end SS
namespace L2
open PySem PySem.Spec PyProof.Rows PySem.W

section
variable {prog : Program} {w : World} {A : Around} {s : Shared}
end
section
variable {X : Cx} {A : Around} {E : Value → Shared → Prop} {pins : List (Addr × Obj)} {σ : St} {H : Hp} {s : Shared} {a : Addr} {its : List Value} {ts : List V} {nm : Nat → Str} {am : Nat → Int} {P : PySem.Fin → Shared → Prop}

structure PairAt (H : Hp) (ts : List V) (nm : Nat → Str) (am : Nat → Int) : Prop where
  at_ : ∀ i, i < ts.length → ∃ t, ts[i]? = some (.ref t) ∧ H t = some (.tup [.str (nm i), .int (am i)])
  one : ∀ i j, i < ts.length → j < ts.length → nm i = nm j → am i = am j
noncomputable abbrev rkP (nm : Nat → Str) (n : Nat) : Nat → Int := rkT (fun i => (nm i).cps.toList) n
noncomputable def rSortP (K : PySem.W.Frag) : List V → Hp → VK → Prop := fun xs H Q => ∃ (a : Addr) (ts : List V) (nm : Nat → Str) (am : Nat → Int), xs = [.ref a] ∧ SqL K H a ts ∧ ts.length < 64 ∧ PairAt H ts nm am ∧
  ∀ is : List Nat, is.Perm (List.range ts.length) → is.Pairwise (fun i j => ¬ (nm j).cps.toList < (nm i).cps.toList) → New H (.lst (is.map fun i => ts.getD i .non)) Q
end
end L2
set_option Elab.async false
set_option linter.all false
set_option maxRecDepth 100000
namespace L2
open PySem PySem.Spec PyProof.Rows

structure TupsAt (H : Hp) (ys : List V) (cs : List (List V)) : Prop where
  len : ys.length = cs.length
  at_ : ∀ (i : Nat) (c : List V), cs[i]? = some c → ∃ a, ys[i]? = some (V.ref a) ∧ H a = some (.tup c)
section
variable {H H' : Hp} {ys : List V} {cs : List (List V)}
end

noncomputable def cP (p : Str × Int) : List V := [.str p.1, .int p.2]
noncomputable def pAt (prs : List (Str × Int)) (i : Nat) : Str × Int := prs.getD i (Str.empty, 0)
section
variable {J : It} {D a : Addr} {g : TG} {tt : TT} {te : TE} {fin : List V → Hp → Prop} {σ : St} {H : Hp} {xs : List V} {K : PySem.W.Frag}
end

noncomputable def dOf (tot : List (Str × Int)) : List (Key × V) := tot.map fun p => (Sum.inr p.1, V.int p.2)
noncomputable def getO (tot : List (Str × Int)) (z : Str) : Option Int := (tot.find? fun p => decide (p.1 = z)).map (·.2)
noncomputable def getT (tot : List (Str × Int)) (z : Str) : Int := (getO tot z).getD 0
noncomputable def putT (tot : List (Str × Int)) (z : Str) (v : Int) : List (Str × Int) :=
  if (tot.any fun p => decide (p.1 = z)) = true then tot.map (fun p => if p.1 = z then (p.1, v) else p) else tot ++ [(z, v)]
end L2
set_option Elab.async false
set_option linter.all false

namespace ST
open PySem
noncomputable def Rise (xs : Array Nat) : Prop := ∀ i j, i < j → j < xs.size → xs.getD i 0 < xs.getD j 0
end ST
set_option Elab.async false
set_option linter.all false
namespace ST
open PySem
noncomputable def NoLive (t : SetTable) (j : Nat) : Prop := t.place[SetTable.below t.place j]? ≠ some j
structure Good (b : Bool) (t : SetTable) : Prop where
  led : t.led = b
  rise : Rise t.place
end ST
set_option Elab.async false
set_option linter.all false
set_option maxRecDepth 100000
namespace ST
open PySem PySem.Spec
section
variable {prog : Program} {w : World} {K : Type} [DecidableEq K] [BEq K] [LawfulBEq K] {knd : KeyKind prog w K} {A : Around} {E : Value → Shared → Prop} {s : Shared}

structure At (knd : KeyKind prog w K) (b : Bool) (h : Heap) (a : Addr) (es : Array (Int × Value)) : Prop where
  ex : ∃ o ep t, h.get? a = some o ∧ o.ExactSet ∧ o.data = .set es ep t ∧ t.fits es.size = true ∧ Good b t
  el : ElemsOf knd es.toList
noncomputable def Added (knd : KeyKind prog w K) (k : K) (x : Value) (es es' : Array (Int × Value)) : Prop :=
  ((∃ e ∈ es.toList, knd.is k e.2 = true) ∧ es' = es) ∨ ((∀ e ∈ es.toList, knd.is k e.2 = false) ∧ es'.toList.Perm (es.toList ++ [(knd.hash k, x)]))
end
end ST
set_option Elab.async false
set_option linter.all false
set_option maxRecDepth 100000
namespace ST
open PySem PySem.Spec

noncomputable def byText (w : World) : Bool := w.params.followText "set-order"
section
variable {prog : Program} {w : World} {A : Around} {E : Value → Shared → Prop} {s : Shared}
noncomputable abbrev fresh0 (w : World) : Obj := { cls := .type "set", dict := none, data := .set #[] 0 (.fresh 0 0 (!byText w)) }
end
end ST
set_option Elab.async false
set_option linter.all false
set_option maxRecDepth 100000
namespace ST
open PySem PySem.Spec PyProof.Rows
section
variable {prog : Program} {w : World} {K : Type} [DecidableEq K] [BEq K] [LawfulBEq K] {knd : KeyKind prog w K} {A : Around} {E : Value → Shared → Prop} {s : Shared}

structure Keys (kf : Value → K) (es : Array (Int × Value)) (l : List K) : Prop where
  nd : (es.toList.map fun e => kf e.2).Nodup
  mem : ∀ k, k ∈ es.toList.map (fun e => kf e.2) ↔ k ∈ l
  len : es.size ≤ l.length
end
end ST
set_option Elab.async false
set_option linter.all false
set_option maxRecDepth 100000
namespace ST
open PySem PySem.Spec PyProof.Rows
section
variable {prog : Program} {w : World} {K : Type} [DecidableEq K] [BEq K] [LawfulBEq K] {knd : KeyKind prog w K} {A : Around} {E : Value → Shared → Prop} {s : Shared}

structure Left (knd : KeyKind prog w K) (kf : Value → K) (l : List K) (h₀ h : Heap) : Prop where
  ex : ∃ es, At knd (!byText w) h h₀.objs.size es ∧ Keys kf es l
  keep : ∀ c o, c < h₀.objs.size → h₀.get? c = some o → h.get? c = some o
end
end ST
set_option Elab.async false
set_option linter.all false
set_option maxRecDepth 100000
namespace ST
open PySem PySem.Spec PyProof.Rows
section
variable {prog : Program} {w : World} {K : Type} [DecidableEq K] [BEq K] [LawfulBEq K] [Inhabited K] {knd : KeyKind prog w K} {A : Around} {E : Value → Shared → Prop} {s : Shared}
end
end ST
set_option Elab.async false
set_option linter.all false
set_option maxRecDepth 100000
namespace L2
open PySem PySem.Spec PyProof.Rows

noncomputable def txtOf : Value → Str
  | .str z _ => z
  | _ => default
section
variable {X : Cx} {pins : List (Addr × Obj)} {σ : St} {H : Hp} {s : Shared} {a : Expr} {ta : TA} {p1 p2 p3 pos : Pos}

noncomputable def tLenSet (K : PySem.W.Frag) (ta : TA) : TE := fun σ H Q => ta σ H fun vs H1 => ∃ (l : Addr) (zs : List Str), vs = [.ref l] ∧ SqL K H1 l (zs.map V.str) ∧ zs.length < 64 ∧
  ∀ n : Nat, n ≤ zs.length → (n < zs.length ↔ ¬ zs.Nodup) → Q (.int n) H1
end
end L2
set_option Elab.async false
set_option linter.all false
set_option maxRecDepth 100000
namespace L2
open PySem PySem.Spec PyProof.Rows PySem.W

section
variable {X : Cx} {pins : List (Addr × Obj)} {σ : St} {H : Hp} {s : Shared} {a : Addr}

end
noncomputable def itemsO (v d : Addr) : HO := .ext fun h => h.IsItemsView v d
section
variable {X : Cx}
end
end L2
set_option Elab.async false
set_option linter.all false
set_option maxRecDepth 100000
namespace Pg
open PySem L2

noncomputable def isL (c : Nat) : Bool := decide (97 ≤ c) && decide (c ≤ 122)
structure NameOk (z : Str) : Prop where
  lo : 1 ≤ z.length
  hi : z.length ≤ 8
  all : z.cps.toList.all isL = true
noncomputable def sp_word : Sp := fun vs H Q _ => ∃ z, vs = [.str z, .str "abcdefghijklmnopqrstuvwxyz"] ∧ NameOk z ∧ ∀ H', Same H H' → Q (.bl true) H'
noncomputable def sp_name : Sp := fun vs H Q _ => ∃ z, vs = [.str z] ∧ NameOk z ∧ ∀ H', Same H H' → Q (.bl true) H'
noncomputable def sp_due : Sp := fun vs H Q _ => ∃ (t : Addr) (p : Str × Int), vs = [.ref t] ∧ H t = some (.tup (cP p)) ∧ NameOk p.1 ∧ ∀ H', Same H H' → Q (.bl true) H'
noncomputable def sp_dues : Sp := fun vs H Q _ => ∃ (l : Addr) (ts : List V) (prs : List (Str × Int)), vs = [.ref l] ∧ H l = some (.lst ts) ∧ TupsAt H ts (prs.map cP) ∧ prs.length < 64 ∧ (prs.map (·.1)).Nodup ∧ (∀ p ∈ prs, NameOk p.1) ∧ ∀ H', Same H H' → Q .non H'
noncomputable def sp_need0 (m : Int) : Sp := fun vs H Q _ => ∃ z, vs = [.int z] ∧ 0 ≤ z ∧ z ≤ m ∧ Q .non H

structure LdgK (K : PySem.W.Frag) (C : Addr) : Prop where
  cls : Cls K C
  nT : NoAttr K C "totals"
  nM : NoAttr K C "made"
  nC : NoAttr K C "closed"
noncomputable def cM (p : Int × Str × Int) : List V := [.int p.1, .str p.2.1, .int p.2.2]
noncomputable def fsL (t m : Addr) (cl : V) : List (Str × V) := [("totals", .ref t), ("made", .ref m), ("closed", cl)]

structure LedAt (C : Addr) (H : Hp) (L dx t m : Addr) (cl : V) (tot : List (Str × Int)) (mds : List (Int × Str × Int)) : Prop where
  ins : H L = some (.ins C dx (fsL t m cl))
  tot : H t = some (.dK (dOf tot))
  made : ∃ ys, H m = some (.lst ys) ∧ TupsAt H ys (mds.map cM)
noncomputable def sp_init (C : Addr) : Sp := fun vs H Q _ => ∃ L dx, vs = [.ref L] ∧ H L = some (.ins C dx []) ∧
  ∀ t m H', H t = none → H m = none → LedAt C H' L dx t m .non [] [] → (∀ b o, H b = some o → b ≠ L → H' b = some o) → Q .non H'
noncomputable def sp_later (C : Addr) : Sp := fun vs H Q _ => ∃ L dx t m cl mo, vs = [.ref L, .int mo] ∧ H L = some (.ins C dx (fsL t m cl)) ∧ 0 ≤ mo ∧ mo ≤ 119999 ∧ (cl = .non ∨ ∃ c, cl = .int c ∧ c < mo) ∧ Q .non H
noncomputable def sp_paid (C : Addr) : Sp := fun vs H Q _ => ∃ L dx t m cl tot z, vs = [.ref L, .str z] ∧ H L = some (.ins C dx (fsL t m cl)) ∧ H t = some (.dK (dOf tot)) ∧ Q (.int (getT tot z)) H
noncomputable def sp_owed (C : Addr) : Sp := fun vs H Q _ => ∃ L dx t m cl tot z d, vs = [.ref L, .str z, .int d] ∧ H L = some (.ins C dx (fsL t m cl)) ∧ H t = some (.dK (dOf tot)) ∧ Q (.int (d - getT tot z)) H
noncomputable def sp_payments (C : Addr) : Sp := fun vs H Q _ => ∃ L dx t m cl ys, vs = [.ref L] ∧ H L = some (.ins C dx (fsL t m cl)) ∧ H m = some (.lst ys) ∧ New H (.lst ys) Q

noncomputable def duesOf (tot qs : List (Str × Int)) : List (Str × Int) := (qs.map fun p => (p.1, p.2 - getT tot p.1)).filter fun p => decide (0 < p.2)
noncomputable def settle (tot ps : List (Str × Int)) : List (Str × Int) := ps.foldl (fun t p => putT t p.1 (getT t p.1 + p.2)) tot
noncomputable def sp_close (C : Addr) : Sp := fun vs H Q _ => ∃ (L dx t m : Addr) (cl : V) (tot : List (Str × Int)) (mds : List (Int × Str × Int)) (mo : Int) (l : Addr) (ts : List V) (prs : List (Str × Int)), vs = [.ref L, .int mo, .ref l] ∧ LedAt C H L dx t m cl tot mds ∧ 0 ≤ mo ∧ mo ≤ 119999 ∧ (cl = .non ∨ ∃ c, cl = .int c ∧ c < mo) ∧
  H l = some (.lst ts) ∧ TupsAt H ts (prs.map cP) ∧ prs.length < 64 ∧ (prs.map (·.1)).Nodup ∧ (∀ p ∈ prs, NameOk p.1) ∧ mds.length ≤ 1000 ∧ tot.length ≤ 1000 ∧
  ∀ (qs : List (Str × Int)) (r : Addr) (ys : List V) (H' : Hp), qs.Perm prs → qs.Pairwise (fun a b => ¬ b.1.cps.toList < a.1.cps.toList) → LedAt C H' L dx t m (.int mo) (settle tot (duesOf tot qs)) (mds ++ (duesOf tot qs).map fun p => (mo, p)) →
    (∀ b o, H b = some o → b ≠ L → b ≠ t → b ≠ m → H' b = some o) → H r = none → H' r = some (.lst ys) → TupsAt H' ys ((duesOf tot qs).map cP) → Q (.ref r) H'
noncomputable def mixN (c k : Int) : Int := (c % 1000003 * (k * k + 48271) + c / 1000003 + 7919 * k + 11) % 1000003
noncomputable def mixC (c k : Int) : Int := mixN c k * mixN c k % 1000003 * (mixN c k + 2 * k + 1) % 1000003
noncomputable def sp_mixC : Sp := fun vs H Q _ => ∃ c k, vs = [.int c, .int k] ∧ 0 ≤ k ∧ k ≤ 1000 ∧ Q (.int (mixC c k)) H
noncomputable def sp_names : Sp := fun vs H Q _ => ∃ (c : Int) (n : Nat), vs = [.int c, .int n] ∧ 1 ≤ n ∧ n ≤ 8 ∧ ∀ nms : List Str, nms.length = n → nms.Nodup → (∀ z ∈ nms, NameOk z) → New H (.lst (nms.map V.str)) Q
noncomputable def ones (cs : List Nat) : List V := cs.map sgn
noncomputable def constL : List Str := ["ann", "bo", "cyd", "annx", "b", "dd", "eve", "f"]
noncomputable def nameB (z : Str) : Bool := decide (1 ≤ z.length) && decide (z.length ≤ 8) && z.cps.toList.all isL
end Pg
namespace Pg
open PySem L2

noncomputable def metOf (mds : List (Int × Str × Int)) : List (List Key × V) := mds.map fun p => ([Sum.inl p.1, Sum.inr p.2.1], V.bl true)
noncomputable def keyM (p : Int × Str × Int) : Int × Str := (p.1, p.2.1)
noncomputable def sp_right (C : Addr) : Sp := fun vs H Q _ => ∃ (L dx t m : Addr) (cl : V) (tot : List (Str × Int)) (mds : List (Int × Str × Int)) (nl : Addr) (nms : List Str) (md : Addr) (most : List (Str × Int)) (tl : Addr) (told : List (Str × Int)) (cell : Int), vs = [.ref L, .ref nl, .ref md, .ref tl, .int cell] ∧ LedAt C H L dx t m cl tot mds ∧ H nl = some (.lst (nms.map V.str)) ∧ nms.length ≤ 8 ∧ (∀ z ∈ nms, NameOk z) ∧
  H md = some (.dK (dOf most)) ∧ H tl = some (.dK (dOf told)) ∧ (∀ p ∈ mds, 0 < p.2.2) ∧ (mds.map keyM).Nodup ∧ mds.length ≤ 1000 ∧
  (∀ z, getT (settle [] (mds.map (·.2))) z = getT tot z) ∧ (∀ z, getT tot z = getT most z) ∧ (∀ z v, getO told z = some v → v ≤ getT tot z) ∧ ∀ H', Same H H' → Q (.bl true) H'
end Pg
set_option Elab.async false
set_option linter.all false
set_option maxRecDepth 100000
namespace DL
open PySem PySem.Spec PyProof.Rows

section
variable {prog : Program} {w : World} {A : Around} {E : Value → Shared → Prop} {s : Shared}
variable {K : Type} [DecidableEq K] {knd : KeyKind prog w K}
end
end DL
namespace L2
open PySem PySem.Spec PyProof.Rows
section
variable {X : Cx}

end
end L2
set_option Elab.async false
set_option linter.all false
set_option maxRecDepth 100000
namespace L2
open PySem PySem.Spec PyProof.Rows

section
variable {X : Cx}
noncomputable def rInsert : V → List V → Hp → VK → Prop := fun x vs H Q => ∃ l xs i y, x = .ref l ∧ vs = [.int i, y] ∧ H l = some (.lst xs) ∧ 0 ≤ i ∧ i ≤ xs.length ∧ xs.length < sizeLine ∧ Q .non (upd H l (.lst (xs.take i.toNat ++ y :: xs.drop i.toNat)))
end
end L2
set_option Elab.async false
set_option linter.all false
set_option maxRecDepth 100000
namespace Pg
open PySem L2

noncomputable def Fr (S : List Addr) (H H' : Hp) : Prop := ∀ b o, H b = some o → ¬ b ∈ S → H' b = some o
noncomputable def NoTup (S : List Addr) (H : Hp) : Prop := ∀ b ∈ S, ∀ c, H b ≠ some (.tup c)
section
variable {C : Addr} {S S' : List Addr} {H H' H1 : Hp}
noncomputable def ownK (pd ml : Addr) (lv : V) : List (Key × V) := [(Sum.inr "paid", .ref pd), (Sum.inr "made", .ref ml), (Sum.inr "last", lv)]

structure OwnAt (H : Hp) (o pd ml : Addr) (lv : V) (tot : List (Str × Int)) (mds : List (Int × Str × Int)) : Prop where
  own : H o = some (.dK (ownK pd ml lv))
  tot : H pd = some (.dK (dOf tot))
  made : ∃ ys, H ml = some (.lst ys) ∧ TupsAt H ys (mds.map cM)
noncomputable def HeldV (H : Hp) (S : List Addr) (v : V) : Prop := ∃ (t f g : Addr) (ys : List V) (cs : List (List V)), v = .ref t ∧ H t = some (.tup [.ref f, .ref g]) ∧ H f = some (.lst ys) ∧ H g = some (.lst ys) ∧ TupsAt H ys cs ∧ (∀ c ∈ cs, c.all flatV = true) ∧ ¬ f ∈ S ∧ ¬ g ∈ S
noncomputable def HeldAt (H : Hp) (S : List Addr) (hl : Addr) (n : Nat) : Prop := ∃ hs, H hl = some (.lst hs) ∧ hs.length ≤ n ∧ ∀ v ∈ hs, HeldV H S v
end

structure Adr where
  L : Addr
  dx : Addr
  t : Addr
  m : Addr
  o : Addr
  pd : Addr
  ml : Addr
  hl : Addr
  tl : Addr
  nl : Addr
  L2 : Addr
  dx2 : Addr
  t2 : Addr
  m2 : Addr
  nms : List Str
noncomputable def Adr.us (A : Adr) : List Addr := [A.hl, A.tl, A.ml, A.pd, A.o, A.m2, A.t2, A.L2, A.m, A.t, A.L, A.nl]
noncomputable def Adr.S (A : Adr) : List Addr := [A.L, A.t, A.m, A.o, A.pd, A.ml, A.hl, A.tl]
structure AOk (A : Adr) : Prop where
  nd : A.us.Nodup
  n6 : A.nms.length = 6
  nn : A.nms.Nodup
  nok : ∀ z ∈ A.nms, NameOk z
structure Rs (C : Addr) (H : Hp) (A : Adr) (told : List (Str × Int)) (n : Nat) : Prop where
  held : HeldAt H A.S A.hl n
  told : H A.tl = some (.dK (dOf told))
  names : H A.nl = some (.lst (A.nms.map V.str))
  oth : LedAt C H A.L2 A.dx2 A.t2 A.m2 .non [] []
section
variable {C : Addr} {S : List Addr} {H H' : Hp} {A : Adr} {told told' : List (Str × Int)} {n n' : Nat}
end
noncomputable def withS (prs : List (Str × Int)) (ss : List Str) : List (Str × Int) := ss.map fun z => (z, getT prs z)
noncomputable def Seen (H : Hp) (us : List Addr) : Prop := us.Nodup ∧ ∀ b ∈ us, ∃ o, H b = some o
noncomputable def rSame2 (K : PySem.W.Frag) (u : Nat) (neg : Bool) : R2 := fun x y H Q => ∃ n d, isSeq d = true ∧ Is K H n x d ∧ Is K H n y d ∧ u + n < cLine ∧ Q (.bl (!neg)) H
structure Run (C : Addr) (H : Hp) (A : Adr) (cl : V) (tot : List (Str × Int)) (mds : List (Int × Str × Int)) (told : List (Str × Int)) (n : Nat) (mz : Int) (i : Nat) : Prop where
  led : LedAt C H A.L A.dx A.t A.m cl tot mds
  own : OwnAt H A.o A.pd A.ml cl tot mds
  rs : Rs C H A told n
  cl : cl = .non ∨ ∃ z, cl = .int z ∧ z ≤ mz
  m0 : -1 ≤ mz
  m1 : mz ≤ 110000 + 40 * i
  lm : mds.length ≤ 6 * i
  lt : tot.length ≤ 6 * i
  ld : told.length ≤ 6 * i
  ln : n ≤ 6 + 7 * i

noncomputable def sp_last (C : Addr) : Sp := fun vs H Q _ => ∃ (L dx t m : Addr) (cl : V), vs = [.ref L] ∧ H L = some (.ins C dx (fsL t m cl)) ∧ Q cl H
noncomputable def sp_sum : Sp := fun vs H Q _ => ∃ c l, vs = [.int c, .int l] ∧ 0 ≤ c ∧ c ≤ 2000000 ∧ ∀ z H', Same H H' → Q (.int z) H'
noncomputable def sp_duesL (K : PySem.W.Frag) : Sp := fun vs H Q _ => ∃ (a : Addr) (ns : List Int) (at' : Int) (nl : Addr) (nms : List Str) (tl : Addr) (told : List (Str × Int)), vs = [.ref a, .int at', .ref nl, .ref tl] ∧ (∀ H', Fr [tl] H H' → SqL K H' a (ns.map V.int)) ∧ 0 ≤ at' ∧ H nl = some (.lst (nms.map V.str)) ∧ nms.length ≤ 8 ∧ nms.Nodup ∧ H tl = some (.dK (dOf told)) ∧ told.length ≤ 1000 ∧
  ∀ (prs told' : List (Str × Int)) (r : Addr) (ys : List V) (H' : Hp), (prs.map (·.1)).Nodup → (∀ p ∈ prs, p.1 ∈ nms) → prs.length ≤ nms.length → told'.length ≤ told.length + nms.length → Fr [tl] H H' → H' tl = some (.dK (dOf told')) → H r = none → H' r = some (.lst ys) → TupsAt H' ys (prs.map cP) → Q (.ref r) H'
noncomputable def sp_paidL : Sp := fun vs H Q _ => ∃ (o pd ml : Addr) (lv : V) (tot : List (Str × Int)) (mds : List (Int × Str × Int)) (mo : Int) (l : Addr) (ts : List V) (prs : List (Str × Int)), vs = [.ref o, .int mo, .ref l] ∧ OwnAt H o pd ml lv tot mds ∧ o ≠ pd ∧
  H l = some (.lst ts) ∧ l ≠ ml ∧ TupsAt H ts (prs.map cP) ∧ prs.length < 64 ∧ (prs.map (·.1)).Nodup ∧ mds.length ≤ 1000 ∧ tot.length ≤ 1000 ∧
  ∀ (qs : List (Str × Int)) (r : Addr) (ys : List V) (H' : Hp), qs.Perm prs → qs.Pairwise (fun a b => ¬ b.1.cps.toList < a.1.cps.toList) → OwnAt H' o pd ml (.int mo) (settle tot (duesOf tot qs)) (mds ++ (duesOf tot qs).map fun p => (mo, p)) →
    Fr [o, pd, ml] H H' → H r = none → H' r = some (.lst ys) → TupsAt H' ys ((duesOf tot qs).map cP) → Q (.ref r) H'
noncomputable def sp_are (K : PySem.W.Frag) : Sp := fun vs H Q _ => ∃ (f g : Addr) (ys zs : List V) (cs : List (List V)), vs = [.ref f, .ref g] ∧ H f = some (.lst ys) ∧ TupsAt H ys cs ∧ H g = some (.lst zs) ∧ TupsAt H zs cs ∧ cs.length ≤ 2000 ∧ (∀ c ∈ cs, c.all flatV = true) ∧ (∀ c ∈ cs, ∃ i z, c = i ++ [V.int z]) ∧ ∀ H', Same H H' → Q (.bl true) H'
noncomputable def sp_answer (C : Addr) : Sp := fun vs H Q _ => ∃ (A : Adr) (cl : V) (tot : List (Str × Int)) (mds : List (Int × Str × Int)) (told : List (Str × Int)) (n : Nat) (qn c : Int), vs = [.ref A.L, .ref A.o, .ref A.hl, .ref A.nl, .int qn, .int c] ∧ AOk A ∧ LedAt C H A.L A.dx A.t A.m cl tot mds ∧ OwnAt H A.o A.pd A.ml cl tot mds ∧ Rs C H A told n ∧
  (cl = .non ∨ ∃ z, cl = .int z) ∧ 0 ≤ c ∧ c ≤ 1000000 ∧ mds.length ≤ 1000 ∧ n ≤ 1000 ∧ ∀ H', Fr [A.hl] H H' → Rs C H' A told (n + 1) → Q (.bl true) H'
noncomputable def sp_looked (C : Addr) : Sp := fun vs H Q _ => ∃ (A : Adr) (cl : V) (tot : List (Str × Int)) (mds : List (Int × Str × Int)) (told : List (Str × Int)) (n : Nat) (c : Int), vs = [.ref A.L, .ref A.o, .ref A.hl, .ref A.nl, .int c] ∧ AOk A ∧ LedAt C H A.L A.dx A.t A.m cl tot mds ∧ OwnAt H A.o A.pd A.ml cl tot mds ∧ Rs C H A told n ∧
  (cl = .non ∨ ∃ z, cl = .int z) ∧ 0 ≤ c ∧ c < 1000003 ∧ mds.length ≤ 1000 ∧ n ≤ 990 ∧ ∀ H', Fr [A.hl] H H' → Rs C H' A told (n + 6) → Q (.bl true) H'
end Pg
set_option Elab.async false
set_option linter.all false
set_option maxRecDepth 100000
namespace L2
open PySem PySem.Spec PyProof.Rows

section
variable {X : Cx} {pins : List (Addr × Obj)} {σ : St} {H : Hp} {s : Shared}

end
noncomputable def Itz (K : PySem.W.Frag) (a b : Addr) : It :=
  ⟨fun i H => ∃ xs ys x y, SqL K H a xs ∧ SqL K H b ys ∧ xs[i]? = some x ∧ ys[i]? = some y,
    fun i H z H' => ∃ p x y, z = .ref p ∧ H p = none ∧ H' = upd H p (.tup [x, y]) ∧ ∀ xs ys, SqL K H a xs → SqL K H b ys → xs[i]? = some x ∧ ys[i]? = some y,
    fun i H => ∃ xs ys, SqL K H a xs ∧ SqL K H b ys ∧ (xs.length ≤ i ∨ ys.length ≤ i)⟩
noncomputable def Ite (K : PySem.W.Frag) (a : Addr) : It :=
  ⟨fun i H => ∃ xs x, SqL K H a xs ∧ xs[i]? = some x,
    fun i H z H' => ∃ p x, z = .ref p ∧ H p = none ∧ H' = upd H p (.tup [.int (i : Nat), x]) ∧ ∀ xs, SqL K H a xs → xs[i]? = some x,
    fun i H => ∃ xs, SqL K H a xs ∧ xs.length ≤ i⟩
noncomputable def iZip (K : PySem.W.Frag) (ta : TA) : TI := fun σ H R => ta σ H fun vs H1 => ∃ a b, vs = [.ref a, .ref b] ∧ (∃ xs, SqL K H1 a xs) ∧ (∃ ys, SqL K H1 b ys) ∧ R (Itz K a b) H1
noncomputable def iEnum (K : PySem.W.Frag) (ta : TA) : TI := fun σ H R => ta σ H fun vs H1 => ∃ a, vs = [.ref a] ∧ (∃ xs, SqL K H1 a xs) ∧ R (Ite K a) H1
section
variable {X : Cx} {es : List Expr} {n : Nat} {tpos : Pos}
end

end L2
set_option Elab.async false
set_option linter.all false
set_option maxRecDepth 100000
set_option maxHeartbeats 1000000
namespace L2
open PySem PySem.Spec PyProof.Rows PySem.W

noncomputable def rSortI : List V → Hp → VK → Prop := fun xs H Q => ∃ (v d : Addr) (tot : List (Str × Int)), xs = [.ref v] ∧ H v = some (itemsO v d) ∧ H d = some (.dK (dOf tot)) ∧ tot.length < 64 ∧ (tot.map (·.1)).Nodup ∧
  ∀ (qs : List (Str × Int)) (l : Addr) (ys : List V) (H' : Hp), qs.Perm tot → qs.Pairwise (fun a b => ¬ b.1.cps.toList < a.1.cps.toList) → Same H H' → H l = none → H' l = some (.lst ys) → TupsAt H' ys (qs.map cP) → Q (.ref l) H'
end L2
set_option Elab.async false
set_option linter.all false
set_option maxRecDepth 100000
namespace DT
open PySem PySem.Spec PyProof.Rows

section
variable {prog : Program} {w : World} {A : Around} {E : Value → Shared → Prop} {s : Shared}
variable {K : Type} [DecidableEq K] {knd : KeyKind prog w K}
end
end DT
namespace L2
open PySem PySem.Spec PyProof.Rows

noncomputable def tupO (its : Array Value) (n : Nat) : Obj := { cls := .type "tuple", data := .seq its n }
section
variable {X : Cx}

end
end L2
set_option Elab.async false
set_option linter.all false
set_option maxRecDepth 100000
namespace L2
open PySem PySem.Spec PyProof.Rows

noncomputable def tOrN (ta tb : TE) : TE := fun σ H Q => ta σ H fun x H1 => (x = .non ∧ tb σ H1 Q) ∨ ∃ i, x = .int i ∧ (i ≠ 0 → Q (.int i) H1) ∧ (i = 0 → tb σ H1 Q)
section
variable {X : Cx} {a b : Expr} {rest : List Expr} {ta tb : TE} {pos : Pos}
end

noncomputable def rNeNil (K : PySem.W.Frag) : R2 := fun x y H Q => ∃ a b xs, x = .ref a ∧ y = .ref b ∧ SqL K H a xs ∧ SqL K H b [] ∧ (xs = [] → Q (.bl false) H) ∧ (xs ≠ [] → Q (.bl true) H)
theorem op_neNil {X : Cx} (hu : X.A.units < cLine) : OpR X (compareOp .NotEq) (rNeNil X.K) := by
  intro pins s σ H x y v u Q I rx ry h
  obtain ⟨a, b, xs, rfl, rfl, h1, h2, q1, q2⟩ := h
  cases rx
  cases ry
  obtain ⟨us, r1, p1, _⟩ := I.list h1
  obtain ⟨ws, r2, p2, _⟩ := I.list h2
  have l1 := r1.length
  have l2 := r2.length
  rw [List.length_nil] at l2
  by_cases hl : xs = []
  · subst hl
    rw [List.length_nil] at l1
    refine SeqAt.RcNeAt.lists p1.isList p2.isList (by simp; omega) hu (e := fun _ => true) (fun j h1 h2 => ?_) _ _ _ _ ⟨.bl false, H, I, ?_, q1 rfl⟩
    · simp at h1
      omega
    · have : us = [] := List.length_eq_zero_iff.mp l1.symm
      subst this
      rfl
  · have : 0 < xs.length := List.length_pos_iff.mpr hl
    exact SeqAt.RcNeAt.lists_lengths p1.isList p2.isList (by simp; omega) hu _ _ _ _ ⟨.bl true, H, I, rfl, q2 hl⟩
end L2
set_option Elab.async false
set_option linter.all false
set_option maxRecDepth 100000
namespace L2
open PySem PySem.Spec PyProof.Rows
open Builtin Builtin.Str

theorem nolen_lri : typeLookup (.type "list_reverseiterator") "__len__" = pure none := by
  rw [typeLookup_type, builtinLookup_eq_fast]
  kernel_rfl
theorem hint_lri : typeLookup (.type "list_reverseiterator") "__length_hint__" = pure (some (.builtin "list_reverseiterator.__length_hint__")) := by
  rw [typeLookup_type, builtinLookup_eq_fast]
  kernel_rfl
section
variable {prog : Program} {w : World} {A : Around} {E : Value → Shared → Prop} {s : Shared} {J l : Addr} {items : Array Value}
noncomputable def RevAt (items : Array Value) (i : Nat) (v : Value) : Prop := items[items.size - 1 - i]? = some v
theorem collect_rev {Q : List Value → Shared → Prop} (hh : A.handled = none) (ne : l ≠ J) (hit : s.heap.IsRevIter J l ((items.size : Int) - 1)) (hl : s.heap.IsList l items) (hn : items.size ≤ sizeLine)
    (hQ : ∀ s' acc, (∀ b o, b ≠ J → s.heap.get? b = some o → s'.heap.get? b = some o) → s'.gens = s.gens → s'.drawn = s.drawn → s'.os = s.os → ItemsOf (RevAt items) acc items.size → Q acc.toList s') : wpAny (model prog w) A (collect (.ref J)) Q E s := by
  have W := (Walks.listRev (prog := prog) (w := w) (A := A.in1) hh J l ne items).toS
  have hT : ∀ (i : Nat) (s : Shared), (i ≤ items.size ∧ s.heap.IsRevIter J l ((items.size : Int) - 1 - (i : Int)) ∧ s.heap.IsList l items) → s.TypeIs (.ref J) "list_reverseiterator" := fun _ _ st => st.2.1.typeIs
  have lt : ∀ b ∈ [J, l], b < s.heap.objs.size := fun b hb => by
    obtain ⟨o, ho, _⟩ := hit
    obtain ⟨o', ho', _⟩ := hl
    rcases List.mem_cons.mp hb with rfl | hb
    · exact Heap.lt_size ho
    · rw [List.mem_singleton.mp hb]
      exact Heap.lt_size ho'
  have nf : ¬ s.heap.objs.size ∈ [J, l] := fun hm => Nat.lt_irrefl _ (lt _ hm)
  have nJ : s.heap.objs.size ≠ J := fun e => nf (e ▸ List.mem_cons_self)
  have st0 : 0 ≤ items.size ∧ s.heap.IsRevIter J l ((items.size : Int) - 1 - ((0 : Nat) : Int)) ∧ s.heap.IsList l items := ⟨Nat.zero_le _, by rw [Int.natCast_zero, Int.sub_zero]; exact hit, hl⟩
  unfold collect
  refine wpAny_bind (wpAny_runValue (codeAny_builtin F.entry_proto_collect ?_)); rw [Around.under_plainId F.plain_proto_collect _]
  show wpAny _ A.in1 (newList [] >>= fun l => again (.builtin "list.__iadd__" ⟨[l, .ref J], []⟩)) _ _ s
  refine wpAny_bind (wpAny_newObj_type (wpAny_pure ⟨plainId_quiet F.plain_list_iadd _, codeAny_builtin F.entry_list_iadd ?_⟩)); rw [Around.under_plainId F.plain_list_iadd _]
  have st1 := W.frame 0 s (s.heap.push { cls := .type "list", data := .seq ([] : List Value).toArray }) s.toks st0 (Nat.le_refl _) fun b _ o e => Heap.get?_push_of_some _ e
  have S1 : (s.heap.push { cls := .type "list", data := .seq ([] : List Value).toArray }).get? s.heap.objs.size = some { cls := .type "list", data := .seq ([] : List Value).toArray } := Heap.get?_push_size _ rfl
  have h1 : Builtin.List.listSameRef (.ref s.heap.objs.size) (.ref J) = false := by simp [Builtin.List.listSameRef, nJ]
  show wpAny _ A.in1 (Builtin.List.listExtendWith (.ref s.heap.objs.size) (.ref J) (.ref s.heap.objs.size)) _ _ _
  unfold Builtin.List.listExtendWith; refine wpAny_bind (wpAny_typeOf (hT 0 _ st1) ?_)
  rw [if_neg (by rw [h1]; decide)]; refine wpAny_bind (W.self 0 _ _ _ st1 ?_)
  refine wpAny_bind (wpAny_holding ?_); unfold Builtin.List.listLengthHint
  refine wpAny_bind (wpAny_specialOf (hT 0 _ st1) nolen_lri ?_)
  show wpAny _ A.in1 (specialOf (Value.ref J) (Str.ofString "__length_hint__") >>= _) _ _ _
  refine wpAny_bind (wpAny_specialOf (hT 0 _ st1) hint_lri ?_)
  (generalize hid : ("list_reverseiterator.__length_hint__" : String) = id0; (fail_if_success (clear hid id0)); wp_delta; rw [show splitId id0 = some ("list_reverseiterator", "__length_hint__") from by subst hid; decide +kernel]; subst hid)
  refine wpAny_bind (wpAny_isInstance (b := true) (hT 0 _ st1) (by rw [isSubtype_type]; kernel_rfl) (wpAny_pure ?_))
  rw [if_neg (by decide)]
  refine wpAny_pure ⟨plainId_quiet F.plain_extend_loop _, codeAny_extend_loopS W hn _ nf _ items.size 0 _ _ _ rfl (Nat.zero_le _) st1 S1 (ItemsOf.nil _) fun s' acc' c' hm hS' hacc => ?_⟩
  show wpAny _ A (load s.heap.objs.size >>= _) _ _ s'
  have mv := Moved.drop_new (o := { cls := .type "list", data := .seq ([] : List Value).toArray }) (tk := s.toks) hm (Nat.le_refl _)
  exact wpAny_bind (wpAny_load hS' (wpAny_pure (hQ s' acc' (fun b o hb e => mv.heap b o (fun h => hb (List.mem_singleton.mp h)) e) mv.gens mv.drawn mv.os hacc)))
theorem join_rev {Q : Value → Shared → Prop} {x : Str} {t : Tok} {ps : List (Str × Tok)} (hh : A.handled = none) (ne : l ≠ J) (hit : s.heap.IsRevIter J l ((ps.length : Int) - 1)) (hl : s.heap.IsList l (strValues ps).toArray) (hn : ps.length ≤ sizeLine) (hok : JoinOk x (ps.map (·.1)).reverse = true)
    (hq : ∀ (s' : Shared) (t' : Tok) (k : Nat), (∀ b o, b ≠ J → s.heap.get? b = some o → s'.heap.get? b = some o) → s'.gens = s.gens → s'.drawn = s.drawn → s'.os = s.os → Q (.str (Txt.join x (ps.map (·.1)).reverse) t') { s' with toks := k }) :
    wpAny (model prog w) A (call (.builtin "str.join") [.str x t, .ref J]) Q E s := by
  have sz : (strValues ps).toArray.size = ps.length := by rw [List.size_toArray]; exact List.length_map _
  refine wpAny_call (codeAny_call_builtin F.slot_str_join.plain F.entry_str_join (F.slot_str_join.check _ _ _ _ _ _ _ _ (typeIs_str _ _ _) (F.args_str_join_2 _ _) ?_)); rw [join_tree_other]
  refine wpAny_bind (wpAny_typeOf hit.typeIs ?_)
  show wpAny _ A.in1 ((pyIter (.ref J)).tryCatch _ >>= fun it => collect it >>= fun items => joinTail x items) _ _ s
  refine wpAny_bind (wpAny_tryCatch (wpAny_pyIter_revIter hit ?_))
  refine wpAny_bind (collect_rev (A := A.in1) hh ne (by rw [sz]; exact hit) hl (by rw [sz]; exact hn) fun s' acc m1 m2 m3 m4 hacc => ?_)
  have ea : acc.toList = strValues ps.reverse := by
    apply List.ext_getElem?
    intro i
    by_cases hi : i < ps.length
    · have hi' : i < acc.size := by rw [hacc.1, sz]; exact hi
      have h2 := hacc.2 i _ (Array.getElem?_eq_getElem hi')
      have h2 : (strValues ps).toArray[(strValues ps).toArray.size - 1 - i]? = some acc[i] := h2
      rw [sz] at h2
      have h3 : (strValues ps)[ps.length - 1 - i]? = some acc[i] := by simpa using h2
      rw [Array.getElem?_toList, Array.getElem?_eq_getElem hi', ← h3]
      unfold strValues
      rw [List.getElem?_map, List.getElem?_map, List.getElem?_reverse hi]
    · rw [List.getElem?_eq_none (by rw [Array.length_toList, hacc.1, sz]; omega), List.getElem?_eq_none (by unfold strValues; rw [List.length_map, List.length_reverse]; omega)]
  rw [ea]
  have er : ps.reverse.map (·.1) = (ps.map (·.1)).reverse := List.map_reverse
  rw [← er] at hok hq
  generalize ps.reverse = qs at hok hq
  unfold JoinOk at hok
  rw [Bool.not_eq_true'] at hok
  have g : Gives (joinTail x (strValues qs)) (joinMade x qs) := by
    have g0 := gives_joinTail x qs hok
    rcases qs with _ | ⟨p, _ | ⟨q, r⟩⟩ <;> exact g0
  exact g prog w A (wants Q E) s' (post_join qs ⟨joinFit_length hok, fun t' k => hq s' t' k m1 m2 m3 m4⟩)
end
noncomputable def tJoinRev (K : PySem.W.Frag) (sep : Str) (ta : TA) : TE := fun σ H Q => ta σ H fun vs H1 => ∃ (l : Addr) (zs : List Str), vs = [.ref l] ∧ SqL K H1 l (zs.map V.str) ∧ zs.length ≤ 100000 ∧ JoinOk sep zs.reverse = true ∧ Q (.str (Txt.join sep zs.reverse)) H1
section
variable {X : Cx} {a : Expr} {ta : TA} {p1 p2 p3 apos cpos : Pos} {sep : Str} {kn : Nat}
theorem pe_joinRev (hcalm : X.calm = true) (hg : Gl X "reversed") (hm : X.mg "reversed" = none) (ha : PA X [a] ta)
    (hs : starEach [a] X.env = [(false, eval a X.env)] := by rfl) (hs1 : starEach [.Call (.Name "reversed" p2) [a] [] p3] X.env = [(false, eval (.Call (.Name "reversed" p2) [a] [] p3) X.env)] := by rfl)
    (hbase : attributeBase (Expr.Constant (.str sep) kn p1) "join" X.env (eval (.Constant (.str sep) kn p1) X.env) = eval (.Constant (.str sep) kn p1) X.env := by rfl)
    (hfew : ((backTo cpos (starEach [.Call (.Name "reversed" p2) [a] [] p3] X.env)).all (fun x => !x.1) && (backToKw cpos (keywordEach [] X.env)).all (fun x => x.1.isSome)
      && decide ([Expr.Call (.Name "reversed" p2) [a] [] p3].length + ([] : List Keyword).length + (if ([] : List Keyword).isEmpty then 0 else 1) < 30)) = true := by rfl)
    (hline : (apos.endLine == cpos.line) = true := by rfl) :
    PE X (.Call (.Attribute (.Constant (.str sep) kn p1) "join" apos) [.Call (.Name "reversed" p2) [a] [] p3] [] cpos) (tJoinRev X.K sep ta) := by
  intro pins s σ H Q I h
  refine wpAny_Call_method_late hbase hfew hline rfl (thn (pe_str (X := X) (x := sep) pins s σ H (fun x H1 => x = .str sep ∧ H1 = H) I ⟨rfl, rfl⟩) fun v s1 ⟨x, H1, I1, r1, q1⟩ => ?_)
  obtain ⟨rfl, rfl⟩ := q1
  obtain ⟨tv, rfl⟩ := r1
  refine ⟨"str", "str.join", PySem.F.plainAttrs_str, PySem.F.slot_str_join, PySem.F.type_str_join, typeIs_str _ _ _, ?_, ?_⟩
  · exact fun _ e => nomatch e
  rw [hs1]
  refine Calls.callWith_builtin rfl (Calls.evalArgs_plain ?_)
  show wpAny _ _ (spliced ((false, eval (.Call (.Name "reversed" p2) [a] [] p3) X.env) :: [])) _ _ s1
  refine Calls.spliced_cons ?_
  refine Call_ (ld_blt I1 hg hm boot_reversed (PyProof.Rows.callWith_type1 (thn (ha p3 pins s1 σ H1 _ I1 h) fun us s2 z => ?_) hs rfl))
  obtain ⟨vs, H2, I2, r2, l, zs, e, hS, hz, hj, q⟩ := z
  subst e
  cases r2 with
  | cons r rr =>
    cases rr
    cases r
    obtain ⟨its, rv, pl, hz'⟩ := I2.list hS
    obtain ⟨ps, e1, rfl⟩ := vals_strs rv
    have hl : ps.length = zs.length := by rw [← e1, List.length_map]
    refine call_reversed_list pl.isList (Calls.spliced_nil ?_)
    have lt : l < s2.heap.objs.size := by obtain ⟨_, e, _⟩ := pl.isList; exact Heap.lt_size e
    refine join_rev (ps := ps) (J := s2.heap.objs.size) (l := l) (I2.ok.hd hcalm) (Nat.ne_of_lt lt) ⟨_, Heap.get?_push_size _ rfl, rfl, ?_⟩ (pl.isList.push _) (by rw [sizeLine_eq]; omega) (by rw [e1]; exact hj) fun s' t' k m1 m2 m3 m4 => ?_
    · show Data.fields #[.ref l, rawInt (((strValues ps).toArray.size : Nat) - 1)] = _
      rw [List.size_toArray]
      unfold strValues
      rw [List.length_map]
    rw [e1]
    obtain ⟨h', g', d', k', o'⟩ := s'
    cases m2
    cases m3
    cases m4
    refine ⟨.str _, H2, I2.kept (t' := k) (h' := h') fun b o e => m1 b o (Nat.ne_of_lt (Heap.lt_size e)) (Heap.get?_push_of_some _ e), ⟨t', rfl⟩, q⟩
end
end L2
set_option Elab.async false
set_option linter.all false
set_option maxRecDepth 100000
namespace L2
open PySem PySem.Spec PyProof.Rows

section
variable {X : Cx}
end
end L2
set_option Elab.async false
set_option linter.all false
set_option maxRecDepth 100000
namespace L2
open PySem PySem.Spec PyProof.Rows
structure ItemsAt {α : Type} (H : Hp) (ys : List V) (xs : List α) (P : Hp → V → α → Prop) : Prop where
  len : ys.length = xs.length
  at_ : ∀ (i : Nat) (y : V), ys[i]? = some y → ∃ x, xs[i]? = some x ∧ ∀ H', Same H H' → P H' y x
section
variable {J : It} {D : Addr} {te : TE} {fin : List V → Hp → Prop} {σ : St} {H : Hp} {ys : List V} {α : Type} {xs : List α} {P : Hp → V → α → Prop}
end
end L2
set_option Elab.async false
set_option linter.all false
set_option maxRecDepth 100000
namespace L2
open PySem PySem.Spec PyProof.Rows

noncomputable def ownH (h : Heap) : Heap := (h.push { cls := .type "dict", data := .dict #[] }).push { cls := .type "cell", data := .cell none }
structure CompOkN (X : Cx) (Nc : List Str) (scope : Scope) (cl : List (Str × Addr)) (src : List (Option Nat)) (x0 : Str) : Prop where
  clos : closureFor scope X.env = pure cl
  kind : scope.kind = .function
  lay : ∀ n acc, cellsFrom n scope.names acc = (x0, n) :: acc
  push : ∀ h, pushCells h scope.names = h.push { cls := .type "cell", data := .cell none }
  names : ∀ y ∈ scope.names, y.2 = .local → scope.names.lookup y.1 = some .local
  sub : ∀ x c, cl.lookup x = some c → X.env.cells.lookup x = some c
  has : ∀ c0 x, ((relabel scope X.env).names.lookup x = some .cell ∨ (relabel scope X.env).names.lookup x = some .free) → ∃ c, ((x0, c0) :: cl).lookup x = some c
  frm : ∀ (i j : Nat), src[i]? = some (some j) → ∃ x, Nc[i]? = some x ∧ X.N[j]? = some x ∧ X.env.scope.names.lookup x = some .cell ∧ (relabel scope X.env).names.lookup x = some .cell ∧ x ≠ x0
  len : src.length = Nc.length
noncomputable def cxCompN (X : Cx) (Nc : List Str) (scope : Scope) (x0 : Str) (cl : List (Str × Addr)) (C : Addr) (fp : List Addr) (s : Shared) (H : Hp) : Cx :=
  { X with N := Nc, s₀ := s, H₀ := H, env := compEnvC scope ((x0, C + 1) :: cl) C X.env, outer := X.stack, ex := fp, fn := fun x => decide (x = x0), pn := [], xe := fun _ _ => False }
section
variable {X : Cx} {elt iter tgt : Expr} {ifs : List Expr} {scope : Scope} {cl : List (Str × Addr)} {Nc : List Str} {src : List (Option Nat)} {g : TG} {tt : TT} {te : TE} {x0 : Str}
end
end L2
set_option Elab.async false
set_option linter.all false
set_option maxRecDepth 100000
namespace Pg
open PySem L2

structure LstsAt (H : Hp) (ys : List V) (tab : List (List Str)) : Prop where
  len : ys.length = tab.length
  at_ : ∀ (i : Nat) (r : List Str), tab[i]? = some r → ∃ a, ys[i]? = some (V.ref a) ∧ H a = some (.lst (r.map V.str))
section
variable {H H' : Hp} {ys : List V} {tab : List (List Str)}
end

structure TabOk (tab : List (List Str)) (n : Nat) : Prop where
  wide : ∀ r ∈ tab, r.length = n
  text : ∀ r ∈ tab, ∀ z ∈ r, z.length ≤ 30
  n1 : 1 ≤ n
  n2 : n ≤ 14
  t1 : 1 ≤ tab.length
  t2 : tab.length ≤ 17
noncomputable def cellL (r : List Str) (k : Nat) : Nat := (r.getD k Str.empty).length
noncomputable def maxL (l : List Nat) : Nat := l.foldr max 0
noncomputable def colW (tab : List (List Str)) (k : Nat) : Nat := maxL (tab.map fun r => cellL r k)
noncomputable def wdOf (tab : List (List Str)) (n : Nat) : List Nat := (List.range n).map (colW tab)
noncomputable def cellsS (r : List Str) (ws : List Nat) : List Str := (List.zipWith (fun z (w : Nat) => Txt.rjust z w) r ws).set 0 (Txt.ljust (r.getD 0 Str.empty) ((ws.getD 0 0 : Nat) : Int))
noncomputable def rowS (r : List Str) (ws : List Nat) : Str := Txt.rstripChars (Txt.join "  " (cellsS r ws)) " "
noncomputable def rowsS (tab : List (List Str)) (n : Nat) : List Str := tab.map fun r => rowS r (wdOf tab n)
section
variable {tab : List (List Str)} {n : Nat}
end
theorem foldl_lens (sep : Str) (m : Nat) : ∀ (zs : List Str) (acc : Nat), (∀ z ∈ zs, z.length ≤ m) → zs.foldl (fun a z => a + z.length + sep.length) acc ≤ acc + zs.length * (m + sep.length) := by
  intro zs
  induction zs with
  | nil => intro acc _; simp
  | cons z r ih =>
    intro acc h
    rw [List.foldl_cons]
    have h1 := ih (acc + z.length + sep.length) fun z hz => h z (List.mem_cons_of_mem _ hz)
    have h2 := h z List.mem_cons_self
    rw [List.length_cons, Nat.succ_mul]
    omega
theorem join_len {sep : Str} {m : Nat} (hs : sep.length ≤ 2) : ∀ (k : Nat) (zs : List Str), zs.length = k → (∀ z ∈ zs, z.length ≤ m) → (Txt.join sep zs).length ≤ k * (m + 2) := by
  intro k
  induction k with
  | zero =>
    intro zs e _
    rw [List.length_eq_zero_iff.mp e]
    exact Nat.zero_le _
  | succ k ih =>
    intro zs e h
    rcases List.eq_nil_or_concat zs with rfl | ⟨r, z, rfl⟩
    · cases e
    · rw [List.concat_eq_append] at e h ⊢
      have er : r.length = k := by rw [List.length_append, List.length_singleton] at e; omega
      have hz := h z (List.mem_append_right _ List.mem_cons_self)
      have hr := ih r er fun z hz => h z (List.mem_append_left _ hz)
      rw [Nat.succ_mul]
      by_cases c : r = []
      · subst c
        rw [List.nil_append, join_one]
        omega
      · rw [join_snoc _ _ c, app_len, app_len]
        omega
theorem join_small {sep : Str} {zs : List Str} {m k : Nat} (h : ∀ z ∈ zs, z.length ≤ m) (hk : zs.length ≤ k) (hs : sep.length ≤ 2) (hz : Nat.ble (k * (m + 2)) 1000000 = true) : JoinOk sep zs = true ∧ (Txt.join sep zs).length ≤ k * (m + 2) := by
  have h1 := foldl_lens sep m zs 0 h
  have h2 : zs.length * (m + sep.length) ≤ k * (m + 2) := Nat.mul_le_mul hk (Nat.add_le_add_left hs _)
  have h3 := Nat.le_of_ble_eq_true hz
  constructor
  · unfold JoinOk Builtin.Str.tooLong
    rw [List.foldl_toArray, Bool.not_eq_true', decide_eq_false_iff_not, sizeLine_eq]
    omega
  · exact Nat.le_trans (join_len hs _ zs rfl h) (Nat.mul_le_mul_right _ hk)
end Pg
namespace Pg
open PySem L2

noncomputable def sp_needA : Sp := fun vs H Q _ => ∃ i, vs = [.int i] ∧ Q .non H
noncomputable def sp_year0 : Sp := fun vs H Q _ => ∃ z, vs = [.int z] ∧ 0 ≤ z ∧ z ≤ 119999 ∧ Q (.int (z / 12)) H
noncomputable def sp_place0 : Sp := fun vs H Q _ => ∃ z, vs = [.int z] ∧ 0 ≤ z ∧ z ≤ 119999 ∧ Q (.int (z % 12 + 1)) H
noncomputable def sp_month0 : Sp := fun vs H Q _ => ∃ z, vs = [.int z] ∧ 0 ≤ z ∧ z ≤ 119999 ∧ Q (.str (monthS z)) H
noncomputable def sp_figures : Sp := fun vs H Q _ => ∃ n, vs = [.int n] ∧ 0 ≤ n ∧ n < 10 ^ 18 ∧ ∀ H', Same H H' → Q (.str (numS n)) H'
noncomputable def sp_told : Sp := fun vs H Q _ => ∃ a, vs = [.int a] ∧ absI a < 10 ^ 20 ∧ ∀ H', Same H H' → Q (.str (toldS a)) H'
noncomputable def intsV (ws : List Nat) : List V := ws.map fun w => V.int (w : Nat)
noncomputable def sp_widths : Sp := fun vs H Q _ => ∃ t ys tab n, vs = [.ref t] ∧ H t = some (.lst ys) ∧ LstsAt H ys tab ∧ TabOk tab n ∧ ∀ r H', Same H H' → H r = none → H' r = some (.lst (intsV (wdOf tab n))) → Q (.ref r) H'
noncomputable def sp_row : Sp := fun vs H Q _ => ∃ a b r ws n, vs = [.ref a, .ref b] ∧ H a = some (.lst (r.map V.str)) ∧ H b = some (.lst (intsV ws)) ∧ r.length = n ∧ ws.length = n ∧ 1 ≤ n ∧ n ≤ 14 ∧ (∀ z ∈ r, z.length ≤ 30) ∧ (∀ w ∈ ws, w ≤ 30) ∧ ∀ H', Same H H' → Q (.str (rowS r ws)) H'
noncomputable def sp_rows : Sp := fun vs H Q _ => ∃ t ys tab n, vs = [.ref t] ∧ H t = some (.lst ys) ∧ LstsAt H ys tab ∧ TabOk tab n ∧ ∀ r H', Same H H' → H r = none → H' r = some (.lst ((rowsS tab n).map V.str)) → Q (.ref r) H'
end Pg
namespace Pg
open PySem L2
end Pg
set_option Elab.async false
set_option linter.all false
set_option maxRecDepth 100000
set_option maxHeartbeats 4000000
namespace K28
open PySem PySem.NumText L2 Pg
seal PE PA PT PW PS PSs PG PGs PI PIf PO PK
section
variable {P : Program} {w : World} {K : PySem.W.Frag} {mg : Str → Option Value} {base : Heap} {f : Addr} {fd : FuncData} {d : Nat → Addr} {cR : Addr}
theorem ok_needA (F : Fun K "need_amount" "need_amount" (top 20) f fd) (C1 : Cal P w K mg base CX0 1 "is_number" ["thing"] (sp_is_number K)) : FnOk P w K mg base CX0 2 f fd ["thing"] sp_needA := by
  refine F.ok (N := ["thing"]) ⟨rfl, rfl, rfl, by decide +kernel, rfl, by decide +kernel, by decide +kernel⟩ (fun vs H Q E h => ?_) (fun cdv A outer s H vs Q E hr h => ?_)
  · obtain ⟨i, rfl, _⟩ := h
    rfl
  · obtain ⟨i, rfl, q⟩ := h
    refine ⟨_, pss_one (ps_if (pt_not (pt_val (pe_cal C1 hr (by decide) pass0 (pa_cons (pv 0) pa_nil)))) pss_never pss_nil), ?_⟩
    exact ⟨_, rfl, _, rfl, .inl ⟨i, rfl, true, rfl, iteF q⟩⟩
end
end K28
set_option Elab.async false
set_option linter.all false
set_option maxRecDepth 100000
set_option maxHeartbeats 4000000
namespace K28
open PySem PySem.NumText L2 Pg
seal PE PA PT PW PS PSs PG PGs PI PIf PO PK
section
variable {P : Program} {w : World} {K : PySem.W.Frag} {mg : Str → Option Value} {base : Heap} {f : Addr} {fd : FuncData} {d : Nat → Addr} {cR : Addr}
theorem ok_are_figures (F : Fun K "are_figures" "are_figures" (top 34) f fd) (G : Glb mg) (N1 : Txt mg "FIGURES" "0123456789") : FnOk P w K mg base CX0 1 f fd ["text"] sp_figs := by
  obtain ⟨tm, hm⟩ := N1
  have nc : (["sign"] : List Str).Nodup := by decide +kernel
  refine F.ok (N := ["text"]) ⟨rfl, rfl, rfl, by decide +kernel, rfl, by decide +kernel, by decide +kernel⟩ (fun vs H Q E h => ?_) (fun cdv A outer s H vs Q E hr h => ?_)
  · obtain ⟨z, rfl, _⟩ := h
    rfl
  · obtain ⟨z, rfl, hz, q⟩ := h
    have ls : 100001 ≤ sizeLine := by rw [sizeLine_eq]; decide
    refine' ⟨_, pss_one (ps_ret (pe_and (pe_cmpR op_gt (pe_callB call_len_str rfl G.len boot_len (pa_cons (pv 0) pa_nil)) pe_int (nomark _)) (pe_one (pe_callB (call_allL rfl) rfl G.all boot_all (pa_cons ?comp pa_nil))))), ?main⟩
    case comp =>
      refine' pe_compI (Nc := ["sign"]) (cl := []) (src := [none]) (wi := iStr (tVar 0)) (g := gName 0) (tt := tNoIf) (te := tOp (fun x y H Q => ∃ i j, x = .str i ∧ y = .str j ∧ Q (.bl (!(Builtin.Str.occurrences j i 0 j.length 1).isEmpty)) H) (tVar 0) (tC (.str "0123456789"))) ⟨rfl, rfl, by decide +kernel, by decide +kernel, (fun x c z => nomatch z), has_of (by rfl), frm_none frm_nil, rfl⟩ rfl (pi_str (pv 0)) ?hb
      case hb =>
        intro fp C' s' H'
        exact ⟨pg_name (i := 0) nc rfl (Or.inl rfl), pif_nil, pe_cmpR op_in_str (pv 0) (pe_glob (v := .str "0123456789") rfl hm ⟨_, rfl⟩) (by rfl)⟩
    refine ⟨_, rfl, z, rfl, by omega, _, _, rfl, rfl, _, rfl, ite2 (fun e => ?_) (fun e => ?_)⟩
    · have e : 0 < z.length := by have := of_decide_eq_true e; omega
      have ne : z.cps.toList ≠ [] := fun y => by rw [len_codes, y] at e; exact absurd e (by decide)
      refine ⟨_, rfl, z, rfl, fun D hD => ?_⟩
      refine comp_fm (walk_str (z := z)) hD (by rw [List.length_map, ← len_codes]; omega) (fun _ => true) (fun x => match x with | .str y => .bl (isF (y.cps.getD 0 0)) | v => v) (fun x _ H' R _ r => r) (fun x hx _ H' R _ r => ?_) ?_
      · obtain ⟨c, _, rfl⟩ := List.mem_map.mp hx
        refine ⟨_, rfl, _, _, rfl, rfl, ?_⟩
        rw [fig_in]
        exact r
      · rw [List.filter_eq_self.mpr fun _ _ => rfl, List.map_map]
        refine ⟨D, z.cps.toList.map isF, rfl, SqL.of (by rw [List.map_map]; exact upd_same), ?_⟩
        have e2 : figL z.cps.toList = (z.cps.toList.map isF).all id := by
          unfold figL
          rw [List.all_map]
          cases h : z.cps.toList with
          | nil => exact absurd h ne
          | cons a l => rfl
        rw [← e2]
        exact q _ (Same.upd hD)
    · have e0 : z.cps.toList = [] := List.length_eq_zero_iff.mp (by
        rw [← len_codes]
        have : ¬ (0 : Int) < (z.length : Nat) := fun c => e (decide_eq_true c)
        omega)
      have q' := q H (Same.refl _)
      rw [e0] at q'
      exact q'
end
end K28
set_option Elab.async false
set_option linter.all false
set_option maxRecDepth 100000
set_option maxHeartbeats 4000000
namespace K28
open PySem PySem.NumText L2 Pg
seal PE PA PT PW PS PSs PG PGs PI PIf PO PK
section
variable {P : Program} {w : World} {K : PySem.W.Frag} {mg : Str → Option Value} {base : Heap} {f : Addr} {fd : FuncData} {d : Nat → Addr} {cR : Addr}
theorem ok_need_month {cM : Addr} (F : Fun K "need_month" "need_month" (top 42) f fd) (X : Er K mg "BadMonth" cM) (N1 : Num mg "LAST_MONTH" 119999) (C1 : Cal P w K mg base CX0 2 "is_number_within" ["thing", "least", "most"] (sp_within K)) : FnOk P w K mg base (CXE P w) 3 f fd ["thing"] (sp_need K cM 119999) := by
  obtain ⟨tm, hm⟩ := N1
  refine F.okE (N := ["thing"]) ⟨rfl, rfl, rfl, by decide +kernel, rfl, by decide +kernel, by decide +kernel⟩ (fun vs H Q E h => ?_) (fun cdv A outer s H vs Q E hr h => ?_)
  · obtain ⟨v, rfl, _⟩ := h
    rfl
  · obtain ⟨v, rfl, h⟩ := h
    refine ⟨_, pss_one (ps_if (pt_not (pt_val (pe_cal C1 hr (by decide) pass0 (pa_cons (pv 0) (pa_cons pe_int (pa_cons (pe_glob (v := .int 119999) rfl hm ⟨_, rfl⟩) pa_nil)))))) (pss_one (ps_raise throws_fn rfl rfl X.at' X.ex (pa_cons pe_str pa_nil))) pss_nil), ?_⟩
    rcases h with ⟨z, rfl, h0, h1, q⟩ | ⟨nn | ⟨z, rfl, h0⟩, q⟩
    · refine ⟨_, rfl, _, _, _, rfl, .inl ⟨z, rfl, _, rfl, ?_⟩⟩
      rw [decide_eq_true (show (0 : Int) ≤ z ∧ z ≤ 119999 from ⟨h0, h1⟩)]
      exact iteF q
    · exact ⟨_, rfl, _, _, _, rfl, .inr ⟨nn, false, rfl, iteT ⟨by decide, q⟩⟩⟩
    · refine ⟨_, rfl, _, _, _, rfl, .inl ⟨z, rfl, _, rfl, ?_⟩⟩
      rw [decide_eq_false h0]
      exact iteT ⟨by decide, q⟩
end
end K28
set_option Elab.async false
set_option linter.all false
set_option maxRecDepth 100000
set_option maxHeartbeats 4000000
namespace K28
open PySem PySem.NumText L2 Pg
seal PE PA PT PW PS PSs PG PGs PI PIf PO PK
section
variable {P : Program} {w : World} {K : PySem.W.Frag} {mg : Str → Option Value} {base : Heap} {f : Addr} {fd : FuncData} {d : Nat → Addr} {cR : Addr}
theorem ok_year_of {cM : Addr} (F : Fun K "year_of" "year_of" (top 43) f fd) (N1 : Num mg "YEAR_MONTHS" 12) (C1 : Cal P w K mg base (CXE P w) 3 "need_month" ["thing"] (sp_need K cM 119999)) : FnOk P w K mg base (CXE P w) 4 f fd ["month"] (sp_year_of K cM) := by
  obtain ⟨tm, hm⟩ := N1
  refine F.okE (N := ["month"]) ⟨rfl, rfl, rfl, by decide +kernel, rfl, by decide +kernel, by decide +kernel⟩ (fun vs H Q E h => ?_) (fun cdv A outer s H vs Q E hr h => ?_)
  · obtain ⟨v, rfl, _⟩ := h
    rfl
  · obtain ⟨v, rfl, h⟩ := h
    refine ⟨_, pss_cons (ps_expr (pe_cal C1 hr (by decide) passE (pa_cons (pv 0) pa_nil))) (pss_one (ps_ret (pe_op op_fdiv (pv 0) (pe_glob (v := .int 12) rfl hm ⟨_, rfl⟩)))), ?_⟩
    rcases h with ⟨z, rfl, h0, h1, q⟩ | ⟨nn, q⟩
    · exact ⟨_, rfl, _, rfl, .inl ⟨z, rfl, h0, h1, _, rfl, _, _, rfl, rfl, ⟨by decide, by decide⟩, q⟩⟩
    · exact ⟨_, rfl, _, rfl, .inr ⟨nn, q⟩⟩
end
end K28
set_option Elab.async false
set_option linter.all false
set_option maxRecDepth 100000
set_option maxHeartbeats 4000000
namespace K28
open PySem PySem.NumText L2 Pg
seal PE PA PT PW PS PSs PG PGs PI PIf PO PK
section
variable {P : Program} {w : World} {K : PySem.W.Frag} {mg : Str → Option Value} {base : Heap} {f : Addr} {fd : FuncData} {d : Nat → Addr} {cR : Addr}
theorem ok_place_of {cM : Addr} (F : Fun K "place_of" "place_of" (top 44) f fd) (N1 : Num mg "YEAR_MONTHS" 12) (C1 : Cal P w K mg base (CXE P w) 3 "need_month" ["thing"] (sp_need K cM 119999)) : FnOk P w K mg base (CXE P w) 4 f fd ["month"] (sp_place_of K cM) := by
  obtain ⟨tm, hm⟩ := N1
  refine F.okE (N := ["month"]) ⟨rfl, rfl, rfl, by decide +kernel, rfl, by decide +kernel, by decide +kernel⟩ (fun vs H Q E h => ?_) (fun cdv A outer s H vs Q E hr h => ?_)
  · obtain ⟨v, rfl, _⟩ := h
    rfl
  · obtain ⟨v, rfl, h⟩ := h
    refine ⟨_, pss_cons (ps_expr (pe_cal C1 hr (by decide) passE (pa_cons (pv 0) pa_nil))) (pss_one (ps_ret (pe_op op_add (pe_op op_mod (pv 0) (pe_glob (v := .int 12) rfl hm ⟨_, rfl⟩)) pe_int))), ?_⟩
    rcases h with ⟨z, rfl, h0, h1, q⟩ | ⟨nn, q⟩
    · exact ⟨_, rfl, _, rfl, .inl ⟨z, rfl, h0, h1, _, rfl, _, _, rfl, rfl, (by show (0 : Int) < 12; decide), _, _, rfl, rfl, q⟩⟩
    · exact ⟨_, rfl, _, rfl, .inr ⟨nn, q⟩⟩
end
end K28
set_option Elab.async false
set_option linter.all false
set_option maxRecDepth 100000
set_option maxHeartbeats 4000000
namespace K28
open PySem PySem.NumText L2 Pg
seal PE PA PT PW PS PSs PG PGs PI PIf PO PK
section
variable {P : Program} {w : World} {K : PySem.W.Frag} {mg : Str → Option Value} {base : Heap} {f : Addr} {fd : FuncData} {d : Nat → Addr} {cR : Addr}
theorem ok_year_text (F : Fun K "year_text" "year_text" (top 45) f fd) (G : Glb mg) : FnOk P w K mg base CX0 1 f fd ["year"] sp_year_text := by
  refine F.ok (N := ["year"]) ⟨rfl, rfl, rfl, by decide +kernel, rfl, by decide +kernel, by decide +kernel⟩ (fun vs H Q E h => ?_) (fun cdv A outer s H vs Q E hr h => ?_)
  · obtain ⟨z, rfl, _⟩ := h
    rfl
  · obtain ⟨z, rfl, h0, h1, q⟩ := h
    refine ⟨_, pss_one (ps_ret (pe_bm PySem.F.plainAttrs_str PySem.F.slot_str_zfill PySem.F.type_str_zfill mt_zfill (pe_callTy call_str_int rfl G.str boot_str (pa_cons (pv 0) pa_nil)) (pa_cons pe_int pa_nil))), ?_⟩
    exact ⟨_, rfl, z, rfl, log_small h0 (by omega), rfl, _, _, rfl, rfl, by decide +kernel, q⟩
end
end K28
set_option Elab.async false
set_option linter.all false
set_option maxRecDepth 100000
set_option maxHeartbeats 4000000
namespace K28
open PySem PySem.NumText L2 Pg
seal PE PA PT PW PS PSs PG PGs PI PIf PO PK
section
variable {P : Program} {w : World} {K : PySem.W.Frag} {mg : Str → Option Value} {base : Heap} {f : Addr} {fd : FuncData} {d : Nat → Addr} {cR : Addr}
theorem ok_month_text {cM : Addr} (F : Fun K "month_text" "month_text" (top 46) f fd) (G : Glb mg) (Cp : Cal P w K mg base (CXE P w) 4 "place_of" ["month"] (sp_place_of K cM)) (Cy : Cal P w K mg base (CXE P w) 4 "year_of" ["month"] (sp_year_of K cM))
    (Ct : Cal P w K mg base CX0 1 "year_text" ["year"] sp_year_text) : FnOk P w K mg base (CXE P w) 5 f fd ["month"] (sp_month_text K cM) := by
  have nd : (["month", "place"] : List Str).Nodup := by decide +kernel
  refine F.okE (N := ["month", "place"]) ⟨rfl, rfl, rfl, by decide +kernel, rfl, by decide +kernel, by decide +kernel⟩ (fun vs H Q E h => ?_) (fun cdv A outer s H vs Q E hr h => ?_)
  · obtain ⟨v, rfl, _⟩ := h
    rfl
  · obtain ⟨v, rfl, h⟩ := h
    refine ⟨_, pss_cons (ps_set (i := 1) nd rfl (Or.inl rfl) (pe_bm PySem.F.plainAttrs_str PySem.F.slot_str_zfill PySem.F.type_str_zfill mt_zfill (pe_callTy call_str_int rfl G.str boot_str (pa_cons (pe_cal Cp hr (by decide) passE (pa_cons (pv 0) pa_nil)) pa_nil)) (pa_cons pe_int pa_nil)))
      (pss_one (ps_ret (pe_op op_add_str (pe_op op_add_str (pe_cal Ct hr (by decide) pass0 (pa_cons (pe_cal Cy hr (by decide) passE (pa_cons (pv 0) pa_nil)) pa_nil)) pe_str) (pv 1)))), ?_⟩
    rcases h with ⟨z, rfl, h0, h1, q⟩ | ⟨nn, q⟩
    · have y0 : 0 ≤ z / 12 := mY0 h0
      have y1 : z / 12 ≤ 9999 := mY1 h1
      have ly := yearS_len y0 y1
      have lp : (placeS (z % 12 + 1)).length = 2 := placeS_len (mP0 z) (mP1 z)
      refine ⟨_, rfl, _, rfl, .inl ⟨z, rfl, h0, h1, z % 12 + 1, rfl, log_small (mP0 z) (mBP z), rfl, _, _, rfl, rfl, by decide +kernel, ?_⟩⟩
      refine ⟨_, rfl, _, rfl, .inl ⟨z, rfl, h0, h1, z / 12, rfl, y0, y1, _, _, rfl, rfl, by rw [ly, dash_len]; exact fitS (Nat.le_refl _) rfl, _, rfl, _, _, rfl, rfl, ?_, q⟩⟩
      show (yearS (z / 12) ++ ("-" : Str)).length + (placeS (z % 12 + 1)).length ≤ sizeLine
      rw [app_len, ly, dash_len, lp]; exact fitS (Nat.le_refl _) rfl
    · exact ⟨_, rfl, _, rfl, .inr ⟨nn, q⟩⟩
end
end K28
set_option Elab.async false
set_option linter.all false
set_option maxRecDepth 100000
set_option maxHeartbeats 4000000
namespace K28
open PySem PySem.NumText L2 Pg
seal PE PA PT PW PS PSs PG PGs PI PIf PO PK
section
variable {P : Program} {w : World} {K : PySem.W.Frag} {mg : Str → Option Value} {base : Heap} {f : Addr} {fd : FuncData} {d : Nat → Addr} {cR : Addr}
theorem ok_is_month_text (F : Fun K "is_month_text" "is_month_text" (top 47) f fd) (G : Glb mg) (C1 : Cal P w K mg base CX0 1 "are_figures" ["text"] sp_figs) : FnOk P w K mg base CX0 2 f fd ["thing"] (sp_is_month_text K) := by
  refine F.ok (N := ["thing"]) ⟨rfl, rfl, rfl, by decide +kernel, rfl, by decide +kernel, by decide +kernel⟩ (fun vs H Q E h => ?_) (fun cdv A outer s H vs Q E hr h => ?_)
  · obtain ⟨z, rfl, _⟩ := h
    rfl
  · obtain ⟨v, rfl, h⟩ := h
    refine ⟨_, (pss_cons (ps_if (PW.pt (pw_or (pt_not (pt_val (pe_callB call_isinst rfl G.isinstance boot_isinstance (pa_cons (pv 0) (pa_cons (pe_bltn (v := .ty "str") rfl G.str boot_str rfl) pa_nil))))) (pw_or1 (pt_cmpR op_ne (pe_callB call_len_str rfl G.len boot_len (pa_cons (pv 0) pa_nil)) pe_int (nomark _))))) (pss_one (ps_ret pe_bl)) pss_nil)
        (pss_one (ps_ret (pe_and (pe_cal C1 hr (by decide) pass0 (pa_cons (pe_slice sl_str (pv 0) po_none (po_some pe_int)) pa_nil)) (pe_and (pe_cmpR op_eq (pe_at ix_str (pv 0) pe_int) pe_str (nomark _)) (pe_one (pe_cal C1 hr (by decide) pass0 (pa_cons (pe_slice sl_str (pv 0) (po_some pe_int) po_none) pa_nil)))))))), ?_⟩
    rcases h with ⟨⟨r, hr', ty, ne⟩, q⟩ | ⟨z, rfl, hz, q⟩
    · obtain ⟨_, _, k3, _⟩ := kit_tab (K := K) r hr'
      have e : r.2.2.2.1 = false := by
        simp only [numT, List.mem_cons, List.not_mem_nil, or_false] at hr'
        rcases hr' with rfl | rfl | rfl | rfl | rfl | rfl | rfl <;> first | rfl | exact absurd rfl ne
      rw [e] at k3
      exact ⟨_, rfl, _, _, _, _, false, rfl, rfl, .inl ty, k3, false, rfl, iteT q⟩
    have zf : z.length ≤ sizeLine := fitS hz rfl
    refine ⟨_, rfl, _, _, _, _, true, rfl, rfl, .inl (.str z), rfl, true, rfl, iteF ⟨_, rfl, z, rfl, zf, rfl, _, rfl, ite2 (fun e => ?_) (fun e => ?_)⟩⟩
    · have e1 : ¬ z.cps.toList.length = 7 := fun y => by
        rw [← len_codes] at y
        rw [y] at e
        exact absurd e (by decide)
      have q' := q H (Same.refl _)
      unfold mtB at q'
      rw [decide_eq_false e1] at q'
      exact q'
    have e1 : z.length = 7 := by
      have : ¬ (!decide (V.int (z.length : Nat) = V.int 7)) = true := e
      rw [dIntB] at this
      simp at this
      omega
    have e2 : z.cps.toList.length = 7 := by rw [← len_codes]; exact e1
    have c4 : (Txt.slice z none (some 4)).cps.toList = z.cps.toList.take 4 := head_codes (k := 4) (by rw [e2]; decide)
    have c5 : (Txt.slice z (some 5) none).cps.toList = z.cps.toList.drop 5 := tail_codes (k := 5) (by rw [e2]; decide)
    have hc : z.cps.toList[4]? = some z.cps.toList[4] := List.getElem?_eq_getElem (by rw [e2]; decide)
    unfold mtB at q
    rw [decide_eq_true e2, Bool.true_and, hc] at q
    refine ⟨_, rfl, _, rfl, _, rfl, zf, _, rfl, Nat.le_trans (Txt.slice_le z _ _) hz, fun H1 s1 => ?_⟩
    rw [c4]
    refine ⟨_, rfl, ite2 (fun e => ?_) (fun e => ?_)⟩
    · rw [e, Bool.true_and] at q
      refine ⟨_, rfl, z, 4, _, rfl, rfl, zf, atI_of (i := 4) (by decide) hc, rfl, _, rfl, ite2 (fun e => ?_) (fun e => ?_)⟩
      · rw [dash_eq] at e
        have ec : z.cps.toList[4] = 45 := of_decide_eq_true e
        rw [ec, decide_eq_true rfl, Bool.true_and] at q
        refine ⟨_, rfl, _, rfl, _, rfl, zf, _, rfl, Nat.le_trans (Txt.slice_le z _ _) hz, fun H2 s2 => ?_⟩
        rw [c5]
        exact q _ (s1.trans s2)
      · rw [dash_eq] at e
        have ec : ¬ z.cps.toList[4] = 45 := fun y => e (decide_eq_true y)
        have q' := q H1 s1
        rw [decide_eq_false (fun y => ec (Option.some.inj y)), Bool.false_and] at q'
        exact q'
    · have e' : figL (z.cps.toList.take 4) = false := by simpa using e
      have q' := q H1 s1
      rw [e', Bool.false_and] at q'
      exact q'
end
end K28
set_option Elab.async false
set_option linter.all false
set_option maxRecDepth 100000
set_option maxHeartbeats 4000000
namespace K28
open PySem PySem.NumText L2 Pg
seal PE PA PT PW PS PSs PG PGs PI PIf PO PK
section
variable {P : Program} {w : World} {K : PySem.W.Frag} {mg : Str → Option Value} {base : Heap} {f : Addr} {fd : FuncData} {d : Nat → Addr} {cR : Addr}
theorem ok_read_month {cT : Addr} (F : Fun K "read_month" "read_month" (top 48) f fd) (G : Glb mg) (X : Er K mg "BadText" cT) (N1 : Num mg "YEAR_MONTHS" 12) (C1 : Cal P w K mg base CX0 2 "is_month_text" ["thing"] (sp_is_month_text K)) : FnOk P w K mg base (CXE P w) 3 f fd ["text"] (sp_read_month K cT) := by
  obtain ⟨tm, hm⟩ := N1
  have nd : (["text", "place"] : List Str).Nodup := by decide +kernel
  refine F.okE (N := ["text", "place"]) ⟨rfl, rfl, rfl, by decide +kernel, rfl, by decide +kernel, by decide +kernel⟩ (fun vs H Q E h => ?_) (fun cdv A outer s H vs Q E hr h => ?_)
  · obtain ⟨v, rfl, _⟩ := h
    rfl
  · obtain ⟨v, rfl, h⟩ := h
    refine ⟨_, (pss_cons (ps_if (pt_not (pt_val (pe_cal C1 hr (by decide) pass0 (pa_cons (pv 0) pa_nil)))) (pss_one (ps_raise throws_fn rfl rfl X.at' X.ex (pa_cons pe_str pa_nil))) pss_nil)
        (pss_cons (ps_set (i := 1) nd rfl (Or.inl rfl) (pe_callTy call_int_text rfl G.int boot_int (pa_cons (pe_slice sl_str (pv 0) (po_some pe_int) po_none) pa_nil)))
        (pss_cons (ps_if (PW.pt (pw_or (pt_cmpR op_lt (pv 1) pe_int (nomark _)) (pw_or1 (pt_cmpR op_gt (pv 1) (pe_glob (v := .int 12) rfl hm ⟨_, rfl⟩) (nomark _))))) (pss_one (ps_raise throws_fn rfl rfl X.at' X.ex (pa_cons pe_str pa_nil))) pss_nil)
        (pss_one (ps_ret (pe_op op_sub (pe_op op_add (pe_op op_mul (pe_callTy call_int_text rfl G.int boot_int (pa_cons (pe_slice sl_str (pv 0) po_none (po_some pe_int)) pa_nil)) (pe_glob (v := .int 12) rfl hm ⟨_, rfl⟩)) (pv 1)) pe_int)))))), ?_⟩
    rcases h with ⟨ns, q⟩ | ⟨z, rfl, hz, q⟩
    · exact ⟨_, rfl, _, rfl, .inl ⟨ns, false, rfl, iteT ⟨by decide, q⟩⟩⟩
    refine ⟨_, rfl, _, rfl, .inr ⟨z, rfl, hz, fun H1 s1 => ?_⟩⟩
    obtain ⟨q1, q2⟩ := q H1 s1
    cases hb : mtB z with
    | false =>
      refine ⟨false, rfl, iteT ⟨by decide, q2 ?_⟩⟩
      unfold readM
      rw [hb, if_neg (fun h => Bool.false_ne_true h.1)]
    | true =>
      refine ⟨true, rfl, iteF ?_⟩
      have hb' := hb
      unfold mtB at hb'
      simp only [Bool.and_eq_true, decide_eq_true_iff] at hb'
      obtain ⟨h7, f4, _, f5⟩ := hb'
      have c4 : (Txt.slice z none (some 4)).cps.toList = z.cps.toList.take 4 := head_codes (k := 4) (by rw [h7]; decide)
      have c5 : (Txt.slice z (some 5) none).cps.toList = z.cps.toList.drop 5 := tail_codes (k := 5) (by rw [h7]; decide)
      have zf : z.length ≤ sizeLine := fitS hz rfl
      have z7 : z.length = 7 := by rw [len_codes]; exact h7
      have l4 : (Txt.slice z none (some 4)).length ≤ 640 := leB (Txt.slice_le z _ _) (by rw [z7]; rfl)
      have l5 : (Txt.slice z (some 5) none).length ≤ 640 := leB (Txt.slice_le z _ _) (by rw [z7]; rfl)
      obtain ⟨a4, n4⟩ := figL_digits f4
      obtain ⟨a5, n5⟩ := figL_digits f5
      have t4 := intText_digits (x := Txt.slice z none (some 4)) (by rw [c4]; exact a4) (by rw [c4]; exact n4) (leB l4 rfl)
      have t5 := intText_digits (x := Txt.slice z (some 5) none) (by rw [c5]; exact a5) (by rw [c5]; exact n5) (leB l5 rfl)
      rw [c4] at t4
      rw [c5] at t5
      refine ⟨_, rfl, _, rfl, _, rfl, zf, _, _, rfl, t5, l5, ?_⟩
      refine ⟨_, rfl, _, _, rfl, rfl, _, rfl, ite2 (fun e => ⟨by decide, q2 ?_⟩) (fun e => ⟨_, rfl, _, _, rfl, rfl, _, rfl, ite2 (fun e2 => ⟨by decide, q2 ?_⟩) (fun e2 => ?_)⟩)⟩
      · have := of_decide_eq_true e
        unfold readM
        rw [if_neg (fun h => by have := h.2.1; omega)]
      · have := of_decide_eq_true e2
        unfold readM
        rw [if_neg (fun h => by have := h.2.2; omega)]
      · have e1 : ¬ ((digitsVal (z.cps.toList.drop 5) : Nat) : Int) < 1 := fun c => e (decide_eq_true c)
        have e3 : ¬ (12 : Int) < ((digitsVal (z.cps.toList.drop 5) : Nat) : Int) := fun c => e2 (decide_eq_true c)
        refine ⟨_, rfl, _, rfl, _, rfl, zf, _, _, rfl, t4, l4, _, _, rfl, rfl, .inr ⟨by decide, by decide⟩, _, rfl, _, _, rfl, rfl, _, _, rfl, rfl, q1 _ ?_⟩
        unfold readM
        rw [if_pos ⟨hb, by omega, by omega⟩]
end
end K28
set_option Elab.async false
set_option linter.all false
set_option maxRecDepth 100000
set_option maxHeartbeats 4000000
namespace K28
open PySem PySem.NumText L2 Pg
seal PE PA PT PW PS PSs PG PGs PI PIf PO PK
section
variable {P : Program} {w : World} {K : PySem.W.Frag} {mg : Str → Option Value} {base : Heap} {f : Addr} {fd : FuncData} {d : Nat → Addr} {cR : Addr}
theorem ok_cell (F : Fun K "_law_cell" "_law_cell" (top 61) f fd) (G : Glb mg) : FnOk P w K mg base CX0 1 f fd ["_law_script", "_law_k"] (sp_cell K) := by
  refine F.ok (N := ["_law_script", "_law_k"]) ⟨rfl, rfl, rfl, by decide +kernel, rfl, by decide +kernel, by decide +kernel⟩ (fun vs H Q E h => ?_) (fun cdv A outer s H vs Q E hr h => ?_)
  · obtain ⟨a, k, ns, rfl, _⟩ := h
    rfl
  · obtain ⟨a, k, ns, rfl, hs, hk, q⟩ := h
    refine ⟨_, (pss_cons (ps_if (pt_cmpR op_lt (pv 1) (pe_callB call_len_seq rfl G.len PySem.boot_len (pa_cons (pv 0) pa_nil)) (nomark _)) (pss_one (ps_ret (pe_at ix_list (pv 0) (pv 1)))) pss_nil)
        (pss_one (ps_ret pe_int))), ?_⟩
    refine ⟨_, rfl, _, rfl, a, _, rfl, .inl hs, _, _, rfl, rfl, _, rfl, ite2 (fun e => ?_) (fun e => ?_)⟩
    · exact ⟨_, rfl, _, rfl, a, _, _, _, rfl, rfl, hs, cell_at hk (of_decide_eq_true e), q⟩
    · rw [cell_out fun c => e (decide_eq_true c)] at q
      exact q
end
end K28
set_option Elab.async false
set_option linter.all false
set_option maxRecDepth 100000
set_option maxHeartbeats 4000000
namespace K28
open PySem PySem.NumText L2 Pg
seal PE PA PT PW PS PSs PG PGs PI PIf PO PK
section
variable {P : Program} {w : World} {K : PySem.W.Frag} {mg : Str → Option Value} {base : Heap} {f : Addr} {fd : FuncData} {d : Nat → Addr} {cR : Addr}
theorem ok_mixed (F : Fun K "_law_mixed" "_law_mixed" (top 62) f fd) (C1 : Cal P w K mg base CX0 1 "_law_cell" ["_law_script", "_law_k"] (sp_cell K)) : FnOk P w K mg base CX0 2 f fd ["_law_script", "_law_k"] (sp_mixed K) := by
  refine F.ok (N := ["_law_script", "_law_k"]) ⟨rfl, rfl, rfl, by decide +kernel, rfl, by decide +kernel, by decide +kernel⟩ (fun vs H Q E h => ?_) (fun cdv A outer s H vs Q E hr h => ?_)
  · obtain ⟨a, k, ns, rfl, _⟩ := h
    rfl
  · obtain ⟨a, k, ns, rfl, hs, hk, hk2, q⟩ := h
    refine ⟨_, (pss_one (ps_ret (pe_op op_mod (pe_op op_mul (pe_op op_mod (pe_op op_add (pe_op op_add (pe_op op_mul (pe_cal C1 hr (by decide) pass0 (pa_cons (pv 0) (pa_cons (pv 1) pa_nil))) pe_int) (pe_op op_mul (pe_op op_mul (pe_op op_mul pe_int (pv 1)) (pv 1)) (pv 1))) pe_int) pe_int) pe_int) pe_int))), ?_⟩
    refine ⟨_, rfl, _, rfl, a, k, ns, rfl, hs, hk, _, _, rfl, rfl, .inr ⟨by omega, by omega⟩, ?_⟩
    refine ⟨_, rfl, _, _, rfl, rfl, .inr ⟨by omega, by omega⟩, _, rfl, _, _, rfl, rfl, .inr ⟨by omega, by omega⟩, _, rfl, _, _, rfl, rfl, .inr ⟨by omega, by omega⟩, ?_⟩
    refine ⟨_, _, rfl, rfl, _, _, rfl, rfl, _, _, rfl, rfl, (by show (0 : Int) < 2147483647; decide), _, _, rfl, rfl, .inr ⟨by omega, by omega⟩, _, _, rfl, rfl, (by show (0 : Int) < 2147483629; decide), q⟩
end
end K28
set_option Elab.async false
set_option linter.all false
set_option maxRecDepth 100000
set_option maxHeartbeats 4000000
namespace K28
open PySem PySem.NumText L2 Pg
seal PE PA PT PW PS PSs PG PGs PI PIf PO PK
section
variable {P : Program} {w : World} {K : PySem.W.Frag} {mg : Str → Option Value} {base : Heap} {f : Addr} {fd : FuncData} {d : Nat → Addr} {cR : Addr}
theorem ok_whole (F : Fun K "_law_whole" "_law_whole" (top 63) f fd) (G : Glb mg) : FnOk P w K mg base CX0 1 f fd ["_law_found"] sp_whole := by
  refine F.ok (N := ["_law_found"]) ⟨rfl, rfl, rfl, by decide +kernel, rfl, by decide +kernel, by decide +kernel⟩ (fun vs H Q E h => ?_) (fun cdv A outer s H vs Q E hr h => ?_)
  · obtain ⟨v, rfl, _⟩ := h
    rfl
  · obtain ⟨z, rfl, q⟩ := h
    refine ⟨_, pss_one (ps_ret (pe_and (pe_callB call_isinst rfl G.isinstance boot_isinstance (pa_cons (pv 0) (pa_cons (pe_bltn (v := .ty "int") rfl G.int boot_int rfl) pa_nil)))
      (pe_one (pe_not (pe_callB call_isinst rfl G.isinstance boot_isinstance (pa_cons (pv 0) (pa_cons (pe_bltn (v := .ty "bool") rfl G.bool boot_bool rfl) pa_nil))))))), ?_⟩
    refine ⟨_, rfl, _, _, _, _, true, rfl, rfl, .inl (.int z), rfl, true, rfl, iteT ?_⟩
    exact ⟨_, rfl, _, _, _, _, false, rfl, rfl, .inl (.int z), rfl, false, rfl, q⟩
end
end K28
set_option Elab.async false
set_option linter.all false
set_option maxRecDepth 100000
namespace Pg
open PySem L2

noncomputable def rIs (K : PySem.W.Frag) : List V → Hp → VK → Prop := fun xs H Q => ∃ x c cv t b, xs = [x, c] ∧ clsV c = some cv ∧ TyX K H x t ∧ PySem.W.kitOne K t cv = some b ∧ Q (.bl b) H
noncomputable def tK1 (K : PySem.W.Frag) (w : Str) (c : Addr) : TE := tTupS (tCons (tC (.str w)) (tCons (tCB (rIs K) (tCons (tVar 0) (tCons (tC (.ref c)) tNil))) tNil))
noncomputable def tKs (K : PySem.W.Frag) : List (Str × Addr × Bool) → TA
  | [] => tNil
  | x :: r => tCons (tK1 K x.1 x.2.1) (tKs K r)
noncomputable def bits (l : List (Str × Addr × Bool)) : List (Str × Bool) := l.map fun x => (x.1, x.2.2)

noncomputable def Tups (H : Hp) (ts : List V) (ps : List (Str × Bool)) : Prop := ts.length = ps.length ∧ ∀ (i : Nat) p, ps[i]? = some p → ∃ t, ts[i]? = some (V.ref t) ∧ H t = some (.tup [.str p.1, .bl p.2])
theorem Tups.same {H H' : Hp} {ts : List V} {ps : List (Str × Bool)} (h : Tups H ts ps) (s : Same H H') : Tups H' ts ps :=
  ⟨h.1, fun i p e => let ⟨t, e1, e2⟩ := h.2 i p e; ⟨t, e1, s _ _ e2⟩⟩
theorem Tups.app {H : Hp} {ts us : List V} {ps qs : List (Str × Bool)} (h : Tups H ts ps) (k : Tups H us qs) : Tups H (ts ++ us) (ps ++ qs) := by
  refine ⟨by rw [List.length_append, List.length_append, h.1, k.1], fun i p e => ?_⟩
  by_cases hi : i < ps.length
  · rw [List.getElem?_append_left hi] at e
    obtain ⟨t, e1, e2⟩ := h.2 i p e
    exact ⟨t, by rw [List.getElem?_append_left (by rw [h.1]; exact hi)]; exact e1, e2⟩
  · rw [List.getElem?_append_right (by omega)] at e
    obtain ⟨t, e1, e2⟩ := k.2 _ p e
    exact ⟨t, by rw [List.getElem?_append_right (by rw [h.1]; omega), h.1]; exact e1, e2⟩
section
variable {K : PySem.W.Frag} {ea C : Addr} {σ : St}
theorem kt_all (hσ : σ[0]? = some (some (.ref ea))) : ∀ (l : List (Str × Addr × Bool)) (H : Hp) (Q : List V → Hp → Prop), Held K H ea C → (∀ x ∈ l, PySem.W.kitOne K (.ref C) (.ref x.2.1) = some x.2.2) →
    (∀ ts H', Same H H' → Tups H' ts (bits l) → Q ts H') → tKs K l σ H Q
  | [], H, Q, _, _, q => q [] H (Same.refl _) ⟨rfl, fun i p e => nomatch e⟩
  | x :: r, H, Q, h, hk, q => by
    refine ⟨_, hσ, _, _, _, _, _, rfl, rfl, h.ty, hk x List.mem_cons_self, lenOk rfl, fun t H1 s1 _ e1 => ?_⟩
    refine kt_all hσ r H1 _ (h.same s1) (fun y hy => hk y (List.mem_cons_of_mem _ hy)) fun ts H2 s2 k => ?_
    refine q _ H2 (s1.trans s2) ⟨by rw [List.length_cons, k.1]; rfl, fun i p e => ?_⟩
    cases i with
    | zero => cases e; exact ⟨t, rfl, s2 _ _ e1⟩
    | succ i => exact k.2 i p e
theorem k_lst (l : List (Str × Addr × Bool)) {H : Hp} {Q : VK} (hσ : σ[0]? = some (some (.ref ea))) (h : Held K H ea C) (hk : ∀ x ∈ l, PySem.W.kitOne K (.ref C) (.ref x.2.1) = some x.2.2) (hl : Nat.ble l.length 1000 = true)
    (q : ∀ p ts H', Same H H' → H' p = some (.lst ts) → Tups H' ts (bits l) → Q (.ref p) H') : tLstS (tKs K l) σ H Q :=
  kt_all hσ l H _ h hk fun ts H1 s1 k => ⟨by rw [k.1]; unfold bits; rw [List.length_map]; exact lenOk hl, fun p H2 s2 _ e => q p ts H2 (s1.trans s2) e (k.same s2)⟩
theorem k_cat (l : List (Str × Addr × Bool)) {ps : List (Str × Bool)} {f : Addr} {ts : List V} {H : Hp} {Q : VK} (hσ : σ[0]? = some (some (.ref ea))) (h1 : σ[1]? = some (some (.ref f))) (hf : H f = some (.lst ts)) (kf : Tups H ts ps) (h : Held K H ea C)
    (hk : ∀ x ∈ l, PySem.W.kitOne K (.ref C) (.ref x.2.1) = some x.2.2) (hl : Nat.ble l.length 1000 = true) (hp : Nat.ble (ps.length + l.length) 1000 = true)
    (q : ∀ p us H', Same H H' → H' p = some (.lst us) → Tups H' us (ps ++ bits l) → Q (.ref p) H') : tOp rCatS (tVar 1) (tLstS (tKs K l)) σ H Q := by
  refine ⟨_, h1, k_lst l hσ h hk hl fun p us H1 s1 e1 k1 => ⟨f, p, ts, us, rfl, rfl, s1 _ _ hf, e1, ?_, fun r H2 s2 _ e2 => q r _ H2 (s1.trans s2) e2 (((kf.same s1).app k1).same s2)⟩⟩
  have := k1.1
  unfold bits at this
  rw [List.length_map] at this
  rw [kf.1, this]
  exact lenOk hp
end
end Pg
set_option Elab.async false
set_option linter.all false
set_option maxRecDepth 100000
set_option maxHeartbeats 4000000
namespace K28
open PySem PySem.NumText L2 Pg
seal PE PA PT PW PS PSs PG PGs PI PIf PO PK
section
variable {P : Program} {w : World} {K : PySem.W.Frag} {mg : Str → Option Value} {base : Heap} {f : Addr} {fd : FuncData} {d : Nat → Addr} {cR : Addr}
set_option maxHeartbeats 4000000 in
theorem ok_kind {d : Nat → Addr} (F : Fun K "_law_kind" "_law_kind" (top 74) f fd) (G : Glb mg) (D : Kds mg d) : FnOkQ P w K mg base 1 f fd ["_law_e"] (sp_kind K d) := by
  have nd : (["_law_e", "_law_found"] : List Str).Nodup := by decide +kernel
  have nc : (["_law_word_here", "_law_fits"] : List Str).Nodup := by decide +kernel
  refine F.okQ (N := ["_law_e", "_law_found"]) ⟨rfl, rfl, rfl, by decide +kernel, rfl, by decide +kernel, by decide +kernel⟩ (fun vs H Q E h => ?_) (fun cdv A outer s H vs Q hr hq h => ?_)
  · obtain ⟨ea, C, i, rfl, _⟩ := h
    rfl
  · obtain ⟨ea, C, i, rfl, h0, kd, q⟩ := h
    refine' ⟨_, (pss_cons (ps_set (i := 1) nd rfl (Or.inl rfl) (pe_lstS (pa_cons (pe_tupS (pa_cons pe_str (pa_cons (pe_callB call_isinst rfl G.isinstance boot_isinstance (pa_cons (pv 0) (pa_cons (pe_glob (v := .ref (d 0)) rfl D.g0 rfl) pa_nil))) pa_nil))) (pa_cons (pe_tupS (pa_cons pe_str (pa_cons (pe_callB call_isinst rfl G.isinstance boot_isinstance (pa_cons (pv 0) (pa_cons (pe_glob (v := .ref (d 1)) rfl D.g1 rfl) pa_nil))) pa_nil))) (pa_cons (pe_tupS (pa_cons pe_str (pa_cons (pe_callB call_isinst rfl G.isinstance boot_isinstance (pa_cons (pv 0) (pa_cons (pe_glob (v := .ref (d 2)) rfl D.g2 rfl) pa_nil))) pa_nil))) pa_nil)))))
      (pss_cons (ps_set (i := 1) nd rfl (Or.inl rfl) (pe_op op_catS (pv 1) (pe_lstS (pa_cons (pe_tupS (pa_cons pe_str (pa_cons (pe_callB call_isinst rfl G.isinstance boot_isinstance (pa_cons (pv 0) (pa_cons (pe_glob (v := .ref (d 3)) rfl D.g3 rfl) pa_nil))) pa_nil))) (pa_cons (pe_tupS (pa_cons pe_str (pa_cons (pe_callB call_isinst rfl G.isinstance boot_isinstance (pa_cons (pv 0) (pa_cons (pe_glob (v := .ref (d 4)) rfl D.g4 rfl) pa_nil))) pa_nil))) pa_nil)))))
      (pss_cons (ps_set (i := 1) nd rfl (Or.inl rfl) (pe_op op_catS (pv 1) (pe_lstS (pa_cons (pe_tupS (pa_cons pe_str (pa_cons (pe_callB call_isinst rfl G.isinstance boot_isinstance (pa_cons (pv 0) (pa_cons (pe_glob (v := .ref (d 5)) rfl D.g5 rfl) pa_nil))) pa_nil))) (pa_cons (pe_tupS (pa_cons pe_str (pa_cons (pe_callB call_isinst rfl G.isinstance boot_isinstance (pa_cons (pv 0) (pa_cons (pe_glob (v := .ref (d 6)) rfl D.g6 rfl) pa_nil))) pa_nil))) pa_nil)))))
      (pss_cons (ps_set (i := 1) nd rfl (Or.inl rfl) (pe_op op_catS (pv 1) (pe_lstS (pa_cons (pe_tupS (pa_cons pe_str (pa_cons (pe_callB call_isinst rfl G.isinstance boot_isinstance (pa_cons (pv 0) (pa_cons (pe_glob (v := .ref (d 7)) rfl D.g7 rfl) pa_nil))) pa_nil))) (pa_cons (pe_tupS (pa_cons pe_str (pa_cons (pe_callB call_isinst rfl G.isinstance boot_isinstance (pa_cons (pv 0) (pa_cons (pe_glob (v := .ref (d 8)) rfl D.g8 rfl) pa_nil))) pa_nil))) pa_nil)))))
      (pss_cons (ps_set (i := 1) nd rfl (Or.inl rfl) (pe_op op_catS (pv 1) (pe_lstS (pa_cons (pe_tupS (pa_cons pe_str (pa_cons (pe_callB call_isinst rfl G.isinstance boot_isinstance (pa_cons (pv 0) (pa_cons (pe_glob (v := .ref (d 9)) rfl D.g9 rfl) pa_nil))) pa_nil))) (pa_cons (pe_tupS (pa_cons pe_str (pa_cons (pe_callB call_isinst rfl G.isinstance boot_isinstance (pa_cons (pv 0) (pa_cons (pe_glob (v := .ref (d 10)) rfl D.g10 rfl) pa_nil))) pa_nil))) pa_nil)))))
      (pss_cons (ps_set (i := 1) nd rfl (Or.inl rfl) (pe_op op_catS (pv 1) (pe_lstS (pa_cons (pe_tupS (pa_cons pe_str (pa_cons (pe_callB call_isinst rfl G.isinstance boot_isinstance (pa_cons (pv 0) (pa_cons (pe_glob (v := .ref (d 11)) rfl D.g11 rfl) pa_nil))) pa_nil))) (pa_cons (pe_tupS (pa_cons pe_str (pa_cons (pe_callB call_isinst rfl G.isinstance boot_isinstance (pa_cons (pv 0) (pa_cons (pe_glob (v := .ref (d 12)) rfl D.g12 rfl) pa_nil))) pa_nil))) pa_nil)))))
      (pss_cons (ps_set (i := 1) nd rfl (Or.inl rfl) (pe_op op_catS (pv 1) (pe_lstS (pa_cons (pe_tupS (pa_cons pe_str (pa_cons (pe_callB call_isinst rfl G.isinstance boot_isinstance (pa_cons (pv 0) (pa_cons (pe_glob (v := .ref (d 13)) rfl D.g13 rfl) pa_nil))) pa_nil))) (pa_cons (pe_tupS (pa_cons pe_str (pa_cons (pe_callB call_isinst rfl G.isinstance boot_isinstance (pa_cons (pv 0) (pa_cons (pe_glob (v := .ref (d 14)) rfl D.g14 rfl) pa_nil))) pa_nil))) pa_nil)))))
      (pss_one (ps_ret (pe_op op_catS ?comp (pe_op op_repS (pe_lstS (pa_cons pe_str pa_nil)) (pe_callTy call_int1 rfl G.int boot_int (pa_cons (pe_callB call_isinst rfl G.isinstance boot_isinstance (pa_cons (pv 0) (pa_cons (pe_bltn (v := .ty "ValueError") rfl G.ve boot_VE rfl) pa_nil))) pa_nil))))))))))))), ?main⟩
    case comp =>
      refine' pe_comp (Nc := ["_law_word_here", "_law_fits"]) (cl := []) (src := List.replicate 2 none) (g := gTup K 2 (gCons (gName 0) (gCons (gName 1) gNil))) (tt := tB (tVar 1)) (te := tVar 0) ⟨rfl, rfl, by decide +kernel, by decide +kernel, (fun x c z => nomatch z), no_cells (by rfl), no_src, rfl⟩ hq (pv 1) ?hb
      case hb =>
        intro it C s' H' hq'
        exact ⟨pg_tupQ hq' (pgs_cons (pg_name (i := 0) nc rfl (Or.inl rfl)) (pgs_cons (pg_name (i := 1) nc rfl (Or.inl rfl)) pgs_nil)), pif_one (pt_val (pv 1)), pv 0⟩
    refine k_lst [(("amount" : Str), d 0, decide (i = 0)), (("share" : Str), d 1, decide (i = 1)), (("text" : Str), d 2, decide (i = 2))] rfl h0 (List.forall_mem_cons.mpr ⟨kd.k0, (List.forall_mem_cons.mpr ⟨kd.k1, (List.forall_mem_cons.mpr ⟨kd.k2, (fun _ h => nomatch h)⟩)⟩)⟩) rfl fun l0 u0 H0 s0 e0 k0 => ?_
    refine k_cat [(("month" : Str), d 3, decide (i = 3)), (("year" : Str), d 4, decide (i = 4))] rfl rfl e0 k0 (h0.same s0) (List.forall_mem_cons.mpr ⟨kd.k3, (List.forall_mem_cons.mpr ⟨kd.k4, (fun _ h => nomatch h)⟩)⟩) rfl rfl fun l1 u1 H1 s1 e1 k1 => ?_
    have S1 : Same H H1 := s0.trans s1
    refine k_cat [(("rule" : Str), d 5, decide (i = 5)), (("book" : Str), d 6, decide (i = 6))] rfl rfl e1 k1 (h0.same S1) (List.forall_mem_cons.mpr ⟨kd.k5, (List.forall_mem_cons.mpr ⟨kd.k6, (fun _ h => nomatch h)⟩)⟩) rfl rfl fun l2 u2 H2 s2 e2 k2 => ?_
    have S2 : Same H H2 := S1.trans s2
    refine k_cat [(("noyear" : Str), d 7, decide (i = 7)), (("day" : Str), d 8, decide (i = 8))] rfl rfl e2 k2 (h0.same S2) (List.forall_mem_cons.mpr ⟨kd.k7, (List.forall_mem_cons.mpr ⟨kd.k8, (fun _ h => nomatch h)⟩)⟩) rfl rfl fun l3 u3 H3 s3 e3 k3 => ?_
    have S3 : Same H H3 := S2.trans s3
    refine k_cat [(("entry" : Str), d 9, decide (i = 9)), (("nomark" : Str), d 10, decide (i = 10))] rfl rfl e3 k3 (h0.same S3) (List.forall_mem_cons.mpr ⟨kd.k9, (List.forall_mem_cons.mpr ⟨kd.k10, (fun _ h => nomatch h)⟩)⟩) rfl rfl fun l4 u4 H4 s4 e4 k4 => ?_
    have S4 : Same H H4 := S3.trans s4
    refine k_cat [(("noperson" : Str), d 11, decide (i = 11)), (("many" : Str), d 12, decide (i = 12))] rfl rfl e4 k4 (h0.same S4) (List.forall_mem_cons.mpr ⟨kd.k11, (List.forall_mem_cons.mpr ⟨kd.k12, (fun _ h => nomatch h)⟩)⟩) rfl rfl fun l5 u5 H5 s5 e5 k5 => ?_
    have S5 : Same H H5 := S4.trans s5
    refine k_cat [(("close" : Str), d 13, decide (i = 13)), (("line" : Str), d 14, decide (i = 14))] rfl rfl e5 k5 (h0.same S5) (List.forall_mem_cons.mpr ⟨kd.k13, (List.forall_mem_cons.mpr ⟨kd.k14, (fun _ h => nomatch h)⟩)⟩) rfl rfl fun l6 u6 H6 s6 e6 k6 => ?_
    have S6 : Same H H6 := S5.trans s6
    refine ⟨_, rfl, _, _, rfl, SqL.of e6, fun Da hD => turns_pairs (pairs := kPairs i) rfl k6.1 e6 hD (fun j p z => k6.2 j p z) (by show 15 < sizeLine; decide) fun Ha sa ea => ?_⟩
    have ha := (h0.same S6).same sa
    refine ⟨lenOk rfl, fun lv Hb sb nb eb => ?_⟩
    have hb := ha.same sb
    refine ⟨_, rfl, _, _, _, _, _, rfl, rfl, hb.ty, kd.ve, .inr ⟨_, rfl, ?_⟩⟩
    refine ⟨_, _, _, rfl, rfl, eb, by decide, by decide, by decide, fun lr Hc sc nc er => ?_⟩
    refine ⟨_, _, _, _, rfl, rfl, sc _ _ (sb _ _ ea), er, ?_, fun l Hd sd nd' el => ?_⟩
    · refine Nat.le_trans (Nat.add_le_add_right (m := 15) ?_ _) (by decide)
      rw [List.length_map]
      exact Nat.le_trans (List.length_filter_le _ _) (Nat.le_refl _)
    · exact q l Hd (S6.trans (sa.trans (sb.trans (sc.trans sd)))) ((S6.trans (sa.trans (sb.trans sc))).off nd') el
end
end K28
set_option Elab.async false
set_option linter.all false
set_option maxRecDepth 100000
set_option maxHeartbeats 4000000
namespace K28
open PySem PySem.NumText L2 Pg
seal PE PA PT PW PS PSs PG PGs PI PIf PO PK
section
variable {P : Program} {w : World} {K : PySem.W.Frag} {mg : Str → Option Value} {base : Heap} {f : Addr} {fd : FuncData} {d : Nat → Addr} {cR : Addr}
noncomputable def sp_monthL : Sp := fun vs H Q _ => ∃ n, vs = [.int n] ∧ ∀ m H', 0 ≤ m → m ≤ 119999 → Same H H' → Q (.int m) H'
noncomputable def sp_textL : Sp := fun vs H Q _ => ∃ z, vs = [.int z] ∧ 0 ≤ z ∧ z ≤ 119999 ∧ Q (.str (monthS z)) H
noncomputable def sp_readL : Sp := fun vs H Q _ => ∃ z, vs = [.str z] ∧ z.length ≤ 100000 ∧ ∀ H', Same H H' → (∀ m, readM z = some m → Q (.int m) H') ∧ (readM z = none → Q .non H')
noncomputable def sp_bent : Sp := fun vs H Q _ => ∃ z n, vs = [.str z, .int n] ∧ z.length ≤ 100 ∧ ∀ y H', Same H H' → y.length ≤ 1000 → Q (.str y) H'
noncomputable def Refd (K : PySem.W.Frag) (H : Hp) (wh : Int) (v : V) (i : Nat) : Prop :=
  (i = 3 ∧ 0 ≤ wh ∧ wh < 4 ∧ NotTo K H 119999 v) ∨ (i = 4 ∧ (wh = 4 ∨ wh = 5) ∧ NotTo K H 9999 v) ∨ (i = 2 ∧ wh = 6 ∧ (NoStr K H v ∨ ∃ z, v = .str z ∧ z.length ≤ 100000 ∧ readM z = none))
noncomputable def sp_tried (K : PySem.W.Frag) : Sp := fun vs H Q _ => ∃ wh v, vs = [.int wh, v] ∧ ((∃ i, Refd K H wh v i ∧ ∀ l H', Same H H' → H l = none → H' l = some (.lst (kWord i)) → Q (.ref l) H') ∨
  ∃ z m, wh = 6 ∧ v = .str z ∧ z.length ≤ 100000 ∧ readM z = some m ∧ ∀ l H', Same H H' → H l = none → H' l = some (.lst [.int m]) → Q (.ref l) H')
noncomputable def sp_refusedL : Sp := fun vs H Q _ => ∃ n, vs = [.int n] ∧ 0 ≤ n ∧ ∀ H', Same H H' → Q (.bl true) H'
noncomputable def sp_fits : Sp := fun vs H Q _ => ∃ z, vs = [.str z] ∧ z.length ≤ 100000 ∧ ∀ H', Same H H' → Q (.bl true) H'
end
end K28
set_option Elab.async false
set_option linter.all false
set_option maxRecDepth 100000
set_option maxHeartbeats 4000000
namespace K28
open PySem PySem.NumText L2 Pg
seal PE PA PT PW PS PSs PG PGs PI PIf PO PK
section
variable {P : Program} {w : World} {K : PySem.W.Frag} {mg : Str → Option Value} {base : Heap} {f : Addr} {fd : FuncData} {d : Nat → Addr} {cR : Addr}
theorem all_digits_split {l : List Nat} (h7 : l.length = 7) : figL (l.take 4) = true ∧ figL (l.drop 5) = true ↔ (l.take 4 ++ l.drop 5).all isF = true := by
  have e1 : (l.take 4).isEmpty = false := by
    match l, h7 with
    | [_, _, _, _, _, _, _], _ => rfl
  have e2 : (l.drop 5).isEmpty = false := by
    match l, h7 with
    | [_, _, _, _, _, _, _], _ => rfl
  unfold figL
  rw [e1, e2, List.all_append]
  simp
theorem ok_readL (F : Fun K "_law_read_month" "_law_read_month" (top 69) f fd) (G : Glb mg) : FnOk P w K mg base CX0 1 f fd ["_law_text"] sp_readL := by
  have nd : (["_law_text", "_law_figures"] : List Str).Nodup := by decide +kernel
  have nc : (["_law_sign"] : List Str).Nodup := by decide +kernel
  refine F.ok (N := ["_law_text", "_law_figures"]) ⟨rfl, rfl, rfl, by decide +kernel, rfl, by decide +kernel, by decide +kernel⟩ (fun vs H Q E h => ?_) (fun cdv A outer s H vs Q E hr h => ?_)
  · obtain ⟨z, rfl, _⟩ := h
    rfl
  · obtain ⟨z, rfl, hz, q⟩ := h
    have hu := hr.units0
    have ls : 300000 ≤ sizeLine := by rw [sizeLine_eq]; decide
    refine' ⟨_, (pss_cons (ps_set (i := 1) nd rfl (Or.inl rfl) (pe_op op_add_str (pe_slice sl_str (pv 0) po_none (po_some pe_int)) (pe_slice sl_str (pv 0) (po_some pe_int) po_none)))
        (pss_cons (ps_if (PW.pt (pw_or (pt_cmpR op_ne (pe_callB call_len_str rfl G.len boot_len (pa_cons (pv 0) pa_nil)) pe_int (nomark _)) (pw_or (pt_cmpR op_ne (pe_at ix_str (pv 0) pe_int) pe_str (nomark _)) (pw_or1 (pt_cmpR (op_neL hu) ?comp_1 (pe_lstS pa_nil) (nomark _)))))) (pss_one (ps_ret pe_non)) pss_nil)
        (pss_cons (ps_if (pt_notInRng rfl G.range (pe_callTy call_int_text rfl G.int boot_int (pa_cons (pe_slice sl_str (pv 0) (po_some pe_int) po_none) pa_nil)) (pa_cons pe_int (pa_cons pe_int pa_nil))) (pss_one (ps_ret pe_non)) pss_nil)
        (pss_one (ps_ret (pe_op op_sub (pe_op op_add (pe_op op_mul pe_int (pe_callTy call_int_text rfl G.int boot_int (pa_cons (pe_slice sl_str (pv 0) po_none (po_some pe_int)) pa_nil))) (pe_callTy call_int_text rfl G.int boot_int (pa_cons (pe_slice sl_str (pv 0) (po_some pe_int) po_none) pa_nil))) pe_int)))))), ?main⟩
    case comp_1 =>
      refine' pe_compI (Nc := ["_law_sign"]) (cl := []) (src := [none]) (wi := iStr (tVar 1)) (g := gName 0) (tt := tTest (tOp (fun x y H Q => ∃ i j, x = .str i ∧ y = .str j ∧ Q (.bl (!(!(Builtin.Str.occurrences j i 0 j.length 1).isEmpty))) H) (tVar 0) (tC (.str "0123456789")))) (te := tVar 0) ⟨rfl, rfl, by decide +kernel, by decide +kernel, (fun x c z => nomatch z), has_of (by rfl), frm_none frm_nil, rfl⟩ rfl (pi_str (pv 1)) ?hb
      case hb =>
        intro fp C' s' H'
        exact ⟨pg_name (i := 0) nc rfl (Or.inl rfl), pif_one (pt_cmpR op_notIn_str (pv 0) pe_str (by rfl)), pv 0⟩
    have sl : ∀ lo hi, (Txt.slice z lo hi).length ≤ 100000 := fun lo hi => Nat.le_trans (Txt.slice_le z lo hi) hz
    have a4 := sl none (some 4)
    have a5 := sl (some 5) none
    have zf : z.length ≤ sizeLine := fitS hz rfl
    refine ⟨_, rfl, _, rfl, _, rfl, zf, _, rfl, _, rfl, _, rfl, zf, _, _, rfl, rfl, fitA a4 a5 rfl, ?_⟩
    refine ⟨_, rfl, z, rfl, zf, rfl, _, rfl, ite2 (fun e => ?_) (fun e => ?_)⟩
    · refine (q H (Same.refl _)).2 ?_
      have e1 : ¬ z.cps.toList.length = 7 := fun y => by
        rw [← len_codes] at y
        rw [y] at e
        exact absurd e (by decide)
      unfold readM mtB
      rw [decide_eq_false e1, Bool.false_and, if_neg (fun h => Bool.false_ne_true h.1)]
    have e1 : z.length = 7 := by
      have : ¬ (!decide (V.int (z.length : Nat) = V.int 7)) = true := e
      rw [dIntB] at this
      simp at this
      omega
    have h7 : z.cps.toList.length = 7 := by rw [← len_codes]; exact e1
    have c4 : (Txt.slice z none (some 4)).cps.toList = z.cps.toList.take 4 := head_codes (k := 4) (by rw [h7]; decide)
    have c5 : (Txt.slice z (some 5) none).cps.toList = z.cps.toList.drop 5 := tail_codes (k := 5) (by rw [h7]; decide)
    have hc : z.cps.toList[4]? = some z.cps.toList[4] := List.getElem?_eq_getElem (by rw [h7]; decide)
    refine ⟨_, rfl, z, 4, _, rfl, rfl, zf, atI_of (i := 4) (by decide) hc, rfl, _, rfl, ite2 (fun e => ?_) (fun e => ?_)⟩
    · rw [dash_eq] at e
      have ec : ¬ z.cps.toList[4] = 45 := by simpa using e
      refine (q H (Same.refl _)).2 ?_
      unfold readM mtB
      rw [hc, decide_eq_false (fun y => ec (Option.some.inj y)), Bool.false_and, Bool.and_false, Bool.and_false, if_neg (fun h => Bool.false_ne_true h.1)]
    rw [dash_eq] at e
    have ec : z.cps.toList[4] = 45 := by simpa using e
    have hmt : mtB z = (z.cps.toList.take 4 ++ z.cps.toList.drop 5).all isF := by
      unfold mtB
      rw [decide_eq_true h7, Bool.true_and, hc, ec, decide_eq_true rfl, Bool.true_and, Bool.eq_iff_iff, ← all_digits_split h7, Bool.and_eq_true]
    refine ⟨_, rfl, _, rfl, fun D hD => ?_⟩
    refine comp_fm (walk_str (z := Txt.slice z none (some 4) ++ Txt.slice z (some 5) none)) hD (by rw [List.length_map, ← len_codes]; exact Nat.lt_of_le_of_lt (app_le a4 a5) (by rw [sizeLine_eq]; decide)) (fun x => match x with | .str y => !isF (y.cps.getD 0 0) | _ => false) id (fun x hx H' R _ r => ?_) (fun x hx _ H' R _ r => ⟨_, rfl, r⟩) ?_
    · obtain ⟨c, _, rfl⟩ := List.mem_map.mp hx
      refine ⟨_, rfl, _, _, rfl, rfl, _, rfl, ?_⟩
      rw [fig_in]
      exact r
    rw [List.map_id, app_codes, c4, c5]
    have s1 := Same.upd (o := .lst (((z.cps.toList.take 4 ++ z.cps.toList.drop 5).map sgn).filter fun x => match x with | .str y => !isF (y.cps.getD 0 0) | _ => false)) hD
    have f1 : (upd H D (.lst (((z.cps.toList.take 4 ++ z.cps.toList.drop 5).map sgn).filter fun x => match x with | .str y => !isF (y.cps.getD 0 0) | _ => false))) D = some (.lst (((z.cps.toList.take 4 ++ z.cps.toList.drop 5).map sgn).filter fun x => match x with | .str y => !isF (y.cps.getD 0 0) | _ => false)) := upd_same
    generalize upd H D (.lst (((z.cps.toList.take 4 ++ z.cps.toList.drop 5).map sgn).filter fun x => match x with | .str y => !isF (y.cps.getD 0 0) | _ => false)) = H1 at s1 f1 ⊢
    refine ⟨lenOk rfl, fun l2 H2 s2 n2 f2 => ?_⟩
    have S2 := s1.trans s2
    have fl : ((((z.cps.toList.take 4 ++ z.cps.toList.drop 5).map sgn).filter fun x => match x with | .str y => !isF (y.cps.getD 0 0) | _ => false)).all flatV = true := List.all_eq_true.mpr fun x hx => by
      obtain ⟨c, _, rfl⟩ := List.mem_map.mp (List.mem_filter.mp hx).1
      rfl
    refine ⟨D, l2, _, _, rfl, rfl, SqL.of (s2 _ _ f1), SqL.of f2, fl, rfl, _, rfl, ?_⟩
    have eqe : eqVs ((((z.cps.toList.take 4 ++ z.cps.toList.drop 5).map sgn).filter fun x => match x with | .str y => !isF (y.cps.getD 0 0) | _ => false)) [] = mtB z := by
      rw [hmt]
      unfold eqVs
      cases hx : ((((z.cps.toList.take 4 ++ z.cps.toList.drop 5).map sgn).filter fun x => match x with | .str y => !isF (y.cps.getD 0 0) | _ => false)) with
      | nil =>
        have : (z.cps.toList.take 4 ++ z.cps.toList.drop 5).all isF = true := List.all_eq_true.mpr fun c hc => by
          have := List.filter_eq_nil_iff.mp hx (sgn c) (List.mem_map_of_mem hc)
          simpa [sgn] using this
        rw [this]
        rfl
      | cons a r =>
        have : (z.cps.toList.take 4 ++ z.cps.toList.drop 5).all isF = false := by
          have ha : a ∈ ((((z.cps.toList.take 4 ++ z.cps.toList.drop 5).map sgn).filter fun x => match x with | .str y => !isF (y.cps.getD 0 0) | _ => false)) := by rw [hx]; exact List.mem_cons_self
          obtain ⟨h1, h2⟩ := List.mem_filter.mp ha
          obtain ⟨c, hc, rfl⟩ := List.mem_map.mp h1
          rw [List.all_eq_false]
          exact ⟨c, hc, by simpa [sgn] using h2⟩
        rw [this]
        simp
    show if (!eqVs _ []) = true then _ else _
    rw [eqe]
    cases hb : mtB z with
    | false =>
      refine iteT ((q H2 S2).2 ?_)
      unfold readM
      rw [hb, if_neg (fun h => Bool.false_ne_true h.1)]
    | true =>
      refine iteF ?_
      have hb' := hb
      unfold mtB at hb'
      simp only [Bool.and_eq_true, decide_eq_true_iff] at hb'
      obtain ⟨_, f4, _, f5⟩ := hb'
      have l4 : (Txt.slice z none (some 4)).length ≤ 640 := leB (Txt.slice_le z _ _) (by rw [e1]; rfl)
      have l5 : (Txt.slice z (some 5) none).length ≤ 640 := leB (Txt.slice_le z _ _) (by rw [e1]; rfl)
      obtain ⟨d4, n4⟩ := figL_digits f4
      obtain ⟨d5, n5⟩ := figL_digits f5
      have t4 := intText_digits (x := Txt.slice z none (some 4)) (by rw [c4]; exact d4) (by rw [c4]; exact n4) (leB l4 rfl)
      have t5 := intText_digits (x := Txt.slice z (some 5) none) (by rw [c5]; exact d5) (by rw [c5]; exact n5) (leB l5 rfl)
      rw [c4] at t4
      rw [c5] at t5
      refine ⟨_, rfl, _, rfl, _, rfl, zf, _, _, rfl, t5, l5, _, rfl, 1, 13, rfl, ⟨by decide, by decide, by decide, by decide⟩, ?_⟩
      by_cases hp : (1 : Int) ≤ ((digitsVal (z.cps.toList.drop 5) : Nat) : Int) ∧ ((digitsVal (z.cps.toList.drop 5) : Nat) : Int) < 13
      · show if (!decide ((1 : Int) ≤ ((digitsVal (z.cps.toList.drop 5) : Nat) : Int) ∧ ((digitsVal (z.cps.toList.drop 5) : Nat) : Int) < 13)) = true then _ else _
        rw [decide_eq_true hp]
        refine iteF ⟨_, rfl, _, rfl, _, rfl, zf, _, _, rfl, t4, l4, _, _, rfl, rfl, .inl ⟨by decide, by decide⟩, _, rfl, _, rfl, _, rfl, zf, _, _, rfl, t5, l5, _, _, rfl, rfl, _, _, rfl, rfl, (q H2 S2).1 _ ?_⟩
        unfold readM
        rw [if_pos ⟨hb, by omega, by omega⟩]
        congr 1
        omega
      · show if (!decide ((1 : Int) ≤ ((digitsVal (z.cps.toList.drop 5) : Nat) : Int) ∧ ((digitsVal (z.cps.toList.drop 5) : Nat) : Int) < 13)) = true then _ else _
        rw [decide_eq_false hp]
        refine iteT ((q H2 S2).2 ?_)
        unfold readM
        rw [if_neg (fun h => hp ⟨by have := h.2.1; omega, by have := h.2.2; omega⟩)]
end
end K28
set_option Elab.async false
set_option linter.all false
set_option maxRecDepth 100000
namespace Pg
open PySem L2

noncomputable def addD (t : List (Str × Int)) (p : Str × Int) : List (Str × Int) := putT t p.1 (getT t p.1 + p.2)
noncomputable def addDs (t prs : List (Str × Int)) : List (Str × Int) := prs.foldl addD t
noncomputable def addAll (prss : List (List (Str × Int))) : List (Str × Int) := prss.foldl addDs []
noncomputable def sumL (l : List Int) : Int := l.foldr (· + ·) 0
structure Stm where
  m : Int
  b : Int
  ds : List (Str × Int)
  n : Int
noncomputable def Sm (x : Int) : Prop := -(2 * 10 ^ 18) ≤ x ∧ x ≤ 2 * 10 ^ 18
structure StOk (nms : List Str) (s : Stm) : Prop where
  m0 : 0 ≤ s.m
  m1 : s.m ≤ 119999
  b : Sm s.b
  n : Sm s.n
  ds : ∀ p ∈ s.ds, Sm p.2
  nm : ∀ p ∈ s.ds, p.1 ∈ nms
  nd : (s.ds.map (·.1)).Nodup
structure StsOk (nms : List Str) (sts : List Stm) : Prop where
  few : sts.length ≤ 15
  n11 : nms.length ≤ 11
  len : ∀ z ∈ nms, z.length ≤ 30
  each : ∀ s ∈ sts, StOk nms s

noncomputable def KT (H H' : Hp) : Prop := ∀ b c, (H b = some (.tup c) → H' b = some (.tup c)) ∧ ∀ o, H b = some (.frz o (.tup c)) → H' b = some (.frz o (.tup c))
noncomputable def DuesAt (H : Hp) (d : Addr) (prs : List (Str × Int)) : Prop := ∃ ts, Rd H d (.tup ts) ∧ TupsAt H ts (prs.map cP)
noncomputable def FzAt (H : Hp) (d : Addr) (prs : List (Str × Int)) : Prop := ∃ its n ts, H d = some (.frz (tupO its n) (.tup ts)) ∧ TupsAt H ts (prs.map cP)
noncomputable def StAt (H : Hp) (v : V) (s : Stm) : Prop := ∃ a d, v = .ref a ∧ H a = some (.tup [.int s.m, .int s.b, .ref d, .int s.n]) ∧ FzAt H d s.ds
structure StsAt (H : Hp) (ys : List V) (sts : List Stm) : Prop where
  len : ys.length = sts.length
  at_ : ∀ (i : Nat) (y : V), ys[i]? = some y → ∃ s, sts[i]? = some s ∧ StAt H y s
noncomputable def allD (sts : List Stm) : List (Str × Int) := addAll (sts.map (·.ds))
noncomputable def dueS (prs : List (Str × Int)) (z : Str) : Str := match getO prs z with | some v => toldS v | none => "-"
noncomputable def rowC (title : Str) (b : Int) (prs : List (Str × Int)) (n : Int) (nms : List Str) : List Str := [title, toldS b] ++ nms.map (dueS prs) ++ [toldS n]
noncomputable def headC (nms : List Str) : List Str := [("month" : Str), "base"] ++ nms ++ [("net" : Str)]
noncomputable def tabC (sts : List Stm) (qs : List (Str × Int)) : List (List Str) := [headC (qs.map (·.1))] ++ sts.map (fun s => rowC (monthS s.m) s.b s.ds s.n (qs.map (·.1))) ++ [rowC "sums" (sumL (sts.map (·.b))) qs (sumL (sts.map (·.n))) (qs.map (·.1))]
noncomputable def paperS (sts : List Stm) (qs : List (Str × Int)) : Str := Txt.join "\n" (rowsS (tabC sts qs) (qs.length + 3))
noncomputable def Srt (qs : List (Str × Int)) : Prop := qs.Pairwise (fun a b => ¬ b.1.cps.toList < a.1.cps.toList)
noncomputable def sp_together : Sp := fun vs H Q _ => ∃ l ys prss, vs = [.ref l] ∧ H l = some (.lst ys) ∧ ItemsAt H ys prss (fun H' v prs => ∃ d, v = .ref d ∧ DuesAt H' d prs) ∧ (addAll prss).length < 64 ∧ prss.length ≤ 100 ∧ (∀ prs ∈ prss, prs.length ≤ 100) ∧
  ∀ qs t ys' H', qs.Perm (addAll prss) → Srt qs → Same H H' → H t = none → H' t = some (.tup ys') → TupsAt H' ys' (qs.map cP) → Q (.ref t) H'
noncomputable def sp_sums : Sp := fun vs H Q _ => ∃ l ys sts nms, vs = [.ref l] ∧ H l = some (.lst ys) ∧ StsAt H ys sts ∧ StsOk nms sts ∧
  ∀ qs t d ys' H', qs.Perm (allD sts) → Srt qs → Same H H' → H' t = some (.tup [.int (sumL (sts.map (·.b))), .ref d, .int (sumL (sts.map (·.n)))]) → H' d = some (.tup ys') → TupsAt H' ys' (qs.map cP) → Q (.ref t) H'
noncomputable def Big (x : Int) : Prop := absI x < 10 ^ 20
noncomputable def sp_dueT : Sp := fun vs H Q _ => ∃ d prs z, vs = [.ref d, .str z] ∧ DuesAt H d prs ∧ (∀ p ∈ prs, Big p.2) ∧ ∀ H', Same H H' → Q (.str (dueS prs z)) H'
noncomputable def sp_cells : Sp := fun vs H Q _ => ∃ title b d prs n nl nms, vs = [.str title, .int b, .ref d, .int n, .ref nl] ∧ DuesAt H d prs ∧ (∀ p ∈ prs, Big p.2) ∧ Big b ∧ Big n ∧ H nl = some (.lst (nms.map V.str)) ∧ nms.length ≤ 100 ∧
  ∀ r H', Same H H' → H r = none → H' r = some (.lst ((rowC title b prs n nms).map V.str)) → Q (.ref r) H'
noncomputable def sp_paper : Sp := fun vs H Q _ => ∃ l ys sts nms, vs = [.ref l] ∧ H l = some (.lst ys) ∧ StsAt H ys sts ∧ StsOk nms sts ∧ ∀ qs H', qs.Perm (allD sts) → Srt qs → Same H H' → Q (.str (paperS sts qs)) H'
noncomputable def sp_next : Sp := fun vs H Q _ => ∃ n k, vs = [.int n, .int k] ∧ 0 ≤ n ∧ n < 2147483629 ∧ 0 ≤ k ∧ k ≤ 1000 ∧ ∀ v, 0 ≤ v → v < 2147483629 → Q (.int v) H
noncomputable def sp_amt : Sp := fun vs H Q _ => ∃ n, vs = [.int n] ∧ 0 ≤ n ∧ n < 536870911 ∧ ∀ v H', 0 ≤ v → v ≤ 10 ^ 17 → Same H H' → Q (.int v) H'
noncomputable def sp_toldL : Sp := fun vs H Q _ => ∃ a, vs = [.int a] ∧ Big a ∧ Q (.str (toldS a)) H
end Pg
set_option Elab.async false
set_option linter.all false
set_option maxRecDepth 100000
namespace L2
open PySem PySem.Spec PyProof.Rows
section
variable {X : Cx} {pins : List (Addr × Obj)} {σ : St} {H : Hp} {s : Shared} {d : Addr} {kvs : List (Key × V)}

end

noncomputable def Itd (d : Addr) (o : Obj) (kvs : List (Key × V)) : It :=
  ⟨fun i H => H d = some (.frz o (.dK kvs)) ∧ i < kvs.length, fun i H x H' => H' = H ∧ ∃ p, kvs[i]? = some p ∧ x = kV p.1, fun i H => H d = some (.frz o (.dK kvs)) ∧ kvs.length ≤ i⟩
noncomputable def iDict (tl : TE) : TI := fun σ H R => tl σ H fun x H1 => ∃ d o kvs, x = .ref d ∧ H1 d = some (.frz o (.dK kvs)) ∧ R (Itd d o kvs) H1
section
variable {X : Cx}

inductive Ty4 (H : Hp) : V → Value → Prop where
  | int (i : Int) : Ty4 H (.int i) (.type "int")
  | str (x : Str) : Ty4 H (.str x) (.type "str")
  | lst {a : Addr} {xs : List V} (e : H a = some (.lst xs)) : Ty4 H (.ref a) (.type "list")
  | tup {a : Addr} {xs : List V} (e : H a = some (.tup xs)) : Ty4 H (.ref a) (.type "tuple")
noncomputable def isT : Value → Bool
  | .bool b => b
  | _ => false
end
end L2
set_option Elab.async false
set_option linter.all false
set_option maxRecDepth 100000
namespace L2
open PySem PySem.Spec PyProof.Rows

inductive Ex4 {α β γ δ : Type} (p : α → β → γ → δ → Prop) : Prop where
  | mk (a : α) (b : β) (c : γ) (d : δ) (h : p a b c d) : Ex4 p
inductive Ex2 {α β : Type} (p : α → β → Prop) : Prop where
  | mk (a : α) (b : β) (h : p a b) : Ex2 p
inductive An4 (a b c d : Prop) : Prop where
  | mk (h1 : a) (h2 : b) (h3 : c) (h4 : d) : An4 a b c d

section
variable {J : It} {D : Addr} {tt : TT} {te : TE} {fin : List V → Hp → Prop} {σ : St} {H : Hp} {ys : List V} {α : Type} {xs : List α} {P : Hp → V → α → Prop} {K : PySem.W.Frag}
end
section
variable {K : PySem.W.Frag} {a b : Addr} {xs ys : List V} {g : TG} {tb : TS} {D : Ends} {σ : St} {H : Hp} {lo : Int} {n : Nat}
noncomputable abbrev ForW (J : It) (g : TG) (tb : TS) (D : Ends) (σ : St) (H : Hp) : Prop := ∃ W : Nat → Nat → St → Hp → Prop, (∃ m, W 0 m σ H) ∧ ∀ i m σ H, W i m σ H →
      (J.stop i H ∧ D.nx σ H) ∨ (J.go i H ∧ ∃ N : St → Hp → Prop, (∀ σ' H', N σ' H' → ∃ m', m' < m ∧ W (i + 1) m' σ' H') ∧ ∀ x H', J.yld i H x H' → g x σ H' fun σ2 H2 => tb { D with nx := N, ct := N, bk := D.nx } σ2 H2)
theorem for_range2 (Pv : Nat → St → Hp → Prop) (h0 : Pv 0 σ H)
    (hs : ∀ (i : Nat) σ H, i < n → Pv i σ H → ∀ E : Ends, (∀ σ' H', Pv (i + 1) σ' H' → E.nx σ' H') → g (.int (lo + i)) σ H fun σ2 H2 => tb E σ2 H2) (hd : ∀ σ H, Pv n σ H → D.nx σ H) : ForW (Itr lo n) g tb D σ H :=
  for_range Pv h0 (fun i σ H hx p => hs i σ H hx p _ fun _ _ h => h) hd
end

noncomputable def tCut (t u : TS) : TS := fun D σ H => ∃ P : St → Hp → Prop, t { D with nx := P } σ H ∧ ∀ σ' H', P σ' H' → u D σ' H'
noncomputable def rEqNil (K : PySem.W.Frag) : R2 := fun x y H Q => ∃ a b xs, x = .ref a ∧ y = .ref b ∧ SqL K H a xs ∧ SqL K H b [] ∧ (xs = [] → Q (.bl true) H) ∧ (xs ≠ [] → Q (.bl false) H)
theorem op_eqNil {X : Cx} (hu : X.A.units < cLine) : OpR X (compareOp .Eq) (rEqNil X.K) := by
  intro pins s σ H x y v u Q I rx ry h
  obtain ⟨a, b, xs, rfl, rfl, h1, h2, q1, q2⟩ := h
  cases rx
  cases ry
  obtain ⟨us, r1, p1, _⟩ := I.list h1
  obtain ⟨ws, r2, p2, _⟩ := I.list h2
  have l1 := r1.length
  have l2 := r2.length
  rw [List.length_nil] at l2
  by_cases hl : xs = []
  · subst hl
    rw [List.length_nil] at l1
    refine SeqAt.eq_listAt p1.isList p2.isList (by simp; omega) hu (e := fun _ => true) (fun j h1 h2 => ?_) ?_
    · simp at h1
      omega
    · have : us = [] := List.length_eq_zero_iff.mp l1.symm
      subst this
      exact ⟨.bl true, H, I, rfl, q1 rfl⟩
  · have : 0 < xs.length := List.length_pos_iff.mpr hl
    exact SeqAt.eq_list_lengthsAt p1.isList p2.isList (by simp; omega) hu ⟨.bl false, H, I, rfl, q2 hl⟩
theorem set_to {te : TE} {g : TG} {u : TS} {D : Ends} {σ : St} {H : Hp} (C : VK → Prop) (h1 : ∀ Q, C Q → te σ H Q) (h2 : C fun v H1 => g v σ H1 (u D)) : tSeq (tAsg te g) u D σ H := h1 _ h2
theorem ifs_to {c : TT} {t u r : TS} {D : Ends} {σ : St} {H : Hp} (C : (Bool → Hp → Prop) → Prop) (h1 : ∀ Q, C Q → c σ H Q) (h2 : C fun b H1 => if b = true then t { D with nx := r D } σ H1 else u { D with nx := r D } σ H1) : tSeq (tIfS c t u) r D σ H := h1 _ h2
theorem cxOf_K {CX : CXT} {P : Program} {w : World} {K : PySem.W.Frag} {mg : Str → Option Value} {base : Heap} {N : List Str} {qual : Str} {scope : Scope} {f : Addr} {cd : Value} {A : Around} {outer : List Env} {s : Shared} {H : Hp} {E : XK} : (cxOf CX P w K mg base N qual scope f cd A outer s H E).K = K := rfl
theorem nox_K {X : Cx} : X.nox.K = X.K := rfl
noncomputable def rSameK (K : PySem.W.Frag) (u : Nat) : R2 := fun x y H Q => ∃ n d, isSeq d = true ∧ Is K H n x d ∧ Is K H n y d ∧ u + n < cLine ∧ Q (.bl true) H
noncomputable def rNeK (K : PySem.W.Frag) (u : Nat) : R2 := fun x y H Q => ∃ n d, isSeq d = true ∧ Is K H n x d ∧ Is K H n y d ∧ u + n < cLine ∧ Q (.bl false) H
theorem op_neK {X : Cx} : OpR X (compareOp .NotEq) (rNeK X.K X.A.units) := op_neD
section
variable {X : Cx}

end
end L2
set_option Elab.async false
set_option linter.all false
set_option maxRecDepth 100000
namespace Pg
open PySem L2 PySem.NumText

theorem pad_step {k m : Nat} (hk : 1 ≤ k) : padZ (k + 1) (dg m) = padZ k (dg (m / 10)) ++ [48 + m % 10] := by
  by_cases h : 10 ≤ m
  · rw [dg_step h]
    unfold padZ
    rw [List.length_append, List.length_singleton, Nat.add_sub_add_right, List.append_assoc]
  · have e : m / 10 = 0 := by omega
    have e2 : m % 10 = m := by omega
    rw [dg_one (by omega), e, dg_one (by decide), e2]
    unfold padZ
    rw [List.length_singleton, List.length_singleton]
    have : List.replicate (k - 1) 48 ++ [48 + 0] = List.replicate (k + 1 - 1) 48 := by
      obtain ⟨j, rfl⟩ : ∃ j, k = j + 1 := ⟨k - 1, by omega⟩
      show List.replicate j 48 ++ [48] = List.replicate (j + 1) 48
      exact (List.replicate_succ' ).symm
    rw [this]
theorem dg_split : ∀ {k n : Nat}, 1 ≤ k → 10 ^ k ≤ n → dg n = dg (n / 10 ^ k) ++ padZ k (dg (n % 10 ^ k)) := by
  intro k
  induction k with
  | zero => intro n h; omega
  | succ k ih =>
    intro n _ hn
    by_cases hk : k = 0
    · subst hk
      have h10 : 10 ≤ n := by simpa using hn
      rw [dg_step h10]
      show dg (n / 10) ++ _ = dg (n / 10 ^ 1) ++ padZ 1 (dg (n % 10 ^ 1))
      rw [Nat.pow_one, dg_one (n := n % 10) (by omega)]
      rfl
    · have h1 : 10 ^ k ≤ n / 10 := by
        rw [Nat.pow_succ] at hn
        exact (Nat.le_div_iff_mul_le (by decide)).mpr hn
      have h10 : 10 ≤ n := by
        have : 0 < 10 ^ k := Nat.pow_pos (by decide)
        omega
      have e1 : n / 10 ^ (k + 1) = n / 10 / 10 ^ k := by rw [Nat.pow_succ, Nat.mul_comm, Nat.div_div_eq_div_mul]
      have e2 : n % 10 ^ (k + 1) / 10 = n / 10 % 10 ^ k := by rw [Nat.pow_succ, Nat.mul_comm, Nat.mod_mul_right_div_self]
      have e3 : n % 10 ^ (k + 1) % 10 = n % 10 := by rw [Nat.pow_succ, Nat.mul_comm]; exact Nat.mod_mul_right_mod _ _ _
      rw [dg_step h10, ih (by omega) h1, pad_step (by omega), e1, e2, e3, List.append_assoc]
theorem joinE_codes (zs : List Str) : (Txt.join ("" : Str) zs).cps.toList = (zs.map fun z => z.cps.toList).flatten := by
  have e0 : ("" : Str).cps.toList = [] := by decide +kernel
  have : ∀ n (zs : List Str), zs.length = n → (Txt.join ("" : Str) zs).cps.toList = (zs.map fun z => z.cps.toList).flatten := by
    intro n
    induction n with
    | zero =>
      intro zs h
      rw [List.eq_nil_of_length_eq_zero h]
      rfl
    | succ n ih =>
      intro zs h
      by_cases hn : n = 0
      · subst hn
        obtain ⟨z, rfl⟩ := List.length_eq_one_iff.mp h
        rw [join_one, List.map_cons, List.map_nil, List.flatten_cons, List.flatten_nil, List.append_nil]
      · have ne : zs ≠ [] := fun c => by rw [c] at h; cases h
        have e := List.dropLast_concat_getLast ne
        have hl : zs.dropLast.length = n := by rw [List.length_dropLast, h]; rfl
        have ne2 : zs.dropLast ≠ [] := fun c => by rw [c] at hl; exact hn hl.symm
        rw [← e, join_snoc _ _ ne2, app_codes, app_codes, e0, ih _ hl, List.append_nil, List.map_append, List.flatten_append, List.map_cons, List.map_nil, List.flatten_cons, List.flatten_nil, List.append_nil]
  exact this _ zs rfl
noncomputable def sp_figsG : Sp := fun vs H Q _ => ∃ n : Int, vs = [.int n] ∧ 0 ≤ n ∧ n < 1000000000000000000000000000000000000000000000000000000 ∧ ∀ H', Same H H' → Q (.str (numS n)) H'
noncomputable def sp_toldG : Sp := fun vs H Q _ => ∃ a, vs = [.int a] ∧ absI a < 10 ^ 50 ∧ ∀ H', Same H H' → Q (.str (toldS a)) H'
theorem told_lenG {a : Int} (h : absI a < 10 ^ 50) : (toldS a).length ≤ 60 := by
  have n0 := absI_nn a
  rw [len_codes, told_codes, List.length_append, List.length_append, List.length_append]
  have h1 := sign_len a
  rw [len_codes] at h1
  have h2 : (dg ((absI a).toNat / 100)).length ≤ 50 := dg_len_le (by decide) (by omega)
  have h3 : (padZ 2 (dg ((absI a).toNat % 100))).length = 2 := padZ_len (dg_len_le (by decide) (by omega))
  rw [h3]
  have : ([46] : List Nat).length = 1 := rfl
  omega
noncomputable def sp_toldX (K : PySem.W.Frag) (c : Addr) : Sp := fun vs H Q E => ∃ v, vs = [v] ∧ NoNum K H v ∧ E (.ref c) none H

noncomputable def wh (u : List Nat) : List Nat := u.take (u.length - 3)
noncomputable def la2 (u : List Nat) : List Nat := u.drop (u.length - 2)
noncomputable def numT0 (l : List Nat) : Bool := figL l && (decide (l = [48]) || !decide (l.head? = some 48))
noncomputable def okU (u : List Nat) : Bool := numT0 (wh u) && (decide (u[u.length - 3]? = some 46) && figL (la2 u))
noncomputable def unS (l : List Nat) : List Nat := if l.head? = some 45 then l.tail else l
noncomputable def zero0 : List Nat := [45, 48, 46, 48, 48]
noncomputable def sgL3 (l : List Nat) : Int := if l.head? = some 45 then -1 else 1
noncomputable def valU (u : List Nat) : Int := ((digitsVal (wh u) : Nat) : Int) * 100 + ((digitsVal (la2 u) : Nat) : Int)
noncomputable def readL (l : List Nat) : Option Int := if l.length ≤ 30 ∧ okU (unS l) = true ∧ l ≠ zero0 then some (if l.head? = some 45 then -(valU (unS l)) else valU (unS l)) else none
noncomputable def sp_numT : Sp := fun vs H Q _ => ∃ z, vs = [.str z] ∧ z.length ≤ 1000 ∧ ∀ H', Same H H' → Q (.bl (numT0 z.cps.toList)) H'
noncomputable def sp_amtT : Sp := fun vs H Q _ => ∃ z, vs = [.str z] ∧ z.length ≤ 1000 ∧ ∀ H', Same H H' → Q (.bl (okU z.cps.toList)) H'
noncomputable def sp_readA (K : PySem.W.Frag) (cT : Addr) : Sp := fun vs H Q E => ∃ v, vs = [v] ∧ ((NoStr K H v ∧ E (.ref cT) none H) ∨ ∃ z, v = .str z ∧ z.length ≤ 100000 ∧ ∀ H', Same H H' → (∀ a, readL z.cps.toList = some a → Q (.int a) H') ∧ (readL z.cps.toList = none → E (.ref cT) none H'))
noncomputable def optR : Option Int → V
  | none => .non
  | some z => .int z
noncomputable def sp_readsL : Sp := fun vs H Q _ => ∃ z, vs = [.str z] ∧ z.length ≤ 100000 ∧ ∀ H', Same H H' → Q (optR (readL z.cps.toList)) H'
end Pg
set_option Elab.async false
set_option linter.all false
set_option maxRecDepth 100000
set_option maxHeartbeats 4000000
namespace K28
open PySem PySem.NumText L2 Pg
seal PE PA PT PW PS PSs PG PGs PI PIf PO PK
section
variable {P : Program} {w : World} {K : PySem.W.Frag} {mg : Str → Option Value} {base : Heap} {f : Addr} {fd : FuncData} {d : Nat → Addr} {cR : Addr}
set_option maxHeartbeats 4000000 in
theorem ok_figsG (F : Fun K "figures_of" "figures_of" (top 32) f fd) (G : Glb mg) (N1 : Num mg "PIECE" 1000000000000000000) (N2 : Num mg "PIECE_FIGURES" 18) : FnOk P w K mg base CX0 1 f fd ["number"] sp_figsG := by
  obtain ⟨t1, h_PIECE⟩ := N1
  obtain ⟨t2, h_PIECE_FIGURES⟩ := N2
  have nd : (["number", "pieces"] : List Str).Nodup := by decide +kernel
  refine F.ok (N := ["number", "pieces"]) ⟨rfl, rfl, rfl, by decide +kernel, rfl, by decide +kernel, by decide +kernel⟩ (fun vs H Q E h => ?_) (fun cdv A outer s H vs Q E hr h => ?_)
  · obtain ⟨n, rfl, _⟩ := h
    rfl
  · obtain ⟨n, rfl, h0, h1, q⟩ := h
    refine ⟨_, (pss_cons (ps_set (i := 1) nd rfl (Or.inl rfl) (pe_lstS pa_nil))
        (pss_cons (ps_while PassesOwn.never (pt_cmpR op_ge (pv 0) (pe_glob (v := .int 1000000000000000000) rfl h_PIECE ⟨_, rfl⟩) (nomark _)) (pss_cons (ps_expr (pe_bm PySem.F.plainAttrs_list PySem.F.slot_list_append PySem.F.type_list_append mt_append (pv 1) (pa_cons (pe_bm PySem.F.plainAttrs_str PySem.F.slot_str_zfill PySem.F.type_str_zfill mt_zfill (pe_callTy call_str_int rfl G.str boot_str (pa_cons (pe_op op_mod (pv 0) (pe_glob (v := .int 1000000000000000000) rfl h_PIECE ⟨_, rfl⟩)) pa_nil)) (pa_cons (pe_glob (v := .int 18) rfl h_PIECE_FIGURES ⟨_, rfl⟩) pa_nil)) pa_nil)))
        (pss_one (ps_set (i := 0) nd rfl (Or.inl rfl) (pe_op op_fdivB (pv 0) (pe_glob (v := .int 1000000000000000000) rfl h_PIECE ⟨_, rfl⟩))))))
        (pss_cons (ps_expr (pe_bm PySem.F.plainAttrs_list PySem.F.slot_list_append PySem.F.type_list_append mt_append (pv 1) (pa_cons (pe_callTy call_str_int rfl G.str boot_str (pa_cons (pv 0) pa_nil)) pa_nil)))
        (pss_one (ps_ret (pe_joinRev rfl rfl G.reversed (pa_cons (pv 1) pa_nil))))))), ?_⟩
    refine ⟨lenOk rfl, fun r H1 s1 r0 e1 => ?_⟩
    refine ⟨fun m σ H' => Ex2 fun (num : Int) (zs : List Str) => An4 (σ = [some (.int num), some (.ref r)]) (H' r = some (.lst (zs.map V.str)) ∧ Same H H') (m = num.toNat ∧ 0 ≤ num ∧ ((zs.length = 0 ∧ num < 1000000000000000000000000000000000000000000000000000000) ∨ (zs.length = 1 ∧ num < 1000000000000000000000000000000000000) ∨ (zs.length = 2 ∧ num < 1000000000000000000))) (dg n.toNat = dg num.toNat ++ (zs.reverse.map fun z => z.cps.toList).flatten ∧ ∀ z ∈ zs, z.length ≤ 18),
      ⟨_, n, [], rfl, ⟨e1, s1⟩, ⟨rfl, h0, .inl ⟨rfl, h1⟩⟩, (List.append_nil _).symm, fun _ h => nomatch h⟩, fun m σ H' z => ?_⟩
    obtain ⟨num, zs, rfl, ⟨hr', s'⟩, ⟨rfl, n0, lim⟩, dq, zl⟩ := z
    have zl3 : zs.length ≤ 2 := by rcases lim with ⟨a, _⟩ | ⟨a, _⟩ | ⟨a, _⟩ <;> omega
    refine ⟨_, rfl, _, _, rfl, rfl, _, rfl, ite2 (fun e => ?_) (fun e => ?_)⟩
    · have e : (1000000000000000000 : Int) ≤ num := of_decide_eq_true e
      have m0 : 0 ≤ num % 1000000000000000000 := Int.emod_nonneg _ (by decide)
      have m1 : num % 1000000000000000000 < 1000000000000000000 := Int.emod_lt_of_pos _ (by decide)
      refine ⟨_, fun _ _ h => h, _, rfl, .inl ⟨rfl, _, SqL.of hr'⟩, _, rfl, _, _, rfl, rfl, (by show (0 : Int) < 1000000000000000000; decide), _, rfl, log_small m0 (by omega), rfl, _, _, rfl, rfl, by decide +kernel, r, _, _, rfl, rfl, hr', (by rw [List.length_map, sizeLine_eq]; omega), ?_⟩
      refine ⟨_, rfl, _, _, rfl, rfl, ⟨by decide, by decide⟩, (num / 1000000000000000000).toNat, by omega, num / 1000000000000000000, zs ++ [Txt.zfill (numS (num % 1000000000000000000)) (18 : Int)], rfl, ⟨by rw [upd_same, List.map_append]; rfl, fun b o hb => ?_⟩, ⟨rfl, by omega, ?_⟩, ?_, fun z hz => ?_⟩
      · rw [upd_ne (ne_of_none hb r0)]
        exact s' _ _ hb
      · rw [List.length_append, List.length_singleton]
        rcases lim with ⟨a, b⟩ | ⟨a, b⟩ | ⟨a, b⟩
        · exact .inr (.inl ⟨by omega, by omega⟩)
        · exact .inr (.inr ⟨by omega, by omega⟩)
        · omega
      · obtain ⟨k, rfl⟩ := Int.eq_ofNat_of_zero_le n0
        have ek : ((k : Int) % 1000000000000000000) = ((k % 1000000000000000000 : Nat) : Int) := rfl
        have ed : ((k : Int) / 1000000000000000000).toNat = k / 1000000000000000000 := rfl
        have zc : (Txt.zfill (numS ((k : Int) % 1000000000000000000)) (18 : Int)).cps.toList = padZ 18 (dg (k % 1000000000000000000)) := by rw [ek]; exact zfill_num (k := 18)
        rw [dq, List.reverse_append, List.map_append, List.flatten_append, ← List.append_assoc, ed]
        congr 1
        show dg k = dg (k / 1000000000000000000) ++ ([(Txt.zfill (numS ((k : Int) % 1000000000000000000)) (18 : Int)).cps.toList].flatten)
        rw [List.flatten_cons, List.flatten_nil, List.append_nil, zc]
        exact dg_split (k := 18) (by decide) (by show 1000000000000000000 ≤ k; omega)
      · rcases List.mem_append.mp hz with hz | hz
        · exact zl z hz
        · rw [List.mem_singleton.mp hz, len_codes]
          obtain ⟨k, hk⟩ := Int.eq_ofNat_of_zero_le m0
          rw [hk]
          have : (Txt.zfill (numS ((k : Nat) : Int)) (18 : Int)).cps.toList = padZ 18 (dg k) := zfill_num (k := 18)
          rw [this, padZ_len (dg_len_le (by decide) (by show k < 1000000000000000000; omega))]
          exact Nat.le_refl _
    · have e : num < 1000000000000000000 := by
        have e : ¬ (1000000000000000000 : Int) ≤ num := fun c => e (decide_eq_true c)
        omega
      refine ⟨_, rfl, .inl ⟨rfl, _, SqL.of hr'⟩, _, rfl, num, rfl, log_small n0 (by omega), r, _, _, rfl, rfl, hr', (by rw [List.length_map, sizeLine_eq]; omega), ?_⟩
      have l18 : (numS num).length ≤ 18 := by
        obtain ⟨k, rfl⟩ := Int.eq_ofNat_of_zero_le n0
        rw [len_codes, numS_codes]
        exact dg_len_le (by decide) (by omega)
      have er : upd H' r (.lst (zs.map V.str ++ [.str (numS num)])) r = some (.lst ((zs ++ [numS num]).map V.str)) := by rw [upd_same, List.map_append]; rfl
      refine ⟨_, rfl, r, zs ++ [numS num], rfl, SqL.of er, by rw [List.length_append, List.length_singleton]; omega, ?_, ?_⟩
      · refine (join_small (m := 18) (k := 3) (fun z hz => ?_) (by rw [List.length_reverse, List.length_append, List.length_singleton]; omega) (by decide +kernel) rfl).1
        rcases List.mem_append.mp (List.mem_reverse.mp hz) with hz | hz
        · exact zl z hz
        · rw [List.mem_singleton.mp hz]
          exact l18
      · have en : Txt.join ("" : Str) (zs ++ [numS num]).reverse = numS n := str_eq (by
          obtain ⟨k, rfl⟩ := Int.eq_ofNat_of_zero_le n0
          obtain ⟨j, rfl⟩ := Int.eq_ofNat_of_zero_le h0
          rw [joinE_codes, List.reverse_append, List.map_append, List.flatten_append, numS_codes]
          show ([(numS ((k : Nat) : Int)).cps.toList].flatten) ++ _ = dg j
          rw [List.flatten_cons, List.flatten_nil, List.append_nil, numS_codes]
          exact dq.symm)
        rw [en]
        refine q _ fun b o hb => ?_
        rw [upd_ne (ne_of_none hb r0)]
        exact s' _ _ hb
theorem ok_toldG (F : Fun K "told_amount" "told_amount" (top 33) f fd) (G : Glb mg) (C_need_amount : Cal P w K mg base CX0 2 "need_amount" ["thing"] sp_needA) (C_figures_of : Cal P w K mg base CX0 1 "figures_of" ["number"] sp_figsG) : FnOk P w K mg base CX0 3 f fd ["amount"] sp_toldG := by
  have nd : (["amount", "sign", "whole", "behind"] : List Str).Nodup := by decide +kernel
  refine F.ok (N := ["amount", "sign", "whole", "behind"]) ⟨rfl, rfl, rfl, by decide +kernel, rfl, by decide +kernel, by decide +kernel⟩ (fun vs H Q E h => ?_) (fun cdv A outer s H vs Q E hr h => ?_)
  · obtain ⟨n, rfl, _⟩ := h
    rfl
  · obtain ⟨a, rfl, hb, q⟩ := h
    refine ⟨_, (pss_cons (ps_expr (pe_cal C_need_amount hr (by decide) pass0 (pa_cons (pv 0) pa_nil)))
        (pss_cons (ps_set (i := 1) nd rfl (Or.inl rfl) (pe_ifExp (pt_cmpR op_lt (pv 0) pe_int (nomark _)) pe_str pe_str))
        (pss_cons (ps_set (i := 2) nd rfl (Or.inl rfl) (pe_cal C_figures_of hr (by decide) pass0 (pa_cons (pe_op op_fdiv (pe_callB call_abs rfl G.abs boot_abs (pa_cons (pv 0) pa_nil)) pe_int) pa_nil)))
        (pss_cons (ps_set (i := 3) nd rfl (Or.inl rfl) (pe_bm PySem.F.plainAttrs_str PySem.F.slot_str_zfill PySem.F.type_str_zfill mt_zfill (pe_callTy call_str_int rfl G.str boot_str (pa_cons (pe_op op_mod (pe_callB call_abs rfl G.abs boot_abs (pa_cons (pv 0) pa_nil)) pe_int) pa_nil)) (pa_cons pe_int pa_nil)))
        (pss_one (ps_ret (pe_fstr (pj_fmt (pv 1) (pj_fmt (pv 2) (pj_str (pj_fmt (pv 3) pj_nil))))))))))), ?_⟩
    have n0 := absI_nn a
    have w0 : 0 ≤ absI a / 100 := Int.ediv_nonneg n0 (by decide)
    have w1 : absI a / 100 < 1000000000000000000000000000000000000000000000000000000 := by omega
    have m0 : 0 ≤ absI a % 100 := Int.emod_nonneg _ (by decide)
    have m1 : absI a % 100 < 100 := Int.emod_lt_of_pos _ (by decide)
    unfold toldS at q
    have l1 := sign_len a
    unfold signS at q l1
    refine ⟨_, rfl, a, rfl, _, rfl, _, _, rfl, rfl, _, rfl, ite2 (fun c => ?pos) (fun c => ?neg)⟩
    case' pos => rw [if_pos (of_decide_eq_true c)] at q l1
    case' neg => rw [if_neg (fun z => c (decide_eq_true z))] at q l1
    all_goals
      refine ⟨_, rfl, a, rfl, _, _, rfl, rfl, ⟨by decide, by decide⟩, _, rfl, w0, w1, fun H1 s1 => ?_⟩
      refine ⟨_, rfl, a, rfl, _, _, rfl, rfl, (by show (0 : Int) < 100; decide), _, rfl, log_small m0 (by show absI a % 100 < _; omega), rfl, _, _, rfl, rfl, by decide +kernel, ?_⟩
      have l2 : (numS (absI a / 100)).length ≤ 50 := by
        obtain ⟨k, hk⟩ := Int.eq_ofNat_of_zero_le w0
        rw [hk, len_codes, numS_codes]
        exact dg_len_le (by decide) (by omega)
      have l3 : (Txt.zfill (numS (absI a % 100)) 2).length = 2 := by
        have := placeS_len (p := absI a % 100) m0 (by omega)
        exact this
      refine ⟨_, rfl, _, rfl, Nat.le_trans l1 (by decide), _, rfl, _, rfl, Nat.le_trans l2 (by decide), _, rfl, (by decide +kernel), _, rfl, _, rfl, ?_, q H1 s1⟩
      exact Nat.le_trans (Nat.le_of_eq l3) (by decide)
end
end K28
set_option Elab.async false
set_option linter.all false
set_option maxRecDepth 100000
namespace Pg
open PySem L2 PySem.NumText

theorem sIx_neg (n d k : Nat) (hk : 0 < k) : HT.sIx n d (some (-(k : Int))) = n - k := by
  show (if (-(k : Int)) < 0 then ((-(k : Int)) + (n : Int)).toNat else min (-(k : Int)).toNat n) = n - k
  rw [if_pos (by omega)]
  omega
theorem cut_m3 (z : Str) : (Txt.slice z none (some (-3))).cps.toList = wh z.cps.toList := by
  rw [slice_codes]
  unfold cutL wh
  have e : HT.sIx z.cps.toList.length z.cps.toList.length (some (-3)) = z.cps.toList.length - 3 := sIx_neg _ _ 3 (by decide)
  rw [e, HT.sIx_none, List.drop_zero, Nat.sub_zero]
theorem cut_l2 (z : Str) : (Txt.slice z (some (-2)) none).cps.toList = la2 z.cps.toList := by
  rw [slice_codes]
  unfold cutL la2
  have e : HT.sIx z.cps.toList.length 0 (some (-2)) = z.cps.toList.length - 2 := sIx_neg _ _ 2 (by decide)
  rw [e, HT.sIx_none]
  exact List.take_of_length_le (by rw [List.length_drop]; omega)
theorem cut_t1 (z : Str) : (Txt.slice z (some 1) none).cps.toList = z.cps.toList.tail := by
  rw [slice_codes]
  unfold cutL
  have e : HT.sIx z.cps.toList.length 0 (some 1) = min 1 z.cps.toList.length := HT.sIx_nat _ _ 1
  rw [e, HT.sIx_none]
  cases z.cps.toList with
  | nil => rfl
  | cons a l =>
    have : min 1 (a :: l).length = 1 := by rw [List.length_cons]; omega
    rw [this]
    show (l).take _ = l
    exact List.take_of_length_le (by rw [List.length_cons]; omega)
theorem cut_t0 (z : Str) : (Txt.slice z (some 0) none).cps.toList = z.cps.toList := by
  rw [slice_codes]
  unfold cutL
  have e : HT.sIx z.cps.toList.length 0 (some 0) = min 0 z.cps.toList.length := HT.sIx_nat _ _ 0
  rw [e, HT.sIx_none, Nat.zero_min, List.drop_zero]
  exact List.take_of_length_le (by omega)
theorem cut_h1 (z : Str) : (Txt.slice z none (some 1)).cps.toList = z.cps.toList.take 1 := by
  rw [slice_codes]
  unfold cutL
  have e : HT.sIx z.cps.toList.length z.cps.toList.length (some 1) = min 1 z.cps.toList.length := HT.sIx_nat _ _ 1
  rw [e, HT.sIx_none, List.drop_zero, Nat.sub_zero]
  cases z.cps.toList with
  | nil => rfl
  | cons a l =>
    have : min 1 (a :: l).length = 1 := by rw [List.length_cons]; omega
    rw [this]
theorem cut_dot (z : Str) : (Txt.slice z (some (-3)) (some (-2))).cps.toList = (z.cps.toList.drop (z.cps.toList.length - 3)).take (z.cps.toList.length - 2 - (z.cps.toList.length - 3)) := by
  rw [slice_codes]
  unfold cutL
  have e : HT.sIx z.cps.toList.length 0 (some (-3)) = z.cps.toList.length - 3 := sIx_neg _ _ 3 (by decide)
  have e2 : HT.sIx z.cps.toList.length z.cps.toList.length (some (-2)) = z.cps.toList.length - 2 := sIx_neg _ _ 2 (by decide)
  rw [e, e2]
theorem like_codes (z y : Str) : decide (V.str z = V.str y) = decide (z.cps.toList = y.cps.toList) := decide_eq_decide.mpr ⟨fun h => by injection h with h; rw [h], fun h => by rw [str_eq h]⟩
theorem starts_one (z : Str) (c : Nat) : Txt.startswith z ⟨#[c]⟩ = decide (z.cps.toList.head? = some c) := by
  unfold Txt.startswith Builtin.Str.subAt
  obtain ⟨⟨l⟩⟩ := z
  show (decide (0 + 1 ≤ l.length) && ((Array.mk l).extract 0 (0 + 1) == #[c])) = decide (l.head? = some c)
  cases l with
  | nil => rfl
  | cons a l =>
    have e : (Array.mk (a :: l)).extract 0 (0 + 1) = #[a] := by
      apply Array.ext'
      simp
    rw [e, decide_eq_true (by rw [List.length_cons]; omega), Bool.true_and]
    by_cases h : a = c
    · subst h
      simp
    · rw [decide_eq_false (by intro q; exact h (Option.some.inj q))]
      simp [h]
theorem dash_str : ("-" : Str) = ⟨#[45]⟩ := by decide +kernel
theorem zero_str : ("0" : Str) = ⟨#[48]⟩ := by decide +kernel
theorem dot_str : ("." : Str) = ⟨#[46]⟩ := by decide +kernel
theorem z0_codes : ("-0.00" : Str).cps.toList = zero0 := by decide +kernel
theorem un_len (l : List Nat) : (unS l).length ≤ l.length := by
  unfold unS
  split
  · rw [List.length_tail]; omega
  · exact Nat.le_refl _
theorem fig_len {l : List Nat} (h : figL l = true) : 1 ≤ l.length := by
  unfold figL at h
  cases l with
  | nil => cases h
  | cons a l => rw [List.length_cons]; omega
theorem ok_long {u : List Nat} (h : figL (wh u) = true) : 4 ≤ u.length := by
  have := fig_len h
  unfold wh at this
  rw [List.length_take] at this
  omega
theorem at_m3 {l : List Nat} (h : 3 ≤ l.length) : atI l (-3) = l[l.length - 3]? := by
  unfold atI ixN
  rw [if_neg (by decide), if_pos (by omega)]
  show l[((-3 : Int) + (l.length : Nat)).toNat]? = _
  rw [show ((-3 : Int) + (l.length : Nat)).toNat = l.length - 3 by omega]

noncomputable def lawU (u : List Nat) : Bool := decide ((u.drop (u.length - 3)).take (u.length - 2 - (u.length - 3)) = [46]) && (decide (4 ≤ u.length) && ((wh u ++ la2 u).all isF && !(decide (4 < u.length) && decide (u.head? = some 48))))
theorem dot_at {u : List Nat} (h : 4 ≤ u.length) : ((u.drop (u.length - 3)).take (u.length - 2 - (u.length - 3)) = [46]) ↔ u[u.length - 3]? = some 46 := by
  have e : u.length - 2 - (u.length - 3) = 1 := by omega
  have hl : u.length - 3 < u.length := by omega
  rw [e, List.take_one, List.head?_drop, List.getElem?_eq_getElem hl]
  simp
theorem wh_head {u : List Nat} (h : 4 ≤ u.length) : (wh u).head? = u.head? := by
  unfold wh
  rw [List.head?_take, if_neg (by omega)]
theorem law_ok (u : List Nat) : lawU u = okU u := by
  by_cases h4 : 4 ≤ u.length
  · have hw : (wh u).length = u.length - 3 := by unfold wh; rw [List.length_take]; omega
    have hl : (la2 u).length = 2 := by unfold la2; rw [List.length_drop]; omega
    have fw : figL (wh u) = (wh u).all isF := by
      unfold figL
      cases e : wh u with
      | nil => rw [e] at hw; simp at hw; omega
      | cons a l => rfl
    have fl : figL (la2 u) = (la2 u).all isF := by
      unfold figL
      cases e : la2 u with
      | nil => rw [e] at hl; cases hl
      | cons a l => rfl
    have nz : (decide (wh u = [48]) || !decide ((wh u).head? = some 48)) = !(decide (4 < u.length) && decide (u.head? = some 48)) := by
      rw [wh_head h4]
      by_cases h5 : 4 < u.length
      · have ne : ¬ wh u = [48] := fun c => by rw [c] at hw; simp at hw; omega
        rw [decide_eq_false ne, decide_eq_true h5, Bool.false_or, Bool.true_and]
      · rw [decide_eq_false h5, Bool.false_and, Bool.not_false]
        obtain ⟨a, ha⟩ := List.length_eq_one_iff.mp (show (wh u).length = 1 by omega)
        have hh := wh_head h4
        rw [ha] at hh ⊢
        rw [← hh]
        by_cases c : a = 48
        · subst c; rfl
        · rw [decide_eq_false (by intro q; exact c (by injection q)), decide_eq_false (by intro q; exact c (Option.some.inj q))]
          rfl
    unfold lawU okU numT0
    rw [decide_eq_true h4, fw, fl, nz, decide_eq_decide.mpr (dot_at h4), List.all_append]
    cases decide (u[u.length - 3]? = some 46) <;> cases (wh u).all isF <;> cases (la2 u).all isF <;> cases (!(decide (4 < u.length) && decide (u.head? = some 48))) <;> rfl
  · have : okU u = false := by
      cases e : okU u with
      | false => rfl
      | true =>
        unfold okU numT0 at e
        rw [Bool.and_eq_true, Bool.and_eq_true] at e
        exact absurd (ok_long e.1.1) h4
    rw [this]
    unfold lawU
    rw [decide_eq_false h4, Bool.false_and, Bool.and_false]
theorem dv_app (a b : List Nat) (hb : b.length = 2) : digitsVal (a ++ b) = digitsVal a * 100 + digitsVal b := by
  match b, hb with
  | [x, y], _ =>
    rw [show a ++ [x, y] = (a ++ [x]) ++ [y] by simp, digitsVal_snoc, digitsVal_snoc]
    show _ = digitsVal a * 100 + ((0 * 10 + (x - 48)) * 10 + (y - 48))
    omega
end Pg
set_option Elab.async false
set_option linter.all false
set_option maxRecDepth 100000
set_option maxHeartbeats 4000000
namespace K28
open PySem PySem.NumText L2 Pg
seal PE PA PT PW PS PSs PG PGs PI PIf PO PK
section
variable {P : Program} {w : World} {K : PySem.W.Frag} {mg : Str → Option Value} {base : Heap} {f : Addr} {fd : FuncData} {d : Nat → Addr} {cR : Addr}
theorem neg_one (z : Str) : decide (V.str (Txt.slice z none (some 1)) = V.str ("-" : Str)) = decide (z.cps.toList.head? = some 45) := by
  rw [like_codes, cut_h1, dash_str]
  refine decide_eq_decide.mpr ?_
  show z.cps.toList.take 1 = [45] ↔ _
  cases z.cps.toList with
  | nil => exact ⟨(fun h => nomatch h), (fun h => nomatch h)⟩
  | cons a l => exact ⟨fun h => congrArg some (List.cons.inj h).1, fun h => by rw [Option.some.inj h]; rfl⟩
theorem un_cut (z : Str) : (Txt.slice z (some (if decide (z.cps.toList.head? = some 45) = true then 1 else 0)) none).cps.toList = unS z.cps.toList := by
  unfold unS
  by_cases c : z.cps.toList.head? = some 45
  · rw [if_pos (decide_eq_true c), if_pos c, cut_t1]
  · rw [if_neg fun h => c (of_decide_eq_true h), if_neg c, cut_t0]
theorem digs_of {l : List Nat} (h : l.all isF = true) (n : l ≠ []) : AllDigits l ∧ l ≠ [] := figL_digits (by
  unfold figL
  cases l with
  | nil => exact absurd rfl n
  | cons a r => exact h)
set_option maxHeartbeats 8000000 in
theorem ok_readsL (F : Fun K "_law_reads" "_law_reads" (top 67) f fd) (G : Glb mg) : FnOk P w K mg base CX0 1 f fd ["_law_text"] sp_readsL := by
  have nd : (["_law_text", "_law_body", "_law_figures"] : List Str).Nodup := by decide +kernel
  have nc : (["_law_sign"] : List Str).Nodup := by decide +kernel
  refine F.ok (N := ["_law_text", "_law_body", "_law_figures"]) ⟨rfl, rfl, rfl, by decide +kernel, rfl, by decide +kernel, by decide +kernel⟩ (fun vs H Q E h => ?_) (fun cdv A outer s H vs Q E hr h => ?_)
  · obtain ⟨z, rfl, _⟩ := h
    rfl
  · obtain ⟨z, rfl, hz, q⟩ := h
    have zf : z.length ≤ sizeLine := fitS hz rfl
    have un0 : (A.deeper (PyProof.Rows.envOfC "_law_reads" (defScope (top 67)) s.heap.objs.size f cdv)).units < cLine := Nat.lt_of_le_of_lt (Nat.le_add_right _ 64) hr.units
    refine' ⟨_, (pss_cons (ps_if (pt_cmpR op_gt (pe_callB call_len_str rfl G.len boot_len (pa_cons (pv 0) pa_nil)) pe_int (nomark _)) (pss_one (ps_ret pe_non)) pss_nil)
        (pss_cons (ps_set (i := 1) nd rfl (Or.inl rfl) (pe_slice sl_str (pv 0) (po_some (pe_callTy call_int1 rfl G.int boot_int (pa_cons (pe_cmpR op_eq (pe_slice sl_str (pv 0) po_none (po_some pe_int)) pe_str (nomark _)) pa_nil))) po_none))
        (pss_cons (ps_set (i := 2) nd rfl (Or.inl rfl) (pe_op op_add_str (pe_slice sl_str (pv 1) po_none (po_some (pe_un un_neg pe_int))) (pe_slice sl_str (pv 1) (po_some (pe_un un_neg pe_int)) po_none)))
        (pss_cons (ps_if (PW.pt (pw_or (pt_cmpR op_ne (pe_slice sl_str (pv 1) (po_some (pe_un un_neg pe_int)) (po_some (pe_un un_neg pe_int))) pe_str (nomark _)) (pw_or (pt_cmpR op_lt (pe_callB call_len_str rfl G.len boot_len (pa_cons (pv 1) pa_nil)) pe_int (nomark _)) (pw_or1 (pt_cmpR (op_neNil un0) ?comp_1 (pe_lstS pa_nil) (nomark _)))))) (pss_one (ps_ret pe_non)) pss_nil)
        (pss_cons (ps_if (PW.pt (pw_or (PW.pt (pw_and (pt_cmpR op_gt (pe_callB call_len_str rfl G.len boot_len (pa_cons (pv 1) pa_nil)) pe_int (nomark _)) (pw_and1 (pt_cmpR op_eq (pe_at ix_str (pv 1) pe_int) pe_str (nomark _))))) (pw_or1 (pt_cmpR op_eq (pv 0) pe_str (nomark _))))) (pss_one (ps_ret pe_non)) pss_nil)
        (pss_one (ps_ret (pe_op op_mul (pe_callTy call_int_text rfl G.int boot_int (pa_cons (pv 2) pa_nil)) (pe_at ix_list (pe_lstS (pa_cons pe_int (pa_cons (pe_un un_neg pe_int) pa_nil))) (pe_callTy call_int1 rfl G.int boot_int (pa_cons (pe_cmpR op_eq (pe_slice sl_str (pv 0) po_none (po_some pe_int)) pe_str (nomark _)) pa_nil))))))))))), ?main⟩
    case comp_1 =>
      refine' pe_compI (Nc := ["_law_sign"]) (cl := []) (src := [none]) (wi := iStr (tVar 2)) (g := gName 0) (tt := tTest (tOp (fun x y H Q => ∃ i j, x = .str i ∧ y = .str j ∧ Q (.bl (!(!(Builtin.Str.occurrences j i 0 j.length 1).isEmpty))) H) (tVar 0) (tC (.str "0123456789")))) (te := tVar 0) ⟨rfl, rfl, by decide +kernel, by decide +kernel, (fun x c z => nomatch z), has_of (by rfl), frm_none frm_nil, rfl⟩ rfl (pi_str (pv 2)) ?hb
      case hb =>
        intro fp C' s' H'
        exact ⟨pg_name (i := 0) nc rfl (Or.inl rfl), pif_one (pt_cmpR op_notin_str (pv 0) pe_str (by rfl)), pv 0⟩
    try (dsimp (config := { proj := false, iota := false, beta := false, eta := false }) only [cxOf_K, nox_K])
    refine ⟨_, rfl, z, rfl, zf, _, _, rfl, rfl, _, rfl, ite2 (fun e => ?_) (fun e => ?_)⟩
    · have e : (30 : Int) < ((z.length : Nat) : Int) := of_decide_eq_true e
      have rd : readL z.cps.toList = none := by
        unfold readL
        rw [if_neg fun h => by have := h.1; rw [← len_codes] at this; omega]
      rw [rd] at q
      exact q H (Same.refl _)
    have l30 : z.length ≤ 30 := by
      have e : ¬ (30 : Int) < ((z.length : Nat) : Int) := fun c => e (decide_eq_true c)
      omega
    refine ⟨_, rfl, _, rfl, _, rfl, _, rfl, zf, rfl, .inr ⟨_, rfl, _, rfl, _, rfl, zf, ?_⟩⟩
    rw [neg_one]
    have ey := un_cut z
    generalize Txt.slice z (some (if decide (z.cps.toList.head? = some 45) = true then 1 else 0)) none = y at ey
    have yl : y.length ≤ 30 := by
      rw [len_codes, ey]
      have := un_len z.cps.toList
      rw [← len_codes] at this
      omega
    have yf : y.length ≤ sizeLine := fitS yl rfl
    have c3 : (Txt.slice y none (some (-3))).cps.toList = wh (unS z.cps.toList) := by rw [cut_m3, ey]
    have c2 : (Txt.slice y (some (-2)) none).cps.toList = la2 (unS z.cps.toList) := by rw [cut_l2, ey]
    have cd := cut_dot y
    have l1 := Nat.le_trans (Txt.slice_le y none (some (-3))) yl
    have l2 := Nat.le_trans (Txt.slice_le y (some (-2)) none) yl
    refine ⟨_, rfl, _, rfl, _, rfl, _, rfl, yf, _, rfl, _, rfl, _, rfl, _, rfl, yf, _, _, rfl, rfl, fitS (show _ ≤ 60 by omega) rfl, ?_⟩
    have fc : (Txt.slice y none (some (-3)) ++ Txt.slice y (some (-2)) none).cps.toList = wh (unS z.cps.toList) ++ la2 (unS z.cps.toList) := by rw [app_codes, c3, c2]
    have fl : (Txt.slice y none (some (-3)) ++ Txt.slice y (some (-2)) none).length ≤ 60 := by rw [app_len]; omega
    generalize Txt.slice y none (some (-3)) ++ Txt.slice y (some (-2)) none = fg at fc fl
    rw [ey] at cd
    generalize hu : unS z.cps.toList = u at ey cd fc c3 c2
    have ul : y.length = u.length := by rw [len_codes, ey]
    have rdN : okU u = false → readL z.cps.toList = none := fun h => by
      unfold readL
      rw [hu, if_neg fun h' => by rw [h] at h'; exact Bool.false_ne_true h'.2.1]
    dsimp only
    refine ifs_to (fun R => ∀ H', Same H H' → R (!(decide ((u.drop (u.length - 3)).take (u.length - 2 - (u.length - 3)) = [46]) && (decide (4 ≤ u.length) && (wh u ++ la2 u).all isF))) H') (fun R r => ?_) (fun H1 s1 => ?_)
    · refine ⟨_, rfl, _, rfl, _, rfl, _, rfl, _, rfl, _, rfl, yf, rfl, _, rfl, ?_⟩
      rw [like_codes, cd, dot_str]
      show if (!decide ((u.drop (u.length - 3)).take (u.length - 2 - (u.length - 3)) = [46])) = true then _ else _
      cases ed : decide ((u.drop (u.length - 3)).take (u.length - 2 - (u.length - 3)) = [46]) with
      | false =>
        rw [ed, Bool.false_and] at r
        exact iteT (r H (Same.refl _))
      | true =>
        rw [ed, Bool.true_and] at r
        refine iteF ⟨_, rfl, y, rfl, yf, _, _, rfl, rfl, _, rfl, ite2 (fun e => ?_) (fun e => ?_)⟩
        · have e : ((y.length : Nat) : Int) < 4 := of_decide_eq_true e
          rw [decide_eq_false (show ¬ 4 ≤ u.length by omega), Bool.false_and] at r
          exact r H (Same.refl _)
        · have e : ¬ ((y.length : Nat) : Int) < 4 := fun c => e (decide_eq_true c)
          rw [decide_eq_true (show 4 ≤ u.length by omega), Bool.true_and] at r
          refine ⟨_, rfl, fg, rfl, fun D hD => comp_fm (walk_str (z := fg)) hD (by rw [List.length_map, ← len_codes, sizeLine_eq]; omega) (fun x => match x with | .str y => !isF (y.cps.getD 0 0) | _ => false) (fun x => x) (fun x hx H' R' _ r' => ?_) (fun x hx _ H' R' _ r' => ⟨_, rfl, r'⟩) ?_⟩
          · obtain ⟨c, _, rfl⟩ := List.mem_map.mp hx
            refine ⟨_, rfl, _, _, rfl, rfl, _, rfl, ?_⟩
            rw [fig_in]
            exact r'
          · have nil : ((fg.cps.toList.map fun c => V.str ⟨#[c]⟩).filter (fun x => match x with | .str y => !isF (y.cps.getD 0 0) | _ => false)).map (fun x => x) = [] ↔ (wh u ++ la2 u).all isF = true := by
              rw [List.map_id', List.filter_eq_nil_iff, fc, List.all_eq_true]
              constructor
              · intro h c hc
                have := h (V.str ⟨#[c]⟩) (List.mem_map.mpr ⟨c, hc, rfl⟩)
                cases q : isF c with
                | true => rfl
                | false =>
                  have t : (!isF c) = true := by rw [q]; rfl
                  exact absurd t this
              · intro h x hx
                obtain ⟨c, hc, rfl⟩ := List.mem_map.mp hx
                show ¬ (!isF c) = true
                rw [h c hc]
                exact Bool.false_ne_true
            refine ⟨lenOk rfl, fun em H2 s2 em0 e2 => ⟨D, em, _, rfl, rfl, SqL.of (s2 _ _ upd_same), SqL.of e2, fun eN => ⟨false, rfl, ?_⟩, fun nN => ⟨true, rfl, ?_⟩⟩⟩
            · rw [nil.mp eN] at r
              exact r H2 ((Same.upd hD).trans s2)
            · have : (wh u ++ la2 u).all isF = false := by
                cases q : (wh u ++ la2 u).all isF with
                | false => rfl
                | true => exact absurd (nil.mpr q) nN
              rw [this] at r
              exact r H2 ((Same.upd hD).trans s2)
    have lo := law_ok u
    unfold lawU at lo
    cases ea : (decide ((u.drop (u.length - 3)).take (u.length - 2 - (u.length - 3)) = [46]) && (decide (4 ≤ u.length) && (wh u ++ la2 u).all isF)) with
    | false =>
      have ok : okU u = false := by
        rw [← lo, ← Bool.and_assoc, ← Bool.and_assoc]
        rw [← Bool.and_assoc] at ea
        rw [ea, Bool.false_and]
      rw [rdN ok] at q
      exact iteT (q H1 s1)
    | true =>
      refine iteF ?_
      have ok : okU u = !(decide (4 < u.length) && decide (u.head? = some 48)) := by
        rw [← lo, ← Bool.and_assoc, ← Bool.and_assoc]
        rw [← Bool.and_assoc] at ea
        rw [ea, Bool.true_and]
      rw [Bool.and_eq_true, Bool.and_eq_true] at ea
      obtain ⟨_, ea2, ea3⟩ := ea
      have h4 : 4 ≤ u.length := of_decide_eq_true ea2
      obtain ⟨x0, ux⟩ : ∃ x0, u.head? = some x0 := by
        cases u with
        | nil => cases h4
        | cons a l => exact ⟨a, rfl⟩
      have a0 : atI y.cps.toList 0 = some x0 := by
        rw [ey]
        cases u with
        | nil => cases ux
        | cons a l => exact atI_of (i := 0) (by decide) ux
      dsimp only [tNext]
      refine ifs_to (fun R => R (!okU u || decide (z.cps.toList = zero0)) H1) (fun R r => ?_) ?_
      · refine ⟨_, rfl, y, rfl, yf, _, _, rfl, rfl, _, rfl, ?_⟩
        have fin : R (!okU u || decide (z.cps.toList = zero0)) H1 → ¬ (decide (4 < u.length) && decide (u.head? = some 48)) = true → R (decide (z.cps.toList = zero0)) H1 := fun r n => by
          rw [ok] at r
          cases q : (decide (4 < u.length) && decide (u.head? = some 48)) with
          | true => exact absurd q n
          | false => rw [q] at r; exact r
        refine ite2 (fun e => ?_) (fun e => ?_)
        · have e : (4 : Int) < ((y.length : Nat) : Int) := of_decide_eq_true e
          refine ⟨_, rfl, y, 0, _, rfl, rfl, yf, a0, rfl, _, rfl, ?_⟩
          rw [like_codes, zero_str]
          show if decide ([x0] = [48]) = true then _ else _
          by_cases c : x0 = 48
          · rw [decide_eq_true (by rw [c])]
            refine iteT ?_
            rw [ok, decide_eq_true (show 4 < u.length by omega), ux, c, decide_eq_true rfl] at r
            exact r
          · rw [decide_eq_false fun q => c (List.cons.inj q).1]
            refine iteF ⟨_, rfl, rfl, _, rfl, ?_⟩
            rw [like_codes, z0_codes]
            exact fin r fun q => by
              rw [Bool.and_eq_true] at q
              have := of_decide_eq_true q.2
              rw [ux] at this
              exact c (Option.some.inj this)
        · have e : ¬ (4 : Int) < ((y.length : Nat) : Int) := fun c => e (decide_eq_true c)
          refine iteF ⟨_, rfl, rfl, _, rfl, ?_⟩
          rw [like_codes, z0_codes]
          exact fin r fun q => by
            rw [Bool.and_eq_true] at q
            have := of_decide_eq_true q.1
            omega
      cases eo : okU u with
      | false =>
        rw [rdN eo] at q
        exact iteT (q H1 s1)
      | true =>
        by_cases cz : z.cps.toList = zero0
        · rw [decide_eq_true cz]
          have rd : readL z.cps.toList = none := by
            unfold readL
            rw [if_neg fun h => h.2.2 cz]
          rw [rd] at q
          exact iteT (q H1 s1)
        · rw [decide_eq_false cz]
          refine iteF ?_
          have nn : wh u ++ la2 u ≠ [] := fun c => by
            have : (la2 u).length = 2 := by unfold la2; rw [List.length_drop]; omega
            rw [(List.append_eq_nil_iff.mp c).2] at this
            cases this
          obtain ⟨a1, n1⟩ := digs_of ea3 nn
          have t1 := intText_digits (x := fg) (by rw [fc]; exact a1) (by rw [fc]; exact n1) (by omega)
          rw [fc, dv_app _ _ (by unfold la2; rw [List.length_drop]; omega)] at t1
          have rd : readL z.cps.toList = some (if z.cps.toList.head? = some 45 then -(valU u) else valU u) := by
            unfold readL
            rw [hu, if_pos ⟨by rw [← len_codes]; exact l30, eo, cz⟩]
          refine ⟨_, rfl, fg, _, rfl, t1, by omega, _, rfl, lenOk rfl, fun l2 H2 s2 n2 e2 => ?_⟩
          refine ⟨_, rfl, _, rfl, _, rfl, zf, rfl, .inr ⟨_, rfl, ?_⟩⟩
          rw [neg_one]
          by_cases c : z.cps.toList.head? = some 45
          · rw [if_pos c] at rd
            rw [rd] at q
            rw [decide_eq_true c]
            refine ⟨l2, _, 1, _, rfl, rfl, SqL.of e2, rfl, _, _, rfl, rfl, .inr ⟨by decide, by decide⟩, ?_⟩
            have ev : (((digitsVal (wh u) * 100 + digitsVal (la2 u) : Nat) : Int) * -1) = -(valU u) := by unfold valU; omega
            rw [← ev] at q
            exact q H2 (s1.trans s2)
          · rw [if_neg c] at rd
            rw [rd] at q
            rw [decide_eq_false c]
            refine ⟨l2, _, 0, _, rfl, rfl, SqL.of e2, rfl, _, _, rfl, rfl, .inr ⟨by decide, by decide⟩, ?_⟩
            have ev : (((digitsVal (wh u) * 100 + digitsVal (la2 u) : Nat) : Int) * 1) = valU u := by unfold valU; omega
            rw [← ev] at q
            exact q H2 (s1.trans s2)
end
end K28
set_option Elab.async false
set_option linter.all false
set_option maxRecDepth 100000
namespace Pg
open PySem L2 PySem.NumText
theorem log_big50 {z : Int} (h0 : 0 ≤ z) (h1 : z < 10 ^ 50) : z.natAbs.log2 < 1920 := by
  obtain ⟨n, rfl⟩ := Int.eq_ofNat_of_zero_le h0
  show n.log2 < 1920
  by_cases e : n = 0
  · rw [e]; decide
  · refine (Nat.log2_lt e).mpr (Nat.lt_of_lt_of_le (m := 10 ^ 50) (by omega) ?_)
    exact Nat.le_trans (show 10 ^ 50 ≤ 2 ^ 200 by decide) (Nat.pow_le_pow_right (by decide) (by decide))
noncomputable def sp_toldLG : Sp := fun vs H Q _ => ∃ a, vs = [.int a] ∧ absI a < 10 ^ 50 ∧ Q (.str (toldS a)) H
noncomputable def sp_amtL : Sp := fun vs H Q _ => ∃ n, vs = [.int n] ∧ 0 ≤ n ∧ n < 2147483629 ∧ ∀ a H', absI a < 10 ^ 50 → Same H H' → Q (.int a) H'
noncomputable def sp_bentL : Sp := fun vs H Q _ => ∃ z n, vs = [.str z, .int n] ∧ z.length ≤ 60 ∧ 0 ≤ n ∧ ∀ y H', y.length ≤ 10000 → Same H H' → Q (.str y) H'
noncomputable def sp_nxtL : Sp := fun vs H Q _ => ∃ n, vs = [.int n, .int 0] ∧ ∀ m, 0 ≤ m → m < 2147483629 → Q (.int m) H
noncomputable def sp_readT (K : PySem.W.Frag) : Sp := fun vs H Q _ => ∃ v, vs = [v] ∧ ((NoStr K H v ∧ ∀ l H', Same H H' → H l = none → H' l = some (.lst (kWord 2)) → Q (.ref l) H') ∨ ∃ z, v = .str z ∧ z.length ≤ 100000 ∧ (∀ a, readL z.cps.toList = some a → ∀ H', Same H H' → Q (.int a) H') ∧ (readL z.cps.toList = none → ∀ l H', Same H H' → H l = none → H' l = some (.lst (kWord 2)) → Q (.ref l) H'))
noncomputable def sp_fitsT : Sp := fun vs H Q _ => ∃ z, vs = [.str z] ∧ z.length ≤ 100000 ∧ ∀ H', Same H H' → Q (.bl true) H'
noncomputable def sp_refT : Sp := fun vs H Q _ => ∃ n, vs = [.int n] ∧ ∀ H', Same H H' → Q (.bl true) H'
theorem times_len (z : Str) (n : Int) : (timesS z n).length = n.toNat * z.length := by
  rw [len_codes]
  unfold timesS
  rw [len_codes z]
  show ((List.replicate n.toNat z.cps.toList).flatten).length = _
  rw [List.length_flatten, List.map_replicate, List.sum_replicate_nat]
end Pg
set_option Elab.async false
set_option linter.all false
set_option maxRecDepth 100000
set_option maxHeartbeats 4000000
namespace K28
open PySem PySem.NumText L2 Pg
seal PE PA PT PW PS PSs PG PGs PI PIf PO PK
section
variable {P : Program} {w : World} {K : PySem.W.Frag} {mg : Str → Option Value} {base : Heap} {f : Addr} {fd : FuncData} {d : Nat → Addr} {cR : Addr}
theorem ok_toldLG (F : Fun K "_law_told" "_law_told" (top 66) f fd) (G : Glb mg) : FnOk P w K mg base CX0 1 f fd ["_law_amount"] sp_toldLG := by
  have nd : (["_law_amount", "_law_figures"] : List Str).Nodup := by decide +kernel
  refine F.ok (N := ["_law_amount", "_law_figures"]) ⟨rfl, rfl, rfl, by decide +kernel, rfl, by decide +kernel, by decide +kernel⟩ (fun vs H Q E h => ?_) (fun cdv A outer s H vs Q E hr h => ?_)
  · obtain ⟨n, rfl, _⟩ := h
    rfl
  · obtain ⟨a, rfl, hb, q⟩ := h
    refine ⟨_, (pss_cons (ps_set (i := 1) nd rfl (Or.inl rfl) (pe_callTy call_str_int rfl G.str boot_str (pa_cons (pe_callB call_abs rfl G.abs boot_abs (pa_cons (pv 0) pa_nil)) pa_nil)))
        (pss_cons (ps_while PassesOwn.never (pt_cmpR op_lt (pe_callB call_len_str rfl G.len boot_len (pa_cons (pv 1) pa_nil)) pe_int (nomark _)) (pss_one (ps_set (i := 1) nd rfl (Or.inl rfl) (pe_op op_add_str pe_str (pv 1)))))
        (pss_one (ps_ret (pe_op op_add_str (pe_op op_add_str (pe_op op_add_str (pe_op op_mul_str pe_str (pe_callTy call_int1 rfl G.int boot_int (pa_cons (pe_cmpR op_lt (pv 0) pe_int (nomark _)) pa_nil))) (pe_slice sl_str (pv 1) po_none (po_some (pe_un un_neg pe_int)))) pe_str) (pe_slice sl_str (pv 1) (po_some (pe_un un_neg pe_int)) po_none)))))), ?_⟩
    have n0 := absI_nn a
    obtain ⟨n, hn⟩ := Int.eq_ofNat_of_zero_le n0
    have hb' : absI a < 10 ^ 50 := hb
    have nb : n < 10 ^ 50 := by omega
    have ln : (dg n).length ≤ 50 := dg_len_le (by decide) nb
    have lp := dg_len_pos n
    refine ⟨_, rfl, a, rfl, absI a, rfl, log_big50 n0 hb', ?_⟩
    refine ⟨fun m σ H' => H' = H ∧ ∃ (z : Str) (k : Nat), σ = [some (.int a), some (.str z)] ∧ z.cps.toList = List.replicate k 48 ++ dg n ∧ (k = 0 ∨ z.cps.toList.length ≤ 3) ∧ m = 3 - z.cps.toList.length, ⟨_, rfl, numS (absI a), 0, rfl, by rw [hn, numS_codes]; rfl, .inl rfl, rfl⟩, fun m σ H' z => ?_⟩
    obtain ⟨rfl, z, k, rfl, zc, zk, rfl⟩ := z
    have zl : z.cps.toList.length = k + (dg n).length := by rw [zc, List.length_append, List.length_replicate]
    have zlen : z.length = k + (dg n).length := by rw [len_codes, zl]
    refine ⟨_, rfl, z, rfl, by rw [sizeLine_eq]; omega, _, _, rfl, rfl, _, rfl, ite2 (fun e => ?_) (fun e => ?_)⟩
    · have e : ((z.length : Nat) : Int) < 3 := of_decide_eq_true e
      refine ⟨fun σ' H'' => ∃ m', m' < 3 - z.cps.toList.length ∧ H'' = H' ∧ ∃ (z : Str) (k : Nat), σ' = [some (.int a), some (.str z)] ∧ z.cps.toList = List.replicate k 48 ++ dg n ∧ (k = 0 ∨ z.cps.toList.length ≤ 3) ∧ m' = 3 - z.cps.toList.length, fun σ' H' h => h, ?_⟩
      have l0 : ("0" : Str).length = 1 := by decide +kernel
      have c0 : (("0" : Str) ++ z).cps.toList = List.replicate (k + 1) 48 ++ dg n := by
        rw [app_codes, zc, show ("0" : Str).cps.toList = [48] by decide +kernel, List.replicate_succ]
        rfl
      have cl : (("0" : Str) ++ z).cps.toList.length = k + 1 + (dg n).length := by rw [c0, List.length_append, List.length_replicate]
      refine ⟨_, rfl, _, _, rfl, rfl, by rw [l0, sizeLine_eq]; omega, 3 - (("0" : Str) ++ z).cps.toList.length, by rw [cl, zl]; omega, rfl, _, k + 1, rfl, c0, .inr (by rw [cl]; omega), rfl⟩
    · have e : ¬ ((z.length : Nat) : Int) < 3 := fun c => e (decide_eq_true c)
      have zp : z.cps.toList = padZ 3 (dg (absI a).toNat) := by
        rw [hn, Int.toNat_natCast, zc]
        unfold padZ
        congr 2
        omega
      have tl := told_law (a := a) zp
      have hl : z.length ≤ sizeLine := by rw [sizeLine_eq]; omega
      have ll : (timesS "-" (if decide (a < 0) = true then 1 else 0) ++ Txt.slice z none (some (-2)) ++ "." ++ Txt.slice z (some (-2)) none).length ≤ 60 := by rw [tl]; exact told_lenG hb
      rw [app_len, app_len, app_len] at ll
      have l1 : ("-" : Str).length = 1 := dash_len
      have l2 : ("." : Str).length = 1 := by decide +kernel
      have i1 : (if decide (a < 0) = true then (1 : Int) else 0) = 0 ∨ (if decide (a < 0) = true then (1 : Int) else 0) = 1 := by
        by_cases c : a < 0
        · rw [if_pos (decide_eq_true c)]
          exact .inr rfl
        · rw [if_neg fun q => c (of_decide_eq_true q)]
          exact .inl rfl
      refine ⟨_, rfl, _, _, rfl, rfl, .inr ⟨_, rfl, ?_⟩⟩
      refine ⟨_, _, rfl, rfl, by omega, by omega, by rw [l1, sizeLine_eq]; omega, _, rfl, _, rfl, _, rfl, _, rfl, hl, ?_⟩
      refine ⟨_, _, rfl, rfl, by rw [sizeLine_eq]; omega, _, _, rfl, rfl, by rw [app_len, sizeLine_eq]; omega, _, rfl, _, rfl, _, rfl, _, rfl, hl, ?_⟩
      refine ⟨_, _, rfl, rfl, by rw [app_len, app_len, sizeLine_eq]; omega, ?_⟩
      rw [← tl] at q
      exact q
end
end K28
set_option Elab.async false
set_option linter.all false
set_option maxRecDepth 100000
set_option maxHeartbeats 4000000
namespace K28
open PySem PySem.NumText L2 Pg
seal PE PA PT PW PS PSs PG PGs PI PIf PO PK
section
variable {P : Program} {w : World} {K : PySem.W.Frag} {mg : Str → Option Value} {base : Heap} {f : Addr} {fd : FuncData} {d : Nat → Addr} {cR : Addr}
theorem last_pad {k : Nat} {l a : List Nat} (h1 : 1 ≤ l.length) (h2 : l.length ≤ k) (ha : a = List.replicate (k - 1) 48) : (a ++ l).drop ((a ++ l).length - k) = padZ k l := by
  subst ha
  unfold padZ
  obtain ⟨m, hm⟩ := Nat.exists_eq_add_of_le' h1
  obtain ⟨j, rfl⟩ := Nat.exists_eq_add_of_le h2
  have e1 : l.length + j - 1 = m + j := by rw [hm, Nat.add_right_comm, Nat.add_sub_cancel]
  have e2 : m + j + l.length - (l.length + j) = m := by rw [Nat.add_assoc, Nat.add_comm j, Nat.add_sub_cancel]
  rw [List.length_append, List.length_replicate, e1, e2, List.drop_append_of_le_length (by rw [List.length_replicate]; exact Nat.le_add_right _ _), List.drop_replicate, Nat.add_sub_cancel_left, Nat.add_sub_cancel_left]
theorem lastY {y : Int} (h0 : 0 ≤ y) (h1 : y ≤ 9999) : Txt.slice (("000" : Str) ++ numS y) (some (-4)) none = yearS y := by
  obtain ⟨n, rfl⟩ := Int.eq_ofNat_of_zero_le h0
  have e : (("000" : Str) ++ numS (n : Nat)).cps.toList = List.replicate 3 48 ++ dg n := by
    rw [app_codes, numS_codes, show ("000" : Str).cps.toList = List.replicate 3 48 by decide +kernel]
  have l1 := dg_len_pos n
  have l2 : (dg n).length ≤ 4 := dg_len_le (by decide) (by simpa using mL4 h1)
  refine str_eq ?_
  have := last_codes (z := ("000" : Str) ++ numS (n : Nat)) (k := 4) (by decide) (by rw [e, List.length_append, List.length_replicate]; exact Nat.add_le_add_left l1 _)
  rw [e] at this
  refine this.trans ?_
  rw [last_pad (k := 4) l1 l2 rfl, yearS_codes h0, Int.toNat_natCast]
theorem lastP {y : Int} (h0 : 0 ≤ y) (h1 : y ≤ 99) : Txt.slice (("0" : Str) ++ numS y) (some (-2)) none = placeS y := by
  obtain ⟨n, rfl⟩ := Int.eq_ofNat_of_zero_le h0
  have e : (("0" : Str) ++ numS (n : Nat)).cps.toList = List.replicate 1 48 ++ dg n := by
    rw [app_codes, numS_codes, show ("0" : Str).cps.toList = List.replicate 1 48 by decide +kernel]
  have l1 := dg_len_pos n
  have l2 : (dg n).length ≤ 2 := dg_len_le (by decide) (by simpa using mL2 h1)
  refine str_eq ?_
  have := last_codes (z := ("0" : Str) ++ numS (n : Nat)) (k := 2) (by decide) (by rw [e, List.length_append, List.length_replicate]; exact Nat.add_le_add_left l1 _)
  rw [e] at this
  refine this.trans ?_
  rw [last_pad (k := 2) l1 l2 rfl, placeS_codes h0, Int.toNat_natCast]
theorem numS_len {z : Int} {k : Nat} (h0 : 0 ≤ z) (hk : 1 ≤ k) (h1 : z.toNat < 10 ^ k) : (numS z).length ≤ k := by
  obtain ⟨n, rfl⟩ := Int.eq_ofNat_of_zero_le h0
  rw [len_codes, numS_codes]
  exact dg_len_le hk (by simpa using h1)
theorem ok_textL (F : Fun K "_law_month_text" "_law_month_text" (top 68) f fd) (G : Glb mg) : FnOk P w K mg base CX0 1 f fd ["_law_month"] sp_textL := by
  have nd : (["_law_month", "_law_year", "_law_place"] : List Str).Nodup := by decide +kernel
  refine F.ok (N := ["_law_month", "_law_year", "_law_place"]) ⟨rfl, rfl, rfl, by decide +kernel, rfl, by decide +kernel, by decide +kernel⟩ (fun vs H Q E h => ?_) (fun cdv A outer s H vs Q E hr h => ?_)
  · obtain ⟨n, rfl, _⟩ := h
    rfl
  · obtain ⟨z, rfl, h0, h1, q⟩ := h
    have y0 := mY0 h0
    have y1 := mY1 h1
    have ln : (numS (z / 12)).length ≤ 4 := numS_len y0 (by decide) (mL4 y1)
    have lm : (numS (z % 12 + 1)).length ≤ 2 := numS_len (mP0 z) (by decide) (mL2 (mP1 z))
    have l3 : ("000" : Str).length = 3 := by decide +kernel
    have l1 : ("0" : Str).length = 1 := by decide +kernel
    have sy := lastY (y := z / 12) y0 y1
    have sp := lastP (y := z % 12 + 1) (mP0 z) (mP1 z)
    have ly := yearS_len (y := z / 12) y0 y1
    have lp : (placeS (z % 12 + 1)).length = 2 := placeS_len (mP0 z) (mP1 z)
    refine ⟨_, (pss_cons (ps_set (i := 1) nd rfl (Or.inl rfl) (pe_op op_add_str pe_str (pe_callTy call_str_int rfl G.str boot_str (pa_cons (pe_op op_fdiv (pv 0) pe_int) pa_nil))))
        (pss_cons (ps_set (i := 2) nd rfl (Or.inl rfl) (pe_op op_add_str pe_str (pe_callTy call_str_int rfl G.str boot_str (pa_cons (pe_op op_add (pe_op op_mod (pv 0) pe_int) pe_int) pa_nil))))
        (pss_one (ps_ret (pe_op op_add_str (pe_op op_add_str (pe_slice sl_str (pv 1) (po_some (pe_un un_neg pe_int)) po_none) pe_str) (pe_slice sl_str (pv 2) (po_some (pe_un un_neg pe_int)) po_none)))))), ?_⟩
    refine ⟨_, rfl, _, _, rfl, rfl, ⟨by decide, by decide⟩, z / 12, rfl, log_small y0 (mB y1), ("000" : Str), numS (z / 12), rfl, rfl, by rw [l3]; exact fitA (Nat.le_refl 3) ln rfl, ?_⟩
    refine ⟨_, rfl, _, _, rfl, rfl, (by show (0 : Int) < 12; decide), _, _, rfl, rfl, z % 12 + 1, rfl, log_small (mP0 z) (mBP z), ("0" : Str), numS (z % 12 + 1), rfl, rfl, by rw [l1]; exact fitA (Nat.le_refl 1) lm rfl, ?_⟩
    refine ⟨_, rfl, _, rfl, _, rfl, _, rfl, by rw [app_len, l3]; exact fitA (Nat.le_refl 3) ln rfl, _, _, rfl, rfl, ?_, ?_⟩
    · show (Txt.slice (("000" : Str) ++ numS (z / 12)) (some (-4)) none).length + ("-" : Str).length ≤ sizeLine
      rw [sy, ly, dash_len]; exact fitS (Nat.le_refl _) rfl
    refine ⟨_, rfl, _, rfl, _, rfl, _, rfl, by rw [app_len, l1]; exact fitA (Nat.le_refl 1) lm rfl, _, _, rfl, rfl, ?_, ?_⟩
    · show (Txt.slice (("000" : Str) ++ numS (z / 12)) (some (-4)) none ++ ("-" : Str)).length + (Txt.slice (("0" : Str) ++ numS (z % 12 + 1)) (some (-2)) none).length ≤ sizeLine
      rw [sy, sp, app_len, ly, lp, dash_len]; exact fitS (Nat.le_refl _) rfl
    · show Q (.str (Txt.slice (("000" : Str) ++ numS (z / 12)) (some (-4)) none ++ ("-" : Str) ++ Txt.slice (("0" : Str) ++ numS (z % 12 + 1)) (some (-2)) none)) H
      rw [sy, sp]
      exact q
end
end K28
set_option Elab.async false
set_option linter.all false
set_option maxRecDepth 100000
set_option maxHeartbeats 4000000
namespace K28
open PySem PySem.NumText L2 Pg
seal PE PA PT PW PS PSs PG PGs PI PIf PO PK
section
variable {P : Program} {w : World} {K : PySem.W.Frag} {mg : Str → Option Value} {base : Heap} {f : Addr} {fd : FuncData} {d : Nat → Addr} {cR : Addr}
theorem ok_numT (F : Fun K "is_number_text" "is_number_text" (top 35) f fd) (C1 : Cal P w K mg base CX0 1 "are_figures" ["text"] sp_figs) : FnOk P w K mg base CX0 2 f fd ["text"] sp_numT := by
  refine F.ok (N := ["text"]) ⟨rfl, rfl, rfl, by decide +kernel, rfl, by decide +kernel, by decide +kernel⟩ (fun vs H Q E h => ?_) (fun cdv A outer s H vs Q E hr h => ?_)
  · obtain ⟨z, rfl, _⟩ := h
    rfl
  · obtain ⟨z, rfl, hz, q⟩ := h
    refine ⟨_, (pss_one (ps_ret (pe_and (pe_cal C1 hr (by decide) pass0 (pa_cons (pv 0) pa_nil)) (pe_one (pe_or (pe_cmpR op_eq (pv 0) pe_str (nomark _)) (pe_one (pe_not (pe_bm PySem.F.plainAttrs_str PySem.F.slot_str_startswith PySem.F.type_str_startswith mt_startswith (pv 0) (pa_cons pe_str pa_nil))))))))), ?_⟩
    refine ⟨_, rfl, z, rfl, by omega, fun H1 s1 => ⟨_, rfl, ?_⟩⟩
    have q' := q H1 s1
    unfold numT0 at q'
    cases e : figL z.cps.toList with
    | false =>
      rw [e] at q'
      exact iteF q'
    | true =>
      rw [e, Bool.true_and] at q'
      refine iteT ⟨_, rfl, rfl, _, rfl, ?_⟩
      have e0 : ("0" : Str).cps.toList = [48] := by rw [zero_str]
      rw [like_codes, e0]
      by_cases c : z.cps.toList = [48]
      · rw [decide_eq_true c] at q' ⊢
        exact iteT q'
      · rw [decide_eq_false c, Bool.false_or] at q'
        rw [decide_eq_false c]
        refine iteF ⟨_, rfl, rfl, _, _, rfl, rfl, _, rfl, ?_⟩
        rw [zero_str, starts_one]
        exact q'
theorem ok_amtT (F : Fun K "is_amount_text" "is_amount_text" (top 37) f fd) (C1 : Cal P w K mg base CX0 1 "are_figures" ["text"] sp_figs) (C2 : Cal P w K mg base CX0 2 "is_number_text" ["text"] sp_numT) : FnOk P w K mg base CX0 3 f fd ["text"] sp_amtT := by
  have nd : (["text", "whole"] : List Str).Nodup := by decide +kernel
  refine F.ok (N := ["text", "whole"]) ⟨rfl, rfl, rfl, by decide +kernel, rfl, by decide +kernel, by decide +kernel⟩ (fun vs H Q E h => ?_) (fun cdv A outer s H vs Q E hr h => ?_)
  · obtain ⟨z, rfl, _⟩ := h
    rfl
  · obtain ⟨z, rfl, hz, q⟩ := h
    have zf : z.length ≤ sizeLine := fitS hz rfl
    refine ⟨_, (pss_cons (ps_set (i := 1) nd rfl (Or.inl rfl) (pe_slice sl_str (pv 0) po_none (po_some (pe_un un_neg pe_int))))
        (pss_one (ps_ret (pe_and (pe_cal C2 hr (by decide) pass0 (pa_cons (pv 1) pa_nil)) (pe_and (pe_cmpR op_eq (pe_at ix_str (pv 0) (pe_un un_neg pe_int)) pe_str (nomark _)) (pe_one (pe_cal C1 hr (by decide) pass0 (pa_cons (pe_slice sl_str (pv 0) (po_some (pe_un un_neg pe_int)) po_none) pa_nil)))))))), ?_⟩
    refine ⟨_, rfl, _, rfl, _, rfl, _, rfl, zf, ?_⟩
    refine ⟨_, rfl, _, rfl, Nat.le_trans (Txt.slice_le z _ _) hz, fun H1 s1 => ?_⟩
    rw [cut_m3]
    have q1 := q H1 s1
    unfold okU at q1 q
    refine ⟨_, rfl, ?_⟩
    cases e : numT0 (wh z.cps.toList) with
    | false =>
      rw [e, Bool.false_and] at q1
      exact iteF q1
    | true =>
      rw [e, Bool.true_and] at q1 q
      have l4 : 4 ≤ z.cps.toList.length := by
        unfold numT0 at e
        rw [Bool.and_eq_true] at e
        exact ok_long e.1
      have hc := List.getElem?_eq_getElem (show z.cps.toList.length - 3 < z.cps.toList.length by omega)
      rw [hc] at q1 q
      refine iteT ⟨_, rfl, _, rfl, z, -3, _, rfl, rfl, zf, (by rw [at_m3 (by omega)]; exact hc), rfl, _, rfl, ?_⟩
      rw [like_codes, dot_str]
      show if decide ([z.cps.toList[z.cps.toList.length - 3]] = [46]) = true then _ else _
      by_cases c : z.cps.toList[z.cps.toList.length - 3] = 46
      · rw [c, decide_eq_true rfl, Bool.true_and] at q
        rw [c, decide_eq_true rfl]
        refine iteT ⟨_, rfl, _, rfl, _, rfl, _, rfl, zf, _, rfl, Nat.le_trans (Txt.slice_le z _ _) (by omega), fun H2 s2 => ?_⟩
        rw [cut_l2]
        exact q _ (s1.trans s2)
      · rw [decide_eq_false (fun y => c (Option.some.inj y)), Bool.false_and] at q1
        rw [decide_eq_false (fun y => c (List.cons.inj y).1)]
        exact iteF q1
set_option maxHeartbeats 4000000 in
theorem ok_readA {cT : Addr} (F : Fun K "read_amount" "read_amount" (top 38) f fd) (G : Glb mg) (X : Er K mg "BadText" cT) (N1 : Num mg "MOST_SIGNS_texts" 30) (C1 : Cal P w K mg base CX0 3 "is_amount_text" ["text"] sp_amtT) : FnOk P w K mg base (CXE P w) 4 f fd ["text"] (sp_readA K cT) := by
  obtain ⟨tm, hm⟩ := N1
  have nd : (["text", "below", "unsigned", "amount"] : List Str).Nodup := by decide +kernel
  refine F.okE (N := ["text", "below", "unsigned", "amount"]) ⟨rfl, rfl, rfl, by decide +kernel, rfl, by decide +kernel, by decide +kernel⟩ (fun vs H Q E h => ?_) (fun cdv A outer s H vs Q E hr h => ?_)
  · obtain ⟨v, rfl, _⟩ := h
    rfl
  · obtain ⟨v, rfl, h⟩ := h
    refine ⟨_, (pss_cons (ps_if (PW.pt (pw_or (pt_not (pt_val (pe_callB call_isinst rfl G.isinstance boot_isinstance (pa_cons (pv 0) (pa_cons (pe_bltn (v := .ty "str") rfl G.str boot_str rfl) pa_nil))))) (pw_or1 (pt_cmpR op_gt (pe_callB call_len_str rfl G.len boot_len (pa_cons (pv 0) pa_nil)) (pe_glob (v := .int 30) rfl hm ⟨_, rfl⟩) (nomark _))))) (pss_one (ps_raise throws_fn rfl rfl X.at' X.ex (pa_cons pe_str pa_nil))) pss_nil)
        (pss_cons (ps_set (i := 1) nd rfl (Or.inl rfl) (pe_bm PySem.F.plainAttrs_str PySem.F.slot_str_startswith PySem.F.type_str_startswith mt_startswith (pv 0) (pa_cons pe_str pa_nil)))
        (pss_cons (ps_set (i := 2) nd rfl (Or.inl rfl) (pe_ifExp (pt_val (pv 1)) (pe_slice sl_str (pv 0) (po_some pe_int) po_none) (pv 0)))
        (pss_cons (ps_if (PW.pt (pw_or (pt_not (pt_val (pe_cal C1 hr (by decide) pass0 (pa_cons (pv 2) pa_nil)))) (pw_or1 (pt_cmpR op_eq (pv 0) pe_str (nomark _))))) (pss_one (ps_raise throws_fn rfl rfl X.at' X.ex (pa_cons pe_str pa_nil))) pss_nil)
        (pss_cons (ps_set (i := 3) nd rfl (Or.inl rfl) (pe_op op_add (pe_op op_mul (pe_callTy call_int_text rfl G.int boot_int (pa_cons (pe_slice sl_str (pv 2) po_none (po_some (pe_un un_neg pe_int))) pa_nil)) pe_int) (pe_callTy call_int_text rfl G.int boot_int (pa_cons (pe_slice sl_str (pv 2) (po_some (pe_un un_neg pe_int)) po_none) pa_nil))))
        (pss_one (ps_ret (pe_ifExp (pt_val (pv 1)) (pe_un un_neg (pv 3)) (pv 3))))))))), ?_⟩
    rcases h with ⟨⟨r, hr', ty, ne⟩, q⟩ | ⟨z, rfl, hz, q⟩
    · obtain ⟨_, _, k3, _⟩ := kit_tab (K := K) r hr'
      have e : r.2.2.2.1 = false := by
        simp only [numT, List.mem_cons, List.not_mem_nil, or_false] at hr'
        rcases hr' with rfl | rfl | rfl | rfl | rfl | rfl | rfl <;> first | rfl | exact absurd rfl ne
      rw [e] at k3
      exact ⟨_, rfl, _, _, _, _, false, rfl, rfl, .inl ty, k3, false, rfl, iteT (iteT ⟨by decide, q⟩)⟩
    have zf : z.length ≤ sizeLine := fitS hz rfl
    refine ⟨_, rfl, _, _, _, _, true, rfl, rfl, .inl (.str z), rfl, true, rfl, iteF ⟨_, rfl, z, rfl, zf, _, _, rfl, rfl, _, rfl, ite2 (fun e => ⟨by decide, (q H (Same.refl _)).2 ?_⟩) (fun e => ?_)⟩⟩
    · have e : (30 : Int) < ((z.length : Nat) : Int) := of_decide_eq_true e
      unfold readL
      rw [if_neg fun h => by have := h.1; rw [← len_codes] at this; omega]
    have l30 : z.length ≤ 30 := by
      have e : ¬ (30 : Int) < ((z.length : Nat) : Int) := fun c => e (decide_eq_true c)
      omega
    refine ⟨_, rfl, rfl, _, _, rfl, rfl, ?_⟩
    have ed : Txt.startswith z "-" = decide (z.cps.toList.head? = some 45) := by rw [dash_str, starts_one]
    rw [ed]
    dsimp only [gName]
    refine set_to (fun Q => ∀ y : Str, y.cps.toList = unS z.cps.toList → Q (.str y) H) (fun R r => ?_) (fun y ey => ?_)
    · refine ⟨_, rfl, _, rfl, ite2 (fun c => ?_) (fun c => ?_)⟩
      · exact ⟨_, rfl, _, rfl, _, rfl, zf, r _ (by rw [cut_t1]; unfold unS; rw [if_pos (of_decide_eq_true c)])⟩
      · exact ⟨_, rfl, r _ (by unfold unS; rw [if_neg fun h => c (decide_eq_true h)])⟩
    have yl : y.length ≤ 30 := by
      rw [len_codes, ey]
      have := un_len z.cps.toList
      rw [← len_codes] at this
      omega
    have yf : y.length ≤ sizeLine := fitS yl rfl
    refine ⟨_, rfl, _, rfl, by omega, fun H1 s1 => ?_⟩
    obtain ⟨q1, q2⟩ := q H1 s1
    rw [ey]
    cases eb : okU (unS z.cps.toList) with
    | false =>
      refine ⟨false, rfl, iteT (iteT ⟨by decide, q2 ?_⟩)⟩
      unfold readL
      rw [if_neg fun h => by rw [eb] at h; exact Bool.false_ne_true h.2.1]
    | true =>
      refine ⟨true, rfl, iteF ⟨_, rfl, rfl, _, rfl, ?_⟩⟩
      rw [like_codes, z0_codes]
      by_cases cz : z.cps.toList = zero0
      · rw [decide_eq_true cz]
        refine iteT ⟨by decide, q2 ?_⟩
        unfold readL
        rw [if_neg fun h => h.2.2 cz]
      · rw [decide_eq_false cz]
        refine iteF ?_
        have eb' := eb
        unfold okU numT0 at eb'
        rw [Bool.and_eq_true, Bool.and_eq_true, Bool.and_eq_true] at eb'
        obtain ⟨⟨f1, _⟩, _, f2⟩ := eb'
        obtain ⟨a1, n1⟩ := figL_digits f1
        obtain ⟨a2, n2⟩ := figL_digits f2
        have c1 : (Txt.slice y none (some (-3))).cps.toList = wh (unS z.cps.toList) := by rw [cut_m3, ey]
        have c2 : (Txt.slice y (some (-2)) none).cps.toList = la2 (unS z.cps.toList) := by rw [cut_l2, ey]
        have l1 : (Txt.slice y none (some (-3))).length ≤ 640 := Nat.le_trans (Txt.slice_le y _ _) (by omega)
        have l2 : (Txt.slice y (some (-2)) none).length ≤ 640 := Nat.le_trans (Txt.slice_le y _ _) (by omega)
        have t1 := intText_digits (x := Txt.slice y none (some (-3))) (by rw [c1]; exact a1) (by rw [c1]; exact n1) (leB l1 rfl)
        have t2 := intText_digits (x := Txt.slice y (some (-2)) none) (by rw [c2]; exact a2) (by rw [c2]; exact n2) (leB l2 rfl)
        rw [c1] at t1
        rw [c2] at t2
        have rd : readL z.cps.toList = some (if z.cps.toList.head? = some 45 then -(valU (unS z.cps.toList)) else valU (unS z.cps.toList)) := by
          unfold readL
          rw [if_pos ⟨by rw [← len_codes]; exact l30, eb, cz⟩]
        refine ⟨_, rfl, _, rfl, _, rfl, _, rfl, yf, _, _, rfl, t1, l1, _, _, rfl, rfl, .inr ⟨by decide, by decide⟩, _, rfl, _, rfl, _, rfl, _, rfl, yf, _, _, rfl, t2, l2, _, _, rfl, rfl, ?_⟩
        refine ⟨_, rfl, _, rfl, ite2 (fun c => ?_) (fun c => ?_)⟩
        · rw [if_pos (of_decide_eq_true c)] at rd
          exact ⟨_, rfl, _, rfl, q1 _ rd⟩
        · rw [if_neg fun h => c (decide_eq_true h)] at rd
          exact ⟨_, rfl, q1 _ rd⟩
end
end K28
set_option Elab.async false
set_option linter.all false
set_option maxRecDepth 100000
namespace Pg
open PySem L2

noncomputable def optV (o : Option Int) : V := (o.map V.int).getD .non
noncomputable def optS (o : Option Int) : Str := match o with | some v => toldS v | none => "-"
noncomputable def rowO (s : Stm) (nms : List Str) : List (Option Int) := [some s.b] ++ nms.map (getO s.ds) ++ [some s.n]
noncomputable def totL (sts : List Stm) (nms : List Str) : List Int := [sumL (sts.map (·.b))] ++ nms.map (fun z => sumL (sts.map fun s => getT s.ds z)) ++ [sumL (sts.map (·.n))]
noncomputable def ivV : V → Int | .int i => i | _ => 0
noncomputable def pairT (sts : List Stm) (nms : List Str) : List (Str × Int) := nms.map fun z => (z, getT (allD sts) z)
noncomputable def newN (N : List Str) (prs : List (Str × Int)) : List Str := (prs.filter fun p => !decide (p.1 ∈ N)).map (·.1)
structure NmOk (N : List Str) (sts : List Stm) : Prop where
  nd : N.Nodup
  mem : ∀ z, z ∈ N ↔ ∃ s ∈ sts, z ∈ s.ds.map (·.1)
end Pg
namespace Pg
open PySem L2

noncomputable def sp_namesL : Sp := fun vs H Q _ => ∃ n k, vs = [.int n, .int k] ∧ 0 ≤ n ∧ n < 2147483629 ∧ 0 ≤ k ∧ k ≤ 11 ∧ ∀ (nms : List Str) (r : Addr) (H' : Hp), nms.length = k.toNat → nms.Nodup → (∀ z ∈ nms, z.length ≤ 30) → Same H H' → H r = none → H' r = some (.lst (nms.map V.str)) → Q (.ref r) H'
noncomputable def oneS (c : Nat) : Str := ⟨#[c]⟩
noncomputable def resv : List Str := ["base", "net", "month", "sums"]
noncomputable def inR (z : Str) : Bool := inV (.str z) (resv.map V.str)
noncomputable def nqS (z : Str) : Str := z ++ timesS "q" (if inR z = true then 1 else 0)
noncomputable def nm1 (a : Str) (at' : Int) (x : Int) (k : Nat) : Str := Txt.slice a none (some at') ++ oneS (97 + ((x + 7 * (k : Nat)) % 26).toNat) ++ Txt.slice a (some at') none
noncomputable def nm2 (f : Int) (k : Nat) : Str := timesS (oneS (97 + ((f + (k : Nat) / 8) % 26).toNat)) (1 + (k : Nat) % 8)
noncomputable def sp_sts (K : PySem.W.Frag) : Sp := fun vs H Q _ => ∃ (a : Addr) (ns : List Int), vs = [.ref a] ∧ SqL K H a (ns.map V.int) ∧ ∀ (nms : List Str) (sts : List Stm) (r : Addr) (ys : List V) (H' : Hp), StsOk nms sts → Same H H' → H r = none → H' r = some (.lst ys) → StsAt H' ys sts → Q (.ref r) H'
noncomputable def dtS (s : Stm) : Dt := .t [.v (.int s.m), .v (.int s.b), .t (s.ds.map fun p => .t ((cP p).map Dt.v)), .v (.int s.n)]
end Pg
set_option Elab.async false
set_option linter.all false
set_option maxRecDepth 100000
namespace Pg
open PySem L2

noncomputable def wayL : List Str := ["down", "up", "near", "even"]
noncomputable def Tps (K : PySem.W.Frag) (mg : Str → Option Value) (x : Str) (zs : List Str) : Prop := ∃ a, mg x = some (.ref a) ∧ ∀ H, SqT K H a (zs.map V.str)
noncomputable def halfUp (z l : Int) (x : Str) : Bool := if x = "near" then decide (0 < z) else decide (l % 2 = 1)
noncomputable def goesUp (z l r : Int) (x : Str) : Bool := if x = "down" then false else if x = "up" then decide (0 < r) else if r = 5000 then halfUp z l x else decide (5000 < r)
noncomputable def rnd (z : Int) (x : Str) : Int := if goesUp z (z / 10000) (z % 10000) x = true then z / 10000 + 1 else z / 10000
theorem in_texts (x : Str) (zs : List Str) : inV (.str x) (zs.map V.str) = zs.contains x := by
  unfold inV
  rw [List.any_map, List.contains_eq_any_beq]
  congr 1
  funext y
  show (y == x) = (x == y)
  exact Bool.beq_comm ..
noncomputable def sp_parts0 : Sp := fun vs H Q _ => ∃ z, vs = [.int z] ∧ 0 ≤ z ∧ z ≤ 20000 ∧ Q (.bl true) H
noncomputable def sp_way0 : Sp := fun vs H Q _ => ∃ x, vs = [.str x] ∧ wayL.contains x = true ∧ Q (.bl true) H
noncomputable def sp_needW0 : Sp := fun vs H Q _ => ∃ x, vs = [.str x] ∧ wayL.contains x = true ∧ Q .non H
noncomputable def sp_half : Sp := fun vs H Q _ => ∃ z l x, vs = [.int z, .int l, .str x] ∧ Q (.bl (halfUp z l x)) H
noncomputable def sp_goes : Sp := fun vs H Q _ => ∃ z l r x, vs = [.int z, .int l, .int r, .str x] ∧ Q (.bl (goesUp z l r x)) H
noncomputable def sp_rnd0 : Sp := fun vs H Q _ => ∃ z x, vs = [.int z, .str x] ∧ wayL.contains x = true ∧ Q (.int (rnd z x)) H
noncomputable def sp_share0 : Sp := fun vs H Q _ => ∃ z n x, vs = [.int z, .int n, .str x] ∧ 0 ≤ n ∧ n ≤ 20000 ∧ wayL.contains x = true ∧ Q (.int (rnd (z * n) x)) H

noncomputable def lawRnd (z : Int) (x : Str) : Int := if x = "down" then z / 10000 else if x = "up" then z / 10000 + (if 0 < z % 10000 then 1 else 0) else if x = "near" then z / 10000 + (if 5000 ≤ z % 10000 then 1 else 0) else z / 10000 + (if 5000 < z % 10000 ∨ (z % 10000 = 5000 ∧ z / 10000 % 2 = 1) then 1 else 0)
inductive Rk where
  | flat (n : Str) (a : Int)
  | share (n : Str) (p : Int) (w : Str)
  | capped (n : Str) (p m : Int) (w : Str)
  | least (n : Str) (p l : Int) (w : Str)
  | bands (n : Str) (ps : List (Int × Int)) (w : Str)
  | ontop (n : Str) (p : Int) (w : Str) (r : Rk)
noncomputable def Rk.name : Rk → Str
  | .flat n _ => n
  | .share n _ _ => n
  | .capped n _ _ _ => n
  | .least n _ _ _ => n
  | .bands n _ _ => n
  | .ontop n _ _ _ => n
noncomputable def Rk.kd : Rk → Nat
  | .flat .. => 0
  | .share .. => 1
  | .capped .. => 2
  | .least .. => 3
  | .bands .. => 4
  | .ontop .. => 5
noncomputable def noNames : List Str := ["base", "net", "month", "sums"]
structure RName (z : Str) : Prop where
  ok : NameOk z
  no : noNames.contains z = false
noncomputable def Prt (p : Int) : Prop := 0 ≤ p ∧ p ≤ 20000
noncomputable def Amt (a : Int) : Prop := 0 ≤ a ∧ a ≤ 1000000000000
noncomputable def Way (w : Str) : Prop := wayL.contains w = true

inductive Pln : Rk → Prop where
  | flat {n : Str} {a : Int} : RName n → Amt a → Pln (.flat n a)
  | share {n : Str} {p : Int} {w : Str} : RName n → Prt p → Way w → Pln (.share n p w)
  | capped {n : Str} {p m : Int} {w : Str} : RName n → Prt p → Amt m → Way w → Pln (.capped n p m w)
  | least {n : Str} {p l : Int} {w : Str} : RName n → Prt p → Amt l → Way w → Pln (.least n p l w)
noncomputable def pos (bs : List Int) : Int := ((bs.filter fun b => decide (0 < b)).length : Nat)
noncomputable def unt (r : Rk) (bs : List Int) : Int := match r with
  | .flat _ a => a * pos bs
  | .share _ p w => rnd (bs.sum * p) w
  | .capped _ p m w => rnd ((if m < bs.sum then m else bs.sum) * p) w
  | .least _ p l w => if l * pos bs > rnd (bs.sum * p) w then l * pos bs else rnd (bs.sum * p) w
  | _ => 0
noncomputable def numS' (i : Int) : Str := toString i

noncomputable def rowP (r : Rk) : List V := match r with
  | .flat n a => [.str "flat", .str n, .int a]
  | .share n p w => [.str "share", .str n, .int p, .str w]
  | .capped n p m w => [.str "capped", .str n, .int p, .int m, .str w]
  | .least n p l w => [.str "least", .str n, .int p, .int l, .str w]
  | _ => []
noncomputable def strV : V → Str
  | .str z => z
  | .int i => toString i
  | _ => Str.empty
noncomputable def rowT (r : Rk) : Str := Txt.join " " ((rowP r).map strV)

noncomputable def RtAt (H : Hp) (v : V) (r : Rk) : Prop := ∃ t, v = .ref t ∧ H t = some (.tup (rowP r))
noncomputable def rowF (r : Rk) : List (Str × V) := match r with
  | .flat n a => [("name", .str n), ("amount", .int a)]
  | .share n p w => [("name", .str n), ("parts", .int p), ("way", .str w)]
  | .capped n p m w => [("name", .str n), ("parts", .int p), ("most", .int m), ("way", .str w)]
  | .least n p l w => [("name", .str n), ("parts", .int p), ("least", .int l), ("way", .str w)]
  | _ => []

noncomputable def RoAt (Cs : Nat → Addr) (H : Hp) (v : V) (r : Rk) : Prop := ∃ o dx, v = .ref o ∧ H o = some (.ins (Cs r.kd) dx (rowF r))
structure RulK (K : PySem.W.Frag) (Cs : Nat → Addr) : Prop where
  cls : ∀ i, i < 4 → Cls K (Cs i)
  no : ∀ i, i < 4 → ∀ x ∈ (["name", "amount", "parts", "way", "most", "least"] : List Str), NoAttr K (Cs i) x

noncomputable def sp_rname0 : Sp := fun vs H Q _ => ∃ z, vs = [.str z] ∧ RName z ∧ ∀ H', Same H H' → Q (.bl true) H'
noncomputable def sp_ramt0 : Sp := fun vs H Q _ => ∃ z, vs = [.int z] ∧ Amt z ∧ Q (.bl true) H
noncomputable def sp_needR0 : Sp := fun vs H Q _ => ∃ z, vs = [.int z] ∧ Amt z ∧ Q .non H
noncomputable def sp_needS0 : Sp := fun vs H Q _ => ∃ p w, vs = [.int p, .str w] ∧ Prt p ∧ Way w ∧ Q .non H
noncomputable def sp_pos (K : PySem.W.Frag) : Sp := fun vs H Q _ => ∃ b bs, vs = [.ref b] ∧ SqL K H b (bs.map V.int) ∧ bs.length ≤ 100 ∧ ∀ H', Same H H' → Q (.int (pos bs)) H'
noncomputable def sp_rinit (Cs : Nat → Addr) : Sp := fun vs H Q _ => ∃ i o dx z, vs = [.ref o, .str z] ∧ i < 4 ∧ H o = some (.ins (Cs i) dx []) ∧ RName z ∧ ∀ H', (∀ b x, H b = some x → b ≠ o → H' b = some x) → H' o = some (.ins (Cs i) dx [("name", .str z)]) → Q .non H'
noncomputable def argsR (r : Rk) : List V := (rowP r).drop 1
noncomputable def sp_kinit (k : Nat) (Cs : Nat → Addr) : Sp := fun vs H Q _ => ∃ o dx r, vs = .ref o :: argsR r ∧ r.kd = k ∧ Pln r ∧ H o = some (.ins (Cs k) dx []) ∧ ∀ H', (∀ b x, H b = some x → b ≠ o → H' b = some x) → H' o = some (.ins (Cs k) dx (rowF r)) → Q .non H'
noncomputable def sp_unt (K : PySem.W.Frag) (k : Nat) (Cs : Nat → Addr) : Sp := fun vs H Q _ => ∃ v r b bs, vs = [v, .ref b] ∧ r.kd = k ∧ RoAt Cs H v r ∧ Pln r ∧ SqL K H b (bs.map V.int) ∧ bs.length ≤ 100 ∧ ∀ H', Same H H' → Q (.int (unt r bs)) H'
noncomputable def dl (bs : List Int) : List Int := (bs.drop (HT.sIx bs.length 0 none)).take (HT.sIx bs.length bs.length (some (-1)) - HT.sIx bs.length 0 none)
noncomputable def ofm (r : Rk) (bs : List Int) : Int := unt r bs - unt r (dl bs)
noncomputable def sp_ofm (K : PySem.W.Frag) (k : Nat) (Cs : Nat → Addr) : Sp := fun vs H Q _ => ∃ v r b bs, vs = [v, .ref b] ∧ r.kd = k ∧ RoAt Cs H v r ∧ Pln r ∧ SqL K H b (bs.map V.int) ∧ bs.length ≤ 100 ∧ ∀ H', Same H H' → Q (.int (ofm r bs)) H'
noncomputable def sp_rowR (k : Nat) (Cs : Nat → Addr) : Sp := fun vs H Q _ => ∃ v r, vs = [v] ∧ r.kd = k ∧ RoAt Cs H v r ∧ Pln r ∧ ∀ H', Same H H' → Q (.str (rowT r)) H'
end Pg
namespace Pg
open PySem L2
end Pg
set_option Elab.async false
set_option linter.all false
set_option maxRecDepth 100000
namespace Pg
open PySem L2

noncomputable def sp_mixR : Sp := fun vs H Q _ => ∃ c k, vs = [.int c, .int k] ∧ ∀ m, 0 ≤ m → m < 1000003 → Q (.int m) H
noncomputable def sp_amtR : Sp := fun vs H Q _ => ∃ c k, vs = [.int c, .int k] ∧ ∀ a H', Amt a → Same H H' → Q (.int a) H'
noncomputable def sp_prtR : Sp := fun vs H Q _ => ∃ c k, vs = [.int c, .int k] ∧ ∀ a H', Prt a → Same H H' → Q (.int a) H'
noncomputable def sp_wayR : Sp := fun vs H Q _ => ∃ c k, vs = [.int c, .int k] ∧ ∀ w H', Way w → Same H H' → Q (.str w) H'
noncomputable def Nns (bs : List Int) : Prop := ∀ b ∈ bs, 0 ≤ b
noncomputable def sp_basR : Sp := fun vs H Q _ => ∃ (c : Int) (n : Nat), vs = [.int c, .int (n : Nat)] ∧ n ≤ 50 ∧ ∀ (bs : List Int) l H', bs.length = n → Nns bs → Same H H' → H l = none → H' l = some (.lst (bs.map V.int)) → Q (.ref l) H'
noncomputable def sp_namR : Sp := fun vs H Q _ => ∃ (c : Int) (n : Nat), vs = [.int c, .int (n : Nat)] ∧ n ≤ 8 ∧ ∀ (nms : List Str) l H', nms.length = n → (∀ z ∈ nms, RName z) → Same H H' → H l = none → H' l = some (.lst (nms.map V.str)) → Q (.ref l) H'
noncomputable def sp_rndL : Sp := fun vs H Q _ => ∃ z w, vs = [.int z, .str w] ∧ 0 ≤ z ∧ Q (.int (rnd z w)) H
noncomputable def sp_plnR : Sp := fun vs H Q _ => ∃ c z k, vs = [.int c, .str z, .int k] ∧ RName z ∧ 0 ≤ k ∧ k < 4 ∧ ∀ v r H', Pln r → r.name = z → Same H H' → RtAt H' v r → Q v H'
noncomputable def sp_untL (K : PySem.W.Frag) : Sp := fun vs H Q _ => ∃ v r b bs, vs = [v, .ref b] ∧ RtAt H v r ∧ Pln r ∧ SqL K H b (bs.map V.int) ∧ bs.length ≤ 100 ∧ Nns bs ∧ ∀ H', Same H H' → Q (.int (unt r bs)) H'
noncomputable def sp_ofmL (K : PySem.W.Frag) : Sp := fun vs H Q _ => ∃ v r b bs, vs = [v, .ref b] ∧ RtAt H v r ∧ Pln r ∧ SqL K H b (bs.map V.int) ∧ bs.length ≤ 100 ∧ Nns bs ∧ ∀ H', Same H H' → Q (.int (ofm r bs)) H'
noncomputable def sp_rowL : Sp := fun vs H Q _ => ∃ v r, vs = [v] ∧ RtAt H v r ∧ Pln r ∧ ∀ H', Same H H' → Q (.str (rowT r)) H'
noncomputable def sp_madL (Cs : Nat → Addr) : Sp := fun vs H Q _ => ∃ v r, vs = [v] ∧ RtAt H v r ∧ Pln r ∧ ∀ o H', Same H H' → RoAt Cs H' o r → Q o H'
noncomputable def sp_askL (K : PySem.W.Frag) (Cs : Nat → Addr) : Sp := fun vs H Q _ => ∃ o v r b bs c, vs = [o, v, .ref b, .int c] ∧ RoAt Cs H o r ∧ RtAt H v r ∧ Pln r ∧ SqL K H b (bs.map V.int) ∧ bs.length ≤ 100 ∧ Nns bs ∧ ∀ H', Same H H' → Q (.bl true) H'
noncomputable def sp_groL (K : PySem.W.Frag) (Cs : Nat → Addr) : Sp := fun vs H Q _ => ∃ o v r o2 v2 r2 b bs c, vs = [o, v, o2, v2, .ref b, .int c] ∧ RoAt Cs H o r ∧ RtAt H v r ∧ Pln r ∧ RoAt Cs H o2 r2 ∧ RtAt H v2 r2 ∧ Pln r2 ∧ SqL K H b (bs.map V.int) ∧ bs.length ≤ 50 ∧ Nns bs ∧ ∀ H', Same H H' → Q (.bl true) H'
theorem iteSt {z : Str} {A B : Prop} (h : A) : if decide (V.str z = V.str z) = true then A else B := by
  rw [if_pos (decide_eq_true rfl)]
  exact h
theorem iteSf {x y : Str} {A B : Prop} (n : x ≠ y) (h : B) : if decide (V.str x = V.str y) = true then A else B := by
  rw [if_neg fun k => n (V.str.inj (of_decide_eq_true k))]
  exact h
end Pg
namespace Pg
open PySem L2
end Pg
namespace Pg
open PySem L2

noncomputable def on1 (bs : List Int) (k : Nat) : List Int := (bs.drop k).take 1
end Pg
set_option Elab.async false
set_option linter.all false
set_option maxRecDepth 100000
namespace Pg
open PySem L2

noncomputable def smC : List Nat := [97, 99, 100, 102, 103, 104, 105, 106, 107, 108, 111, 112, 113, 114, 116, 117, 118, 119, 120, 121, 122]
noncomputable def isSm (c : Nat) : Bool := smC.contains c
noncomputable def okNames : List Str := ["bases", "nets", "months", "sum", "ne", "basis", "bet", "sumsum", "netnet", "mont"]
end Pg
namespace Pg
open PySem L2
end Pg
namespace Pg
open PySem L2

structure RulI (K : PySem.W.Frag) (Cs : Nat → Addr) (cR : Addr) : Prop where
  ha : ∀ i, i < 4 → PySem.W.findIn K (.ref (Cs i)) "__class__" = some (some (.builtin "object.__class__"))
  hn : PySem.W.specialIn K (.builtin "object.__class__") "__get__" = some (some (.builtin "getset_descriptor.__get__"))
  htk : PySem.W.takesIn K (.builtin "object.__class__") = some true
  hm : ∀ i, i < 4 → PySem.W.mroIn K (Cs i) (.type "object") = some true
  kt : ∀ i, i < 4 → PySem.W.kitOne K (.ref (Cs i)) (.ref cR) = some true
end Pg
namespace Pg
open PySem L2
end Pg
set_option Elab.async false
set_option linter.all false
set_option maxRecDepth 100000
namespace ST
open PySem PySem.Spec PyProof.Rows
noncomputable def own : List Char := "set_iterator".toList.reverse
end ST
set_option Elab.async false
set_option linter.all false
set_option maxRecDepth 100000
namespace ST
open PySem PySem.Spec PyProof.Rows
section
variable {prog : Program} {w : World} {A : Around} {E : Value → Shared → Prop} {s : Shared}
end
end ST
set_option Elab.async false
set_option linter.all false
set_option maxRecDepth 100000
namespace ST
open PySem PySem.Spec PyProof.Rows
section
variable {prog : Program} {w : World} {A : Around} {E : Value → Shared → Prop} {s : Shared}
noncomputable def itObj (first : Value) (i n ep : Nat) (S : Addr) : Obj := { cls := .type "set_iterator", dict := none, data := .fields #[first, rawInt i, .ref S, rawInt n, rawInt ep], slots := #[] }
noncomputable def isDrawn (es : Array (Int × Value)) (t : SetTable) : Bool := !t.plain && decide (es.size > 1)
noncomputable def slotAt (t : SetTable) (i : Nat) : Nat := if i = 0 then 0 else t.place.getD (i - 1) 0 + 1
inductive First (w : World) (es : Array (Int × Value)) (ep : Nat) (t : SetTable) (S T : Addr) (ord : List Value) (h : Heap) (i : Nat) : Value → Prop
  | text (k : Nat) : byText w = true → ord = (pickOrder (w.params.setOrder S ep) es).toList.map (·.2) → First w es ep t S T ord h i (rawInt k)
  | table : byText w = false → isDrawn es t = false → Good true t → ord = es.toList.map (·.2) → First w es ep t S T ord h i (rawInt (slotAt t i))
  | drawn (ps : List Nat) : byText w = false → h.get? T = some (seqObj "tuple" (ps.map fun (p : Nat) => rawInt p).toArray 0) → ps.Perm (List.range es.size) → ord = ps.map (fun p => (es.getD p (0, .none)).2) → First w es ep t S T ord h i (.ref T)
end
end ST
set_option Elab.async false
set_option linter.all false
set_option maxRecDepth 100000
namespace ST
open PySem PySem.Spec PyProof.Rows
section
variable {prog : Program} {w : World} {A : Around} {E : Value → Shared → Prop} {s : Shared}

structure It (w : World) (es : Array (Int × Value)) (ep : Nat) (t : SetTable) (S T I : Addr) (ord : List Value) (i : Nat) (h : Heap) : Prop where
  it : ∃ first, h.get? I = some (itObj first i es.size ep S) ∧ First w es ep t S T ord h i first
  set : ∃ o, h.get? S = some o ∧ o.data = .set es ep t
  fits : t.fits es.size = true
end
end ST
set_option Elab.async false
set_option linter.all false
set_option maxRecDepth 100000
namespace ST
open PySem PySem.Spec PyProof.Rows
section
variable {prog : Program} {w : World} {A : Around} {E : Value → Shared → Prop} {s : Shared}
end
end ST
set_option Elab.async false
set_option linter.all false
set_option maxRecDepth 100000
namespace ST
open PySem PySem.Spec PyProof.Rows
section
variable {prog : Program} {w : World} {A : Around} {E : Value → Shared → Prop} {s : Shared}
end
end ST
set_option Elab.async false
set_option linter.all false
set_option maxRecDepth 100000
namespace ST
open PySem PySem.Spec PyProof.Rows
section
variable {prog : Program} {w : World} {A : Around} {E : Value → Shared → Prop} {s : Shared}
end
end ST
set_option Elab.async false
set_option linter.all false
set_option maxRecDepth 100000
namespace ST
open PySem PySem.Spec PyProof.Rows
section
variable {prog : Program} {w : World} {A : Around} {E : Value → Shared → Prop} {s : Shared}
noncomputable def Came (w : World) (s : Shared) (es : Array (Int × Value)) (r : Result) (s' : Shared) : Prop := ∃ h' d tk acc c, r = .ok (.ret (.ref s.heap.objs.size)) ∧ s' = { s with heap := h', drawn := d, toks := tk } ∧ (∀ b o, s.heap.get? b = some o → h'.get? b = some o) ∧ h'.get? s.heap.objs.size = some { cls := .type "list", dict := none, data := .seq acc c, slots := #[] } ∧ acc.toList.Perm (es.toList.map (·.2))
end
end ST
set_option Elab.async false
set_option linter.all false
set_option maxRecDepth 100000
namespace L2
open PySem PySem.Spec PyProof.Rows
section
variable {X : Cx} {pins : List (Addr × Obj)} {σ : St} {H : Hp} {s : Shared} {a : Expr} {ta : TA} {p1 p2 p3 pos : Pos}
noncomputable def tSortSet (K : PySem.W.Frag) (ta : TA) : TE := fun σ H Q => ta σ H fun vs H1 => ∃ (l : Addr) (zs : List Int), vs = [.ref l] ∧ SqL K H1 l (zs.map V.int) ∧ zs.length < 64 ∧
  ∀ ys : List Int, ys.Pairwise (· < ·) → (∀ z, z ∈ ys ↔ z ∈ zs) → ∀ D, H1 D = none → Q (.ref D) (upd H1 D (.lst (ys.map V.int)))
end
end L2
set_option Elab.async false
set_option linter.all false
set_option maxRecDepth 100000
namespace L2
open PySem PySem.Spec PyProof.Rows

section
variable {X : Cx} {A : Around} {E : Value → Shared → Prop} {pins : List (Addr × Obj)} {σ : St} {H : Hp} {s : Shared} {r : Addr} {Q : VK} {OK : List Str → Prop}
end

noncomputable def rSortD : List V → Hp → VK → Prop := fun xs H Q => ∃ (d : Addr) (tot : List (Str × Int)), xs = [.ref d] ∧ Rd H d (.dK (dOf tot)) ∧ tot.length < 64 ∧
    ∀ ss : List Str, ss.Perm (tot.map (·.1)) → ss.Pairwise (fun a b : Str => ¬ b.cps.toList < a.cps.toList) → New H (.lst (ss.map V.str)) Q
section
variable {X : Cx} {a : Expr} {ta : TA} {p1 p2 p3 pos : Pos}

noncomputable def tSortSetT (K : PySem.W.Frag) (ta : TA) : TE := fun σ H Q => ta σ H fun vs H1 => ∃ (l : Addr) (zs : List Str), vs = [.ref l] ∧ SqL K H1 l (zs.map V.str) ∧ zs.length < 64 ∧
  ∀ ys : List Str, ys.Nodup → ys.Pairwise (fun a b : Str => ¬ b.cps.toList < a.cps.toList) → (∀ z, z ∈ ys ↔ z ∈ zs) → New H1 (.lst (ys.map V.str)) Q
end
end L2
set_option Elab.async false
set_option linter.all false
set_option maxRecDepth 100000
namespace L2
open PySem PySem.Spec PyProof.Rows

noncomputable def Itv (K : PySem.W.Frag) (a : Addr) (n : Nat) : It :=
  ⟨fun i H => i < n ∧ ∃ xs, SqL K H a xs ∧ xs.length = n, fun i H x H' => H' = H ∧ ∀ xs, SqL K H a xs → xs[n - 1 - i]? = some x, fun i _ => i = n⟩
noncomputable def iRev (K : PySem.W.Frag) (ta : TA) : TI := fun σ H R => ta σ H fun vs H1 => ∃ a xs, vs = [.ref a] ∧ SqL K H1 a xs ∧ R (Itv K a xs.length) H1
section
variable {X : Cx} {tg a : Expr} {ta : TA} {p pos : Pos}
end
noncomputable def rSortK : List V → Hp → VK → Prop := fun xs H Q => ∃ (d : Addr) (kvs : List (Key × V)) (ks : List Str), xs = [.ref d] ∧ Rd H d (.dK kvs) ∧ kvs.map (·.1) = ks.map Sum.inr ∧ ks.length < 64 ∧
    ∀ ss : List Str, ss.Perm ks → ss.Pairwise (fun a b : Str => ¬ b.cps.toList < a.cps.toList) → New H (.lst (ss.map V.str)) Q
end L2
set_option Elab.async false
set_option linter.all false
set_option maxRecDepth 100000
namespace PySem
namespace F
end F
end PySem
namespace L2
open PySem PySem.Spec PyProof.Rows
noncomputable def rvdObj (l : Addr) (i : Int) : Obj := { cls := .type "reversed", data := .fields #[.ref l, rawInt i] }
noncomputable def IsRvd (h : Heap) (a l : Addr) (i : Int) : Prop := ∃ o, h.get? a = some o ∧ o.cls = .type "reversed" ∧ o.data = .fields #[.ref l, rawInt i]
section
variable {prog : Program} {w : World} {A : Around} {E : Value → Shared → Prop} {s : Shared}
end
end L2
set_option Elab.async false
set_option linter.all false
set_option maxRecDepth 100000
namespace L2
open PySem PySem.Spec PyProof.Rows

noncomputable def ItvT (K : PySem.W.Frag) (a : Addr) (n : Nat) : It :=
  ⟨fun i H => i < n ∧ ∃ xs, SqT K H a xs ∧ xs.length = n, fun i H x H' => H' = H ∧ ∀ xs, SqT K H a xs → xs[n - 1 - i]? = some x, fun i _ => i = n⟩
noncomputable def iRevT (K : PySem.W.Frag) (ta : TA) : TI := fun σ H R => ta σ H fun vs H1 => ∃ a xs, vs = [.ref a] ∧ SqT K H1 a xs ∧ R (ItvT K a xs.length) H1
section
variable {X : Cx} {tg a : Expr} {ta : TA} {p pos : Pos}
end
end L2
set_option Elab.async false
set_option linter.all false
set_option maxRecDepth 100000
namespace Pg
open PySem L2

noncomputable def mxI (a b : Int) : Int := if b > a then b else a
noncomputable def mnI (a b : Int) : Int := if b < a then b else a
noncomputable def pcE (r : List (Int × Int)) (t : Int) : Int := match r with
  | [] => t
  | q :: _ => mnI t q.1
noncomputable def pc (b : Int) (r : List (Int × Int)) (t : Int) : Int := mxI 0 (pcE r t - b)
noncomputable def pcs : List (Int × Int) → Int → List Int
  | [], _ => []
  | q :: r, t => pc q.1 r t :: pcs r t
noncomputable def bsum : List (Int × Int) → Int → Int
  | [], _ => 0
  | q :: r, t => q.2 * pc q.1 r t + bsum r t
noncomputable def Up (ps : List (Int × Int)) : Prop := ps.Pairwise fun x y => x.1 < y.1
noncomputable def stp (q s : Int × Int) : Int × Int := if s.1 > q.1 then (q.1, s.2 + (s.1 - q.1) * q.2) else s
end Pg
set_option Elab.async false
set_option linter.all false
set_option maxRecDepth 100000
namespace Pg
open PySem L2

noncomputable def cB (q : Int × Int) : List V := [.int q.1, .int q.2]
noncomputable def BdsAt (H : Hp) (u : Addr) (ps : List (Int × Int)) : Prop := ∃ ys, H u = some (.tup ys) ∧ TupsAt H ys (ps.map cB)
structure BdOk (ps : List (Int × Int)) : Prop where
  few : ps.length ≤ 12
  hd : ∃ p r, ps = ((0 : Int), p) :: r
  ok : ∀ q ∈ ps, Amt q.1 ∧ Prt q.2
  up : Up ps

inductive Gd : Nat → Rk → Prop where
  | pln {d : Nat} {r : Rk} : Pln r → Gd d r
  | bands {d : Nat} {n w : Str} {ps : List (Int × Int)} : RName n → BdOk ps → Way w → Gd d (.bands n ps w)
  | ontop {d : Nat} {n w : Str} {p : Int} {r : Rk} : RName n → Prt p → Way w → Gd d r → Gd (d + 1) (.ontop n p w r)
inductive RoG (Cs : Nat → Addr) (H : Hp) : Rk → V → Prop where
  | pln {r : Rk} {v : V} : r.kd < 4 → RoAt Cs H v r → RoG Cs H r v
  | bands {n w : Str} {ps : List (Int × Int)} {o dx u : Addr} : H o = some (.ins (Cs 4) dx [("name", .str n), ("bands", .ref u), ("way", .str w)]) → BdsAt H u ps → RoG Cs H (.bands n ps w) (.ref o)
  | ontop {n w : Str} {p : Int} {r : Rk} {o dx : Addr} {x : V} : H o = some (.ins (Cs 5) dx [("name", .str n), ("parts", .int p), ("way", .str w), ("within", x)]) → RoG Cs H r x → RoG Cs H (.ontop n p w r) (.ref o)
inductive RtG (H : Hp) : Rk → V → Prop where
  | pln {r : Rk} {v : V} : r.kd < 4 → RtAt H v r → RtG H r v
  | bands {n w : Str} {ps : List (Int × Int)} {t u : Addr} : H t = some (.tup [.str "bands", .str n, .ref u, .str w]) → BdsAt H u ps → RtG H (.bands n ps w) (.ref t)
  | ontop {n w : Str} {p : Int} {r : Rk} {t : Addr} {x : V} : H t = some (.tup [.str "ontop", .str n, .int p, .str w, x]) → RtG H r x → RtG H (.ontop n p w r) (.ref t)
noncomputable def untG : Rk → List Int → Int
  | .bands _ ps w, bs => rnd (bsum ps bs.sum) w
  | .ontop _ p w r, bs => rnd (untG r bs * p) w
  | .flat n a, bs => unt (.flat n a) bs
  | .share n p w, bs => unt (.share n p w) bs
  | .capped n p m w, bs => unt (.capped n p m w) bs
  | .least n p l w, bs => unt (.least n p l w) bs
noncomputable def ofmG (r : Rk) (bs : List Int) : Int := untG r bs - untG r (dl bs)
noncomputable def bandT (q : Int × Int) : Str := (toString q.1 : Str) ++ ":" ++ (toString q.2 : Str)
noncomputable def bndT (ps : List (Int × Int)) : Str := Txt.join "," (ps.map bandT)
noncomputable def rStrI : List V → Hp → VK → Prop := fun xs H Q => ∃ i, xs = [.int i] ∧ i.natAbs.log2 < 1920 ∧ Q (.str (toString i)) H
noncomputable def rAddS : R2 := fun x y H Q => ∃ i j, x = .str i ∧ y = .str j ∧ i.length + j.length ≤ sizeLine ∧ Q (.str (i ++ j)) H
noncomputable def rowG : Rk → Str
  | .bands n ps w => Txt.join " " ["bands", n, bndT ps, w]
  | .ontop n p w r => Txt.join " " ["ontop", n, toString p, w, "of", rowG r]
  | .flat n a => rowT (.flat n a)
  | .share n p w => rowT (.share n p w)
  | .capped n p m w => rowT (.capped n p m w)
  | .least n p l w => rowT (.least n p l w)
structure RulX (K : PySem.W.Frag) (C : Addr) : Prop where
  cls : Cls K C
  no : ∀ x ∈ (["name", "bands", "way", "parts", "within"] : List Str), NoAttr K C x
noncomputable def sp_rise0 (K : PySem.W.Frag) : Sp := fun vs H Q _ => ∃ (l : Addr) (zs : List Int), vs = [.ref l] ∧ SqL K H l (zs.map V.int) ∧ zs.length ≤ 50 ∧ zs.Pairwise (fun x y : Int => x < y) ∧ ∀ H', Same H H' → Q (.bl true) H'
noncomputable def sp_band0 : Sp := fun vs H Q _ => ∃ a q, vs = [.ref a] ∧ H a = some (.tup (cB q)) ∧ Amt q.1 ∧ Prt q.2 ∧ Q (.bl true) H
noncomputable def sp_bands0 : Sp := fun vs H Q _ => ∃ u ps, vs = [.ref u] ∧ BdsAt H u ps ∧ BdOk ps ∧ ∀ H', Same H H' → Q (.bl true) H'
noncomputable def sp_rinitX (K : PySem.W.Frag) : Sp := fun vs H Q _ => ∃ C o dx z, vs = [.ref o, .str z] ∧ Cls K C ∧ NoAttr K C "name" ∧ H o = some (.ins C dx []) ∧ RName z ∧ ∀ H', (∀ b x, H b = some x → b ≠ o → H' b = some x) → H' o = some (.ins C dx [("name", .str z)]) → Q .non H'
noncomputable def sp_binit (C : Addr) : Sp := fun vs H Q _ => ∃ o dx n u ps w, vs = [.ref o, .str n, .ref u, .str w] ∧ RName n ∧ BdOk ps ∧ Way w ∧ BdsAt H u ps ∧ H o = some (.ins C dx []) ∧
  ∀ H' u', (∀ b x, H b = some x → b ≠ o → H' b = some x) → H' o = some (.ins C dx [("name", .str n), ("bands", .ref u'), ("way", .str w)]) → BdsAt H' u' ps → Q .non H'
noncomputable def sp_untG (K : PySem.W.Frag) (d k : Nat) (Cs : Nat → Addr) : Sp := fun vs H Q _ => ∃ v r b bs, vs = [v, .ref b] ∧ r.kd = k ∧ RoG Cs H r v ∧ Gd d r ∧ SqL K H b (bs.map V.int) ∧ bs.length ≤ 100 ∧ ∀ H', Same H H' → Q (.int (untG r bs)) H'
noncomputable def sp_ofmG (K : PySem.W.Frag) (d k : Nat) (Cs : Nat → Addr) : Sp := fun vs H Q _ => ∃ v r b bs, vs = [v, .ref b] ∧ r.kd = k ∧ RoG Cs H r v ∧ Gd d r ∧ SqL K H b (bs.map V.int) ∧ bs.length ≤ 100 ∧ ∀ H', Same H H' → Q (.int (ofmG r bs)) H'
noncomputable def sp_rowG (d k : Nat) (Cs : Nat → Addr) : Sp := fun vs H Q _ => ∃ v r, vs = [v] ∧ r.kd = k ∧ RoG Cs H r v ∧ Gd d r ∧ ∀ H', Same H H' → Q (.str (rowG r)) H'

noncomputable def sp_pcsL : Sp := fun vs H Q _ => ∃ u ps t, vs = [.ref u, .int t] ∧ BdsAt H u ps ∧ BdOk ps ∧ ∀ l H', Same H H' → H l = none → H' l = some (.lst ((pcs ps t).map V.int)) → Q (.ref l) H'
noncomputable def sp_prsR : Sp := fun vs H Q _ => ∃ c, vs = [.int c] ∧ ∀ u ps H', BdOk ps → Same H H' → BdsAt H' u ps → Q (.ref u) H'
noncomputable def sp_plnG : Sp := fun vs H Q _ => ∃ c z k, vs = [.int c, .str z, .int k] ∧ RName z ∧ 0 ≤ k ∧ k < 5 ∧ ∀ v r H', Gd 0 r → r.name = z → (r.kd : Int) = k → Same H H' → RtG H' r v → Q v H'
noncomputable def sp_untN (K : PySem.W.Frag) : Nat → Sp
  | 0 => fun _ _ _ _ => False
  | d + 1 => fun vs H Q _ => ∃ v r b bs, vs = [v, .ref b] ∧ RtG H r v ∧ Gd d r ∧ SqL K H b (bs.map V.int) ∧ bs.length ≤ 100 ∧ Nns bs ∧ ∀ H', Same H H' → Q (.int (untG r bs)) H'
noncomputable def sp_ofmN (K : PySem.W.Frag) (d : Nat) : Sp := fun vs H Q _ => ∃ v r b bs, vs = [v, .ref b] ∧ RtG H r v ∧ Gd d r ∧ SqL K H b (bs.map V.int) ∧ bs.length ≤ 100 ∧ Nns bs ∧ ∀ H', Same H H' → Q (.int (ofmG r bs)) H'
noncomputable def sp_rowN : Nat → Sp
  | 0 => fun _ _ _ _ => False
  | d + 1 => fun vs H Q _ => ∃ v r, vs = [v] ∧ RtG H r v ∧ Gd d r ∧ ∀ H', Same H H' → Q (.str (rowG r)) H'
noncomputable def sp_coins : Sp := fun vs H Q _ => ∃ u ps w t, vs = [.ref u, .str w, .int t] ∧ BdsAt H u ps ∧ BdOk ps ∧ 0 ≤ t ∧ t ≤ 30 ∧ ∀ H', Same H H' → Q (.int (rnd (bsum ps t) w)) H'

end Pg
namespace Pg
open PySem L2
end Pg
namespace Pg
open PySem L2
theorem amtT_len {i : Int} (h : Amt i) : (toString i : Str).length ≤ 13 := numS_len (k := 13) h.1 (by decide) (by have := h.2; have := h.1; omega)
end Pg
namespace Pg
open PySem L2
theorem at_first {xs : List V} {v : V} (h : xs.head? = some v) : atI xs 0 = some v := by
  cases xs with
  | nil => cases h
  | cons x r =>
    cases h
    exact atI_nat (j := 0) rfl
end Pg
set_option Elab.async false
set_option linter.all false
set_option maxRecDepth 100000
set_option maxHeartbeats 1000000
namespace L2
open PySem PySem.Spec PyProof.Rows PySem.W

noncomputable def Rises (m : Nat → Int) (nm : Nat → Str) (n : Nat) : Prop := ∀ i j, i < j → j < n → m i < m j ∨ (m i = m j ∧ (nm i).cps.toList < (nm j).cps.toList)
noncomputable def lexT (x : Int) (a : Str) (y : Int) (c : Str) : Bool := if x = y then decide (a.cps.toList < c.cps.toList) else decide (x < y)
section
variable {X : Cx} {A : Around} {E : Value → Shared → Prop} {pins : List (Addr × Obj)} {σ : St} {H : Hp} {s : Shared} {a kS : Addr} {e e1 : Nat} {keys : Array Value} {vs : List Value} {m : Nat → Int} {nm : Nat → Str} {P : PySem.Fin → Shared → Prop}

noncomputable def KeysAt (H : Hp) (ks : List Value) (m : Nat → Int) (nm : Nat → Str) : Prop := ∀ (i : Nat) v, ks[i]? = some v → ∃ t, v = .ref t ∧ H t = some (.tup [.int (m i), .str (nm i)])
end
section
variable {X : Cx} {p : Str} {scope : Scope} {c P : Addr} {params : Arguments} {body a : Expr} {pos lpos kpos p1 : Pos} {ta te : TE}
noncomputable def tSortM (K : PySem.W.Frag) (P : Addr) (lpos : Pos) (qual : Str) (ta te : TE) : TE := fun σ H Q => ta σ H fun x H1 => ∃ (l : Addr) (xs : List V) (m : Nat → Int) (nm : Nat → Str), x = .ref l ∧ SqL K H1 l xs ∧ xs.length < 64 ∧ Rises m nm xs.length ∧ LamTab H1 P lpos qual ∧
  ∀ H2, LamNext H1 H2 P → LamTab H2 P lpos qual → (∀ i x, xs[i]? = some x → ∀ H3, Same H2 H3 → te [some x] H3 fun y H' => Same H3 H' ∧ ∃ t, y = .ref t ∧ H' t = some (.tup [.int (m i), .str (nm i)])) ∧ ∀ D H3, Same H2 H3 → H2 D = none → H3 D = some (.lst xs) → Q (.ref D) H3
end
end L2
set_option Elab.async false
set_option linter.all false
set_option maxRecDepth 100000
namespace L2
open PySem PySem.Spec PyProof.Rows
end L2
namespace Pg
open PySem L2
structure Nest (mg : Str → Option Value) (base : Heap) (c T : Addr) : Prop where
  hd : PySem.W.CodeHd base c T
  bm : ∃ bm o, mg "__builtins__" = some (.ref bm) ∧ bm ≠ builtinsNs ∧ bm ≠ mainGlobals ∧ base.get? bm = some o ∧ o.cls = .type "module" ∧ o.dict = some builtinsNs ∧ o.data = .plain
noncomputable def sumB (prs : List (Str × Int)) (z : Str) : Int := sumL ((prs.filter fun p => decide (p.1 = z)).map (·.2))
noncomputable def less (prs : List (Str × Int)) : List (Str × Int) := prs.map fun p => (p.1, -p.2)
noncomputable def leS (a b : Str) : Bool := decide (¬ b.cps.toList < a.cps.toList)
noncomputable def Ord (ss : List Str) : Prop := ss.Pairwise (fun a b => ¬ b.cps.toList < a.cps.toList)
noncomputable def cano (ks : List Str) : List Str := ks.mergeSort leS
noncomputable def canD (tot : List (Str × Int)) : List (Str × Int) := (cano (tot.map (·.1))).map fun z => (z, getT tot z)
noncomputable def amt (s : Stm) : List (Str × Int) := s.ds ++ [(("base" : Str), s.b), (("net" : Str), s.n)]
noncomputable def both (o n : Stm) : List (Str × Int) := addAll [amt n, less (amt o)]
noncomputable def dif (o n : Stm) (z : Str) : Int := sumB (amt n) z - sumB (amt o) z
noncomputable def rowsM (o n : Stm) : List (Int × Str × Int) := ((cano ((both o n).map (·.1))).filter fun z => decide (dif o n z ≠ 0)).map fun z => (n.m, z, dif o n z)
noncomputable def RowLt (r s : Int × Str × Int) : Prop := r.1 < s.1 ∨ (r.1 = s.1 ∧ r.2.1.cps.toList < s.2.1.cps.toList)
noncomputable def Chg (o n : Stm) : Prop := ∃ x : Str, ∀ z : Str, z ≠ ("net" : Str) → z ≠ x → dif o n z = 0
noncomputable def diffR (os ns : List Stm) : List (Int × Str × Int) := ((os.zip ns).map fun p => rowsM p.1 p.2).flatten
noncomputable def dropT (tot : List (Str × Int)) (x : Str) : List (Str × Int) := tot.filter fun p => !decide (p.1 = x)
structure StK (nms : List Str) (s : Stm) : Prop where
  nm : ∀ p ∈ s.ds, p.1 ∈ nms
  nd : (s.ds.map (·.1)).Nodup
structure Lst (nms : List Str) (sts : List Stm) : Prop where
  few : sts.length ≤ 26
  n4 : nms.length ≤ 4
  each : ∀ s ∈ sts, StK nms s
structure Two (nms : List Str) (os ns : List Stm) : Prop where
  o : Lst nms os
  n : Lst nms ns
  mo : os.map (·.m) = ns.map (·.m)
  up : (ns.map (·.m)).Pairwise (· < ·)
  chg : ∀ p ∈ os.zip ns, Chg p.1 p.2
noncomputable def PairsAt (H : Hp) (v : V) (prs : List (Str × Int)) : Prop := ∃ d ts, v = .ref d ∧ (Rd H d (.tup ts) ∨ H d = some (.lst ts)) ∧ TupsAt H ts (prs.map cP)

noncomputable def FstAt (H : Hp) (v : V) (m : Int) : Prop := ∃ a r, v = .ref a ∧ H a = some (.tup (.int m :: r))
noncomputable def Fsts (H : Hp) (ys : List V) (ms : List Int) : Prop := ItemsAt H ys ms FstAt
noncomputable def sp_tog : Sp := fun vs H Q _ => ∃ l ys prss, vs = [.ref l] ∧ H l = some (.lst ys) ∧ ItemsAt H ys prss PairsAt ∧ (addAll prss).length < 64 ∧ prss.length ≤ 100 ∧ (∀ prs ∈ prss, prs.length ≤ 100) ∧
  ∀ t ys' H', Same H H' → H t = none → H' t = some (.tup ys') → TupsAt H' ys' ((canD (addAll prss)).map cP) → Q (.ref t) H'
noncomputable def sp_sm : Sp := fun vs H Q _ => ∃ l ys sts nms, vs = [.ref l] ∧ H l = some (.lst ys) ∧ StsAt H ys sts ∧ Lst nms sts ∧
  ∀ t d ys' H', Same H H' → H' t = some (.tup [.int (sumL (sts.map (·.b))), .ref d, .int (sumL (sts.map (·.n)))]) → H' d = some (.tup ys') → TupsAt H' ys' ((canD (allD sts)).map cP) → Q (.ref t) H'
noncomputable def sp_amts : Sp := fun vs H Q _ => ∃ v s, vs = [v] ∧ StAt H v s ∧ s.ds.length ≤ 100 ∧ ∀ t ys' H', Same H H' → H t = none → H' t = some (.tup ys') → TupsAt H' ys' ((amt s).map cP) → Q (.ref t) H'
noncomputable def sp_amtsL : Sp := fun vs H Q _ => ∃ v s, vs = [v] ∧ StAt H v s ∧ s.ds.length ≤ 100 ∧ ∀ t ys' H', Same H H' → H t = none → H' t = some (.lst ys') → TupsAt H' ys' ((amt s).map cP) → Q (.ref t) H'
noncomputable def sp_md : Sp := fun vs H Q _ => ∃ v u o n nms, vs = [v, u] ∧ StAt H v o ∧ StAt H u n ∧ StK nms o ∧ StK nms n ∧ nms.length ≤ 4 ∧ ∀ l ys' H', Same H H' → H l = none → H' l = some (.lst ys') → TupsAt H' ys' ((rowsM o n).map cM) → Q (.ref l) H'
noncomputable def lq : Str := ("differences" : Str) ++ ".<locals>." ++ "<lambda>"
noncomputable def sp_diff (lp : Pos) (T cM' : Addr) : Sp := fun vs H Q E => ∃ la ya lb yb, vs = [.ref la, .ref lb] ∧ H la = some (.lst ya) ∧ H lb = some (.lst yb) ∧
  ((∃ ma mb, Fsts H ya ma ∧ Fsts H yb mb ∧ ma.length ≤ 1000 ∧ mb.length ≤ 1000 ∧ ma ≠ mb ∧ ∀ H', Same H H' → E (.ref cM') none H') ∨
   ∃ os ns nms, StsAt H ya os ∧ StsAt H yb ns ∧ Two nms os ns ∧ LamTab H T lp lq ∧ ∀ l ys' H', LamNext H H' T → LamTab H' T lp lq → H l = none → H' l = some (.lst ys') → TupsAt H' ys' ((diffR os ns).map cM) → Q (.ref l) H')
noncomputable def sp_diffL : Sp := fun vs H Q _ => ∃ la ya lb yb os ns nms, vs = [.ref la, .ref lb] ∧ H la = some (.lst ya) ∧ H lb = some (.lst yb) ∧ StsAt H ya os ∧ StsAt H yb ns ∧ Two nms os ns ∧
  ∀ l ys' H', Same H H' → H l = none → H' l = some (.lst ys') → TupsAt H' ys' ((diffR os ns).map cM) → Q (.ref l) H'
noncomputable def sp_stm : Sp := fun vs H Q _ => ∃ m b d tot, vs = [.int m, .int b, .ref d] ∧ H d = some (.dK (dOf tot)) ∧ tot.length < 60 ∧ (tot.map (·.1)).Nodup ∧
  ∀ o v H', H' d = some (.frz o (.dK (dOf tot))) → (∀ c u, c ≠ d → H c = some u → H' c = some u) → StAt H' v ⟨m, b, canD tot, b - sumL (tot.map (·.2))⟩ → Q v H'
noncomputable def mxN (c : Int) : Int := (c % 1000000007 + 1) * 48271 % 2147483647
noncomputable def mxC (c k : Int) : Int := mxN c * (16807 + 7919 * k * k + 31 * k) % 2147483629 / 7
noncomputable def sp_mx : Sp := fun vs H Q _ => ∃ c k, vs = [.int c, .int k] ∧ 0 ≤ k ∧ k ≤ 1000 ∧ Q (.int (mxC c k)) H
noncomputable def sp_amtC : Sp := fun vs H Q _ => ∃ c k, vs = [.int c, .int k] ∧ 0 ≤ k ∧ k ≤ 1000 ∧ ∀ v H', Same H H' → Q (.int v) H'
noncomputable def sp_words : Sp := fun vs H Q _ => ∃ c, vs = [.int c, .int 4, .str "abcdefghijklmnopqrstuvwxyz", .int 7] ∧ 0 ≤ c ∧ ∀ (zs : List Str) (l : Addr) (H' : Hp), Same H H' → H l = none → H' l = some (.lst (zs.map V.str)) → zs.length = 4 → Q (.ref l) H'
noncomputable def sp_lists (K : PySem.W.Frag) : Sp := fun vs H Q _ => ∃ (a : Addr) (ns : List Int) (nl : Addr) (zs : List Str), vs = [.ref a, .ref nl] ∧ SqL K H a (ns.map V.int) ∧ H nl = some (.lst (zs.map V.str)) ∧ zs.length = 4 ∧
  ∀ t lo ln yo yn os nw H', Same H H' → H' t = some (.tup [.ref lo, .ref ln]) → H lo = none → H ln = none → H' lo = some (.lst yo) → H' ln = some (.lst yn) → StsAt H' yo os → StsAt H' yn nw → Two zs os nw → Q (.ref t) H'
noncomputable def sp_othr : Sp := fun vs H Q _ => ∃ lo yo os nms c, vs = [.ref lo, .int c] ∧ H lo = some (.lst yo) ∧ StsAt H yo os ∧ Lst nms os ∧ (os.map (·.m)).Pairwise (· < ·) ∧ 0 ≤ c ∧
  ∀ l yl ml H', Same H H' → H' l = some (.lst yl) → Fsts H' yl ml → ml.length ≤ 1000 → ml ≠ os.map (·.m) → Q (.ref l) H'
noncomputable def sp_refu : Sp := fun vs H Q _ => ∃ la ya lb yb ma mb, vs = [.ref la, .ref lb] ∧ H la = some (.lst ya) ∧ H lb = some (.lst yb) ∧ Fsts H ya ma ∧ Fsts H yb mb ∧ ma.length ≤ 1000 ∧ mb.length ≤ 1000 ∧ ma ≠ mb ∧ ∀ H', Same H H' → Q (.bl true) H'
structure Kds8 (mg : Str → Option Value) (d : Nat → Addr) : Prop where
  g0 : mg "BadMonth" = some (.ref (d 0))
  g1 : mg "BadYear" = some (.ref (d 1))
  g2 : mg "NoYear" = some (.ref (d 2))
  g3 : mg "BadDay" = some (.ref (d 3))
  g4 : mg "BadEntry" = some (.ref (d 4))
  g5 : mg "NoMark" = some (.ref (d 5))
  g6 : mg "NoPerson" = some (.ref (d 6))
  g7 : mg "TooMany" = some (.ref (d 7))
structure Kd8 (K : PySem.W.Frag) (d : Nat → Addr) (C : Addr) : Prop where
  cls : XK.ExcCls K C
  ve : PySem.W.kitOne K (.ref C) (.type "ValueError") = some true
  k0 : PySem.W.kitOne K (.ref C) (.ref (d 0)) = some true
  k1 : PySem.W.kitOne K (.ref C) (.ref (d 1)) = some false
  k2 : PySem.W.kitOne K (.ref C) (.ref (d 2)) = some false
  k3 : PySem.W.kitOne K (.ref C) (.ref (d 3)) = some false
  k4 : PySem.W.kitOne K (.ref C) (.ref (d 4)) = some false
  k5 : PySem.W.kitOne K (.ref C) (.ref (d 5)) = some false
  k6 : PySem.W.kitOne K (.ref C) (.ref (d 6)) = some false
  k7 : PySem.W.kitOne K (.ref C) (.ref (d 7)) = some false
noncomputable def sp_wd (K : PySem.W.Frag) (d : Nat → Addr) : Sp := fun vs H Q _ => ∃ ea C, vs = [.ref ea] ∧ Held K H ea C ∧ Kd8 K d C ∧ ∀ t H', Same H H' → H t = none → H' t = some (.tup [.str "month"]) → Q (.ref t) H'

inductive Al (H : Hp) : Nat → V → Dt → Prop where
  | i {n : Nat} (z : Int) : Al H n (.int z) (.v (.int z))
  | s {n : Nat} (z : Str) : Al H n (.str z) (.v (.str z))
  | l {n : Nat} {a : Addr} {xs : List V} {ds : List Dt} : H a = some (.lst xs) → xs.length = ds.length → xs.length ≤ 1000 → (∀ (j : Nat) x d, xs[j]? = some x → ds[j]? = some d → Al H n x d) → Al H (n + 1) (.ref a) (.l ds)
  | t {n : Nat} {a : Addr} {xs : List V} {ds : List Dt} : H a = some (.tup xs) → xs.length = ds.length → xs.length ≤ 1000 → (∀ (j : Nat) x d, xs[j]? = some x → ds[j]? = some d → Al H n x d) → Al H (n + 1) (.ref a) (.t ds)
noncomputable def sp_alike (n : Nat) : Sp := fun vs H Q _ => ∃ x y d, vs = [x, y] ∧ Al H n x d ∧ Al H n y d ∧ ∀ H', Same H H' → Q (.bl true) H'
noncomputable def spA : Nat → Sp
  | 0 => fun _ _ _ _ => False
  | n + 1 => sp_alike n
end Pg
set_option Elab.async false
set_option linter.all false
set_option maxRecDepth 100000
namespace Pg
open PySem L2

structure Grow (zs : List Str) (st : Int) (os nw : List Stm) (i : Nat) : Prop where
  lo : os.length = i
  ln : nw.length = i
  mo : os.map (·.m) = (List.range i).map fun k => st + (k : Nat)
  mn : nw.map (·.m) = (List.range i).map fun k => st + (k : Nat)
  eo : ∀ s ∈ os, StK zs s
  en : ∀ s ∈ nw, StK zs s
  ch : ∀ p ∈ os.zip nw, Chg p.1 p.2
structure Turned (r : Int) (x : Str) (b b' : Int) (tot tot' : List (Str × Int)) : Prop where
  base : b' = b ∨ r = 0
  same : r = 0 → tot' = tot
  get : ∀ z, z ≠ x → getT tot' z = getT tot z
section
variable {α : Type} {H : Hp} {ys zs : List V} {xs us : List α} {P : Hp → V → α → Prop}
end

noncomputable def HdAt (hl : Addr) (H : Hp) (y : V) : Prop := ∃ p f g ys zs k, ∃ rs : List (Int × Str × Int), y = .ref p ∧ H p = some (.tup [.ref f, .ref g]) ∧ H f = some (.lst (ys ++ [.int k])) ∧ H g = some (.lst (zs ++ [.int k])) ∧ TupsAt H ys (rs.map cM) ∧ TupsAt H zs (rs.map cM) ∧ f ≠ hl ∧ g ≠ hl
noncomputable def sp_law21 (K : PySem.W.Frag) (T : Addr) : Sp := fun vs H Q _ => ∃ (a : Addr) (ns : List Int), vs = [.ref a] ∧ SqL K H a (ns.map V.int) ∧ LamTab H T ⟨43, 28, 43, 56⟩ lq ∧ ∀ H', Q (.bl true) H'
end Pg
set_option Elab.async false
set_option linter.all false
set_option maxRecDepth 100000
namespace L2
open PySem PySem.Spec PyProof.Rows

noncomputable def FT (H H' : Hp) : Prop := ∀ b c, H b = some (.tup c) → H' b = some (.tup c)
theorem FT.same {H H' : Hp} (s : Same H H') : FT H H' := fun _ _ h => s _ _ h
noncomputable def Up {α : Type} (P : Hp → V → α → Prop) : Prop := ∀ H H' v x, FT H H' → P H v x → P H' v x
section
variable {α β : Type} {J : It} {D : Addr} {tt : TT} {te : TE} {fin : List V → Hp → Prop} {σ : St} {H H' : Hp} {ys zs : List V} {xs : List α} {P : Hp → V → α → Prop} {K : PySem.W.Frag}
end
end L2
namespace Pg
open PySem L2

structure Alph (sg : Str) (ok : Nat → Bool) : Prop where
  lo : 1 ≤ sg.length
  hi : sg.length ≤ 100
  at_ : ∀ i : Int, 0 ≤ i → i < (sg.length : Nat) → ∃ c, atI sg.cps.toList i = some c ∧ ok c = true
  in_ : ∀ c, (!(Builtin.Str.occurrences sg ⟨#[c]⟩ 0 sg.length 1).isEmpty) = ok c
structure WordOk (ok : Nat → Bool) (z : Str) : Prop where
  lo : 1 ≤ z.length
  hi : z.length ≤ 8
  all : z.cps.toList.all ok = true
noncomputable def inS (sg : Str) (c : Nat) : Bool := sg.cps.toList.contains c
theorem alph {sg : Str} (h1 : 1 ≤ sg.length) (h2 : sg.length ≤ 100) : Alph sg (inS sg) := ⟨h1, h2, fun i h0 h1 => by
  obtain ⟨c, e, m⟩ := at_any (xs := sg.cps.toList) h0 (by rw [← len_codes]; exact h1)
  exact ⟨c, e, List.contains_iff_mem.mpr m⟩, fun c => sign_in sg c⟩
noncomputable def sgL : Str := "abcdefghijklmnopqrstuvwxyz"
noncomputable def sgM : Str := "abcdefghijklmnopqrstuvwxyz0123456789"
theorem alL : Alph sgL (inS sgL) := alph (by decide +kernel) (by decide +kernel)
theorem alM : Alph sgM (inS sgM) := alph (by decide +kernel) (by decide +kernel)
noncomputable abbrev NamOk (z : Str) : Prop := WordOk (inS sgL) z
noncomputable abbrev MrkOk (z : Str) : Prop := WordOk (inS sgM) z
noncomputable def sp_wordOf : Sp := fun vs H Q _ => ∃ z sg ok, vs = [.str z, .str sg] ∧ Alph sg ok ∧ WordOk ok z ∧ ∀ H', Same H H' → Q (.bl true) H'
noncomputable def sp_nm : Sp := fun vs H Q _ => ∃ z, vs = [.str z] ∧ NamOk z ∧ ∀ H', Same H H' → Q (.bl true) H'
noncomputable def sp_mk : Sp := fun vs H Q _ => ∃ z, vs = [.str z] ∧ MrkOk z ∧ ∀ H', Same H H' → Q (.bl true) H'
noncomputable def sp_wordsS : Sp := fun vs H Q _ => ∃ c n sg ok st, vs = [.int c, .int (n : Nat), .str sg, .int st] ∧ 0 ≤ c ∧ 1 ≤ n ∧ n ≤ 10 ∧ 0 ≤ st ∧ st ≤ 100 ∧ Alph sg ok ∧ ∀ (zs : List Str) (l : Addr) (H' : Hp), Same H H' → H l = none → H' l = some (.lst (zs.map V.str)) → zs.length = n → (∀ z ∈ zs, WordOk ok z) → Q (.ref l) H'

inductive En where
  | wage (p : Str) (m r a : Int)
  | extra (p : Str) (m a : Int)
noncomputable def En.who : En → Str
  | .wage p _ _ _ => p
  | .extra p _ _ => p
noncomputable def cE : En → List V
  | .wage p m r a => [.str "wage", .str p, .int m, .int r, .int a]
  | .extra p m a => [.str "extra", .str p, .int m, .int a]
noncomputable def EnOk : En → Prop
  | .wage p m r a => NamOk p ∧ 0 ≤ m ∧ m ≤ 119999 ∧ 0 ≤ r ∧ r ≤ 99 ∧ 0 ≤ a ∧ a ≤ 10000000000
  | .extra p m a => NamOk p ∧ 0 ≤ m ∧ m ≤ 119999 ∧ 0 ≤ a ∧ a ≤ 10000000000
noncomputable def ThAt (H : Hp) (v : V) : Option En → Prop
  | none => v = .non
  | some e => ∃ a, v = .ref a ∧ H a = some (.tup (cE e))
theorem thUp : L2.Up ThAt := fun H H' v x f h => by
  cases x with
  | none => exact h
  | some e =>
    obtain ⟨a, h1, h2⟩ := h
    exact ⟨a, h1, f _ _ h2⟩
structure Pt where
  d : Int
  k : Str
  t : Option En
noncomputable def PtAt (H : Hp) (v : V) (p : Pt) : Prop := ∃ a x, v = .ref a ∧ H a = some (.tup [.int p.d, .str p.k, x]) ∧ ThAt H x p.t
noncomputable def TdAt (H : Hp) (v : V) (q : Int × Option En) : Prop := ∃ a x, v = .ref a ∧ H a = some (.tup [.int q.1, x]) ∧ ThAt H x q.2
noncomputable def PrAt (H : Hp) (v : V) (q : Str × Option En) : Prop := ∃ a x, v = .ref a ∧ H a = some (.tup [.str q.1, x]) ∧ ThAt H x q.2
noncomputable def KnAt (H : Hp) (v : V) (q : Str × En) : Prop := PrAt H v (q.1, some q.2)
noncomputable def once (l : List Str) : List Str := l.foldr (fun x r => if x ∈ r then r else x :: r) []
noncomputable def told (z : Str) (ps : List Pt) : List (Int × Option En) := (ps.filter fun p => decide (p.k = z)).map fun p => (p.d, p.t)
noncomputable def knO (l : List (Int × Option En)) (D : Int) : Option En := (l.reverse.find? fun q => decide (q.1 ≤ D)).bind (·.2)
noncomputable def mks (ps : List Pt) : List Str := cano (once (ps.map (·.k)))
noncomputable def kn (ps : List Pt) (D : Int) : List (Str × En) := (mks ps).filterMap fun z => (knO (told z ps) D).map fun e => (z, e)
noncomputable def ppl (ks : List (Str × En)) : List Str := cano (once (ks.map (·.2.who)))
noncomputable def mOf (ms : List (Str × Addr)) : List (Key × V) := ms.map fun p => (Sum.inr p.1, V.ref p.2)
noncomputable def fsJ (t : Addr) (ld : Int) : List (Str × V) := [("told", .ref t), ("last_day", .int ld)]
structure JouK (K : PySem.W.Frag) (C : Addr) : Prop where
  cls : Cls K C
  nT : NoAttr K C "told"
  nL : NoAttr K C "last_day"
structure Jou (C : Addr) (H : Hp) (J dx t : Addr) (ms : List (Str × Addr)) (ld : Int) (ps : List Pt) : Prop where
  ins : H J = some (.ins C dx (fsJ t ld))
  dic : H t = some (.dK (mOf ms))
  nd : (ms.map (·.1)).Nodup
  na : (ms.map (·.2)).Nodup
  key : ∀ z, z ∈ ms.map (·.1) ↔ z ∈ ps.map (·.k)
  tol : ∀ p ∈ ms, ∃ zs, H p.2 = some (.lst zs) ∧ ItemsAt H zs (told p.1 ps) TdAt
  day : ∀ p ∈ ps, p.d ≤ ld
  d0 : 0 ≤ ld
noncomputable def own (J t : Addr) (ms : List (Str × Addr)) : List Addr := J :: t :: ms.map (·.2)
noncomputable def ThOk : Option En → Prop
  | none => True
  | some e => EnOk e
noncomputable def sp_needDay : Sp := fun vs H Q _ => ∃ z, vs = [.int z] ∧ 0 ≤ z ∧ Q .non H
noncomputable def kindS : En → Str
  | .wage _ _ _ _ => "wage"
  | .extra _ _ _ => "extra"
noncomputable def sp_begins : Sp := fun vs H Q _ => ∃ (a : Addr) (e : En) (z : Str) (n : Int), vs = [.ref a, .str z, .int n] ∧ H a = some (.tup (cE e)) ∧ Q (.bl (decide (((cE e).length : Int) = n) && decide (kindS e = z))) H
noncomputable def sp_pma : Sp := fun vs H Q _ => ∃ (a : Addr) (e : En), vs = [.ref a] ∧ H a = some (.tup (cE e)) ∧ EnOk e ∧ ∀ H', Same H H' → Q (.bl true) H'
noncomputable def sp_isEntry : Sp := sp_pma
noncomputable def sp_needMT : Sp := fun vs H Q _ => ∃ (z : Str) (x : V) (t : Option En), vs = [.str z, x] ∧ MrkOk z ∧ ThAt H x t ∧ ThOk t ∧ ∀ H', Same H H' → Q .non H'
noncomputable def sp_knownOf (K : PySem.W.Frag) : Sp := fun vs H Q _ => ∃ (l : Addr) (zs : List V) (tl : List (Int × Option En)) (D : Int), vs = [.ref l, .int D] ∧ SqL K H l zs ∧ ItemsAt H zs tl TdAt ∧ ∀ v, ThAt H v (knO tl D) → Q v H
noncomputable def sp_initJ (C : Addr) : Sp := fun vs H Q _ => ∃ (J dx : Addr), vs = [.ref J] ∧ H J = some (.ins C dx []) ∧ ∀ t H', H t = none → Jou C H' J dx t [] 0 [] → (∀ b o, H b = some o → b ≠ J → H' b = some o) → Q .non H'
noncomputable def sp_put (C : Addr) : Sp := fun vs H Q _ => ∃ (J dx t : Addr) (ms : List (Str × Addr)) (ld : Int) (ps : List Pt) (p : Pt) (x : V), vs = [.ref J, .int p.d, .str p.k, x] ∧ Jou C H J dx t ms ld ps ∧ ThAt H x p.t ∧ ThOk p.t ∧ MrkOk p.k ∧ ld ≤ p.d ∧ ps.length ≤ 30 ∧ (p.t = none → knO (told p.k ps) p.d ≠ none) ∧
  ∀ ms' H', Jou C H' J dx t ms' p.d (ps ++ [p]) → (∀ b o, H b = some o → ¬ b ∈ own J t ms → H' b = some o) → (∀ b ∈ own J t ms', b ∈ own J t ms ∨ H b = none) → Q .non H'
noncomputable def sp_kn (C : Addr) : Sp := fun vs H Q _ => ∃ (J dx t : Addr) (ms : List (Str × Addr)) (ld : Int) (ps : List Pt) (D : Int), vs = [.ref J, .int D] ∧ Jou C H J dx t ms ld ps ∧ 0 ≤ D ∧ ps.length ≤ 30 ∧
  ∀ l zs H', Same H H' → H l = none → H' l = some (.lst zs) → ItemsAt H' zs (kn ps D) KnAt → Q (.ref l) H'
noncomputable def sp_ppl (C : Addr) : Sp := fun vs H Q _ => ∃ (J dx t : Addr) (ms : List (Str × Addr)) (ld : Int) (ps : List Pt) (D : Int), vs = [.ref J, .int D] ∧ Jou C H J dx t ms ld ps ∧ 0 ≤ D ∧ ps.length ≤ 30 ∧
  ∀ l H', Same H H' → H l = none → H' l = some (.lst ((ppl (kn ps D)).map V.str)) → Q (.ref l) H'

noncomputable def sp_knL : Sp := fun vs H Q _ => ∃ (pl : Addr) (ys : List V) (ps : List Pt) (D : Int), vs = [.ref pl, .int D] ∧ H pl = some (.lst ys) ∧ ItemsAt H ys ps PtAt ∧ ps.length ≤ 30 ∧
  ∀ l zs H', Same H H' → H l = none → H' l = some (.lst zs) → ItemsAt H' zs (kn ps D) KnAt → Q (.ref l) H'
noncomputable def sp_pplL : Sp := fun vs H Q _ => ∃ (l : Addr) (zs : List V) (ks : List (Str × En)), vs = [.ref l] ∧ H l = some (.lst zs) ∧ ItemsAt H zs ks KnAt ∧ ks.length ≤ 30 ∧
  ∀ a H', Same H H' → H a = none → H' a = some (.lst ((ppl ks).map V.str)) → Q (.ref a) H'
noncomputable def sp_enL : Sp := fun vs H Q _ => ∃ (c st : Int) (nl : Addr) (ns : List Str), vs = [.int c, .ref nl, .int st] ∧ H nl = some (.lst (ns.map V.str)) ∧ ns.length = 4 ∧ (∀ z ∈ ns, NamOk z) ∧ 0 ≤ st ∧ st ≤ 119999 ∧
  ∀ e, EnOk e → New H (.tup (cE e)) Q
noncomputable def sp_start : Sp := fun vs H Q _ => ∃ c, vs = [.int c] ∧ 0 ≤ c ∧ ∀ st H', 0 ≤ st → st ≤ 119999 → Same H H' → Q (.int st) H'
noncomputable def lastD (ps : List Pt) : Int := ((ps.getLast?).map (·.d)).getD 0
noncomputable def sp_nextL : Sp := fun vs H Q _ => ∃ (c st : Int) (k : Nat) (pl ml nl : Addr) (ys : List V) (ps : List Pt) (ns mk : List Str), vs = [.int c, .int (k : Nat), .ref pl, .ref ml, .ref nl, .int st] ∧ k ≤ 100 ∧ H pl = some (.lst ys) ∧ ItemsAt H ys ps PtAt ∧ ps.length ≤ 30 ∧ (∀ p ∈ ps, 0 ≤ p.d) ∧
  H nl = some (.lst (ns.map V.str)) ∧ ns.length = 4 ∧ (∀ z ∈ ns, NamOk z) ∧ H ml = some (.lst (mk.map V.str)) ∧ 1 ≤ mk.length ∧ (∀ z ∈ mk, MrkOk z) ∧ 0 ≤ st ∧ st ≤ 119999 ∧
  ∀ (a : Addr) (x : V) (p : Pt) (H' : Hp), Same H H' → H' a = some (.tup [.int p.d, .str p.k, x]) → ThAt H' x p.t → ThOk p.t → p.k ∈ mk → lastD ps ≤ p.d → 0 ≤ p.d → (p.t = none → knO (told p.k ps) p.d ≠ none) → Q (.ref a) H'

noncomputable def dE (e : En) : Dt := .t ((cE e).map Dt.v)
noncomputable def dKn (q : Str × En) : Dt := .t [.v (.str q.1), dE q.2]
inductive Fd where
  | k (ks : List (Str × En))
  | n (ss : List Str)
noncomputable def Fd.dt : Fd → List Dt
  | .k ks => ks.map dKn
  | .n ss => ss.map fun z => .v (.str z)
noncomputable def FdAt (H : Hp) (xs : List V) : Fd → Prop
  | .k ks => ItemsAt H xs ks KnAt
  | .n ss => xs = ss.map V.str
noncomputable def endN (b : Bool) : List V := if b then [.non] else []
noncomputable def LsAt (H : Hp) (f : Addr) (d : Fd) (b : Bool) : Prop := ∃ xs, H f = some (.lst (xs ++ endN b)) ∧ FdAt H xs d
noncomputable def HjAt (S : List Addr) (H : Hp) (y : V) : Prop := ∃ a f g d b, y = .ref a ∧ H a = some (.tup [.ref f, .ref g]) ∧ ¬ f ∈ S ∧ ¬ g ∈ S ∧ LsAt H f d b ∧ LsAt H g d b
noncomputable def sp_stands (C : Addr) : Sp := fun vs H Q _ => ∃ (J dx t : Addr) (ms : List (Str × Addr)) (ld : Int) (ps : List Pt) (pl hl : Addr) (ys hs : List V) (c : Int) (S : List Addr), vs = [.ref J, .ref pl, .int c, .ref hl] ∧ Jou C H J dx t ms ld ps ∧ H pl = some (.lst ys) ∧ ItemsAt H ys ps PtAt ∧ ps.length ≤ 30 ∧ (∀ p ∈ ps, 0 ≤ p.d) ∧
  H hl = some (.lst hs) ∧ hs.length ≤ 10000 ∧ hl ≠ pl ∧ ¬ hl ∈ own J t ms ∧ hl ∈ S ∧ (∀ b ∈ S, H b ≠ none) ∧ (∀ y ∈ hs, HjAt S H y) ∧ 0 ≤ c ∧
  ∀ hs' H', H' hl = some (.lst hs') → hs'.length ≤ hs.length + 3 → (∀ b o, H b = some o → b ≠ hl → H' b = some o) → (∀ y ∈ hs', HjAt S H' y) → Q (.bl true) H'
noncomputable def sp_lawJ (K : PySem.W.Frag) : Sp := fun vs H Q _ => ∃ (a : Addr) (ns : List Int), vs = [.ref a] ∧ SqL K H a (ns.map V.int) ∧ ∀ H', Q (.bl true) H'
end Pg
set_option Elab.async false
set_option linter.all false
set_option maxRecDepth 100000
namespace Pg
open PySem L2
section
variable {C : Addr} {H H' : Hp} {J dx t : Addr} {ms : List (Str × Addr)} {ld : Int} {ps : List Pt}

structure JouM (C : Addr) (H : Hp) (J dx t : Addr) (ms : List (Str × Addr)) (ld : Int) (ps : List Pt) (z : Str) : Prop where
  ins : H J = some (.ins C dx (fsJ t ld))
  dic : H t = some (.dK (mOf ms))
  nd : (ms.map (·.1)).Nodup
  na : (ms.map (·.2)).Nodup
  key : ∀ y, y ∈ ms.map (·.1) ↔ y ∈ ps.map (·.k) ∨ y = z
  tol : ∀ p ∈ ms, ∃ zs, H p.2 = some (.lst zs) ∧ ItemsAt H zs (told p.1 ps) TdAt
  day : ∀ p ∈ ps, p.d ≤ ld
  d0 : 0 ≤ ld
end
noncomputable def tillB (z : Str) (D : Int) (q : Pt) : Bool := decide (q.k = z) && decide (q.d ≤ D)
end Pg
set_option Elab.async false
set_option linter.all false
set_option maxRecDepth 100000
namespace Pg
open PySem L2
noncomputable def rLenS (K : PySem.W.Frag) : List V → Hp → VK → Prop := fun xs H Q => ∃ p ys, xs = [.ref p] ∧ (SqL K H p ys ∨ SqT K H p ys) ∧ Q (.int ys.length) H

structure BdI (ps : List (Int × Int)) (n : Nat) : Prop where
  few : ps.length ≤ n + 1
  hd : ∃ p r, ps = ((0 : Int), p) :: r
  ok : ∀ q ∈ ps, Amt q.1 ∧ Prt q.2
  up : Up ps
end Pg
set_option Elab.async false
set_option linter.all false
set_option maxRecDepth 100000
namespace L2
open PySem PySem.Spec PyProof.Rows


noncomputable def KeepNL (H H' : Hp) : Prop := ∀ b o, H b = some o → (∀ xs, o ≠ .lst xs) → H' b = some o
structure Made {α : Type} (H : Hp) (zs : List V) (xs : List α) (S : Hp → V → α → Prop) : Prop where
  len : zs.length = xs.length
  at_ : ∀ (i : Nat) (x : α), xs[i]? = some x → ∃ u, zs[i]? = some u ∧ S H u x
section
variable {J : It} {D : Addr} {te : TE} {fin : List V → Hp → Prop} {σ : St} {H : Hp} {ys : List V} {α : Type} {xs : List α} {P : Hp → V → α → Prop}
end
end L2
set_option Elab.async false
set_option linter.all false
set_option maxRecDepth 100000
namespace Pg
open PySem L2
noncomputable def sp_askB (K : PySem.W.Frag) (Cs : Nat → Addr) : Sp := fun vs H Q _ => ∃ o v n ps x b bs c, vs = [o, v, .ref b, .int c] ∧ RoG Cs H (.bands n ps x) o ∧ RtG H (.bands n ps x) v ∧ RName n ∧ BdOk ps ∧ Way x ∧ SqL K H b (bs.map V.int) ∧ bs.length ≤ 100 ∧ Nns bs ∧ ∀ H', Same H H' → Q (.bl true) H'
end Pg
set_option Elab.async false
set_option linter.all false
set_option maxRecDepth 100000
namespace Pg
open PySem L2
noncomputable abbrev DB := Str × List (Int × Int) × Str
noncomputable def rkD (d : DB) : Rk := .bands d.1 d.2.1 d.2.2
noncomputable def OkD (d : DB) : Prop := RName d.1 ∧ BdOk d.2.1 ∧ Way d.2.2
end Pg
namespace Pg
open PySem L2
end Pg
set_option Elab.async false
set_option linter.all false
set_option maxRecDepth 100000
namespace L2
open PySem
section
variable {P : Program} {w : World} {K : PySem.W.Frag} {mg : Str → Option Value} {base : Heap} {CX : CXT} {j k : Nat} {C : Addr} {x m : Str} {ps : List Str} {sp sp' : Sp}
end
end L2
namespace Pg
open PySem L2

noncomputable def dep : Rk → Int
  | .ontop _ _ _ r => dep r + 1
  | _ => 0
structure RulJ (K : PySem.W.Frag) (Cs : Nat → Addr) (cR : Addr) : Prop where
  ha : ∀ i, i < 6 → PySem.W.findIn K (.ref (Cs i)) "__class__" = some (some (.builtin "object.__class__"))
  hn : PySem.W.specialIn K (.builtin "object.__class__") "__get__" = some (some (.builtin "getset_descriptor.__get__"))
  htk : PySem.W.takesIn K (.builtin "object.__class__") = some true
  hm : ∀ i, i < 6 → PySem.W.mroIn K (Cs i) (.type "object") = some true
  kt : ∀ i, i < 6 → PySem.W.kitOne K (.ref (Cs i)) (.ref cR) = some true
  cls : ∀ i, i < 6 → Cls K (Cs i)
  ne : Cs 1 ≠ Cs 5
noncomputable def sp_depG (d k : Nat) (Cs : Nat → Addr) : Sp := fun vs H Q _ => ∃ v r, vs = [v] ∧ r.kd = k ∧ RoG Cs H r v ∧ Gd d r ∧ Q (.int (dep r)) H
noncomputable def sp_twin (d k : Nat) (Cs : Nat → Addr) : Sp := fun vs H Q _ => ∃ v r, vs = [v] ∧ r.kd = k ∧ RoG Cs H r v ∧ Gd d r ∧ ∀ o H', Same H H' → RoG Cs H' r o → Q o H'
noncomputable def sp_oinit (d : Nat) (Cs : Nat → Addr) : Sp := fun vs H Q _ => ∃ o dx n p x u r, vs = [.ref o, .str n, .int p, .str x, u] ∧ RName n ∧ Prt p ∧ Way x ∧ RoG Cs H r u ∧ Gd d r ∧ H o = some (.ins (Cs 5) dx []) ∧
  ∀ H' u', (∀ b y, H b = some y → b ≠ o → H' b = some y) → H' o = some (.ins (Cs 5) dx [("name", .str n), ("parts", .int p), ("way", .str x), ("within", u')]) → RoG Cs H' r u' → Q .non H'
noncomputable def sp_ruleR : Sp := fun vs H Q _ => ∃ c z, vs = [.int c, .str z] ∧ RName z ∧ ∀ v r H', Gd 3 r → r.name = z → Same H H' → RtG H' r v → Q v H'
noncomputable def sp_madN (Cs : Nat → Addr) : Nat → Sp
  | 0 => fun _ _ _ _ => False
  | d + 1 => fun vs H Q _ => ∃ v r, vs = [v] ∧ RtG H r v ∧ Gd d r ∧ ∀ o H', Same H H' → RoG Cs H' r o → Q o H'
end Pg
namespace Pg
open PySem L2
end Pg
set_option Elab.async false
set_option linter.all false
set_option maxRecDepth 100000
namespace Pg
open PySem L2

noncomputable def sp_onT (K : PySem.W.Frag) (Cs : Nat → Addr) : Sp := fun vs H Q _ => ∃ o v r b bs, vs = [o, v, .ref b] ∧ RoG Cs H r o ∧ RtG H r v ∧ Gd 3 r ∧ r.kd = 5 ∧ SqL K H b (bs.map V.int) ∧ bs.length ≤ 100 ∧ Nns bs ∧ ∀ H', Same H H' → Q (.bl true) H'
noncomputable def sp_turn (K : PySem.W.Frag) : Sp := fun vs H Q _ => ∃ (b : Addr) (bs : List Int) (c : Int), vs = [.ref b, .int c] ∧ SqL K H b (bs.map V.int) ∧ bs.length ≤ 50 ∧ ∀ (cs : List Int) l H', cs.Perm bs → Same H H' → H' l = some (.lst (cs.map V.int)) → Q (.ref l) H'
end Pg
set_option Elab.async false
set_option linter.all false
set_option maxRecDepth 100000
namespace L2
open PySem PySem.StrLaws Builtin Builtin.Str

noncomputable def cutsR (c : Nat) : List Nat → Nat → List Nat
  | [], _ => []
  | a :: r, k => if a = c then k :: cutsR c r (k + 1) else cutsR c r (k + 1)
theorem occ_step (x : Str) (c : Nat) : ∀ (l : List Nat) (k : Nat) (f : Array Nat) (fr : Nat), x.cps.toList.drop k = l → k ≤ x.length → fr ≤ k → f.size ≤ k →
    (forIn (List.range' k (l.length + 1)) (f, fr) (occBody x ⟨#[c]⟩ x.length (x.length + 1))).run.fst.toList = f.toList ++ cutsR c l k := by
  intro l
  induction l with
  | nil =>
    intro k f fr e hk hf hs
    have e1 : List.range' k (([] : List Nat).length + 1) = [k] := rfl
    have e2 : cutsR c [] k = [] := rfl
    rw [e1, e2, List.forIn_cons]
    unfold occBody
    have : ¬ (((f.size < x.length + 1 ∧ fr ≤ k) ∧ k + (⟨#[c]⟩ : Str).length ≤ x.length) ∧ subAt x ⟨#[c]⟩ k = true) := fun h => by
      have h1 := (subAt_one x c k).mp ⟨h.1.2, h.2⟩
      have h2 : (x.cps.toList.drop k)[0]? = some c := by rw [List.getElem?_drop]; exact h1
      rw [e] at h2
      cases h2
    rw [if_neg this, List.append_nil]
    rfl
  | cons a r ih =>
    intro k f fr e hk hf hs
    have ea : x.cps.toList[k]? = some a := by
      have h2 : (x.cps.toList.drop k)[0]? = some a := by rw [e]; rfl
      rw [List.getElem?_drop] at h2
      exact h2
    have er : x.cps.toList.drop (k + 1) = r := by
      rw [← List.drop_drop, e]
      rfl
    have kl : k + 1 ≤ x.length := by
      have := (List.getElem?_eq_some_iff.mp ea).1
      have e2 : x.cps.toList.length = x.length := rfl
      omega
    rw [List.length_cons, List.range'_succ, List.forIn_cons]
    unfold occBody
    by_cases h : a = c
    · subst h
      have h1 := (subAt_one x a k).mpr ea
      rw [if_pos ⟨⟨⟨Nat.lt_of_le_of_lt hs (by omega), hf⟩, h1.1⟩, h1.2⟩]
      have := ih (k + 1) (f.push k) (k + 1) er kl (Nat.le_refl _) (by rw [Array.size_push]; omega)
      have c1 : cutsR a (a :: r) k = k :: cutsR a r (k + 1) := if_pos rfl
      rw [c1]
      refine this.trans ?_
      rw [Array.toList_push, List.append_assoc]
      rfl
    · have : ¬ (((f.size < x.length + 1 ∧ fr ≤ k) ∧ k + (⟨#[c]⟩ : Str).length ≤ x.length) ∧ subAt x ⟨#[c]⟩ k = true) := fun q => by
        have h1 := (subAt_one x c k).mp ⟨q.1.2, q.2⟩
        rw [ea] at h1
        exact h (Option.some.inj h1)
      rw [if_neg this]
      have c1 : cutsR c (a :: r) k = cutsR c r (k + 1) := if_neg h
      rw [c1]
      exact ih (k + 1) f fr er kl (by omega) (by omega)
theorem occ_cuts (x : Str) (c : Nat) : occurrences x ⟨#[c]⟩ 0 x.length (x.length + 1) = cutsR c x.cps.toList 0 := by
  rw [occ_eq]
  exact occ_step x c x.cps.toList 0 #[] 0 rfl (Nat.zero_le _) (Nat.le_refl _) (Nat.le_refl _)
theorem cuts_free {c : Nat} {w : List Nat} (h : ¬ c ∈ w) (r : List Nat) (k : Nat) : cutsR c (w ++ r) k = cutsR c r (k + w.length) := by
  induction w generalizing k with
  | nil => rfl
  | cons a w ih =>
    have n : ¬ a = c := fun e => h (by rw [e]; exact List.mem_cons_self)
    have e : cutsR c (a :: w ++ r) k = cutsR c (w ++ r) (k + 1) := if_neg n
    rw [e, ih (fun m => h (List.mem_cons_of_mem _ m)), List.length_cons]
    congr 1
    omega
theorem cuts_shift (c : Nat) (l : List Nat) (k s : Nat) : cutsR c l (k + s) = (cutsR c l k).map (· + s) := by
  induction l generalizing k with
  | nil => rfl
  | cons a r ih =>
    show (if a = c then _ else _) = (if a = c then _ else _ : List Nat).map _
    have e := ih (k + 1)
    rw [show k + 1 + s = k + s + 1 by omega] at e
    split
    · rw [List.map_cons, e]
    · exact e
noncomputable def pbL (l cuts : List Nat) : List (List Nat) := List.zipWith (fun i j => (l.drop i).take (j - i)) (0 :: cuts.map (· + 1)) (cuts ++ [l.length])
theorem pb_words {c : Nat} : ∀ (rest : List (List Nat)) (w : List Nat), ¬ c ∈ w → (∀ v ∈ rest, ¬ c ∈ v) → pbL (w ++ (rest.map fun v => c :: v).flatten) (cutsR c (w ++ (rest.map fun v => c :: v).flatten) 0) = w :: rest := by
  intro rest
  induction rest with
  | nil =>
    intro w hw _
    rw [cuts_free hw]
    show [((w ++ []).drop 0).take ((w ++ []).length - 0)] = [w]
    rw [List.append_nil, List.drop_zero, Nat.sub_zero, List.take_length]
  | cons v r ih =>
    intro w hw hr
    have ih := ih v (hr v List.mem_cons_self) fun u hu => hr u (List.mem_cons_of_mem _ hu)
    have el : (((v :: r).map fun v => c :: v).flatten) = c :: (v ++ (r.map fun v => c :: v).flatten) := rfl
    rw [el]
    generalize v ++ (r.map fun v => c :: v).flatten = l' at ih
    have e1 : cutsR c (w ++ c :: l') 0 = w.length :: (cutsR c l' 0).map (· + (w.length + 1)) := by
      rw [cuts_free hw, Nat.zero_add]
      show (if c = c then _ else _) = _
      rw [if_pos rfl, ← cuts_shift, Nat.zero_add]
    rw [e1]
    unfold pbL at ih ⊢
    rw [List.map_cons, List.cons_append, List.zipWith_cons_cons]
    congr 1
    · rw [List.drop_zero, Nat.sub_zero]
      exact List.take_left
    · rw [← ih]
      have s1 : (w.length + 1) :: ((cutsR c l' 0).map (· + (w.length + 1))).map (· + 1) = (0 :: (cutsR c l' 0).map (· + 1)).map (· + (w.length + 1)) := by
        rw [List.map_cons, Nat.zero_add, List.map_map, List.map_map]
        congr 1
        refine List.map_congr_left fun i _ => ?_
        show i + (w.length + 1) + 1 = i + 1 + (w.length + 1)
        omega
      have s2 : (cutsR c l' 0).map (· + (w.length + 1)) ++ [(w ++ c :: l').length] = (cutsR c l' 0 ++ [l'.length]).map (· + (w.length + 1)) := by
        rw [List.map_append, List.length_append, List.length_cons]
        congr 1
        show [w.length + (l'.length + 1)] = [l'.length + (w.length + 1)]
        congr 1
        omega
      rw [s1, s2, List.zipWith_map]
      congr 1
      funext i j
      rw [Nat.add_sub_add_right]
      have : (w ++ c :: l').drop (i + (w.length + 1)) = l'.drop i := by
        rw [show i + (w.length + 1) = w.length + (1 + i) by omega, ← List.drop_drop, List.drop_left, Nat.add_comm 1 i, List.drop_succ_cons]
      rw [this]
theorem codes_join (c : Nat) : ∀ (ws : List Str) (acc : Array Nat), (ws.foldl (fun acc p => acc ++ (⟨#[c]⟩ : Str).cps ++ p.cps) acc).toList = acc.toList ++ ((ws.map fun p => p.cps.toList).map fun v => c :: v).flatten := by
  intro ws
  induction ws with
  | nil => intro acc; exact (List.append_nil _).symm
  | cons p r ih =>
    intro acc
    rw [List.foldl_cons, ih]
    simp
theorem join_codesC (c : Nat) (w : Str) (ws : List Str) : (Txt.join ⟨#[c]⟩ (w :: ws)).cps.toList = w.cps.toList ++ ((ws.map fun p => p.cps.toList).map fun v => c :: v).flatten := codes_join c ws w.cps
theorem parts_codes (x : Str) (cuts : List Nat) : (partsBetween x cuts 1).map (fun z => z.cps.toList) = pbL x.cps.toList cuts := by
  unfold partsBetween pbL
  rw [List.map_map, List.zip, List.map_zipWith]
  congr 1
  funext i j
  show (x.cps.extract i j).toList = _
  rw [Array.toList_extract]
  try exact List.extract_eq_drop_take
theorem codes_inj {a b : List Str} (h : a.map (fun z => z.cps.toList) = b.map (fun z => z.cps.toList)) : a = b := by
  induction a generalizing b with
  | nil =>
    cases b with
    | nil => rfl
    | cons => cases h
  | cons x r ih =>
    cases b with
    | nil => cases h
    | cons y s =>
      have h1 := List.cons.inj h
      have e : x = y := by
        obtain ⟨x⟩ := x
        obtain ⟨y⟩ := y
        exact congrArg Str.mk (Array.toList_inj.mp h1.1)
      rw [e, ih h1.2]

theorem split_join {c : Nat} {w : Str} {ws : List Str} (hk : strKind (⟨#[c]⟩ : Str) = 1) (hw : ¬ c ∈ w.cps.toList) (h : ∀ v ∈ ws, ¬ c ∈ v.cps.toList) (ne : 1 ≤ (Txt.join ⟨#[c]⟩ (w :: ws)).length) :
    Txt.split (Txt.join ⟨#[c]⟩ (w :: ws)) ⟨#[c]⟩ = w :: ws ∧ partsBetween (Txt.join ⟨#[c]⟩ (w :: ws)) (occurrences (Txt.join ⟨#[c]⟩ (w :: ws)) ⟨#[c]⟩ 0 (Txt.join ⟨#[c]⟩ (w :: ws)).length ((Txt.join ⟨#[c]⟩ (w :: ws)).length + 1)) 1 = w :: ws := by
  have e0 : partsBetween (Txt.join ⟨#[c]⟩ (w :: ws)) (occurrences (Txt.join ⟨#[c]⟩ (w :: ws)) ⟨#[c]⟩ 0 (Txt.join ⟨#[c]⟩ (w :: ws)).length ((Txt.join ⟨#[c]⟩ (w :: ws)).length + 1)) 1 = w :: ws := by
    apply codes_inj
    rw [parts_codes, occ_cuts, join_codesC]
    exact pb_words _ _ hw fun v hv => by
      obtain ⟨u, hu, rfl⟩ := List.mem_map.mp hv
      exact h u hu
  refine ⟨?_, e0⟩
  unfold Txt.split
  have k1 : 1 ≤ strKind (Txt.join ⟨#[c]⟩ (w :: ws)) := by
    unfold Builtin.Str.strKind
    split
    · decide
    · split <;> decide
  have c1 : (decide ((Txt.join ⟨#[c]⟩ (w :: ws)).length < (⟨#[c]⟩ : Str).length) || decide (strKind (Txt.join ⟨#[c]⟩ (w :: ws)) < strKind (⟨#[c]⟩ : Str))) = false := by
    rw [hk, Bool.or_eq_false_iff]
    exact ⟨decide_eq_false (by show ¬ _ < 1; omega), decide_eq_false (by omega)⟩
  rw [if_neg (by rw [c1]; exact Bool.false_ne_true)]
  split
  · rename_i he
    have hn : occurrences (Txt.join ⟨#[c]⟩ (w :: ws)) ⟨#[c]⟩ 0 (Txt.join ⟨#[c]⟩ (w :: ws)).length ((Txt.join ⟨#[c]⟩ (w :: ws)).length + 1) = [] := List.isEmpty_iff.mp he
    rw [hn] at e0
    have e1 : partsBetween (Txt.join ⟨#[c]⟩ (w :: ws)) [] 1 = [strSub (Txt.join ⟨#[c]⟩ (w :: ws)) 0 (Txt.join ⟨#[c]⟩ (w :: ws)).length] := rfl
    refine Eq.trans ?_ (e1.symm.trans e0)
    have : (Txt.join ⟨#[c]⟩ (w :: ws)).cps.extract 0 (Txt.join ⟨#[c]⟩ (w :: ws)).length = (Txt.join ⟨#[c]⟩ (w :: ws)).cps := Array.extract_size
    show [_] = [(⟨_⟩ : Str)]
    rw [this]
  · exact e0
end L2
set_option Elab.async false
set_option linter.all false
set_option maxRecDepth 100000
namespace L2
open PySem PySem.Spec PyProof.Rows

end L2
set_option Elab.async false
set_option linter.all false
set_option maxRecDepth 100000
namespace Pg
open PySem PySem.NumText L2 Builtin Builtin.Str

theorem dv_dg (n : Nat) : digitsVal (dg n) = n := by
  induction n using Nat.strongRecOn with
  | ind n ih =>
    by_cases h : n < 10
    · rw [dg_one h]
      show 0 * 10 + (48 + n - 48) = n
      omega
    · rw [dg_step (by omega), digitsVal_snoc, ih (n / 10) (by omega)]
      omega
theorem dg_first {n : Nat} (h : n ≠ 0) : ∃ c r, dg n = c :: r ∧ c ≠ 48 := by
  induction n using Nat.strongRecOn with
  | ind n ih =>
    by_cases h10 : n < 10
    · exact ⟨48 + n, [], dg_one h10, by omega⟩
    · obtain ⟨c, r, e, ne⟩ := ih (n / 10) (by omega) (by omega)
      exact ⟨c, r ++ [48 + n % 10], by rw [dg_step (by omega), e]; rfl, ne⟩
theorem fig_dg (n : Nat) : figL (dg n) = true := by
  have h := dg_digits n
  have l := dg_len_pos n
  unfold figL
  rw [Bool.and_eq_true]
  constructor
  · cases e : dg n with
    | nil => rw [e] at l; exact absurd l (by decide)
    | cons => rfl
  · rw [List.all_eq_true]
    intro c hc
    have := h c hc
    unfold isF
    rw [decide_eq_true this.1, decide_eq_true this.2]
    rfl
theorem num_dg (n : Nat) : numT0 (dg n) = true := by
  unfold numT0
  rw [fig_dg, Bool.true_and]
  by_cases h : n = 0
  · subst h
    rfl
  · obtain ⟨c, r, e, ne⟩ := dg_first h
    rw [e]
    have : decide ((c :: r).head? = some 48) = false := decide_eq_false fun z => ne (Option.some.inj z)
    rw [this]
    exact Bool.or_true _
theorem int_codes {i : Int} (h : 0 ≤ i) : (toString i : Str).cps.toList = dg i.toNat := by
  obtain ⟨n, rfl⟩ := Int.eq_ofNat_of_zero_le h
  exact numS_codes n
theorem int_text {i : Int} (h : Amt i) : intText? (toString i : Str) = some i := by
  have e := int_codes h.1
  have l := amtT_len h
  rw [intText_digits (by rw [e]; exact dg_digits _) (by rw [e]; intro z; have := dg_len_pos i.toNat; rw [z] at this; exact absurd this (by decide)) (by omega), e, dv_dg]
  congr 1
  have := h.1
  omega
theorem sp1 : (" " : Str) = ⟨#[32]⟩ := by decide +kernel
theorem kind1 {c : Nat} (h : c < 256) : Builtin.Str.strKind (⟨#[c]⟩ : Str) = 1 := by
  unfold Builtin.Str.strKind
  rw [if_pos]
  simp [h]
noncomputable def wordsG : Rk → List Str
  | .bands n ps w => [("bands" : Str), n, bndT ps, w]
  | .ontop n p w r => [("ontop" : Str), n, (toString p : Str), w, ("of" : Str)] ++ wordsG r
  | .flat n a => [("flat" : Str), n, (toString a : Str)]
  | .share n p w => [("share" : Str), n, (toString p : Str), w]
  | .capped n p m w => [("capped" : Str), n, (toString p : Str), (toString m : Str), w]
  | .least n p l w => [("least" : Str), n, (toString p : Str), (toString l : Str), w]
noncomputable def rSplit : V → List V → Hp → VK → Prop := fun x vs H Q => ∃ z y, x = .str z ∧ vs = [.str y] ∧ (y.length == 0) = false ∧ z.length ≤ sizeLine ∧ (partsBetween z (occurrences z y 0 z.length (z.length + 1)) y.length).length ≤ sizeLine ∧ New H (.lst ((Txt.split z y).map V.str)) Q

noncomputable def sp_readN : Sp := fun vs H Q _ => ∃ i, vs = [.str (toString i), .int 13] ∧ Amt i ∧ ∀ H', Same H H' → Q (.int i) H'
noncomputable def sp_numOf : Sp := fun vs H Q _ => ∃ i, vs = [.str (toString i)] ∧ Amt i ∧ ∀ H', Same H H' → Q (.int i) H'
noncomputable def sp_bandOf : Sp := fun vs H Q _ => ∃ q, vs = [.str (bandT q)] ∧ Amt q.1 ∧ Prt q.2 ∧ ∀ t H', Same H H' → H t = none → H' t = some (.tup (cB q)) → Q (.ref t) H'
noncomputable def sp_bandsOf : Sp := fun vs H Q _ => ∃ ps, vs = [.str (bndT ps)] ∧ BdOk ps ∧ ∀ u H', Same H H' → BdsAt H' u ps → Q (.ref u) H'
noncomputable def sp_plainW (K : PySem.W.Frag) (Cs : Nat → Addr) : Sp := fun vs H Q _ => ∃ l r, vs = [.ref l] ∧ SqL K H l ((wordsG r).map V.str) ∧ Gd 0 r ∧ ∀ o H', Same H H' → RoG Cs H' r o → Q o H'
noncomputable def sp_isOn (K : PySem.W.Frag) : Sp := fun vs H Q _ => ∃ l r d, vs = [.ref l] ∧ SqL K H l ((wordsG r).map V.str) ∧ Gd d r ∧ Q (.bl (decide (r.kd = 5))) H
noncomputable def sp_ruleW (K : PySem.W.Frag) (Cs : Nat → Addr) : Nat → Sp
  | 0 => fun _ _ _ _ => False
  | d + 1 => fun vs H Q _ => ∃ l r dp, vs = [.ref l, .int dp] ∧ SqL K H l ((wordsG r).map V.str) ∧ Gd d r ∧ 0 ≤ dp ∧ dp + d ≤ 3 ∧ ∀ o H', Same H H' → RoG Cs H' r o → Q o H'
noncomputable def sp_ruleOf (Cs : Nat → Addr) : Sp := fun vs H Q _ => ∃ r, vs = [.str (rowG r)] ∧ Gd 3 r ∧ ∀ o H', Same H H' → RoG Cs H' r o → Q o H'
end Pg
namespace Pg
open PySem L2
end Pg
namespace Pg
open PySem L2
end Pg
set_option Elab.async false
set_option linter.all false
set_option maxRecDepth 100000
namespace Pg
open PySem PySem.NumText L2 Builtin Builtin.Str

noncomputable def wB (ok : Nat → Bool) (z : Str) : Bool := decide (1 ≤ z.length) && (decide (z.length ≤ 8) && z.cps.toList.all ok)
theorem wB_of {ok : Nat → Bool} {z : Str} (h : WordOk ok z) : wB ok z = true := by
  unfold wB
  rw [decide_eq_true h.lo, decide_eq_true h.hi, h.all]
  rfl

noncomputable def rnk (z : Str) : Option Int := if z.length ≤ 2 ∧ numT0 z.cps.toList = true then some ((digitsVal z.cps.toList : Nat) : Int) else none
noncomputable def pmB (p : Str) (m a : Int) : Bool := wB (inS sgL) p && (decide (0 ≤ m ∧ m ≤ 119999) && decide (0 ≤ a ∧ a ≤ 10000000000))
noncomputable def enB : En → Bool
  | .wage p m r a => pmB p m a && decide (0 ≤ r ∧ r ≤ 99)
  | .extra p m a => pmB p m a
theorem enB_of {e : En} (h : EnOk e) : enB e = true := by
  cases e with
  | wage p m r a =>
    obtain ⟨h1, h2, h3, h4, h5, h6, h7⟩ := h
    show (pmB p m a && decide (0 ≤ r ∧ r ≤ 99)) = true
    unfold pmB
    rw [wB_of h1, decide_eq_true ⟨h2, h3⟩, decide_eq_true ⟨h6, h7⟩, decide_eq_true ⟨h4, h5⟩]
    rfl
  | extra p m a =>
    obtain ⟨h1, h2, h3, h6, h7⟩ := h
    show pmB p m a = true
    unfold pmB
    rw [wB_of h1, decide_eq_true ⟨h2, h3⟩, decide_eq_true ⟨h6, h7⟩]
    rfl
noncomputable def wageO (p : Str) (r m a : Option Int) : Option (Option En) := match r, m, a with
  | some r, some m, some a => some (some (.wage p m r a))
  | _, _, _ => none
noncomputable def extraO (p : Str) (m a : Option Int) : Option (Option En) := match m, a with
  | some m, some a => some (some (.extra p m a))
  | _, _ => none

noncomputable def ewO (ws : List Str) : Option (Option En) := match ws with
  | [k] => if k = "out" then some none else none
  | [k, p, mo, a] => if k = "extra" then extraO p (readM mo) (readL a.cps.toList) else none
  | [k, p, mo, r, a] => if k = "wage" then wageO p (rnk r) (readM mo) (readL a.cps.toList) else none
  | _ => none
noncomputable def thB : Option En → Bool
  | none => true
  | some e => enB e

noncomputable def lnO (ws : List Str) : Option (Str × Option En) := match ws with
  | [] => none
  | m :: rest => match ewO rest with
    | some t => if (wB (inS sgM) m && thB t) = true then some (m, t) else none
    | none => none
noncomputable def rowE : Option En → List Str
  | none => ["out"]
  | some (.wage p m r a) => ["wage", p, monthS m, numS r, toldS a]
  | some (.extra p m a) => ["extra", p, monthS m, toldS a]
noncomputable def lineS (k : Str) (t : Option En) : Str := Txt.join " " (k :: rowE t)

theorem fig_no {l : List Nat} (h : AllDigits l) : ¬ 32 ∈ l := fun m => absurd (h 32 m).1 (by decide)
theorem pad_digits {k : Nat} {l : List Nat} (h : AllDigits l) : AllDigits (padZ k l) := fun c hc => by
  unfold padZ at hc
  rcases List.mem_append.mp hc with z | z
  · rw [(List.mem_replicate.mp z).2]; decide
  · exact h c z
theorem dv_zero (n : Nat) (l : List Nat) : digitsVal (List.replicate n 48 ++ l) = digitsVal l := by
  induction n with
  | zero => rfl
  | succ n ih => rw [List.replicate_succ]; exact ih
theorem dv_pad (k n : Nat) : digitsVal (padZ k (dg n)) = n := by
  unfold padZ
  rw [dv_zero, dv_dg]
theorem month_codes {m : Int} (h0 : 0 ≤ m) : (monthS m).cps.toList = padZ 4 (dg (m / 12).toNat) ++ (45 :: padZ 2 (dg (m % 12 + 1).toNat)) := by
  unfold monthS
  rw [app_codes, app_codes, yearS_codes (mY0 h0), placeS_codes (mP0 m), List.append_assoc]
  rfl
theorem fig_pad (k n : Nat) : figL (padZ k (dg n)) = true := by
  have h := pad_digits (k := k) (dg_digits n)
  unfold figL
  rw [Bool.and_eq_true]
  constructor
  · cases e : padZ k (dg n) with
    | nil =>
      have l := dg_len_pos n
      have : (padZ k (dg n)).length = 0 := by rw [e]; rfl
      unfold padZ at this
      rw [List.length_append] at this
      omega
    | cons => rfl
  · rw [List.all_eq_true]
    intro c hc
    have := h c hc
    unfold isF
    rw [decide_eq_true this.1, decide_eq_true this.2]
    rfl
theorem month_read {m : Int} (h0 : 0 ≤ m) (h1 : m ≤ 119999) : readM (monthS m) = some m := by
  have e := month_codes h0
  have l4 : (padZ 4 (dg (m / 12).toNat)).length = 4 := padZ_len (dg_len_le (by decide) (mL4 (mY1 h1)))
  have l2 : (padZ 2 (dg (m % 12 + 1).toNat)).length = 2 := padZ_len (dg_len_le (by decide) (mL2 (mP1 m)))
  have e4 : (monthS m).cps.toList.take 4 = padZ 4 (dg (m / 12).toNat) := by rw [e, List.take_left' l4]
  have e5 : (monthS m).cps.toList.drop 5 = padZ 2 (dg (m % 12 + 1).toNat) := by
    rw [e, List.drop_append, l4, List.drop_eq_nil_of_le (by omega)]
    rfl
  have ea : (monthS m).cps.toList[4]? = some 45 := by
    rw [e, List.getElem?_append_right (by omega), l4]
    rfl
  have el : (monthS m).cps.toList.length = 7 := by
    rw [e, List.length_append, List.length_cons, l4, l2]
  have hb : mtB (monthS m) = true := by
    unfold mtB
    rw [e4, e5, ea, el, fig_pad, fig_pad]
    rfl
  unfold readM
  rw [e4, e5, dv_pad, dv_pad, if_pos ⟨hb, by omega, by omega⟩]
  congr 1
  omega
theorem told_no {a : Int} (h : 0 ≤ a) : (toldS a).cps.toList = dg (a.toNat / 100) ++ ([46] ++ padZ 2 (dg (a.toNat % 100))) := by
  have e : absI a = a := by unfold absI; rw [if_neg (by omega)]
  have es : (signS a).cps.toList = [] := by unfold signS; rw [if_neg (by omega)]; decide +kernel
  rw [told_codes, e, es, List.nil_append]
theorem dg_head (n : Nat) : ∃ c r, dg n = c :: r ∧ 48 ≤ c ∧ c ≤ 57 := by
  cases e : dg n with
  | nil => have := dg_len_pos n; rw [e] at this; exact absurd this (by decide)
  | cons c r =>
    have := dg_digits n c (by rw [e]; exact List.mem_cons_self)
    exact ⟨c, r, rfl, this.1, this.2⟩
theorem told_read {a : Int} (h0 : 0 ≤ a) (h1 : a ≤ 10000000000) : readL (toldS a).cps.toList = some a := by
  have e := told_no h0
  generalize (toldS a).cps.toList = L at e ⊢
  have l2 : (padZ 2 (dg (a.toNat % 100))).length = 2 := padZ_len (dg_len_le (by decide) (by omega))
  have lh : (dg (a.toNat / 100)).length ≤ 9 := dg_len_le (by decide) (by omega)
  have lp := dg_len_pos (a.toNat / 100)
  obtain ⟨c, r, ed, c0, c1⟩ := dg_head (a.toNat / 100)
  have el : L.length = (dg (a.toNat / 100)).length + 3 := by
    rw [e, List.length_append, List.length_append, l2]
    rfl
  have hh : L.head? ≠ some 45 := by
    rw [e, ed]
    intro z
    have : c = 45 := Option.some.inj z
    omega
  have hu : unS L = L := by unfold unS; rw [if_neg hh]
  have hw : wh L = dg (a.toNat / 100) := by
    unfold wh
    rw [el, Nat.add_sub_cancel, e]
    exact List.take_left
  have h2 : la2 L = padZ 2 (dg (a.toNat % 100)) := by
    unfold la2
    rw [el, e, ← List.append_assoc]
    exact List.drop_left' (by rw [List.length_append]; rfl)
  have hp : L[L.length - 3]? = some 46 := by
    rw [el, Nat.add_sub_cancel, e, List.getElem?_append_right (Nat.le_refl _), Nat.sub_self]
    rfl
  have ok : okU (unS L) = true := by
    rw [hu]
    unfold okU
    rw [hw, h2, hp, num_dg, fig_pad]
    rfl
  have nz : L ≠ zero0 := fun z => hh (by rw [z]; rfl)
  unfold readL
  rw [if_pos ⟨by omega, ok, nz⟩, if_neg hh, hu]
  unfold valU
  rw [hw, h2, dv_dg, dv_pad]
  congr 1
  omega
theorem rank_read {r : Int} (h0 : 0 ≤ r) (h1 : r ≤ 99) : rnk (numS r) = some r := by
  obtain ⟨n, rfl⟩ := Int.eq_ofNat_of_zero_le h0
  have e := numS_codes n
  have l : (dg n).length ≤ 2 := dg_len_le (by decide) (by omega)
  unfold rnk
  rw [e, if_pos ⟨by rw [len_codes, e]; exact l, num_dg n⟩, dv_dg]
theorem line_read {k : Str} {t : Option En} (hk : MrkOk k) (ht : ThOk t) : lnO (k :: rowE t) = some (k, t) := by
  have hm : wB (inS sgM) k = true := wB_of hk
  have hb : thB t = true := by
    cases t with
    | none => rfl
    | some e => exact enB_of ht
  have he : ewO (rowE t) = some t := by
    match t, ht with
    | none, _ =>
      show (if ("out" : Str) = "out" then some none else none) = _
      exact if_pos rfl
    | some (.wage p m r a), ht =>
      obtain ⟨h1, h2, h3, h4, h5, h6, h7⟩ := ht
      show (if ("wage" : Str) = "wage" then wageO p (rnk (numS r)) (readM (monthS m)) (readL (toldS a).cps.toList) else none) = _
      rw [if_pos rfl, rank_read h4 h5, month_read h2 h3, told_read h6 h7]
      rfl
    | some (.extra p m a), ht =>
      obtain ⟨h1, h2, h3, h6, h7⟩ := ht
      show (if ("extra" : Str) = "extra" then extraO p (readM (monthS m)) (readL (toldS a).cps.toList) else none) = _
      rw [if_pos rfl, month_read h2 h3, told_read h6 h7]
      rfl
  show (match ewO (rowE t) with
    | some t => if (wB (inS sgM) k && thB t) = true then some (k, t) else none
    | none => none) = _
  rw [he]
  dsimp only
  rw [hm, hb]
  rfl
theorem in_no {sg : Str} (h : sg.cps.toList.contains 32 = false) {z : Str} (hz : WordOk (inS sg) z) : ¬ 32 ∈ z.cps.toList := fun m => by
  have := List.all_eq_true.mp hz.all 32 m
  unfold inS at this
  rw [h] at this
  cases this
theorem row_no {t : Option En} (ht : ThOk t) : ∀ v ∈ rowE t, ¬ 32 ∈ v.cps.toList := by
  have pd : ∀ {m : Int}, 0 ≤ m → ¬ 32 ∈ (monthS m).cps.toList := fun {m} h0 z => by
    rw [month_codes h0] at z
    rcases List.mem_append.mp z with z | z
    · exact fig_no (pad_digits (dg_digits _)) z
    · rcases List.mem_cons.mp z with z | z
      · exact absurd z (by decide)
      · exact fig_no (pad_digits (dg_digits _)) z
  have td : ∀ {a : Int}, 0 ≤ a → ¬ 32 ∈ (toldS a).cps.toList := fun {a} h0 z => by
    rw [told_no h0] at z
    rcases List.mem_append.mp z with z | z
    · exact fig_no (dg_digits _) z
    · rcases List.mem_append.mp z with z | z
      · exact absurd (List.mem_singleton.mp z) (by decide)
      · exact fig_no (pad_digits (dg_digits _)) z
  have nd : ∀ {r : Int}, 0 ≤ r → ¬ 32 ∈ (numS r).cps.toList := fun {r} h0 z => by
    obtain ⟨n, rfl⟩ := Int.eq_ofNat_of_zero_le h0
    rw [numS_codes] at z
    exact fig_no (dg_digits _) z
  have nl : sgL.cps.toList.contains 32 = false := by decide +kernel
  match t, ht with
  | none, _ =>
    intro v hv
    rw [List.mem_singleton.mp hv]
    decide +kernel
  | some (.wage p m r a), ht =>
    obtain ⟨h1, h2, h3, h4, h5, h6, h7⟩ := ht
    intro v hv
    simp only [rowE, List.mem_cons, List.not_mem_nil, or_false] at hv
    rcases hv with rfl | rfl | rfl | rfl | rfl
    · decide +kernel
    · exact in_no nl h1
    · exact pd h2
    · exact nd h4
    · exact td h6
  | some (.extra p m a), ht =>
    obtain ⟨h1, h2, h3, h6, h7⟩ := ht
    intro v hv
    simp only [rowE, List.mem_cons, List.not_mem_nil, or_false] at hv
    rcases hv with rfl | rfl | rfl | rfl
    · decide +kernel
    · exact in_no nl h1
    · exact pd h2
    · exact td h6
theorem line_split {k : Str} {t : Option En} (hk : MrkOk k) (ht : ThOk t) : Txt.split (lineS k t) " " = k :: rowE t := by
  unfold lineS
  rw [sp1]
  refine (split_join (kind1 (by decide)) (in_no (by decide +kernel) hk) (row_no ht) ?_).1
  rw [len_codes, join_codesC, List.length_append, ← len_codes]
  have := hk.lo
  omega

theorem dv_fold (l : List Nat) (h : AllDigits l) (acc : Nat) : l.foldl (fun acc c => acc * 10 + (c - 48)) acc < (acc + 1) * 10 ^ l.length := by
  induction l generalizing acc with
  | nil => rw [List.foldl_nil, List.length_nil, Nat.pow_zero, Nat.mul_one]; exact Nat.lt_succ_self _
  | cons c l ih =>
    have hc := h c List.mem_cons_self
    have := ih (fun d hd => h d (List.mem_cons_of_mem _ hd)) (acc * 10 + (c - 48))
    rw [List.foldl_cons, List.length_cons, Nat.pow_succ, Nat.mul_comm (10 ^ l.length), ← Nat.mul_assoc]
    exact Nat.lt_of_lt_of_le this (Nat.mul_le_mul_right _ (by omega))
theorem dv_lt {l : List Nat} (h : AllDigits l) : digitsVal l < 10 ^ l.length := by
  have := dv_fold l h 0
  rwa [Nat.zero_add, Nat.one_mul] at this
theorem readM_in {z : Str} {m : Int} (h : readM z = some m) : 0 ≤ m ∧ m ≤ 119999 := by
  unfold readM at h
  split at h
  case isFalse => cases h
  case isTrue c =>
    obtain ⟨c1, c2, c3⟩ := c
    unfold mtB at c1
    rw [Bool.and_eq_true, Bool.and_eq_true] at c1
    have l7 := of_decide_eq_true c1.1
    have f4 := dv_lt (figL_digits c1.2.1).1
    rw [List.length_take, l7] at f4
    have f4 : digitsVal (z.cps.toList.take 4) < 10 ^ 4 := f4
    cases h
    constructor <;> omega
theorem num_back {l : List Nat} (h : numT0 l = true) (l2 : l.length ≤ 2) : l = dg (digitsVal l) ∧ digitsVal l ≤ 99 := by
  unfold numT0 at h
  rw [Bool.and_eq_true] at h
  obtain ⟨hd, ne⟩ := figL_digits h.1
  have lt : digitsVal l ≤ 99 := by
    have := dv_lt hd
    have : 10 ^ l.length ≤ 10 ^ 2 := Nat.pow_le_pow_right (by decide) l2
    omega
  refine ⟨?_, lt⟩
  match l, ne, l2 with
  | [c], _, _ =>
    have := hd c List.mem_cons_self
    show [c] = dg (0 * 10 + (c - 48))
    rw [dg_one (by omega)]
    congr 1
    omega
  | [c, d], _, _ =>
    have hc := hd c List.mem_cons_self
    have hd' := hd d (List.mem_cons_of_mem _ List.mem_cons_self)
    have c48 : c ≠ 48 := fun z => by
      have := h.2
      rw [z] at this
      simp at this
    have e : digitsVal [c, d] = (c - 48) * 10 + (d - 48) := by
      show (0 * 10 + (c - 48)) * 10 + (d - 48) = _
      omega
    rw [e, dg_step (by omega), show ((c - 48) * 10 + (d - 48)) / 10 = c - 48 by omega, dg_one (by omega), show ((c - 48) * 10 + (d - 48)) % 10 = d - 48 by omega]
    show [c, d] = [48 + (c - 48), 48 + (d - 48)]
    rw [show 48 + (c - 48) = c by omega, show 48 + (d - 48) = d by omega]
theorem str_codes {a b : Str} (h : a.cps.toList = b.cps.toList) : a = b := by
  have := codes_inj (a := [a]) (b := [b]) (by rw [List.map_cons, List.map_cons, h])
  exact (List.cons.inj this).1
theorem rnk_some {z : Str} {v : Int} (h : rnk z = some v) : ∃ n : Nat, n ≤ 99 ∧ v = (n : Nat) ∧ z = numS (n : Nat) := by
  unfold rnk at h
  split at h
  case isFalse => cases h
  case isTrue c =>
    obtain ⟨e, l⟩ := num_back c.2 (by rw [← len_codes]; exact c.1)
    cases h
    exact ⟨_, l, rfl, str_codes (by rw [numS_codes]; exact e)⟩
noncomputable def ranks : List Str := (List.range 100).map fun n => numS (n : Nat)
theorem rnk_in (z : Str) : ranks.contains z = (rnk z).isSome := by
  cases h : rnk z with
  | some v =>
    obtain ⟨n, n99, _, rfl⟩ := rnk_some h
    exact List.contains_iff_mem.mpr (List.mem_map.mpr ⟨n, List.mem_range.mpr (by omega), rfl⟩)
  | none =>
    refine Bool.eq_false_iff.mpr fun c => ?_
    obtain ⟨n, hn, e⟩ := List.mem_map.mp (List.contains_iff_mem.mp c)
    rw [← e, rank_read (by omega) (by have := List.mem_range.mp hn; omega)] at h
    cases h
end Pg
set_option Elab.async false
set_option linter.all false
set_option maxRecDepth 100000
namespace Pg
open PySem PySem.NumText L2 Builtin Builtin.Str

noncomputable def sp_wdB : Sp := fun vs H Q _ => ∃ z sg ok, vs = [.str z, .str sg] ∧ Alph sg ok ∧ z.length ≤ 100000 ∧ ∀ H', Same H H' → Q (.bl (wB ok z)) H'
noncomputable def sp_nmB2 : Sp := fun vs H Q _ => ∃ z, vs = [.str z] ∧ z.length ≤ 100000 ∧ ∀ H', Same H H' → Q (.bl (wB (inS sgL) z)) H'
noncomputable def sp_mkB2 : Sp := fun vs H Q _ => ∃ z, vs = [.str z] ∧ z.length ≤ 100000 ∧ ∀ H', Same H H' → Q (.bl (wB (inS sgM) z)) H'
noncomputable def pmE : En → Bool
  | .wage p m _ a => pmB p m a
  | .extra p m a => pmB p m a
noncomputable def sp_pmaB : Sp := fun vs H Q _ => ∃ (a : Addr) (e : En), vs = [.ref a] ∧ H a = some (.tup (cE e)) ∧ e.who.length ≤ 100000 ∧ ∀ H', Same H H' → Q (.bl (pmE e)) H'
noncomputable def sp_isEnB : Sp := fun vs H Q _ => ∃ (a : Addr) (e : En), vs = [.ref a] ∧ H a = some (.tup (cE e)) ∧ e.who.length ≤ 100000 ∧ ∀ H', Same H H' → Q (.bl (enB e)) H'
noncomputable def sp_rdN (cT : Addr) : Sp := fun vs H Q E => ∃ z, vs = [.str z, .int 2] ∧ z.length ≤ 100000 ∧ ∀ H', Same H H' → (∀ r, rnk z = some r → Q (.int r) H') ∧ (rnk z = none → E (.ref cT) none H')
noncomputable def WdsAt (H : Hp) (l : Addr) (ws : List Str) : Prop := H l = some (.lst (ws.map V.str)) ∧ ws.length ≤ 100002 ∧ ∀ w ∈ ws, w.length ≤ 100000
noncomputable def sp_ew (cT cL : Addr) : Sp := fun vs H Q E => ∃ l ws, vs = [.ref l] ∧ WdsAt H l ws ∧ ∀ H', Same H H' → (∀ t v, ewO ws = some t → ThAt H' v t → Q v H') ∧ (ewO ws = none → E (.ref cT) none H' ∧ E (.ref cL) none H')
noncomputable def LnAt (H : Hp) (l : Addr) (m : Str) (t : Option En) : Prop := ∃ v, H l = some (.tup [.str m, v]) ∧ ThAt H v t
noncomputable def sp_eof (K : PySem.W.Frag) (cL : Addr) : Sp := fun vs H Q E => ∃ v, vs = [v] ∧ ((NoStr K H v ∧ E (.ref cL) none H) ∨ ∃ z, v = .str z ∧ z.length ≤ 50000 ∧ ∀ H', Same H H' → (∀ m t l, lnO (Txt.split z " ") = some (m, t) → LnAt H' l m t → Q (.ref l) H') ∧ (lnO (Txt.split z " ") = none → E (.ref cL) none H'))
noncomputable def sp_lineO : Sp := fun vs H Q _ => ∃ k v t, vs = [.str k, v] ∧ MrkOk k ∧ ThAt H v t ∧ ThOk t ∧ ∀ H', Same H H' → Q (.str (lineS k t)) H'
noncomputable def sp_lineL : Sp := sp_lineO
noncomputable def sp_wordL : Sp := fun vs H Q _ => ∃ n sg ok, vs = [.int n, .str sg] ∧ 0 ≤ n ∧ n < 2147483629 ∧ Alph sg ok ∧ ∀ z, WordOk ok z → Q (.str z) H
noncomputable def sp_entL (K : PySem.W.Frag) : Sp := fun vs H Q _ => ∃ (a : Addr) (k : Nat) (ns : List Int), vs = [.ref a, .int (k : Nat)] ∧ SqL K H a (ns.map V.int) ∧ k ≤ 100 ∧ ∀ m t l H', MrkOk m → ThOk t → Same H H' → LnAt H' l m t → Q (.ref l) H'
noncomputable def sp_isOf : Sp := sp_wdB
noncomputable def sp_dueL : Sp := fun vs H Q _ => ∃ z, vs = [.str z] ∧ z.length ≤ 50000 ∧ ∀ H', Same H H' → (∀ m t l, lnO (Txt.split z " ") = some (m, t) → LnAt H' l m t → Q (.ref l) H') ∧ (lnO (Txt.split z " ") = none → Q .non H')
noncomputable def sp_bentN : Sp := fun vs H Q _ => ∃ z y n, vs = [.str z, .int n, .str y] ∧ z.length ≤ 100 ∧ y.length ≤ 100 ∧ (Txt.split z " ").length ≤ 6 ∧ 0 ≤ n ∧ ∀ x H', x.length ≤ 50000 → Same H H' → Q (.str x) H'
noncomputable def sp_lread (K : PySem.W.Frag) : Sp := fun vs H Q _ => ∃ v, vs = [v] ∧ ((NoStr K H v ∧ ∀ l H', Same H H' → H' l = some (.lst (kWord 14)) → Q (.ref l) H') ∨ ∃ z, v = .str z ∧ z.length ≤ 50000 ∧ ∀ H', Same H H' → (∀ m t l, lnO (Txt.split z " ") = some (m, t) → LnAt H' l m t → Q (.ref l) H') ∧ (lnO (Txt.split z " ") = none → ∀ l, H' l = some (.lst (kWord 14)) → Q (.ref l) H'))
noncomputable def sp_isEnt : Sp := fun vs H Q _ => ∃ a b m t, vs = [.ref a, .ref b] ∧ LnAt H a m t ∧ LnAt H b m t ∧ ∀ H', Same H H' → Q (.bl true) H'
theorem LnAt.same {H H' : Hp} {l : Addr} {m : Str} {t : Option En} (s : Same H H') (h : LnAt H l m t) : LnAt H' l m t := by
  obtain ⟨v, h1, h2⟩ := h
  exact ⟨v, s _ _ h1, thUp _ _ _ _ (FT.same s) h2⟩
theorem ThAt.same {H H' : Hp} {v : V} {t : Option En} (s : Same H H') (h : ThAt H v t) : ThAt H' v t := thUp _ _ _ _ (FT.same s) h

theorem strSub_len (x : Str) (i j : Nat) : (strSub x i j).length ≤ x.length := by
  unfold strSub
  show (x.cps.extract i j).size ≤ x.cps.size
  rw [Array.size_extract]
  omega
theorem split_wds (z : Str) : (Txt.split z " ").length ≤ z.length + 2 ∧ (∀ w ∈ Txt.split z " ", w.length ≤ z.length) ∧ ∃ w ws, Txt.split z " " = w :: ws := by
  have pb : ∀ cuts : List Nat, ∀ w ∈ partsBetween z cuts (" " : Str).length, w.length ≤ z.length := fun cuts w hw => by
    unfold partsBetween at hw
    obtain ⟨p, _, rfl⟩ := List.mem_map.mp hw
    exact strSub_len _ _ _
  unfold Txt.split
  split
  · exact ⟨by rw [List.length_singleton]; omega, fun w hw => by rw [List.mem_singleton.mp hw]; exact Nat.le_refl _, z, [], rfl⟩
  · split
    · exact ⟨by rw [List.length_singleton]; omega, fun w hw => by rw [List.mem_singleton.mp hw]; exact Nat.le_refl _, z, [], rfl⟩
    · refine ⟨?_, pb _, ?_⟩
      · rw [length_partsBetween]
        have := StrLaws.occ_length_le z " " 0 z.length (z.length + 1)
        omega
      · cases e : partsBetween z (occurrences z " " 0 z.length (z.length + 1)) (" " : Str).length with
        | nil =>
          have := length_partsBetween z (occurrences z " " 0 z.length (z.length + 1)) (" " : Str).length
          rw [e] at this
          cases this
        | cons w ws => exact ⟨w, ws, rfl⟩
theorem split_fit {z : Str} (h : z.length ≤ 50000) : (partsBetween z (occurrences z " " 0 z.length (z.length + 1)) (" " : Str).length).length ≤ sizeLine := by
  rw [length_partsBetween, sizeLine_eq]
  have := StrLaws.occ_length_le z " " 0 z.length (z.length + 1)
  omega

theorem eqV_str (a b : Str) : eqV (.str a) (.str b) = decide (a = b) := by
  unfold eqV
  first | rfl | (rw [Bool.eq_iff_iff]; simp)
theorem eq_one (ws : List Str) (u : Str) : eqVs (ws.map V.str) [.str u] = decide (ws = [u]) := by
  unfold eqVs
  match ws with
  | [] => rw [decide_eq_false (by intro z; cases z)]; rfl
  | [w] =>
    show (true && (eqV (.str w) (.str u) && true)) = _
    rw [eqV_str, Bool.true_and, Bool.and_true]
    by_cases h : w = u
    · rw [decide_eq_true h, decide_eq_true (by rw [h])]
    · rw [decide_eq_false h, decide_eq_false fun z => h (List.cons.inj z).1]
  | w :: v :: r =>
    rw [decide_eq_false (by intro z; cases z)]
    have : (((w :: v :: r).map V.str).length == [V.str u].length) = false := by
      rw [List.length_map]
      exact beq_eq_false_iff_ne.mpr (by simp)
    rw [this]
    rfl
theorem cut1 (ws : List Str) : cutV (ws.map V.str) none (some (1 : Int)) = (ws.take 1).map V.str := by
  unfold cutV
  rw [HT.sIx_none, List.drop_zero, show (1 : Int) = ((1 : Nat) : Int) from rfl, HT.sIx_nat, Nat.sub_zero, List.length_map, ← List.map_take]
  congr 1
  cases ws with
  | nil => rfl
  | cons w r =>
    rw [List.length_cons, Nat.min_eq_left (by omega)]
theorem cut1t (ws : List Str) : cutV (ws.map V.str) (some (1 : Int)) none = (ws.drop 1).map V.str := by
  unfold cutV
  cases ws with
  | nil => rfl
  | cons w r =>
    rw [HT.sIx_none, show (1 : Int) = ((1 : Nat) : Int) from rfl, HT.sIx_nat, List.length_map, List.length_cons, Nat.min_eq_left (by omega), ← List.map_drop, List.take_of_length_le (by rw [List.length_map]; simp)]
theorem str_flat (ws : List Str) : (ws.map V.str).all flatV = true := by
  rw [List.all_map]
  exact List.all_eq_true.mpr fun _ _ => rfl
theorem ew_out : ewO [("out" : Str)] = some none := by
  show (if ("out" : Str) = "out" then some none else none) = _
  exact if_pos rfl
theorem ew_wage (p mo r a : Str) : ewO [("wage" : Str), p, mo, r, a] = wageO p (rnk r) (readM mo) (readL a.cps.toList) := by
  show (if ("wage" : Str) = "wage" then wageO p (rnk r) (readM mo) (readL a.cps.toList) else none) = _
  exact if_pos rfl
theorem ew_extra (p mo a : Str) : ewO [("extra" : Str), p, mo, a] = extraO p (readM mo) (readL a.cps.toList) := by
  show (if ("extra" : Str) = "extra" then extraO p (readM mo) (readL a.cps.toList) else none) = _
  exact if_pos rfl
theorem ew_none {ws : List Str} (h1 : ws ≠ ([("out" : Str)] : List Str)) (h2 : ¬ (ws.take 1 = ([("wage" : Str)] : List Str) ∧ ws.length = 5)) (h3 : ¬ (ws.take 1 = ([("extra" : Str)] : List Str) ∧ ws.length = 4)) : ewO ws = none := by
  unfold ewO
  split
  · rename_i k
    exact if_neg fun z => h1 (by rw [z])
  · rename_i k p mo a
    exact if_neg fun z => h3 ⟨by rw [z]; rfl, rfl⟩
  · rename_i k p mo r a
    exact if_neg fun z => h2 ⟨by rw [z]; rfl, rfl⟩
  · rfl
theorem ew_who {ws : List Str} {e : En} (h : ewO ws = some (some e)) : e.who ∈ ws := by
  unfold ewO at h
  split at h
  · split at h <;> cases h
  · rename_i k p mo a
    split at h
    · unfold extraO at h
      split at h
      · cases h
        simp [En.who]
      · cases h
    · cases h
  · rename_i k p mo r a
    split at h
    · unfold wageO at h
      split at h
      · cases h
        simp [En.who]
      · cases h
    · cases h
  · cases h
theorem is5 {ws : List Str} {k : Str} (h : ws.take 1 = [k]) (l : ws.length = 5) : ∃ p mo r a, ws = [k, p, mo, r, a] := by
  match ws, l with
  | [w, p, mo, r, a], _ =>
    cases h
    exact ⟨p, mo, r, a, rfl⟩
theorem is4 {ws : List Str} {k : Str} (h : ws.take 1 = [k]) (l : ws.length = 4) : ∃ p mo a, ws = [k, p, mo, a] := by
  match ws, l with
  | [w, p, mo, a], _ =>
    cases h
    exact ⟨p, mo, a, rfl⟩
end Pg
set_option Elab.async false
set_option linter.all false
set_option maxRecDepth 100000
set_option maxHeartbeats 4000000
namespace K28
open PySem PySem.NumText L2 Pg
seal PE PA PT PW PS PSs PG PGs PI PIf PO PK
section
variable {P : Program} {w : World} {K : PySem.W.Frag} {mg : Str → Option Value} {base : Heap} {f : Addr} {fd : FuncData} {d : Nat → Addr} {cR : Addr}
theorem ok_wdB (F : Fun K "is_word_of" "is_word_of" (top 25) f fd) (G : Glb mg) (N1 : Num mg "MOST_SIGNS_names" 8) : FnOk P w K mg base CX0 1 f fd ["thing", "signs"] sp_wdB := by
  obtain ⟨tm, hm⟩ := N1
  have nc : (["sign", "signs"] : List Str).Nodup := by decide +kernel
  refine F.ok (N := ["thing", "signs"]) ⟨rfl, rfl, rfl, by decide +kernel, rfl, by decide +kernel, by decide +kernel⟩ (fun vs H Q E h => ?_) (fun cdv A outer s H vs Q E hr h => ?_)
  · obtain ⟨z, sg, ok, rfl, _⟩ := h
    rfl
  · obtain ⟨z, sg, ok, rfl, al, hz, q⟩ := h
    have fit : z.length ≤ sizeLine := fitS hz rfl
    refine' ⟨_, (pss_cons (ps_if (pt_not (pt_val (pe_callB call_isinst rfl G.isinstance boot_isinstance (pa_cons (pv 0) (pa_cons (pe_bltn (v := .ty "str") rfl G.str boot_str rfl) pa_nil))))) (pss_one (ps_ret pe_bl)) pss_nil)
        (pss_cons (ps_if (PW.pt (pw_or (pt_cmpR op_lt (pe_callB call_len_str rfl G.len boot_len (pa_cons (pv 0) pa_nil)) pe_int (nomark _)) (pw_or1 (pt_cmpR op_gt (pe_callB call_len_str rfl G.len boot_len (pa_cons (pv 0) pa_nil)) (pe_glob (v := .int 8) rfl hm ⟨_, rfl⟩) (nomark _))))) (pss_one (ps_ret pe_bl)) pss_nil)
        (pss_one (ps_ret (pe_callB (call_allL rfl) rfl G.all boot_all (pa_cons ?comp pa_nil)))))), ?main⟩
    case comp =>
      refine' pe_compI (Nc := ["sign", "signs"]) (cl := [("signs", s.heap.objs.size + 1)]) (src := [none, some 1]) (wi := iStr (tVar 0)) (g := gName 0) (tt := tNoIf) (te := tOp (fun x y H Q => ∃ i j, x = .str i ∧ y = .str j ∧ Q (.bl (!(Builtin.Str.occurrences j i 0 j.length 1).isEmpty)) H) (tVar 0) (tVar 1)) ⟨rfl, rfl, by decide +kernel, by decide +kernel, sub_of (sub1 rfl), has_of (by rfl), frm_none (frm_some ⟨_, rfl, rfl, rfl, rfl⟩ frm_nil), rfl⟩ rfl (pi_str (pv 0)) ?hb
      case hb =>
        intro fp C' s' H'
        exact ⟨pg_name (i := 0) nc rfl (Or.inl rfl), pif_nil, pe_cmpR op_in_str (pv 0) (pv 1) (by rfl)⟩
    refine ⟨_, rfl, _, _, _, _, true, rfl, rfl, .inl (.str z), rfl, true, rfl, iteF ?_⟩
    refine ⟨_, rfl, z, rfl, fit, _, _, rfl, rfl, _, rfl, ite2 (fun e => iteT ?_) (fun e => ⟨_, rfl, z, rfl, fit, _, _, rfl, rfl, _, rfl, ite2 (fun e2 => ?_) (fun e2 => ?_)⟩)⟩
    · have e := of_decide_eq_true e
      have nb : wB ok z = false := by unfold wB; rw [decide_eq_false (show ¬ 1 ≤ z.length by omega)]; rfl
      rw [nb] at q
      exact q H (Same.refl _)
    · have e2 := of_decide_eq_true e2
      have nb : wB ok z = false := by unfold wB; rw [decide_eq_false (show ¬ z.length ≤ 8 by omega), Bool.false_and, Bool.and_false]
      rw [nb] at q
      exact q H (Same.refl _)
    have l1 : 1 ≤ z.length := by
      have e : ¬ ((z.length : Nat) : Int) < 1 := fun c => e (decide_eq_true c)
      omega
    have l8 : z.length ≤ 8 := by
      have e2 : ¬ (8 : Int) < ((z.length : Nat) : Int) := fun c => e2 (decide_eq_true c)
      omega
    refine ⟨_, rfl, z, rfl, fun D hD => ?_⟩
    refine comp_fm (walk_str (z := z)) hD (by rw [List.length_map, ← len_codes, sizeLine_eq]; omega) (fun _ => true) (fun x => match x with | .str y => .bl (ok (y.cps.getD 0 0)) | v => v) (fun x _ H' R _ r => r) (fun x hx _ H' R _ r => ?_) ?_
    · obtain ⟨c, _, rfl⟩ := List.mem_map.mp hx
      refine ⟨_, rfl, _, rfl, _, _, rfl, rfl, ?_⟩
      rw [al.in_]
      exact r
    · rw [List.filter_eq_self.mpr fun _ _ => rfl, List.map_map]
      refine ⟨D, z.cps.toList.map ok, rfl, SqL.of (by rw [List.map_map]; exact upd_same), ?_⟩
      have e2 : (z.cps.toList.map ok).all id = wB ok z := by
        unfold wB
        rw [List.all_map, decide_eq_true l1, decide_eq_true l8]
        rfl
      rw [e2]
      exact q _ (Same.upd hD)
theorem ok_nmB2 (F : Fun K "is_name" "is_name" (top 26) f fd) (N1 : Txt mg "LETTERS" "abcdefghijklmnopqrstuvwxyz") (C1 : Cal P w K mg base CX0 1 "is_word_of" ["thing", "signs"] sp_wdB) : FnOk P w K mg base CX0 2 f fd ["thing"] sp_nmB2 := by
  obtain ⟨tm, hm⟩ := N1
  refine F.ok (N := ["thing"]) ⟨rfl, rfl, rfl, by decide +kernel, rfl, by decide +kernel, by decide +kernel⟩ (fun vs H Q E h => ?_) (fun cdv A outer s H vs Q E hr h => ?_)
  · obtain ⟨z, rfl, _⟩ := h
    rfl
  · obtain ⟨z, rfl, hz, q⟩ := h
    exact ⟨_, pss_one (ps_ret (pe_cal C1 hr (by decide) pass0 (pa_cons (pv 0) (pa_cons (pe_glob (v := .str "abcdefghijklmnopqrstuvwxyz") rfl hm ⟨_, rfl⟩) pa_nil)))), _, rfl, z, _, _, rfl, alL, hz, q⟩
theorem sgM_e2 : ("abcdefghijklmnopqrstuvwxyz" : Str) ++ ("0123456789" : Str) = sgM := by decide +kernel
theorem ok_mkB2 (F : Fun K "is_mark" "is_mark" (top 27) f fd) (N1 : Txt mg "LETTERS" "abcdefghijklmnopqrstuvwxyz") (N2 : Txt mg "FIGURES" "0123456789") (C1 : Cal P w K mg base CX0 1 "is_word_of" ["thing", "signs"] sp_wdB) : FnOk P w K mg base CX0 2 f fd ["thing"] sp_mkB2 := by
  obtain ⟨tm, hm⟩ := N1
  obtain ⟨tn, hn⟩ := N2
  refine F.ok (N := ["thing"]) ⟨rfl, rfl, rfl, by decide +kernel, rfl, by decide +kernel, by decide +kernel⟩ (fun vs H Q E h => ?_) (fun cdv A outer s H vs Q E hr h => ?_)
  · obtain ⟨z, rfl, _⟩ := h
    rfl
  · obtain ⟨z, rfl, hz, q⟩ := h
    refine ⟨_, pss_one (ps_ret (pe_cal C1 hr (by decide) pass0 (pa_cons (pv 0) (pa_cons (pe_op op_add_str (pe_glob (v := .str "abcdefghijklmnopqrstuvwxyz") rfl hm ⟨_, rfl⟩) (pe_glob (v := .str "0123456789") rfl hn ⟨_, rfl⟩)) pa_nil)))), ?_⟩
    refine ⟨_, rfl, _, _, rfl, rfl, ?_, z, sgM, _, ?_, alM, hz, q⟩
    · decide +kernel
    · rw [sgM_e2]
end
end K28
set_option Elab.async false
set_option linter.all false
set_option maxRecDepth 100000
set_option maxHeartbeats 4000000
namespace K28
open PySem PySem.NumText L2 Pg
seal PE PA PT PW PS PSs PG PGs PI PIf PO PK
section
variable {P : Program} {w : World} {K : PySem.W.Frag} {mg : Str → Option Value} {base : Heap} {f : Addr} {fd : FuncData} {d : Nat → Addr} {cR : Addr}
theorem ok_begins (F : Fun K "begins_with" "begins_with" (top 52) f fd) (G : Glb mg) : FnOk P w K mg base CX0 1 f fd ["thing", "word", "length"] sp_begins := by
  refine F.ok (N := ["thing", "word", "length"]) ⟨rfl, rfl, rfl, by decide +kernel, rfl, by decide +kernel, by decide +kernel⟩ (fun vs H Q E h => ?_) (fun cdv A outer s H vs Q E hr h => ?_)
  · obtain ⟨a, e, z, n, rfl, _⟩ := h
    rfl
  · obtain ⟨a, e, z, n, rfl, ha, q⟩ := h
    refine ⟨_, pss_cons (ps_if (PW.pt (pw_or (pt_not (pt_val (pe_callB call_isinst rfl G.isinstance boot_isinstance (pa_cons (pv 0) (pa_cons (pe_bltn (v := .ty "tuple") rfl G.tuple boot_tuple rfl) pa_nil))))) (pw_or1 (pt_cmpR op_ne (pe_callB call_len_seq rfl G.len boot_len (pa_cons (pv 0) pa_nil)) (pv 2) (nomark _))))) (pss_one (ps_ret pe_bl)) pss_nil)
        (pss_one (ps_ret (pe_and (pe_callB call_isinst rfl G.isinstance boot_isinstance (pa_cons (pe_at ix_tup (pv 0) pe_int) (pa_cons (pe_bltn (v := .ty "str") rfl G.str boot_str rfl) pa_nil))) (pe_one (pe_cmpR op_eq (pe_at ix_tup (pv 0) pe_int) (pv 1) (nomark _)))))), ?_⟩
    have h0 : atI (cE e) 0 = some (.str (kindS e)) := by cases e <;> rfl
    refine ⟨_, rfl, _, _, _, _, true, rfl, rfl, .inl (.tup ha), rfl, true, rfl, iteF ?_⟩
    refine ⟨_, rfl, a, _, rfl, .inr (SqT.of ha), _, rfl, rfl, _, rfl, ite2 (fun e1 => ?_) (fun e1 => ?_)⟩
    · have e1 : ¬ (V.int ((cE e).length : Int)) = V.int n := by simpa using e1
      have e2 : decide (((cE e).length : Int) = n) = false := decide_eq_false fun c => e1 (by rw [c])
      rw [e2] at q
      exact q
    · have e1 : (V.int ((cE e).length : Int)) = V.int n := by simpa using e1
      have e1 : ((cE e).length : Int) = n := by injection e1
      rw [decide_eq_true e1] at q
      refine ⟨_, rfl, a, _, _, _, rfl, rfl, SqT.of ha, h0, _, _, _, _, true, rfl, rfl, .inl (.str _), rfl, true, rfl, iteT ⟨_, rfl, a, _, _, _, rfl, rfl, SqT.of ha, h0, _, rfl, rfl, ?_⟩⟩
      by_cases c : kindS e = z
      · subst c
        rw [decide_eq_true rfl] at q
        show Q (.bl (decide (V.str (kindS e) = V.str (kindS e)))) H
        rw [decide_eq_true rfl]
        exact q
      · rw [decide_eq_false c] at q
        show Q (.bl (decide (V.str (kindS e) = V.str z))) H
        rw [decide_eq_false fun x => c (by injection x)]
        exact q
theorem ok_pmaB (F : Fun K "has_person_month_amount" "has_person_month_amount" (top 53) f fd) (N1 : Num mg "LAST_MONTH" 119999) (N2 : Num mg "MOST_AMOUNT" 10000000000) (C1 : Cal P w K mg base CX0 2 "is_name" ["thing"] sp_nmB2) (C2 : Cal P w K mg base CX0 2 "is_number_within" ["thing", "least", "most"] (sp_within K)) : FnOk P w K mg base CX0 3 f fd ["entry"] sp_pmaB := by
  obtain ⟨t1, h1⟩ := N1
  obtain ⟨t2, h2⟩ := N2
  refine F.ok (N := ["entry"]) ⟨rfl, rfl, rfl, by decide +kernel, rfl, by decide +kernel, by decide +kernel⟩ (fun vs H Q E h => ?_) (fun cdv A outer s H vs Q E hr h => ?_)
  · obtain ⟨a, e, rfl, _⟩ := h
    rfl
  · obtain ⟨a, e, rfl, ha, ok, q⟩ := h
    refine ⟨_, pss_cons (ps_if (PW.pt (pw_or (pt_not (pt_val (pe_cal C1 hr (by decide) pass0 (pa_cons (pe_at ix_tup (pv 0) pe_int) pa_nil)))) (pw_or1 (pt_not (pt_val (pe_cal C2 hr (by decide) pass0 (pa_cons (pe_at ix_tup (pv 0) pe_int) (pa_cons pe_int (pa_cons (pe_glob (v := .int 119999) rfl h1 ⟨_, rfl⟩) pa_nil))))))))) (pss_one (ps_ret pe_bl)) pss_nil)
        (pss_one (ps_ret (pe_cal C2 hr (by decide) pass0 (pa_cons (pe_at ix_tup (pv 0) (pe_un un_neg pe_int)) (pa_cons pe_int (pa_cons (pe_glob (v := .int 10000000000) rfl h2 ⟨_, rfl⟩) pa_nil)))))), ?_⟩
    obtain ⟨p, m, am, e1, e2, e3, ep, np⟩ : ∃ p m am, atI (cE e) 1 = some (.str p) ∧ atI (cE e) 2 = some (.int m) ∧ atI (cE e) (-1) = some (.int am) ∧ pmE e = pmB p m am ∧ p.length ≤ 100000 := by
      cases e with
      | wage p m r am => exact ⟨p, m, am, rfl, rfl, rfl, rfl, ok⟩
      | extra p m am => exact ⟨p, m, am, rfl, rfl, rfl, rfl, ok⟩
    rw [ep] at q
    unfold pmB at q
    refine ⟨_, rfl, a, _, _, _, rfl, rfl, SqT.of ha, e1, p, rfl, np, fun H1 s1 => ?_⟩
    have q := q H1 s1
    have ha1 := s1 _ _ ha
    cases eb : wB (inS sgL) p with
    | false =>
      rw [eb] at q
      exact ⟨false, rfl, iteT (iteT q)⟩
    | true =>
      rw [eb, Bool.true_and] at q
      refine ⟨true, rfl, iteF ?_⟩
      refine ⟨_, rfl, a, _, _, _, rfl, rfl, SqT.of ha1, e2, _, _, _, rfl, .inl ⟨m, rfl, _, rfl, ?_⟩⟩
      cases ec : decide (0 ≤ m ∧ m ≤ 119999) with
      | false =>
        rw [ec] at q
        exact iteT q
      | true =>
        rw [ec, Bool.true_and] at q
        exact iteF ⟨_, rfl, _, rfl, a, _, _, _, rfl, rfl, SqT.of ha1, e3, _, _, _, rfl, .inl ⟨am, rfl, q⟩⟩
theorem ok_isEnB (F : Fun K "is_entry" "is_entry" (top 54) f fd) (N1 : Num mg "MOST_RANK" 99) (C1 : Cal P w K mg base CX0 1 "begins_with" ["thing", "word", "length"] sp_begins) (C2 : Cal P w K mg base CX0 3 "has_person_month_amount" ["entry"] sp_pmaB) (C3 : Cal P w K mg base CX0 2 "is_number_within" ["thing", "least", "most"] (sp_within K)) : FnOk P w K mg base CX0 4 f fd ["thing"] sp_isEnB := by
  obtain ⟨t1, h1⟩ := N1
  refine F.ok (N := ["thing"]) ⟨rfl, rfl, rfl, by decide +kernel, rfl, by decide +kernel, by decide +kernel⟩ (fun vs H Q E h => ?_) (fun cdv A outer s H vs Q E hr h => ?_)
  · obtain ⟨a, e, rfl, _⟩ := h
    rfl
  · obtain ⟨a, e, rfl, ha, ok, q⟩ := h
    refine ⟨_, pss_cons (ps_if (pt_val (pe_cal C1 hr (by decide) pass0 (pa_cons (pv 0) (pa_cons pe_str (pa_cons pe_int pa_nil))))) (pss_one (ps_ret (pe_and (pe_cal C2 hr (by decide) pass0 (pa_cons (pv 0) pa_nil)) (pe_one (pe_cal C3 hr (by decide) pass0 (pa_cons (pe_at ix_tup (pv 0) pe_int) (pa_cons pe_int (pa_cons (pe_glob (v := .int 99) rfl h1 ⟨_, rfl⟩) pa_nil)))))))) pss_nil)
        (pss_one (ps_ret (pe_and (pe_cal C1 hr (by decide) pass0 (pa_cons (pv 0) (pa_cons pe_str (pa_cons pe_int pa_nil)))) (pe_one (pe_cal C2 hr (by decide) pass0 (pa_cons (pv 0) pa_nil)))))), ?_⟩
    have xw : decide (("extra" : Str) = ("wage" : Str)) = false := by decide +kernel
    cases e with
    | wage p m r am =>
      have q : ∀ H', Same H H' → Q (.bl (pmB p m am && decide (0 ≤ r ∧ r ≤ 99))) H' := q
      refine ⟨_, rfl, a, _, _, _, rfl, ha, true, rfl, iteT ⟨_, rfl, a, _, rfl, ha, ok, fun H1 s1 => ?_⟩⟩
      have q := q H1 s1
      show ∃ b, V.bl (pmB p m am) = .bl b ∧ _
      cases eb : pmB p m am with
      | false =>
        rw [eb] at q
        exact ⟨false, rfl, iteF q⟩
      | true =>
        rw [eb, Bool.true_and] at q
        exact ⟨true, rfl, iteT ⟨_, rfl, a, _, _, _, rfl, rfl, SqT.of (s1 _ _ ha), rfl, _, _, _, rfl, .inl ⟨r, rfl, q⟩⟩⟩
    | extra p m am =>
      exact ⟨_, rfl, a, _, _, _, rfl, ha, false, rfl, iteF ⟨_, rfl, a, _, _, _, rfl, ha, true, rfl, iteT ⟨_, rfl, a, _, rfl, ha, ok, fun H1 s1 => q H1 s1⟩⟩⟩
end
end K28
set_option Elab.async false
set_option linter.all false
set_option maxRecDepth 100000
set_option maxHeartbeats 4000000
namespace K28
open PySem PySem.NumText L2 Pg
seal PE PA PT PW PS PSs PG PGs PI PIf PO PK
section
variable {P : Program} {w : World} {K : PySem.W.Frag} {mg : Str → Option Value} {base : Heap} {f : Addr} {fd : FuncData} {d : Nat → Addr} {cR : Addr}
theorem ok_rdN {cT : Addr} (F : Fun K "read_number" "read_number" (top 36) f fd) (G : Glb mg) (X : Er K mg "BadText" cT) (C1 : Cal P w K mg base CX0 2 "is_number_text" ["text"] sp_numT) : FnOk P w K mg base (CXE P w) 3 f fd ["text", "most_figures"] (sp_rdN cT) := by
  refine F.okE (N := ["text", "most_figures"]) ⟨rfl, rfl, rfl, by decide +kernel, rfl, by decide +kernel, by decide +kernel⟩ (fun vs H Q E h => ?_) (fun cdv A outer s H vs Q E hr h => ?_)
  · obtain ⟨z, rfl, _⟩ := h
    rfl
  · obtain ⟨z, rfl, hz, q⟩ := h
    have fit : z.length ≤ sizeLine := fitS hz rfl
    refine ⟨_, pss_cons (ps_if (PW.pt (pw_or (pt_cmpR op_gt (pe_callB call_len_str rfl G.len boot_len (pa_cons (pv 0) pa_nil)) (pv 1) (nomark _)) (pw_or1 (pt_not (pt_val (pe_cal C1 hr (by decide) pass0 (pa_cons (pv 0) pa_nil))))))) (pss_one (ps_raise throws_fn rfl rfl X.at' X.ex (pa_cons pe_str pa_nil))) pss_nil) (pss_one (ps_ret (pe_callTy call_int_text rfl G.int boot_int (pa_cons (pv 0) pa_nil)))), ?_⟩
    refine ⟨_, rfl, z, rfl, fit, _, rfl, _, _, rfl, rfl, _, rfl, ite2 (fun e => iteT ⟨by decide, (q H (Same.refl _)).2 ?_⟩) (fun e => ?_)⟩
    · have e : (2 : Int) < ((z.length : Nat) : Int) := of_decide_eq_true e
      unfold rnk
      rw [if_neg fun h => by have := h.1; omega]
    have l2 : z.length ≤ 2 := by
      have e : ¬ (2 : Int) < ((z.length : Nat) : Int) := fun c => e (decide_eq_true c)
      omega
    refine ⟨_, rfl, z, rfl, by omega, fun H1 s1 => ?_⟩
    obtain ⟨q1, q2⟩ := q H1 s1
    cases eb : numT0 z.cps.toList with
    | false =>
      refine ⟨false, rfl, iteT ⟨by decide, q2 ?_⟩⟩
      unfold rnk
      rw [if_neg fun h => by rw [eb] at h; exact Bool.false_ne_true h.2]
    | true =>
      have fg : figL z.cps.toList = true := by
        unfold numT0 at eb
        rw [Bool.and_eq_true] at eb
        exact eb.1
      obtain ⟨d1, d2⟩ := figL_digits fg
      refine ⟨true, rfl, iteF ⟨_, rfl, z, _, rfl, intText_digits d1 d2 (by omega), by omega, q1 _ ?_⟩⟩
      unfold rnk
      rw [if_pos ⟨l2, eb⟩]
set_option maxHeartbeats 8000000 in
theorem ok_ew {cT cL : Addr} (F : Fun K "entry_of_words" "entry_of_words" (top 58) f fd) (G : Glb mg) (X : Er K mg "BadLine" cL) (N1 : Num mg "RANK_FIGURES" 2) (C1 : Cal P w K mg base (CXE P w) 3 "read_number" ["text", "most_figures"] (sp_rdN cT)) (C2 : Cal P w K mg base (CXE P w) 3 "read_month" ["text"] (sp_read_month K cT)) (C3 : Cal P w K mg base (CXE P w) 4 "read_amount" ["text"] (sp_readA K cT)) : FnOk P w K mg base (CXE P w) 5 f fd ["words"] (sp_ew cT cL) := by
  obtain ⟨tk, em⟩ := N1
  have nd : (["words", "rank"] : List Str).Nodup := by decide +kernel
  refine F.okE (N := ["words", "rank"]) ⟨rfl, rfl, rfl, by decide +kernel, rfl, by decide +kernel, by decide +kernel⟩ (fun vs H Q E h => ?_) (fun cdv A outer s H vs Q E hr h => ?_)
  · obtain ⟨l, ws, rfl, _⟩ := h
    rfl
  · obtain ⟨l, ws, rfl, hw, q⟩ := h
    have un0 : (A.deeper (PyProof.Rows.envOfC "entry_of_words" (defScope (top 58)) s.heap.objs.size f cdv)).units < cLine := Nat.lt_of_le_of_lt (Nat.le_add_right _ 64) hr.units
    refine ⟨_, (pss_cons (ps_if (pt_cmpR (op_eqL un0) (pv 0) (pe_lstS (pa_cons pe_str pa_nil)) (nomark _)) (pss_one (ps_ret pe_non)) pss_nil)
        (pss_cons (ps_if (PW.pt (pw_and (pt_cmpR (op_eqL un0) (pe_slice sl_list (pv 0) po_none (po_some pe_int)) (pe_lstS (pa_cons pe_str pa_nil)) (nomark _)) (pw_and1 (pt_cmpR op_eq (pe_callB call_len_seq rfl G.len boot_len (pa_cons (pv 0) pa_nil)) pe_int (nomark _))))) (pss_cons (ps_set (i := 1) nd rfl (Or.inl rfl) (pe_cal C1 hr (by decide) passE (pa_cons (pe_at ix_list (pv 0) pe_int) (pa_cons (pe_glob (v := .int 2) rfl em ⟨_, rfl⟩) pa_nil))))
        (pss_one (ps_ret (pe_tupS (pa_cons pe_str (pa_cons (pe_at ix_list (pv 0) pe_int) (pa_cons (pe_cal C2 hr (by decide) passE (pa_cons (pe_at ix_list (pv 0) pe_int) pa_nil)) (pa_cons (pv 1) (pa_cons (pe_cal C3 hr (by decide) passE (pa_cons (pe_at ix_list (pv 0) pe_int) pa_nil)) pa_nil))))))))) pss_nil)
        (pss_cons (ps_if (PW.pt (pw_and (pt_cmpR (op_eqL un0) (pe_slice sl_list (pv 0) po_none (po_some pe_int)) (pe_lstS (pa_cons pe_str pa_nil)) (nomark _)) (pw_and1 (pt_cmpR op_eq (pe_callB call_len_seq rfl G.len boot_len (pa_cons (pv 0) pa_nil)) pe_int (nomark _))))) (pss_one (ps_ret (pe_tupS (pa_cons pe_str (pa_cons (pe_at ix_list (pv 0) pe_int) (pa_cons (pe_cal C2 hr (by decide) passE (pa_cons (pe_at ix_list (pv 0) pe_int) pa_nil)) (pa_cons (pe_cal C3 hr (by decide) passE (pa_cons (pe_at ix_list (pv 0) pe_int) pa_nil)) pa_nil))))))) pss_nil)
        (pss_one (ps_raise throws_fn rfl rfl X.at' X.ex (pa_cons pe_str pa_nil)))))), ?_⟩
    dsimp (config := { proj := false, iota := false, beta := false, eta := false }) only [cxOf_K, nox_K]
    obtain ⟨hl, wl, wn⟩ := hw
    refine ⟨_, rfl, lenOk rfl, fun l1 H1 s1 n1 e1 => ⟨l, l1, _, _, rfl, rfl, SqL.of (s1 _ _ hl), SqL.of e1, str_flat ws, rfl, _, rfl, ?_⟩⟩
    dsimp only
    rw [eq_one]
    refine ite2 (fun e => ?_) (fun e => ?_)
    · have e := of_decide_eq_true e
      exact (q H1 s1).1 none .non (by rw [e]; exact ew_out) rfl
    have o1 : ws ≠ ([("out" : Str)] : List Str) := fun z => e (decide_eq_true z)
    dsimp only [tNext]
    refine ifs_to (fun Q => ∀ H', Same H H' → Q (decide (ws.take 1 = ([("wage" : Str)] : List Str) ∧ ws.length = 5)) H') (fun R r => ?_) (fun H2 s2 => ite2 (fun e => ?_) (fun e2 => ?_))
    · refine ⟨_, rfl, _, rfl, l, _, rfl, SqL.of (s1 _ _ hl), fun p p0 => ⟨lenOk rfl, fun l2 H9 s9 n9 e9 => ⟨p, l2, _, _, rfl, rfl, SqL.of (s9 _ _ upd_same), SqL.of e9, by rw [cut1]; exact str_flat _, rfl, _, rfl, ?_⟩⟩⟩
      have S2 := s1.trans ((Same.upd p0).trans s9)
      dsimp only
      rw [cut1, eq_one]
      refine ite2 (fun e => ?_) (fun e => ?_)
      · refine ⟨_, rfl, l, _, rfl, .inl (SqL.of (S2 _ _ hl)), rfl, _, rfl, ?_⟩
        have e := of_decide_eq_true e
        have r := r _ S2
        rw [List.length_map]
        by_cases h : ws.length = 5
        · rw [decide_eq_true ⟨e, h⟩] at r
          rw [h, decide_eq_true (p := V.int ((5 : Nat) : Int) = V.int 5) rfl]
          exact r
        · rw [decide_eq_false fun z => h z.2] at r
          rw [decide_eq_false fun z => h (by injection z with z; omega)]
          exact r
      · have r := r _ S2
        rw [decide_eq_false fun z => e (decide_eq_true z.1)] at r
        exact r
    · obtain ⟨p, mo, rk, am, rfl⟩ := is5 (of_decide_eq_true e).1 (of_decide_eq_true e).2
      have at_ : ∀ {H' : Hp}, Same H H' → H' l = some (.lst [.str "wage", .str p, .str mo, .str rk, .str am]) := fun s => s _ _ hl
      have nP : p.length ≤ 100000 := wn p (by simp)
      have nM : mo.length ≤ 100000 := wn mo (by simp)
      have nR : rk.length ≤ 100000 := wn rk (by simp)
      have nA : am.length ≤ 100000 := wn am (by simp)
      have ew : ewO [("wage" : Str), p, mo, rk, am] = wageO p (rnk rk) (readM mo) (readL am.cps.toList) := ew_wage _ _ _ _
      rw [ew] at q
      refine ⟨_, rfl, l, _, _, _, rfl, rfl, SqL.of (at_ s2), rfl, rk, rfl, nR, fun H3 s3 => ⟨fun rv er => ?_, fun er => ((q H3 (s2.trans s3)).2 (by rw [er]; rfl)).1⟩⟩
      refine ⟨_, rfl, l, _, _, _, rfl, rfl, SqL.of (at_ (s2.trans s3)), rfl, _, rfl, l, _, _, _, rfl, rfl, SqL.of (at_ (s2.trans s3)), rfl, _, rfl, .inr ⟨mo, rfl, nM, fun H4 s4 => ⟨fun mv em => ?_, fun em => ((q H4 (s2.trans (s3.trans s4))).2 (by rw [er, em]; rfl)).1⟩⟩⟩
      refine ⟨_, rfl, _, rfl, l, _, _, _, rfl, rfl, SqL.of (at_ (s2.trans (s3.trans s4))), rfl, _, rfl, .inr ⟨am, rfl, nA, fun H5 s5 => ⟨fun av ea => ?_, fun ea => ((q H5 (s2.trans (s3.trans (s4.trans s5)))).2 (by rw [er, em, ea]; rfl)).1⟩⟩⟩
      exact ⟨lenOk rfl, fun t H6 s6 n6 e6 => (q H6 (s2.trans (s3.trans (s4.trans (s5.trans s6))))).1 (some (.wage p mv rv av)) (.ref t) (by rw [er, em, ea]; rfl) ⟨t, rfl, e6⟩⟩
    dsimp only [tNext]
    refine ifs_to (fun Q => ∀ H', Same H H' → Q (decide (ws.take 1 = ([("extra" : Str)] : List Str) ∧ ws.length = 4)) H') (fun R r => ?_) (fun H3 s3 => ite2 (fun e => ?_) (fun e3 => ?_))
    · refine ⟨_, rfl, _, rfl, l, _, rfl, SqL.of (s2 _ _ hl), fun p p0 => ⟨lenOk rfl, fun l2 H9 s9 n9 e9 => ⟨p, l2, _, _, rfl, rfl, SqL.of (s9 _ _ upd_same), SqL.of e9, by rw [cut1]; exact str_flat _, rfl, _, rfl, ?_⟩⟩⟩
      have S2 := s2.trans ((Same.upd p0).trans s9)
      dsimp only
      rw [cut1, eq_one]
      refine ite2 (fun e => ?_) (fun e => ?_)
      · refine ⟨_, rfl, l, _, rfl, .inl (SqL.of (S2 _ _ hl)), rfl, _, rfl, ?_⟩
        have e := of_decide_eq_true e
        have r := r _ S2
        rw [List.length_map]
        by_cases h : ws.length = 4
        · rw [decide_eq_true ⟨e, h⟩] at r
          rw [h, decide_eq_true (p := V.int ((4 : Nat) : Int) = V.int 4) rfl]
          exact r
        · rw [decide_eq_false fun z => h z.2] at r
          rw [decide_eq_false fun z => h (by injection z with z; omega)]
          exact r
      · have r := r _ S2
        rw [decide_eq_false fun z => e (decide_eq_true z.1)] at r
        exact r
    · obtain ⟨p, mo, am, rfl⟩ := is4 (of_decide_eq_true e).1 (of_decide_eq_true e).2
      have at_ : ∀ {H' : Hp}, Same H H' → H' l = some (.lst [.str "extra", .str p, .str mo, .str am]) := fun s => s _ _ hl
      have nP : p.length ≤ 100000 := wn p (by simp)
      have nM : mo.length ≤ 100000 := wn mo (by simp)
      have nA : am.length ≤ 100000 := wn am (by simp)
      have ew : ewO [("extra" : Str), p, mo, am] = extraO p (readM mo) (readL am.cps.toList) := ew_extra _ _ _
      rw [ew] at q
      refine ⟨_, rfl, l, _, _, _, rfl, rfl, SqL.of (at_ s3), rfl, _, rfl, l, _, _, _, rfl, rfl, SqL.of (at_ s3), rfl, _, rfl, .inr ⟨mo, rfl, nM, fun H4 s4 => ⟨fun mv em => ?_, fun em => ((q H4 (s3.trans s4)).2 (by rw [em]; rfl)).1⟩⟩⟩
      refine ⟨_, rfl, l, _, _, _, rfl, rfl, SqL.of (at_ (s3.trans s4)), rfl, _, rfl, .inr ⟨am, rfl, nA, fun H5 s5 => ⟨fun av ea => ?_, fun ea => ((q H5 (s3.trans (s4.trans s5))).2 (by rw [em, ea]; rfl)).1⟩⟩⟩
      exact ⟨lenOk rfl, fun t H6 s6 n6 e6 => (q H6 (s3.trans (s4.trans (s5.trans s6)))).1 (some (.extra p mv av)) (.ref t) (by rw [em, ea]; rfl) ⟨t, rfl, e6⟩⟩
    exact ⟨by decide, ((q H3 s3).2 (ew_none o1 (fun z => e2 (decide_eq_true z)) fun z => e3 (decide_eq_true z))).2⟩
end
end K28
set_option Elab.async false
set_option linter.all false
set_option maxRecDepth 100000
namespace L2
open PySem PySem.Spec PyProof.Rows

section
variable {prog : Program} {w : World} {A : Around} {E : Value → Shared → Prop} {s : Shared}
theorem raise_in {α : Type} {Q : α → Shared → Prop} {a ea : Addr} {oa oe : Obj} {ws vs : Array Value} (e1 : A.handled = some (.ref ea)) (e2 : s.heap.get? ea = some oe) (e3 : oe.data = .fields vs) (e4 : vs[2]? = some .none) (ne : ea ≠ a) (ha : s.heap.get? a = some oa) (hd : oa.data = .fields ws) (hz : 2 < ws.size)
    (k : E (.ref a) { s with heap := s.heap.update a (Obj.mapFields (·.setIfInBounds 2 (.ref ea))) }) : wpAny (model prog w) A (raiseNew (.ref a) : Sem α) Q E s := by
  unfold raiseNew
  refine wpAny_bind (wpAny_handled ?_)
  rw [e1]
  dsimp only
  rw [if_pos (show (Value.ref ea != Value.ref a) = true by simp [ne])]
  refine wpAny_bind (wpAny_holding (wpAny_runValue (unchain_none e2 e3 e4 ?_)))
  refine wpAny_bind ?_
  unfold updateField
  refine wpAny_bind (wpAny_load ha ?_)
  rw [hd]
  dsimp only
  rw [if_pos hz]
  exact wpAny_update ha (wpAny_throw k)
variable {env : Env} {nm q : Str} {C N : Addr} {bs bm bmB : List Value} {hdct : Bool} {sn : List Str} {sub : List Value} {ab : Bool} {col : Option Bool} {dd : Option Addr} {k0 k1 k2 k3 k5 : Option Value} {newId : String}
theorem raise_from {x c : Sem Value} {ea : Addr} {Q : Flow → Shared → Prop} (hbase : bm.contains (.type "BaseException") = true) (e1 : A.handled = some (.ref ea)) (hc : ∀ s' (Q' : Value → Shared → Prop), Q' .none s' → wpAny (model prog w) A c Q' E s')
    (h : wpAny (model prog w) A x (fun v s₁ => ∃ e t, v = .ref e ∧ s₁.heap.get? C = some (excClassObj nm q C N bs bm hdct sn sub ab col dd k0 k1 k2 k3 k5 newId) ∧ s₁.heap.get? e = some { cls := .ref C, data := .fields #[.ref t, .none, .none, .none, .bool false, .none] } ∧
      ea ≠ e ∧ (∃ oe vs, s₁.heap.get? ea = some oe ∧ oe.data = .fields vs ∧ vs[2]? = some .none) ∧
      (∀ h', (∀ b o, b ≠ e → s₁.heap.get? b = some o → h'.get? b = some o) → h'.get? e = some { cls := .ref C, data := .fields #[.ref t, .none, .ref ea, .none, .bool true, .none] } → E (.ref e) { s₁ with heap := h' })) E s) :
    wpAny (model prog w) A (raiseStmt env (some x) (some c)) Q E s := by
  have hcB : (Value.ref C :: bm).contains (.type "BaseException") = true := by rw [List.contains_cons, hbase, Bool.or_true]
  unfold raiseStmt
  refine wpAny_bind (wpAny_mono h (fun v s₁ h₁ => ?_) fun _ _ x => x)
  obtain ⟨e, t, rfl, hC, he, ne, ⟨oe, vs, g2, g3, g4⟩, hE⟩ := h₁
  obtain ⟨hp, g, d, tk, os⟩ := s₁
  refine wpAny_bind (wpAny_holding (hc _ _ (wpAny_bind (wpAny_pure ?_))))
  dsimp only
  repeat (first | with_reducible refine wpAny_loadPart_at he ?_ | with_reducible refine wpAny_loadPart_at hC ?_ | (with_reducible refine wpAny_isSubtype_exc hC ?_; rw [hcB]) | wp_step)
  have nCe : e ≠ C := fun z => by
    rw [z] at he
    rw [show hp.get? C = _ from hC] at he
    cases he
  have hC2 : ((hp.update e (Obj.mapFields fun x => x.setIfInBounds 3 Value.none)).update e (Obj.mapFields fun x => x.setIfInBounds 4 (Value.bool true))).get? C = some (excClassObj nm q C N bs bm hdct sn sub ab col dd k0 k1 k2 k3 k5 newId) := (Heap.get?_update_other _ _ nCe).trans ((Heap.get?_update_other _ _ nCe).trans hC)
  have he1 := Heap.get?_update_self (Obj.mapFields fun x => x.setIfInBounds 3 Value.none) (show hp.get? e = _ from he) rfl
  have he2 := Heap.get?_update_self (Obj.mapFields fun x => x.setIfInBounds 4 (Value.bool true)) he1 rfl
  have g2' : ((hp.update e (Obj.mapFields fun x => x.setIfInBounds 3 Value.none)).update e (Obj.mapFields fun x => x.setIfInBounds 4 (Value.bool true))).get? ea = some oe := (Heap.get?_update_other _ _ (Ne.symm ne)).trans ((Heap.get?_update_other _ _ (Ne.symm ne)).trans g2)
  have oth : ∀ b o, b ≠ e → hp.get? b = some o → ((hp.update e (Obj.mapFields fun x => x.setIfInBounds 3 Value.none)).update e (Obj.mapFields fun x => x.setIfInBounds 4 (Value.bool true))).get? b = some o := fun b o hb z => (Heap.get?_update_other _ _ (Ne.symm hb)).trans ((Heap.get?_update_other _ _ (Ne.symm hb)).trans z)
  have he2 : ((hp.update e (Obj.mapFields fun x => x.setIfInBounds 3 Value.none)).update e (Obj.mapFields fun x => x.setIfInBounds 4 (Value.bool true))).get? e = some { cls := .ref C, data := .fields #[.ref t, .none, .none, .none, .bool true, .none] } := he2
  generalize (hp.update e (Obj.mapFields fun x => x.setIfInBounds 3 Value.none)).update e (Obj.mapFields fun x => x.setIfInBounds 4 (Value.bool true)) = h3 at hC2 he2 g2' oth
  refine wpAny_loadPart_at hC2 (wpAny_pure ?_)
  rw [if_pos (by rfl)]
  refine wpAny_pure (wpAny_bind ?_)
  unfold setFlight
  refine wpAny_bind (wpAny_field (x := .none) he2 rfl rfl ?_)
  rw [if_neg (by decide)]
  refine wpAny_pure (raise_in e1 g2' g3 g4 ne he2 rfl (by show 2 < 6; decide) (hE _ (fun b o hb z => (Heap.get?_update_other _ _ (Ne.symm hb)).trans (oth b o hb z)) ?_))
  exact Heap.get?_update_self _ he2 rfl
end
section
variable {X : Cx} {pins : List (Addr × Obj)} {σ : St} {H : Hp} {s : Shared} {ea : Addr} {cls fl : Value} {M : Model} {A : Around} {E : Value → Shared → Prop} {Q : Unit → Shared → Prop} {C : CT} [ct : CtOk C]

theorem note_mine (F : FlyG C X pins H ea cls (rawInt X.env.locals) s.heap) (hf : X.env.frame = some X.env.locals) (k : Q () s) : wpAny M A (noteFrame (.ref ea) X.env) Q E s := by
  obtain ⟨f0, oe, vs, he, hc, hd, h2, hh⟩ := F
  unfold noteFrame
  simp only [hf]
  rcases hh with ⟨_, z⟩ | ⟨T, oT, ts, h1, hne, fT, hT, hdT, h3⟩
  · exact absurd z (by simp [rawInt])
  · refine wpAny_bind (wpAny_field he hd h1 ?_)
    rw [if_pos (show (Value.ref T != Value.none) = true by simp)]
    refine wpAny_bind (wpAny_field hT hdT h3 ?_)
    rw [if_pos (show (rawInt X.env.locals == rawInt X.env.locals) = true by simp)]
    exact wpAny_pure k

noncomputable def FlyH (C : CT) (X : Cx) (pins : List (Addr × Obj)) (H : Hp) (ea : Addr) (cls fl : Value) (h : Heap) : Prop := FpOk X pins H ea ∧ ∃ oe vs, h.get? ea = some oe ∧ (oe.cls = cls ∧ oe.dict = none) ∧ oe.data = .fields vs ∧ C H vs ∧
  ∃ T oT ts, vs[1]? = some (.ref T) ∧ T ≠ ea ∧ FpOk X pins H T ∧ h.get? T = some oT ∧ oT.data = .fields ts ∧ ts[3]? = some fl
omit ct in
theorem FlyH.fly {h : Heap} (F : FlyH C X pins H ea cls fl h) : FlyG C X pins H ea cls fl h := by
  obtain ⟨f0, oe, vs, he, hc, hd, h2, hh⟩ := F
  exact ⟨f0, oe, vs, he, hc, hd, h2, .inr hh⟩
omit ct in
theorem FlyG.head {h : Heap} {L : Addr} (F : FlyG C X pins H ea cls (rawInt L) h) : FlyH C X pins H ea cls (rawInt L) h := by
  obtain ⟨f0, oe, vs, he, hc, hd, h2, hh⟩ := F
  rcases hh with ⟨_, z⟩ | hh
  · exact absurd z (by simp [rawInt])
  · exact ⟨f0, oe, vs, he, hc, hd, h2, hh⟩
omit ct in

theorem mark_ok {fr : Option Addr} (I : Inv X pins σ H s) (F : FlyH C X pins H ea cls fl s.heap) (k : ∀ s', Inv X pins σ H s' → FlyH C X pins H ea cls (fr.elim .none fun f => rawInt f) s'.heap → Q () s') : wpAny M A (setFlight (.ref ea) fr) Q E s := by
  obtain ⟨f0, oe, vs, he, hc, hd, h2, T, oT, ts, h1, hne, fT, hT, hdT, h3⟩ := F
  have hz : 3 < ts.size := (Array.getElem?_eq_some_iff.mp h3).1
  unfold setFlight
  refine wpAny_bind (wpAny_field he hd h1 ?_)
  rw [if_pos (show (Value.ref T != Value.none) = true by simp)]
  have oth : ∀ c, c ≠ T → (s.heap.update T (Obj.mapFields (·.setIfInBounds 3 (fr.elim Value.none fun f => rawInt f)))).get? c = s.heap.get? c := fun c hc => Heap.get?_update_other _ _ (Ne.symm hc)
  have hT' := Heap.get?_update_self (Obj.mapFields (·.setIfInBounds 3 (fr.elim Value.none fun f => rawInt f))) hT (Obj.isFreed_of_fields (Obj.data_mapFields hdT _))
  refine wpAny_setField hT hdT hz (k _ (I.flown fT fun c o hc q => (oth c hc).trans q) ⟨f0, oe, vs, (oth ea (Ne.symm hne)).trans he, hc, hd, h2, T, _, _, h1, hne, fT, hT', Obj.data_mapFields hdT _, ?_⟩)
  simp [hz]
omit ct in

theorem back_ok (I : Inv X pins σ H s) (F : FlyH C X pins H ea cls fl s.heap) (hf : X.env.frame = some X.env.locals) (k : ∀ s', Inv X pins σ H s' → FlyH C X pins H ea cls (rawInt X.env.locals) s'.heap → E (.ref ea) s') : cameBackBy M A X.env E (.ref ea) s := by
  obtain ⟨_, oe, vs, he, _, hd, _, T, oT, ts, h1, _⟩ := id F
  unfold cameBackBy
  refine wpAny_bind (wpAny_field he hd h1 ?_)
  rw [if_neg (show ¬ ((Value.ref T == Value.none) = true) by simp)]
  rw [hf]
  exact mark_ok I F k
omit ct in

theorem pass_ok {α : Type} {Q : α → Shared → Prop} {what : String} (I : Inv X pins σ H s) (F : FlyH C X pins H ea cls fl s.heap) (hf : X.env.frame = some X.env.locals) (k : ∀ s', Inv X pins σ H s' → FlyH C X pins H ea cls (rawInt X.env.locals) s'.heap → E (.ref ea) s') : wpAny M A (PySem.passOn what (.ref ea) X.env : Sem α) Q E s := by
  obtain ⟨_, oe, vs, he, _, hd, _, T, oT, ts, h1, _⟩ := id F
  unfold PySem.passOn
  refine wpAny_bind (wpAny_field he hd h1 ?_)
  rw [if_neg (show ¬ ((Value.ref T == Value.none) = true) by simp)]
  rw [hf]
  exact wpAny_bind (mark_ok I F fun s' I' F' => wpAny_throw (k s' I' F'))
end

noncomputable def ThrowsM (C : CT) (X : Cx) (E : XK) : Prop := ∀ (pins : List (Addr × Obj)) (σ : St) (H : Hp) (s : Shared) (ea : Addr) (cls : Value), Inv X pins σ H s → FlyG C X pins H ea cls (rawInt X.env.locals) s.heap → E cls none H → X.xe (.ref ea) s
theorem throws_fnM {C : CT} [ct : CtOk C] {P : Program} {w : World} {K : PySem.W.Frag} {mg : Str → Option Value} {base : Heap} {N : List Str} {qual : Str} {scope : Scope} {f : Addr} {cd : Value} {A : Around} {outer : List Env} {s : Shared} {H : Hp} {E : XK} :
    ThrowsM C (cxOf (CXG C P w) P w K mg base N qual scope f cd A outer s H E) E := by
  intro pins σ H' s' ea cls I F q
  show wpAny _ _ (leaving _ _) _ _ _
  unfold leaving
  refine wpAny_bind (note_mine F rfl ?_)
  refine flight_ok I F fun s2 I2 F2 => ?_
  obtain ⟨f0, oe, vs, he, hc, hd, h2, hh⟩ := F2
  have ge : ∀ {b : Addr}, FpOk (cxOf (CXG C P w) P w K mg base N qual scope f cd A outer s H E) pins H' b → s.heap.get? b = none := fun {b} z => by
    rcases z.2.2.2.1 with z | z
    · exact absurd (show b ∈ ([] : List Addr) from z) (by simp)
    · exact z
  refine ⟨ea, cls, H', rfl, I2.os, I2.bare, I2.base, I2.hok, ⟨ge f0, f0.1, oe, vs, he, hc, hd, h2, ?_⟩, q⟩
  rcases hh with ⟨h1, _⟩ | ⟨T, oT, ts, h1, ne, fT, hT, hdT, h3⟩
  · exact .inl h1
  · exact .inr ⟨T, oT, ts, h1, ne, ge fT, fT.1, hT, hdT, h3⟩
noncomputable def tRaiseN (E : XK) (C ea : Addr) (t : TA) : TS := fun _ σ H => t σ H fun vs H1 => vs.length ≤ sizeLine ∧ (∃ oe u ws, H1 ea = some (.frz oe u) ∧ oe.data = .fields ws ∧ ws[2]? = some .none) ∧ E (.ref C) none H1
theorem ps_raiseN {X : Cx} {E : XK} {x : Str} {C ea : Addr} {e₀ : Expr} {rest : List Expr} {t : TA} {j : Nat} {np cpos npos pos : Pos} (hE : ThrowsG CtxR X E) (hh : X.A.handled = some (.ref ea)) (hg : Gl X x) (hm : X.mg x = some (.ref C)) (hx : PySem.W.excIn X.K C veMro "ValueError.__new__" = true) (ha : PA X (e₀ :: rest) t)
    (he : starEach (e₀ :: rest) X.env = (false, eval e₀ X.env) :: starEach rest X.env := by exact starEach_cons rfl) (hpl : (backTo cpos (starEach rest X.env)).any (·.1) = false := by exact noStars rfl) (hdb : (x == ("__debug__" : Str)) = false := by decide) :
    PS X (.Raise (some (.Call (.Name x np) (e₀ :: rest) [] cpos)) (some (.Constant .none j npos)) pos) (tRaiseN E C ea t) := by
  intro pins s σ H D I h
  obtain ⟨bm, N, nm, qn, bs, hd, sn, sub, ab, col, dd, k0, k1, k2, k3, k5, mN, oC, oN, ni, T⟩ := exc_obj I.ok.mod.kin hx
  have FB := PySem.F.excBase_ValueError
  rw [arm_exec_Raise]
  refine wpAny_bind (wpAny_standAt ?_)
  refine raise_from (C := C) (nm := nm) (q := qn) (N := N) (bs := bs) (bm := bm) (hdct := hd) (sn := sn) (sub := sub) (ab := ab) (col := col) (dd := dd) (k0 := k0) (k1 := k1) (k2 := k2) (k3 := k3) (k5 := k5) (newId := "ValueError.__new__") (T.hasType FB.hasBase) hh (fun s' Q' q => ?_) ?_
  · exact wpAny_bind (Constant_none (wpAny_bind (wpAny_standAt (wpAny_pure q))))
  refine wpAny_bind (wpAny_mono (wpAny_Call_ofName (ld_glob I hg hm ?_ hdb)) (fun v s₃ h₃ => wpAny_bind (wpAny_standAt (wpAny_pure h₃))) fun _ _ x => x)
  unfold callWith
  have q := ha cpos pins s σ H _ I h
  rw [he] at q ⊢
  refine wpAny_bind (wpAny_holding (Calls.evalArgs_plain (thn q fun us s2 ⟨vs, H1, I1, r, hl, ⟨oe, u, ws, f1, f2, f3⟩, w⟩ => ?_)))
  refine wpAny_bind (wpAny_standAt ?_)
  have hpl2 : ((backTo cpos ((false, eval e₀ X.env) :: starEach rest X.env)).any (·.1)) = false := by show (false || (backTo cpos (starEach rest X.env)).any (·.1)) = false; rw [hpl]; rfl
  simp only [hpl2]
  obtain ⟨hp, g, d, tk, os⟩ := s2
  have oC1 := I1.bk _ _ oC
  refine wpAny_bind (wpAny_keeperOf_exc oC1 ?_)
  refine wpAny_bind (wpAny_call_exc_subT (hrest := by show us.length ≤ sizeLine; rw [← r.length]; exact hl) FB (T.keeps I1.bk) oC1 (oN.keeps I1.bk) ni fun h' e made => wpAny_bind (wpAny_holding (wpAny_point (wpAny_pure ?_))))
  obtain ⟨t0, there, _, _⟩ := made.there
  have hea := (I1.hok ea _ f1).1
  have nee : ea ≠ e := fun z => by
    have := made.new
    rw [← z] at this
    rw [show hp.get? ea = _ from hea] at this
    cases this
  refine ⟨e, t0, rfl, made.keeps _ _ oC1, there, nee, ⟨oe, ws, made.keeps _ _ hea, f2, f3⟩, fun h2 k2 e2 => ?_⟩
  have kp : ∀ b o, hp.get? b = some o → h2.get? b = some o := fun b o z => k2 b o (fun c => by rw [c, made.new] at z; cases z) (made.keeps _ _ z)
  refine hE pins σ H1 _ e (.ref C) (I1.kept (t' := tk) kp) ⟨I1.fpNone made.new (I1.none_of made.new), _, _, e2, ⟨rfl, rfl⟩, rfl, .inr ⟨ea, oe, ws, u, rfl, f1, f2, f3⟩, .inl ⟨rfl, rfl⟩⟩ w
noncomputable def tTryN (K : PySem.W.Frag) (c : Addr) (R E : XK) (C : Addr) (tb : TS) (t : TA) : TS := fun D σ H => tb D σ H ∧ ∀ (ea : Addr) (oe : Obj) (vs : Array Value) (cls : Value) (σ' : St) (H' : Hp), R cls none H' → H' ea = none → oe.data = .fields vs → vs[2]? = some .none →
  (PySem.W.exmOne K cls (.ref c) = some true ∧ tRaiseN E C ea t D σ' (upd H' ea (excO ea oe))) ∨ (PySem.W.exmOne K cls (.ref c) = some false ∧ E cls none H')
set_option maxHeartbeats 4000000 in
theorem ps_tryN {X : Cx} {x y : Str} {c C : Addr} {R E : XK} {tb : TS} {t : TA} {body : List Stmt} {e₀ : Expr} {rest : List Expr} {j : Nat} {np np2 cpos npos rpos hpos pos : Pos} (hE : ThrowsM CtxR X E) (hs : X.stack = X.env :: X.outer) (hf : X.env.frame = some X.env.locals) (hg : Gl X x) (hm : X.mg x = some (.ref c))
    (hg2 : Gl X y) (hm2 : X.mg y = some (.ref C)) (hx : PySem.W.excIn X.K C veMro "ValueError.__new__" = true)
    (hb : ∀ pn, PSs (X.tr pn (tryE X pn R)) body tb) (ha : ∀ pn ea E, PA (X.hdl pn ea E) (e₀ :: rest) t)
    (he : starEach (e₀ :: rest) X.env = (false, eval e₀ X.env) :: starEach rest X.env := by exact starEach_cons rfl) (hpl : (backTo cpos (starEach rest X.env)).any (·.1) = false := by exact noStars rfl) (hdb : (x == ("__debug__" : Str)) = false := by decide) (hdb2 : (y == ("__debug__" : Str)) = false := by decide) :
    PS X (.Try body [.ExceptHandler (some (.Name x np)) none [.Raise (some (.Call (.Name y np2) (e₀ :: rest) [] cpos)) (some (.Constant .none j npos)) rpos] hpos] [] [] pos) (tTryN X.K c R E C tb t) := by
  intro pins s σ H D I h
  obtain ⟨h1, h2⟩ := h
  have ok := I.ok
  refine wpAny_Try_except (wpAny_mono (hb (X.pn ++ pins) [] s σ H D I.tr h1) (fun f s1 q => ?_) fun e s1 q => ?_)
  · cases f with
    | next =>
      obtain ⟨σ', H', I', q⟩ := q
      exact wpAny_execs_nil ⟨σ', H', I'.ofTr ok, q⟩
    | brk => obtain ⟨σ', H', I', q⟩ := q; exact ⟨σ', H', I'.ofTr ok, q⟩
    | cont => obtain ⟨σ', H', I', q⟩ := q; exact ⟨σ', H', I'.ofTr ok, q⟩
    | ret u => obtain ⟨v, σ', H', I', r, q⟩ := q; exact ⟨v, σ', H', I'.ofTr ok, r, q⟩
  · obtain ⟨ea, cls, σ1, H1, rfl, I1, F1, r1⟩ := q
    refine note_ok (X := X.tr (X.pn ++ pins) fun _ _ => True) I1 F1 hs hf I1.ok.frames fun s2 I2 F2 => ?_
    refine mark_ok (fr := none) I2 F2.head fun s3 I3 F3h => ?_
    have F3 := F3h.fly
    have J3 : Inv (X.hdl (X.pn ++ pins) ea fun _ _ => True) [] σ1 H1 s3 := I3.toHdl ok
    obtain ⟨f3, oe3, vs3, he3, hc3, hd3, hv3, _⟩ := id F3
    refine wpAny_handleBy_cons (codeAny_handlers_test (ld_glob J3 hg hm ?_ hdb)) (by intro q; cases q)
    have LT : PySem.W.Looks (model X.prog X.w) s3.heap (typeOf (.ref ea)) cls := by
      rw [← hc3.1]
      exact (PySem.W.Looks.ld he3).andThen .now
    rcases h2 ea oe3 vs3 cls σ1 H1 r1 f3.1 hd3 hv3 with ⟨hR, _⟩ | ⟨hR, hp⟩
    · refine (PySem.W.exm_one J3.kIn LT hR).here ?_
      refine codeAny_handlers_suite ?_
      refine flight_ok J3 F3.toHdl fun s4 J4 F4 => ?_
      obtain ⟨f4, oe, vs, he4, hc, hd, h2', _⟩ := F4
      obtain ⟨_, w5⟩ | ⟨z, _⟩ := h2 ea oe vs cls σ1 H1 r1 f3.1 hd h2'
      case inr => rw [hR] at z; cases z
      have J5 : Inv (X.hdl (X.pn ++ pins) ea fun _ _ => True) [] σ1 (upd H1 ea (excO ea oe)) s4 := J4.hold f4 he4
      have J5' : ∀ E, Inv (X.hdl (X.pn ++ pins) ea E) [] σ1 (upd H1 ea (excO ea oe)) s4 := fun E => ⟨ok.hdl, J5.os, J5.bare, J5.base, J5.loc, J5.cell, J5.free, J5.freeC, J5.pin, J5.hok, J5.len⟩
      have key : ∀ (EE : Value → Shared → Prop), ThrowsG CtxR (X.hdl (X.pn ++ pins) ea EE) E → PSs (X.hdl (X.pn ++ pins) ea EE) [.Raise (some (.Call (.Name y np2) (e₀ :: rest) [] cpos)) (some (.Constant .none j npos)) rpos] (tRaiseN E C ea t) := fun EE hT => pss_one (ps_raiseN (X := X.hdl (X.pn ++ pins) ea EE) hT rfl hg2 hm2 hx (ha _ ea EE) he hpl hdb2)
      refine wpAny_mono (key _ ?_ [] s4 σ1 _ D (J5' _) ?_) (fun f s5 q => ?_) fun _ _ z => z
      · intro pins2 σ2 H2 s5 e2 cls2 I5 F5 q5
        have I6 : Inv X pins σ2 H2 s5 := ⟨ok, I5.os, I5.bare, I5.base, I5.loc, I5.cell, I5.free, I5.freeC, fun p hp => I5.pin p (List.mem_append_left _ hp), I5.hok, I5.len⟩
        have cut : ∀ {b : Addr} {EE : Value → Shared → Prop}, FpOk (X.hdl (X.pn ++ pins) ea EE) pins2 H2 b → FpOk X pins H2 b := fun {b EE} f => ⟨f.1, f.2.1, f.2.2.1, f.2.2.2.1, f.2.2.2.2.1, fun p hp => f.2.2.2.2.2 p (List.mem_append_left _ hp)⟩
        have F6 : FlyG CtxR X pins H2 e2 cls2 .none s5.heap := by
          obtain ⟨f0, oe, vs, he, hc, hd, h2, hh⟩ := F5
          refine ⟨cut f0, oe, vs, he, hc, hd, h2, ?_⟩
          rcases hh with z | ⟨T, oT, ts, h1, ne, fT, hT, hdT, h3⟩
          · exact .inl z
          · exact .inr ⟨T, oT, ts, h1, ne, cut fT, hT, hdT, h3⟩
        exact note_ok (A := X.A.mark (some (.ref ea))) I6 F6 hs hf ok.frames fun s7 I7 F7 => back_ok I7 F7.head hf fun s8 I8 F8 => hE pins σ2 H2 s8 e2 cls2 I8 F8.fly q5
      · exact w5
      · cases f with
        | next => obtain ⟨σ', H', I', q⟩ := q; exact ⟨σ', H', I'.ofHdl ok, q⟩
        | brk => obtain ⟨σ', H', I', q⟩ := q; exact ⟨σ', H', I'.ofHdl ok, q⟩
        | cont => obtain ⟨σ', H', I', q⟩ := q; exact ⟨σ', H', I'.ofHdl ok, q⟩
        | ret u => obtain ⟨v, σ', H', I', r, q⟩ := q; exact ⟨v, σ', H', I'.ofHdl ok, r, q⟩
    · refine (PySem.W.exm_one J3.kIn LT hR).here ?_
      refine wpAny_handleBy_nil ?_
      have I4 : Inv X pins σ1 H1 s3 := I3.ofTr ok
      have F4 : FlyH CtxR X pins H1 ea cls .none s3.heap := by
        obtain ⟨f0, oe, vs, he, hc, hd, h2, T, oT, ts, h1, hne, fT, hT, hdT, h3⟩ := F3h
        have cut : ∀ {b : Addr}, FpOk (X.tr (X.pn ++ pins) fun _ _ => True) [] H1 b → FpOk X pins H1 b := fun {b} f => ⟨f.1, f.2.1, f.2.2.1, f.2.2.2.1, f.2.2.2.2.1, fun p hp => f.2.2.2.2.2 p (by simpa using hp)⟩
        exact ⟨cut f0, oe, vs, he, hc, hd, .inl h2, T, oT, ts, h1, hne, cut fT, hT, hdT, h3⟩
      exact pass_ok I4 F4 hf fun s5 I5 F5 => hE pins σ1 H1 s5 ea cls I5 F5.fly hp
end L2
set_option Elab.async false
set_option linter.all false
set_option maxRecDepth 100000
namespace L2
open PySem PySem.Spec PyProof.Rows
section
variable {P : Program} {w : World} {K : PySem.W.Frag} {mg : Str → Option Value} {base : Heap}

theorem Fun.okY {x qual : Str} {st : Stmt} {f : Addr} {fd : FuncData} {N ps : List Str} {k : Nat} {sp : Sp} (F : Fun K x qual st f fd) (S : FnScope N ps (defScope st)) (len : ∀ vs H Q E, sp vs H Q E → vs.length = ps.length)
    (hbody : ∀ (cdv : Value) (A : Around) (outer : List Env) (s : Shared) (H : Hp) (vs : List V) (Q : VK) (E : XK), Room k (A.deeper (envOfC qual (defScope st) s.heap.objs.size f cdv)) → sp vs H Q E →
      ∃ t, PSs (cxOf (CXY P w) P w K mg base N qual (defScope st) f cdv A outer s H E) (defBody st) t ∧ t { nx := fun _ H' => Q .non H', rt := Q } (start N vs) H) : FnOk P w K mg base (CXY P w) (k + 1) f fd ps sp := by
  obtain ⟨oc, od, kV, doc, pm, an, cdv, ct, osl, rfl, lk, hcd⟩ := F.ex
  exact fn_of lk hcd S len fun A outer s H vs Q E hr hsp => hbody cdv A outer s H vs Q E hr hsp
end

theorem passYT {X : Cx} {pn : List (Addr × Obj)} {R : XK} : Passes (CXY X.prog X.w) (X.tr pn (tryG CtxR X pn R)) R := throws_pass rfl rfl throws_try
end L2
set_option Elab.async false
set_option linter.all false
set_option maxRecDepth 100000
set_option maxHeartbeats 4000000
namespace K28
open PySem PySem.NumText L2 Pg
seal PE PA PT PW PS PSs PG PGs PI PIf PO PK
section
variable {P : Program} {w : World} {K : PySem.W.Frag} {mg : Str → Option Value} {base : Heap} {f : Addr} {fd : FuncData} {d : Nat → Addr} {cR : Addr}
set_option maxHeartbeats 8000000 in
theorem ok_eof {cT cL : Addr} (F : Fun K "entry_of" "entry_of" (top 59) f fd) (G : Glb mg) (X : Er K mg "BadLine" cL) (XT : Er K mg "BadText" cT) (x1 : PySem.W.exmOne K (.ref cT) (.ref cT) = some true) (x2 : PySem.W.exmOne K (.ref cL) (.ref cT) = some false) (C1 : Cal P w K mg base (CXE P w) 5 "entry_of_words" ["words"] (sp_ew cT cL)) (C2 : Cal P w K mg base CX0 2 "is_mark" ["thing"] sp_mkB2) (C3 : Cal P w K mg base CX0 4 "is_entry" ["thing"] sp_isEnB) : FnOk P w K mg base (CXY P w) 6 f fd ["line"] (sp_eof K cL) := by
  have nd : (["line", "words", "entry"] : List Str).Nodup := by decide +kernel
  refine F.okY (N := ["line", "words", "entry"]) ⟨rfl, rfl, rfl, by decide +kernel, rfl, by decide +kernel, by decide +kernel⟩ (fun vs H Q E h => ?_) (fun cdv A outer s H vs Q E hr h => ?_)
  · obtain ⟨v, rfl, _⟩ := h
    rfl
  · obtain ⟨v, rfl, h⟩ := h
    obtain ⟨R, hR⟩ : ∃ R : XK, R = fun cls _ H' => (cls = .ref cT ∨ cls = .ref cL) ∧ Same H H' ∧ ∀ z, v = .str z → ewO ((Txt.split z " ").drop 1) = none := ⟨_, rfl⟩
    refine' ⟨_, (pss_cons (ps_if (pt_not (pt_val (pe_callB call_isinst rfl G.isinstance boot_isinstance (pa_cons (pv 0) (pa_cons (pe_bltn (v := .ty "str") rfl G.str boot_str rfl) pa_nil))))) (pss_one (ps_raise throws_fn rfl rfl X.at' X.ex (pa_cons pe_str pa_nil))) pss_nil)
        (pss_cons (ps_set (i := 1) nd rfl (Or.inl rfl) (pe_bm PySem.F.plainAttrs_str PySem.F.slot_str_split PySem.F.type_str_split mt_split (pv 0) (pa_cons pe_str pa_nil)))
        (pss_cons (ps_tryN (R := R) (E := E) (tb := tAsg (fun σ H Q => tCons (tSl (rSlL K) (tVar 1) (tPart (tC (.int 1))) tNoPart) tNil σ H fun vs H1 => sp_ew cT cL vs H1 Q R) (gName 2)) throws_fnM rfl rfl rfl XT.at' rfl X.at' X.ex ?body (fun pn ea E => pa_cons pe_str pa_nil))
        (pss_cons (ps_if (PW.pt (pw_or (pt_not (pt_val (pe_cal C2 hr (by decide) pass0 (pa_cons (pe_at ix_list (pv 1) pe_int) pa_nil)))) (pw_or1 (PW.pt (pw_and (pt_cmpR op_notN (pv 2) pe_non (nomark _)) (pw_and1 (pt_not (pt_val (pe_cal C3 hr (by decide) pass0 (pa_cons (pv 2) pa_nil)))))))))) (pss_one (ps_raise throws_fn rfl rfl X.at' X.ex (pa_cons pe_str pa_nil))) pss_nil)
        (pss_one (ps_ret (pe_tupS (pa_cons (pe_at ix_list (pv 1) pe_int) (pa_cons (pv 2) pa_nil))))))))), ?main⟩
    case body =>
      intro pn
      exact pss_one (ps_set (i := 2) nd rfl (Or.inl rfl) (pe_cal C1 hr (by decide) passT (pa_cons (pe_slice sl_list (pv 1) (po_some pe_int) po_none) pa_nil)))
    rcases h with ⟨⟨r, hr', ty, ne⟩, q⟩ | ⟨z, rfl, hz, q⟩
    · obtain ⟨_, _, k3, _⟩ := kit_tab (K := K) r hr'
      have e : r.2.2.2.1 = false := by
        simp only [numT, List.mem_cons, List.not_mem_nil, or_false] at hr'
        rcases hr' with rfl | rfl | rfl | rfl | rfl | rfl | rfl <;> first | rfl | exact absurd rfl ne
      rw [e] at k3
      exact ⟨_, rfl, _, _, _, _, false, rfl, rfl, .inl ty, k3, false, rfl, iteT ⟨by decide, q⟩⟩
    have zf : z.length ≤ sizeLine := fitS hz rfl
    obtain ⟨sl, sn, w0, wr, ew⟩ := split_wds z
    refine ⟨_, rfl, _, _, _, _, true, rfl, rfl, .inl (.str z), rfl, true, rfl, iteF ⟨_, rfl, rfl, _, _, rfl, rfl, rfl, zf, split_fit hz, fun l H1 s1 n1 e1 => ?_⟩⟩
    have wd : WdsAt H1 l (w0 :: wr) := by
      rw [ew] at e1 sl sn
      exact ⟨e1, by omega, fun w hw => Nat.le_trans (sn w hw) (by omega)⟩
    have en : ewO wr = none → lnO (Txt.split z " ") = none := fun e => by
      rw [ew]
      show (match ewO wr with
        | some t => if (wB (inS sgM) w0 && thB t) = true then some (w0, t) else none
        | none => none) = _
      rw [e]
    refine ⟨?_, ?_⟩
    · refine ⟨_, rfl, _, rfl, l, _, rfl, SqL.of e1, fun p p0 => ?_⟩
      have sp : Same H1 (upd H1 p (.lst (cutV ((Txt.split z " ").map V.str) (some 1) none))) := Same.upd p0
      refine ⟨p, wr, rfl, ⟨?_, ?_, ?_⟩, fun H2 s2 => ⟨fun t v et th => ?_, fun et => ?_⟩⟩
      · rw [upd_same, cut1t, ew]
        rfl
      · have := wd.2.1
        rw [List.length_cons] at this
        omega
      · exact fun w hw => wd.2.2 w (List.mem_cons_of_mem _ hw)
      · have S2 := s1.trans (sp.trans s2)
        obtain ⟨q1, q2⟩ := q H2 S2
        have hl2 : H2 l = some (.lst ((w0 :: wr).map V.str)) := s2 _ _ (sp _ _ wd.1)
        have n0 : w0.length ≤ 100000 := wd.2.2 w0 List.mem_cons_self
        have eL : lnO (Txt.split z " ") = if (wB (inS sgM) w0 && thB t) = true then some (w0, t) else none := by
          rw [ew]
          show (match ewO wr with
            | some t => if (wB (inS sgM) w0 && thB t) = true then some (w0, t) else none
            | none => none) = _
          rw [et]
        have qE : ∀ H', Same H2 H' → (wB (inS sgM) w0 && thB t) = false → E (.ref cL) none H' := fun H' s' eb => (q H' (S2.trans s')).2 (by rw [eL, eb]; rfl)
        have qG : ∀ H' l' , Same H2 H' → (wB (inS sgM) w0 && thB t) = true → H' l' = some (.tup [.str w0, v]) → Q (.ref l') H' := fun H' l' s' eb e' => (q H' (S2.trans s')).1 w0 t l' (by rw [eL, eb]; rfl) ⟨v, e', th.same s'⟩
        refine ⟨_, rfl, l, _, _, _, rfl, rfl, SqL.of hl2, at_first rfl, w0, rfl, n0, fun H3 s3 => ?_⟩
        cases eb : wB (inS sgM) w0 with
        | false => exact ⟨false, rfl, iteT (iteT ⟨by decide, qE H3 s3 (by rw [eb]; rfl)⟩)⟩
        | true =>
          refine ⟨true, rfl, iteF ?_⟩
          have hl3 := s3 _ _ hl2
          cases t with
          | none =>
            have th : v = .non := th
            subst th
            refine ⟨_, rfl, rfl, _, rfl, iteF (iteF ⟨_, rfl, l, _, _, _, rfl, rfl, SqL.of hl3, at_first rfl, _, rfl, lenOk rfl, fun l4 H4 s4 n4 e4 => ?_⟩)⟩
            exact qG H4 l4 (s3.trans s4) (by rw [eb]; rfl) e4
          | some e =>
            obtain ⟨a, rfl, ha⟩ := th
            refine ⟨_, rfl, rfl, _, rfl, iteT ⟨_, rfl, a, e, rfl, s3 _ _ ha, ?_, fun H4 s4 => ?_⟩⟩
            · exact wd.2.2 _ (List.mem_cons_of_mem _ (ew_who et))
            cases ec : enB e with
            | false => exact ⟨false, rfl, iteT ⟨by decide, qE H4 (s3.trans s4) (by rw [eb]; exact ec)⟩⟩
            | true =>
              refine ⟨true, rfl, iteF ⟨_, rfl, l, _, _, _, rfl, rfl, SqL.of (s4 _ _ hl3), at_first rfl, _, rfl, lenOk rfl, fun l5 H5 s5 n5 e5 => ?_⟩⟩
              exact qG H5 l5 (s3.trans (s4.trans s5)) (by rw [eb]; exact ec) e5
      · rw [hR]
        have S2 := s1.trans (sp.trans s2)
        have dr : ∀ z', V.str z = .str z' → ewO ((Txt.split z' " ").drop 1) = none := fun z' e => by
          cases e
          rw [ew]
          exact et
        exact ⟨⟨.inl rfl, S2, dr⟩, ⟨.inr rfl, S2, dr⟩⟩
    · intro ea oe vs cls σ' H' r n0 hd h2
      rw [hR] at r
      obtain ⟨rc, sS, re⟩ := r
      have ne := en (by have := re z rfl; rwa [ew] at this)
      rcases rc with rfl | rfl
      · exact .inl ⟨x1, by decide, ⟨oe, _, vs, upd_same, hd, h2⟩, (q _ (sS.trans (Same.upd n0))).2 ne⟩
      · exact .inr ⟨x2, (q _ sS).2 ne⟩
end
end K28
set_option Elab.async false
set_option linter.all false
set_option maxRecDepth 100000
namespace Pg
open PySem PySem.NumText L2 Builtin Builtin.Str

theorem month_len {m : Int} (h0 : 0 ≤ m) (h1 : m ≤ 119999) : (monthS m).length = 7 := by
  rw [len_codes, month_codes h0, List.length_append, List.length_cons, padZ_len (dg_len_le (by decide) (mL4 (mY1 h1))), padZ_len (dg_len_le (by decide) (mL2 (mP1 m)))]
theorem toldl_len {a : Int} (h0 : 0 ≤ a) (h1 : a ≤ 10000000000) : (toldS a).length ≤ 12 := by
  have lh : (dg (a.toNat / 100)).length ≤ 9 := dg_len_le (by decide) (by omega)
  have l2 : (padZ 2 (dg (a.toNat % 100))).length = 2 := padZ_len (dg_len_le (by decide) (by omega))
  rw [len_codes, told_no h0, List.length_append, List.length_append, l2, List.length_singleton]
  omega
theorem rank_len {r : Int} (h0 : 0 ≤ r) (h1 : r ≤ 99) : (numS r).length ≤ 2 := by
  obtain ⟨n, rfl⟩ := Int.eq_ofNat_of_zero_le h0
  rw [len_codes, numS_codes]
  exact dg_len_le (by decide) (by omega)
theorem rowe_len {t : Option En} (ht : ThOk t) : (rowE t).length ≤ 5 ∧ ∀ v ∈ rowE t, v.length ≤ 12 := by
  have w4 : ("wage" : Str).length = 4 := by decide +kernel
  have x5 : ("extra" : Str).length = 5 := by decide +kernel
  have o3 : ("out" : Str).length = 3 := by decide +kernel
  match t, ht with
  | none, _ => exact ⟨Nat.le_of_ble_eq_true rfl, fun v hv => by rw [List.mem_singleton.mp hv]; omega⟩
  | some (.wage p m r a), ht =>
    obtain ⟨h1, h2, h3, h4, h5, h6, h7⟩ := ht
    refine ⟨Nat.le_of_ble_eq_true rfl, fun v hv => ?_⟩
    have := h1.hi
    have := month_len h2 h3
    have := toldl_len h6 h7
    have := rank_len h4 h5
    simp only [rowE, List.mem_cons, List.not_mem_nil, or_false] at hv
    rcases hv with rfl | rfl | rfl | rfl | rfl <;> omega
  | some (.extra p m a), ht =>
    obtain ⟨h1, h2, h3, h6, h7⟩ := ht
    refine ⟨Nat.le_of_ble_eq_true rfl, fun v hv => ?_⟩
    have := h1.hi
    have := month_len h2 h3
    have := toldl_len h6 h7
    simp only [rowE, List.mem_cons, List.not_mem_nil, or_false] at hv
    rcases hv with rfl | rfl | rfl | rfl <;> omega
theorem line_ok {k : Str} {t : Option En} (hk : MrkOk k) (ht : ThOk t) : JoinOk " " (k :: rowE t) = true ∧ (lineS k t).length ≤ 84 := by
  obtain ⟨l, h⟩ := rowe_len ht
  have := hk.hi
  exact join_small (m := 12) (k := 6) (fun z hz => by
    rcases List.mem_cons.mp hz with rfl | hz
    · omega
    · exact h z hz) (by rw [List.length_cons]; omega) (by decide +kernel) rfl
theorem line_out (k : Str) : lineS k none = k ++ (" out" : Str) := by
  refine str_codes ?_
  unfold lineS
  rw [sp1, join_codesC, app_codes]
  congr 1
theorem join2 (s a b : Str) : Txt.join s [a, b] = a ++ s ++ b := join_snoc s b (zs := [a]) (by simp)
theorem join3 (s a b c : Str) : Txt.join s [a, b, c] = a ++ s ++ b ++ s ++ c := (join_snoc s c (zs := [a, b]) (by simp)).trans (by rw [join2])
theorem join4 (s a b c d : Str) : Txt.join s [a, b, c, d] = a ++ s ++ b ++ s ++ c ++ s ++ d := (join_snoc s d (zs := [a, b, c]) (by simp)).trans (by rw [join3])
theorem join5 (s a b c d e : Str) : Txt.join s [a, b, c, d, e] = a ++ s ++ b ++ s ++ c ++ s ++ d ++ s ++ e := (join_snoc s e (zs := [a, b, c, d]) (by simp)).trans (by rw [join4])
theorem join6 (s a b c d e f : Str) : Txt.join s [a, b, c, d, e, f] = a ++ s ++ b ++ s ++ c ++ s ++ d ++ s ++ e ++ s ++ f := (join_snoc s f (zs := [a, b, c, d, e]) (by simp)).trans (by rw [join5])
theorem line_extra (k p : Str) (m a : Int) : lineS k (some (.extra p m a)) = k ++ (" " : Str) ++ ("extra" : Str) ++ (" " : Str) ++ p ++ (" " : Str) ++ monthS m ++ (" " : Str) ++ toldS a := join5 _ _ _ _ _ _
theorem line_wage (k p : Str) (m r a : Int) : lineS k (some (.wage p m r a)) = k ++ (" " : Str) ++ ("wage" : Str) ++ (" " : Str) ++ p ++ (" " : Str) ++ monthS m ++ (" " : Str) ++ numS r ++ (" " : Str) ++ toldS a := join6 _ _ _ _ _ _ _
theorem joinS_two (a b : Str) : joinS [a, b] = a ++ b := by
  refine str_codes ?_
  show (a ++ (b ++ Str.empty)).cps.toList = _
  rw [app_codes, app_codes, app_codes]
  congr 1
  exact List.append_nil _
theorem no_str {K : PySem.W.Frag} {H : Hp} {v : V} {z : Str} (h : NoStr K H v) : v ≠ .str z := fun e => by
  obtain ⟨r, _, ty, ne⟩ := h
  subst e
  generalize r.1 = t at ty ne
  cases ty
  exact ne rfl
noncomputable def dtL (m : Str) : Option En → Dt
  | none => .t [.v (.str m), .v .non]
  | some e => .t [.v (.str m), .t ((cE e).map Dt.v)]
theorem is_ln {K : PySem.W.Frag} {H : Hp} {a : Addr} {m : Str} {t : Option En} (h : LnAt H a m t) : Is K H 2 (.ref a) (dtL m t) := by
  obtain ⟨v, h1, h2⟩ := h
  cases t with
  | none =>
    have h2 : v = .non := h2
    subst h2
    refine .t (SqT.of h1) rfl fun j x d ex ed => ?_
    match j with
    | 0 => cases ex; cases ed; exact .v rfl
    | 1 => cases ex; cases ed; exact .v rfl
    | j + 2 => cases ex
  | some e =>
    obtain ⟨b, rfl, hb⟩ := h2
    refine .t (SqT.of h1) rfl fun j x d ex ed => ?_
    match j with
    | 0 => cases ex; cases ed; exact .v rfl
    | 1 => cases ex; cases ed; exact Is.flatT (SqT.of hb) (by cases e <;> rfl)
    | j + 2 => cases ex
theorem seq_ln (m : Str) (t : Option En) : isSeq (dtL m t) = true := by cases t <;> rfl
noncomputable def numsE : En → List Int
  | .wage _ m r a => [m, r, a]
  | .extra _ m a => [m, a]
theorem cut_cE (e : En) : cutV (cE e) (some 2) none = (numsE e).map V.int := by cases e <;> rfl
theorem dNat (n : Nat) (m : Nat) : decide (V.int ((n : Nat) : Int) = V.int ((m : Nat) : Int)) = decide (n = m) := by
  by_cases h : n = m
  · rw [decide_eq_true h, h, decide_eq_true rfl]
  · rw [decide_eq_false h, decide_eq_false fun z => h (by injection z with z; omega)]
theorem succ_eq (n m : Nat) : decide (n + 1 = m + 1) = decide (n = m) := by
  by_cases h : n = m
  · rw [decide_eq_true h, h, decide_eq_true rfl]
  · rw [decide_eq_false h, decide_eq_false fun z => h (by omega)]

noncomputable def lnW (w0 p : Str) (m a r : Option Int) : Option (Str × Option En) := match m, a with
  | some m, some a => if (decide (0 ≤ a ∧ a ≤ 10000000000) && wB (inS sgL) p) = true then (match r with
    | some r => some (w0, some (.wage p m r a))
    | none => none) else none
  | _, _ => none
noncomputable def lnX (w0 p : Str) (m a : Option Int) : Option (Str × Option En) := match m, a with
  | some m, some a => if (decide (0 ≤ a ∧ a ≤ 10000000000) && wB (inS sgL) p) = true then some (w0, some (.extra p m a)) else none
  | _, _ => none
theorem ln_wage {w0 p mo rk am : Str} (hb : wB (inS sgM) w0 = true) : lnO [w0, ("wage" : Str), p, mo, rk, am] = lnW w0 p (readM mo) (readL am.cps.toList) (rnk rk) := by
  show (match ewO [("wage" : Str), p, mo, rk, am] with
    | some t => if (wB (inS sgM) w0 && thB t) = true then some (w0, t) else none
    | none => none) = _
  rw [ew_wage, hb]
  cases em : readM mo with
  | none => cases rnk rk <;> rfl
  | some m =>
    cases ea : readL am.cps.toList with
    | none => cases rnk rk <;> rfl
    | some a =>
      cases er : rnk rk with
      | none =>
        show none = if _ then none else none
        split <;> rfl
      | some r =>
        obtain ⟨n, n99, rfl, _⟩ := rnk_some er
        have hm := readM_in em
        show (if (true && (pmB p m a && decide ((0 : Int) ≤ (n : Nat) ∧ ((n : Nat) : Int) ≤ 99))) = true then some (w0, some (En.wage p m (n : Nat) a)) else none) = if (decide (0 ≤ a ∧ a ≤ 10000000000) && wB (inS sgL) p) = true then some (w0, some (En.wage p m (n : Nat) a)) else none
        unfold pmB
        rw [decide_eq_true (p := (0 : Int) ≤ (n : Nat) ∧ ((n : Nat) : Int) ≤ 99) ⟨by omega, by omega⟩, decide_eq_true hm, Bool.true_and, Bool.and_true, Bool.true_and, Bool.and_comm]
theorem ln_extra {w0 p mo am : Str} (hb : wB (inS sgM) w0 = true) : lnO [w0, ("extra" : Str), p, mo, am] = lnX w0 p (readM mo) (readL am.cps.toList) := by
  show (match ewO [("extra" : Str), p, mo, am] with
    | some t => if (wB (inS sgM) w0 && thB t) = true then some (w0, t) else none
    | none => none) = _
  rw [ew_extra, hb]
  cases em : readM mo with
  | none => rfl
  | some m =>
    cases ea : readL am.cps.toList with
    | none => rfl
    | some a =>
      have hm := readM_in em
      show (if (true && pmB p m a) = true then some (w0, some (En.extra p m a)) else none) = if (decide (0 ≤ a ∧ a ≤ 10000000000) && wB (inS sgL) p) = true then some (w0, some (En.extra p m a)) else none
      unfold pmB
      rw [decide_eq_true hm, Bool.true_and, Bool.true_and, Bool.and_comm]
noncomputable def strI : V → V
  | .int i => .str (toString i)
  | v => v
theorem rank_items : ((List.range 100).map fun k => V.int (0 + (k : Nat))).map strI = ranks.map V.str := by
  unfold ranks
  rw [List.map_map, List.map_map]
  refine List.map_congr_left fun k _ => ?_
  show V.str (toString ((0 : Int) + (k : Nat))) = V.str (numS (k : Nat))
  rw [Int.zero_add]
  rfl
theorem rank_int {n : Nat} (h : n ≤ 99) : intText? (numS (n : Nat)) = some ((n : Nat) : Int) := int_text (i := (n : Nat)) ⟨by omega, by omega⟩
theorem cut_strs (ws : List Str) (lo hi : Option Int) : ∃ us : List Str, cutV (ws.map V.str) lo hi = us.map V.str ∧ us.length ≤ ws.length ∧ ∀ u ∈ us, u ∈ ws := by
  unfold cutV
  refine ⟨(ws.drop _).take _, by rw [List.map_take, List.map_drop], ?_, fun u hu => List.mem_of_mem_drop (List.mem_of_mem_take hu)⟩
  rw [List.length_take, List.length_drop]
  omega
theorem join_le {zs : List Str} (h : ∀ z ∈ zs, z.length ≤ 4000) (hk : zs.length ≤ 12) : JoinOk " " zs = true ∧ (Txt.join " " zs).length ≤ 50000 := by
  obtain ⟨h1, h2⟩ := join_small (sep := " ") (m := 4000) (k := 12) h hk (by decide +kernel) rfl
  exact ⟨h1, by omega⟩
theorem ixN_mod {n : Nat} (h : 1 ≤ n) (x : Int) : ixN n (x % (n : Nat)) = some (x % (n : Nat)).toNat := by
  unfold ixN
  rw [if_pos (Int.emod_nonneg _ (by omega)), if_pos (Int.emod_lt_of_pos _ (by omega))]
theorem mem_set' {ws : List Str} {j : Nat} {v u : Str} (h : u ∈ ws.set j v) : u ∈ ws ∨ u = v := List.mem_or_eq_of_mem_set h
end Pg
set_option Elab.async false
set_option linter.all false
set_option maxRecDepth 100000
set_option maxHeartbeats 4000000
namespace K28
open PySem PySem.NumText L2 Pg
seal PE PA PT PW PS PSs PG PGs PI PIf PO PK
section
variable {P : Program} {w : World} {K : PySem.W.Frag} {mg : Str → Option Value} {base : Heap} {f : Addr} {fd : FuncData} {d : Nat → Addr} {cR : Addr}
set_option maxHeartbeats 8000000 in
theorem ok_lineO {cM : Addr} (F : Fun K "line_of" "line_of" (top 57) f fd) (G : Glb mg) (C1 : Cal P w K mg base (CXE P w) 5 "month_text" ["month"] (sp_month_text K cM)) (C2 : Cal P w K mg base CX0 3 "told_amount" ["amount"] sp_toldG) : FnOk P w K mg base CX0 6 f fd ["mark", "entry"] sp_lineO := by
  have nd : (["mark", "entry", "words"] : List Str).Nodup := by decide +kernel
  refine F.ok (N := ["mark", "entry", "words"]) ⟨rfl, rfl, rfl, by decide +kernel, rfl, by decide +kernel, by decide +kernel⟩ (fun vs H Q E h => ?_) (fun cdv A outer s H vs Q E hr h => ?_)
  · obtain ⟨k, v, t, rfl, _⟩ := h
    rfl
  · obtain ⟨k, v, t, rfl, hk, hv, ht, q⟩ := h
    refine ⟨_, (pss_cons (ps_if (pt_cmpR op_isN (pv 1) pe_non (nomark _)) (pss_one (ps_ret (pe_fstr (pj_fmt (pv 0) (pj_str pj_nil))))) pss_nil)
        (pss_cons (ps_set (i := 2) nd rfl (Or.inl rfl) (pe_lstS (pa_cons (pv 0) (pa_cons (pe_at ix_tup (pv 1) pe_int) (pa_cons (pe_at ix_tup (pv 1) pe_int) (pa_cons (pe_cal C1 hr (by decide) passF (pa_cons (pe_at ix_tup (pv 1) pe_int) pa_nil)) pa_nil))))))
        (pss_cons (ps_if (pt_cmpR op_eq (pe_at ix_tup (pv 1) pe_int) pe_str (nomark _)) (pss_one (ps_expr (pe_bm PySem.F.plainAttrs_list PySem.F.slot_list_append PySem.F.type_list_append mt_append (pv 2) (pa_cons (pe_callTy call_str_int rfl G.str boot_str (pa_cons (pe_at ix_tup (pv 1) pe_int) pa_nil)) pa_nil)))) pss_nil)
        (pss_cons (ps_expr (pe_bm PySem.F.plainAttrs_list PySem.F.slot_list_append PySem.F.type_list_append mt_append (pv 2) (pa_cons (pe_cal C2 hr (by decide) pass0 (pa_cons (pe_at ix_tup (pv 1) (pe_un un_neg pe_int)) pa_nil)) pa_nil)))
        (pss_one (ps_ret (pe_bm PySem.F.plainAttrs_str PySem.F.slot_str_join PySem.F.type_str_join mt_join pe_str (pa_cons (pv 2) pa_nil)))))))), ?_⟩
    have k8 := hk.hi
    have jo := (line_ok hk ht).1
    cases t with
    | none =>
      have hv : v = .non := hv
      subst hv
      refine ⟨_, rfl, rfl, _, rfl, iteT ⟨_, rfl, k, rfl, by omega, _, rfl, by decide +kernel, ?_⟩⟩
      show Q (.str (joinS [k, " out"])) H
      rw [joinS_two, ← line_out]
      exact q H (Same.refl _)
    | some e =>
      obtain ⟨a, rfl, ha⟩ := hv
      refine ⟨_, rfl, rfl, _, rfl, iteF ?_⟩
      cases e with
      | wage p m r am =>
        obtain ⟨h1, h2, h3, h4, h5, h6, h7⟩ := ht
        have ab : absI am < 10 ^ 50 := by unfold absI; split <;> omega
        refine ⟨_, rfl, _, rfl, a, _, _, _, rfl, rfl, SqT.of ha, rfl, _, rfl, a, _, _, _, rfl, rfl, SqT.of ha, rfl, _, rfl, a, _, _, _, rfl, rfl, SqT.of ha, rfl, _, rfl, .inl ⟨m, rfl, h2, h3, lenOk rfl, fun l H1 s1 n1 e1 => ?_⟩⟩
        have ha1 := s1 _ _ ha
        have sA : ∀ {H2 : Hp} {x : HO}, Same H H2 → Same H (upd H2 l x) := fun {H2 x} s y o hy => by rw [upd_ne (ne_of_none hy n1)]; exact s _ _ hy
        refine ⟨_, rfl, a, _, _, _, rfl, rfl, SqT.of ha1, rfl, rfl, _, rfl, iteSt ?_⟩
        refine ⟨_, rfl, .inl ⟨rfl, _, SqL.of e1⟩, _, rfl, a, _, _, _, rfl, rfl, SqT.of ha1, rfl, r, rfl, log_small h4 (by omega), l, _, _, rfl, rfl, e1, by rw [sizeLine_eq]; show 4 < 16777216; decide, ?_⟩
        have ha2 := sA s1 (x := .lst ([V.str k, .str "wage", .str p, .str (monthS m)] ++ [.str (numS r)])) _ _ ha
        have e2 : (upd H1 l (.lst ([V.str k, .str "wage", .str p, .str (monthS m)] ++ [.str (numS r)]))) l = some (.lst ([k, "wage", p, monthS m, numS r].map V.str)) := upd_same
        have s2 := sA s1 (x := .lst ([V.str k, .str "wage", .str p, .str (monthS m)] ++ [.str (numS r)]))
        refine ⟨_, rfl, .inl ⟨rfl, _, SqL.of e2⟩, _, rfl, _, rfl, a, _, _, _, rfl, rfl, SqT.of ha2, rfl, am, rfl, ab, fun H3 s3 => ⟨l, _, _, rfl, rfl, s3 _ _ e2, by rw [sizeLine_eq]; show 5 < 16777216; decide, ?_⟩⟩
        exact ⟨rfl, _, rfl, _, k :: rowE (some (.wage p m r am)), l, rfl, rfl, SqL.of upd_same, jo, q _ (sA (s2.trans s3))⟩
      | extra p m am =>
        obtain ⟨h1, h2, h3, h6, h7⟩ := ht
        refine ⟨_, rfl, _, rfl, a, _, _, _, rfl, rfl, SqT.of ha, rfl, _, rfl, a, _, _, _, rfl, rfl, SqT.of ha, rfl, _, rfl, a, _, _, _, rfl, rfl, SqT.of ha, rfl, _, rfl, .inl ⟨m, rfl, h2, h3, lenOk rfl, fun l H1 s1 n1 e1 => ?_⟩⟩
        have ha1 := s1 _ _ ha
        have ab : absI am < 10 ^ 50 := by unfold absI; split <;> omega
        have sA : ∀ {H2 : Hp} {x : HO}, Same H H2 → Same H (upd H2 l x) := fun {H2 x} s y o hy => by rw [upd_ne (ne_of_none hy n1)]; exact s _ _ hy
        refine ⟨_, rfl, a, _, _, _, rfl, rfl, SqT.of ha1, rfl, rfl, _, rfl, iteSf (by decide +kernel) ?_⟩
        refine ⟨_, rfl, .inl ⟨rfl, _, SqL.of e1⟩, _, rfl, _, rfl, a, _, _, _, rfl, rfl, SqT.of ha1, rfl, am, rfl, ab, fun H2 s2 => ⟨l, _, _, rfl, rfl, s2 _ _ e1, by rw [sizeLine_eq]; show 4 < 16777216; decide, ?_⟩⟩
        exact ⟨rfl, _, rfl, _, k :: rowE (some (.extra p m am)), l, rfl, rfl, SqL.of upd_same, jo, q _ (sA (s1.trans s2))⟩
set_option maxHeartbeats 8000000 in
theorem ok_lineL (F : Fun K "_law_line" "_law_line" (top 70) f fd) (G : Glb mg) (C1 : Cal P w K mg base CX0 1 "_law_month_text" ["_law_month"] sp_textL) (C2 : Cal P w K mg base CX0 1 "_law_told" ["_law_amount"] sp_toldLG) : FnOk P w K mg base CX0 2 f fd ["_law_mark", "_law_entry_here"] sp_lineL := by
  have nd : (["_law_mark", "_law_entry_here", "_law_line_here"] : List Str).Nodup := by decide +kernel
  refine F.ok (N := ["_law_mark", "_law_entry_here", "_law_line_here"]) ⟨rfl, rfl, rfl, by decide +kernel, rfl, by decide +kernel, by decide +kernel⟩ (fun vs H Q E h => ?_) (fun cdv A outer s H vs Q E hr h => ?_)
  · obtain ⟨k, v, t, rfl, _⟩ := h
    rfl
  · obtain ⟨k, v, t, rfl, hk, hv, ht, q⟩ := h
    refine ⟨_, (pss_cons (ps_if (pt_cmpR op_isN (pv 1) pe_non (nomark _)) (pss_one (ps_ret (pe_op op_add_str (pv 0) pe_str))) pss_nil)
        (pss_cons (ps_set (i := 2) nd rfl (Or.inl rfl) (pe_op op_add_str (pe_op op_add_str (pe_op op_add_str (pe_op op_add_str (pe_op op_add_str (pv 0) pe_str) (pe_at ix_tup (pv 1) pe_int)) pe_str) (pe_at ix_tup (pv 1) pe_int)) pe_str))
        (pss_cons (ps_set (i := 2) nd rfl (Or.inl rfl) (pe_op op_add_str (pv 2) (pe_cal C1 hr (by decide) pass0 (pa_cons (pe_at ix_tup (pv 1) pe_int) pa_nil))))
        (pss_cons (ps_if (pt_cmpR op_eq (pe_at ix_tup (pv 1) pe_int) pe_str (nomark _)) (pss_one (ps_set (i := 2) nd rfl (Or.inl rfl) (pe_op op_add_str (pe_op op_add_str (pv 2) pe_str) (pe_callTy call_str_int rfl G.str boot_str (pa_cons (pe_at ix_tup (pv 1) pe_int) pa_nil))))) pss_nil)
        (pss_one (ps_ret (pe_op op_add_str (pe_op op_add_str (pv 2) pe_str) (pe_cal C2 hr (by decide) pass0 (pa_cons (pe_at ix_tup (pv 1) (pe_op op_sub (pe_callB call_len_seq rfl G.len boot_len (pa_cons (pv 1) pa_nil)) pe_int)) pa_nil))))))))), ?_⟩
    have k8 := hk.hi
    have s1 : (" " : Str).length = 1 := by decide +kernel
    have w4 : ("wage" : Str).length = 4 := by decide +kernel
    have x5 : ("extra" : Str).length = 5 := by decide +kernel
    have o4 : (" out" : Str).length = 4 := by decide +kernel
    cases t with
    | none =>
      have hv : v = .non := hv
      subst hv
      refine ⟨_, rfl, rfl, _, rfl, iteT ⟨_, rfl, _, _, rfl, rfl, by rw [sizeLine_eq]; omega, ?_⟩⟩
      rw [← line_out]
      exact q H (Same.refl _)
    | some e =>
      obtain ⟨a, rfl, ha⟩ := hv
      refine ⟨_, rfl, rfl, _, rfl, iteF ?_⟩
      cases e with
      | wage p m r am =>
        obtain ⟨h1, h2, h3, h4, h5, h6, h7⟩ := ht
        have ab : absI am < 10 ^ 50 := by unfold absI; split <;> omega
        have p8 := h1.hi
        have m7 := month_len h2 h3
        have r2 := rank_len h4 h5
        have t12 := toldl_len h6 h7
        refine ⟨_, rfl, _, _, rfl, rfl, by simp only [app_len, sizeLine_eq]; omega, _, rfl, a, _, _, _, rfl, rfl, SqT.of ha, rfl, _, _, rfl, rfl, by simp only [app_len, sizeLine_eq]; omega, _, _, rfl, rfl, by simp only [app_len, sizeLine_eq]; omega, _, rfl, a, _, _, _, rfl, rfl, SqT.of ha, rfl, _, _, rfl, rfl, by simp only [app_len, sizeLine_eq]; omega, _, _, rfl, rfl, by simp only [app_len, sizeLine_eq]; omega, ?_⟩
        refine ⟨_, rfl, _, rfl, a, _, _, _, rfl, rfl, SqT.of ha, rfl, m, rfl, h2, h3, _, _, rfl, rfl, by simp only [app_len, sizeLine_eq]; omega, ?_⟩
        refine ⟨_, rfl, a, _, _, _, rfl, rfl, SqT.of ha, rfl, rfl, _, rfl, iteSt ⟨_, rfl, _, _, rfl, rfl, by simp only [app_len, sizeLine_eq]; omega, _, rfl, a, _, _, _, rfl, rfl, SqT.of ha, rfl, r, rfl, log_small h4 (by omega), _, _, rfl, rfl, (by show _ + (numS r).length ≤ _; simp only [app_len, sizeLine_eq]; omega), ?_⟩⟩
        refine ⟨_, rfl, _, _, rfl, rfl, (by simp only [app_len, sizeLine_eq]; show _ + (numS r).length + _ ≤ _; omega), _, rfl, _, rfl, a, _, rfl, .inr (SqT.of ha), _, _, rfl, rfl, a, _, _, _, rfl, rfl, SqT.of ha, rfl, am, rfl, ab, _, _, rfl, rfl, (by simp only [app_len, sizeLine_eq]; show _ + (numS r).length + _ + _ ≤ _; omega), ?_⟩
        have := q H (Same.refl _)
        rw [line_wage] at this
        exact this
      | extra p m am =>
        obtain ⟨h1, h2, h3, h6, h7⟩ := ht
        have ab : absI am < 10 ^ 50 := by unfold absI; split <;> omega
        have p8 := h1.hi
        have m7 := month_len h2 h3
        have t12 := toldl_len h6 h7
        refine ⟨_, rfl, _, _, rfl, rfl, by simp only [app_len, sizeLine_eq]; omega, _, rfl, a, _, _, _, rfl, rfl, SqT.of ha, rfl, _, _, rfl, rfl, by simp only [app_len, sizeLine_eq]; omega, _, _, rfl, rfl, by simp only [app_len, sizeLine_eq]; omega, _, rfl, a, _, _, _, rfl, rfl, SqT.of ha, rfl, _, _, rfl, rfl, by simp only [app_len, sizeLine_eq]; omega, _, _, rfl, rfl, by simp only [app_len, sizeLine_eq]; omega, ?_⟩
        refine ⟨_, rfl, _, rfl, a, _, _, _, rfl, rfl, SqT.of ha, rfl, m, rfl, h2, h3, _, _, rfl, rfl, by simp only [app_len, sizeLine_eq]; omega, ?_⟩
        refine ⟨_, rfl, a, _, _, _, rfl, rfl, SqT.of ha, rfl, rfl, _, rfl, iteSf (by decide +kernel) ?_⟩
        refine ⟨_, rfl, _, _, rfl, rfl, by simp only [app_len, sizeLine_eq]; omega, _, rfl, _, rfl, a, _, rfl, .inr (SqT.of ha), _, _, rfl, rfl, a, _, _, _, rfl, rfl, SqT.of ha, rfl, am, rfl, ab, _, _, rfl, rfl, by simp only [app_len, sizeLine_eq]; omega, ?_⟩
        have := q H (Same.refl _)
        rw [line_extra] at this
        exact this
end
end K28
set_option Elab.async false
set_option linter.all false
set_option maxRecDepth 100000
set_option maxHeartbeats 4000000
namespace K28
open PySem PySem.NumText L2 Pg
seal PE PA PT PW PS PSs PG PGs PI PIf PO PK
section
variable {P : Program} {w : World} {K : PySem.W.Frag} {mg : Str → Option Value} {base : Heap} {f : Addr} {fd : FuncData} {d : Nat → Addr} {cR : Addr}
set_option maxHeartbeats 8000000 in
theorem ok_wordL (F : Fun K "_law_word" "_law_word" (top 64) f fd) (G : Glb mg) : FnOk P w K mg base CX0 1 f fd ["_law_number", "_law_signs"] sp_wordL := by
  have nd : (["_law_number", "_law_signs", "_law_size", "_law_found", "_law_k"] : List Str).Nodup := by decide +kernel
  refine F.ok (N := ["_law_number", "_law_signs", "_law_size", "_law_found", "_law_k"]) ⟨rfl, rfl, rfl, by decide +kernel, rfl, by decide +kernel, by decide +kernel⟩ (fun vs H Q E h => ?_) (fun cdv A outer s H vs Q E hr h => ?_)
  · obtain ⟨n, sg, ok, rfl, _⟩ := h
    rfl
  · obtain ⟨n, sg, ok, rfl, n0, n1, al, q⟩ := h
    refine ⟨_, (pss_cons (ps_set (i := 2) nd rfl (Or.inl rfl) (pe_op op_add pe_int (pe_op op_mod (pv 0) pe_int)))
        (pss_cons (ps_set (i := 3) nd rfl (Or.inl rfl) pe_str)
        (pss_cons (ps_for PassesOwn.never rfl (pi_range1 rfl G.range (pa_cons (pv 2) pa_nil)) (pg_name (i := 4) nd rfl (Or.inl rfl)) (pss_one (ps_set (i := 3) nd rfl (Or.inl rfl) (pe_op op_add_str (pv 3) (pe_at ix_str (pv 1) (pe_op op_mod (pe_op op_add (pe_op op_fdiv (pv 0) pe_int) (pe_op op_mul (pe_op op_mul (pe_op op_add (pv 4) pe_int) (pe_op op_add (pv 4) pe_int)) (pe_op op_add pe_int (pe_op op_mod (pv 0) pe_int)))) (pe_callB call_len_str rfl G.len boot_len (pa_cons (pv 1) pa_nil))))))))
        (pss_one (ps_ret (pv 3)))))), ?_⟩
    refine ⟨_, rfl, _, _, rfl, rfl, (by show (0 : Int) < 8; decide), _, _, rfl, rfl, ?_⟩
    have b0 : 0 ≤ n % 8 := Int.emod_nonneg _ (by decide)
    have b1 : n % 8 < 8 := Int.emod_lt_of_pos _ (by decide)
    have al1 := al.lo
    have al2 := al.hi
    refine ⟨_, rfl, _, rfl, (by show -(2 ^ 62) ≤ 1 + n % 8; omega), (by show 1 + n % 8 < 2 ^ 62; omega), for_range2 (fun i σ H' => ∃ (z : Str) (x4 : Option V), σ = [some (.int n), some (.str sg), some (.int (1 + n % 8)), some (.str z), x4] ∧ H' = H ∧ z.cps.toList.length = i ∧ z.cps.toList.all ok = true) ⟨"", _, rfl, rfl, by decide +kernel, by rw [show ("" : Str).cps.toList = [] by decide +kernel]; rfl⟩ ?_ ?_⟩
    · rintro i σ H1 hi ⟨z, x4, rfl, rfl, zl, za⟩ E1 k1
      have hi : i < (1 + n % 8).toNat := hi
      have i8 : i < 9 := by omega
      obtain ⟨c, ec, hc⟩ := al.at_ ((n / 8 + (((0 : Int) + (i : Nat) + 1) * ((0 : Int) + (i : Nat) + 1)) * (1 + n % 997)) % ((sg.length : Nat) : Int)) (Int.emod_nonneg _ (by omega)) (Int.emod_lt_of_pos _ (by omega))
      have c0 : 0 ≤ n % 997 := Int.emod_nonneg _ (by decide)
      have c1 : n % 997 < 997 := Int.emod_lt_of_pos _ (by decide)
      refine ⟨_, rfl, _, rfl, _, rfl, _, _, rfl, rfl, ⟨by decide, by decide⟩, _, rfl, _, _, rfl, rfl, _, rfl, _, _, rfl, rfl, _, _, rfl, rfl, .inl ⟨by show -(2 ^ 64) < (0 : Int) + (i : Nat) + 1; omega, by show (0 : Int) + (i : Nat) + 1 < 2 ^ 64; omega⟩, _, rfl, _, _, rfl, rfl, (by show (0 : Int) < 997; decide), _, _, rfl, rfl, _, _, rfl, rfl, .inr ⟨by show -(2 ^ 64) < 1 + n % 997; omega, by show 1 + n % 997 < 2 ^ 64; omega⟩, _, _, rfl, rfl, _, rfl, sg, rfl, fitS al2 rfl, _, _, rfl, rfl, (by show (0 : Int) < ((sg.length : Nat) : Int); omega), _, _, c, rfl, rfl, fitS al2 rfl, ec, _, _, rfl, rfl, ?_, ?_⟩
      · rw [len_codes, zl, sizeLine_eq]
        show i + 1 ≤ _
        omega
      · refine k1 _ _ ⟨_, _, rfl, rfl, ?_, ?_⟩
        · rw [app_codes, List.length_append, zl]
          rfl
        · rw [app_codes, List.all_append, za]
          show (true && (ok c && true)) = true
          rw [hc]
          rfl
    · rintro σ H1 ⟨z, x4, rfl, rfl, zl, za⟩
      have zl : z.cps.toList.length = (1 + n % 8).toNat := zl
      exact ⟨_, rfl, q z ⟨by rw [len_codes]; omega, by rw [len_codes]; omega, za⟩⟩
end
end K28
set_option Elab.async false
set_option linter.all false
set_option maxRecDepth 100000
set_option maxHeartbeats 4000000
namespace K28
open PySem PySem.NumText L2 Pg
seal PE PA PT PW PS PSs PG PGs PI PIf PO PK
section
variable {P : Program} {w : World} {K : PySem.W.Frag} {mg : Str → Option Value} {base : Heap} {f : Addr} {fd : FuncData} {d : Nat → Addr} {cR : Addr}
set_option maxHeartbeats 16000000 in
theorem ok_entL (F : Fun K "_law_entry" "_law_entry" (top 65) f fd) (G : Glb mg) (C1 : Cal P w K mg base CX0 2 "_law_mixed" ["_law_script", "_law_k"] (sp_mixed K)) (C2 : Cal P w K mg base CX0 1 "_law_word" ["_law_number", "_law_signs"] sp_wordL) : FnOk P w K mg base CX0 3 f fd ["_law_script", "_law_first"] (sp_entL K) := by
  have nd : (["_law_script", "_law_first", "_law_number", "_law_mark", "_law_person", "_law_more", "_law_month", "_law_cell_here", "_law_amount", "_law_rank"] : List Str).Nodup := by decide +kernel
  refine F.ok (N := ["_law_script", "_law_first", "_law_number", "_law_mark", "_law_person", "_law_more", "_law_month", "_law_cell_here", "_law_amount", "_law_rank"]) ⟨rfl, rfl, rfl, by decide +kernel, rfl, by decide +kernel, by decide +kernel⟩ (fun vs H Q E h => ?_) (fun cdv A outer s H vs Q E hr h => ?_)
  · obtain ⟨a, k, ns, rfl, _⟩ := h
    rfl
  · obtain ⟨a, k, ns, rfl, hs, k1, q⟩ := h
    refine ⟨_, (pss_cons (ps_set (i := 2) nd rfl (Or.inl rfl) (pe_cal C1 hr (by decide) pass0 (pa_cons (pv 0) (pa_cons (pv 1) pa_nil))))
        (pss_cons (ps_set (i := 3) nd rfl (Or.inl rfl) (pe_cal C2 hr (by decide) pass0 (pa_cons (pe_cal C1 hr (by decide) pass0 (pa_cons (pv 0) (pa_cons (pe_op op_add (pv 1) pe_int) pa_nil))) (pa_cons pe_str pa_nil))))
        (pss_cons (ps_set (i := 4) nd rfl (Or.inl rfl) (pe_cal C2 hr (by decide) pass0 (pa_cons (pe_cal C1 hr (by decide) pass0 (pa_cons (pv 0) (pa_cons (pe_op op_add (pv 1) pe_int) pa_nil))) (pa_cons pe_str pa_nil))))
        (pss_cons (ps_set (i := 5) nd rfl (Or.inl rfl) (pe_cal C1 hr (by decide) pass0 (pa_cons (pv 0) (pa_cons (pe_op op_add (pv 1) pe_int) pa_nil))))
        (pss_cons (ps_set (i := 6) nd rfl (Or.inl rfl) (pe_at ix_list (pe_lstS (pa_cons (pe_op op_mod (pe_op op_fdiv (pv 5) pe_int) pe_int) (pa_cons (pe_op op_mod (pe_op op_fdiv (pv 5) pe_int) pe_int) (pa_cons (pe_op op_sub pe_int (pe_op op_mod (pe_op op_fdiv (pv 5) pe_int) pe_int)) pa_nil)))) (pe_op op_mod (pv 5) pe_int)))
        (pss_cons (ps_set (i := 7) nd rfl (Or.inl rfl) (pe_cal C1 hr (by decide) pass0 (pa_cons (pv 0) (pa_cons (pe_op op_add (pv 1) pe_int) pa_nil))))
        (pss_cons (ps_set (i := 8) nd rfl (Or.inl rfl) (pe_at ix_list (pe_lstS (pa_cons (pe_op op_mod (pe_op op_mul (pe_op op_fdiv (pv 7) pe_int) (pv 7)) (pe_op op_add (pe_op op_pow pe_int pe_int) pe_int)) (pa_cons (pe_op op_pow pe_int pe_int) (pa_cons pe_int (pa_cons (pe_op op_mod (pv 7) pe_int) (pa_cons (pe_op op_mod (pv 7) (pe_op op_pow pe_int pe_int)) (pa_cons (pe_op op_sub (pe_op op_pow pe_int pe_int) pe_int) pa_nil))))))) (pe_op op_mod (pv 7) pe_int)))
        (pss_cons (ps_if (pt_cmpR op_eq (pe_op op_mod (pv 2) pe_int) pe_int (nomark _)) (pss_one (ps_ret (pe_tupS (pa_cons (pv 3) (pa_cons pe_non pa_nil))))) pss_nil)
        (pss_cons (ps_if (pt_cmpR op_lt (pe_op op_mod (pv 2) pe_int) pe_int (nomark _)) (pss_one (ps_ret (pe_tupS (pa_cons (pv 3) (pa_cons (pe_tupS (pa_cons pe_str (pa_cons (pv 4) (pa_cons (pv 6) (pa_cons (pv 8) pa_nil))))) pa_nil))))) pss_nil)
        (pss_cons (ps_set (i := 9) nd rfl (Or.inl rfl) (pe_at ix_list (pe_lstS (pa_cons pe_int (pa_cons pe_int (pa_cons (pe_op op_mod (pe_op op_fdiv (pv 2) pe_int) pe_int) (pa_cons (pe_op op_mod (pe_op op_fdiv (pv 2) pe_int) pe_int) (pa_cons (pe_op op_mod (pe_op op_fdiv (pv 2) pe_int) pe_int) pa_nil)))))) (pe_op op_mod (pe_op op_fdiv (pv 2) pe_int) pe_int)))
        (pss_one (ps_ret (pe_tupS (pa_cons (pv 3) (pa_cons (pe_tupS (pa_cons pe_str (pa_cons (pv 4) (pa_cons (pv 6) (pa_cons (pv 9) (pa_cons (pv 8) pa_nil)))))) pa_nil))))))))))))))), ?_⟩
    dsimp (config := { proj := false, iota := false, beta := false, eta := false }) only [cxOf_K, nox_K]
    have alP : Alph "zyxwvutsrqponmlkjihgfedcba" (inS sgL) := by
      have h := alph (sg := "zyxwvutsrqponmlkjihgfedcba") (by decide +kernel) (by decide +kernel)
      have e : ∀ c, inS "zyxwvutsrqponmlkjihgfedcba" c = inS sgL c := fun c => by
        unfold inS
        have e1 : ("zyxwvutsrqponmlkjihgfedcba" : Str).cps.toList = (List.range 26).map fun i => 122 - i := by decide +kernel
        have e2 : sgL.cps.toList = (List.range 26).map fun i => 97 + i := by decide +kernel
        rw [e1, e2, Bool.eq_iff_iff, List.contains_iff_mem, List.contains_iff_mem]
        simp only [List.mem_map, List.mem_range]
        exact ⟨fun ⟨i, h, z⟩ => ⟨25 - i, by omega, by omega⟩, fun ⟨i, h, z⟩ => ⟨25 - i, by omega, by omega⟩⟩
      rwa [show inS "zyxwvutsrqponmlkjihgfedcba" = inS sgL from funext e] at h
    refine ⟨_, rfl, _, rfl, a, _, ns, rfl, hs, by omega, by omega, ?_⟩
    obtain ⟨n, hn⟩ : ∃ n, mixZ ns (k : Nat) = n := ⟨_, rfl⟩
    have n0 : 0 ≤ n := hn ▸ mixZ_nn _ _
    have n1 : n < 2147483629 := hn ▸ mixZ_lt _ _
    rw [hn]
    refine ⟨_, rfl, _, rfl, _, _, rfl, rfl, a, _, ns, rfl, hs, by show 0 ≤ ((k : Nat) : Int) + 1; omega, by show ((k : Nat) : Int) + 1 ≤ 1000; omega, _, sgM, _, rfl, mixZ_nn _ _, mixZ_lt _ _, alM, fun mk hmk => ?_⟩
    refine ⟨_, rfl, _, rfl, _, _, rfl, rfl, a, _, ns, rfl, hs, by show 0 ≤ ((k : Nat) : Int) + 2; omega, by show ((k : Nat) : Int) + 2 ≤ 1000; omega, _, _, _, rfl, mixZ_nn _ _, mixZ_lt _ _, alP, fun pe hpe => ?_⟩
    refine ⟨_, rfl, _, rfl, _, _, rfl, rfl, a, _, ns, rfl, hs, by show 0 ≤ ((k : Nat) : Int) + 3; omega, by show ((k : Nat) : Int) + 3 ≤ 1000; omega, ?_⟩
    dsimp only
    have mo0 := mixZ_nn ns ((k : Nat) + 3)
    have mo1 := mixZ_lt ns ((k : Nat) + 3)
    generalize mixZ ns ((k : Nat) + 3) = mo at mo0 mo1
    refine ⟨_, rfl, _, _, rfl, rfl, ⟨by decide, by decide⟩, _, _, rfl, rfl, (by show (0 : Int) < 120000; decide), _, rfl, _, _, rfl, rfl, ⟨by decide, by decide⟩, _, _, rfl, rfl, (by show (0 : Int) < 13; decide), _, rfl, _, _, rfl, rfl, ⟨by decide, by decide⟩, _, _, rfl, rfl, (by show (0 : Int) < 13; decide), _, _, rfl, rfl, lenOk rfl, fun l1 H1 s1 e0 e1 => ?_⟩
    obtain ⟨v1, ev1, mv1⟩ := at_any (xs := [V.int (mo / 3 % 120000), .int (mo / 3 % 13), .int (119999 - mo / 3 % 13)]) (i := mo % 3) (Int.emod_nonneg _ (by decide)) (Int.emod_lt_of_pos _ (by decide))
    obtain ⟨m, rfl, m0, m1⟩ : ∃ m : Int, v1 = .int m ∧ 0 ≤ m ∧ m ≤ 119999 := by
      simp only [List.mem_cons, List.not_mem_nil, or_false] at mv1
      rcases mv1 with rfl | rfl | rfl
      · exact ⟨_, rfl, by omega, by omega⟩
      · exact ⟨_, rfl, by omega, by omega⟩
      · exact ⟨_, rfl, by omega, by omega⟩
    refine ⟨_, rfl, _, _, rfl, rfl, (by show (0 : Int) < 3; decide), l1, _, _, _, rfl, rfl, SqL.of e1, ev1, ?_⟩
    refine ⟨_, rfl, _, rfl, _, _, rfl, rfl, a, _, ns, rfl, s1.seq hs, by show 0 ≤ ((k : Nat) : Int) + 4; omega, by show ((k : Nat) : Int) + 4 ≤ 1000; omega, ?_⟩
    dsimp only
    have c0 := mixZ_nn ns ((k : Nat) + 4)
    have c1 := mixZ_lt ns ((k : Nat) + 4)
    generalize mixZ ns ((k : Nat) + 4) = c at c0 c1
    refine ⟨_, rfl, _, _, rfl, rfl, ⟨by decide, by decide⟩, _, rfl, _, _, rfl, rfl, .inr ⟨by show -(2 ^ 64) < c; omega, by show c < 2 ^ 64; omega⟩, _, _, rfl, rfl, ⟨by decide, by decide, by decide⟩, _, _, rfl, rfl, _, _, rfl, rfl, (by show (0 : Int) < (10 : Int) ^ (10 : Int).toNat + 1; decide), _, _, rfl, rfl, ⟨by decide, by decide, by decide⟩, _, rfl, _, _, rfl, rfl, (by show (0 : Int) < 100; decide), _, rfl, _, _, rfl, rfl, ⟨by decide, by decide, by decide⟩, _, _, rfl, rfl, (by show (0 : Int) < (10 : Int) ^ (6 : Int).toNat; decide), _, _, rfl, rfl, ⟨by decide, by decide, by decide⟩, _, _, rfl, rfl, lenOk rfl, fun l2 H2 s2 f0 e2 => ?_⟩
    have t10 : (10 : Int) ^ (10 : Int).toNat = 10000000000 := by decide
    have t6 : (10 : Int) ^ (6 : Int).toNat = 1000000 := by decide
    rw [t10, t6] at e2
    obtain ⟨v2, ev2, mv2⟩ := at_any (xs := [V.int (c / 6 * c % (10000000000 + 1)), .int 10000000000, .int 0, .int (c % 100), .int (c % 1000000), .int (10000000000 - 1)]) (i := c % 6) (Int.emod_nonneg _ (by decide)) (Int.emod_lt_of_pos _ (by decide))
    obtain ⟨am, rfl, a0, a1⟩ : ∃ am : Int, v2 = .int am ∧ 0 ≤ am ∧ am ≤ 10000000000 := by
      have z0 : 0 ≤ c / 6 * c % (10000000000 + 1) := Int.emod_nonneg _ (by decide)
      have z1 : c / 6 * c % (10000000000 + 1) < 10000000001 := Int.emod_lt_of_pos _ (by decide)
      generalize c / 6 * c % (10000000000 + 1) = zz at mv2 z0 z1
      simp only [List.mem_cons, List.not_mem_nil, or_false] at mv2
      rcases mv2 with rfl | rfl | rfl | rfl | rfl | rfl
      · exact ⟨_, rfl, by omega, by omega⟩
      · exact ⟨_, rfl, by omega, by omega⟩
      · exact ⟨_, rfl, by omega, by omega⟩
      · exact ⟨_, rfl, by omega, by omega⟩
      · exact ⟨_, rfl, by omega, by omega⟩
      · exact ⟨_, rfl, by omega, by omega⟩
    refine ⟨_, rfl, _, _, rfl, rfl, (by show (0 : Int) < 6; decide), l2, _, _, _, rfl, rfl, SqL.of e2, ev2, ?_⟩
    have S2 := s1.trans s2
    refine ⟨_, rfl, _, _, rfl, rfl, (by show (0 : Int) < 6; decide), rfl, _, rfl, ite2 (fun e => ?_) (fun e => ?_)⟩
    · exact ⟨_, rfl, lenOk rfl, fun l3 H3 s3 g0 e3 => q mk none l3 H3 hmk trivial (S2.trans s3) ⟨_, e3, rfl⟩⟩
    refine ⟨_, rfl, _, _, rfl, rfl, (by show (0 : Int) < 6; decide), _, _, rfl, rfl, _, rfl, ite2 (fun e => ?_) (fun e => ?_)⟩
    · exact ⟨_, rfl, _, rfl, _, rfl, _, rfl, lenOk rfl, fun l3 H3 s3 g0 e3 => ⟨lenOk rfl, fun l4 H4 s4 g4 e4 => q mk (some (.extra pe m am)) l4 H4 hmk ⟨hpe, m0, m1, a0, a1⟩ (S2.trans (s3.trans s4)) ⟨_, e4, l3, rfl, s4 _ _ e3⟩⟩⟩
    refine ⟨_, rfl, _, _, rfl, rfl, ⟨by decide, by decide⟩, _, _, rfl, rfl, (by show (0 : Int) < 100; decide), _, rfl, _, _, rfl, rfl, ⟨by decide, by decide⟩, _, _, rfl, rfl, (by show (0 : Int) < 10; decide), _, rfl, _, _, rfl, rfl, ⟨by decide, by decide⟩, _, _, rfl, rfl, (by show (0 : Int) < 100; decide), lenOk rfl, fun l3 H3 s3 g0 e3 => ?_⟩
    obtain ⟨v3, ev3, mv3⟩ := at_any (xs := [V.int 0, .int 99, .int (n / 30 % 100), .int (n / 30 % 10), .int (n / 30 % 100)]) (i := n / 6 % 5) (Int.emod_nonneg _ (by decide)) (Int.emod_lt_of_pos _ (by decide))
    obtain ⟨rk, rfl, r0, r1⟩ : ∃ rk : Int, v3 = .int rk ∧ 0 ≤ rk ∧ rk ≤ 99 := by
      simp only [List.mem_cons, List.not_mem_nil, or_false] at mv3
      rcases mv3 with rfl | rfl | rfl | rfl | rfl
      · exact ⟨_, rfl, by omega, by omega⟩
      · exact ⟨_, rfl, by omega, by omega⟩
      · exact ⟨_, rfl, by omega, by omega⟩
      · exact ⟨_, rfl, by omega, by omega⟩
      · exact ⟨_, rfl, by omega, by omega⟩
    refine ⟨_, rfl, _, _, rfl, rfl, ⟨by decide, by decide⟩, _, _, rfl, rfl, (by show (0 : Int) < 5; decide), l3, _, _, _, rfl, rfl, SqL.of e3, ev3, ?_⟩
    have S3 := S2.trans s3
    exact ⟨_, rfl, _, rfl, _, rfl, _, rfl, _, rfl, lenOk rfl, fun l4 H4 s4 g4 e4 => ⟨lenOk rfl, fun l5 H5 s5 g5 e5 => q mk (some (.wage pe m rk am)) l5 H5 hmk ⟨hpe, m0, m1, r0, r1, a0, a1⟩ (S3.trans (s4.trans s5)) ⟨_, e5, l4, rfl, s5 _ _ e4⟩⟩⟩
end
end K28
set_option Elab.async false
set_option linter.all false
set_option maxRecDepth 100000
set_option maxHeartbeats 4000000
namespace K28
open PySem PySem.NumText L2 Pg
seal PE PA PT PW PS PSs PG PGs PI PIf PO PK
section
variable {P : Program} {w : World} {K : PySem.W.Frag} {mg : Str → Option Value} {base : Heap} {f : Addr} {fd : FuncData} {d : Nat → Addr} {cR : Addr}
set_option maxHeartbeats 8000000 in
theorem ok_isOf (F : Fun K "_law_is_of" "_law_is_of" (top 71) f fd) (G : Glb mg) : FnOk P w K mg base CX0 1 f fd ["_law_word_here", "_law_signs"] sp_isOf := by
  have nc : (["_law_sign", "_law_signs"] : List Str).Nodup := by decide +kernel
  refine F.ok (N := ["_law_word_here", "_law_signs"]) ⟨rfl, rfl, rfl, by decide +kernel, rfl, by decide +kernel, by decide +kernel⟩ (fun vs H Q E h => ?_) (fun cdv A outer s H vs Q E hr h => ?_)
  · obtain ⟨z, sg, ok, rfl, _⟩ := h
    rfl
  · obtain ⟨z, sg, ok, rfl, al, hz, q⟩ := h
    have fit : z.length ≤ sizeLine := fitS hz rfl
    have un0 : (A.deeper (PyProof.Rows.envOfC "_law_is_of" (defScope (top 71)) s.heap.objs.size f cdv)).units < cLine := Nat.lt_of_le_of_lt (Nat.le_add_right _ 64) hr.units
    refine' ⟨_, pss_one (ps_ret (pe_and (pe_chain op_le op_le pe_int (pe_callB call_len_str rfl G.len boot_len (pa_cons (pv 0) pa_nil)) pe_int) (pe_one (pe_cmpR (op_eqNil un0) ?comp (pe_lstS pa_nil) (nomark _))))), ?main⟩
    case comp =>
      refine' pe_compI (Nc := ["_law_sign", "_law_signs"]) (cl := [("_law_signs", s.heap.objs.size + 1)]) (src := [none, some 1]) (wi := iStr (tVar 0)) (g := gName 0) (tt := tTest (tOp (fun x y H Q => ∃ i j, x = .str i ∧ y = .str j ∧ Q (.bl (!(!(Builtin.Str.occurrences j i 0 j.length 1).isEmpty))) H) (tVar 0) (tVar 1))) (te := tVar 0) ⟨rfl, rfl, by decide +kernel, by decide +kernel, sub_of (sub1 rfl), has_of (by rfl), frm_none (frm_some ⟨_, rfl, rfl, rfl, rfl⟩ frm_nil), rfl⟩ rfl (pi_str (pv 0)) ?hb
      case hb =>
        intro fp C' s' H'
        exact ⟨pg_name (i := 0) nc rfl (Or.inl rfl), pif_one (pt_cmpR op_notin_str (pv 0) (pv 1) (by rfl)), pv 0⟩
    have wb : wB ok z = (decide (1 ≤ z.length) && (decide (z.length ≤ 8) && z.cps.toList.all ok)) := rfl
    refine ⟨_, rfl, z, rfl, fit, _, _, rfl, rfl, _, rfl, ite2 (fun e => ?_) (fun e => ?_)⟩
    · have l1 : 1 ≤ z.length := by have := of_decide_eq_true e; omega
      refine ⟨_, _, rfl, rfl, _, rfl, ite2 (fun e2 => ?_) (fun e2 => ?_)⟩
      · have l8 : z.length ≤ 8 := by have := of_decide_eq_true e2; omega
        refine ⟨_, rfl, z, rfl, fun D hD => ?_⟩
        refine comp_fm (walk_str (z := z)) hD (by rw [List.length_map, ← len_codes, sizeLine_eq]; omega) (fun x => match x with | .str y => !ok (y.cps.getD 0 0) | _ => false) (fun x => x) (fun x hx H' R _ r => ?_) (fun x hx _ H' R _ r => ⟨_, rfl, r⟩) ?_
        · obtain ⟨c, _, rfl⟩ := List.mem_map.mp hx
          refine ⟨_, rfl, _, rfl, _, _, rfl, rfl, _, rfl, ?_⟩
          rw [al.in_]
          exact r
        · refine ⟨lenOk rfl, fun l2 H2 s2 n2 e2 => ⟨D, l2, _, rfl, rfl, SqL.of (s2 _ _ upd_same), SqL.of e2, fun e3 => ?_, fun e3 => ?_⟩⟩
          · have ea : z.cps.toList.all ok = true := List.all_eq_true.mpr fun c hc => by
              rw [List.map_id', List.filter_eq_nil_iff] at e3
              have := e3 _ (List.mem_map.mpr ⟨c, hc, rfl⟩)
              show ok c = true
              cases h : ok c with
              | true => rfl
              | false => exact absurd (show (!ok c) = true by rw [h]; rfl) this
            have r := q H2 ((Same.upd hD).trans s2)
            rw [wb, decide_eq_true l1, decide_eq_true l8, ea] at r
            exact r
          · have ea : z.cps.toList.all ok = false := Bool.eq_false_iff.mpr fun c => e3 (by
              rw [List.map_id', List.filter_eq_nil_iff]
              intro x hx
              obtain ⟨d, hd, rfl⟩ := List.mem_map.mp hx
              have := List.all_eq_true.mp c d hd
              show ¬ (!ok d) = true
              rw [this]
              decide)
            have r := q H2 ((Same.upd hD).trans s2)
            rw [wb, decide_eq_true l1, decide_eq_true l8, ea] at r
            exact r
      · have l8 : ¬ z.length ≤ 8 := fun h => e2 (decide_eq_true (by omega))
        have r := q H (Same.refl _)
        rw [wb, decide_eq_true l1, decide_eq_false l8] at r
        exact r
    · have l1 : ¬ 1 ≤ z.length := fun h => e (decide_eq_true (by omega))
      have r := q H (Same.refl _)
      rw [wb, decide_eq_false l1] at r
      exact ⟨false, rfl, iteF r⟩
end
end K28
set_option Elab.async false
set_option linter.all false
set_option maxRecDepth 100000
set_option maxHeartbeats 4000000
namespace K28
open PySem PySem.NumText L2 Pg
seal PE PA PT PW PS PSs PG PGs PI PIf PO PK
section
variable {P : Program} {w : World} {K : PySem.W.Frag} {mg : Str → Option Value} {base : Heap} {f : Addr} {fd : FuncData} {d : Nat → Addr} {cR : Addr}
set_option maxHeartbeats 8000000 in
theorem ok_isEnt (F : Fun K "_law_is_entry" "_law_is_entry" (top 76) f fd) (G : Glb mg) (C1 : Cal P w K mg base CX0 1 "_law_whole" ["_law_found"] sp_whole) : FnOk P w K mg base CX0 2 f fd ["_law_found", "_law_due_here"] sp_isEnt := by
  have nc : (["_law_one"] : List Str).Nodup := by decide +kernel
  refine F.ok (N := ["_law_found", "_law_due_here"]) ⟨rfl, rfl, rfl, by decide +kernel, rfl, by decide +kernel, by decide +kernel⟩ (fun vs H Q E h => ?_) (fun cdv A outer s H vs Q E hr h => ?_)
  · obtain ⟨a, b, m, t, rfl, _⟩ := h
    rfl
  · obtain ⟨a, b, m, t, rfl, ha, hb, q⟩ := h
    have un2 : (A.deeper (PyProof.Rows.envOfC "_law_is_entry" (defScope (top 76)) s.heap.objs.size f cdv)).units + 2 < cLine := Nat.lt_of_le_of_lt (Nat.add_le_add_left (by decide : 2 ≤ 64) _) hr.units
    refine' ⟨_, (pss_cons (ps_if (PW.pt (pw_or (pt_not (pt_val (pe_callB call_isinst rfl G.isinstance boot_isinstance (pa_cons (pv 0) (pa_cons (pe_bltn (v := .ty "tuple") rfl G.tuple boot_tuple rfl) pa_nil))))) (pw_or (pt_cmpR op_ne (pe_callB call_len_seq rfl G.len boot_len (pa_cons (pv 0) pa_nil)) pe_int (nomark _)) (pw_or1 (pt_cmpR op_neK (pv 0) (pv 1) (nomark _)))))) (pss_one (ps_ret pe_bl)) pss_nil)
        (pss_cons (ps_if (pt_cmpR op_isN (pe_at ix_tup (pv 1) pe_int) pe_non (nomark _)) (pss_one (ps_ret (pe_cmpR op_isN (pe_at ix_tup (pv 0) pe_int) pe_non (nomark _)))) pss_nil)
        (pss_one (ps_ret (pe_and (pe_callB call_isinst rfl G.isinstance boot_isinstance (pa_cons (pe_at ix_tup (pv 0) pe_int) (pa_cons (pe_bltn (v := .ty "tuple") rfl G.tuple boot_tuple rfl) pa_nil))) (pe_one (pe_callB (call_allL rfl) rfl G.all boot_all (pa_cons ?comp pa_nil)))))))), ?main⟩
    case comp =>
      refine' pe_compI (Nc := ["_law_one"]) (cl := []) (src := [none]) (wi := iTup K (tSl (rSlT K) (tOp (rIxT K) (tVar 0) (tC (.int 1))) (tPart (tC (.int 2))) tNoPart)) (g := gName 0) (tt := tNoIf) (te := fun σ H Q => tCons (tVar 0) tNil σ H fun vs H1 => sp_whole vs H1 Q E0) ⟨rfl, rfl, by decide +kernel, by decide +kernel, (fun x c z => nomatch z), has_of (by rfl), frm_none frm_nil, rfl⟩ rfl (pi_tup (pe_slice sl_tup (pe_at ix_tup (pv 0) pe_int) (po_some pe_int) po_none)) ?hb
      case hb =>
        intro fp C' s' H'
        exact ⟨pg_name (i := 0) nc rfl (Or.inl rfl), pif_nil, pe_cal C1 hr (by decide) pass0 (pa_cons (pv 0) pa_nil)⟩
    have ia := is_ln (K := K) ha
    have ib := is_ln (K := K) hb
    obtain ⟨va, ha1, ha2⟩ := ha
    obtain ⟨vb, hb1, hb2⟩ := hb
    refine ⟨_, rfl, _, _, _, _, true, rfl, rfl, .inl (.tup ha1), rfl, true, rfl, iteF ⟨_, rfl, a, _, rfl, .inr (SqT.of ha1), rfl, _, rfl, iteF ⟨_, rfl, _, rfl, 2, _, seq_ln m t, ia, ib, un2, _, rfl, iteF ?_⟩⟩⟩
    cases t with
    | none =>
      have ha2 : va = .non := ha2
      have hb2 : vb = .non := hb2
      subst ha2 hb2
      exact ⟨_, rfl, b, _, _, _, rfl, rfl, SqT.of hb1, rfl, rfl, _, rfl, iteT ⟨_, rfl, a, _, _, _, rfl, rfl, SqT.of ha1, rfl, rfl, q H (Same.refl _)⟩⟩
    | some e =>
      obtain ⟨ea, rfl, he⟩ := ha2
      obtain ⟨eb, rfl, hf⟩ := hb2
      refine ⟨_, rfl, b, _, _, _, rfl, rfl, SqT.of hb1, rfl, rfl, _, rfl, iteF ?_⟩
      refine ⟨_, rfl, a, _, _, _, rfl, rfl, SqT.of ha1, rfl, _, _, _, _, true, rfl, rfl, .inl (.tup he), rfl, true, rfl, iteT ?_⟩
      refine ⟨_, rfl, a, _, _, _, rfl, rfl, SqT.of ha1, rfl, _, rfl, ea, _, rfl, SqT.of he, ?_, fun p p0 => ?_⟩
      · cases e <;> exact fun z => absurd z.1 (by show ¬ (2 : Nat) = 0; decide)
      have sp : Same H (upd H p (.tup (cutV (cE e) (some 2) none))) := Same.upd p0
      have ep : (upd H p (.tup (cutV (cE e) (some 2) none))) p = some (.tup ((numsE e).map V.int)) := by rw [upd_same, cut_cE]
      generalize upd H p (.tup (cutV (cE e) (some 2) none)) = H1 at sp ep
      refine ⟨p, rfl, ⟨_, SqT.of ep⟩, fun D hD => ?_⟩
      refine comp_fm (walk_tup (SqT.of ep)) hD (by rw [List.length_map, sizeLine_eq]; have : (numsE e).length ≤ 3 := (by cases e <;> exact Nat.le_of_ble_eq_true rfl); omega) (fun _ => true) (fun _ => .bl true) (fun x _ H' R _ r => r) (fun x hx _ H' R _ r => ?_) ?_
      · obtain ⟨i, _, rfl⟩ := List.mem_map.mp hx
        exact ⟨_, rfl, i, rfl, r⟩
      · rw [List.filter_eq_self.mpr fun _ _ => rfl, List.map_map]
        refine ⟨D, (numsE e).map fun _ => true, rfl, SqL.of (by rw [List.map_map]; exact upd_same), ?_⟩
        have e2 : ((numsE e).map fun _ => true).all id = true := by cases e <;> rfl
        rw [e2]
        exact q _ (sp.trans (Same.upd hD))
end
end K28
set_option Elab.async false
set_option linter.all false
set_option maxRecDepth 100000
set_option maxHeartbeats 4000000
namespace K28
open PySem PySem.NumText L2 Pg
seal PE PA PT PW PS PSs PG PGs PI PIf PO PK
section
variable {P : Program} {w : World} {K : PySem.W.Frag} {mg : Str → Option Value} {base : Heap} {f : Addr} {fd : FuncData} {d : Nat → Addr} {cR : Addr}
set_option maxHeartbeats 8000000 in
theorem ok_lread (F : Fun K "_law_read" "_law_read" (top 75) f fd) (mgR : mg "RollError" = some (.ref cR)) (Z : Rz K d cR 14) (C1 : Cal P w K mg base (CXY P w) 6 "entry_of" ["line"] (sp_eof K (d 14))) (Ck : CalQ P w K mg base 1 "_law_kind" ["_law_e"] (sp_kind K d)) : FnOk P w K mg base CX0 7 f fd ["_law_line_here"] (sp_lread K) := by
  have nd : (["_law_line_here", "_law_e"] : List Str).Nodup := by decide +kernel
  refine F.ok (N := ["_law_line_here", "_law_e"]) ⟨rfl, rfl, rfl, by decide +kernel, rfl, by decide +kernel, by decide +kernel⟩ (fun vs H Q E h => ?_) (fun cdv A outer s H vs Q E hr h => ?_)
  · obtain ⟨v, rfl, _⟩ := h
    rfl
  · obtain ⟨v, rfl, h⟩ := h
    obtain ⟨R, hR⟩ : ∃ R : XK, R = fun cls _ H' => cls = .ref (d 14) ∧ Same H H' ∧ ∀ z, v = .str z → lnO (Txt.split z " ") = none := ⟨_, rfl⟩
    refine' ⟨_, pss_one (ps_tryC (C := CtxR) (R := R) (i := 1) (th := fun ea => tRet (tCallQ ((A.deeper (PyProof.Rows.envOfC "_law_read" (defScope (top 75)) s.heap.objs.size f cdv)).mark (some (.ref ea))) (sp_kind K d) (tCons (tVar 1) tNil)))
      (tb := tRet (fun σ H Q => tCons (tVar 0) tNil σ H fun vs H1 => sp_eof K (d 14) vs H1 Q R))
      rfl rfl rfl mgR (fun cls o H' z => by
        rw [hR] at z
        obtain ⟨rfl, _⟩ := z
        exact Z.ex) nd rfl rfl ?body
      (fun pn ea E => pss_one (ps_ret (pe_calQ (j := 6) Ck ⟨hr.dp, hr.un⟩ (by decide) (pa_cons (pv 1) pa_nil))))), ?m1, ?m2⟩
    case body =>
      intro pn
      exact pss_one (ps_ret (pe_cal C1 hr (by decide) passYT (pa_cons (pv 0) pa_nil)))
    case m1 =>
      subst hR
      refine ⟨_, rfl, v, rfl, ?_⟩
      rcases h with ⟨ns, q⟩ | ⟨z, rfl, hz, q⟩
      · refine .inl ⟨ns, rfl, Same.refl _, fun z e => ?_⟩
        exact absurd e (no_str ns)
      · refine .inr ⟨z, rfl, hz, fun H1 s1 => ⟨fun m t l e la => (q H1 s1).1 m t l e la, fun e => ⟨rfl, s1, fun z' ez => ?_⟩⟩⟩
        cases ez
        exact e
    case m2 =>
      subst hR
      rintro ea oe vs cls σ' H' ⟨rfl, s1, re⟩ hne hcl hd1 hd2 h2 hlen
      refine ⟨.ref ea, List.getElem?_set_self (by rw [hlen]; show 1 < 2; decide), .inr ⟨ea, oe, vs, _, rfl, upd_same, hd2, h2.put hne⟩, ea, d 14, 14, rfl, ⟨⟨oe, vs, upd_same, hcl, hd1, hd2⟩, Z.kd.cls⟩, Z.kd, fun l H2 s2 n2 e2 => ?_⟩
      have S2 := (s1.trans (Same.upd hne)).trans s2
      rcases h with ⟨ns, q⟩ | ⟨z, rfl, hz, q⟩
      · exact q l H2 S2 e2
      · exact (q H2 S2).2 (re z rfl) l e2
end
end K28
set_option Elab.async false
set_option linter.all false
set_option maxRecDepth 100000
set_option maxHeartbeats 4000000
namespace K28
open PySem PySem.NumText L2 Pg
seal PE PA PT PW PS PSs PG PGs PI PIf PO PK
section
variable {P : Program} {w : World} {K : PySem.W.Frag} {mg : Str → Option Value} {base : Heap} {f : Addr} {fd : FuncData} {d : Nat → Addr} {cR : Addr}
set_option maxHeartbeats 16000000 in
theorem ok_dueL (F : Fun K "_law_due" "_law_due" (top 72) f fd) (G : Glb mg) (C1 : Cal P w K mg base CX0 1 "_law_is_of" ["_law_word_here", "_law_signs"] sp_isOf) (C2 : Cal P w K mg base CX0 1 "_law_read_month" ["_law_text"] sp_readL) (C3 : Cal P w K mg base CX0 1 "_law_reads" ["_law_text"] sp_readsL) : FnOk P w K mg base CX0 2 f fd ["_law_line_here"] sp_dueL := by
  have nd : (["_law_line_here", "_law_letters", "_law_words", "_law_signs", "_law_month", "_law_amount"] : List Str).Nodup := by decide +kernel
  have nc : (["_law_rank"] : List Str).Nodup := by decide +kernel
  refine F.ok (N := ["_law_line_here", "_law_letters", "_law_words", "_law_signs", "_law_month", "_law_amount"]) ⟨rfl, rfl, rfl, by decide +kernel, rfl, by decide +kernel, by decide +kernel⟩ (fun vs H Q E h => ?_) (fun cdv A outer s H vs Q E hr h => ?_)
  · obtain ⟨z, rfl, _⟩ := h
    rfl
  · obtain ⟨z, rfl, hz, q⟩ := h
    have un0 : (A.deeper (PyProof.Rows.envOfC "_law_due" (defScope (top 72)) s.heap.objs.size f cdv)).units < cLine := Nat.lt_of_le_of_lt (Nat.le_add_right _ 64) hr.units
    refine' ⟨_, (pss_cons (ps_set (i := 1) nd rfl (Or.inl rfl) pe_str)
        (pss_cons (ps_set (i := 2) nd rfl (Or.inl rfl) (pe_bm PySem.F.plainAttrs_str PySem.F.slot_str_split PySem.F.type_str_split mt_split (pv 0) (pa_cons pe_str pa_nil)))
        (pss_cons (ps_set (i := 3) nd rfl (Or.inl rfl) (pe_op op_add_str (pv 1) pe_str))
        (pss_cons (ps_if (PW.pt (pw_or (pt_cmpR op_lt (pe_callB call_len_seq rfl G.len boot_len (pa_cons (pv 2) pa_nil)) pe_int (nomark _)) (pw_or1 (pt_not (pt_val (pe_cal C1 hr (by decide) pass0 (pa_cons (pe_at ix_list (pv 2) pe_int) (pa_cons (pv 3) pa_nil)))))))) (pss_one (ps_ret pe_non)) pss_nil)
        (pss_cons (ps_if (pt_cmpR (op_eqL un0) (pe_slice sl_list (pv 2) (po_some pe_int) po_none) (pe_lstS (pa_cons pe_str pa_nil)) (nomark _)) (pss_one (ps_ret (pe_tupS (pa_cons (pe_at ix_list (pv 2) pe_int) (pa_cons pe_non pa_nil))))) pss_nil)
        (pss_cons (ps_if (PW.pt (pw_or (pt_cmpR op_notIn_seq (pe_at ix_list (pv 2) pe_int) (pe_tupS (pa_cons pe_str (pa_cons pe_str pa_nil))) (by rfl)) (pw_or1 (pt_cmpR op_ne (pe_callB call_len_seq rfl G.len boot_len (pa_cons (pv 2) pa_nil)) (pe_at ix_list (pe_lstS (pa_cons pe_int (pa_cons pe_int pa_nil))) (pe_callTy call_int1 rfl G.int boot_int (pa_cons (pe_cmpR op_eq (pe_at ix_list (pv 2) pe_int) pe_str (nomark _)) pa_nil))) (nomark _))))) (pss_one (ps_ret pe_non)) pss_nil)
        (pss_cons (ps_set (i := 4) nd rfl (Or.inl rfl) (pe_cal C2 hr (by decide) pass0 (pa_cons (pe_at ix_list (pv 2) pe_int) pa_nil)))
        (pss_cons (ps_set (i := 5) nd rfl (Or.inl rfl) (pe_cal C3 hr (by decide) pass0 (pa_cons (pe_at ix_list (pv 2) (pe_un un_neg pe_int)) pa_nil)))
        (pss_cons (ps_if (PW.pt (pw_or (pt_cmpR op_isN (pv 4) pe_non (nomark _)) (pw_or (pt_cmpR op_isN (pv 5) pe_non (nomark _)) (pw_or1 (pt_not (pt_chain op_le op_le pe_int (pv 5) (pe_op op_pow pe_int pe_int))))))) (pss_one (ps_ret pe_non)) pss_nil)
        (pss_cons (ps_if (pt_not (pt_val (pe_cal C1 hr (by decide) pass0 (pa_cons (pe_at ix_list (pv 2) pe_int) (pa_cons (pv 1) pa_nil))))) (pss_one (ps_ret pe_non)) pss_nil)
        (pss_cons (ps_if (pt_cmpR op_eq (pe_at ix_list (pv 2) pe_int) pe_str (nomark _)) (pss_one (ps_ret (pe_tupS (pa_cons (pe_at ix_list (pv 2) pe_int) (pa_cons (pe_tupS (pa_cons pe_str (pa_cons (pe_at ix_list (pv 2) pe_int) (pa_cons (pv 4) (pa_cons (pv 5) pa_nil))))) pa_nil))))) pss_nil)
        (pss_cons (ps_if (pt_cmpR op_notIn_seq (pe_at ix_list (pv 2) pe_int) ?comp (by rfl)) (pss_one (ps_ret pe_non)) pss_nil)
        (pss_one (ps_ret (pe_tupS (pa_cons (pe_at ix_list (pv 2) pe_int) (pa_cons (pe_tupS (pa_cons pe_str (pa_cons (pe_at ix_list (pv 2) pe_int) (pa_cons (pv 4) (pa_cons (pe_callTy call_int_text rfl G.int boot_int (pa_cons (pe_at ix_list (pv 2) pe_int) pa_nil)) (pa_cons (pv 5) pa_nil)))))) pa_nil))))))))))))))))), ?main⟩
    case comp =>
      refine' pe_compI (Nc := ["_law_rank"]) (cl := []) (src := [none]) (wi := iRng1 (tCons (tC (.int 100)) tNil)) (g := gName 0) (tt := tNoIf) (te := tCB (fun xs H Q => ∃ i, xs = [.int i] ∧ i.natAbs.log2 < 1920 ∧ Q (.str (toString i)) H) (tCons (tVar 0) tNil)) ⟨rfl, rfl, by decide +kernel, by decide +kernel, (fun x c z => nomatch z), has_of (by rfl), frm_none frm_nil, rfl⟩ rfl (pi_range1 rfl G.range (pa_cons pe_int pa_nil)) ?hb
      case hb =>
        intro fp C' s' H'
        exact ⟨pg_name (i := 0) nc rfl (Or.inl rfl), pif_nil, pe_callTy call_str_int rfl G.str boot_str (pa_cons (pv 0) pa_nil)⟩
    case main =>
      have zf : z.length ≤ sizeLine := fitS hz rfl
      obtain ⟨sl, sn, w0, wr, ew⟩ := split_wds z
      rw [ew] at q sl sn
      have eL : ∀ {t}, ewO wr = some t → lnO (w0 :: wr) = if (wB (inS sgM) w0 && thB t) = true then some (w0, t) else none := fun {t} et => by
        show (match ewO wr with
          | some t => if (wB (inS sgM) w0 && thB t) = true then some (w0, t) else none
          | none => none) = _
        rw [et]
      have eN : ewO wr = none → lnO (w0 :: wr) = none := fun et => by
        show (match ewO wr with
          | some t => if (wB (inS sgM) w0 && thB t) = true then some (w0, t) else none
          | none => none) = _
        rw [et]
      have eM : wB (inS sgM) w0 = false → lnO (w0 :: wr) = none := fun eb => by
        cases et : ewO wr with
        | none => exact eN et
        | some t => rw [eL et, eb]; rfl
      refine ⟨_, rfl, rfl, _, _, rfl, rfl, rfl, zf, split_fit hz, fun l H1 s1 n1 e1 => ?_⟩
      rw [ew] at e1
      have wl : ∀ w ∈ w0 :: wr, w.length ≤ 100000 := fun w hw => Nat.le_trans (sn w hw) (by omega)
      refine ⟨_, rfl, _, _, rfl, rfl, by decide +kernel, ?_⟩
      dsimp only
      rw [show ("abcdefghijklmnopqrstuvwxyz" : Str) ++ ("0123456789" : Str) = sgM by decide +kernel]
      refine ⟨_, rfl, l, _, rfl, .inl (SqL.of e1), _, _, rfl, rfl, _, rfl, ite2 (fun e => iteT ?_) (fun e00 => ?_)⟩
      · have e := of_decide_eq_true e
        have : wr = [] := by
          cases wr with
          | nil => rfl
          | cons a b => exact absurd e (by rw [List.length_map, List.length_cons, List.length_cons]; omega)
        subst this
        exact (q H1 s1).2 (eN rfl)
      refine ⟨_, rfl, l, _, _, _, rfl, rfl, SqL.of e1, at_first rfl, _, rfl, w0, sgM, _, rfl, alM, wl _ List.mem_cons_self, fun H2 s2 => ?_⟩
      have e1 := s2 _ _ e1
      have S2 := s1.trans s2
      cases eb : wB (inS sgM) w0 with
      | false => exact ⟨false, rfl, iteT ((q H2 S2).2 (eM eb))⟩
      | true =>
        refine ⟨true, rfl, iteF ?_⟩
        refine ⟨_, rfl, _, rfl, l, _, rfl, SqL.of e1, fun p p0 => ⟨lenOk rfl, fun l3 H3 s3 n3 e3 => ⟨p, l3, _, _, rfl, rfl, SqL.of (s3 _ _ upd_same), SqL.of e3, by rw [cut1t]; exact str_flat _, rfl, _, rfl, ?_⟩⟩⟩
        have S3 := S2.trans ((Same.upd p0).trans s3)
        have e1 := s3 _ _ (Same.upd p0 _ _ e1)
        dsimp only
        rw [cut1t, List.drop_one, List.tail_cons, eq_one]
        refine ite2 (fun e => ?_) (fun e => ?_)
        · have e := of_decide_eq_true e
          subst e
          exact ⟨_, rfl, l, _, _, _, rfl, rfl, SqL.of e1, at_first rfl, lenOk rfl, fun l4 H4 s4 n4 e4 => (q H4 (S3.trans s4)).1 w0 none l4 (by rw [eL ew_out, eb]; rfl) ⟨_, e4, rfl⟩⟩
        have o1 : wr ≠ ([("out" : Str)] : List Str) := fun z => e (decide_eq_true z)
        obtain ⟨k1, wr, rfl⟩ : ∃ k1 r, wr = k1 :: r := by
          cases wr with
          | nil => exact absurd (decide_eq_true (show (((([w0] : List Str).map V.str).length : Nat) : Int) < 2 by show (1 : Int) < 2; decide)) e00
          | cons a b => exact ⟨a, b, rfl⟩
        have hl : H3 l = some (.lst ((w0 :: k1 :: wr).map V.str)) := e1
        have at1 : atI ((w0 :: k1 :: wr).map V.str) 1 = some (.str k1) := atI_of (by decide) rfl
        clear e1
        dsimp only [tNext]
        refine ifs_to (fun Q => ∀ H', Same H3 H' → Q (!((decide (k1 = "wage") && decide ((k1 :: wr).length = 5)) || (decide (k1 = "extra") && decide ((k1 :: wr).length = 4)))) H') (fun R r => ?_) (fun H4 s4 => ite2 (fun e4 => ?_) (fun e4 => ?_))
        · refine ⟨_, rfl, l, _, _, _, rfl, rfl, SqL.of hl, at1, lenOk rfl, fun t H4 s4 n4 e4 => ⟨t, _, rfl, .inr (SqT.of e4), rfl, rfl, _, rfl, ?_⟩⟩
          have hl4 := s4 _ _ hl
          have ci : inV (.str k1) [V.str "wage", V.str "extra"] = (["wage", "extra"] : List Str).contains k1 := in_texts k1 ["wage", "extra"]
          dsimp only
          rw [ci]
          by_cases cw : k1 = "wage"
          · subst cw
            refine iteF ⟨_, rfl, l, _, rfl, .inl (SqL.of hl4), lenOk rfl, fun l5 H5 s5 n5 e5 => ⟨_, rfl, l, _, _, _, rfl, rfl, SqL.of (s5 _ _ hl4), at1, rfl, .inr ⟨_, rfl, l5, _, _, _, rfl, rfl, SqL.of e5, (show atI [V.int 5, .int 6] 1 = some (.int 6) from rfl), rfl, _, rfl, ?_⟩⟩⟩
            have r := r H5 (s4.trans s5)
            rw [show decide (("wage" : Str) = "wage") = true from decide_eq_true rfl, show decide (("wage" : Str) = "extra") = false by decide +kernel] at r
            rw [Bool.true_and, Bool.false_and, Bool.or_false] at r
            show R (!decide (V.int ((((w0 :: ("wage" : Str) :: wr).map V.str).length : Nat) : Int) = V.int ((6 : Nat) : Int))) H5
            rw [dNat, List.length_map, List.length_cons, succ_eq]
            exact r
          · by_cases cx : k1 = "extra"
            · subst cx
              refine iteF ⟨_, rfl, l, _, rfl, .inl (SqL.of hl4), lenOk rfl, fun l5 H5 s5 n5 e5 => ⟨_, rfl, l, _, _, _, rfl, rfl, SqL.of (s5 _ _ hl4), at1, rfl, .inr ⟨_, rfl, l5, _, _, _, rfl, rfl, SqL.of e5, (show atI [V.int 5, .int 6] (if decide (V.str "extra" = V.str "wage") = true then 1 else 0) = some (.int 5) by rw [if_neg (by decide +kernel)]; rfl), rfl, _, rfl, ?_⟩⟩⟩
              have r := r H5 (s4.trans s5)
              rw [show decide (("extra" : Str) = "extra") = true from decide_eq_true rfl, show decide (("extra" : Str) = "wage") = false by decide +kernel] at r
              rw [Bool.true_and, Bool.false_and, Bool.false_or] at r
              show R (!decide (V.int ((((w0 :: ("extra" : Str) :: wr).map V.str).length : Nat) : Int) = V.int ((5 : Nat) : Int))) H5
              rw [dNat, List.length_map, List.length_cons, succ_eq]
              exact r
            · have cf : (["wage", "extra"] : List Str).contains k1 = false := by
                refine Bool.eq_false_iff.mpr fun c => ?_
                have := List.contains_iff_mem.mp c
                simp only [List.mem_cons, List.not_mem_nil, or_false] at this
                exact this.elim cw cx
              rw [cf]
              have r := r H4 s4
              rw [decide_eq_false cw, decide_eq_false cx] at r
              exact iteT r
        · have nn : ewO (k1 :: wr) = none := by
            rw [Bool.not_eq_true', Bool.or_eq_false_iff] at e4
            refine ew_none o1 (fun h => ?_) (fun h => ?_)
            · have h1 : k1 = "wage" := (List.cons.inj h.1).1
              have := e4.1
              rw [decide_eq_true h1, decide_eq_true h.2] at this
              cases this
            · have h1 : k1 = "extra" := (List.cons.inj h.1).1
              have := e4.2
              rw [decide_eq_true h1, decide_eq_true h.2] at this
              cases this
          exact (q H4 (S3.trans s4)).2 (eN nn)
        have sh : (k1 = "wage" ∧ (k1 :: wr).length = 5) ∨ (k1 = "extra" ∧ (k1 :: wr).length = 4) := by
          have e5 := Bool.eq_false_iff.mpr e4
          rw [Bool.not_eq_false', Bool.or_eq_true, Bool.and_eq_true, Bool.and_eq_true] at e5
          exact e5.imp (fun h => ⟨of_decide_eq_true h.1, of_decide_eq_true h.2⟩) (fun h => ⟨of_decide_eq_true h.1, of_decide_eq_true h.2⟩)
        have hl := s4 _ _ hl
        have S4 := S3.trans s4
        rcases sh with ⟨rfl, h5⟩ | ⟨rfl, h4⟩
        · obtain ⟨p1, mo, rk, am, er⟩ := is5 (k := "wage") rfl h5
          cases er
          have nP : p1.length ≤ 100000 := wl p1 (by simp)
          have nM : mo.length ≤ 100000 := wl mo (by simp)
          have nR : rk.length ≤ 100000 := wl rk (by simp)
          have nA : am.length ≤ 100000 := wl am (by simp)
          have hl : H4 l = some (.lst [.str w0, .str "wage", .str p1, .str mo, .str rk, .str am]) := hl
          refine ⟨_, rfl, l, _, _, _, rfl, rfl, SqL.of hl, rfl, mo, rfl, nM, fun H5 s5 => ⟨fun mv em => ?_, fun em => ?_⟩⟩
          case' refine_2 =>
            refine ⟨_, rfl, _, rfl, l, _, _, _, rfl, rfl, SqL.of (s5 _ _ hl), rfl, am, rfl, nA, fun H6 s6 => ?_⟩
            exact ⟨_, rfl, rfl, _, rfl, iteT (iteT ((q H6 (S4.trans (s5.trans s6))).2 (by rw [ln_wage eb, em]; rfl)))⟩
          refine ⟨_, rfl, _, rfl, l, _, _, _, rfl, rfl, SqL.of (s5 _ _ hl), rfl, am, rfl, nA, fun H6 s6 => ?_⟩
          have hl := s6 _ _ (s5 _ _ hl)
          have S6 := S4.trans (s5.trans s6)
          cases ea : readL am.cps.toList with
          | none => exact ⟨_, rfl, rfl, _, rfl, iteF ⟨_, rfl, rfl, _, rfl, iteT (iteT ((q H6 S6).2 (by rw [ln_wage eb, em, ea]; rfl)))⟩⟩
          | some av =>
            have bad : ∀ H', Same H6 H' → (decide (0 ≤ av ∧ av ≤ 10000000000) && wB (inS sgL) p1) = false → Q .non H' := fun H' s' hb => (q H' (S6.trans s')).2 (by rw [ln_wage eb, em, ea]; show (if _ then _ else none) = none; rw [hb]; rfl)
            have t10 : (10 : Int) ^ (10 : Int).toNat = 10000000000 := by decide
            refine ⟨_, rfl, rfl, _, rfl, iteF ⟨_, rfl, rfl, _, rfl, iteF ⟨_, rfl, _, _, rfl, rfl, _, rfl, ite2 (fun e => ?_) (fun e => ?_)⟩⟩⟩
            case' refine_2 =>
              have e : ¬ (0 : Int) ≤ av := fun z => e (decide_eq_true z)
              exact ⟨_, rfl, iteT (bad H6 (Same.refl _) (by rw [decide_eq_false fun z => e z.1]; rfl))⟩
            have a0 : 0 ≤ av := of_decide_eq_true e
            refine ⟨_, _, rfl, rfl, ⟨by decide, by decide, by decide⟩, _, _, rfl, rfl, _, rfl, ?_⟩
            dsimp only
            rw [t10]
            by_cases a1 : av ≤ 10000000000
            case' neg =>
              rw [decide_eq_false a1]
              exact iteT (bad H6 (Same.refl _) (by rw [decide_eq_false fun z => a1 z.2]; rfl))
            rw [decide_eq_true a1]
            refine iteF ⟨_, rfl, l, _, _, _, rfl, rfl, SqL.of hl, rfl, _, rfl, p1, _, _, rfl, alL, nP, fun H7 s7 => ?_⟩
            have hl := s7 _ _ hl
            cases ep : wB (inS sgL) p1 with
            | false => exact ⟨false, rfl, iteT (bad H7 s7 (by rw [ep, Bool.and_false]))⟩
            | true =>
              have S7 := S6.trans s7
              have good : (decide (0 ≤ av ∧ av ≤ 10000000000) && wB (inS sgL) p1) = true := by rw [ep, decide_eq_true ⟨a0, a1⟩]; rfl
              refine ⟨true, rfl, iteF ?_⟩
              refine ⟨_, rfl, l, _, _, _, rfl, rfl, SqL.of hl, rfl, rfl, _, rfl, iteSf (by decide +kernel) ?_⟩
              refine ⟨_, rfl, l, _, _, _, rfl, rfl, SqL.of hl, rfl, 100, rfl, by decide, by decide, fun D hD => ?_⟩
              refine comp_fm (walk_rng (lo := 0) (n := 100)) hD (by rw [List.length_map, List.length_range, sizeLine_eq]; decide) (fun _ => true) strI (fun x _ H' R _ r => r) (fun x hx _ H' R _ r => ?_) ?_
              · obtain ⟨k, hk, rfl⟩ := List.mem_map.mp hx
                have := List.mem_range.mp hk
                exact ⟨_, rfl, _, rfl, log_small (by omega) (by omega), r⟩
              rw [List.filter_eq_self.mpr fun _ _ => rfl, rank_items]
              refine ⟨D, _, rfl, .inl (SqL.of upd_same), rfl, str_flat _, _, rfl, ?_⟩
              have S8 := S7.trans (Same.upd (o := .lst (ranks.map V.str)) hD)
              have hl := Same.upd (o := .lst (ranks.map V.str)) hD _ _ hl
              dsimp only
              rw [in_texts, rnk_in]
              cases er : rnk rk with
              | none => exact iteT ((q _ S8).2 (by rw [ln_wage eb, em, ea, er]; exact if_pos good))
              | some rv =>
                refine iteF ?_
                have er0 := er
                obtain ⟨n, n99, rfl, rfl⟩ := rnk_some er
                refine ⟨_, rfl, l, _, _, _, rfl, rfl, SqL.of hl, rfl, _, rfl, l, _, _, _, rfl, rfl, SqL.of hl, rfl, _, rfl, _, rfl, l, _, _, _, rfl, rfl, SqL.of hl, rfl, _, _, rfl, rank_int n99, ?_, _, rfl, lenOk rfl, fun t8 H8 s8 n8 e8 => ⟨lenOk rfl, fun t9 H9 s9 n9 e9 => ?_⟩⟩
                · have := rank_len (r := (n : Nat)) (by omega) (by omega)
                  omega
                exact (q H9 (S8.trans (s8.trans s9))).1 w0 (some (.wage p1 mv (n : Nat) av)) t9 (by rw [ln_wage eb, em, ea, er0]; exact if_pos good) ⟨_, e9, t8, rfl, s9 _ _ e8⟩
        · obtain ⟨p1, mo, am, er⟩ := is4 (k := "extra") rfl h4
          cases er
          have nP : p1.length ≤ 100000 := wl p1 (by simp)
          have nM : mo.length ≤ 100000 := wl mo (by simp)
          have nA : am.length ≤ 100000 := wl am (by simp)
          have hl : H4 l = some (.lst [.str w0, .str "extra", .str p1, .str mo, .str am]) := hl
          refine ⟨_, rfl, l, _, _, _, rfl, rfl, SqL.of hl, rfl, mo, rfl, nM, fun H5 s5 => ⟨fun mv em => ?_, fun em => ?_⟩⟩
          case' refine_2 =>
            refine ⟨_, rfl, _, rfl, l, _, _, _, rfl, rfl, SqL.of (s5 _ _ hl), rfl, am, rfl, nA, fun H6 s6 => ?_⟩
            exact ⟨_, rfl, rfl, _, rfl, iteT (iteT ((q H6 (S4.trans (s5.trans s6))).2 (by rw [ln_extra eb, em]; rfl)))⟩
          refine ⟨_, rfl, _, rfl, l, _, _, _, rfl, rfl, SqL.of (s5 _ _ hl), rfl, am, rfl, nA, fun H6 s6 => ?_⟩
          have hl := s6 _ _ (s5 _ _ hl)
          have S6 := S4.trans (s5.trans s6)
          cases ea : readL am.cps.toList with
          | none => exact ⟨_, rfl, rfl, _, rfl, iteF ⟨_, rfl, rfl, _, rfl, iteT (iteT ((q H6 S6).2 (by rw [ln_extra eb, em, ea]; rfl)))⟩⟩
          | some av =>
            have bad : ∀ H', Same H6 H' → (decide (0 ≤ av ∧ av ≤ 10000000000) && wB (inS sgL) p1) = false → Q .non H' := fun H' s' hb => (q H' (S6.trans s')).2 (by rw [ln_extra eb, em, ea]; show (if _ then _ else none) = none; rw [hb]; rfl)
            have t10 : (10 : Int) ^ (10 : Int).toNat = 10000000000 := by decide
            refine ⟨_, rfl, rfl, _, rfl, iteF ⟨_, rfl, rfl, _, rfl, iteF ⟨_, rfl, _, _, rfl, rfl, _, rfl, ite2 (fun e => ?_) (fun e => ?_)⟩⟩⟩
            case' refine_2 =>
              have e : ¬ (0 : Int) ≤ av := fun z => e (decide_eq_true z)
              exact ⟨_, rfl, iteT (bad H6 (Same.refl _) (by rw [decide_eq_false fun z => e z.1]; rfl))⟩
            have a0 : 0 ≤ av := of_decide_eq_true e
            refine ⟨_, _, rfl, rfl, ⟨by decide, by decide, by decide⟩, _, _, rfl, rfl, _, rfl, ?_⟩
            dsimp only
            rw [t10]
            by_cases a1 : av ≤ 10000000000
            case' neg =>
              rw [decide_eq_false a1]
              exact iteT (bad H6 (Same.refl _) (by rw [decide_eq_false fun z => a1 z.2]; rfl))
            rw [decide_eq_true a1]
            refine iteF ⟨_, rfl, l, _, _, _, rfl, rfl, SqL.of hl, rfl, _, rfl, p1, _, _, rfl, alL, nP, fun H7 s7 => ?_⟩
            have hl := s7 _ _ hl
            cases ep : wB (inS sgL) p1 with
            | false => exact ⟨false, rfl, iteT (bad H7 s7 (by rw [ep, Bool.and_false]))⟩
            | true =>
              have S7 := S6.trans s7
              have good : (decide (0 ≤ av ∧ av ≤ 10000000000) && wB (inS sgL) p1) = true := by rw [ep, decide_eq_true ⟨a0, a1⟩]; rfl
              refine ⟨true, rfl, iteF ?_⟩
              refine ⟨_, rfl, l, _, _, _, rfl, rfl, SqL.of hl, rfl, rfl, _, rfl, iteSt ?_⟩
              refine ⟨_, rfl, l, _, _, _, rfl, rfl, SqL.of hl, rfl, _, rfl, l, _, _, _, rfl, rfl, SqL.of hl, rfl, _, rfl, _, rfl, lenOk rfl, fun t8 H8 s8 n8 e8 => ⟨lenOk rfl, fun t9 H9 s9 n9 e9 => ?_⟩⟩
              exact (q H9 (S7.trans (s8.trans s9))).1 w0 (some (.extra p1 mv av)) t9 (by rw [ln_extra eb, em, ea]; exact if_pos good) ⟨_, e9, t8, rfl, s9 _ _ e8⟩
end
end K28
set_option Elab.async false
set_option linter.all false
set_option maxRecDepth 100000
set_option maxHeartbeats 4000000
namespace K28
open PySem PySem.NumText L2 Pg
seal PE PA PT PW PS PSs PG PGs PI PIf PO PK
section
variable {P : Program} {w : World} {K : PySem.W.Frag} {mg : Str → Option Value} {base : Heap} {f : Addr} {fd : FuncData} {d : Nat → Addr} {cR : Addr}
set_option maxHeartbeats 16000000 in
theorem ok_bentN (F : Fun K "_law_bent" "_law_bent" (top 73) f fd) (G : Glb mg) : FnOk P w K mg base CX0 1 f fd ["_law_line_here", "_law_number", "_law_other"] sp_bentN := by
  have nd : (["_law_line_here", "_law_number", "_law_other", "_law_more", "_law_at", "_law_sign", "_law_way", "_law_words", "_law_place", "_law_odd"] : List Str).Nodup := by decide +kernel
  refine F.ok (N := ["_law_line_here", "_law_number", "_law_other", "_law_more", "_law_at", "_law_sign", "_law_way", "_law_words", "_law_place", "_law_odd"]) ⟨rfl, rfl, rfl, by decide +kernel, rfl, by decide +kernel, by decide +kernel⟩ (fun vs H Q E h => ?_) (fun cdv A outer s H vs Q E hr h => ?_)
  · obtain ⟨z, y, n, rfl, _⟩ := h
    rfl
  · obtain ⟨z, y, n, rfl, zl, yl, z6, n0, q⟩ := h
    have zf : z.length ≤ sizeLine := fitS zl rfl
    have yf : y.length ≤ sizeLine := fitS yl rfl
    refine' ⟨_, (pss_cons (ps_set (i := 3) nd rfl (Or.inl rfl) (pe_op op_fdiv (pv 1) pe_int))
        (pss_cons (ps_set (i := 4) nd rfl (Or.inl rfl) (pe_op op_mod (pe_op op_fdiv (pv 3) pe_int) (pe_op op_add (pe_callB call_len_str rfl G.len boot_len (pa_cons (pv 0) pa_nil)) pe_int)))
        (pss_cons (ps_set (i := 5) nd rfl (Or.inl rfl) (pe_at ix_str pe_str (pe_op op_mod (pv 3) pe_int)))
        (pss_cons (ps_set (i := 6) nd rfl (Or.inl rfl) (pe_op op_mod (pv 1) pe_int))
        (pss_cons (ps_if (pt_cmpR op_lt (pv 6) pe_int (nomark _)) (pss_one (ps_ret (pe_op op_add_str (pe_op op_add_str (pe_slice sl_str (pv 0) po_none (po_some (pv 4))) (pv 5)) (pe_slice sl_str (pv 0) (po_some (pv 4)) po_none)))) pss_nil)
        (pss_cons (ps_if (pt_cmpR op_lt (pv 6) pe_int (nomark _)) (pss_one (ps_ret (pe_op op_add_str (pe_slice sl_str (pv 0) po_none (po_some (pv 4))) (pe_slice sl_str (pv 0) (po_some (pe_op op_add (pv 4) pe_int)) po_none)))) pss_nil)
        (pss_cons (ps_if (pt_cmpR op_eq (pv 6) pe_int (nomark _)) (pss_one (ps_ret (pe_op op_add_str (pe_op op_add_str (pe_slice sl_str (pv 0) po_none (po_some (pv 4))) (pv 5)) (pe_slice sl_str (pv 0) (po_some (pe_op op_add (pv 4) pe_int)) po_none)))) pss_nil)
        (pss_cons (ps_set (i := 7) nd rfl (Or.inl rfl) (pe_bm PySem.F.plainAttrs_str PySem.F.slot_str_split PySem.F.type_str_split mt_split (pv 0) (pa_cons pe_str pa_nil)))
        (pss_cons (ps_set (i := 8) nd rfl (Or.inl rfl) (pe_op op_mod (pv 3) (pe_callB call_len_seq rfl G.len boot_len (pa_cons (pv 7) pa_nil))))
        (pss_cons (ps_if (pt_cmpR op_eq (pv 6) pe_int (nomark _)) (pss_one (ps_ret (pe_bm PySem.F.plainAttrs_str PySem.F.slot_str_join PySem.F.type_str_join mt_join pe_str (pa_cons (pe_op op_catS (pe_slice sl_list (pv 7) po_none (po_some (pv 8))) (pe_slice sl_list (pv 7) (po_some (pe_op op_add (pv 8) pe_int)) po_none)) pa_nil)))) pss_nil)
        (pss_cons (ps_if (pt_cmpR op_eq (pv 6) pe_int (nomark _)) (pss_one (ps_ret (pe_bm PySem.F.plainAttrs_str PySem.F.slot_str_join PySem.F.type_str_join mt_join pe_str (pa_cons (pe_op op_catS (pe_slice sl_list (pv 7) po_none (po_some (pe_op op_add (pv 8) pe_int))) (pe_slice sl_list (pv 7) (po_some (pv 8)) po_none)) pa_nil)))) pss_nil)
        (pss_cons (ps_if (pt_cmpR op_eq (pv 6) pe_int (nomark _)) (pss_cons (ps_asg (pe_at ix_list (pe_bm PySem.F.plainAttrs_str PySem.F.slot_str_split PySem.F.type_str_split mt_split (pv 2) (pa_cons pe_str pa_nil)) (pe_op op_mod (pe_op op_fdiv (pv 3) pe_int) (pe_callB call_len_seq rfl G.len boot_len (pa_cons (pe_bm PySem.F.plainAttrs_str PySem.F.slot_str_split PySem.F.type_str_split mt_split (pv 2) (pa_cons pe_str pa_nil)) pa_nil)))) (pg_sub (pv 7) (pv 8) set_list))
        (pss_one (ps_ret (pe_bm PySem.F.plainAttrs_str PySem.F.slot_str_join PySem.F.type_str_join mt_join pe_str (pa_cons (pv 7) pa_nil))))) pss_nil)
        (pss_cons (ps_set (i := 9) nd rfl (Or.inl rfl) (pe_lstS (pa_cons pe_str (pa_cons pe_str (pa_cons pe_str (pa_cons pe_str (pa_cons pe_str (pa_cons pe_str (pa_cons pe_str (pa_cons pe_str (pa_cons pe_str (pa_cons pe_str (pa_cons pe_str (pa_cons pe_str pa_nil))))))))))))))
        (pss_cons (ps_set (i := 9) nd rfl (Or.inl rfl) (pe_op op_catS (pv 9) (pe_lstS (pa_cons pe_str (pa_cons pe_str (pa_cons pe_str (pa_cons pe_str (pa_cons (pe_op op_mul_str pe_str pe_int) (pa_cons (pe_op op_add_str (pe_op op_mul_str pe_str pe_int) pe_str) pa_nil)))))))))
        (pss_cons (ps_asg (pe_at ix_list (pv 9) (pe_op op_mod (pe_op op_fdiv (pv 3) pe_int) pe_int)) (pg_sub (pv 7) (pv 8) set_list))
        (pss_one (ps_ret (pe_bm PySem.F.plainAttrs_str PySem.F.slot_str_join PySem.F.type_str_join mt_join pe_str (pa_cons (pv 7) pa_nil))))))))))))))))))), ?main⟩
    dsimp (config := { proj := false, iota := false, beta := false, eta := false }) only [cxOf_K, nox_K]
    have m0 : 0 ≤ n / 90 := Int.ediv_nonneg n0 (by decide)
    refine ⟨_, rfl, _, _, rfl, rfl, ⟨by decide, by decide⟩, ?_⟩
    dsimp only
    obtain ⟨mr, hmr⟩ : ∃ mr, n / 90 = mr := ⟨_, rfl⟩
    rw [hmr] at m0 ⊢
    have zp : (0 : Int) < (z.length : Nat) + 1 := by omega
    refine ⟨_, rfl, _, _, rfl, rfl, ⟨by decide, by decide⟩, _, rfl, z, rfl, zf, _, _, rfl, rfl, _, _, rfl, rfl, zp, ?_⟩
    obtain ⟨c, ec, _⟩ := at_any (xs := ("0123456789-. aAz+_" : Str).cps.toList) (i := mr % 18) (Int.emod_nonneg _ (by decide)) (Int.emod_lt_of_pos _ (by decide))
    refine ⟨_, rfl, _, _, rfl, rfl, (by show (0 : Int) < 18; decide), _, _, c, rfl, rfl, fitS (m := 18) (by decide +kernel) rfl, ec, ?_⟩
    refine ⟨_, rfl, _, _, rfl, rfl, (by show (0 : Int) < 9; decide), ?_⟩
    have sl : ∀ lo hi, (Txt.slice z lo hi).length ≤ 100 := fun lo hi => Nat.le_trans (Txt.slice_le z lo hi) zl
    have c1 : (⟨#[c]⟩ : Str).length = 1 := rfl
    have o1 := Nat.le_of_eq c1
    refine ⟨_, rfl, _, _, rfl, rfl, _, rfl, ite2 (fun _ => ?_) (fun _ => ?_)⟩
    · exact ⟨_, rfl, _, rfl, _, rfl, _, rfl, zf, _, rfl, _, _, rfl, rfl, fitA (sl _ _) o1 rfl, _, rfl, _, rfl, _, rfl, _, rfl, zf, _, _, rfl, rfl, fitA (app_le (sl _ _) o1) (sl _ _) rfl, q _ H (Nat.le_trans (app_le (app_le (sl _ _) o1) (sl _ _)) (by decide)) (Same.refl _)⟩
    refine ⟨_, rfl, _, _, rfl, rfl, _, rfl, ite2 (fun _ => ?_) (fun _ => ?_)⟩
    · exact ⟨_, rfl, _, rfl, _, rfl, _, rfl, zf, _, rfl, _, rfl, _, _, rfl, rfl, _, rfl, _, rfl, zf, _, _, rfl, rfl, fitA (sl _ _) (sl _ _) rfl, q _ H (Nat.le_trans (app_le (sl _ _) (sl _ _)) (by decide)) (Same.refl _)⟩
    refine ⟨_, rfl, rfl, _, rfl, ite2 (fun _ => ?_) (fun _ => ?_)⟩
    · exact ⟨_, rfl, _, rfl, _, rfl, _, rfl, zf, _, rfl, _, _, rfl, rfl, fitA (sl _ _) o1 rfl, _, rfl, _, rfl, _, _, rfl, rfl, _, rfl, _, rfl, zf, _, _, rfl, rfl, fitA (app_le (sl _ _) o1) (sl _ _) rfl, q _ H (Nat.le_trans (app_le (app_le (sl _ _) o1) (sl _ _)) (by decide)) (Same.refl _)⟩
    obtain ⟨_, sn, w0, wr, ew⟩ := split_wds z
    have ws1 : 1 ≤ (Txt.split z " ").length := by rw [ew]; exact Nat.le_add_left _ _
    refine ⟨_, rfl, rfl, _, _, rfl, rfl, rfl, zf, split_fit (by omega), fun l H1 s1 n1 e1 => ?_⟩
    have wl : ∀ w ∈ Txt.split z " ", w.length ≤ 4000 := fun w hw => Nat.le_trans (sn w hw) (by omega)
    generalize Txt.split z " " = ws at e1 ws1 wl z6
    clear sn ew
    refine ⟨_, rfl, _, rfl, l, _, rfl, .inl (SqL.of e1), _, _, rfl, rfl, (by rw [List.length_map]; omega), ?_⟩
    have sA : ∀ {H2 : Hp} {x : HO}, Same H H2 → Same H (upd H2 l x) := fun {H2 x} s y o hy => by rw [upd_ne (ne_of_none hy n1)]; exact s _ _ hy
    have cat : ∀ {lo hi lo2 hi2 : Option Int}, ∃ zs : List Str, cutV (ws.map V.str) lo hi ++ cutV (ws.map V.str) lo2 hi2 = zs.map V.str ∧ JoinOk " " zs = true ∧ (Txt.join " " zs).length ≤ 50000 := fun {lo hi lo2 hi2} => by
      obtain ⟨u1, a1, b1, c1⟩ := cut_strs ws lo hi
      obtain ⟨u2, a2, b2, c2⟩ := cut_strs ws lo2 hi2
      obtain ⟨j1, j2⟩ := join_le (zs := u1 ++ u2) (fun z hz => wl z ((List.mem_append.mp hz).elim (c1 z) (c2 z))) (by rw [List.length_append]; omega)
      exact ⟨u1 ++ u2, by rw [a1, a2, List.map_append], j1, j2⟩
    have sz : ∀ {lo hi lo2 hi2 : Option Int}, (cutV (ws.map V.str) lo hi).length + (cutV (ws.map V.str) lo2 hi2).length ≤ sizeLine := fun {lo hi lo2 hi2} => by
      have h1 := cutV_length (ws.map V.str) lo hi
      have h2 := cutV_length (ws.map V.str) lo2 hi2
      rw [List.length_map] at h1 h2
      rw [sizeLine_eq]
      omega
    refine ⟨_, rfl, rfl, _, rfl, ite2 (fun _ => ?_) (fun _ => ?_)⟩
    · refine ⟨rfl, _, rfl, _, rfl, _, rfl, l, _, rfl, SqL.of e1, fun p p0 => ⟨_, rfl, _, rfl, _, _, rfl, rfl, _, rfl, l, _, rfl, SqL.of (Same.upd p0 _ _ e1), fun p2 p20 => ⟨p, p2, _, _, rfl, rfl, Same.upd p20 _ _ upd_same, upd_same, sz, fun l3 H3 s3 n3 e3 => ?_⟩⟩⟩
      obtain ⟨zs, ez, j1, j2⟩ := cat (lo := none) (hi := some (mr % ((ws.map V.str).length : Nat))) (lo2 := some (mr % ((ws.map V.str).length : Nat) + 1)) (hi2 := none)
      exact ⟨_, zs, l3, rfl, rfl, SqL.of (e3.trans (by rw [← ez])), j1, q _ H3 j2 (s1.trans ((Same.upd p0).trans ((Same.upd p20).trans s3)))⟩
    refine ⟨_, rfl, rfl, _, rfl, ite2 (fun _ => ?_) (fun _ => ?_)⟩
    · refine ⟨rfl, _, rfl, _, rfl, _, _, rfl, rfl, _, rfl, l, _, rfl, SqL.of e1, fun p p0 => ⟨_, rfl, _, rfl, _, rfl, l, _, rfl, SqL.of (Same.upd p0 _ _ e1), fun p2 p20 => ⟨p, p2, _, _, rfl, rfl, Same.upd p20 _ _ upd_same, upd_same, sz, fun l3 H3 s3 n3 e3 => ?_⟩⟩⟩
      obtain ⟨zs, ez, j1, j2⟩ := cat (lo := none) (hi := some (mr % ((ws.map V.str).length : Nat) + 1)) (lo2 := some (mr % ((ws.map V.str).length : Nat))) (hi2 := none)
      exact ⟨_, zs, l3, rfl, rfl, SqL.of (e3.trans (by rw [← ez])), j1, q _ H3 j2 (s1.trans ((Same.upd p0).trans ((Same.upd p20).trans s3)))⟩
    have put : ∀ {v : Str}, v.length ≤ 4000 → JoinOk " " (ws.set (mr % ((ws.map V.str).length : Nat)).toNat v) = true ∧ (Txt.join " " (ws.set (mr % ((ws.map V.str).length : Nat)).toNat v)).length ≤ 50000 := fun {v} hv => join_le (fun z hz => (mem_set' hz).elim (wl z) (fun e => by rw [e]; exact hv)) (by rw [List.length_set]; omega)
    refine ⟨_, rfl, rfl, _, rfl, ite2 (fun _ => ?_) (fun _ => ?_)⟩
    · obtain ⟨_, yn, v0, vr, ev⟩ := split_wds y
      have ys1 : 1 ≤ (Txt.split y " ").length := by rw [ev]; exact Nat.le_add_left _ _
      have vl : ∀ w ∈ Txt.split y " ", w.length ≤ 4000 := fun w hw => Nat.le_trans (yn w hw) (by omega)
      refine ⟨_, rfl, rfl, _, _, rfl, rfl, rfl, yf, split_fit (by omega), fun l3 H3 s3 n3 e3 => ⟨_, rfl, _, _, rfl, rfl, ⟨by decide, by decide⟩, _, rfl, rfl, _, _, rfl, rfl, rfl, yf, split_fit (by omega), fun l4 H4 s4 n4 e4 => ?_⟩⟩
      generalize Txt.split y " " = vs at e3 e4 ys1 vl
      obtain ⟨x, ex, mx⟩ := at_any (xs := vs.map V.str) (i := mr / 7 % ((vs.map V.str).length : Nat)) (Int.emod_nonneg _ (by rw [List.length_map]; omega)) (Int.emod_lt_of_pos _ (by rw [List.length_map]; omega))
      obtain ⟨v, hv, rfl⟩ := List.mem_map.mp mx
      refine ⟨l4, _, rfl, .inl (SqL.of e4), _, _, rfl, rfl, (by rw [List.length_map]; omega), l3, _, _, _, rfl, rfl, SqL.of (s4 _ _ e3), ex, ?_⟩
      have e5 := s4 _ _ (s3 _ _ e1)
      refine ⟨_, rfl, _, rfl, l, _, _, _, rfl, rfl, e5, ixN_mod (by rw [List.length_map]; omega) mr, ?_⟩
      obtain ⟨j1, j2⟩ := put (vl v hv)
      exact ⟨rfl, _, rfl, _, _, l, rfl, rfl, SqL.of (upd_same.trans (by rw [← List.map_set])), j1, q _ _ j2 (sA (s1.trans (s3.trans s4)))⟩
    have n9 : ("9" : Str).length = 1 := by decide +kernel
    have d3 : (".00" : Str).length = 3 := by decide +kernel
    have l9 : (timesS "9" 3900).length = 3900 := by rw [times_len, n9]; rfl
    refine ⟨lenOk rfl, fun l3 H3 s3 n3 e3 => ?_⟩
    refine ⟨_, rfl, _, _, rfl, rfl, by decide, by decide, by rw [n9, sizeLine_eq]; decide, _, _, rfl, rfl, by decide, by decide, by rw [n9, sizeLine_eq]; decide, _, _, rfl, rfl, fitS (m := 4000) (by rw [l9, d3]; decide) rfl, lenOk rfl, fun l4 H4 s4 n4 e4 => ⟨l3, l4, _, _, rfl, rfl, s4 _ _ e3, e4, by rw [sizeLine_eq]; show 12 + 6 ≤ 16777216; decide, fun l5 H5 s5 n5 e5 => ?_⟩⟩
    obtain ⟨x, ex, mx⟩ := at_any (xs := [V.str "100", V.str "007", V.str "out", V.str "Wage", V.str "extra", V.str "10000000000.01", V.str "100000000.01", V.str "-0.01", V.str "0", V.str "2031-13", V.str "", V.str "wages"] ++ [V.str "abcdefghi", V.str "100000000.00", V.str "99", V.str "-1", V.str (timesS "9" 3900), V.str (timesS "9" 3900 ++ ".00")]) (i := mr / 7 % 18) (Int.emod_nonneg _ (by decide)) (Int.emod_lt_of_pos _ (by decide))
    obtain ⟨v, rfl, hv⟩ : ∃ v, x = .str v ∧ v.length ≤ 4000 := by
      rcases List.mem_append.mp mx with mx | mx
      · have all : ∀ x ∈ [V.str "100", V.str "007", V.str "out", V.str "Wage", V.str "extra", V.str "10000000000.01", V.str "100000000.01", V.str "-0.01", V.str "0", V.str "2031-13", V.str "", V.str "wages"], (match x with | .str y => decide (y.length ≤ 4000) | _ => false) = true := List.all_eq_true.mp (by decide +kernel)
        have := all x mx
        cases x with
        | str y => exact ⟨y, rfl, of_decide_eq_true this⟩
        | _ => cases this
      · simp only [List.mem_cons, List.not_mem_nil, or_false] at mx
        rcases mx with rfl | rfl | rfl | rfl | rfl | rfl
        · exact ⟨_, rfl, by decide +kernel⟩
        · exact ⟨_, rfl, by decide +kernel⟩
        · exact ⟨_, rfl, by decide +kernel⟩
        · exact ⟨_, rfl, by decide +kernel⟩
        · exact ⟨_, rfl, by rw [l9]; decide⟩
        · exact ⟨_, rfl, by rw [app_len, l9, d3]; decide⟩
    refine ⟨_, rfl, _, rfl, _, _, rfl, rfl, ⟨by decide, by decide⟩, _, _, rfl, rfl, (by show (0 : Int) < 18; decide), l5, _, _, _, rfl, rfl, SqL.of e5, ex, ?_⟩
    have e6 := s5 _ _ (s4 _ _ (s3 _ _ e1))
    refine ⟨_, rfl, _, rfl, l, _, _, _, rfl, rfl, e6, ixN_mod (by rw [List.length_map]; omega) mr, ?_⟩
    obtain ⟨j1, j2⟩ := put hv
    exact ⟨rfl, _, rfl, _, _, l, rfl, rfl, SqL.of (upd_same.trans (by rw [← List.map_set])), j1, q _ _ j2 (sA (s1.trans (s3.trans (s4.trans s5))))⟩
end
end K28
set_option Elab.async false
set_option linter.all false
set_option maxRecDepth 100000
set_option maxHeartbeats 4000000
namespace K28
open PySem PySem.NumText L2 Pg
seal PE PA PT PW PS PSs PG PGs PI PIf PO PK
section
variable {P : Program} {w : World} {K : PySem.W.Frag} {mg : Str → Option Value} {base : Heap} {f : Addr} {fd : FuncData} {d : Nat → Addr} {cR : Addr}
set_option maxHeartbeats 16000000 in
theorem ok_law (F : Fun K "law" "law" (top 77) f fd) (G : Glb mg) (C1 : Cal P w K mg base CX0 2 "_law_mixed" ["_law_script", "_law_k"] (sp_mixed K)) (C2 : Cal P w K mg base CX0 3 "_law_entry" ["_law_script", "_law_first"] (sp_entL K)) (C3 : Cal P w K mg base CX0 6 "line_of" ["mark", "entry"] sp_lineO) (C4 : Cal P w K mg base CX0 2 "_law_line" ["_law_mark", "_law_entry_here"] sp_lineL) (C5 : Cal P w K mg base CX0 2 "_law_is_entry" ["_law_found", "_law_due_here"] sp_isEnt) (C6 : Cal P w K mg base CX0 7 "_law_read" ["_law_line_here"] (sp_lread K))
    (C7 : Cal P w K mg base CX0 1 "_law_bent" ["_law_line_here", "_law_number", "_law_other"] sp_bentN) (C8 : Cal P w K mg base CX0 2 "_law_due" ["_law_line_here"] sp_dueL) : FnOk P w K mg base CX0 8 f fd ["_law_script"] (sp_lawS K) := by
  have nd : (["_law_script", "_law_k", "_law_mark", "_law_entry_here", "_law_line_here", "_law_other", "_law_j", "_law_bent_here", "_law_due_here", "_law_found", "_law_none"] : List Str).Nodup := by decide +kernel
  refine F.ok (N := ["_law_script", "_law_k", "_law_mark", "_law_entry_here", "_law_line_here", "_law_other", "_law_j", "_law_bent_here", "_law_due_here", "_law_found", "_law_none"]) ⟨rfl, rfl, rfl, by decide +kernel, rfl, by decide +kernel, by decide +kernel⟩ (fun vs H Q E h => ?_) (fun cdv A outer s H vs Q E hr h => ?_)
  · obtain ⟨a, ns, rfl, _⟩ := h
    rfl
  · obtain ⟨a, ns, rfl, hs, q⟩ := h
    have un0 : (A.deeper (PyProof.Rows.envOfC "law" (defScope (top 77)) s.heap.objs.size f cdv)).units < cLine := Nat.lt_of_le_of_lt (Nat.le_add_right _ 64) hr.units
    refine' ⟨_, (pss_cons (ps_for PassesOwn.never rfl (pi_range1 rfl G.range (pa_cons pe_int pa_nil)) (pg_name (i := 1) nd rfl (Or.inl rfl)) (pss_cons (ps_asg (pe_cal C2 hr (by decide) pass0 (pa_cons (pv 0) (pa_cons (pe_op op_mul pe_int (pv 1)) pa_nil))) (pg_tup rfl (pgs_cons (pg_name (i := 2) nd rfl (Or.inl rfl)) (pgs_cons (pg_name (i := 3) nd rfl (Or.inl rfl)) pgs_nil))))
        (pss_cons (ps_set (i := 4) nd rfl (Or.inl rfl) (pe_cal C3 hr (by decide) pass0 (pa_cons (pv 2) (pa_cons (pv 3) pa_nil))))
        (pss_cons (ps_if (PW.pt (pw_or (pt_not (pt_val (pe_callB call_isinst rfl G.isinstance boot_isinstance (pa_cons (pv 4) (pa_cons (pe_bltn (v := .ty "str") rfl G.str boot_str rfl) pa_nil))))) (pw_or1 (pt_cmpR op_ne (pv 4) (pe_cal C4 hr (by decide) pass0 (pa_cons (pv 2) (pa_cons (pv 3) pa_nil))) (nomark _))))) (pss_one (ps_ret pe_bl)) pss_nil)
        (pss_cons (ps_if (pt_not (pt_val (pe_cal C5 hr (by decide) pass0 (pa_cons (pe_cal C6 hr (by decide) pass0 (pa_cons (pv 4) pa_nil)) (pa_cons (pe_tupS (pa_cons (pv 2) (pa_cons (pv 3) pa_nil))) pa_nil))))) (pss_one (ps_ret pe_bl)) pss_nil)
        (pss_cons (ps_set (i := 5) nd rfl (Or.inl rfl) (pe_cal C2 hr (by decide) pass0 (pa_cons (pv 0) (pa_cons (pe_op op_mul pe_int (pe_op op_mod (pe_op op_add (pv 1) pe_int) pe_int)) pa_nil))))
        (pss_one (ps_for PassesOwn.never rfl (pi_range1 rfl G.range (pa_cons pe_int pa_nil)) (pg_name (i := 6) nd rfl (Or.inl rfl)) (pss_cons (ps_set (i := 7) nd rfl (Or.inl rfl) (pe_cal C7 hr (by decide) pass0 (pa_cons (pv 4) (pa_cons (pe_cal C1 hr (by decide) pass0 (pa_cons (pv 0) (pa_cons (pe_op op_add (pe_op op_add pe_int (pe_op op_mul pe_int (pv 1))) (pv 6)) pa_nil))) (pa_cons (pe_cal C4 hr (by decide) pass0 (pa_cons (pe_at ix_tup (pv 5) pe_int) (pa_cons (pe_at ix_tup (pv 5) pe_int) pa_nil))) pa_nil)))))
        (pss_cons (ps_set (i := 8) nd rfl (Or.inl rfl) (pe_cal C8 hr (by decide) pass0 (pa_cons (pv 7) pa_nil)))
        (pss_cons (ps_set (i := 9) nd rfl (Or.inl rfl) (pe_cal C6 hr (by decide) pass0 (pa_cons (pv 7) pa_nil)))
        (pss_one (ps_if (pt_cmpR op_isN (pv 8) pe_non (nomark _)) (pss_one (ps_if (pt_cmpR (op_neL un0) (pv 9) (pe_lstS (pa_cons pe_str (pa_cons pe_str pa_nil))) (nomark _)) (pss_one (ps_ret pe_bl)) pss_nil)) (pss_one (ps_if (pt_not (pt_val (pe_cal C5 hr (by decide) pass0 (pa_cons (pv 9) (pa_cons (pv 8) pa_nil))))) (pss_one (ps_ret pe_bl)) pss_nil)))))))))))))))
        (pss_cons (ps_set (i := 10) nd rfl (Or.inl rfl) (pe_at ix_list (pe_lstS (pa_cons pe_non (pa_cons pe_int (pa_cons pe_bl (pa_cons (pe_lstS (pa_cons pe_str pa_nil)) (pa_cons (pe_tupS (pa_cons pe_str (pa_cons pe_non pa_nil))) (pa_cons pe_dnewS (pa_cons pe_int pa_nil)))))))) (pe_op op_mod (pe_cal C1 hr (by decide) pass0 (pa_cons (pv 0) (pa_cons pe_int pa_nil))) pe_int)))
        (pss_one (ps_ret (pe_cmpR (op_eqL un0) (pe_cal C6 hr (by decide) pass0 (pa_cons (pv 10) pa_nil)) (pe_lstS (pa_cons pe_str (pa_cons pe_str pa_nil))) (nomark _)))))), ?main⟩
    dsimp (config := { proj := false, iota := false, beta := false, eta := false }) only [cxOf_K, nox_K]
    have w14 : eqVs (kWord 14) [.str "line", .str "value"] = true := by decide +kernel
    have f14 : (kWord 14).all flatV = true := by decide +kernel
    refine ⟨3, rfl, by decide, by decide, for_range2 (n := 3) (fun i σ H' => ∃ x1 x2 x3 x4 x5 x6 x7 x8 x9, σ = [some (.ref a), x1, x2, x3, x4, x5, x6, x7, x8, x9, none] ∧ Same H H') ⟨_, _, _, _, _, _, _, _, _, rfl, Same.refl _⟩ ?_ ?_⟩
    · rintro i σ H1 hi ⟨x1, x2, x3, x4, x5, x6, x7, x8, x9, rfl, s1⟩ E1 k1
      have e6 : (6 : Int) * ((0 : Int) + (i : Nat)) = ((6 * i : Nat) : Int) := by omega
      have e7 : (6 : Int) * (((0 : Int) + (i : Nat) + 1) % 3) = ((6 * ((i + 1) % 3) : Nat) : Int) := by omega
      refine ⟨_, rfl, _, rfl, _, _, rfl, rfl, .inl ⟨by decide, by decide⟩, a, 6 * i, ns, (by show [V.ref a, V.int (6 * ((0 : Int) + (i : Nat)))] = _; rw [e6]), s1.seq hs, by omega, fun mk t l H2 hm ht s2 la => ?_⟩
      obtain ⟨v, hv, th⟩ := la
      refine ⟨l, _, rfl, SqT.of hv, rfl, _, _, rfl, _, _, rfl, rfl, ?_⟩
      refine ⟨_, rfl, _, rfl, mk, v, t, rfl, hm, th, ht, fun H3 s3 => ?_⟩
      have th3 := th.same s3
      refine ⟨_, rfl, _, _, _, _, true, rfl, rfl, .inl (.str _), rfl, true, rfl, iteF ⟨_, rfl, _, rfl, _, rfl, mk, v, t, rfl, hm, th3, ht, fun H4 s4 => ⟨rfl, _, rfl, ite2 (fun e => by simp at e) (fun _ => ?_)⟩⟩⟩
      have ll := (line_ok hm ht).2
      have lr : lnO (Txt.split (lineS mk t) " ") = some (mk, t) := by rw [line_split hm ht]; exact line_read hm ht
      have th4 := th3.same s4
      refine ⟨_, rfl, .str (lineS mk t), rfl, .inr ⟨_, rfl, by omega, fun H5 s5 => ⟨fun m' t' l' e' la' => ?_, fun e' => by rw [lr] at e'; cases e'⟩⟩⟩
      rw [lr] at e'
      cases e'
      refine ⟨_, rfl, _, rfl, lenOk rfl, fun t6 H6 s6 n6 e6 => ⟨l', t6, mk, t, rfl, la'.same s6, ⟨v, e6, (th4.same s5).same s6⟩, fun H7 s7 => ⟨true, rfl, iteF ?_⟩⟩⟩
      have S7 := s1.trans (s2.trans (s3.trans (s4.trans (s5.trans (s6.trans s7)))))
      have sp6 : (Txt.split (lineS mk t) " ").length ≤ 6 := by rw [line_split hm ht, List.length_cons]; have := (rowe_len ht).1; omega
      refine ⟨_, rfl, _, rfl, _, _, rfl, rfl, _, _, rfl, rfl, (by show (0 : Int) < 3; decide), _, _, rfl, rfl, .inl ⟨by decide, by decide⟩, a, 6 * ((i + 1) % 3), ns, (by show [V.ref a, V.int (6 * (((0 : Int) + (i : Nat) + 1) % 3))] = _; rw [e7]), S7.seq hs, by omega, fun m2 t2 lo H8 hm2 ht2 s8 la2 => ?_⟩
      have ll2 := (line_ok hm2 ht2).2
      have S8 := S7.trans s8
      refine ⟨2, rfl, by decide, by decide, for_range2 (n := 2) (fun j σ H' => ∃ x6 x7 x8 x9, σ = [some (.ref a), some (.int ((0 : Int) + (i : Nat))), some (.str mk), some v, some (.str (lineS mk t)), some (.ref lo), x6, x7, x8, x9, none] ∧ Same H8 H') ⟨_, _, _, _, rfl, Same.refl _⟩ ?_ ?_⟩
      · rintro j σ H9 hj ⟨x6, x7, x8, x9, rfl, s9⟩ E9 k9
        obtain ⟨v2, hv2, th2⟩ := la2.same s9
        refine ⟨_, rfl, _, rfl, _, rfl, _, _, rfl, rfl, .inl ⟨by decide, by decide⟩, _, _, rfl, rfl, _, rfl, _, _, rfl, rfl, a, _, ns, rfl, (S8.trans s9).seq hs, ?_, ?_, ?_⟩
        · show 0 ≤ (20 : Int) + 2 * (0 + (i : Nat)) + (0 + (j : Nat))
          omega
        · show (20 : Int) + 2 * (0 + (i : Nat)) + (0 + (j : Nat)) ≤ 1000
          omega
        refine ⟨_, rfl, lo, _, _, _, rfl, rfl, SqT.of hv2, rfl, _, rfl, lo, _, _, _, rfl, rfl, SqT.of hv2, rfl, m2, v2, t2, rfl, hm2, th2, ht2, fun Ha sa => ?_⟩
        refine ⟨lineS mk t, lineS m2 t2, _, rfl, by omega, by omega, sp6, mixZ_nn _ _, fun x Hb xl sb => ?_⟩
        cases ed : lnO (Txt.split x " ") with
        | none =>
          refine ⟨_, rfl, x, rfl, xl, fun Hc sc => ⟨fun m' t' l' e' => (by rw [ed] at e'; cases e'), fun _ => ?_⟩⟩
          refine ⟨_, rfl, .str x, rfl, .inr ⟨x, rfl, xl, fun Hd sd => ⟨fun m' t' l' e' => (by rw [ed] at e'; cases e'), fun _ l' el => ?_⟩⟩⟩
          refine ⟨_, rfl, rfl, _, rfl, iteT ⟨_, rfl, lenOk rfl, fun l9 He se ne ee => ⟨l', l9, _, _, rfl, rfl, SqL.of (se _ _ el), SqL.of ee, f14, rfl, _, rfl, ?_⟩⟩⟩
          dsimp only
          rw [w14]
          exact iteF (k9 _ _ ⟨_, _, _, _, rfl, s9.trans (sa.trans (sb.trans (sc.trans (sd.trans se))))⟩)
        | some mt =>
          obtain ⟨m3, t3⟩ := mt
          refine ⟨_, rfl, x, rfl, xl, fun Hc sc => ⟨fun m' t' l' e' la' => ?_, fun e' => by rw [ed] at e'; cases e'⟩⟩
          rw [ed] at e'
          cases e'
          refine ⟨_, rfl, .str x, rfl, .inr ⟨x, rfl, xl, fun Hd sd => ⟨fun m' t' l2 e' lb => ?_, fun e' => by rw [ed] at e'; cases e'⟩⟩⟩
          rw [ed] at e'
          cases e'
          refine ⟨_, rfl, rfl, _, rfl, iteF ⟨_, rfl, _, rfl, l2, l', m3, t3, rfl, lb, la'.same sd, fun He se => ⟨true, rfl, iteF ?_⟩⟩⟩
          exact k9 _ _ ⟨_, _, _, _, rfl, s9.trans (sa.trans (sb.trans (sc.trans (sd.trans se))))⟩
      · rintro σ H9 ⟨x6, x7, x8, x9, rfl, s9⟩
        exact k1 _ _ ⟨_, _, _, _, _, _, _, _, _, rfl, S8.trans s9⟩
    · rintro σ H1 ⟨x1, x2, x3, x4, x5, x6, x7, x8, x9, rfl, s1⟩
      refine ⟨lenOk rfl, fun l2 H2 s2 n2 e2 => ⟨lenOk rfl, fun l3 H3 s3 n3 e3 => fun l4 H4 s4 n4 e4 => ⟨lenOk rfl, fun l5 H5 s5 n5 e5 => ?_⟩⟩⟩
      have S5 := s1.trans (s2.trans (s3.trans (s4.trans s5)))
      obtain ⟨x, ex, mx⟩ := at_any (xs := [V.non, V.int 5, V.bl true, V.ref l2, V.ref l3, V.ref l4, V.int 0]) (i := mixZ ns 30 % 7) (Int.emod_nonneg _ (by decide)) (Int.emod_lt_of_pos _ (by decide))
      have nx : NoStr K H5 x := by
        simp only [List.mem_cons, List.not_mem_nil, or_false] at mx
        rcases mx with rfl | rfl | rfl | rfl | rfl | rfl | rfl
        · exact ns_none
        · exact ns_int 5
        · exact ns_bl true
        · exact ns_lst (s5 _ _ (s4 _ _ (s3 _ _ e2)))
        · exact ns_tup (s5 _ _ (s4 _ _ e3))
        · exact ns_dK (s5 _ _ e4)
        · exact ns_int 0
      refine ⟨_, rfl, a, 30, ns, rfl, S5.seq hs, by decide, by decide, _, _, rfl, rfl, (by show (0 : Int) < 7; decide), l5, _, _, _, rfl, rfl, SqL.of e5, ex, ?_⟩
      refine ⟨_, rfl, x, rfl, .inl ⟨nx, fun l6 H6 s6 e6 => ⟨lenOk rfl, fun l7 H7 s7 n7 e7 => ⟨l6, l7, _, _, rfl, rfl, SqL.of (s7 _ _ e6), SqL.of e7, f14, rfl, ?_⟩⟩⟩⟩
      dsimp only
      rw [w14]
      exact q H7
end
end K28
set_option Elab.async false
set_option linter.all false
set_option maxRecDepth 100000
set_option maxHeartbeats 8000000
namespace K28
open PySem L2 Pg
theorem law_fn {l : PySem.W.OpenLaw} {w : World} {K : PySem.W.Frag} {h : Heap} {mg : Str → Option Value} {fa : Addr} {c0 c1 c2 c3 c4 c5 c6 c7 c8 c9 c10 c11 c12 c13 c14 cR : Addr} {t0 t1 t2 t3 t4 t5 t6 t7 t8 : Tok} {u0 : Tok} {u1 : Tok} (X : K.In h) (G : h.Ns mainGlobals mg) (hfa : mg "law" = some (.ref fa))
    (f_is_number : FnAt K "is_number" (top 18))
    (f_is_number_within : FnAt K "is_number_within" (top 19))
    (f_need_amount : FnAt K "need_amount" (top 20))
    (f_is_word_of : FnAt K "is_word_of" (top 25))
    (f_is_name : FnAt K "is_name" (top 26))
    (f_is_mark : FnAt K "is_mark" (top 27))
    (f_figures_of : FnAt K "figures_of" (top 32))
    (f_told_amount : FnAt K "told_amount" (top 33))
    (f_are_figures : FnAt K "are_figures" (top 34))
    (f_is_number_text : FnAt K "is_number_text" (top 35))
    (f_read_number : FnAt K "read_number" (top 36))
    (f_is_amount_text : FnAt K "is_amount_text" (top 37))
    (f_read_amount : FnAt K "read_amount" (top 38))
    (f_need_month : FnAt K "need_month" (top 42))
    (f_year_of : FnAt K "year_of" (top 43))
    (f_place_of : FnAt K "place_of" (top 44))
    (f_year_text : FnAt K "year_text" (top 45))
    (f_month_text : FnAt K "month_text" (top 46))
    (f_is_month_text : FnAt K "is_month_text" (top 47))
    (f_read_month : FnAt K "read_month" (top 48))
    (f_begins_with : FnAt K "begins_with" (top 52))
    (f_has_person_month_amount : FnAt K "has_person_month_amount" (top 53))
    (f_is_entry : FnAt K "is_entry" (top 54))
    (f_line_of : FnAt K "line_of" (top 57))
    (f_entry_of_words : FnAt K "entry_of_words" (top 58))
    (f_entry_of : FnAt K "entry_of" (top 59))
    (f__law_cell : FnAt K "_law_cell" (top 61))
    (f__law_mixed : FnAt K "_law_mixed" (top 62))
    (f__law_whole : FnAt K "_law_whole" (top 63))
    (f__law_word : FnAt K "_law_word" (top 64))
    (f__law_entry : FnAt K "_law_entry" (top 65))
    (f__law_told : FnAt K "_law_told" (top 66))
    (f__law_reads : FnAt K "_law_reads" (top 67))
    (f__law_month_text : FnAt K "_law_month_text" (top 68))
    (f__law_read_month : FnAt K "_law_read_month" (top 69))
    (f__law_line : FnAt K "_law_line" (top 70))
    (f__law_is_of : FnAt K "_law_is_of" (top 71))
    (f__law_due : FnAt K "_law_due" (top 72))
    (f__law_bent : FnAt K "_law_bent" (top 73))
    (f__law_kind : FnAt K "_law_kind" (top 74))
    (f__law_read : FnAt K "_law_read" (top 75))
    (f__law_is_entry : FnAt K "_law_is_entry" (top 76))
    (f_law : FnAt K "law" (top 77))
    (n0 : PySem.W.nsIn K mainGlobals "BadAmount" = some (some (.ref c0)))
    (n1 : PySem.W.nsIn K mainGlobals "BadShare" = some (some (.ref c1)))
    (n2 : PySem.W.nsIn K mainGlobals "BadText" = some (some (.ref c2)))
    (n3 : PySem.W.nsIn K mainGlobals "BadMonth" = some (some (.ref c3)))
    (n4 : PySem.W.nsIn K mainGlobals "BadYear" = some (some (.ref c4)))
    (n5 : PySem.W.nsIn K mainGlobals "BadRule" = some (some (.ref c5)))
    (n6 : PySem.W.nsIn K mainGlobals "BadBook" = some (some (.ref c6)))
    (n7 : PySem.W.nsIn K mainGlobals "NoYear" = some (some (.ref c7)))
    (n8 : PySem.W.nsIn K mainGlobals "BadDay" = some (some (.ref c8)))
    (n9 : PySem.W.nsIn K mainGlobals "BadEntry" = some (some (.ref c9)))
    (n10 : PySem.W.nsIn K mainGlobals "NoMark" = some (some (.ref c10)))
    (n11 : PySem.W.nsIn K mainGlobals "NoPerson" = some (some (.ref c11)))
    (n12 : PySem.W.nsIn K mainGlobals "TooMany" = some (some (.ref c12)))
    (n13 : PySem.W.nsIn K mainGlobals "BadClose" = some (some (.ref c13)))
    (n14 : PySem.W.nsIn K mainGlobals "BadLine" = some (some (.ref c14)))
    (nR : PySem.W.nsIn K mainGlobals "RollError" = some (some (.ref cR)))
    (gc0 : PySem.W.nsIn K mainGlobals "MOST_SIGNS_names" = some (some (.int 8 t0)))
    (gc1 : PySem.W.nsIn K mainGlobals "MOST_SIGNS_texts" = some (some (.int 30 t1)))
    (gc2 : PySem.W.nsIn K mainGlobals "PIECE" = some (some (.int 1000000000000000000 t2)))
    (gc3 : PySem.W.nsIn K mainGlobals "PIECE_FIGURES" = some (some (.int 18 t3)))
    (gc4 : PySem.W.nsIn K mainGlobals "YEAR_MONTHS" = some (some (.int 12 t4)))
    (gc5 : PySem.W.nsIn K mainGlobals "LAST_MONTH" = some (some (.int 119999 t5)))
    (gc6 : PySem.W.nsIn K mainGlobals "MOST_RANK" = some (some (.int 99 t6)))
    (gc7 : PySem.W.nsIn K mainGlobals "MOST_AMOUNT" = some (some (.int 10000000000 t7)))
    (gc8 : PySem.W.nsIn K mainGlobals "RANK_FIGURES" = some (some (.int 2 t8)))
    (s0 : PySem.W.nsIn K mainGlobals "LETTERS" = some (some (.str "abcdefghijklmnopqrstuvwxyz" u0)))
    (s1 : PySem.W.nsIn K mainGlobals "FIGURES" = some (some (.str "0123456789" u1)))
    (b_isinstance : PySem.W.nsIn K mainGlobals "isinstance" = some none)
    (b_int : PySem.W.nsIn K mainGlobals "int" = some none)
    (b_bool : PySem.W.nsIn K mainGlobals "bool" = some none)
    (b_str : PySem.W.nsIn K mainGlobals "str" = some none)
    (b_len : PySem.W.nsIn K mainGlobals "len" = some none)
    (b_range : PySem.W.nsIn K mainGlobals "range" = some none)
    (b_ValueError : PySem.W.nsIn K mainGlobals "ValueError" = some none)
    (b_list : PySem.W.nsIn K mainGlobals "list" = some none)
    (b_tuple : PySem.W.nsIn K mainGlobals "tuple" = some none)
    (b_dict : PySem.W.nsIn K mainGlobals "dict" = some none)
    (b_set : PySem.W.nsIn K mainGlobals "set" = some none)
    (b_all : PySem.W.nsIn K mainGlobals "all" = some none)
    (b_any : PySem.W.nsIn K mainGlobals "any" = some none)
    (b_sum : PySem.W.nsIn K mainGlobals "sum" = some none)
    (b_sorted : PySem.W.nsIn K mainGlobals "sorted" = some none)
    (b_abs : PySem.W.nsIn K mainGlobals "abs" = some none)
    (b_max : PySem.W.nsIn K mainGlobals "max" = some none)
    (b_min : PySem.W.nsIn K mainGlobals "min" = some none)
    (b_zip : PySem.W.nsIn K mainGlobals "zip" = some none)
    (b_enumerate : PySem.W.nsIn K mainGlobals "enumerate" = some none)
    (b_reversed : PySem.W.nsIn K mainGlobals "reversed" = some none)
    (x2 : PySem.W.excIn K c2 veMro "ValueError.__new__" = true)
    (e2 : PySem.W.exmOne K (.ref c2) (.ref cR) = some true)
    (X2 : XK.ExcCls K c2)
    (v2 : PySem.W.kitOne K (.ref c2) (.type "ValueError") = some true)
    (k2_0 : PySem.W.kitOne K (.ref c2) (.ref c0) = some false)
    (k2_1 : PySem.W.kitOne K (.ref c2) (.ref c1) = some false)
    (k2_2 : PySem.W.kitOne K (.ref c2) (.ref c2) = some true)
    (k2_3 : PySem.W.kitOne K (.ref c2) (.ref c3) = some false)
    (k2_4 : PySem.W.kitOne K (.ref c2) (.ref c4) = some false)
    (k2_5 : PySem.W.kitOne K (.ref c2) (.ref c5) = some false)
    (k2_6 : PySem.W.kitOne K (.ref c2) (.ref c6) = some false)
    (k2_7 : PySem.W.kitOne K (.ref c2) (.ref c7) = some false)
    (k2_8 : PySem.W.kitOne K (.ref c2) (.ref c8) = some false)
    (k2_9 : PySem.W.kitOne K (.ref c2) (.ref c9) = some false)
    (k2_10 : PySem.W.kitOne K (.ref c2) (.ref c10) = some false)
    (k2_11 : PySem.W.kitOne K (.ref c2) (.ref c11) = some false)
    (k2_12 : PySem.W.kitOne K (.ref c2) (.ref c12) = some false)
    (k2_13 : PySem.W.kitOne K (.ref c2) (.ref c13) = some false)
    (k2_14 : PySem.W.kitOne K (.ref c2) (.ref c14) = some false)
    (x3 : PySem.W.excIn K c3 veMro "ValueError.__new__" = true)
    (e3 : PySem.W.exmOne K (.ref c3) (.ref cR) = some true)
    (X3 : XK.ExcCls K c3)
    (v3 : PySem.W.kitOne K (.ref c3) (.type "ValueError") = some true)
    (k3_0 : PySem.W.kitOne K (.ref c3) (.ref c0) = some false)
    (k3_1 : PySem.W.kitOne K (.ref c3) (.ref c1) = some false)
    (k3_2 : PySem.W.kitOne K (.ref c3) (.ref c2) = some false)
    (k3_3 : PySem.W.kitOne K (.ref c3) (.ref c3) = some true)
    (k3_4 : PySem.W.kitOne K (.ref c3) (.ref c4) = some false)
    (k3_5 : PySem.W.kitOne K (.ref c3) (.ref c5) = some false)
    (k3_6 : PySem.W.kitOne K (.ref c3) (.ref c6) = some false)
    (k3_7 : PySem.W.kitOne K (.ref c3) (.ref c7) = some false)
    (k3_8 : PySem.W.kitOne K (.ref c3) (.ref c8) = some false)
    (k3_9 : PySem.W.kitOne K (.ref c3) (.ref c9) = some false)
    (k3_10 : PySem.W.kitOne K (.ref c3) (.ref c10) = some false)
    (k3_11 : PySem.W.kitOne K (.ref c3) (.ref c11) = some false)
    (k3_12 : PySem.W.kitOne K (.ref c3) (.ref c12) = some false)
    (k3_13 : PySem.W.kitOne K (.ref c3) (.ref c13) = some false)
    (k3_14 : PySem.W.kitOne K (.ref c3) (.ref c14) = some false)
    (x14 : PySem.W.excIn K c14 veMro "ValueError.__new__" = true)
    (e14 : PySem.W.exmOne K (.ref c14) (.ref cR) = some true)
    (X14 : XK.ExcCls K c14)
    (v14 : PySem.W.kitOne K (.ref c14) (.type "ValueError") = some true)
    (k14_0 : PySem.W.kitOne K (.ref c14) (.ref c0) = some false)
    (k14_1 : PySem.W.kitOne K (.ref c14) (.ref c1) = some false)
    (k14_2 : PySem.W.kitOne K (.ref c14) (.ref c2) = some false)
    (k14_3 : PySem.W.kitOne K (.ref c14) (.ref c3) = some false)
    (k14_4 : PySem.W.kitOne K (.ref c14) (.ref c4) = some false)
    (k14_5 : PySem.W.kitOne K (.ref c14) (.ref c5) = some false)
    (k14_6 : PySem.W.kitOne K (.ref c14) (.ref c6) = some false)
    (k14_7 : PySem.W.kitOne K (.ref c14) (.ref c7) = some false)
    (k14_8 : PySem.W.kitOne K (.ref c14) (.ref c8) = some false)
    (k14_9 : PySem.W.kitOne K (.ref c14) (.ref c9) = some false)
    (k14_10 : PySem.W.kitOne K (.ref c14) (.ref c10) = some false)
    (k14_11 : PySem.W.kitOne K (.ref c14) (.ref c11) = some false)
    (k14_12 : PySem.W.kitOne K (.ref c14) (.ref c12) = some false)
    (k14_13 : PySem.W.kitOne K (.ref c14) (.ref c13) = some false)
    (k14_14 : PySem.W.kitOne K (.ref c14) (.ref c14) = some true)
    (xTT : PySem.W.exmOne K (.ref c2) (.ref c2) = some true)
    (xLT : PySem.W.exmOne K (.ref c14) (.ref c2) = some false)
    : ∃ fd : FuncData, (∀ (s : Shared) (v : Value), BindsTo s fd ⟨[v], []⟩ [("_law_script", v)]) ∧ ∀ base : Heap, K.In base → base.Ns mainGlobals mg → FnOk l.prog w K mg base CX0 8 fa fd ["_law_script"] (sp_lawS K) := by
  obtain ⟨d, rfl, rfl, rfl, rfl, rfl, rfl, rfl, rfl, rfl, rfl, rfl, rfl, rfl, rfl, rfl⟩ : ∃ d : Nat → Addr, d 0 = c0 ∧ d 1 = c1 ∧ d 2 = c2 ∧ d 3 = c3 ∧ d 4 = c4 ∧ d 5 = c5 ∧ d 6 = c6 ∧ d 7 = c7 ∧ d 8 = c8 ∧ d 9 = c9 ∧ d 10 = c10 ∧ d 11 = c11 ∧ d 12 = c12 ∧ d 13 = c13 ∧ d 14 = c14 := ⟨fun i => [c0, c1, c2, c3, c4, c5, c6, c7, c8, c9, c10, c11, c12, c13, c14].getD i 0, rfl, rfl, rfl, rfl, rfl, rfl, rfl, rfl, rfl, rfl, rfl, rfl, rfl, rfl, rfl⟩
  obtain ⟨fl, fdl, al, Fl⟩ := f_law
  have e := hfa.symm.trans (PySem.W.mg_of X G al)
  cases e
  have k2 : KdOf K d (d 2) 2 := ⟨X2, v2, k2_0, k2_1, k2_2, k2_3, k2_4, k2_5, k2_6, k2_7, k2_8, k2_9, k2_10, k2_11, k2_12, k2_13, k2_14⟩
  have k3 : KdOf K d (d 3) 3 := ⟨X3, v3, k3_0, k3_1, k3_2, k3_3, k3_4, k3_5, k3_6, k3_7, k3_8, k3_9, k3_10, k3_11, k3_12, k3_13, k3_14⟩
  have k14 : KdOf K d (d 14) 14 := ⟨X14, v14, k14_0, k14_1, k14_2, k14_3, k14_4, k14_5, k14_6, k14_7, k14_8, k14_9, k14_10, k14_11, k14_12, k14_13, k14_14⟩
  have GL : Glb mg := ⟨PySem.W.mg_none_of X G b_isinstance, PySem.W.mg_none_of X G b_int, PySem.W.mg_none_of X G b_bool, PySem.W.mg_none_of X G b_str, PySem.W.mg_none_of X G b_len, PySem.W.mg_none_of X G b_range, PySem.W.mg_none_of X G b_ValueError, PySem.W.mg_none_of X G b_list, PySem.W.mg_none_of X G b_tuple, PySem.W.mg_none_of X G b_dict, PySem.W.mg_none_of X G b_set, PySem.W.mg_none_of X G b_all, PySem.W.mg_none_of X G b_any, PySem.W.mg_none_of X G b_sum, PySem.W.mg_none_of X G b_sorted, PySem.W.mg_none_of X G b_abs, PySem.W.mg_none_of X G b_max, PySem.W.mg_none_of X G b_min, PySem.W.mg_none_of X G b_zip, PySem.W.mg_none_of X G b_enumerate, PySem.W.mg_none_of X G b_reversed⟩
  have KD : Kds mg d := ⟨PySem.W.mg_of X G n0, PySem.W.mg_of X G n1, PySem.W.mg_of X G n2, PySem.W.mg_of X G n3, PySem.W.mg_of X G n4, PySem.W.mg_of X G n5, PySem.W.mg_of X G n6, PySem.W.mg_of X G n7, PySem.W.mg_of X G n8, PySem.W.mg_of X G n9, PySem.W.mg_of X G n10, PySem.W.mg_of X G n11, PySem.W.mg_of X G n12, PySem.W.mg_of X G n13, PySem.W.mg_of X G n14⟩
  have mgR : mg "RollError" = some (.ref cR) := PySem.W.mg_of X G nR
  have ER2 : Er K mg "BadText" (d 2) := ⟨PySem.W.mg_of X G n2, x2⟩
  have RZ2 : Rz K d cR 2 := ⟨e2, k2⟩
  have ER3 : Er K mg "BadMonth" (d 3) := ⟨PySem.W.mg_of X G n3, x3⟩
  have RZ3 : Rz K d cR 3 := ⟨e3, k3⟩
  have ER14 : Er K mg "BadLine" (d 14) := ⟨PySem.W.mg_of X G n14, x14⟩
  have RZ14 : Rz K d cR 14 := ⟨e14, k14⟩
  have N_MOST_SIGNS_names : Num mg "MOST_SIGNS_names" 8 := ⟨t0, PySem.W.mg_of X G gc0⟩
  have N_MOST_SIGNS_texts : Num mg "MOST_SIGNS_texts" 30 := ⟨t1, PySem.W.mg_of X G gc1⟩
  have N_PIECE : Num mg "PIECE" 1000000000000000000 := ⟨t2, PySem.W.mg_of X G gc2⟩
  have N_PIECE_FIGURES : Num mg "PIECE_FIGURES" 18 := ⟨t3, PySem.W.mg_of X G gc3⟩
  have N_YEAR_MONTHS : Num mg "YEAR_MONTHS" 12 := ⟨t4, PySem.W.mg_of X G gc4⟩
  have N_LAST_MONTH : Num mg "LAST_MONTH" 119999 := ⟨t5, PySem.W.mg_of X G gc5⟩
  have N_MOST_RANK : Num mg "MOST_RANK" 99 := ⟨t6, PySem.W.mg_of X G gc6⟩
  have N_MOST_AMOUNT : Num mg "MOST_AMOUNT" 10000000000 := ⟨t7, PySem.W.mg_of X G gc7⟩
  have N_RANK_FIGURES : Num mg "RANK_FIGURES" 2 := ⟨t8, PySem.W.mg_of X G gc8⟩
  have N_LETTERS : Pg.Txt mg "LETTERS" "abcdefghijklmnopqrstuvwxyz" := ⟨_, PySem.W.mg_of X G s0⟩
  have N_FIGURES : Pg.Txt mg "FIGURES" "0123456789" := ⟨_, PySem.W.mg_of X G s1⟩
  have bl := Fl.binds (ps := ["_law_script"]) (fun _ _ _ _ _ _ us hl => by obtain ⟨a, rfl⟩ := ulen1 hl; rfl)
  refine ⟨fdl, fun s v => ?_, fun base _ _ => ?_⟩
  · obtain ⟨oc, od, kV, doc, pm, an, cdv, ct, osl, rfl, lk, hcd⟩ := Fl.ex
    exact .of_eq rfl
  have C1 := f_is_number.cal (P := l.prog) (w := w) (base := base) (ps := ["thing"]) X G (fun _ _ _ _ _ _ us hl => by obtain ⟨a, rfl⟩ := ulen1 hl; rfl) fun f fd F => ok_is_number F GL
  have C2 := f_is_number_within.cal (P := l.prog) (w := w) (base := base) (ps := ["thing", "least", "most"]) X G (fun _ _ _ _ _ _ us hl => by obtain ⟨a, b, c, rfl⟩ := ulen3 hl; rfl) fun f fd F => ok_within F C1
  have C3 := f_need_amount.cal (P := l.prog) (w := w) (base := base) (ps := ["thing"]) X G (fun _ _ _ _ _ _ us hl => by obtain ⟨a, rfl⟩ := ulen1 hl; rfl) fun f fd F => ok_needA F C1
  have C4 := f_figures_of.cal (P := l.prog) (w := w) (base := base) (ps := ["number"]) X G (fun _ _ _ _ _ _ us hl => by obtain ⟨a, rfl⟩ := ulen1 hl; rfl) fun f fd F => ok_figsG F GL N_PIECE N_PIECE_FIGURES
  have C5 := f_told_amount.cal (P := l.prog) (w := w) (base := base) (ps := ["amount"]) X G (fun _ _ _ _ _ _ us hl => by obtain ⟨a, rfl⟩ := ulen1 hl; rfl) fun f fd F => ok_toldG F GL C3 C4
  have C6 := f_are_figures.cal (P := l.prog) (w := w) (base := base) (ps := ["text"]) X G (fun _ _ _ _ _ _ us hl => by obtain ⟨a, rfl⟩ := ulen1 hl; rfl) fun f fd F => ok_are_figures F GL N_FIGURES
  have C7 := f_is_number_text.cal (P := l.prog) (w := w) (base := base) (ps := ["text"]) X G (fun _ _ _ _ _ _ us hl => by obtain ⟨a, rfl⟩ := ulen1 hl; rfl) fun f fd F => ok_numT F C6
  have C8 := f_is_amount_text.cal (P := l.prog) (w := w) (base := base) (ps := ["text"]) X G (fun _ _ _ _ _ _ us hl => by obtain ⟨a, rfl⟩ := ulen1 hl; rfl) fun f fd F => ok_amtT F C6 C7
  have C9 := f_read_amount.cal (P := l.prog) (w := w) (base := base) (ps := ["text"]) X G (fun _ _ _ _ _ _ us hl => by obtain ⟨a, rfl⟩ := ulen1 hl; rfl) fun f fd F => ok_readA F GL ER2 N_MOST_SIGNS_texts C8
  have C10 := f_need_month.cal (P := l.prog) (w := w) (base := base) (ps := ["thing"]) X G (fun _ _ _ _ _ _ us hl => by obtain ⟨a, rfl⟩ := ulen1 hl; rfl) fun f fd F => ok_need_month F ER3 N_LAST_MONTH C2
  have C11 := f_year_of.cal (P := l.prog) (w := w) (base := base) (ps := ["month"]) X G (fun _ _ _ _ _ _ us hl => by obtain ⟨a, rfl⟩ := ulen1 hl; rfl) fun f fd F => ok_year_of F N_YEAR_MONTHS C10
  have C12 := f_place_of.cal (P := l.prog) (w := w) (base := base) (ps := ["month"]) X G (fun _ _ _ _ _ _ us hl => by obtain ⟨a, rfl⟩ := ulen1 hl; rfl) fun f fd F => ok_place_of F N_YEAR_MONTHS C10
  have C13 := f_year_text.cal (P := l.prog) (w := w) (base := base) (ps := ["year"]) X G (fun _ _ _ _ _ _ us hl => by obtain ⟨a, rfl⟩ := ulen1 hl; rfl) fun f fd F => ok_year_text F GL
  have C14 := f_month_text.cal (P := l.prog) (w := w) (base := base) (ps := ["month"]) X G (fun _ _ _ _ _ _ us hl => by obtain ⟨a, rfl⟩ := ulen1 hl; rfl) fun f fd F => ok_month_text F GL C12 C11 C13
  have C15 := f_is_month_text.cal (P := l.prog) (w := w) (base := base) (ps := ["thing"]) X G (fun _ _ _ _ _ _ us hl => by obtain ⟨a, rfl⟩ := ulen1 hl; rfl) fun f fd F => ok_is_month_text F GL C6
  have C16 := f_read_month.cal (P := l.prog) (w := w) (base := base) (ps := ["text"]) X G (fun _ _ _ _ _ _ us hl => by obtain ⟨a, rfl⟩ := ulen1 hl; rfl) fun f fd F => ok_read_month F GL ER2 N_YEAR_MONTHS C15
  have C17 := f_is_word_of.cal (P := l.prog) (w := w) (base := base) (ps := ["thing", "signs"]) X G (fun _ _ _ _ _ _ us hl => by obtain ⟨a, b, rfl⟩ := ulen2 hl; rfl) fun f fd F => ok_wdB F GL N_MOST_SIGNS_names
  have C18 := f_is_name.cal (P := l.prog) (w := w) (base := base) (ps := ["thing"]) X G (fun _ _ _ _ _ _ us hl => by obtain ⟨a, rfl⟩ := ulen1 hl; rfl) fun f fd F => ok_nmB2 F N_LETTERS C17
  have C19 := f_is_mark.cal (P := l.prog) (w := w) (base := base) (ps := ["thing"]) X G (fun _ _ _ _ _ _ us hl => by obtain ⟨a, rfl⟩ := ulen1 hl; rfl) fun f fd F => ok_mkB2 F N_LETTERS N_FIGURES C17
  have C20 := f_begins_with.cal (P := l.prog) (w := w) (base := base) (ps := ["thing", "word", "length"]) X G (fun _ _ _ _ _ _ us hl => by obtain ⟨a, b, c, rfl⟩ := ulen3 hl; rfl) fun f fd F => ok_begins F GL
  have C21 := f_has_person_month_amount.cal (P := l.prog) (w := w) (base := base) (ps := ["entry"]) X G (fun _ _ _ _ _ _ us hl => by obtain ⟨a, rfl⟩ := ulen1 hl; rfl) fun f fd F => ok_pmaB F N_LAST_MONTH N_MOST_AMOUNT C18 C2
  have C22 := f_is_entry.cal (P := l.prog) (w := w) (base := base) (ps := ["thing"]) X G (fun _ _ _ _ _ _ us hl => by obtain ⟨a, rfl⟩ := ulen1 hl; rfl) fun f fd F => ok_isEnB F N_MOST_RANK C20 C21 C2
  have C23 := f_read_number.cal (P := l.prog) (w := w) (base := base) (ps := ["text", "most_figures"]) X G (fun _ _ _ _ _ _ us hl => by obtain ⟨a, b, rfl⟩ := ulen2 hl; rfl) fun f fd F => ok_rdN F GL ER2 C7
  have C24 := f_entry_of_words.cal (P := l.prog) (w := w) (base := base) (ps := ["words"]) X G (fun _ _ _ _ _ _ us hl => by obtain ⟨a, rfl⟩ := ulen1 hl; rfl) fun f fd F => ok_ew F GL ER14 N_RANK_FIGURES C23 C16 C9
  have C25 := f_entry_of.cal (P := l.prog) (w := w) (base := base) (ps := ["line"]) X G (fun _ _ _ _ _ _ us hl => by obtain ⟨a, rfl⟩ := ulen1 hl; rfl) fun f fd F => ok_eof F GL ER14 ER2 xTT xLT C24 C19 C22
  have C26 := f_line_of.cal (P := l.prog) (w := w) (base := base) (ps := ["mark", "entry"]) X G (fun _ _ _ _ _ _ us hl => by obtain ⟨a, b, rfl⟩ := ulen2 hl; rfl) fun f fd F => ok_lineO F GL C14 C5
  have D1 := f__law_cell.cal (P := l.prog) (w := w) (base := base) (ps := ["_law_script", "_law_k"]) X G (fun _ _ _ _ _ _ us hl => by obtain ⟨a, b, rfl⟩ := ulen2 hl; rfl) fun f fd F => ok_cell F GL
  have D2 := f__law_mixed.cal (P := l.prog) (w := w) (base := base) (ps := ["_law_script", "_law_k"]) X G (fun _ _ _ _ _ _ us hl => by obtain ⟨a, b, rfl⟩ := ulen2 hl; rfl) fun f fd F => ok_mixed F D1
  have D3 := f__law_whole.cal (P := l.prog) (w := w) (base := base) (ps := ["_law_found"]) X G (fun _ _ _ _ _ _ us hl => by obtain ⟨a, rfl⟩ := ulen1 hl; rfl) fun f fd F => ok_whole F GL
  have D4 := f__law_word.cal (P := l.prog) (w := w) (base := base) (ps := ["_law_number", "_law_signs"]) X G (fun _ _ _ _ _ _ us hl => by obtain ⟨a, b, rfl⟩ := ulen2 hl; rfl) fun f fd F => ok_wordL F GL
  have D5 := f__law_entry.cal (P := l.prog) (w := w) (base := base) (ps := ["_law_script", "_law_first"]) X G (fun _ _ _ _ _ _ us hl => by obtain ⟨a, b, rfl⟩ := ulen2 hl; rfl) fun f fd F => ok_entL F GL D2 D4
  have D6 := f__law_told.cal (P := l.prog) (w := w) (base := base) (ps := ["_law_amount"]) X G (fun _ _ _ _ _ _ us hl => by obtain ⟨a, rfl⟩ := ulen1 hl; rfl) fun f fd F => ok_toldLG F GL
  have D7 := f__law_reads.cal (P := l.prog) (w := w) (base := base) (ps := ["_law_text"]) X G (fun _ _ _ _ _ _ us hl => by obtain ⟨a, rfl⟩ := ulen1 hl; rfl) fun f fd F => ok_readsL F GL
  have D8 := f__law_month_text.cal (P := l.prog) (w := w) (base := base) (ps := ["_law_month"]) X G (fun _ _ _ _ _ _ us hl => by obtain ⟨a, rfl⟩ := ulen1 hl; rfl) fun f fd F => ok_textL F GL
  have D9 := f__law_read_month.cal (P := l.prog) (w := w) (base := base) (ps := ["_law_text"]) X G (fun _ _ _ _ _ _ us hl => by obtain ⟨a, rfl⟩ := ulen1 hl; rfl) fun f fd F => ok_readL F GL
  have D10 := f__law_line.cal (P := l.prog) (w := w) (base := base) (ps := ["_law_mark", "_law_entry_here"]) X G (fun _ _ _ _ _ _ us hl => by obtain ⟨a, b, rfl⟩ := ulen2 hl; rfl) fun f fd F => ok_lineL F GL D8 D6
  have D11 := f__law_is_of.cal (P := l.prog) (w := w) (base := base) (ps := ["_law_word_here", "_law_signs"]) X G (fun _ _ _ _ _ _ us hl => by obtain ⟨a, b, rfl⟩ := ulen2 hl; rfl) fun f fd F => ok_isOf F GL
  have D12 := f__law_due.cal (P := l.prog) (w := w) (base := base) (ps := ["_law_line_here"]) X G (fun _ _ _ _ _ _ us hl => by obtain ⟨a, rfl⟩ := ulen1 hl; rfl) fun f fd F => ok_dueL F GL D11 D9 D7
  have D13 := f__law_bent.cal (P := l.prog) (w := w) (base := base) (ps := ["_law_line_here", "_law_number", "_law_other"]) X G (fun _ _ _ _ _ _ us hl => by obtain ⟨a, b, c, rfl⟩ := ulen3 hl; rfl) fun f fd F => ok_bentN F GL
  have D14 := f__law_kind.calQ (P := l.prog) (w := w) (base := base) (ps := ["_law_e"]) X G (fun _ _ _ _ _ _ us hl => by obtain ⟨a, rfl⟩ := ulen1 hl; rfl) fun f fd F => ok_kind F GL KD
  have D15 := f__law_read.cal (P := l.prog) (w := w) (base := base) (ps := ["_law_line_here"]) X G (fun _ _ _ _ _ _ us hl => by obtain ⟨a, rfl⟩ := ulen1 hl; rfl) fun f fd F => ok_lread F mgR RZ14 C25 D14
  have D16 := f__law_is_entry.cal (P := l.prog) (w := w) (base := base) (ps := ["_law_found", "_law_due_here"]) X G (fun _ _ _ _ _ _ us hl => by obtain ⟨a, b, rfl⟩ := ulen2 hl; rfl) fun f fd F => ok_isEnt F GL D3
  exact ok_law Fl GL D2 D5 C26 D10 D16 D15 D13 D12
theorem walk {l : PySem.W.OpenLaw} {q : Program} {loose : List Str} {XP : (Str → Option Value) → Heap → Prop} {YP : World → Heap → Prop} {d : DefRec} {K : Params → PySem.W.Frag} (hn : l.most = some 63) (hdf : d.params.defaults = [])
    (hY : ∀ (w : World) (h : Heap), YP w h → (K w.params).In h)
    (F : ∀ (w : World) (mg : Str → Option Value) (fa : Addr) (h : Heap), (K w.params).In h → h.Ns mainGlobals mg → mg d.name = some (.ref fa) →
      ∃ fd : FuncData, (∀ (s : Shared) (u : Value), BindsTo s fd ⟨[u], []⟩ [("_law_script", u)]) ∧ ∀ base : Heap, (K w.params).In base → base.Ns mainGlobals mg → FnOk l.prog w (K w.params) mg base CX0 8 fa fd ["_law_script"] (sp_lawS (K w.params))) :
    PySem.W.WalkO q loose XP YP l.row.toRowW d [] (fun f vs => PySem.call f vs) :=
  L2.walk_of (n := 63) (k := 8) (x := "_law_script") (CX := fun _ => CX0) (sp := fun w => (sp_lawS (K w.params))) hn (by decide) hdf ⟨rfl, by decide, by decide⟩ hY F (fun _ _ a ns hl _ hS => ⟨a, ns, rfl, hS, fun _ => rfl⟩) fun _ _ _ _ _ z => z
end K28
set_option Elab.async false
set_option linter.all false
set_option maxRecDepth 100000
set_option maxHeartbeats 0
namespace K28
open PySem PySem.W PySem.Calls PyProof.Rows L2
theorem hDef : (defOf hQ "law").isSome = true := by kernel_rfl
noncomputable def hD : DefRec := ((defOf hQ "law").get hDef).1
theorem hWalk : WalkO hQ [] (XL hQ []) (FactsIn hSee hWant) (PySem.Challenge.rw_coinroll_k28_lines_read).row.toRowW hD [] (fun f vs => PySem.call f vs) := by
  refine walk_ex fun K e => ?_
  have hF : hFs.map (fun x => fnSeen K (nsIn K mainGlobals x.1)) = hFs.map (fun x => fnWant x.1 x.1 (top x.2)) := congrArg Prod.fst e
  have hM : hMs.map (fun x => fnSeen K (findIn K (.ref x.1) x.2.1)) = hMs.map (fun x => fnWant x.2.1 x.2.2.1 (inClass (top x.2.2.2.1) x.2.2.2.2)) := congrArg (fun z => z.2.1) e
  have hB : (hYes K).all id = true := congrArg (fun z => z.2.2) e
  obtain ⟨t0, gc0⟩ := int_of (all_get hB 16 rfl)
  obtain ⟨t1, gc1⟩ := int_of (all_get hB 17 rfl)
  obtain ⟨t2, gc2⟩ := int_of (all_get hB 18 rfl)
  obtain ⟨t3, gc3⟩ := int_of (all_get hB 19 rfl)
  obtain ⟨t4, gc4⟩ := int_of (all_get hB 20 rfl)
  obtain ⟨t5, gc5⟩ := int_of (all_get hB 21 rfl)
  obtain ⟨t6, gc6⟩ := int_of (all_get hB 22 rfl)
  obtain ⟨t7, gc7⟩ := int_of (all_get hB 23 rfl)
  obtain ⟨t8, gc8⟩ := int_of (all_get hB 24 rfl)
  obtain ⟨u0, s0⟩ := str_of (all_get hB 25 rfl)
  obtain ⟨u1, s1⟩ := str_of (all_get hB 26 rfl)
  refine walk (l := PySem.Challenge.rw_coinroll_k28_lines_read) (K := fun _ => K) rfl (by kernel_rfl) (fun w h Y => Y) ?_
  intro w mg fa h KX G hmg
  exact law_fn KX G hmg (fnAt_seen (map_get hF 0 rfl)) (fnAt_seen (map_get hF 1 rfl)) (fnAt_seen (map_get hF 2 rfl)) (fnAt_seen (map_get hF 3 rfl)) (fnAt_seen (map_get hF 4 rfl)) (fnAt_seen (map_get hF 5 rfl)) (fnAt_seen (map_get hF 6 rfl)) (fnAt_seen (map_get hF 7 rfl)) (fnAt_seen (map_get hF 8 rfl)) (fnAt_seen (map_get hF 9 rfl)) (fnAt_seen (map_get hF 10 rfl)) (fnAt_seen (map_get hF 11 rfl)) (fnAt_seen (map_get hF 12 rfl)) (fnAt_seen (map_get hF 13 rfl)) (fnAt_seen (map_get hF 14 rfl)) (fnAt_seen (map_get hF 15 rfl)) (fnAt_seen (map_get hF 16 rfl)) (fnAt_seen (map_get hF 17 rfl)) (fnAt_seen (map_get hF 18 rfl)) (fnAt_seen (map_get hF 19 rfl)) (fnAt_seen (map_get hF 20 rfl)) (fnAt_seen (map_get hF 21 rfl)) (fnAt_seen (map_get hF 22 rfl)) (fnAt_seen (map_get hF 23 rfl)) (fnAt_seen (map_get hF 24 rfl)) (fnAt_seen (map_get hF 25 rfl)) (fnAt_seen (map_get hF 26 rfl)) (fnAt_seen (map_get hF 27 rfl)) (fnAt_seen (map_get hF 28 rfl)) (fnAt_seen (map_get hF 29 rfl)) (fnAt_seen (map_get hF 30 rfl)) (fnAt_seen (map_get hF 31 rfl)) (fnAt_seen (map_get hF 32 rfl)) (fnAt_seen (map_get hF 33 rfl)) (fnAt_seen (map_get hF 34 rfl)) (fnAt_seen (map_get hF 35 rfl)) (fnAt_seen (map_get hF 36 rfl)) (fnAt_seen (map_get hF 37 rfl)) (fnAt_seen (map_get hF 38 rfl)) (fnAt_seen (map_get hF 39 rfl)) (fnAt_seen (map_get hF 40 rfl)) (fnAt_seen (map_get hF 41 rfl)) (fnAt_seen (map_get hF 42 rfl)) (ref_of (all_get hB 0 rfl)) (ref_of (all_get hB 1 rfl)) (ref_of (all_get hB 2 rfl)) (ref_of (all_get hB 3 rfl)) (ref_of (all_get hB 4 rfl)) (ref_of (all_get hB 5 rfl)) (ref_of (all_get hB 6 rfl)) (ref_of (all_get hB 7 rfl)) (ref_of (all_get hB 8 rfl)) (ref_of (all_get hB 9 rfl)) (ref_of (all_get hB 10 rfl)) (ref_of (all_get hB 11 rfl)) (ref_of (all_get hB 12 rfl)) (ref_of (all_get hB 13 rfl)) (ref_of (all_get hB 14 rfl)) (ref_of (all_get hB 15 rfl)) gc0 gc1 gc2 gc3 gc4 gc5 gc6 gc7 gc8 s0 s1 (no_of (all_get hB 27 rfl)) (no_of (all_get hB 28 rfl)) (no_of (all_get hB 29 rfl)) (no_of (all_get hB 30 rfl)) (no_of (all_get hB 31 rfl)) (no_of (all_get hB 32 rfl)) (no_of (all_get hB 33 rfl)) (no_of (all_get hB 34 rfl)) (no_of (all_get hB 35 rfl)) (no_of (all_get hB 36 rfl)) (no_of (all_get hB 37 rfl)) (no_of (all_get hB 38 rfl)) (no_of (all_get hB 39 rfl)) (no_of (all_get hB 40 rfl)) (no_of (all_get hB 41 rfl)) (no_of (all_get hB 42 rfl)) (no_of (all_get hB 43 rfl)) (no_of (all_get hB 44 rfl)) (no_of (all_get hB 45 rfl)) (no_of (all_get hB 46 rfl)) (no_of (all_get hB 47 rfl)) (all_get hB 48 rfl) (b_of (all_get hB 49 rfl)) (exc_seen (all_get hB 50 rfl)) (b_of (all_get hB 51 rfl)) (b_of (all_get hB 52 rfl)) (b_of (all_get hB 53 rfl)) (b_of (all_get hB 54 rfl)) (b_of (all_get hB 55 rfl)) (b_of (all_get hB 56 rfl)) (b_of (all_get hB 57 rfl)) (b_of (all_get hB 58 rfl)) (b_of (all_get hB 59 rfl)) (b_of (all_get hB 60 rfl)) (b_of (all_get hB 61 rfl)) (b_of (all_get hB 62 rfl)) (b_of (all_get hB 63 rfl)) (b_of (all_get hB 64 rfl)) (b_of (all_get hB 65 rfl)) (b_of (all_get hB 66 rfl)) (all_get hB 67 rfl) (b_of (all_get hB 68 rfl)) (exc_seen (all_get hB 69 rfl)) (b_of (all_get hB 70 rfl)) (b_of (all_get hB 71 rfl)) (b_of (all_get hB 72 rfl)) (b_of (all_get hB 73 rfl)) (b_of (all_get hB 74 rfl)) (b_of (all_get hB 75 rfl)) (b_of (all_get hB 76 rfl)) (b_of (all_get hB 77 rfl)) (b_of (all_get hB 78 rfl)) (b_of (all_get hB 79 rfl)) (b_of (all_get hB 80 rfl)) (b_of (all_get hB 81 rfl)) (b_of (all_get hB 82 rfl)) (b_of (all_get hB 83 rfl)) (b_of (all_get hB 84 rfl)) (b_of (all_get hB 85 rfl)) (all_get hB 86 rfl) (b_of (all_get hB 87 rfl)) (exc_seen (all_get hB 88 rfl)) (b_of (all_get hB 89 rfl)) (b_of (all_get hB 90 rfl)) (b_of (all_get hB 91 rfl)) (b_of (all_get hB 92 rfl)) (b_of (all_get hB 93 rfl)) (b_of (all_get hB 94 rfl)) (b_of (all_get hB 95 rfl)) (b_of (all_get hB 96 rfl)) (b_of (all_get hB 97 rfl)) (b_of (all_get hB 98 rfl)) (b_of (all_get hB 99 rfl)) (b_of (all_get hB 100 rfl)) (b_of (all_get hB 101 rfl)) (b_of (all_get hB 102 rfl)) (b_of (all_get hB 103 rfl)) (b_of (all_get hB 104 rfl)) (b_of (all_get hB 105 rfl)) (b_of (all_get hB 106 rfl))
end K28
open PySem PySem.W PyProof.Rows
set_option maxRecDepth 100000 in
set_option maxHeartbeats 0 in
theorem PySem.Challenge.cw_coinroll_k28_lines_read_holds : PySem.Challenge.rw_coinroll_k28_lines_read.Holds := by
  w_on; o_law
  refine' holds_open (q := K28.hQ) (d := K28.hD) (kwd := []) K28.hLeft ?a1 ?a2 ?a3 XL.keeps ?a4 ?a5 ?a6 ?a7 ?a8 ?a9 ?b1 ?b2 ?b3 K28.hWalk
  case a1 => exact fun w s e => L2.facts_of w s e
  case a2 => exact L2.facts_keep
  case a3 => exact fun s e => xl_of s (Bool.and_eq_true_iff.mp e).1
  case a4 => exact L2.def_get K28.hDef (by kernel_rfl)
  case a5 => kernel_rfl
  case a6 => kernel_rfl
  case a7 => exact fun s e => recFacts_of (Bool.and_eq_true_iff.mp e).2
  case a8 => rfl
  case a9 => assumption
  case b1 => decide +kernel
  case b2 => exact ⟨rfl, rfl, rfl, rfl, rfl, by decide +kernel⟩
  case b3 => w_witness2
#print axioms PySem.Challenge.cw_coinroll_k28_lines_read_holds
