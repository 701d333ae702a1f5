import PyProof.Rows.All
import Wide.All
import OpenK.AllK
import Wide.FinOn
import Lean
import PyProof.EqAt
import PyProof.EqKinds
import PyProof.TupleCall
import PyProof.NeKinds
import PyProof.SumWalkG
import PyProof.EnumMake
import KE.KIntText
import PyProof.StrLawsIn
import PyProof.StrCalls2
import PyProof.Rows.SortRuns
import KE.KSortTup
import KE.KSortKey
import PyProof.StrCalls
import PyProof.ListRange
import KE.IntTextLaws
import KE.IntTextText
import PyProof.SetKind
import PyProof.Rows.SetFrom
import PyProof.Walks
import KE.KItemsList
import KE.KDictOf
import PyProof.AttrMissHeap
import PyProof.AutoListH
import PyProof.DictWalks
import PyProof.Rows.ZipGen
import PyProof.Rows.EnumRows
import PyProof.EnumFor
import PySem.Challenge.RW_coinroll_k24_closes_refused
set_option Elab.async false
set_option linter.all false
set_option genSizeOf false
set_option compiler.extract_closed false
set_option maxRecDepth 100000

namespace L2
open PySem PySem.Spec PyProof.Rows

noncomputable def isStar : Expr → Bool
  | .Starred _ _ => true
  | _ => false
theorem starEach_cons {e : Expr} {es : List Expr} {env : Env} (h : isStar e = false) : starEach (e :: es) env = (false, eval e env) :: starEach es env := by
  cases e <;> first | rfl | cases h
theorem noStars {env : Env} {pos : Pos} : ∀ {es : List Expr}, es.all (fun e => !isStar e) = true → (backTo pos (starEach es env)).any (·.1) = false
  | [], _ => rfl
  | e :: es, h => by
    rw [List.all_cons, Bool.and_eq_true, Bool.not_eq_true'] at h
    rw [starEach_cons h.1]
    show (false || (backTo pos (starEach es env)).any (·.1)) = false
    rw [Bool.false_or]
    exact noStars h.2


noncomputable abbrev Key := Sum Int Str
noncomputable def keyIs : Key → Value → Bool
  | .inl k, v => Value.isInt k v
  | .inr x, v => Value.isStrOf x v
noncomputable def keyH (w : World) : Key → Int
  | .inl k => hashInt k
  | .inr x => hashStr w x
theorem keyIs_shape : ∀ {k : Key} {v : Value}, keyIs k v = true → (∃ i t, k = Sum.inl i ∧ v = Value.int i t) ∨ (∃ x t, k = Sum.inr x ∧ v = Value.str x t)
  | .inl i, v, h => by
    obtain ⟨t, e⟩ := Value.isInt_shape (k := i) (v := v) h
    exact .inl ⟨i, t, rfl, e⟩
  | .inr x, v, h => by
    obtain ⟨t, e⟩ := Value.isStrOf_shape (x := x) (v := v) h
    exact .inr ⟨x, t, rfl, e⟩
theorem keyIs_int (i : Int) (t : Tok) : keyIs (.inl i) (.int i t) = true := by simp [keyIs, Value.isInt]
theorem keyIs_str (x : Str) (t : Tok) : keyIs (.inr x) (.str x t) = true := by simp [keyIs, Value.isStrOf]
theorem key_ll (a b : Int) : decide ((Sum.inl a : Key) = Sum.inl b) = (a == b) := by
  by_cases e : a = b
  · subst e; simp
  · have h : ¬ (Sum.inl a : Key) = Sum.inl b := fun q => e (Sum.inl.inj q)
    rw [decide_eq_false h]
    exact (beq_eq_false_iff_ne.mpr e).symm
theorem key_rr (a b : Str) : decide ((Sum.inr a : Key) = Sum.inr b) = decide (a = b) := by
  by_cases e : a = b
  · subst e; simp
  · have h : ¬ (Sum.inr a : Key) = Sum.inr b := fun q => e (Sum.inr.inj q)
    rw [decide_eq_false h, decide_eq_false e]
theorem key_lr (a : Int) (b : Str) : decide ((Sum.inl a : Key) = Sum.inr b) = false := decide_eq_false (fun q => nomatch q)
theorem key_rl (a : Str) (b : Int) : decide ((Sum.inr a : Key) = Sum.inl b) = false := decide_eq_false (fun q => nomatch q)

noncomputable def mixKind (prog : Program) (w : World) : PySem.KeyKind prog w Key where
  is := keyIs
  hash := keyH w
  inj := fun v a b ha hb => by
    rcases keyIs_shape ha with ⟨i, t, rfl, rfl⟩ | ⟨x, t, rfl, rfl⟩
    · rcases keyIs_shape hb with ⟨j, u, rfl, e⟩ | ⟨y, u, rfl, e⟩
      · injection e with e1 _; rw [e1]
      · exact nomatch e
    · rcases keyIs_shape hb with ⟨j, u, rfl, e⟩ | ⟨y, u, rfl, e⟩
      · exact nomatch e
      · injection e with e1 _; rw [e1]
  byValue := fun k v h => by
    rcases keyIs_shape h with ⟨i, t, rfl, rfl⟩ | ⟨x, t, rfl, rfl⟩ <;> rfl
  pyHash := fun hv h => by
    rcases keyIs_shape hv with ⟨i, t, rfl, rfl⟩ | ⟨x, t, rfl, rfl⟩
    · exact wpAny_pyHash_int h
    · exact wpAny_pyHash_str h
  eqBool := fun hu hv h => by
    rcases keyIs_shape hu with ⟨i, t, rfl, rfl⟩ | ⟨x, t, rfl, rfl⟩
    · rcases keyIs_shape hv with ⟨j, u, rfl, rfl⟩ | ⟨y, u, rfl, rfl⟩
      · rw [key_ll] at h; exact wpAny_eqBool_int h
      · rw [key_lr] at h; exact SeqAt.EqAt.int_str i t y u _ _ _ _ h
    · rcases keyIs_shape hv with ⟨j, u, rfl, rfl⟩ | ⟨y, u, rfl, rfl⟩
      · rw [key_rl] at h; exact SeqAt.EqAt.str_int x t j u _ _ _ _ h
      · rw [key_rr] at h; exact wpAny_eqBool_str h
  «strs» := fun k x t v h => by
    rcases keyIs_shape h with ⟨i, u, rfl, e⟩ | ⟨y, u, rfl, e⟩
    · exact nomatch e
    · injection e with e1 _
      subst e1
      cases v <;> rfl

theorem mixKind_int (prog : Program) (w : World) (i : Int) (t : Tok) : (mixKind prog w).is (.inl i) (.int i t) = true := keyIs_int i t
theorem mixKind_str (prog : Program) (w : World) (x : Str) (t : Tok) : (mixKind prog w).is (.inr x) (.str x t) = true := keyIs_str x t
end L2

namespace L2
open PySem PySem.Spec PyProof.Rows


inductive V where
  | non | bl (b : Bool) | int (i : Int) | str (x : Str) | byt (b : Array UInt8) | flt (b : UInt64) | ref (a : Addr) | ty (n : String)
  deriving DecidableEq

noncomputable def RelV : V → Value → Prop
  | .non, u => u = Value.none
  | .bl b, u => u = Value.bool b
  | .int i, u => ∃ t, u = Value.int i t
  | .str x, u => ∃ t, u = Value.str x t
  | .byt b, u => ∃ t, u = Value.bytes b t
  | .flt b, u => ∃ t, u = Value.float b t
  | .ref a, u => u = Value.ref a
  | .ty n, u => u = Value.type n

noncomputable abbrev Vals : List V → List Value → Prop := Paired RelV
theorem Vals.length {xs : List V} {us : List Value} (r : Vals xs us) : xs.length = us.length := Paired.length r
theorem Vals.get : ∀ {xs : List V} {us : List Value} {i : Nat} {x : V}, Vals xs us → xs[i]? = some x → ∃ u, us[i]? = some u ∧ RelV x u
  | _, _, _, _, .nil, e => by simp at e
  | _, _, 0, _, .cons r _, e => by simp at e; subst e; exact ⟨_, rfl, r⟩
  | _, _, i + 1, x, .cons _ t, e => by
    obtain ⟨u, h1, h2⟩ := Vals.get (i := i) (x := x) t (by simpa using e)
    exact ⟨u, by simpa using h1, h2⟩
theorem Vals.append : ∀ {xs ys : List V} {us ws : List Value}, Vals xs us → Vals ys ws → Vals (xs ++ ys) (us ++ ws)
  | _, _, _, _, .nil, s => s
  | _, _, _, _, .cons r t, s => .cons r (Vals.append t s)
theorem Vals.take : ∀ {xs : List V} {us : List Value} (n : Nat), Vals xs us → Vals (xs.take n) (us.take n)
  | _, _, 0, _ => .nil
  | _, _, _ + 1, .nil => .nil
  | _, _, n + 1, .cons r t => .cons r (Vals.take n t)
theorem Vals.drop : ∀ {xs : List V} {us : List Value} (n : Nat), Vals xs us → Vals (xs.drop n) (us.drop n)
  | _, _, 0, r => r
  | _, _, _ + 1, .nil => .nil
  | _, _, n + 1, .cons _ t => Vals.drop n t
noncomputable def RelO : Option V → Option Value → Prop
  | some v, some u => RelV v u
  | none, none => True
  | _, _ => False
noncomputable def KV {κ : Type} : List (κ × V) → List (κ × Value) → Prop := Paired fun (p : κ × V) (q : κ × Value) => p.1 = q.1 ∧ RelV p.2 q.2


noncomputable def kV : Key → V
  | .inl i => .int i
  | .inr x => .str x


inductive HO where

  | lst (xs : List V)

  | tup (xs : List V)

  | dK (kvs : List (Key × V)) | dT (kvs : List (List Key × V))

  | set (S : Int → Bool) (n : Nat)

  | ins (C dx : Addr) (fs : List (Str × V))

  | own (x : Addr)

  | xd (fs : List (Str × V))

  | met (f x : Addr)

  | rng (lo hi : Int)

  | frz (o : Obj) (u : HO)

  | tbl (ps : Array Value)

  | ext (φ : Heap → Prop)

noncomputable abbrev Hp := Addr → Option HO
noncomputable def upd (H : Hp) (a : Addr) (o : HO) : Hp := fun b => if b = a then some o else H b
theorem upd_same {H : Hp} {a : Addr} {o : HO} : upd H a o a = some o := by unfold upd; rw [if_pos rfl]
theorem upd_ne {H : Hp} {a b : Addr} {o : HO} (h : b ≠ a) : upd H a o b = H b := by unfold upd; rw [if_neg h]
theorem upd_upd {H : Hp} {a : Addr} {o u : HO} : upd (upd H a o) a u = upd H a u := by
  funext b; unfold upd; split <;> rfl

theorem ne_of {H : Hp} {a b : Addr} {o u : HO} (h : H a = some o) (h' : H b = some u) (d : o ≠ u) : a ≠ b := by
  intro e; subst e; rw [h] at h'; exact d (Option.some.inj h')
theorem ne_of_none {H : Hp} {a b : Addr} {o : HO} (h : H a = some o) (h' : H b = none) : a ≠ b := by
  intro e; subst e; rw [h] at h'; cases h'

section
variable (P : Program) (w : World)
noncomputable def ObjOk (H : Hp) (h : Heap) (a : Addr) : HO → Prop
  | .lst xs => xs.length ≤ sizeLine ∧ ∃ (its : List Value) (n : Nat), Vals xs its ∧ h.get? a = some { cls := .type "list", data := .seq its.toArray n }
  | .tup xs => xs.length ≤ sizeLine ∧ ∃ its : List Value, Vals xs its ∧ IsTup h a its.toArray
  | .dK kvs => kvs.length ≤ sizeLine ∧ (a == sysModules) = false ∧ ∃ vs, KV kvs vs ∧ h.DictOf (mixKind P w) a vs
  | .dT kvs => kvs.length ≤ sizeLine ∧ (a == sysModules) = false ∧ ∃ xs : List (List Key × Addr × Value),
      Paired (fun (p : List Key × V) (q : List Key × Addr × Value) => p.1 = q.1 ∧ H q.2.1 = some (.tup (p.1.map kV)) ∧ RelV p.2 q.2.2) kvs xs ∧
      ∃ o es ep, h.get? a = some o ∧ o.ExactDict ∧ o.data = .dict es ep ∧ es.toList = xs.map (entryOfKey (tupleKind (mixKind P w))) ∧ (xs.map (·.1)).Nodup
  | .set S n => h.SetOf (intKind P w) a S n
  | .ins C dx fs => H dx = some (.own a) ∧ fs.length ≤ 1000 ∧ dx ≠ a ∧ h.get? a = some (PySem.W.instObj C dx) ∧
      ∃ mA, h.Ns1 dx mA ∧ (∀ f, RelO (fs.lookup f) (mA f)) ∧ PySem.Within mA (fs.map (·.1))
  | .own _ => ∃ o, h.get? a = some o
  | .xd fs => ∃ mA, h.Ns1 a mA ∧ ∀ f, RelO (fs.lookup f) (mA f)
  | .rng lo hi => ∃ t u v, h.get? a = some { cls := .type "range", data := .fields #[.int lo t, .int hi u, .int 1 v] }
  | .frz o u => h.get? a = some o ∧ ObjOk H h a u
  | .tbl ps => h.get? a = some { cls := .none, data := .fields ps }
  | .met f x => h.get? a = some (PySem.W.methodObj (.ref f) (.ref x))
  | .ext φ => φ h ∧ (∃ o, h.get? a = some o) ∧ ∀ h1 h2 : Heap, φ h1 → (∀ o, h1.get? a = some o → h2.get? a = some o) → φ h2

noncomputable def HOk (H : Hp) (h : Heap) : Prop := ∀ a o, H a = some o → ObjOk P w H h a o
end

section
variable {P : Program} {w : World} {H H' : Hp} {h h' : Heap} {a : Addr} {o : HO}
theorem ObjOk.lt (x : ObjOk P w H h a o) : a < h.objs.size := by
  cases o with
  | lst xs => obtain ⟨_, _, _, _, e⟩ := x; exact Heap.lt_size e
  | tup xs => obtain ⟨_, _, _, p⟩ := x; exact p.lt
  | dK kvs => obtain ⟨_, _, _, _, o, _, _, e, _⟩ := x; exact Heap.lt_size e
  | dT kvs => obtain ⟨_, _, _, _, o, _, _, e, _⟩ := x; exact Heap.lt_size e
  | set S n => obtain ⟨o, _, _, _, e, _⟩ := x; exact Heap.lt_size e
  | ins C dx fs => obtain ⟨_, _, _, e, _⟩ := x; exact Heap.lt_size e
  | own y => obtain ⟨_, e⟩ := x; exact Heap.lt_size e
  | xd fs => obtain ⟨_, ⟨_, _, _, e, _⟩, _⟩ := x; exact Heap.lt_size e
  | rng lo hi => obtain ⟨_, _, _, e⟩ := x; exact Heap.lt_size e
  | frz ob u => obtain ⟨e, _⟩ := x; exact Heap.lt_size e
  | tbl ps => exact Heap.lt_size (show h.get? a = some _ from x)
  | met f y => exact Heap.lt_size (show h.get? a = some _ from x)
  | ext φ => obtain ⟨_, ⟨_, e⟩, _⟩ := x; exact Heap.lt_size e
theorem Paired.mapP {α β : Type} {F G : α → β → Prop} : ∀ {l₁ : List α} {l₂ : List β}, Paired F l₁ l₂ → (∀ a b, F a b → G a b) → Paired G l₁ l₂
  | _, _, .nil, _ => .nil
  | _, _, .cons r t, f => .cons (f _ _ r) (Paired.mapP t f)
theorem ObjOk.stay (x : ObjOk P w H h a o) (k : ∀ b u, (b = a ∨ H b = some (.own a)) → h.get? b = some u → h'.get? b = some u)
    (ho : ∀ b, H b = some (.own a) → H' b = some (.own a)) (ht : ∀ b xs, H b = some (.tup xs) → H' b = some (.tup xs)) : ObjOk P w H' h' a o := by
  induction o with
  | lst xs => obtain ⟨z, its, n, r, e⟩ := x; exact ⟨z, its, n, r, k _ _ (.inl rfl) e⟩
  | tup xs => obtain ⟨z, its, r, ob, e, c⟩ := x; exact ⟨z, its, r, ob, k _ _ (.inl rfl) e, c⟩
  | dK kvs => obtain ⟨z, y, vs, r, ob, es, ep, e, c⟩ := x; exact ⟨z, y, vs, r, ob, es, ep, k _ _ (.inl rfl) e, c⟩
  | dT kvs =>
    obtain ⟨z, y, xs, r, ob, es, ep, e, c⟩ := x
    exact ⟨z, y, xs, Paired.mapP r fun p q z => ⟨z.1, ht _ _ z.2.1, z.2.2⟩, ob, es, ep, k _ _ (.inl rfl) e, c⟩
  | set S n => obtain ⟨ob, es, ep, t, e, c⟩ := x; exact ⟨ob, es, ep, t, k _ _ (.inl rfl) e, c⟩
  | ins C dx fs =>
    obtain ⟨d, z, ne, e, mA, ⟨od, es, ep, e2, c⟩, r⟩ := x
    exact ⟨ho _ d, z, ne, k _ _ (.inl rfl) e, mA, ⟨od, es, ep, k _ _ (.inr d) e2, c⟩, r⟩
  | own y => obtain ⟨ob, e⟩ := x; exact ⟨ob, k _ _ (.inl rfl) e⟩
  | xd fs => obtain ⟨mA, ⟨od, es, ep, e, c⟩, r⟩ := x; exact ⟨mA, ⟨od, es, ep, k _ _ (.inl rfl) e, c⟩, r⟩
  | rng lo hi => obtain ⟨t, u, v, e⟩ := x; exact ⟨t, u, v, k _ _ (.inl rfl) e⟩
  | frz ob u ih => obtain ⟨e, q⟩ := x; exact ⟨k _ _ (.inl rfl) e, ih q⟩
  | tbl ps =>
    have e : h.get? a = some { cls := .none, data := .fields ps } := x
    show h'.get? a = some { cls := .none, data := .fields ps }
    exact k a _ (.inl rfl) e
  | met f y =>
    have e : h.get? a = some (PySem.W.methodObj (.ref f) (.ref y)) := x
    show h'.get? a = some (PySem.W.methodObj (.ref f) (.ref y))
    exact k a _ (.inl rfl) e
  | ext φ => obtain ⟨p, ⟨o, e⟩, st⟩ := x; exact ⟨st _ _ p fun o q => k _ _ (.inl rfl) q, ⟨o, k _ _ (.inl rfl) e⟩, st⟩
theorem HOk.lt (x : HOk P w H h) (e : H a = some o) : a < h.objs.size := (x a o e).lt
theorem HOk.fresh (x : HOk P w H h) (e : h.objs.size ≤ a) : H a = none := by
  cases q : H a with
  | none => rfl
  | some u => exact absurd (Nat.lt_of_lt_of_le (x.lt q) e) (Nat.lt_irrefl _)

theorem HOk.kept (x : HOk P w H h) (k : ∀ b u, h.get? b = some u → h'.get? b = some u) : HOk P w H h' := fun a o e =>
  (x a o e).stay (fun b u _ q => k b u q) (fun _ q => q) fun _ _ q => q

theorem HOk.laid (x : HOk P w H h) (k : ∀ b u, h.get? b = some u → h'.get? b = some u) (hp : h.objs.size ≤ a) (new : ObjOk P w (upd H a o) h' a o) : HOk P w (upd H a o) h' := fun b u e => by
  have hn := x.fresh hp
  by_cases hb : b = a
  · subst hb; rw [upd_same] at e; cases e; exact new
  · rw [upd_ne hb] at e
    exact (x b u e).stay (fun c v _ q => k c v q) (fun c q => by rw [upd_ne (ne_of_none q hn)]; exact q) fun c xs q => by rw [upd_ne (ne_of_none q hn)]; exact q
end


noncomputable def Rd (H : Hp) (a : Addr) (u : HO) : Prop := H a = some u ∨ ∃ o, H a = some (.frz o u)
theorem Rd.ok {P : Program} {w : World} {H : Hp} {h : Heap} {a : Addr} {u : HO} (r : Rd H a u) (x : HOk P w H h) : ObjOk P w H h a u := by
  rcases r with r | ⟨o, r⟩
  · exact x a u r
  · obtain ⟨_, q⟩ := x a _ r
    exact q

noncomputable def Mut : Option HO → Prop
  | some (.lst _) => True
  | some (.dK _) => True
  | some (.dT _) => True
  | some (.set _ _) => True
  | some (.ins _ _ _) => True
  | some (.ext _) => True
  | _ => False
section
variable {P : Program} {w : World} {H : Hp} {h h' : Heap} {x e : Addr} {o' : HO}

theorem HOk.write (ok : HOk P w H h) (mu : Mut (H x)) (he : e = x ∨ H e = some (.own x)) (k : ∀ b u, b ≠ e → h.get? b = some u → h'.get? b = some u) (heo : ∃ u, h'.get? e = some u)
    (new : ObjOk P w (upd H x o') h' x o') : HOk P w (upd H x o') h' := fun b u q => by
  have nown : ∀ c y, H c = some (.own y) → c ≠ x := fun c y r z => by subst z; rw [r] at mu; exact mu
  have ntup : ∀ c xs, H c = some (.tup xs) → c ≠ x := fun c xs r z => by subst z; rw [r] at mu; exact mu
  by_cases hb : b = x
  · subst hb; rw [upd_same] at q; cases q; exact new
  · rw [upd_ne hb] at q
    by_cases hbe : b = e
    · have q' : H b = some (.own x) := by
        rcases he with z | z
        · exact absurd (hbe.trans z) hb
        · rw [hbe]; exact z
      rw [q] at q'; cases q'
      obtain ⟨v, hv⟩ := heo
      exact ⟨v, by rw [hbe]; exact hv⟩
    · refine (ok b u q).stay (fun c v hc r => k c v ?_ r) (fun c r => by rw [upd_ne (nown c b r)]; exact r) fun c xs r => by rw [upd_ne (ntup c xs r)]; exact r
      rcases hc with rfl | hc
      · exact hbe
      · rintro rfl
        rcases he with z | z
        · exact nown c b hc z
        · rw [hc] at z; cases z; exact hb rfl
end


structure Un (fs ex : List Addr) (H H' : Hp) (h h' : Heap) : Prop where
  keep : ∀ b o, h.get? b = some o → H b = none → b ∉ fs → b ∉ ex → h'.get? b = some o
  slot : ∀ b o, h.get? b = some o → H b = none → b ∈ fs → b ∉ ex → ∃ sl, h'.get? b = some { o with slots := sl }
  free : ∀ b o, h.get? b = some o → H b = none → b ∉ ex → H' b = none
  there : ∀ b o, h.get? b = some o → b ∉ ex → ∃ o', h'.get? b = some o'
  tups : ∀ b xs, H b = some (.tup xs) → H' b = some (.tup xs)
  frzs : ∀ b o u, H b = some (.frz o u) → H' b = some (.frz o u)
  tbls : ∀ b ps, H b = some (.tbl ps) → ∃ more, H' b = some (.tbl (ps ++ more))
section
variable {fs fs' ex ex' : List Addr} {H H1 H2 : Hp} {h h1 h2 h' : Heap} {a x e : Addr} {o : HO}
theorem Un.any (u : Un fs ex H H1 h h1) {b : Addr} {ob : Obj} (q : h.get? b = some ob) (n : H b = none) (hx : b ∉ ex) : ∃ sl, h1.get? b = some { ob with slots := sl } := by
  by_cases hb : b ∈ fs
  · exact u.slot b ob q n hb hx
  · exact ⟨ob.slots, u.keep b ob q n hb hx⟩
theorem Un.kept (k : ∀ b u, h.get? b = some u → h'.get? b = some u) : Un fs ex H H h h' :=
  ⟨fun b ob q _ _ _ => k b ob q, fun b ob q _ _ _ => ⟨ob.slots, k b ob q⟩, fun _ _ _ n _ => n, fun b ob q _ => ⟨ob, k b ob q⟩, fun _ _ q => q, fun _ _ _ q => q, fun _ ps q => ⟨#[], by rw [q]; simp⟩⟩
theorem Un.refl : Un fs ex H H h h := Un.kept fun _ _ q => q
theorem Un.laid (k : ∀ b u, h.get? b = some u → h'.get? b = some u) (hp : h.objs.size ≤ a) (hn : H a = none) : Un fs ex H (upd H a o) h h' where
  keep := fun b u q _ _ _ => k b u q
  slot := fun b u q _ _ _ => ⟨u.slots, k b u q⟩
  free := fun b u q n _ => by rw [upd_ne (Nat.ne_of_lt (Nat.lt_of_lt_of_le (Heap.lt_size q) hp))]; exact n
  there := fun b u q _ => ⟨u, k b u q⟩
  tups := fun b xs q => by rw [upd_ne (ne_of_none q hn)]; exact q
  frzs := fun b u xs q => by rw [upd_ne (ne_of_none q hn)]; exact q
  tbls := fun b ps q => ⟨#[], by rw [upd_ne (ne_of_none q hn), q]; simp⟩
theorem Un.write (mu : Mut (H x)) (he : e = x ∨ H e = some (.own x)) (k : ∀ b u, b ≠ e → h.get? b = some u → h'.get? b = some u) (heo : ∃ u, h'.get? e = some u) : Un fs ex H (upd H x o) h h' := by
  have hx : ∀ b, H b = none → b ≠ x := fun b n z => by subst z; rw [n] at mu; exact mu
  have hb : ∀ b, H b = none → b ≠ e := fun b n z => by
    subst z
    rcases he with r | r
    · exact hx b n r
    · rw [n] at r; cases r
  have hm : ∀ b u, H b = some u → ¬ Mut (some u) → b ≠ x := fun b u q nm z => by subst z; rw [q] at mu; exact nm mu
  refine ⟨fun b u q n _ _ => k b u (hb b n) q, fun b u q n _ _ => ⟨u.slots, k b u (hb b n) q⟩, fun b u q n _ => by rw [upd_ne (hx b n)]; exact n, fun b u q _ => ?_,
    fun b xs q => by rw [upd_ne (hm b _ q fun z => z)]; exact q, fun b u xs q => by rw [upd_ne (hm b _ q fun z => z)]; exact q, fun b ps q => ⟨#[], by rw [upd_ne (hm b _ q fun z => z), q]; simp⟩⟩
  by_cases hbe : b = e
  · subst hbe; exact heo
  · exact ⟨u, k b u hbe q⟩
end


noncomputable def trk (h : Heap) (H : Hp) : List Addr := (List.range h.objs.size).filter fun a => (H a).isSome
noncomputable def hidT (h : Heap) (H : Hp) : Heap := PySem.W.hideAll h (trk h H)
theorem hidT_size (h : Heap) (H : Hp) : (hidT h H).objs.size = h.objs.size := PySem.W.hideAll_size _ _
theorem hidT_get {h : Heap} {H : Hp} {b : Addr} {o : Obj} (e : h.get? b = some o) (n : H b = none) : (hidT h H).get? b = some o :=
  PySem.W.hideAll_get _ e fun hm => by
    have q : (H b).isSome = true := (List.mem_filter.mp hm).2
    rw [n] at q; simp at q
theorem of_hidT {h : Heap} {H : Hp} {b : Addr} {o : Obj} (e : (hidT h H).get? b = some o) : h.get? b = some o ∧ H b = none := by
  have e' : h.get? b = some o := PySem.W.of_hideAll (trk h H) e
  refine ⟨e', ?_⟩
  cases q : H b with
  | none => rfl
  | some x =>
    have hm : b ∈ trk h H := List.mem_filter.mpr ⟨List.mem_range.mpr (Heap.lt_size e'), by simp [q]⟩
    have z : (hidT h H).get? b = none := PySem.W.hideAll_none (trk h H) hm
    rw [z] at e; cases e


noncomputable def allNews (g h : Heap) (L : Addr) : List (Addr × Obj) := (List.range h.objs.size).filterMap fun a => if a = L ∨ (g.get? a).isSome = true then none else (h.get? a).map fun o => (a, o)
noncomputable def rest (g h : Heap) (L d : Addr) : List (Addr × Obj) := (allNews g h L).filter fun p => decide (p.1 ≠ d)
end L2

namespace L2
open PySem PySem.Spec PyProof.Rows


structure Mod (K : PySem.W.Frag) (mg : Str → Option Value) (base : Heap) : Prop where
  kin : K.In base
  glob : base.Ns mainGlobals mg
  blt : ∃ mb, base.Ns builtinsNs mb ∧ ∀ x : Str, x ≠ "__name__" → mb x = bootBuiltins x
  nolimit : base.NoLimit


structure Cx where
  prog : Program
  w : World
  K : PySem.W.Frag
  mg : Str → Option Value
  base : Heap
  A : Around
  N : List Str
  s₀ : Shared
  H₀ : Hp
  env : Env
  outer : List Env
  stack : List Env
  ex : List Addr
  fn : Str → Bool
  calm : Bool
  pn : List (Addr × Obj)
  xe : Value → Shared → Prop

noncomputable def frs (l : List Env) : List Addr := l.filterMap (·.frame)
noncomputable abbrev Cx.fs (X : Cx) : List Addr := frs X.outer

noncomputable def Vis (sc : Scope) (x : Str) : Prop := sc.names.lookup x = some .local ∨ sc.names.lookup x = some .cell ∨ sc.names.lookup x = some .free
noncomputable def Loc (sc : Scope) (x : Str) : Prop := sc.names.lookup x = some .local ∨ sc.names.lookup x = some .cell
noncomputable def Look (env : Env) (h : Heap) (m : Str → Option Value) (x : Str) (u : Value) : Prop :=
  (env.kindOf x = some .local ∧ m x = some u) ∨ ((env.kindOf x = some .cell ∨ env.kindOf x = some .free) ∧ ∃ c, env.cells.lookup x = some c ∧ h.IsCell c (some u))

structure Cx.Ok (X : Cx) : Prop where
  mod : Mod X.K X.mg X.base
  kind : X.env.scope.kind = .function
  glob : X.env.globals = mainGlobals
  blt : X.env.builtins = builtinsNs
  above : X.s₀.heap.objs.size ≤ X.env.locals
  inj : ∀ x y c, X.env.cells.lookup x = some c → X.env.cells.lookup y = some c → x = y
  has : ∀ x, (X.env.kindOf x = some .cell ∨ X.env.kindOf x = some .free) → ∃ c, X.env.cells.lookup x = some c
  cab : ∀ x c, X.fn x = true → X.env.cells.lookup x = some c → X.s₀.heap.objs.size ≤ c
  hd : X.calm = true → X.A.handled = none
  frames : X.A.frames = some X.stack
  stk : X.stack = X.outer ∨ (X.stack = X.env :: X.outer ∧ X.env.frame = some X.env.locals)
  exf : ∀ b ∈ X.ex, b ≠ X.env.locals ∧ ∀ x c, X.env.cells.lookup x = some c → c ≠ b
  bs : ∀ b o, X.base.get? b = some o → X.s₀.heap.get? b = some o ∧ X.H₀ b = none
  bsz : X.base.objs.size ≤ X.s₀.heap.objs.size
  noex : ∀ b o, X.base.get? b = some o → b ∉ X.ex
  exfs : ∀ b ∈ X.ex, b ∉ X.fs
  funs : X.s₀.heap.FunFrames X.base X.outer
  frf : ∀ b ∈ X.fs, X.H₀ b = none

structure Inv (X : Cx) (pins : List (Addr × Obj)) (σ : List (Option V)) (H : Hp) (s : Shared) : Prop where
  ok : X.Ok
  os : s.os = X.s₀.os
  bare : AllBare s.gens
  base : Un X.fs X.ex X.H₀ H X.s₀.heap s.heap
  loc : ∃ m, s.heap.Ns X.env.locals m ∧ ∀ (i : Nat) (x : Str) (v : V), X.N[i]? = some x → σ[i]? = some (some v) → Vis X.env.scope x → ∃ u, RelV v u ∧ Look X.env s.heap m x u
  cell : ∀ x c, X.env.cells.lookup x = some c → ∃ v, s.heap.IsCell c v
  free : H X.env.locals = none
  freeC : ∀ x c, X.env.cells.lookup x = some c → H c = none
  pin : ∀ p ∈ X.pn ++ pins, s.heap.get? p.1 = some p.2 ∧ H p.1 = none ∧ p.1 ≠ X.env.locals ∧ p.1 ∉ X.fs ∧ ∀ v, p.2.data ≠ .cell v
  hok : HOk X.prog X.w H s.heap
  len : σ.length = X.N.length

section
variable {X : Cx} {pins : List (Addr × Obj)} {σ : List (Option V)} {H H' : Hp} {s : Shared} {h' : Heap}

theorem Cx.Ok.nofr (ok : X.Ok) {b : Addr} {o : Obj} (e : X.base.get? b = some o) : b ∉ X.fs := fun hb => by
  have := (ok.funs.mem hb).1
  rw [e] at this; cases this
theorem Inv.bs (I : Inv X pins σ H s) : ∀ b o, X.base.get? b = some o → s.heap.get? b = some o ∧ H b = none := fun b o e =>
  ⟨I.base.keep b o (I.ok.bs b o e).1 (I.ok.bs b o e).2 (I.ok.nofr e) (I.ok.noex b o e), I.base.free b o (I.ok.bs b o e).1 (I.ok.bs b o e).2 (I.ok.noex b o e)⟩
theorem Inv.bk (I : Inv X pins σ H s) : ∀ b o, X.base.get? b = some o → s.heap.get? b = some o := fun b o e => (I.bs b o e).1
theorem Inv.mod (I : Inv X pins σ H s) : Mod X.K X.mg X.base := I.ok.mod
theorem Inv.kIn (I : Inv X pins σ H s) : X.K.In s.heap := I.ok.mod.kin.keeps I.bk
theorem Inv.lt (I : Inv X pins σ H s) : X.env.locals < s.heap.objs.size := let ⟨_, hn, _⟩ := I.loc; hn.lt
theorem Inv.sz (I : Inv X pins σ H s) : X.s₀.heap.objs.size ≤ s.heap.objs.size := Nat.le_trans I.ok.above (Nat.le_of_lt I.lt)
theorem Inv.nofs (I : Inv X pins σ H s) {a : Addr} (h : s.heap.objs.size ≤ a) : a ∉ X.fs := fun hb => by
  obtain ⟨_, o, ho, _⟩ := I.ok.funs.mem hb
  exact absurd (Nat.lt_of_lt_of_le (Heap.lt_size ho) (Nat.le_trans I.sz h)) (Nat.lt_irrefl _)
theorem Inv.cne (I : Inv X pins σ H s) : ∀ x c, X.env.cells.lookup x = some c → c ≠ X.env.locals := fun x c e z => by
  obtain ⟨v, o, ho, hd⟩ := I.cell x c e
  obtain ⟨m, ⟨o', es, ep, ho', hd', _⟩, _⟩ := I.loc
  rw [z, ho'] at ho; cases ho; rw [hd'] at hd; cases hd
theorem Inv.funs (I : Inv X pins σ H s) : s.heap.FunFrames X.base X.outer := by
  have all : ∀ (l : List Env), (∀ b ∈ frs l, b ∈ X.fs) → X.s₀.heap.FunFrames X.base l → s.heap.FunFrames X.base l := by
    intro l
    induction l with
    | nil => intro _ _; trivial
    | cons env r ih =>
      intro hs hl
      obtain ⟨hk, ⟨L, o, hf, hn, ho, hd⟩, hr⟩ := hl
      have hL : L ∈ X.fs := hs L (by unfold frs; rw [List.filterMap_cons, hf]; exact List.mem_cons_self)
      obtain ⟨sl, e⟩ := I.base.slot L o ho (I.ok.frf L hL) hL fun z => I.ok.exfs L z hL
      exact ⟨hk, ⟨L, _, hf, hn, e, hd⟩, ih (fun b hb => hs b (by unfold frs; rw [List.filterMap_cons, hf]; exact List.mem_cons_of_mem _ hb)) hr⟩
  exact all X.outer (fun _ hb => hb) I.ok.funs


theorem Inv.stack (I : Inv X pins σ H s) : s.heap.FunFrames X.base X.stack := by
  rcases I.ok.stk with e | ⟨e, hf⟩
  · rw [e]; exact I.funs
  · rw [e]
    obtain ⟨m, hn, _⟩ := I.loc
    refine .cons (by rw [I.ok.kind]; decide) hf hn ?_ I.funs
    exact Heap.get?_none_of_le (Nat.le_trans I.ok.bsz I.ok.above)
theorem Inv.stkSub (I : Inv X pins σ H s) : ∀ b ∈ frs X.stack, b ∈ X.env.locals :: X.fs := fun b hb => by
  rcases I.ok.stk with e | ⟨e, hf⟩
  · rw [e] at hb; exact List.mem_cons_of_mem _ hb
  · rw [e] at hb
    unfold frs at hb
    rw [List.filterMap_cons, hf] at hb
    exact hb
theorem Inv.stkFree (I : Inv X pins σ H s) : ∀ b ∈ frs X.stack, H b = none := fun b hb => by
  rcases List.mem_cons.mp (I.stkSub b hb) with e | hb
  · rw [e]; exact I.free
  · obtain ⟨_, o, ho, _⟩ := I.ok.funs.mem hb
    exact I.base.free b o ho (I.ok.frf b hb) fun z => I.ok.exfs b z hb


theorem Inv.step {g' : Array GenState} {t' : Nat} {d' : Drawn} {ch : List Addr} (I : Inv X pins σ H s)
    (hch : ∀ b ∈ ch, (b ∈ X.ex ∨ X.s₀.heap.get? b = none) ∧ b ≠ X.env.locals ∧ (∀ x c, X.env.cells.lookup x = some c → c ≠ b) ∧ ∀ p ∈ X.pn ++ pins, p.1 ≠ b)
    (keep : ∀ b o, b ≠ X.env.locals → b ∉ X.fs → b ∉ ch → s.heap.get? b = some o → H b = none → h'.get? b = some o)
    (slot : ∀ b o, b ≠ X.env.locals → b ∈ X.fs → b ∉ ch → s.heap.get? b = some o → H b = none → ∃ sl, h'.get? b = some { o with slots := sl }) (free : ∀ b o, b ∉ ch → s.heap.get? b = some o → H b = none → H' b = none)
    (there : ∀ b o, b ∉ ch → s.heap.get? b = some o → ∃ o', h'.get? b = some o')
    (tups : ∀ b xs, H b = some (.tup xs) → H' b = some (.tup xs)) (frzs : ∀ b o u, H b = some (.frz o u) → H' b = some (.frz o u)) (tbls : ∀ b ps, H b = some (.tbl ps) → ∃ more, H' b = some (.tbl (ps ++ more)))
    (ns : ∀ m, s.heap.Ns X.env.locals m → h'.Ns X.env.locals m) (hok : HOk X.prog X.w H' h') (hg : AllBare g') :
    Inv X pins σ H' { s with heap := h', gens := g', drawn := d', toks := t' } := by
  have neL : ∀ b o, X.s₀.heap.get? b = some o → b ≠ X.env.locals := fun b o e => Nat.ne_of_lt (Nat.lt_of_lt_of_le (Heap.lt_size e) I.ok.above)
  have neC : ∀ b o, X.s₀.heap.get? b = some o → b ∉ X.ex → b ∉ ch := fun b o e hx hb => by
    rcases (hch b hb).1 with z | z
    · exact hx z
    · rw [z] at e; cases e
  have cellK : ∀ x c, X.env.cells.lookup x = some c → ∀ v, s.heap.IsCell c v → h'.IsCell c v := fun x c e v ⟨o, ho, hd⟩ => by
    have nch : c ∉ ch := fun z => (hch c z).2.2.1 x c e rfl
    by_cases hc : c ∈ X.fs
    · obtain ⟨sl, q⟩ := slot c o (I.cne x c e) hc nch ho (I.freeC x c e)
      exact ⟨_, q, hd⟩
    · exact ⟨o, keep c o (I.cne x c e) hc nch ho (I.freeC x c e), hd⟩
  refine ⟨I.ok, I.os, hg, ⟨fun b o e n hb hx => ?_, fun b o e n hb hx => ?_, fun b o e n hx => ?_, fun b o e hx => ?_, fun b xs e => tups b xs (I.base.tups b xs e), fun b o xs e => frzs b o xs (I.base.frzs b o xs e), fun b ps e => ?_⟩, ?_, fun x c e => ?_, ?_, fun x c e => ?_, fun p hp => ?_, hok, I.len⟩
  · exact keep b o (neL b o e) hb (neC b o e hx) (I.base.keep b o e n hb hx) (I.base.free b o e n hx)
  · obtain ⟨sl, e1⟩ := I.base.slot b o e n hb hx
    obtain ⟨sl', e2⟩ := slot b _ (neL b o e) hb (neC b o e hx) e1 (I.base.free b o e n hx)
    exact ⟨sl', e2⟩
  · obtain ⟨o', e1⟩ := I.base.there b o e hx
    exact free b o' (neC b o e hx) e1 (I.base.free b o e n hx)
  · obtain ⟨o', e1⟩ := I.base.there b o e hx
    exact there b o' (neC b o e hx) e1
  · obtain ⟨m1, e1⟩ := I.base.tbls b ps e
    obtain ⟨m2, e2⟩ := tbls b _ e1
    exact ⟨m1 ++ m2, by rw [e2, Array.append_assoc]⟩
  · obtain ⟨m, hn, hl⟩ := I.loc
    refine ⟨m, ns m hn, fun i x v e1 e2 e3 => ?_⟩
    obtain ⟨u, r, l⟩ := hl i x v e1 e2 e3
    refine ⟨u, r, ?_⟩
    rcases l with l | ⟨k, c, e, z⟩
    · exact .inl l
    · exact .inr ⟨k, c, e, cellK x c e _ z⟩
  · obtain ⟨v, z⟩ := I.cell x c e
    exact ⟨v, cellK x c e v z⟩
  · obtain ⟨m, ⟨o, _, _, ho, _⟩, _⟩ := I.loc
    exact free _ o (fun z => (hch _ z).2.1 rfl) ho I.free
  · obtain ⟨v, o, ho, hd⟩ := I.cell x c e
    exact free c o (fun z => (hch c z).2.2.1 x c e rfl) ho (I.freeC x c e)
  · obtain ⟨e, n, ne, nf, d⟩ := I.pin p hp
    have nch : p.1 ∉ ch := fun z => (hch p.1 z).2.2.2 p hp rfl
    exact ⟨keep p.1 p.2 ne nf nch e n, free p.1 p.2 nch e n, ne, nf, d⟩

theorem Inv.un {t' : Nat} (I : Inv X pins σ H s) (u : Un X.fs [] H H' s.heap h') (hok : HOk X.prog X.w H' h') : Inv X pins σ H' { s with heap := h', toks := t' } := by
  obtain ⟨m, ⟨o, es, ep, ho, r⟩, _⟩ := id I.loc
  obtain ⟨sl, hL⟩ := u.any ho I.free (by simp)
  exact I.step (g' := s.gens) (d' := s.drawn) (ch := []) (fun _ z => nomatch z) (fun b o _ hb _ e n => u.keep b o e n hb (by simp)) (fun b o _ hb _ e n => u.slot b o e n hb (by simp)) (fun b o _ e n => u.free b o e n (by simp)) (fun b o _ e => u.there b o e (by simp)) u.tups u.frzs u.tbls (fun m' hm => by
    obtain ⟨o', es', ep', ho', r'⟩ := hm
    rw [ho] at ho'; cases ho'
    exact ⟨_, es', ep', hL, r'⟩) hok I.bare

theorem Inv.call {g' : Array GenState} {t' : Nat} {d' : Drawn} {ch : List Addr} (I : Inv X pins σ H s) (u : Un (frs X.stack) ch H H' s.heap h') (hok : HOk X.prog X.w H' h') (hg : AllBare g')
    (hch : ∀ b ∈ ch, (b ∈ X.ex ∨ X.s₀.heap.get? b = none) ∧ b ≠ X.env.locals ∧ (∀ x c, X.env.cells.lookup x = some c → c ≠ b) ∧ ∀ p ∈ X.pn ++ pins, p.1 ≠ b) :
    Inv X pins σ H' { s with heap := h', gens := g', drawn := d', toks := t' } := by
  obtain ⟨m, ⟨o, es, ep, ho, r⟩, _⟩ := id I.loc
  obtain ⟨sl, hL⟩ := u.any ho I.free fun z => (hch _ z).2.1 rfl
  exact I.step (ch := ch) hch (fun b o hL hb hc e n => u.keep b o e n (fun z => (List.mem_cons.mp (I.stkSub b z)).elim hL hb) hc) (fun b o _ _ hc e n => u.any e n hc) (fun b o hc e n => u.free b o e n hc) (fun b o hc e => u.there b o e hc) u.tups u.frzs u.tbls (fun m' hm => by
    obtain ⟨o', es', ep', ho', r'⟩ := hm
    rw [ho] at ho'; cases ho'
    exact ⟨_, es', ep', hL, r'⟩) hok hg

theorem Inv.turned {t' : Nat} {it : Addr} (I : Inv X pins σ H s) (k : ∀ b o, b ≠ it → s.heap.get? b = some o → h'.get? b = some o) (hn : H it = none) (hL : it ≠ X.env.locals)
    (h1 : it ∈ X.ex ∨ X.s₀.heap.get? it = none) (h2 : ∀ x c, X.env.cells.lookup x = some c → c ≠ it) (h3 : ∀ p ∈ X.pn ++ pins, p.1 ≠ it) : Inv X pins σ H { s with heap := h', toks := t' } := by
  have nit : ∀ b u, H b = some u → b ≠ it := fun b u e z => by rw [z, hn] at e; cases e
  refine I.step (g' := s.gens) (d' := s.drawn) (ch := [it]) (fun b hb => ?_) (fun b o _ _ hc e _ => k b o (fun z => hc (by simp [z])) e) (fun b o _ _ hc e _ => ⟨o.slots, k b o (fun z => hc (by simp [z])) e⟩) (fun _ _ _ _ n => n)
    (fun b o hc e => ⟨o, k b o (fun z => hc (by simp [z])) e⟩) (fun _ _ e => e) (fun _ _ _ e => e) (fun b ps e => ⟨#[], by rw [e]; simp⟩) (fun m hm => ?_) (fun b u e => ?_) I.bare
  · have e : b = it := by simpa using hb
    subst e
    exact ⟨h1, hL, h2, h3⟩
  · obtain ⟨o, es, ep, ho, r⟩ := hm
    exact ⟨o, es, ep, k _ o (Ne.symm hL) ho, r⟩
  · refine (I.hok b u e).stay (fun c v hc q => k c v ?_ q) (fun _ q => q) fun _ _ q => q
    rcases hc with z | z
    · rw [z]; exact nit b u e
    · exact nit c _ z
theorem Inv.tok (I : Inv X pins σ H s) (t : Nat) : Inv X pins σ H { s with toks := t } := I.un (h' := s.heap) (t' := t) Un.refl I.hok

theorem Inv.kept {t' : Nat} (I : Inv X pins σ H s) (k : ∀ b u, s.heap.get? b = some u → h'.get? b = some u) : Inv X pins σ H { s with heap := h', toks := t' } := I.un (Un.kept k) (I.hok.kept k)

theorem Inv.laid {a : Addr} {o : HO} {t' : Nat} (I : Inv X pins σ H s) (k : ∀ b u, s.heap.get? b = some u → h'.get? b = some u) (hp : s.heap.objs.size ≤ a) (new : ObjOk X.prog X.w (upd H a o) h' a o) :
    Inv X pins σ (upd H a o) { s with heap := h', toks := t' } := I.un (Un.laid k hp (I.hok.fresh hp)) (I.hok.laid k hp new)

theorem Inv.write {x e : Addr} {o : HO} {t' : Nat} (I : Inv X pins σ H s) (mu : Mut (H x)) (he : e = x ∨ H e = some (.own x)) (k : ∀ b u, b ≠ e → s.heap.get? b = some u → h'.get? b = some u) (heo : ∃ u, h'.get? e = some u)
    (new : ObjOk X.prog X.w (upd H x o) h' x o) : Inv X pins σ (upd H x o) { s with heap := h', toks := t' } := I.un (Un.write mu he k heo) (I.hok.write mu he k heo new)

theorem Inv.pins_of {pins' : List (Addr × Obj)} (I : Inv X pins σ H s) (h : ∀ p ∈ pins', s.heap.get? p.1 = some p.2 ∧ H p.1 = none ∧ p.1 ≠ X.env.locals ∧ p.1 ∉ X.fs ∧ ∀ v, p.2.data ≠ .cell v) : Inv X pins' σ H s :=
  ⟨I.ok, I.os, I.bare, I.base, I.loc, I.cell, I.free, I.freeC, fun p hp => (List.mem_append.mp hp).elim (fun z => I.pin p (List.mem_append_left _ z)) (h p), I.hok, I.len⟩

theorem nodup_ix {N : List Str} (hN : N.Nodup) {i j : Nat} {x : Str} (a : N[i]? = some x) (b : N[j]? = some x) : i = j := by
  obtain ⟨h1, e1⟩ := List.getElem?_eq_some_iff.mp a
  obtain ⟨h2, e2⟩ := List.getElem?_eq_some_iff.mp b
  exact (List.getElem_inj hN).mp (e1.trans e2.symm)


theorem store_ok2 {M : Model} {A : Around} {E : Value → Shared → Prop} {i : Nat} {x : Str} {v : V} {u : Value} {Q : Unit → Shared → Prop} (I : Inv X pins σ H s) (hN : X.N.Nodup) (hi : X.N[i]? = some x) (hx : Loc X.env.scope x) (r : RelV v u)
    (h : ∀ s', Inv X pins (σ.set i (some v)) H s' → (∃ a, Heap.SameBut a s.heap s'.heap ∧ (a = X.env.locals ∨ X.env.cells.lookup x = some a)) → Q () s') (hf : X.fn x = true ∨ X.env.scope.names.lookup x = some .local := by first | exact .inl rfl | exact .inr rfl | assumption) : wpAny M A (storeName X.env x u) Q E s := by
  obtain ⟨m, hn, hl⟩ := id I.loc
  have hcls : (X.env.scope.kind == .class || (X.env.scope.kind == .module && X.env.locals != X.env.globals)) = false := by rw [I.ok.kind]; rfl
  have hiσ : i < σ.length := by rw [I.len]; exact (List.getElem?_eq_some_iff.mp hi).1
  have cne := I.cne
  have tracked : ∀ {a : Addr} {h' : Heap}, (∃ o, s.heap.get? a = some o ∧ H a = none) → Heap.SameBut a s.heap h' → HOk X.prog X.w H h' := fun {a h'} ha hs b ob e => by
    obtain ⟨_, _, hfree⟩ := ha
    refine (I.hok b ob e).stay (fun c w' hc q => (hs.2 c ?_).trans q) (fun _ q => q) fun _ _ q => q
    rintro rfl
    rcases hc with rfl | hc
    · rw [hfree] at e; cases e
    · rw [hfree] at hc; cases hc
  rcases hx with hk | hk
  · refine wpAny_storeName_local hk hn (fun h' hn' hs => ?_) hcls
    obtain ⟨oL, _, _, hoL, _⟩ := id hn
    refine h _ ⟨I.ok, I.os, I.bare, ⟨fun b o e n hb hx => ?_, fun b o e n hb hx => ?_, I.base.free, fun b o e hx => ?_, I.base.tups, I.base.frzs, I.base.tbls⟩, ⟨_, hn', fun j y v' e1 e2 e3 => ?_⟩, fun y c e => ?_, I.free, I.freeC, fun p hp => ?_, tracked ⟨oL, hoL, I.free⟩ hs, by simpa using I.len⟩ ⟨_, hs, .inl rfl⟩
    · exact (hs.2 b (Nat.ne_of_lt (Nat.lt_of_lt_of_le (Heap.lt_size e) I.ok.above))).trans (I.base.keep b o e n hb hx)
    · obtain ⟨sl, e1⟩ := I.base.slot b o e n hb hx
      exact ⟨sl, (hs.2 b (Nat.ne_of_lt (Nat.lt_of_lt_of_le (Heap.lt_size e) I.ok.above))).trans e1⟩
    · obtain ⟨o', e1⟩ := I.base.there b o e hx
      exact ⟨o', (hs.2 b (Nat.ne_of_lt (Nat.lt_of_lt_of_le (Heap.lt_size e) I.ok.above))).trans e1⟩
    · by_cases hj : j = i
      · subst hj
        rw [hi] at e1; cases e1
        rw [List.getElem?_set_self hiσ] at e2
        cases e2
        exact ⟨u, r, .inl ⟨hk, by simp⟩⟩
      · rw [List.getElem?_set_ne (Ne.symm hj)] at e2
        obtain ⟨u', r', q⟩ := hl j y v' e1 e2 e3
        refine ⟨u', r', ?_⟩
        rcases q with ⟨k, e⟩ | ⟨k, c, e, z⟩
        · refine .inl ⟨k, ?_⟩
          have : y ≠ x := fun e => hj (nodup_ix hN e1 (e ▸ hi))
          simp [this, e]
        · exact .inr ⟨k, c, e, z.sameBut hs (cne y c e)⟩
    · obtain ⟨w', z⟩ := I.cell y c e
      exact ⟨w', z.sameBut hs (cne y c e)⟩
    · obtain ⟨e, n, ne, nf, d⟩ := I.pin p hp
      exact ⟨(hs.2 p.1 ne).trans e, n, ne, nf, d⟩
  · have hfn : X.fn x = true := by
      rcases hf with z | z
      · exact z
      · rw [z] at hk; cases hk
    obtain ⟨c, hc⟩ := I.ok.has x (.inl hk)
    obtain ⟨w', z⟩ := I.cell x c hc
    refine wpAny_storeName_cell I.ok.kind hk hc z (fun h' hc' hs => ?_)
    obtain ⟨oc, hoc, hocd⟩ := id z
    refine h { s with heap := h' } ⟨I.ok, I.os, I.bare, ⟨fun b o e n hb hx => ?_, fun b o e n hb hx => ?_, I.base.free, fun b o e hx => ?_, I.base.tups, I.base.frzs, I.base.tbls⟩, ⟨m, hn.sameBut hs (Ne.symm (cne x c hc)), fun j y v' e1 e2 e3 => ?_⟩, fun y c' e => ?_, I.free, I.freeC, fun p hp => ?_, tracked ⟨oc, hoc, I.freeC x c hc⟩ hs, by simpa using I.len⟩ ⟨c, hs, .inr hc⟩
    · exact (hs.2 b (Nat.ne_of_lt (Nat.lt_of_lt_of_le (Heap.lt_size e) (I.ok.cab x c hfn hc)))).trans (I.base.keep b o e n hb hx)
    · obtain ⟨sl, e1⟩ := I.base.slot b o e n hb hx
      exact ⟨sl, (hs.2 b (Nat.ne_of_lt (Nat.lt_of_lt_of_le (Heap.lt_size e) (I.ok.cab x c hfn hc)))).trans e1⟩
    · obtain ⟨o', e1⟩ := I.base.there b o e hx
      exact ⟨o', (hs.2 b (Nat.ne_of_lt (Nat.lt_of_lt_of_le (Heap.lt_size e) (I.ok.cab x c hfn hc)))).trans e1⟩
    · by_cases hj : j = i
      · subst hj
        rw [hi] at e1; cases e1
        rw [List.getElem?_set_self hiσ] at e2
        cases e2
        exact ⟨u, r, .inr ⟨.inl hk, c, hc, hc'⟩⟩
      · rw [List.getElem?_set_ne (Ne.symm hj)] at e2
        obtain ⟨u', r', q⟩ := hl j y v' e1 e2 e3
        refine ⟨u', r', ?_⟩
        rcases q with q | ⟨k, c', e, z'⟩
        · exact .inl q
        · refine .inr ⟨k, c', e, z'.sameBut hs ?_⟩
          rintro rfl
          exact hj (nodup_ix hN e1 (I.ok.inj _ _ _ e hc ▸ hi))
    · by_cases hcc : c' = c
      · subst hcc; exact ⟨_, hc'⟩
      · obtain ⟨w2, z2⟩ := I.cell y c' e
        exact ⟨w2, z2.sameBut hs hcc⟩
    · obtain ⟨e, n, ne, nf, d⟩ := I.pin p hp
      refine ⟨(hs.2 p.1 ?_).trans e, n, ne, nf, d⟩
      intro q
      rw [q, hoc] at e
      have q' : oc = p.2 := Option.some.inj e
      exact d w' (by rw [← q']; exact hocd)
theorem store_ok {M : Model} {A : Around} {E : Value → Shared → Prop} {i : Nat} {x : Str} {v : V} {u : Value} {Q : Unit → Shared → Prop} (I : Inv X pins σ H s) (hN : X.N.Nodup) (hi : X.N[i]? = some x) (hx : Loc X.env.scope x) (r : RelV v u)
    (h : ∀ s', Inv X pins (σ.set i (some v)) H s' → Q () s') (hf : X.fn x = true ∨ X.env.scope.names.lookup x = some .local := by first | exact .inl rfl | exact .inr rfl | assumption) : wpAny M A (storeName X.env x u) Q E s :=
  store_ok2 I hN hi hx r (fun s' I' _ => h s' I') hf

theorem Inv.call' {s' : Shared} {ch : List Addr} (I : Inv X pins σ H s) (ho : s'.os = s.os) (u : Un (frs X.stack) ch H H' s.heap s'.heap) (hok : HOk X.prog X.w H' s'.heap) (hg : AllBare s'.gens)
    (hch : ∀ b ∈ ch, (b ∈ X.ex ∨ X.s₀.heap.get? b = none) ∧ b ≠ X.env.locals ∧ (∀ x c, X.env.cells.lookup x = some c → c ≠ b) ∧ ∀ p ∈ X.pn ++ pins, p.1 ≠ b) : Inv X pins σ H' s' := by
  obtain ⟨h', g', d', t', o'⟩ := s'
  have e : o' = s.os := ho
  subst e
  exact I.call (g' := g') (t' := t') (d' := d') u hok hg hch
end



noncomputable abbrev XK := Value → Option Addr → Hp → Prop
noncomputable abbrev St := List (Option V)
noncomputable abbrev VK := V → Hp → Prop

noncomputable abbrev TE := St → Hp → VK → Prop
noncomputable abbrev TT := St → Hp → (Bool → Hp → Prop) → Prop
noncomputable abbrev TA := St → Hp → (List V → Hp → Prop) → Prop

structure Ends where
  nx : St → Hp → Prop
  rt : VK
  bk : St → Hp → Prop := fun _ _ => False
  ct : St → Hp → Prop := fun _ _ => False
noncomputable abbrev TS := Ends → St → Hp → Prop

noncomputable def EP (X : Cx) (pins : List (Addr × Obj)) (σ : St) (Q : VK) (u : Value) (s' : Shared) : Prop := ∃ v H', Inv X pins σ H' s' ∧ RelV v u ∧ Q v H'
noncomputable def TP (X : Cx) (pins : List (Addr × Obj)) (σ : St) (Q : Bool → Hp → Prop) (b : Bool) (s' : Shared) : Prop := ∃ H', Inv X pins σ H' s' ∧ Q b H'
noncomputable def AP (X : Cx) (pins : List (Addr × Obj)) (σ : St) (Q : List V → Hp → Prop) (us : List Value) (s' : Shared) : Prop := ∃ vs H', Inv X pins σ H' s' ∧ Vals vs us ∧ Q vs H'
noncomputable def SP (X : Cx) (pins : List (Addr × Obj)) (D : Ends) (f : Flow) (s' : Shared) : Prop :=
  match f with
  | .next => ∃ σ' H', Inv X pins σ' H' s' ∧ D.nx σ' H'
  | .brk => ∃ σ' H', Inv X pins σ' H' s' ∧ D.bk σ' H'
  | .cont => ∃ σ' H', Inv X pins σ' H' s' ∧ D.ct σ' H'
  | .ret u => ∃ v σ' H', Inv X pins σ' H' s' ∧ RelV v u ∧ D.rt v H'

noncomputable def PE (X : Cx) (e : Expr) (t : TE) : Prop :=
  ∀ (pins : List (Addr × Obj)) (s : Shared) (σ : St) (H : Hp) (Q : VK), Inv X pins σ H s → t σ H Q → wpAny (model X.prog X.w) X.A (eval e X.env) (EP X pins σ Q) X.xe s
noncomputable def PT (X : Cx) (e : Expr) (t : TT) : Prop :=
  ∀ (pins : List (Addr × Obj)) (s : Shared) (σ : St) (H : Hp) (Q : Bool → Hp → Prop), Inv X pins σ H s → t σ H Q → wpAny (model X.prog X.w) X.A (isTrue e X.env (eval e X.env)) (TP X pins σ Q) X.xe s

noncomputable def PW (X : Cx) (e : Expr) (t : TT) : Prop :=
  ∀ (whole : Sem Value) (pins : List (Addr × Obj)) (s : Shared) (σ : St) (H : Hp) (Q : Bool → Hp → Prop), Inv X pins σ H s → t σ H Q → wpAny (model X.prog X.w) X.A (isTrue e X.env whole) (TP X pins σ Q) X.xe s
theorem PW.pt {X : Cx} {e : Expr} {t : TT} (h : PW X e t) : PT X e t := h _

noncomputable def PA (X : Cx) (es : List Expr) (t : TA) : Prop :=
  ∀ (pos : Pos) (pins : List (Addr × Obj)) (s : Shared) (σ : St) (H : Hp) (Q : List V → Hp → Prop), Inv X pins σ H s → t σ H Q → wpAny (model X.prog X.w) X.A (spliced (backTo pos (starEach es X.env))) (AP X pins σ Q) X.xe s
noncomputable def PS (X : Cx) (st : Stmt) (t : TS) : Prop :=
  ∀ (pins : List (Addr × Obj)) (s : Shared) (σ : St) (H : Hp) (D : Ends), Inv X pins σ H s → t D σ H → wpAny (model X.prog X.w) X.A (exec st X.env) (SP X pins D) X.xe s
noncomputable def PSs (X : Cx) (st : List Stmt) (t : TS) : Prop :=
  ∀ (pins : List (Addr × Obj)) (s : Shared) (σ : St) (H : Hp) (D : Ends), Inv X pins σ H s → t D σ H → wpAny (model X.prog X.w) X.A (execs st X.env) (SP X pins D) X.xe s

theorem thn {α : Type} {t : Sem α} {Q Q' : α → Shared → Prop} {M : Model} {A : Around} {E : Value → Shared → Prop} {s : Shared} (h : wpAny M A t Q E s) (hQ : ∀ a s, Q a s → Q' a s) : wpAny M A t Q' E s := wpAny_mono h hQ fun _ _ x => x
end L2

namespace L2
open PySem PySem.Spec PyProof.Rows
section
variable {X : Cx}


theorem bin {a b : Expr} {ta tb : TE} (ha : PE X a ta) (hb : PE X b tb) {pins : List (Addr × Obj)} {s : Shared} {σ : St} {H : Hp} {R : V → V → Hp → Prop} (I : Inv X pins σ H s) (h : ta σ H fun x H1 => tb σ H1 fun y H2 => R x y H2)
    {α : Type} {Q : α → Shared → Prop} {f : Value → Value → Sem α}
    (hf : ∀ v u s2 x y H2, Inv X pins σ H2 s2 → RelV x v → RelV y u → R x y H2 → wpAny (model X.prog X.w) X.A (f v u) Q X.xe s2) :
    wpAny (model X.prog X.w) X.A (eval a X.env) (fun v s₁ => wpAny (model X.prog X.w) X.A (eval b X.env) (fun u s₂ => wpAny (model X.prog X.w) X.A (f v u) Q X.xe s₂) X.xe s₁) X.xe s := by
  refine thn (ha pins s σ H _ I h) fun v s1 ⟨x, H1, I1, r1, q1⟩ => ?_
  refine thn (hb pins s1 σ H1 _ I1 q1) fun u s2 ⟨y, H2, I2, r2, q2⟩ => ?_
  exact hf v u s2 x y H2 I2 r1 r2 q2


noncomputable def tVar (i : Nat) : TE := fun σ H Q => ∃ v, σ[i]? = some (some v) ∧ Q v H
noncomputable def tC (v : V) : TE := fun _ H Q => Q v H
theorem pe_var {i : Nat} {x : Str} {pos : Pos} (hN : X.N[i]? = some x) (hv : Vis X.env.scope x) (hd : (x == ("__debug__" : Str)) = false := by decide) (hcd : (x == ("__classdict__" : Str)) = false := by decide) : PE X (.Name x pos) (tVar i) := by
  intro pins s σ H Q I h
  obtain ⟨v, e, h⟩ := h
  obtain ⟨m, hn, hl⟩ := I.loc
  obtain ⟨u, r, l⟩ := hl i x v hN e hv
  have fin : EP X pins σ Q u s := ⟨v, H, I, r, h⟩
  rcases l with ⟨hk, hm⟩ | ⟨hk, c, hc, hcell⟩
  · exact wpAny_Name (wpAny_loadName_local I.ok.kind hk hn hm fin) hd
  · rcases hk with hk | hk
    · exact wpAny_Name (wpAny_loadName_cell I.ok.kind hk hc hcell fin) hd
    · exact wpAny_Name (wpAny_loadName_free I.ok.kind hk hc hcell fin hcd) hd
theorem pe_int {i j pos} : PE X (.Constant (.int i) j pos) (tC (.int i)) := fun _ _ _ H _ I h => wpAny_Constant_int ⟨.int i, H, I.tok _, ⟨_, rfl⟩, h⟩
theorem pe_bl {b j pos} : PE X (.Constant (.bool b) j pos) (tC (.bl b)) := fun _ _ _ H _ I h => Constant_bool ⟨.bl b, H, I, rfl, h⟩
theorem pe_non {j pos} : PE X (.Constant .none j pos) (tC .non) := fun _ _ _ H _ I h => Constant_none ⟨.non, H, I, rfl, h⟩
theorem pe_str {x j pos} : PE X (.Constant (.str x) j pos) (tC (.str x)) := fun _ _ _ H _ I h => Calls.Constant_str ⟨.str x, H, I.tok _, ⟨_, rfl⟩, h⟩


noncomputable def Gl (X : Cx) (x : Str) : Prop := X.env.kindOf x = some .globalImplicit
theorem ld_glob {E : Value → Shared → Prop} {pins : List (Addr × Obj)} {s : Shared} {σ : St} {H : Hp} {x : Str} {u : Value} {pos : Pos} {Q : Value → Shared → Prop} (I : Inv X pins σ H s) (hg : Gl X x) (hm : X.mg x = some u) (h : Q u s)
    (hd : (x == ("__debug__" : Str)) = false := by decide) : wpAny (model X.prog X.w) X.A (eval (.Name x pos) X.env) Q E s :=
  Calls.Name_function_global I.ok.kind hg (Calls.loadGlobal_global (by rw [I.ok.glob]; exact I.mod.glob.keeps I.bk) hm h) hd
theorem ld_blt {E : Value → Shared → Prop} {pins : List (Addr × Obj)} {s : Shared} {σ : St} {H : Hp} {x : Str} {u : Value} {pos : Pos} {Q : Value → Shared → Prop} (I : Inv X pins σ H s) (hg : Gl X x) (hm : X.mg x = none) (hv : bootBuiltins x = some u) (h : Q u s)
    (hn : x ≠ "__name__" := by decide) (hd : (x == ("__debug__" : Str)) = false := by decide) : wpAny (model X.prog X.w) X.A (eval (.Name x pos) X.env) Q E s := by
  obtain ⟨mb, h1, h2⟩ := I.mod.blt
  exact Calls.Name_function_global I.ok.kind hg (Calls.loadGlobal_builtin (by rw [I.ok.glob]; exact I.mod.glob.keeps I.bk) hm (by rw [I.ok.blt]; exact h1.keeps I.bk) ((h2 x hn).trans hv) h) hd

theorem pe_glob {x : Str} {v : V} {u : Value} {pos : Pos} (hg : Gl X x) (hm : X.mg x = some u) (r : RelV v u) (hd : (x == ("__debug__" : Str)) = false := by decide) : PE X (.Name x pos) (tC v) :=
  fun _ _ _ H _ I h => ld_glob I hg hm ⟨v, H, I, r, h⟩ hd
theorem pe_bltn {x : Str} {v : V} {u : Value} {pos : Pos} (hg : Gl X x) (hm : X.mg x = none) (hv : bootBuiltins x = some u) (r : RelV v u) (hn : x ≠ "__name__" := by decide) (hd : (x == ("__debug__" : Str)) = false := by decide) : PE X (.Name x pos) (tC v) :=
  fun _ _ _ H _ I h => ld_blt I hg hm hv ⟨v, H, I, r, h⟩ hn hd



noncomputable def t2I (ta tb : TE) (k : Int → Int → Hp → Prop) : St → Hp → Prop := fun σ H => ta σ H fun x H1 => tb σ H1 fun y H2 => ∃ i j, x = .int i ∧ y = .int j ∧ k i j H2
noncomputable def tAdd (ta tb : TE) : TE := fun σ H Q => t2I ta tb (fun i j H2 => Q (.int (i + j)) H2) σ H
noncomputable def tSub (ta tb : TE) : TE := fun σ H Q => t2I ta tb (fun i j H2 => Q (.int (i - j)) H2) σ H

noncomputable def tMul (ta tb : TE) : TE := fun σ H Q => t2I ta tb (fun i j H2 => (-(2 ^ 64) < i ∧ i < 2 ^ 64) ∧ Q (.int (i * j)) H2) σ H
variable {a b : Expr} {ta tb : TE} {pos : Pos}
noncomputable def PC (X : Cx) (op : CmpOp) (a b : Expr) (t : TE) : Prop :=
  ∀ (pins : List (Addr × Obj)) (s : Shared) (σ : St) (H : Hp) (Q : VK), Inv X pins σ H s → t σ H Q →
    wpAny (model X.prog X.w) X.A (eval a X.env) (fun v s₁ => wpAny (model X.prog X.w) X.A (eval b X.env) (fun u s₂ => wpAny (model X.prog X.w) X.A (compareOp op v u) (EP X pins σ Q) X.xe s₂) X.xe s₁) X.xe s
theorem nobehind (b : Expr) {op : CmpOp} (h : op ≠ .In) (h2 : op ≠ .NotIn) : behindInMarks op b = false := by
  have e1 : (op == CmpOp.In) = false := by cases op <;> first | rfl | exact absurd rfl h
  have e2 : (op == CmpOp.NotIn) = false := by cases op <;> first | rfl | exact absurd rfl h2
  cases b <;> simp [behindInMarks, e1, e2]
noncomputable def tCmp (p : Int → Int → Bool) (ta tb : TE) : TE := fun σ H Q => t2I ta tb (fun i j H2 => Q (.bl (p i j)) H2) σ H
noncomputable abbrev tLt : TE → TE → TE := tCmp fun i j => decide (i < j)
noncomputable abbrev tLe : TE → TE → TE := tCmp fun i j => decide (i ≤ j)
noncomputable abbrev tGt : TE → TE → TE := tCmp fun i j => decide (j < i)
noncomputable abbrev tGe : TE → TE → TE := tCmp fun i j => decide (j ≤ i)
noncomputable abbrev tEqI : TE → TE → TE := tCmp fun i j => decide (i = j)
noncomputable abbrev tNeI : TE → TE → TE := tCmp fun i j => !decide (i = j)

noncomputable def tIsN (ta : TE) : TE := fun σ H Q => ta σ H fun x H1 => Q (.bl (decide (x = .non))) H1
noncomputable def tNotN (ta : TE) : TE := fun σ H Q => ta σ H fun x H1 => Q (.bl (!decide (x = .non))) H1
theorem RelV.none_iff {x : V} {v : Value} (r : RelV x v) : (v == Value.none) = decide (x = .non) := by
  cases x with
  | non => cases r; rfl
  | bl _ => cases r; rfl
  | int _ => obtain ⟨t, rfl⟩ := r; rfl
  | str _ => obtain ⟨t, rfl⟩ := r; rfl
  | byt _ => obtain ⟨t, rfl⟩ := r; rfl
  | flt _ => obtain ⟨t, rfl⟩ := r; rfl
  | ref _ => cases r; rfl
  | ty _ => cases r; rfl
theorem pc_notN {j pos'} (ha : PE X a ta) : PC X .IsNot a (.Constant .none j pos') (tNotN ta) := by
  intro pins s σ H Q I h
  refine thn (ha pins s σ H _ I h) fun v s1 ⟨x, H1, I1, r1, q1⟩ => ?_
  exact Constant_none (isnot_none_gen ⟨.bl _, H1, I1, by rw [r1.none_iff]; rfl, q1⟩)

noncomputable def tB (t : TE) : TT := fun σ H Q => t σ H fun x H1 => ∃ c, x = .bl c ∧ Q c H1
theorem pt_cmp {op : CmpOp} {t : TE} (h : PC X op a b t) (h1 : behindInMarks op b = false := by first | exact nobehind _ (by decide) (by decide) | rfl) : PT X (.Compare a [op] [b] pos) (tB t) := by
  intro pins s σ H Q I hw
  refine wpAny_isTrue_Compare1 (thn (h pins s σ H _ I hw) fun v s1 h1 => thn h1 fun u s2 h2 => thn h2 fun c s3 ⟨x, H1, I1, r1, q1⟩ => ?_) h1
  obtain ⟨d, rfl, q⟩ := q1
  cases r1
  exact wpAny_truthy_bool ⟨H1, I1, q⟩

theorem pt_val {e : Expr} {t : TE} (h : PE X e t) (he : ∀ whole, isTrue e X.env whole = (do let v ← whole; standAt e.pos; holding [v] (truthy v)) := by intro _; rfl) : PT X e (tB t) := by
  intro pins s σ H Q I hw
  refine isTrue_plain (thn (h pins s σ H _ I hw) fun v s1 ⟨x, H1, I1, r1, q1⟩ => ?_) (he _)
  obtain ⟨d, rfl, q⟩ := q1
  cases r1
  exact wpAny_truthy_bool ⟨H1, I1, q⟩


variable {tA tB' : TT} {rest : List Expr}
noncomputable def tAnd (t u : TT) : TT := fun σ H Q => t σ H fun c H1 => if c = true then u σ H1 Q else Q false H1
noncomputable def tOr (t u : TT) : TT := fun σ H Q => t σ H fun c H1 => if c = true then Q true H1 else u σ H1 Q
noncomputable def tNot (t : TT) : TT := fun σ H Q => t σ H fun c H1 => Q (!c) H1
theorem pw_and1 (ha : PT X a tA) : PW X (.BoolOp .And [a] pos) tA := by
  intro wh pins s σ H Q I h
  refine isTrue_and (thn (ha pins s σ H Q I h) fun c s1 e => ?_)
  cases c with
  | true => exact isTrue_and_nil e
  | false => exact e
theorem pw_or1 (ha : PT X a tA) : PW X (.BoolOp .Or [a] pos) tA := by
  intro wh pins s σ H Q I h
  refine isTrue_or (thn (ha pins s σ H Q I h) fun c s1 e => ?_)
  cases c with
  | false => exact isTrue_or_nil e
  | true => exact e
theorem pw_and (ha : PT X a tA) (hb : PW X (.BoolOp .And (b :: rest) pos) tB') : PW X (.BoolOp .And (a :: b :: rest) pos) (tAnd tA tB') := by
  intro wh pins s σ H Q I h
  refine isTrue_and (thn (ha pins s σ H _ I h) fun c s1 ⟨H1, I1, q1⟩ => ?_)
  cases c with
  | true => exact hb wh pins s1 σ H1 Q I1 q1
  | false => exact ⟨H1, I1, q1⟩
theorem pw_or (ha : PT X a tA) (hb : PW X (.BoolOp .Or (b :: rest) pos) tB') : PW X (.BoolOp .Or (a :: b :: rest) pos) (tOr tA tB') := by
  intro wh pins s σ H Q I h
  refine isTrue_or (thn (ha pins s σ H _ I h) fun c s1 ⟨H1, I1, q1⟩ => ?_)
  cases c with
  | true => exact ⟨H1, I1, q1⟩
  | false => exact hb wh pins s1 σ H1 Q I1 q1
theorem pt_not (ha : PT X a tA) : PT X (.UnaryOp .Not a pos) (tNot tA) := by
  intro pins s σ H Q I h
  exact isTrue_not (ha pins s σ H (fun c H1 => Q (!c) H1) I h)

noncomputable def tAndV (ta tb : TE) : TE := fun σ H Q => ta σ H fun x H1 => ∃ c, x = .bl c ∧ if c = true then tb σ H1 Q else Q (.bl false) H1
noncomputable def tOrV (ta tb : TE) : TE := fun σ H Q => ta σ H fun x H1 => ∃ c, x = .bl c ∧ if c = true then Q (.bl true) H1 else tb σ H1 Q
noncomputable def tNotV (ta : TE) : TE := fun σ H Q => ta σ H fun x H1 => ∃ c, x = .bl c ∧ Q (.bl (!c)) H1
theorem pe_one {op} {t : TE} (h : PE X a t) : PE X (.BoolOp op [a] pos) t := fun pins s σ H Q I hw => BoolOp_one (h pins s σ H Q I hw)
theorem pe_and (ha : PE X a ta) (hb : PE X (.BoolOp .And (b :: rest) pos) tb) : PE X (.BoolOp .And (a :: b :: rest) pos) (tAndV ta tb) := by
  intro pins s σ H Q I h
  refine BoolOp_and (thn (ha pins s σ H _ I h) fun v s1 ⟨x, H1, I1, r1, q1⟩ => ?_)
  obtain ⟨c, rfl, q1⟩ := q1
  cases r1
  refine wpAny_truthy_bool ?_
  cases c with
  | true => exact hb pins s1 σ H1 Q I1 q1
  | false => exact ⟨.bl false, H1, I1, rfl, q1⟩
theorem pe_not (ha : PE X a ta) : PE X (.UnaryOp .Not a pos) (tNotV ta) := by
  intro pins s σ H Q I h
  refine UnaryOp_ (thn (ha pins s σ H _ I h) fun v s1 ⟨x, H1, I1, r1, q1⟩ => ?_)
  obtain ⟨c, rfl, q1⟩ := q1
  cases r1
  exact not_of (wpAny_truthy_bool ⟨.bl (!c), H1, I1, rfl, q1⟩)

noncomputable def tIf (t : TT) (ta tb : TE) : TE := fun σ H Q => t σ H fun c H1 => if c = true then ta σ H1 Q else tb σ H1 Q
end
end L2

namespace L2
open PySem PySem.Spec PyProof.Rows


noncomputable def SqL (K : PySem.W.Frag) (H : Hp) (a : Addr) (xs : List V) : Prop :=
  Rd H a (.lst xs) ∨
    ∃ (o : Obj) (its : Array Value) (n : Nat), K.lookup a = some o ∧ o.cls = .type "list" ∧ o.dict = none ∧ o.data = .seq its n ∧ its.size ≤ sizeLine ∧ Vals xs its.toList
noncomputable def SqT (K : PySem.W.Frag) (H : Hp) (a : Addr) (xs : List V) : Prop :=
  Rd H a (.tup xs) ∨
    ∃ (o : Obj) (its : Array Value) (n : Nat), K.lookup a = some o ∧ o.cls = .type "tuple" ∧ o.data = .seq its n ∧ its.size ≤ sizeLine ∧ Vals xs its.toList
noncomputable def absV : Value → Option V
  | .none => some .non
  | .bool b => some (.bl b)
  | .int i _ => some (.int i)
  | .str x _ => some (.str x)
  | .bytes b _ => some (.byt b)
  | .float b _ => some (.flt b)
  | .ref a => some (.ref a)
  | .type n => some (.ty n)
  | _ => none
theorem RelV.abs {x : V} {u : Value} (r : RelV x u) : absV u = some x := by
  cases x with
  | non => cases r; rfl
  | bl _ => cases r; rfl
  | int _ => obtain ⟨t, rfl⟩ := r; rfl
  | str _ => obtain ⟨t, rfl⟩ := r; rfl
  | byt _ => obtain ⟨t, rfl⟩ := r; rfl
  | flt _ => obtain ⟨t, rfl⟩ := r; rfl
  | ref _ => cases r; rfl
  | ty _ => cases r; rfl
theorem RelV.inj {x y : V} {u : Value} (r : RelV x u) (q : RelV y u) : x = y := Option.some.inj (r.abs.symm.trans q.abs)
theorem Vals.inj : ∀ {xs ys : List V} {us : List Value}, Vals xs us → Vals ys us → xs = ys
  | _, _, _, .nil, .nil => rfl
  | _, _, _, .cons r t, .cons r' t' => by rw [r.inj r', Vals.inj t t']
section
variable {X : Cx} {pins : List (Addr × Obj)} {σ : St} {H : Hp} {s : Shared} {a : Addr} {xs ys : List V}
theorem SqL.of {K : PySem.W.Frag} (h : H a = some (.lst xs)) : SqL K H a xs := .inl (.inl h)
theorem SqT.of {K : PySem.W.Frag} (h : H a = some (.tup xs)) : SqT K H a xs := .inl (.inl h)
theorem Inv.list (I : Inv X pins σ H s) (h : SqL X.K H a xs) : ∃ its : List Value, Vals xs its ∧ PlainL s.heap a its.toArray ∧ xs.length ≤ sizeLine := by
  rcases h with h | ⟨o, its, n, hk, hc, hd, hs, hz, r⟩
  · obtain ⟨z, its, n, r, e⟩ := h.ok I.hok
    exact ⟨its, r, ⟨_, n, e, rfl, rfl, rfl⟩, z⟩
  · refine ⟨its.toList, r, ⟨o, n, I.kIn a o hk, hc, hd, by simpa using hs⟩, ?_⟩
    have e := r.length
    simp only [Array.length_toList] at e
    omega
theorem Inv.tuple (I : Inv X pins σ H s) (h : SqT X.K H a xs) : ∃ its : List Value, Vals xs its ∧ IsTup s.heap a its.toArray ∧ xs.length ≤ sizeLine := by
  rcases h with h | ⟨o, its, n, hk, hc, hs, hz, r⟩
  · obtain ⟨z, its, r, p⟩ := h.ok I.hok
    exact ⟨its, r, p, z⟩
  · refine ⟨its.toList, r, ⟨o, I.kIn a o hk, hc, n, by simpa using hs⟩, ?_⟩
    have e := r.length
    simp only [Array.length_toList] at e
    omega
theorem Inv.list_inj (I : Inv X pins σ H s) (h : SqL X.K H a xs) (h' : SqL X.K H a ys) : xs = ys := by
  obtain ⟨its, r, ⟨o, n, e, _, _, d⟩, _⟩ := I.list h
  obtain ⟨its', r', ⟨o', n', e', _, _, d'⟩, _⟩ := I.list h'
  rw [e] at e'; cases e'
  rw [d] at d'
  injection d' with d1 _
  have : its = its' := by simpa using congrArg Array.toList d1
  subst this
  exact r.inj r'
theorem Inv.tuple_inj (I : Inv X pins σ H s) (h : SqT X.K H a xs) (h' : SqT X.K H a ys) : xs = ys := by
  obtain ⟨its, r, ⟨o, e, _, n, d⟩, _⟩ := I.tuple h
  obtain ⟨its', r', ⟨o', e', _, n', d'⟩, _⟩ := I.tuple h'
  rw [e] at e'; cases e'
  rw [d] at d'
  injection d' with d1 _
  have : its = its' := by simpa using congrArg Array.toList d1
  subst this
  exact r.inj r'
end


noncomputable abbrev Cx.wish (X : Cx) (E : Value → Shared → Prop) : Cx := { X with xe := E }

noncomputable abbrev Cx.nox (X : Cx) : Cx := X.wish fun _ _ => False
theorem Cx.Ok.wish {X : Cx} (ok : X.Ok) (E : Value → Shared → Prop) : (X.wish E).Ok :=
  ⟨ok.mod, ok.kind, ok.glob, ok.blt, ok.above, ok.inj, ok.has, ok.cab, ok.hd, ok.frames, ok.stk, ok.exf, ok.bs, ok.bsz, ok.noex, ok.exfs, ok.funs, ok.frf⟩
theorem Cx.Ok.unwish {X : Cx} {E : Value → Shared → Prop} (ok : (X.wish E).Ok) : X.Ok :=
  ⟨ok.mod, ok.kind, ok.glob, ok.blt, ok.above, ok.inj, ok.has, ok.cab, ok.hd, ok.frames, ok.stk, ok.exf, ok.bs, ok.bsz, ok.noex, ok.exfs, ok.funs, ok.frf⟩
section
variable {X : Cx} {pins : List (Addr × Obj)} {σ : St} {H : Hp} {s : Shared} {E : Value → Shared → Prop}
theorem Inv.wish (I : Inv X pins σ H s) (E : Value → Shared → Prop) : Inv (X.wish E) pins σ H s := ⟨I.ok.wish E, I.os, I.bare, I.base, I.loc, I.cell, I.free, I.freeC, I.pin, I.hok, I.len⟩
theorem Inv.unwish (I : Inv (X.wish E) pins σ H s) : Inv X pins σ H s := ⟨I.ok.unwish, I.os, I.bare, I.base, I.loc, I.cell, I.free, I.freeC, I.pin, I.hok, I.len⟩
theorem SP.unwish {D : Ends} {f : Flow} {s' : Shared} (h : SP (X.wish E) pins D f s') : SP X pins D f s' := by
  cases f with
  | next => obtain ⟨σ', H', I, q⟩ := h; exact ⟨σ', H', I.unwish, q⟩
  | brk => obtain ⟨σ', H', I, q⟩ := h; exact ⟨σ', H', I.unwish, q⟩
  | cont => obtain ⟨σ', H', I, q⟩ := h; exact ⟨σ', H', I.unwish, q⟩
  | ret u => obtain ⟨v, σ', H', I, r, q⟩ := h; exact ⟨v, σ', H', I.unwish, r, q⟩
theorem PSs.nox {st : List Stmt} {t : TS} (h : PSs X.nox st t) : PSs X st t := fun pins s σ H D I hw =>
  wpAny_mono (h pins s σ H D (I.wish _) hw) (fun _ _ q => q.unwish) fun _ _ z => False.elim z
end


section
variable {X : Cx} {st : Stmt} {rest : List Stmt} {t u : TS} {e : Expr} {te : TE} {pos : Pos}
noncomputable def tNext : TS := fun D σ H => D.nx σ H
noncomputable def tSeq (t u : TS) : TS := fun D σ H => t { D with nx := u D } σ H
theorem pss_nil : PSs X [] tNext := fun _ _ σ H _ I h => wpAny_execs_nil ⟨σ, H, I, h⟩
theorem pss_cons (h1 : PS X st t) (h2 : PSs X rest u) : PSs X (st :: rest) (tSeq t u) := by
  intro pins s σ H D I h
  refine wpAny_execs_cons (thn (h1 pins s σ H { D with nx := u D } I h) fun f s1 q => ?_)
  cases f with
  | next =>
    obtain ⟨σ', H', I', q⟩ := q
    exact h2 pins s1 σ' H' D I' q
  | ret v => exact q
  | brk => exact q
  | cont => exact q
theorem pss_one (h1 : PS X st t) : PSs X [st] t := by
  intro pins s σ H D I h
  refine wpAny_execs_cons (thn (h1 pins s σ H D I h) fun f s1 q => ?_)
  cases f with
  | next => exact wpAny_execs_nil q
  | ret v => exact q
  | brk => exact q
  | cont => exact q
noncomputable def tBreak : TS := fun D σ H => D.bk σ H
noncomputable def tCont : TS := fun D σ H => D.ct σ H
theorem Inv.quiet {pins : List (Addr × Obj)} {σ : St} {H : Hp} {s : Shared} (I : Inv X pins σ H s) : interactive X.env = false := by simp [interactive, I.ok.kind]

noncomputable def tDrop (te : TE) : TS := fun D σ H => te σ H fun _ H1 => D.nx σ H1
theorem ps_expr (he : PE X e te) (hs : swapsWith e none pos.line X.env = pure false := by rfl) : PS X (.Expr e pos) (tDrop te) := by
  intro pins s σ H D I h
  exact wpAny_Expr_any (thn (he pins s σ H _ I h) fun v s1 ⟨x, H1, I1, r1, q1⟩ => ⟨σ, H1, I1, q1⟩) I.quiet hs
noncomputable def tRet (te : TE) : TS := fun D σ H => te σ H D.rt
theorem ps_ret (he : PE X e te) : PS X (.Return (some e) pos) (tRet te) := by
  intro pins s σ H D I h
  exact wpAny_Return_some (thn (he pins s σ H _ I h) fun v s1 ⟨x, H1, I1, r1, q1⟩ => ⟨x, σ, H1, I1, r1, q1⟩)
noncomputable def tRetN : TS := fun D _ H => D.rt .non H
noncomputable def tIfS (c : TT) (t u : TS) : TS := fun D σ H => c σ H fun b H1 => if b = true then t D σ H1 else u D σ H1
theorem ps_if {c : Expr} {a b : List Stmt} {tc : TT} (hc : PT X c tc) (ha : PSs X a t) (hb : PSs X b u) : PS X (.If c a b pos) (tIfS tc t u) := by
  intro pins s σ H D I h
  refine wpAny_If (thn (hc pins s σ H _ I h) fun d s1 ⟨H1, I1, q1⟩ => ?_)
  cases d with
  | true => exact ha pins s1 σ H1 D I1 q1
  | false => exact hb pins s1 σ H1 D I1 q1

noncomputable def tNever : TS := fun _ _ _ => False
theorem pss_never {sts : List Stmt} : PSs X sts tNever := fun _ _ _ _ _ _ h => h.elim
end


noncomputable abbrev TG := V → St → Hp → (St → Hp → Prop) → Prop
noncomputable abbrev TGs := List V → St → Hp → (St → Hp → Prop) → Prop
noncomputable def PG (X : Cx) (target : Expr) (t : TG) : Prop :=
  ∀ (pins : List (Addr × Obj)) (s : Shared) (σ : St) (H : Hp) (v : V) (u : Value) (Q : St → Hp → Prop), Inv X pins σ H s → RelV v u → t v σ H Q →
    wpAny (model X.prog X.w) X.A (assign target X.env u) (fun _ s' => ∃ σ' H', Inv X pins σ' H' s' ∧ Q σ' H') X.xe s

noncomputable def PGs (X : Cx) (ts : List Expr) (t : TGs) : Prop :=
  ∀ (pins : List (Addr × Obj)) (s : Shared) (σ : St) (H : Hp) (vs : List V) (us : List Value) (Q : St → Hp → Prop), Inv X pins σ H s → Vals vs us → t vs σ H Q →
    wpAny (model X.prog X.w) X.A (assignInOrder ((assignEach ts X.env).map (·.2)) us) (fun _ s' => ∃ σ' H', Inv X pins σ' H' s' ∧ Q σ' H') X.xe s

noncomputable abbrev TSet := V → V → V → Hp → (Hp → Prop) → Prop
noncomputable def PSet (X : Cx) (t : TSet) : Prop :=
  ∀ (pins : List (Addr × Obj)) (s : Shared) (σ : St) (H : Hp) (o i v : V) (ov iv u : Value) (Q : Hp → Prop), Inv X pins σ H s → RelV o ov → RelV i iv → RelV v u → t o i v H Q →
    wpAny (model X.prog X.w) X.A (setItem ov iv u) (fun _ s' => ∃ H', Inv X pins σ H' s' ∧ Q H') X.xe s

noncomputable abbrev TIp := V → V → Hp → VK → Prop
noncomputable def PIp (X : Cx) (op : Operator) (t : TIp) : Prop :=
  ∀ (pins : List (Addr × Obj)) (s : Shared) (σ : St) (H : Hp) (x y : V) (v u : Value) (Q : VK), Inv X pins σ H s → RelV x v → RelV y u → t x y H Q →
    wpAny (model X.prog X.w) X.A (inplaceOp op v u) (EP X pins σ Q) X.xe s
section
variable {X : Cx} {pos : Pos}
noncomputable def gName (i : Nat) : TG := fun v σ H Q => Q (σ.set i (some v)) H
theorem pg_name {i : Nat} {x : Str} (hN : X.N.Nodup) (hi : X.N[i]? = some x) (hx : Loc X.env.scope x) (hf : X.fn x = true ∨ X.env.scope.names.lookup x = some .local := by first | exact .inl rfl | exact .inr rfl | assumption) : PG X (.Name x pos) (gName i) := by
  intro pins s σ H v u Q I r h
  exact wpAny_assign_Name (store_ok I hN hi hx r (fun s' I' => ⟨_, H, I', h⟩) hf)
noncomputable def gNil : TGs := fun vs σ H Q => vs = [] ∧ Q σ H
noncomputable def gCons (t : TG) (u : TGs) : TGs := fun vs σ H Q => ∃ v r, vs = v :: r ∧ t v σ H fun σ' H' => u r σ' H' Q
theorem pgs_nil : PGs X [] gNil := by
  intro pins s σ H vs us Q I r h
  obtain ⟨e, h⟩ := h
  subst e
  cases r
  exact assignInOrder_nil ⟨σ, H, I, h⟩
theorem pgs_cons {e : Expr} {es : List Expr} {t : TG} {u : TGs} (h1 : PG X e t) (h2 : PGs X es u)
    (hs : (assignEach (e :: es) X.env).map (·.2) = assign e X.env :: (assignEach es X.env).map (·.2) := by rfl) : PGs X (e :: es) (gCons t u) := by
  intro pins s σ H vs us Q I r h
  obtain ⟨v, vr, e1, h⟩ := h
  subst e1
  cases r with
  | cons r rr =>
    rw [hs]
    refine assignInOrder_cons (thn (h1 pins s σ H _ _ _ I r h) fun _ s1 ⟨σ1, H1, I1, q1⟩ => ?_)
    exact h2 pins s1 σ1 H1 _ _ Q I1 rr q1

noncomputable def gTup (K : PySem.W.Frag) (n : Nat) (t : TGs) : TG := fun v σ H Q => ∃ a xs, v = .ref a ∧ SqT K H a xs ∧ xs.length = n ∧ t xs σ H Q
theorem pg_tup {es : List Expr} {k : Nat} {t : TGs} {n : Nat} (hc : X.calm = true) (h : PGs X es t)
    (hn : (assignEach es X.env).length = n := by rfl) (hst : (assignEach es X.env).findIdx? (·.1) = none := by rfl) : PG X (.Tuple es k pos) (gTup X.K n t) := by
  intro pins s σ H v u Q I r hw
  obtain ⟨a, xs, e1, hq, hl, hw⟩ := hw
  subst e1
  cases r
  obtain ⟨its, rv, ht, hz⟩ := I.tuple hq
  refine assign_Tuple_tuple (I.ok.hd hc) ht (by simp [hn, ← hl, rv.length]) hst fun h' hx => ?_
  have I1 : Inv X pins σ H { s with heap := h' } := I.kept (t' := s.toks) fun b o e => hx b o (Nat.ne_of_lt (Heap.lt_size e)) e
  exact h pins _ σ H xs _ Q I1 (by simpa using rv) hw

noncomputable def gSub (to ti : TE) (t : TSet) : TG := fun v σ H Q => to σ H fun o H1 => ti σ H1 fun i H2 => t o i v H2 fun H3 => Q σ H3
noncomputable def tAsg (te : TE) (g : TG) : TS := fun D σ H => te σ H fun x H1 => g x σ H1 D.nx
theorem ps_set {i : Nat} {x : Str} {e : Expr} {te : TE} {pos' : Pos} (hN : X.N.Nodup) (hi : X.N[i]? = some x) (hx : Loc X.env.scope x) (he : PE X e te) (hs : swapsWith e (some (.Name x pos')) pos.line X.env = pure false := by rfl) (hf : X.fn x = true ∨ X.env.scope.names.lookup x = some .local := by first | exact .inl rfl | exact .inr rfl | assumption) :
    PS X (.Assign [.Name x pos'] e pos) (tAsg te (gName i)) := by
  intro pins s σ H D I h
  refine wpAny_Assign_Name (thn (he pins s σ H _ I h) fun v s1 ⟨y, H1, I1, r1, q1⟩ => ?_) hs
  exact store_ok I1 hN hi hx r1 (fun s2 I2 => ⟨_, H1, I2, q1⟩) hf

noncomputable def tPar (i j : Nat) (ta : TA) : TS := fun D σ H => ta σ H fun vs H1 => ∃ v w, vs = [v, w] ∧ D.nx ((σ.set i (some v)).set j (some w)) H1
noncomputable def tAug (i : Nat) (te : TE) (ti : TIp) : TS := fun D σ H => ∃ x, σ[i]? = some (some x) ∧ te σ H fun y H1 => ti x y H1 fun z H2 => D.nx (σ.set i (some z)) H2
noncomputable def tAugS (to ti te : TE) (tget : V → V → Hp → VK → Prop) (tip : TIp) (tset : TSet) : TS := fun D σ H => to σ H fun o H1 => ti σ H1 fun i H2 => tget o i H2 fun x H3 => te σ H3 fun y H4 => tip x y H4 fun z H5 => tset o i z H5 fun H6 => D.nx σ H6

noncomputable def PGet (X : Cx) (t : V → V → Hp → VK → Prop) : Prop :=
  ∀ (pins : List (Addr × Obj)) (s : Shared) (σ : St) (H : Hp) (o i : V) (ov iv : Value) (Q : VK), Inv X pins σ H s → RelV o ov → RelV i iv → t o i H Q →
    wpAny (model X.prog X.w) X.A (getItem ov iv) (EP X pins σ Q) X.xe s
noncomputable def ipI (f : Int → Int → Int) : TIp := fun x y H Q => ∃ i j, x = .int i ∧ y = .int j ∧ Q (.int (f i j)) H
end


section
variable {X : Cx} {pos : Pos}

noncomputable def tWhile (c : TT) (tb : TS) : TS := fun D σ H => ∃ W : Nat → St → Hp → Prop, (∃ m, W m σ H) ∧ ∀ m σ H, W m σ H →
  c σ H fun b H1 => if b = true then ∃ N : St → Hp → Prop, (∀ σ' H', N σ' H' → ∃ m', m' < m ∧ W m' σ' H') ∧ tb { D with nx := N, ct := N, bk := D.nx } σ H1 else D.nx σ H1
end



structure It where
  go : Nat → Hp → Prop
  yld : Nat → Hp → V → Hp → Prop
  stop : Nat → Hp → Prop

noncomputable def FpOk (X : Cx) (pins : List (Addr × Obj)) (H : Hp) (b : Addr) : Prop :=
  H b = none ∧ b ≠ X.env.locals ∧ b ∉ X.fs ∧ (b ∈ X.ex ∨ X.s₀.heap.get? b = none) ∧ (∀ x c, X.env.cells.lookup x = some c → c ≠ b) ∧ ∀ p ∈ X.pn ++ pins, p.1 ≠ b
theorem Inv.fpOk {X : Cx} {pins : List (Addr × Obj)} {σ : St} {H H' : Hp} {s : Shared} {b : Addr} (I : Inv X pins σ H s) (hb : s.heap.objs.size ≤ b) (hn : H' b = none) : FpOk X pins H' b := by
  refine ⟨hn, Nat.ne_of_gt (Nat.lt_of_lt_of_le I.lt hb), I.nofs hb, .inr (Heap.get?_none_of_le (Nat.le_trans I.sz hb)), fun x c e z => ?_, fun p hp z => ?_⟩
  · obtain ⟨v, q⟩ := I.cell x c e
    exact absurd (Nat.lt_of_lt_of_le q.lt (by rw [z]; exact hb)) (Nat.lt_irrefl _)
  · exact absurd (Nat.lt_of_lt_of_le (Heap.lt_size (I.pin p hp).1) (by rw [z]; exact hb)) (Nat.lt_irrefl _)
structure Turn (P : Program) (w : World) (K : PySem.W.Frag) (tg : Expr) (J : It) (fp : List Addr) (it : Addr) (tn : Nat → Heap → Prop) : Prop where
  mem : it ∈ fp
  obj : ∀ i h, tn i h → ∀ b ∈ fp, ∃ o, h.get? b = some o ∧ ∀ v, o.data ≠ .cell v
  keep : ∀ i h h', tn i h → (∀ b ∈ fp, ∀ o, h.get? b = some o → h'.get? b = some o) → tn i h'
  item : ∀ (X : Cx), X.prog = P → X.w = w → X.K = K → X.calm = true → ∀ (i : Nat) (pins : List (Addr × Obj)) (s : Shared) (σ : St) (H : Hp) (E : Value → Shared → Prop), Inv X pins σ H s → (∀ b ∈ fp, FpOk X pins H b) → tn i s.heap → J.go i H →
    wpAny (model P w) X.A (pyNext (.ref it)) (fun r s1 => ∃ u, r = some u ∧
      wpAny (model P w) X.A (letOwnedTupleGo tg (.ref it) u) (fun _ s2 => ∃ x H', Inv X pins σ H' s2 ∧ RelV x u ∧ J.yld i H x H' ∧ tn (i + 1) s2.heap ∧ ∀ b ∈ fp, H' b = none) E s1) E s
  done : ∀ (X : Cx), X.prog = P → X.w = w → X.K = K → X.calm = true → ∀ (i : Nat) (pins : List (Addr × Obj)) (s : Shared) (σ : St) (H : Hp) (E : Value → Shared → Prop), Inv X pins σ H s → (∀ b ∈ fp, FpOk X pins H b) → tn i s.heap → J.stop i H →
    wpAny (model P w) X.A (pyNext (.ref it)) (fun r s1 => r = none ∧ Inv X pins σ H s1) E s
  self : ∀ (A : Around) (i : Nat) (s : Shared) (Q : Value → Shared → Prop) (E : Value → Shared → Prop), tn i s.heap → Q (.ref it) s → wpAny (model P w) A (pyIter (.ref it)) Q E s
noncomputable abbrev TI := St → Hp → (It → Hp → Prop) → Prop

noncomputable def PIE (X : Cx) (pins : List (Addr × Obj)) (σ : St) (tg : Expr) (R : It → Hp → Prop) (itv : Value) (s2 : Shared) : Prop :=
  ∃ (it : Addr) (fp : List Addr) (tn : Nat → Heap → Prop) (J : It) (H' : Hp), itv = .ref it ∧ Inv X pins σ H' s2 ∧ Turn X.prog X.w X.K tg J fp it tn ∧ tn 0 s2.heap ∧ (∀ b ∈ fp, FpOk X pins H' b) ∧ R J H'
noncomputable def PI (X : Cx) (tg iter : Expr) (wi : TI) : Prop :=
  ∀ (pins : List (Addr × Obj)) (s : Shared) (σ : St) (H : Hp) (R : It → Hp → Prop), Inv X pins σ H s → wi σ H R →
    wpAny (model X.prog X.w) X.A (eval iter X.env) (fun v s1 => wpAny (model X.prog X.w) X.A (pyIter v) (PIE X pins σ tg R) X.xe s1) X.xe s


theorem go_of {M : Model} {A : Around} {E : Value → Shared → Prop} {s : Shared} {tg : Expr} {it : Addr} {u : Value} {o : Obj} {n : String} {vs : Array Value} {Q : Unit → Shared → Prop} (ho : s.heap.get? it = some o) (hc : o.cls = .type n) (hd : o.data = .fields vs)
    (hn : ["enumerate", "zip", "dict_itemiterator", "dict_reverseitemiterator", "odict_iterator", "itertools.zip_longest", "itertools.pairwise"].contains n = false) (hQ : Q () s) : wpAny M A (letOwnedTupleGo tg (.ref it) u) Q E s := by
  unfold letOwnedTupleGo
  cases tg <;> first
    | exact wpAny_pure hQ
    | (cases u <;> first
        | exact wpAny_pure hQ
        | (refine wpAny_bind (wpAny_load ho ?_)
           rw [hc, hd]
           show wpAny M A (if (["enumerate", "zip", "dict_itemiterator", "dict_reverseitemiterator", "odict_iterator", "itertools.zip_longest", "itertools.pairwise"].contains n && vs[0]? == some (rawInt _)) = true then _ else _) Q E s
           rw [if_neg (by intro h; rw [hn, Bool.false_and] at h; cases h)]
           exact wpAny_pure hQ))


noncomputable def Itl (K : PySem.W.Frag) (a : Addr) : It :=
  ⟨fun i H => ∃ xs x, SqL K H a xs ∧ xs[i]? = some x, fun i H x H' => H' = H ∧ ∀ xs, SqL K H a xs → xs[i]? = some x, fun i H => ∃ xs, SqL K H a xs ∧ xs.length ≤ i⟩
noncomputable def Itt (K : PySem.W.Frag) (a : Addr) : It :=
  ⟨fun i H => ∃ xs x, SqT K H a xs ∧ xs[i]? = some x, fun i H x H' => H' = H ∧ ∀ xs, SqT K H a xs → xs[i]? = some x, fun i H => ∃ xs, SqT K H a xs ∧ xs.length ≤ i⟩

noncomputable def Itr (lo : Int) (n : Nat) : It := ⟨fun i _ => i < n, fun i H x H' => H' = H ∧ x = .int (lo + i), fun i _ => n ≤ i⟩
theorem turn_list {P : Program} {w : World} {K : PySem.W.Frag} {tg : Expr} (a it : Addr) : Turn P w K tg (Itl K a) [it] it (fun i h => h.IsListIter it a i) where
  mem := by simp
  obj := fun i h st b hb => by
    have e : b = it := by simpa using hb
    subst e
    obtain ⟨o, e, c, d⟩ := st
    exact ⟨o, e, fun v z => by rw [d] at z; cases z⟩
  keep := fun i h h' st k => st.at fun o e => k it (by simp) o e
  item := by
    intro X hP hw hK hc i pins s σ H E I hf st hg
    subst hP hw hK
    obtain ⟨xs, x, hq, hx⟩ := hg
    obtain ⟨its, rv, p, hz⟩ := I.list hq
    obtain ⟨u, hu, ru⟩ := rv.get hx
    obtain ⟨f0, f1, f2, f3, f4, f5⟩ := hf it (by simp)
    refine wpAny_pyNext_list_item st p.isList (x := u) (by simpa using hu) fun h' st' sb => ?_
    have I1 : Inv X pins σ H { s with heap := h' } := I.turned (t' := s.toks) (fun b o hb e => (sb.2 b hb).trans e) f0 f1 f3 f4 f5
    obtain ⟨o, e, c, d⟩ := id st'
    exact ⟨u, rfl, go_of (s := { s with heap := h' }) e c d (by decide) ⟨x, H, I1, ru, ⟨rfl, fun ys hy => by rw [I.list_inj hy hq]; exact hx⟩, st', fun b hb => (hf b hb).1⟩⟩
  done := by
    intro X hP hw hK hc i pins s σ H E I hf st hg
    subst hP hw hK
    obtain ⟨xs, hq, hx⟩ := hg
    obtain ⟨its, rv, p, hz⟩ := I.list hq
    obtain ⟨f0, f1, f2, f3, f4, f5⟩ := hf it (by simp)
    have hl := rv.length
    exact wpAny_pyNext_list_end (I.ok.hd hc) st p.isList (by simp; omega) fun h' eb => ⟨rfl, I.turned (t' := s.toks) (fun b o hb e => eb b o hb e) f0 f1 f3 f4 f5⟩
  self := fun _ _ _ _ _ st h => wpAny_pyIter_listiter st h
theorem turn_range {P : Program} {w : World} {K : PySem.W.Frag} {tg : Expr} (it : Addr) (lo : Int) (n : Nat) : Turn P w K tg (Itr lo n) [it] it (fun i h => IsRangeIter h it (lo + (i : Nat) * 1) ((n : Int) - (i : Nat)) 1) where
  mem := by simp
  obj := fun i h st b hb => by
    have e : b = it := by simpa using hb
    subst e
    exact ⟨_, st, fun v z => by
      have z' : Data.fields _ = Data.cell v := z
      cases z'⟩
  keep := fun i h h' st k => k it (by simp) _ st
  item := by
    intro X hP hw hK hc i pins s σ H E I hf st hg
    subst hP hw hK
    obtain ⟨f0, f1, f2, f3, f4, f5⟩ := hf it (by simp)
    have W := Walks.range (prog := X.prog) (w := X.w) (I.ok.hd hc) it lo 1 n
    refine W.item i s _ _ hg st fun v h' tk hv st' kk => ?_
    obtain ⟨t, rfl⟩ := hv
    have I1 : Inv X pins σ H { s with heap := h', toks := tk } := I.turned (fun b o hb e => kk b o (by simpa using hb) e) f0 f1 f3 f4 f5
    refine ⟨_, rfl, go_of (s := { s with heap := h', toks := tk }) (n := "range_iterator") st' rfl rfl (by decide) ⟨.int (lo + i), H, I1, ⟨t, ?_⟩, ⟨rfl, rfl⟩, st', fun b hb => (hf b hb).1⟩⟩
    rw [Int.mul_one]
  done := by
    intro X hP hw hK hc i pins s σ H E I hf st hg
    subst hP hw hK
    obtain ⟨f0, f1, f2, f3, f4, f5⟩ := hf it (by simp)
    exact wpAny_pyNext_range_end (I.ok.hd hc) st (by have : n ≤ i := hg; omega) fun h' eb => ⟨rfl, I.turned (t' := s.toks) (fun b o hb e => eb b o hb e) f0 f1 f3 f4 f5⟩
  self := fun _ _ _ _ _ st h => wpAny_pyIter_rangeiter st h
end L2

namespace L2
open PySem PySem.Spec PyProof.Rows
section
variable {X : Cx} {tg : Expr}
noncomputable def iList (K : PySem.W.Frag) (tl : TE) : TI := fun σ H R => tl σ H fun x H1 => ∃ a, x = .ref a ∧ (∃ xs, SqL K H1 a xs) ∧ R (Itl K a) H1
noncomputable def iTup (K : PySem.W.Frag) (tl : TE) : TI := fun σ H R => tl σ H fun x H1 => ∃ a, x = .ref a ∧ (∃ xs, SqT K H1 a xs) ∧ R (Itt K a) H1
theorem pi_list {l : Expr} {tl : TE} (hl : PE X l tl) : PI X tg l (iList X.K tl) := by
  intro pins s σ H R I h
  refine thn (hl pins s σ H _ I h) fun v s1 ⟨x, H1, I1, r1, q1⟩ => ?_
  obtain ⟨a, e, ⟨xs, hq⟩, q⟩ := q1
  subst e
  cases r1
  obtain ⟨its, rv, p, hz⟩ := I1.list hq
  refine wpAny_pyIter_list p.isList ?_
  refine ⟨s1.heap.objs.size, [s1.heap.objs.size], _, _, H1, rfl, I1.kept (t' := s1.toks) fun b o e => Heap.get?_push_of_some _ e, turn_list a _, ⟨_, Heap.get?_push_size _ rfl, rfl, rfl⟩, fun b hb => ?_, q⟩
  have e : b = s1.heap.objs.size := by simpa using hb
  subst e
  exact I1.fpOk (Nat.le_refl _) (I1.hok.fresh (Nat.le_refl _))
theorem range_it {pins : List (Addr × Obj)} {σ : St} {H : Hp} {s : Shared} {R : It → Hp → Prop} {E : Value → Shared → Prop} {lo hi : Int} {t u v : Tok} {tk : Nat} (I : Inv X pins σ H s) (h1 : -(2 ^ 62) ≤ lo) (h2 : lo < 2 ^ 62) (h3 : -(2 ^ 62) ≤ hi) (h4 : hi < 2 ^ 62)
    (q : R (Itr lo (hi - lo).toNat) H) : wpAny (model X.prog X.w) X.A (pyIter (.ref s.heap.objs.size)) (PIE X pins σ tg R) E { s with heap := s.heap.push { cls := .type "range", data := .fields #[.int lo t, .int hi u, .int 1 v] }, toks := tk } := by
  refine wpAny_pyIter_range (IsRange.new ..) (small_one h1 h2 h3 h4) ?_
  have I1 : Inv X pins σ H { s with heap := s.heap.push { cls := .type "range", data := .fields #[.int lo t, .int hi u, .int 1 v] }, toks := tk } := I.kept fun b o e => Heap.get?_push_of_some _ e
  refine ⟨(s.heap.push { cls := .type "range", data := .fields #[.int lo t, .int hi u, .int 1 v] }).objs.size, [(s.heap.push { cls := .type "range", data := .fields #[.int lo t, .int hi u, .int 1 v] }).objs.size], _, _, H, rfl,
    I1.kept (t' := tk) fun b o e => Heap.get?_push_of_some _ e, turn_range _ lo (hi - lo).toNat, ?_, fun b hb => ?_, q⟩
  · have e1 : lo + ((0 : Nat) : Int) * 1 = lo := by simp
    have e2 : (((hi - lo).toNat : Nat) : Int) - ((0 : Nat) : Int) = Builtin.Range.rangeSize lo hi 1 := by rw [rangeSize_one]; split <;> omega
    show IsRangeIter _ _ (lo + ((0 : Nat) : Int) * 1) ((((hi - lo).toNat : Nat) : Int) - ((0 : Nat) : Int)) 1
    rw [e1, e2]
    exact Heap.get?_push_size _ rfl
  · have e : b = (s.heap.push { cls := .type "range", data := .fields #[.int lo t, .int hi u, .int 1 v] }).objs.size := by simpa using hb
    subst e
    exact I1.fpOk (Nat.le_refl _) (I1.hok.fresh (Nat.le_refl _))
noncomputable def iRng1 (ta : TA) : TI := fun σ H R => ta σ H fun vs H1 => ∃ j : Int, vs = [.int j] ∧ -(2 ^ 62) ≤ j ∧ j < 2 ^ 62 ∧ R (Itr 0 j.toNat) H1
noncomputable def iRng2 (ta : TA) : TI := fun σ H R => ta σ H fun vs H1 => ∃ i j : Int, vs = [.int i, .int j] ∧ (-(2 ^ 62) ≤ i ∧ i < 2 ^ 62 ∧ -(2 ^ 62) ≤ j ∧ j < 2 ^ 62) ∧ R (Itr i (j - i).toNat) H1
theorem pi_range1 {a : Expr} {ta : TA} {p pos : Pos} (hg : Gl X "range") (hm : X.mg "range" = none) (ha : PA X [a] ta) (hs : starEach [a] X.env = [(false, eval a X.env)] := by rfl) : PI X tg (.Call (.Name "range" p) [a] [] pos) (iRng1 ta) := by
  intro pins s σ H R I h
  refine Call_ (ld_blt I hg hm boot_range (PyProof.Rows.callWith_type1 (thn (ha pos pins s σ H _ I h) fun us s1 ⟨vs, H1, I1, r1, q1⟩ => ?_) hs rfl))
  obtain ⟨j, e, q1, q2, q⟩ := q1
  subst e
  cases r1 with
  | cons r rr =>
    cases rr
    obtain ⟨t, rfl⟩ := r
    exact call_range_1 (range_it I1 (by omega) (by omega) q1 q2 (by simpa using q))
noncomputable def tFor (wi : TI) (g : TG) (tb : TS) : TS := fun D σ H => wi σ H fun J H1 => ∃ W : Nat → Nat → St → Hp → Prop, (∃ m, W 0 m σ H1) ∧ ∀ i m σ H, W i m σ H →
  (J.stop i H ∧ D.nx σ H) ∨ (J.go i H ∧ ∃ N : St → Hp → Prop, (∀ σ' H', N σ' H' → ∃ m', m' < m ∧ W (i + 1) m' σ' H') ∧ ∀ x H', J.yld i H x H' → g x σ H' fun σ2 H2 => tb { D with nx := N, ct := N, bk := D.nx } σ2 H2)

noncomputable def pinsAt (fp : List Addr) (h : Heap) : List (Addr × Obj) := fp.filterMap fun b => (h.get? b).map fun o => (b, o)
theorem mem_pinsAt {fp : List Addr} {h : Heap} {b : Addr} {o : Obj} (hb : b ∈ fp) (e : h.get? b = some o) : (b, o) ∈ pinsAt fp h := List.mem_filterMap.mpr ⟨b, hb, by rw [e]; rfl⟩
theorem of_pinsAt {fp : List Addr} {h : Heap} {p : Addr × Obj} (hp : p ∈ pinsAt fp h) : p.1 ∈ fp ∧ h.get? p.1 = some p.2 := by
  obtain ⟨b, hb, e⟩ := List.mem_filterMap.mp hp
  cases q : h.get? b with
  | none => rw [q] at e; cases e
  | some o =>
    rw [q] at e
    have e' : (b, o) = p := Option.some.inj e
    subst e'
    exact ⟨hb, q⟩
theorem Inv.pinned {pins : List (Addr × Obj)} {σ : St} {H : Hp} {s : Shared} {fp : List Addr} (I : Inv X pins σ H s) (hf : ∀ b ∈ fp, FpOk X pins H b) (ho : ∀ b ∈ fp, ∃ o, s.heap.get? b = some o ∧ ∀ v, o.data ≠ .cell v) : Inv X (pins ++ pinsAt fp s.heap) σ H s :=
  I.pins_of fun p hp => (List.mem_append.mp hp).elim (fun z => I.pin p (List.mem_append_right _ z)) fun z => by
    obtain ⟨hb, e⟩ := of_pinsAt z
    obtain ⟨f0, f1, f2, _⟩ := hf p.1 hb
    obtain ⟨o, e', d⟩ := ho p.1 hb
    rw [e] at e'; cases e'
    exact ⟨e, f0, f1, f2, d⟩
theorem Inv.unpinned {pins pl : List (Addr × Obj)} {σ : St} {H : Hp} {s : Shared} (I : Inv X (pins ++ pl) σ H s) : Inv X pins σ H s := I.pins_of fun p hp => I.pin p (List.mem_append_right _ (List.mem_append_left _ hp))
theorem ps_for {iter : Expr} {body : List Stmt} {wi : TI} {g : TG} {tb : TS} {pos : Pos} (hp : PassesOwn (model X.prog X.w) X.A X.env X.xe) (hc : X.calm = true) (hi : PI X tg iter wi) (hg : PG X tg g) (hb : PSs X body tb)
    (hs : ∀ x, foldedSetIterable iter X.env x = pure x := by intro _; rfl) : PS X (.For tg iter body [] pos) (tFor wi g tb) := by
  intro pins s σ H D I h
  refine wpAny_For (thn (hi pins s σ H _ I h) fun v s1 h1 => thn h1 fun itv s2 h2 => ?_) hs
  obtain ⟨it, fp, tn, J, H2, e, I2, T, st2, f2, W, ⟨m0, w0⟩, turn⟩ := h2
  subst e
  -- what stays true of the iterator's objects through the loop
  have stat : ∀ {H' : Hp}, (∀ b ∈ fp, H' b = none) → ∀ b ∈ fp, FpOk X pins H' b := fun hn b hb => ⟨hn b hb, (f2 b hb).2⟩
  refine codeAny_forLoop_any (fun n s' => ∃ i σ' H', Inv X pins σ' H' s' ∧ tn i s'.heap ∧ (∀ b ∈ fp, H' b = none) ∧ W i n σ' H') ?_ m0 ⟨0, σ, H2, I2, st2, fun b hb => (f2 b hb).1, w0⟩
  rintro n s3 ⟨i, σ3, H3, I3, st3, fr3, w3⟩
  rcases turn i n σ3 H3 w3 with ⟨stop, qn⟩ | ⟨go, N, hN, step⟩
  · refine wpAny_passesOwn hp (thn (T.done X rfl rfl rfl hc i pins s3 σ3 H3 X.xe I3 (stat fr3) st3 stop) fun r s4 ⟨hr, I4⟩ => ?_)
    subst hr
    exact wpAny_execs_nil ⟨σ3, H3, I4, qn⟩
  · refine wpAny_passesOwn hp (thn (T.item X rfl rfl rfl hc i pins s3 σ3 H3 X.xe I3 (stat fr3) st3 go) fun r s4 ⟨u, hr, h4⟩ => ?_)
    subst hr
    refine wpAny_passesOwn hp (thn h4 fun _ s5 ⟨x, H5, I5, r5, y5, st5, fr5⟩ => ?_)
    have I5' := I5.pinned (stat fr5) (T.obj _ _ st5)
    refine wpAny_passesOwn hp (thn (hg _ s5 σ3 H5 x u _ I5' r5 (step x H5 y5)) fun _ s6 ⟨σ6, H6, I6, q6⟩ => ?_)
    refine wpAny_passesOwn hp (thn (hb _ s6 σ6 H6 _ I6 q6) fun f s7 q7 => ?_)
    have again : ∀ {σ7 : St} {H7 : Hp}, Inv X (pins ++ pinsAt fp s5.heap) σ7 H7 s7 → N σ7 H7 → ∃ m, m < n ∧ ∃ i σ' H', Inv X pins σ' H' s7 ∧ tn i s7.heap ∧ (∀ b ∈ fp, H' b = none) ∧ W i m σ' H' := fun {σ7 H7} I7 n7 => by
      obtain ⟨m', hm, w7⟩ := hN σ7 H7 n7
      refine ⟨m', hm, i + 1, σ7, H7, I7.unpinned, T.keep _ _ _ st5 fun b hb o e => (I7.pin (b, o) (List.mem_append_right _ (List.mem_append_right _ (mem_pinsAt hb e)))).1, fun b hb => ?_, w7⟩
      obtain ⟨o, e, d⟩ := T.obj _ _ st5 b hb
      exact (I7.pin (b, o) (List.mem_append_right _ (List.mem_append_right _ (mem_pinsAt hb e)))).2.1
    cases f with
    | next => obtain ⟨σ7, H7, I7, n7⟩ := q7; exact again I7 n7
    | cont => obtain ⟨σ7, H7, I7, n7⟩ := q7; exact again I7 n7
    | brk => obtain ⟨σ7, H7, I7, q7⟩ := q7; exact ⟨σ7, H7, I7.unpinned, q7⟩
    | ret v => obtain ⟨x7, σ7, H7, I7, r7, q7⟩ := q7; exact ⟨x7, σ7, H7, I7.unpinned, r7, q7⟩
end



theorem for_list {K : PySem.W.Frag} {a : Addr} {xs : List V} {g : TG} {tb : TS} {D : Ends} {σ : St} {H : Hp} (Pv : Nat → St → Hp → Prop) (h0 : Pv 0 σ H) (hl : ∀ i σ H, i ≤ xs.length → Pv i σ H → SqL K H a xs)
    (hs : ∀ i x σ H, xs[i]? = some x → Pv i σ H → g x σ H fun σ2 H2 => tb { D with nx := Pv (i + 1), ct := Pv (i + 1), bk := D.nx } σ2 H2) (hd : ∀ σ H, Pv xs.length σ H → D.nx σ H) :
    ∃ W : Nat → Nat → St → Hp → Prop, (∃ m, W 0 m σ H) ∧ ∀ i m σ H, W i m σ H →
      ((Itl K a).stop i H ∧ D.nx σ H) ∨ ((Itl K a).go i H ∧ ∃ N : St → Hp → Prop, (∀ σ' H', N σ' H' → ∃ m', m' < m ∧ W (i + 1) m' σ' H') ∧ ∀ x H', (Itl K a).yld i H x H' → g x σ H' fun σ2 H2 => tb { D with nx := N, ct := N, bk := D.nx } σ2 H2) := by
  refine ⟨fun i m σ H => m = xs.length - i ∧ i ≤ xs.length ∧ Pv i σ H, ⟨xs.length, by simp, Nat.zero_le _, h0⟩, ?_⟩
  rintro i m σ H ⟨rfl, hi, p⟩
  have q := hl i σ H hi p
  by_cases hlt : i < xs.length
  · refine .inr ⟨⟨xs, xs[i], q, by simp [hlt]⟩, Pv (i + 1), fun σ' H' p' => ⟨xs.length - (i + 1), by omega, rfl, hlt, p'⟩, fun x H' y => ?_⟩
    obtain ⟨e, y⟩ := y
    subst e
    exact hs i x σ _ (y xs q) p
  · have e : i = xs.length := by omega
    subst e
    exact .inl ⟨⟨xs, q, Nat.le_refl _⟩, hd σ H p⟩
theorem for_range {lo : Int} {n : Nat} {g : TG} {tb : TS} {D : Ends} {σ : St} {H : Hp} (Pv : Nat → St → Hp → Prop) (h0 : Pv 0 σ H)
    (hs : ∀ i σ H, i < n → Pv i σ H → g (.int (lo + i)) σ H fun σ2 H2 => tb { D with nx := Pv (i + 1), ct := Pv (i + 1), bk := D.nx } σ2 H2) (hd : ∀ σ H, Pv n σ H → D.nx σ H) :
    ∃ W : Nat → Nat → St → Hp → Prop, (∃ m, W 0 m σ H) ∧ ∀ i m σ H, W i m σ H →
      ((Itr lo n).stop i H ∧ D.nx σ H) ∨ ((Itr lo n).go i H ∧ ∃ N : St → Hp → Prop, (∀ σ' H', N σ' H' → ∃ m', m' < m ∧ W (i + 1) m' σ' H') ∧ ∀ x H', (Itr lo n).yld i H x H' → g x σ H' fun σ2 H2 => tb { D with nx := N, ct := N, bk := D.nx } σ2 H2) := by
  refine ⟨fun i m σ H => m = n - i ∧ i ≤ n ∧ Pv i σ H, ⟨n, by simp, Nat.zero_le _, h0⟩, ?_⟩
  rintro i m σ H ⟨rfl, hi, p⟩
  by_cases hlt : i < n
  · refine .inr ⟨hlt, Pv (i + 1), fun σ' H' p' => ⟨n - (i + 1), by omega, rfl, hlt, p'⟩, fun x H' y => ?_⟩
    obtain ⟨e, y⟩ := y
    subst e y
    exact hs i σ _ hlt p
  · have e : i = n := by omega
    subst e
    exact .inl ⟨Nat.le_refl _, hd σ H p⟩

end L2

namespace L2
open PySem PySem.Spec PyProof.Rows

noncomputable abbrev R2 := V → V → Hp → VK → Prop

noncomputable def OpR (X : Cx) (f : Value → Value → Sem Value) (r : R2) : Prop :=
  ∀ (pins : List (Addr × Obj)) (s : Shared) (σ : St) (H : Hp) (x y : V) (v u : Value) (Q : VK), Inv X pins σ H s → RelV x v → RelV y u → r x y H Q →
    wpAny (model X.prog X.w) X.A (f v u) (EP X pins σ Q) X.xe s

noncomputable def UnR (X : Cx) (f : Value → Sem Value) (r : V → Hp → VK → Prop) : Prop :=
  ∀ (pins : List (Addr × Obj)) (s : Shared) (σ : St) (H : Hp) (x : V) (v : Value) (Q : VK), Inv X pins σ H s → RelV x v → r x H Q →
    wpAny (model X.prog X.w) X.A (f v) (EP X pins σ Q) X.xe s

noncomputable def CallR (X : Cx) (f : Value) (r : List V → Hp → VK → Prop) : Prop :=
  ∀ (pins : List (Addr × Obj)) (s : Shared) (σ : St) (H : Hp) (xs : List V) (us : List Value) (Q : VK), Inv X pins σ H s → Vals xs us → r xs H Q →
    wpAny (model X.prog X.w) X.A (call f us) (EP X pins σ Q) X.xe s

noncomputable def TruR (X : Cx) (r : V → Hp → (Bool → Hp → Prop) → Prop) : Prop :=
  ∀ (pins : List (Addr × Obj)) (s : Shared) (σ : St) (H : Hp) (x : V) (v : Value) (Q : Bool → Hp → Prop), Inv X pins σ H s → RelV x v → r x H Q →
    wpAny (model X.prog X.w) X.A (truthy v) (TP X pins σ Q) X.xe s

noncomputable def tOp (r : R2) (ta tb : TE) : TE := fun σ H Q => ta σ H fun x H1 => tb σ H1 fun y H2 => r x y H2 Q
noncomputable def tUn (r : V → Hp → VK → Prop) (ta : TE) : TE := fun σ H Q => ta σ H fun x H1 => r x H1 Q

noncomputable def rI (C : Int → Int → Prop) (g : Int → Int → V) : R2 := fun x y H Q => ∃ i j, x = .int i ∧ y = .int j ∧ C i j ∧ Q (g i j) H
noncomputable def rI0 (g : Int → Int → V) : R2 := fun x y H Q => ∃ i j, x = .int i ∧ y = .int j ∧ Q (g i j) H
noncomputable def rU (g : Int → V) : V → Hp → VK → Prop := fun x H Q => ∃ i, x = .int i ∧ Q (g i) H

section
variable {X : Cx} {a b c : Expr} {ta tb tc : TE} {pos : Pos}

theorem binT (ha : PE X a ta) (hb : PE X b tb) {pins : List (Addr × Obj)} {s : Shared} {σ : St} {H : Hp} {R : V → V → Hp → Prop} (I : Inv X pins σ H s)
    (h : ta σ H fun x H1 => tb σ H1 fun y H2 => R x y H2) {Q : Value → Shared → Prop} {f : Value → Value → Sem Value}
    (hf : ∀ v u s2 x y H2, Inv X pins σ H2 s2 → RelV x v → RelV y u → R x y H2 → wpAny (model X.prog X.w) X.A (f v u) Q X.xe s2) :
    wpAny (model X.prog X.w) X.A (eval a X.env) (fun v s₁ => wpAny (model X.prog X.w) X.A (eval b X.env) (fun u s₂ => wpAny (model X.prog X.w) X.A (f v u) Q X.xe s₂) X.xe s₁) X.xe s := by
  refine thn (ha pins s σ H _ I h) fun v s1 ⟨x, H1, I1, r1, q1⟩ => ?_
  refine thn (hb pins s1 σ H1 _ I1 q1) fun u s2 ⟨y, H2, I2, r2, q2⟩ => ?_
  exact hf v u s2 x y H2 I2 r1 r2 q2

theorem pe_op {op : Operator} {r : R2} (ho : OpR X (binaryOp op) r) (ha : PE X a ta) (hb : PE X b tb) : PE X (.BinOp a op b pos) (tOp r ta tb) := by
  intro pins s σ H Q I h
  exact wpAny_BinOp (binT ha hb I h fun v u s2 x y H2 I2 rx ry q => ho pins s2 σ H2 x y v u Q I2 rx ry q)
theorem pe_un {op : UnaryOp} {r : V → Hp → VK → Prop} (ho : UnR X (unaryOp op) r) (ha : PE X a ta) : PE X (.UnaryOp op a pos) (tUn r ta) := by
  intro pins s σ H Q I h
  exact UnaryOp_ (thn (ha pins s σ H _ I h) fun v s1 ⟨x, H1, I1, r1, q1⟩ => ho pins s1 σ H1 x v Q I1 r1 q1)

theorem opI {f : Value → Value → Sem Value} {C : Int → Int → Prop} {g : Int → Int → Int}
    (rule : ∀ (i j : Int) (t u : Tok) (s : Shared) (Q : Value → Shared → Prop) (E : Value → Shared → Prop), C i j → Q (.int (g i j) s.toks) { s with toks := s.toks + 1 } → wpAny (model X.prog X.w) X.A (f (.int i t) (.int j u)) Q E s) :
    OpR X f (rI C fun i j => .int (g i j)) := by
  intro pins s σ H x y v u Q I rx ry h
  obtain ⟨i, j, rfl, rfl, hc, q⟩ := h
  obtain ⟨t, rfl⟩ := rx
  obtain ⟨t', rfl⟩ := ry
  exact rule i j t t' s _ _ hc ⟨.int (g i j), H, I.tok _, ⟨_, rfl⟩, q⟩
theorem opI0 {f : Value → Value → Sem Value} {g : Int → Int → Int}
    (rule : ∀ (i j : Int) (t u : Tok) (s : Shared) (Q : Value → Shared → Prop) (E : Value → Shared → Prop), Q (.int (g i j) s.toks) { s with toks := s.toks + 1 } → wpAny (model X.prog X.w) X.A (f (.int i t) (.int j u)) Q E s) :
    OpR X f (rI0 fun i j => .int (g i j)) := by
  intro pins s σ H x y v u Q I rx ry h
  obtain ⟨i, j, rfl, rfl, q⟩ := h
  obtain ⟨t, rfl⟩ := rx
  obtain ⟨t', rfl⟩ := ry
  exact rule i j t t' s _ _ ⟨.int (g i j), H, I.tok _, ⟨_, rfl⟩, q⟩
theorem opB0 {f : Value → Value → Sem Value} {g : Int → Int → Bool}
    (rule : ∀ (i j : Int) (t u : Tok) (s : Shared) (Q : Value → Shared → Prop) (E : Value → Shared → Prop), Q (.bool (g i j)) s → wpAny (model X.prog X.w) X.A (f (.int i t) (.int j u)) Q E s) :
    OpR X f (rI0 fun i j => .bl (g i j)) := by
  intro pins s σ H x y v u Q I rx ry h
  obtain ⟨i, j, rfl, rfl, q⟩ := h
  obtain ⟨t, rfl⟩ := rx
  obtain ⟨t', rfl⟩ := ry
  exact rule i j t t' s _ _ ⟨.bl (g i j), H, I, rfl, q⟩

noncomputable def CDiv (i j : Int) : Prop := 0 < j ∧ j < 1073741824
noncomputable def CDivN (i j : Int) : Prop := j ≠ 0 ∧ j.natAbs < 1073741824
noncomputable def CPow (i j : Int) : Prop := 0 ≤ j ∧ j ≤ 1000000 ∧ i.natAbs < 2 ^ 64
noncomputable def CMul (i j : Int) : Prop := (-(2 ^ 64) < i ∧ i < 2 ^ 64) ∨ (-(2 ^ 64) < j ∧ j < 2 ^ 64)
theorem CMul.ok {i j : Int} (h : CMul i j) : IntMulOk i j := by
  rcases h with ⟨h1, h2⟩ | ⟨h1, h2⟩
  · exact .of_left (intBits_le_64 h1 h2)
  · exact .of_right (intBits_le_64 h1 h2)
theorem op_add : OpR X (binaryOp .Add) (rI0 fun i j => .int (i + j)) := opI0 fun _ _ _ _ _ _ _ q => add_int q
theorem op_sub : OpR X (binaryOp .Sub) (rI0 fun i j => .int (i - j)) := opI0 fun _ _ _ _ _ _ _ q => sub_int q
theorem op_mul : OpR X (binaryOp .Mult) (rI CMul fun i j => .int (i * j)) := opI fun _ _ _ _ _ _ _ hc q => mul_int q hc.ok

theorem op_fdiv : OpR X (binaryOp .FloorDiv) (rI CDiv fun i j => .int (i / j)) := opI fun i j _ _ _ _ _ hc q => by
  have h1 : (0 : Int) < j := hc.1
  have h2 : j < 1073741824 := hc.2
  exact floordiv_int (by omega) (by rw [Int.fdiv_eq_ediv_of_nonneg i (by omega)]; exact q) (.inl (PyProof.noPylong_small (by omega)))
theorem op_mod : OpR X (binaryOp .Mod) (rI (fun _ j => 0 < j) fun i j => .int (i % j)) := opI fun i j _ _ _ _ _ hc q => by
  have h1 : (0 : Int) < j := hc
  exact mod_int' (by omega) (by rw [Int.fmod_eq_emod_of_nonneg i (by omega)]; exact q)
theorem op_pow : OpR X (binaryOp .Pow) (rI CPow fun i j => .int (i ^ j.toNat)) := opI fun _ _ _ _ _ _ _ hc q => pow_int_small hc.1 hc.2.1 hc.2.2 q
theorem unI {f : Value → Sem Value} {g : Int → Int}
    (rule : ∀ (i : Int) (t : Tok) (s : Shared) (Q : Value → Shared → Prop) (E : Value → Shared → Prop), Q (.int (g i) s.toks) { s with toks := s.toks + 1 } → wpAny (model X.prog X.w) X.A (f (.int i t)) Q E s) :
    UnR X f (rU fun i => .int (g i)) := by
  intro pins s σ H x v Q I rx h
  obtain ⟨i, rfl, q⟩ := h
  obtain ⟨t, rfl⟩ := rx
  exact rule i t s _ _ ⟨.int (g i), H, I.tok _, ⟨_, rfl⟩, q⟩
theorem un_neg : UnR X (unaryOp .USub) (rU fun i => .int (-i)) := unI fun _ _ _ _ _ q => neg_int q
end



noncomputable def scal : V → V → Bool
  | .non, .non => true | .non, .int _ => true | .int _, .non => true | .non, .bl _ => true | .bl _, .non => true | .non, .str _ => true | .str _, .non => true
  | .int _, .int _ => true | .bl _, .bl _ => true | .str _, .str _ => true | .byt _, .byt _ => true
  | .int _, .str _ => true | .str _, .int _ => true | .bl _, .str _ => true | .str _, .bl _ => true
  | _, _ => false
noncomputable def rEq : R2 := fun x y H Q => scal x y = true ∧ Q (.bl (decide (x = y))) H
noncomputable def rNe : R2 := fun x y H Q => scal x y = true ∧ Q (.bl (!decide (x = y))) H

theorem dec_int {i j : Int} : decide (V.int i = V.int j) = (i == j) := by
  rw [Bool.eq_iff_iff]
  simp
theorem dec_bl {i j : Bool} : decide (V.bl i = V.bl j) = (i == j) := by
  rw [Bool.eq_iff_iff]
  simp
theorem dec_str {i j : Str} : decide (V.str i = V.str j) = (i == j) := by
  rw [Bool.eq_iff_iff]
  simp
theorem dec_byt {i j : Array UInt8} : decide (V.byt i = V.byt j) = (i.toList == j.toList) := by
  rw [Bool.eq_iff_iff]
  cases i
  cases j
  simp

section
variable {X : Cx} {a b c : Expr} {ta tb tc : TE} {pos : Pos}
theorem fin_bl {pins : List (Addr × Obj)} {σ : St} {H : Hp} {s : Shared} {Q : VK} {k k' : Bool} (I : Inv X pins σ H s) (q : Q (.bl k) H) (e : k = k') : EP X pins σ Q (.bool k') s := by
  subst e
  exact ⟨.bl k, H, I, rfl, q⟩
theorem op_eq : OpR X (compareOp .Eq) rEq := by
  intro pins s σ H x y v u Q I rx ry h
  obtain ⟨hs, q⟩ := h
  cases x with
  | non =>
    cases rx
    cases y with
    | non => cases ry; exact PySem.EqNone.eq_none_none (fin_bl I q (by simp))
    | bl j => cases ry; exact PySem.EqNone.eq_none_bool (fin_bl I q (by simp))
    | int j => obtain ⟨t', rfl⟩ := ry; exact PySem.EqNone.eq_none_int (fin_bl I q (by simp))
    | str j => obtain ⟨t', rfl⟩ := ry; exact PySem.EqNone.eq_none_str (fin_bl I q (by simp))
    | _ => exact absurd (show false = true from hs) Bool.false_ne_true
  | bl i =>
    cases rx
    cases y with
    | non => cases ry; exact PySem.EqNone.eq_bool_none (fin_bl I q (by simp))
    | bl j => cases ry; exact eq_bool (fin_bl I q dec_bl)
    | str j => obtain ⟨t', rfl⟩ := ry; exact PySem.EqMixed.eq_bool_str (fin_bl I q (by simp))
    | _ => exact absurd (show false = true from hs) Bool.false_ne_true
  | int i =>
    obtain ⟨t, rfl⟩ := rx
    cases y with
    | non => cases ry; exact PySem.EqNone.eq_int_none (fin_bl I q (by simp))
    | int j => obtain ⟨t', rfl⟩ := ry; exact eq_int (fin_bl I q dec_int)
    | str j => obtain ⟨t', rfl⟩ := ry; exact PySem.EqMixed.eq_int_str (fin_bl I q (by simp))
    | _ => exact absurd (show false = true from hs) Bool.false_ne_true
  | str i =>
    obtain ⟨t, rfl⟩ := rx
    cases y with
    | non => cases ry; exact PySem.EqNone.eq_str_none (fin_bl I q (by simp))
    | bl j => cases ry; exact PySem.EqMixed.eq_str_bool (fin_bl I q (by simp))
    | int j => obtain ⟨t', rfl⟩ := ry; exact PySem.EqMixed.eq_str_int (fin_bl I q (by simp))
    | str j => obtain ⟨t', rfl⟩ := ry; exact eq_str (fin_bl I q dec_str)
    | _ => exact absurd (show false = true from hs) Bool.false_ne_true
  | byt i =>
    obtain ⟨t, rfl⟩ := rx
    cases y with
    | byt j => obtain ⟨t', rfl⟩ := ry; exact PySem.W.eq_bytes (fin_bl I q dec_byt)
    | _ => exact absurd (show false = true from hs) Bool.false_ne_true
  | _ => cases y <;> exact absurd (show false = true from hs) Bool.false_ne_true
theorem op_ne : OpR X (compareOp .NotEq) rNe := by
  intro pins s σ H x y v u Q I rx ry h
  obtain ⟨hs, q⟩ := h
  cases x with
  | non =>
    cases rx
    cases y with
    | non => cases ry; exact PySem.EqNone.ne_none_none (fin_bl I q (by simp))
    | bl j => cases ry; exact PySem.EqNone.ne_none_bool (fin_bl I q (by simp))
    | int j => obtain ⟨t', rfl⟩ := ry; exact PySem.EqNone.ne_none_int (fin_bl I q (by simp))
    | str j => obtain ⟨t', rfl⟩ := ry; exact PySem.EqNone.ne_none_str (fin_bl I q (by simp))
    | _ => exact absurd (show false = true from hs) Bool.false_ne_true
  | bl i =>
    cases rx
    cases y with
    | non => cases ry; exact PySem.EqNone.ne_bool_none (fin_bl I q (by simp))
    | bl j => cases ry; exact ne_bool (fin_bl I q (congrArg not dec_bl))
    | str j => obtain ⟨t', rfl⟩ := ry; exact PySem.EqMixed.ne_bool_str (fin_bl I q (by simp))
    | _ => exact absurd (show false = true from hs) Bool.false_ne_true
  | int i =>
    obtain ⟨t, rfl⟩ := rx
    cases y with
    | non => cases ry; exact PySem.EqNone.ne_int_none (fin_bl I q (by simp))
    | int j => obtain ⟨t', rfl⟩ := ry; exact ne_int (fin_bl I q (congrArg not dec_int))
    | str j => obtain ⟨t', rfl⟩ := ry; exact PySem.EqMixed.ne_int_str (fin_bl I q (by simp))
    | _ => exact absurd (show false = true from hs) Bool.false_ne_true
  | str i =>
    obtain ⟨t, rfl⟩ := rx
    cases y with
    | non => cases ry; exact PySem.EqNone.ne_str_none (fin_bl I q (by simp))
    | bl j => cases ry; exact PySem.EqMixed.ne_str_bool (fin_bl I q (by simp))
    | int j => obtain ⟨t', rfl⟩ := ry; exact PySem.EqMixed.ne_str_int (fin_bl I q (by simp))
    | str j => obtain ⟨t', rfl⟩ := ry; exact ne_str (fin_bl I q (congrArg not dec_str))
    | _ => exact absurd (show false = true from hs) Bool.false_ne_true
  | byt i =>
    obtain ⟨t, rfl⟩ := rx
    cases y with
    | byt j => obtain ⟨t', rfl⟩ := ry; exact PySem.W.ne_bytes (fin_bl I q (congrArg not dec_byt))
    | _ => exact absurd (show false = true from hs) Bool.false_ne_true
  | _ => cases y <;> exact absurd (show false = true from hs) Bool.false_ne_true

theorem op_lt : OpR X (compareOp .Lt) (rI0 fun i j => .bl (decide (i < j))) := opB0 fun _ _ _ _ _ _ _ q => lt_int q
theorem op_le : OpR X (compareOp .LtE) (rI0 fun i j => .bl (decide (i ≤ j))) := opB0 fun _ _ _ _ _ _ _ q => le_int q
theorem op_gt : OpR X (compareOp .Gt) (rI0 fun i j => .bl (decide (j < i))) := opB0 fun _ _ _ _ _ _ _ q => gt_int q
theorem op_in_str : OpR X (compareOp .In) (fun x y H Q => ∃ i j, x = .str i ∧ y = .str j ∧ Q (.bl (!(Builtin.Str.occurrences j i 0 j.length 1).isEmpty)) H) := by
  intro pins s σ H x y v u Q I rx ry h
  obtain ⟨i, j, rfl, rfl, q⟩ := h
  obtain ⟨t, rfl⟩ := rx
  obtain ⟨t', rfl⟩ := ry
  exact in_str (fin_bl I q rfl)


theorem op_notN : OpR X (compareOp .IsNot) (fun x y H Q => y = .non ∧ Q (.bl (!decide (x = .non))) H) := by
  intro pins s σ H x y v u Q I rx ry h
  obtain ⟨rfl, q⟩ := h
  cases ry
  refine isnot_none_gen (fin_bl I q ?_)
  cases x <;> first
    | (cases rx; rfl)
    | (obtain ⟨t, rfl⟩ := rx; rfl)

noncomputable def isObj : HO → Bool
  | .lst _ => true
  | .ins _ _ _ => true
  | _ => false
theorem nomark (b : Expr) {op : CmpOp} (h : op ≠ .In := by decide) (h2 : op ≠ .NotIn := by decide) : behindInMarks op b = false := by
  have e1 : (op == CmpOp.In) = false := by cases op <;> first | rfl | exact absurd rfl h
  have e2 : (op == CmpOp.NotIn) = false := by cases op <;> first | rfl | exact absurd rfl h2
  cases b <;> simp [behindInMarks, e1, e2]

theorem pe_cmpR {op : CmpOp} {r : R2} (ho : OpR X (compareOp op) r) (ha : PE X a ta) (hb : PE X b tb) (hm : behindInMarks op b = false) : PE X (.Compare a [op] [b] pos) (tOp r ta tb) := by
  intro pins s σ H Q I h
  exact wpAny_Compare1 (binT ha hb I h fun v u s2 x y H2 I2 rx ry q => ho pins s2 σ H2 x y v u Q I2 rx ry q) hm

noncomputable def tTest (t : TE) : TT := fun σ H Q => t σ H fun x H' => ∃ k, x = .bl k ∧ Q k H'
theorem pt_cmpR {op : CmpOp} {r : R2} (ho : OpR X (compareOp op) r) (ha : PE X a ta) (hb : PE X b tb) (hm : behindInMarks op b = false) : PT X (.Compare a [op] [b] pos) (tTest (tOp r ta tb)) := by
  intro pins s σ H Q I h
  refine wpAny_isTrue_Compare1 (thn (ha pins s σ H _ I h) fun v s1 ⟨x, H1, I1, r1, q1⟩ => thn (hb pins s1 σ H1 _ I1 q1) fun u s2 ⟨y, H2, I2, r2, q2⟩ =>
    thn (ho pins s2 σ H2 x y v u _ I2 r1 r2 q2) fun c s3 ⟨z, H3, I3, r3, k, e, q3⟩ => ?_) hm
  subst e
  cases r3
  exact wpAny_truthy_bool ⟨H3, I3, q3⟩

noncomputable def tChain (r r' : R2) (ta tb tc : TE) : TE := fun σ H Q => ta σ H fun x H1 => tb σ H1 fun y H2 => r x y H2 fun z H3 => ∃ k, z = .bl k ∧
  (if k = true then tc σ H3 fun w' H4 => r' y w' H4 Q else Q (.bl false) H3)
noncomputable def TruV (K : PySem.W.Frag) (x : V) (H : Hp) (k : Bool) : Prop :=
  match x with
  | .non => k = false
  | .bl b => k = b
  | .int i => k = (i != 0)
  | .str y => y.length ≤ sizeLine ∧ k = ((y.length : Int) != 0)
  | .byt y => y.size ≤ sizeLine ∧ k = ((y.size : Int) != 0)
  | .ref p => (∃ xs, SqL K H p xs ∧ k = !xs.isEmpty) ∨ (∃ xs, SqT K H p xs ∧ k = !xs.isEmpty) ∨ ∃ kvs, H p = some (.dK kvs) ∧ k = !kvs.isEmpty
  | _ => False
theorem line63 : (sizeLine : Nat) < 2 ^ 63 := by rw [sizeLine_eq]; decide
noncomputable def PlainIxT (b : Expr) : Prop := ∀ o i, subscripted b false o i = operate [o, i] (getItem o i)

theorem vals1 {x : V} {us : List Value} (r : Vals [x] us) : ∃ u, us = [u] ∧ RelV x u := by
  cases r with
  | cons r1 r2 => cases r2; exact ⟨_, rfl, r1⟩
theorem vals2 {x y : V} {us : List Value} (r : Vals [x, y] us) : ∃ u w', us = [u, w'] ∧ RelV x u ∧ RelV y w' := by
  cases r with
  | cons r1 r2 =>
    cases r2 with
    | cons r3 r4 => cases r4; exact ⟨_, _, rfl, r1, r3⟩
theorem call_int1 : CallR X (.type "int") (fun xs H Q => (∃ i, xs = [.int i] ∧ Q (.int i) H) ∨ ∃ k, xs = [.bl k] ∧ Q (.int (if k then 1 else 0)) H) := by
  intro pins s σ H xs us Q I r h
  rcases h with ⟨i, rfl, q⟩ | ⟨k, rfl, q⟩
  · obtain ⟨u, rfl, t, rfl⟩ := vals1 r
    exact call_int_int ⟨.int i, H, I, ⟨_, rfl⟩, q⟩
  · obtain ⟨u, rfl, r1⟩ := vals1 r
    cases r1
    exact call_int_bool ⟨.int (if k then 1 else 0), H, I.tok _, ⟨_, rfl⟩, q⟩
noncomputable def LenV (K : PySem.W.Frag) (x : V) (H : Hp) (n : Nat) : Prop :=
  match x with
  | .str y => y.length ≤ sizeLine ∧ n = y.length
  | .byt y => y.size ≤ sizeLine ∧ n = y.size
  | .ref p => (∃ xs, SqL K H p xs ∧ n = xs.length) ∨ ∃ xs, SqT K H p xs ∧ n = xs.length
  | _ => False
end
end L2

namespace L2
open PySem PySem.Spec PyProof.Rows


structure ObjM (h : Heap) (x dx C : Addr) (mA : Str → Option Value) : Prop where
  obj : h.get? x = some (PySem.W.instObj C dx)
  ns : h.Ns1 dx mA
  ne : dx ≠ x

theorem lookIn_ns {h : Heap} {dx : Addr} {mA : Str → Option Value} (n : h.Ns1 dx mA) : ∃ od, h.get? dx = some od ∧ ∀ name, PySem.W.lookIn name od = some (mA name) := by
  obtain ⟨o, es, ep, ho, hd, hk, _, hm⟩ := n
  refine ⟨o, ho, fun name => ?_⟩
  have e := hm name
  unfold nsFind findBy at e
  rw [← Array.find?_toList] at e
  unfold PySem.W.lookIn
  rw [hd]
  dsimp only
  split
  · rename_i y q
    rw [q] at e
    exact congrArg some e
  · rename_i q
    rw [q] at e
    have a : es.toList.any (·.refKey) = false := by
      rw [List.any_eq_false]
      intro y hy
      obtain ⟨z, t, hkey⟩ := hk y (Array.mem_toList_iff.mp hy)
      simp [DictEntry.refKey, hkey]
    have a' : ¬ es.toList.any (·.refKey) = true := by rw [a]; exact Bool.false_ne_true
    rw [if_neg a']
    exact congrArg some e

theorem ObjM.look {h : Heap} {x dx C : Addr} {mA : Str → Option Value} (I : ObjM h x dx C mA) : ∃ od, PySem.W.InstAt h x (PySem.W.instObj C dx) C (some od) ∧ ∀ name, PySem.W.lookIn name od = some (mA name) :=
  let ⟨od, ho, hl⟩ := lookIn_ns I.ns
  ⟨od, ⟨I.obj, rfl, rfl, ho⟩, hl⟩

section
variable {prog : Program} {w : World} {A : Around} {E : Value → Shared → Prop} {s : Shared} {K : PySem.W.Frag} {x dx C f : Addr} {mA : Str → Option Value} {name : Str} {v : Value}

theorem get_map {expr : Bool} {Q : Value → Shared → Prop} (X : K.In s.heap) (I : ObjM s.heap x dx C mA) (hg : PySem.W.plainGet K C name = true) (hh : PySem.W.hasDictIn K C = true)
    (ha : PySem.W.findIn K (.ref C) name = some none) (hv : mA name = some v) (hv' : PySem.W.handedIn v = true) (h : Q v { s with toks := s.toks + 1 }) :
    wpAny (model prog w) A (getAttr (.ref x) name expr) Q E s := by
  obtain ⟨od, J, hl⟩ := I.look
  exact PySem.W.get_value X J (PySem.W.plainGet_of hg).1 (PySem.W.findObj_own hh ha rfl (by rw [hl, hv])) hv' h

theorem get_meth {pl : Sem Bool} {Q : Value × List Value → Shared → Prop} (X : K.In s.heap) (I : ObjM s.heap x dx C mA) (hg : PySem.W.plainGet K C name = true)
    (hf : PySem.W.findIn K (.ref C) name = some (some (.ref f))) (ht : PySem.W.isFn K (.ref f) = true) (hv : mA name = none) (h : Q (.ref f, [.ref x]) s) :
    wpAny (model prog w) A (getMethod (.ref x) name pl) Q E s := by
  obtain ⟨od, J, hl⟩ := I.look
  exact PySem.W.method_fn X J (PySem.W.plainGet_of hg).1 (PySem.W.plainGet_of hg).2 hf (beq_iff_eq.mp ht) (by show (PySem.W.lookIn name od).map (·.isSome) = some false; rw [hl, hv]; rfl) h

theorem set_map {ns : List Str} {Q : Unit → Shared → Prop} (X : K.In s.heap) (I : ObjM s.heap x dx C mA)
    (hs : PySem.W.findIn K (.ref C) "__setattr__" = some (some (.builtin "object.__setattr__"))) (hp : PySem.W.plainOver K C = true) (ht : PySem.W.takerIn K C name = some none) (hh : PySem.W.hasDictIn K C = true)
    (hw : PySem.Within mA ns) (hsz : ns.length ≤ sizeLine)
    (h : ∀ h', ObjM h' x dx C (fun y => if y = name then some v else mA y) → Heap.SameBut dx s.heap h' → Q () { s with heap := h', toks := s.toks + 2 }) :
    wpAny (model prog w) A (setAttr (.ref x) name v) Q E s := by
  obtain ⟨od, J, hl⟩ := I.look
  refine PySem.W.set_plain X J hs (PySem.W.osa_open (s := { s with toks := s.toks + 1 }) (r := none) X J hp ht fun b => ?_)
  obtain ⟨cd, hc, hd'⟩ := PySem.W.any_some hh
  have hx : s.heap.get? x = some ⟨.ref C, some dx, .plain, #[]⟩ := I.obj
  refine wpAny_bind (wpAny_pure (wpAny_bind (wpAny_bind (wpAny_loadPart hx (wpAny_bind (PySem.W.Looks.here (s := { s with toks := s.toks + 1 }) (PySem.W.looks_clsIn X hc) ?_))))))
  rw [hd']
  refine wpAny_pure (a := some dx) (wpAny_bind (wpAny_pure (wpAny_bind ?_)))
  refine wpAny_nsSet1 (s := { s with toks := s.toks + 1 }) I.ns fun h' hn2 hs2 => ?_
  obtain ⟨oD, esD, epD, hoD, hdD, hcD⟩ := hn2.count (PySem.Within.cons name v hw)
  refine wpAny_bind (wpAny_lookBehind hoD (by rw [hdD]; exact pastItsLine_dict (Nat.le_trans hcD (by rw [List.length_cons]; omega))) ?_)
  exact wpAny_pure (h _ ⟨(hs2.2 _ (Ne.symm I.ne)).trans I.obj, hn2, I.ne⟩ hs2)


theorem make_map {R : Result → Shared → Prop} {vs : List Value} {kw : List (Str × Value)} (X : K.In s.heap) (hm : PySem.W.makesIn K C = true)
    (hi : PySem.W.findIn K (.ref C) "__init__" = some (some (.ref f))) (hf : PySem.W.typeIn K (.ref f) = some (.type "function"))
    (h : codeAny (model prog w) (A.under (.builtin "type.__call__" ⟨.ref C :: vs, kw⟩)) (.call (.ref f) ⟨.ref (s.heap.objs.size + 1) :: vs, kw⟩) (PySem.W.InitBack (s.heap.objs.size + 1) R)
      { s with heap := (s.heap.push PySem.W.emptyDict).push (PySem.W.instObj C s.heap.objs.size) }) :
    codeAny (model prog w) A (.call (.ref C) ⟨vs, kw⟩) R s := by
  obtain ⟨hh, g, d, t, os⟩ := s
  exact PySem.W.make_core (PySem.W.makes_of X hm) (PySem.W.looks_findIn X hi) (fun self => PySem.W.bind_fn X self hf) (.inl rfl) h

end


noncomputable def putF (f : Str) (v : V) : List (Str × V) → List (Str × V)
  | [] => [(f, v)]
  | (g, x) :: r => if g = f then (g, v) :: r else (g, x) :: putF f v r
theorem lookup_putF (f g : Str) (v : V) : ∀ fs : List (Str × V), (putF f v fs).lookup g = if g = f then some v else fs.lookup g
  | [] => by
    show List.lookup g [(f, v)] = _
    by_cases h : g = f
    · have hb : (g == f) = true := beq_iff_eq.mpr h
      simp only [List.lookup, hb, if_pos h]
    · have hb : (g == f) = false := beq_eq_false_iff_ne.mpr h
      simp only [List.lookup, hb, if_neg h]
  | (k, x) :: r => by
    have ih := lookup_putF f g v r
    rw [show putF f v ((k, x) :: r) = (if k = f then (k, v) :: r else (k, x) :: putF f v r) from rfl]
    by_cases hk : k = f
    · rw [if_pos hk]
      by_cases h : g = k
      · have hb : (g == k) = true := beq_iff_eq.mpr h
        simp only [List.lookup, hb, if_pos (h.trans hk)]
      · have hb : (g == k) = false := beq_eq_false_iff_ne.mpr h
        simp only [List.lookup, hb, if_neg (fun e : g = f => h (e.trans hk.symm))]
    · rw [if_neg hk]
      by_cases h : g = k
      · have hb : (g == k) = true := beq_iff_eq.mpr h
        simp only [List.lookup, hb, if_neg (fun e : g = f => hk (h.symm.trans e))]
      · have hb : (g == k) = false := beq_eq_false_iff_ne.mpr h
        simp only [List.lookup, hb]
        exact ih
theorem keys_putF (f : Str) (v : V) : ∀ fs : List (Str × V), f ∈ (putF f v fs).map (·.1) ∧ ∀ g, g ∈ fs.map (·.1) → g ∈ (putF f v fs).map (·.1)
  | [] => ⟨by simp [putF], fun g h => by simp at h⟩
  | (k, x) :: r => by
    obtain ⟨i1, i2⟩ := keys_putF f v r
    rw [show putF f v ((k, x) :: r) = (if k = f then (k, v) :: r else (k, x) :: putF f v r) from rfl]
    by_cases hk : k = f
    · rw [if_pos hk]
      subst hk
      exact ⟨by simp, fun g h => by simpa using h⟩
    · rw [if_neg hk]
      refine ⟨?_, fun g h => ?_⟩
      · rw [List.map_cons]
        exact List.mem_cons_of_mem _ i1
      · rw [List.map_cons] at h ⊢
        rcases List.mem_cons.mp h with e | e
        · exact List.mem_cons.mpr (.inl e)
        · exact List.mem_cons_of_mem _ (i2 g e)
theorem length_putF (f : Str) (v : V) : ∀ fs : List (Str × V), (putF f v fs).length ≤ fs.length + 1
  | [] => by simp [putF]
  | (k, x) :: r => by
    have ih := length_putF f v r
    rw [show putF f v ((k, x) :: r) = (if k = f then (k, v) :: r else (k, x) :: putF f v r) from rfl]
    by_cases hk : k = f
    · rw [if_pos hk, List.length_cons, List.length_cons]; omega
    · rw [if_neg hk, List.length_cons, List.length_cons]; omega

theorem RelO.some_of {v : V} {o : Option Value} (r : RelO (some v) o) : ∃ u, o = some u ∧ RelV v u := by
  cases o with
  | none => exact (show False from r).elim
  | some u => exact ⟨u, rfl, r⟩
theorem RelO.none_of {o : Option Value} (r : RelO none o) : o = none := by
  cases o with
  | none => rfl
  | some u => exact (show False from r).elim
theorem handed_of {v : V} {u : Value} (r : RelV v u) : PySem.W.handedIn u = true := by
  cases v with
  | non => cases (show u = Value.none from r); rfl
  | bl b => cases (show u = Value.bool b from r); rfl
  | int i => obtain ⟨t, e⟩ := (show ∃ t, u = Value.int i t from r); cases e; rfl
  | str x => obtain ⟨t, e⟩ := (show ∃ t, u = Value.str x t from r); cases e; rfl
  | byt b => obtain ⟨t, e⟩ := (show ∃ t, u = Value.bytes b t from r); cases e; rfl
  | flt b => obtain ⟨t, e⟩ := (show ∃ t, u = Value.float b t from r); cases e; rfl
  | ref a => cases (show u = Value.ref a from r); rfl
  | ty n => cases (show u = Value.type n from r); rfl

section
variable {P : Program} {w : World} {H H' : Hp} {h h' : Heap} {a C dx : Addr} {fs fs' : List (Str × V)}
theorem ins_get (hok : HOk P w H h) (e : H a = some (.ins C dx fs)) : ∃ mA, ObjM h a dx C mA ∧ (∀ f, RelO (fs.lookup f) (mA f)) ∧ PySem.Within mA (fs.map (·.1)) ∧ fs.length ≤ 1000 ∧ H dx = some (.own a) := by
  obtain ⟨d, z, ne, ob, mA, n, r, q⟩ := (show ObjOk P w H h a (.ins C dx fs) from hok a _ e)
  exact ⟨mA, ⟨ob, n, ne⟩, r, q, z, d⟩
end


structure Cls (K : PySem.W.Frag) (C : Addr) : Prop where
  pg : PySem.W.plainGet K C Str.empty = true
  hd : PySem.W.hasDictIn K C = true
  po : PySem.W.plainOver K C = true
  sa : PySem.W.findIn K (.ref C) "__setattr__" = some (some (.builtin "object.__setattr__"))
theorem Cls.get {K : PySem.W.Frag} {C : Addr} (c : Cls K C) (f : Str) : PySem.W.plainGet K C f = true := c.pg

noncomputable def NoAttr (K : PySem.W.Frag) (C : Addr) (f : Str) : Prop := PySem.W.findIn K (.ref C) f = some none
theorem NoAttr.taker {K : PySem.W.Frag} {C : Addr} {f : Str} (n : NoAttr K C f) : PySem.W.takerIn K C f = some none := by
  unfold PySem.W.takerIn
  rw [show PySem.W.findIn K (.ref C) f = some none from n]
  rfl

structure Con (K : PySem.W.Frag) (C : Addr) (f : Str) (v : V) (u : Value) : Prop where
  at_ : PySem.W.findIn K (.ref C) f = some (some u)
  rel : RelV v u
  get : PySem.W.specialIn K u "__get__" = some none
  cp : PySem.W.copiedNames.contains f = false

structure Meth (K : PySem.W.Frag) (C : Addr) (m : Str) (f : Addr) : Prop where
  at_ : PySem.W.findIn K (.ref C) m = some (some (.ref f))
  fn : PySem.W.isFn K (.ref f) = true
  kp : PySem.W.keepIn K (.ref f) = true

section
variable {X : Cx} {pins : List (Addr × Obj)} {σ : St} {H : Hp} {s : Shared} {a C dx : Addr} {fs : List (Str × V)} {f : Str} {v : V} {A : Around} {E : Value → Shared → Prop}

theorem getattr_ok {b : Bool} {Q : Value → Shared → Prop} (I : Inv X pins σ H s) (e : H a = some (.ins C dx fs)) (c : Cls X.K C) (n : NoAttr X.K C f) (l : fs.lookup f = some v)
    (h : ∀ u s', Inv X pins σ H s' → RelV v u → Q u s') : wpAny (model X.prog X.w) A (getAttr (.ref a) f b) Q E s := by
  obtain ⟨mA, O, r, _, _, _⟩ := ins_get I.hok e
  obtain ⟨u, hu, ru⟩ := RelO.some_of (v := v) (o := mA f) (by rw [← l]; exact r f)
  exact get_map I.kIn O (c.get f) c.hd n hu (handed_of ru) (h u _ (I.tok _) ru)

theorem getmeth_ok {m : Str} {g : Addr} {pl : Sem Bool} {Q : Value × List Value → Shared → Prop} (I : Inv X pins σ H s) (e : H a = some (.ins C dx fs)) (c : Cls X.K C) (k : Meth X.K C m g) (l : fs.lookup m = none)
    (h : Q (.ref g, [.ref a]) s) : wpAny (model X.prog X.w) A (getMethod (.ref a) m pl) Q E s := by
  obtain ⟨mA, O, r, _, _, _⟩ := ins_get I.hok e
  have hn : mA m = none := RelO.none_of (by rw [← l]; exact r m)
  exact get_meth I.kIn O (c.get m) k.at_ k.fn hn h

theorem setattr_ok {y : V} {u : Value} {Q : Unit → Shared → Prop} (I : Inv X pins σ H s) (e : H a = some (.ins C dx fs)) (c : Cls X.K C) (n : NoAttr X.K C f) (hl : fs.length < 1000) (ry : RelV y u)
    (h : ∀ s', Inv X pins σ (upd H a (.ins C dx (putF f y fs))) s' → Q () s') : wpAny (model X.prog X.w) A (setAttr (.ref a) f u) Q E s := by
  obtain ⟨mA, O, r, wi, _, ho⟩ := ins_get I.hok e
  have hz : (fs.map (·.1)).length ≤ sizeLine := by rw [List.length_map, sizeLine_eq]; omega
  refine set_map I.kIn O c.sa c.po n.taker c.hd wi hz fun h' O' sb => h _ ?_
  have hd : ∃ o, h'.get? dx = some o := let ⟨o, _, _, e', _⟩ := O'.ns; ⟨o, e'⟩
  refine I.write (x := a) (e := dx) (by rw [e]; exact True.intro) (.inr ho) (fun b q hb z => (sb.2 b hb).trans z) hd ?_
  refine ⟨by rw [upd_ne O.ne]; exact ho, ?_, O.ne, O'.obj, _, O'.ns, fun g => ?_, fun g hg => ?_⟩
  · have := length_putF f y fs; omega
  · show RelO ((putF f y fs).lookup g) (if g = f then some u else mA g)
    rw [lookup_putF]
    by_cases q : g = f
    · rw [if_pos q, if_pos q]; exact ry
    · rw [if_neg q, if_neg q]; exact r g
  · by_cases q : g = f
    · rw [q]; exact (keys_putF f y fs).1
    · refine (keys_putF f y fs).2 g (wi g fun z => hg ?_)
      show (if g = f then some u else mA g) = none
      rw [if_neg q]; exact z


theorem Inv.made (I : Inv X pins σ H s) : Inv X pins σ (upd (upd H s.heap.objs.size (.own (s.heap.objs.size + 1))) (s.heap.objs.size + 1) (.ins C s.heap.objs.size []))
    { s with heap := (s.heap.push PySem.W.emptyDict).push (PySem.W.instObj C s.heap.objs.size) } := by
  have e1 : (s.heap.push PySem.W.emptyDict).get? s.heap.objs.size = some PySem.W.emptyDict := Heap.get?_push_size s.heap rfl
  have e2 : ((s.heap.push PySem.W.emptyDict).push (PySem.W.instObj C s.heap.objs.size)).get? (s.heap.objs.size + 1) = some (PySem.W.instObj C s.heap.objs.size) := by
    have := Heap.get?_push_size (s.heap.push PySem.W.emptyDict) (o := PySem.W.instObj C s.heap.objs.size) rfl
    rwa [Heap.size_push] at this
  have e3 : (s.heap.push PySem.W.emptyDict).Ns s.heap.objs.size (fun _ => none) := ⟨PySem.W.emptyDict, #[], _, e1, rfl, (fun e he => absurd he (by simp)), fun _ => rfl⟩
  have I1 := I.laid (a := s.heap.objs.size) (o := .own (s.heap.objs.size + 1)) (h' := s.heap.push PySem.W.emptyDict) (t' := s.toks) (fun b u q => Heap.get?_push_of_some _ q) (Nat.le_refl _) ⟨_, e1⟩
  refine I1.laid (a := s.heap.objs.size + 1) (o := .ins C s.heap.objs.size []) (t' := s.toks) (fun b u q => Heap.get?_push_of_some _ q) (Nat.le_of_eq (Heap.size_push _ _)) ?_
  have ne : s.heap.objs.size ≠ s.heap.objs.size + 1 := Nat.ne_of_lt (Nat.lt_succ_self _)
  refine ⟨by rw [upd_ne ne, upd_same], Nat.zero_le _, ne, e2, fun _ => none, (Heap.Ns1.of_empty e3).at fun o q => Heap.get?_push_of_some _ q, fun _ => True.intro, fun y hy => absurd rfl hy⟩


theorem attr_of {prog : Program} {w : World} {env : Env} {e : Expr} {f : Str} {pos : Pos} {s : Shared} {Q : Value → Shared → Prop} (hb : attributeBase e f env (eval e env) = eval e env)
    (h : wpAny (model prog w) A (eval e env) (fun o s₁ => wpAny (model prog w) A (getAttr o f true) Q E s₁) E s) : wpAny (model prog w) A (eval (.Attribute e f pos) env) Q E s :=
  Attribute_any_ h (by rw [arm_eval_Attribute, hb])
end



noncomputable def tFld (K : PySem.W.Frag) (ta : TE) (f : Str) : TE := fun σ H Q => ta σ H fun x H1 => ∃ a C dx fs v, x = .ref a ∧ H1 a = some (.ins C dx fs) ∧ Cls K C ∧ NoAttr K C f ∧ fs.lookup f = some v ∧ Q v H1

noncomputable def tCon (K : PySem.W.Frag) (ta : TE) (f : Str) : TE := fun σ H Q => ta σ H fun x H1 => ∃ a C dx fs v u, x = .ref a ∧ H1 a = some (.ins C dx fs) ∧ Cls K C ∧ Con K C f v u ∧ fs.lookup f = none ∧ Q v H1

noncomputable def sFld (K : PySem.W.Frag) (ta tv : TE) (f : Str) : TS := fun D σ H => tv σ H fun y H1 => ta σ H1 fun x H2 => ∃ a C dx fs, x = .ref a ∧ H2 a = some (.ins C dx fs) ∧ Cls K C ∧ NoAttr K C f ∧ fs.length < 1000 ∧
  D.nx σ (upd H2 a (.ins C dx (putF f y fs)))

noncomputable def InOp (X : Cx) (op : Operator) (rd : V → V → Hp → VK → Prop) : Prop :=
  ∀ (pins : List (Addr × Obj)) (s : Shared) (σ : St) (H : Hp) (x y : V) (u v : Value) (Q : VK), Inv X pins σ H s → RelV x u → RelV y v → rd x y H Q → wpAny (model X.prog X.w) X.A (inplaceOp op u v) (EP X pins σ Q) X.xe s

noncomputable def sFldAug (K : PySem.W.Frag) (ta tv : TE) (rd : V → V → Hp → VK → Prop) (f : Str) : TS := fun D σ H => ta σ H fun x H1 => ∃ a C dx fs v, x = .ref a ∧ H1 a = some (.ins C dx fs) ∧ Cls K C ∧ NoAttr K C f ∧ fs.lookup f = some v ∧
  tv σ H1 fun y H2 => rd v y H2 fun z H3 => ∃ dx' fs', H3 a = some (.ins C dx' fs') ∧ fs'.length < 1000 ∧ D.nx σ (upd H3 a (.ins C dx' (putF f z fs')))

section
variable {X : Cx} {o e value : Expr} {f : Str} {pos pos' tpos : Pos} {ta tv : TE}
theorem pe_fld (he : PE X e ta) (hb : attributeBase e f X.env (eval e X.env) = eval e X.env) : PE X (.Attribute e f pos) (tFld X.K ta f) := by
  intro pins s σ H Q I h
  refine attr_of hb (thn (he pins s σ H _ I h) fun u s1 ⟨x, H1, I1, rx, a, C, dx, fs, v, ex, ea, c, n, l, q⟩ => ?_)
  subst ex
  obtain rfl : u = Value.ref a := rx
  exact getattr_ok I1 ea c n l fun u' s2 I2 ru => ⟨v, H1, I2, ru, q⟩
theorem ps_fld (ha : PE X o ta) (hv : PE X value tv) (hs : swapsWith value (some (.Attribute o f pos')) pos.line X.env = pure false) : PS X (.Assign [.Attribute o f pos'] value pos) (sFld X.K ta tv f) := by
  intro pins s σ H D I h
  refine plainObj_wpAny_Assign_Attribute (thn (hv pins s σ H _ I h) fun u s1 ⟨y, H1, I1, ry, q⟩ => thn (ha pins s1 σ H1 _ I1 q) fun ov s2 ⟨x, H2, I2, rx, a, C, dx, fs, ex, ea, c, n, l, q2⟩ => ?_) hs
  subst ex
  obtain rfl : ov = Value.ref a := rx
  exact setattr_ok I2 ea c n l ry fun s3 I3 => ⟨σ, _, I3, q2⟩
noncomputable def rAdd : V → V → Hp → VK → Prop := fun x y H Q => ∃ i j, x = .int i ∧ y = .int j ∧ Q (.int (i + j)) H
noncomputable def rSub : V → V → Hp → VK → Prop := fun x y H Q => ∃ i j, x = .int i ∧ y = .int j ∧ Q (.int (i - j)) H
theorem methcall_of {pl : Sem Bool} {m : Str} {apos : Pos} {args : List Expr} {pins : List (Addr × Obj)} {s : Shared} {σ : St} {H : Hp} {Q : Value → Shared → Prop} {te : TE} (he : PE X e te) (I : Inv X pins σ H s)
    (h : te σ H fun x H1 => ∃ a C dx fs g, x = .ref a ∧ H1 a = some (.ins C dx fs) ∧ Cls X.K C ∧ Meth X.K C m g ∧ fs.lookup m = none ∧
      ∀ s1, Inv X pins σ H1 s1 → wpAny (model X.prog X.w) X.A (callWith pos (.ref g) [.ref a] (backTo pos (starEach args X.env)) (backToKw pos (keywordEach [] X.env))) Q X.xe s1)
    (ht : eval (.Call (.Attribute e m apos) args [] pos) X.env = (do
      let ov ← eval e X.env
      standAt apos.atName
      let (f, first) ← holding [ov] (getMethod ov m pl)
      callWith pos f first (backTo pos (starEach args X.env)) (backToKw pos (keywordEach [] X.env)))) :
    wpAny (model X.prog X.w) X.A (eval (.Call (.Attribute e m apos) args [] pos) X.env) Q X.xe s := by
  refine PySem.W.methodCall_KW (pl := pl) (thn (he pins s σ H _ I h) fun u s1 ⟨x, H1, I1, rx, a, C, dx, fs, g, ex, ea, c, k, l, q⟩ => ?_) ht
  subst ex
  obtain rfl : u = Value.ref a := rx
  exact getmeth_ok I1 ea c k l (q s1 I1)
end


section
variable {X : Cx} {pins : List (Addr × Obj)} {σ : St} {H : Hp} {s : Shared} {A : Around} {E : Value → Shared → Prop} {Q : Value → Shared → Prop} {c : Value} {b : Bool}

inductive TyOf (K : PySem.W.Frag) (H : Hp) : V → Value → Prop where
  | non : TyOf K H .non (.type "NoneType")
  | bl (x : Bool) : TyOf K H (.bl x) (.type "bool")
  | int (i : Int) : TyOf K H (.int i) (.type "int")
  | str (x : Str) : TyOf K H (.str x) (.type "str")
  | flt (x : UInt64) : TyOf K H (.flt x) (.type "float")
  | lst {a : Addr} {xs : List V} (e : H a = some (.lst xs)) : TyOf K H (.ref a) (.type "list")
  | frz {a : Addr} {o : Obj} {xs : List V} (e : H a = some (.frz o (.lst xs))) : TyOf K H (.ref a) (.type "list")
  | tup {a : Addr} {xs : List V} (e : H a = some (.tup xs)) : TyOf K H (.ref a) (.type "tuple")
  | dK {a : Addr} {kvs : List (Key × V)} (e : H a = some (.dK kvs)) : TyOf K H (.ref a) (.type "dict")
  | dT {a : Addr} {kvs : List (List Key × V)} (e : H a = some (.dT kvs)) : TyOf K H (.ref a) (.type "dict")
  | ins {a C dx : Addr} {fs : List (Str × V)} (e : H a = some (.ins C dx fs)) (cl : Cls K C) (ha : PySem.W.findIn K (.ref C) "__class__" = some (some (.builtin "object.__class__")))
      (hn : PySem.W.specialIn K (.builtin "object.__class__") "__get__" = some (some (.builtin "getset_descriptor.__get__"))) (htk : PySem.W.takesIn K (.builtin "object.__class__") = some true)
      (hm : PySem.W.mroIn K C (.type "object") = some true) : TyOf K H (.ref a) (.ref C)

theorem isinst_ok {x : V} {u t : Value} (I : Inv X pins σ H s) (rx : RelV x u) (ty : TyOf X.K H x t) (e : PySem.W.kitOne X.K t c = some b) (h : ∀ tk, Q (.bool b) { s with toks := tk }) :
    wpAny (model X.prog X.w) A (call (.builtin "isinstance") [u, c]) Q E s := by
  cases ty with
  | non => cases (show u = Value.none from rx); exact PySem.W.kia_one PySem.W.kitx_none I.kIn True.intro e (fun z => nomatch z) h
  | bl y => cases (show u = Value.bool y from rx); exact PySem.W.kia_one PySem.W.kitx_bool I.kIn True.intro e (fun z => nomatch z) h
  | int i => obtain ⟨t, q⟩ := (show ∃ t, u = Value.int i t from rx); cases q; exact PySem.W.kia_one PySem.W.kitx_int I.kIn True.intro e (fun z => nomatch z) h
  | str y => obtain ⟨t, q⟩ := (show ∃ t, u = Value.str y t from rx); cases q; exact PySem.W.kia_one PySem.W.kitx_str I.kIn True.intro e (fun z => nomatch z) h
  | flt y => obtain ⟨t, q⟩ := (show ∃ t, u = Value.float y t from rx); cases q; exact PySem.W.kia_one PySem.W.kitx_float I.kIn True.intro e (fun z => nomatch z) h
  | @lst a xs ea =>
    cases (show u = Value.ref a from rx)
    obtain ⟨_, _, n, _, h1⟩ := (show ObjOk X.prog X.w H s.heap a (.lst xs) from I.hok a _ ea)
    exact PySem.W.kia_one PySem.W.kitx_list I.kIn ⟨_, h1, rfl⟩ e (fun z => nomatch z) h
  | @frz a ob xs ea =>
    cases (show u = Value.ref a from rx)
    obtain ⟨_, _, _, n, _, h1⟩ := (show ObjOk X.prog X.w H s.heap a (.frz ob (.lst xs)) from I.hok a _ ea)
    exact PySem.W.kia_one PySem.W.kitx_list I.kIn ⟨_, h1, rfl⟩ e (fun z => nomatch z) h
  | @tup a xs ea =>
    cases (show u = Value.ref a from rx)
    obtain ⟨_, _, _, p⟩ := (show ObjOk X.prog X.w H s.heap a (.tup xs) from I.hok a _ ea)
    obtain ⟨o, h1, h2, _⟩ := p
    exact PySem.W.kia_one PySem.W.kitx_tuple I.kIn ⟨o, h1, h2⟩ e (fun z => nomatch z) h
  | @dK a kvs ea =>
    cases (show u = Value.ref a from rx)
    obtain ⟨_, _, vs, _, p⟩ := (show ObjOk X.prog X.w H s.heap a (.dK kvs) from I.hok a _ ea)
    obtain ⟨o, es, ep, h1, h2, _⟩ := p
    exact PySem.W.kia_one PySem.W.kitx_dict I.kIn ⟨o, h1, h2.1⟩ e (fun z => nomatch z) h
  | @dT a kvs ea =>
    cases (show u = Value.ref a from rx)
    obtain ⟨_, _, xs, _, o, es, ep, h1, h2, _⟩ := (show ObjOk X.prog X.w H s.heap a (.dT kvs) from I.hok a _ ea)
    exact PySem.W.kia_one PySem.W.kitx_dict I.kIn ⟨o, h1, h2.1⟩ e (fun z => nomatch z) h
  | @ins a C dx fs ea cl ha hn htk hm =>
    cases (show u = Value.ref a from rx)
    obtain ⟨mA, O, _⟩ := ins_get I.hok ea
    obtain ⟨od, J, _⟩ := O.look
    exact PySem.W.kia_one (PySem.W.kitx_own (cl.get _) cl.hd ha hn htk hm) I.kIn J e (fun z => nomatch z) h
end
end L2

namespace L2
open PySem PySem.Spec PyProof.Rows


structure Room (k : Nat) (A : Around) : Prop where
  hd : A.handled = none
  dp : A.depth + 3 * k + 5 < recursionLimit
  un : A.units + 16 * k + 200 < cLine
theorem Room.mono {j k : Nat} {A : Around} (r : Room k A) (h : j ≤ k) : Room j A := ⟨r.hd, by have := r.dp; omega, by have := r.un; omega⟩
theorem Room.deeper {k : Nat} {A : Around} (r : Room (k + 1) A) (env : Env) : Room k (A.deeper env) :=
  ⟨r.hd, by have := r.dp; show A.depth + 1 + 3 * k + 5 < _; omega, by have := r.un; show A.units + 3 + 16 * k + 200 < _; omega⟩
theorem make_depth {A : Around} {C : Addr} {us : List Value} {kw : List (Str × Value)} : (A.under (.builtin "type.__call__" ⟨.ref C :: us, kw⟩)).depth = A.depth + 1 := by
  first | rfl | simp [Around.under, Code.weight, Code.isCreation, Code.isGuard, Code.isCaller, Code.frames, Code.isFrame, guardIds]
theorem make_units {A : Around} {C : Addr} {us : List Value} {kw : List (Str × Value)} : (A.under (.builtin "type.__call__" ⟨.ref C :: us, kw⟩)).units = A.units + 1 := by
  first | rfl | simp [Around.under, Code.cUnits, Code.frames, Code.isFrame]
theorem Room.make {k : Nat} {A : Around} (r : Room (k + 1) A) (C : Addr) (us : List Value) (kw : List (Str × Value)) : Room k (A.under (.builtin "type.__call__" ⟨.ref C :: us, kw⟩)) :=
  ⟨r.hd, by have := r.dp; rw [make_depth]; omega, by have := r.un; rw [make_units]; omega⟩
theorem Room.depth {k : Nat} {A : Around} (r : Room k A) : A.depth < recursionLimit := by have := r.dp; omega
theorem Room.units {k : Nat} {A : Around} (r : Room k A) : A.units + 64 < cLine := by have := r.un; omega
noncomputable def tNil : TA := fun _ H Q => Q [] H
noncomputable def tCons (ta : TE) (tr : TA) : TA := fun σ H Q => ta σ H fun x H1 => tr σ H1 fun xs H2 => Q (x :: xs) H2
section
variable {X : Cx} {e : Expr} {es : List Expr} {te : TE} {t : TA} {pos : Pos}
theorem pa_nil : PA X [] tNil := fun _ _ _ _ H Q I h => Calls.spliced_nil ⟨[], H, I, .nil, h⟩
theorem pa_cons (ha : PE X e te) (hr : PA X es t) (hs : starEach (e :: es) X.env = (false, eval e X.env) :: starEach es X.env := by exact starEach_cons rfl) : PA X (e :: es) (tCons te t) := by
  intro pos pins s σ H Q I h
  rw [hs]
  show wpAny _ _ (spliced ((false, eval e X.env) :: backTo pos (starEach es X.env))) _ _ s
  refine Calls.spliced_cons (thn (ha pins s σ H _ I h) fun u s1 ⟨x, H1, I1, r1, q1⟩ => ?_)
  exact thn (hr pos pins s1 σ H1 _ I1 q1) fun us s2 ⟨xs, H2, I2, r2, q2⟩ => ⟨x :: xs, H2, I2, .cons r1 r2, q2⟩


noncomputable def tTup (t : TA) : TE := fun σ H Q => t σ H fun xs H1 => xs.length ≤ sizeLine ∧ ∀ p, H1 p = none → Q (.ref p) (upd H1 p (.tup xs))
noncomputable def tLst (t : TA) : TE := fun σ H Q => t σ H fun xs H1 => xs.length ≤ sizeLine ∧ ∀ p, H1 p = none → Q (.ref p) (upd H1 p (.lst xs))
end



noncomputable abbrev Sp := List V → Hp → VK → XK → Prop

noncomputable abbrev CXT := List Env → Hp → Shared → XK → Value → Shared → Prop


structure Env0 (P : Program) (w : World) (K : PySem.W.Frag) (mg : Str → Option Value) (base : Heap) (A : Around) (outer : List Env) (s : Shared) (H : Hp) : Prop where
  frames : A.frames = some outer
  mod : Mod K mg base
  bs : ∀ b o, base.get? b = some o → s.heap.get? b = some o ∧ H b = none
  bsz : base.objs.size ≤ s.heap.objs.size
  funs : s.heap.FunFrames base outer
  frf : ∀ b ∈ frs outer, H b = none
  hok : HOk P w H s.heap
  bare : AllBare s.gens

noncomputable def CE (outer : List Env) (P : Program) (w : World) (H : Hp) (s : Shared) (Q : VK) (u : Value) (s' : Shared) : Prop :=
  ∃ v H', s'.os = s.os ∧ AllBare s'.gens ∧ Un (frs outer) [] H H' s.heap s'.heap ∧ HOk P w H' s'.heap ∧ RelV v u ∧ Q v H'
noncomputable def CR (CX : CXT) (outer : List Env) (P : Program) (w : World) (H : Hp) (s : Shared) (Q : VK) (E : XK) (r : Result) (s' : Shared) : Prop :=
  match r with
  | .ok (.ret u) => CE outer P w H s Q u s'
  | .ok _ => False
  | .error e => CX outer H s E e s'
structure FnOk (P : Program) (w : World) (K : PySem.W.Frag) (mg : Str → Option Value) (base : Heap) (CX : CXT) (k : Nat) (f : Addr) (fd : FuncData) (ps : List Str) (sp : Sp) : Prop where
  len : ∀ vs H Q E, sp vs H Q E → vs.length = ps.length
  run : ∀ (A : Around) (outer : List Env) (s : Shared) (H : Hp) (args : Args) (us : List Value) (vs : List V) (Q : VK) (E : XK), Room k A → Env0 P w K mg base A outer s H → BindsTo s fd args (ps.zip us) → Vals vs us → sp vs H Q E →
    codeAny (model P w) A (.call (.ref f) args) (CR CX outer P w H s Q E) s
theorem FnOk.mono {P : Program} {w : World} {K : PySem.W.Frag} {mg : Str → Option Value} {base : Heap} {CX : CXT} {j k : Nat} {f : Addr} {fd : FuncData} {ps : List Str} {sp : Sp} (F : FnOk P w K mg base CX j f fd ps sp) (h : j ≤ k) :
    FnOk P w K mg base CX k f fd ps sp := ⟨F.len, fun A outer s H args us vs Q E hr => F.run A outer s H args us vs Q E (hr.mono h)⟩

theorem Env0.make {P : Program} {w : World} {K : PySem.W.Frag} {mg : Str → Option Value} {base : Heap} {A : Around} {outer : List Env} {s : Shared} {H : Hp} (e : Env0 P w K mg base A outer s H) (C : Addr) (us : List Value) (kw : List (Str × Value)) :
    Env0 P w K mg base (A.under (.builtin "type.__call__" ⟨.ref C :: us, kw⟩)) outer s H := ⟨by first | exact e.frames | (simpa [Around.under, Code.envs, Code.isFrame, pushEnvs] using e.frames), e.mod, e.bs, e.bsz, e.funs, e.frf, e.hok, e.bare⟩
section
variable {X : Cx} {pins : List (Addr × Obj)} {σ : St} {H : Hp} {s s' : Shared}

theorem Inv.env0 (I : Inv X pins σ H s) : Env0 X.prog X.w X.K X.mg X.base X.A X.stack s H :=
  ⟨I.ok.frames, I.ok.mod, I.bs, Nat.le_trans I.ok.bsz I.sz, I.stack, I.stkFree, I.hok, I.bare⟩

theorem Inv.after {Q : VK} {u : Value} (I : Inv X pins σ H s) (h : CE X.stack X.prog X.w H s Q u s') : EP X pins σ Q u s' := by
  obtain ⟨v, H', os, bare, un, hok, r, q⟩ := h
  obtain ⟨hh, g, d, t, os'⟩ := s'
  obtain rfl : os' = s.os := os
  exact ⟨v, H', I.call (h' := hh) (g' := g) (d' := d) (t' := t) (ch := []) un hok bare (fun b z => absurd z (by simp)), r, q⟩
end



noncomputable def tCall (sp : Sp) (dvs : List V) (E : XK) (t : TA) : TE := fun σ H Q => t σ H fun vs H1 => sp (vs ++ dvs) H1 Q E

noncomputable def tMeth (C : Addr) (m : Str) (sp : Sp) (dvs : List V) (E : XK) (ta : TE) (t : TA) : TE := fun σ H Q => ta σ H fun x H1 => ∃ a dx fs, x = .ref a ∧ H1 a = some (.ins C dx fs) ∧ fs.lookup m = none ∧
  t σ H1 fun vs H2 => sp (x :: (vs ++ dvs)) H2 Q E

noncomputable def tMake (C : Addr) (sp : Sp) (dvs : List V) (E : XK) (t : TA) : TE := fun σ H Q => t σ H fun vs H1 => ∀ x dx, H1 x = none → H1 dx = none → dx ≠ x →
  sp (.ref x :: (vs ++ dvs)) (upd (upd H1 dx (.own x)) x (.ins C dx [])) (fun v H2 => v = .non ∧ Q (.ref x) H2) E


noncomputable def Binds (K : PySem.W.Frag) (fd : FuncData) (ps : List Str) (ds : List Value) : Prop :=
  ∀ (s : Shared) (us : List Value), K.In s.heap → (us ++ ds).length = ps.length → BindsTo s fd ⟨us, []⟩ (ps.zip (us ++ ds))

theorem Binds.all {K : PySem.W.Frag} {fd : FuncData} {ps : List Str} (h : ∀ us : List Value, us.length = ps.length → bindArgs fd ⟨us, []⟩ = pure (ps.zip us)) : Binds K fd ps [] := fun s us _ hl => by
  rw [List.append_nil] at hl ⊢
  exact .of_eq (h us hl)


noncomputable def Passes (CX : CXT) (X : Cx) (E : XK) : Prop := ∀ (pins : List (Addr × Obj)) (σ : St) (H : Hp) (s : Shared) (e : Value) (s' : Shared), Inv X pins σ H s → CX X.stack H s E e s' → X.xe e s'

section
variable {X : Cx} {CX : CXT} {k : Nat} {f C : Addr} {fd : FuncData} {ps : List Str} {sp : Sp} {dvs : List V} {ds : List Value} {E : XK} {x m : Str} {p pos apos : Pos} {e o : Expr} {es : List Expr} {ta : TE} {t : TA}


theorem run_fn {pins : List (Addr × Obj)} {σ : St} {H : Hp} {s : Shared} {Q : VK} {us : List Value} {vs : List V} (F : FnOk X.prog X.w X.K X.mg X.base CX k f fd ps sp) (hr : Room k X.A) (hb : Binds X.K fd ps ds) (hd : Vals dvs ds) (hx : Passes CX X E)
    (I : Inv X pins σ H s) (r : Vals vs us) (h : sp (vs ++ dvs) H Q E) : wpAny (model X.prog X.w) X.A (call (.ref f) us) (EP X pins σ Q) X.xe s := by
  have r2 : Vals (vs ++ dvs) (us ++ ds) := r.append hd
  have hl : (us ++ ds).length = ps.length := by rw [← r2.length]; exact F.len _ _ _ _ h
  refine wpAny_call (codeAny_mono (F.run X.A X.stack s H ⟨us, []⟩ (us ++ ds) (vs ++ dvs) Q E hr I.env0 (hb s us I.kIn hl) r2 h) fun r s' hq => ?_)
  cases r with
  | error e => exact hx pins σ H s e s' I hq
  | ok fl =>
    cases fl with
    | ret u => exact I.after hq
    | next => exact False.elim hq
    | brk => exact False.elim hq
    | cont => exact False.elim hq

theorem pe_call (F : FnOk X.prog X.w X.K X.mg X.base CX k f fd ps sp) (hr : Room k X.A) (hg : Gl X x) (hm : X.mg x = some (.ref f)) (hk : PySem.W.keepIn X.K (.ref f) = true) (hb : Binds X.K fd ps ds) (hd : Vals dvs ds) (hx : Passes CX X E)
    (ha : PA X (e :: es) t) (hdb : (x == ("__debug__" : Str)) = false := by decide) (he : starEach (e :: es) X.env = (false, eval e X.env) :: starEach es X.env := by exact starEach_cons rfl) (hpl : (backTo pos (starEach es X.env)).any (·.1) = false := by exact noStars rfl) :
    PE X (.Call (.Name x p) (e :: es) [] pos) (tCall sp dvs E t) := by
  intro pins s σ H Q I h
  refine wpAny_Call_Name_kw (ld_glob I hg hm ?_ hdb)
  refine PySem.W.callWith_K (h₀ := X.base) I.ok.mod.kin hk (thn (ha pos pins s σ H _ I h) fun us s1 ⟨vs, H1, I1, r, q⟩ => ⟨I1.kIn, ?_⟩) he hpl
  exact run_fn F hr hb hd hx I1 r q
theorem pe_meth {pl : Sem Bool} (he : PE X o ta) (c : Cls X.K C) (hm : Meth X.K C m f) (F : FnOk X.prog X.w X.K X.mg X.base CX k f fd ps sp) (hr : Room k X.A) (hb : Binds X.K fd ps ds) (hd : Vals dvs ds) (hx : Passes CX X E) (ha : PA X (e :: es) t)
    (hst : starEach (e :: es) X.env = (false, eval e X.env) :: starEach es X.env := by exact starEach_cons rfl) (hpl : (backTo pos (starEach es X.env)).any (·.1) = false := by exact noStars rfl)
    (ht : eval (.Call (.Attribute o m apos) (e :: es) [] pos) X.env = (do
      let ov ← eval o X.env
      standAt apos.atName
      let (f, first) ← holding [ov] (getMethod ov m pl)
      callWith pos f first (backTo pos (starEach (e :: es) X.env)) (backToKw pos (keywordEach [] X.env))) := by rfl) :
    PE X (.Call (.Attribute o m apos) (e :: es) [] pos) (tMeth C m sp dvs E ta t) := by
  intro pins s σ H Q I h
  refine PySem.W.methodCall_KW (pl := pl) (thn (he pins s σ H _ I h) fun u s1 ⟨x, H1, I1, rx, a, dx, fs, ex, ea, l, q⟩ => ?_) ht
  subst ex
  obtain rfl : u = Value.ref a := rx
  refine getmeth_ok I1 ea c hm l ?_
  refine PySem.W.callWith_K (first := [.ref a]) (h₀ := X.base) I.ok.mod.kin hm.kp (thn (ha pos pins s1 σ H1 _ I1 q) fun us s2 ⟨vs, H2, I2, r, q2⟩ => ⟨I2.kIn, ?_⟩) hst hpl
  exact run_fn (us := .ref a :: us) (vs := .ref a :: vs) F hr hb hd hx I2 (.cons rfl r) q2

theorem pe_meth0 {pl : Sem Bool} (he : PE X o ta) (c : Cls X.K C) (hm : Meth X.K C m f) (F : FnOk X.prog X.w X.K X.mg X.base CX k f fd ps sp) (hr : Room k X.A) (hb : Binds X.K fd ps ds) (hd : Vals dvs ds) (hx : Passes CX X E)
    (ht : eval (.Call (.Attribute o m apos) [] [] pos) X.env = (do
      let ov ← eval o X.env
      standAt apos.atName
      let (f, first) ← holding [ov] (getMethod ov m pl)
      callWith pos f first (backTo pos (starEach [] X.env)) (backToKw pos (keywordEach [] X.env))) := by rfl) :
    PE X (.Call (.Attribute o m apos) [] [] pos) (tMeth C m sp dvs E ta tNil) := by
  intro pins s σ H Q I h
  refine PySem.W.methodCall_KW (pl := pl) (thn (he pins s σ H _ I h) fun u s1 ⟨x, H1, I1, rx, a, dx, fs, ex, ea, l, q⟩ => ?_) ht
  subst ex
  obtain rfl : u = Value.ref a := rx
  refine getmeth_ok I1 ea c hm l ?_
  exact PySem.W.callWith_K0 (first := [.ref a]) I1.kIn hm.kp (run_fn (us := [.ref a]) (vs := [.ref a]) F hr hb hd hx I1 (.cons rfl .nil) q)


structure Mk (K : PySem.W.Frag) (C f : Addr) : Prop where
  makes : PySem.W.makesIn K C = true
  init : PySem.W.findIn K (.ref C) "__init__" = some (some (.ref f))
  fn : PySem.W.isFn K (.ref f) = true
  kp : PySem.W.keepIn K (.ref C) = true

theorem run_make {pins : List (Addr × Obj)} {σ : St} {H : Hp} {s : Shared} {Q : VK} {us : List Value} {vs : List V} (M : Mk X.K C f) (F : FnOk X.prog X.w X.K X.mg X.base CX k f fd ps sp) (hr : Room (k + 1) X.A) (hb : Binds X.K fd ps ds) (hd : Vals dvs ds)
    (hx : Passes CX X E) (I : Inv X pins σ H s) (r : Vals vs us)
    (h : ∀ x dx, H x = none → H dx = none → dx ≠ x → sp (.ref x :: (vs ++ dvs)) (upd (upd H dx (.own x)) x (.ins C dx [])) (fun v H2 => v = .non ∧ Q (.ref x) H2) E) :
    wpAny (model X.prog X.w) X.A (call (.ref C) us) (EP X pins σ Q) X.xe s := by
  have hq := h (s.heap.objs.size + 1) s.heap.objs.size (I.hok.fresh (Nat.le_succ _)) (I.hok.fresh (Nat.le_refl _)) (Nat.ne_of_lt (Nat.lt_succ_self _))
  have I2 := Inv.made (C := C) I
  have r2 : Vals (V.ref (s.heap.objs.size + 1) :: (vs ++ dvs)) (Value.ref (s.heap.objs.size + 1) :: (us ++ ds)) := .cons rfl (r.append hd)
  have hl : (Value.ref (s.heap.objs.size + 1) :: us ++ ds).length = ps.length := by
    have e := r2.length
    rw [F.len _ _ _ _ hq] at e
    exact e.symm
  refine wpAny_call (make_map (f := f) I.kIn M.makes M.init (beq_iff_eq.mp M.fn) (codeAny_mono (F.run _ X.stack _ _ ⟨Value.ref (s.heap.objs.size + 1) :: us, []⟩ (Value.ref (s.heap.objs.size + 1) :: (us ++ ds)) _ _ E (hr.make C us [])
    (I2.env0.make C us []) (hb _ (Value.ref (s.heap.objs.size + 1) :: us) I2.kIn hl) r2 hq) fun r s' hq' => ?_))
  cases r with
  | error e => exact hx pins σ _ _ e s' I2 hq'
  | ok fl =>
    cases fl with
    | ret u =>
      obtain ⟨v, H', I3, rv, ev, q3⟩ := I2.after hq'
      subst ev
      exact ⟨rv, ⟨V.ref (s.heap.objs.size + 1), H', I3, rfl, q3⟩⟩
    | next => exact False.elim hq'
    | brk => exact False.elim hq'
    | cont => exact False.elim hq'
theorem pe_make0 (M : Mk X.K C f) (F : FnOk X.prog X.w X.K X.mg X.base CX k f fd ps sp) (hr : Room (k + 1) X.A) (hg : Gl X x) (hm : X.mg x = some (.ref C)) (hb : Binds X.K fd ps ds) (hd : Vals dvs ds) (hx : Passes CX X E)
    (hdb : (x == ("__debug__" : Str)) = false := by decide) : PE X (.Call (.Name x p) [] [] pos) (tMake C sp dvs E tNil) := by
  intro pins s σ H Q I h
  refine wpAny_Call_Name_kw (ld_glob I hg hm ?_ hdb)
  exact PySem.W.callWith_K0 I.kIn M.kp (run_make (us := []) M F hr hb hd hx I .nil h)
end



noncomputable def PK (X : Cx) (kws : List Keyword) (t : TA) : Prop :=
  ∀ (pos : Pos) (pins : List (Addr × Obj)) (s : Shared) (σ : St) (H : Hp) (Q : List V → Hp → Prop), Inv X pins σ H s → t σ H Q → wpAny (model X.prog X.w) X.A (evalAll ((backToKw pos (keywordEach kws X.env)).map (·.2))) (AP X pins σ Q) X.xe s
section
variable {X : Cx} {CX : CXT} {k : Nat} {f C : Addr} {fd : FuncData} {ps ks : List Str} {sp : Sp} {E : XK} {x m : Str} {p pos apos kpos : Pos} {e o : Expr} {es : List Expr} {kws : List Keyword} {te ta : TE} {t tk : TA} {nm : Option Str}
structure KBinds (K : PySem.W.Frag) (fd : FuncData) (ps ks : List Str) (g : List Value → List Value → List Value) (gV : List V → List V → List V) : Prop where
  to : ∀ (s : Shared) (us ws : List Value), K.In s.heap → (g us ws).length = ps.length → BindsTo s fd ⟨us, ks.zip ws⟩ (ps.zip (g us ws))
  rel : ∀ {vs : List V} {us : List Value} {zs : List V} {ws : List Value}, Vals vs us → Vals zs ws → Vals (gV vs zs) (g us ws)
noncomputable def tCallK (sp : Sp) (gV : List V → List V → List V) (E : XK) (t tk : TA) : TE := fun σ H Q => t σ H fun vs H1 => tk σ H1 fun zs H2 => sp (gV vs zs) H2 Q E
variable {g : List Value → List Value → List Value} {gV : List V → List V → List V}
end



structure FnScope (N P : List Str) (sc : Scope) : Prop where
  kind : sc.kind = .function
  co : sc.isCoroutine = false
  gen : sc.isGenerator = false
  nd : N.Nodup
  pre : N.take P.length = P
  par : ∀ x ∈ P, sc.names.lookup x = some .local ∨ sc.names.lookup x = some .cell
  nofree : ∀ y ∈ sc.names, y.2 ≠ .free

theorem bindL_out {kindOf : Str → Option NameKind} {x : Str} : ∀ {binds : List (Str × Value)} {m : Str → Option Value}, (∀ v, (x, v) ∉ binds) → bindL kindOf binds m x = m x
  | [], _, _ => rfl
  | (n, v) :: r, m, h => by
    unfold bindL
    rw [bindL_out fun w hw => h w (List.mem_cons_of_mem _ hw)]
    split
    · have : x ≠ n := by rintro rfl; exact h v List.mem_cons_self
      simp [this]
    · rfl
theorem bindC_out {kindOf : Str → Option NameKind} {x : Str} : ∀ {binds : List (Str × Value)} {m : Str → Option Value}, (∀ v, (x, v) ∉ binds) → bindC kindOf binds m x = m x
  | [], _, _ => rfl
  | (n, v) :: r, m, h => by
    unfold bindC
    rw [bindC_out fun w hw => h w (List.mem_cons_of_mem _ hw)]
    split
    · rfl
    · have : x ≠ n := by rintro rfl; exact h v List.mem_cons_self
      simp [this]
theorem bindL_get {kindOf : Str → Option NameKind} {x : Str} {v : Value} : ∀ {P : List Str} {vs : List Value} {i : Nat} {m : Str → Option Value}, P.Nodup → P[i]? = some x → vs[i]? = some v → kindOf x = some .local →
    bindL kindOf (P.zip vs) m x = some v
  | [], _, _, _, _, h, _, _ => by simp at h
  | _ :: _, [], _, _, _, _, h, _ => by simp at h
  | p :: P, w :: vs, 0, m, nd, h1, h2, hk => by
    simp at h1 h2; subst h1; subst h2
    show bindL kindOf ((p, w) :: P.zip vs) m p = _
    unfold bindL
    rw [bindL_out fun v hv => (List.nodup_cons.mp nd).1 (List.of_mem_zip hv).1, if_pos hk]
    simp
  | p :: P, w :: vs, i + 1, m, nd, h1, h2, hk => by
    show bindL kindOf ((p, w) :: P.zip vs) m x = _
    unfold bindL
    exact bindL_get (i := i) (List.nodup_cons.mp nd).2 (by simpa using h1) (by simpa using h2) hk
theorem bindC_get {kindOf : Str → Option NameKind} {x : Str} {v : Value} : ∀ {P : List Str} {vs : List Value} {i : Nat} {m : Str → Option Value}, P.Nodup → P[i]? = some x → vs[i]? = some v → kindOf x ≠ some .local →
    bindC kindOf (P.zip vs) m x = some v
  | [], _, _, _, _, h, _, _ => by simp at h
  | _ :: _, [], _, _, _, _, h, _ => by simp at h
  | p :: P, w :: vs, 0, m, nd, h1, h2, hk => by
    simp at h1 h2; subst h1; subst h2
    show bindC kindOf ((p, w) :: P.zip vs) m p = _
    unfold bindC
    rw [bindC_out fun v hv => (List.nodup_cons.mp nd).1 (List.of_mem_zip hv).1, if_neg hk]
    simp
  | p :: P, w :: vs, i + 1, m, nd, h1, h2, hk => by
    show bindC kindOf ((p, w) :: P.zip vs) m x = _
    unfold bindC
    exact bindC_get (i := i) (List.nodup_cons.mp nd).2 (by simpa using h1) (by simpa using h2) hk


noncomputable def start (N : List Str) (vs : List V) : St := vs.map some ++ List.replicate (N.length - vs.length) none


noncomputable def cxOf (CX : CXT) (P : Program) (w : World) (K : PySem.W.Frag) (mg : Str → Option Value) (base : Heap) (N : List Str) (qual : Str) (scope : Scope) (f : Addr) (cd : Value) (A : Around) (outer : List Env) (s : Shared) (H : Hp) (E : XK) : Cx where
  prog := P
  w := w
  K := K
  mg := mg
  base := base
  A := A.deeper (envOfC qual scope s.heap.objs.size f cd)
  N := N
  s₀ := s
  H₀ := H
  env := envOfC qual scope s.heap.objs.size f cd
  outer := outer
  stack := envOfC qual scope s.heap.objs.size f cd :: outer
  ex := []
  calm := true
  fn := fun _ => true
  pn := []
  xe := fun e s' => wpAny (model P w) (A.deeper (envOfC qual scope s.heap.objs.size f cd)) (leaving (envOfC qual scope s.heap.objs.size f cd) e) (fun _ s'' => CX outer H s E e s'') (fun e' s'' => CX outer H s E e' s'') s'

theorem cell_has {sc : Scope} {n : Nat} {x : Str} (h : sc.names.lookup x = some .cell) : ∃ c, (cellsFrom n sc.names []).lookup x = some c := by
  have q := PySem.W.cellsFrom_some sc.names n [] (.inl h)
  exact Option.isSome_iff_exists.mp q

theorem inv_start {CX : CXT} {P : Program} {w : World} {K : PySem.W.Frag} {mg : Str → Option Value} {base : Heap} {N ps : List Str} {qual : Str} {scope : Scope} {f : Addr} {cd : Value} {A : Around} {outer : List Env} {s s1 : Shared} {H : Hp} {E : XK} {us : List Value} {vs : List V}
    (S : FnScope N ps scope) (hd : A.handled = none) (e0 : Env0 P w K mg base A outer s H) (hl : vs.length = ps.length) (r : Vals vs us)
    (x : InCallC s s.heap.objs.size (bindL (envOfC qual scope s.heap.objs.size f cd).kindOf (ps.zip us) fun _ => none) (cellsFrom (s.heap.objs.size + 1) scope.names []) (bindC (envOfC qual scope s.heap.objs.size f cd).kindOf (ps.zip us) fun _ => none) s1) :
    Inv (cxOf CX P w K mg base N qual scope f cd A outer s H E) [] (start N vs) H s1 := by
  have hpl : ps.length ≤ N.length := by have := congrArg List.length S.pre; rw [List.length_take] at this; omega
  obtain ⟨h1, tk, rfl, hk⟩ := x.done
  have noA : ∀ b : Addr, b ∉ (cxOf CX P w K mg base N qual scope f cd A outer s H E).ex := fun b z => absurd (show b ∈ ([] : List Addr) from z) (by simp)
  refine ⟨⟨e0.mod, S.kind, rfl, rfl, Nat.le_refl _, fun y z c h1 h2 => ?_, fun y hy => ?_, fun y c _ h => ?_, fun _ => hd, Around.frames_deeper e0.frames, .inr ⟨rfl, rfl⟩, fun b z => absurd z (noA b), e0.bs, e0.bsz, fun b _ _ => noA b, fun b z => absurd z (noA b), e0.funs, e0.frf⟩,
    rfl, e0.bare, Un.kept hk, ⟨_, x.toInCall.ns, fun i y v h1 h2 h3 => ?_⟩, fun y c h => ⟨_, x.cell y c h⟩, e0.hok.fresh (Nat.le_refl _), fun y c h => ?_, fun p hp => absurd (show p ∈ ([] : List (Addr × Obj)) from hp) (by simp), e0.hok.kept hk, ?_⟩
  · exact name_of_addr x.apart (PySem.mem_of_lookup h1) (PySem.mem_of_lookup h2)
  · have hy : scope.names.lookup y = some .cell ∨ scope.names.lookup y = some .free := hy
    rcases hy with hy | hy
    · exact cell_has hy
    · exact absurd rfl (S.nofree _ (PySem.mem_of_lookup hy))
  · exact Nat.le_of_lt (x.above y c (PySem.mem_of_lookup h))
  · have hi : i < vs.length := by
      unfold start at h2
      by_cases hi : i < vs.length
      · exact hi
      · rw [List.getElem?_append_right (by simpa using hi)] at h2
        rw [List.getElem?_replicate] at h2
        split at h2 <;> cases h2
    have ha : vs[i]? = some v := by
      unfold start at h2
      rw [List.getElem?_append_left (by simpa using hi), List.getElem?_map] at h2
      cases e : vs[i]? with
      | none => rw [e] at h2; cases h2
      | some a => rw [e] at h2; cases h2; rfl
    obtain ⟨u, hu, rv⟩ := r.get ha
    have hp : ps[i]? = some y := by
      rw [← S.pre, List.getElem?_take_of_lt (by omega)]; exact h1
    have ndP : ps.Nodup := by rw [← S.pre]; exact S.nd.sublist (List.take_sublist _ _)
    refine ⟨u, rv, ?_⟩
    rcases S.par y (List.mem_of_getElem? hp) with k | k
    · exact .inl ⟨k, bindL_get ndP hp hu k⟩
    · obtain ⟨c, e⟩ := cell_has (n := s.heap.objs.size + 1) k
      refine .inr ⟨.inl k, c, e, ?_⟩
      have q := x.cell y c e
      rw [bindC_get ndP hp hu (by show scope.names.lookup y ≠ _; rw [k]; decide)] at q
      exact q
  · exact e0.hok.fresh (Nat.le_of_lt (x.above y c (PySem.mem_of_lookup h)))
  · unfold start
    show _ = N.length
    rw [List.length_append, List.length_map, List.length_replicate]
    omega


theorem fn_of {CX : CXT} {P : Program} {w : World} {K : PySem.W.Frag} {mg : Str → Option Value} {base : Heap} {k : Nat} {f : Addr} {name qual : Str} {params : Arguments} {body : List Stmt} {scope : Scope} {dV kV doc pm cdv ct oc : Value} {an od : Option Addr}
    {osl : Array (Option Value)} {N ps : List Str} {sp : Sp} (lk : K.lookup f = some ⟨oc, od, .func (PySem.W.fnOf name qual params body scope dV kV doc pm an cdv ct), osl⟩) (hcd : PySem.W.codeIn K cdv qual = true) (S : FnScope N ps scope)
    (len : ∀ vs H Q E, sp vs H Q E → vs.length = ps.length)
    (hbody : ∀ (A : Around) (outer : List Env) (s : Shared) (H : Hp) (vs : List V) (Q : VK) (E : XK), Room k (A.deeper (envOfC qual scope s.heap.objs.size f cdv)) → sp vs H Q E →
      ∃ t, PSs (cxOf CX P w K mg base N qual scope f cdv A outer s H E) body t ∧ t { nx := fun _ H' => Q .non H', rt := Q } (start N vs) H) :
    FnOk P w K mg base CX (k + 1) f (PySem.W.fnOf name qual params body scope dV kV doc pm an cdv ct) ps sp := by
  refine ⟨len, fun A outer s H args us vs Q E hr e0 hb r hsp => ?_⟩
  have hl := len _ _ _ _ hsp
  have KX : K.In s.heap := e0.mod.kin.keeps fun b o e => (e0.bs b o e).1
  have lim : s.heap.NoLimit := e0.mod.nolimit.keeps fun b o e => (e0.bs b o e).1
  have hkind : ∀ y ∈ ps.zip us, scope.names.lookup y.1 = some .local ∨ (scope.names.lookup y.1 = some .cell ∧ ((cellsFrom (s.heap.objs.size + 1) scope.names []).lookup y.1).isSome = true) := fun ⟨n, v⟩ hy => by
    rcases S.par n (List.of_mem_zip hy).1 with q | q
    · exact .inl q
    · exact .inr ⟨q, PySem.W.cellsFrom_some _ _ _ (.inl q)⟩
  refine codeAny_call_function hr.depth (KX _ _ lk) rfl S.co S.gen rfl (PySem.W.codeRec_of KX hcd) (hb _ _ _ _ ?_)
  refine wpAny_newFunctionEnv_cells S.kind hkind fun env he s1 x => ?_
  subst he
  refine ⟨lim.keeps x.toInCall.keep, codeAny_func ?_⟩
  obtain ⟨t, ht, hq⟩ := hbody A outer s H vs Q E (hr.deeper _) hsp
  have I : Inv (cxOf CX P w K mg base N qual scope f cdv A outer s H E) [] (start N vs) H s1 := inv_start S hr.hd e0 hl r x
  refine wpAny_mono (ht [] s1 (start N vs) H _ I hq) (fun fl s' hs => ?_) fun e s' hs => hs
  have fin : ∀ {σ' : St} {H' : Hp} {v : V} {u : Value}, Inv (cxOf CX P w K mg base N qual scope f cdv A outer s H E) [] σ' H' s' → RelV v u → Q v H' → CE outer P w H s Q u s' :=
    fun {σ' H' v u} J rv q => ⟨v, H', J.os, J.bare, J.base, J.hok, rv, q⟩
  cases fl with
  | ret u =>
    obtain ⟨v, σ', H', J, rv, q⟩ := hs
    exact fin J rv q
  | next =>
    obtain ⟨σ', H', J, q⟩ := hs
    exact fin (v := V.non) (u := Value.none) J rfl q
  | brk =>
    obtain ⟨_, _, _, q⟩ := hs
    exact False.elim q
  | cont =>
    obtain ⟨_, _, _, q⟩ := hs
    exact False.elim q
end L2

namespace L2
open PySem PySem.Spec PyProof.Rows
section
variable {X : Cx} {x : Str} {p pos : Pos} {e : Expr} {es : List Expr} {t : TA} {id T : String} {r : List V → Hp → VK → Prop}

noncomputable def tCB (r : List V → Hp → VK → Prop) (t : TA) : TE := fun σ H Q => t σ H fun vs H1 => r vs H1 Q

theorem pe_callB (hc : CallR X (.builtin id) r) (hg : Gl X x) (hm : X.mg x = none) (hv : bootBuiltins x = some (.builtin id)) (ha : PA X (e :: es) t) (hn : x ≠ "__name__" := by decide) (hdb : (x == ("__debug__" : Str)) = false := by decide)
    (he : starEach (e :: es) X.env = (false, eval e X.env) :: starEach es X.env := by exact starEach_cons rfl) (hpl : (backTo pos (starEach es X.env)).any (·.1) = false := by exact noStars rfl) : PE X (.Call (.Name x p) (e :: es) [] pos) (tCB r t) := by
  intro pins s σ H Q I h
  refine wpAny_Call_Name_kw (ld_blt I hg hm hv ?_ hn hdb)
  exact PyProof.Rows.callWith_builtin1 (thn (ha pos pins s σ H _ I h) fun us s1 ⟨vs, H1, I1, r1, q1⟩ => hc pins s1 σ H1 vs us Q I1 r1 q1) he hpl

theorem pe_callTy (hc : CallR X (.type T) r) (hg : Gl X x) (hm : X.mg x = none) (hv : bootBuiltins x = some (.type T)) (ha : PA X (e :: es) t) (hn : x ≠ "__name__" := by decide) (hdb : (x == ("__debug__" : Str)) = false := by decide)
    (he : starEach (e :: es) X.env = (false, eval e X.env) :: starEach es X.env := by exact starEach_cons rfl) (hpl : (backTo pos (starEach es X.env)).any (·.1) = false := by exact noStars rfl) : PE X (.Call (.Name x p) (e :: es) [] pos) (tCB r t) := by
  intro pins s σ H Q I h
  refine wpAny_Call_Name_kw (ld_blt I hg hm hv ?_ hn hdb)
  exact PyProof.Rows.callWith_type1 (thn (ha pos pins s σ H _ I h) fun us s1 ⟨vs, H1, I1, r1, q1⟩ => hc pins s1 σ H1 vs us Q I1 r1 q1) he hpl

end
end L2

namespace HT
open PySem PyProof.Rows


noncomputable def lexLt : List Int → List Int → Bool
  | [], [] => false
  | [], _ :: _ => true
  | _ :: _, [] => false
  | x :: xs, y :: ys => if x = y then lexLt xs ys else decide (x < y)
section
open PySem.SeqAt
open PySem.AutoSeq1 (wpAny_loadPart')
open PySem.MeetsSeq PySem.MeetsSeq2 PySem.MeetsSeq3

end

section
variable {prog : Program} {w : World} {A : Around} {E : Value → Shared → Prop} {s : Shared}

noncomputable def sIx (n d : Nat) : Option Int → Nat
  | none => d
  | some v => if v < 0 then (v + (n : Int)).toNat else min v.toNat n
end
end HT

namespace L2
open PySem PySem.Spec PyProof.Rows


noncomputable abbrev TO := St → Hp → (Option Int → Hp → Prop) → Prop

noncomputable def PO (X : Cx) (e : Option Expr) (t : TO) : Prop :=
  ∀ (pins : List (Addr × Obj)) (s : Shared) (σ : St) (H : Hp) (Q : Option Int → Hp → Prop), Inv X pins σ H s → t σ H Q →
    wpAny (model X.prog X.w) X.A (evalPart e X.env) (fun u s' => ∃ o H', Inv X pins σ H' s' ∧ IsPart u o ∧ Q o H') X.xe s
noncomputable def tNoPart : TO := fun _ H Q => Q none H
noncomputable def tPart (t : TE) : TO := fun σ H Q => t σ H fun x H1 => ∃ i, x = .int i ∧ Q (some i) H1

section
variable {X : Cx} {e : Expr} {te : TE} {lo hi : Option Expr} {tl th : TO} {pos p2 : Pos}

theorem po_none : PO X none tNoPart := by
  intro pins s σ H Q I h
  rw [evalPart_none]
  exact wpAny_pure ⟨none, H, I, .none, h⟩
theorem po_some (h : PE X e te) : PO X (some e) (tPart te) := by
  intro pins s σ H Q I hw
  rw [evalPart_some]
  refine thn (h pins s σ H _ I hw) fun u s1 ⟨x, H1, I1, r1, q1⟩ => ?_
  obtain ⟨i, rfl, q⟩ := q1
  obtain ⟨t, rfl⟩ := r1
  exact ⟨some i, H1, I1, .int i t, q⟩


noncomputable def SlR (X : Cx) (r : V → Option Int → Option Int → Hp → VK → Prop) : Prop :=
  ∀ (pins : List (Addr × Obj)) (s : Shared) (σ : St) (H : Hp) (x : V) (v vl vu : Value) (lo hi : Option Int) (sl : Addr) (Q : VK), Inv X pins σ H s → RelV x v → s.heap.IsSliceOf sl vl vu .none → IsPart vl lo → IsPart vu hi → r x lo hi H Q →
    ∃ T id, typeLookup (.type T) "__getitem__" = pure (some (.builtin id)) ∧ s.TypeIs v T ∧ wpAny (model X.prog X.w) X.A (getItem v (.ref sl)) (EP X pins σ Q) X.xe s
noncomputable def tSl (r : V → Option Int → Option Int → Hp → VK → Prop) (te : TE) (tl th : TO) : TE := fun σ H Q => te σ H fun x H1 => tl σ H1 fun l H2 => th σ H2 fun u H3 => r x l u H3 Q

theorem pe_slice {r : V → Option Int → Option Int → Hp → VK → Prop} (hr : SlR X r) (he : PE X e te) (hl : PO X lo tl) (hu : PO X hi th) : PE X (.Subscript e (.Slice lo hi none p2) pos) (tSl r te tl th) := by
  intro pins s σ H Q I h
  refine Subscript_ (thn (he pins s σ H _ I h) fun v s1 ⟨x, H1, I1, r1, q1⟩ => ?_)
  refine wpAny_Slice (thn (hl pins s1 σ H1 _ I1 q1) fun vl s2 ⟨l, H2, I2, pl, q2⟩ => thn (hu pins s2 σ H2 _ I2 q2) fun vu s3 ⟨u, H3, I3, pu, q3⟩ => ?_)
  rw [evalPart_none]
  refine wpAny_pure ?_
  have I4 : Inv X pins σ H3 { s3 with heap := s3.heap.push { cls := .type "slice", data := .fields #[vl, vu, .none] } } := I3.kept (t' := s3.toks) fun b ob q => Heap.get?_push_of_some _ q
  obtain ⟨T, id, hT, ht, hg⟩ := hr pins { s3 with heap := s3.heap.push { cls := .type "slice", data := .fields #[vl, vu, .none] } } σ H3 x v vl vu l u s3.heap.objs.size Q I4 r1 (Heap.IsSliceOf.new ..) pl pu q3
  show wpAny (model X.prog X.w) X.A (subscriptTail e (.Slice lo hi none p2) v (.ref s3.heap.objs.size)) (EP X pins σ Q) X.xe { s3 with heap := s3.heap.push { cls := .type "slice", data := .fields #[vl, vu, .none] } }
  exact tail_any (ops := [.ref s3.heap.objs.size, v]) ht hT hg (by with_unfolding_all rfl)


noncomputable def cutV (xs : List V) (lo hi : Option Int) : List V := (xs.drop (HT.sIx xs.length 0 lo)).take (HT.sIx xs.length xs.length hi - HT.sIx xs.length 0 lo)
theorem cutV_length (xs : List V) (lo hi : Option Int) : (cutV xs lo hi).length ≤ xs.length := by
  unfold cutV
  rw [List.length_take, List.length_drop]
  omega

noncomputable def rSlT (K : PySem.W.Frag) : V → Option Int → Option Int → Hp → VK → Prop := fun x lo hi H Q => ∃ a xs, x = .ref a ∧ SqT K H a xs ∧
  ¬ (HT.sIx xs.length 0 lo = 0 ∧ HT.sIx xs.length xs.length hi = xs.length) ∧ ∀ p, H p = none → Q (.ref p) (upd H p (.tup (cutV xs lo hi)))
noncomputable def rLtT (K : PySem.W.Frag) : R2 := fun x y H Q => ∃ a b ns ms, x = .ref a ∧ y = .ref b ∧ SqT K H a (ns.map V.int) ∧ SqT K H b (ms.map V.int) ∧ Q (.bl (HT.lexLt ns ms)) H
noncomputable def rCatT (K : PySem.W.Frag) : R2 := fun x y H Q => ∃ a b xs ys, x = .ref a ∧ y = .ref b ∧ SqT K H a xs ∧ SqT K H b ys ∧ xs ≠ [] ∧ xs.length + ys.length ≤ sizeLine ∧
  (ys = [] → Q (.ref a) H) ∧ (ys ≠ [] → ∀ p, H p = none → Q (.ref p) (upd H p (.tup (xs ++ ys))))
end
end L2

namespace L2
open PySem PySem.Spec PyProof.Rows



noncomputable def ixN (n : Nat) (i : Int) : Option Nat := if 0 ≤ i then (if i < n then some i.toNat else none) else if -(n : Int) ≤ i then some (i + n).toNat else none
noncomputable def atI {α : Type} (xs : List α) (i : Int) : Option α := (ixN xs.length i).bind fun j => xs[j]?
theorem ixN_seq {n : Nat} {i : Int} {j : Nat} (h : ixN n i = some j) : seqIndex? i n = some j ∧ j < n ∧ -(n : Int) ≤ i ∧ i < n := by
  unfold ixN at h
  by_cases h0 : 0 ≤ i
  · rw [if_pos h0] at h
    by_cases h1 : i < n
    · rw [if_pos h1] at h
      have e : i.toNat = j := Option.some.inj h
      exact ⟨by rw [seqIndex_of h0 h1, e], by omega, by omega, h1⟩
    · rw [if_neg h1] at h; cases h
  · rw [if_neg h0] at h
    by_cases h1 : -(n : Int) ≤ i
    · rw [if_pos h1] at h
      have e : (i + n).toNat = j := Option.some.inj h
      exact ⟨by rw [seqIndex_neg (by omega) h1, e], by omega, h1, by omega⟩
    · rw [if_neg h1] at h; cases h
theorem atI_get {α : Type} {xs : List α} {i : Int} {v : α} (h : atI xs i = some v) : ∃ j, seqIndex? i xs.length = some j ∧ xs[j]? = some v ∧ j < xs.length ∧ -(xs.length : Int) ≤ i ∧ i < xs.length := by
  unfold atI at h
  cases e : ixN xs.length i with
  | none => rw [e] at h; cases h
  | some j =>
    rw [e] at h
    obtain ⟨h1, h2, h3, h4⟩ := ixN_seq e
    exact ⟨j, h1, h, h2, h3, h4⟩
theorem atI_nat {α : Type} {xs : List α} {j : Nat} {v : α} (h : xs[j]? = some v) : atI xs (j : Int) = some v := by
  have hj : j < xs.length := (List.getElem?_eq_some_iff.mp h).1
  have e : ixN xs.length (j : Int) = some j := by
    unfold ixN
    rw [if_pos (by omega), if_pos (by omega)]; simp
  unfold atI; rw [e]; exact h
noncomputable def PlainIx (b : Expr) : Prop := ∀ o i, subscripted b false o i = operate [o, i] (getItem o i)

noncomputable def IxR (X : Cx) (r : R2) : Prop :=
  ∀ (value slice : Expr) (pins : List (Addr × Obj)) (s : Shared) (σ : St) (H : Hp) (x y : V) (v u : Value) (Q : VK), Inv X pins σ H s → RelV x v → RelV y u → r x y H Q →
    subscripted slice false v u = operate [v, u] (getItem v u) → wpAny (model X.prog X.w) X.A (subscriptTail value slice v u) (EP X pins σ Q) X.xe s

noncomputable def MtR (X : Cx) (id : String) (r : V → List V → Hp → VK → Prop) : Prop :=
  ∀ (pins : List (Addr × Obj)) (s : Shared) (σ : St) (H : Hp) (x : V) (xs : List V) (v : Value) (us : List Value) (Q : VK), Inv X pins σ H s → RelV x v → Vals xs us → r x xs H Q →
    wpAny (model X.prog X.w) X.A (call (.builtin id) (v :: us)) (EP X pins σ Q) X.xe s
section
variable {X : Cx} {a b : Expr} {ta tb : TE} {pos : Pos}
theorem pe_ix {r : R2} (hr : IxR X r) (ha : PE X a ta) (hb : PE X b tb) (hs : PlainIx b) : PE X (.Subscript a b pos) (tOp r ta tb) := by
  intro pins s σ H Q I h
  exact Subscript_ (binT ha hb I h fun v u s2 x y H2 I2 rx ry q => hr a b pins s2 σ H2 x y v u Q I2 rx ry q (hs _ _))

noncomputable def rIxL (K : PySem.W.Frag) : R2 := fun x y H Q => ∃ p xs i v, x = .ref p ∧ y = .int i ∧ SqL K H p xs ∧ atI xs i = some v ∧ Q v H
noncomputable def rIxT (K : PySem.W.Frag) : R2 := fun x y H Q => ∃ p xs i v, x = .ref p ∧ y = .int i ∧ SqT K H p xs ∧ atI xs i = some v ∧ Q v H
noncomputable def rIxS : R2 := fun x y H Q => ∃ z i c, x = .str z ∧ y = .int i ∧ z.length ≤ sizeLine ∧ atI z.cps.toList i = some c ∧ Q (.str ⟨#[c]⟩) H
theorem ix_list : IxR X (rIxL X.K) := by
  intro value slice pins s σ H x y v u Q I rx ry h hs
  obtain ⟨p, xs, i, z, rfl, rfl, hq, he, q⟩ := h
  cases rx
  obtain ⟨t, rfl⟩ := ry
  obtain ⟨its, r, pl, hz⟩ := I.list hq
  obtain ⟨j, h1, h2, h3, h4, h5⟩ := atI_get he
  obtain ⟨w, ew, rw'⟩ := r.get h2
  have hl := r.length
  have hn := line63
  have fin : EP X pins σ Q w s := ⟨z, H, I, rw', q⟩
  by_cases h0 : 0 ≤ i
  · have hj : i.toNat = j := by
      rw [seqIndex_of h0 h5] at h1
      exact Option.some.inj h1
    exact item_listR pl.isList h0 (by omega) (by rw [hj]; simpa using ew) fin hs
  · have hj : (i + (its.toArray.size : Int)).toNat = j := by
      rw [seqIndex_neg (by omega) h4] at h1
      rw [List.size_toArray, ← hl]
      exact Option.some.inj h1
    exact subscriptTail_builtinR (x := w) pl.isList.typeIs slot_list_getitem.lookup
      (wpAny_getItem_list_neg (Q := fun r s' => r = w ∧ EP X pins σ Q r s') pl.isList (by omega) (by rw [List.size_toArray] <;> omega) (by omega) (by rw [hj]; simpa using ew) ⟨rfl, fin⟩) hs
theorem ix_tup : IxR X (rIxT X.K) := by
  intro value slice pins s σ H x y v u Q I rx ry h hs
  obtain ⟨p, xs, i, z, rfl, rfl, hq, he, q⟩ := h
  cases rx
  obtain ⟨t, rfl⟩ := ry
  obtain ⟨its, r, pl, hz⟩ := I.tuple hq
  obtain ⟨j, h1, h2, h3, h4, h5⟩ := atI_get he
  obtain ⟨w, ew, rw'⟩ := r.get h2
  have hl := r.length
  have hn := line63
  have fin : EP X pins σ Q w s := ⟨z, H, I, rw', q⟩
  exact subscriptTail_builtinR (x := w) pl.typeIs slot_tuple_getitem.lookup
    (getItem_tuple (j := j) (Q := fun r s' => r = w ∧ EP X pins σ Q r s') pl (by omega) (by omega) (by rw [List.size_toArray, ← hl]; exact h1) (by simpa using ew) ⟨rfl, fin⟩) hs
noncomputable def rIx (K : PySem.W.Frag) : R2 := fun x y H Q => rIxL K x y H Q ∨ rIxT K x y H Q ∨ rIxS x y H Q
noncomputable def rSetL : V → V → V → Hp → (Hp → Prop) → Prop := fun o i v H Q => ∃ p xs k j, o = .ref p ∧ i = .int k ∧ H p = some (.lst xs) ∧ ixN xs.length k = some j ∧ Q (upd H p (.lst (xs.set j v)))
theorem slice_bounds (lo hi : Option Int) (n : Nat) : (sliceBounds lo hi none n).1 = ((HT.sIx n 0 lo : Nat) : Int) ∧ (sliceBounds lo hi none n).2.1 = ((HT.sIx n n hi : Nat) : Int) ∧ (sliceBounds lo hi none n).2.2 = 1 := by
  refine ⟨?_, ?_, rfl⟩
  · cases lo with
    | none => simp [sliceBounds, HT.sIx]
    | some i =>
      simp only [sliceBounds, HT.sIx, Option.getD_none, show (1 : Int) > 0 by decide, if_true]
      by_cases h : i < 0
      · simp only [h, if_true] <;> omega
      · simp only [h, if_false] <;> omega
  · cases hi with
    | none => simp [sliceBounds, HT.sIx]
    | some i =>
      simp only [sliceBounds, HT.sIx, Option.getD_none, show (1 : Int) > 0 by decide, if_true]
      by_cases h : i < 0
      · simp only [h, if_true] <;> omega
      · simp only [h, if_false] <;> omega
theorem slicePick_cut (its : List Value) (lo hi : Option Int) : slicePick its.toArray lo hi none = ((its.drop (HT.sIx its.length 0 lo)).take (HT.sIx its.length its.length hi - HT.sIx its.length 0 lo)).toArray := by
  obtain ⟨h1, h2, h3⟩ := slice_bounds lo hi its.toArray.size
  unfold slicePick
  rw [h1, h2, h3]
  simp only [sliceRange_one, pick_run, List.size_toArray] <;> rfl

noncomputable def rSlL (K : PySem.W.Frag) : V → Option Int → Option Int → Hp → VK → Prop := fun x lo hi H Q => ∃ a xs, x = .ref a ∧ SqL K H a xs ∧ ∀ p, H p = none → Q (.ref p) (upd H p (.lst (cutV xs lo hi)))
theorem sl_list : SlR X (rSlL X.K) := by
  intro pins s σ H x v vl vu lo hi sl Q I rx hs pl pu h
  obtain ⟨a, xs, rfl, hx, q⟩ := h
  cases rx
  obtain ⟨its, r, ht, hz⟩ := I.list hx
  have hlen := r.length
  refine ⟨"list", _, slot_list_getitem.lookup, ht.isList.typeIs, ?_⟩
  refine wpAny_getItem_list_slice ht.isList hs pl pu .none (by simp) ?_ (by rw [List.size_toArray] <;> omega)
  rw [slicePick_cut, ← hlen]
  refine ⟨.ref s.heap.objs.size, _, I.laid (t' := s.toks) (o := .lst (cutV xs lo hi)) (fun b ob q => Heap.get?_push_of_some _ q) (Nat.le_refl _) ?_, rfl, q _ (I.hok.fresh (Nat.le_refl _))⟩
  exact ⟨Nat.le_trans (cutV_length xs lo hi) hz, _, 0, (r.drop (HT.sIx xs.length 0 lo)).take (HT.sIx xs.length xs.length hi - HT.sIx xs.length 0 lo), Heap.get?_push_size _ rfl⟩


noncomputable def flatV : V → Bool
  | .non => true
  | .bl _ => true
  | .int _ => true
  | .str _ => true
  | _ => false

noncomputable def eqV : V → V → Bool
  | .non, .non => true
  | .bl a, .bl b => a == b
  | .bl a, .int b => (if a then 1 else 0) == b
  | .int a, .bl b => a == (if b then 1 else 0)
  | .int a, .int b => a == b
  | .str a, .str b => a == b
  | _, _ => false
theorem eqAt_V {A : Around} {s : Shared} {y x : V} {u v : Value} (ry : RelV y u) (rx : RelV x v) (fy : flatV y = true) (fx : flatV x = true) : SeqAt.EqAt A s u v (eqV y x) := by
  cases y with
  | non =>
    cases ry
    cases x with
    | non => cases rx; exact SeqAt.EqAt.same _
    | bl b => cases rx; exact SeqAt.EqAt.none_bool b
    | int b => obtain ⟨t, rfl⟩ := rx; exact SeqAt.EqAt.none_int b t
    | str b => obtain ⟨t, rfl⟩ := rx; exact SeqAt.EqAt.none_str b t
    | _ => exact absurd (show false = true from fx) Bool.false_ne_true
  | bl a =>
    cases ry
    cases x with
    | non => cases rx; exact SeqAt.EqAt.bool_none a
    | bl b => cases rx; exact SeqAt.EqAt.bool_bool a b
    | int b => obtain ⟨t, rfl⟩ := rx; exact SeqAt.EqAt.bool_int a b t
    | str b => obtain ⟨t, rfl⟩ := rx; exact SeqAt.EqAt.bool_str a b t
    | _ => exact absurd (show false = true from fx) Bool.false_ne_true
  | int a =>
    obtain ⟨t', rfl⟩ := ry
    cases x with
    | non => cases rx; exact SeqAt.EqAt.int_none a t'
    | bl b => cases rx; exact SeqAt.EqAt.int_bool a t' b
    | int b => obtain ⟨t, rfl⟩ := rx; exact SeqAt.EqAt.int_int a t' b t
    | str b => obtain ⟨t, rfl⟩ := rx; exact SeqAt.EqAt.int_str a t' b t
    | _ => exact absurd (show false = true from fx) Bool.false_ne_true
  | str a =>
    obtain ⟨t', rfl⟩ := ry
    cases x with
    | non => cases rx; exact SeqAt.EqAt.str_none a t'
    | bl b => cases rx; exact SeqAt.EqAt.str_bool a t' b
    | int b => obtain ⟨t, rfl⟩ := rx; exact SeqAt.EqAt.str_int a t' b t
    | str b => obtain ⟨t, rfl⟩ := rx; exact SeqAt.EqAt.str_str a t' b t
    | _ => exact absurd (show false = true from fx) Bool.false_ne_true
  | _ => exact absurd (show false = true from fy) Bool.false_ne_true

noncomputable def eqU (x : V) (u : Value) : Bool := match u with
  | .none => eqV .non x
  | .bool b => eqV (.bl b) x
  | .int i _ => eqV (.int i) x
  | .str z _ => eqV (.str z) x
  | _ => false
noncomputable def inV (x : V) (xs : List V) : Bool := xs.any fun y => eqV y x

noncomputable def rIn (K : PySem.W.Frag) (neg : Bool) : R2 := fun x y H Q => ∃ p xs, y = .ref p ∧ (SqL K H p xs ∨ SqT K H p xs) ∧ flatV x = true ∧ xs.all flatV = true ∧ Q (.bl (if neg then !inV x xs else inV x xs)) H
theorem call_len_seq : CallR X (.builtin "len") (fun xs H Q => ∃ p ys, xs = [.ref p] ∧ (SqL X.K H p ys ∨ SqT X.K H p ys) ∧ Q (.int ys.length) H) := by
  intro pins s σ H xs us Q I r h
  obtain ⟨p, ys, rfl, hq, q⟩ := h
  obtain ⟨u, rfl, rx⟩ := vals1 r
  cases rx
  have hn := line63
  rcases hq with hq | hq
  · obtain ⟨its, r', pl, hz⟩ := I.list hq
    have hlen := r'.length
    exact Calls.call_len_list pl.isList (by simp only [List.size_toArray] <;> omega) ⟨.int ys.length, H, I.tok _, ⟨s.toks + 1, by rw [List.size_toArray, hlen]⟩, q⟩
  · obtain ⟨its, r', pl, hz⟩ := I.tuple hq
    have hlen := r'.length
    exact len_tuple pl (by simp only [List.size_toArray] <;> omega) ⟨.int ys.length, H, I.tok _, ⟨s.toks + 1, by rw [List.size_toArray, hlen]⟩, q⟩
theorem call_len_str : CallR X (.builtin "len") (fun xs H Q => ∃ z, xs = [.str z] ∧ z.length ≤ sizeLine ∧ Q (.int z.length) H) := by
  intro pins s σ H xs us Q I r h
  obtain ⟨z, rfl, hz, q⟩ := h
  obtain ⟨u, rfl, t, rfl⟩ := vals1 r
  have hn := line63
  exact len_str (by omega) ⟨.int z.length, H, I.tok _, ⟨_, rfl⟩, q⟩
theorem call_list_of : CallR X (.type "list") (fun xs H Q => ∃ p ys, xs = [.ref p] ∧ (SqL X.K H p ys ∨ SqT X.K H p ys) ∧ ∀ l, H l = none → Q (.ref l) (upd H l (.lst ys))) := by
  intro pins s σ H xs us Q I r h
  obtain ⟨p, ys, rfl, hq, q⟩ := h
  obtain ⟨u, rfl, rx⟩ := vals1 r
  cases rx
  have fin : ∀ (its : List Value), Vals ys its → ys.length ≤ sizeLine → ∀ (h' : Heap) (c' : Nat), (∀ b o', s.heap.get? b = some o' → h'.get? b = some o') →
      h'.get? s.heap.objs.size = some { cls := .type "list", dict := none, data := .seq its.toArray c', slots := #[] } → EP X pins σ Q (.ref s.heap.objs.size) { s with heap := h' } := fun its r' hz h' c' kp e =>
    ⟨.ref s.heap.objs.size, _, I.laid (t' := s.toks) kp (Nat.le_refl _) (show ObjOk X.prog X.w _ h' _ (.lst ys) from ⟨hz, its, c', r', e⟩), rfl, q _ (I.hok.fresh (Nat.le_refl _))⟩
  rcases hq with hq | hq
  · obtain ⟨its, r', pl, hz⟩ := I.list hq
    have hlen := r'.length
    obtain ⟨o, ho, hc, n, hd⟩ := pl.isList
    exact call_list_seq p (.inl rfl) ho hc hd (fun h' c' kp e => fin its r' hz h' c' kp e) (by simp only [List.size_toArray] <;> omega)
  · obtain ⟨its, r', pl, hz⟩ := I.tuple hq
    have hlen := r'.length
    obtain ⟨o, ho, hc, n, hd⟩ := pl
    exact call_list_seq p (.inr rfl) ho hc hd (fun h' c' kp e => fin its r' hz h' c' kp e) (by simp only [List.size_toArray] <;> omega)
theorem call_tuple_of : CallR X (.type "tuple") (fun xs H Q => ∃ p ys, xs = [.ref p] ∧ ((SqL X.K H p ys ∧ ∀ l, H l = none → Q (.ref l) (upd H l (.tup ys))) ∨ (SqT X.K H p ys ∧ Q (.ref p) H))) := by
  intro pins s σ H xs us Q I r h
  obtain ⟨p, ys, rfl, h⟩ := h
  obtain ⟨u, rfl, rx⟩ := vals1 r
  cases rx
  rcases h with ⟨hq, q⟩ | ⟨hq, q⟩
  · obtain ⟨its, r', pl, hz⟩ := I.list hq
    have hlen := r'.length
    refine call_tuple_list pl.isList (fun h' kp => ?_) (by simp only [List.size_toArray] <;> omega)
    have I1 : Inv X pins σ H { s with heap := h' } := I.kept (t' := s.toks) kp
    have I2 : Inv X pins σ (upd H h'.objs.size (.tup ys)) { s with heap := h'.push { cls := .type "tuple", data := .seq its.toArray } } :=
      I1.laid (t' := s.toks) (fun b o e => Heap.get?_push_of_some _ e) (Nat.le_refl _) (show ObjOk X.prog X.w _ _ _ (.tup ys) from ⟨hz, its, r', IsTup.new _ _⟩)
    exact ⟨.ref h'.objs.size, _, I2, rfl, q _ (I1.hok.fresh (Nat.le_refl _))⟩
  · obtain ⟨its, r', pl, hz⟩ := I.tuple hq
    exact call_tuple_same pl ⟨.ref p, H, I, rfl, q⟩



noncomputable def tyV (K : PySem.W.Frag) (T : String) (x : V) (H : Hp) : Prop := match x with
  | .str _ => T = "str"
  | .int _ => T = "int"
  | .ref p => (T = "list" ∧ ∃ xs, SqL K H p xs) ∨ (T = "tuple" ∧ ∃ o, K.lookup p = some o ∧ o.cls = .type "tuple" ∧ o.dict = none) ∨
      (T = "dict" ∧ ((∃ kvs, H p = some (.dK kvs)) ∨ ∃ kvs, H p = some (.dT kvs))) ∨ (T = "set" ∧ ∃ S n, H p = some (.set S n))
  | _ => False
theorem tyV_is {pins : List (Addr × Obj)} {σ : St} {H : Hp} {s : Shared} {T : String} {x : V} {v : Value} (I : Inv X pins σ H s) (r : RelV x v) (ty : tyV X.K T x H) :
    s.TypeIs v T ∧ ∀ a, v = .ref a → ∃ ob, s.heap.get? a = some ob ∧ ob.dict = none := by
  cases x with
  | str z =>
    obtain ⟨t, rfl⟩ := r
    cases (show T = "str" from ty)
    exact ⟨typeIs_str s z t, fun _ e => nomatch e⟩
  | int i =>
    obtain ⟨t, rfl⟩ := r
    cases (show T = "int" from ty)
    exact ⟨typeIs_int s i t, fun _ e => nomatch e⟩
  | ref p =>
    cases r
    rcases ty with ⟨rfl, xs, hq⟩ | ⟨rfl, o, hk, hc, hd⟩ | ⟨rfl, hk⟩ | ⟨rfl, S, n, hk⟩
    · obtain ⟨its, _, pl, _⟩ := I.list hq
      refine ⟨pl.isList.typeIs, fun a e => ?_⟩
      cases e
      obtain ⟨o, n, e, c, hd, _⟩ := pl
      exact ⟨o, e, hd⟩
    · refine ⟨⟨o, I.kIn p o hk, hc⟩, fun a e => ?_⟩
      cases e
      exact ⟨o, I.kIn _ o hk, hd⟩
    · have z : ∃ o, s.heap.get? p = some o ∧ o.ExactDict := by
        rcases hk with ⟨kvs, hk⟩ | ⟨kvs, hk⟩
        · obtain ⟨_, _, _, _, o, _, _, e, ex, _⟩ := I.hok p _ hk
          exact ⟨o, e, ex⟩
        · obtain ⟨_, _, _, _, o, _, _, e, ex, _⟩ := I.hok p _ hk
          exact ⟨o, e, ex⟩
      obtain ⟨o, e, ex⟩ := z
      refine ⟨⟨o, e, ex.1⟩, fun a e2 => ?_⟩
      cases e2
      exact ⟨o, e, ex.2.1⟩
    · obtain ⟨o, _, _, _, e, ex, _⟩ := I.hok p _ hk
      refine ⟨⟨o, e, ex.1⟩, fun a e2 => ?_⟩
      cases e2
      exact ⟨o, e, ex.2.1⟩
  | _ => exact False.elim ty
noncomputable def tBM0 (K : PySem.W.Frag) (T : String) (r : V → List V → Hp → VK → Prop) (to : TE) : TE := fun σ H Q => to σ H fun x H1 => tyV K T x H1 ∧ r x [] H1 Q
noncomputable def tBM (K : PySem.W.Frag) (T : String) (r : V → List V → Hp → VK → Prop) (to : TE) (t : TA) : TE := fun σ H Q => to σ H fun x H1 => tyV K T x H1 ∧ t σ H1 fun xs H2 => r x xs H2 Q
variable {o e : Expr} {es : List Expr} {to : TE} {t : TA} {name : Str} {apos cpos : Pos} {T id : String} {r : V → List V → Hp → VK → Prop}
theorem pe_bm0 (pa : PlainAttrs T) (slot : Slot T name id) (hty : typeOf (.builtin id) = pure (.type "method_descriptor")) (hm : MtR X id r) (ho : PE X o to)
    (hbase : attributeBase o name X.env (eval o X.env) = eval o X.env := by rfl) (hline : (apos.endLine == cpos.line) = true := by rfl) : PE X (.Call (.Attribute o name apos) [] [] cpos) (tBM0 X.K T r to) := by
  intro pins s σ H Q I h
  refine wpAny_Call_method0_late hbase hline (thn (ho pins s σ H _ I h) fun v s1 ⟨x, H1, I1, r1, ty, q1⟩ => ?_)
  obtain ⟨h1, h2⟩ := tyV_is I1 r1 ty
  exact ⟨T, id, pa, slot, hty, h1, h2, Calls.callWith_builtin rfl (PySem.evalArgs_none (hm pins s1 σ H1 x [] v [] Q I1 r1 .nil q1))⟩
theorem pe_bm (pa : PlainAttrs T) (slot : Slot T name id) (hty : typeOf (.builtin id) = pure (.type "method_descriptor")) (hm : MtR X id r) (ho : PE X o to) (ha : PA X (e :: es) t)
    (hbase : attributeBase o name X.env (eval o X.env) = eval o X.env := by rfl)
    (hfew : ((backTo cpos (starEach (e :: es) X.env)).all (fun x => !x.1) && (backToKw cpos (keywordEach [] X.env)).all (fun x => x.1.isSome)
      && decide ((e :: es).length + ([] : List Keyword).length + (if ([] : List Keyword).isEmpty then 0 else 1) < 30)) = true := by rfl)
    (hline : (apos.endLine == cpos.line) = true := by rfl) (hs : starEach (e :: es) X.env = (false, eval e X.env) :: starEach es X.env := by exact starEach_cons rfl) (hplain : (backTo cpos (starEach es X.env)).any (·.1) = false := by rfl) :
    PE X (.Call (.Attribute o name apos) (e :: es) [] cpos) (tBM X.K T r to t) := by
  intro pins s σ H Q I h
  refine wpAny_Call_method_late hbase hfew hline rfl (thn (ho pins s σ H _ I h) fun v s1 ⟨x, H1, I1, r1, ty, q1⟩ => ?_)
  obtain ⟨h1, h2⟩ := tyV_is I1 r1 ty
  refine ⟨T, id, pa, slot, hty, h1, h2, ?_⟩
  have hA := ha cpos pins s1 σ H1 _ I1 q1
  rw [hs] at hA ⊢
  refine Calls.callWith_builtin (by show (false || (backTo cpos (starEach es X.env)).any (·.1)) = false; rw [hplain] <;> rfl) (Calls.evalArgs_plain ?_)
  exact thn hA fun us s2 ⟨vs, H2, I2, r2, q2⟩ => hm pins s2 σ H2 x vs v us Q I2 r1 r2 q2

end
end L2

namespace L2
open PySem PySem.Spec PyProof.Rows

noncomputable def MtM (X : Cx) (id : String) (r : V → List V → Hp → VK → Prop) : Prop :=
  ∀ (pins : List (Addr × Obj)) (s : Shared) (σ : St) (H : Hp) (x : V) (xs : List V) (v : Value) (us : List Value) (Q : VK), Inv X pins σ H s → RelV x v → Vals xs us → r x xs H Q →
    wpAny (model X.prog X.w) X.A (call (.builtin id) (v :: us)) (EP X pins σ Q) X.xe s


theorem Vals.one : ∀ {x : V} {us : List Value}, Vals [x] us → ∃ u, us = [u] ∧ RelV x u
  | _, _, .cons r .nil => ⟨_, rfl, r⟩
theorem Vals.zero : ∀ {us : List Value}, Vals [] us → us = []
  | _, .nil => rfl
theorem Vals.dropLast {xs : List V} {us : List Value} (h : Vals xs us) : Vals xs.dropLast us.dropLast := by
  induction h with
  | nil => exact .nil
  | cons r t ih =>
    cases t with
    | nil => exact .nil
    | cons q t' => exact .cons r ih
theorem Vals.rep {xs : List V} {us : List Value} (h : Vals xs us) : ∀ k : Nat, Vals (List.replicate k xs).flatten (List.replicate k us).flatten
  | 0 => .nil
  | k + 1 => by
    rw [List.replicate_succ, List.replicate_succ, List.flatten_cons, List.flatten_cons]
    exact Vals.append h (Vals.rep h k)
theorem erase_last {α : Type} (l : List α) : l.eraseIdx (l.length - 1) = l.dropLast := by
  induction l with
  | nil => rfl
  | cons a r ih =>
    cases r with
    | nil => rfl
    | cons b r =>
      have e : (a :: b :: r).length - 1 = ((b :: r).length - 1) + 1 := by
        have h1 : (a :: b :: r).length = r.length + 2 := rfl
        have h2 : (b :: r).length = r.length + 1 := rfl
        omega
      rw [e, List.eraseIdx_cons_succ, ih]
      all_goals rfl
theorem foldl_rep (its : List Value) : ∀ (k : Nat) (acc : List Value),
    List.foldl (fun x1 x2 => x1 ++ x2) acc.toArray (List.replicate k its.toArray) = (acc ++ (List.replicate k its).flatten).toArray
  | 0, acc => by simp
  | k + 1, acc => by
    have e : acc.toArray ++ its.toArray = (acc ++ its).toArray := by simp
    have e2 : (acc ++ its) ++ (List.replicate k its).flatten = acc ++ (List.replicate (k + 1) its).flatten := by
      rw [List.replicate_succ, List.flatten_cons, List.append_assoc]
    rw [← e2, ← foldl_rep its k (acc ++ its), ← e, List.replicate_succ, List.foldl_cons]

section
variable {X : Cx} {pins : List (Addr × Obj)} {σ : St} {H : Hp} {s : Shared} {l b : Addr} {xs ys zs : List V}


theorem Inv.lset {its its' : List Value} {n : Nat} {f : Array Value → Array Value} {t' : Nat} (I : Inv X pins σ H s) (hH : H l = some (.lst xs))
    (e : s.heap.get? l = some { cls := .type "list", data := .seq its.toArray n }) (hf : f its.toArray = its'.toArray) (hv : Vals ys its') (hz : ys.length ≤ sizeLine) :
    Inv X pins σ (upd H l (.lst ys)) { s with heap := s.heap.update l (Obj.mapSeq f), toks := t' } := by
  have q := PySem.IsL.update e f
  rw [hf] at q
  refine I.write (x := l) (e := l) (by rw [hH]; exact trivial) (.inl rfl) (fun b' u hb hu => (Heap.get?_update_other s.heap (Obj.mapSeq f) (Ne.symm hb)).trans hu) ⟨_, q⟩ ?_
  exact ⟨hz, its', _, hv, q⟩
theorem Inv.lnew {its : List Value} {t' : Nat} (I : Inv X pins σ H s) (hv : Vals ys its) (hz : ys.length ≤ sizeLine) :
    Inv X pins σ (upd H s.heap.objs.size (.lst ys)) { s with heap := s.heap.push { cls := .type "list", data := .seq its.toArray }, toks := t' } :=
  I.laid (fun _ _ q => Heap.get?_push_of_some _ q) (Nat.le_refl _) ⟨hz, its, 0, hv, Heap.get?_push_size _ rfl⟩
theorem Inv.fresh (I : Inv X pins σ H s) : H s.heap.objs.size = none := I.hok.fresh (Nat.le_refl _)
theorem Inv.lstM (I : Inv X pins σ H s) (hH : H l = some (.lst xs)) : xs.length ≤ sizeLine ∧ ∃ (its : List Value) (n : Nat), Vals xs its ∧ xs.length = its.length ∧ s.heap.get? l = some { cls := .type "list", data := .seq its.toArray n } := by
  obtain ⟨z, its, n, r, e⟩ := I.hok l _ hH
  exact ⟨z, its, n, r, r.length, e⟩

theorem notLongL {n : Nat} (h : n ≤ sizeLine) : Builtin.List.listTooLong n = false := by
  unfold Builtin.List.listTooLong
  exact decide_eq_false (by omega)
end

section
variable {X : Cx}


noncomputable def rAppend : V → List V → Hp → VK → Prop := fun x vs H Q => ∃ l xs y, x = .ref l ∧ vs = [y] ∧ H l = some (.lst xs) ∧ xs.length < sizeLine ∧ Q .non (upd H l (.lst (xs ++ [y])))
theorem mt_append : MtM X "list.append" rAppend := by
  intro pins s σ H x vs v us Q I rx rv h
  obtain ⟨l, xs, y, rfl, rfl, hH, hz, q⟩ := h
  cases rx
  obtain ⟨u, rfl, ru⟩ := rv.one
  obtain ⟨z, its, n, r, hl, e⟩ := I.lstM hH
  refine call_meets F.slot_list_append ⟨_, e, rfl⟩ F.entry_list_append (F.args_list_append_2 _ _) (PySem.list_append l its.toArray n u (by rw [List.size_toArray]; omega)) ⟨e, ?_⟩
  refine ⟨.non, _, I.lset (its' := its ++ [u]) hH e (by simp) (r.append (.cons ru .nil)) ?_, rfl, q⟩
  rw [List.length_append, List.length_singleton]
  omega

noncomputable def rExtend : V → List V → Hp → VK → Prop := fun x vs H Q => ∃ l b xs zs, x = .ref l ∧ vs = [.ref b] ∧ H l = some (.lst xs) ∧ H b = some (.lst zs) ∧ xs.length + zs.length ≤ sizeLine ∧ Q .non (upd H l (.lst (xs ++ zs)))
theorem mt_extend : MtM X "list.extend" rExtend := by
  intro pins s σ H x vs v us Q I rx rv h
  obtain ⟨l, b, xs, zs, rfl, rfl, hH, hB, hz, q⟩ := h
  cases rx
  obtain ⟨u, rfl, ru⟩ := rv.one
  cases ru
  obtain ⟨z, its, n, r, hl, e⟩ := I.lstM hH
  obtain ⟨z2, its2, n2, r2, hl2, e2⟩ := I.lstM hB
  have hsz : its.toArray.size + its2.toArray.size ≤ sizeLine := by rw [List.size_toArray, List.size_toArray]; omega
  have hlong : ¬ (!its.toArray.isEmpty && Builtin.List.listTooLong (its.toArray.size + its2.toArray.size)) = true := by
    rw [notLongL hsz, Bool.and_false]
    exact Bool.false_ne_true
  refine call_meets F.slot_list_extend ⟨_, e, rfl⟩ F.entry_list_extend (F.args_list_extend_2 _ _)
    (AutoSeq1.list_extend_list_list_0 l its.toArray n b its2.toArray n2 hlong (by rw [List.size_toArray]; omega) (by omega)) ⟨e, e2, ?_⟩
  refine ⟨.non, _, I.lset (its' := its ++ its2) hH e (by simp) (r.append r2) ?_, rfl, q⟩
  rw [List.length_append]
  omega

noncomputable def rPop : V → List V → Hp → VK → Prop := fun x vs H Q => ∃ l xs y, x = .ref l ∧ vs = [] ∧ H l = some (.lst xs) ∧ xs[xs.length - 1]? = some y ∧ Q y (upd H l (.lst xs.dropLast))
theorem mt_pop : MtM X "list.pop" rPop := by
  intro pins s σ H x vs v us Q I rx rv h
  obtain ⟨l, xs, y, rfl, rfl, hH, hy, q⟩ := h
  cases rx
  have hus := rv.zero
  subst hus
  obtain ⟨z, its, n, r, hl, e⟩ := I.lstM hH
  obtain ⟨u, hu, ru⟩ := r.get hy
  have hy' : its.toArray[its.toArray.size - 1]? = some u := by
    show its.toArray[its.length - 1]? = some u
    rw [← Array.getElem?_toList, ← hl]
    exact hu
  refine call_meets F.slot_list_pop ⟨_, e, rfl⟩ F.entry_list_pop (F.args_list_pop_1 _) (MeetsSeq.list_pop_last l its.toArray n u hy' (by rw [List.size_toArray]; omega)) ⟨e, ?_⟩
  refine ⟨y, _, I.lset (its' := its.dropLast) hH e ?_ r.dropLast ?_, ru, q⟩
  · show its.toArray.eraseIdxIfInBounds (its.toArray.size - 1) = its.dropLast.toArray
    rw [List.size_toArray, List.eraseIdxIfInBounds_toArray, erase_last]
  · rw [List.length_dropLast]
    omega

noncomputable def rPopAt : V → List V → Hp → VK → Prop := fun x vs H Q => ∃ l xs i k y, x = .ref l ∧ vs = [.int i] ∧ H l = some (.lst xs) ∧ -(2 ^ 63) ≤ i ∧ i < 2 ^ 63 ∧ seqIndex? i xs.length = some k ∧ xs[k]? = some y ∧ Q y (upd H l (.lst (xs.eraseIdx k)))
noncomputable def rReverse : V → List V → Hp → VK → Prop := fun x vs H Q => ∃ l xs, x = .ref l ∧ vs = [] ∧ H l = some (.lst xs) ∧ Q .non (upd H l (.lst xs.reverse))
noncomputable def rClear : V → List V → Hp → VK → Prop := fun x vs H Q => ∃ l xs, x = .ref l ∧ vs = [] ∧ H l = some (.lst xs) ∧ Q .non (upd H l (.lst []))
theorem mt_clear : MtM X "list.clear" rClear := by
  intro pins s σ H x vs v us Q I rx rv h
  obtain ⟨l, xs, rfl, rfl, hH, q⟩ := h
  cases rx
  have hus := rv.zero
  subst hus
  obtain ⟨z, its, n, r, hl, e⟩ := I.lstM hH
  refine call_meets F.slot_list_clear ⟨_, e, rfl⟩ F.entry_list_clear (F.args_list_clear_1 _) (AutoSeq1.list_clear_list_0 l its.toArray n (by rw [List.size_toArray]; omega)) ⟨e, ?_⟩
  exact ⟨.non, _, I.lset (its' := []) (ys := []) hH e rfl .nil (Nat.zero_le _), rfl, q⟩


noncomputable def rCat : R2 := fun x y H Q => ∃ l b xs zs, x = .ref l ∧ y = .ref b ∧ H l = some (.lst xs) ∧ H b = some (.lst zs) ∧ xs.length + zs.length ≤ sizeLine ∧ ∀ p, H p = none → Q (.ref p) (upd H p (.lst (xs ++ zs)))
theorem op_cat : OpR X (binaryOp .Add) rCat := by
  intro pins s σ H x y v u Q I rx ry h
  obtain ⟨l, b, xs, zs, rfl, rfl, hH, hB, hz, q⟩ := h
  cases rx
  cases ry
  obtain ⟨z, its, n, r, hl, e⟩ := I.lstM hH
  obtain ⟨z2, its2, n2, r2, hl2, e2⟩ := I.lstM hB
  refine PySem.P.add_list e e2 ?_ (by rw [List.size_toArray, List.size_toArray]; omega)
  have ea : its.toArray ++ its2.toArray = (its ++ its2).toArray := by simp
  rw [ea]
  exact ⟨.ref _, _, I.lnew (t' := s.toks) (r.append r2) (by rw [List.length_append]; omega), rfl, q _ I.fresh⟩

noncomputable def rRep : R2 := fun x y H Q => ∃ l k xs, x = .ref l ∧ y = .int k ∧ H l = some (.lst xs) ∧ -(2 ^ 63) ≤ k ∧ k < 2 ^ 63 ∧ xs.length * k.toNat ≤ sizeLine ∧
  ∀ p, H p = none → Q (.ref p) (upd H p (.lst (List.replicate k.toNat xs).flatten))
theorem len_rep {α : Type} (xs : List α) (k : Nat) : (List.replicate k xs).flatten.length = k * xs.length := by
  induction k with
  | zero => simp
  | succ k ih => rw [List.replicate_succ, List.flatten_cons, List.length_append, ih, Nat.succ_mul, Nat.add_comm]
theorem op_rep : OpR X (binaryOp .Mult) rRep := by
  intro pins s σ H x y v u Q I rx ry h
  obtain ⟨l, k, xs, rfl, rfl, hH, h1, h2, hz, q⟩ := h
  cases rx
  obtain ⟨t, rfl⟩ := ry
  obtain ⟨z, its, n, r, hl, e⟩ := I.lstM hH
  have hlen : its.toArray.size * k.toNat ≤ sizeLine := by rw [List.size_toArray, ← hl]; exact hz
  have hcap : ¬ its.toArray.size * k.toNat > (2 ^ 63 - 1) / 8 := by
    have : (sizeLine : Nat) ≤ (2 ^ 63 - 1) / 8 := by decide
    omega
  have hfit : ¬ (!Builtin.List.listFitsIndex k) = true := by
    rw [fitsIndex_both h1 h2]
    exact Bool.false_ne_true
  have hlong : ¬ Builtin.List.listTooLong (its.toArray.size * k.toNat) = true := by
    rw [notLongL hlen]
    exact Bool.false_ne_true
  have hnew : List.foldl (fun x1 x2 => x1 ++ x2) #[] (List.replicate (if its.toArray.isEmpty = true then 0 else k.toNat) its.toArray) = (List.replicate k.toNat its).flatten.toArray := by
    have f0 : ∀ m : Nat, List.foldl (fun x1 x2 => x1 ++ x2) #[] (List.replicate m its.toArray) = (List.replicate m its).flatten.toArray := fun m => by
      have := foldl_rep its m []
      rw [List.nil_append] at this
      exact this
    rw [f0]
    cases its with
    | nil => simp
    | cons a r' => rw [if_neg (by simp)]
  refine wpAny_binaryOp_repeat_ref (T := "list") (U := "int") (by decide) ⟨_, e, rfl⟩ (fun s' => typeIs_int s' k t) noFill_list_mul F.fills_int_mul F.slot_int_rmul repeat_list F.slot_int_index.lookup
    (call_meets F.slot_int_rmul (typeIs_int s k t) F.entry_int_rmul (F.args_int_rmul_2 _ _) (int___rmul___int_list k t l its.toArray n)
      ⟨e, rfl, ⟨_, e, rfl⟩, call_meets F.slot_list_mul ⟨_, e, rfl⟩ F.entry_list_mul (F.args_list_mul_2 _ _) (AutoListH.list___mul___list_int_3 l its.toArray n k t hfit hcap hlong) ⟨e, ?_⟩⟩)
  rw [hnew]
  exact ⟨.ref _, _, I.lnew (t' := s.toks) (r.rep k.toNat) (by rw [len_rep, Nat.mul_comm]; exact hz), rfl, q _ I.fresh⟩


end


section
variable {prog : Program} {w : World} {A : Around} {E : Value → Shared → Prop} {s : Shared}
end

section
variable {X : Cx}

end
end L2

namespace Att
open PySem PySem.W PySem.Calls PyProof.Rows


theorem ints_of_wellAll {P : Params} {h : Heap} : ∀ (ns : List Int) (vs : List Value), WellAll P h vs (ns.map WData.int) → IntsAre vs ns := by
  intro ns
  induction ns with
  | nil =>
    intro vs w
    rw [List.map_nil] at w
    cases w
    exact .nil
  | cons n ns ih =>
    intro vs w
    rw [List.map_cons] at w
    cases w with
    | cons a b =>
      cases a
      exact .cons _ _ (ih _ b)

theorem script_of {l : OpenLaw} {n : Nat} (hn : l.most = some n) {P : Params} {h : Heap} {args : List WData} {vals : List Value}
    (hpre : l.row.toRowW.claim.pre args = true) (hwl : WellAll P h vals args) :
    ∃ a vs ns, vals = [Value.ref a] ∧ args = [WData.list (ns.map WData.int)] ∧ h.get? a = some { cls := .type "list", data := .seq vs.toArray } ∧ IntsAre vs ns ∧ ns.length ≤ n := by
  have hsh : WShape.hasAll [] args [.list .int] = true := (pre_splitW hpre).1
  have hc : l.pre.holds [] { args := args } = true := (pre_splitW hpre).2
  obtain ⟨d, r, rfl, h1, h2⟩ := hasAllW_cons hsh
  obtain rfl := hasAllW_nil h2
  obtain ⟨xs, rfl, h3⟩ := hasW_list h1
  obtain ⟨ns, rfl⟩ := items_int h3
  have hlen : ns.length ≤ n := by
    unfold OpenLaw.pre at hc
    have h4 : (WTm.not (.lt (.lit (.int (n : Int))) (.len (.arg 0)))).holds [] { args := [.list (ns.map .int)] } = true := by
      have h4 := (holds_andW hc).1
      rw [hn] at h4
      exact h4
    have h5 := condW_of h4 (w_not (w_lt w_lit (w_len_list (w_arg rfl))))
    rw [List.length_map] at h5
    refine Nat.le_of_not_lt fun q => ?_
    have q' : (n : Int) < ((ns.length : Nat) : Int) := by omega
    first
      | (rw [decide_eq_true q'] at h5; exact absurd h5 (by decide))
      | (simp at h5; omega)
  cases hwl with
  | cons w1 w2 =>
    cases w2
    cases w1 with
    | list ho hall => exact ⟨_, _, ns, rfl, rfl, ho, ints_of_wellAll ns _ hall, hlen⟩

theorem post_true (l : OpenLaw) (args : List WData) : l.row.toRowW.claim.post args (.bool true) args = true :=
  postW_of (r := l.row.toRowW) (X := (true == true))
    (show WShape.has [] (.bool true) .bool = true by first | rfl | decide | simp [WShape.has, WShape.arms, WShape.armsAll])
    (show (WTm.eq .res (.lit (.bool true))).value [] { args := args, res := some (.bool true), after := args } = some (.bool (true == true)) from w_eq_bool (w_res rfl) w_lit) rfl


theorem attach_call {l : OpenLaw} {n : Nat} {q : Program} {loose : List Str} {XP : (Str → Option Value) → Heap → Prop} {YP : World → Heap → Prop} {d : DefRec}
    (hn : l.most = some n) (hdf : d.params.defaults = [])
    (call : ∀ (w : World) (s₀ s₁ : Shared) (mg mb : Str → Option Value) (fa : Addr) (o : Obj) (pm cd doc : Value) (a : Addr) (vs : List Value) (ns : List Int),
      Ground q loose [] XP w s₀ mg mb s₁.heap → YP w s₁.heap →
      s₁.heap.get? fa = some o → o.data = .func (docDef d.name d.params d.body d.scope pm cd doc) → s₁.heap.CodeRec cd d.name → mg d.name = some (.ref fa) →
      s₁.heap.get? a = some { cls := .type "list", data := .seq vs.toArray } → IntsAre vs ns → ns.length ≤ n → s₁.gens = #[] →
      codeAny (model l.prog w) callerA (.call (.ref fa) ⟨[.ref a], []⟩) (fun r s' => r = .ok (.ret (.bool true)) ∧ OldK s₁.heap s'.heap ∧ s'.os = s₁.os ∧ AllBare s'.gens) s₁) :
    WalkO q loose XP YP l.row.toRowW d [] (fun f vs => PySem.call f vs) := by
  intro w s₀ s₁ mg mb G Y fa o pm cd doc dV kV ho hd hcd hD hmg hg args vals as hpre hlay hrd hwl hlo
  obtain rfl : dV = .none := Dflts.none hD hdf
  obtain rfl : kV = .none := Dflts.noKw hD
  obtain ⟨a, vs, ns, rfl, rfl, hobj, hints, hlen⟩ := script_of hn hpre hwl
  refine enter_call (codeAny_mono (call w s₀ s₁ mg mb fa o pm cd doc a vs ns G Y ho (fd_plain hd) hcd hmg hobj hints hlen hg) fun r s' hq => ?_)
  obtain ⟨rfl, h2, h3, h4⟩ := hq
  exact ⟨.inl ⟨.bool true, .bool true, [], rfl, fun _ => rfl, .bool true, post_true l _, fun _ => ⟨List.Pairwise.nil, fun _ hm => (nomatch hm)⟩⟩, h2, h3, h4⟩


section
variable {prog : Program} {w : World} {A : Around} {E : Value → Shared → Prop} {s : Shared} {K : Frag}


noncomputable def noObjs (h : Heap) : Heap := { h with objs := #[] }
noncomputable def ledger (h : Heap) (L d : Addr) : List (Addr × Obj) := (List.range h.objs.size).filterMap fun a => if a = L ∨ a = d then none else (h.get? a).map fun o => (a, o)
end
end Att

namespace L2
open PySem PySem.Spec PyProof.Rows

theorem vals_ints : ∀ {vs : List Value} {ns : List Int}, IntsAre vs ns → Vals (ns.map V.int) vs
  | _, _, .nil => .nil
  | _, _, .cons n t h => .cons ⟨t, rfl⟩ (vals_ints h)


noncomputable def Only (H : Hp) : Prop := ∀ b, H b = none ∨ ∃ o xs, H b = some (.frz o (.lst xs))


theorem law_call {P : Program} {w : World} {K : PySem.W.Frag} {mg mb : Str → Option Value} {CX : CXT} {k : Nat} {fa a : Addr} {fd : FuncData} {x : Str} {sp : Sp} {s₁ : Shared} {vs : List Value} {ns : List Int}
    (KX : K.In s₁.heap) (hns : s₁.heap.Ns mainGlobals mg) (hb : s₁.heap.Ns builtinsNs mb) (hbb : ∀ x : Str, x ≠ "__name__" → mb x = bootBuiltins x) (hlim : s₁.heap.NoLimit) (hg : s₁.gens = #[])
    (ha : s₁.heap.get? a = some { cls := .type "list", data := .seq vs.toArray }) (hi : IntsAre vs ns) (hl : ns.length ≤ sizeLine) (hr : Room k callerA)
    (F : ∀ base : Heap, K.In base → base.Ns mainGlobals mg → FnOk P w K mg base CX k fa fd [x] sp) (hbind : ∀ (s : Shared) (u : Value), BindsTo s fd ⟨[u], []⟩ [(x, u)])
    (hsp : ∀ H : Hp, Only H → SqL K H a (ns.map V.int) → sp [.ref a] H (fun v _ => v = .bl true) fun _ _ _ => False)
    (hCX : ∀ H e s', CX [] H s₁ (fun _ _ _ => False) e s' → False) :
    codeAny (model P w) callerA (.call (.ref fa) ⟨[.ref a], []⟩) (fun r s' => r = .ok (.ret (.bool true)) ∧ OldK s₁.heap s'.heap ∧ s'.os = s₁.os ∧ AllBare s'.gens) s₁ := by
  have rv := vals_ints hi
  have lenV := hi.length
  -- from an abstract heap in which nothing but the script may be tracked
  have core : ∀ H : Hp, Only H → SqL K H a (ns.map V.int) → HOk P w H s₁.heap → (∀ b, H b ≠ none → b = a) → (H a ≠ none → K.lookup a = none) →
      codeAny (model P w) callerA (.call (.ref fa) ⟨[.ref a], []⟩) (fun r s' => r = .ok (.ret (.bool true)) ∧ OldK s₁.heap s'.heap ∧ s'.os = s₁.os ∧ AllBare s'.gens) s₁ := by
    intro H hO hS hok hA hK
    have base_of : ∀ {b : Addr} {o : Obj}, s₁.heap.get? b = some o → H b = none → (hidT s₁.heap H).get? b = some o := fun e n => hidT_get e n
    have noA : ∀ {b : Addr} {o : Obj} {es : Array DictEntry} {ep : Nat}, s₁.heap.get? b = some o → o.data = .dict es ep → H b = none := fun {b o es ep} e d => by
      cases q : H b with
      | none => rfl
      | some u =>
        have e' : b = a := hA b (by rw [q]; simp)
        subst e'
        rw [ha] at e; cases e
        have d' : Data.seq vs.toArray _ = Data.dict es ep := d
        cases d'
    have nsK : ∀ {b : Addr} {m : Str → Option Value}, s₁.heap.Ns b m → (hidT s₁.heap H).Ns b m := fun {b m} ⟨o, es, ep, e, d, r⟩ => ⟨o, es, ep, base_of e (noA e d), d, r⟩
    have hKb : K.In (hidT s₁.heap H) := fun b o e => base_of (KX b o e) (by
      cases q : H b with
      | none => rfl
      | some u =>
        have e' : b = a := hA b (by rw [q]; simp)
        subst e'
        rw [hK (by rw [q]; simp)] at e; cases e)
    have hM : Mod K mg (hidT s₁.heap H) := ⟨hKb, nsK hns, ⟨mb, nsK hb, hbb⟩, let ⟨mc, h1, h2⟩ := hlim; ⟨mc, nsK h1, h2⟩⟩
    have e0 : Env0 P w K mg (hidT s₁.heap H) callerA [] s₁ H := ⟨rfl, hM, fun b o e => of_hidT e, Nat.le_of_eq (hidT_size _ _), trivial, fun b hb => absurd (show b ∈ ([] : List Addr) from hb) (by simp), hok, .of_eq hg⟩
    refine codeAny_mono ((F _ hKb (nsK hns)).run callerA [] s₁ H ⟨[.ref a], []⟩ [.ref a] [.ref a] _ _ hr e0 (hbind s₁ (.ref a)) (.cons rfl .nil) (hsp H hO hS)) fun r s' h => ?_
    cases r with
    | error e => exact (hCX H e s' h).elim
    | ok fl =>
      cases fl with
      | next => exact False.elim h
      | brk => exact False.elim h
      | cont => exact False.elim h
      | ret u =>
        obtain ⟨v, H', os, bare, un, hok', r', q⟩ := h
        have q' : v = .bl true := q
        subst q'
        obtain rfl : u = Value.bool true := r'
        refine ⟨rfl, OldK.of_keep fun b o e => ?_, os, bare⟩
        cases q : H b with
        | none => exact un.keep b o e q (by intro z; exact absurd (show b ∈ ([] : List Addr) from z) (by simp)) (by simp)
        | some u =>
          rcases hO b with z | ⟨ob, xs, z⟩
          · rw [q] at z; cases z
          · have z2 := un.frzs b ob _ z
            obtain ⟨e1, _⟩ := hok b _ z
            obtain ⟨e2, _⟩ := hok' b _ z2
            rw [e] at e1; cases e1
            exact e2
  cases hk : K.lookup a with
  | some o =>
    -- the script is one of the module's own objects
    have e := KX a o hk
    rw [ha] at e
    cases e
    refine core (fun _ => none) (fun _ => .inl rfl) (.inr ⟨_, vs.toArray, _, hk, rfl, rfl, rfl, by rw [List.size_toArray, lenV]; exact hl, by simpa using rv⟩) (fun b u z => by have z' : (none : Option HO) = some u := z; cases z') (fun b z => absurd rfl z) fun z => absurd rfl z
  | none =>
    refine core (fun b => if b = a then some (.frz { cls := .type "list", data := .seq vs.toArray } (.lst (ns.map V.int))) else none) (fun b => ?_) (.inl (.inr ⟨{ cls := .type "list", data := .seq vs.toArray }, if_pos rfl⟩)) (fun b u z => ?_) (fun b z => ?_) fun _ => hk
    · by_cases hb : b = a
      · exact .inr ⟨_, _, if_pos hb⟩
      · exact .inl (if_neg hb)
    · by_cases hb : b = a
      · have z' := (if_pos hb).symm.trans z
        cases z'
        subst hb
        exact ⟨ha, by rw [List.length_map]; exact hl, vs, _, rv, ha⟩
      · have z' := (if_neg hb).symm.trans z
        cases z'
    · by_cases hb : b = a
      · exact hb
      · exact absurd (if_neg hb) z
end L2

namespace L2
open PySem PySem.Spec PyProof.Rows

noncomputable abbrev KOf {K : PySem.W.Frag} {h : Heap} (_ : K.In h) : PySem.W.Frag := K


theorem walk_of {l : PySem.W.OpenLaw} {n k : Nat} {q : Program} {loose : List Str} {XP : (Str → Option Value) → Heap → Prop} {YP : World → Heap → Prop} {d : DefRec} {K : Params → PySem.W.Frag} {CX : World → CXT} {sp : World → Sp} {x : Str}
    (hn : l.most = some n) (hn2 : n ≤ sizeLine) (hdf : d.params.defaults = []) (hr : Room k callerA)
    (hY : ∀ (w : World) (h : Heap), YP w h → (K w.params).In h)
    (F : ∀ (w : World) (mg : Str → Option Value) (fa : Addr) (h : Heap), (K w.params).In h → h.Ns mainGlobals mg → mg d.name = some (.ref fa) →
      ∃ fd : FuncData, (∀ (s : Shared) (u : Value), BindsTo s fd ⟨[u], []⟩ [(x, u)]) ∧
        ∀ base : Heap, (K w.params).In base → base.Ns mainGlobals mg → FnOk l.prog w (K w.params) mg base (CX w) k fa fd [x] (sp w))
    (hsp : ∀ (w : World) (H : Hp) (a : Addr) (ns : List Int), ns.length ≤ n → Only H → SqL (K w.params) H a (ns.map V.int) → sp w [.ref a] H (fun v _ => v = .bl true) fun _ _ _ => False)
    (hCX : ∀ (w : World) (H : Hp) (s : Shared) (e : Value) (s' : Shared), CX w [] H s (fun _ _ _ => False) e s' → False) :
    PySem.W.WalkO q loose XP YP l.row.toRowW d [] (fun f vs => PySem.call f vs) := by
  refine Att.attach_call hn hdf fun w s₀ s₁ mg mb fa o pm cd doc a vs ns G Y ho hd hcd hmg hobj hints hlen hg => ?_
  have KX := hY w _ Y
  obtain ⟨fd, hb, hF⟩ := F w mg fa _ KX G.T.g hmg
  exact law_call KX G.T.g G.T.b G.T.builtins G.T.nolimit hg hobj hints (Nat.le_trans hlen hn2) hr hF hb (fun H hO hS => hsp w H a ns hlen hO hS) fun H e s' => hCX w H s₁ e s'

end L2




namespace L2
open PySem PySem.Spec PyProof.Rows



noncomputable def inClass (s : Stmt) (j : Nat) : Stmt := match s with
  | .ClassDef _ _ _ body _ _ _ _ _ _ _ => body.getD j (.Pass ⟨0, 0, 0, 0⟩)
  | _ => .Pass ⟨0, 0, 0, 0⟩
noncomputable def defArgs (s : Stmt) : Arguments := match s with
  | .FunctionDef _ a _ _ _ _ _ _ _ _ => a
  | _ => { posonlyargs := [], args := [], vararg := none, kwonlyargs := [], kw_defaults := [], kwarg := none, defaults := [] }
noncomputable def defBody (s : Stmt) : List Stmt := match s with
  | .FunctionDef _ _ b _ _ _ _ _ _ _ => b
  | _ => []
noncomputable def defScope (s : Stmt) : Scope := match s with
  | .FunctionDef _ _ _ _ _ _ sc _ _ _ => sc
  | _ => { kind := .function, names := [], isGenerator := false, isCoroutine := false }


noncomputable abbrev CX0 : CXT := fun _ _ _ _ _ _ => False
noncomputable abbrev E0 : XK := fun _ _ _ => False
theorem pass0 {X : Cx} : Passes CX0 X E0 := fun _ _ _ _ _ _ _ h => h.elim


structure Fun (K : PySem.W.Frag) (x qual : Str) (st : Stmt) (f : Addr) (fd : FuncData) : Prop where
  ex : ∃ (oc : Value) (od : Option Addr) (kV doc pm : Value) (an : Option Addr) (cdv ct : Value) (osl : Array (Option Value)),
    fd = PySem.W.fnOf x qual (defArgs st) (defBody st) (defScope st) .none kV doc pm an cdv ct ∧ K.lookup f = some ⟨oc, od, .func fd, osl⟩ ∧ PySem.W.codeIn K cdv qual = true
  kp : PySem.W.keepIn K (.ref f) = true
section
variable {P : Program} {w : World} {K : PySem.W.Frag} {mg : Str → Option Value} {base : Heap}

theorem Fun.ok {x qual : Str} {st : Stmt} {f : Addr} {fd : FuncData} {N ps : List Str} {k : Nat} {sp : Sp} (F : Fun K x qual st f fd) (S : FnScope N ps (defScope st)) (len : ∀ vs H Q E, sp vs H Q E → vs.length = ps.length)
    (hbody : ∀ (cdv : Value) (A : Around) (outer : List Env) (s : Shared) (H : Hp) (vs : List V) (Q : VK) (E : XK), Room k (A.deeper (envOfC qual (defScope st) s.heap.objs.size f cdv)) → sp vs H Q E →
      ∃ t, PSs (cxOf CX0 P w K mg base N qual (defScope st) f cdv A outer s H E).nox (defBody st) t ∧ t { nx := fun _ H' => Q .non H', rt := Q } (start N vs) H) : FnOk P w K mg base CX0 (k + 1) f fd ps sp := by
  obtain ⟨oc, od, kV, doc, pm, an, cdv, ct, osl, rfl, lk, hcd⟩ := F.ex
  refine fn_of lk hcd S len fun A outer s H vs Q E hr hsp => ?_
  obtain ⟨t, h, q⟩ := hbody cdv A outer s H vs Q E hr hsp
  exact ⟨t, h.nox, q⟩

theorem Fun.binds {x qual : Str} {st : Stmt} {f : Addr} {fd : FuncData} {ps : List Str} (F : Fun K x qual st f fd)
    (h : ∀ (kV doc pm : Value) (an : Option Addr) (cdv ct : Value) (us : List Value), us.length = ps.length → bindArgs (PySem.W.fnOf x qual (defArgs st) (defBody st) (defScope st) .none kV doc pm an cdv ct) ⟨us, []⟩ = pure (ps.zip us)) : Binds K fd ps [] := by
  obtain ⟨oc, od, kV, doc, pm, an, cdv, ct, osl, rfl, lk, hcd⟩ := F.ex
  exact .all (h kV doc pm an cdv ct)
theorem fun_mk {x qual : Str} {st : Stmt} {f : Addr} {oc : Value} {od an : Option Addr} {osl : Array (Option Value)} {kV doc pm cdv ct : Value} (l : K.lookup f = some ⟨oc, od, .func (PySem.W.fnOf x qual (defArgs st) (defBody st) (defScope st) .none kV doc pm an cdv ct), osl⟩)
    (c : PySem.W.codeIn K cdv qual = true) (k : PySem.W.keepIn K (.ref f) = true) : Fun K x qual st f (PySem.W.fnOf x qual (defArgs st) (defBody st) (defScope st) .none kV doc pm an cdv ct) := ⟨⟨oc, od, kV, doc, pm, an, cdv, ct, osl, rfl, l, c⟩, k⟩
end
theorem hu_of {A : Around} {k : Nat} (hr : Room k A) : A.units + 1 < cLine := Nat.lt_of_le_of_lt (Nat.add_le_add_left (by decide : 1 ≤ 64) _) hr.units
section
variable {X : Cx}
theorem pv (i : Nat) {x : Str} {pos : Pos} (hN : X.N[i]? = some x := by rfl) (hv : Vis X.env.scope x := by first | exact Or.inl rfl | exact Or.inr (Or.inl rfl) | exact Or.inr (Or.inr rfl)) (hd : (x == ("__debug__" : Str)) = false := by decide)
    (hcd : (x == ("__classdict__" : Str)) = false := by decide) : PE X (.Name x pos) (tVar i) := pe_var hN hv hd hcd
end


theorem iteF {A B : Prop} (h : B) : if false = true then A else B := by
  rw [if_neg Bool.false_ne_true]
  exact h
theorem iteT {A B : Prop} (h : A) : if true = true then A else B := by
  rw [if_pos rfl]
  exact h
theorem ite2 {c A B : Prop} [Decidable c] (h1 : c → A) (h2 : ¬ c → B) : if c then A else B := by
  by_cases h : c
  · rw [if_pos h]
    exact h1 h
  · rw [if_neg h]
    exact h2 h
theorem iteNS {c A B : Prop} [Decidable c] (hc : c) (h : B) : if (!decide c) = true then A else B := by
  rw [decide_eq_true hc]
  exact iteF h



noncomputable def Same (H H' : Hp) : Prop := ∀ b o, H b = some o → H' b = some o
theorem Same.refl (H : Hp) : Same H H := fun _ _ h => h
theorem Same.trans {H H1 H2 : Hp} (a : Same H H1) (b : Same H1 H2) : Same H H2 := fun c o h => b c o (a c o h)
theorem Same.free {H H' : Hp} (e : Same H H') {l : Addr} (h : H' l = Option.none) : H l = Option.none := by
  cases q : H l with
  | none => rfl
  | some o =>
    rw [e l o q] at h
    cases h
theorem Same.seq {K : PySem.W.Frag} {H H' : Hp} {a : Addr} {xs : List V} (e : Same H H') (h : SqL K H a xs) : SqL K H' a xs := by
  rcases h with (h | ⟨o, h⟩) | h
  · exact .inl (.inl (e _ _ h))
  · exact .inl (.inr ⟨o, e _ _ h⟩)
  · exact .inr h

end L2
set_option Elab.async false
set_option linter.all false
set_option maxRecDepth 100000

namespace XK
open PySem PySem.W PySem.Spec PySem.Calls PyProof.Rows
section
variable {prog : Program} {w : World} {A : Around} {E : Value → Shared → Prop} {s : Shared} {K : Frag} {x D : Addr} {ox : Obj}


structure ExcCls (K : Frag) (D : Addr) : Prop where
  cls : (clsIn K D).isSome = true
  ga : findIn K (.ref D) "__getattribute__" = some (some (.builtin "BaseException.__getattribute__"))
  hook : findIn K (.ref D) "__getattr__" = some none
  ca : findIn K (.ref D) "__class__" = some (some (.builtin "object.__class__"))
  get : specialIn K (.builtin "object.__class__") "__get__" = some (some (.builtin "getset_descriptor.__get__"))
  tk : takesIn K (.builtin "object.__class__") = some true
  ob : mroIn K D (.type "object") = some true
  bx : mroIn K D (.type "BaseException") = some true

theorem found (c : ExcCls K D) : findObj K D none "__class__" = some (.bind (.builtin "getset_descriptor.__get__") (.builtin "object.__class__")) := by
  obtain ⟨cd, hc⟩ := Option.isSome_iff_exists.mp c.cls
  unfold findObj
  rw [hc, Option.bind_some, c.ca, Option.bind_some]
  simp [c.get, c.tk]

theorem ga_check {nameV : Value} {M : Model} {Q : Unit → Shared → Prop} (X : K.In s.heap) (c : ExcCls K D) (I : InstAt s.heap x ox D none) (h : Q () s) :
    wpAny M A (checkBuiltinCall "BaseException.__getattribute__" ⟨[.ref x, nameV], []⟩) Q E s := by
  have hk : builtinKind "BaseException.__getattribute__" = some .slot := by decide +kernel
  have hsplit : splitId "BaseException.__getattribute__" = some ("BaseException", "__getattribute__") := by decide +kernel
  have ha := F.args_bexc_ga (.ref x) nameV
  have L0 := I.type (M := M)
  have L1 := looks_mroIn (M := M) X c.bx
  obtain ⟨hh, g, d, t, os⟩ := s
  simp only [checkBuiltinCall, hk, hsplit]
  unfold isInstance
  repeat (first | exact h | refine wpAny_bind (L0.at ?_) | refine wpAny_bind (L1.at ?_) | refine L0.at ?_ | refine L1.at ?_ | wp_step)

theorem ga_entry {tk : Tok} {Q : Fin → Shared → Prop} (X : K.In s.heap) (c : ExcCls K D) (I : InstAt s.heap x ox D none) (h : Q (.done (.ret (.ref D))) s) :
    wpAny (model prog w) A (Builtin.«object.__getattribute__» ⟨[.ref x, .str "__class__" tk], []⟩) Q E s := by
  have L0 := I.type (M := model prog w)
  have L1 := looks_find (M := model prog w) X I (found c)
  obtain ⟨hh, g, d, t, os⟩ := s
  unfold Builtin.«object.__getattribute__»
  repeat (first | refine wpAny_bind (L0.at ?_) | refine wpAny_bind (L1.at ?_) | wp_step)
  exact class_get X I c.ob (wpAny_pure h)

theorem ga_attr {Q : Option Value → Shared → Prop} (X : K.In s.heap) (c : ExcCls K D) (I : InstAt s.heap x ox D none) (h : Q (some (.ref D)) { s with toks := s.toks + 1 }) :
    wpAny (model prog w) A (getAttr? (.ref x) "__class__") Q E s := by
  have L0 := I.type (M := model prog w)
  have L1 := looks_findIn (M := model prog w) X c.ga
  have L2 := looks_findIn (M := model prog w) X c.hook
  have f3 := PySem.F.attr_ValueError.ga.bind (.ref x)
  have hx2 : (Value.builtin "BaseException.__getattribute__" == Value.builtin "object.__getattribute__") = false := by decide +kernel
  have hx1 : (onTheHeap (Value.ref D) && Value.builtin "BaseException.__getattribute__" == Value.builtin "object.__getattribute__") = false := by rw [hx2]; rfl
  obtain ⟨hh, g, d, t, os⟩ := s
  unfold getAttr? getAttrBy? getAttrBy
  refine wpAny_bind (wpAny_mkText (wpAny_bind (wpAny_attempt (wpAny_holding (wpAny_bind (L0.at (wpAny_bind (L1.at ?_))))))))
  dsimp only
  rw [hx1, if_neg Bool.false_ne_true]
  unfold getAttrByItsOwn hookBefore
  rw [show onTheHeap (Value.ref D) = true from rfl, if_pos rfl]
  refine wpAny_bind (L2.at ?_)
  refine wpAny_bind (wpAny_attempt (wpAny_holding ?_))
  unfold callGetattribute
  rw [Bool.false_and, if_neg Bool.false_ne_true]
  unfold boundAndCalled
  rw [f3]
  refine wpAny_bind (wpAny_pure ?_)
  refine wpAny_call (codeAny_call_builtin PySem.F.attr_ValueError.ga.plain F.entry_bexc_ga (ga_check (s := ⟨hh, g, d, t + 1, os⟩) X c I (ga_entry (s := ⟨hh, g, d, t + 1, os⟩) X c I ?_)))
  repeat (first | exact h | wp_step)

theorem kitx_exc (c : ExcCls K D) : KitX K (.ref x) (.ref D) (fun h => InstAt h x ox D none) where
  ty := fun _ _ _ I => I.type
  it := fun M h X _ => by
    obtain ⟨cd, hc⟩ := Option.isSome_iff_exists.mp c.cls
    unfold clsIn at hc
    split at hc
    · rename_i ho
      intro A' Q' E' s' k q
      unfold isType loadHead
      exact wpAny_bind (wpAny_loadPart (k _ _ (X _ _ ho)) (wpAny_pure q))
    · cases hc
  ne := fun h tp dd its n sl X htp => by
    obtain ⟨cd, hc⟩ := Option.isSome_iff_exists.mp c.cls
    refine Bool.eq_false_iff.mpr fun q => ?_
    obtain rfl : D = tp := Value.ref.inj (beq_iff_eq.mp q)
    unfold clsIn at hc
    split at hc
    · rename_i ho
      cases (X _ _ ho).symm.trans htp
    · cases hc
  ca := fun X I k => ga_attr X c I k
end
end XK
set_option Elab.async false
set_option linter.all false
set_option maxRecDepth 100000

namespace L2
open PySem PySem.Spec PyProof.Rows


section
variable {M : Model} {A : Around} {E : Value → Shared → Prop} {s : Shared}

structure Entered (fl : List Addr) (e : Addr) (oe : Obj) (mark : Value) (h h' : Heap) (T : Addr) : Prop where
  keep : ∀ b o, b ≠ e → b ∉ fl → h.get? b = some o → h'.get? b = some o
  slot : ∀ b o, b ≠ e → h.get? b = some o → ∃ sl, h'.get? b = some { o with slots := sl }
  new : h.objs.size ≤ T
  recd : h'.get? e = some (oe.mapFields (·.setIfInBounds 1 (.ref T)))
  head : ∃ oT ts, h'.get? T = some oT ∧ oT.data = .fields ts ∧ ts[3]? = some mark

theorem enter_ok {base : Heap} {env : Env} {outer : List Env} {L e : Addr} {oe : Obj} {vs : Array Value} {head : Value} {b : Bool} {Q : Unit → Shared → Prop}
    (hfr : A.frames = some (env :: outer)) (hl : s.heap.FunFrames base (env :: outer)) (hf : env.frame = some L) (he : s.heap.get? e = some oe) (hd : oe.data = .fields vs) (hz : 1 < vs.size)
    (k : ∀ h' T, Entered ((env :: outer).filterMap (·.frame)) e oe (rawInt L) s.heap h' T → Q () { s with heap := h' }) :
    wpAny M A (do setField (.ref e) 1 (← EntryCells.newEntry head (← frameOf env) .none (rawInt L) .none (← entryPlaceOf L b))) Q E s := by
  have off : e ∉ (env :: outer).filterMap (·.frame) := fun hm => by
    obtain ⟨_, o, ho, nf⟩ := hl.mem hm
    rw [he] at ho
    cases ho
    exact nf vs hd
  refine wpAny_bind (wpAny_frameOf_fun hfr hl hf fun g so => ?_)
  refine wpAny_bind (wpAny_entryPlaceOf fun pl place => ?_)
  refine wpAny_bind ?_
  unfold EntryCells.newEntry newFields
  refine wpAny_newObj_type ?_ (place.sizeOk5 _ _ _ _ _)
  have g1 : g.get? e = some oe := (so.2.1 e off).trans he
  have g2 := Heap.get?_push_of_some (h := g) { cls := .type "traceback", dict := none, data := .fields ([head, .ref L, .none, rawInt L, .none] ++ (if pl.isEmpty then List.replicate 6 Value.none else pl)).toArray } g1
  have ne : g.objs.size ≠ e := Nat.ne_of_gt (Heap.lt_size g1)
  refine wpAny_setField g2 hd hz (k _ g.objs.size ?_)
  have oth : ∀ c o, c ≠ e → g.get? c = some o → ((g.push { cls := .type "traceback", dict := none, data := .fields ([head, .ref L, .none, rawInt L, .none] ++ (if pl.isEmpty then List.replicate 6 Value.none else pl)).toArray }).update e (Obj.mapFields (·.setIfInBounds 1 (Value.ref g.objs.size)))).get? c = some o := fun c o hc q => by
    rw [Heap.get?_update_other _ _ (Ne.symm hc)]
    exact Heap.get?_push_of_some _ q
  refine ⟨fun c o hc hm q => oth c o hc ((so.2.1 c hm).trans q), fun c o hc q => ?_, by rw [so.1]; exact Nat.le_refl _, ?_, ?_⟩
  · obtain ⟨sl, z⟩ := so.2.2 c o q
    exact ⟨sl, oth c _ hc z⟩
  · exact Heap.get?_update_self _ g2 (Obj.isFreed_of_fields (Obj.data_mapFields hd _))
  · refine ⟨_, _, (Heap.get?_update_other _ _ (Ne.symm ne)).trans (Heap.get?_push_size g rfl), rfl, ?_⟩
    simp
end



noncomputable def FlyX (X : Cx) (pins : List (Addr × Obj)) (H : Hp) (ea : Addr) (cls fl : Value) (h : Heap) : Prop :=
  FpOk X pins H ea ∧ ∃ oe vs, h.get? ea = some oe ∧ (oe.cls = cls ∧ oe.dict = none) ∧ oe.data = .fields vs ∧ vs[2]? = some .none ∧
    ((vs[1]? = some .none ∧ fl = .none) ∨ ∃ T oT ts, vs[1]? = some (.ref T) ∧ T ≠ ea ∧ FpOk X pins H T ∧ h.get? T = some oT ∧ oT.data = .fields ts ∧ ts[3]? = some fl)

section
variable {X : Cx} {pins : List (Addr × Obj)} {σ : St} {H : Hp} {s : Shared} {ea : Addr} {cls fl : Value} {M : Model} {A : Around} {E : Value → Shared → Prop} {Q : Unit → Shared → Prop}


theorem Inv.flown (I : Inv X pins σ H s) {b : Addr} (f : FpOk X pins H b) {h' : Heap} (k : ∀ c o, c ≠ b → s.heap.get? c = some o → h'.get? c = some o) : Inv X pins σ H { s with heap := h' } :=
  I.turned (t' := s.toks) k f.1 f.2.1 f.2.2.2.1 f.2.2.2.2.1 f.2.2.2.2.2

theorem ObjOk.some {P : Program} {w : World} {h : Heap} {a : Addr} {o : HO} (x : ObjOk P w H h a o) : ∃ u, h.get? a = some u := by
  cases o with
  | lst xs => obtain ⟨_, _, _, _, e⟩ := x; exact ⟨_, e⟩
  | tup xs => obtain ⟨_, _, _, u, e, _⟩ := x; exact ⟨_, e⟩
  | dK kvs => obtain ⟨_, _, _, _, u, _, _, e, _⟩ := x; exact ⟨u, e⟩
  | dT kvs => obtain ⟨_, _, _, _, u, _, _, e, _⟩ := x; exact ⟨u, e⟩
  | set S n => obtain ⟨u, _, _, _, e, _⟩ := x; exact ⟨u, e⟩
  | ins C dx fs => obtain ⟨_, _, _, e, _⟩ := x; exact ⟨_, e⟩
  | own y => exact x
  | xd fs => obtain ⟨_, ⟨u, _, _, e, _⟩, _⟩ := x; exact ⟨u, e⟩
  | rng lo hi => obtain ⟨_, _, _, e⟩ := x; exact ⟨_, e⟩
  | frz ob u => obtain ⟨e, _⟩ := x; exact ⟨_, e⟩
  | tbl ps => exact ⟨_, x⟩
  | met f y => exact ⟨_, x⟩
  | ext φ => exact x.2.1
theorem Inv.none_of (I : Inv X pins σ H s) {b : Addr} (hb : s.heap.get? b = none) : H b = none := by
  cases q : H b with
  | none => rfl
  | some o =>
    obtain ⟨u, e⟩ := (I.hok b o q).some
    rw [hb] at e
    cases e

theorem Inv.fpNone {H' : Hp} (I : Inv X pins σ H s) {b : Addr} (hb : s.heap.get? b = none) (hn : H' b = none) : FpOk X pins H' b := by
  refine ⟨hn, fun z => ?_, fun z => ?_, ?_, fun x c e z => ?_, fun p hp z => ?_⟩
  · obtain ⟨m, ⟨o, _, _, e, _⟩, _⟩ := I.loc
    rw [← z, hb] at e
    cases e
  · obtain ⟨_, o, e, _⟩ := I.funs.mem z
    rw [hb] at e
    cases e
  · by_cases hx : b ∈ X.ex
    · exact .inl hx
    · refine .inr ?_
      cases q : X.s₀.heap.get? b with
      | none => rfl
      | some o =>
        obtain ⟨o', e⟩ := I.base.there b o q hx
        rw [hb] at e
        cases e
  · obtain ⟨v, o, e', _⟩ := I.cell x c e
    rw [z, hb] at e'
    cases e'
  · have e := (I.pin p hp).1
    rw [z, hb] at e
    cases e


theorem flight_ok (I : Inv X pins σ H s) (F : FlyX X pins H ea cls fl s.heap) (k : ∀ s', Inv X pins σ H s' → FlyX X pins H ea cls .none s'.heap → Q () s') :
    wpAny M A (setFlight (.ref ea) none) Q E s := by
  obtain ⟨f0, oe, vs, he, hc, hd, h2, hh⟩ := F
  unfold setFlight
  rcases hh with ⟨h1, rfl⟩ | ⟨T, oT, ts, h1, hne, fT, hT, hdT, h3⟩
  · refine wpAny_bind (wpAny_field he hd h1 ?_)
    rw [if_neg (by decide)]
    exact wpAny_pure (k s I ⟨f0, oe, vs, he, hc, hd, h2, .inl ⟨h1, rfl⟩⟩)
  · have hz : 3 < ts.size := (Array.getElem?_eq_some_iff.mp h3).1
    refine wpAny_bind (wpAny_field he hd h1 ?_)
    rw [if_pos (show (Value.ref T != Value.none) = true by simp)]
    have oth : ∀ c, c ≠ T → (s.heap.update T (Obj.mapFields (·.setIfInBounds 3 ((none : Option Addr).elim Value.none fun f => rawInt f)))).get? c = s.heap.get? c := fun c hc => Heap.get?_update_other _ _ (Ne.symm hc)
    have hT' := Heap.get?_update_self (Obj.mapFields (·.setIfInBounds 3 ((none : Option Addr).elim Value.none fun f => rawInt f))) hT (Obj.isFreed_of_fields (Obj.data_mapFields hdT _))
    refine wpAny_setField hT hdT hz (k _ (I.flown fT fun c o hc q => (oth c hc).trans q) ⟨f0, oe, vs, (oth ea (Ne.symm hne)).trans he, hc, hd, h2, .inr ⟨T, _, _, h1, hne, fT, hT', Obj.data_mapFields hdT _, ?_⟩⟩)
    simp [hz]

theorem dict_mapFields (f : Array Value → Array Value) (o : Obj) : (Obj.mapFields f o).dict = o.dict := by
  obtain ⟨c, d, dt, sl⟩ := o
  cases dt <;> rfl

theorem enter_fly (I : Inv X pins σ H s) (hs : X.stack = X.env :: X.outer) (hf : X.env.frame = some X.env.locals) (hfr : A.frames = some X.stack) {oe : Obj} {vs : Array Value} {head : Value} {b : Bool}
    (f0 : FpOk X pins H ea) (he : s.heap.get? ea = some oe) (hc : oe.cls = cls ∧ oe.dict = none) (hd : oe.data = .fields vs) (h2 : vs[2]? = some .none) (hz : 1 < vs.size)
    (k : ∀ s', Inv X pins σ H s' → FlyX X pins H ea cls (rawInt X.env.locals) s'.heap → Q () s') :
    wpAny M A (do setField (.ref ea) 1 (← EntryCells.newEntry head (← frameOf X.env) .none (rawInt X.env.locals) .none (← entryPlaceOf X.env.locals b))) Q E s := by
  have stk : s.heap.FunFrames X.base (X.env :: X.outer) := by
    have q := I.stack
    rw [hs] at q
    exact q
  have fm : ∀ b, b ∈ (X.env :: X.outer).filterMap (·.frame) ↔ b = X.env.locals ∨ b ∈ X.fs := fun b => by
    rw [List.filterMap_cons, hf]
    exact List.mem_cons
  have fre : ∀ b ∈ (X.env :: X.outer).filterMap (·.frame), H b = none := fun b hb => I.stkFree b (by rw [hs]; exact hb)
  refine enter_ok (hfr.trans (congrArg some hs)) stk hf he hd hz fun h' T W => ?_
  have nT : ea ≠ T := Nat.ne_of_lt (Nat.lt_of_lt_of_le (Heap.lt_size he) W.new)
  have I' : Inv X pins σ H { s with heap := h' } := by
    refine I.step (g' := s.gens) (d' := s.drawn) (t' := s.toks) (ch := [ea]) (fun b hb => ?_) (fun b o hL hb hc q _ => ?_) (fun b o _ _ hc q _ => W.slot b o (fun z => hc (by simp [z])) q) (fun _ _ _ _ n => n)
      (fun b o hc q => ?_) (fun _ _ q => q) (fun _ _ _ q => q) (fun _ ps q => ⟨#[], by rw [q]; simp⟩) (fun m hm => ?_) (fun b u q => ?_) I.bare
    · obtain rfl : b = ea := by simpa using hb
      exact ⟨f0.2.2.2.1, f0.2.1, f0.2.2.2.2.1, f0.2.2.2.2.2⟩
    · exact W.keep b o (fun z => hc (by simp [z])) (fun z => ((fm b).mp z).elim hL hb) q
    · obtain ⟨sl, z⟩ := W.slot b o (fun z => hc (by simp [z])) q
      exact ⟨_, z⟩
    · obtain ⟨o, es, ep, ho, r⟩ := hm
      obtain ⟨sl, z⟩ := W.slot _ o (Ne.symm f0.2.1) ho
      exact ⟨_, es, ep, z, r⟩
    · refine (I.hok b u q).stay (fun c v hc z => ?_) (fun _ z => z) fun _ _ z => z
      have nc : H c ≠ none := by
        rcases hc with rfl | hc
        · rw [q]; simp
        · rw [hc]; simp
      exact W.keep c v (fun e => nc (by rw [e]; exact f0.1)) (fun e => nc (fre c e)) z
  obtain ⟨oT, ts, hT, hdT, h3⟩ := W.head
  refine k _ I' ⟨f0, _, _, W.recd, ⟨(Obj.cls_mapFields _ _).trans hc.1, (dict_mapFields _ _).trans hc.2⟩, Obj.data_mapFields hd _, ?_, .inr ⟨T, oT, ts, ?_, Ne.symm nT, ?_, hT, hdT, h3⟩⟩
  · rw [Array.getElem?_setIfInBounds_ne (by decide)]
    exact h2
  · simp [hz]
  · exact I.fpOk W.new (I.hok.fresh W.new)


theorem note_ok (I : Inv X pins σ H s) (F : FlyX X pins H ea cls .none s.heap) (hs : X.stack = X.env :: X.outer) (hf : X.env.frame = some X.env.locals) (hfr : A.frames = some X.stack)
    (k : ∀ s', Inv X pins σ H s' → FlyX X pins H ea cls (rawInt X.env.locals) s'.heap → Q () s') : wpAny M A (noteFrame (.ref ea) X.env) Q E s := by
  obtain ⟨f0, oe, vs, he, hc, hd, h2, hh⟩ := F
  unfold noteFrame
  simp only [hf]
  rcases hh with ⟨h1, _⟩ | ⟨T, oT, ts, h1, hne, fT, hT, hdT, h3⟩
  · refine wpAny_bind (wpAny_field he hd h1 ?_)
    rw [if_neg (by decide)]
    exact enter_fly I hs hf hfr f0 he hc hd h2 (Array.getElem?_eq_some_iff.mp h1).1 k
  · have hz : 3 < ts.size := (Array.getElem?_eq_some_iff.mp h3).1
    refine wpAny_bind (wpAny_field he hd h1 ?_)
    rw [if_pos (show (Value.ref T != Value.none) = true by simp)]
    refine wpAny_bind (wpAny_field hT hdT h3 ?_)
    rw [if_neg (show ¬ ((Value.none == rawInt X.env.locals) = true) by simp [rawInt])]
    have oth : ∀ c, c ≠ T → (s.heap.update T (Obj.mapFields (·.setIfInBounds 3 Value.none))).get? c = s.heap.get? c := fun c hc => Heap.get?_update_other _ _ (Ne.symm hc)
    refine wpAny_bind (wpAny_setField hT hdT hz ?_)
    exact enter_fly (I.flown fT fun c o hc q => (oth c hc).trans q) hs hf hfr f0 ((oth ea (Ne.symm hne)).trans he) hc hd h2 (Array.getElem?_eq_some_iff.mp h1).1 k
end



noncomputable def CXE (P : Program) (w : World) : CXT := fun outer H s E e s' => ∃ (ea : Addr) (cls : Value) (H' : Hp), e = .ref ea ∧ s'.os = s.os ∧ AllBare s'.gens ∧ Un (frs outer) [] H H' s.heap s'.heap ∧ HOk P w H' s'.heap ∧
  (s.heap.get? ea = none ∧ H' ea = none ∧ ∃ oe vs, s'.heap.get? ea = some oe ∧ (oe.cls = cls ∧ oe.dict = none) ∧ oe.data = .fields vs ∧ vs[2]? = some .none ∧
    ((vs[1]? = some .none) ∨ ∃ T oT ts, vs[1]? = some (.ref T) ∧ T ≠ ea ∧ s.heap.get? T = none ∧ H' T = none ∧ s'.heap.get? T = some oT ∧ oT.data = .fields ts ∧ ts[3]? = some .none)) ∧ E cls none H'


noncomputable def Throws (X : Cx) (E : XK) : Prop := ∀ (pins : List (Addr × Obj)) (σ : St) (H : Hp) (s : Shared) (ea : Addr) (cls : Value), Inv X pins σ H s → FlyX X pins H ea cls .none s.heap → E cls none H → X.xe (.ref ea) s

theorem throws_pass {P : Program} {w : World} {X : Cx} {E : XK} (hP : X.prog = P) (hw : X.w = w) (t : Throws X E) : Passes (CXE P w) X E := by
  subst hP hw
  intro pins σ H s e s' I c
  obtain ⟨ea, cls, H', rfl, os, bare, un, hok, ⟨n0, f0, oe, vs, he, hc, hd, h2, hh⟩, q⟩ := c
  have I' : Inv X pins σ H' s' := I.call' (ch := []) os un hok bare fun b z => absurd z (by simp)
  refine t pins σ H' s' ea cls I' ⟨I.fpNone n0 f0, oe, vs, he, hc, hd, h2, ?_⟩ q
  rcases hh with h1 | ⟨T, oT, ts, h1, ne, nT, fT, hT, hdT, h3⟩
  · exact .inl ⟨h1, rfl⟩
  · exact .inr ⟨T, oT, ts, h1, ne, I.fpNone nT fT, hT, hdT, h3⟩


theorem throws_fn {P : Program} {w : World} {K : PySem.W.Frag} {mg : Str → Option Value} {base : Heap} {N : List Str} {qual : Str} {scope : Scope} {f : Addr} {cd : Value} {A : Around} {outer : List Env} {s : Shared} {H : Hp} {E : XK} :
    Throws (cxOf (CXE P w) P w K mg base N qual scope f cd A outer s H E) E := by
  intro pins σ H' s' ea cls I F q
  show wpAny _ _ (leaving _ _) _ _ _
  unfold leaving
  refine wpAny_bind (note_ok I F rfl rfl I.ok.frames fun s1 I1 F1 => ?_)
  refine flight_ok I1 F1 fun s2 I2 F2 => ?_
  obtain ⟨f0, oe, vs, he, hc, hd, h2, hh⟩ := F2
  have ge : ∀ {b : Addr}, FpOk (cxOf (CXE P w) P w K mg base N qual scope f cd A outer s H E) pins H' b → s.heap.get? b = none := fun {b} z => by
    rcases z.2.2.2.1 with z | z
    · exact absurd (show b ∈ ([] : List Addr) from z) (by simp)
    · exact z
  refine ⟨ea, cls, H', rfl, I2.os, I2.bare, I2.base, I2.hok, ⟨ge f0, f0.1, oe, vs, he, hc, hd, h2, ?_⟩, q⟩
  rcases hh with ⟨h1, _⟩ | ⟨T, oT, ts, h1, ne, fT, hT, hdT, h3⟩
  · exact .inl h1
  · exact .inr ⟨T, oT, ts, h1, ne, ge fT, fT.1, hT, hdT, h3⟩



noncomputable abbrev veMro : List Value := [.type "ValueError", .type "Exception", .type "BaseException", .type "object"]
theorem exc_obj {K : PySem.W.Frag} {h : Heap} {C : Addr} {bmB : List Value} {newId : String} (X : K.In h) (q : PySem.W.excIn K C bmB newId = true) :
    ∃ bm N nm qn bs hd sn sub ab col dd k0 k1 k2 k3 k5 mN, h.get? C = some (excClassObj nm qn C N bs bm hd sn sub ab col dd k0 k1 k2 k3 k5 newId) ∧ h.Ns N mN ∧ mN "__init__" = none ∧ OwnTail h bmB bm := by
  unfold PySem.W.excIn at q
  split at q
  case h_2 => cases q
  case h_1 dd cd sl lk =>
    split at q
    case h_2 => cases q
    case h_1 C' bm k0 k1 k2 k3 n k5 em es =>
      simp only [Bool.and_eq_true, beq_iff_eq, Bool.not_eq_true'] at q
      obtain ⟨⟨⟨⟨⟨e1, e2⟩, e3⟩, e4⟩, e5⟩, e6⟩ := q
      subst e1 e2
      obtain ⟨c1, c2, c3, c4, c5, c6, c7, c8, c9, c10, c11⟩ := cd
      dsimp only at em e3 e5 e6
      subst em e3
      obtain ⟨ls⟩ := sl
      dsimp only at es
      subst es
      exact ⟨bm, c4, c1, c5, c2, c6, c7, c8, c9, c10, dd, k0, k1, k2, k3, k5, _, X _ _ lk, .of_isNs (PySem.W.isNs_of_in X e5), PySem.W.nsMap_none_of_in X e5 e6, PySem.W.tail_of_in X e4⟩

section
variable {X : Cx} {E : XK} {x : Str} {C : Addr} {e₀ : Expr} {rest : List Expr} {t : TA} {np cpos pos : Pos}
noncomputable def tRaise (E : XK) (C : Addr) (t : TA) : TS := fun _ σ H => t σ H fun vs H1 => vs.length ≤ sizeLine ∧ E (.ref C) none H1
theorem ps_raise (hE : Throws X E) (hc : X.calm = true) (hg : Gl X x) (hm : X.mg x = some (.ref C)) (hx : PySem.W.excIn X.K C veMro "ValueError.__new__" = true) (ha : PA X (e₀ :: rest) t)
    (he : starEach (e₀ :: rest) X.env = (false, eval e₀ X.env) :: starEach rest X.env := by exact starEach_cons rfl) (hpl : (backTo cpos (starEach rest X.env)).any (·.1) = false := by exact noStars rfl) (hdb : (x == ("__debug__" : Str)) = false := by decide) :
    PS X (.Raise (some (.Call (.Name x np) (e₀ :: rest) [] cpos)) none pos) (tRaise E C t) := by
  intro pins s σ H D I h
  obtain ⟨bm, N, nm, qn, bs, hd, sn, sub, ab, col, dd, k0, k1, k2, k3, k5, mN, oC, oN, ni, T⟩ := exc_obj I.ok.mod.kin hx
  have FB := PySem.F.excBase_ValueError
  refine wpAny_Raise_call_subT (C := C) (nm := nm) (q := qn) (N := N) (bs := bs) (bm := bm) (hdct := hd) (sn := sn) (sub := sub) (ab := ab) (col := col) (dd := dd) (k0 := k0) (k1 := k1) (k2 := k2) (k3 := k3) (k5 := k5) (mN := mN)
    FB (T.hasType FB.hasBase) (I.ok.hd hc) (by rw [he]; show (false || (backTo cpos (starEach rest X.env)).any (·.1)) = false; rw [hpl]; rfl) ni (ld_glob I hg hm ⟨rfl, ?_⟩ hdb)
  have q := ha cpos pins s σ H _ I h
  rw [he] at q ⊢
  refine Calls.evalArgs_plain (thn q fun us s2 ⟨vs, H1, I1, r, hl, w⟩ => ⟨rfl, by show us.length ≤ sizeLine; rw [← r.length]; exact hl, I1.bk _ _ oC, oN.keeps I1.bk, T.keeps I1.bk, fun h' e made => ?_⟩)
  obtain ⟨t0, there, _, _⟩ := made.there
  exact hE pins σ H1 _ e (.ref C) (I1.kept (t' := s2.toks) made.keeps) ⟨I1.fpNone made.new (I1.none_of made.new), _, _, there, ⟨rfl, rfl⟩, rfl, rfl, .inl ⟨rfl, rfl⟩⟩ w
end
end L2
set_option Elab.async false
set_option linter.all false
set_option maxRecDepth 100000
namespace L2
open PySem PySem.Spec PyProof.Rows


noncomputable abbrev Cx.tr (X : Cx) (pn : List (Addr × Obj)) (E : Value → Shared → Prop) : Cx := { X with pn := pn, xe := E }

noncomputable abbrev Cx.hdl (X : Cx) (pn : List (Addr × Obj)) (ea : Addr) (E : Value → Shared → Prop) : Cx := { X with pn := pn, xe := E, A := X.A.mark (some (.ref ea)), calm := false }

noncomputable def excO (ea : Addr) (oe : Obj) : HO := .frz oe (.ext fun h => ∃ o, h.get? ea = some o)
section
variable {X : Cx} {pn pins : List (Addr × Obj)} {σ : St} {H : Hp} {s : Shared} {E : Value → Shared → Prop} {ea : Addr}
theorem Cx.Ok.tr (ok : X.Ok) : (X.tr pn E).Ok :=
  ⟨ok.mod, ok.kind, ok.glob, ok.blt, ok.above, ok.inj, ok.has, ok.cab, ok.hd, ok.frames, ok.stk, ok.exf, ok.bs, ok.bsz, ok.noex, ok.exfs, ok.funs, ok.frf⟩
theorem Cx.Ok.hdl (ok : X.Ok) : (X.hdl pn ea E).Ok :=
  ⟨ok.mod, ok.kind, ok.glob, ok.blt, ok.above, ok.inj, ok.has, ok.cab, (fun z => nomatch z), ok.frames, ok.stk, ok.exf, ok.bs, ok.bsz, ok.noex, ok.exfs, ok.funs, ok.frf⟩
theorem Inv.tr (I : Inv X pins σ H s) : Inv (X.tr (X.pn ++ pins) E) [] σ H s :=
  ⟨I.ok.tr, I.os, I.bare, I.base, I.loc, I.cell, I.free, I.freeC, fun p hp => I.pin p (by simpa using hp), I.hok, I.len⟩
theorem Inv.toHdl {E' : Value → Shared → Prop} (I : Inv (X.tr pn E') [] σ H s) (ok : X.Ok) : Inv (X.hdl pn ea E) [] σ H s :=
  ⟨ok.hdl, I.os, I.bare, I.base, I.loc, I.cell, I.free, I.freeC, I.pin, I.hok, I.len⟩
theorem Inv.ofHdl (I : Inv (X.hdl (X.pn ++ pins) ea E) [] σ H s) (ok : X.Ok) : Inv X pins σ H s :=
  ⟨ok, I.os, I.bare, I.base, I.loc, I.cell, I.free, I.freeC, fun p hp => I.pin p (by simpa using hp), I.hok, I.len⟩
theorem Inv.ofTr (I : Inv (X.tr (X.pn ++ pins) E) [] σ H s) (ok : X.Ok) : Inv X pins σ H s :=
  ⟨ok, I.os, I.bare, I.base, I.loc, I.cell, I.free, I.freeC, fun p hp => I.pin p (by simpa using hp), I.hok, I.len⟩
theorem FlyX.toHdl {E' : Value → Shared → Prop} {cls fl : Value} {h : Heap} {eb : Addr} (F : FlyX (X.tr pn E') [] H ea cls fl h) : FlyX (X.hdl pn eb E) [] H ea cls fl h := F

theorem Inv.hold (I : Inv X pins σ H s) (f : FpOk X pins H ea) {oe : Obj} (he : s.heap.get? ea = some oe) : Inv X pins σ (upd H ea (excO ea oe)) s := by
  have off : ∀ b u, H b = some u → b ≠ ea := fun b u q z => by rw [z, f.1] at q; cases q
  refine I.step (h' := s.heap) (g' := s.gens) (d' := s.drawn) (t' := s.toks) (ch := [ea]) (fun b hb => ?_) (fun _ _ _ _ _ q _ => q) (fun b o _ _ _ q _ => ⟨o.slots, q⟩) (fun b o hc _ n => ?_) (fun b o _ q => ⟨o, q⟩)
    (fun b xs q => by rw [upd_ne (off b _ q)]; exact q) (fun b o u q => by rw [upd_ne (off b _ q)]; exact q) (fun b ps q => ⟨#[], by rw [upd_ne (off b _ q), q]; simp⟩) (fun _ z => z) (fun b u q => ?_) I.bare
  · obtain rfl : b = ea := by simpa using hb
    exact ⟨f.2.2.2.1, f.2.1, f.2.2.2.2.1, f.2.2.2.2.2⟩
  · rw [upd_ne (fun z => hc (by simp [z]))]
    exact n
  · by_cases hb : b = ea
    · subst hb
      rw [upd_same] at q
      cases q
      exact ⟨he, ⟨_, he⟩, ⟨_, he⟩, fun h1 h2 ⟨o, e⟩ k => ⟨o, k o e⟩⟩
    · rw [upd_ne hb] at q
      exact (I.hok b u q).stay (fun _ _ _ z => z) (fun c z => by rw [upd_ne (off c _ z)]; exact z) fun c xs z => by rw [upd_ne (off c _ z)]; exact z

theorem Inv.relocal {h' : Heap} {m' : Str → Option Value} {t' : Nat} (I : Inv X pins σ H s) (hn : h'.Ns X.env.locals m') (hs : Heap.SameBut X.env.locals s.heap h') :
    Inv X pins (X.N.map fun _ => none) H { s with heap := h', toks := t' } := by
  have nl : ∀ b o, X.s₀.heap.get? b = some o → b ≠ X.env.locals := fun b o e => Nat.ne_of_lt (Nat.lt_of_lt_of_le (Heap.lt_size e) I.ok.above)
  refine ⟨I.ok, I.os, I.bare, ⟨fun b o e n hb hx => ?_, fun b o e n hb hx => ?_, I.base.free, fun b o e hx => ?_, I.base.tups, I.base.frzs, I.base.tbls⟩, ⟨m', hn, fun i x v e1 e2 _ => ?_⟩, fun x c e => ?_, I.free, I.freeC, fun p hp => ?_, fun b u q => ?_, by simp⟩
  · exact (hs.2 b (nl b o e)).trans (I.base.keep b o e n hb hx)
  · obtain ⟨sl, q⟩ := I.base.slot b o e n hb hx
    exact ⟨sl, (hs.2 b (nl b o e)).trans q⟩
  · obtain ⟨o', q⟩ := I.base.there b o e hx
    exact ⟨o', (hs.2 b (nl b o e)).trans q⟩
  · rw [List.getElem?_map, e1] at e2
    cases e2
  · obtain ⟨v, z⟩ := I.cell x c e
    exact ⟨v, z.sameBut hs (I.cne x c e)⟩
  · obtain ⟨e, n, ne, nf, d⟩ := I.pin p hp
    exact ⟨(hs.2 p.1 ne).trans e, n, ne, nf, d⟩
  · refine (I.hok b u q).stay (fun c v hc z => (hs.2 c ?_).trans z) (fun _ z => z) fun _ _ z => z
    rintro rfl
    rcases hc with hc | hc
    · rw [← hc, I.free] at q; cases q
    · rw [I.free] at hc; cases hc
end


noncomputable def tryE (X : Cx) (pn : List (Addr × Obj)) (R : XK) : Value → Shared → Prop := fun e s => ∃ (ea : Addr) (cls : Value) (σ : St) (H : Hp), e = .ref ea ∧ Inv (X.tr pn fun _ _ => True) [] σ H s ∧ FlyX (X.tr pn fun _ _ => True) [] H ea cls .none s.heap ∧ R cls none H
theorem throws_try {X : Cx} {pn : List (Addr × Obj)} {R : XK} : Throws (X.tr pn (tryE X pn R)) R := by
  intro pins σ H s ea cls I F q
  refine ⟨ea, cls, σ, H, rfl, ⟨⟨I.ok.mod, I.ok.kind, I.ok.glob, I.ok.blt, I.ok.above, I.ok.inj, I.ok.has, I.ok.cab, I.ok.hd, I.ok.frames, I.ok.stk, I.ok.exf, I.ok.bs, I.ok.bsz, I.ok.noex, I.ok.exfs, I.ok.funs, I.ok.frf⟩, I.os, I.bare, I.base, I.loc, I.cell, I.free, I.freeC, fun p hp => I.pin p ?_, I.hok, I.len⟩, ?_, q⟩
  · rw [List.append_nil] at hp
    exact List.mem_append_left _ hp
  · have cut : ∀ {b : Addr}, FpOk (X.tr pn (tryE X pn R)) pins H b → FpOk (X.tr pn fun _ _ => True) [] H b := fun {b} f => ⟨f.1, f.2.1, f.2.2.1, f.2.2.2.1, f.2.2.2.2.1, fun p hp => f.2.2.2.2.2 p (by rw [List.append_nil] at hp; exact List.mem_append_left _ hp)⟩
    obtain ⟨f0, oe, vs, he, hc, hd, h2, hh⟩ := F
    refine ⟨cut f0, oe, vs, he, hc, hd, h2, ?_⟩
    rcases hh with z | ⟨T, oT, ts, h1, ne, fT, hT, hdT, h3⟩
    · exact .inl z
    · exact .inr ⟨T, oT, ts, h1, ne, cut fT, hT, hdT, h3⟩


noncomputable def fall (N : List Str) (D : Ends) : Ends := { nx := fun _ H => D.nx (N.map fun _ => none) H, rt := D.rt, bk := fun _ H => D.bk (N.map fun _ => none) H, ct := fun _ H => D.ct (N.map fun _ => none) H }
noncomputable def tTry (R : XK) (N : List Str) (i : Nat) (tb : TS) (th : Addr → TS) : TS := fun D σ H => tb D σ H ∧ ∀ (ea : Addr) (oe : Obj) (vs : Array Value) (cls : Value) (σ' : St) (H' : Hp), R cls none H' → H' ea = none → oe.cls = cls → oe.dict = none →
  oe.data = .fields vs → vs[2]? = some .none → σ'.length = N.length → th ea (fall N D) (σ'.set i (some (.ref ea))) (upd H' ea (excO ea oe))

theorem ps_try {X : Cx} {x n : Str} {i : Nat} {c : Addr} {R : XK} {tb : TS} {th : Addr → TS} {body suite : List Stmt} {b₀ : Stmt} {np hpos pos : Pos} (hs : X.stack = X.env :: X.outer) (hf : X.env.frame = some X.env.locals) (hg : Gl X x) (hm : X.mg x = some (.ref c))
    (hR : ∀ cls o H, R cls o H → PySem.W.exmOne X.K cls (.ref c) = some true) (hN : X.N.Nodup) (hi : X.N[i]? = some n) (hn : X.env.scope.names.lookup n = some .local)
    (hb : ∀ pn, PSs (X.tr pn (tryE X pn R)) body tb) (hh : ∀ pn ea E, PSs (X.hdl pn ea E) (b₀ :: suite) (th ea)) (hdb : (x == ("__debug__" : Str)) = false := by decide) :
    PS X (.Try body [.ExceptHandler (some (.Name x np)) (some n) (b₀ :: suite) hpos] [] [] pos) (tTry R X.N i tb th) := by
  intro pins s σ H D I h
  obtain ⟨h1, h2⟩ := h
  have ok := I.ok
  have cls0 : (X.env.scope.kind == .class || (X.env.scope.kind == .module && X.env.locals != X.env.globals)) = false := by rw [ok.kind]; rfl
  refine wpAny_Try_except (wpAny_mono (hb (X.pn ++ pins) [] s σ H D I.tr h1) (fun f s1 q => ?_) fun e s1 q => ?_)
  · cases f with
    | next =>
      obtain ⟨σ', H', I', q⟩ := q
      exact wpAny_execs_nil ⟨σ', H', I'.ofTr ok, q⟩
    | brk => obtain ⟨σ', H', I', q⟩ := q; exact ⟨σ', H', I'.ofTr ok, q⟩
    | cont => obtain ⟨σ', H', I', q⟩ := q; exact ⟨σ', H', I'.ofTr ok, q⟩
    | ret u => obtain ⟨v, σ', H', I', r, q⟩ := q; exact ⟨v, σ', H', I'.ofTr ok, r, q⟩
  · obtain ⟨ea, cls, σ1, H1, rfl, I1, F1, r1⟩ := q
    refine note_ok (X := X.tr (X.pn ++ pins) fun _ _ => True) I1 F1 hs hf I1.ok.frames fun s2 I2 F2 => ?_
    refine flight_ok I2 F2 fun s3 I3 F3 => ?_
    have J3 : Inv (X.hdl (X.pn ++ pins) ea fun _ _ => True) [] σ1 H1 s3 := I3.toHdl ok
    obtain ⟨_, oe3, _, he3, hc3, _⟩ := id F3
    refine wpAny_handleBy_cons (codeAny_handlers_test (ld_glob J3 hg hm ?_ hdb)) (by intro q; cases q)
    have LT : PySem.W.Looks (model X.prog X.w) s3.heap (typeOf (.ref ea)) cls := by
      rw [← hc3.1]
      exact (PySem.W.Looks.ld he3).andThen .now
    refine (PySem.W.exm_one J3.kIn LT (hR cls none H1 r1)).here ?_
    refine codeAny_handlers_suite_as ?_
    refine flight_ok J3 F3.toHdl fun s4 J4 F4 => ?_
    obtain ⟨f4, oe, vs, he, hc, hd, h2', _⟩ := F4
    have J5 := J4.hold f4 he
    refine store_ok (X := X.hdl (X.pn ++ pins) ea fun _ _ => True) J5 hN hi (.inl hn) (v := .ref ea) rfl (fun s6 J6 => ?_) (.inr hn)
    have len : σ1.length = X.N.length := I1.len
    have J6' : ∀ E, Inv (X.hdl (X.pn ++ pins) ea E) [] (σ1.set i (some (.ref ea))) (upd H1 ea (excO ea oe)) s6 := fun E => ⟨ok.hdl, J6.os, J6.bare, J6.base, J6.loc, J6.cell, J6.free, J6.freeC, J6.pin, J6.hok, J6.len⟩
    refine wpAny_mono (hh (X.pn ++ pins) ea _ [] s6 _ _ (fall X.N D) (J6' _) (h2 ea oe vs cls σ1 H1 r1 f4.1 hc.1 hc.2 hd h2' len)) (fun f s7 q => ?_) fun _ _ z => z
    have go : ∀ {σ7 : St} {H7 : Hp} {E7 : Value → Shared → Prop}, Inv (X.hdl (X.pn ++ pins) ea E7) [] σ7 H7 s7 → (∀ s8, Inv X pins (X.N.map fun _ => none) H7 s8 → SP X pins D f s8) →
        wpAny (model X.prog X.w) X.A (do bindName X.env n .none; unbindBehindTheSuite X.env n hpos) (fun _ s8 => SP X pins D f s8) X.xe s7 := fun {σ7 H7 E7} J k => by
      obtain ⟨m, hns, _⟩ := J.loc
      exact wpAny_nameGoes hn hns cls0 fun h' m' hn' hs' => k _ ((J.ofHdl ok).relocal hn' hs')
    cases f with
    | next => obtain ⟨σ', H', I', q⟩ := q; exact go I' fun s8 I8 => ⟨_, _, I8, q⟩
    | brk => obtain ⟨σ', H', I', q⟩ := q; exact go I' fun s8 I8 => ⟨_, _, I8, q⟩
    | cont => obtain ⟨σ', H', I', q⟩ := q; exact go I' fun s8 I8 => ⟨_, _, I8, q⟩
    | ret u => obtain ⟨v, σ', H', I', r, q⟩ := q; exact go I' fun s8 I8 => ⟨v, _, _, I8, r, q⟩
end L2
set_option Elab.async false
set_option linter.all false
set_option maxRecDepth 100000
namespace L2
open PySem PySem.Spec PyProof.Rows


noncomputable def Quiet (A : Around) (h : Heap) : Prop := A.handled = none ∨ ∃ ea oe vs, A.handled = some (.ref ea) ∧ h.get? ea = some oe ∧ oe.data = .fields vs ∧ vs[2]? = some .none
theorem Quiet.keeps {A : Around} {h h' : Heap} (q : Quiet A h) (k : ∀ b o, (A.handled = some (.ref b)) → h.get? b = some o → h'.get? b = some o) : Quiet A h' := by
  rcases q with q | ⟨ea, oe, vs, e1, e2, e3, e4⟩
  · exact .inl q
  · exact .inr ⟨ea, oe, vs, e1, k ea oe e1 e2, e3, e4⟩
theorem entry_unchain : entryFor table "proto.unchain" = some Builtin.«proto.unchain» := entryFor_of_tree (by kernel_rfl)
section
variable {prog : Program} {w : World} {A : Around} {E : Value → Shared → Prop} {s : Shared}
theorem raise_quiet {α : Type} {Q : α → Shared → Prop} {a : Addr} {oa : Obj} {ws : Array Value} (q : Quiet A s.heap) (ha : s.heap.get? a = some oa) (hd : oa.data = .fields ws) (hz : 2 < ws.size) (hne : A.handled ≠ some (.ref a))
    (k : ∀ h', (∀ b o, b ≠ a → s.heap.get? b = some o → h'.get? b = some o) → (∃ o', h'.get? a = some o' ∧ o'.cls = oa.cls) → E (.ref a) { s with heap := h' }) : wpAny (model prog w) A (raiseNew (.ref a) : Sem α) Q E s := by
  unfold raiseNew
  refine wpAny_bind (wpAny_handled ?_)
  rcases q with q | ⟨ea, oe, vs, e1, e2, e3, e4⟩
  · rw [q]
    exact wpAny_bind (wpAny_pure (wpAny_throw (k s.heap (fun _ _ _ z => z) ⟨oa, ha, rfl⟩)))
  · have ne : ea ≠ a := fun z => hne (by rw [← z]; exact e1)
    rw [e1]
    dsimp only
    rw [if_pos (show (Value.ref ea != Value.ref a) = true by simp [ne])]
    refine wpAny_bind (wpAny_holding (runValue_entry entry_unchain ?_))
    unfold Builtin.«proto.unchain»
    refine wpAny_bind (wpAny_field e2 e3 e4 ?_)
    rw [if_pos (by decide)]
    refine wpAny_bind (wpAny_pure (wpAny_pure ⟨.none, rfl, ?_⟩))
    refine wpAny_bind ?_
    unfold updateField
    refine wpAny_bind (wpAny_load ha ?_)
    rw [hd]
    dsimp only
    rw [if_pos hz]
    refine wpAny_update ha (wpAny_throw (k _ (fun b o hb z => (Heap.get?_update_other _ _ (Ne.symm hb)).trans z) ⟨_, Heap.get?_update_self _ ha (Obj.isFreed_of_fields (Obj.data_mapFields hd _)), Obj.cls_mapFields _ _⟩))


theorem stop_quiet {α : Type} {it : Addr} {o : Obj} {ws : Array Value} {Q : α → Shared → Prop} (q : Quiet A s.heap) (hi : A.handled ≠ some (.ref it)) (ho : s.heap.get? it = some o) (hd : o.data = .fields ws) (hz : 0 < ws.size)
    (k : ∀ h' e, (∀ b u, b ≠ it → s.heap.get? b = some u → h'.get? b = some u) → (∃ o', h'.get? e = some o' ∧ o'.cls = .type "StopIteration") → E (.ref e) { s with heap := h' }) :
    wpAny (model prog w) A (do setField (.ref it) 0 .none; raiseNew (← newExc (.type "StopIteration") []) : Sem α) Q E s := by
  refine wpAny_bind (wpAny_setField ho hd hz ?_)
  unfold newExc newTuple
  refine wpAny_bind (wpAny_bind (wpAny_newObj_type ?_ (by size_fits)))
  refine wpAny_bind (m := firstArgMember _ _) (wpAny_of_eq (a := Value.none) (by first | rfl | (simp only [firstArgMember]; rfl)) ?_)
  refine wpAny_newObj_type ?_ (by size_fits)
  have kp : ∀ (u1 u2 : Obj) b u, b ≠ it → s.heap.get? b = some u → (((s.heap.update it (Obj.mapFields (·.setIfInBounds 0 Value.none))).push u1).push u2).get? b = some u := fun u1 u2 b u hb z => Heap.get?_push_of_some _ (Heap.get?_push_of_some _ ((Heap.get?_update_other _ _ (Ne.symm hb)).trans z))
  have sz : ∀ u : Obj, ((s.heap.update it (Obj.mapFields (·.setIfInBounds 0 Value.none))).push u).objs.size = s.heap.objs.size + 1 := fun u => by rw [Heap.size_push, Heap.size_after_update]
  refine raise_quiet (q.keeps fun b u hb z => kp _ _ b u (fun c => hi (by rw [← c]; exact hb)) z) (Heap.get?_push_size _ rfl) rfl (by simp; omega) (fun z => ?_) fun h' k1 k2 => ?_
  · rcases q with q | ⟨ea, oe, vs, e1, e2, _⟩
    · rw [q] at z; cases z
    · rw [e1] at z
      have l1 := Heap.lt_size e2
      have c := Value.ref.inj (Option.some.inj z)
      rw [sz] at c
      rw [c] at l1
      exact absurd l1 (Nat.not_lt_of_le (Nat.le_succ _))
  · refine k h' _ (fun b u hb z => k1 b u (fun c => ?_) (kp _ _ b u hb z)) k2
    have l1 := Heap.lt_size z
    rw [sz] at c
    rw [c] at l1
    exact absurd l1 (Nat.not_lt_of_le (Nat.le_succ _))

theorem list_end_q {it l : Addr} {j : Nat} {its : Array Value} {Q : Option Value → Shared → Prop} (q : Quiet A s.heap) (hq : A.handled ≠ some (.ref it)) (hit : s.heap.IsListIter it l j) (hl : s.heap.IsList l its) (hx : its[j]? = none)
    (k : ∀ h', (∀ b u, b ≠ it → s.heap.get? b = some u → h'.get? b = some u) → Q none { s with heap := h' }) : wpAny (model prog w) A (pyNext (.ref it)) Q E s := by
  obtain ⟨oi, hoi, ci, di⟩ := id hit
  obtain ⟨ol, hol, _, nl, dl⟩ := hl
  unfold pyNext
  refine wpAny_bind (wpAny_attempt (wpAny_callSpecial?_slot (name := Str.ofString "__next__") hit.typeIs slot_listiter_next (wpAny_call_entry slot_listiter_next hit.typeIs entry_listiter_next ?_ (args_listiter_next _))))
  refine wpAny_bind (m := field (.ref it) 0) (wpAny_field hoi di (x := .ref l) rfl ?_)
  rw [if_neg (show ¬ ((Value.ref l == Value.none) = true) from Bool.false_ne_true)]
  refine wpAny_bind (m := field (.ref it) 1) (wpAny_field hoi di (x := .int j 0) rfl (wpAny_bind (m := seqItems? (.ref l)) (wpAny_seqItems hol dl ?_)))
  simp only [Int.toNat_natCast, hx]
  unfold Builtin.SmallTypes.stopIteration
  refine wpAny_bind (wpAny_rule (stop_quiet (A := A.in1) q hq hoi di (by simp) fun h' e k1 ⟨o', e1, e2⟩ => ?_))
  exact wpAny_bind (wpAny_isInstance (T := "StopIteration") (b := true) ⟨o', e1, e2⟩ isSubtype_stop (wpAny_pure (k h' k1)))

theorem tup_end_q {it l : Addr} {j : Nat} {its : Array Value} {Q : Option Value → Shared → Prop} (q : Quiet A s.heap) (hq : A.handled ≠ some (.ref it)) (hit : IsTupIter s.heap it l j) (hl : IsTup s.heap l its) (hx : its[j]? = none)
    (k : ∀ h', (∀ b u, b ≠ it → s.heap.get? b = some u → h'.get? b = some u) → Q none { s with heap := h' }) : wpAny (model prog w) A (pyNext (.ref it)) Q E s := by
  obtain ⟨oi, hoi, ci, di⟩ := id hit
  obtain ⟨ol, hol, _, nl, dl⟩ := hl
  unfold pyNext
  refine wpAny_bind (wpAny_attempt (wpAny_callSpecial?_slot (name := Str.ofString "__next__") hit.typeIs slot_tupleiter_next (wpAny_call_entry slot_tupleiter_next hit.typeIs entry_tupleiter_next ?_ (args_tupleiter_next _))))
  refine wpAny_bind (m := field (.ref it) 0) (wpAny_field hoi di (x := .ref l) rfl ?_)
  rw [if_neg (show ¬ ((Value.ref l == Value.none) = true) from Bool.false_ne_true)]
  refine wpAny_bind (m := field (.ref it) 1) (wpAny_field hoi di (x := .int j 0) rfl (wpAny_bind (m := seqItems? (.ref l)) (wpAny_seqItems hol dl ?_)))
  simp only [Int.toNat_natCast, hx]
  unfold Builtin.SmallTypes.stopIteration
  refine wpAny_bind (wpAny_rule (stop_quiet (A := A.in1) q hq hoi di (by simp) fun h' e k1 ⟨o', e1, e2⟩ => ?_))
  exact wpAny_bind (wpAny_isInstance (T := "StopIteration") (b := true) ⟨o', e1, e2⟩ isSubtype_stop (wpAny_pure (k h' k1)))

theorem unpack_q {l : Addr} {its : Array Value} {ts : List (Bool × (Value → Sem Unit))} {Q : Unit → Shared → Prop} (q : Quiet A s.heap) (hl : IsTup s.heap l its) (hn : ts.length = its.size) (hst : ts.findIdx? (·.1) = none)
    (k : ∀ h', (∀ b u, s.heap.get? b = some u → h'.get? b = some u) → wpAny (model prog w) A (assignInOrder (ts.map (·.2)) its.toList) Q E { s with heap := h' }) : wpAny (model prog w) A (unpack (.ref l) ts) Q E s := by
  have hlt : l ≠ s.heap.objs.size := by obtain ⟨o, e, _⟩ := hl; exact Nat.ne_of_lt (Heap.lt_size e)
  have new : A.handled ≠ some (.ref s.heap.objs.size) := fun z => by
    rcases q with q | ⟨ea, oe, vs, e1, e2, _⟩
    · rw [q] at z; cases z
    · rw [e1] at z
      have c := Value.ref.inj (Option.some.inj z)
      have l1 := Heap.lt_size e2
      rw [c] at l1
      exact Nat.lt_irrefl _ l1
  unfold unpack
  rw [hn, hst]
  refine wpAny_bind (wpAny_holding ?_)
  unfold unpackItems
  refine wpAny_bind ?_
  unfold notIterableAtAll
  refine wpAny_bind (wpAny_specialOf hl.typeIs slot_tuple_iter.lookup (wpAny_pure ?_))
  simp only [Bool.false_eq_true, if_false]
  refine wpAny_bind (wpAny_holding (iter_tuple hl (wpAny_bind (wpAny_holding (draw_tuple hlt its.size 0 _ _ ⟨_, Heap.get?_push_size _ rfl, rfl, rfl⟩ (hl.push _) (by omega) fun h1 hi1 hs1 => ?_)))))
  rw [show List.take its.size (List.drop 0 its.toList) = its.toList by rw [List.drop_zero]; exact List.take_of_length_le (by simp), if_neg (by simp)]
  have kp : ∀ b u, s.heap.get? b = some u → h1.get? b = some u := fun b u z => (hs1.2 b (Nat.ne_of_lt (Heap.lt_size z))).trans (Heap.get?_push_of_some _ z)
  refine wpAny_bind (wpAny_holding (tup_end_q (s := { s with heap := h1 }) (q.keeps fun b u _ z => kp b u z) new hi1 ((hl.push _).extBut hs1.extBut hlt) (by simp) fun h2 k2 => ?_))
  simp only [Option.isSome_none, Bool.false_eq_true, if_false]
  exact wpAny_pure (k h2 fun b u z => k2 b u (Nat.ne_of_lt (Heap.lt_size z)) (kp b u z))
end



noncomputable def HdR (A : Around) (H : Hp) : Prop := A.handled = none ∨ ∃ ea oe vs u, A.handled = some (.ref ea) ∧ H ea = some (.frz oe u) ∧ oe.data = .fields vs ∧ vs[2]? = some .none
section
variable {X : Cx} {pins : List (Addr × Obj)} {σ : St} {H : Hp} {s : Shared}
theorem Inv.quiet' (I : Inv X pins σ H s) (q : HdR X.A X.H₀) : Quiet X.A s.heap ∧ ∀ b, H b = none → X.A.handled ≠ some (.ref b) := by
  rcases q with q | ⟨ea, oe, vs, u, e1, e2, e3, e4⟩
  · exact ⟨.inl q, fun b _ z => by rw [q] at z; cases z⟩
  · have e := I.base.frzs ea oe u e2
    refine ⟨.inr ⟨ea, oe, vs, e1, (I.hok ea _ e).1, e3, e4⟩, fun b hb z => ?_⟩
    rw [e1] at z
    cases z
    rw [e] at hb
    cases hb
theorem Inv.hdr (I : Inv X pins σ H s) (q : HdR X.A X.H₀) : HdR X.A H := by
  rcases q with q | ⟨ea, oe, vs, u, e1, e2, e3, e4⟩
  · exact .inl q
  · exact .inr ⟨ea, oe, vs, u, e1, I.base.frzs ea oe u e2, e3, e4⟩

theorem pg_tupQ {es : List Expr} {k : Nat} {t : TGs} {n : Nat} {pos : Pos} (hq : HdR X.A X.H₀) (h : PGs X es t) (hn : (assignEach es X.env).length = n := by rfl) (hst : (assignEach es X.env).findIdx? (·.1) = none := by rfl) :
    PG X (.Tuple es k pos) (gTup X.K n t) := by
  intro pins s σ H v u Q I r hw
  obtain ⟨a, xs, e1, hs, hl, hw⟩ := hw
  subst e1
  cases r
  obtain ⟨its, rv, ht, hz⟩ := I.tuple hs
  rw [assign_Tuple]
  refine wpAny_bind (wpAny_standAt (unpack_q (I.quiet' hq).1 ht (by simp [hn, ← hl, rv.length]) hst fun h' kp => ?_))
  exact h pins _ σ H xs _ Q (I.kept (t' := s.toks) kp) (by simpa using rv) hw
end
end L2
set_option Elab.async false
set_option linter.all false
set_option maxRecDepth 100000
namespace L2
open PySem PySem.Spec PyProof.Rows


noncomputable def cxComp (X : Cx) (Nc : List Str) (scope : Scope) (cl : List (Str × Addr)) (C it : Addr) (s : Shared) (H : Hp) : Cx :=
  { X with N := Nc, s₀ := s, H₀ := H, env := compEnvC scope cl C X.env, outer := X.stack, ex := [it], fn := fun _ => false, pn := [], xe := fun _ _ => False }

noncomputable def PIf (X : Cx) (ifs : List Expr) (t : TT) : Prop :=
  ∀ (pins : List (Addr × Obj)) (s : Shared) (σ : St) (H : Hp) (Q : Bool → Hp → Prop), Inv X pins σ H s → t σ H Q →
    wpAny (model X.prog X.w) X.A (forIn ifs true fun c r => if r = true then do let ok ← isTrue c X.env (eval c X.env); pure (ForInStep.yield ok) else pure (ForInStep.yield r)) (TP X pins σ Q) X.xe s
noncomputable def tNoIf : TT := fun _ H Q => Q true H
theorem pif_nil {X : Cx} : PIf X [] tNoIf := fun _ _ _ H _ I h => wpAny_tests_nil ⟨H, I, h⟩
theorem pif_one {X : Cx} {c : Expr} {t : TT} (h : PT X c t) : PIf X [c] t := fun pins s σ H Q I q => wpAny_tests_one (h pins s σ H Q I q)


theorem comp_loop {prog : Program} {w : World} {A : Around} {R : Result → Shared → Prop} {s : Shared} {elt tgt iter : Expr} {ifs : List Expr} {scope : Scope} {pos : Pos} {it acc : Value} {env : Env} (J : Nat → Shared → Prop)
    (turn : ∀ n s, J n s → wpAny (model prog w) A (pyNext it) (fun r s1 => match r with
      | none => R (.ok .next) s1
      | some v => wpAny (model prog w) A (letOwnedTupleGo tgt it v) (fun _ s2 => wpAny (model prog w) A (assign tgt env v) (fun _ s3 =>
          wpAny (model prog w) A (forIn ifs true fun c r => if r = true then do let ok ← isTrue c env (eval c env); pure (ForInStep.yield ok) else pure (ForInStep.yield r)) (fun ok s4 =>
            if ok = true then wpAny (model prog w) A (eval elt env) (fun x s5 => wpAny (model prog w) A (call (.builtin "list.append") [acc, x]) (fun _ s6 => ∃ m, m < n ∧ J m s6) (fun _ _ => False) s5) (fun _ _ => False) s4
            else ∃ m, m < n ∧ J m s4) (fun _ _ => False) s3) (fun _ _ => False) s2) (fun _ _ => False) s1) (fun _ _ => False) s)
    (n : Nat) (h : J n s) : codeAny (model prog w) A (.compLoop (.ListComp elt [⟨tgt, iter, ifs, 0⟩] scope pos) 0 it acc env) R s := by
  refine codeAny_loop rfl J (fun n s hJ => ?_) n h
  show wpAny _ A ((compTurn (.ListComp elt [⟨tgt, iter, ifs, 0⟩] scope pos) 0 it acc env).onRaise (fun x => do noteFrame x env; theTreesLotGoes x)) _ _ s
  refine wpAny_noted (wpAny_mono (E := fun _ _ => False) ?_ (fun _ _ z => z) fun _ _ z => z.elim)
  rw [compTurn_list]
  refine wpAny_bind (wpAny_standAt (wpAny_bind (thn (turn n s hJ) fun r s1 h1 => ?_)))
  cases r with
  | none => exact wpAny_pure h1
  | some v =>
    refine wpAny_bind (thn h1 fun _ s2 h2 => wpAny_bind (thn h2 fun _ s3 h3 => wpAny_bind (thn h3 fun ok s4 h4 => ?_)))
    cases ok with
    | false => exact wpAny_pure ⟨rfl, h4⟩
    | true => exact wpAny_bind (wpAny_bind (thn h4 fun x s5 h5 => wpAny_bind (thn h5 fun _ s6 h6 => wpAny_pure (wpAny_pure ⟨rfl, h6⟩))))


noncomputable def capt (src : List (Option Nat)) (σ : St) : St := src.map fun o => o.bind fun j => (σ[j]?).join

noncomputable def tTurns (K : PySem.W.Frag) (a D : Addr) (xs : List V) (g : TG) (tt : TT) (te : TE) (fin : List V → Hp → Prop) (σ : St) (H : Hp) : Prop :=
  ∃ W : Nat → List V → St → Hp → Prop, W 0 [] σ H ∧ (∀ i ys σ H, W i ys σ H → SqL K H a xs ∧ H D = some (.lst ys)) ∧
    (∀ i x ys σ H, xs[i]? = some x → W i ys σ H → g x σ H fun σ1 H1 => tt σ1 H1 fun b H2 => if b = true then te σ1 H2 fun y H3 => H3 D = some (.lst ys) ∧ ys.length < sizeLine ∧ W (i + 1) (ys ++ [y]) σ1 (upd H3 D (.lst (ys ++ [y]))) else W (i + 1) ys σ1 H2) ∧
    ∀ ys σ H, W xs.length ys σ H → fin ys H
noncomputable def tComp (K : PySem.W.Frag) (src : List (Option Nat)) (tl : TE) (g : TG) (tt : TT) (te : TE) : TE := fun σ H Q => tl σ H fun x H1 => ∃ a xs, x = .ref a ∧ SqL K H1 a xs ∧
  ∀ D, H1 D = none → tTurns K a D xs g tt te (fun ys H2 => Q (.ref D) H2) (capt src σ) (upd H1 D (.lst []))

section
variable {X : Cx} {elt iter tgt : Expr} {ifs : List Expr} {scope : Scope} {cl : List (Str × Addr)} {Nc : List Str} {src : List (Option Nat)} {g : TG} {tt : TT} {te : TE}

structure CompOk (X : Cx) (Nc : List Str) (scope : Scope) (cl : List (Str × Addr)) (src : List (Option Nat)) : Prop where
  clos : closureFor scope X.env = pure cl
  kind : scope.kind = .function
  cell : ∀ y ∈ scope.names, y.2 ≠ .cell
  names : ∀ y ∈ scope.names, y.2 = .local → scope.names.lookup y.1 = some .local
  sub : ∀ x c, cl.lookup x = some c → X.env.cells.lookup x = some c
  has : ∀ x, ((relabel scope X.env).names.lookup x = some .cell ∨ (relabel scope X.env).names.lookup x = some .free) → ∃ c, cl.lookup x = some c
  frm : ∀ (i j : Nat), src[i]? = some (some j) → ∃ x, Nc[i]? = some x ∧ X.N[j]? = some x ∧ X.env.scope.names.lookup x = some .cell ∧ (relabel scope X.env).names.lookup x = some .cell
  len : src.length = Nc.length

theorem comp_block {pins : List (Addr × Obj)} {σ : St} {H : Hp} {s : Shared} {a D it : Addr} {xs : List V} {R : Addr → Result → Shared → Prop} {fin : List V → Hp → Prop} {pos : Pos} {E : Value → Shared → Prop}
    (c : CompOk X Nc scope cl src) (hq : HdR X.A X.H₀) (I : Inv X pins σ H s) (hit : s.heap.IsListIter it a 0) (f : FpOk X pins H it) (hz : xs.length ≤ sizeLine)
    (hb : ∀ C s' H', HdR X.A H' → PG (cxComp X Nc scope cl C it s' H') tgt g ∧ PIf (cxComp X Nc scope cl C it s' H') ifs tt ∧ PE (cxComp X Nc scope cl C it s' H') elt te)
    (h : tTurns X.K a D xs g tt te fin (capt src σ) H)
    (kend : ∀ C ys σ' H' s', H C = none → Inv (cxComp X Nc scope cl C it s H) [] σ' H' s' → H' D = some (.lst ys) → fin ys H' → R C (.ok .next) s') :
    wpAny (model X.prog X.w) X.A (newFunctionEnv scope X.env.globals cl [] X.env.qual none .none (some X.env)) (fun cenv s4 =>
      codeAny (model X.prog X.w) X.A (.compStart (.ListComp elt [⟨tgt, iter, ifs, 0⟩] scope pos) 0 (.ref it) (.ref D) { cenv with scope := relabel scope X.env }) (R cenv.locals) s4) E s := by
  obtain ⟨W, w0, wi, wt, wf⟩ := h
  refine wpAny_newFunctionEnv c.cell (by intro y hy; simp at hy) (fun h1 hn1 hs1 => ?_) c.kind
  have hC0 : H s.heap.objs.size = none := I.hok.fresh (Nat.le_refl _)
  have old : ∀ b o, s.heap.get? b = some o → h1.get? b = some o := fun b o e => hs1.extBut b o (Nat.ne_of_lt (Heap.lt_size e)) (Heap.get?_push_of_some _ e)
  have itlt : it < s.heap.objs.size := by obtain ⟨o, e, _⟩ := hit; exact Heap.lt_size e
  have inStk : it ∉ frs X.stack := fun z => (List.mem_cons.mp (I.stkSub it z)).elim f.2.1 f.2.2.1
  have Yok : (cxComp X Nc scope cl s.heap.objs.size it s H).Ok := by
    refine ⟨I.ok.mod, c.kind, I.ok.glob, I.ok.blt, Nat.le_refl _, fun x y b h1 h2 => I.ok.inj x y b (c.sub x b h1) (c.sub y b h2), fun x hx => c.has x hx, (fun x b h1 _ => nomatch h1), I.ok.hd, I.ok.frames, .inl rfl, fun b hb => ?_, fun b o e => I.bs b o e, Nat.le_trans I.ok.bsz I.sz, fun b o e hb => ?_, fun b hb => ?_, I.stack, I.stkFree⟩
    · obtain rfl : b = it := by simpa [cxComp] using hb
      exact ⟨Nat.ne_of_lt itlt, fun x b' e => f.2.2.2.2.1 x b' (c.sub x b' e)⟩
    · obtain rfl : b = it := by simpa [cxComp] using hb
      have e0 := (I.ok.bs b o e).1
      rcases f.2.2.2.1 with z | z
      · exact I.ok.noex b o e z
      · rw [z] at e0; cases e0
    · obtain rfl : b = it := by simpa [cxComp] using hb
      exact inStk
  have J0 : Inv (cxComp X Nc scope cl s.heap.objs.size it s H) [] (capt src σ) H { s with heap := h1, toks := s.toks + ([] : List (Str × Value)).length } := by
    refine ⟨Yok, rfl, I.bare, Un.kept old, ⟨_, hn1, fun i x v e1 e2 e3 => ?_⟩, fun x b e => ?_, hC0, fun x b e => I.freeC x b (c.sub x b e), fun p hp => absurd (show p ∈ ([] : List (Addr × Obj)) from hp) (by simp), I.hok.kept old, ?_⟩
    · unfold capt at e2
      rw [List.getElem?_map] at e2
      cases q : src[i]? with
      | none => rw [q] at e2; cases e2
      | some oj =>
        rw [q] at e2
        cases oj with
        | none => cases e2
        | some j =>
          obtain ⟨y, y1, y2, y3, y4⟩ := c.frm i j q
          obtain rfl : y = x := Option.some.inj (y1.symm.trans e1)
          have e2' : (σ[j]?).join = some v := Option.some.inj e2
          have e2s : σ[j]? = some (some v) := by
            cases z : σ[j]? with
            | none => rw [z] at e2'; cases e2'
            | some ov => rw [z] at e2'; exact congrArg some e2'
          obtain ⟨m, hn, hl⟩ := I.loc
          obtain ⟨u, r, l⟩ := hl j y v y2 e2s (.inr (.inl y3))
          refine ⟨u, r, .inr ⟨.inl y4, ?_⟩⟩
          rcases l with ⟨k1, _⟩ | ⟨_, b, k2, k3⟩
          · exact absurd (k1.symm.trans y3) (by intro z; cases z)
          · obtain ⟨b', k4⟩ := c.has y (.inl y4)
            have k5 := c.sub y b' k4
            rw [k2] at k5
            cases k5
            obtain ⟨o, ho, hd⟩ := k3
            exact ⟨b, k4, o, old b o ho, hd⟩
    · obtain ⟨v, o, ho, hd⟩ := I.cell x b (c.sub x b e)
      exact ⟨v, o, old b o ho, hd⟩
    · unfold capt
      rw [List.length_map]
      exact c.len
  have hit1 : h1.IsListIter it a 0 := hit.at fun o e => old it o e
  obtain ⟨bg, bi, be⟩ := hb s.heap.objs.size s H (I.hdr hq)
  have hq' : HdR (cxComp X Nc scope cl s.heap.objs.size it s H).A (cxComp X Nc scope cl s.heap.objs.size it s H).H₀ := I.hdr hq
  have fpY : ∀ {σ2 : St} {H2 : Hp} {s2 : Shared}, Inv (cxComp X Nc scope cl s.heap.objs.size it s H) [] σ2 H2 s2 → H2 it = none → FpOk (cxComp X Nc scope cl s.heap.objs.size it s H) [] H2 it := fun {σ2 H2 s2} J n =>
    ⟨n, Nat.ne_of_lt itlt, inStk, .inl (by simp [cxComp]), fun x b' e => f.2.2.2.2.1 x b' (c.sub x b' e), fun p hp => absurd (show p ∈ ([] : List (Addr × Obj)) from hp) (by simp)⟩
  have loop : codeAny (model X.prog X.w) X.A (.compLoop (.ListComp elt [⟨tgt, iter, ifs, 0⟩] scope pos) 0 (.ref it) (.ref D) (compEnvC scope cl s.heap.objs.size X.env)) (R s.heap.objs.size) { s with heap := h1, toks := s.toks + ([] : List (Str × Value)).length } := by
    refine comp_loop (fun n s' => ∃ i ys σ' H', n = xs.length - i ∧ i ≤ xs.length ∧ Inv (cxComp X Nc scope cl s.heap.objs.size it s H) [] σ' H' s' ∧ s'.heap.IsListIter it a i ∧ H' it = none ∧ W i ys σ' H') ?_ xs.length
      ⟨0, [], _, H, rfl, Nat.zero_le _, J0, hit1, f.1, w0⟩
    rintro n s2 ⟨i, ys, σ2, H2, rfl, hi, J2, it2, fr2, w2⟩
    obtain ⟨q1, q2⟩ := wi i ys σ2 H2 w2
    obtain ⟨its, rv, pl, hz'⟩ := J2.list q1
    by_cases hlt : i < xs.length
    · have hx : xs[i]? = some xs[i] := by simp [hlt]
      obtain ⟨u, hu, ru⟩ := rv.get hx
      refine wpAny_pyNext_list_item it2 pl.isList (x := u) (by simpa using hu) fun h3 it3 sb3 => ?_
      have J3 : Inv (cxComp X Nc scope cl s.heap.objs.size it s H) [] σ2 H2 { s2 with heap := h3 } := J2.flown (fpY J2 fr2) fun b o hb' e => (sb3.2 b hb').trans e
      obtain ⟨oi, ei, ci, di⟩ := id it3
      refine go_of (s := { s2 with heap := h3 }) ei ci di (by decide) ?_
      have J3' := J3.pinned (fp := [it]) (fun b hb' => by obtain rfl : b = it := (by simpa using hb'); exact fpY J3 fr2) (fun b hb' => by obtain rfl : b = it := (by simpa using hb'); exact ⟨oi, ei, fun v z => by rw [di] at z; cases z⟩)
      have back : ∀ {σ4 : St} {H4 : Hp} {s4 : Shared}, Inv (cxComp X Nc scope cl s.heap.objs.size it s H) ([] ++ pinsAt [it] h3) σ4 H4 s4 → Inv (cxComp X Nc scope cl s.heap.objs.size it s H) [] σ4 H4 s4 ∧ s4.heap.IsListIter it a (i + 1) ∧ H4 it = none := fun {σ4 H4 s4} J4 => by
        have p := J4.pin (it, oi) (List.mem_append_right _ (List.mem_append_right _ (mem_pinsAt (by simp) ei)))
        exact ⟨J4.unpinned, ⟨oi, p.1, ci, di⟩, p.2.1⟩
      refine thn (bg _ _ σ2 H2 xs[i] u _ J3' ru (wt i xs[i] ys σ2 H2 hx w2)) fun _ s4 ⟨σ4, H4, J4, q4⟩ => ?_
      refine thn (bi _ s4 σ4 H4 _ J4 q4) fun b s5 ⟨H5, J5, q5⟩ => ?_
      cases b with
      | false =>
        obtain ⟨J5', it5, fr5⟩ := back J5
        exact ⟨xs.length - (i + 1), by omega, i + 1, ys, σ4, H5, rfl, hlt, J5', it5, fr5, q5⟩
      | true =>
        refine thn (be _ s5 σ4 H5 _ J5 q5) fun y s6 ⟨vy, H6, J6, ry, hD6, hl6, q6⟩ => ?_
        refine thn (mt_append (X := cxComp X Nc scope cl s.heap.objs.size it s H) _ s6 σ4 H6 (.ref D) [vy] (.ref D) [y] (fun _ H' => H' = upd H6 D (.lst (ys ++ [vy]))) J6 rfl (.cons ry .nil) ⟨D, ys, vy, rfl, rfl, hD6, hl6, rfl⟩) fun _ s7 ⟨_, H7, J7, _, e7⟩ => ?_
        subst e7
        obtain ⟨J7', it7, fr7⟩ := back J7
        exact ⟨xs.length - (i + 1), by omega, i + 1, ys ++ [vy], σ4, _, rfl, hlt, J7', it7, fr7, q6⟩
    · have hie : i = xs.length := by omega
      subst hie
      obtain ⟨qt, qn⟩ := J2.quiet' hq'
      have hl := rv.length
      refine list_end_q qt (qn it fr2) it2 pl.isList (by simp; omega) fun h3 k3 => ?_
      exact kend _ ys σ2 H2 _ hC0 (J2.flown (fpY J2 fr2) k3) q2 (wf ys σ2 H2 w2)
  exact codeAny_compStart_list loop (wpAny_pyIter_listiter hit1 loop)


theorem comp_back {pins : List (Addr × Obj)} {σ σ' : St} {H H' : Hp} {s s' : Shared} {C it : Addr} {h' : Heap} (I : Inv X pins σ H s) (f : FpOk X pins H it) (J : Inv (cxComp X Nc scope cl C it s H) [] σ' H' s') (hs : Heap.SameBut C s'.heap h') :
    Inv X pins σ H' { s' with heap := h' } := by
  have nC : ∀ b o, s.heap.get? b = some o → b ≠ C := fun b o e => Nat.ne_of_lt (Nat.lt_of_lt_of_le (Heap.lt_size e) J.ok.above)
  have B := J.base
  refine I.call' (s' := { s' with heap := h' }) (ch := [it]) J.os ⟨fun b o e n hb hx => (hs.2 b (nC b o e)).trans (B.keep b o e n hb hx), fun b o e n hb hx => ?_, B.free, fun b o e hx => ?_, B.tups, B.frzs, B.tbls⟩ (fun b u q => ?_) J.bare fun b hb => ?_
  · obtain ⟨sl, z⟩ := B.slot b o e n hb hx
    exact ⟨sl, (hs.2 b (nC b o e)).trans z⟩
  · obtain ⟨o', z⟩ := B.there b o e hx
    exact ⟨o', (hs.2 b (nC b o e)).trans z⟩
  · have hC : H' C = none := J.free
    refine (J.hok b u q).stay (fun c v hc z => (hs.2 c ?_).trans z) (fun _ z => z) fun _ _ z => z
    rintro rfl
    rcases hc with hc | hc
    · rw [← hc, hC] at q; cases q
    · rw [hC] at hc; cases hc
  · obtain rfl : b = it := (by simpa using hb)
    exact ⟨f.2.2.2.1, f.2.1, f.2.2.2.2.1, f.2.2.2.2.2⟩

theorem pe_comp {tl : TE} {pos : Pos} (c : CompOk X Nc scope cl src) (hq : HdR X.A X.H₀) (hi : PE X iter tl)
    (hb : ∀ it C s' H', HdR X.A H' → PG (cxComp X Nc scope cl C it s' H') tgt g ∧ PIf (cxComp X Nc scope cl C it s' H') ifs tt ∧ PE (cxComp X Nc scope cl C it s' H') elt te)
    (hs : ∀ x, foldedSetIterable iter X.env x = pure x := by intro _; rfl) : PE X (.ListComp elt [⟨tgt, iter, ifs, 0⟩] scope pos) (tComp X.K src tl g tt te) := by
  intro pins s σ H Q I h
  rw [eval_ListComp]
  refine wpAny_comprehension_free (use := none) rfl hs c.clos c.kind c.names (thn (hi pins s σ H _ I h) fun v s1 ⟨x, H1, I1, r, a, xs, e, hS, hT⟩ => ?_)
  subst e
  cases r
  obtain ⟨its, rv, pl, hz⟩ := I1.list hS
  refine wpAny_pyIter_list pl.isList ?_
  have I2 : Inv X pins σ H1 { s1 with heap := s1.heap.push { cls := .type "list_iterator", data := .fields #[.ref a, .int 0 0] } } := I1.kept (t' := s1.toks) fun b o e => Heap.get?_push_of_some _ e
  have f2 : FpOk X pins H1 s1.heap.objs.size := I1.fpOk (Nat.le_refl _) (I1.hok.fresh (Nat.le_refl _))
  refine wpAny_newObj_type ?_ (by size_fits)
  have I3 := I2.laid (a := (s1.heap.push { cls := .type "list_iterator", data := .fields #[.ref a, .int 0 0] }).objs.size) (o := .lst []) (t' := s1.toks) (h' := (s1.heap.push { cls := .type "list_iterator", data := .fields #[.ref a, .int 0 0] }).push { cls := .type "list", data := .seq ([] : List Value).toArray }) (fun b o e => Heap.get?_push_of_some _ e) (Nat.le_refl _) ⟨Nat.zero_le _, [], 0, .nil, Heap.get?_push_size _ rfl⟩
  have ne : s1.heap.objs.size ≠ (s1.heap.push { cls := .type "list_iterator", data := .fields #[.ref a, .int 0 0] }).objs.size := by rw [Heap.size_push]; exact Nat.ne_of_lt (Nat.lt_succ_self _)
  have f3 : FpOk X pins (upd H1 (s1.heap.push { cls := .type "list_iterator", data := .fields #[.ref a, .int 0 0] }).objs.size (.lst [])) s1.heap.objs.size := ⟨by rw [upd_ne ne]; exact f2.1, f2.2⟩
  refine comp_block (it := s1.heap.objs.size) (R := fun C => compPost (model X.prog X.w) X.A X.xe none (EP X pins σ Q) _ C) c hq I3 ⟨_, Heap.get?_push_of_some _ (Heap.get?_push_size _ rfl), rfl, rfl⟩ f3 hz (hb _) (hT _ (I2.hok.fresh (Nat.le_refl _))) fun C ys σ' H' s' hC J hD q => ?_
  obtain ⟨m, hn, _⟩ := id J.loc
  exact ⟨m, hn, fun h' hs' => ⟨.ref _, H', comp_back I3 f3 J hs', rfl, q⟩⟩
end
end L2
set_option Elab.async false
set_option linter.all false
set_option maxRecDepth 100000
namespace L2
open PySem PySem.Spec PyProof.Rows

structure RoomQ (k : Nat) (A : Around) : Prop where
  dp : A.depth + 3 * k + 5 < recursionLimit
  un : A.units + 16 * k + 200 < cLine
theorem RoomQ.mono {j k : Nat} {A : Around} (r : RoomQ k A) (h : j ≤ k) : RoomQ j A := ⟨by have := r.dp; omega, by have := r.un; omega⟩
structure FnOkQ (P : Program) (w : World) (K : PySem.W.Frag) (mg : Str → Option Value) (base : Heap) (k : Nat) (f : Addr) (fd : FuncData) (ps : List Str) (sp : Sp) : Prop where
  len : ∀ vs H Q E, sp vs H Q E → vs.length = ps.length
  run : ∀ (A : Around) (outer : List Env) (s : Shared) (H : Hp) (args : Args) (us : List Value) (vs : List V) (Q : VK), RoomQ k A → HdR A H → Env0 P w K mg base A outer s H → BindsTo s fd args (ps.zip us) → Vals vs us → sp vs H Q E0 →
    codeAny (model P w) A (.call (.ref f) args) (CR CX0 outer P w H s Q E0) s

noncomputable def cxQ (P : Program) (w : World) (K : PySem.W.Frag) (mg : Str → Option Value) (base : Heap) (N : List Str) (qual : Str) (scope : Scope) (f : Addr) (cd : Value) (A : Around) (outer : List Env) (s : Shared) (H : Hp) : Cx :=
  { cxOf CX0 P w K mg base N qual scope f cd A outer s H E0 with calm := false, xe := fun _ _ => False }
section
variable {P : Program} {w : World} {K : PySem.W.Frag} {mg : Str → Option Value} {base : Heap}
theorem Fun.okQ {x qual : Str} {st : Stmt} {f : Addr} {fd : FuncData} {N ps : List Str} {k : Nat} {sp : Sp} (F : Fun K x qual st f fd) (S : FnScope N ps (defScope st)) (len : ∀ vs H Q E, sp vs H Q E → vs.length = ps.length)
    (hbody : ∀ (cdv : Value) (A : Around) (outer : List Env) (s : Shared) (H : Hp) (vs : List V) (Q : VK), RoomQ k (A.deeper (envOfC qual (defScope st) s.heap.objs.size f cdv)) → HdR (A.deeper (envOfC qual (defScope st) s.heap.objs.size f cdv)) H → sp vs H Q E0 →
      ∃ t, PSs (cxQ P w K mg base N qual (defScope st) f cdv A outer s H) (defBody st) t ∧ t { nx := fun _ H' => Q .non H', rt := Q } (start N vs) H) : FnOkQ P w K mg base (k + 1) f fd ps sp := by
  obtain ⟨oc, od, kV, doc, pm, an, cdv, ct, osl, rfl, lk, hcd⟩ := F.ex
  refine ⟨len, fun A outer s H args us vs Q hr hh e0 hb r hsp => ?_⟩
  have hl := len _ _ _ _ hsp
  have KX : K.In s.heap := e0.mod.kin.keeps fun b o e => (e0.bs b o e).1
  have lim : s.heap.NoLimit := e0.mod.nolimit.keeps fun b o e => (e0.bs b o e).1
  have dpt : A.depth < recursionLimit := by have := hr.dp; omega
  have kinds : ∀ y ∈ ps.zip us, (defScope st).names.lookup y.1 = some .local ∨ ((defScope st).names.lookup y.1 = some .cell ∧ ((cellsFrom (s.heap.objs.size + 1) (defScope st).names []).lookup y.1).isSome = true) := fun ⟨n, v⟩ hy => by
    rcases S.par n (List.of_mem_zip hy).1 with q | q
    · exact .inl q
    · exact .inr ⟨q, PySem.W.cellsFrom_some _ _ _ (.inl q)⟩
  refine codeAny_call_function dpt (KX _ _ lk) rfl S.co S.gen rfl (PySem.W.codeRec_of KX hcd) (hb _ _ _ _ ?_)
  refine wpAny_newFunctionEnv_cells S.kind kinds fun env he s1 x => ?_
  subst he
  refine ⟨lim.keeps x.toInCall.keep, codeAny_func ?_⟩
  have rq : RoomQ k (A.deeper (envOfC qual (defScope st) s.heap.objs.size f cdv)) := ⟨by have := hr.dp; show A.depth + 1 + 3 * k + 5 < _; omega, by have := hr.un; show A.units + 3 + 16 * k + 200 < _; omega⟩
  obtain ⟨t, ht, hq⟩ := hbody cdv A outer s H vs Q rq hh hsp
  have J := inv_start (CX := CX0) (E := E0) (A := { A with handled := none }) S rfl ⟨e0.frames, e0.mod, e0.bs, e0.bsz, e0.funs, e0.frf, e0.hok, e0.bare⟩ hl r x
  have I : Inv (cxQ P w K mg base N qual (defScope st) f cdv A outer s H) [] (start N vs) H s1 :=
    ⟨⟨J.ok.mod, J.ok.kind, J.ok.glob, J.ok.blt, J.ok.above, J.ok.inj, J.ok.has, J.ok.cab, (fun z => nomatch z), Around.frames_deeper e0.frames, J.ok.stk, J.ok.exf, J.ok.bs, J.ok.bsz, J.ok.noex, J.ok.exfs, J.ok.funs, J.ok.frf⟩, J.os, J.bare, J.base, J.loc, J.cell, J.free, J.freeC, J.pin, J.hok, J.len⟩
  refine wpAny_mono (ht [] s1 (start N vs) H _ I hq) (fun fl s' hs => ?_) fun e s' hs => False.elim hs
  have fin : ∀ {σ' : St} {H' : Hp} {v : V} {u : Value}, Inv (cxQ P w K mg base N qual (defScope st) f cdv A outer s H) [] σ' H' s' → RelV v u → Q v H' → CE outer P w H s Q u s' :=
    fun {σ' H' v u} J rv q => ⟨v, H', J.os, J.bare, J.base, J.hok, rv, q⟩
  cases fl with
  | ret u =>
    obtain ⟨v, σ', H', J, rv, q⟩ := hs
    exact fin J rv q
  | next =>
    obtain ⟨σ', H', J, q⟩ := hs
    exact fin (v := V.non) (u := Value.none) J rfl q
  | brk => obtain ⟨_, _, _, z⟩ := hs; exact False.elim z
  | cont => obtain ⟨_, _, _, z⟩ := hs; exact False.elim z

theorem Fun.okE {x qual : Str} {st : Stmt} {f : Addr} {fd : FuncData} {N ps : List Str} {k : Nat} {sp : Sp} (F : Fun K x qual st f fd) (S : FnScope N ps (defScope st)) (len : ∀ vs H Q E, sp vs H Q E → vs.length = ps.length)
    (hbody : ∀ (cdv : Value) (A : Around) (outer : List Env) (s : Shared) (H : Hp) (vs : List V) (Q : VK) (E : XK), Room k (A.deeper (envOfC qual (defScope st) s.heap.objs.size f cdv)) → sp vs H Q E →
      ∃ t, PSs (cxOf (CXE P w) P w K mg base N qual (defScope st) f cdv A outer s H E) (defBody st) t ∧ t { nx := fun _ H' => Q .non H', rt := Q } (start N vs) H) : FnOk P w K mg base (CXE P w) (k + 1) f fd ps sp := by
  obtain ⟨oc, od, kV, doc, pm, an, cdv, ct, osl, rfl, lk, hcd⟩ := F.ex
  exact fn_of lk hcd S len fun A outer s H vs Q E hr hsp => hbody cdv A outer s H vs Q E hr hsp

theorem passE {N : List Str} {qual : Str} {scope : Scope} {f : Addr} {cd : Value} {A : Around} {outer : List Env} {s : Shared} {H : Hp} {E : XK} : Passes (CXE P w) (cxOf (CXE P w) P w K mg base N qual scope f cd A outer s H E) E := throws_pass rfl rfl throws_fn
end

theorem passT {X : Cx} {pn : List (Addr × Obj)} {R : XK} : Passes (CXE X.prog X.w) (X.tr pn (tryE X pn R)) R := throws_pass rfl rfl throws_try

section
variable {X : Cx} {k : Nat} {f : Addr} {fd : FuncData} {ps : List Str} {sp : Sp} {x : Str} {p pos : Pos} {e : Expr} {es : List Expr} {t : TA}
noncomputable def tCallQ (A : Around) (sp : Sp) (t : TA) : TE := fun σ H Q => t σ H fun vs H1 => HdR A H1 ∧ sp vs H1 Q E0
theorem pe_callQ (F : FnOkQ X.prog X.w X.K X.mg X.base k f fd ps sp) (hr : RoomQ k X.A) (hg : Gl X x) (hm : X.mg x = some (.ref f)) (hk : PySem.W.keepIn X.K (.ref f) = true) (hb : Binds X.K fd ps []) (ha : PA X (e :: es) t)
    (hdb : (x == ("__debug__" : Str)) = false := by decide) (he : starEach (e :: es) X.env = (false, eval e X.env) :: starEach es X.env := by exact starEach_cons rfl) (hpl : (backTo pos (starEach es X.env)).any (·.1) = false := by exact noStars rfl) :
    PE X (.Call (.Name x p) (e :: es) [] pos) (tCallQ X.A sp t) := by
  intro pins s σ H Q I h
  refine wpAny_Call_Name_kw (ld_glob I hg hm ?_ hdb)
  refine PySem.W.callWith_K (h₀ := X.base) I.ok.mod.kin hk (thn (ha pos pins s σ H _ I h) fun us s1 ⟨vs, H1, I1, r, hd, q⟩ => ⟨I1.kIn, ?_⟩) he hpl
  have hl : us.length = ps.length := by rw [← r.length]; exact F.len _ _ _ _ q
  have B : BindsTo s1 fd ⟨us, []⟩ (ps.zip us) := by
    have z := hb s1 us I1.kIn (by rw [List.append_nil]; exact hl)
    rw [List.append_nil] at z
    exact z
  refine wpAny_call (codeAny_mono (F.run X.A X.stack s1 H1 ⟨us, []⟩ us vs Q hr hd I1.env0 B r q) fun r s' hq => ?_)
  cases r with
  | error e => exact False.elim hq
  | ok fl =>
    cases fl with
    | ret u => exact I1.after hq
    | next => exact False.elim hq
    | brk => exact False.elim hq
    | cont => exact False.elim hq
end



noncomputable def clsV : V → Option Value
  | .ref a => some (.ref a)
  | .ty n => some (.type n)
  | _ => none

noncomputable def TyX (K : PySem.W.Frag) (H : Hp) (x : V) (t : Value) : Prop :=
  TyOf K H x t ∨ ∃ a oe C vs, x = .ref a ∧ t = .ref C ∧ H a = some (excO a oe) ∧ oe.cls = .ref C ∧ oe.dict = none ∧ oe.data = .fields vs ∧ XK.ExcCls K C
section
variable {X : Cx}
theorem call_isinst : CallR X (.builtin "isinstance") (fun xs H Q => ∃ x c cv t b, xs = [x, c] ∧ clsV c = some cv ∧ TyX X.K H x t ∧ PySem.W.kitOne X.K t cv = some b ∧ Q (.bl b) H) := by
  intro pins s σ H xs us Q I r h
  obtain ⟨x, c, cv, t, b, rfl, hc, ty, hk, q⟩ := h
  obtain ⟨u, v, rfl, ru, rv⟩ := vals2 r
  obtain rfl : v = cv := by
    cases c with
    | ref a => cases hc; exact rv
    | ty n => cases hc; exact rv
    | _ => cases hc
  rcases ty with ty | ⟨a, oe, C, vs, rfl, rfl, ha, e1, e2, e3, ec⟩
  · exact isinst_ok I ru ty hk fun tk => ⟨.bl b, H, I.tok tk, rfl, q⟩
  · cases ru
    have g := (I.hok a _ ha).1
    have inst : PySem.W.InstAt s.heap a oe C none := ⟨g, e1, by unfold PySem.W.notCls; rw [e3], by rw [e2]; trivial⟩
    exact PySem.W.kia_one (XK.kitx_exc (ox := oe) ec) I.kIn inst hk (fun z => nomatch z) fun tk => ⟨.bl b, H, I.tok tk, rfl, q⟩


noncomputable def eqVs (xs ys : List V) : Bool := xs.length == ys.length && (List.range xs.length).all fun j => eqV (xs.getD j .non) (ys.getD j .non)
noncomputable def rEqL (K : PySem.W.Frag) (neg : Bool) : R2 := fun x y H Q => ∃ a b xs ys, x = .ref a ∧ y = .ref b ∧ SqL K H a xs ∧ SqL K H b ys ∧ xs.all flatV = true ∧ ys.all flatV = true ∧ Q (.bl (if neg then !eqVs xs ys else eqVs xs ys)) H
end
end L2
set_option Elab.async false
set_option linter.all false
set_option maxRecDepth 100000
namespace L2
open PySem PySem.Spec PyProof.Rows

noncomputable def Cal (P : Program) (w : World) (K : PySem.W.Frag) (mg : Str → Option Value) (base : Heap) (CX : CXT) (k : Nat) (x : Str) (ps : List Str) (sp : Sp) : Prop :=
  ∃ f fd, mg x = some (.ref f) ∧ PySem.W.keepIn K (.ref f) = true ∧ Binds K fd ps [] ∧ FnOk P w K mg base CX k f fd ps sp
noncomputable def CalQ (P : Program) (w : World) (K : PySem.W.Frag) (mg : Str → Option Value) (base : Heap) (k : Nat) (x : Str) (ps : List Str) (sp : Sp) : Prop :=
  ∃ f fd, mg x = some (.ref f) ∧ PySem.W.keepIn K (.ref f) = true ∧ Binds K fd ps [] ∧ FnOkQ P w K mg base k f fd ps sp
section
variable {X : Cx} {CX : CXT} {j k : Nat} {ps : List Str} {sp : Sp} {x : Str} {p pos : Pos} {e : Expr} {es : List Expr} {t : TA} {E : XK}
theorem pe_cal (C : Cal X.prog X.w X.K X.mg X.base CX k x ps sp) (hr : Room j X.A) (hj : k ≤ j) (hx : Passes CX X E) (ha : PA X (e :: es) t) (hg : Gl X x := by rfl)
    (hdb : (x == ("__debug__" : Str)) = false := by decide) (he : starEach (e :: es) X.env = (false, eval e X.env) :: starEach es X.env := by exact starEach_cons rfl) (hpl : (backTo pos (starEach es X.env)).any (·.1) = false := by exact noStars rfl) :
    PE X (.Call (.Name x p) (e :: es) [] pos) (fun σ H Q => t σ H fun vs H1 => sp vs H1 Q E) := by
  obtain ⟨f, fd, hm, hk, hb, F⟩ := C
  intro pins s σ H Q I h
  refine pe_call (dvs := []) F (hr.mono hj) hg hm hk hb .nil hx ha hdb he hpl pins s σ H Q I ?_
  unfold tCall
  simp only [List.append_nil]
  exact h
theorem pe_calQ (C : CalQ X.prog X.w X.K X.mg X.base k x ps sp) (hr : RoomQ j X.A) (hj : k ≤ j) (ha : PA X (e :: es) t) (hg : Gl X x := by rfl)
    (hdb : (x == ("__debug__" : Str)) = false := by decide) (he : starEach (e :: es) X.env = (false, eval e X.env) :: starEach es X.env := by exact starEach_cons rfl) (hpl : (backTo pos (starEach es X.env)).any (·.1) = false := by exact noStars rfl) :
    PE X (.Call (.Name x p) (e :: es) [] pos) (tCallQ X.A sp t) := by
  obtain ⟨f, fd, hm, hk, hb, F⟩ := C
  exact pe_callQ F (hr.mono hj) hg hm hk hb ha hdb he hpl
end

theorem boot_isinstance : bootBuiltins "isinstance" = some (.builtin "isinstance") := by kernel_rfl
theorem boot_int : bootBuiltins "int" = some (.type "int") := by kernel_rfl
theorem boot_bool : bootBuiltins "bool" = some (.type "bool") := by kernel_rfl
theorem boot_str : bootBuiltins "str" = some (.type "str") := by kernel_rfl
theorem boot_list : bootBuiltins "list" = some (.type "list") := by kernel_rfl
theorem boot_tuple : bootBuiltins "tuple" = some (.type "tuple") := by kernel_rfl
theorem boot_VE : bootBuiltins "ValueError" = some (.type "ValueError") := by kernel_rfl


noncomputable def OfT (K : PySem.W.Frag) (H : Hp) (v : V) (T : String) : Prop := TyOf K H v (.type T)
noncomputable def numT : List (String × Bool × Bool × Bool × Bool) := [("NoneType", false, false, false, false), ("bool", true, true, false, false), ("int", true, false, false, false), ("str", false, false, true, false), ("list", false, false, false, true), ("tuple", false, false, false, false), ("dict", false, false, false, false)]
theorem kit_tab {K : PySem.W.Frag} : ∀ r ∈ numT, PySem.W.kitOne K (.type r.1) (.type "int") = some r.2.1 ∧ PySem.W.kitOne K (.type r.1) (.type "bool") = some r.2.2.1 ∧ PySem.W.kitOne K (.type r.1) (.type "str") = some r.2.2.2.1 ∧ PySem.W.kitOne K (.type r.1) (.type "list") = some r.2.2.2.2 := by
  intro r hr
  simp only [numT, List.mem_cons, List.not_mem_nil, or_false] at hr
  rcases hr with rfl | rfl | rfl | rfl | rfl | rfl | rfl <;> exact ⟨by rfl, by rfl, by rfl, by rfl⟩

noncomputable def NoNum (K : PySem.W.Frag) (H : Hp) (v : V) : Prop := ∃ r ∈ numT, TyOf K H v (.type r.1) ∧ r.1 ≠ "int"
noncomputable def NoStr (K : PySem.W.Frag) (H : Hp) (v : V) : Prop := ∃ r ∈ numT, TyOf K H v (.type r.1) ∧ r.1 ≠ "str"
end L2
set_option Elab.async false
set_option linter.all false
set_option maxRecDepth 100000
namespace L2
open PySem PySem.Spec PyProof.Rows

section
variable {κ : Type} [DecidableEq κ]
noncomputable def valV (kvs : List (κ × V)) (k : κ) : Option V := (kvs.find? fun kv => decide (kv.1 = k)).map (·.2)

noncomputable def putK (kvs : List (κ × V)) (k : κ) (v : V) : List (κ × V) :=
  if (kvs.any fun kv => decide (kv.1 = k)) = true then kvs.map (fun kv => if kv.1 = k then (kv.1, v) else kv) else kvs ++ [(k, v)]
noncomputable def dropK (kvs : List (κ × V)) (k : κ) : List (κ × V) := kvs.filter fun kv => decide (kv.1 ≠ k)

theorem valV_pos {p : κ × V} {r : List (κ × V)} {k : κ} (e : p.1 = k) : valV (p :: r) k = some p.2 := by simp [valV, List.find?_cons, e]
theorem valV_neg {p : κ × V} {r : List (κ × V)} {k : κ} (e : ¬ p.1 = k) : valV (p :: r) k = valV r k := by simp [valV, List.find?_cons, e]
theorem valV_any (k : κ) : ∀ kvs : List (κ × V), (kvs.any fun kv => decide (kv.1 = k)) = (valV kvs k).isSome
  | [] => rfl
  | p :: r => by
    rw [List.any_cons]
    by_cases e : p.1 = k
    · simp only [valV_pos e, decide_eq_true e, Bool.true_or, Option.isSome_some]
    · rw [valV_neg e, decide_eq_false e, Bool.false_or]; exact valV_any k r
theorem valV_map (k j : κ) (y : V) : ∀ kvs : List (κ × V), valV (kvs.map fun kv => if kv.1 = k then (kv.1, y) else kv) j = (valV kvs j).map fun x => if j = k then y else x
  | [] => rfl
  | p :: r => by
    have ih := valV_map k j y r
    rw [List.map_cons]
    by_cases h : p.1 = k
    · rw [if_pos h]
      by_cases e : p.1 = j
      · rw [valV_pos (p := (p.1, y)) e, valV_pos e, Option.map_some, if_pos (e.symm.trans h)]
      · rw [valV_neg (p := (p.1, y)) e, valV_neg e, ih]
    · rw [if_neg h]
      by_cases e : p.1 = j
      · rw [valV_pos (p := p) e, valV_pos e, Option.map_some, if_neg (fun z => h (e.trans z))]
      · rw [valV_neg (p := p) e, valV_neg e, ih]
theorem valV_snoc (k j : κ) (y : V) : ∀ kvs : List (κ × V), valV kvs k = none → valV (kvs ++ [(k, y)]) j = if j = k then some y else valV kvs j
  | [], _ => by
    by_cases e : k = j
    · rw [if_pos e.symm]; exact valV_pos (p := (k, y)) e
    · rw [if_neg (fun z => e z.symm)]; exact valV_neg (p := (k, y)) e
  | p :: r, hn => by
    rw [List.cons_append]
    have hk : ¬ p.1 = k := fun z => by rw [valV_pos z] at hn; cases hn
    rw [valV_neg hk] at hn
    have ih := valV_snoc k j y r hn
    by_cases e : p.1 = j
    · rw [valV_pos e, valV_pos e, if_neg (fun z => hk (e.trans z))]
    · rw [valV_neg e, valV_neg e, ih]
theorem valV_put (kvs : List (κ × V)) (k j : κ) (y : V) : valV (putK kvs k y) j = if j = k then some y else valV kvs j := by
  unfold putK
  by_cases a : (kvs.any fun kv => decide (kv.1 = k)) = true
  · rw [if_pos a, valV_map]
    rw [valV_any] at a
    by_cases e : j = k
    · obtain ⟨x, hx⟩ := Option.isSome_iff_exists.mp a
      rw [if_pos e, e, hx, Option.map_some, if_pos rfl]
    · rw [if_neg e]
      cases valV kvs j with
      | none => rfl
      | some x => rw [Option.map_some, if_neg e]
  · rw [if_neg a]
    refine valV_snoc k j y kvs ?_
    rw [valV_any] at a
    cases q : valV kvs k with
    | none => rfl
    | some x => rw [q] at a; exact (a rfl).elim
theorem length_putK (kvs : List (κ × V)) (k : κ) (v : V) : (putK kvs k v).length ≤ kvs.length + 1 := by
  unfold putK
  split
  · rw [List.length_map]; omega
  · rw [List.length_append, List.length_cons, List.length_nil]; omega
theorem RelO.isSome_eq {o : Option V} {u : Option Value} (r : RelO o u) : o.isSome = u.isSome := by
  cases o with
  | none => cases u with
    | none => rfl
    | some _ => exact (show False from r).elim
  | some _ => cases u with
    | none => exact (show False from r).elim
    | some _ => rfl
theorem RelO.getD {o : Option V} {u : Option Value} {d : V} {d' : Value} (r : RelO o u) (rd : RelV d d') : RelV (o.getD d) (u.getD d') := by
  cases o with
  | none => cases u with
    | none => exact rd
    | some _ => exact (show False from r).elim
  | some _ => cases u with
    | none => exact (show False from r).elim
    | some _ => exact r


theorem KV.val {kvs : List (κ × V)} {vs : List (κ × Value)} (r : KV kvs vs) (k : κ) : RelO (valV kvs k) (valueAt vs k) := by
  unfold KV at r
  induction r with
  | nil => exact True.intro
  | @cons p q ps qs h t ih =>
    obtain ⟨h1, h2⟩ := h
    by_cases e : p.1 = k
    · have e' : q.1 = k := h1.symm.trans e
      have b : valueAt (q :: qs) k = some q.2 := by simp [valueAt, List.find?_cons, e']
      rw [valV_pos e, b]; exact h2
    · have e' : ¬ q.1 = k := fun z => e (h1.trans z)
      have b : valueAt (q :: qs) k = valueAt qs k := by simp [valueAt, List.find?_cons, e']
      rw [valV_neg e, b]; exact ih
theorem KV.any {kvs : List (κ × V)} {vs : List (κ × Value)} (r : KV kvs vs) (k : κ) : (kvs.any fun kv => decide (kv.1 = k)) = vs.any fun kv => decide (kv.1 = k) := by
  unfold KV at r
  induction r with
  | nil => rfl
  | cons h t ih => rw [List.any_cons, List.any_cons, ih, h.1]
theorem KV.repl {kvs : List (κ × V)} {vs : List (κ × Value)} (r : KV kvs vs) (k : κ) {y : V} {u : Value} (ry : RelV y u) :
    KV (kvs.map fun kv => if kv.1 = k then (kv.1, y) else kv) (vs.map fun kv => if kv.1 = k then (kv.1, u) else kv) := by
  unfold KV at r ⊢
  induction r with
  | nil => exact .nil
  | @cons p q ps qs h t ih =>
    rw [List.map_cons, List.map_cons]
    refine .cons ?_ ih
    obtain ⟨h1, h2⟩ := h
    by_cases e : p.1 = k
    · rw [if_pos e, if_pos (h1.symm.trans e)]; exact ⟨h1, ry⟩
    · rw [if_neg e, if_neg (fun z => e (h1.trans z))]; exact ⟨h1, h2⟩
theorem KV.put {kvs : List (κ × V)} {vs : List (κ × Value)} (r : KV kvs vs) (k : κ) {y : V} {u : Value} (ry : RelV y u) : KV (putK kvs k y) (stored vs k u) := by
  unfold putK stored
  rw [r.any k]
  by_cases e : (vs.any fun kv => decide (kv.1 = k)) = true
  · rw [if_pos e, if_pos e]; exact r.repl k ry
  · rw [if_neg e, if_neg e]; exact Paired.snoc r ⟨rfl, ry⟩
theorem KV.length {kvs : List (κ × V)} {vs : List (κ × Value)} (r : KV kvs vs) : kvs.length = vs.length := Paired.length r
end



theorem kV_is {P : Program} {w : World} {k : Key} {u : Value} (r : RelV (kV k) u) : (mixKind P w).is k u = true := by
  cases k with
  | inl i => obtain ⟨t, e⟩ := (show ∃ t, u = Value.int i t from r); subst e; exact mixKind_int P w i t
  | inr x => obtain ⟨t, e⟩ := (show ∃ t, u = Value.str x t from r); subst e; exact mixKind_str P w x t
theorem items_are {P : Program} {w : World} : ∀ {ks : List Key} {us : List Value}, Vals (ks.map kV) us → ItemsAre (mixKind P w) ks us
  | [], _, r => by rw [List.map_nil] at r; cases r; exact .nil
  | k :: ks, _, r => by
    rw [List.map_cons] at r
    cases r with
    | cons h t => exact .cons (kV_is h) (items_are t)


noncomputable abbrev KT (H : Hp) : List (List Key × V) → List (List Key × Addr × Value) → Prop := Paired fun p q => p.1 = q.1 ∧ H q.2.1 = some (.tup (p.1.map kV)) ∧ RelV p.2 q.2.2
theorem KT.val {H : Hp} {kvs : List (List Key × V)} {xs : List (List Key × Addr × Value)} (r : KT H kvs xs) (k : List Key) : RelO (valV kvs k) ((atKey xs k).map (·.2)) := by
  induction r with
  | nil => exact True.intro
  | @cons p q ps qs h t ih =>
    obtain ⟨h1, _, h2⟩ := h
    by_cases e : p.1 = k
    · have e' : q.1 = k := h1.symm.trans e
      have b : atKey (q :: qs) k = some q.2 := by simp [atKey, List.find?_cons, e']
      rw [valV_pos e, b]; exact h2
    · have e' : ¬ q.1 = k := fun z => e (h1.trans z)
      have b : atKey (q :: qs) k = atKey qs k := by simp [atKey, List.find?_cons, e']
      rw [valV_neg e, b]; exact ih
theorem KT.repl {H : Hp} {kvs : List (List Key × V)} {xs : List (List Key × Addr × Value)} (r : KT H kvs xs) (k : List Key) {y : V} {u : Value} (ry : RelV y u) :
    KT H (kvs.map fun kv => if kv.1 = k then (kv.1, y) else kv) (xs.map (putAt k u)) := by
  induction r with
  | nil => exact .nil
  | @cons p q ps qs h t ih =>
    rw [List.map_cons, List.map_cons]
    refine .cons ?_ ih
    obtain ⟨h1, h2, h3⟩ := h
    unfold putAt
    by_cases e : p.1 = k
    · rw [if_pos e, if_pos (h1.symm.trans e)]; exact ⟨h1, h2, ry⟩
    · rw [if_neg e, if_neg (fun z => e (h1.trans z))]; exact ⟨h1, h2, h3⟩
theorem KT.put {H : Hp} {kvs : List (List Key × V)} {xs : List (List Key × Addr × Value)} (r : KT H kvs xs) (k : List Key) {b : Addr} {y : V} {u : Value} (hb : H b = some (.tup (k.map kV))) (ry : RelV y u) :
    KT H (putK kvs k y) (storedH xs k b u) := by
  have e : (kvs.any fun kv => decide (kv.1 = k)) = (atKey xs k).isSome := by
    rw [valV_any, (r.val k).isSome_eq, Option.isSome_map]
  unfold putK storedH
  rw [e]
  by_cases q : (atKey xs k).isSome = true
  · rw [if_pos q, if_pos q]; exact r.repl k ry
  · rw [if_neg q, if_neg q]; exact Paired.snoc r ⟨rfl, hb, ry⟩
theorem KT.keeps {H H' : Hp} {kvs : List (List Key × V)} {xs : List (List Key × Addr × Value)} (r : KT H kvs xs) (ht : ∀ b ys, H b = some (.tup ys) → H' b = some (.tup ys)) : KT H' kvs xs :=
  Paired.mapP r fun _ _ z => ⟨z.1, ht _ _ z.2.1, z.2.2⟩

section
variable {P : Program} {w : World} {H : Hp} {h : Heap} {a : Addr}
theorem rd_of {u : HO} (ok : HOk P w H h) (e : Rd H a u) : ObjOk P w H h a u := e.ok ok
theorem dk_rd {kvs : List (Key × V)} (ok : HOk P w H h) (e : Rd H a (.dK kvs)) : kvs.length ≤ sizeLine ∧ (a == sysModules) = false ∧ ∃ vs, KV kvs vs ∧ h.DictOf (mixKind P w) a vs :=
  show ObjOk P w H h a (.dK kvs) from rd_of ok e
theorem dk_of {kvs : List (Key × V)} (ok : HOk P w H h) (e : H a = some (.dK kvs)) : kvs.length ≤ sizeLine ∧ (a == sysModules) = false ∧ ∃ vs, KV kvs vs ∧ h.DictOf (mixKind P w) a vs := dk_rd ok (.inl e)

theorem key_of {ks : List Key} (ok : HOk P w H h) (e : H a = some (.tup (ks.map kV))) : (tupleKind (mixKind P w)).is h ks a := by
  obtain ⟨_, its, r, o, h1, h2, n, h3⟩ := (show ObjOk P w H h a (.tup (ks.map kV)) from ok a _ e)
  exact ⟨o, its.toArray, n, h1, h2, h3, by simpa using items_are r⟩
theorem dt_rd {kvs : List (List Key × V)} (ok : HOk P w H h) (e : Rd H a (.dT kvs)) : kvs.length ≤ sizeLine ∧ (a == sysModules) = false ∧
    ∃ xs, KT H kvs xs ∧ h.DictOfH (tupleKind (mixKind P w)) a xs := by
  obtain ⟨z, y, xs, r, o, es, ep, h1, h2, h3, h4, h5⟩ := (show ObjOk P w H h a (.dT kvs) from rd_of ok e)
  refine ⟨z, y, xs, r, o, es, ep, h1, h2, h3, h4, fun x hx => ?_, h5⟩
  have all : ∀ {l : List (List Key × V)} {m : List (List Key × Addr × Value)}, KT H l m → ∀ x ∈ m, (tupleKind (mixKind P w)).is h x.1 x.2.1 := by
    intro l m q
    induction q with
    | nil => intro x hx; exact nomatch hx
    | @cons p q ps qs hq t ih =>
      intro x hx
      rcases List.mem_cons.mp hx with e | hx
      · subst e
        exact key_of ok (by rw [← hq.1]; exact hq.2.1)
      · exact ih x hx
  exact all r x hx
theorem dt_of {kvs : List (List Key × V)} (ok : HOk P w H h) (e : H a = some (.dT kvs)) : kvs.length ≤ sizeLine ∧ (a == sysModules) = false ∧
    ∃ xs, KT H kvs xs ∧ h.DictOfH (tupleKind (mixKind P w)) a xs := dt_rd ok (.inl e)
end


noncomputable def DGet (H : Hp) (a : Addr) (y : V) (r : Option V) : Prop :=
  (∃ kvs k, Rd H a (.dK kvs) ∧ y = kV k ∧ r = valV kvs k) ∨ ∃ kvs k b, Rd H a (.dT kvs) ∧ y = .ref b ∧ H b = some (.tup (k.map kV)) ∧ r = valV kvs k

noncomputable def DPut (H : Hp) (a : Addr) (y v : V) (H' : Hp) : Prop :=
  (∃ kvs k, H a = some (.dK kvs) ∧ y = kV k ∧ kvs.length < sizeLine ∧ H' = upd H a (.dK (putK kvs k v))) ∨
  ∃ kvs k b, H a = some (.dT kvs) ∧ y = .ref b ∧ H b = some (.tup (k.map kV)) ∧ kvs.length < sizeLine ∧ H' = upd H a (.dT (putK kvs k v))
theorem DGet.k {H : Hp} {a : Addr} {kvs : List (Key × V)} {k : Key} (e : H a = some (.dK kvs)) : DGet H a (kV k) (valV kvs k) := .inl ⟨kvs, k, .inl e, rfl, rfl⟩
theorem DPut.k {H : Hp} {a : Addr} {kvs : List (Key × V)} {k : Key} {v : V} (e : H a = some (.dK kvs)) (hl : kvs.length < sizeLine) : DPut H a (kV k) v (upd H a (.dK (putK kvs k v))) := .inl ⟨kvs, k, e, rfl, hl, rfl⟩
section
variable {X : Cx} {pins : List (Addr × Obj)} {σ : St} {H : Hp} {s : Shared} {a : Addr} {y v : V} {u r : Value} {o : Option V} {A : Around} {E : Value → Shared → Prop}

theorem Inv.big (I : Inv X pins σ H s) : sysModules < s.heap.objs.size := by
  have h : mainGlobals < s.heap.objs.size := (I.mod.glob.keeps I.bk).lt
  exact Nat.lt_trans (by decide) h


theorem d_write {h' : Heap} {t' : Nat} {ob : HO} (I : Inv X pins σ H s) (mu : Mut (H a)) (hs : Heap.SameBut a s.heap h') (he : ∃ q, h'.get? a = some q) (new : ObjOk X.prog X.w (upd H a ob) h' a ob) :
    Inv X pins σ (upd H a ob) { s with heap := h', toks := t' } :=
  I.write (x := a) (e := a) mu (.inl rfl) (fun b q hb z => (hs.2 b hb).trans z) he new
theorem dk_new {P : Program} {w : World} {H' : Hp} {h' : Heap} {kvs : List (Key × V)} {vs : List (Key × Value)} (z : kvs.length ≤ sizeLine) (hd : (a == sysModules) = false) (rel : KV kvs vs) (dd : h'.DictOf (mixKind P w) a vs) :
    ObjOk P w H' h' a (.dK kvs) := ⟨z, hd, vs, rel, dd⟩

theorem d_setItem {H' : Hp} {Q : Unit → Shared → Prop} (hu : A.units + 1 < cLine) (I : Inv X pins σ H s) (g : DPut H a y v H') (ry : RelV y u) (rv : RelV v r) (h : ∀ s', Inv X pins σ H' s' → Q () s') :
    wpAny (model X.prog X.w) A (setItem (.ref a) u r) Q E s := by
  rcases g with ⟨kvs, k, e, ey, l, eH⟩ | ⟨kvs, k, b, e, ey, eb, l, eH⟩
  · subst ey eH
    obtain ⟨z, hd, vs, rel, dd⟩ := dk_of I.hok e
    have hz : vs.length ≤ sizeLine := by rw [← rel.length]; exact z
    have hl : (putK kvs k v).length ≤ sizeLine := by have := length_putK kvs k v; omega
    refine wpAny_setItem_pairs (hsz := hz) (kV_is ry) dd fun h' dd' hs => h _ ?_
    have he : ∃ q, h'.get? a = some q := let ⟨q, _, _, hq, _⟩ := dd'; ⟨q, hq⟩
    exact d_write I (by rw [e]; exact True.intro) hs he (dk_new hl hd (rel.put k rv) dd')
  · subst ey eH
    cases (show u = Value.ref b from ry)
    obtain ⟨z, hd, xs, rel, dd⟩ := dt_of I.hok e
    have hz : xs.length ≤ sizeLine := by rw [← Paired.length rel]; exact z
    have hl : (putK kvs k v).length ≤ sizeLine := by have := length_putK kvs k v; omega
    refine wpAny_setItem_heap (hsz := hz) (tupleKind_room_in1 hu) (key_of I.hok eb) dd fun h' dd' hs => h _ ?_
    obtain ⟨q, es, ep, hq, h2, h3, h4, _, h5⟩ := dd'
    refine d_write I (by rw [e]; exact True.intro) hs ⟨q, hq⟩ ⟨hl, hd, _, (rel.put k eb rv).keeps fun c ys ec => ?_, q, es, ep, hq, h2, h3, h4, h5⟩
    rw [upd_ne (ne_of ec e (fun z => nomatch z))]
    exact ec
end

section
variable {X : Cx} {pins : List (Addr × Obj)} {σ : St} {H : Hp} {s : Shared} {a : Addr} {kvs : List (Key × V)} {k : Key} {u : Value} {A : Around} {E : Value → Shared → Prop}

end




noncomputable def NoSl (i : Expr) : Prop := ∀ ov iv, subscripted i false ov iv = operate [ov, iv] (getItem ov iv)
noncomputable def tDGet (td ty : TE) : TE := fun σ H Q => td σ H fun x H1 => ty σ H1 fun y H2 => ∃ a v, x = .ref a ∧ DGet H2 a y (some v) ∧ Q v H2

noncomputable def tDIn (ty td : TE) : TE := fun σ H Q => ty σ H fun y H1 => td σ H1 fun x H2 => ∃ a o, x = .ref a ∧ DGet H2 a y o ∧ Q (.bl o.isSome) H2
noncomputable def tDNotIn (ty td : TE) : TE := fun σ H Q => ty σ H fun y H1 => td σ H1 fun x H2 => ∃ a o, x = .ref a ∧ DGet H2 a y o ∧ Q (.bl (!o.isSome)) H2

noncomputable def sDPut (td ty tv : TE) : TS := fun D σ H => tv σ H fun v H1 => td σ H1 fun x H2 => ty σ H2 fun y H3 => ∃ a H4, x = .ref a ∧ DPut H3 a y v H4 ∧ D.nx σ H4

noncomputable def sDAug (td ty tv : TE) (rd : V → V → Hp → VK → Prop) : TS := fun D σ H => td σ H fun x H1 => ty σ H1 fun y H2 => ∃ a v, x = .ref a ∧ DGet H2 a y (some v) ∧
  tv σ H2 fun y2 H3 => rd v y2 H3 fun z H4 => ∃ H5, DPut H4 a y z H5 ∧ D.nx σ H5

noncomputable def sDDel (td ty : TE) : TS := fun D σ H => td σ H fun x H1 => ty σ H1 fun y H2 => ∃ a kvs k, x = .ref a ∧ H2 a = some (.dK kvs) ∧ y = kV k ∧ (valV kvs k).isSome = true ∧ D.nx σ (upd H2 a (.dK (dropK kvs k)))

section
variable {X : Cx} {o i e value : Expr} {pos pos' tpos : Pos} {td ty tv : TE}
theorem ps_dput (hu : X.A.units + 1 < cLine) (ho : PE X o td) (hi : PE X i ty) (hv : PE X value tv) (hs : swapsWith value (some (.Subscript o i pos')) pos.line X.env = pure false) :
    PS X (.Assign [.Subscript o i pos'] value pos) (sDPut td ty tv) := by
  intro pins s σ H D I h
  refine wpAny_Assign_Subscript (thn (hv pins s σ H _ I h) fun r s1 ⟨v, H1, I1, rv, q1⟩ => thn (ho pins s1 σ H1 _ I1 q1) fun u s2 ⟨x, H2, I2, rx, q2⟩ => thn (hi pins s2 σ H2 _ I2 q2) fun iv s3 ⟨y, H3, I3, ry, a, H4, ex, g, q3⟩ => ?_) hs
  subst ex
  obtain rfl : u = Value.ref a := rx
  exact d_setItem hu I3 g ry rv fun s4 I4 => ⟨σ, H4, I4, q3⟩
end



theorem dk_empty {P : Program} {w : World} {H : Hp} (h : Heap) (hb : sysModules < h.objs.size) : ObjOk P w H (h.push { cls := .type "dict", data := .dict #[] }) h.objs.size (.dK []) :=
  ⟨Nat.zero_le _, beq_eq_false_iff_ne.mpr (Ne.symm (Nat.ne_of_lt hb)), [], .nil, Heap.DictOf.new h⟩
noncomputable def tDNewK : TE := fun _ H Q => ∀ p, H p = none → Q (.ref p) (upd H p (.dK []))
noncomputable def tDNewT : TE := fun _ H Q => ∀ p, H p = none → Q (.ref p) (upd H p (.dT []))
section
variable {X : Cx} {pos : Pos}
theorem pe_dnewK : PE X (.Dict [] [] pos) tDNewK := fun pins s σ H Q I h =>
  wpAny_Dict_empty ⟨.ref s.heap.objs.size, _, I.laid (a := s.heap.objs.size) (o := .dK []) (t' := s.toks) (fun _ _ q => Heap.get?_push_of_some _ q) (Nat.le_refl _) (dk_empty s.heap I.big), rfl, h _ (I.hok.fresh (Nat.le_refl _))⟩
end


noncomputable def tPairs : List (TE × TE) → St → Hp → (List (V × V) → Hp → Prop) → Prop
  | [], _, H, Q => Q [] H
  | (tk, tv) :: r, σ, H, Q => tk σ H fun x H1 => tv σ H1 fun y H2 => tPairs r σ H2 fun ps H3 => Q ((x, y) :: ps) H3
noncomputable abbrev VV : List (V × V) → List (Value × Value) → Prop := Paired fun p q => RelV p.1 q.1 ∧ RelV p.2 q.2
noncomputable def PPs (X : Cx) (pos : Pos) (keys : List (Option Expr)) (values : List Expr) (trs : List (TE × TE)) : Prop :=
  ∀ (pins : List (Addr × Obj)) (s : Shared) (σ : St) (H : Hp) (Q : List (V × V) → Hp → Prop), Inv X pins σ H s → tPairs trs σ H Q →
    wpAny (model X.prog X.w) X.A (evalPairs (pairTrees keys values X.env pos)) (fun vs s' => ∃ ps H', Inv X pins σ H' s' ∧ VV ps vs ∧ Q ps H') X.xe s
theorem pps_nil {X : Cx} {pos : Pos} : PPs X pos [] [] [] := fun pins s σ H Q I h => pairTrees_nil_walk ⟨[], H, I, .nil, h⟩
theorem pps_cons {X : Cx} {pos : Pos} {k v : Expr} {ks : List (Option Expr)} {vs : List Expr} {tk tv : TE} {trs : List (TE × TE)} (hk : PE X k tk) (hv : PE X v tv) (hr : PPs X pos ks vs trs) :
    PPs X pos (some k :: ks) (v :: vs) ((tk, tv) :: trs) := fun pins s σ H Q I h =>
  pairTrees_cons_walk (thn (hk pins s σ H _ I h) fun u s1 ⟨x, H1, I1, rx, q1⟩ => thn (hv pins s1 σ H1 _ I1 q1) fun w2 s2 ⟨y, H2, I2, ry, q2⟩ =>
    thn (hr pins s2 σ H2 _ I2 q2) fun ws s3 ⟨ps, H3, I3, rel, q3⟩ => ⟨(x, y) :: ps, H3, I3, .cons ⟨rx, ry⟩ rel, q3⟩)

noncomputable def mergeK (kvs more : List (Key × V)) : List (Key × V) := more.foldl (fun acc kv => putK acc kv.1 kv.2) kvs
theorem KV.merge : ∀ {more : List (Key × V)} {rs : List (Key × Value)} {kvs : List (Key × V)} {vs : List (Key × Value)}, KV more rs → KV kvs vs → KV (mergeK kvs more) (merged vs rs) := by
  intro more rs kvs vs r
  unfold KV at r
  induction r generalizing kvs vs with
  | nil => intro q; exact q
  | @cons p q ps qs h t ih =>
    intro r0
    have e : KV (putK kvs p.1 p.2) (stored vs q.1 q.2) := by
      have := r0.put p.1 h.2
      rw [← h.1]; exact this
    exact ih e
theorem length_mergeK : ∀ (more kvs : List (Key × V)), (mergeK kvs more).length ≤ kvs.length + more.length
  | [], kvs => by show kvs.length ≤ kvs.length + 0; omega
  | p :: r, kvs => by
    have h1 := length_mergeK r (putK kvs p.1 p.2)
    have h2 := length_putK kvs p.1 p.2
    show (mergeK (putK kvs p.1 p.2) r).length ≤ _
    rw [List.length_cons]; omega
theorem carries_of {P : Program} {w : World} : ∀ {kvs : List (Key × V)} {ws : List (Value × Value)}, VV (kvs.map fun kv => (kV kv.1, kv.2)) ws → ∃ rs, Carries (mixKind P w) ws rs ∧ KV kvs rs
  | [], _, r => by rw [List.map_nil] at r; cases r; exact ⟨[], True.intro, .nil⟩
  | p :: kvs, _, r => by
    rw [List.map_cons] at r
    cases r with
    | @cons a b as bs h t =>
      obtain ⟨rs, c, q⟩ := carries_of (P := P) (w := w) t
      obtain ⟨b1, b2⟩ := b
      exact ⟨(p.1, b2) :: rs, ⟨kV_is h.1, rfl, c⟩, .cons ⟨rfl, h.2⟩ q⟩

noncomputable def tDisp (trs : List (TE × TE)) : TE := fun σ H Q => ∀ p, H p = none → tPairs trs σ (upd H p (.dK [])) fun ps H2 => H2 p = some (.dK []) ∧ ∃ kvs : List (Key × V), ps = kvs.map (fun kv => (kV kv.1, kv.2)) ∧ kvs.length ≤ 15 ∧ Q (.ref p) (upd H2 p (.dK (mergeK [] kvs)))
theorem pe_disp {X : Cx} {pos : Pos} {keys : List (Option Expr)} {values : List Expr} {trs : List (TE × TE)} (h : PPs X pos keys values trs) (hall : keys.all (·.isSome) = true) (hl : keys.length = values.length) (h0 : keys ≠ [])
    (h15 : keys.length ≤ 15) : PE X (.Dict keys values pos) (tDisp trs) := by
  intro pins s σ H Q I q
  have hn := I.hok.fresh (Nat.le_refl s.heap.objs.size)
  have I1 := I.laid (a := s.heap.objs.size) (o := .dK []) (h' := s.heap.push { cls := .type "dict", data := .dict #[] }) (t' := s.toks) (fun _ _ q => Heap.get?_push_of_some _ q) (Nat.le_refl _) (dk_empty s.heap I.big)
  refine wpAny_Dict_walk (knd := mixKind X.prog X.w) hall hl h0 h15 (thn (h pins _ σ _ _ I1 (q _ hn)) fun ws s2 ⟨ps, H2, I2, rel, e, kvs, ep, lk, q2⟩ => ?_)
  subst ep
  obtain ⟨rs, c, rk⟩ := carries_of (P := X.prog) (w := X.w) rel
  obtain ⟨z, hd, vs0, r0, dd⟩ := dk_of I2.hok e
  cases r0
  refine ⟨rs, c, dd, fun h' dd' hs => ⟨.ref s.heap.objs.size, _, ?_, rfl, q2⟩⟩
  have hz : (mergeK [] kvs).length ≤ sizeLine := by
    have h1 := length_mergeK kvs []
    rw [List.length_nil] at h1
    rw [sizeLine_eq]; omega
  have he : ∃ q, h'.get? s.heap.objs.size = some q := let ⟨q, _, _, hq, _⟩ := dd'; ⟨q, hq⟩
  exact d_write I2 (by rw [e]; exact True.intro) hs he (dk_new hz hd (rk.merge .nil) dd')




structure M1 (X : Cx) (o : Expr) (m : Str) (apos : Pos) (e : Expr) (cpos : Pos) : Prop where
  base : attributeBase o m X.env (eval o X.env) = eval o X.env
  few : ((backTo cpos (starEach [e] X.env)).all (fun x => !x.1) && (backToKw cpos (keywordEach [] X.env)).all (fun x => x.1.isSome)
    && decide (([e] : List Expr).length + ([] : List Keyword).length + (if ([] : List Keyword).isEmpty then 0 else 1) < 30)) = true
  line : (apos.endLine == cpos.line) = true
  trees : backTo cpos (starEach [e] X.env) = [(false, eval e X.env)]
structure M2 (X : Cx) (o : Expr) (m : Str) (apos : Pos) (e f : Expr) (cpos : Pos) : Prop where
  base : attributeBase o m X.env (eval o X.env) = eval o X.env
  few : ((backTo cpos (starEach [e, f] X.env)).all (fun x => !x.1) && (backToKw cpos (keywordEach [] X.env)).all (fun x => x.1.isSome)
    && decide (([e, f] : List Expr).length + ([] : List Keyword).length + (if ([] : List Keyword).isEmpty then 0 else 1) < 30)) = true
  line : (apos.endLine == cpos.line) = true
  trees : backTo cpos (starEach [e, f] X.env) = [(false, eval e X.env), (false, eval f X.env)]


noncomputable def IsD (H : Hp) (a : Addr) : Prop := (∃ kvs, Rd H a (.dK kvs)) ∨ ∃ kvs, Rd H a (.dT kvs)
theorem isD_at {X : Cx} {pins : List (Addr × Obj)} {σ : St} {H : Hp} {s : Shared} {a : Addr} (I : Inv X pins σ H s) (d : IsD H a) :
    s.TypeIs (.ref a) "dict" ∧ (∀ b, Value.ref a = .ref b → ∃ ob, s.heap.get? b = some ob ∧ ob.dict = none) ∧ (a == sysModules) = false := by
  rcases d with ⟨kvs, e⟩ | ⟨kvs, e⟩
  · obtain ⟨_, hd, vs, _, dd⟩ := dk_rd I.hok e
    refine ⟨dd.typeIs, fun b q => ?_, hd⟩
    cases q
    obtain ⟨ob, _, _, h1, h2, _⟩ := dd
    exact ⟨ob, h1, h2.2.1⟩
  · obtain ⟨_, hd, xs, _, dd⟩ := dt_rd I.hok e
    refine ⟨dd.typeIs, fun b q => ?_, hd⟩
    cases q
    obtain ⟨ob, _, _, h1, h2, _⟩ := dd
    exact ⟨ob, h1, h2.2.1⟩

section
variable {X : Cx} {pins : List (Addr × Obj)} {σ : St} {H : Hp} {s : Shared} {a : Addr} {y d : V} {u r : Value} {o : Option V} {A : Around} {E : Value → Shared → Prop}

theorem d_get2 {Q : Value → Shared → Prop} (hu : A.units + 1 < cLine) (I : Inv X pins σ H s) (g : DGet H a y o) (ry : RelV y u) (rd : RelV d r) (h : ∀ w' s', Inv X pins σ H s' → RelV (o.getD d) w' → Q w' s') :
    wpAny (model X.prog X.w) A (call (.builtin "dict.get") [.ref a, u, r]) Q E s := by
  rcases g with ⟨kvs, k, e, ey, l⟩ | ⟨kvs, k, b, e, ey, eb, l⟩
  · subst ey
    obtain ⟨z, hd, vs, rel, dd⟩ := dk_rd I.hok e
    refine call_meetsIn PySem.F.slot_dict_get dd.typeIs PySem.F.entry_dict_get (PySem.F.args_dict_get_3 _ _ _) (meets_dict_get_default (mixKind X.prog X.w) a (kV_is ry) hd r) ⟨_, dd.mapOf, h _ _ (I.tok _) ?_⟩
    rw [l]
    exact (rel.val k).getD rd
  · subst ey
    cases (show u = Value.ref b from ry)
    obtain ⟨z, hd, xs, rel, dd⟩ := dt_rd I.hok e
    refine call_meetsIn PySem.F.slot_dict_get dd.typeIs PySem.F.entry_dict_get (PySem.F.args_dict_get_3 _ _ _) (meetsH_dict_get_default (tupleKind (mixKind X.prog X.w)) a b hd r) ⟨tupleKind_room_in1 hu, k, xs, key_of I.hok eb, dd, h _ _ (I.tok _) ?_⟩
    rw [l]
    exact (rel.val k).getD rd
end

noncomputable def tDGet1 (td ty : TE) : TE := fun σ H Q => td σ H fun x H1 => ∃ a, x = .ref a ∧ IsD H1 a ∧ ty σ H1 fun y H2 => ∃ o, DGet H2 a y o ∧ Q (o.getD .non) H2
noncomputable def tDGet2 (td ty tx : TE) : TE := fun σ H Q => td σ H fun x H1 => ∃ a, x = .ref a ∧ IsD H1 a ∧ ty σ H1 fun y H2 => tx σ H2 fun z H3 => ∃ o, DGet H3 a y o ∧ Q (o.getD z) H3

noncomputable def tDPop1 (td ty : TE) : TE := fun σ H Q => td σ H fun x H1 => ∃ a, x = .ref a ∧ IsD H1 a ∧ ty σ H1 fun y H2 => ∃ kvs k v, H2 a = some (.dK kvs) ∧ y = kV k ∧ valV kvs k = some v ∧ Q v (upd H2 a (.dK (dropK kvs k)))
noncomputable def tDPop2 (td ty tx : TE) : TE := fun σ H Q => td σ H fun x H1 => ∃ a, x = .ref a ∧ IsD H1 a ∧ ty σ H1 fun y H2 => tx σ H2 fun z H3 => ∃ kvs k, H3 a = some (.dK kvs) ∧ y = kV k ∧
  (∀ v, valV kvs k = some v → Q v (upd H3 a (.dK (dropK kvs k)))) ∧ (valV kvs k = none → Q z H3)
section
variable {X : Cx} {o e f : Expr} {apos cpos : Pos} {td ty tx : TE}
theorem pe_dget2 (hu : X.A.units + 1 < cLine) (ho : PE X o td) (he : PE X e ty) (hf : PE X f tx) (m : M2 X o "get" apos e f cpos) : PE X (.Call (.Attribute o "get" apos) [e, f] [] cpos) (tDGet2 td ty tx) := by
  intro pins s σ H Q I h
  refine wpAny_Call_method m.base m.few m.line PySem.F.plainAttrs_dict PySem.F.slot_dict_get PySem.F.type_dict_get (thn (ho pins s σ H _ I h) fun u s1 ⟨x, H1, I1, rx, a, ex, d, q1⟩ => ?_)
  subst ex
  obtain rfl : u = Value.ref a := rx
  obtain ⟨t1, t2, _⟩ := isD_at I1 d
  refine ⟨t1, t2, ?_⟩
  rw [m.trees]
  refine Calls.callWith_builtin rfl (Calls.evalArgs_plain (Calls.spliced_cons (thn (he pins s1 σ H1 _ I1 q1) fun iv s2 ⟨y, H2, I2, ry, q2⟩ =>
    Calls.spliced_cons (thn (hf pins s2 σ H2 _ I2 q2) fun fv s3 ⟨z, H3, I3, rz, ov, g, q3⟩ => Calls.spliced_nil ?_))))
  exact d_get2 hu I3 g ry rz fun w' s4 I4 rw' => ⟨_, H3, I4, rw', q3⟩
end


section
variable {X : Cx} {pins : List (Addr × Obj)} {σ : St} {H : Hp} {s : Shared} {a : Addr} {kvs : List (Key × V)} {A : Around} {E : Value → Shared → Prop}
end


section
variable {X : Cx} {pins : List (Addr × Obj)} {σ : St} {H : Hp} {s : Shared} {a : Addr} {y : V} {u : Value} {A : Around} {E : Value → Shared → Prop}

end
section
variable {X : Cx}

end

section
variable {κ : Type} [DecidableEq κ]
end
end L2
set_option Elab.async false
set_option linter.all false
set_option maxRecDepth 100000
namespace L2
open PySem PySem.Spec PyProof.Rows

theorem Same.upd {H : Hp} {p : Addr} {o : HO} (hp : H p = none) : Same H (L2.upd H p o) := fun b u e => by
  rw [upd_ne (ne_of_none e hp)]
  exact e
theorem TyOf.same {K : PySem.W.Frag} {H H' : Hp} {v : V} {t : Value} (e : Same H H') (h : TyOf K H v t) : TyOf K H' v t := by
  cases h with
  | non => exact .non
  | bl x => exact .bl x
  | int i => exact .int i
  | str x => exact .str x
  | flt x => exact .flt x
  | lst q => exact .lst (e _ _ q)
  | frz q => exact .frz (e _ _ q)
  | tup q => exact .tup (e _ _ q)
  | dK q => exact .dK (e _ _ q)
  | dT q => exact .dT (e _ _ q)
  | ins q c1 c2 c3 c4 c5 => exact .ins (e _ _ q) c1 c2 c3 c4 c5
theorem NoNum.same {K : PySem.W.Frag} {H H' : Hp} {v : V} (e : Same H H') (h : NoNum K H v) : NoNum K H' v := by
  obtain ⟨r, h1, h2, h3⟩ := h
  exact ⟨r, h1, h2.same e, h3⟩
theorem NoStr.same {K : PySem.W.Frag} {H H' : Hp} {v : V} (e : Same H H') (h : NoStr K H v) : NoStr K H' v := by
  obtain ⟨r, h1, h2, h3⟩ := h
  exact ⟨r, h1, h2.same e, h3⟩

section
variable {K : PySem.W.Frag} {H : Hp}
theorem nn_none : NoNum K H .non := ⟨("NoneType", false, false, false, false), by decide, .non, by decide⟩
theorem nn_bl (b : Bool) : NoNum K H (.bl b) := ⟨("bool", true, true, false, false), by decide, .bl b, by decide⟩
theorem nn_str (x : Str) : NoNum K H (.str x) := ⟨("str", false, false, true, false), by decide, .str x, by decide⟩
theorem nn_lst {a : Addr} {xs : List V} (e : H a = some (.lst xs)) : NoNum K H (.ref a) := ⟨("list", false, false, false, true), by decide, .lst e, by decide⟩
theorem nn_tup {a : Addr} {xs : List V} (e : H a = some (.tup xs)) : NoNum K H (.ref a) := ⟨("tuple", false, false, false, false), by decide, .tup e, by decide⟩
theorem nn_dK {a : Addr} {kvs : List (Key × V)} (e : H a = some (.dK kvs)) : NoNum K H (.ref a) := ⟨("dict", false, false, false, false), by decide, .dK e, by decide⟩
theorem ns_none : NoStr K H .non := ⟨("NoneType", false, false, false, false), by decide, .non, by decide⟩
theorem ns_int (i : Int) : NoStr K H (.int i) := ⟨("int", true, false, false, false), by decide, .int i, by decide⟩
theorem ns_lst {a : Addr} {xs : List V} (e : H a = some (.lst xs)) : NoStr K H (.ref a) := ⟨("list", false, false, false, true), by decide, .lst e, by decide⟩
theorem ns_dK {a : Addr} {kvs : List (Key × V)} (e : H a = some (.dK kvs)) : NoStr K H (.ref a) := ⟨("dict", false, false, false, false), by decide, .dK e, by decide⟩
end

noncomputable def isSl : Expr → Bool
  | .Slice _ _ _ _ => true
  | _ => false
theorem plain_ix {b : Expr} (h : isSl b = false) : PlainIx b := fun o i => by
  cases b <;> first | rfl | cases h
theorem pe_at {X : Cx} {a b : Expr} {ta tb : TE} {pos : Pos} {r : R2} (hr : IxR X r) (ha : PE X a ta) (hb : PE X b tb) (hs : isSl b = false := by rfl) : PE X (.Subscript a b pos) (tOp r ta tb) := pe_ix hr ha hb (plain_ix hs)

theorem atI_of {α : Type} {xs : List α} {i : Int} {v : α} (h0 : 0 ≤ i) (h : xs[i.toNat]? = some v) : atI xs i = some v := by
  have e := atI_nat h
  rwa [Int.toNat_of_nonneg h0] at e
theorem at_any {α : Type} {xs : List α} {i : Int} (h0 : 0 ≤ i) (h1 : i < xs.length) : ∃ v, atI xs i = some v ∧ v ∈ xs := by
  have hl : i.toNat < xs.length := by omega
  exact ⟨xs[i.toNat], atI_of h0 (List.getElem?_eq_getElem hl), List.getElem_mem hl⟩
noncomputable def cellZ (ns : List Int) (k : Int) : Int := ns.getD k.toNat 0
noncomputable def mixZ (ns : List Int) (k : Int) : Int := (cellZ ns k * 48271 + 7919 * k * k * k + 104729) % 2147483647 * 16807 % 2147483629
theorem cell_at {ns : List Int} {k : Int} (h0 : 0 ≤ k) (h : k < ((ns.map V.int).length : Nat)) : atI (ns.map V.int) k = some (.int (cellZ ns k)) := by
  rw [List.length_map] at h
  have hl : k.toNat < ns.length := by omega
  refine atI_of h0 ?_
  unfold cellZ
  rw [List.getElem?_map, List.getElem?_eq_getElem hl, List.getD_eq_getElem?_getD, List.getElem?_eq_getElem hl]
  rfl
theorem cell_out {ns : List Int} {k : Int} (h : ¬ k < ((ns.map V.int).length : Nat)) : cellZ ns k = 0 := by
  rw [List.length_map] at h
  unfold cellZ
  rw [List.getD_eq_getElem?_getD, List.getElem?_eq_none (by omega)]
  rfl
end L2
set_option Elab.async false
set_option linter.all false
set_option maxRecDepth 100000
namespace L2
open PySem PySem.Spec PyProof.Rows


theorem lenOk {n : Nat} (h : Nat.ble n 1000 = true) : n ≤ sizeLine := Nat.le_trans (Nat.le_of_ble_eq_true h) (by decide)

noncomputable def New (H : Hp) (o : HO) (Q : VK) : Prop := ∀ p H', Same H H' → H p = none → H' p = some o → Q (.ref p) H'
theorem New.at {H : Hp} {o : HO} {Q : VK} (h : New H o Q) {p : Addr} (hp : H p = none) : Q (.ref p) (upd H p o) := h p _ (Same.upd hp) hp upd_same
noncomputable def tTupS (t : TA) : TE := fun σ H Q => t σ H fun xs H1 => xs.length ≤ sizeLine ∧ New H1 (.tup xs) Q
noncomputable def tLstS (t : TA) : TE := fun σ H Q => t σ H fun xs H1 => xs.length ≤ sizeLine ∧ New H1 (.lst xs) Q
section
variable {X : Cx} {es : List Expr} {t : TA} {pos : Pos}
theorem pe_tupS {x1} (h : PA X es t) : PE X (.Tuple es x1 pos) (tTupS t) := by
  intro pins s σ H Q I hq
  refine wpAny_Tuple_spliced (thn (h pos pins s σ H _ I hq) fun us s1 ⟨xs, H1, I1, r, z, q⟩ => ⟨by rw [← r.length]; exact z, ?_⟩)
  have hf : H1 s1.heap.objs.size = none := I1.hok.fresh (Nat.le_refl _)
  refine ⟨.ref s1.heap.objs.size, upd H1 s1.heap.objs.size (.tup xs), I1.laid (t' := s1.toks) (fun b u e => Heap.get?_push_of_some _ e) (Nat.le_refl _) ?_, rfl, q.at hf⟩
  exact ⟨z, us, r, ⟨_, Heap.get?_push_size _ rfl, rfl, _, rfl⟩⟩
theorem pe_lstS (h : PA X es t) : PE X (.List es pos) (tLstS t) := by
  intro pins s σ H Q I hq
  refine wpAny_List_spliced (thn (h pos pins s σ H _ I hq) fun us s1 ⟨xs, H1, I1, r, z, q⟩ => ⟨by rw [← r.length]; exact z, ?_⟩)
  have hf : H1 s1.heap.objs.size = none := I1.hok.fresh (Nat.le_refl _)
  refine ⟨.ref s1.heap.objs.size, upd H1 s1.heap.objs.size (.lst xs), I1.laid (t' := s1.toks) (fun b u e => Heap.get?_push_of_some _ e) (Nat.le_refl _) ?_, rfl, q.at hf⟩
  exact ⟨z, us, 0, r, Heap.get?_push_size _ rfl⟩
noncomputable def tDNewS : TE := fun _ H Q => New H (.dK []) Q
theorem pe_dnewS : PE X (.Dict [] [] pos) tDNewS := fun pins s σ H Q I h => pe_dnewK pins s σ H Q I fun p hp => h.at hp
noncomputable def rCatS : R2 := fun x y H Q => ∃ l b xs zs, x = .ref l ∧ y = .ref b ∧ H l = some (.lst xs) ∧ H b = some (.lst zs) ∧ xs.length + zs.length ≤ sizeLine ∧ New H (.lst (xs ++ zs)) Q
theorem op_catS : OpR X (binaryOp .Add) rCatS := fun pins s σ H x y v u Q I rx ry ⟨l, b, xs, zs, e1, e2, h1, h2, hz, q⟩ => op_cat pins s σ H x y v u Q I rx ry ⟨l, b, xs, zs, e1, e2, h1, h2, hz, fun p hp => q.at hp⟩
noncomputable def rRepS : R2 := fun x y H Q => ∃ l k xs, x = .ref l ∧ y = .int k ∧ H l = some (.lst xs) ∧ -(2 ^ 63) ≤ k ∧ k < 2 ^ 63 ∧ xs.length * k.toNat ≤ sizeLine ∧ New H (.lst (List.replicate k.toNat xs).flatten) Q
theorem op_repS : OpR X (binaryOp .Mult) rRepS := fun pins s σ H x y v u Q I rx ry ⟨l, k, xs, e1, e2, h1, h2, h3, hz, q⟩ => op_rep pins s σ H x y v u Q I rx ry ⟨l, k, xs, e1, e2, h1, h2, h3, hz, fun p hp => q.at hp⟩
end

theorem lookup_local {l : List (Str × NameKind)} (h : l.all (fun y => decide (y.2 = .local)) = true) {x : Str} {k : NameKind} (e : l.lookup x = some k) : k = .local := by
  induction l with
  | nil => cases e
  | cons y r ih =>
    rw [List.all_cons, Bool.and_eq_true] at h
    rw [List.lookup_cons] at e
    split at e
    · cases e
      exact of_decide_eq_true h.1
    · exact ih h.2 e
theorem no_cells {l : List (Str × NameKind)} {cl : List (Str × Addr)} (h : l.all (fun y => decide (y.2 = .local)) = true) (x : Str) (z : l.lookup x = some .cell ∨ l.lookup x = some .free) : ∃ c, cl.lookup x = some c := by
  rcases z with z | z
  · cases lookup_local h z
  · cases lookup_local h z
theorem no_src {n : Nat} {C : Nat → Nat → Prop} (i j : Nat) (z : (List.replicate n (none : Option Nat))[i]? = some (some j)) : C i j := by
  rw [List.getElem?_replicate] at z
  split at z <;> cases z

theorem turns_pairs {K : PySem.W.Frag} {a D : Addr} {ts : List V} {pairs : List (Str × Bool)} {H1 : Hp} {fin : List V → Hp → Prop} {σ : St} (hσ : σ.length = 2) (hl : ts.length = pairs.length) (ha : H1 a = some (.lst ts)) (hD : H1 D = none)
    (ht : ∀ (i : Nat) p, pairs[i]? = some p → ∃ t, ts[i]? = some (V.ref t) ∧ H1 t = some (.tup [.str p.1, .bl p.2])) (hz : pairs.length < sizeLine)
    (k : ∀ H2, Same H1 H2 → H2 D = some (.lst ((pairs.filter (·.2)).map fun p => V.str p.1)) → fin ((pairs.filter (·.2)).map fun p => V.str p.1) H2) :
    tTurns K a D ts (gTup K 2 (gCons (gName 0) (gCons (gName 1) gNil))) (tB (tVar 1)) (tVar 0) fin σ (upd H1 D (.lst [])) := by
  refine ⟨fun i ys σ H => σ.length = 2 ∧ ys = ((pairs.take i).filter (·.2)).map (fun p => V.str p.1) ∧ H D = some (.lst ys) ∧ Same H1 H, ⟨hσ, by simp, upd_same, Same.upd hD⟩, ?_, ?_, ?_⟩
  · rintro i ys σ H ⟨_, _, e, s⟩
    exact ⟨SqL.of (s _ _ ha), e⟩
  · rintro i x ys σ H hx ⟨h2, e, hd, s⟩
    obtain ⟨x0, x1, rfl⟩ : ∃ x0 x1, σ = [x0, x1] := by
      match σ, h2 with
      | [x0, x1], _ => exact ⟨x0, x1, rfl⟩
    have hi : i < pairs.length := by
      have := (List.getElem?_eq_some_iff.mp hx).1
      omega
    have hp : pairs[i]? = some pairs[i] := List.getElem?_eq_getElem hi
    obtain ⟨t, e1, e2⟩ := ht i _ hp
    rw [hx] at e1
    cases e1
    have len : ys.length ≤ i := by
      rw [e, List.length_map]
      exact Nat.le_trans (List.length_filter_le _ _) (by rw [List.length_take]; exact Nat.min_le_left _ _)
    have tk : pairs.take (i + 1) = pairs.take i ++ [pairs[i]] := by rw [List.take_succ, hp]; rfl
    refine ⟨t, _, rfl, SqT.of (s _ _ e2), rfl, _, _, rfl, _, _, rfl, rfl, _, rfl, pairs[i].2, rfl, ?_⟩
    cases hb : pairs[i].2 with
    | true =>
      refine iteT ⟨_, rfl, hd, by omega, rfl, ?_, upd_same, fun b o z => ?_⟩
      · rw [tk, List.filter_append, List.map_append, ← e]
        simp [hb]
      · rw [upd_ne (ne_of_none z hD)]
        exact s b o z
    | false =>
      refine iteF ⟨rfl, ?_, hd, s⟩
      rw [tk, List.filter_append, List.map_append, ← e]
      simp [hb]
  · rintro ys σ H ⟨_, e, hd, s⟩
    rw [hl, List.take_of_length_le (Nat.le_refl _)] at e
    subst e
    exact k H s hd

structure Held (K : PySem.W.Frag) (H : Hp) (ea C : Addr) : Prop where
  ex : ∃ oe vs, H ea = some (excO ea oe) ∧ oe.cls = .ref C ∧ oe.dict = none ∧ oe.data = .fields vs
  cls : XK.ExcCls K C
theorem Held.same {K : PySem.W.Frag} {H H' : Hp} {ea C : Addr} (h : Held K H ea C) (s : Same H H') : Held K H' ea C := by
  obtain ⟨⟨oe, vs, e, r⟩, c⟩ := h
  exact ⟨⟨oe, vs, s _ _ e, r⟩, c⟩
theorem Held.ty {K : PySem.W.Frag} {H : Hp} {ea C : Addr} (h : Held K H ea C) : TyX K H (.ref ea) (.ref C) := by
  obtain ⟨⟨oe, vs, e, e1, e2, e3⟩, c⟩ := h
  exact .inr ⟨ea, oe, C, vs, rfl, rfl, e, e1, e2, e3, c⟩
end L2
set_option Elab.async false
set_option linter.all false
set_option maxRecDepth 100000
namespace L2
open PySem PySem.Spec PyProof.Rows

section
variable {X : Cx}
theorem Inv.walked {pins : List (Addr × Obj)} {σ : St} {H : Hp} {s : Shared} (I : Inv X pins σ H s) {u : Obj} {h' : Heap} {tk : Nat} (hk : ∀ b o, b ∉ [s.heap.objs.size] → (s.heap.push u).get? b = some o → h'.get? b = some o) :
    Inv X pins σ H { s with heap := h', toks := tk } :=
  I.kept (t' := tk) fun b o e => hk b o (by simp; exact Nat.ne_of_lt (Heap.lt_size e)) (Heap.get?_push_of_some _ e)
theorem range_all {α : Type} (bs : List α) (d : α) (p : α → Bool) : (List.range bs.length).all (fun i => p (bs.getD i d)) = bs.all p := by
  induction bs with
  | nil => rfl
  | cons b r ih =>
    rw [List.length_cons, List.range_succ_eq_map, List.all_cons, List.all_map, List.all_cons]
    congr 1
theorem val_bl {bs : List Bool} {its : List Value} (rv : Vals (bs.map V.bl) its) {i : Nat} {v : Value} (e : its.toArray[i]? = some v) : v = .bool (bs.getD i false) := by
  have hl := rv.length
  rw [List.length_map] at hl
  have hi : i < its.length := by
    have := (Array.getElem?_eq_some_iff.mp e).1
    simpa using this
  have hx : (bs.map V.bl)[i]? = some (V.bl (bs.getD i false)) := by
    rw [List.getElem?_map, List.getElem?_eq_getElem (by omega), List.getD_eq_getElem?_getD, List.getElem?_eq_getElem (by omega)]
    rfl
  obtain ⟨u, e1, e2⟩ := rv.get hx
  have e3 : its[i]? = some v := by simpa using e
  rw [e1] at e3
  cases e3
  exact e2
theorem call_allL (hc : X.calm = true) : CallR X (.builtin "all") (fun xs H Q => ∃ (a : Addr) (bs : List Bool), xs = [.ref a] ∧ SqL X.K H a (bs.map V.bl) ∧ Q (.bl (bs.all id)) H) := by
  intro pins s σ H xs us Q I r h
  obtain ⟨a, bs, rfl, hS, q⟩ := h
  obtain ⟨u, rfl, ru⟩ := vals1 r
  cases ru
  obtain ⟨its, rv, pl, hz⟩ := I.list hS
  have hl : its.length = bs.length := by rw [← rv.length, List.length_map]
  have hlt : a ≠ s.heap.objs.size := by obtain ⟨o, e, _⟩ := pl.isList; exact Nat.ne_of_lt (Heap.lt_size e)
  refine call_all_walk (wpAny_pyIter_list pl.isList ?_)
  refine ⟨s.heap.objs.size, _, _, _, _, _, fun i => bs.getD i false, rfl, Walks.list (A := X.A.in1) (I.ok.hd hc) _ a hlt its.toArray, ⟨⟨_, Heap.get?_push_size _ rfl, rfl, rfl⟩, pl.isList.push _⟩, fun i v s' Q' E' hP hQ => ?_, fun h' tk hk => ?_⟩
  · rw [val_bl rv hP]
    exact wpAny_truthy_bool hQ
  · refine ⟨.bl _, H, I.walked hk, rfl, ?_⟩
    have e : (List.range its.toArray.size).all (fun i => bs.getD i false) = bs.all id := by
      rw [List.size_toArray, hl]
      exact range_all bs false id
    rw [e]
    exact q
end
end L2
set_option Elab.async false
set_option linter.all false
set_option maxRecDepth 100000
namespace L2
open PySem PySem.Spec PyProof.Rows


noncomputable def cutL (l : List Nat) (lo hi : Option Int) : List Nat := (l.drop (HT.sIx l.length 0 lo)).take (HT.sIx l.length l.length hi - HT.sIx l.length 0 lo)
noncomputable def rSlS : V → Option Int → Option Int → Hp → VK → Prop := fun x lo hi H Q => ∃ z, x = .str z ∧ z.length ≤ sizeLine ∧ Q (.str (Txt.slice z lo hi)) H
end L2
set_option Elab.async false
set_option linter.all false
set_option maxRecDepth 100000
namespace L2
open PySem PySem.Spec PyProof.Rows

noncomputable def cxCompF (X : Cx) (Nc : List Str) (scope : Scope) (cl : List (Str × Addr)) (C : Addr) (fp : List Addr) (s : Shared) (H : Hp) : Cx :=
  { X with N := Nc, s₀ := s, H₀ := H, env := compEnvC scope cl C X.env, outer := X.stack, ex := fp, fn := fun _ => false, pn := [], xe := fun _ _ => False }

noncomputable def tTurnsI (J : It) (D : Addr) (g : TG) (tt : TT) (te : TE) (fin : List V → Hp → Prop) (σ : St) (H : Hp) : Prop :=
  ∃ W : Nat → Nat → List V → St → Hp → Prop, (∃ m, W 0 m [] σ H) ∧ (∀ i m ys σ H, W i m ys σ H → H D = some (.lst ys)) ∧
    ∀ i m ys σ H, W i m ys σ H → (J.stop i H ∧ fin ys H) ∨
      (J.go i H ∧ ∃ N : List V → St → Hp → Prop, (∀ ys' σ' H', N ys' σ' H' → ∃ m', m' < m ∧ W (i + 1) m' ys' σ' H') ∧
        ∀ x H', J.yld i H x H' → g x σ H' fun σ1 H1 => tt σ1 H1 fun b H2 => if b = true then te σ1 H2 fun y H3 => H3 D = some (.lst ys) ∧ ys.length < sizeLine ∧ N (ys ++ [y]) σ1 (upd H3 D (.lst (ys ++ [y]))) else N ys σ1 H2)
noncomputable def tCompI (src : List (Option Nat)) (wi : TI) (g : TG) (tt : TT) (te : TE) : TE := fun σ H Q => wi σ H fun J H1 => ∀ D, H1 D = none → tTurnsI J D g tt te (fun ys H2 => Q (.ref D) H2) (capt src σ) (upd H1 D (.lst []))
section
variable {X : Cx} {elt iter tgt : Expr} {ifs : List Expr} {scope : Scope} {cl : List (Str × Addr)} {Nc : List Str} {src : List (Option Nat)} {g : TG} {tt : TT} {te : TE}
theorem comp_blockI {pins : List (Addr × Obj)} {σ : St} {H : Hp} {s : Shared} {D it : Addr} {fp : List Addr} {tn : Nat → Heap → Prop} {J : It} {R : Addr → Result → Shared → Prop} {fin : List V → Hp → Prop} {pos : Pos} {E : Value → Shared → Prop}
    (c : CompOk X Nc scope cl src) (hcalm : X.calm = true) (I : Inv X pins σ H s) (T : Turn X.prog X.w X.K tgt J fp it tn) (st0 : tn 0 s.heap) (f : ∀ b ∈ fp, FpOk X pins H b)
    (hb : ∀ C s' H', PG (cxCompF X Nc scope cl C fp s' H') tgt g ∧ PIf (cxCompF X Nc scope cl C fp s' H') ifs tt ∧ PE (cxCompF X Nc scope cl C fp s' H') elt te)
    (h : tTurnsI J D g tt te fin (capt src σ) H)
    (kend : ∀ C ys σ' H' s', H C = none → Inv (cxCompF X Nc scope cl C fp s H) [] σ' H' s' → H' D = some (.lst ys) → fin ys H' → R C (.ok .next) s') :
    wpAny (model X.prog X.w) X.A (newFunctionEnv scope X.env.globals cl [] X.env.qual none .none (some X.env)) (fun cenv s4 =>
      codeAny (model X.prog X.w) X.A (.compStart (.ListComp elt [⟨tgt, iter, ifs, 0⟩] scope pos) 0 (.ref it) (.ref D) { cenv with scope := relabel scope X.env }) (R cenv.locals) s4) E s := by
  obtain ⟨W, ⟨m0, w0⟩, wi, wt⟩ := h
  refine wpAny_newFunctionEnv c.cell (by intro y hy; simp at hy) (fun h1 hn1 hs1 => ?_) c.kind
  have hC0 : H s.heap.objs.size = none := I.hok.fresh (Nat.le_refl _)
  have old : ∀ b o, s.heap.get? b = some o → h1.get? b = some o := fun b o e => hs1.extBut b o (Nat.ne_of_lt (Heap.lt_size e)) (Heap.get?_push_of_some _ e)
  have fplt : ∀ b ∈ fp, b < s.heap.objs.size := fun b hb => by
    obtain ⟨o, e, _⟩ := T.obj 0 _ st0 b hb
    exact Heap.lt_size e
  have inStk : ∀ b ∈ fp, b ∉ frs X.stack := fun b hb z => (List.mem_cons.mp (I.stkSub b z)).elim (f b hb).2.1 (f b hb).2.2.1
  have Yok : (cxCompF X Nc scope cl s.heap.objs.size fp s H).Ok := by
    refine ⟨I.ok.mod, c.kind, I.ok.glob, I.ok.blt, Nat.le_refl _, fun x y b h1 h2 => I.ok.inj x y b (c.sub x b h1) (c.sub y b h2), fun x hx => c.has x hx, (fun x b h1 _ => nomatch h1), I.ok.hd, I.ok.frames, .inl rfl, fun b hb => ?_, fun b o e => I.bs b o e, Nat.le_trans I.ok.bsz I.sz, fun b o e hb => ?_, fun b hb => ?_, I.stack, I.stkFree⟩
    · exact ⟨Nat.ne_of_lt (fplt b hb), fun x b' e => (f b hb).2.2.2.2.1 x b' (c.sub x b' e)⟩
    · have e0 := (I.ok.bs b o e).1
      rcases (f b hb).2.2.2.1 with z | z
      · exact I.ok.noex b o e z
      · rw [z] at e0; cases e0
    · exact inStk b hb
  have J0 : Inv (cxCompF X Nc scope cl s.heap.objs.size fp s H) [] (capt src σ) H { s with heap := h1, toks := s.toks + ([] : List (Str × Value)).length } := by
    refine ⟨Yok, rfl, I.bare, Un.kept old, ⟨_, hn1, fun i x v e1 e2 e3 => ?_⟩, fun x b e => ?_, hC0, fun x b e => I.freeC x b (c.sub x b e), fun p hp => absurd (show p ∈ ([] : List (Addr × Obj)) from hp) (by simp), I.hok.kept old, ?_⟩
    · unfold capt at e2
      rw [List.getElem?_map] at e2
      cases q : src[i]? with
      | none => rw [q] at e2; cases e2
      | some oj =>
        rw [q] at e2
        cases oj with
        | none => cases e2
        | some j =>
          obtain ⟨y, y1, y2, y3, y4⟩ := c.frm i j q
          obtain rfl : y = x := Option.some.inj (y1.symm.trans e1)
          have e2' : (σ[j]?).join = some v := Option.some.inj e2
          have e2s : σ[j]? = some (some v) := by
            cases z : σ[j]? with
            | none => rw [z] at e2'; cases e2'
            | some ov => rw [z] at e2'; exact congrArg some e2'
          obtain ⟨m, hn, hl⟩ := I.loc
          obtain ⟨u, r, l⟩ := hl j y v y2 e2s (.inr (.inl y3))
          refine ⟨u, r, .inr ⟨.inl y4, ?_⟩⟩
          rcases l with ⟨k1, _⟩ | ⟨_, b, k2, k3⟩
          · exact absurd (k1.symm.trans y3) (by intro z; cases z)
          · obtain ⟨b', k4⟩ := c.has y (.inl y4)
            have k5 := c.sub y b' k4
            rw [k2] at k5
            cases k5
            obtain ⟨o, ho, hd⟩ := k3
            exact ⟨b, k4, o, old b o ho, hd⟩
    · obtain ⟨v, o, ho, hd⟩ := I.cell x b (c.sub x b e)
      exact ⟨v, o, old b o ho, hd⟩
    · unfold capt
      rw [List.length_map]
      exact c.len
  have st1 : tn 0 h1 := T.keep _ _ _ st0 fun b _ o e => old b o e
  obtain ⟨bg, bi, be⟩ := hb s.heap.objs.size s H
  have fpY : ∀ {H2 : Hp}, (∀ b ∈ fp, H2 b = none) → ∀ b ∈ fp, FpOk (cxCompF X Nc scope cl s.heap.objs.size fp s H) [] H2 b := fun {H2} n b hb =>
    ⟨n b hb, Nat.ne_of_lt (fplt b hb), inStk b hb, .inl hb, fun x b' e => (f b hb).2.2.2.2.1 x b' (c.sub x b' e), fun p hp => absurd (show p ∈ ([] : List (Addr × Obj)) from hp) (by simp)⟩
  have loop : codeAny (model X.prog X.w) X.A (.compLoop (.ListComp elt [⟨tgt, iter, ifs, 0⟩] scope pos) 0 (.ref it) (.ref D) (compEnvC scope cl s.heap.objs.size X.env)) (R s.heap.objs.size) { s with heap := h1, toks := s.toks + ([] : List (Str × Value)).length } := by
    refine comp_loop (fun n s' => ∃ i ys σ' H', Inv (cxCompF X Nc scope cl s.heap.objs.size fp s H) [] σ' H' s' ∧ tn i s'.heap ∧ (∀ b ∈ fp, H' b = none) ∧ W i n ys σ' H') ?_ m0 ⟨0, [], _, H, J0, st1, fun b hb => (f b hb).1, w0⟩
    rintro n s2 ⟨i, ys, σ2, H2, J2, st2, fr2, w2⟩
    have q2 := wi i n ys σ2 H2 w2
    rcases wt i n ys σ2 H2 w2 with ⟨stop, qn⟩ | ⟨go, N, hN, step⟩
    · refine thn (T.done (cxCompF X Nc scope cl s.heap.objs.size fp s H) rfl rfl rfl hcalm i [] s2 σ2 H2 _ J2 (fpY fr2) st2 stop) fun r s4 ⟨hr, I4⟩ => ?_
      subst hr
      exact kend _ ys σ2 H2 _ hC0 I4 q2 qn
    · refine thn (T.item (cxCompF X Nc scope cl s.heap.objs.size fp s H) rfl rfl rfl hcalm i [] s2 σ2 H2 _ J2 (fpY fr2) st2 go) fun r s4 ⟨u, hr, h4⟩ => ?_
      subst hr
      refine thn h4 fun _ s5 ⟨x, H5, I5, r5, y5, st5, fr5⟩ => ?_
      have I5' := I5.pinned (fpY fr5) (T.obj _ _ st5)
      have back : ∀ {σ7 : St} {H7 : Hp} {s7 : Shared}, Inv (cxCompF X Nc scope cl s.heap.objs.size fp s H) ([] ++ pinsAt fp s5.heap) σ7 H7 s7 → Inv (cxCompF X Nc scope cl s.heap.objs.size fp s H) [] σ7 H7 s7 ∧ tn (i + 1) s7.heap ∧ ∀ b ∈ fp, H7 b = none := fun {σ7 H7 s7} I7 => by
        refine ⟨I7.unpinned, T.keep _ _ _ st5 fun b hb o e => (I7.pin (b, o) (List.mem_append_right _ (List.mem_append_right _ (mem_pinsAt hb e)))).1, fun b hb => ?_⟩
        obtain ⟨o, e, d⟩ := T.obj _ _ st5 b hb
        exact (I7.pin (b, o) (List.mem_append_right _ (List.mem_append_right _ (mem_pinsAt hb e)))).2.1
      refine thn (bg _ s5 σ2 H5 x u _ I5' r5 (step x H5 y5)) fun _ s6 ⟨σ6, H6, I6, q6⟩ => ?_
      refine thn (bi _ s6 σ6 H6 _ I6 q6) fun b s7 ⟨H7, I7, q7⟩ => ?_
      cases b with
      | false =>
        obtain ⟨m', hm, w7⟩ := hN _ _ _ q7
        obtain ⟨J7, st7, fr7⟩ := back I7
        exact ⟨m', hm, i + 1, ys, σ6, H7, J7, st7, fr7, w7⟩
      | true =>
        refine thn (be _ s7 σ6 H7 _ I7 q7) fun y s8 ⟨vy, H8, I8, ry, hD8, hl8, n8⟩ => ?_
        refine thn (mt_append (X := cxCompF X Nc scope cl s.heap.objs.size fp s H) _ s8 σ6 H8 (.ref D) [vy] (.ref D) [y] (fun _ H' => H' = upd H8 D (.lst (ys ++ [vy]))) I8 rfl (.cons ry .nil) ⟨D, ys, vy, rfl, rfl, hD8, hl8, rfl⟩) fun _ s9 ⟨_, H9, I9, _, e9⟩ => ?_
        subst e9
        obtain ⟨m', hm, w8⟩ := hN _ _ _ n8
        obtain ⟨J9, st9, fr9⟩ := back I9
        exact ⟨m', hm, i + 1, ys ++ [vy], σ6, _, J9, st9, fr9, w8⟩
  exact codeAny_compStart_list loop (T.self _ 0 _ _ _ st1 loop)

theorem comp_backI {pins : List (Addr × Obj)} {σ σ' : St} {H H' : Hp} {s s' : Shared} {C : Addr} {fp : List Addr} {h' : Heap} (I : Inv X pins σ H s) (f : ∀ b ∈ fp, FpOk X pins H b) (J : Inv (cxCompF X Nc scope cl C fp s H) [] σ' H' s') (hs : Heap.SameBut C s'.heap h') :
    Inv X pins σ H' { s' with heap := h' } := by
  have nC : ∀ b o, s.heap.get? b = some o → b ≠ C := fun b o e => Nat.ne_of_lt (Nat.lt_of_lt_of_le (Heap.lt_size e) J.ok.above)
  have B := J.base
  refine I.call' (s' := { s' with heap := h' }) (ch := fp) J.os ⟨fun b o e n hb hx => (hs.2 b (nC b o e)).trans (B.keep b o e n hb hx), fun b o e n hb hx => ?_, B.free, fun b o e hx => ?_, B.tups, B.frzs, B.tbls⟩ (fun b u q => ?_) J.bare fun b hb => ?_
  · obtain ⟨sl, z⟩ := B.slot b o e n hb hx
    exact ⟨sl, (hs.2 b (nC b o e)).trans z⟩
  · obtain ⟨o', z⟩ := B.there b o e hx
    exact ⟨o', (hs.2 b (nC b o e)).trans z⟩
  · have hC : H' C = none := J.free
    refine (J.hok b u q).stay (fun c v hc z => (hs.2 c ?_).trans z) (fun _ z => z) fun _ _ z => z
    rintro rfl
    rcases hc with hc | hc
    · rw [← hc, hC] at q; cases q
    · rw [hC] at hc; cases hc
  · exact ⟨(f b hb).2.2.2.1, (f b hb).2.1, (f b hb).2.2.2.2.1, (f b hb).2.2.2.2.2⟩

theorem pe_compI {wi : TI} {pos : Pos} (c : CompOk X Nc scope cl src) (hcalm : X.calm = true) (hi : PI X tgt iter wi)
    (hb : ∀ fp C s' H', PG (cxCompF X Nc scope cl C fp s' H') tgt g ∧ PIf (cxCompF X Nc scope cl C fp s' H') ifs tt ∧ PE (cxCompF X Nc scope cl C fp s' H') elt te)
    (hs : ∀ x, foldedSetIterable iter X.env x = pure x := by intro _; rfl) : PE X (.ListComp elt [⟨tgt, iter, ifs, 0⟩] scope pos) (tCompI src wi g tt te) := by
  intro pins s σ H Q I h
  rw [eval_ListComp]
  refine wpAny_comprehension_free (use := none) rfl hs c.clos c.kind c.names (thn (hi pins s σ H _ I h) fun v s1 h1 => thn h1 fun itv s2 h2 => ?_)
  obtain ⟨it, fp, tn, J, H2, e, I2, T, st2, f2, hT⟩ := h2
  subst e
  refine wpAny_newObj_type ?_ (by size_fits)
  have old : ∀ b o, s2.heap.get? b = some o → (s2.heap.push { cls := .type "list", data := .seq ([] : List Value).toArray }).get? b = some o := fun b o e => Heap.get?_push_of_some _ e
  have I3 := I2.laid (a := s2.heap.objs.size) (o := .lst []) (t' := s2.toks) (h' := s2.heap.push { cls := .type "list", data := .seq ([] : List Value).toArray }) old (Nat.le_refl _) ⟨Nat.zero_le _, [], 0, .nil, Heap.get?_push_size _ rfl⟩
  have ne : ∀ b ∈ fp, b ≠ s2.heap.objs.size := fun b hb => by
    obtain ⟨o, e, _⟩ := T.obj 0 _ st2 b hb
    exact Nat.ne_of_lt (Heap.lt_size e)
  have f3 : ∀ b ∈ fp, FpOk X pins (upd H2 s2.heap.objs.size (.lst [])) b := fun b hb => ⟨by rw [upd_ne (ne b hb)]; exact (f2 b hb).1, (f2 b hb).2⟩
  refine comp_blockI (it := it) (R := fun C => compPost (model X.prog X.w) X.A X.xe none (EP X pins σ Q) _ C) c hcalm I3 T (T.keep _ _ _ st2 fun b _ o e => old b o e) f3 (hb fp) (hT _ (I2.hok.fresh (Nat.le_refl _))) fun C ys σ' H' s' hC J' hD q => ?_
  obtain ⟨m, hn, _⟩ := id J'.loc
  exact ⟨m, hn, fun h' hs' => ⟨.ref _, H', comp_backI I3 f3 J' hs', rfl, q⟩⟩
end

section
variable {K : PySem.W.Frag} {a D : Addr} {xs : List V} {g : TG} {tt : TT} {te : TE} {fin : List V → Hp → Prop} {σ : St} {H : Hp}

noncomputable def cTurn (D : Addr) (g : TG) (tt : TT) (te : TE) (x : V) (ys : List V) (N : List V → St → Hp → Prop) (σ : St) (H : Hp) : Prop :=
  g x σ H fun σ1 H1 => tt σ1 H1 fun b H2 => if b = true then te σ1 H2 fun y H3 => H3 D = some (.lst ys) ∧ ys.length < sizeLine ∧ N (ys ++ [y]) σ1 (upd H3 D (.lst (ys ++ [y]))) else N ys σ1 H2
end
end L2
set_option Elab.async false
set_option linter.all false
set_option maxRecDepth 100000
namespace L2
open PySem PySem.Spec PyProof.Rows

noncomputable def CanCall (X : Cx) (v : V) (vs : List V) (H : Hp) (Q : VK) : Prop :=
  ∃ (CX : CXT) (k : Nat) (f : Addr) (fd : FuncData) (ps : List Str) (sp : Sp) (E : XK), v = .ref f ∧ FnOk X.prog X.w X.K X.mg X.base CX k f fd ps sp ∧ Room k X.A ∧ Binds X.K fd ps [] ∧ Passes CX X E ∧ sp vs H Q E
noncomputable def CDivB (i j : Int) : Prop := 0 < j ∧ j < 2 ^ 64
end L2
set_option Elab.async false
set_option linter.all false
set_option maxRecDepth 100000
namespace L2
open PySem PySem.Spec PyProof.Rows

noncomputable def Its (z : Str) : It := ⟨fun i _ => i < z.cps.size, fun i H x H' => H' = H ∧ ∃ c, z.cps[i]? = some c ∧ x = .str ⟨#[c]⟩, fun i _ => z.cps.size ≤ i⟩
theorem iterTy (z : Str) : strIterType z = "str_ascii_iterator" ∨ strIterType z = "str_iterator" := by
  unfold strIterType
  split
  · exact .inl rfl
  · exact .inr rfl
theorem turn_str {P : Program} {w : World} {K : PySem.W.Frag} {tg : Expr} (z : Str) (t : Tok) (it : Addr) : Turn P w K tg (Its z) [it] it (fun i h => h.IsStrIter it (strIterType z) z t i) where
  mem := by simp
  obj := fun i h st b hb => by
    have e : b = it := by simpa using hb
    subst e
    obtain ⟨o, e, c, d⟩ := st
    exact ⟨o, e, fun v q => by rw [d] at q; cases q⟩
  keep := fun i h h' st k => by
    obtain ⟨o, e, r⟩ := st
    exact ⟨o, k it (by simp) o e, r⟩
  item := by
    intro X hP hw hK hc i pins s σ H E I hf st hg
    subst hP hw hK
    have hg' : i < z.cps.size := hg
    have hx : z.cps[i]? = some z.cps[i] := Array.getElem?_eq_getElem hg'
    obtain ⟨f0, f1, f2, f3, f4, f5⟩ := hf it (by simp)
    have fin : ∀ h' : Heap, h'.IsStrIter it (strIterType z) z t (i + 1) → Heap.SameBut it s.heap h' → ∃ u, some (Value.str ⟨#[z.cps[i]]⟩ s.toks) = some u ∧
        wpAny (model X.prog X.w) X.A (letOwnedTupleGo tg (.ref it) u) (fun _ s2 => ∃ x H', Inv X pins σ H' s2 ∧ RelV x u ∧ (Its z).yld i H x H' ∧ s2.heap.IsStrIter it (strIterType z) z t (i + 1) ∧ ∀ b ∈ [it], H' b = none) E { s with heap := h', toks := s.toks + 1 } := fun h' st' sb => by
      have I1 : Inv X pins σ H { s with heap := h', toks := s.toks + 1 } := I.turned (t' := s.toks + 1) (fun b o hb e => (sb.2 b hb).trans e) f0 f1 f3 f4 f5
      obtain ⟨o, e, c, d⟩ := id st'
      refine ⟨_, rfl, go_of (s := { s with heap := h', toks := s.toks + 1 }) e c d ?_ ⟨.str ⟨#[z.cps[i]]⟩, H, I1, ⟨_, rfl⟩, ⟨rfl, _, hx, rfl⟩, st', fun b hb => (hf b hb).1⟩⟩
      rcases iterTy z with q | q <;> rw [q] <;> decide
    rcases iterTy z with q | q
    · rw [q] at st fin ⊢
      exact wpAny_pyNext_ascii_item st hx fun h' st' sb => fin h' st' sb
    · rw [q] at st fin ⊢
      exact wpAny_pyNext_wide_item st hx fun h' st' sb => fin h' st' sb
  done := by
    intro X hP hw hK hc i pins s σ H E I hf st hg
    subst hP hw hK
    have hg' : z.cps.size ≤ i := hg
    have hx : z.cps[i]? = none := Array.getElem?_eq_none hg'
    obtain ⟨f0, f1, f2, f3, f4, f5⟩ := hf it (by simp)
    have fin : ∀ h' : Heap, Heap.ExtBut it s.heap h' → (none : Option Value) = none ∧ Inv X pins σ H { s with heap := h' } := fun h' eb => ⟨rfl, I.turned (t' := s.toks) (fun b o hb e => eb b o hb e) f0 f1 f3 f4 f5⟩
    rcases iterTy z with q | q
    · rw [q] at st
      exact wpAny_pyNext_ascii_end (I.ok.hd hc) st hx fin
    · rw [q] at st
      exact wpAny_pyNext_wide_end (I.ok.hd hc) st hx fin
  self := fun _ _ _ _ _ st h => by
    rcases iterTy z with q | q
    · rw [q] at st
      exact wpAny_pyIter_striter_ascii st h
    · rw [q] at st
      exact wpAny_pyIter_striter_wide st h
noncomputable def iStr (tl : TE) : TI := fun σ H R => tl σ H fun x H1 => ∃ z, x = .str z ∧ R (Its z) H1
theorem pi_str {X : Cx} {tg l : Expr} {tl : TE} (hl : PE X l tl) : PI X tg l (iStr tl) := by
  intro pins s σ H R I h
  refine thn (hl pins s σ H _ I h) fun v s1 ⟨x, H1, I1, r1, q1⟩ => ?_
  obtain ⟨z, e, q⟩ := q1
  subst e
  obtain ⟨t, rfl⟩ := r1
  refine wpAny_pyIter_strU ?_
  refine ⟨s1.heap.objs.size, [s1.heap.objs.size], _, _, H1, rfl, I1.kept (t' := s1.toks) fun b o e => Heap.get?_push_of_some _ e, turn_str z t _, ⟨_, Heap.get?_push_size _ rfl, rfl, rfl⟩, fun b hb => ?_, q⟩
  have e : b = s1.heap.objs.size := by simpa using hb
  subst e
  exact I1.fpOk (Nat.le_refl _) (I1.hok.fresh (Nat.le_refl _))

noncomputable def sgn (c : Nat) : V := .str ⟨#[c]⟩
section
variable {D : Addr} {g : TG} {tt : TT} {te : TE} {fin : List V → Hp → Prop} {σ : St} {H : Hp} {z : Str}
end
end L2
set_option Elab.async false
set_option linter.all false
set_option maxRecDepth 100000
namespace L2
open PySem PySem.Spec PyProof.Rows

section
variable {X : Cx}

theorem sign_in (x : Str) (c : Nat) : (!(Builtin.Str.occurrences x ⟨#[c]⟩ 0 x.length 1).isEmpty) = x.cps.toList.contains c := by
  rw [Bool.eq_iff_iff, StrLaws.found_iff, List.contains_iff_mem]
  constructor
  · rintro ⟨i, h⟩
    exact List.mem_of_getElem? ((StrLaws.subAt_one x c i).mp h)
  · intro h
    obtain ⟨i, hi⟩ := List.getElem?_of_mem h
    exact ⟨i, (StrLaws.subAt_one x c i).mpr hi⟩

noncomputable def timesS (z : Str) (n : Int) : Str := ⟨(List.replicate n.toNat z.cps.toList).flatten.toArray⟩
end
end L2
set_option Elab.async false
set_option linter.all false
set_option maxRecDepth 100000
namespace L2
open PySem PySem.Spec PyProof.Rows
open Builtin.Str (occurrences partsBetween)

section
variable {X : Cx}
end
end L2
set_option Elab.async false
set_option linter.all false
set_option maxRecDepth 100000
namespace L2
open PySem PySem.Spec PyProof.Rows

inductive Dt where
  | v (x : V)
  | l (xs : List Dt)
  | t (xs : List Dt)

inductive Is (K : PySem.W.Frag) (H : Hp) : Nat → V → Dt → Prop where
  | v {n : Nat} {x : V} : flatV x = true → Is K H n x (.v x)
  | l {n : Nat} {a : Addr} {xs : List V} {ds : List Dt} : SqL K H a xs → xs.length = ds.length → (∀ (j : Nat) x d, xs[j]? = some x → ds[j]? = some d → Is K H n x d) → Is K H (n + 1) (.ref a) (.l ds)
  | t {n : Nat} {a : Addr} {xs : List V} {ds : List Dt} : SqT K H a xs → xs.length = ds.length → (∀ (j : Nat) x d, xs[j]? = some x → ds[j]? = some d → Is K H n x d) → Is K H (n + 1) (.ref a) (.t ds)
theorem Is.flat {K : PySem.W.Frag} {H : Hp} {a : Addr} {xs : List V} (h : SqL K H a xs) (f : xs.all flatV = true) : Is K H 1 (.ref a) (.l (xs.map Dt.v)) := by
  refine .l h (by simp) fun j x d e1 e2 => ?_
  rw [List.getElem?_map, e1] at e2
  cases e2
  exact .v (List.all_eq_true.mp f x (List.mem_of_getElem? e1))
theorem Is.flatT {K : PySem.W.Frag} {H : Hp} {a : Addr} {xs : List V} (h : SqT K H a xs) (f : xs.all flatV = true) : Is K H 1 (.ref a) (.t (xs.map Dt.v)) := by
  refine .t h (by simp) fun j x d e1 e2 => ?_
  rw [List.getElem?_map, e1] at e2
  cases e2
  exact .v (List.all_eq_true.mp f x (List.mem_of_getElem? e1))
theorem eqV_self {x : V} (f : flatV x = true) : eqV x x = true := by
  cases x <;> simp [flatV] at f <;> simp [eqV]
theorem all_true (n : Nat) : (List.range n).all (fun _ => true) = true := by
  rw [List.all_eq_true]
  intro _ _
  rfl
section
variable {X : Cx} {pins : List (Addr × Obj)} {σ : St} {H : Hp} {s : Shared}
theorem ix_of {xs : List V} {its : List Value} (r : Vals xs its) {j : Nat} (h : j < its.toArray.size) : ∃ x, xs[j]? = some x ∧ RelV x its.toArray[j] := by
  have hl := r.length
  have hj : j < xs.length := by rw [hl]; simpa using h
  refine ⟨xs[j], List.getElem?_eq_getElem hj, ?_⟩
  obtain ⟨u, e1, e2⟩ := r.get (List.getElem?_eq_getElem hj)
  have : its[j]? = some its.toArray[j] := by simp at h ⊢
  rw [this] at e1
  cases e1
  exact e2
theorem eqAt_same (I : Inv X pins σ H s) : ∀ (n : Nat) (d : Dt) (x y : V) (u v : Value) (A : Around), Is X.K H n x d → Is X.K H n y d → RelV x u → RelV y v → A.units + n < cLine → SeqAt.EqAt A s u v true := by
  intro n
  induction n with
  | zero =>
    intro d x y u v A hx hy ru rv hu
    cases hx with
    | v f =>
      cases hy with
      | v f' =>
        have e := eqAt_V (A := A) (s := s) ru rv f f
        rw [eqV_self f] at e
        exact e
  | succ n ih =>
    intro d x y u v A hx hy ru rv hu
    cases hx with
    | v f =>
      cases hy with
      | v f' =>
        have e := eqAt_V (A := A) (s := s) ru rv f f
        rw [eqV_self f] at e
        exact e
    | l h1 h2 h3 =>
      cases hy with
      | l g1 g2 g3 =>
        cases ru
        cases rv
        rename_i a xs ds b ys
        by_cases hab : a = b
        · subst hab
          exact SeqAt.EqAt.same _
        · obtain ⟨us, r1, p1, _⟩ := I.list h1
          obtain ⟨ws, r2, p2, _⟩ := I.list g1
          have e := SeqAt.RcAt.lists (A := A) (e := fun _ => true) p1.isList p2.isList (by rw [List.size_toArray, List.size_toArray, ← r1.length, ← r2.length, h2, g2]) (by omega) fun j k1 k2 => by
            obtain ⟨x, ex, rx⟩ := ix_of r1 k1
            obtain ⟨y, ey, ry⟩ := ix_of r2 k2
            have hj : j < ds.length := by
              have := (List.getElem?_eq_some_iff.mp ex).1
              omega
            exact ih ds[j] x y _ _ A.in1 (h3 j x _ ex (List.getElem?_eq_getElem hj)) (g3 j y _ ey (List.getElem?_eq_getElem hj)) rx ry (by show A.units + 1 + n < cLine; omega)
          rw [all_true] at e
          exact SeqAt.EqAt.of_refs hab e
    | t h1 h2 h3 =>
      cases hy with
      | t g1 g2 g3 =>
        cases ru
        cases rv
        rename_i a xs ds b ys
        by_cases hab : a = b
        · subst hab
          exact SeqAt.EqAt.same _
        · obtain ⟨us, r1, p1, _⟩ := I.tuple h1
          obtain ⟨ws, r2, p2, _⟩ := I.tuple g1
          have e := SeqAt.RcAt.tuples (A := A) (e := fun _ => true) (show s.heap.IsTuple a us.toArray from p1) (show s.heap.IsTuple b ws.toArray from p2) (by omega) fun j k1 k2 => by
            obtain ⟨x, ex, rx⟩ := ix_of r1 k1
            obtain ⟨y, ey, ry⟩ := ix_of r2 k2
            have hj : j < ds.length := by
              have := (List.getElem?_eq_some_iff.mp ex).1
              omega
            exact ih ds[j] x y _ _ A.in1 (h3 j x _ ex (List.getElem?_eq_getElem hj)) (g3 j y _ ey (List.getElem?_eq_getElem hj)) rx ry (by show A.units + 1 + n < cLine; omega)
          rw [all_true, Bool.true_and, show (us.toArray.size == ws.toArray.size) = true by rw [beq_iff_eq, List.size_toArray, List.size_toArray, ← r1.length, ← r2.length, h2, g2]] at e
          exact SeqAt.EqAt.of_refs hab e

theorem kids (I : Inv X pins σ H s) {n : Nat} {ds : List Dt} {xs ys : List V} {us ws : List Value} {A : Around} (r1 : Vals xs us) (r2 : Vals ys ws) (h2 : xs.length = ds.length)
    (h3 : ∀ (j : Nat) x d, xs[j]? = some x → ds[j]? = some d → Is X.K H n x d) (g3 : ∀ (j : Nat) x d, ys[j]? = some x → ds[j]? = some d → Is X.K H n x d) (hu : A.units + (n + 1) < cLine) :
    ∀ j (k1 : j < us.toArray.size) (k2 : j < ws.toArray.size), SeqAt.EqAt A.in1 s us.toArray[j] ws.toArray[j] ((fun _ => true) j) := fun j k1 k2 => by
  obtain ⟨x, ex, rx⟩ := ix_of r1 k1
  obtain ⟨y, ey, ry⟩ := ix_of r2 k2
  have hj : j < ds.length := by
    have := (List.getElem?_eq_some_iff.mp ex).1
    omega
  exact eqAt_same I n ds[j] x y _ _ A.in1 (h3 j x _ ex (List.getElem?_eq_getElem hj)) (g3 j y _ ey (List.getElem?_eq_getElem hj)) rx ry (by show A.units + 1 + n < cLine; omega)
end
section
variable {X : Cx}
noncomputable def isSeq : Dt → Bool
  | .v _ => false
  | _ => true
noncomputable def rSame (X : Cx) (neg : Bool) : R2 := fun x y H Q => ∃ n d, isSeq d = true ∧ Is X.K H n x d ∧ Is X.K H n y d ∧ X.A.units + n < cLine ∧ Q (.bl (!neg)) H
theorem op_eqD : OpR X (compareOp .Eq) (rSame X false) := by
  intro pins s σ H x y v u Q I rx ry h
  obtain ⟨n, d, hq, hx, hy, hu, q⟩ := h
  cases hx with
  | v f => cases hq
  | l h1 h2 h3 =>
    cases hy with
    | l g1 g2 g3 =>
      cases rx
      cases ry
      obtain ⟨us, r1, p1, _⟩ := I.list h1
      obtain ⟨ws, r2, p2, _⟩ := I.list g1
      refine SeqAt.eq_listAt p1.isList p2.isList (by rw [List.size_toArray, List.size_toArray, ← r1.length, ← r2.length, h2, g2]) (by omega) (kids I r1 r2 h2 h3 g3 hu) ?_
      rw [all_true]
      exact ⟨.bl true, H, I, rfl, q⟩
  | t h1 h2 h3 =>
    cases hy with
    | t g1 g2 g3 =>
      cases rx
      cases ry
      obtain ⟨us, r1, p1, _⟩ := I.tuple h1
      obtain ⟨ws, r2, p2, _⟩ := I.tuple g1
      refine SeqAt.eq_tupleAt (show s.heap.IsTuple _ us.toArray from p1) (show s.heap.IsTuple _ ws.toArray from p2) (by omega) (kids I r1 r2 h2 h3 g3 hu) ?_
      rw [all_true, Bool.true_and, show (us.toArray.size == ws.toArray.size) = true by rw [beq_iff_eq, List.size_toArray, List.size_toArray, ← r1.length, ← r2.length, h2, g2]]
      exact ⟨.bl true, H, I, rfl, q⟩
theorem op_neD : OpR X (compareOp .NotEq) (rSame X true) := by
  intro pins s σ H x y v u Q I rx ry h
  obtain ⟨n, d, hq, hx, hy, hu, q⟩ := h
  cases hx with
  | v f => cases hq
  | l h1 h2 h3 =>
    cases hy with
    | l g1 g2 g3 =>
      cases rx
      cases ry
      obtain ⟨us, r1, p1, _⟩ := I.list h1
      obtain ⟨ws, r2, p2, _⟩ := I.list g1
      refine SeqAt.RcNeAt.lists (e := fun _ => true) p1.isList p2.isList (by rw [List.size_toArray, List.size_toArray, ← r1.length, ← r2.length, h2, g2]) (by omega) (kids I r1 r2 h2 h3 g3 hu) _ _ _ _ ?_
      rw [all_true]
      exact ⟨.bl false, H, I, rfl, q⟩
  | t h1 h2 h3 =>
    cases hy with
    | t g1 g2 g3 =>
      cases rx
      cases ry
      obtain ⟨us, r1, p1, _⟩ := I.tuple h1
      obtain ⟨ws, r2, p2, _⟩ := I.tuple g1
      refine SeqAt.RcNeAt.tuples (e := fun _ => true) (show s.heap.IsTuple _ us.toArray from p1) (show s.heap.IsTuple _ ws.toArray from p2) (by omega) (kids I r1 r2 h2 h3 g3 hu) _ _ _ _ ?_
      rw [all_true, Bool.true_and, show (us.toArray.size == ws.toArray.size) = true by rw [beq_iff_eq, List.size_toArray, List.size_toArray, ← r1.length, ← r2.length, h2, g2]]
      exact ⟨.bl false, H, I, rfl, q⟩
end
end L2
set_option Elab.async false
set_option linter.all false
set_option maxRecDepth 100000
set_option maxHeartbeats 1000000

namespace SG
open PySem PyProof.Rows
class Rk where
  num : Value → Int
  knd : SortKind
variable [Rk]
noncomputable def K (xs : Array Keyed) (i : Nat) : Int := match xs[i]? with
  | some q => Rk.num q.1
  | none => 0
noncomputable def SortedTo (xs : Array Keyed) (n : Nat) : Prop := ∀ a b, a ≤ b → b < n → K xs a ≤ K xs b
structure SBase (b₀ : Array Keyed) (st : SortSt) : Prop where
  perm : (arrOf st).Perm b₀
  kind : kindOf st = Rk.knd
  failed : failedOf st = none
  pend : pendingOf st = #[]
theorem SBase.size {b₀ : Array Keyed} {st : SortSt} (h : SBase b₀ st) : (arrOf st).size = b₀.size := h.perm.size_eq
theorem SBase.setArr {b₀ : Array Keyed} {st : SortSt} (h : SBase b₀ st) {ys : Array Keyed} (q : ys.Perm (arrOf st)) : SBase b₀ (PyProof.Rows.setArr st ys) := ⟨q.trans h.perm, h.kind, h.failed, h.pend⟩

noncomputable def Cmp (prog : Program) (w : World) (A : Around) (s : Shared) (b₀ : Array Keyed) : Prop :=
  ∀ p ∈ b₀.toList, ∀ q ∈ b₀.toList, ∀ (Q : Bool → Shared → Prop) (E : Value → Shared → Prop), Q (decide (Rk.num p.1 < Rk.num q.1)) s → wpAny (model prog w) A (keyLt' Rk.knd p.1 q.1) Q E s
section
variable {prog : Program} {w : World} {A : Around} {E : Value → Shared → Prop} {s : Shared} {b₀ : Array Keyed}
theorem SBase.mem {st : SortSt} (h : SBase b₀ st) {i : Nat} (hi : i < b₀.size) : ∃ p, (arrOf st)[i]? = some p ∧ p ∈ b₀.toList := by
  have hi' : i < (arrOf st).size := by rw [h.size]; exact hi
  exact ⟨_, getElem?_pos _ i hi', (Array.perm_iff_toList_perm.mp h.perm).mem_iff.mp (by simp)⟩
theorem wpS_ltK {st : SortSt} {i j : Nat} {Q : Option Bool → SortSt → Prop} (hB : SBase b₀ st) (hk : Cmp prog w A s b₀) (hi : i < b₀.size) (hj : j < b₀.size) (h : Q (some (decide (K (arrOf st) i < K (arrOf st) j))) st) : wpS (model prog w) A E s (ltAt' i j) Q st := by
  obtain ⟨p, e1, m1⟩ := hB.mem hi
  obtain ⟨q, e2, m2⟩ := hB.mem hj
  have k1 : K (arrOf st) i = Rk.num p.1 := by unfold K; rw [e1]
  have k2 : K (arrOf st) j = Rk.num q.1 := by unfold K; rw [e2]
  rw [k1, k2] at h
  rw [ltAt'_eq]; refine wpS_bind (wpS_get ?_)
  show wpS _ _ _ _ (do let u ← elem' (arrOf st) i; let v ← elem' (arrOf st) j; lt' u v) Q st
  rw [elem'_eq, elem'_eq, e1, e2]
  refine wpS_bind (wpS_pure (wpS_bind (wpS_pure (?_))))
  rw [lt'_eq]; refine wpS_bind (wpS_get ?_)
  rw [hB.kind]
  refine wpS_bind (wpS_lift (wpAny_attempt (hk p m1 q m2 _ _ ⟨rfl, ?_⟩)))
  exact wpS_pure h
theorem wpS_ascLoop {st : SortSt} {a N : Nat} {Q : AscSt → SortSt → Prop} (hk : Cmp prog w A s b₀) (hN : N ≤ b₀.size) (h1 : 1 ≤ a) (ha : a ≤ N) (hB : SBase b₀ st) (hs : SortedTo (arrOf st) a)
    (h : ∀ m, a ≤ m → m ≤ N → SortedTo (arrOf st) m → (m = N ∨ K (arrOf st) m < K (arrOf st) (m - 1)) → Q (none, m) st) : wpS (model prog w) A E s (ascLoop a N) Q st := by
  unfold ascLoop
  refine wpS_forRange (I := fun x c st' => st' = st ∧ c = (none, x) ∧ SortedTo (arrOf st) x) ?turn ?done ⟨rfl, rfl, hs⟩
  case done =>
    rintro c st' ⟨rfl, rfl, z⟩
    have e : max a N = N := by omega
    rw [e] at z ⊢
    exact h N ha (Nat.le_refl _) z (.inl rfl)
  case turn =>
    rintro x c st' hx1 hx2 ⟨rfl, rfl, z⟩
    dsimp only
    refine wpS_bind (wpS_ltK hB hk (by omega) (by omega) ?_)
    by_cases lt : K (arrOf st') x < K (arrOf st') (x - 1)
    · simp only [lt, decide_true, if_true]; exact wpS_pure (h x hx1 (by omega) z (.inr lt))
    · simp only [lt, decide_false, Bool.false_eq_true, if_false]
      refine wpS_pure ⟨rfl, rfl, fun i j hij hj => ?_⟩
      by_cases c1 : j < x
      · exact z i j hij c1
      · obtain rfl : j = x := by omega
        by_cases c2 : i = j
        · rw [c2]; exact Int.le_refl _
        · have := z i (j - 1) (by omega) (by omega)
          omega
end
end SG
namespace SG
open PySem PyProof.Rows
variable [Rk]
noncomputable abbrev ky (p : Keyed) : Int := Rk.num p.1
noncomputable def put (x : Keyed) (l : List Keyed) : List Keyed := l.takeWhile (fun y => decide (ky y ≤ ky x)) ++ x :: l.dropWhile (fun y => decide (ky y ≤ ky x))
noncomputable def srt (l : List Keyed) : List Keyed := l.foldl (fun acc x => put x acc) []
theorem srt_snoc (l : List Keyed) (x : Keyed) : srt (l ++ [x]) = put x (srt l) := by
  unfold srt
  rw [List.foldl_append]
  rfl
theorem tw_all {p : Keyed → Bool} : ∀ {a b : List Keyed}, (∀ y ∈ a, p y = true) → (∀ y ∈ b, p y = false) → (a ++ b).takeWhile p = a ∧ (a ++ b).dropWhile p = b
  | [], [], _, _ => ⟨rfl, rfl⟩
  | [], y :: b, _, h => by
    have := h y List.mem_cons_self
    simp [List.takeWhile, List.dropWhile, this]
  | x :: a, b, h1, h2 => by
    have hx := h1 x List.mem_cons_self
    obtain ⟨e1, e2⟩ := tw_all (fun y hy => h1 y (List.mem_cons_of_mem _ hy)) h2
    simp only [List.cons_append, List.takeWhile, List.dropWhile, hx]
    exact ⟨by rw [e1], e2⟩
theorem put_at {x : Keyed} {a b : List Keyed} (h1 : ∀ y ∈ a, ky y ≤ ky x) (h2 : ∀ y ∈ b, ky x < ky y) : put x (a ++ b) = a ++ x :: b := by
  unfold put
  obtain ⟨e1, e2⟩ := tw_all (p := fun y => decide (ky y ≤ ky x)) (a := a) (b := b) (fun y hy => decide_eq_true (h1 y hy)) (fun y hy => decide_eq_false (by have := h2 y hy; omega))
  rw [e1, e2]
theorem put_perm (x : Keyed) (l : List Keyed) : (put x l).Perm (l ++ [x]) := by
  unfold put
  refine List.perm_middle.trans ?_
  rw [List.takeWhile_append_dropWhile]
  exact (List.perm_append_singleton x l).symm
theorem srt_perm (l : List Keyed) : (srt l).Perm l := by
  have : ∀ (l acc : List Keyed), (l.foldl (fun acc x => put x acc) acc).Perm (acc ++ l) := by
    intro l
    induction l with
    | nil => intro acc; simp
    | cons x r ih =>
      intro acc
      rw [List.foldl_cons]
      refine (ih _).trans ?_
      have := (put_perm x acc).append_right r
      simpa using this
  have q := this l []
  rw [List.nil_append] at q
  exact q
theorem srt_mem {l : List Keyed} {y : Keyed} : y ∈ srt l ↔ y ∈ l := (srt_perm l).mem_iff
theorem srt_len (l : List Keyed) : (srt l).length = l.length := (srt_perm l).length_eq
noncomputable abbrev Up (l : List Keyed) : Prop := l.Pairwise fun a b => ky a ≤ ky b
theorem up_put {x : Keyed} {l : List Keyed} (h : Up l) : Up (put x l) := by
  have : ∀ l : List Keyed, Up l → Up (put x l) := by
    intro l
    induction l with
    | nil => intro _; exact List.pairwise_singleton _ _
    | cons y r ih =>
      intro h
      obtain ⟨h1, h2⟩ := List.pairwise_cons.mp h
      by_cases hy : ky y ≤ ky x
      · have e : put x (y :: r) = y :: put x r := by
          unfold put
          simp [List.takeWhile, List.dropWhile, hy]
        rw [e]
        refine List.pairwise_cons.mpr ⟨fun z hz => ?_, ih h2⟩
        rcases List.mem_append.mp ((put_perm x r).mem_iff.mp hz) with q | q
        · exact h1 z q
        · rw [List.mem_singleton.mp q]; exact hy
      · have e : put x (y :: r) = x :: y :: r := by
          unfold put
          simp [List.takeWhile, List.dropWhile, hy]
        rw [e]
        refine List.pairwise_cons.mpr ⟨fun z hz => ?_, h⟩
        rcases List.mem_cons.mp hz with rfl | q
        · omega
        · have := h1 z q; omega
  exact this l h
theorem srt_up (l : List Keyed) : Up (srt l) := by
  have : ∀ (l acc : List Keyed), Up acc → Up (l.foldl (fun acc x => put x acc) acc) := by
    intro l
    induction l with
    | nil => intro acc h; exact h
    | cons x r ih => intro acc h; exact ih _ (up_put h)
  exact this l [] List.Pairwise.nil

theorem srt_more (xs : List Keyed) : ∀ (n : Nat) (b : List Keyed), b.length = n → Up (srt xs ++ b) → srt (xs ++ b) = srt xs ++ b := by
  intro n
  induction n with
  | zero =>
    intro b hb _
    rw [List.length_eq_zero_iff.mp hb]
    simp
  | succ n ih =>
    intro b hb h
    obtain ⟨c, z, rfl⟩ : ∃ c z, b = c ++ [z] := ⟨b.dropLast, b.getLast (by intro e; rw [e] at hb; cases hb), (List.dropLast_concat_getLast _).symm⟩
    rw [List.length_append] at hb
    have h' : Up ((srt xs ++ c) ++ [z]) := by rw [List.append_assoc]; exact h
    obtain ⟨u1, _, u3⟩ := List.pairwise_append.mp h'
    rw [← List.append_assoc, srt_snoc, ih c (by simp at hb; exact hb) u1]
    have := put_at (x := z) (a := srt xs ++ c) (b := []) (fun y hy => u3 y hy z (List.mem_singleton.mpr rfl)) (fun y hy => absurd hy (by simp))
    rw [List.append_nil] at this
    rw [this, List.append_assoc]
theorem srt_id {l : List Keyed} (h : Up l) : srt l = l := by
  have := srt_more [] l.length l rfl (by simpa [srt] using h)
  simpa [srt] using this

theorem srt_front {xs : List Keyed} {v : Int} (h1 : ∀ y ∈ xs, v < ky y) : ∀ (n : Nat) (b : List Keyed), b.length = n → (∀ y ∈ b, ky y = v) → srt (xs ++ b) = b ++ srt xs := by
  intro n
  induction n with
  | zero =>
    intro b hb _
    rw [List.length_eq_zero_iff.mp hb]
    simp
  | succ n ih =>
    intro b hb h
    obtain ⟨c, z, rfl⟩ : ∃ c z, b = c ++ [z] := ⟨b.dropLast, b.getLast (by intro e; rw [e] at hb; cases hb), (List.dropLast_concat_getLast _).symm⟩
    rw [List.length_append] at hb
    have hz : ky z = v := h z (by simp)
    rw [← List.append_assoc, srt_snoc, ih c (by simp at hb; exact hb) fun y hy => h y (by simp [hy])]
    have := put_at (x := z) (a := c) (b := srt xs) (fun y hy => by rw [h y (by simp [hy]), hz]; exact Int.le_refl _) (fun y hy => by rw [hz]; exact h1 y (srt_mem.mp hy))
    rw [this]
    simp

theorem toL {α : Type} {xs : Array α} {l : List α} (h : xs.toList = l) (i : Nat) : xs[i]? = l[i]? := by rw [← h]; simp
theorem list_bubble {xs : Array Keyed} {p q r : List Keyed} {x : Keyed} (h : xs.toList = p ++ (q ++ x :: r)) : (bubble xs (p.length + q.length) q.length).toList = p ++ (x :: (q ++ r)) := by
  have hs : p.length + q.length < xs.size := by
    have : xs.size = (p ++ (q ++ x :: r)).length := by rw [← h]; simp
    rw [this]; simp only [List.length_append, List.length_cons]; omega
  refine List.ext_getElem? fun i => ?_
  have e := getElem?_bubble hs q.length (by omega) i
  rw [Array.getElem?_toList, e, toL h, toL h, toL h, show p.length + q.length - q.length = p.length by omega]
  by_cases h1 : i = p.length
  · have e1 : (p ++ (q ++ x :: r))[p.length + q.length]? = some x := by
      rw [List.getElem?_append_right (by omega), List.getElem?_append_right (by omega)]
      simp
    have e2 : (p ++ (x :: (q ++ r)))[i]? = some x := by
      rw [List.getElem?_append_right (by omega), h1]
      simp
    rw [if_pos h1, e1, e2]
  · rw [if_neg h1]
    by_cases h2 : p.length < i ∧ i ≤ p.length + q.length
    · obtain ⟨j, hj⟩ : ∃ j, i = p.length + (j + 1) := ⟨i - p.length - 1, by omega⟩
      have e1 : (p ++ (q ++ x :: r))[i - 1]? = q[j]? := by
        rw [List.getElem?_append_right (by omega), List.getElem?_append_left (by omega)]
        congr 1
        omega
      have e2 : (p ++ (x :: (q ++ r)))[i]? = q[j]? := by
        rw [List.getElem?_append_right (by omega), show i - p.length = j + 1 by omega, List.getElem?_cons_succ, List.getElem?_append_left (by omega)]
      rw [if_pos h2, e1, e2]
    · rw [if_neg h2]
      by_cases h3 : i < p.length
      · rw [List.getElem?_append_left h3, List.getElem?_append_left h3]
      · obtain ⟨j, hj⟩ : ∃ j, i = p.length + q.length + (j + 1) := ⟨i - p.length - q.length - 1, by omega⟩
        have e1 : (p ++ (q ++ x :: r))[i]? = r[j]? := by
          rw [List.getElem?_append_right (by omega), List.getElem?_append_right (by omega), show i - p.length - q.length = j + 1 by omega, List.getElem?_cons_succ]
        have e2 : (p ++ (x :: (q ++ r)))[i]? = r[j]? := by
          rw [List.getElem?_append_right (by omega), show i - p.length = (q.length + j) + 1 by omega, List.getElem?_cons_succ, List.getElem?_append_right (by omega)]
          congr 1
          omega
        rw [e1, e2]
theorem list_mirror {xs : Array Keyed} {p m r : List Keyed} (h : xs.toList = p ++ (m ++ r)) {i j : Nat} (hi : i = p.length) (hj : j = p.length + m.length) : (mirror xs i j ((j - i) / 2)).toList = p ++ (m.reverse ++ r) := by
  subst hi hj
  have hs : p.length + m.length ≤ xs.size := by
    have : xs.size = (p ++ (m ++ r)).length := by rw [← h]; simp
    rw [this]; simp only [List.length_append]; omega
  refine List.ext_getElem? fun k => ?_
  have e := getElem?_mirror_all (i := p.length) hs k
  rw [Array.getElem?_toList, e, toL h, toL h]
  by_cases h1 : p.length ≤ k ∧ k < p.length + m.length
  · obtain ⟨n, hn⟩ : ∃ n, k = p.length + n := ⟨k - p.length, by omega⟩
    have e1 : (p ++ (m ++ r))[p.length + (p.length + m.length) - 1 - k]? = m[m.length - 1 - n]? := by
      rw [List.getElem?_append_right (by omega), List.getElem?_append_left (by omega)]
      congr 1
      omega
    have e2 : (p ++ (m.reverse ++ r))[k]? = m[m.length - 1 - n]? := by
      rw [List.getElem?_append_right (by omega), List.getElem?_append_left (by rw [List.length_reverse]; omega), List.getElem?_reverse (by omega)]
      congr 1
      omega
    rw [if_pos h1, e1, e2]
  · rw [if_neg h1]
    by_cases h2 : k < p.length
    · rw [List.getElem?_append_left h2, List.getElem?_append_left h2]
    · have e1 : (p ++ (m ++ r))[k]? = r[k - p.length - m.length]? := by
        rw [List.getElem?_append_right (by omega), List.getElem?_append_right (by omega)]
      have e2 : (p ++ (m.reverse ++ r))[k]? = r[k - p.length - m.length]? := by
        rw [List.getElem?_append_right (by omega), List.getElem?_append_right (by rw [List.length_reverse]; omega), List.length_reverse]
      rw [e1, e2]
theorem K_of {xs : Array Keyed} {i : Nat} {p : Keyed} (h : xs[i]? = some p) : K xs i = ky p := by
  unfold K
  rw [h]

theorem up_of {xs : Array Keyed} {l r : List Keyed} (h : xs.toList = l ++ r) (hs : SortedTo xs l.length) : Up l := by
  refine List.pairwise_iff_getElem.mpr fun i j hi hj hij => ?_
  have e1 : xs[i]? = some l[i] := by rw [toL h, List.getElem?_append_left hi]; exact List.getElem?_eq_getElem hi
  have e2 : xs[j]? = some l[j] := by rw [toL h, List.getElem?_append_left hj]; exact List.getElem?_eq_getElem hj
  have := hs i j (Nat.le_of_lt hij) hj
  rw [K_of e1, K_of e2] at this
  exact this
theorem of_up {xs : Array Keyed} {l r : List Keyed} (h : xs.toList = l ++ r) (hu : Up l) : SortedTo xs l.length := by
  intro i j hij hj
  have hi : i < l.length := by omega
  have e1 : xs[i]? = some l[i] := by rw [toL h, List.getElem?_append_left hi]; exact List.getElem?_eq_getElem hi
  have e2 : xs[j]? = some l[j] := by rw [toL h, List.getElem?_append_left hj]; exact List.getElem?_eq_getElem hj
  rw [K_of e1, K_of e2]
  by_cases q : i = j
  · subst q; exact Int.le_refl _
  · exact List.pairwise_iff_getElem.mp hu i j hi hj (by omega)
end SG
namespace SG
open PySem PyProof.Rows
variable [Rk]
section
variable {prog : Program} {w : World} {A : Around} {E : Value → Shared → Prop} {s : Shared} {b₀ : Array Keyed}

structure Got (b₀ : Array Keyed) (st : SortSt) (n : Nat) : Prop where
  base : SBase b₀ st
  list : (arrOf st).toList = srt (b₀.toList.take n) ++ b₀.toList.drop n
theorem sized (b₀ : Array Keyed) : b₀.toList.length = b₀.size := by simp
theorem Got.len {st : SortSt} {n : Nat} (g : Got b₀ st n) (hn : n ≤ b₀.size) : (srt (b₀.toList.take n)).length = n := by
  rw [srt_len, List.length_take, sized]
  omega
theorem Got.up {st : SortSt} {n : Nat} (g : Got b₀ st n) (hn : n ≤ b₀.size) : SortedTo (arrOf st) n := by
  have := of_up g.list (srt_up _)
  rw [g.len hn] at this
  exact this
theorem drop_at {k : Nat} (hk : k < b₀.size) : b₀.toList.drop k = b₀[k] :: b₀.toList.drop (k + 1) := by
  rw [List.drop_eq_getElem_cons (by rw [sized]; exact hk)]
  simp
theorem take_at {k : Nat} (hk : k < b₀.size) : b₀.toList.take (k + 1) = b₀.toList.take k ++ [b₀[k]] := by
  rw [List.take_succ, List.getElem?_eq_getElem (by rw [sized]; exact hk)]
  simp
theorem Got.next {st : SortSt} {k : Nat} (g : Got b₀ st k) (hk : k < b₀.size) : (arrOf st)[k]? = some b₀[k] := by
  rw [toL g.list, List.getElem?_append_right (by rw [g.len (by omega)]; exact Nat.le_refl _), g.len (by omega), drop_at hk]
  simp
theorem Got.atI {st : SortSt} {n i : Nat} (g : Got b₀ st n) (hn : n ≤ b₀.size) (hi : i < n) : ∃ y, (srt (b₀.toList.take n))[i]? = some y ∧ K (arrOf st) i = ky y := by
  have hl := g.len hn
  have e := List.getElem?_eq_getElem (l := srt (b₀.toList.take n)) (i := i) (by rw [hl]; exact hi)
  exact ⟨_, e, K_of (by rw [toL g.list, List.getElem?_append_left (by rw [hl]; exact hi)]; exact e)⟩

theorem Got.insert {st : SortSt} {k c : Nat} (g : Got b₀ st k) (hk : k < b₀.size) (hc : c ≤ k) (lo : ∀ i, i < c → K (arrOf st) i ≤ K (arrOf st) k) (hi : ∀ i, c ≤ i → i < k → K (arrOf st) k < K (arrOf st) i) :
    Got b₀ (setArr st (bubble (arrOf st) k (k - c))) (k + 1) := by
  have hl := g.len (by omega : k ≤ b₀.size)
  have ex : K (arrOf st) k = ky b₀[k] := K_of (g.next hk)
  have e0 : srt (b₀.toList.take k) = (srt (b₀.toList.take k)).take c ++ (srt (b₀.toList.take k)).drop c := (List.take_append_drop _ _).symm
  have lp : ((srt (b₀.toList.take k)).take c).length = c := by rw [List.length_take, hl]; omega
  have lq : ((srt (b₀.toList.take k)).drop c).length = k - c := by rw [List.length_drop, hl]
  have li : (arrOf st).toList = (srt (b₀.toList.take k)).take c ++ ((srt (b₀.toList.take k)).drop c ++ b₀[k] :: b₀.toList.drop (k + 1)) := by
    rw [g.list, drop_at hk, ← List.append_assoc, ← e0]
  refine ⟨g.base.setArr (bubble_perm _ _ _), ?_⟩
  have mv := list_bubble li
  rw [lp, lq, show c + (k - c) = k by omega] at mv
  show (bubble (arrOf st) k (k - c)).toList = _
  rw [mv, take_at hk, srt_snoc]
  have pa := put_at (x := b₀[k]) (a := (srt (b₀.toList.take k)).take c) (b := (srt (b₀.toList.take k)).drop c) (fun y hy => ?_) (fun y hy => ?_)
  · rw [← e0] at pa
    rw [pa]
    simp
  · obtain ⟨i, hi', e⟩ := List.mem_iff_getElem.mp hy
    rw [lp] at hi'
    obtain ⟨z, ez, kz⟩ := g.atI (by omega) (by omega : i < k)
    have : z = y := by
      rw [List.getElem_take] at e
      rw [List.getElem?_eq_getElem (by rw [hl]; omega)] at ez
      rw [← e]
      exact (Option.some.inj ez).symm
    have q := lo i hi'
    rw [kz, ex, this] at q
    exact q
  · obtain ⟨i, hi', e⟩ := List.mem_iff_getElem.mp hy
    rw [lq] at hi'
    obtain ⟨z, ez, kz⟩ := g.atI (by omega) (by omega : c + i < k)
    have : z = y := by
      rw [List.getElem_drop] at e
      rw [List.getElem?_eq_getElem (by rw [hl]; omega)] at ez
      rw [← e]
      exact (Option.some.inj ez).symm
    have q := hi (c + i) (by omega) (by omega)
    rw [kz, ex, this] at q
    exact q
theorem runs_in {st : SortSt} {n m : Nat} {Q : Bool → SortSt → Prop} (hk : Cmp prog w A s b₀) (hn : n ≤ b₀.size) (hm : m ≤ n) (hm1 : 1 ≤ m) (g : Got b₀ st m) (fin : ∀ st', Got b₀ st' n → Q true st') :
    wpS (model prog w) A E s (binarySort' 0 n m) Q st := by
  rw [binarySort'_eq]
  simp only [Nat.zero_add]
  refine wpS_bind (wpS_mono (wpS_forRange (I := fun k c st' => c = (none, ()) ∧ Got b₀ st' k) (Q := fun c st' => c = (none, ()) ∧ Got b₀ st' n) ?turn ?done ?begin) ?after)
  case after =>
    rintro _ st' ⟨rfl, g'⟩
    exact wpS_pure (fin st' g')
  case begin =>
    rw [show max m 1 = m by omega]
    exact ⟨rfl, g⟩
  case done =>
    rintro c st' ⟨hc, g'⟩
    rw [show max (max m 1) n = n by omega] at g'
    exact ⟨hc, g'⟩
  case turn =>
    rintro k _ st' lo hi ⟨rfl, g'⟩
    have kz : k < b₀.size := by omega
    have srtd := g'.up (by omega : k ≤ b₀.size)
    refine wpS_bind (wpS_mono (wpS_forRange
      (I := fun x c st2 => st2 = st' ∧ ∃ l r, c = (none, l, r) ∧ (l ≤ r ∧ r ≤ k ∧ r - l ≤ k - x) ∧ (∀ i, i < l → K (arrOf st') i ≤ K (arrOf st') k) ∧ ∀ i, r ≤ i → i < k → K (arrOf st') k < K (arrOf st') i)
      (Q := fun c st2 => st2 = st' ∧ ∃ l r, c = (none, l, r) ∧ l ≤ k ∧ (∀ i, i < l → K (arrOf st') i ≤ K (arrOf st') k) ∧ ∀ i, l ≤ i → i < k → K (arrOf st') k < K (arrOf st') i) ?t2 ?d2 ?b2) ?a2)
    case b2 => exact ⟨rfl, 0, k, rfl, ⟨by omega, by omega, by omega⟩, fun i hi => absurd hi (by omega), fun i h1 h2 => absurd h2 (by omega)⟩
    case d2 =>
      rintro c st2 ⟨rfl, l, r, rfl, ⟨q1, q2, q3⟩, q4, q5⟩
      obtain rfl : l = r := by omega
      exact ⟨rfl, l, l, rfl, q2, q4, q5⟩
    case t2 =>
      rintro x c st2 _ _ ⟨rfl, l, r, rfl, ⟨q1, q2, q3⟩, q4, q5⟩
      dsimp only
      by_cases end' : l ≥ r
      · rw [if_pos end']
        obtain rfl : l = r := by omega
        exact wpS_pure ⟨rfl, l, l, rfl, q2, q4, q5⟩
      rw [if_neg end']
      refine wpS_bind (wpS_ltK g'.base hk kz (by omega) ?_)
      by_cases less : K (arrOf st2) k < K (arrOf st2) ((l + r) / 2)
      · rw [decide_eq_true less]
        simp only [if_true]
        exact wpS_pure ⟨rfl, l, (l + r) / 2, rfl, ⟨by omega, by omega, by omega⟩, q4, fun i h1 h2 => Int.lt_of_lt_of_le less (srtd _ _ h1 h2)⟩
      · rw [decide_eq_false less]
        simp only [Bool.false_eq_true, if_false]
        refine wpS_pure ⟨rfl, (l + r) / 2 + 1, r, rfl, ⟨by omega, by omega, by omega⟩, fun i h1 => ?_, q5⟩
        have := srtd i ((l + r) / 2) (by omega) (by omega)
        omega
    case a2 =>
      rintro c st2 ⟨rfl, l, r, rfl, q1, q2, q3⟩
      show wpS _ _ _ _ (do moveDown' k l; pure (ForInStep.yield (none, ()))) _ _
      rw [moveDown'_eq]
      exact wpS_bind (wpS_modify (wpS_pure ⟨rfl, g'.insert kz q1 q2 q3⟩))
end
end SG
namespace SG
open PySem PyProof.Rows
variable [Rk]
section
variable {prog : Program} {w : World} {A : Around} {E : Value → Shared → Prop} {s : Shared} {b₀ : Array Keyed}
theorem Got.on {st : SortSt} {n m : Nat} (g : Got b₀ st n) (h1 : n ≤ m) (h2 : m ≤ b₀.size) (hs : SortedTo (arrOf st) m) : Got b₀ st m := by
  have et : b₀.toList.take m = b₀.toList.take n ++ (b₀.toList.drop n).take (m - n) := by
    have := List.take_add (l := b₀.toList) (i := n) (j := m - n)
    rwa [show n + (m - n) = m by omega] at this
  have ed : b₀.toList.drop n = (b₀.toList.drop n).take (m - n) ++ b₀.toList.drop m := by
    have := (List.take_append_drop (m - n) (b₀.toList.drop n)).symm
    rwa [List.drop_drop, show n + (m - n) = m by omega] at this
  have li : (arrOf st).toList = (srt (b₀.toList.take n) ++ (b₀.toList.drop n).take (m - n)) ++ b₀.toList.drop m := by
    rw [g.list, List.append_assoc, ← ed]
  have ln : (srt (b₀.toList.take n) ++ (b₀.toList.drop n).take (m - n)).length = m := by
    rw [List.length_append, g.len (by omega), List.length_take, List.length_drop, sized]
    omega
  refine ⟨g.base, ?_⟩
  rw [et, srt_more _ _ _ rfl (up_of li (by rw [ln]; exact hs))]
  exact li
theorem tail_in {st : SortSt} {n N : Nat} {Q : Option Nat → SortSt → Prop} (hk : Cmp prog w A s b₀) (hN : N ≤ b₀.size) (h1 : 1 ≤ n) (hn : n ≤ N) (hB : SBase b₀ st)
    (li : (arrOf st).toList = (srt (b₀.toList.take n)).reverse ++ b₀.toList.drop n) (fin : ∀ m st', Got b₀ st' m → 1 ≤ m → m ≤ N → Q (some m) st') : wpS (model prog w) A E s (tail3 n N) Q st := by
  unfold tail3
  have ln : (srt (b₀.toList.take n)).length = n := by rw [srt_len, List.length_take, sized]; omega
  refine wpS_bind (wpS_reverse ?_)
  have g : Got b₀ (setArr st (mirror (arrOf st) 0 n ((n - 0) / 2))) n := by
    refine ⟨hB.setArr (mirror_perm _ _ _ _), ?_⟩
    have e := list_mirror (xs := arrOf st) (p := []) (m := (srt (b₀.toList.take n)).reverse) (r := b₀.toList.drop n) (i := 0) (j := n) (by rw [List.nil_append]; exact li) rfl (by rw [List.length_reverse, ln]; simp)
    rw [List.reverse_reverse, List.nil_append] at e
    exact e
  refine wpS_bind (wpS_ascLoop hk hN h1 hn g.base (g.up (by omega)) fun m a1 a2 a3 _ => ?_)
  exact wpS_pure (fin m _ (g.on a1 (by omega) a3) (by omega) a2)

structure Fall (b₀ : Array Keyed) (st : SortSt) (x q : Nat) (xs b : List Keyed) (v : Int) : Prop where
  base : SBase b₀ st
  cut : b₀.toList.take x = xs ++ b
  list : (arrOf st).toList = (srt xs).reverse ++ (b ++ b₀.toList.drop x)
  len : b.length = q + 1
  same : ∀ y ∈ b, ky y = v
  less : ∀ y ∈ xs, v < ky y
theorem Fall.size {st : SortSt} {x q : Nat} {xs b : List Keyed} {v : Int} (f : Fall b₀ st x q xs b v) (hx : x ≤ b₀.size) : xs.length + (q + 1) = x := by
  have := congrArg List.length f.cut
  rw [List.length_take, sized, List.length_append, f.len] at this
  omega
theorem Fall.next {st : SortSt} {x q : Nat} {xs b : List Keyed} {v : Int} (f : Fall b₀ st x q xs b v) (hx : x < b₀.size) : K (arrOf st) x = ky b₀[x] := by
  have sz := f.size (by omega)
  refine K_of ?_
  rw [toL f.list, List.getElem?_append_right (by rw [List.length_reverse, srt_len]; omega), List.getElem?_append_right (by rw [List.length_reverse, srt_len, f.len]; omega), drop_at hx, List.length_reverse, srt_len, f.len, show x - xs.length - (q + 1) = 0 by omega]
  rfl
theorem Fall.last {st : SortSt} {x q : Nat} {xs b : List Keyed} {v : Int} (f : Fall b₀ st x q xs b v) (hx : x ≤ b₀.size) : K (arrOf st) (x - 1) = v := by
  have sz := f.size hx
  have hq : q < b.length := by rw [f.len]; omega
  have e : (arrOf st)[x - 1]? = some b[q] := by
    rw [toL f.list, List.getElem?_append_right (by rw [List.length_reverse, srt_len]; omega), List.getElem?_append_left (by rw [List.length_reverse, srt_len, f.len]; omega), List.length_reverse, srt_len, show x - 1 - xs.length = q by omega]
    exact List.getElem?_eq_getElem hq
  rw [K_of e]
  exact f.same _ (List.getElem_mem hq)

theorem Fall.turned {st : SortSt} {x q : Nat} {xs b : List Keyed} {v : Int} (f : Fall b₀ st x q xs b v) (hx : x ≤ b₀.size) : (mirror (arrOf st) (x - (q + 1)) x ((x - (x - (q + 1))) / 2)).toList = (srt (b₀.toList.take x)).reverse ++ b₀.toList.drop x := by
  have sz := f.size hx
  have e := list_mirror (xs := arrOf st) (p := (srt xs).reverse) (m := b) (r := b₀.toList.drop x) (i := x - (q + 1)) (j := x) f.list (by rw [List.length_reverse, srt_len]; omega) (by rw [List.length_reverse, srt_len, f.len]; omega)
  rw [e, f.cut, srt_front f.less _ _ rfl f.same, List.reverse_append, List.append_assoc]
theorem Fall.still {st : SortSt} {x : Nat} {xs b : List Keyed} {v : Int} (f : Fall b₀ st x 0 xs b v) : (arrOf st).toList = (srt (b₀.toList.take x)).reverse ++ b₀.toList.drop x := by
  obtain ⟨y, hy⟩ : ∃ y, b = [y] := List.length_eq_one_iff.mp f.len
  rw [f.list, f.cut, srt_front f.less _ _ rfl f.same, List.reverse_append, List.append_assoc, hy]
  rfl

theorem fall_on {st : SortSt} {x : Nat} (hB : SBase b₀ st) (hx : x < b₀.size) (li : (arrOf st).toList = (srt (b₀.toList.take x)).reverse ++ b₀.toList.drop x) (hl : ∀ y ∈ b₀.toList.take x, ky b₀[x] < ky y) :
    Fall b₀ st (x + 1) 0 (b₀.toList.take x) [b₀[x]] (ky b₀[x]) := by
  refine ⟨hB, take_at hx, ?_, rfl, fun y hy => by rw [List.mem_singleton.mp hy], hl⟩
  rw [li, drop_at hx]
  rfl
theorem fall_loop {st : SortSt} {n N : Nat} {Q : DescSt → SortSt → Prop} (hk : Cmp prog w A s b₀) (hN : N ≤ b₀.size) (h1 : 1 ≤ n) (hn : n ≤ N) {q0 : Nat} {xs0 c0 : List Keyed} {v0 : Int} (hq0 : q0 = 0) (f0 : Fall b₀ st n q0 xs0 c0 v0)
    (fin : ∀ m q st' xs b v, Fall b₀ st' m q xs b v → n ≤ m → m ≤ N → Q (none, m, q) st') : wpS (model prog w) A E s (descLoop n N) Q st := by
  subst hq0
  unfold descLoop
  refine wpS_forRange (I := fun x c st' => ∃ q xs b v, c = (none, x, q) ∧ Fall b₀ st' x q xs b v) ?turn ?done ⟨0, xs0, c0, v0, rfl, f0⟩
  case done =>
    rintro c st' ⟨q, xs, b, v, rfl, f⟩
    rw [show max n N = N by omega] at f ⊢
    exact fin N q st' xs b v f hn (Nat.le_refl _)
  case turn =>
    rintro x c st' lo hi ⟨q, xs, b, v, rfl, f⟩
    dsimp only
    have hx : x < b₀.size := by omega
    have kx := f.next hx
    have kl := f.last (by omega)
    refine wpS_bind (wpS_ltK f.base hk (by omega) (by omega) ?_)
    by_cases less : K (arrOf st') x < K (arrOf st') (x - 1)
    · rw [decide_eq_true less]
      simp only [if_true]
      have hl : ∀ y ∈ b₀.toList.take x, ky b₀[x] < ky y := fun y hy => by
        rw [kx, kl] at less
        rw [f.cut] at hy
        rcases List.mem_append.mp hy with z | z
        · have := f.less y z; omega
        · rw [f.same y z]; exact less
      by_cases hq : q > 0
      · rw [if_pos hq]
        exact wpS_bind (wpS_reverse (wpS_pure ⟨0, _, _, _, rfl, fall_on (f.base.setArr (mirror_perm _ _ _ _)) hx (f.turned (by omega)) hl⟩))
      · rw [if_neg hq]
        obtain rfl : q = 0 := by omega
        exact wpS_pure ⟨0, _, _, _, rfl, fall_on f.base hx f.still hl⟩
    · rw [decide_eq_false less]
      simp only [Bool.false_eq_true, if_false]
      refine wpS_bind (wpS_ltK f.base hk (by omega) (by omega) ?_)
      by_cases more : K (arrOf st') (x - 1) < K (arrOf st') x
      · rw [decide_eq_true more]
        simp only [if_true]
        exact wpS_pure (fin x q st' xs b v f lo (by omega))
      · rw [decide_eq_false more]
        simp only [Bool.false_eq_true, if_false]
        have eq : ky b₀[x] = v := by rw [kx, kl] at less more; omega
        refine wpS_pure ⟨q + 1, xs, b ++ [b₀[x]], v, rfl, f.base, ?_, ?_, by rw [List.length_append, f.len]; rfl, fun y hy => ?_, f.less⟩
        · rw [take_at hx, f.cut, List.append_assoc]
        · rw [f.list, drop_at hx, List.append_assoc]
          rfl
        · rcases List.mem_append.mp hy with z | z
          · exact f.same y z
          · rw [List.mem_singleton.mp z]; exact eq
theorem fall_part {st : SortSt} {n N : Nat} {Q : Option Nat → SortSt → Prop} (hk : Cmp prog w A s b₀) (hN : N ≤ b₀.size) (hn : n + 1 ≤ N) (hB : SBase b₀ st) (li : (arrOf st).toList = (srt (b₀.toList.take n)).reverse ++ b₀.toList.drop n)
    (hl : ∀ (h : n < b₀.size), ∀ y ∈ b₀.toList.take n, ky b₀[n] < ky y) (fin : ∀ m st', Got b₀ st' m → 1 ≤ m → m ≤ N → Q (some m) st') : wpS (model prog w) A E s (descPart n N) Q st := by
  unfold descPart
  refine wpS_bind (wpS_lift (wpAny_rule ⟨rfl, ?_⟩))
  have hx : n < b₀.size := by omega
  refine wpS_bind (fall_loop hk hN (by omega) hn rfl (fall_on hB hx li (hl hx)) fun m q st' xs b v f a1 a2 => ?_)
  dsimp only
  by_cases hq : q > 0
  · rw [if_pos hq]
    exact wpS_bind (wpS_reverse (tail_in hk hN (by omega) a2 (f.base.setArr (mirror_perm _ _ _ _)) (f.turned (by omega)) fin))
  · rw [if_neg hq]
    obtain rfl : q = 0 := by omega
    exact tail_in hk hN (by omega) a2 f.base f.still fin
theorem count_in {st : SortSt} {N : Nat} {Q : Option Nat → SortSt → Prop} (hk : Cmp prog w A s b₀) (hN : N ≤ b₀.size) (h1 : 1 ≤ N) (hB : SBase b₀ st) (h0 : (arrOf st).toList = b₀.toList)
    (fin : ∀ m st', Got b₀ st' m → 1 ≤ m → m ≤ N → Q (some m) st') : wpS (model prog w) A E s (countRun' 0 N) Q st := by
  rw [countRun0_eq]
  have g0 : Got b₀ st 0 := ⟨hB, by rw [h0]; rfl⟩
  refine wpS_bind (wpS_ascLoop hk hN (Nat.le_refl 1) h1 hB (fun i j a b => by
    obtain rfl : i = j := by omega
    exact Int.le_refl _) fun n a1 a2 up stop => ?_)
  dsimp only
  have gn : Got b₀ st n := g0.on (Nat.zero_le _) (by omega) up
  by_cases e : n = N
  · rw [if_pos (by simpa using e)]
    exact wpS_pure (fin n st gn a1 a2)
  rw [if_neg (by simpa using e)]
  have dn : K (arrOf st) n < K (arrOf st) (n - 1) := stop.resolve_left e
  have hn : n < b₀.size := by omega
  have kn : K (arrOf st) n = ky b₀[n] := K_of (gn.next hn)
  have li : (arrOf st).toList = b₀.toList.take n ++ b₀.toList.drop n := by rw [h0, List.take_append_drop]
  have lt : (b₀.toList.take n).length = n := by rw [List.length_take, sized]; omega
  have id' : srt (b₀.toList.take n) = b₀.toList.take n := srt_id (up_of li (by rw [lt]; exact up))
  have kat : ∀ y ∈ b₀.toList.take n, ∃ i, i < n ∧ K (arrOf st) i = ky y := fun y hy => by
    obtain ⟨i, hi, rfl⟩ := List.mem_iff_getElem.mp hy
    rw [lt] at hi
    exact ⟨i, hi, K_of (by rw [toL li, List.getElem?_append_left (by rw [lt]; exact hi)]; exact List.getElem?_eq_getElem _)⟩
  by_cases two : n > 1
  · rw [if_pos two]
    refine wpS_bind (wpS_ltK hB hk (by omega) (by omega) ?_)
    by_cases rose : K (arrOf st) 0 < K (arrOf st) (n - 1)
    · rw [decide_eq_true rose]
      simp only [if_true]
      exact wpS_pure (fin n st gn a1 a2)
    · rw [decide_eq_false rose]
      simp only [Bool.false_eq_true, if_false]
      refine wpS_bind (wpS_reverse (fall_part hk hN (by omega) (hB.setArr (mirror_perm _ _ _ _)) ?_ (fun _ y hy => ?_) fin))
      · have e := list_mirror (xs := arrOf st) (p := []) (m := b₀.toList.take n) (r := b₀.toList.drop n) (i := 0) (j := n) (by rw [List.nil_append]; exact li) rfl (by rw [lt]; simp)
        rw [id']
        exact e
      · obtain ⟨i, hi, ki⟩ := kat y hy
        have u1 := up 0 i (by omega) hi
        have u2 := up i (n - 1) (by omega) (by omega)
        rw [← ki, ← kn]
        omega
  · rw [if_neg two]
    obtain rfl : n = 1 := by omega
    refine fall_part hk hN (by omega) hB ?_ (fun _ y hy => ?_) fin
    · rw [id']
      obtain ⟨z, hz⟩ : ∃ z, b₀.toList.take 1 = [z] := List.length_eq_one_iff.mp lt
      rw [hz]
      rw [hz] at li
      exact li
    · obtain ⟨i, hi, ki⟩ := kat y hy
      obtain rfl : i = 0 := by omega
      rw [← ki, ← kn]
      exact dn
theorem sort_in {st : SortSt} {Q : Unit → SortSt → Prop} (hk : Cmp prog w A s b₀) (hB : SBase b₀ st) (h0 : (arrOf st).toList = b₀.toList) (h2 : 2 ≤ b₀.size) (h64 : b₀.size < 64)
    (fin : ∀ st', failedOf st' = none → (arrOf st').toList = srt b₀.toList → Q () st') : wpS (model prog w) A E s sortRuns' Q st := by
  rw [sortRuns'_eq]
  refine wpS_bind (wpS_get ?_)
  dsimp only
  have mr : minRun' b₀.size b₀.size 0 = b₀.size := by
    obtain ⟨f, hf⟩ : ∃ f, b₀.size = f + 1 := ⟨b₀.size - 1, by omega⟩
    have q : minRun' (f + 1) b₀.size 0 = b₀.size := by
      rw [minRun'_succ, if_pos h64]
      rfl
    rwa [← hf] at q
  simp only [hB.size, mr]
  have whole : ∀ {st' : SortSt}, Got b₀ st' b₀.size → (arrOf st').toList = srt b₀.toList := fun {st'} g => by
    have := g.list
    rw [← sized, List.take_of_length_le (Nat.le_refl _), List.drop_of_length_le (Nat.le_refl _), List.append_nil] at this
    exact this
  refine wpS_bind (wpS_mono (wpS_forRange
    (I := fun x c st' => (x = 0 ∧ c = (none, 0) ∧ st' = st) ∨ (1 ≤ x ∧ c = (none, b₀.size) ∧ failedOf st' = none ∧ pendingOf st' = #[(0, b₀.size, 0)] ∧ (arrOf st').toList = srt b₀.toList))
    (Q := fun c st' => c = (none, b₀.size) ∧ failedOf st' = none ∧ pendingOf st' = #[(0, b₀.size, 0)] ∧ (arrOf st').toList = srt b₀.toList) ?turn ?done (.inl ⟨rfl, rfl, rfl⟩)) ?after)
  case done =>
    rintro c st' (⟨z, _⟩ | ⟨_, z⟩)
    · omega
    · exact z
  case turn =>
    rintro x c st' _ hx (⟨rfl, rfl, rfl⟩ | ⟨x1, rfl, z⟩)
    · dsimp only
      rw [if_neg (by omega)]
      simp only [Nat.sub_zero, Nat.min_self, Nat.zero_add]
      refine wpS_bind (count_in hk (Nat.le_refl _) (by omega) hB h0 fun m st2 g m1 m2 => ?_)
      dsimp only
      have fin2 : ∀ {st3 : SortSt}, Got b₀ st3 b₀.size → (failedOf (setPending st3 ((pendingOf st3).push (0, b₀.size, 0))) = none ∧ pendingOf (setPending st3 ((pendingOf st3).push (0, b₀.size, 0))) = #[(0, b₀.size, 0)] ∧ (arrOf (setPending st3 ((pendingOf st3).push (0, b₀.size, 0)))).toList = srt b₀.toList) := fun {st3} g3 =>
        ⟨g3.base.failed, by show (pendingOf st3).push _ = _; rw [g3.base.pend]; rfl, show (arrOf st3).toList = srt b₀.toList from whole g3⟩
      by_cases lt : m < b₀.size
      · rw [if_pos lt]
        refine wpS_bind (wpS_lift (wpAny_rule ⟨rfl, ?_⟩))
        refine wpS_bind (runs_in hk (Nat.le_refl _) m2 m1 g fun st3 g3 => ?_)
        simp only [Bool.not_true, Bool.false_eq_true, if_false]
        refine wpS_bind (wpS_get ?_)
        rw [show (pendingOf st3).back? = none by rw [g3.base.pend]; rfl]
        dsimp only
        exact wpS_bind (wpS_modify (wpS_pure (.inr ⟨by omega, rfl, fin2 g3⟩)))
      · rw [if_neg lt]
        obtain rfl : m = b₀.size := by omega
        refine wpS_bind (wpS_get ?_)
        rw [show (pendingOf st2).back? = none by rw [g.base.pend]; rfl]
        dsimp only
        exact wpS_bind (wpS_modify (wpS_pure (.inr ⟨by omega, rfl, fin2 g⟩)))
    · dsimp only
      rw [if_pos (Nat.le_refl _)]
      exact wpS_pure ⟨rfl, z⟩
  case after =>
    rintro c st' ⟨rfl, z1, z2, z3⟩
    dsimp only
    refine wpS_bind (wpS_mono (wpS_forRange (I := fun _ c st2 => st2 = st' ∧ c = (none, ())) (Q := fun c st2 => st2 = st' ∧ c = (none, ())) ?_ (fun _ _ q => q) ⟨rfl, rfl⟩) ?_)
    · rintro x c st2 _ _ ⟨rfl, rfl⟩
      refine wpS_bind (wpS_get ?_)
      rw [if_pos (by rw [z2]; exact Nat.le_refl 1)]
      exact wpS_pure ⟨rfl, rfl⟩
    · rintro c st2 ⟨rfl, rfl⟩
      exact wpS_pure (fin _ z1 z3)
end
end SG
set_option Elab.async false
set_option linter.all false
set_option maxRecDepth 100000

namespace SS
open PySem PyProof.Rows
@[reducible] noncomputable def rk : SG.Rk := ⟨numOf, oneType'⟩
noncomputable local instance : SG.Rk := rk
noncomputable abbrev ky (p : Keyed) : Int := numOf p.1
noncomputable abbrev put (x : Keyed) (l : List Keyed) : List Keyed := @SG.put rk x l
noncomputable abbrev srt (l : List Keyed) : List Keyed := @SG.srt rk l
noncomputable abbrev Up (l : List Keyed) : Prop := @SG.Up rk l
end SS
set_option Elab.async false
set_option linter.all false
set_option maxRecDepth 100000
namespace L2
open PySem PySem.Spec PyProof.Rows

noncomputable abbrev lamEnv (qual : Str) (scope : Scope) (cl : List (Str × Addr)) (f c' : Addr) (C : Addr) : Env := PySem.W.envX qual scope C f (.ref c') cl
noncomputable def cxLam (X : Cx) (A : Around) (Nc : List Str) (qual : Str) (scope : Scope) (cl : List (Str × Addr)) (f c' : Addr) (s : Shared) (H : Hp) : Cx :=
  { X with A := A.deeper (lamEnv qual scope cl f c' s.heap.objs.size), N := Nc, s₀ := s, H₀ := H, env := lamEnv qual scope cl f c' s.heap.objs.size, outer := X.stack, stack := lamEnv qual scope cl f c' s.heap.objs.size :: X.stack, ex := [], fn := fun _ => false, pn := [], xe := fun _ _ => False }

structure LamOk (X : Cx) (p : Str) (Nr : List Str) (scope : Scope) (cl : List (Str × Addr)) (src : List (Option Nat)) : Prop where
  clos : closureFor scope X.env = pure cl
  kind : scope.kind = .function
  co : scope.isCoroutine = false
  gen : scope.isGenerator = false
  cell : ∀ y ∈ scope.names, y.2 ≠ .cell
  par : scope.names.lookup p = some .local
  sub : ∀ x c, cl.lookup x = some c → X.env.cells.lookup x = some c
  has : ∀ x, (scope.names.lookup x = some .cell ∨ scope.names.lookup x = some .free) → ∃ c, cl.lookup x = some c
  frm : ∀ (i j : Nat), src[i]? = some (some j) → ∃ x, Nr[i]? = some x ∧ X.N[j]? = some x ∧ X.env.scope.names.lookup x = some .cell ∧ scope.names.lookup x = some .free
  len : src.length = Nr.length
section
variable {X : Cx} {A : Around} {p : Str} {Nr : List Str} {scope : Scope} {cl : List (Str × Addr)} {src : List (Option Nat)} {pins : List (Addr × Obj)} {σ : St} {H : Hp} {s : Shared} {f c' : Addr} {name qual : Str} {params : Arguments} {body : Expr} {pm ctv u : Value} {v : V} {te : TE} {Q : VK}
end
end L2
set_option Elab.async false
set_option linter.all false
set_option maxRecDepth 100000
namespace SS
open PySem PyProof.Rows

noncomputable def iput (k : Nat → Int) (x : Nat) (l : List Nat) : List Nat := l.takeWhile (fun y => decide (k y ≤ k x)) ++ x :: l.dropWhile (fun y => decide (k y ≤ k x))
noncomputable def iord (k : Nat → Int) (l : List Nat) : List Nat := l.foldl (fun acc x => iput k x acc) []
end SS
namespace SG
open PySem PyProof.Rows
variable [Rk]
theorem pair_put {R : Nat → Keyed → Prop} {k : Nat → Int} (hR : ∀ i p, R i p → ky p = k i) {i : Nat} {p : Keyed} (h : R i p) {l : List Nat} {l' : List Keyed} (u : Paired R l l') : Paired R (SS.iput k i l) (put p l') := by
  induction u with
  | nil => exact .cons h .nil
  | @cons x y l l' r t ih =>
    by_cases q : k x ≤ k i
    · have q' : ky y ≤ ky p := by rw [hR _ _ r, hR _ _ h]; exact q
      have e1 : SS.iput k i (x :: l) = x :: SS.iput k i l := by unfold SS.iput; simp [List.takeWhile, List.dropWhile, q]
      have e2 : put p (y :: l') = y :: put p l' := by unfold put; simp [List.takeWhile, List.dropWhile, q']
      rw [e1, e2]
      exact .cons r ih
    · have q' : ¬ ky y ≤ ky p := by rw [hR _ _ r, hR _ _ h]; exact q
      have e1 : SS.iput k i (x :: l) = i :: x :: l := by unfold SS.iput; simp [List.takeWhile, List.dropWhile, q]
      have e2 : put p (y :: l') = p :: y :: l' := by unfold put; simp [List.takeWhile, List.dropWhile, q']
      rw [e1, e2]
      exact .cons h (.cons r t)
theorem pair_srt {R : Nat → Keyed → Prop} {k : Nat → Int} (hR : ∀ i p, R i p → ky p = k i) {l : List Nat} {l' : List Keyed} (h : Paired R l l') : Paired R (SS.iord k l) (srt l') := by
  have : ∀ (l : List Nat) (l' : List Keyed) (a : List Nat) (a' : List Keyed), Paired R l l' → Paired R a a' → Paired R (l.foldl (fun acc x => SS.iput k x acc) a) (l'.foldl (fun acc x => put x acc) a') := by
    intro l l' a a' h
    induction h generalizing a a' with
    | nil => intro q; exact q
    | cons r t ih => intro q; exact ih _ _ (pair_put hR r q)
  exact this l l' [] [] h .nil
end SG
namespace SS
open PySem PyProof.Rows
end SS
namespace L2
open PySem PySem.Spec PyProof.Rows
section
variable {X : Cx} {A : Around} {E : Value → Shared → Prop} {pins : List (Addr × Obj)} {σ : St} {H : Hp} {s : Shared} {a kS : Addr} {e e1 : Nat} {keys : Array Value} {vs : List Value} {kz : List Int} {P : PySem.Fin → Shared → Prop}
theorem Inv.turn1 (I : Inv X pins σ H s) (f : FpOk X pins H a) {h' : Heap} (hs : Heap.SameBut a s.heap h') : Inv X pins σ H { s with heap := h' } :=
  I.turned (t' := s.toks) (fun b o n q => (hs.2 b n).trans q) f.1 f.2.1 f.2.2.2.1 f.2.2.2.2.1 f.2.2.2.2.2
theorem Inv.adopt {xs : List V} {us : List Value} {n : Nat} (I : Inv X pins σ H s) (f : FpOk X pins H a) (ha : s.heap.get? a = some (seqObj "list" us.toArray n)) (r : Vals xs us) (hz : xs.length ≤ sizeLine) : Inv X pins σ (upd H a (.lst xs)) s := by
  have ne : ∀ b o, H b = some o → b ≠ a := fun b o q => ne_of_none q f.1
  refine ⟨I.ok, I.os, I.bare, ⟨I.base.keep, I.base.slot, fun b o q n hx => ?_, I.base.there, fun b ys q => ?_, fun b o u q => ?_, fun b ps q => ?_⟩, I.loc, I.cell, ?_, fun x c q => ?_, fun p hp => ?_, fun b o q => ?_, I.len⟩
  · have nb : b ≠ a := fun z => by
      subst z
      rcases f.2.2.2.1 with z | z
      · exact hx z
      · rw [z] at q; cases q
    rw [upd_ne nb]
    exact I.base.free b o q n hx
  · have z := I.base.tups b ys q
    rw [upd_ne (ne _ _ z)]; exact z
  · have z := I.base.frzs b o u q
    rw [upd_ne (ne _ _ z)]; exact z
  · obtain ⟨m, z⟩ := I.base.tbls b ps q
    exact ⟨m, by rw [upd_ne (ne _ _ z)]; exact z⟩
  · rw [upd_ne (Ne.symm f.2.1)]; exact I.free
  · rw [upd_ne (f.2.2.2.2.1 x c q)]; exact I.freeC x c q
  · obtain ⟨p1, p2, p3, p4, p5⟩ := I.pin p hp
    exact ⟨p1, by rw [upd_ne (f.2.2.2.2.2 p hp)]; exact p2, p3, p4, p5⟩
  · by_cases nb : b = a
    · subst nb
      rw [upd_same] at q
      cases q
      exact ⟨hz, us, n, r, ha⟩
    · rw [upd_ne nb] at q
      refine (I.hok b o q).stay (fun c u _ z => z) (fun c z => ?_) fun c ys z => ?_
      · rw [upd_ne (ne _ _ z)]; exact z
      · rw [upd_ne (ne _ _ z)]; exact z
end
end L2
set_option Elab.async false
set_option linter.all false
set_option maxRecDepth 100000
namespace L2
open PySem PySem.Spec PyProof.Rows
theorem paired_of {α β : Type} {F : α → β → Prop} : ∀ {l₁ : List α} {l₂ : List β}, l₁.length = l₂.length → (∀ (i : Nat) a b, l₁[i]? = some a → l₂[i]? = some b → F a b) → Paired F l₁ l₂
  | [], [], _, _ => .nil
  | [], _ :: _, h, _ => by simp at h
  | _ :: _, [], h, _ => by simp at h
  | a :: l, b :: m, h, f => .cons (f 0 a b rfl rfl) (paired_of (by simpa using h) fun i x y e1 e2 => f (i + 1) x y (by simpa using e1) (by simpa using e2))
section
variable {X : Cx} {A : Around} {E : Value → Shared → Prop} {pins : List (Addr × Obj)} {σ : St} {H : Hp} {s : Shared} {r q : Addr} {xs : List V} {k : Nat → Int} {Q : VK}
noncomputable def RngCome (s : Shared) (lo : Int) (n : Nat) (w : Result) (s' : Shared) : Prop := ∃ h' tk acc c, w = .ok (.ret (.ref s.heap.objs.size)) ∧ s' = { s with heap := h', toks := tk } ∧ (∀ b o, s.heap.get? b = some o → h'.get? b = some o) ∧ h'.get? s.heap.objs.size = some { cls := .type "list", dict := none, data := .seq acc c, slots := #[] } ∧ ItemsOf (fun i v => ∃ t, v = .int (lo + i * 1) t) acc n
end
end L2
set_option Elab.async false
set_option linter.all false
set_option maxRecDepth 100000
namespace L2
open PySem PySem.Spec PyProof.Rows PySem.W

structure LamHd (X : Cx) (c P : Addr) : Prop where
  code : X.env.code = .ref c
  hd : CodeHd X.base c P
  bm : ∃ bm o, X.mg "__builtins__" = some (.ref bm) ∧ bm ≠ builtinsNs ∧ bm ≠ mainGlobals ∧ X.base.get? bm = some o ∧ o.cls = .type "module" ∧ o.dict = some builtinsNs ∧ o.data = .plain

noncomputable def LamAt (H : Hp) (c' : Addr) (qual : Str) : Prop := ∃ oc vs t u, H c' = some (.frz oc u) ∧ oc.data = .fields vs ∧ vs[1]? = some (.str qual t)

noncomputable def LamTab (H : Hp) (P : Addr) (pos : Pos) (qual : Str) : Prop :=
  ∃ ps, H P = some (.tbl ps) ∧ TriplesOk ps.toList ∧ (codeAmong pos ps.toList = none ∨ ∃ c', codeAmong pos ps.toList = some (.ref c') ∧ LamAt H c' qual)
noncomputable def LamNext (H H' : Hp) (P : Addr) : Prop := ∀ b o, b ≠ P → H b = some o → H' b = some o
section
variable {X : Cx} {p : Str} {Nr : List Str} {scope : Scope} {cl : List (Str × Addr)} {src : List (Option Nat)} {pins : List (Addr × Obj)} {σ : St} {H : Hp} {s : Shared} {c P : Addr} {params : Arguments} {body : Expr} {pos : Pos} {E : Value → Shared → Prop}

noncomputable def LamCome (X : Cx) (pins : List (Addr × Obj)) (σ : St) (H : Hp) (P : Addr) (pos : Pos) (qual : Str) (params : Arguments) (body : Expr) (scope : Scope) (cl : List (Str × Addr)) (w : Value) (s' : Shared) : Prop :=
  ∃ f c' pm ctv H', w = .ref f ∧ Inv X pins σ H' s' ∧ LamNext H H' P ∧ LamTab H' P pos qual ∧ LamAt H' c' qual ∧ FpOk X pins H' f ∧ s'.heap.get? f = some (kla_obj "<lambda>" qual params body scope cl pm c' ctv)
end
end L2
set_option Elab.async false
set_option linter.all false
set_option maxRecDepth 100000
namespace L2
open PySem PySem.Spec PyProof.Rows

noncomputable def FnAt (K : PySem.W.Frag) (x : Str) (st : Stmt) : Prop := ∃ f fd, PySem.W.nsIn K mainGlobals x = some (some (.ref f)) ∧ Fun K x x st f fd
section
variable {P : Program} {w : World} {K : PySem.W.Frag} {mg : Str → Option Value} {base : Heap} {x : Str} {st : Stmt} {CX : CXT} {k : Nat} {ps : List Str} {sp : Sp} {h0 : Heap}
theorem FnAt.cal (h : FnAt K x st) (X : K.In h0) (G : h0.Ns mainGlobals mg)
    (hb : ∀ (kV doc pm : Value) (an : Option Addr) (cdv ct : Value) (us : List Value), us.length = ps.length → bindArgs (PySem.W.fnOf x x (defArgs st) (defBody st) (defScope st) .none kV doc pm an cdv ct) ⟨us, []⟩ = pure (ps.zip us))
    (ok : ∀ f fd, Fun K x x st f fd → FnOk P w K mg base CX k f fd ps sp) : Cal P w K mg base CX k x ps sp := by
  obtain ⟨f, fd, a, F⟩ := h
  exact ⟨f, fd, PySem.W.mg_of X G a, F.kp, F.binds hb, ok f fd F⟩
theorem FnAt.calQ (h : FnAt K x st) (X : K.In h0) (G : h0.Ns mainGlobals mg)
    (hb : ∀ (kV doc pm : Value) (an : Option Addr) (cdv ct : Value) (us : List Value), us.length = ps.length → bindArgs (PySem.W.fnOf x x (defArgs st) (defBody st) (defScope st) .none kV doc pm an cdv ct) ⟨us, []⟩ = pure (ps.zip us))
    (ok : ∀ f fd, Fun K x x st f fd → FnOkQ P w K mg base k f fd ps sp) : CalQ P w K mg base k x ps sp := by
  obtain ⟨f, fd, a, F⟩ := h
  exact ⟨f, fd, PySem.W.mg_of X G a, F.kp, F.binds hb, ok f fd F⟩
end

theorem ulen1 {α : Type} {us : List α} (h : us.length = 1) : ∃ a, us = [a] := by
  match us, h with
  | [a], _ => exact ⟨a, rfl⟩
theorem ulen2 {α : Type} {us : List α} (h : us.length = 2) : ∃ a b, us = [a, b] := by
  match us, h with
  | [a, b], _ => exact ⟨a, b, rfl⟩
theorem ulen3 {α : Type} {us : List α} (h : us.length = 3) : ∃ a b c, us = [a, b, c] := by
  match us, h with
  | [a, b, c], _ => exact ⟨a, b, c, rfl⟩
end L2
set_option Elab.async false
set_option linter.all false
set_option maxRecDepth 100000
namespace L2
open PySem PySem.Spec PyProof.Rows PySem.W

noncomputable def BMain (mg : Str → Option Value) (base : Heap) : Prop := ∃ bm o, mg "__builtins__" = some (.ref bm) ∧ bm ≠ builtinsNs ∧ bm ≠ mainGlobals ∧ base.get? bm = some o ∧ o.cls = .type "module" ∧ o.dict = some builtinsNs ∧ o.data = .plain

noncomputable def OnlyT (tabs : List (Addr × Addr)) (H : Hp) : Prop := ∀ b, H b = none ∨ (∃ o xs, H b = some (.frz o (.lst xs))) ∨ ((∃ q ∈ tabs, q.2 = b) ∧ H b = some (.tbl #[]))
end L2
set_option Elab.async false
set_option linter.all false
set_option maxRecDepth 100000
set_option maxHeartbeats 1000000
namespace SS
theorem iput_permK (k : Nat → Int) (x : Nat) (l : List Nat) : (iput k x l).Perm (l ++ [x]) := by
  unfold iput
  refine List.perm_middle.trans ?_
  rw [List.takeWhile_append_dropWhile]
  exact (List.perm_append_singleton x l).symm
theorem iord_permK (k : Nat → Int) (l : List Nat) : (iord k l).Perm l := by
  have : ∀ (l acc : List Nat), (l.foldl (fun acc x => iput k x acc) acc).Perm (acc ++ l) := by
    intro l
    induction l with
    | nil => intro acc; simp
    | cons x r ih =>
      intro acc
      rw [List.foldl_cons]
      refine (ih _).trans ?_
      have := (iput_permK k x acc).append_right r
      simpa using this
  have q := this l []
  rw [List.nil_append] at q
  exact q
end SS
namespace L2
open PySem PySem.Spec PyProof.Rows PySem.W
section
variable {prog : Program} {w : World} {A : Around} {E : Value → Shared → Prop} {s : Shared}
end
noncomputable def rSortTup : List V → Hp → VK → Prop := fun xs H Q => ∃ (a : Addr) (ts : List V) (nsOf : Nat → List Int) (rk : Nat → Int), xs = [.ref a] ∧ H a = some (.lst ts) ∧ ts.length < 64 ∧
  (∀ i, i < ts.length → ∃ t, ts[i]? = some (.ref t) ∧ H t = some (.tup ((nsOf i).map V.int)) ∧ nsOf i ≠ []) ∧ (∀ i j, i < ts.length → j < ts.length → HT.lexLt (nsOf i) (nsOf j) = decide (rk i < rk j)) ∧
  New H (.lst ((SS.iord rk (List.range ts.length)).map fun i => ts.getD i .non)) Q
section
variable {X : Cx} {A : Around} {E : Value → Shared → Prop} {pins : List (Addr × Obj)} {σ : St} {H : Hp} {s : Shared} {a : Addr} {its : List Value} {ts : List V} {nsOf : Nat → List Int} {rk : Nat → Int} {P : PySem.Fin → Shared → Prop}

noncomputable def TupAt (H : Hp) (ts : List V) (its : List Value) (nsOf : Nat → List Int) : Prop := Vals ts its ∧ ∀ i, i < ts.length → ∃ t, ts[i]? = some (.ref t) ∧ H t = some (.tup ((nsOf i).map V.int)) ∧ nsOf i ≠ []
open Classical in
noncomputable def rankOf (its : List Value) (rk : Nat → Int) : Value → Int := fun v => if h : ∃ i, its[i]? = some v then rk h.choose else 0
end
end L2
set_option Elab.async false
set_option linter.all false
set_option maxRecDepth 100000
namespace L2
open PySem PySem.Spec PyProof.Rows

section
variable {X : Cx}
end
end L2
set_option Elab.async false
set_option linter.all false
set_option maxRecDepth 100000
namespace L2
open PySem PySem.Spec PyProof.Rows PySem.W
noncomputable def tSortK (P : Addr) (lpos : Pos) (qual : Str) (src : List (Option Nat)) (ta : TA) (te : TE) : TE := fun σ H Q => ta σ H fun vs H1 => ∃ (n : Nat) (k : Nat → Int), vs = [.int n] ∧ n < 64 ∧ LamTab H1 P lpos qual ∧
  ∀ H2, LamNext H1 H2 P → LamTab H2 P lpos qual → (∀ i, i < n → te (some (.int i) :: capt src σ) H2 fun x H' => x = .int (k i) ∧ H' = H2) ∧ ∀ D, H2 D = none → Q (.ref D) (upd H2 D (.lst ((SS.iord k (List.range n)).map fun i => .int (i : Nat))))
section
variable {X : Cx} {p : Str} {Nr : List Str} {scope : Scope} {cl : List (Str × Addr)} {src : List (Option Nat)} {c P : Addr} {params : Arguments} {body a : Expr} {pos lpos kpos p1 p2 p3 : Pos} {ta : TA} {te : TE}
end
end L2
set_option Elab.async false
set_option linter.all false
set_option maxRecDepth 100000
namespace L2
open PySem PySem.Spec PyProof.Rows

theorem boot_all : bootBuiltins "all" = some (.builtin "all") := by kernel_rfl
theorem has_of {l : List (Str × NameKind)} {cl : List (Str × Addr)} (h : l.all (fun y => match y.2 with | .cell | .free => (cl.lookup y.1).isSome | _ => true) = true) (x : Str) (z : l.lookup x = some .cell ∨ l.lookup x = some .free) : ∃ c, cl.lookup x = some c := by
  rcases z with z | z
  · have := List.all_eq_true.mp h _ (PySem.mem_of_lookup z)
    exact Option.isSome_iff_exists.mp this
  · have := List.all_eq_true.mp h _ (PySem.mem_of_lookup z)
    exact Option.isSome_iff_exists.mp this
theorem sub_of {cl cs : List (Str × Addr)} (h : ∀ q ∈ cl, cs.lookup q.1 = some q.2) (x : Str) (c : Addr) (z : cl.lookup x = some c) : cs.lookup x = some c := h _ (PySem.mem_of_lookup z)
theorem frm_nil {C : Nat → Nat → Prop} (i j : Nat) (z : ([] : List (Option Nat))[i]? = some (some j)) : C i j := by simp at z
theorem frm_none {l : List (Option Nat)} {C : Nat → Nat → Prop} (h : ∀ i j, l[i]? = some (some j) → C (i + 1) j) (i j : Nat) (z : (none :: l)[i]? = some (some j)) : C i j := by
  cases i with
  | zero => simp at z
  | succ i => exact h i j (by simpa using z)
theorem frm_some {l : List (Option Nat)} {k : Nat} {C : Nat → Nat → Prop} (h0 : C 0 k) (h : ∀ i j, l[i]? = some (some j) → C (i + 1) j) (i j : Nat) (z : (some k :: l)[i]? = some (some j)) : C i j := by
  cases i with
  | zero =>
    have : some k = some j := by simpa using z
    cases this
    exact h0
  | succ i => exact h i j (by simpa using z)

end L2
set_option Elab.async false
set_option linter.all false
set_option maxRecDepth 100000
namespace L2
open PySem PySem.Spec PyProof.Rows

section
variable {X : Cx} {a b c : Expr} {ta : TA} {te : TE} {p1 p2 p3 pos : Pos}

noncomputable def RngHere (X : Cx) (pins : List (Addr × Obj)) (σ : St) (R : Int → Int → Hp → Prop) (w : Value) (s' : Shared) : Prop :=
  ∃ r i j t u v H1, w = .ref r ∧ Inv X pins σ H1 s' ∧ IsRange s'.heap r i j 1 t u v ∧ (-(2 ^ 62) ≤ i ∧ i < 2 ^ 62 ∧ -(2 ^ 62) ≤ j ∧ j < 2 ^ 62) ∧ R i j H1
noncomputable def tRng2 (ta : TA) (σ : St) (H : Hp) (R : Int → Int → Hp → Prop) : Prop := ta σ H fun vs H1 => ∃ i j : Int, vs = [.int i, .int j] ∧ (-(2 ^ 62) ≤ i ∧ i < 2 ^ 62 ∧ -(2 ^ 62) ≤ j ∧ j < 2 ^ 62) ∧ R i j H1
noncomputable def tListRng (ta : TA) : TE := fun σ H Q => tRng2 ta σ H fun i j H1 => (j - i).toNat ≤ 2 ^ 24 ∧ New H1 (.lst ((List.range (j - i).toNat).map fun k => .int (i + (k : Nat)))) Q
noncomputable def tInRng (te : TE) (ta : TA) : TT := fun σ H Q => te σ H fun x H1 => ∃ n, x = .int n ∧ tRng2 ta σ H1 fun i j H2 => Q (decide (i ≤ n ∧ n < j)) H2
end
end L2
set_option Elab.async false
set_option linter.all false
set_option maxRecDepth 100000
namespace L2
open PySem PySem.Spec PyProof.Rows

section
variable {X : Cx} {elt iter tgt : Expr} {ifs : List Expr} {scope : Scope} {cl : List (Str × Addr)} {Nc : List Str} {src : List (Option Nat)} {g : TG} {tt : TT} {te : TE}
theorem ps_setC {i : Nat} {x : Str} {wi : TI} {pos pos' cpos : Pos} (hN : X.N.Nodup) (hx : X.N[i]? = some x) (hl : X.env.scope.names.lookup x = some .local) (c : CompOk X Nc scope cl src) (hcalm : X.calm = true) (hi : PI X tgt iter wi)
    (hb : ∀ fp C s' H', PG (cxCompF X Nc scope cl C fp s' H') tgt g ∧ PIf (cxCompF X Nc scope cl C fp s' H') ifs tt ∧ PE (cxCompF X Nc scope cl C fp s' H') elt te)
    (hsw : swapsWith (.ListComp elt [⟨tgt, iter, ifs, 0⟩] scope cpos) (some (.Name x pos')) pos.line X.env = pure true := by rfl)
    (hs : ∀ x, foldedSetIterable iter X.env x = pure x := by intro _; rfl) : PS X (.Assign [.Name x pos'] (.ListComp elt [⟨tgt, iter, ifs, 0⟩] scope cpos) pos) (tAsg (tCompI src wi g tt te) (gName i)) := by
  intro pins s σ H D I h
  rw [exec_Assign_Name_used _ _ _ _ hsw]
  refine wpAny_bind (wpAny_standAt (wpAny_bind ?_))
  show wpAny _ X.A (do let _ ← comprehension (.ListComp elt [⟨tgt, iter, ifs, 0⟩] scope cpos) scope X.env _ (newList []) false (eval iter X.env) (some (assign (.Name x pos') X.env))) _ _ s
  refine wpAny_bind (wpAny_mono (wpAny_comprehension_free (use := some (assign (.Name x pos') X.env)) (Q := fun _ s' => ∃ σ' H', Inv X pins σ' H' s' ∧ D.nx σ' H') rfl hs c.clos c.kind c.names (thn (hi pins s σ H _ I h) fun v s1 h1 => thn h1 fun itv s2 h2 => ?_)) (fun _ s' hq => wpAny_pure (wpAny_pure hq)) fun _ _ z => z)
  obtain ⟨it, fp, tn, J, H2, e, I2, T, st2, f2, hT⟩ := h2
  subst e
  refine wpAny_newObj_type ?_ (by size_fits)
  have old : ∀ b o, s2.heap.get? b = some o → (s2.heap.push { cls := .type "list", data := .seq ([] : List Value).toArray }).get? b = some o := fun b o e => Heap.get?_push_of_some _ e
  have I3 := I2.laid (a := s2.heap.objs.size) (o := .lst []) (t' := s2.toks) (h' := s2.heap.push { cls := .type "list", data := .seq ([] : List Value).toArray }) old (Nat.le_refl _) ⟨Nat.zero_le _, [], 0, .nil, Heap.get?_push_size _ rfl⟩
  have ne : ∀ b ∈ fp, b ≠ s2.heap.objs.size := fun b hb => by
    obtain ⟨o, e, _⟩ := T.obj 0 _ st2 b hb
    exact Nat.ne_of_lt (Heap.lt_size e)
  have f3 : ∀ b ∈ fp, FpOk X pins (upd H2 s2.heap.objs.size (.lst [])) b := fun b hb => ⟨by rw [upd_ne (ne b hb)]; exact (f2 b hb).1, (f2 b hb).2⟩
  refine comp_blockI (it := it) (R := fun C => compPost (model X.prog X.w) X.A X.xe (some (assign (.Name x pos') X.env)) (fun _ s' => ∃ σ' H', Inv X pins σ' H' s' ∧ D.nx σ' H') _ C) c hcalm I3 T (T.keep _ _ _ st2 fun b _ o e => old b o e) f3 (hb fp) (hT _ (I2.hok.fresh (Nat.le_refl _))) fun C ys σ' H' s' hC J' hD q => ?_
  obtain ⟨m, hn, _⟩ := id J'.loc
  have B : Inv X pins σ H' s' := comp_backI I3 f3 J' ⟨rfl, fun _ _ => rfl⟩
  have Cge : ∀ b o, (s2.heap.push { cls := .type "list", data := .seq ([] : List Value).toArray }).get? b = some o → b ≠ C := fun b o e => Nat.ne_of_lt (Nat.lt_of_lt_of_le (Heap.lt_size e) J'.ok.above)
  have CL : C ≠ X.env.locals := fun z => by
    obtain ⟨m3, ⟨o, _, _, ho, _⟩, _⟩ := I3.loc
    exact Cge _ o ho z.symm
  refine wpAny_assign_Name (store_ok2 B hN hx (.inl hl) (v := .ref s2.heap.objs.size) rfl (fun s5 I5 hsb => ?_) (.inr hl))
  obtain ⟨a, sb, ha⟩ := hsb
  have aL : a ≠ C := by
    rcases ha with rfl | ha
    · exact CL.symm
    · obtain ⟨v, o, ho, _⟩ := I3.cell x a ha
      exact Cge _ o ho
  refine ⟨m, hn.sameBut sb aL.symm, fun h' hs' => ⟨_, H', I5.turned (t' := s5.toks) (fun b o n e => (hs'.2 b n).trans e) J'.free CL ?_ (fun y b e z => ?_) (fun p hp z => ?_), q⟩⟩
  · exact .inr (Heap.get?_none_of_le (Nat.le_trans I3.sz J'.ok.above))
  · obtain ⟨v, o, ho, _⟩ := I3.cell y b e
    exact Cge _ o ho z
  · exact Cge _ _ (I3.pin p hp).1 z
end
end L2
set_option Elab.async false
set_option linter.all false
set_option maxRecDepth 100000
namespace L2
open PySem
theorem Same.off {H H' : Hp} {b : Addr} (s : Same H H') (h : H' b = none) : H b = none := by
  cases e : H b with
  | none => rfl
  | some o => rw [s _ _ e] at h; cases h
end L2
namespace Pg
open PySem L2

structure Glb (mg : Str → Option Value) : Prop where
  isinstance : mg "isinstance" = none
  int : mg "int" = none
  bool : mg "bool" = none
  str : mg "str" = none
  len : mg "len" = none
  range : mg "range" = none
  ve : mg "ValueError" = none
  list : mg "list" = none
  tuple : mg "tuple" = none
  dict : mg "dict" = none
  set : mg "set" = none
  all : mg "all" = none
  any : mg "any" = none
  sum : mg "sum" = none
  sorted : mg "sorted" = none
  abs : mg "abs" = none
  max : mg "max" = none
  min : mg "min" = none
  zip : mg "zip" = none
  enumerate : mg "enumerate" = none
  reversed : mg "reversed" = none

structure Er (K : PySem.W.Frag) (mg : Str → Option Value) (x : Str) (c : Addr) : Prop where
  at' : mg x = some (.ref c)
  ex : PySem.W.excIn K c veMro "ValueError.__new__" = true

noncomputable def Num (mg : Str → Option Value) (x : Str) (n : Int) : Prop := ∃ t, mg x = some (.int n t)
noncomputable def Txt (mg : Str → Option Value) (x : Str) (z : Str) : Prop := ∃ t, mg x = some (.str z t)

structure Kds (mg : Str → Option Value) (d : Nat → Addr) : Prop where
  g0 : mg "BadAmount" = some (.ref (d 0))
  g1 : mg "BadShare" = some (.ref (d 1))
  g2 : mg "BadText" = some (.ref (d 2))
  g3 : mg "BadMonth" = some (.ref (d 3))
  g4 : mg "BadYear" = some (.ref (d 4))
  g5 : mg "BadRule" = some (.ref (d 5))
  g6 : mg "BadBook" = some (.ref (d 6))
  g7 : mg "NoYear" = some (.ref (d 7))
  g8 : mg "BadDay" = some (.ref (d 8))
  g9 : mg "BadEntry" = some (.ref (d 9))
  g10 : mg "NoMark" = some (.ref (d 10))
  g11 : mg "NoPerson" = some (.ref (d 11))
  g12 : mg "TooMany" = some (.ref (d 12))
  g13 : mg "BadClose" = some (.ref (d 13))
  g14 : mg "BadLine" = some (.ref (d 14))

structure KdOf (K : PySem.W.Frag) (d : Nat → Addr) (C : Addr) (i : Nat) : Prop where
  cls : XK.ExcCls K C
  ve : PySem.W.kitOne K (.ref C) (.type "ValueError") = some true
  k0 : PySem.W.kitOne K (.ref C) (.ref (d 0)) = some (decide (i = 0))
  k1 : PySem.W.kitOne K (.ref C) (.ref (d 1)) = some (decide (i = 1))
  k2 : PySem.W.kitOne K (.ref C) (.ref (d 2)) = some (decide (i = 2))
  k3 : PySem.W.kitOne K (.ref C) (.ref (d 3)) = some (decide (i = 3))
  k4 : PySem.W.kitOne K (.ref C) (.ref (d 4)) = some (decide (i = 4))
  k5 : PySem.W.kitOne K (.ref C) (.ref (d 5)) = some (decide (i = 5))
  k6 : PySem.W.kitOne K (.ref C) (.ref (d 6)) = some (decide (i = 6))
  k7 : PySem.W.kitOne K (.ref C) (.ref (d 7)) = some (decide (i = 7))
  k8 : PySem.W.kitOne K (.ref C) (.ref (d 8)) = some (decide (i = 8))
  k9 : PySem.W.kitOne K (.ref C) (.ref (d 9)) = some (decide (i = 9))
  k10 : PySem.W.kitOne K (.ref C) (.ref (d 10)) = some (decide (i = 10))
  k11 : PySem.W.kitOne K (.ref C) (.ref (d 11)) = some (decide (i = 11))
  k12 : PySem.W.kitOne K (.ref C) (.ref (d 12)) = some (decide (i = 12))
  k13 : PySem.W.kitOne K (.ref C) (.ref (d 13)) = some (decide (i = 13))
  k14 : PySem.W.kitOne K (.ref C) (.ref (d 14)) = some (decide (i = 14))

structure Rz (K : PySem.W.Frag) (d : Nat → Addr) (cR : Addr) (i : Nat) : Prop where
  ex : PySem.W.exmOne K (.ref (d i)) (.ref cR) = some true
  kd : KdOf K d (d i) i
noncomputable def kPairs (i : Nat) : List (Str × Bool) := [("amount", decide (i = 0)), ("share", decide (i = 1)), ("text", decide (i = 2)), ("month", decide (i = 3)), ("year", decide (i = 4)), ("rule", decide (i = 5)), ("book", decide (i = 6)), ("noyear", decide (i = 7)), ("day", decide (i = 8)), ("entry", decide (i = 9)), ("nomark", decide (i = 10)), ("noperson", decide (i = 11)), ("many", decide (i = 12)), ("close", decide (i = 13)), ("line", decide (i = 14))]
noncomputable def kWord (i : Nat) : List V := ((kPairs i).filter (·.2)).map (fun p => V.str p.1) ++ [.str "value"]
noncomputable def sp_kind (K : PySem.W.Frag) (d : Nat → Addr) : Sp := fun vs H Q _ => ∃ ea C i, vs = [.ref ea] ∧ Held K H ea C ∧ KdOf K d C i ∧ ∀ l H', Same H H' → H l = none → H' l = some (.lst (kWord i)) → Q (.ref l) H'
noncomputable def sp_is_number (K : PySem.W.Frag) : Sp := fun vs H Q _ => ∃ v, vs = [v] ∧ ((∃ z, v = .int z ∧ Q (.bl true) H) ∨ (NoNum K H v ∧ Q (.bl false) H))
noncomputable def sp_within (K : PySem.W.Frag) : Sp := fun vs H Q _ => ∃ v a b, vs = [v, .int a, .int b] ∧ ((∃ z, v = .int z ∧ Q (.bl (decide (a ≤ z ∧ z ≤ b))) H) ∨ (NoNum K H v ∧ Q (.bl false) H))
noncomputable def sp_need_amount (K : PySem.W.Frag) (cA : Addr) : Sp := fun vs H Q E => ∃ v, vs = [v] ∧ ((∃ z, v = .int z ∧ Q .non H) ∨ (NoNum K H v ∧ E (.ref cA) none H))

noncomputable def NotTo (K : PySem.W.Frag) (H : Hp) (m : Int) (v : V) : Prop := NoNum K H v ∨ ∃ z, v = .int z ∧ ¬ (0 ≤ z ∧ z ≤ m)
theorem NotTo.same {K : PySem.W.Frag} {H H' : Hp} {m : Int} {v : V} (h : NotTo K H m v) (s : Same H H') : NotTo K H' m v := h.imp (fun h => h.same s) id
noncomputable def sp_need (K : PySem.W.Frag) (c : Addr) (m : Int) : Sp := fun vs H Q E => ∃ v, vs = [v] ∧ ((∃ z, v = .int z ∧ 0 ≤ z ∧ z ≤ m ∧ Q .non H) ∨ (NotTo K H m v ∧ E (.ref c) none H))

noncomputable def sp_cell (K : PySem.W.Frag) : Sp := fun vs H Q _ => ∃ a k ns, vs = [.ref a, .int k] ∧ SqL K H a (ns.map V.int) ∧ 0 ≤ k ∧ Q (.int (cellZ ns k)) H
noncomputable def sp_mixed (K : PySem.W.Frag) : Sp := fun vs H Q _ => ∃ a k ns, vs = [.ref a, .int k] ∧ SqL K H a (ns.map V.int) ∧ 0 ≤ k ∧ k ≤ 1000 ∧ Q (.int (mixZ ns k)) H
noncomputable def sp_whole : Sp := fun vs H Q _ => ∃ z, vs = [.int z] ∧ Q (.bl true) H
noncomputable def sp_lawS (K : PySem.W.Frag) : Sp := fun vs H Q _ => ∃ (a : Addr) (ns : List Int), vs = [.ref a] ∧ SqL K H a (ns.map V.int) ∧ ∀ H', Q (.bl true) H'
theorem sub1 {cs : List (Str × Addr)} {k : Str} {a : Addr} (h : cs.lookup k = some a) : ∀ q ∈ [(k, a)], cs.lookup q.1 = some q.2 := fun q hq => by rw [List.mem_singleton.mp hq]; exact h
noncomputable def sp_year_of (K : PySem.W.Frag) (c : Addr) : Sp := fun vs H Q E => ∃ v, vs = [v] ∧ ((∃ z, v = .int z ∧ 0 ≤ z ∧ z ≤ 119999 ∧ Q (.int (z / 12)) H) ∨ (NotTo K H 119999 v ∧ E (.ref c) none H))
noncomputable def sp_place_of (K : PySem.W.Frag) (c : Addr) : Sp := fun vs H Q E => ∃ v, vs = [v] ∧ ((∃ z, v = .int z ∧ 0 ≤ z ∧ z ≤ 119999 ∧ Q (.int (z % 12 + 1)) H) ∨ (NotTo K H 119999 v ∧ E (.ref c) none H))
noncomputable def monthsL (i : Int) (n : Nat) : List V := (List.range n).map fun k => .int (i + (k : Nat))
noncomputable def sp_months_of (K : PySem.W.Frag) (c : Addr) : Sp := fun vs H Q E => ∃ v, vs = [v] ∧ ((∃ z, v = .int z ∧ 0 ≤ z ∧ z ≤ 9999 ∧ New H (.lst (monthsL (z * 12) 12)) Q) ∨ (NotTo K H 9999 v ∧ E (.ref c) none H))
end Pg
set_option Elab.async false
set_option linter.all false
set_option maxRecDepth 100000
set_option maxHeartbeats 4000000
namespace K24
open PySem PySem.NumText L2 Pg
noncomputable def top (i : Nat) : Stmt := PySem.Challenge.pw_coinroll_k24_closes_refused.main.body.getD i (.Pass ⟨0, 0, 0, 0⟩)
end K24
set_option Elab.async false
set_option linter.all false
set_option maxRecDepth 100000
set_option maxHeartbeats 4000000
namespace K24
open PySem PySem.NumText L2 Pg
seal PE PA PT PW PS PSs PG PGs PI PIf PO PK
section
variable {P : Program} {w : World} {K : PySem.W.Frag} {mg : Str → Option Value} {base : Heap} {f : Addr} {fd : FuncData} {d : Nat → Addr} {cR : Addr}
theorem ok_is_number (F : Fun K "is_number" "is_number" (top 18) f fd) (G : Glb mg) : FnOk P w K mg base CX0 1 f fd ["thing"] (sp_is_number K) := by
  refine F.ok (N := ["thing"]) ⟨rfl, rfl, rfl, by decide +kernel, rfl, by decide +kernel, by decide +kernel⟩ (fun vs H Q E h => ?_) (fun cdv A outer s H vs Q E hr h => ?_)
  · obtain ⟨v, rfl, _⟩ := h
    rfl
  · obtain ⟨v, rfl, h⟩ := h
    refine ⟨_, pss_one (ps_ret (pe_and (pe_callB call_isinst rfl G.isinstance boot_isinstance (pa_cons (pv 0) (pa_cons (pe_bltn (v := .ty "int") rfl G.int boot_int rfl) pa_nil)))
      (pe_one (pe_not (pe_callB call_isinst rfl G.isinstance boot_isinstance (pa_cons (pv 0) (pa_cons (pe_bltn (v := .ty "bool") rfl G.bool boot_bool rfl) pa_nil))))))), ?_⟩
    rcases h with ⟨z, rfl, q⟩ | ⟨⟨r, hr', ty, ne⟩, q⟩
    · refine ⟨_, rfl, _, _, _, _, true, rfl, rfl, .inl (.int z), rfl, true, rfl, iteT ?_⟩
      exact ⟨_, rfl, _, _, _, _, false, rfl, rfl, .inl (.int z), rfl, false, rfl, q⟩
    · obtain ⟨k1, k2, _⟩ := kit_tab (K := K) r hr'
      refine ⟨_, rfl, _, _, _, _, r.2.1, rfl, rfl, .inl ty, k1, r.2.1, rfl, ?_⟩
      cases e : r.2.1 with
      | false => exact iteF q
      | true =>
        refine iteT ⟨_, rfl, _, _, _, _, r.2.2.1, rfl, rfl, .inl ty, k2, r.2.2.1, rfl, ?_⟩
        have : r.2.2.1 = true := by
          simp only [numT, List.mem_cons, List.not_mem_nil, or_false] at hr'
          rcases hr' with rfl | rfl | rfl | rfl | rfl | rfl | rfl <;> first | rfl | (exact absurd rfl ne) | (cases e)
        rw [this]
        exact q
end
end K24
set_option Elab.async false
set_option linter.all false
set_option maxRecDepth 100000
set_option maxHeartbeats 4000000
namespace K24
open PySem PySem.NumText L2 Pg
seal PE PA PT PW PS PSs PG PGs PI PIf PO PK
section
variable {P : Program} {w : World} {K : PySem.W.Frag} {mg : Str → Option Value} {base : Heap} {f : Addr} {fd : FuncData} {d : Nat → Addr} {cR : Addr}
theorem ok_within (F : Fun K "is_number_within" "is_number_within" (top 19) f fd) (C1 : Cal P w K mg base CX0 1 "is_number" ["thing"] (sp_is_number K)) : FnOk P w K mg base CX0 2 f fd ["thing", "least", "most"] (sp_within K) := by
  refine F.ok (N := ["thing", "least", "most"]) ⟨rfl, rfl, rfl, by decide +kernel, rfl, by decide +kernel, by decide +kernel⟩ (fun vs H Q E h => ?_) (fun cdv A outer s H vs Q E hr h => ?_)
  · obtain ⟨v, a, b, rfl, _⟩ := h
    rfl
  · obtain ⟨v, a, b, rfl, h⟩ := h
    refine ⟨_, pss_one (ps_ret (pe_and (pe_cal C1 hr (by decide) pass0 (pa_cons (pv 0) pa_nil)) (pe_and (pe_cmpR op_le (pv 1) (pv 0) (nomark _)) (pe_one (pe_cmpR op_le (pv 0) (pv 2) (nomark _)))))), ?_⟩
    rcases h with ⟨z, rfl, q⟩ | ⟨nn, q⟩
    · refine ⟨_, rfl, _, rfl, .inl ⟨z, rfl, true, rfl, iteT ⟨_, rfl, _, rfl, _, _, rfl, rfl, _, rfl, ?_⟩⟩⟩
      refine ite2 (fun e => ⟨_, rfl, _, rfl, _, _, rfl, rfl, ?_⟩) (fun e => ?_)
      · have e1 : a ≤ z := of_decide_eq_true e
        show Q (.bl (decide (z ≤ b))) H
        rw [show decide (z ≤ b) = decide (a ≤ z ∧ z ≤ b) by simp [e1]]
        exact q
      · have e1 : ¬ a ≤ z := fun c => e (decide_eq_true c)
        show Q (.bl false) H
        rw [show false = decide (a ≤ z ∧ z ≤ b) by simp [e1]]
        exact q
    · exact ⟨_, rfl, _, rfl, .inr ⟨nn, false, rfl, iteF q⟩⟩
end
end K24
set_option Elab.async false
set_option linter.all false
set_option maxRecDepth 100000
namespace Pg
open PySem PySem.NumText L2

noncomputable def numS (z : Int) : Str := toString z
noncomputable def dg (n : Nat) : List Nat := (Nat.toDigits 10 n).map Char.toNat
noncomputable def padZ (k : Nat) (l : List Nat) : List Nat := List.replicate (k - l.length) 48 ++ l
theorem len_codes (z : Str) : z.length = z.cps.toList.length := by show z.cps.size = _; simp
theorem fitS {n m : Nat} (h : n ≤ m) (k : Nat.ble m 1000000 = true) : n ≤ sizeLine := Nat.le_trans h (Nat.le_trans (Nat.le_of_ble_eq_true k) (by rw [sizeLine_eq]; decide))
noncomputable def isF (c : Nat) : Bool := decide (48 ≤ c) && decide (c ≤ 57)
noncomputable def figL (l : List Nat) : Bool := !l.isEmpty && l.all isF
noncomputable def sp_figs : Sp := fun vs H Q _ => ∃ z, vs = [.str z] ∧ z.length ≤ 100000 ∧ ∀ H', Same H H' → Q (.bl (figL z.cps.toList)) H'
noncomputable def mtB (z : Str) : Bool := decide (z.cps.toList.length = 7) && (figL (z.cps.toList.take 4) && (decide (z.cps.toList[4]? = some 45) && figL (z.cps.toList.drop 5)))
noncomputable def sp_is_month_text (K : PySem.W.Frag) : Sp := fun vs H Q _ => ∃ v, vs = [v] ∧ ((NoStr K H v ∧ Q (.bl false) H) ∨ ∃ z, v = .str z ∧ z.length ≤ 100000 ∧ ∀ H', Same H H' → Q (.bl (mtB z)) H')

noncomputable def readM (z : Str) : Option Int := if mtB z = true ∧ 1 ≤ digitsVal (z.cps.toList.drop 5) ∧ digitsVal (z.cps.toList.drop 5) ≤ 12 then some ((digitsVal (z.cps.toList.take 4) : Nat) * 12 + (digitsVal (z.cps.toList.drop 5) : Nat) - 1) else none
noncomputable def sp_read_month (K : PySem.W.Frag) (cT : Addr) : Sp := fun vs H Q E => ∃ v, vs = [v] ∧ ((NoStr K H v ∧ E (.ref cT) none H) ∨ ∃ z, v = .str z ∧ z.length ≤ 100000 ∧ ∀ H', Same H H' → (∀ m, readM z = some m → Q (.int m) H') ∧ (readM z = none → E (.ref cT) none H'))
noncomputable def yearS (y : Int) : Str := Txt.zfill (numS y) 4
noncomputable def placeS (p : Int) : Str := Txt.zfill (numS p) 2
noncomputable def monthS (m : Int) : Str := yearS (m / 12) ++ ("-" : Str) ++ placeS (m % 12 + 1)
noncomputable def sp_year_text : Sp := fun vs H Q _ => ∃ z, vs = [.int z] ∧ 0 ≤ z ∧ z ≤ 9999 ∧ Q (.str (yearS z)) H
noncomputable def sp_month_text (K : PySem.W.Frag) (c : Addr) : Sp := fun vs H Q E => ∃ v, vs = [v] ∧ ((∃ z, v = .int z ∧ 0 ≤ z ∧ z ≤ 119999 ∧ Q (.str (monthS z)) H) ∨ (NotTo K H 119999 v ∧ E (.ref c) none H))
end Pg
set_option Elab.async false
set_option linter.all false
set_option maxRecDepth 100000
namespace L2
open PySem PySem.Spec PyProof.Rows

structure Walk (J : It) (H : Hp) (xs : List V) : Prop where
  go : ∀ i x H', xs[i]? = some x → Same H H' → J.go i H' ∧ ∀ y H'', J.yld i H' y H'' → H'' = H' ∧ y = x
  stop : ∀ H', Same H H' → J.stop xs.length H'
theorem walk_list {K : PySem.W.Frag} {a : Addr} {xs : List V} {H : Hp} (h : SqL K H a xs) : Walk (Itl K a) H xs :=
  ⟨fun i x H' e s => ⟨⟨xs, x, s.seq h, e⟩, fun y H'' ⟨e1, e2⟩ => ⟨e1, Option.some.inj ((e2 xs (s.seq h)).symm.trans e)⟩⟩, fun H' s => ⟨xs, s.seq h, Nat.le_refl _⟩⟩
theorem walk_str {z : Str} {H : Hp} : Walk (Its z) H (z.cps.toList.map sgn) := by
  refine ⟨fun i x H' e s => ?_, fun H' s => by rw [List.length_map, Array.length_toList]; exact Nat.le_refl _⟩
  rw [List.getElem?_map] at e
  obtain ⟨c, hc, rfl⟩ := Option.map_eq_some_iff.mp e
  have hc' : z.cps[i]? = some c := by simpa using hc
  exact ⟨(Array.getElem?_eq_some_iff.mp hc').1, fun y H'' ⟨e1, c', h1, e2⟩ => ⟨e1, by rw [e2, Option.some.inj (h1.symm.trans hc')]; rfl⟩⟩
section
variable {J : It} {D : Addr} {g : TG} {tt : TT} {te : TE} {fin : List V → Hp → Prop} {σ : St} {H : Hp} {xs : List V}
theorem comp_walk (W : Walk J H xs) (hD : H D = none) (Good : Nat → List V → Hp → Prop) (Sg : St → Prop) (s0 : Sg σ) (g0 : Good 0 [] (upd H D (.lst [])))
    (hs : ∀ i x ys σ' H', xs[i]? = some x → Sg σ' → Same H H' → H' D = some (.lst ys) → ys.length ≤ i → Good i ys H' → cTurn D g tt te x ys (fun ys' σ2 H2 => Sg σ2 ∧ Same H H2 ∧ H2 D = some (.lst ys') ∧ ys'.length ≤ i + 1 ∧ Good (i + 1) ys' H2) σ' H')
    (hf : ∀ ys H', Same H H' → H' D = some (.lst ys) → ys.length ≤ xs.length → Good xs.length ys H' → fin ys H') : tTurnsI J D g tt te fin σ (upd H D (.lst [])) := by
  refine ⟨fun i m ys σ' H' => m = xs.length - i ∧ i ≤ xs.length ∧ Sg σ' ∧ Same H H' ∧ H' D = some (.lst ys) ∧ ys.length ≤ i ∧ Good i ys H', ⟨xs.length, by simp, Nat.zero_le _, s0, Same.upd hD, upd_same, Nat.le_refl _, g0⟩, fun i m ys σ H ⟨_, _, _, _, h, _⟩ => h, ?_⟩
  rintro i m ys σ' H' ⟨rfl, hi, h1, h2, h3, h4, h5⟩
  by_cases hlt : i < xs.length
  · have hx : xs[i]? = some xs[i] := List.getElem?_eq_getElem hlt
    obtain ⟨w1, w2⟩ := W.go i _ H' hx h2
    refine .inr ⟨w1, fun ys' σ2 H2 => Sg σ2 ∧ Same H H2 ∧ H2 D = some (.lst ys') ∧ ys'.length ≤ i + 1 ∧ Good (i + 1) ys' H2, fun ys' σ2 H2 p => ⟨xs.length - (i + 1), by omega, rfl, hlt, p⟩, fun y H'' hy => ?_⟩
    obtain ⟨e1, e2⟩ := w2 y H'' hy
    subst e1 e2
    exact hs i _ ys σ' _ hx h1 h2 h3 h4 h5
  · have e : i = xs.length := by omega
    subst e
    exact .inl ⟨W.stop H' h2, hf ys H' h2 h3 h4 h5⟩

theorem comp_fm (W : Walk J H xs) (hD : H D = none) (hz : xs.length < sizeLine) (p : V → Bool) (φ : V → V)
    (ht : ∀ x ∈ xs, ∀ H' R, Same H H' → R (p x) H' → tt (σ.set 0 (some x)) H' R)
    (he : ∀ x ∈ xs, p x = true → ∀ H' R, Same H H' → R (φ x) H' → te (σ.set 0 (some x)) H' R)
    (hf : fin ((xs.filter p).map φ) (upd H D (.lst ((xs.filter p).map φ)))) : tTurnsI J D (gName 0) tt te fin σ (upd H D (.lst [])) := by
  refine comp_walk W hD (fun i ys H' => ys = ((xs.take i).filter p).map φ ∧ H' = upd H D (.lst ys)) (fun σ' => ∀ x, σ'.set 0 (some x) = σ.set 0 (some x)) (fun _ => rfl) ⟨rfl, rfl⟩ ?_ ?_
  · rintro i x ys σ' H' hx hσ s hd hl ⟨rfl, rfl⟩
    have hi : i < xs.length := (List.getElem?_eq_some_iff.mp hx).1
    have hm := List.mem_of_getElem? hx
    have tk : xs.take (i + 1) = xs.take i ++ [x] := by rw [List.take_add_one, hx]; rfl
    have hσ2 : ∀ y, (σ'.set 0 (some x)).set 0 (some y) = σ.set 0 (some y) := fun y => by rw [List.set_set]; exact hσ y
    show tt (σ'.set 0 (some x)) _ _
    rw [hσ x]
    refine ht x hm _ _ s ?_
    rw [hσ x] at hσ2
    cases hp : p x with
    | true =>
      refine iteT (he x hm hp _ _ s ⟨hd, by omega, hσ2, ?_, upd_same, ?_, ?_, upd_upd⟩)
      · rw [upd_upd]; exact Same.upd hD
      · rw [List.length_append, List.length_singleton]; omega
      · rw [tk, List.filter_append, List.map_append]; simp [hp]
    | false =>
      refine iteF ⟨hσ2, s, hd, by omega, ?_, rfl⟩
      rw [tk, List.filter_append, List.map_append]; simp [hp]
  · rintro ys H' s hd hl ⟨rfl, rfl⟩
    rw [List.take_length]
    exact hf
end
end L2
set_option Elab.async false
set_option linter.all false
namespace L2

theorem countP_lt {p q : Nat → Bool} {l : List Nat} (h : ∀ x ∈ l, p x = true → q x = true) (w : ∃ x ∈ l, q x = true ∧ p x = false) : l.countP p < l.countP q := by
  induction l with
  | nil =>
    obtain ⟨x, hx, _⟩ := w
    cases hx
  | cons a l ih =>
    rw [List.countP_cons, List.countP_cons]
    have hl : ∀ x ∈ l, p x = true → q x = true := fun x hx => h x (List.mem_cons_of_mem _ hx)
    obtain ⟨x, hx, h1, h2⟩ := w
    rcases List.mem_cons.mp hx with rfl | hx
    · rw [h1, h2, if_pos rfl, if_neg Bool.false_ne_true]
      exact Nat.lt_succ_of_le (List.countP_mono_left hl)
    · have := ih hl ⟨x, hx, h1, h2⟩
      cases e : p a with
      | false =>
        rw [if_neg Bool.false_ne_true]
        exact Nat.lt_of_lt_of_le this (Nat.le_add_right _ _)
      | true =>
        rw [h a List.mem_cons_self e, if_pos rfl]
        exact Nat.add_lt_add_right this 1
noncomputable def rkT (key : Nat → List Nat) (n i : Nat) : Int := ((List.range n).countP fun j => decide (key j < key i) : Nat)
theorem rkT_lt {key : Nat → List Nat} {n i j : Nat} (hi : i < n) : decide (key i < key j) = decide (rkT key n i < rkT key n j) := by
  refine decide_eq_decide.mpr ⟨fun h => ?_, fun h => ?_⟩
  · refine Int.ofNat_lt.mpr (countP_lt (fun x _ e => decide_eq_true (List.lt_trans (of_decide_eq_true e) h)) ⟨i, List.mem_range.mpr hi, decide_eq_true h, decide_eq_false (List.lt_irrefl _)⟩)
  · have h := Int.ofNat_lt.mp h
    refine Classical.byContradiction fun c => Nat.not_lt.mpr (List.countP_mono_left fun x _ e => ?_) h
    have e := of_decide_eq_true e
    refine decide_eq_true (Classical.byContradiction fun d => c (List.lt_of_le_of_lt d e))
theorem rkT_same {key : Nat → List Nat} {n i j : Nat} (h : key i = key j) : rkT key n i = rkT key n j := by
  have : (fun k => decide (key k < key i)) = fun k => decide (key k < key j) := funext fun k => decide_eq_decide.mpr (by rw [h])
  unfold rkT
  rw [this]

theorem len_sub {α : Type} [DecidableEq α] {l m : List α} (hn : l.Nodup) (hs : ∀ x ∈ l, x ∈ m) : l.length ≤ m.length := by
  induction l generalizing m with
  | nil => exact Nat.zero_le _
  | cons a l ih =>
    obtain ⟨h1, h2⟩ := List.nodup_cons.mp hn
    have ha := hs a List.mem_cons_self
    have := ih (m := m.erase a) h2 fun x hx => (List.mem_erase_of_ne (show x ≠ a from fun e => h1 (e ▸ hx))).mpr (hs x (List.mem_cons_of_mem _ hx))
    rw [List.length_erase_of_mem ha] at this
    have : 0 < m.length := List.length_pos_of_mem ha
    rw [List.length_cons]
    omega
theorem nodup_of_len {α : Type} [DecidableEq α] {l m : List α} (hn : l.Nodup) (hs : ∀ x, x ∈ l ↔ x ∈ m) (hl : m.length ≤ l.length) : m.Nodup := by
  induction m generalizing l with
  | nil => exact List.nodup_nil
  | cons a m ih =>
    have ha : a ∈ l := (hs a).mpr List.mem_cons_self
    have no : ¬ a ∈ m := fun c => by
      have : ∀ x ∈ l, x ∈ m := fun x hx => by
        rcases List.mem_cons.mp ((hs x).mp hx) with rfl | h
        · exact c
        · exact h
      have := len_sub hn this
      rw [List.length_cons] at hl
      omega
    refine List.nodup_cons.mpr ⟨no, ih (l := l.erase a) (hn.erase a) (fun x => ?_) ?_⟩
    · rw [hn.mem_erase_iff, hs x, List.mem_cons]
      exact ⟨fun ⟨h1, h2⟩ => h2.resolve_left h1, fun h => ⟨fun e => no (e ▸ h), .inr h⟩⟩
    · rw [List.length_erase_of_mem ha]
      rw [List.length_cons] at hl
      omega

theorem len_lt_iff {α : Type} [DecidableEq α] {l m : List α} (hn : l.Nodup) (hs : ∀ x, x ∈ l ↔ x ∈ m) : l.length < m.length ↔ ¬ m.Nodup :=
  ⟨fun h c => Nat.not_lt.mpr (len_sub c fun x hx => (hs x).mpr hx) h, fun h => Nat.lt_of_not_le fun c => h (nodup_of_len hn hs c)⟩
end L2
set_option Elab.async false
set_option linter.all false
set_option maxRecDepth 100000
set_option maxHeartbeats 1000000
namespace SS
theorem iput_up {k : Nat → Int} {x : Nat} {l : List Nat} (h : l.Pairwise fun a b => k a ≤ k b) : (iput k x l).Pairwise fun a b => k a ≤ k b := by
  unfold iput
  have h' := h
  rw [← List.takeWhile_append_dropWhile (p := fun y => decide (k y ≤ k x)) (l := l), List.pairwise_append] at h'
  obtain ⟨h1, h2, h3⟩ := h'
  have lo : ∀ y ∈ l.takeWhile (fun y => decide (k y ≤ k x)), k y ≤ k x := fun y hy => of_decide_eq_true (List.all_eq_true.mp List.all_takeWhile y hy)
  have hi : ∀ y ∈ l.dropWhile (fun y => decide (k y ≤ k x)), k x ≤ k y := by
    cases e : l.dropWhile (fun y => decide (k y ≤ k x)) with
    | nil => intro y hy; cases hy
    | cons a r =>
      have ha : decide (k a ≤ k x) = false := by
        have := List.head?_dropWhile_not (fun y => decide (k y ≤ k x)) l
        rw [e] at this
        simpa using this
      have ha := of_decide_eq_false ha
      rw [e] at h2
      intro y hy
      rcases List.mem_cons.mp hy with rfl | hy
      · omega
      · have := (List.pairwise_cons.mp h2).1 y hy
        omega
  refine List.pairwise_append.mpr ⟨h1, List.pairwise_cons.mpr ⟨hi, h2⟩, fun a ha b hb => ?_⟩
  rcases List.mem_cons.mp hb with rfl | hb
  · exact lo a ha
  · exact h3 a ha b hb
theorem iord_up (k : Nat → Int) (l : List Nat) : (iord k l).Pairwise fun a b => k a ≤ k b := by
  have : ∀ (l acc : List Nat), acc.Pairwise (fun a b => k a ≤ k b) → (l.foldl (fun acc x => iput k x acc) acc).Pairwise fun a b => k a ≤ k b := by
    intro l
    induction l with
    | nil => intro acc h; exact h
    | cons x r ih =>
      intro acc h
      rw [List.foldl_cons]
      exact ih _ (iput_up h)
  exact this l [] List.Pairwise.nil
end SS
namespace L2
open PySem PySem.Spec PyProof.Rows PySem.W

section
variable {prog : Program} {w : World} {A : Around} {s : Shared}
theorem lex_pair {Q : Bool → Shared → Prop} {a c : Str} {t t2 u u2 : Tok} {x y : Int} (h1 : a = c → x = y) (h : Q (decide (a.cps.toList < c.cps.toList)) s) :
    KatLex prog w A true (decide (2 < 2)) Q ([Value.str a t, Value.int x t2].zip [Value.str c u, Value.int y u2]) 0 s := by
  refine kat_cons (wpAny_eqBool_str (kat_go (fun e => kat_yes ?_) fun e => kat_no ?_))
  · have e := of_decide_eq_true e
    have e2 := h1 e
    subst e e2
    refine kat_cons (wpAny_eqBool_int (kat_go (fun e => kat_yes ?_) fun e => ?_))
    · have h : Q (decide (a.cps.toList < a.cps.toList)) s := h
      rw [decide_eq_false (List.lt_irrefl _)] at h
      exact h
    · simp at e
  · exact oneLt_str h
end
section
variable {X : Cx} {A : Around} {E : Value → Shared → Prop} {pins : List (Addr × Obj)} {σ : St} {H : Hp} {s : Shared} {a : Addr} {its : List Value} {ts : List V} {nm : Nat → Str} {am : Nat → Int} {P : PySem.Fin → Shared → Prop}

structure PairAt (H : Hp) (ts : List V) (nm : Nat → Str) (am : Nat → Int) : Prop where
  at_ : ∀ i, i < ts.length → ∃ t, ts[i]? = some (.ref t) ∧ H t = some (.tup [.str (nm i), .int (am i)])
  one : ∀ i j, i < ts.length → j < ts.length → nm i = nm j → am i = am j
noncomputable abbrev rkP (nm : Nat → Str) (n : Nat) : Nat → Int := rkT (fun i => (nm i).cps.toList) n
theorem pair_obj (T : PairAt H ts nm am) (rv : Vals ts its) {P : Program} {w : World} {h : Heap} (ok : HOk P w H h) {i : Nat} {v : Value} (hv : its[i]? = some v) : ∃ t o k1 k2 n, v = .ref t ∧ H t = some (.tup [.str (nm i), .int (am i)]) ∧ h.get? t = some o ∧ o.cls = .type "tuple" ∧ o.data = .seq #[Value.str (nm i) k1, Value.int (am i) k2] n := by
  have hi : i < ts.length := by rw [rv.length]; exact (List.getElem?_eq_some_iff.mp hv).1
  obtain ⟨t, e1, e2⟩ := T.at_ i hi
  obtain ⟨u, hu, ru⟩ := rv.get e1
  rw [hv] at hu
  cases hu
  cases ru
  obtain ⟨_, us, rv, o, ho, hc, n, hd⟩ := ok t _ e2
  obtain ⟨u1, u2, rfl, ⟨k1, r1⟩, ⟨k2, r2⟩⟩ := vals2 rv
  subst r1 r2
  exact ⟨t, o, k1, k2, n, rfl, e2, ho, hc, hd⟩
theorem rank_pair (T : PairAt H ts nm am) (rv : Vals ts its) {P : Program} {w : World} {h : Heap} (ok : HOk P w H h) {i : Nat} {v : Value} (hv : its[i]? = some v) : rankOf its (rkP nm ts.length) v = rkP nm ts.length i := by
  have ex : ∃ i, its[i]? = some v := ⟨i, hv⟩
  unfold rankOf
  rw [dif_pos ex]
  have hj := ex.choose_spec
  generalize ex.choose = j at hj
  obtain ⟨t, _, _, _, _, e1, e2, _⟩ := pair_obj T rv ok hv
  obtain ⟨t', _, _, _, _, e1', e2', _⟩ := pair_obj T rv ok hj
  rw [e1] at e1'
  cases e1'
  rw [e2] at e2'
  have en : nm i = nm j := by
    have := HO.tup.inj (Option.some.inj e2')
    exact V.str.inj (List.cons.inj this).1
  exact rkT_same (congrArg (fun z : Str => z.cps.toList) en.symm)
theorem cmp_pairs (T : PairAt H ts nm am) (rv : Vals ts its) {P : Program} {w : World} (ok : HOk P w H s.heap) :
    @SG.Cmp ⟨rankOf its (rkP nm ts.length), tuples' true⟩ P w A s (its.toArray.zip its.toArray) := by
  intro p hp q hq Q E h
  rw [ksk_zip] at hp hq
  obtain ⟨x, x'⟩ := p
  obtain ⟨y, y'⟩ := q
  obtain ⟨i, hi⟩ := List.mem_iff_getElem?.mp (List.of_mem_zip hp).1
  obtain ⟨j, hj⟩ := List.mem_iff_getElem?.mp (List.of_mem_zip hq).1
  rw [ksk_tl] at hi hj
  have li : i < ts.length := by rw [rv.length]; exact (List.getElem?_eq_some_iff.mp hi).1
  have lj : j < ts.length := by rw [rv.length]; exact (List.getElem?_eq_some_iff.mp hj).1
  have h' : Q (decide (rankOf its (rkP nm ts.length) x < rankOf its (rkP nm ts.length) y)) s := h
  rw [rank_pair T rv ok hi, rank_pair T rv ok hj, ← rkT_lt li] at h'
  obtain ⟨t, o, k1, k2, n, e1, _, e3, _, e5⟩ := pair_obj T rv ok hi
  obtain ⟨t', o', l1, l2, n', f1, _, f3, _, f5⟩ := pair_obj T rv ok hj
  show wpAny (model P w) A (keyLt' (tuples' true) x y) Q E s
  rw [e1, f1]
  exact kat_lt e3 e5 f3 f5 (lex_pair (T.one i j li lj) h')
theorem order_pairs (T : PairAt H ts nm am) (rv : Vals ts its) {P : Program} {w : World} {h : Heap} (ok : HOk P w H h) :
    Vals ((SS.iord (rkP nm ts.length) (List.range ts.length)).map fun i => ts.getD i .non) ((@SG.srt ⟨rankOf its (rkP nm ts.length), tuples' true⟩ (its.zip its)).map (·.2)) := by
  letI : SG.Rk := ⟨rankOf its (rkP nm ts.length), tuples' true⟩
  have tl := rv.length
  have P0 : Paired (fun (i : Nat) (p : Keyed) => SG.ky p = rkP nm ts.length i ∧ RelV (ts.getD i .non) p.2) (List.range ts.length) (its.zip its) := by
    refine paired_of (by rw [List.length_range, List.length_zip, Nat.min_self, tl]) fun i j p e1 e2 => ?_
    obtain ⟨hi, rfl⟩ : i < ts.length ∧ i = j := by
      rw [List.getElem?_eq_some_iff] at e1
      obtain ⟨h1, h2⟩ := e1
      rw [List.getElem_range] at h2
      exact ⟨by simpa using h1, h2⟩
    have e3 : its[i]? = some p.1 ∧ its[i]? = some p.2 := List.getElem?_zip_eq_some.mp e2
    refine ⟨rank_pair T rv ok e3.1, ?_⟩
    obtain ⟨u, hu, rv⟩ := rv.get (i := i) (x := ts.getD i .non) (by rw [List.getD_eq_getElem?_getD, List.getElem?_eq_getElem hi]; rfl)
    rw [e3.2] at hu
    cases hu
    exact rv
  have P1 := SG.pair_srt (k := rkP nm ts.length) (fun i p h => h.1) P0
  have : ∀ {l : List Nat} {m : List Keyed}, Paired (fun (i : Nat) (p : Keyed) => SG.ky p = rkP nm ts.length i ∧ RelV (ts.getD i .non) p.2) l m → Vals (l.map fun i => ts.getD i .non) (m.map (·.2)) := by
    intro l m h
    induction h with
    | nil => exact .nil
    | cons r _ ih => exact .cons r.2 ih
  exact this P1
theorem strs_of {h : Heap} {its : List Value} (H : ∀ v ∈ its, ∃ a o xs n k t, v = Value.ref a ∧ h.get? a = some o ∧ o.cls = .type "tuple" ∧ o.data = .seq xs n ∧ xs[0]? = some (Value.str k t)) : ∃ fs, KatTups h its fs ∧ fs.length = its.length ∧ ∀ f ∈ fs, ∃ k t, f = Value.str k t := by
  induction its with
  | nil => exact ⟨[], trivial, rfl, fun f hf => absurd hf (by simp)⟩
  | cons v its ih =>
    obtain ⟨fs, t1, t2, t3⟩ := ih fun v hv => H v (List.mem_cons_of_mem _ hv)
    obtain ⟨a, o, xs, n, k, t, e1, e2, e3, e4, e5⟩ := H v List.mem_cons_self
    refine ⟨.str k t :: fs, ⟨⟨a, o, xs, n, e1, e2, e3, e4, e5⟩, t1⟩, by rw [List.length_cons, List.length_cons, t2], fun f hf => ?_⟩
    rcases List.mem_cons.mp hf with rfl | hf
    · exact ⟨k, t, rfl⟩
    · exact t3 f hf
theorem pair_sort {n : Nat} (I : Inv X pins σ H s) (ha : s.heap.get? a = some (seqObj "list" its.toArray n)) (fa : FpOk X pins H a) (h64 : its.length < 64) (T : PairAt H ts nm am) (rv : Vals ts its)
    (h : ∀ s' c out, Vals ((SS.iord (rkP nm ts.length) (List.range ts.length)).map fun i => ts.getD i .non) out → Inv X pins σ H s' → s'.heap.get? a = some (seqObj "list" out.toArray c) → P (.done (.ret .none)) s') :
    wpAny (model X.prog X.w) A (Builtin.«list.sort» ⟨[.ref a], []⟩) P E s := by
  letI : SG.Rk := ⟨rankOf its (rkP nm ts.length), tuples' true⟩
  have u1 := Heap.SameBut.update s.heap a (Obj.mapSeq fun _ => (#[] : Array Value))
  obtain ⟨e1, g1⟩ : ∃ e1, (s.heap.update a (Obj.mapSeq fun _ => (#[] : Array Value))).get? a = some (seqObj "list" #[] e1) := ⟨_, get?_update_seq ha fun _ => #[]⟩
  have J1 := I.turn1 fa u1
  have J2 := J1.kept (t' := s.toks) (h' := (s.heap.update a (Obj.mapSeq fun _ => (#[] : Array Value))).push (seqObj "tuple" its.toArray 0)) fun b o q => Heap.get?_push_of_some _ q
  have J3 := J2.kept (t' := s.toks) (h' := ((s.heap.update a (Obj.mapSeq fun _ => (#[] : Array Value))).push (seqObj "tuple" its.toArray 0)).push (seqObj "list" #[] 0)) fun b o q => Heap.get?_push_of_some _ q
  have g3 : (((s.heap.update a (Obj.mapSeq fun _ => (#[] : Array Value))).push (seqObj "tuple" its.toArray 0)).push (seqObj "list" #[] 0)).get? a = some (seqObj "list" #[] e1) := Heap.get?_push_of_some _ (Heap.get?_push_of_some _ g1)
  rw [list_sort_plain]
  refine wpAny_bind (listItems_at ha rfl (wpAny_bind (listUpdate_at ha rfl (wpAny_bind (seqEpoch_at g1 rfl (wpAny_bind (wpAny_newTuple (wpAny_bind (wpAny_newList (wpAny_holding ?_) (Nat.zero_le _))) (by show its.length ≤ _; rw [sizeLine_eq]; omega))))) (by rw [List.size_toArray, sizeLine_eq]; omega) (Nat.zero_le _))))
  dsimp only
  have ov := order_pairs T rv J3.hok
  have zl : (its.zip its).length = its.length := by rw [List.length_zip, Nat.min_self]
  have zs : (its.toArray.zip its.toArray).size = its.length := by rw [← zl, ← ksk_tl its, ← ksk_zip, Array.length_toList, ksk_tl]
  have fin : ∀ (st : SortSt), (arrOf st).toList = SG.srt (its.zip its) → failedOf st = none → wpAny (model X.prog X.w) A (do
      let touched := (← seqEpoch a) != e1
      Builtin.List.listUpdate (.ref a) fun _ => (arrOf st).map (·.2)
      if let some e := failedOf st then rule "list.sort.comparison-raised"; throw e
      if touched then rule "list.sort.modified"; raiseError "ValueError" "list modified during sort"
      ret .none) P E { s with heap := ((s.heap.update a (Obj.mapSeq fun _ => (#[] : Array Value))).push (seqObj "tuple" its.toArray 0)).push (seqObj "list" #[] 0) } := fun st e3 e2 => by
    have ez : ((arrOf st).map (·.2)) = ((SG.srt (its.zip its)).map (·.2)).toArray := by rw [← e3, ← Array.toList_map, Array.toArray_toList]
    have sz : ((arrOf st).map (·.2)).size ≤ 64 := by rw [ez]; simp only [List.size_toArray, List.length_map]; rw [SG.srt_len, zl]; omega
    have u3 := Heap.SameBut.update (((s.heap.update a (Obj.mapSeq fun _ => (#[] : Array Value))).push (seqObj "tuple" its.toArray 0)).push (seqObj "list" #[] 0)) a (Obj.mapSeq fun _ => (arrOf st).map (·.2))
    have a3 := get?_update_seq g3 fun _ => (arrOf st).map (·.2)
    refine wpAny_bind (seqEpoch_at g3 rfl (wpAny_bind (listUpdate_at g3 rfl ?_ (Nat.zero_le _) (Nat.le_trans sz (by rw [sizeLine_eq]; omega)))))
    rw [e2]
    simp only [bne_self_eq_false, Bool.false_eq_true, if_false]
    have a4 : ∃ c, ((((s.heap.update a (Obj.mapSeq fun _ => (#[] : Array Value))).push (seqObj "tuple" its.toArray 0)).push (seqObj "list" #[] 0)).update a (Obj.mapSeq fun _ => (arrOf st).map (·.2))).get? a = some (seqObj "list" ((SG.srt (its.zip its)).map (·.2)).toArray c) := ⟨_, by rw [← ez]; exact a3⟩
    obtain ⟨c, a4⟩ := a4
    exact wpAny_pure (h _ c _ ov (J3.turn1 fa u3) a4)
  by_cases h2 : its.toArray.size < 2
  · rw [if_pos h2, if_pos h2]
    refine wpAny_bind (wpAny_pure ?_)
    rw [StateT.run_pure]
    refine wpAny_bind (wpAny_pure ?_)
    have h2' : its.length < 2 := by simpa using h2
    refine fin _ ?_ rfl
    have up : SG.Up (its.zip its) := by
      cases q : its.zip its with
      | nil => exact List.Pairwise.nil
      | cons x r =>
        cases r with
        | nil => exact List.pairwise_singleton _ _
        | cons y r => rw [q] at zl; simp at zl; omega
    rw [SG.srt_id up]
    exact ksk_zip its.toArray its
  · rw [if_neg h2, if_neg h2]
    have h2' : 2 ≤ its.length := by simpa using h2
    obtain ⟨fs, k1, k2, k3⟩ := strs_of (h := (((s.heap.update a (Obj.mapSeq fun _ => (#[] : Array Value))).push (seqObj "tuple" its.toArray 0)).push (seqObj "list" #[] 0))) (its := its) fun v hv => by
      obtain ⟨i, hi⟩ := List.mem_iff_getElem?.mp hv
      obtain ⟨t, o, k1, k2, n', y1, _, y3, y4, y5⟩ := pair_obj T rv J3.hok hi
      exact ⟨t, o, _, n', _, k1, y1, y3, y4, y5, rfl⟩
    refine wpAny_bind (kat_kind (T := .type "str") k1 (by omega) (fun v hv => ?_) rfl ?_)
    · obtain ⟨k, t, rfl⟩ := k3 v hv
      exact .now
    refine wpAny_bind (wpAny_mono (SG.sort_in (b₀ := its.toArray.zip its.toArray) (st := SortSt.mk' (tuples' true) (its.toArray.zip its.toArray) #[] 7 none)
      (Q := fun _ st' => failedOf st' = none ∧ (arrOf st').toList = SG.srt (its.toArray.zip its.toArray).toList) (cmp_pairs T rv J3.hok) ⟨.refl _, rfl, rfl, rfl⟩ rfl (by omega) (by omega) fun st' z1 z2 => ⟨z1, z2⟩) ?_ fun _ _ z => z)
    rintro ⟨⟨⟩, st'⟩ s' ⟨rfl, z1, z2⟩
    rw [ksk_zip] at z2
    exact fin st' z2 z1

noncomputable def rSortP (K : PySem.W.Frag) : List V → Hp → VK → Prop := fun xs H Q => ∃ (a : Addr) (ts : List V) (nm : Nat → Str) (am : Nat → Int), xs = [.ref a] ∧ SqL K H a ts ∧ ts.length < 64 ∧ PairAt H ts nm am ∧
  ∀ is : List Nat, is.Perm (List.range ts.length) → is.Pairwise (fun i j => ¬ (nm j).cps.toList < (nm i).cps.toList) → New H (.lst (is.map fun i => ts.getD i .non)) Q
theorem call_sortP : CallR X (.builtin "sorted") (rSortP X.K) := by
  intro pins s σ H xs us Q I r h
  obtain ⟨a, ts, nm, am, rfl, ha, h64, T, q⟩ := h
  cases r with
  | cons r1 rr =>
    cases rr
    cases r1
    obtain ⟨its, rv, pl, hz⟩ := I.list ha
    have tl := rv.length
    refine Calls.call_function_entry kind_sorted plain_sorted entry_sorted (args_sorted1 _) ?_
    unfold Builtin.«sorted»
    refine wpAny_bind (m := checkCount "sorted" 1 1 _) (wpAny_pure (wpAny_bind (collect_list pl.isList (wpAny_bind (wpAny_newList ?_ (by rw [sizeLine_eq]; omega))) (by rw [sizeLine_eq]; omega))))
    have u0 := Heap.SameBut.update (s.heap.push (seqObj "list" #[] 0)) s.heap.objs.size (Obj.mapSeq (· ++ its.toArray))
    have J1 := I.kept (t' := s.toks) (h' := (s.heap.push (seqObj "list" #[] 0)).update s.heap.objs.size (Obj.mapSeq (· ++ its.toArray))) fun b o e => (u0.2 b (Nat.ne_of_lt (Heap.lt_size e))).trans (Heap.get?_push_of_some _ e)
    have J2 := J1.kept (t' := s.toks) (h' := ((s.heap.push (seqObj "list" #[] 0)).update s.heap.objs.size (Obj.mapSeq (· ++ its.toArray))).push (seqObj "list" its.toArray 0)) fun b o e => Heap.get?_push_of_some _ e
    have hn : H ((s.heap.push (seqObj "list" #[] 0)).update s.heap.objs.size (Obj.mapSeq (· ++ its.toArray))).objs.size = none := J1.hok.fresh (Nat.le_refl _)
    have fa := J1.fpOk (Nat.le_refl _) hn
    refine wpAny_bind (wpAny_holding (wpAny_call_entry slot_list_sort ⟨_, Heap.get?_push_size _ rfl, rfl⟩ entry_list_sort ?body (args_list_sort _)))
    case body =>
      refine pair_sort (X := X) (pins := pins) (σ := σ) (H := H) J2 (Heap.get?_push_size _ rfl) fa (by omega) T rv fun s' c out ov J hq => ⟨_, rfl, wpAny_pure ⟨_, rfl, ?_⟩⟩
      have pm := SS.iord_permK (rkP nm ts.length) (List.range ts.length)
      refine ⟨.ref _, _, J.adopt fa hq ov ?_, rfl, (q _ pm ((SS.iord_up _ _).imp_of_mem fun {i j} hi hj hl c => ?_)).at hn⟩
      · rw [List.length_map, pm.length_eq, List.length_range, sizeLine_eq]
        omega
      · have hj := List.mem_range.mp (pm.mem_iff.mp hj)
        have e := rkT_lt (key := fun i => (nm i).cps.toList) (j := i) hj
        rw [decide_eq_true c] at e
        exact absurd (of_decide_eq_true e.symm) (Int.not_lt.mpr hl)
end
end L2
set_option Elab.async false
set_option linter.all false
set_option maxRecDepth 100000
namespace L2
open PySem PySem.Spec PyProof.Rows

structure TupsAt (H : Hp) (ys : List V) (cs : List (List V)) : Prop where
  len : ys.length = cs.length
  at_ : ∀ (i : Nat) (c : List V), cs[i]? = some c → ∃ a, ys[i]? = some (V.ref a) ∧ H a = some (.tup c)
section
variable {H H' : Hp} {ys : List V} {cs : List (List V)}
theorem TupsAt.nil : TupsAt H [] [] := ⟨rfl, fun i c e => by cases e⟩
theorem TupsAt.mono (T : TupsAt H ys cs) (k : ∀ b c, H b = some (.tup c) → H' b = some (.tup c)) : TupsAt H' ys cs := ⟨T.len, fun i c e => by
  obtain ⟨a, h1, h2⟩ := T.at_ i c e
  exact ⟨a, h1, k _ _ h2⟩⟩
theorem TupsAt.same (T : TupsAt H ys cs) (s : Same H H') : TupsAt H' ys cs := T.mono fun _ _ h => s _ _ h
theorem TupsAt.upd {p : Addr} {o : HO} (T : TupsAt H ys cs) (n : ∀ c, H p ≠ some (.tup c)) : TupsAt (upd H p o) ys cs := T.mono fun b c h => by
  rw [upd_ne (show b ≠ p from fun e => n c (by rw [← e]; exact h))]
  exact h
theorem TupsAt.snoc {a : Addr} {c : List V} (T : TupsAt H ys cs) (h : H a = some (.tup c)) : TupsAt H (ys ++ [.ref a]) (cs ++ [c]) := by
  refine ⟨by rw [List.length_append, List.length_append, T.len]; rfl, fun i d e => ?_⟩
  by_cases hi : i < cs.length
  · rw [List.getElem?_append_left hi] at e
    rw [List.getElem?_append_left (by rw [T.len]; exact hi)]
    exact T.at_ i d e
  · have hi := Nat.le_of_not_lt hi
    rw [List.getElem?_append_right hi] at e
    rw [List.getElem?_append_right (by rw [T.len]; exact hi), T.len]
    cases q : i - cs.length with
    | zero =>
      rw [q] at e
      cases e
      exact ⟨a, rfl, h⟩
    | succ n =>
      rw [q] at e
      cases e
theorem TupsAt.of_at (T : TupsAt H ys cs) {i : Nat} {y : V} (h : ys[i]? = some y) : ∃ a c, y = .ref a ∧ cs[i]? = some c ∧ H a = some (.tup c) := by
  have hi : i < cs.length := by rw [← T.len]; exact (List.getElem?_eq_some_iff.mp h).1
  obtain ⟨a, h1, h2⟩ := T.at_ i _ (List.getElem?_eq_getElem hi)
  rw [h] at h1
  exact ⟨a, _, Option.some.inj h1, List.getElem?_eq_getElem hi, h2⟩
end

noncomputable def cP (p : Str × Int) : List V := [.str p.1, .int p.2]
noncomputable def pAt (prs : List (Str × Int)) (i : Nat) : Str × Int := prs.getD i (Str.empty, 0)
theorem pAt_of {prs : List (Str × Int)} {i : Nat} {p : Str × Int} (h : prs[i]? = some p) : pAt prs i = p := by
  unfold pAt
  rw [List.getD_eq_getElem?_getD, h]
  rfl
theorem pAt_range (prs : List (Str × Int)) : (List.range prs.length).map (pAt prs) = prs := by
  apply List.ext_getElem?
  intro i
  rw [List.getElem?_map]
  by_cases h : i < prs.length
  · rw [List.getElem?_range h, Option.map_some, List.getElem?_eq_getElem h, pAt_of (List.getElem?_eq_getElem h)]
  · rw [List.getElem?_eq_none (by simpa using h), List.getElem?_eq_none (Nat.le_of_not_lt h)]
    rfl
theorem pair_at {H : Hp} {ts : List V} {prs : List (Str × Int)} (T : TupsAt H ts (prs.map cP)) (nd : (prs.map (·.1)).Nodup) : PairAt H ts (fun i => (pAt prs i).1) (fun i => (pAt prs i).2) := by
  have tl : ts.length = prs.length := by rw [T.len, List.length_map]
  refine ⟨fun i hi => ?_, fun i j hi hj e => ?_⟩
  · have hp := List.getElem?_eq_getElem (tl ▸ hi)
    rw [pAt_of hp]
    exact T.at_ i _ (by rw [List.getElem?_map, hp]; rfl)
  · have e1 : (pAt prs i).1 = (pAt prs j).1 := e
    have hp := List.getElem?_eq_getElem (tl ▸ hi)
    have hq := List.getElem?_eq_getElem (tl ▸ hj)
    have : i = j := by
      have li : i < (prs.map (·.1)).length := by rw [List.length_map]; exact tl ▸ hi
      have lj : j < (prs.map (·.1)).length := by rw [List.length_map]; exact tl ▸ hj
      refine (List.getElem_inj (h₀ := li) (h₁ := lj) nd).mp ?_
      rw [List.getElem_map, List.getElem_map, ← pAt_of hp, ← pAt_of hq]
      exact e1
    rw [this]
theorem pairs_perm {H : Hp} {ts : List V} {prs : List (Str × Int)} (T : TupsAt H ts (prs.map cP)) {is : List Nat} (pm : is.Perm (List.range ts.length)) :
    (is.map (pAt prs)).Perm prs ∧ TupsAt H (is.map fun i => ts.getD i .non) ((is.map (pAt prs)).map cP) := by
  have tl : ts.length = prs.length := by rw [T.len, List.length_map]
  rw [tl] at pm
  constructor
  · have := pm.map (pAt prs)
    rw [pAt_range] at this
    exact this
  · refine ⟨by simp, fun i c e => ?_⟩
    rw [List.getElem?_map, List.getElem?_map] at e
    obtain ⟨q, hq, rfl⟩ := Option.map_eq_some_iff.mp e
    obtain ⟨j, hj, rfl⟩ := Option.map_eq_some_iff.mp hq
    have lj : j < prs.length := List.mem_range.mp (pm.mem_iff.mp (List.mem_of_getElem? hj))
    have hp := List.getElem?_eq_getElem lj
    obtain ⟨a, h1, h2⟩ := T.at_ j _ (by rw [List.getElem?_map, hp]; rfl)
    rw [pAt_of hp]
    refine ⟨a, ?_, h2⟩
    rw [List.getElem?_map, hj, Option.map_some, List.getD_eq_getElem?_getD, h1]
    rfl

section
variable {J : It} {D a : Addr} {g : TG} {tt : TT} {te : TE} {fin : List V → Hp → Prop} {σ : St} {H : Hp} {xs : List V} {K : PySem.W.Frag}
theorem comp_fmS (W : Walk J H xs) (hD : H D = none) (hz : xs.length < sizeLine) (p : V → Bool) (φ : V → V)
    (ht : ∀ x ∈ xs, ∀ H' R, Same H H' → (∀ H'', Same H' H'' → R (p x) H'') → tt (σ.set 0 (some x)) H' R)
    (he : ∀ x ∈ xs, p x = true → ∀ H' R, Same H H' → (∀ H'', Same H' H'' → R (φ x) H'') → te (σ.set 0 (some x)) H' R)
    (hf : ∀ H', Same H H' → H' D = some (.lst ((xs.filter p).map φ)) → fin ((xs.filter p).map φ) H') : tTurnsI J D (gName 0) tt te fin σ (upd H D (.lst [])) := by
  refine comp_walk W hD (fun i ys H' => ys = ((xs.take i).filter p).map φ) (fun σ' => ∀ x, σ'.set 0 (some x) = σ.set 0 (some x)) (fun _ => rfl) rfl ?_ ?_
  · rintro i x ys σ' H' hx hσ s hd hl rfl
    have hi : i < xs.length := (List.getElem?_eq_some_iff.mp hx).1
    have hm := List.mem_of_getElem? hx
    have tk : xs.take (i + 1) = xs.take i ++ [x] := by rw [List.take_add_one, hx]; rfl
    have hσ2 : ∀ y, (σ'.set 0 (some x)).set 0 (some y) = σ.set 0 (some y) := fun y => by rw [List.set_set]; exact hσ y
    show tt (σ'.set 0 (some x)) _ _
    rw [hσ x]
    refine ht x hm _ _ s fun H2 s2 => ?_
    rw [hσ x] at hσ2
    cases hp : p x with
    | true =>
      refine iteT (he x hm hp _ _ (s.trans s2) fun H3 s3 => ⟨s3 _ _ (s2 _ _ hd), by omega, hσ2, fun b o z => ?_, upd_same, ?_, ?_⟩)
      · rw [upd_ne (ne_of_none z hD)]
        exact s3 _ _ (s2 _ _ (s _ _ z))
      · rw [List.length_append, List.length_singleton]; omega
      · rw [tk, List.filter_append, List.map_append]; simp [hp]
    | false =>
      refine iteF ⟨hσ2, s.trans s2, s2 _ _ hd, by omega, ?_⟩
      rw [tk, List.filter_append, List.map_append]; simp [hp]
  · rintro ys H' s hd hl rfl
    rw [List.take_length] at hd ⊢
    exact hf H' s hd

theorem comp_prs {ts : List V} {prs : List (Str × Int)} (ha : SqL K H a ts) (T : TupsAt H ts (prs.map cP)) (hD : H D = none) (hz : prs.length < sizeLine) (p : Str × Int → Bool) (φ : Str × Int → Str × Int)
    (ht : ∀ q ∈ prs, ∀ H' R, Same H H' → R (p q) H' → tt ((σ.set 0 (some (.str q.1))).set 1 (some (.int q.2))) H' R)
    (he : ∀ q ∈ prs, p q = true → ∀ H' R, Same H H' → New H' (.tup (cP (φ q))) R → te ((σ.set 0 (some (.str q.1))).set 1 (some (.int q.2))) H' R)
    (hf : ∀ ys H', Same H H' → H' D = some (.lst ys) → TupsAt H' ys (((prs.filter p).map φ).map cP) → fin ys H') :
    tTurnsI (Itl K a) D (gTup K 2 (gCons (gName 0) (gCons (gName 1) gNil))) tt te fin σ (upd H D (.lst [])) := by
  have tl : ts.length = prs.length := by rw [T.len, List.length_map]
  refine comp_walk (walk_list ha) hD (fun i ys H' => TupsAt H' ys ((((prs.take i).filter p).map φ).map cP)) (fun σ' => ∀ x y, (σ'.set 0 x).set 1 y = (σ.set 0 x).set 1 y) (fun _ _ => rfl) TupsAt.nil ?_ ?_
  · rintro i x ys σ' H' hx hσ s hd hl G
    have hi : i < prs.length := by rw [← tl]; exact (List.getElem?_eq_some_iff.mp hx).1
    have hp := List.getElem?_eq_getElem hi
    have hm := List.mem_of_getElem? hp
    obtain ⟨b, c, rfl, h1, h2⟩ := T.of_at hx
    rw [List.getElem?_map, hp] at h1
    have h1 : cP prs[i] = c := Option.some.inj h1
    subst h1
    have tk : prs.take (i + 1) = prs.take i ++ [prs[i]] := by rw [List.take_add_one, hp]; rfl
    refine ⟨b, _, rfl, SqT.of (s _ _ h2), rfl, _, _, rfl, _, _, rfl, rfl, ?_⟩
    show tt ((σ'.set 0 _).set 1 _) _ _
    rw [hσ]
    have hσ2 : ∀ x y, ((((σ.set 0 (some (.str prs[i].1))).set 1 (some (.int prs[i].2))).set 0 x).set 1 y) = (σ.set 0 x).set 1 y := fun x y => by
      rcases σ with _ | ⟨_, _ | ⟨_, _⟩⟩ <;> rfl
    refine ht _ hm _ _ s ?_
    cases q : p prs[i] with
    | true =>
      refine iteT (he _ hm q _ _ s fun t H3 s3 n3 e3 => ⟨s3 _ _ hd, ?_, hσ2, fun b o z => ?_, upd_same, ?_, ?_⟩)
      · have := Nat.lt_of_le_of_lt hl hi
        omega
      · rw [upd_ne (ne_of_none z hD)]
        exact s3 _ _ (s _ _ z)
      · rw [List.length_append, List.length_singleton]; omega
      · rw [tk, List.filter_append, List.map_append, List.map_append]
        have e1 : [prs[i]].filter p = [prs[i]] := by simp [q]
        rw [e1]
        refine TupsAt.snoc ((G.same s3).upd fun c z => ?_) ?_
        · rw [s3 _ _ hd] at z
          cases z
        · rw [upd_ne (ne_of e3 (s3 _ _ hd) (by intro z; cases z))]
          exact e3
    | false =>
      refine iteF ⟨hσ2, s, hd, by omega, ?_⟩
      rw [tk, List.filter_append, List.map_append, List.map_append]
      have e1 : [prs[i]].filter p = [] := by simp [q]
      rw [e1, List.map_nil, List.map_nil, List.append_nil]
      exact G
  · rintro ys H' s hd hl G
    rw [tl, List.take_length] at G
    exact hf ys H' s hd G
end

noncomputable def dOf (tot : List (Str × Int)) : List (Key × V) := tot.map fun p => (Sum.inr p.1, V.int p.2)
noncomputable def getO (tot : List (Str × Int)) (z : Str) : Option Int := (tot.find? fun p => decide (p.1 = z)).map (·.2)
noncomputable def getT (tot : List (Str × Int)) (z : Str) : Int := (getO tot z).getD 0
noncomputable def putT (tot : List (Str × Int)) (z : Str) (v : Int) : List (Str × Int) :=
  if (tot.any fun p => decide (p.1 = z)) = true then tot.map (fun p => if p.1 = z then (p.1, v) else p) else tot ++ [(z, v)]
theorem inr_eq {a z : Str} : ((Sum.inr a : Key) = Sum.inr z) ↔ a = z := ⟨fun h => Sum.inr.inj h, fun h => congrArg _ h⟩
theorem val_dOf (tot : List (Str × Int)) (z : Str) : valV (dOf tot) (Sum.inr z) = (getO tot z).map V.int := by
  induction tot with
  | nil => rfl
  | cons p r ih =>
    by_cases e : p.1 = z
    · rw [show dOf (p :: r) = (Sum.inr p.1, V.int p.2) :: dOf r from rfl, valV_pos (inr_eq.mpr e)]
      unfold getO
      rw [List.find?_cons, decide_eq_true e]
      rfl
    · rw [show dOf (p :: r) = (Sum.inr p.1, V.int p.2) :: dOf r from rfl, valV_neg (fun h => e (inr_eq.mp h)), ih]
      unfold getO
      rw [List.find?_cons, decide_eq_false e]
theorem get_dOf (tot : List (Str × Int)) (z : Str) : (valV (dOf tot) (Sum.inr z)).getD (.int 0) = .int (getT tot z) := by
  rw [val_dOf]
  unfold getT
  cases getO tot z <;> rfl
theorem put_dOf (tot : List (Str × Int)) (z : Str) (v : Int) : putK (dOf tot) (Sum.inr z) (.int v) = dOf (putT tot z v) := by
  have e1 : ((dOf tot).any fun kv => decide (kv.1 = (Sum.inr z : Key))) = tot.any fun p => decide (p.1 = z) := by
    unfold dOf
    rw [List.any_map]
    congr 1
    funext p
    exact decide_eq_decide.mpr inr_eq
  unfold putK putT
  rw [e1]
  split
  · unfold dOf
    rw [List.map_map, List.map_map]
    refine List.map_congr_left fun p _ => ?_
    show (if (Sum.inr p.1 : Key) = Sum.inr z then _ else _) = _
    by_cases e : p.1 = z
    · rw [if_pos (inr_eq.mpr e)]
      show _ = (Sum.inr (if p.1 = z then (p.1, v) else p).1, V.int (if p.1 = z then (p.1, v) else p).2)
      rw [if_pos e]
    · rw [if_neg fun h => e (inr_eq.mp h)]
      show _ = (Sum.inr (if p.1 = z then (p.1, v) else p).1, V.int (if p.1 = z then (p.1, v) else p).2)
      rw [if_neg e]
  · unfold dOf
    rw [List.map_append]
    rfl
theorem getO_put (tot : List (Str × Int)) (z y : Str) (v : Int) : getO (putT tot z v) y = if y = z then some v else getO tot y := by
  have h := valV_put (dOf tot) (Sum.inr z : Key) (Sum.inr y) (.int v)
  rw [put_dOf, val_dOf, val_dOf] at h
  have inj : ∀ a b : Option Int, a.map V.int = b.map V.int → a = b := fun a b e => by
    cases a <;> cases b <;> first | rfl | cases e | skip
    rfl
  apply inj
  rw [h]
  by_cases e : y = z
  · rw [if_pos e, if_pos (inr_eq.mpr e)]
    rfl
  · rw [if_neg e, if_neg fun h => e (inr_eq.mp h)]
theorem getT_put (tot : List (Str × Int)) (z y : Str) (v : Int) : getT (putT tot z v) y = if y = z then v else getT tot y := by
  unfold getT
  rw [getO_put]
  split <;> rfl
theorem len_putT (tot : List (Str × Int)) (z : Str) (v : Int) : (putT tot z v).length ≤ tot.length + 1 := by
  unfold putT
  split
  · rw [List.length_map]
    exact Nat.le_succ _
  · rw [List.length_append]
    exact Nat.le_refl _
theorem getO_mem {tot : List (Str × Int)} (h : (tot.map (·.1)).Nodup) {p : Str × Int} (hp : p ∈ tot) : getO tot p.1 = some p.2 := by
  induction tot with
  | nil => cases hp
  | cons q r ih =>
    have h : (q.1 :: r.map (·.1)).Nodup := h
    obtain ⟨h1, h2⟩ := List.nodup_cons.mp h
    unfold getO
    rw [List.find?_cons]
    rcases List.mem_cons.mp hp with rfl | hp
    · rw [decide_eq_true rfl]
      rfl
    · rw [decide_eq_false fun e : q.1 = p.1 => h1 (e ▸ List.mem_map.mpr ⟨p, hp, rfl⟩)]
      exact ih h2 hp
theorem getO_none {tot : List (Str × Int)} {z : Str} (h : ¬ z ∈ tot.map (·.1)) : getO tot z = none := by
  unfold getO
  have : tot.find? (fun p => decide (p.1 = z)) = none := List.find?_eq_none.mpr fun p hp e => h (List.mem_map.mpr ⟨p, hp, of_decide_eq_true e⟩)
  rw [this]
  rfl
theorem getO_in {tot : List (Str × Int)} {z : Str} {v : Int} (h : getO tot z = some v) : (z, v) ∈ tot := by
  unfold getO at h
  obtain ⟨p, hp, rfl⟩ := Option.map_eq_some_iff.mp h
  have e : decide (p.1 = z) = true := List.find?_some (p := fun p : Str × Int => decide (p.1 = z)) hp
  have e := of_decide_eq_true e
  have m := List.mem_of_find?_eq_some hp
  rw [← e]
  exact m
end L2
set_option Elab.async false
set_option linter.all false

namespace ST
open PySem
noncomputable def Rise (xs : Array Nat) : Prop := ∀ i j, i < j → j < xs.size → xs.getD i 0 < xs.getD j 0
theorem getD_any {xs : Array Nat} {i : Nat} (h : i < xs.size) (d e : Nat) : xs.getD i d = xs.getD i e := by
  simp [Array.getD, h]
theorem go_spec {xs : Array Nat} (hr : Rise xs) (j : Nat) : ∀ (fuel lo hi : Nat), hi - lo ≤ fuel → lo ≤ hi → hi ≤ xs.size → (∀ i, i < lo → xs.getD i 0 < j) → (∀ i, hi ≤ i → i < xs.size → j ≤ xs.getD i 0) →
    (SetTable.below.go xs j fuel lo hi ≤ xs.size ∧ (∀ i, i < SetTable.below.go xs j fuel lo hi → xs.getD i 0 < j) ∧ ∀ i, SetTable.below.go xs j fuel lo hi ≤ i → i < xs.size → j ≤ xs.getD i 0)
  | 0, lo, hi, hf, hl, hs, h1, h2 => by
    have e : lo = hi := by omega
    subst e
    exact ⟨hs, h1, h2⟩
  | fuel + 1, lo, hi, hf, hl, hs, h1, h2 => by
    unfold SetTable.below.go
    by_cases hlt : lo < hi
    · rw [if_pos hlt]
      have hm : (lo + hi) / 2 < hi := by omega
      have hm2 : lo ≤ (lo + hi) / 2 := by omega
      have hms : (lo + hi) / 2 < xs.size := by omega
      show (if xs.getD ((lo + hi) / 2) j < j then _ else _) ≤ _ ∧ _
      simp only
      rw [getD_any hms j 0]
      by_cases hc : xs.getD ((lo + hi) / 2) 0 < j
      · rw [if_pos hc]
        refine go_spec hr j fuel _ hi (by omega) (by omega) hs (fun i hi' => ?_) h2
        by_cases e : i = (lo + hi) / 2
        · rw [e]; exact hc
        · exact Nat.lt_trans (hr i _ (by omega) hms) hc
      · rw [if_neg hc]
        refine go_spec hr j fuel lo _ (by omega) hm2 (by omega) h1 (fun i hi' his => ?_)
        by_cases e : i = (lo + hi) / 2
        · rw [e]; exact Nat.le_of_not_lt hc
        · exact Nat.le_trans (Nat.le_of_not_lt hc) (Nat.le_of_lt (hr _ i (by omega) his))
    · rw [if_neg hlt]
      have e : lo = hi := by omega
      subst e
      exact ⟨hs, h1, h2⟩

theorem below_spec {xs : Array Nat} (hr : Rise xs) (j : Nat) : SetTable.below xs j ≤ xs.size ∧ (∀ i, i < SetTable.below xs j → xs.getD i 0 < j) ∧ ∀ i, SetTable.below xs j ≤ i → i < xs.size → j ≤ xs.getD i 0 :=
  go_spec hr j xs.size 0 xs.size (by omega) (by omega) (Nat.le_refl _) (fun i h => absurd h (Nat.not_lt_zero i)) (fun i h1 h2 => absurd h2 (Nat.not_lt.mpr h1))

theorem getD_insert {xs : Array Nat} {p x k : Nat} (hp : p ≤ xs.size) : (SetTable.insertAt xs p x).getD k 0 = if k < p then xs.getD k 0 else if k = p then x else xs.getD (k - 1) 0 := by
  unfold SetTable.insertAt
  have e : ∀ (ys : Array Nat) (k : Nat), ys.getD k 0 = (ys.toList[k]?).getD 0 := fun ys k => by simp [Array.getD_eq_getD_getElem?]
  rw [e, e, e]
  have l : ((xs.extract 0 p).push x ++ xs.extract p xs.size).toList = xs.toList.take p ++ x :: xs.toList.drop p := by
    simp [Array.toList_extract]
    rw [List.take_of_length_le (by simp : _ ≤ _)]
  rw [l]
  by_cases h1 : k < p
  · rw [if_pos h1, List.getElem?_append_left (by rw [List.length_take, Array.length_toList]; omega), List.getElem?_take_of_lt h1]
  · rw [if_neg h1, List.getElem?_append_right (by rw [List.length_take, Array.length_toList]; omega), List.length_take, Array.length_toList, Nat.min_eq_left hp]
    by_cases h2 : k = p
    · rw [if_pos h2, h2, Nat.sub_self]; rfl
    · rw [if_neg h2]
      obtain ⟨m, hm⟩ : ∃ m, k - p = m + 1 := ⟨k - p - 1, by omega⟩
      rw [hm, List.getElem?_cons_succ, List.getElem?_drop]
      congr 2
      omega
theorem size_insert {xs : Array Nat} {p x : Nat} (hp : p ≤ xs.size) : (SetTable.insertAt xs p x).size = xs.size + 1 := by
  unfold SetTable.insertAt
  simp
  omega

theorem rise_put {xs : Array Nat} (hr : Rise xs) {j : Nat} (hj : xs[SetTable.below xs j]? ≠ some j) : Rise (SetTable.insertAt xs (SetTable.below xs j) j) := by
  obtain ⟨h1, h2, h3⟩ := below_spec hr j
  have h4 : ∀ i, SetTable.below xs j ≤ i → i < xs.size → j < xs.getD i 0 := fun i a b => by
    refine Nat.lt_of_le_of_ne (h3 i a b) fun e => ?_
    by_cases q : i = SetTable.below xs j
    · apply hj
      rw [← q, Array.getElem?_eq_getElem b]
      have : xs.getD i 0 = xs[i] := by simp [Array.getD, b]
      rw [← this, ← e]
    · have := hr (SetTable.below xs j) i (by omega) b
      have := h3 (SetTable.below xs j) (Nat.le_refl _) (by omega)
      omega
  intro a b hab hb
  rw [size_insert h1] at hb
  rw [getD_insert h1, getD_insert h1]
  by_cases c1 : b < SetTable.below xs j
  · rw [if_pos (by omega : a < SetTable.below xs j), if_pos c1]
    exact hr a b hab (by omega)
  · rw [if_neg c1]
    by_cases c2 : b = SetTable.below xs j
    · rw [if_pos c2, if_pos (by omega : a < SetTable.below xs j)]
      exact h2 a (by omega)
    · rw [if_neg c2]
      by_cases c3 : a < SetTable.below xs j
      · rw [if_pos c3]
        exact Nat.lt_trans (h2 a c3) (h4 (b - 1) (by omega) (by omega))
      · rw [if_neg c3]
        by_cases c4 : a = SetTable.below xs j
        · rw [if_pos c4]
          exact h4 (b - 1) (by omega) (by omega)
        · rw [if_neg c4]
          exact hr (a - 1) (b - 1) (by omega) (by omega)
theorem rise_range (n : Nat) : Rise (Array.range n) := by
  intro i j hij hj
  have hj' : j < n := by simpa using hj
  have hi' : i < n := by omega
  simp [Array.getD, hj', hi', hij]
theorem rise_of_pairwise {l : List Nat} (h : l.Pairwise (· < ·)) : Rise l.toArray := by
  intro i j hij hj
  have hj' : j < l.length := by simpa using hj
  have hi' : i < l.length := by omega
  have := List.pairwise_iff_getElem.mp h i j hi' hj' hij
  simpa [Array.getD, hi', hj'] using this
theorem rise_laid {mask finger moves : Nat} {led plain : Bool} {hashes : Array Int} {t : SetTable} {order : Array Nat} (h : SetTable.laid mask finger moves led plain hashes = some (t, order)) : Rise t.place ∧ t.led = led ∧ t.plain = plain := by
  unfold SetTable.laid at h
  cases e : SetTable.layClean mask hashes with
  | none =>
    rw [e] at h
    cases h
  | some owner =>
    rw [e] at h
    cases h
    refine ⟨rise_of_pairwise ?_, rfl, rfl⟩
    rw [List.map_filterMap]
    refine List.Pairwise.filterMap _ (R := (· < ·)) ?_ List.pairwise_lt_range
    intro a b hab x hx y hy
    simp only [Option.map_map, Option.mem_def, Option.map_eq_some_iff] at hx hy
    obtain ⟨_, _, rfl⟩ := hx
    obtain ⟨_, _, rfl⟩ := hy
    exact hab
end ST
set_option Elab.async false
set_option linter.all false
namespace ST
open PySem
noncomputable def NoLive (t : SetTable) (j : Nat) : Prop := t.place[SetTable.below t.place j]? ≠ some j
theorem no_live {t : SetTable} {j : Nat} (h : ∀ i, t.slot j ≠ .live i) : NoLive t j := by
  intro e
  unfold SetTable.slot at h
  simp only at h
  rw [if_pos (by rw [e]; simp)] at h
  exact h _ rfl
theorem probe_spec {t : SetTable} {f : Nat → Int} {h : Int} : ∀ (fuel : Nat) (p : SetTable.Probe), (∀ d, p.dummy = some d → NoLive t d) → ∀ j d, SetTable.probe.go t f h fuel p = some (.empty j d) → NoLive t j ∧ ∀ e, d = some e → NoLive t e
  | 0, p, _, j, d, q => by
    unfold SetTable.probe.go at q
    cases q
  | fuel + 1, p, hp, j, d, q => by
    unfold SetTable.probe.go at q
    cases hs : t.slot p.j with
    | empty =>
      rw [hs] at q
      simp only [Option.some.injEq, SetTable.Met.empty.injEq] at q
      obtain ⟨e1, e2⟩ := q
      subst e1 e2
      exact ⟨no_live fun i => by rw [hs]; simp, hp⟩
    | dummy =>
      rw [hs] at q
      refine probe_spec fuel _ (fun e he => ?_) j d q
      have : (SetTable.advance t { p with dummy := some p.j }).dummy = some p.j := by
        unfold SetTable.advance
        split <;> rfl
      rw [this] at he
      cases he
      exact no_live fun i => by rw [hs]; simp
    | live i =>
      rw [hs] at q
      simp only at q
      split at q
      · cases q
      · refine probe_spec fuel _ (fun e he => ?_) j d q
        have : (SetTable.advance t p).dummy = p.dummy := by
          unfold SetTable.advance
          split <;> rfl
        rw [this] at he
        exact hp e he
theorem free_no {t : SetTable} {h : Int} {s : Nat} {wd : Bool} (q : t.freeSlot h = some (s, wd)) : NoLive t s := by
  unfold SetTable.freeSlot at q
  cases e : t.probe (fun _ => h + 1) h (t.probeStart h) with
  | none => rw [e] at q; cases q
  | some m =>
    rw [e] at q
    cases m with
    | candidate j i n => cases q
    | empty j d =>
      have hp := probe_spec _ _ (by intro d hd; cases hd) j d e
      simp only [Option.some.injEq, Prod.mk.injEq] at q
      obtain ⟨q1, _⟩ := q
      cases d with
      | none => rw [← q1]; exact hp.1
      | some d => rw [← q1]; exact hp.2 d rfl

structure Good (b : Bool) (t : SetTable) : Prop where
  led : t.led = b
  rise : Rise t.place
theorem good_stand {b : Bool} {t : SetTable} (g : Good b t) (n : Nat) : Good b (t.standIn n) := ⟨g.led, rise_range n⟩
theorem good_plain {b : Bool} {t : SetTable} (g : Good b t) (p : Bool) : Good b { t with plain := p } := ⟨g.led, g.rise⟩
theorem good_lay {b : Bool} {t : SetTable} (g : Good b t) (es : Array (Int × Value)) (h : Int) (x : Value) : Good b (layNew t es h x).2.1 := by
  unfold layNew
  cases e : t.freeSlot h with
  | none => exact good_stand g _
  | some q =>
    obtain ⟨s, wd⟩ := q
    have gp : Good b (t.put s).1 := ⟨g.led, rise_put g.rise (free_no e)⟩
    show Good b ((t.put s).1.orStandIn _)
    unfold SetTable.orStandIn
    split
    · exact gp
    · exact good_stand gp _
theorem good_relay {b : Bool} {t : SetTable} (g : Good b t) (es : Array (Int × Value)) (n : Nat) : Good b (relayAll t es n).2.1 := by
  unfold relayAll
  cases e : t.relaid (es.map (·.1)) n with
  | none => exact good_stand g _
  | some q =>
    obtain ⟨t', order⟩ := q
    simp only
    split
    · obtain ⟨r1, r2, _⟩ := rise_laid e
      exact ⟨r2.trans g.led, r1⟩
    · exact good_stand g _
theorem good_fresh (b : Bool) : Good b (SetTable.fresh 0 0 b) := ⟨rfl, fun i j _ h => absurd h (Nat.not_lt_zero _)⟩
end ST
set_option Elab.async false
set_option linter.all false
set_option maxRecDepth 100000
namespace ST
open PySem PySem.Spec
section
variable {prog : Program} {w : World} {K : Type} [DecidableEq K] [BEq K] [LawfulBEq K] {knd : KeyKind prog w K} {A : Around} {E : Value → Shared → Prop} {s : Shared}

structure At (knd : KeyKind prog w K) (b : Bool) (h : Heap) (a : Addr) (es : Array (Int × Value)) : Prop where
  ex : ∃ o ep t, h.get? a = some o ∧ o.ExactSet ∧ o.data = .set es ep t ∧ t.fits es.size = true ∧ Good b t
  el : ElemsOf knd es.toList
theorem at_store {b : Bool} {h : Heap} {a : Addr} {o : Obj} {es es' : Array (Int × Value)} {ep : Nat} {t t' : SetTable} (og : h.get? a = some o) (hx : o.ExactSet) (dg : o.data = .set es ep t) (el : ElemsOf knd es'.toList) (fg : t'.fits es'.size = true) (g : Good b t') :
    (h.update a (Obj.putSet es' t')).get? a = some { o with data := .set es' (ep + 1) t' } ∧ At knd b (h.update a (Obj.putSet es' t')) a es' := by
  have e : (h.update a (Obj.putSet es' t')).get? a = some { o with data := .set es' (ep + 1) t' } := by
    rw [← putSet_of es' t' dg]
    exact Heap.get?_update_self _ og (by rw [putSet_of es' t' dg]; rfl)
  exact ⟨e, ⟨_, _, _, e, hx, rfl, fg, g⟩, el⟩

noncomputable def Added (knd : KeyKind prog w K) (k : K) (x : Value) (es es' : Array (Int × Value)) : Prop :=
  ((∃ e ∈ es.toList, knd.is k e.2 = true) ∧ es' = es) ∨ ((∀ e ∈ es.toList, knd.is k e.2 = false) ∧ es'.toList.Perm (es.toList ++ [(knd.hash k, x)]))
theorem add_good {b : Bool} {a : Addr} {es : Array (Int × Value)} {k : K} {x : Value} {Q : Bool → Shared → Prop} (hk : knd.is k x = true) (hx : x.scannable = true) (hA : At knd b s.heap a es) (hb : es.size + 1 < scanBound)
    (h : ∀ h' es' r, Heap.SameBut a s.heap h' → At knd b h' a es' → Added knd k x es es' → Q r { s with heap := h' }) : wpAny (model prog w) A (setAddHashed a x (knd.hash k)) Q E s := by
  obtain ⟨⟨o, ep, t, og, hex, dg, fg, g⟩, el⟩ := hA
  unfold setAddHashed
  unfold setAddHashedIn
  refine wpAny_holding (wpAny_bind (wpAny_setState_of og dg fg ?_))
  dsimp only
  rw [byScan_of hx (Nat.lt_of_succ_lt hb) el]
  simp only [↓reduceIte]
  unfold setAddByScan
  refine wpAny_bind (wpAny_bind (wpAny_rule (wpAny_bind (wpAny_setScan_of hk og dg fg el ?_))))
  cases met : List.findIdx? (fun u => knd.is k u.2) es.toList with
  | some j =>
    dsimp only
    obtain ⟨j1, j2, _⟩ := List.findIdx?_eq_some_iff_getElem.mp met
    refine wpAny_pure (wpAny_pure ?_)
    have z := h s.heap es false (Heap.SameBut.refl a s.heap) ⟨⟨o, ep, t, og, hex, dg, fg, g⟩, el⟩ (.inl ⟨⟨_, List.getElem_mem j1, j2⟩, rfl⟩)
    exact z
  | none =>
    dsimp only
    have none_is : ∀ e ∈ es.toList, knd.is k e.2 = false := fun e he => by
      have z := List.findIdx?_eq_none_iff.mp met e he
      simpa using z
    have gw : ∀ (c : Bool) {s₁ : Shared} {R : Unit → Shared → Prop}, R () s₁ → wpAny (model prog w) A (match c with | true => rule "set.scan.the-table-gave-way" | false => pure ()) R E s₁ := fun c s₁ R q => by
      cases c
      · exact wpAny_pure q
      · exact wpAny_rule q
    have pm := layNew_perm t es (knd.hash k) x
    have ft := layNew_fits t es (knd.hash k) x
    have gl := good_lay g es (knd.hash k) x
    obtain ⟨L, hL⟩ : ∃ L, layNew t es (knd.hash k) x = L := ⟨_, rfl⟩
    rw [hL] at pm ft gl ⊢
    obtain ⟨es1, t1, wd, gv⟩ := L
    dsimp only at pm ft gl ⊢
    rw [Array.toList_push] at pm
    have el1 : ElemsOf knd es1.toList := (el.push hk hx).perm pm
    have sz1 : es1.size = es.size + 1 := by rw [← Array.length_toList, pm.length_eq, List.length_append, Array.length_toList]; rfl
    have tail : ∀ tb : SetTable, tb.fits es1.size = true → Good b tb → ∀ R : Option Bool → Shared → Prop, (∀ h' es', Heap.SameBut a s.heap h' → At knd b h' a es' → es'.toList.Perm es1.toList → R (some true) { s with heap := h' }) →
        wpAny (model prog w) A (do
          storeSet a es1 tb
          if (!wd && tb.tooFull) = true then do
              (match (relayAll tb es1 (SetTable.grown es1.size)).2.2 with | true => rule "set.scan.the-table-gave-way" | false => pure ())
              storeSet a (relayAll tb es1 (SetTable.grown es1.size)).1 (relayAll tb es1 (SetTable.grown es1.size)).2.1
              pure (some true)
            else pure (some true)) R E s := fun tb f2 g2 R q => by
      have fit1 : es1.size ≤ sizeLine := fits_of_scanBound (by rw [sz1]; exact hb)
      refine wpAny_bind (wpAny_storeSet_of og dg ?_ fit1)
      obtain ⟨o1, A1⟩ := at_store (knd := knd) og hex dg el1 f2 g2
      have sb1 := Heap.SameBut.update s.heap a (Obj.putSet es1 tb)
      split
      · have rp := relayAll_perm tb es1 (SetTable.grown es1.size)
        have rf := relayAll_fits tb es1 (SetTable.grown es1.size)
        have rg := good_relay g2 es1 (SetTable.grown es1.size)
        have rs : (relayAll tb es1 (SetTable.grown es1.size)).1.size = es1.size := by rw [← Array.length_toList, rp.length_eq, Array.length_toList]
        refine wpAny_bind (gw _ ?_)
        refine wpAny_bind (wpAny_storeSet_of o1 rfl ?_ (by rw [rs]; exact fit1))
        obtain ⟨_, A2⟩ := at_store (knd := knd) o1 hex rfl (el1.perm rp) rf rg
        exact wpAny_pure (q _ _ (sb1.trans (Heap.SameBut.update _ a _)) A2 rp)
      · exact wpAny_pure (q _ _ sb1 A1 (List.Perm.refl _))
    have fin : ∀ h' es', Heap.SameBut a s.heap h' → At knd b h' a es' → es'.toList.Perm es1.toList → Q true { s with heap := h' } := fun h' es' sb A2 p => h h' es' true sb A2 (.inr ⟨none_is, p.trans pm⟩)
    refine wpAny_bind (gw _ ?_)
    split
    · refine wpAny_bind ?_
      rw [hashByValue_scannable 8 hx]
      refine wpAny_pure ?_
      refine tail _ ?_ ?_ _ fun h' es' sb A2 p => ?_
      · split
        · exact ft
        · exact SetTable.fits_plain_off ft
      · split
        · exact gl
        · exact good_plain gl _
      · dsimp only
        exact wpAny_pure (fin h' es' sb A2 p)
    · refine wpAny_bind (wpAny_pure ?_)
      simp only [↓reduceIte]
      refine tail _ ft gl _ fun h' es' sb A2 p => ?_
      dsimp only
      exact wpAny_pure (fin h' es' sb A2 p)
end
end ST
set_option Elab.async false
set_option linter.all false
set_option maxRecDepth 100000
namespace ST
open PySem PySem.Spec

noncomputable def byText (w : World) : Bool := w.params.followText "set-order"
section
variable {prog : Program} {w : World} {A : Around} {E : Value → Shared → Prop} {s : Shared}
noncomputable abbrev fresh0 (w : World) : Obj := { cls := .type "set", dict := none, data := .set #[] 0 (.fresh 0 0 (!byText w)) }
theorem code_new (v : Value) {Q : Value → Shared → Prop} (h : Q (.ref s.heap.objs.size) { s with heap := s.heap.push (fresh0 w) }) :
    codeAny (model prog w) A (.call (.builtin "set.__new__") ⟨[.type "set", v], []⟩) (wants Q E) s := by
  refine codeAny_of_tree ?_
  show wpAny _ A.in1 (checkBuiltinCall "set.__new__" ⟨[.type "set", v], []⟩ >>= fun _ => again (.builtin "set.__new__" ⟨[.type "set", v], []⟩)) _ _ s
  refine wpAny_bind (wpAny_of_eq (F.newCall_set_1 v) (wpAny_pure ⟨plainId_quiet F.plain_set_new _, codeAny_builtin F.entry_set_new ?_⟩))
  rw [Around.under_plainId F.plain_set_new _]
  unfold Builtin.«set.__new__»
  unfold Builtin.Frozenset.newClass
  have sub := sub_set_self
  obtain ⟨hp, g, d, tk, os⟩ := s
  dsimp only
  wp_walk
  refine wpAny_askSetting (wpAny_pure ?_)
  dsimp only
  simp only [newObj]
  refine wpAny_bind (wpAny_alloc (wpAny_pure ?_))
  exact wpAny_pure h
end
end ST
set_option Elab.async false
set_option linter.all false
set_option maxRecDepth 100000
namespace ST
open PySem PySem.Spec PyProof.Rows
section
variable {prog : Program} {w : World} {K : Type} [DecidableEq K] [BEq K] [LawfulBEq K] {knd : KeyKind prog w K} {A : Around} {E : Value → Shared → Prop} {s : Shared}

structure Keys (kf : Value → K) (es : Array (Int × Value)) (l : List K) : Prop where
  nd : (es.toList.map fun e => kf e.2).Nodup
  mem : ∀ k, k ∈ es.toList.map (fun e => kf e.2) ↔ k ∈ l
  len : es.size ≤ l.length
theorem keys_none (kf : Value → K) : Keys kf #[] [] := ⟨List.nodup_nil, fun k => Iff.rfl, Nat.le_refl _⟩
theorem keys_add {kf : Value → K} (hkf : ∀ k v, knd.is k v = true → kf v = k) {es es' : Array (Int × Value)} {l : List K} {k : K} {x : Value} (el : ElemsOf knd es.toList) (hk : knd.is k x = true) (c : Keys kf es l) (a : Added knd k x es es') : Keys kf es' (l ++ [k]) := by
  rcases a with ⟨⟨e, he, h1⟩, rfl⟩ | ⟨no, pm⟩
  · refine ⟨c.nd, fun q => ?_, by rw [List.length_append]; exact Nat.le_add_right_of_le c.len⟩
    rw [c.mem, List.mem_append, List.mem_singleton]
    refine ⟨.inl, fun z => z.elim id fun z => ?_⟩
    rw [z, ← c.mem]
    exact List.mem_map.mpr ⟨e, he, hkf _ _ h1⟩
  · have pk : (es'.toList.map fun e => kf e.2).Perm ((es.toList.map fun e => kf e.2) ++ [k]) := by
      have := pm.map fun e => kf e.2
      rw [List.map_append] at this
      simpa [hkf k x hk] using this
    have nk : ¬ k ∈ es.toList.map fun e => kf e.2 := fun m => by
      obtain ⟨e, he, e1⟩ := List.mem_map.mp m
      obtain ⟨⟨k', h1, _⟩, _⟩ := el e he
      have e2 := hkf _ _ h1
      have := no e he
      rw [← e1, e2, h1] at this
      cases this
    refine ⟨pk.nodup_iff.mpr ?_, fun q => ?_, ?_⟩
    · rw [List.nodup_append]
      refine ⟨c.nd, by simp, fun a ha b hb z => ?_⟩
      rw [List.mem_singleton.mp hb] at z
      exact nk (z ▸ ha)
    · rw [pk.mem_iff, List.mem_append, List.mem_append, c.mem]
    · rw [← Array.length_toList, pm.length_eq, List.length_append, List.length_append, Array.length_toList]
      exact Nat.add_le_add_right c.len _
theorem at_keep {b : Bool} {h h' : Heap} {a : Addr} {es : Array (Int × Value)} (x : At knd b h a es) (k : ∀ o, h.get? a = some o → h'.get? a = some o) : At knd b h' a es := by
  obtain ⟨⟨o, ep, t, e, r⟩, el⟩ := x
  exact ⟨⟨o, ep, t, k o e, r⟩, el⟩
theorem loop_good {b : Bool} {I : Addr} {fp wr : List Addr} {n : Nat} {P : Nat → Value → Prop} {St : Nat → Heap → Prop} (W : Walks prog w A.in1 I fp wr n P St) (S : Addr) (hS : S ∉ fp) {kf : Value → K} (hkf : ∀ k v, knd.is k v = true → kf v = k) (key : Nat → K)
    (hv : ∀ i v, P i v → knd.is (key i) v = true ∧ v.scannable = true) (hb : n + 1 < scanBound) {R : Result → Shared → Prop} :
    ∀ (m i : Nat) (s : Shared) (es : Array (Int × Value)), n - i = m → i ≤ n → St i s.heap → At knd b s.heap S es → Keys kf es ((List.range i).map key) →
      (∀ h' tk es', (∀ c o, c ∉ wr → c ≠ S → s.heap.get? c = some o → h'.get? c = some o) → At knd b h' S es' → Keys kf es' ((List.range n).map key) → R (.ok (.ret .none)) { s with heap := h', toks := tk }) →
      codeAny (model prog w) A (.builtin "set.update.loop" ⟨[.ref S, .ref I], []⟩) R s := by
  have hSw : S ∉ wr := fun z => hS (W.sub _ z)
  intro m
  induction m with
  | zero =>
    intro i s es hm hi st hA hK hR
    obtain rfl : i = n := by omega
    refine codeAny_builtin F.entry_set_update_loop ?_
    rw [Around.under_plainId F.plain_set_update_loop _]
    refine wpAny_bind (W.done s _ _ st fun h' tk keep => ?_)
    exact wpAny_pure (hR h' tk es (fun c o c1 _ e => keep c o c1 e) (at_keep hA fun o e => keep _ o hSw e) hK)
  | succ m ih =>
    intro i s es hm hi st hA hK hR
    have lt : i < n := by omega
    refine codeAny_builtin F.entry_set_update_loop ?_
    rw [Around.under_plainId F.plain_set_update_loop _]
    refine wpAny_bind (W.item i s _ _ lt st fun v h' tk hP st' keep => ?_)
    obtain ⟨v1, v2⟩ := hv i v hP
    have hA' : At knd b h' S es := at_keep hA fun o e => keep _ o hSw e
    refine wpAny_bind (wpAny_holding ?_)
    unfold setAdd
    refine wpAny_holding (wpAny_bind (knd.pyHash v1 ?_))
    have room : es.size + 1 < scanBound := by
      have := hK.len
      rw [List.length_map, List.length_range] at this
      omega
    refine add_good (knd := knd) (s := { s with heap := h', toks := tk + 1 }) v1 v2 hA' room fun h2 es2 r sb A2 ad => ?_
    have K2 : Keys kf es2 ((List.range (i + 1)).map key) := by
      rw [List.range_succ, List.map_append]
      exact keys_add hkf hA.el v1 hK ad
    refine wpAny_pure ⟨plainId_quiet F.plain_set_update_loop _, ih (i + 1) _ es2 (by omega) lt (W.frame _ _ _ st' fun c hc o e => ?_) A2 K2 fun h3 tk3 es3 keep3 A3 K3 => ?_⟩
    · exact (sb.2 c fun z => hS (z ▸ hc)).trans e
    · exact hR h3 tk3 es3 (fun c o c1 c2 e => keep3 c o c1 c2 ((sb.2 c c2).trans (keep c o c1 e))) A3 K3
end
end ST
set_option Elab.async false
set_option linter.all false
set_option maxRecDepth 100000
namespace ST
open PySem PySem.Spec PyProof.Rows
section
variable {prog : Program} {w : World} {K : Type} [DecidableEq K] [BEq K] [LawfulBEq K] {knd : KeyKind prog w K} {A : Around} {E : Value → Shared → Prop} {s : Shared}

structure Left (knd : KeyKind prog w K) (kf : Value → K) (l : List K) (h₀ h : Heap) : Prop where
  ex : ∃ es, At knd (!byText w) h h₀.objs.size es ∧ Keys kf es l
  keep : ∀ c o, c < h₀.objs.size → h₀.get? c = some o → h.get? c = some o
theorem at_fresh {h : Heap} {a : Addr} (e : h.get? a = some (fresh0 w)) : At knd (!byText w) h a #[] :=
  ⟨⟨_, _, _, e, ⟨rfl, rfl, rfl⟩, rfl, rfl, good_fresh _⟩, fun _ m => by cases m⟩
theorem init_good {l : Addr} {items : Array Value} (hh : A.handled = none) (hl : s.heap.IsList l items) {kf : Value → K} (hkf : ∀ k v, knd.is k v = true → kf v = k) {ks : List K}
    (hv : ∀ (i : Nat) (v : Value), items[i]? = some v → ∃ k, ks[i]? = some k ∧ knd.is k v = true ∧ v.scannable = true) (hn : ks.length = items.size) (hb : items.size + 1 < scanBound) [Inhabited K] :
    codeAny (model prog w) A (.call (.builtin "set.__init__") ⟨[.ref s.heap.objs.size, .ref l], []⟩)
      (wants (fun r s' => r = .none ∧ ∃ h tk, s' = { s with heap := h, toks := tk } ∧ Left knd kf ks s.heap h) E) { s with heap := s.heap.push (fresh0 w) } := by
  have e0 : (s.heap.push (fresh0 w)).get? s.heap.objs.size = some (fresh0 w) := Heap.get?_push_size _ rfl
  refine codeAny_call_builtin F.called_set.init.plain F.entry_set_init (check_set_init_1 ⟨_, e0, rfl⟩ ?_)
  have lt : l < s.heap.objs.size := by
    obtain ⟨o, e, _⟩ := hl
    exact Heap.lt_size e
  have hl1 : (s.heap.push (fresh0 w)).IsList l items := hl.push _
  have sz : (s.heap.push (fresh0 w)).objs.size = s.heap.objs.size + 1 := Heap.size_push _ _
  obtain ⟨⟨cl, di, da, sl⟩, og, oc, nl, od⟩ := id hl1
  dsimp only at oc od
  cases oc
  cases od
  have q1 := F.sub_list_set
  have q2 := F.sub_list_frozenset
  have q3 : (Value.type "list" == Value.type "dict") = false := rfl
  unfold Builtin.«set.__init__»
  unfold noKeywords
  unfold Builtin.Frozenset.updateFrom
  generalize z : pyIter = it
  wp_walk
  subst z
  refine wpAny_pyIter_list hl1 (wpAny_bind (wpAny_runValue ?_))
  have nI : l ≠ (s.heap.push (fresh0 w)).objs.size := by rw [sz]; exact Nat.ne_of_lt (Nat.lt_succ_of_lt lt)
  refine loop_good (knd := knd) (b := !byText w) (Walks.list (by simp [hh]) _ l nI items) s.heap.objs.size ?_ hkf (fun i => ks.getD i default) (fun i v e => ?_) hb _ 0 _ #[] rfl (Nat.zero_le _)
    ⟨⟨_, Heap.get?_push_size _ rfl, rfl, rfl⟩, hl1.push _⟩ (at_fresh (Heap.get?_push_of_some _ e0)) (keys_none _) fun h tk es keep A1 K1 => ?_
  · rw [sz]
    intro m
    rcases List.mem_cons.mp m with m | m
    · exact Nat.ne_of_lt (Nat.lt_succ_self _) m
    · exact Nat.ne_of_gt lt (List.mem_singleton.mp m)
  · obtain ⟨k, k1, k2⟩ := hv i v e
    have : ks.getD i default = k := by rw [List.getD_eq_getElem?_getD, k1]; rfl
    exact this ▸ k2
  · have ek : (List.range items.size).map (fun i => ks.getD i default) = ks := by
      apply List.ext_getElem?
      intro i
      rw [List.getElem?_map]
      by_cases c : i < items.size
      · rw [List.getElem?_range c, Option.map_some, List.getD_eq_getElem?_getD, List.getElem?_eq_getElem (hn ▸ c)]; rfl
      · rw [List.getElem?_eq_none (by simpa using c), List.getElem?_eq_none (by omega)]; rfl
    rw [ek] at K1
    refine wpAny_pure (wpAny_pure ⟨rfl, h, tk, rfl, ⟨es, A1, K1⟩, fun c o c1 c2 => ?_⟩)
    refine keep c o ?_ (Nat.ne_of_lt c1) (Heap.get?_push_of_some _ (Heap.get?_push_of_some _ c2))
    rw [sz]
    intro m
    exact Nat.ne_of_lt (Nat.lt_succ_of_lt c1) (List.mem_singleton.mp m)
end
end ST
set_option Elab.async false
set_option linter.all false
set_option maxRecDepth 100000
namespace ST
open PySem PySem.Spec PyProof.Rows
section
variable {prog : Program} {w : World} {K : Type} [DecidableEq K] [BEq K] [LawfulBEq K] [Inhabited K] {knd : KeyKind prog w K} {A : Around} {E : Value → Shared → Prop} {s : Shared}
set_option maxHeartbeats 3200000 in
theorem call_setL {l : Addr} {items : Array Value} (hh : A.handled = none) (hl : s.heap.IsList l items) {kf : Value → K} (hkf : ∀ k v, knd.is k v = true → kf v = k) {ks : List K}
    (hv : ∀ (i : Nat) (v : Value), items[i]? = some v → ∃ k, ks[i]? = some k ∧ knd.is k v = true ∧ v.scannable = true) (hn : ks.length = items.size) (hb : items.size + 1 < scanBound) {Q : Value → Shared → Prop}
    (q : ∀ h tk, Left knd kf ks s.heap h → Q (.ref s.heap.objs.size) { s with heap := h, toks := tk }) : wpAny (model prog w) A (call (.type "set") [.ref l]) Q E s := by
  obtain ⟨_, _, m⟩ := F.called_set.mro
  have md := F.called_set.made
  have sb := F.called_set.sub
  have nt := F.called_set.notType
  have cc := F.called_set.canCreate
  have tc := F.typeCall_set_1 (.ref l)
  refine wpAny_call (codeAny_of_tree (show wpAny _ _ (callAny (.type "set") _) _ _ _ from ?_))
  refine wpAny_pure ⟨Code.quiet_builtin _ (by decide +kernel), codeAny_builtin F.entry_type_call ?_⟩
  rw [Around.under_plain (weight_type_call_type "set" _ _) rfl]
  repeat' (first | assumption | wp_step)
  refine codeAny_mono (code_new (.ref l) (E := E) (Q := fun v t => v = .ref s.heap.objs.size ∧ t = { s with heap := s.heap.push (fresh0 w) }) ⟨rfl, rfl⟩) fun r t hr => ?_
  match r, hr with
  | .error e, hr => exact hr
  | .ok (.ret v), hr =>
    obtain ⟨e1, e2⟩ := hr
    subst e1 e2
    have e0 : (s.heap.push (fresh0 w)).get? s.heap.objs.size = some (fresh0 w) := Heap.get?_push_size _ rfl
    have ty : Shared.TypeIs { s with heap := s.heap.push (fresh0 w) } (.ref s.heap.objs.size) "set" := ⟨_, e0, rfl⟩
    have i1 := F.called_set.init.lookup
    have i2 := F.called_set.init.bind (.ref s.heap.objs.size)
    repeat' (first | assumption | wp_step)
    refine codeAny_mono (init_good (knd := knd) (E := E) (by simp [hh]) hl hkf hv hn hb) fun r2 t2 hr2 => ?_
    match r2, hr2 with
    | .error e, hr2 => exact hr2
    | .ok (.ret v2), hr2 =>
      obtain ⟨f1, h, tk, f2, L⟩ := hr2
      subst f1 f2
      repeat' (first | assumption | wp_step)
      exact q h tk L
end
end ST
set_option Elab.async false
set_option linter.all false
set_option maxRecDepth 100000
namespace L2
open PySem PySem.Spec PyProof.Rows

noncomputable def txtOf : Value → Str
  | .str z _ => z
  | _ => default
section
variable {X : Cx} {pins : List (Addr × Obj)} {σ : St} {H : Hp} {s : Shared} {a : Expr} {ta : TA} {p1 p2 p3 pos : Pos}

noncomputable def tLenSet (K : PySem.W.Frag) (ta : TA) : TE := fun σ H Q => ta σ H fun vs H1 => ∃ (l : Addr) (zs : List Str), vs = [.ref l] ∧ SqL K H1 l (zs.map V.str) ∧ zs.length < 64 ∧
  ∀ n : Nat, n ≤ zs.length → (n < zs.length ↔ ¬ zs.Nodup) → Q (.int n) H1
theorem pe_lenSet (hcalm : X.calm = true) (hg1 : Gl X "len") (hm1 : X.mg "len" = none) (hg2 : Gl X "set") (hm2 : X.mg "set" = none) (ha : PA X [a] ta)
    (hs : starEach [a] X.env = [(false, eval a X.env)] := by rfl) (hs1 : starEach [.Call (.Name "set" p2) [a] [] p3] X.env = [(false, eval (.Call (.Name "set" p2) [a] [] p3) X.env)] := by rfl) :
    PE X (.Call (.Name "len" p1) [.Call (.Name "set" p2) [a] [] p3] [] pos) (tLenSet X.K ta) := by
  intro pins s σ H Q I h
  refine Call_ (ld_blt I hg1 hm1 boot_len (PyProof.Rows.callWith_builtin1 ?_ hs1 rfl))
  rw [hs1]
  show wpAny _ _ (spliced ((false, eval (.Call (.Name "set" p2) [a] [] p3) X.env) :: [])) _ _ s
  refine Calls.spliced_cons ?_
  refine Call_ (ld_blt I hg2 hm2 boot_set (PyProof.Rows.callWith_type1 (thn (ha p3 pins s σ H _ I h) fun us s1 z => ?_) hs rfl))
  obtain ⟨vs, H1, I1, r1, l, zs, e, hS, h64, q⟩ := z
  subst e
  cases r1 with
  | cons r rr =>
    cases rr
    cases r
    obtain ⟨its, rv, pl, hz⟩ := I1.list hS
    have il := rv.length
    rw [List.length_map] at il
    have hh := I1.ok.hd hcalm
    refine ST.call_setL (knd := strKind X.prog X.w) (kf := txtOf) (ks := zs) hh pl.isList (fun k v hv => ?_) (fun i v hi => ?_) ?_ ?_ fun h1 tk1 L => Calls.spliced_nil ?_
    · obtain ⟨t, rfl⟩ := Value.isStrOf_shape hv
      rfl
    · have hi' : i < zs.length := by
        rw [il]
        have := (Array.getElem?_eq_some_iff.mp hi).1
        simpa using this
      obtain ⟨u, hu, ⟨t, rt⟩⟩ := rv.get (i := i) (x := .str zs[i]) (by rw [List.getElem?_map, List.getElem?_eq_getElem hi']; rfl)
      have : v = .str zs[i] t := by
        have h1 : its[i]? = some v := by simpa using hi
        rw [hu, rt] at h1
        exact (Option.some.inj h1).symm
      subst this
      exact ⟨_, List.getElem?_eq_getElem hi', strKind_is _ _ _ _, rfl⟩
    · simpa using il
    · rw [List.size_toArray, ← il]
      unfold scanBound
      omega
    · have J1 : Inv X pins σ H1 { s1 with heap := h1, toks := tk1 } := I1.kept fun b o e => L.keep b o (Heap.lt_size e) e
      obtain ⟨⟨es, ⟨⟨o, ep, t, og, ex, od, ft, _⟩, _⟩, K1⟩, _⟩ := L
      have n1 : es.size ≤ zs.length := K1.len
      refine PySem.call_len_set (s := { s1 with heap := h1, toks := tk1 }) og ex od ft (by omega) ⟨.int es.size, H1, J1.tok _, ⟨_, rfl⟩, q _ n1 ?_⟩
      have := len_lt_iff K1.nd K1.mem
      rw [List.length_map, Array.length_toList] at this
      exact this
end
end L2
set_option Elab.async false
set_option linter.all false
set_option maxRecDepth 100000
namespace L2
open PySem PySem.Spec PyProof.Rows PySem.W

section
variable {X : Cx} {pins : List (Addr × Obj)} {σ : St} {H : Hp} {s : Shared} {a : Addr}

end
noncomputable def itemsO (v d : Addr) : HO := .ext fun h => h.IsItemsView v d
section
variable {X : Cx}
end
end L2
set_option Elab.async false
set_option linter.all false
set_option maxRecDepth 100000
namespace L2
open PySem PySem.Spec PyProof.Rows

noncomputable def CalM (P : Program) (w : World) (K : PySem.W.Frag) (mg : Str → Option Value) (base : Heap) (CX : CXT) (k : Nat) (C : Addr) (m : Str) (ps : List Str) (sp : Sp) : Prop :=
  Cls K C ∧ ∃ f fd, Meth K C m f ∧ Binds K fd ps [] ∧ FnOk P w K mg base CX k f fd ps sp
noncomputable def CalN (P : Program) (w : World) (K : PySem.W.Frag) (mg : Str → Option Value) (base : Heap) (CX : CXT) (k : Nat) (x : Str) (C : Addr) (ps : List Str) (sp : Sp) : Prop :=
  mg x = some (.ref C) ∧ ∃ f fd, Mk K C f ∧ Binds K fd ps [] ∧ FnOk P w K mg base CX k f fd ps sp
section
variable {X : Cx} {CX : CXT} {j k : Nat} {C : Addr} {ps : List Str} {sp : Sp} {x m : Str} {p apos pos : Pos} {o e : Expr} {es : List Expr} {ta : TE} {t : TA} {E : XK}
noncomputable def tMt (C : Addr) (m : Str) (sp : Sp) (E : XK) (ta : TE) (t : TA) : TE := fun σ H Q => ta σ H fun x H1 => ∃ a dx fs, x = .ref a ∧ H1 a = some (.ins C dx fs) ∧ fs.lookup m = none ∧ t σ H1 fun vs H2 => sp (x :: vs) H2 Q E
theorem pe_calM {pl : Sem Bool} (M : CalM X.prog X.w X.K X.mg X.base CX k C m ps sp) (hr : Room j X.A) (hj : k ≤ j) (hx : Passes CX X E) (he : PE X o ta) (ha : PA X (e :: es) t)
    (hst : starEach (e :: es) X.env = (false, eval e X.env) :: starEach es X.env := by exact starEach_cons rfl) (hpl : (backTo pos (starEach es X.env)).any (·.1) = false := by exact noStars rfl)
    (ht : eval (.Call (.Attribute o m apos) (e :: es) [] pos) X.env = (do
      let ov ← eval o X.env
      standAt apos.atName
      let (f, first) ← holding [ov] (getMethod ov m pl)
      callWith pos f first (backTo pos (starEach (e :: es) X.env)) (backToKw pos (keywordEach [] X.env))) := by rfl) :
    PE X (.Call (.Attribute o m apos) (e :: es) [] pos) (tMt C m sp E ta t) := by
  obtain ⟨c, f, fd, hm, hb, F⟩ := M
  intro pins s σ H Q I h
  refine pe_meth (dvs := []) he c hm F (hr.mono hj) hb .nil hx ha hst hpl ht pins s σ H Q I ?_
  unfold tMeth
  simp only [List.append_nil]
  exact h
theorem pe_calM0 {pl : Sem Bool} (M : CalM X.prog X.w X.K X.mg X.base CX k C m ps sp) (hr : Room j X.A) (hj : k ≤ j) (hx : Passes CX X E) (he : PE X o ta)
    (ht : eval (.Call (.Attribute o m apos) [] [] pos) X.env = (do
      let ov ← eval o X.env
      standAt apos.atName
      let (f, first) ← holding [ov] (getMethod ov m pl)
      callWith pos f first (backTo pos (starEach [] X.env)) (backToKw pos (keywordEach [] X.env))) := by rfl) :
    PE X (.Call (.Attribute o m apos) [] [] pos) (tMt C m sp E ta tNil) := by
  obtain ⟨c, f, fd, hm, hb, F⟩ := M
  intro pins s σ H Q I h
  refine pe_meth0 (dvs := []) he c hm F (hr.mono hj) hb .nil hx ht pins s σ H Q I ?_
  unfold tMeth
  simp only [List.append_nil]
  exact h
noncomputable def tMk (C : Addr) (sp : Sp) (E : XK) (t : TA) : TE := fun σ H Q => t σ H fun vs H1 => ∀ x dx, H1 x = none → H1 dx = none → dx ≠ x →
  sp (.ref x :: vs) (upd (upd H1 dx (.own x)) x (.ins C dx [])) (fun v H2 => v = .non ∧ Q (.ref x) H2) E
theorem pe_calN0 (M : CalN X.prog X.w X.K X.mg X.base CX k x C ps sp) (hr : Room (j + 1) X.A) (hj : k ≤ j) (hx : Passes CX X E) (hg : Gl X x := by rfl)
    (hdb : (x == ("__debug__" : Str)) = false := by decide) : PE X (.Call (.Name x p) [] [] pos) (tMk C sp E tNil) := by
  obtain ⟨hm, f, fd, M, hb, F⟩ := M
  intro pins s σ H Q I h
  refine pe_make0 (dvs := []) M (F.mono hj) hr hg hm hb .nil hx hdb pins s σ H Q I ?_
  unfold tMake
  simp only [List.append_nil]
  exact h
end

noncomputable def MtAt (K : PySem.W.Frag) (C : Addr) (m qual : Str) (st : Stmt) : Prop := ∃ f fd, Meth K C m f ∧ Fun K m qual st f fd
noncomputable def NwAt (K : PySem.W.Frag) (C : Addr) (qual : Str) (st : Stmt) : Prop := ∃ f fd, Mk K C f ∧ Fun K "__init__" qual st f fd
section
variable {P : Program} {w : World} {K : PySem.W.Frag} {mg : Str → Option Value} {base : Heap} {C : Addr} {x m qual : Str} {st : Stmt} {CX : CXT} {k : Nat} {ps : List Str} {sp : Sp}
theorem MtAt.cal (h : MtAt K C m qual st) (cl : Cls K C)
    (hb : ∀ (kV doc pm : Value) (an : Option Addr) (cdv ct : Value) (us : List Value), us.length = ps.length → bindArgs (PySem.W.fnOf m qual (defArgs st) (defBody st) (defScope st) .none kV doc pm an cdv ct) ⟨us, []⟩ = pure (ps.zip us))
    (ok : ∀ f fd, Fun K m qual st f fd → FnOk P w K mg base CX k f fd ps sp) : CalM P w K mg base CX k C m ps sp := by
  obtain ⟨f, fd, M, F⟩ := h
  exact ⟨cl, f, fd, M, F.binds hb, ok f fd F⟩
theorem NwAt.cal (h : NwAt K C qual st) (hm : mg x = some (.ref C))
    (hb : ∀ (kV doc pm : Value) (an : Option Addr) (cdv ct : Value) (us : List Value), us.length = ps.length → bindArgs (PySem.W.fnOf "__init__" qual (defArgs st) (defBody st) (defScope st) .none kV doc pm an cdv ct) ⟨us, []⟩ = pure (ps.zip us))
    (ok : ∀ f fd, Fun K "__init__" qual st f fd → FnOk P w K mg base CX k f fd ps sp) : CalN P w K mg base CX k x C ps sp := by
  obtain ⟨f, fd, M, F⟩ := h
  exact ⟨hm, f, fd, M, F.binds hb, ok f fd F⟩
end
end L2
set_option Elab.async false
set_option linter.all false
set_option maxRecDepth 100000
namespace Pg
open PySem L2

noncomputable def isL (c : Nat) : Bool := decide (97 ≤ c) && decide (c ≤ 122)
theorem letters_codes : ("abcdefghijklmnopqrstuvwxyz" : Str).cps.toList = List.range' 97 26 := by decide +kernel
theorem isL_mem {c : Nat} : c ∈ List.range' 97 26 ↔ isL c = true := by
  rw [List.mem_range'_1]
  unfold isL
  rw [Bool.and_eq_true, decide_eq_true_iff, decide_eq_true_iff]
  omega
theorem letter_in (c : Nat) : (!(Builtin.Str.occurrences ("abcdefghijklmnopqrstuvwxyz" : Str) ⟨#[c]⟩ 0 ("abcdefghijklmnopqrstuvwxyz" : Str).length 1).isEmpty) = isL c := by
  rw [sign_in, letters_codes, Bool.eq_iff_iff, List.contains_iff_mem, isL_mem]
structure NameOk (z : Str) : Prop where
  lo : 1 ≤ z.length
  hi : z.length ≤ 8
  all : z.cps.toList.all isL = true
noncomputable def sp_word : Sp := fun vs H Q _ => ∃ z, vs = [.str z, .str "abcdefghijklmnopqrstuvwxyz"] ∧ NameOk z ∧ ∀ H', Same H H' → Q (.bl true) H'
noncomputable def sp_name : Sp := fun vs H Q _ => ∃ z, vs = [.str z] ∧ NameOk z ∧ ∀ H', Same H H' → Q (.bl true) H'
noncomputable def sp_due : Sp := fun vs H Q _ => ∃ (t : Addr) (p : Str × Int), vs = [.ref t] ∧ H t = some (.tup (cP p)) ∧ NameOk p.1 ∧ ∀ H', Same H H' → Q (.bl true) H'
noncomputable def sp_dues : Sp := fun vs H Q _ => ∃ (l : Addr) (ts : List V) (prs : List (Str × Int)), vs = [.ref l] ∧ H l = some (.lst ts) ∧ TupsAt H ts (prs.map cP) ∧ prs.length < 64 ∧ (prs.map (·.1)).Nodup ∧ (∀ p ∈ prs, NameOk p.1) ∧ ∀ H', Same H H' → Q .non H'
noncomputable def sp_need0 (m : Int) : Sp := fun vs H Q _ => ∃ z, vs = [.int z] ∧ 0 ≤ z ∧ z ≤ m ∧ Q .non H

structure LdgK (K : PySem.W.Frag) (C : Addr) : Prop where
  cls : Cls K C
  nT : NoAttr K C "totals"
  nM : NoAttr K C "made"
  nC : NoAttr K C "closed"
noncomputable def cM (p : Int × Str × Int) : List V := [.int p.1, .str p.2.1, .int p.2.2]
noncomputable def fsL (t m : Addr) (cl : V) : List (Str × V) := [("totals", .ref t), ("made", .ref m), ("closed", cl)]

structure LedAt (C : Addr) (H : Hp) (L dx t m : Addr) (cl : V) (tot : List (Str × Int)) (mds : List (Int × Str × Int)) : Prop where
  ins : H L = some (.ins C dx (fsL t m cl))
  tot : H t = some (.dK (dOf tot))
  made : ∃ ys, H m = some (.lst ys) ∧ TupsAt H ys (mds.map cM)
theorem LedAt.same {C : Addr} {H H' : Hp} {L dx t m : Addr} {cl : V} {tot : List (Str × Int)} {mds : List (Int × Str × Int)} (l : LedAt C H L dx t m cl tot mds) (s : Same H H') : LedAt C H' L dx t m cl tot mds := by
  obtain ⟨ys, h1, h2⟩ := l.made
  exact ⟨s _ _ l.ins, s _ _ l.tot, ys, s _ _ h1, h2.same s⟩
theorem LedAt.lt {C : Addr} {H : Hp} {L dx t m : Addr} {cl : V} {tot : List (Str × Int)} {mds : List (Int × Str × Int)} (l : LedAt C H L dx t m cl tot mds) : L ≠ t ∧ L ≠ m ∧ t ≠ m := by
  obtain ⟨ys, h1, h2⟩ := l.made
  exact ⟨ne_of l.ins l.tot (by intro z; cases z), ne_of l.ins h1 (by intro z; cases z), ne_of l.tot h1 (by intro z; cases z)⟩
theorem pf1 (t : Addr) : putF "totals" (.ref t) [] = [((("totals" : Str)), V.ref t)] := rfl
theorem pf2 (t m : Addr) : putF "made" (.ref m) [(("totals" : Str), V.ref t)] = [(("totals" : Str), V.ref t), (("made" : Str), V.ref m)] := by
  unfold putF
  rw [if_neg (by decide)]
  rfl
theorem pf3 (t m : Addr) (v : V) : putF "closed" v [(("totals" : Str), V.ref t), (("made" : Str), V.ref m)] = fsL t m v := by
  unfold putF
  rw [if_neg (by decide)]
  unfold putF
  rw [if_neg (by decide)]
  rfl
theorem pf4 (t m : Addr) (v cl : V) : putF "closed" v (fsL t m cl) = fsL t m v := by
  unfold fsL putF
  rw [if_neg (by decide)]
  unfold putF
  rw [if_neg (by decide)]
  unfold putF
  rw [if_pos rfl]
noncomputable def sp_init (C : Addr) : Sp := fun vs H Q _ => ∃ L dx, vs = [.ref L] ∧ H L = some (.ins C dx []) ∧
  ∀ t m H', H t = none → H m = none → LedAt C H' L dx t m .non [] [] → (∀ b o, H b = some o → b ≠ L → H' b = some o) → Q .non H'
noncomputable def sp_later (C : Addr) : Sp := fun vs H Q _ => ∃ L dx t m cl mo, vs = [.ref L, .int mo] ∧ H L = some (.ins C dx (fsL t m cl)) ∧ 0 ≤ mo ∧ mo ≤ 119999 ∧ (cl = .non ∨ ∃ c, cl = .int c ∧ c < mo) ∧ Q .non H
noncomputable def sp_paid (C : Addr) : Sp := fun vs H Q _ => ∃ L dx t m cl tot z, vs = [.ref L, .str z] ∧ H L = some (.ins C dx (fsL t m cl)) ∧ H t = some (.dK (dOf tot)) ∧ Q (.int (getT tot z)) H
noncomputable def sp_owed (C : Addr) : Sp := fun vs H Q _ => ∃ L dx t m cl tot z d, vs = [.ref L, .str z, .int d] ∧ H L = some (.ins C dx (fsL t m cl)) ∧ H t = some (.dK (dOf tot)) ∧ Q (.int (d - getT tot z)) H
noncomputable def sp_payments (C : Addr) : Sp := fun vs H Q _ => ∃ L dx t m cl ys, vs = [.ref L] ∧ H L = some (.ins C dx (fsL t m cl)) ∧ H m = some (.lst ys) ∧ New H (.lst ys) Q

noncomputable def duesOf (tot qs : List (Str × Int)) : List (Str × Int) := (qs.map fun p => (p.1, p.2 - getT tot p.1)).filter fun p => decide (0 < p.2)
noncomputable def settle (tot ps : List (Str × Int)) : List (Str × Int) := ps.foldl (fun t p => putT t p.1 (getT t p.1 + p.2)) tot
noncomputable def sp_close (C : Addr) : Sp := fun vs H Q _ => ∃ (L dx t m : Addr) (cl : V) (tot : List (Str × Int)) (mds : List (Int × Str × Int)) (mo : Int) (l : Addr) (ts : List V) (prs : List (Str × Int)), vs = [.ref L, .int mo, .ref l] ∧ LedAt C H L dx t m cl tot mds ∧ 0 ≤ mo ∧ mo ≤ 119999 ∧ (cl = .non ∨ ∃ c, cl = .int c ∧ c < mo) ∧
  H l = some (.lst ts) ∧ TupsAt H ts (prs.map cP) ∧ prs.length < 64 ∧ (prs.map (·.1)).Nodup ∧ (∀ p ∈ prs, NameOk p.1) ∧ mds.length ≤ 1000 ∧ tot.length ≤ 1000 ∧
  ∀ (qs : List (Str × Int)) (r : Addr) (ys : List V) (H' : Hp), qs.Perm prs → qs.Pairwise (fun a b => ¬ b.1.cps.toList < a.1.cps.toList) → LedAt C H' L dx t m (.int mo) (settle tot (duesOf tot qs)) (mds ++ (duesOf tot qs).map fun p => (mo, p)) →
    (∀ b o, H b = some o → b ≠ L → b ≠ t → b ≠ m → H' b = some o) → H r = none → H' r = some (.lst ys) → TupsAt H' ys ((duesOf tot qs).map cP) → Q (.ref r) H'
theorem settle_cons (tot : List (Str × Int)) (p : Str × Int) (ps : List (Str × Int)) : settle tot (p :: ps) = settle (putT tot p.1 (getT tot p.1 + p.2)) ps := rfl
theorem settle_app (tot ps qs : List (Str × Int)) : settle tot (ps ++ qs) = settle (settle tot ps) qs := List.foldl_append
theorem settle_snoc (tot ps : List (Str × Int)) (p : Str × Int) : settle tot (ps ++ [p]) = putT (settle tot ps) p.1 (getT (settle tot ps) p.1 + p.2) := by
  rw [settle_app]
  rfl
theorem settle_len (tot ps : List (Str × Int)) : (settle tot ps).length ≤ tot.length + ps.length := by
  induction ps generalizing tot with
  | nil => exact Nat.le_refl _
  | cons p r ih =>
    rw [settle_cons, List.length_cons]
    have := ih (putT tot p.1 (getT tot p.1 + p.2))
    have := len_putT tot p.1 (getT tot p.1 + p.2)
    omega
theorem settle_get (tot : List (Str × Int)) {ps : List (Str × Int)} (nd : (ps.map (·.1)).Nodup) (z : Str) : getT (settle tot ps) z = getT tot z + getT ps z := by
  induction ps generalizing tot with
  | nil =>
    show getT tot z = getT tot z + 0
    omega
  | cons p r ih =>
    have nd : (p.1 :: r.map (·.1)).Nodup := nd
    obtain ⟨n1, n2⟩ := List.nodup_cons.mp nd
    rw [settle_cons, ih _ n2, getT_put]
    by_cases e : z = p.1
    · rw [if_pos e]
      have e1 : getT r z = 0 := by
        unfold getT
        rw [getO_none (by rw [e]; exact n1)]
        rfl
      have e2 : getT (p :: r) z = p.2 := by
        unfold getT getO
        rw [List.find?_cons, decide_eq_true e.symm]
        rfl
      rw [e1, e2, e]
      omega
    · rw [if_neg e]
      have e2 : getT (p :: r) z = getT r z := by
        unfold getT getO
        rw [List.find?_cons, decide_eq_false fun c => e c.symm]
      rw [e2]
theorem dues_sub (tot qs : List (Str × Int)) : ((duesOf tot qs).map (·.1)).Sublist (qs.map (·.1)) := by
  unfold duesOf
  have h := (List.filter_sublist (p := fun p : Str × Int => decide (0 < p.2)) (l := qs.map fun p => (p.1, p.2 - getT tot p.1))).map (·.1)
  rw [List.map_map] at h
  exact h
theorem dues_nodup {tot qs : List (Str × Int)} (nd : (qs.map (·.1)).Nodup) : ((duesOf tot qs).map (·.1)).Nodup := nd.sublist (dues_sub tot qs)
theorem dues_len (tot qs : List (Str × Int)) : (duesOf tot qs).length ≤ qs.length := by
  unfold duesOf
  refine Nat.le_trans (List.length_filter_le _ _) ?_
  rw [List.length_map]
  exact Nat.le_refl _
theorem dues_get (tot : List (Str × Int)) {qs : List (Str × Int)} (nd : (qs.map (·.1)).Nodup) (z : Str) : getT (duesOf tot qs) z = match getO qs z with | some a => if getT tot z < a then a - getT tot z else 0 | none => 0 := by
  cases e : getO qs z with
  | none =>
    have : ¬ z ∈ (duesOf tot qs).map (·.1) := fun m => by
      obtain ⟨p, hp, rfl⟩ := List.mem_map.mp ((dues_sub tot qs).subset m)
      rw [getO_mem nd hp] at e
      cases e
    unfold getT
    rw [getO_none this]
    rfl
  | some a =>
    have m := getO_in e
    show _ = if getT tot z < a then a - getT tot z else 0
    by_cases c : getT tot z < a
    · rw [if_pos c]
      have m2 : (z, a - getT tot z) ∈ duesOf tot qs := List.mem_filter.mpr ⟨List.mem_map.mpr ⟨(z, a), m, rfl⟩, decide_eq_true (by show 0 < a - getT tot z; omega)⟩
      have := getO_mem (dues_nodup (tot := tot) nd) m2
      unfold getT
      rw [this]
      rfl
    · rw [if_neg c]
      have : ¬ z ∈ (duesOf tot qs).map (·.1) := fun h => by
        obtain ⟨p, hp, e2⟩ := List.mem_map.mp h
        obtain ⟨h1, h2⟩ := List.mem_filter.mp hp
        obtain ⟨q, hq, rfl⟩ := List.mem_map.mp h1
        have e2 : q.1 = z := e2
        have h2 : 0 < q.2 - getT tot q.1 := of_decide_eq_true h2
        have := getO_mem nd hq
        rw [e2, e] at this
        have := Option.some.inj this
        rw [e2] at h2
        omega
      unfold getT
      rw [getO_none this]
      rfl
theorem getO_perm {qs prs : List (Str × Int)} (pm : qs.Perm prs) (nd : (prs.map (·.1)).Nodup) (z : Str) : getO qs z = getO prs z := by
  have nq : (qs.map (·.1)).Nodup := (pm.map _).nodup_iff.mpr nd
  cases e : getO prs z with
  | some v => exact getO_mem nq (pm.mem_iff.mpr (getO_in e))
  | none =>
    cases e2 : getO qs z with
    | none => rfl
    | some v =>
      have := getO_mem nd (pm.mem_iff.mp (getO_in e2))
      have e3 : getO prs z = some v := this
      rw [e] at e3
      cases e3

theorem settled_get (tot : List (Str × Int)) {qs prs : List (Str × Int)} (pm : qs.Perm prs) (nd : (prs.map (·.1)).Nodup) (z : Str) : getT (settle tot (duesOf tot qs)) z = match getO prs z with | some a => if getT tot z < a then a else getT tot z | none => getT tot z := by
  have nq : (qs.map (·.1)).Nodup := (pm.map _).nodup_iff.mpr nd
  rw [settle_get tot (dues_nodup nq), dues_get tot nq, getO_perm pm nd]
  cases getO prs z with
  | none => exact Int.add_zero _
  | some a =>
    show getT tot z + (if getT tot z < a then a - getT tot z else 0) = if getT tot z < a then a else getT tot z
    split <;> omega

noncomputable def mixN (c k : Int) : Int := (c % 1000003 * (k * k + 48271) + c / 1000003 + 7919 * k + 11) % 1000003
noncomputable def mixC (c k : Int) : Int := mixN c k * mixN c k % 1000003 * (mixN c k + 2 * k + 1) % 1000003
theorem mixN_nn (c k : Int) : 0 ≤ mixN c k := Int.emod_nonneg _ (by decide)
theorem mixN_lt (c k : Int) : mixN c k < 1000003 := Int.emod_lt_of_pos _ (by decide)
theorem mixC_nn (c k : Int) : 0 ≤ mixC c k := Int.emod_nonneg _ (by decide)
noncomputable def sp_mixC : Sp := fun vs H Q _ => ∃ c k, vs = [.int c, .int k] ∧ 0 ≤ k ∧ k ≤ 1000 ∧ Q (.int (mixC c k)) H
noncomputable def sp_names : Sp := fun vs H Q _ => ∃ (c : Int) (n : Nat), vs = [.int c, .int n] ∧ 1 ≤ n ∧ n ≤ 8 ∧ ∀ nms : List Str, nms.length = n → nms.Nodup → (∀ z ∈ nms, NameOk z) → New H (.lst (nms.map V.str)) Q
noncomputable def ones (cs : List Nat) : List V := cs.map sgn
noncomputable def constL : List Str := ["ann", "bo", "cyd", "annx", "b", "dd", "eve", "f"]
noncomputable def nameB (z : Str) : Bool := decide (1 ≤ z.length) && decide (z.length ≤ 8) && z.cps.toList.all isL
theorem nameB_ok {z : Str} (h : nameB z = true) : NameOk z := by
  unfold nameB at h
  rw [Bool.and_eq_true, Bool.and_eq_true] at h
  exact ⟨of_decide_eq_true h.1.1, of_decide_eq_true h.1.2, h.2⟩
end Pg
namespace Pg
open PySem L2

noncomputable def metOf (mds : List (Int × Str × Int)) : List (List Key × V) := mds.map fun p => ([Sum.inl p.1, Sum.inr p.2.1], V.bl true)
noncomputable def keyM (p : Int × Str × Int) : Int × Str := (p.1, p.2.1)
noncomputable def sp_right (C : Addr) : Sp := fun vs H Q _ => ∃ (L dx t m : Addr) (cl : V) (tot : List (Str × Int)) (mds : List (Int × Str × Int)) (nl : Addr) (nms : List Str) (md : Addr) (most : List (Str × Int)) (tl : Addr) (told : List (Str × Int)) (cell : Int), vs = [.ref L, .ref nl, .ref md, .ref tl, .int cell] ∧ LedAt C H L dx t m cl tot mds ∧ H nl = some (.lst (nms.map V.str)) ∧ nms.length ≤ 8 ∧ (∀ z ∈ nms, NameOk z) ∧
  H md = some (.dK (dOf most)) ∧ H tl = some (.dK (dOf told)) ∧ (∀ p ∈ mds, 0 < p.2.2) ∧ (mds.map keyM).Nodup ∧ mds.length ≤ 1000 ∧
  (∀ z, getT (settle [] (mds.map (·.2))) z = getT tot z) ∧ (∀ z, getT tot z = getT most z) ∧ (∀ z v, getO told z = some v → v ≤ getT tot z) ∧ ∀ H', Same H H' → Q (.bl true) H'
end Pg
set_option Elab.async false
set_option linter.all false
set_option maxRecDepth 100000
set_option maxHeartbeats 4000000
namespace K24
open PySem PySem.NumText L2 Pg
seal PE PA PT PW PS PSs PG PGs PI PIf PO PK
section
variable {P : Program} {w : World} {K : PySem.W.Frag} {mg : Str → Option Value} {base : Heap} {f : Addr} {fd : FuncData} {d : Nat → Addr} {cR : Addr}
theorem ok_need_month0 (F : Fun K "need_month" "need_month" (top 27) f fd) (N1 : Num mg "LAST_MONTH" 119999) (C1 : Cal P w K mg base CX0 2 "is_number_within" ["thing", "least", "most"] (sp_within K)) : FnOk P w K mg base CX0 3 f fd ["thing"] (sp_need0 119999) := by
  obtain ⟨tm, hm⟩ := N1
  refine F.ok (N := ["thing"]) ⟨rfl, rfl, rfl, by decide +kernel, rfl, by decide +kernel, by decide +kernel⟩ (fun vs H Q E h => ?_) (fun cdv A outer s H vs Q E hr h => ?_)
  · obtain ⟨v, rfl, _⟩ := h
    rfl
  · obtain ⟨z, rfl, h0, h1, q⟩ := h
    refine ⟨_, pss_one (ps_if (pt_not (pt_val (pe_cal C1 hr (by decide) pass0 (pa_cons (pv 0) (pa_cons pe_int (pa_cons (pe_glob (v := .int 119999) rfl hm ⟨_, rfl⟩) pa_nil)))))) pss_never pss_nil), ?_⟩
    refine ⟨_, rfl, _, _, _, rfl, .inl ⟨z, rfl, _, rfl, ?_⟩⟩
    rw [decide_eq_true (show (0 : Int) ≤ z ∧ z ≤ 119999 from ⟨h0, h1⟩)]
    exact iteF q
end
end K24
set_option Elab.async false
set_option linter.all false
set_option maxRecDepth 100000
set_option maxHeartbeats 4000000
namespace K24
open PySem PySem.NumText L2 Pg
seal PE PA PT PW PS PSs PG PGs PI PIf PO PK
section
variable {P : Program} {w : World} {K : PySem.W.Frag} {mg : Str → Option Value} {base : Heap} {f : Addr} {fd : FuncData} {d : Nat → Addr} {cR : Addr}
theorem ok_need_month {cM : Addr} (F : Fun K "need_month" "need_month" (top 27) f fd) (X : Er K mg "BadMonth" cM) (N1 : Num mg "LAST_MONTH" 119999) (C1 : Cal P w K mg base CX0 2 "is_number_within" ["thing", "least", "most"] (sp_within K)) : FnOk P w K mg base (CXE P w) 3 f fd ["thing"] (sp_need K cM 119999) := by
  obtain ⟨tm, hm⟩ := N1
  refine F.okE (N := ["thing"]) ⟨rfl, rfl, rfl, by decide +kernel, rfl, by decide +kernel, by decide +kernel⟩ (fun vs H Q E h => ?_) (fun cdv A outer s H vs Q E hr h => ?_)
  · obtain ⟨v, rfl, _⟩ := h
    rfl
  · obtain ⟨v, rfl, h⟩ := h
    refine ⟨_, pss_one (ps_if (pt_not (pt_val (pe_cal C1 hr (by decide) pass0 (pa_cons (pv 0) (pa_cons pe_int (pa_cons (pe_glob (v := .int 119999) rfl hm ⟨_, rfl⟩) pa_nil)))))) (pss_one (ps_raise throws_fn rfl rfl X.at' X.ex (pa_cons pe_str pa_nil))) pss_nil), ?_⟩
    rcases h with ⟨z, rfl, h0, h1, q⟩ | ⟨nn | ⟨z, rfl, h0⟩, q⟩
    · refine ⟨_, rfl, _, _, _, rfl, .inl ⟨z, rfl, _, rfl, ?_⟩⟩
      rw [decide_eq_true (show (0 : Int) ≤ z ∧ z ≤ 119999 from ⟨h0, h1⟩)]
      exact iteF q
    · exact ⟨_, rfl, _, _, _, rfl, .inr ⟨nn, false, rfl, iteT ⟨by decide, q⟩⟩⟩
    · refine ⟨_, rfl, _, _, _, rfl, .inl ⟨z, rfl, _, rfl, ?_⟩⟩
      rw [decide_eq_false h0]
      exact iteT ⟨by decide, q⟩
end
end K24
set_option Elab.async false
set_option linter.all false
set_option maxRecDepth 100000
set_option maxHeartbeats 4000000
namespace K24
open PySem PySem.NumText L2 Pg
seal PE PA PT PW PS PSs PG PGs PI PIf PO PK
section
variable {P : Program} {w : World} {K : PySem.W.Frag} {mg : Str → Option Value} {base : Heap} {f : Addr} {fd : FuncData} {d : Nat → Addr} {cR : Addr}
theorem ok_word (F : Fun K "is_word_of" "is_word_of" (top 23) f fd) (G : Glb mg) (N1 : Num mg "MOST_SIGNS" 8) : FnOk P w K mg base CX0 1 f fd ["thing", "signs"] sp_word := by
  obtain ⟨tm, hm⟩ := N1
  have nc : (["sign", "signs"] : List Str).Nodup := by decide +kernel
  refine F.ok (N := ["thing", "signs"]) ⟨rfl, rfl, rfl, by decide +kernel, rfl, by decide +kernel, by decide +kernel⟩ (fun vs H Q E h => ?_) (fun cdv A outer s H vs Q E hr h => ?_)
  · obtain ⟨z, rfl, _⟩ := h
    rfl
  · obtain ⟨z, rfl, hz, q⟩ := h
    have l1 := hz.lo
    have l8 := hz.hi
    have fit : z.length ≤ sizeLine := fitS l8 rfl
    refine' ⟨_, (pss_cons (ps_if (pt_not (pt_val (pe_callB call_isinst rfl G.isinstance boot_isinstance (pa_cons (pv 0) (pa_cons (pe_bltn (v := .ty "str") rfl G.str boot_str rfl) pa_nil))))) (pss_one (ps_ret pe_bl)) pss_nil)
        (pss_cons (ps_if (PW.pt (pw_or (pt_cmpR op_lt (pe_callB call_len_str rfl G.len boot_len (pa_cons (pv 0) pa_nil)) pe_int (nomark _)) (pw_or1 (pt_cmpR op_gt (pe_callB call_len_str rfl G.len boot_len (pa_cons (pv 0) pa_nil)) (pe_glob (v := .int 8) rfl hm ⟨_, rfl⟩) (nomark _))))) (pss_one (ps_ret pe_bl)) pss_nil)
        (pss_one (ps_ret (pe_callB (call_allL rfl) rfl G.all boot_all (pa_cons ?comp pa_nil)))))), ?main⟩
    case comp =>
      refine' pe_compI (Nc := ["sign", "signs"]) (cl := [("signs", s.heap.objs.size + 1)]) (src := [none, some 1]) (wi := iStr (tVar 0)) (g := gName 0) (tt := tNoIf) (te := tOp (fun x y H Q => ∃ i j, x = .str i ∧ y = .str j ∧ Q (.bl (!(Builtin.Str.occurrences j i 0 j.length 1).isEmpty)) H) (tVar 0) (tVar 1)) ⟨rfl, rfl, by decide +kernel, by decide +kernel, sub_of (sub1 rfl), has_of (by rfl), frm_none (frm_some ⟨_, rfl, rfl, rfl, rfl⟩ frm_nil), rfl⟩ rfl (pi_str (pv 0)) ?hb
      case hb =>
        intro fp C' s' H'
        exact ⟨pg_name (i := 0) nc rfl (Or.inl rfl), pif_nil, pe_cmpR op_in_str (pv 0) (pv 1) (by rfl)⟩
    refine ⟨_, rfl, _, _, _, _, true, rfl, rfl, .inl (.str z), rfl, true, rfl, iteF ?_⟩
    refine ⟨_, rfl, z, rfl, fit, _, _, rfl, rfl, _, rfl, ite2 (fun e => absurd (of_decide_eq_true e) (by omega)) (fun _ => ⟨_, rfl, z, rfl, fit, _, _, rfl, rfl, _, rfl, ite2 (fun e => absurd (of_decide_eq_true e) (by omega)) (fun _ => ?_)⟩)⟩
    refine ⟨_, rfl, z, rfl, fun D hD => ?_⟩
    refine comp_fm (walk_str (z := z)) hD (by rw [List.length_map, ← len_codes, sizeLine_eq]; omega) (fun _ => true) (fun x => match x with | .str y => .bl (isL (y.cps.getD 0 0)) | v => v) (fun x _ H' R _ r => r) (fun x hx _ H' R _ r => ?_) ?_
    · obtain ⟨c, _, rfl⟩ := List.mem_map.mp hx
      refine ⟨_, rfl, _, rfl, _, _, rfl, rfl, ?_⟩
      rw [letter_in]
      exact r
    · rw [List.filter_eq_self.mpr fun _ _ => rfl, List.map_map]
      refine ⟨D, z.cps.toList.map isL, rfl, SqL.of (by rw [List.map_map]; exact upd_same), ?_⟩
      have e2 : (z.cps.toList.map isL).all id = true := by
        rw [List.all_map]
        exact hz.all
      rw [e2]
      exact q _ (Same.upd hD)
end
end K24
set_option Elab.async false
set_option linter.all false
set_option maxRecDepth 100000
set_option maxHeartbeats 4000000
namespace K24
open PySem PySem.NumText L2 Pg
seal PE PA PT PW PS PSs PG PGs PI PIf PO PK
section
variable {P : Program} {w : World} {K : PySem.W.Frag} {mg : Str → Option Value} {base : Heap} {f : Addr} {fd : FuncData} {d : Nat → Addr} {cR : Addr}
theorem ok_name (F : Fun K "is_name" "is_name" (top 24) f fd) (N1 : Txt mg "LETTERS" "abcdefghijklmnopqrstuvwxyz") (C1 : Cal P w K mg base CX0 1 "is_word_of" ["thing", "signs"] sp_word) : FnOk P w K mg base CX0 2 f fd ["thing"] sp_name := by
  obtain ⟨tm, hm⟩ := N1
  refine F.ok (N := ["thing"]) ⟨rfl, rfl, rfl, by decide +kernel, rfl, by decide +kernel, by decide +kernel⟩ (fun vs H Q E h => ?_) (fun cdv A outer s H vs Q E hr h => ?_)
  · obtain ⟨z, rfl, _⟩ := h
    rfl
  · obtain ⟨z, rfl, hz, q⟩ := h
    exact ⟨_, pss_one (ps_ret (pe_cal C1 hr (by decide) pass0 (pa_cons (pv 0) (pa_cons (pe_glob (v := .str "abcdefghijklmnopqrstuvwxyz") rfl hm ⟨_, rfl⟩) pa_nil)))), _, rfl, z, rfl, hz, q⟩
end
end K24
set_option Elab.async false
set_option linter.all false
set_option maxRecDepth 100000
set_option maxHeartbeats 4000000
namespace K24
open PySem PySem.NumText L2 Pg
seal PE PA PT PW PS PSs PG PGs PI PIf PO PK
section
variable {P : Program} {w : World} {K : PySem.W.Frag} {mg : Str → Option Value} {base : Heap} {f : Addr} {fd : FuncData} {d : Nat → Addr} {cR : Addr}
theorem ok_due (F : Fun K "is_due" "is_due" (top 29) f fd) (G : Glb mg) (C1 : Cal P w K mg base CX0 1 "is_number" ["thing"] (sp_is_number K)) (C2 : Cal P w K mg base CX0 2 "is_name" ["thing"] sp_name) : FnOk P w K mg base CX0 3 f fd ["thing"] sp_due := by
  refine F.ok (N := ["thing"]) ⟨rfl, rfl, rfl, by decide +kernel, rfl, by decide +kernel, by decide +kernel⟩ (fun vs H Q E h => ?_) (fun cdv A outer s H vs Q E hr h => ?_)
  · obtain ⟨t, p, rfl, _⟩ := h
    rfl
  · obtain ⟨t, p, rfl, ht, hp, q⟩ := h
    refine ⟨_, (pss_cons (ps_if (PW.pt (pw_or (pt_not (pt_val (pe_callB call_isinst rfl G.isinstance boot_isinstance (pa_cons (pv 0) (pa_cons (pe_bltn (v := .ty "tuple") rfl G.tuple boot_tuple rfl) pa_nil))))) (pw_or1 (pt_cmpR op_ne (pe_callB call_len_seq rfl G.len boot_len (pa_cons (pv 0) pa_nil)) pe_int (nomark _))))) (pss_one (ps_ret pe_bl)) pss_nil)
        (pss_one (ps_ret (pe_and (pe_cal C2 hr (by decide) pass0 (pa_cons (pe_at ix_tup (pv 0) pe_int) pa_nil)) (pe_one (pe_cal C1 hr (by decide) pass0 (pa_cons (pe_at ix_tup (pv 0) pe_int) pa_nil))))))), ?_⟩
    refine ⟨_, rfl, _, _, _, _, true, rfl, rfl, .inl (.tup ht), rfl, true, rfl, iteF ?_⟩
    refine ⟨_, rfl, t, _, rfl, .inr (SqT.of ht), rfl, _, rfl, iteNS rfl ?_⟩
    refine ⟨_, rfl, t, _, 0, _, rfl, rfl, SqT.of ht, rfl, p.1, rfl, hp, fun H' s' => ⟨true, rfl, iteT ?_⟩⟩
    exact ⟨_, rfl, t, _, 1, _, rfl, rfl, SqT.of (s' _ _ ht), rfl, _, rfl, .inl ⟨p.2, rfl, q H' s'⟩⟩
end
end K24
set_option Elab.async false
set_option linter.all false
set_option maxRecDepth 100000
set_option maxHeartbeats 4000000
namespace K24
open PySem PySem.NumText L2 Pg
seal PE PA PT PW PS PSs PG PGs PI PIf PO PK
section
variable {P : Program} {w : World} {K : PySem.W.Frag} {mg : Str → Option Value} {base : Heap} {f : Addr} {fd : FuncData} {d : Nat → Addr} {cR : Addr}
theorem ok_dues (F : Fun K "need_dues" "need_dues" (top 30) f fd) (G : Glb mg) (C1 : Cal P w K mg base CX0 3 "is_due" ["thing"] sp_due) : FnOk P w K mg base CX0 4 f fd ["thing"] sp_dues := by
  have nc : (["pair"] : List Str).Nodup := by decide +kernel
  refine F.ok (N := ["thing"]) ⟨rfl, rfl, rfl, by decide +kernel, rfl, by decide +kernel, by decide +kernel⟩ (fun vs H Q E h => ?_) (fun cdv A outer s H vs Q E hr h => ?_)
  · obtain ⟨l, ts, prs, rfl, _⟩ := h
    rfl
  · obtain ⟨l, ts, prs, rfl, hl, T, l64, nd, ok, q⟩ := h
    have tl : ts.length = prs.length := by rw [T.len, List.length_map]
    refine' ⟨_, (pss_cons (ps_if (PW.pt (pw_or (pt_not (pt_val (pe_callB call_isinst rfl G.isinstance boot_isinstance (pa_cons (pv 0) (pa_cons (pe_bltn (v := .ty "list") rfl G.list boot_list rfl) pa_nil))))) (pw_or1 (pt_not (pt_val (pe_callB (call_allL rfl) rfl G.all boot_all (pa_cons ?comp_2 pa_nil))))))) pss_never pss_nil)
        (pss_one (ps_if (pt_cmpR op_lt (pe_lenSet rfl rfl G.len rfl G.set (pa_cons ?comp_1 pa_nil)) (pe_callB call_len_seq rfl G.len boot_len (pa_cons (pv 0) pa_nil)) (nomark _)) pss_never pss_nil))), ?main⟩
    case comp_2 =>
      refine' pe_compI (Nc := ["pair"]) (cl := []) (src := [none]) (wi := iList K (tVar 0)) (g := gName 0) (tt := tNoIf) (te := fun σ H Q => tCons (tVar 0) tNil σ H fun vs H1 => sp_due vs H1 Q E0) ⟨rfl, rfl, by decide +kernel, by decide +kernel, (fun x c z => nomatch z), has_of (by rfl), frm_none frm_nil, rfl⟩ rfl (pi_list (pv 0)) ?hb
      case hb =>
        intro fp C' s' H'
        exact ⟨pg_name (i := 0) nc rfl (Or.inl rfl), pif_nil, pe_cal C1 hr (by decide) pass0 (pa_cons (pv 0) pa_nil)⟩
    case comp_1 =>
      refine' pe_compI (Nc := ["pair"]) (cl := []) (src := [none]) (wi := iList K (tVar 0)) (g := gName 0) (tt := tNoIf) (te := tOp (rIxT K) (tVar 0) (tC (.int 0))) ⟨rfl, rfl, by decide +kernel, by decide +kernel, (fun x c z => nomatch z), has_of (by rfl), frm_none frm_nil, rfl⟩ rfl (pi_list (pv 0)) ?hb
      case hb =>
        intro fp C' s' H'
        exact ⟨pg_name (i := 0) nc rfl (Or.inl rfl), pif_nil, pe_at ix_tup (pv 0) pe_int⟩
    have fit : ts.length < sizeLine := by rw [tl, sizeLine_eq]; omega
    refine ⟨_, rfl, _, _, _, _, true, rfl, rfl, .inl (.lst hl), rfl, true, rfl, iteF ?_⟩
    refine ⟨_, rfl, l, rfl, ⟨_, SqL.of hl⟩, fun D hD => comp_fmS (walk_list (K := K) (SqL.of hl)) hD fit (fun _ => true) (fun _ => .bl true) (fun x _ H' R _ r => r _ (Same.refl _)) (fun x hx _ H' R s' r => ?_) (fun H1 s1 e1 => ?_)⟩
    · obtain ⟨i, hi⟩ := List.mem_iff_getElem?.mp hx
      obtain ⟨a, c, rfl, h1, h2⟩ := T.of_at hi
      rw [List.getElem?_map] at h1
      obtain ⟨p, hp, rfl⟩ := Option.map_eq_some_iff.mp h1
      exact ⟨_, rfl, a, p, rfl, s' _ _ h2, ok p (List.mem_of_getElem? hp), r⟩
    · rw [List.filter_eq_self.mpr fun _ _ => rfl] at e1
      have e3 : (ts.filter fun _ => true).map (fun _ => V.bl true) = (ts.map fun _ => true).map V.bl := by
        rw [List.filter_eq_self.mpr fun _ _ => rfl, List.map_map]
        rfl
      refine ⟨D, ts.map fun _ => true, rfl, SqL.of (by rw [List.map_map]; exact e1), true, ?_, iteF ?_⟩
      · exact congrArg V.bl (by rw [List.all_map]; exact List.all_eq_true.mpr fun _ _ => rfl)
      have hl1 := s1 _ _ hl
      have T1 := T.same s1
      obtain ⟨φ, hφ⟩ : ∃ φ : V → V, ∀ a p, H1 a = some (.tup (cP p)) → φ (.ref a) = .str p.1 := by
        refine ⟨fun x => match x with | .ref a => (match H1 a with | some (.tup (v :: _)) => v | _ => .non) | v => v, fun a p h => ?_⟩
        show (match H1 a with | some (.tup (v :: _)) => v | _ => V.non) = _
        rw [h]
        rfl
      have eφ : (ts.filter fun _ => true).map φ = (prs.map (·.1)).map V.str := by
        rw [List.filter_eq_self.mpr fun _ _ => rfl]
        apply List.ext_getElem?
        intro i
        rw [List.getElem?_map, List.getElem?_map, List.getElem?_map]
        by_cases hi : i < prs.length
        · have hp := List.getElem?_eq_getElem hi
          obtain ⟨a, h1, h2⟩ := T1.at_ i _ (by rw [List.getElem?_map, hp]; rfl)
          rw [h1, hp, Option.map_some, hφ a _ h2]
          rfl
        · rw [List.getElem?_eq_none (by omega), List.getElem?_eq_none (by omega)]
          rfl
      refine ⟨_, rfl, l, rfl, ⟨_, SqL.of hl1⟩, fun D2 hD2 => comp_fm (walk_list (K := K) (SqL.of hl1)) hD2 fit (fun _ => true) φ (fun x _ H' R _ r => r) (fun x hx _ H' R s' r => ?_) ?_⟩
      · obtain ⟨i, hi⟩ := List.mem_iff_getElem?.mp hx
        obtain ⟨a, c, rfl, h1, h2⟩ := T1.of_at hi
        rw [List.getElem?_map] at h1
        obtain ⟨p, hp, rfl⟩ := Option.map_eq_some_iff.mp h1
        rw [hφ a p h2] at r
        exact ⟨_, rfl, a, _, 0, _, rfl, rfl, SqT.of (s' _ _ h2), rfl, r⟩
      · rw [eφ]
        refine ⟨D2, prs.map (·.1), rfl, SqL.of upd_same, by rw [List.length_map]; omega, fun n n1 n2 => ?_⟩
        refine ⟨_, rfl, l, ts, rfl, .inl (SqL.of (Same.upd hD2 _ _ hl1)), _, _, rfl, rfl, _, rfl, ite2 (fun e => ?_) (fun _ => q _ (s1.trans (Same.upd hD2)))⟩
        have e := of_decide_eq_true e
        exact absurd nd (n2.mp (by rw [List.length_map]; omega))
end
end K24
set_option Elab.async false
set_option linter.all false
set_option maxRecDepth 100000
set_option maxHeartbeats 4000000
namespace K24
open PySem PySem.NumText L2 Pg
seal PE PA PT PW PS PSs PG PGs PI PIf PO PK
section
variable {P : Program} {w : World} {K : PySem.W.Frag} {mg : Str → Option Value} {base : Heap} {f : Addr} {fd : FuncData} {d : Nat → Addr} {cR : Addr}
theorem ok_init {C : Addr} (F : Fun K "__init__" "Ledger.__init__" (inClass (top 31) 0) f fd) (LK : LdgK K C) : FnOk P w K mg base CX0 1 f fd ["self"] (sp_init C) := by
  refine F.ok (N := ["self"]) ⟨rfl, rfl, rfl, by decide +kernel, rfl, by decide +kernel, by decide +kernel⟩ (fun vs H Q E h => ?_) (fun cdv A outer s H vs Q E hr h => ?_)
  · obtain ⟨L, dx, rfl, _⟩ := h
    rfl
  · obtain ⟨L, dx, rfl, hL, q⟩ := h
    refine ⟨_, pss_cons (ps_fld (pv 0) pe_dnewS rfl) (pss_cons (ps_fld (pv 0) (pe_lstS pa_nil) rfl) (pss_one (ps_fld (pv 0) pe_non rfl))), ?_⟩
    refine fun t H1 s1 n1 e1 => ⟨_, rfl, L, C, dx, [], rfl, s1 _ _ hL, LK.cls, LK.nT, by decide, ?_⟩
    rw [pf1]
    refine ⟨lenOk rfl, fun m H2 s2 n2 e2 => ⟨_, rfl, L, C, dx, _, rfl, s2 _ _ upd_same, LK.cls, LK.nM, by show 1 < 1000; decide, ?_⟩⟩
    rw [pf2]
    refine ⟨_, rfl, L, C, dx, _, rfl, upd_same, LK.cls, LK.nC, by show 2 < 1000; decide, ?_⟩
    rw [pf3]
    have tL : t ≠ L := (ne_of_none hL n1).symm
    have mL : m ≠ L := fun e => by rw [e, upd_same] at n2; cases n2
    have mn : H1 m = none := by rw [upd_ne mL] at n2; exact n2
    have mt : m ≠ t := (ne_of_none e1 mn).symm
    refine q t m _ n1 (s1.free mn) ⟨upd_same, ?_, [], ?_, TupsAt.nil⟩ fun b o hb bL => ?_
    · rw [upd_ne tL, upd_ne tL]
      exact s2 _ _ (by rw [upd_ne tL]; exact e1)
    · rw [upd_ne mL, upd_ne mL]
      exact e2
    · rw [upd_ne bL, upd_ne bL]
      exact s2 _ _ (by rw [upd_ne bL]; exact s1 _ _ hb)
end
end K24
set_option Elab.async false
set_option linter.all false
set_option maxRecDepth 100000
set_option maxHeartbeats 4000000
namespace K24
open PySem PySem.NumText L2 Pg
seal PE PA PT PW PS PSs PG PGs PI PIf PO PK
section
variable {P : Program} {w : World} {K : PySem.W.Frag} {mg : Str → Option Value} {base : Heap} {f : Addr} {fd : FuncData} {d : Nat → Addr} {cR : Addr}
theorem ok_later {C : Addr} (F : Fun K "need_later" "Ledger.need_later" (inClass (top 31) 1) f fd) (LK : LdgK K C) (C1 : Cal P w K mg base CX0 3 "need_month" ["thing"] (sp_need0 119999)) : FnOk P w K mg base CX0 4 f fd ["self", "month"] (sp_later C) := by
  refine F.ok (N := ["self", "month"]) ⟨rfl, rfl, rfl, by decide +kernel, rfl, by decide +kernel, by decide +kernel⟩ (fun vs H Q E h => ?_) (fun cdv A outer s H vs Q E hr h => ?_)
  · obtain ⟨L, dx, t, m, cl, mo, rfl, _⟩ := h
    rfl
  · obtain ⟨L, dx, t, m, cl, mo, rfl, hL, h0, h1, hc, q⟩ := h
    refine ⟨_, pss_cons (ps_expr (pe_cal C1 hr (by decide) pass0 (pa_cons (pv 1) pa_nil))) (pss_one (ps_if (PW.pt (pw_and (pt_cmp (pc_notN (pe_fld (pv 0) rfl))) (pw_and1 (pt_cmpR op_le (pv 1) (pe_fld (pv 0) rfl) (nomark _))))) pss_never pss_nil)), ?_⟩
    refine ⟨_, rfl, mo, rfl, h0, h1, _, rfl, L, C, dx, _, cl, rfl, hL, LK.cls, LK.nC, rfl, _, rfl, ?_⟩
    rcases hc with rfl | ⟨c, rfl, lt⟩
    · exact iteNS rfl (iteF q)
    · exact ite2 (fun _ => ⟨_, rfl, _, rfl, L, C, dx, _, _, rfl, hL, LK.cls, LK.nC, rfl, _, _, rfl, rfl, _, rfl, ite2 (fun e => absurd (of_decide_eq_true e) (by omega)) (fun _ => q)⟩) (fun _ => iteF q)
end
end K24
set_option Elab.async false
set_option linter.all false
set_option maxRecDepth 100000
set_option maxHeartbeats 4000000
namespace K24
open PySem PySem.NumText L2 Pg
seal PE PA PT PW PS PSs PG PGs PI PIf PO PK
section
variable {P : Program} {w : World} {K : PySem.W.Frag} {mg : Str → Option Value} {base : Heap} {f : Addr} {fd : FuncData} {d : Nat → Addr} {cR : Addr}
theorem ok_paid {C : Addr} (F : Fun K "paid" "Ledger.paid" (inClass (top 31) 3) f fd) (LK : LdgK K C) : FnOk P w K mg base CX0 1 f fd ["self", "name"] (sp_paid C) := by
  refine F.ok (N := ["self", "name"]) ⟨rfl, rfl, rfl, by decide +kernel, rfl, by decide +kernel, by decide +kernel⟩ (fun vs H Q E h => ?_) (fun cdv A outer s H vs Q E hr h => ?_)
  · obtain ⟨L, dx, t, m, cl, tot, z, rfl, _⟩ := h
    rfl
  · obtain ⟨L, dx, t, m, cl, tot, z, rfl, hL, ht, q⟩ := h
    refine ⟨_, pss_one (ps_ret (pe_dget2 (hu_of hr) (pe_fld (pv 0) rfl) (pv 1) pe_int ⟨rfl, rfl, rfl, rfl⟩)), ?_⟩
    refine ⟨_, rfl, L, C, dx, _, _, rfl, hL, LK.cls, LK.nT, rfl, t, rfl, .inl ⟨_, .inl ht⟩, _, rfl, _, DGet.k (k := Sum.inr z) ht, ?_⟩
    rw [get_dOf]
    exact q
theorem ok_owed {C : Addr} (F : Fun K "owed" "Ledger.owed" (inClass (top 31) 4) f fd) (M1 : CalM P w K mg base CX0 1 C "paid" ["self", "name"] (sp_paid C)) : FnOk P w K mg base CX0 2 f fd ["self", "name", "due"] (sp_owed C) := by
  refine F.ok (N := ["self", "name", "due"]) ⟨rfl, rfl, rfl, by decide +kernel, rfl, by decide +kernel, by decide +kernel⟩ (fun vs H Q E h => ?_) (fun cdv A outer s H vs Q E hr h => ?_)
  · obtain ⟨L, dx, t, m, cl, tot, z, d, rfl, _⟩ := h
    rfl
  · obtain ⟨L, dx, t, m, cl, tot, z, d, rfl, hL, ht, q⟩ := h
    exact ⟨_, pss_one (ps_ret (pe_op op_sub (pv 2) (pe_calM M1 hr (by decide) pass0 (pv 0) (pa_cons (pv 1) pa_nil)))), _, rfl, _, rfl, L, dx, _, rfl, hL, rfl, _, rfl, L, dx, t, m, cl, tot, z, rfl, hL, ht, _, _, rfl, rfl, q⟩
theorem ok_payments {C : Addr} (F : Fun K "payments" "Ledger.payments" (inClass (top 31) 5) f fd) (LK : LdgK K C) (G : Glb mg) : FnOk P w K mg base CX0 1 f fd ["self"] (sp_payments C) := by
  refine F.ok (N := ["self"]) ⟨rfl, rfl, rfl, by decide +kernel, rfl, by decide +kernel, by decide +kernel⟩ (fun vs H Q E h => ?_) (fun cdv A outer s H vs Q E hr h => ?_)
  · obtain ⟨L, dx, t, m, cl, ys, rfl, _⟩ := h
    rfl
  · obtain ⟨L, dx, t, m, cl, ys, rfl, hL, hm, q⟩ := h
    exact ⟨_, pss_one (ps_ret (pe_callTy call_list_of rfl G.list boot_list (pa_cons (pe_fld (pv 0) rfl) pa_nil))), _, rfl, L, C, dx, _, _, rfl, hL, LK.cls, LK.nM, rfl, m, ys, rfl, .inl (SqL.of hm), fun l hl => q.at hl⟩
end
end K24
set_option Elab.async false
set_option linter.all false
set_option maxRecDepth 100000
namespace DL
open PySem PySem.Spec PyProof.Rows

section
variable {prog : Program} {w : World} {A : Around} {E : Value → Shared → Prop} {s : Shared}
variable {K : Type} [DecidableEq K] {knd : KeyKind prog w K}
end
end DL
namespace L2
open PySem PySem.Spec PyProof.Rows
section
variable {X : Cx}

end
end L2
set_option Elab.async false
set_option linter.all false
set_option maxRecDepth 100000
namespace L2
open PySem PySem.Spec PyProof.Rows

section
variable {X : Cx}
noncomputable def rInsert : V → List V → Hp → VK → Prop := fun x vs H Q => ∃ l xs i y, x = .ref l ∧ vs = [.int i, y] ∧ H l = some (.lst xs) ∧ 0 ≤ i ∧ i ≤ xs.length ∧ xs.length < sizeLine ∧ Q .non (upd H l (.lst (xs.take i.toNat ++ y :: xs.drop i.toNat)))
end
end L2
set_option Elab.async false
set_option linter.all false
set_option maxRecDepth 100000
namespace Pg
open PySem L2

noncomputable def Fr (S : List Addr) (H H' : Hp) : Prop := ∀ b o, H b = some o → ¬ b ∈ S → H' b = some o
noncomputable def NoTup (S : List Addr) (H : Hp) : Prop := ∀ b ∈ S, ∀ c, H b ≠ some (.tup c)
section
variable {C : Addr} {S S' : List Addr} {H H' H1 : Hp}
noncomputable def ownK (pd ml : Addr) (lv : V) : List (Key × V) := [(Sum.inr "paid", .ref pd), (Sum.inr "made", .ref ml), (Sum.inr "last", lv)]

structure OwnAt (H : Hp) (o pd ml : Addr) (lv : V) (tot : List (Str × Int)) (mds : List (Int × Str × Int)) : Prop where
  own : H o = some (.dK (ownK pd ml lv))
  tot : H pd = some (.dK (dOf tot))
  made : ∃ ys, H ml = some (.lst ys) ∧ TupsAt H ys (mds.map cM)
noncomputable def HeldV (H : Hp) (S : List Addr) (v : V) : Prop := ∃ (t f g : Addr) (ys : List V) (cs : List (List V)), v = .ref t ∧ H t = some (.tup [.ref f, .ref g]) ∧ H f = some (.lst ys) ∧ H g = some (.lst ys) ∧ TupsAt H ys cs ∧ (∀ c ∈ cs, c.all flatV = true) ∧ ¬ f ∈ S ∧ ¬ g ∈ S
noncomputable def HeldAt (H : Hp) (S : List Addr) (hl : Addr) (n : Nat) : Prop := ∃ hs, H hl = some (.lst hs) ∧ hs.length ≤ n ∧ ∀ v ∈ hs, HeldV H S v
end

structure Adr where
  L : Addr
  dx : Addr
  t : Addr
  m : Addr
  o : Addr
  pd : Addr
  ml : Addr
  hl : Addr
  tl : Addr
  nl : Addr
  L2 : Addr
  dx2 : Addr
  t2 : Addr
  m2 : Addr
  nms : List Str
noncomputable def Adr.us (A : Adr) : List Addr := [A.hl, A.tl, A.ml, A.pd, A.o, A.m2, A.t2, A.L2, A.m, A.t, A.L, A.nl]
noncomputable def Adr.S (A : Adr) : List Addr := [A.L, A.t, A.m, A.o, A.pd, A.ml, A.hl, A.tl]
structure AOk (A : Adr) : Prop where
  nd : A.us.Nodup
  n6 : A.nms.length = 6
  nn : A.nms.Nodup
  nok : ∀ z ∈ A.nms, NameOk z
structure Rs (C : Addr) (H : Hp) (A : Adr) (told : List (Str × Int)) (n : Nat) : Prop where
  held : HeldAt H A.S A.hl n
  told : H A.tl = some (.dK (dOf told))
  names : H A.nl = some (.lst (A.nms.map V.str))
  oth : LedAt C H A.L2 A.dx2 A.t2 A.m2 .non [] []
section
variable {C : Addr} {S : List Addr} {H H' : Hp} {A : Adr} {told told' : List (Str × Int)} {n n' : Nat}
end
noncomputable def withS (prs : List (Str × Int)) (ss : List Str) : List (Str × Int) := ss.map fun z => (z, getT prs z)
noncomputable def Seen (H : Hp) (us : List Addr) : Prop := us.Nodup ∧ ∀ b ∈ us, ∃ o, H b = some o
noncomputable def rSame2 (K : PySem.W.Frag) (u : Nat) (neg : Bool) : R2 := fun x y H Q => ∃ n d, isSeq d = true ∧ Is K H n x d ∧ Is K H n y d ∧ u + n < cLine ∧ Q (.bl (!neg)) H
structure Run (C : Addr) (H : Hp) (A : Adr) (cl : V) (tot : List (Str × Int)) (mds : List (Int × Str × Int)) (told : List (Str × Int)) (n : Nat) (mz : Int) (i : Nat) : Prop where
  led : LedAt C H A.L A.dx A.t A.m cl tot mds
  own : OwnAt H A.o A.pd A.ml cl tot mds
  rs : Rs C H A told n
  cl : cl = .non ∨ ∃ z, cl = .int z ∧ z ≤ mz
  m0 : -1 ≤ mz
  m1 : mz ≤ 110000 + 40 * i
  lm : mds.length ≤ 6 * i
  lt : tot.length ≤ 6 * i
  ld : told.length ≤ 6 * i
  ln : n ≤ 6 + 7 * i

noncomputable def sp_last (C : Addr) : Sp := fun vs H Q _ => ∃ (L dx t m : Addr) (cl : V), vs = [.ref L] ∧ H L = some (.ins C dx (fsL t m cl)) ∧ Q cl H
noncomputable def sp_sum : Sp := fun vs H Q _ => ∃ c l, vs = [.int c, .int l] ∧ 0 ≤ c ∧ c ≤ 2000000 ∧ ∀ z H', Same H H' → Q (.int z) H'
noncomputable def sp_duesL (K : PySem.W.Frag) : Sp := fun vs H Q _ => ∃ (a : Addr) (ns : List Int) (at' : Int) (nl : Addr) (nms : List Str) (tl : Addr) (told : List (Str × Int)), vs = [.ref a, .int at', .ref nl, .ref tl] ∧ (∀ H', Fr [tl] H H' → SqL K H' a (ns.map V.int)) ∧ 0 ≤ at' ∧ H nl = some (.lst (nms.map V.str)) ∧ nms.length ≤ 8 ∧ nms.Nodup ∧ H tl = some (.dK (dOf told)) ∧ told.length ≤ 1000 ∧
  ∀ (prs told' : List (Str × Int)) (r : Addr) (ys : List V) (H' : Hp), (prs.map (·.1)).Nodup → (∀ p ∈ prs, p.1 ∈ nms) → prs.length ≤ nms.length → told'.length ≤ told.length + nms.length → Fr [tl] H H' → H' tl = some (.dK (dOf told')) → H r = none → H' r = some (.lst ys) → TupsAt H' ys (prs.map cP) → Q (.ref r) H'
noncomputable def sp_paidL : Sp := fun vs H Q _ => ∃ (o pd ml : Addr) (lv : V) (tot : List (Str × Int)) (mds : List (Int × Str × Int)) (mo : Int) (l : Addr) (ts : List V) (prs : List (Str × Int)), vs = [.ref o, .int mo, .ref l] ∧ OwnAt H o pd ml lv tot mds ∧ o ≠ pd ∧
  H l = some (.lst ts) ∧ l ≠ ml ∧ TupsAt H ts (prs.map cP) ∧ prs.length < 64 ∧ (prs.map (·.1)).Nodup ∧ mds.length ≤ 1000 ∧ tot.length ≤ 1000 ∧
  ∀ (qs : List (Str × Int)) (r : Addr) (ys : List V) (H' : Hp), qs.Perm prs → qs.Pairwise (fun a b => ¬ b.1.cps.toList < a.1.cps.toList) → OwnAt H' o pd ml (.int mo) (settle tot (duesOf tot qs)) (mds ++ (duesOf tot qs).map fun p => (mo, p)) →
    Fr [o, pd, ml] H H' → H r = none → H' r = some (.lst ys) → TupsAt H' ys ((duesOf tot qs).map cP) → Q (.ref r) H'
noncomputable def sp_are (K : PySem.W.Frag) : Sp := fun vs H Q _ => ∃ (f g : Addr) (ys zs : List V) (cs : List (List V)), vs = [.ref f, .ref g] ∧ H f = some (.lst ys) ∧ TupsAt H ys cs ∧ H g = some (.lst zs) ∧ TupsAt H zs cs ∧ cs.length ≤ 2000 ∧ (∀ c ∈ cs, c.all flatV = true) ∧ (∀ c ∈ cs, ∃ i z, c = i ++ [V.int z]) ∧ ∀ H', Same H H' → Q (.bl true) H'
noncomputable def sp_answer (C : Addr) : Sp := fun vs H Q _ => ∃ (A : Adr) (cl : V) (tot : List (Str × Int)) (mds : List (Int × Str × Int)) (told : List (Str × Int)) (n : Nat) (qn c : Int), vs = [.ref A.L, .ref A.o, .ref A.hl, .ref A.nl, .int qn, .int c] ∧ AOk A ∧ LedAt C H A.L A.dx A.t A.m cl tot mds ∧ OwnAt H A.o A.pd A.ml cl tot mds ∧ Rs C H A told n ∧
  (cl = .non ∨ ∃ z, cl = .int z) ∧ 0 ≤ c ∧ c ≤ 1000000 ∧ mds.length ≤ 1000 ∧ n ≤ 1000 ∧ ∀ H', Fr [A.hl] H H' → Rs C H' A told (n + 1) → Q (.bl true) H'
noncomputable def sp_looked (C : Addr) : Sp := fun vs H Q _ => ∃ (A : Adr) (cl : V) (tot : List (Str × Int)) (mds : List (Int × Str × Int)) (told : List (Str × Int)) (n : Nat) (c : Int), vs = [.ref A.L, .ref A.o, .ref A.hl, .ref A.nl, .int c] ∧ AOk A ∧ LedAt C H A.L A.dx A.t A.m cl tot mds ∧ OwnAt H A.o A.pd A.ml cl tot mds ∧ Rs C H A told n ∧
  (cl = .non ∨ ∃ z, cl = .int z) ∧ 0 ≤ c ∧ c < 1000003 ∧ mds.length ≤ 1000 ∧ n ≤ 990 ∧ ∀ H', Fr [A.hl] H H' → Rs C H' A told (n + 6) → Q (.bl true) H'
end Pg
set_option Elab.async false
set_option linter.all false
set_option maxRecDepth 100000
set_option maxHeartbeats 4000000
namespace K24
open PySem PySem.NumText L2 Pg
seal PE PA PT PW PS PSs PG PGs PI PIf PO PK
section
variable {P : Program} {w : World} {K : PySem.W.Frag} {mg : Str → Option Value} {base : Heap} {f : Addr} {fd : FuncData} {d : Nat → Addr} {cR : Addr}
theorem ok_last {C : Addr} (F : Fun K "last" "Ledger.last" (inClass (top 31) 6) f fd) (LK : LdgK K C) : FnOk P w K mg base CX0 1 f fd ["self"] (sp_last C) := by
  refine F.ok (N := ["self"]) ⟨rfl, rfl, rfl, by decide +kernel, rfl, by decide +kernel, by decide +kernel⟩ (fun vs H Q E h => ?_) (fun cdv A outer s H vs Q E hr h => ?_)
  · obtain ⟨L, dx, t, m, cl, rfl, _⟩ := h
    rfl
  · obtain ⟨L, dx, t, m, cl, rfl, hL, q⟩ := h
    exact ⟨_, pss_one (ps_ret (pe_fld (pv 0) rfl)), _, rfl, L, C, dx, _, _, rfl, hL, LK.cls, LK.nC, rfl, q⟩
end
end K24
set_option Elab.async false
set_option linter.all false
set_option maxRecDepth 100000
set_option maxHeartbeats 4000000
namespace K24
open PySem PySem.NumText L2 Pg
seal PE PA PT PW PS PSs PG PGs PI PIf PO PK
section
variable {P : Program} {w : World} {K : PySem.W.Frag} {mg : Str → Option Value} {base : Heap} {f : Addr} {fd : FuncData} {d : Nat → Addr} {cR : Addr}
set_option maxHeartbeats 4000000 in
theorem ok_close {C : Addr} (F : Fun K "close" "Ledger.close" (inClass (top 31) 2) f fd) (LK : LdgK K C) (G : Glb mg) (M1 : CalM P w K mg base CX0 4 C "need_later" ["self", "month"] (sp_later C)) (C1 : Cal P w K mg base CX0 4 "need_dues" ["thing"] sp_dues)
    (M2 : CalM P w K mg base CX0 2 C "owed" ["self", "name", "due"] (sp_owed C)) (M3 : CalM P w K mg base CX0 1 C "paid" ["self", "name"] (sp_paid C)) : FnOk P w K mg base CX0 5 f fd ["self", "month", "dues"] (sp_close C) := by
  have nd : (["self", "month", "dues", "unpaid", "paid_now", "name", "amount"] : List Str).Nodup := by decide +kernel
  have nc1 : (["name", "due", "self"] : List Str).Nodup := by decide +kernel
  have nc2 : (["name", "amount"] : List Str).Nodup := by decide +kernel
  refine F.ok (N := ["self", "month", "dues", "unpaid", "paid_now", "name", "amount"]) ⟨rfl, rfl, rfl, by decide +kernel, rfl, by decide +kernel, by decide +kernel⟩ (fun vs H Q E h => ?_) (fun cdv A outer s H vs Q E hr h => ?_)
  · obtain ⟨L, dx, t, m, cl, tot, mds, mo, l, ts, prs, rfl, _⟩ := h
    rfl
  · obtain ⟨L, dx, t, m, cl, tot, mds, mo, l, ts, prs, rfl, LA, m0, m1, hc, hl, T, l64, ndn, ok, lm, lt, q⟩ := h
    have hu := hu_of hr
    refine' ⟨_, (pss_cons (ps_expr (pe_calM M1 hr (by decide) pass0 (pv 0) (pa_cons (pv 1) pa_nil)))
        (pss_cons (ps_expr (pe_cal C1 hr (by decide) pass0 (pa_cons (pv 2) pa_nil)))
        (pss_cons ?comp_1
        (pss_cons ?comp_2
        (pss_cons (ps_for PassesOwn.never rfl (pi_list (pv 4)) (pg_tup rfl (pgs_cons (pg_name (i := 5) nd rfl (Or.inl rfl)) (pgs_cons (pg_name (i := 6) nd rfl (Or.inl rfl)) pgs_nil)))
          (pss_cons (ps_dput hu (pe_fld (pv 0) rfl) (pv 5) (pe_op op_add (pe_calM M3 hr (by decide) pass0 (pv 0) (pa_cons (pv 5) pa_nil)) (pv 6)) rfl)
          (pss_one (ps_expr (pe_bm PySem.F.plainAttrs_list PySem.F.slot_list_append PySem.F.type_list_append mt_append (pe_fld (pv 0) rfl) (pa_cons (pe_tupS (pa_cons (pv 1) (pa_cons (pv 5) (pa_cons (pv 6) pa_nil)))) pa_nil))))))
        (pss_cons (ps_fld (pv 0) (pv 1) rfl)
        (pss_one (ps_ret (pv 4))))))))), ?main⟩
    case comp_1 =>
      refine' ps_setC (i := 3) (Nc := ["name", "due", "self"]) (cl := [("self", s.heap.objs.size + 1)]) (src := [none, none, some 0]) (wi := iList K (tCB (rSortP K) (tCons (tVar 2) tNil))) (g := gTup K 2 (gCons (gName 0) (gCons (gName 1) gNil))) (tt := tNoIf) (te := tTupS (tCons (tVar 0) (tCons (tMt C "owed" (sp_owed C) E0 (tVar 2) (tCons (tVar 0) (tCons (tVar 1) tNil))) tNil))) nd rfl rfl ⟨rfl, rfl, by decide +kernel, by decide +kernel, sub_of (sub1 rfl), has_of (by rfl), frm_none (frm_none (frm_some ⟨_, rfl, rfl, rfl, rfl⟩ frm_nil)), rfl⟩ rfl (pi_list (pe_callB call_sortP rfl G.sorted PyProof.Rows.boot_sorted (pa_cons (pv 2) pa_nil))) ?hb
      case hb =>
        intro fp C' s' H'
        exact ⟨pg_tup rfl (pgs_cons (pg_name (i := 0) nc1 rfl (Or.inl rfl)) (pgs_cons (pg_name (i := 1) nc1 rfl (Or.inl rfl)) pgs_nil)), pif_nil, pe_tupS (pa_cons (pv 0) (pa_cons (pe_calM M2 hr (by decide) pass0 (pv 2) (pa_cons (pv 0) (pa_cons (pv 1) pa_nil))) pa_nil))⟩
    case comp_2 =>
      refine' ps_setC (i := 4) (Nc := ["name", "amount"]) (cl := []) (src := [none, none]) (wi := iList K (tVar 3)) (g := gTup K 2 (gCons (gName 0) (gCons (gName 1) gNil))) (tt := tTest (tOp (rI0 fun i j => .bl (decide (j < i))) (tVar 1) (tC (.int 0)))) (te := tTupS (tCons (tVar 0) (tCons (tVar 1) tNil))) nd rfl rfl ⟨rfl, rfl, by decide +kernel, by decide +kernel, (fun x c z => nomatch z), has_of (by rfl), frm_none (frm_none frm_nil), rfl⟩ rfl (pi_list (pv 3)) ?hb
      case hb =>
        intro fp C' s' H'
        exact ⟨pg_tup rfl (pgs_cons (pg_name (i := 0) nc2 rfl (Or.inl rfl)) (pgs_cons (pg_name (i := 1) nc2 rfl (Or.inl rfl)) pgs_nil)), pif_one (pt_cmpR op_gt (pv 1) pe_int (nomark _)), pe_tupS (pa_cons (pv 0) (pa_cons (pv 1) pa_nil))⟩
    have tl : ts.length = prs.length := by rw [T.len, List.length_map]
    refine ⟨_, rfl, L, dx, _, rfl, LA.ins, rfl, _, rfl, L, dx, t, m, cl, mo, rfl, LA.ins, m0, m1, hc, ?_⟩
    refine ⟨_, rfl, l, ts, prs, rfl, hl, T, l64, ndn, ok, fun H1 s1 => ?_⟩
    have T1 := T.same s1
    have L1 := LA.same s1
    refine ⟨_, rfl, l, ts, _, _, rfl, SqL.of (s1 _ _ hl), by omega, pair_at T1 ndn, fun is pm up a H2 s2 n2 e2 => ?_⟩
    obtain ⟨pq, T2⟩ := pairs_perm T1 pm
    have T2 := T2.same s2
    have L2' := L1.same s2
    have up : (is.map (pAt prs)).Pairwise (fun a b => ¬ b.1.cps.toList < a.1.cps.toList) := List.pairwise_map.mpr up
    generalize is.map (pAt prs) = qs at pq T2 up
    generalize (is.map fun i => ts.getD i V.non) = us at T2 e2
    have ql : qs.length < 64 := by rw [pq.length_eq]; exact l64
    have fq : qs.length < sizeLine := by rw [sizeLine_eq]; omega
    refine ⟨a, rfl, ⟨_, SqL.of e2⟩, fun D hD => comp_prs (SqL.of e2) T2 hD fq (fun _ => true) (fun p => (p.1, p.2 - getT tot p.1)) (fun p _ H' R _ r => r) (fun p hp _ H' R s' r => ?_) (fun ys H3 s3 e3 T3 => ?_)⟩
    · exact ⟨_, rfl, _, rfl, L, dx, _, rfl, s' _ _ L2'.ins, rfl, _, rfl, _, rfl, L, dx, t, m, cl, tot, p.1, p.2, rfl, s' _ _ L2'.ins, s' _ _ L2'.tot, lenOk rfl, r⟩
    rw [List.filter_eq_self.mpr fun _ _ => rfl] at T3
    have L3 := L2'.same s3
    refine ⟨_, rfl, D, rfl, ⟨_, SqL.of e3⟩, fun r hr' => comp_prs (SqL.of e3) T3 hr' (by rw [List.length_map]; exact fq) (fun p => decide (0 < p.2)) (fun p => p) (fun p _ H' R _ z => ?_) (fun p hp _ H' R s' z => ?_) (fun zs H4 s4 e4 T4 => ?_)⟩
    · exact ⟨_, rfl, _, _, rfl, rfl, _, rfl, z⟩
    · exact ⟨_, rfl, _, rfl, lenOk rfl, z⟩
    rw [List.map_id'] at T4
    have T4 : TupsAt H4 zs ((duesOf tot qs).map cP) := T4
    have L4 := L3.same s4
    have dl : (duesOf tot qs).length < 64 := Nat.lt_of_le_of_lt (dues_len tot qs) ql
    have S4 : Same H H4 := s1.trans (s2.trans (s3.trans s4))
    have rn : H r = none := (s1.trans (s2.trans s3)).free hr'
    obtain ⟨ys0, hm0, _⟩ := LA.made
    have rt : r ≠ t := (ne_of_none LA.tot rn).symm
    have rm : r ≠ m := (ne_of_none hm0 rn).symm
    have rL : r ≠ L := (ne_of_none LA.ins rn).symm
    obtain ⟨Lt, Lm, tm⟩ := LA.lt
    have q := q qs
    generalize duesOf tot qs = ps at T4 dl q
    obtain ⟨ys4, hm4, _⟩ := L4.made
    have zl : zs.length = ps.length := by rw [T4.len, List.length_map]
    refine ⟨_, rfl, r, rfl, ⟨_, SqL.of e4⟩, for_list (K := K) (a := r) (xs := zs) (fun i σ H' => ∃ x5 x6, σ = [some (.ref L), some (.int mo), some (.ref l), some (.ref D), some (.ref r), x5, x6] ∧ LedAt C H' L dx t m cl (settle tot (ps.take i)) (mds ++ (ps.take i).map fun p => (mo, p)) ∧ ∀ b o, H4 b = some o → b ≠ t → b ≠ m → H' b = some o) ⟨_, _, rfl, ?_, fun _ _ h _ _ => h⟩ (fun i σ H' _ z => ?_) ?_ ?_⟩
    · rw [List.take_zero, List.map_nil, List.append_nil]
      exact L4
    · obtain ⟨_, _, _, _, fr⟩ := z
      exact SqL.of (fr _ _ e4 rt rm)
    · rintro i v σ H' hv ⟨x5, x6, rfl, LA', fr⟩
      obtain ⟨a, c, rfl, h1, h2⟩ := T4.of_at hv
      rw [List.getElem?_map] at h1
      obtain ⟨p, hp, rfl⟩ := Option.map_eq_some_iff.mp h1
      have h2' := fr _ _ h2 (ne_of h2 L4.tot (by intro z; cases z)) (ne_of h2 hm4 (by intro z; cases z))
      have il : i < ps.length := (List.getElem?_eq_some_iff.mp hp).1
      have tk : ps.take (i + 1) = ps.take i ++ [p] := by rw [List.take_add_one, hp]; rfl
      obtain ⟨ys', hm', Tm'⟩ := LA'.made
      have li : (ps.take i).length ≤ i := by rw [List.length_take]; exact Nat.min_le_left _ _
      have z1 : (dOf (settle tot (ps.take i))).length < sizeLine := by
        unfold dOf
        rw [List.length_map, sizeLine_eq]
        have := settle_len tot (ps.take i)
        omega
      have z2 : ys'.length < sizeLine := by
        rw [Tm'.len, List.length_map, List.length_append, List.length_map, sizeLine_eq]
        omega
      refine ⟨a, _, rfl, SqT.of h2', rfl, _, _, rfl, _, _, rfl, rfl, ?_⟩
      refine ⟨_, rfl, L, dx, _, rfl, LA'.ins, rfl, _, rfl, L, dx, t, m, cl, _, p.1, rfl, LA'.ins, LA'.tot, _, rfl, _, _, rfl, rfl, ?_⟩
      refine ⟨_, rfl, L, C, dx, _, _, rfl, LA'.ins, LK.cls, LK.nT, rfl, _, rfl, t, _, rfl, DPut.k (k := Sum.inr p.1) LA'.tot z1, ?_⟩
      rw [put_dOf]
      have hL5 : upd H' t (.dK (dOf (putT (settle tot (ps.take i)) p.1 (getT (settle tot (ps.take i)) p.1 + p.2)))) L = some (.ins C dx (fsL t m cl)) := by rw [upd_ne Lt]; exact LA'.ins
      have hm5 : upd H' t (.dK (dOf (putT (settle tot (ps.take i)) p.1 (getT (settle tot (ps.take i)) p.1 + p.2)))) m = some (.lst ys') := by rw [upd_ne tm.symm]; exact hm'
      refine ⟨_, rfl, L, C, dx, _, _, rfl, hL5, LK.cls, LK.nM, rfl, .inl ⟨rfl, _, SqL.of hm5⟩, _, rfl, _, rfl, _, rfl, lenOk rfl, fun u H6 s6 n6 e6 => ?_⟩
      refine ⟨m, ys', _, rfl, rfl, s6 _ _ hm5, z2, ?_⟩
      refine ⟨_, _, rfl, ⟨?_, ?_, ys' ++ [.ref u], upd_same, ?_⟩, fun b o hb bt bm => ?_⟩
      · rw [upd_ne Lm]
        exact s6 _ _ hL5
      · rw [upd_ne tm, tk, settle_snoc]
        exact s6 _ _ upd_same
      · have ec : (mds ++ (ps.take (i + 1)).map fun p => (mo, p)).map cM = (mds ++ (ps.take i).map fun p => (mo, p)).map cM ++ [cM (mo, p)] := by
          rw [tk, List.map_append (l₁ := ps.take i), ← List.append_assoc, List.map_append]
          rfl
        rw [ec]
        refine TupsAt.snoc (((Tm'.upd (p := t) fun c z => ?_).same s6).upd fun c z => ?_) ?_
        · rw [LA'.tot] at z
          cases z
        · rw [s6 _ _ hm5] at z
          cases z
        · rw [upd_ne (ne_of e6 (s6 _ _ hm5) (by intro z; cases z))]
          exact e6
      · rw [upd_ne bm]
        exact s6 _ _ (by rw [upd_ne bt]; exact fr b o hb bt bm)
    · rintro σ H' ⟨x5, x6, rfl, LA', fr⟩
      rw [zl, List.take_length] at LA'
      refine ⟨_, rfl, _, rfl, L, C, dx, _, rfl, LA'.ins, LK.cls, LK.nC, by show 3 < 1000; decide, ?_⟩
      rw [pf4]
      obtain ⟨ys', hm', Tm'⟩ := LA'.made
      have nT : ∀ c, H' L ≠ some (.tup c) := fun c z => by
        rw [LA'.ins] at z
        cases z
      refine ⟨_, rfl, q r zs _ pq up ⟨upd_same, ?_, ys', ?_, Tm'.upd nT⟩ (fun b o hb bL bt bm => ?_) rn ?_ (TupsAt.upd (T4.mono fun b c h => fr _ _ h (ne_of h L4.tot (by intro z; cases z)) (ne_of h hm4 (by intro z; cases z))) nT)⟩
      · rw [upd_ne Lt.symm]
        exact LA'.tot
      · rw [upd_ne Lm.symm]
        exact hm'
      · rw [upd_ne bL]
        exact fr _ _ (S4 _ _ hb) bt bm
      · rw [upd_ne rL]
        exact fr _ _ e4 rt rm
end
end K24
set_option Elab.async false
set_option linter.all false
set_option maxRecDepth 100000
set_option maxHeartbeats 4000000
namespace K24
open PySem PySem.NumText L2 Pg
seal PE PA PT PW PS PSs PG PGs PI PIf PO PK
section
variable {P : Program} {w : World} {K : PySem.W.Frag} {mg : Str → Option Value} {base : Heap} {f : Addr} {fd : FuncData} {d : Nat → Addr} {cR : Addr}
theorem ok_cell_at (F : Fun K "_law_cell_at" "_law_cell_at" (top 33) f fd) (G : Glb mg) : FnOk P w K mg base CX0 1 f fd ["_law_script", "_law_k"] (sp_cell K) := by
  refine F.ok (N := ["_law_script", "_law_k"]) ⟨rfl, rfl, rfl, by decide +kernel, rfl, by decide +kernel, by decide +kernel⟩ (fun vs H Q E h => ?_) (fun cdv A outer s H vs Q E hr h => ?_)
  · obtain ⟨a, k, ns, rfl, _⟩ := h
    rfl
  · obtain ⟨a, k, ns, rfl, hs, hk, q⟩ := h
    refine ⟨_, (pss_cons (ps_if (pt_cmpR op_lt (pv 1) (pe_callB call_len_seq rfl G.len PySem.boot_len (pa_cons (pv 0) pa_nil)) (nomark _)) (pss_one (ps_ret (pe_at ix_list (pv 0) (pv 1)))) pss_nil)
        (pss_one (ps_ret pe_int))), ?_⟩
    refine ⟨_, rfl, _, rfl, a, _, rfl, .inl hs, _, _, rfl, rfl, _, rfl, ite2 (fun e => ?_) (fun e => ?_)⟩
    · exact ⟨_, rfl, _, rfl, a, _, _, _, rfl, rfl, hs, cell_at hk (of_decide_eq_true e), q⟩
    · rw [cell_out fun c => e (decide_eq_true c)] at q
      exact q
end
end K24
set_option Elab.async false
set_option linter.all false
set_option maxRecDepth 100000
set_option maxHeartbeats 4000000
namespace K24
open PySem PySem.NumText L2 Pg
seal PE PA PT PW PS PSs PG PGs PI PIf PO PK
section
variable {P : Program} {w : World} {K : PySem.W.Frag} {mg : Str → Option Value} {base : Heap} {f : Addr} {fd : FuncData} {d : Nat → Addr} {cR : Addr}
theorem ok_mixC (F : Fun K "_law_mixed" "_law_mixed" (top 34) f fd) : FnOk P w K mg base CX0 1 f fd ["_law_cell", "_law_k"] sp_mixC := by
  have nd : (["_law_cell", "_law_k", "_law_number"] : List Str).Nodup := by decide +kernel
  refine F.ok (N := ["_law_cell", "_law_k", "_law_number"]) ⟨rfl, rfl, rfl, by decide +kernel, rfl, by decide +kernel, by decide +kernel⟩ (fun vs H Q E h => ?_) (fun cdv A outer s H vs Q E hr h => ?_)
  · obtain ⟨c, k, rfl, _⟩ := h
    rfl
  · obtain ⟨c, k, rfl, k0, k1, q⟩ := h
    refine ⟨_, (pss_cons (ps_set (i := 2) nd rfl (Or.inl rfl) (pe_op op_add (pe_op op_mul (pe_op op_mod (pv 0) pe_int) (pe_op op_add (pe_op op_mul (pv 1) (pv 1)) pe_int)) (pe_op op_fdiv (pv 0) pe_int)))
        (pss_cons (ps_set (i := 2) nd rfl (Or.inl rfl) (pe_op op_mod (pe_op op_add (pe_op op_add (pv 2) (pe_op op_mul pe_int (pv 1))) pe_int) pe_int))
        (pss_one (ps_ret (pe_op op_mod (pe_op op_mul (pe_op op_mod (pe_op op_mul (pv 2) (pv 2)) pe_int) (pe_op op_add (pe_op op_add (pv 2) (pe_op op_mul pe_int (pv 1))) pe_int)) pe_int))))), ?_⟩
    have hk : CMul k k := .inl ⟨by omega, by omega⟩
    have h2 := Int.emod_nonneg c (by decide : (1000003 : Int) ≠ 0)
    have h3 := Int.emod_lt_of_pos c (by decide : (0 : Int) < 1000003)
    have n0 := mixN_nn c k
    have n1 := mixN_lt c k
    refine ⟨_, rfl, _, _, rfl, rfl, (by show (0 : Int) < 1000003; decide), _, rfl, _, rfl, _, _, rfl, rfl, hk, _, _, rfl, rfl, _, _, rfl, rfl, .inl ⟨by omega, by omega⟩, _, rfl, _, _, rfl, rfl, ⟨by decide, by decide⟩, _, _, rfl, rfl, ?_⟩
    refine ⟨_, rfl, _, rfl, _, _, rfl, rfl, .inr ⟨by omega, by omega⟩, _, _, rfl, rfl, _, _, rfl, rfl, _, _, rfl, rfl, (by show (0 : Int) < 1000003; decide), ?_⟩
    have h4 := Int.emod_nonneg (mixN c k * mixN c k) (by decide : (1000003 : Int) ≠ 0)
    have h5 := Int.emod_lt_of_pos (mixN c k * mixN c k) (by decide : (0 : Int) < 1000003)
    exact ⟨_, rfl, _, rfl, _, _, rfl, rfl, .inl ⟨show -(2 ^ 64) < mixN c k by omega, show mixN c k < 2 ^ 64 by omega⟩, _, _, rfl, rfl, (by show (0 : Int) < 1000003; decide), _, rfl, _, rfl, _, _, rfl, rfl, .inr ⟨by omega, by omega⟩, _, _, rfl, rfl, _, _, rfl, rfl, _, _, rfl, rfl, .inl ⟨show -(2 ^ 64) < mixN c k * mixN c k % 1000003 by omega, show mixN c k * mixN c k % 1000003 < 2 ^ 64 by omega⟩, _, _, rfl, rfl, (by show (0 : Int) < 1000003; decide), q⟩
end
end K24
set_option Elab.async false
set_option linter.all false
set_option maxRecDepth 100000
namespace Pg
open PySem L2

noncomputable def rIs (K : PySem.W.Frag) : List V → Hp → VK → Prop := fun xs H Q => ∃ x c cv t b, xs = [x, c] ∧ clsV c = some cv ∧ TyX K H x t ∧ PySem.W.kitOne K t cv = some b ∧ Q (.bl b) H
noncomputable def tK1 (K : PySem.W.Frag) (w : Str) (c : Addr) : TE := tTupS (tCons (tC (.str w)) (tCons (tCB (rIs K) (tCons (tVar 0) (tCons (tC (.ref c)) tNil))) tNil))
noncomputable def tKs (K : PySem.W.Frag) : List (Str × Addr × Bool) → TA
  | [] => tNil
  | x :: r => tCons (tK1 K x.1 x.2.1) (tKs K r)
noncomputable def bits (l : List (Str × Addr × Bool)) : List (Str × Bool) := l.map fun x => (x.1, x.2.2)

noncomputable def Tups (H : Hp) (ts : List V) (ps : List (Str × Bool)) : Prop := ts.length = ps.length ∧ ∀ (i : Nat) p, ps[i]? = some p → ∃ t, ts[i]? = some (V.ref t) ∧ H t = some (.tup [.str p.1, .bl p.2])
theorem Tups.same {H H' : Hp} {ts : List V} {ps : List (Str × Bool)} (h : Tups H ts ps) (s : Same H H') : Tups H' ts ps :=
  ⟨h.1, fun i p e => let ⟨t, e1, e2⟩ := h.2 i p e; ⟨t, e1, s _ _ e2⟩⟩
theorem Tups.app {H : Hp} {ts us : List V} {ps qs : List (Str × Bool)} (h : Tups H ts ps) (k : Tups H us qs) : Tups H (ts ++ us) (ps ++ qs) := by
  refine ⟨by rw [List.length_append, List.length_append, h.1, k.1], fun i p e => ?_⟩
  by_cases hi : i < ps.length
  · rw [List.getElem?_append_left hi] at e
    obtain ⟨t, e1, e2⟩ := h.2 i p e
    exact ⟨t, by rw [List.getElem?_append_left (by rw [h.1]; exact hi)]; exact e1, e2⟩
  · rw [List.getElem?_append_right (by omega)] at e
    obtain ⟨t, e1, e2⟩ := k.2 _ p e
    exact ⟨t, by rw [List.getElem?_append_right (by rw [h.1]; omega), h.1]; exact e1, e2⟩
section
variable {K : PySem.W.Frag} {ea C : Addr} {σ : St}
theorem kt_all (hσ : σ[0]? = some (some (.ref ea))) : ∀ (l : List (Str × Addr × Bool)) (H : Hp) (Q : List V → Hp → Prop), Held K H ea C → (∀ x ∈ l, PySem.W.kitOne K (.ref C) (.ref x.2.1) = some x.2.2) →
    (∀ ts H', Same H H' → Tups H' ts (bits l) → Q ts H') → tKs K l σ H Q
  | [], H, Q, _, _, q => q [] H (Same.refl _) ⟨rfl, fun i p e => nomatch e⟩
  | x :: r, H, Q, h, hk, q => by
    refine ⟨_, hσ, _, _, _, _, _, rfl, rfl, h.ty, hk x List.mem_cons_self, lenOk rfl, fun t H1 s1 _ e1 => ?_⟩
    refine kt_all hσ r H1 _ (h.same s1) (fun y hy => hk y (List.mem_cons_of_mem _ hy)) fun ts H2 s2 k => ?_
    refine q _ H2 (s1.trans s2) ⟨by rw [List.length_cons, k.1]; rfl, fun i p e => ?_⟩
    cases i with
    | zero => cases e; exact ⟨t, rfl, s2 _ _ e1⟩
    | succ i => exact k.2 i p e
theorem k_lst (l : List (Str × Addr × Bool)) {H : Hp} {Q : VK} (hσ : σ[0]? = some (some (.ref ea))) (h : Held K H ea C) (hk : ∀ x ∈ l, PySem.W.kitOne K (.ref C) (.ref x.2.1) = some x.2.2) (hl : Nat.ble l.length 1000 = true)
    (q : ∀ p ts H', Same H H' → H' p = some (.lst ts) → Tups H' ts (bits l) → Q (.ref p) H') : tLstS (tKs K l) σ H Q :=
  kt_all hσ l H _ h hk fun ts H1 s1 k => ⟨by rw [k.1]; unfold bits; rw [List.length_map]; exact lenOk hl, fun p H2 s2 _ e => q p ts H2 (s1.trans s2) e (k.same s2)⟩
theorem k_cat (l : List (Str × Addr × Bool)) {ps : List (Str × Bool)} {f : Addr} {ts : List V} {H : Hp} {Q : VK} (hσ : σ[0]? = some (some (.ref ea))) (h1 : σ[1]? = some (some (.ref f))) (hf : H f = some (.lst ts)) (kf : Tups H ts ps) (h : Held K H ea C)
    (hk : ∀ x ∈ l, PySem.W.kitOne K (.ref C) (.ref x.2.1) = some x.2.2) (hl : Nat.ble l.length 1000 = true) (hp : Nat.ble (ps.length + l.length) 1000 = true)
    (q : ∀ p us H', Same H H' → H' p = some (.lst us) → Tups H' us (ps ++ bits l) → Q (.ref p) H') : tOp rCatS (tVar 1) (tLstS (tKs K l)) σ H Q := by
  refine ⟨_, h1, k_lst l hσ h hk hl fun p us H1 s1 e1 k1 => ⟨f, p, ts, us, rfl, rfl, s1 _ _ hf, e1, ?_, fun r H2 s2 _ e2 => q r _ H2 (s1.trans s2) e2 (((kf.same s1).app k1).same s2)⟩⟩
  have := k1.1
  unfold bits at this
  rw [List.length_map] at this
  rw [kf.1, this]
  exact lenOk hp
end
end Pg
set_option Elab.async false
set_option linter.all false
set_option maxRecDepth 100000
namespace L2
open PySem PySem.Spec PyProof.Rows
theorem noIf {σ : St} {H : Hp} {A B : Hp → Prop} (h : A H) : tNoIf σ H fun b H2 => if b = true then A H2 else B H2 := by
  show if true = true then A H else B H
  exact iteT h

structure ItemsAt {α : Type} (H : Hp) (ys : List V) (xs : List α) (P : Hp → V → α → Prop) : Prop where
  len : ys.length = xs.length
  at_ : ∀ (i : Nat) (y : V), ys[i]? = some y → ∃ x, xs[i]? = some x ∧ ∀ H', Same H H' → P H' y x
section
variable {J : It} {D : Addr} {te : TE} {fin : List V → Hp → Prop} {σ : St} {H : Hp} {ys : List V} {α : Type} {xs : List α} {P : Hp → V → α → Prop}
theorem comp_at (W : Walk J H ys) (T : ItemsAt H ys xs P) (hD : H D = none) (hz : xs.length < sizeLine) (φ : α → V)
    (he : ∀ x ∈ xs, ∀ v H' R, Same H H' → P H' v x → (∀ H'', Same H' H'' → R (φ x) H'') → te (σ.set 0 (some v)) H' R)
    (hf : ∀ H', Same H H' → H' D = some (.lst (xs.map φ)) → fin (xs.map φ) H') : tTurnsI J D (gName 0) tNoIf te fin σ (upd H D (.lst [])) := by
  refine comp_walk W hD (fun i zs H' => zs = (xs.take i).map φ) (fun σ' => ∀ x, σ'.set 0 (some x) = σ.set 0 (some x)) (fun _ => rfl) rfl ?_ ?_
  · rintro i y zs σ' H' hy hσ s hd hl rfl
    obtain ⟨x, hx, hP⟩ := T.at_ i y hy
    have tk : xs.take (i + 1) = xs.take i ++ [x] := by rw [List.take_add_one, hx]; rfl
    have hi : i < xs.length := (List.getElem?_eq_some_iff.mp hx).1
    have hσ2 : ∀ z, (σ'.set 0 (some y)).set 0 (some z) = σ.set 0 (some z) := fun z => by rw [List.set_set]; exact hσ z
    unfold cTurn gName
    dsimp only
    refine noIf ?_
    rw [hσ y] at hσ2 ⊢
    refine he x (List.mem_of_getElem? hx) y _ _ s (hP _ s) fun H3 s3 => ⟨s3 _ _ hd, by omega, hσ2, fun b o z => ?_, upd_same, ?_, ?_⟩
    · rw [upd_ne (ne_of_none z hD)]
      exact s3 _ _ (s _ _ z)
    · rw [List.length_append, List.length_singleton]; omega
    · rw [tk, List.map_append]; rfl
  · rintro zs H' s hd hl rfl
    rw [T.len, List.take_length] at hd ⊢
    exact hf H' s hd
end
end L2
set_option Elab.async false
set_option linter.all false
set_option maxRecDepth 100000
namespace L2
open PySem PySem.Spec PyProof.Rows
section
variable {X : Cx} {pins : List (Addr × Obj)} {σ : St} {H : Hp} {s : Shared} {d : Addr} {kvs : List (Key × V)}

end

noncomputable def Itd (d : Addr) (o : Obj) (kvs : List (Key × V)) : It :=
  ⟨fun i H => H d = some (.frz o (.dK kvs)) ∧ i < kvs.length, fun i H x H' => H' = H ∧ ∃ p, kvs[i]? = some p ∧ x = kV p.1, fun i H => H d = some (.frz o (.dK kvs)) ∧ kvs.length ≤ i⟩
noncomputable def iDict (tl : TE) : TI := fun σ H R => tl σ H fun x H1 => ∃ d o kvs, x = .ref d ∧ H1 d = some (.frz o (.dK kvs)) ∧ R (Itd d o kvs) H1
section
variable {X : Cx}

inductive Ty4 (H : Hp) : V → Value → Prop where
  | int (i : Int) : Ty4 H (.int i) (.type "int")
  | str (x : Str) : Ty4 H (.str x) (.type "str")
  | lst {a : Addr} {xs : List V} (e : H a = some (.lst xs)) : Ty4 H (.ref a) (.type "list")
  | tup {a : Addr} {xs : List V} (e : H a = some (.tup xs)) : Ty4 H (.ref a) (.type "tuple")
noncomputable def isT : Value → Bool
  | .bool b => b
  | _ => false
end
end L2
set_option Elab.async false
set_option linter.all false
set_option maxRecDepth 100000
namespace L2
open PySem PySem.Spec PyProof.Rows

section
variable {X : Cx} {pins : List (Addr × Obj)} {σ : St} {H : Hp} {s : Shared}

end
noncomputable def Itz (K : PySem.W.Frag) (a b : Addr) : It :=
  ⟨fun i H => ∃ xs ys x y, SqL K H a xs ∧ SqL K H b ys ∧ xs[i]? = some x ∧ ys[i]? = some y,
    fun i H z H' => ∃ p x y, z = .ref p ∧ H p = none ∧ H' = upd H p (.tup [x, y]) ∧ ∀ xs ys, SqL K H a xs → SqL K H b ys → xs[i]? = some x ∧ ys[i]? = some y,
    fun i H => ∃ xs ys, SqL K H a xs ∧ SqL K H b ys ∧ (xs.length ≤ i ∨ ys.length ≤ i)⟩
noncomputable def Ite (K : PySem.W.Frag) (a : Addr) : It :=
  ⟨fun i H => ∃ xs x, SqL K H a xs ∧ xs[i]? = some x,
    fun i H z H' => ∃ p x, z = .ref p ∧ H p = none ∧ H' = upd H p (.tup [.int (i : Nat), x]) ∧ ∀ xs, SqL K H a xs → xs[i]? = some x,
    fun i H => ∃ xs, SqL K H a xs ∧ xs.length ≤ i⟩
noncomputable def iZip (K : PySem.W.Frag) (ta : TA) : TI := fun σ H R => ta σ H fun vs H1 => ∃ a b, vs = [.ref a, .ref b] ∧ (∃ xs, SqL K H1 a xs) ∧ (∃ ys, SqL K H1 b ys) ∧ R (Itz K a b) H1
noncomputable def iEnum (K : PySem.W.Frag) (ta : TA) : TI := fun σ H R => ta σ H fun vs H1 => ∃ a, vs = [.ref a] ∧ (∃ xs, SqL K H1 a xs) ∧ R (Ite K a) H1
section
variable {X : Cx} {es : List Expr} {n : Nat} {tpos : Pos}
end

end L2
set_option Elab.async false
set_option linter.all false
set_option maxRecDepth 100000
namespace L2
open PySem PySem.Spec PyProof.Rows

inductive Ex4 {α β γ δ : Type} (p : α → β → γ → δ → Prop) : Prop where
  | mk (a : α) (b : β) (c : γ) (d : δ) (h : p a b c d) : Ex4 p
inductive Ex2 {α β : Type} (p : α → β → Prop) : Prop where
  | mk (a : α) (b : β) (h : p a b) : Ex2 p
inductive An4 (a b c d : Prop) : Prop where
  | mk (h1 : a) (h2 : b) (h3 : c) (h4 : d) : An4 a b c d

section
variable {J : It} {D : Addr} {tt : TT} {te : TE} {fin : List V → Hp → Prop} {σ : St} {H : Hp} {ys : List V} {α : Type} {xs : List α} {P : Hp → V → α → Prop} {K : PySem.W.Frag}
end
section
variable {K : PySem.W.Frag} {a b : Addr} {xs ys : List V} {g : TG} {tb : TS} {D : Ends} {σ : St} {H : Hp} {lo : Int} {n : Nat}
noncomputable abbrev ForW (J : It) (g : TG) (tb : TS) (D : Ends) (σ : St) (H : Hp) : Prop := ∃ W : Nat → Nat → St → Hp → Prop, (∃ m, W 0 m σ H) ∧ ∀ i m σ H, W i m σ H →
      (J.stop i H ∧ D.nx σ H) ∨ (J.go i H ∧ ∃ N : St → Hp → Prop, (∀ σ' H', N σ' H' → ∃ m', m' < m ∧ W (i + 1) m' σ' H') ∧ ∀ x H', J.yld i H x H' → g x σ H' fun σ2 H2 => tb { D with nx := N, ct := N, bk := D.nx } σ2 H2)
theorem for_range2 (Pv : Nat → St → Hp → Prop) (h0 : Pv 0 σ H)
    (hs : ∀ (i : Nat) σ H, i < n → Pv i σ H → ∀ E : Ends, (∀ σ' H', Pv (i + 1) σ' H' → E.nx σ' H') → g (.int (lo + i)) σ H fun σ2 H2 => tb E σ2 H2) (hd : ∀ σ H, Pv n σ H → D.nx σ H) : ForW (Itr lo n) g tb D σ H :=
  for_range Pv h0 (fun i σ H hx p => hs i σ H hx p _ fun _ _ h => h) hd
end

noncomputable def tCut (t u : TS) : TS := fun D σ H => ∃ P : St → Hp → Prop, t { D with nx := P } σ H ∧ ∀ σ' H', P σ' H' → u D σ' H'
theorem pss_cut {X : Cx} {st : Stmt} {rest : List Stmt} {t u : TS} (h1 : PS X st t) (h2 : PSs X rest u) : PSs X (st :: rest) (tCut t u) := by
  intro pins s σ H D I h
  obtain ⟨P, h, k⟩ := h
  refine wpAny_execs_cons (thn (h1 pins s σ H { D with nx := P } I h) fun f s1 q => ?_)
  cases f with
  | next =>
    obtain ⟨σ', H', I', q⟩ := q
    exact h2 pins s1 σ' H' D I' (k _ _ q)
  | ret v => exact q
  | brk => exact q
  | cont => exact q
noncomputable def rEqNil (K : PySem.W.Frag) : R2 := fun x y H Q => ∃ a b xs, x = .ref a ∧ y = .ref b ∧ SqL K H a xs ∧ SqL K H b [] ∧ (xs = [] → Q (.bl true) H) ∧ (xs ≠ [] → Q (.bl false) H)
theorem op_eqNil {X : Cx} (hu : X.A.units < cLine) : OpR X (compareOp .Eq) (rEqNil X.K) := by
  intro pins s σ H x y v u Q I rx ry h
  obtain ⟨a, b, xs, rfl, rfl, h1, h2, q1, q2⟩ := h
  cases rx
  cases ry
  obtain ⟨us, r1, p1, _⟩ := I.list h1
  obtain ⟨ws, r2, p2, _⟩ := I.list h2
  have l1 := r1.length
  have l2 := r2.length
  rw [List.length_nil] at l2
  by_cases hl : xs = []
  · subst hl
    rw [List.length_nil] at l1
    refine SeqAt.eq_listAt p1.isList p2.isList (by simp; omega) hu (e := fun _ => true) (fun j h1 h2 => ?_) ?_
    · simp at h1
      omega
    · have : us = [] := List.length_eq_zero_iff.mp l1.symm
      subst this
      exact ⟨.bl true, H, I, rfl, q1 rfl⟩
  · have : 0 < xs.length := List.length_pos_iff.mpr hl
    exact SeqAt.eq_list_lengthsAt p1.isList p2.isList (by simp; omega) hu ⟨.bl false, H, I, rfl, q2 hl⟩
theorem cut_to {t u : TS} {D : Ends} {σ : St} {H : Hp} (P0 : St → Hp → Prop) (h1 : ∀ E : Ends, (∀ σ' H', P0 σ' H' → E.nx σ' H') → t E σ H) (h2 : ∀ σ' H', P0 σ' H' → u D σ' H') : tCut t u D σ H := ⟨P0, h1 _ fun _ _ h => h, h2⟩
theorem if_to {c : TT} {t u : TS} {D : Ends} {σ : St} {H : Hp} (C : (Bool → Hp → Prop) → Prop) (h1 : ∀ Q, C Q → c σ H Q) (h2 : C fun b H1 => if b = true then t D σ H1 else u D σ H1) : tIfS c t u D σ H := h1 _ h2
theorem cxOf_K {CX : CXT} {P : Program} {w : World} {K : PySem.W.Frag} {mg : Str → Option Value} {base : Heap} {N : List Str} {qual : Str} {scope : Scope} {f : Addr} {cd : Value} {A : Around} {outer : List Env} {s : Shared} {H : Hp} {E : XK} : (cxOf CX P w K mg base N qual scope f cd A outer s H E).K = K := rfl
theorem nox_K {X : Cx} : X.nox.K = X.K := rfl
noncomputable def rSameK (K : PySem.W.Frag) (u : Nat) : R2 := fun x y H Q => ∃ n d, isSeq d = true ∧ Is K H n x d ∧ Is K H n y d ∧ u + n < cLine ∧ Q (.bl true) H
noncomputable def rNeK (K : PySem.W.Frag) (u : Nat) : R2 := fun x y H Q => ∃ n d, isSeq d = true ∧ Is K H n x d ∧ Is K H n y d ∧ u + n < cLine ∧ Q (.bl false) H
theorem op_neK {X : Cx} : OpR X (compareOp .NotEq) (rNeK X.K X.A.units) := op_neD
theorem op_eqK {X : Cx} : OpR X (compareOp .Eq) (rSameK X.K X.A.units) := op_eqD
section
variable {X : Cx}

end
end L2
set_option Elab.async false
set_option linter.all false
set_option maxRecDepth 100000
namespace Pg
open PySem L2

noncomputable def NotName (K : PySem.W.Frag) (H : Hp) (x : V) : Prop := (∃ z, x = .str z ∧ nameB z = false ∧ z.length ≤ 100) ∨ NoStr K H x
theorem NotName.same {K : PySem.W.Frag} {H H' : Hp} {x : V} (s : Same H H') (h : NotName K H x) : NotName K H' x := h.imp id fun h => h.same s
noncomputable def sp_wordB (K : PySem.W.Frag) : Sp := fun vs H Q _ => ∃ v, vs = [v, .str "abcdefghijklmnopqrstuvwxyz"] ∧ ((∃ z, v = .str z ∧ z.length ≤ 100 ∧ ∀ H', Same H H' → Q (.bl (nameB z)) H') ∨ (NoStr K H v ∧ Q (.bl false) H))
noncomputable def sp_nameB (K : PySem.W.Frag) : Sp := fun vs H Q _ => ∃ v, vs = [v] ∧ ((∃ z, v = .str z ∧ z.length ≤ 100 ∧ ∀ H', Same H H' → Q (.bl (nameB z)) H') ∨ (NoStr K H v ∧ Q (.bl false) H))
inductive DueV (K : PySem.W.Frag) (H : Hp) : V → Bool → Prop where
  | good {t : Addr} {p : Str × Int} : H t = some (.tup (cP p)) → NameOk p.1 → DueV K H (.ref t) true
  | other {v : V} {t : Value} : TyOf K H v t → PySem.W.kitOne K t (.type "tuple") = some false → DueV K H v false
  | size {t : Addr} {xs : List V} : H t = some (.tup xs) → xs.length ≠ 2 → DueV K H (.ref t) false
  | name {t : Addr} {x y : V} : H t = some (.tup [x, y]) → NotName K H x → DueV K H (.ref t) false
  | num {t : Addr} {z : Str} {y : V} : H t = some (.tup [.str z, y]) → NameOk z → NoNum K H y → DueV K H (.ref t) false
theorem DueV.same {K : PySem.W.Frag} {H H' : Hp} {v : V} {b : Bool} (s : Same H H') (h : DueV K H v b) : DueV K H' v b := by
  cases h with
  | good a b => exact .good (s _ _ a) b
  | other a b => exact .other (a.same s) b
  | size a b => exact .size (s _ _ a) b
  | name a b => exact .name (s _ _ a) (b.same s)
  | num a b c => exact .num (s _ _ a) b (c.same s)
noncomputable def sp_dueB (K : PySem.W.Frag) : Sp := fun vs H Q _ => ∃ v b, vs = [v] ∧ DueV K H v b ∧ ∀ H', Same H H' → Q (.bl b) H'
inductive BadD (K : PySem.W.Frag) (H : Hp) : V → Prop where
  | other {v : V} {t : Value} : TyOf K H v t → PySem.W.kitOne K t (.type "list") = some false → BadD K H v
  | odd {l : Addr} {ts : List V} {bs : List Bool} : H l = some (.lst ts) → ts.length ≤ 60 → bs.length = ts.length → (∀ (j : Nat) x b, ts[j]? = some x → bs[j]? = some b → DueV K H x b) → bs.all id = false → BadD K H (.ref l)
  | twice {l : Addr} {ts : List V} {prs : List (Str × Int)} : H l = some (.lst ts) → TupsAt H ts (prs.map cP) → prs.length < 64 → (∀ p ∈ prs, NameOk p.1) → ¬ (prs.map (·.1)).Nodup → BadD K H (.ref l)
theorem BadD.same {K : PySem.W.Frag} {H H' : Hp} {v : V} (s : Same H H') (h : BadD K H v) : BadD K H' v := by
  cases h with
  | other a b => exact .other (a.same s) b
  | odd a b c d e => exact .odd (s _ _ a) b c (fun j x b h1 h2 => (d j x b h1 h2).same s) e
  | twice a b c d e => exact .twice (s _ _ a) (b.same s) c d e
noncomputable def sp_duesX (K : PySem.W.Frag) (cC : Addr) : Sp := fun vs H Q E => ∃ v, vs = [v] ∧ BadD K H v ∧ ∀ H', Same H H' → E (.ref cC) none H'
noncomputable def Later (cl : V) (mo : Int) : Prop := cl = .non ∨ ∃ c, cl = .int c ∧ c < mo
noncomputable def sp_laterE (K : PySem.W.Frag) (C cM cC : Addr) : Sp := fun vs H Q E => ∃ L dx t m cl v, vs = [.ref L, v] ∧ H L = some (.ins C dx (fsL t m cl)) ∧
  ((∃ mo, v = .int mo ∧ 0 ≤ mo ∧ mo ≤ 119999 ∧ ((Later cl mo ∧ Q .non H) ∨ ∃ c, cl = .int c ∧ mo ≤ c ∧ E (.ref cC) none H)) ∨ (NotTo K H 119999 v ∧ E (.ref cM) none H))

noncomputable def RF (K : PySem.W.Frag) (H : Hp) (cl : V) (i : Nat) (v u : V) : Prop := (i = 3 ∧ NotTo K H 119999 v) ∨ (i = 13 ∧ ∃ mo, v = .int mo ∧ 0 ≤ mo ∧ mo ≤ 119999 ∧ ((∃ c, cl = .int c ∧ mo ≤ c) ∨ (Later cl mo ∧ BadD K H u)))
theorem RF.same {K : PySem.W.Frag} {H H' : Hp} {cl : V} {i : Nat} {v u : V} (s : Same H H') (h : RF K H cl i v u) : RF K H' cl i v u := by
  rcases h with ⟨e, h⟩ | ⟨e, mo, h1, h2, h3, h4⟩
  · exact .inl ⟨e, h.same s⟩
  · exact .inr ⟨e, mo, h1, h2, h3, h4.imp id fun h => ⟨h.1, h.2.same s⟩⟩
noncomputable def sp_closeX (K : PySem.W.Frag) (C : Addr) (d : Nat → Addr) : Sp := fun vs H Q E => ∃ L dx t m cl v u i, vs = [.ref L, v, u] ∧ H L = some (.ins C dx (fsL t m cl)) ∧ RF K H cl i v u ∧ ∀ H', Same H H' → E (.ref (d i)) none H'
noncomputable def kW (i : Nat) : List V := ((kPairs i).filter (·.2)).map fun p => V.str p.1
theorem kW3 : kW 3 = [.str "month"] := by decide +kernel
theorem kW13 : kW 13 = [.str "close"] := by decide +kernel
noncomputable def sp_kindB (K : PySem.W.Frag) (d : Nat → Addr) : Sp := fun vs H Q _ => ∃ ea C i, vs = [.ref ea] ∧ Held K H ea C ∧ KdOf K d C i ∧ ∀ l H', Same H H' → H l = none → H' l = some (.lst (kW i)) → Q (.ref l) H'
noncomputable def sp_refC (K : PySem.W.Frag) (C : Addr) : Sp := fun vs H Q _ => ∃ L dx t m cl v u i, vs = [.ref L, v, u] ∧ H L = some (.ins C dx (fsL t m cl)) ∧ RF K H cl i v u ∧ ∀ l H', Same H H' → H l = none → H' l = some (.lst (kW i)) → Q (.ref l) H'
noncomputable def stV (tot : List (Str × Int)) (pl : Addr) (cl : V) : List V := [.int (getT tot "bo"), .int (getT tot "eve"), .ref pl, cl]
noncomputable def sp_stC (C : Addr) : Sp := fun vs H Q _ => ∃ L dx t m cl tot mds, vs = [.ref L] ∧ LedAt C H L dx t m cl tot mds ∧ ∀ l pl ys H', Same H H' → H l = none → H' l = some (.lst (stV tot pl cl)) → H' pl = some (.lst ys) → TupsAt H' ys (mds.map cM) → Q (.ref l) H'
noncomputable def sp_oddM (K : PySem.W.Frag) : Sp := fun vs H Q _ => ∃ c la, vs = [.int c, .int la] ∧ 0 ≤ c ∧ ∀ v H', Same H H' → NotTo K H' 119999 v → Q v H'
noncomputable def sp_oddP (K : PySem.W.Frag) : Sp := fun vs H Q _ => ∃ c, vs = [.int c] ∧ ∀ v H', Same H H' → DueV K H' v false → Q v H'

noncomputable def LsNew (K : PySem.W.Frag) (H H' : Hp) (v : V) : Prop := (∃ l ts, v = .ref l ∧ H l = none ∧ H' l = some (.lst ts)) ∨ ∃ t, TyOf K H' v t ∧ PySem.W.kitOne K t (.type "list") = some false
noncomputable def sp_badD (K : PySem.W.Frag) : Sp := fun vs H Q _ => ∃ dl t n c, vs = [.ref dl, .int c] ∧ H dl = some (.lst [.ref t]) ∧ H t = some (.tup (cP ("eve", n))) ∧ 0 ≤ c ∧ ∀ v H', Same H H' → BadD K H' v → LsNew K H H' v → Q v H'
theorem name_eve : NameOk "eve" := nameB_ok (by decide +kernel)
theorem name_bo : NameOk "bo" := nameB_ok (by decide +kernel)
theorem name_zed : NameOk "zed" := nameB_ok (by decide +kernel)
theorem name_a : NameOk "a" := nameB_ok (by decide +kernel)

noncomputable def dSt (tot : List (Str × Int)) (mds : List (Int × Str × Int)) (cl : V) : Dt := .l [.v (.int (getT tot "bo")), .v (.int (getT tot "eve")), .l (mds.map fun p => Dt.t ((cM p).map Dt.v)), .v cl]
theorem st_is {K : PySem.W.Frag} {H : Hp} {l pl : Addr} {ys : List V} {tot : List (Str × Int)} {mds : List (Int × Str × Int)} {cl : V} (fc : flatV cl = true) (h : H l = some (.lst (stV tot pl cl))) (hp : H pl = some (.lst ys)) (T : TupsAt H ys (mds.map cM)) : Is K H 3 (.ref l) (dSt tot mds cl) := by
  refine .l (SqL.of h) rfl fun j x e e1 e2 => ?_
  match j, e1, e2 with
  | 0, e1, e2 => cases e1; cases e2; exact .v rfl
  | 1, e1, e2 => cases e1; cases e2; exact .v rfl
  | 2, e1, e2 =>
    cases e1; cases e2
    refine .l (SqL.of hp) (by rw [T.len, List.length_map, List.length_map]) fun i x e e1 e2 => ?_
    rw [List.getElem?_map] at e2
    obtain ⟨p, hp', rfl⟩ := Option.map_eq_some_iff.mp e2
    obtain ⟨a, h1, h2⟩ := T.at_ i (cM p) (by rw [List.getElem?_map, hp']; rfl)
    rw [e1] at h1
    cases h1
    exact Is.flatT (SqT.of h2) rfl
  | 3, e1, e2 => cases e1; cases e2; exact .v fc
structure LgK (i : Nat) (mo : Int) (cl : V) (tot : List (Str × Int)) (mds : List (Int × Str × Int)) : Prop where
  cl : cl = .non ∨ cl = .int mo
  lo : 0 ≤ mo
  hi : mo ≤ 100000 + 15 * (i : Int)
  mn : mds.length ≤ 2 * i
  tn : tot.length ≤ 2 * i
  zd : getT tot "zed" = 0
theorem LgK.flat {i : Nat} {mo : Int} {cl : V} {tot : List (Str × Int)} {mds : List (Int × Str × Int)} (h : LgK i mo cl tot mds) : flatV cl = true := by
  rcases h.cl with rfl | rfl <;> rfl
theorem LgK.later {i : Nat} {mo z : Int} {cl : V} {tot : List (Str × Int)} {mds : List (Int × Str × Int)} (h : LgK i mo cl tot mds) (lt : mo < z) : Later cl z := by
  rcases h.cl with rfl | rfl
  · exact .inl rfl
  · exact .inr ⟨mo, rfl, lt⟩
theorem LgK.step {i : Nat} {mo mo' : Int} {cl : V} {tot prs qs : List (Str × Int)} {mds : List (Int × Str × Int)} (h : LgK i mo cl tot mds) (h0 : 0 ≤ mo') (h1 : mo' ≤ mo + 15) (pm : qs.Perm prs) (nd : (prs.map (·.1)).Nodup) (nz : ¬ ("zed" : Str) ∈ prs.map (·.1)) (l2 : prs.length = 2) :
    LgK (i + 1) mo' (.int mo') (settle tot (duesOf tot qs)) (mds ++ (duesOf tot qs).map fun p => (mo', p)) := by
  have ql : qs.length = 2 := by rw [pm.length_eq]; exact l2
  have dl := dues_len tot qs
  have sl := settle_len tot (duesOf tot qs)
  have a1 := h.hi
  have a2 := h.mn
  have a3 := h.tn
  refine ⟨.inr rfl, h0, by omega, by rw [List.length_append, List.length_map]; omega, by omega, ?_⟩
  rw [settled_get tot pm nd, getO_none nz]
  exact h.zd
theorem zed_dues {tot qs : List (Str × Int)} (h : getT tot "zed" = 0) (pm : qs.Perm [(("zed" : Str), (7 : Int))]) : duesOf tot qs = [(("zed" : Str), (7 : Int))] := by
  have e : qs = [(("zed" : Str), (7 : Int))] := List.perm_singleton.mp pm
  subst e
  unfold duesOf
  rw [List.map_cons, List.map_nil, h]
  rfl
theorem zed_is {K : PySem.W.Frag} {H : Hp} {r : Addr} {ys : List V} (h : H r = some (.lst ys)) (T : TupsAt H ys ([(("zed" : Str), (7 : Int))].map cP)) : Is K H 2 (.ref r) (.l [.t [.v (.str "zed"), .v (.int 7)]]) := by
  refine .l (SqL.of h) T.len fun j x e e1 e2 => ?_
  match j, e1, e2 with
  | 0, e1, e2 =>
    cases e2
    obtain ⟨a, h1, h2⟩ := T.at_ 0 _ rfl
    rw [e1] at h1
    cases h1
    exact Is.flatT (SqT.of h2) rfl

noncomputable def DuOk (K : PySem.W.Frag) (H : Hp) (L t m : Addr) (v : V) : Prop := (∃ l ts, v = .ref l ∧ H l = some (.lst ts) ∧ l ≠ L ∧ l ≠ t ∧ l ≠ m) ∨ ∃ ty, TyOf K H v ty ∧ PySem.W.kitOne K ty (.type "list") = some false
theorem DuOk.same {K : PySem.W.Frag} {H H' : Hp} {L t m : Addr} {v : V} (s : Same H H') (h : DuOk K H L t m v) : DuOk K H' L t m v := by
  rcases h with ⟨l, ts, h1, h2, h3⟩ | ⟨ty, h1, h2⟩
  · exact .inl ⟨l, ts, h1, s _ _ h2, h3⟩
  · exact .inr ⟨ty, h1.same s, h2⟩
end Pg
set_option Elab.async false
set_option linter.all false
set_option maxRecDepth 100000
set_option maxHeartbeats 4000000
namespace K24
open PySem PySem.NumText L2 Pg
seal PE PA PT PW PS PSs PG PGs PI PIf PO PK
section
variable {P : Program} {w : World} {K : PySem.W.Frag} {mg : Str → Option Value} {base : Heap} {f : Addr} {fd : FuncData} {d : Nat → Addr} {cR : Addr}
theorem ok_wordB (F : Fun K "is_word_of" "is_word_of" (top 23) f fd) (G : Glb mg) (N1 : Num mg "MOST_SIGNS" 8) : FnOk P w K mg base CX0 1 f fd ["thing", "signs"] (sp_wordB K) := by
  obtain ⟨tm, hm⟩ := N1
  have nc : (["sign", "signs"] : List Str).Nodup := by decide +kernel
  refine F.ok (N := ["thing", "signs"]) ⟨rfl, rfl, rfl, by decide +kernel, rfl, by decide +kernel, by decide +kernel⟩ (fun vs H Q E h => ?_) (fun cdv A outer s H vs Q E hr h => ?_)
  · obtain ⟨z, rfl, _⟩ := h
    rfl
  · obtain ⟨v, rfl, h⟩ := h
    refine' ⟨_, (pss_cons (ps_if (pt_not (pt_val (pe_callB call_isinst rfl G.isinstance boot_isinstance (pa_cons (pv 0) (pa_cons (pe_bltn (v := .ty "str") rfl G.str boot_str rfl) pa_nil))))) (pss_one (ps_ret pe_bl)) pss_nil)
        (pss_cons (ps_if (PW.pt (pw_or (pt_cmpR op_lt (pe_callB call_len_str rfl G.len boot_len (pa_cons (pv 0) pa_nil)) pe_int (nomark _)) (pw_or1 (pt_cmpR op_gt (pe_callB call_len_str rfl G.len boot_len (pa_cons (pv 0) pa_nil)) (pe_glob (v := .int 8) rfl hm ⟨_, rfl⟩) (nomark _))))) (pss_one (ps_ret pe_bl)) pss_nil)
        (pss_one (ps_ret (pe_callB (call_allL rfl) rfl G.all boot_all (pa_cons ?comp pa_nil)))))), ?main⟩
    case comp =>
      refine' pe_compI (Nc := ["sign", "signs"]) (cl := [("signs", s.heap.objs.size + 1)]) (src := [none, some 1]) (wi := iStr (tVar 0)) (g := gName 0) (tt := tNoIf) (te := tOp (fun x y H Q => ∃ i j, x = .str i ∧ y = .str j ∧ Q (.bl (!(Builtin.Str.occurrences j i 0 j.length 1).isEmpty)) H) (tVar 0) (tVar 1)) ⟨rfl, rfl, by decide +kernel, by decide +kernel, sub_of (sub1 rfl), has_of (by rfl), frm_none (frm_some ⟨_, rfl, rfl, rfl, rfl⟩ frm_nil), rfl⟩ rfl (pi_str (pv 0)) ?hb
      case hb =>
        intro fp C' s' H'
        exact ⟨pg_name (i := 0) nc rfl (Or.inl rfl), pif_nil, pe_cmpR op_in_str (pv 0) (pv 1) (by rfl)⟩
    rcases h with ⟨z, rfl, zl, q⟩ | ⟨⟨r, hr', ty, ne⟩, q⟩
    · have fit : z.length ≤ sizeLine := by rw [sizeLine_eq]; omega
      refine ⟨_, rfl, _, _, _, _, true, rfl, rfl, .inl (.str z), rfl, true, rfl, iteF ?_⟩
      refine ⟨_, rfl, z, rfl, fit, _, _, rfl, rfl, _, rfl, ite2 (fun e => iteT ?_) (fun e => ⟨_, rfl, z, rfl, fit, _, _, rfl, rfl, _, rfl, ite2 (fun e2 => ?_) (fun e2 => ?_)⟩)⟩
      · have e := of_decide_eq_true e
        have nb : nameB z = false := by unfold nameB; rw [decide_eq_false (show ¬ 1 ≤ z.length by omega)]; rfl
        rw [nb] at q
        exact q H (Same.refl _)
      · have e2 := of_decide_eq_true e2
        have nb : nameB z = false := by unfold nameB; rw [decide_eq_false (show ¬ z.length ≤ 8 by omega), Bool.and_false]; rfl
        rw [nb] at q
        exact q H (Same.refl _)
      · have l1 : 1 ≤ z.length := by
          have e : ¬ ((z.length : Nat) : Int) < 1 := fun c => e (decide_eq_true c)
          omega
        have l8 : z.length ≤ 8 := by
          have e2 : ¬ (8 : Int) < ((z.length : Nat) : Int) := fun c => e2 (decide_eq_true c)
          omega
        refine ⟨_, rfl, z, rfl, fun D hD => ?_⟩
        refine comp_fm (walk_str (z := z)) hD (by rw [List.length_map, ← len_codes, sizeLine_eq]; omega) (fun _ => true) (fun x => match x with | .str y => .bl (isL (y.cps.getD 0 0)) | v => v) (fun x _ H' R _ r => r) (fun x hx _ H' R _ r => ?_) ?_
        · obtain ⟨c, _, rfl⟩ := List.mem_map.mp hx
          refine ⟨_, rfl, _, rfl, _, _, rfl, rfl, ?_⟩
          rw [letter_in]
          exact r
        · rw [List.filter_eq_self.mpr fun _ _ => rfl, List.map_map]
          refine ⟨D, z.cps.toList.map isL, rfl, SqL.of (by rw [List.map_map]; exact upd_same), ?_⟩
          have e2 : (z.cps.toList.map isL).all id = nameB z := by
            unfold nameB
            rw [List.all_map, decide_eq_true l1, decide_eq_true l8]
            rfl
          rw [e2]
          exact q _ (Same.upd hD)
    · obtain ⟨_, _, k3, _⟩ := kit_tab (K := K) r hr'
      have e : r.2.2.2.1 = false := by
        simp only [numT, List.mem_cons, List.not_mem_nil, or_false] at hr'
        rcases hr' with rfl | rfl | rfl | rfl | rfl | rfl | rfl <;> first | rfl | (exact absurd rfl ne)
      rw [e] at k3
      exact ⟨_, rfl, _, _, _, _, false, rfl, rfl, .inl ty, k3, false, rfl, iteT q⟩
theorem ok_nameB (F : Fun K "is_name" "is_name" (top 24) f fd) (N1 : Txt mg "LETTERS" "abcdefghijklmnopqrstuvwxyz") (C1 : Cal P w K mg base CX0 1 "is_word_of" ["thing", "signs"] (sp_wordB K)) : FnOk P w K mg base CX0 2 f fd ["thing"] (sp_nameB K) := by
  obtain ⟨tm, hm⟩ := N1
  refine F.ok (N := ["thing"]) ⟨rfl, rfl, rfl, by decide +kernel, rfl, by decide +kernel, by decide +kernel⟩ (fun vs H Q E h => ?_) (fun cdv A outer s H vs Q E hr h => ?_)
  · obtain ⟨z, rfl, _⟩ := h
    rfl
  · obtain ⟨v, rfl, h⟩ := h
    exact ⟨_, pss_one (ps_ret (pe_cal C1 hr (by decide) pass0 (pa_cons (pv 0) (pa_cons (pe_glob (v := .str "abcdefghijklmnopqrstuvwxyz") rfl hm ⟨_, rfl⟩) pa_nil)))), _, rfl, v, rfl, h⟩
end
end K24
set_option Elab.async false
set_option linter.all false
set_option maxRecDepth 100000
set_option maxHeartbeats 4000000
namespace K24
open PySem PySem.NumText L2 Pg
seal PE PA PT PW PS PSs PG PGs PI PIf PO PK
section
variable {P : Program} {w : World} {K : PySem.W.Frag} {mg : Str → Option Value} {base : Heap} {f : Addr} {fd : FuncData} {d : Nat → Addr} {cR : Addr}
theorem ok_dueB (F : Fun K "is_due" "is_due" (top 29) f fd) (G : Glb mg) (C1 : Cal P w K mg base CX0 1 "is_number" ["thing"] (sp_is_number K)) (C2 : Cal P w K mg base CX0 2 "is_name" ["thing"] (sp_nameB K)) : FnOk P w K mg base CX0 3 f fd ["thing"] (sp_dueB K) := by
  refine F.ok (N := ["thing"]) ⟨rfl, rfl, rfl, by decide +kernel, rfl, by decide +kernel, by decide +kernel⟩ (fun vs H Q E h => ?_) (fun cdv A outer s H vs Q E hr h => ?_)
  · obtain ⟨v, b, rfl, _⟩ := h
    rfl
  · obtain ⟨v, b, rfl, hv, q⟩ := h
    refine ⟨_, (pss_cons (ps_if (PW.pt (pw_or (pt_not (pt_val (pe_callB call_isinst rfl G.isinstance boot_isinstance (pa_cons (pv 0) (pa_cons (pe_bltn (v := .ty "tuple") rfl G.tuple boot_tuple rfl) pa_nil))))) (pw_or1 (pt_cmpR op_ne (pe_callB call_len_seq rfl G.len boot_len (pa_cons (pv 0) pa_nil)) pe_int (nomark _))))) (pss_one (ps_ret pe_bl)) pss_nil)
        (pss_one (ps_ret (pe_and (pe_cal C2 hr (by decide) pass0 (pa_cons (pe_at ix_tup (pv 0) pe_int) pa_nil)) (pe_one (pe_cal C1 hr (by decide) pass0 (pa_cons (pe_at ix_tup (pv 0) pe_int) pa_nil))))))), ?_⟩
    cases hv with
    | @good t p ht hp =>
      refine ⟨_, rfl, _, _, _, _, true, rfl, rfl, .inl (.tup ht), rfl, true, rfl, iteF ?_⟩
      refine ⟨_, rfl, t, _, rfl, .inr (SqT.of ht), rfl, _, rfl, iteNS rfl ?_⟩
      have l8 := hp.hi
      have nb : nameB p.1 = true := by unfold nameB; rw [decide_eq_true hp.lo, decide_eq_true hp.hi, hp.all]; rfl
      refine ⟨_, rfl, t, _, 0, _, rfl, rfl, SqT.of ht, rfl, _, rfl, .inl ⟨p.1, rfl, by omega, fun H' s' => ?_⟩⟩
      rw [nb]
      exact ⟨true, rfl, iteT ⟨_, rfl, t, _, 1, _, rfl, rfl, SqT.of (s' _ _ ht), rfl, _, rfl, .inl ⟨p.2, rfl, q H' s'⟩⟩⟩
    | @other _ ty h1 h2 => exact ⟨_, rfl, _, _, _, _, false, rfl, rfl, .inl h1, h2, false, rfl, iteT (iteT (q H (Same.refl _)))⟩
    | @size t xs ht hx =>
      refine ⟨_, rfl, _, _, _, _, true, rfl, rfl, .inl (.tup ht), rfl, true, rfl, iteF ?_⟩
      refine ⟨_, rfl, t, _, rfl, .inr (SqT.of ht), rfl, _, rfl, ?_⟩
      have e : (!decide (V.int ((xs.length : Nat) : Int) = V.int 2)) = true := by
        rw [decide_eq_false fun c => hx (by injection c with c; omega)]
        rfl
      rw [e]
      exact iteT (q H (Same.refl _))
    | @name t x y ht hx =>
      refine ⟨_, rfl, _, _, _, _, true, rfl, rfl, .inl (.tup ht), rfl, true, rfl, iteF ?_⟩
      refine ⟨_, rfl, t, _, rfl, .inr (SqT.of ht), rfl, _, rfl, iteNS rfl ?_⟩
      refine ⟨_, rfl, t, _, 0, _, rfl, rfl, SqT.of ht, rfl, _, rfl, ?_⟩
      rcases hx with ⟨z, rfl, nb, zl⟩ | ns
      · refine .inl ⟨z, rfl, zl, fun H' s' => ?_⟩
        rw [nb]
        exact ⟨false, rfl, iteF (q H' s')⟩
      · exact .inr ⟨ns, false, rfl, iteF (q H (Same.refl _))⟩
    | @num t z y ht hp hy =>
      refine ⟨_, rfl, _, _, _, _, true, rfl, rfl, .inl (.tup ht), rfl, true, rfl, iteF ?_⟩
      refine ⟨_, rfl, t, _, rfl, .inr (SqT.of ht), rfl, _, rfl, iteNS rfl ?_⟩
      have l8 := hp.hi
      have nb : nameB z = true := by unfold nameB; rw [decide_eq_true hp.lo, decide_eq_true hp.hi, hp.all]; rfl
      refine ⟨_, rfl, t, _, 0, _, rfl, rfl, SqT.of ht, rfl, _, rfl, .inl ⟨z, rfl, by omega, fun H' s' => ?_⟩⟩
      rw [nb]
      exact ⟨true, rfl, iteT ⟨_, rfl, t, _, 1, _, rfl, rfl, SqT.of (s' _ _ ht), rfl, _, rfl, .inr ⟨hy.same s', q H' s'⟩⟩⟩
set_option maxHeartbeats 4000000 in
theorem ok_duesX {cC : Addr} (F : Fun K "need_dues" "need_dues" (top 30) f fd) (G : Glb mg) (X : Er K mg "BadClose" cC) (C1 : Cal P w K mg base CX0 3 "is_due" ["thing"] (sp_dueB K)) : FnOk P w K mg base (CXE P w) 4 f fd ["thing"] (sp_duesX K cC) := by
  have nc : (["pair"] : List Str).Nodup := by decide +kernel
  refine F.okE (N := ["thing"]) ⟨rfl, rfl, rfl, by decide +kernel, rfl, by decide +kernel, by decide +kernel⟩ (fun vs H Q E h => ?_) (fun cdv A outer s H vs Q E hr h => ?_)
  · obtain ⟨v, rfl, _⟩ := h
    rfl
  · obtain ⟨v, rfl, hv, q⟩ := h
    refine' ⟨_, (pss_cons (ps_if (PW.pt (pw_or (pt_not (pt_val (pe_callB call_isinst rfl G.isinstance boot_isinstance (pa_cons (pv 0) (pa_cons (pe_bltn (v := .ty "list") rfl G.list boot_list rfl) pa_nil))))) (pw_or1 (pt_not (pt_val (pe_callB (call_allL rfl) rfl G.all boot_all (pa_cons ?comp_2 pa_nil))))))) (pss_one (ps_raise throws_fn rfl rfl X.at' X.ex (pa_cons pe_str pa_nil))) pss_nil)
        (pss_one (ps_if (pt_cmpR op_lt (pe_lenSet rfl rfl G.len rfl G.set (pa_cons ?comp_1 pa_nil)) (pe_callB call_len_seq rfl G.len boot_len (pa_cons (pv 0) pa_nil)) (nomark _)) (pss_one (ps_raise throws_fn rfl rfl X.at' X.ex (pa_cons pe_str pa_nil))) pss_nil))), ?main⟩
    case comp_2 =>
      refine' pe_compI (Nc := ["pair"]) (cl := []) (src := [none]) (wi := iList K (tVar 0)) (g := gName 0) (tt := tNoIf) (te := fun σ H Q => tCons (tVar 0) tNil σ H fun vs H1 => sp_dueB K vs H1 Q E0) ⟨rfl, rfl, by decide +kernel, by decide +kernel, (fun x c z => nomatch z), has_of (by rfl), frm_none frm_nil, rfl⟩ rfl (pi_list (pv 0)) ?hb
      case hb =>
        intro fp C' s' H'
        exact ⟨pg_name (i := 0) nc rfl (Or.inl rfl), pif_nil, pe_cal C1 hr (by decide) pass0 (pa_cons (pv 0) pa_nil)⟩
    case comp_1 =>
      refine' pe_compI (Nc := ["pair"]) (cl := []) (src := [none]) (wi := iList K (tVar 0)) (g := gName 0) (tt := tNoIf) (te := tOp (rIxT K) (tVar 0) (tC (.int 0))) ⟨rfl, rfl, by decide +kernel, by decide +kernel, (fun x c z => nomatch z), has_of (by rfl), frm_none frm_nil, rfl⟩ rfl (pi_list (pv 0)) ?hb
      case hb =>
        intro fp C' s' H'
        exact ⟨pg_name (i := 0) nc rfl (Or.inl rfl), pif_nil, pe_at ix_tup (pv 0) pe_int⟩
    cases hv with
    | @other _ ty h1 h2 => exact ⟨_, rfl, _, _, _, _, false, rfl, rfl, .inl h1, h2, false, rfl, iteT (iteT ⟨by decide, q H (Same.refl _)⟩)⟩
    | @odd l ts bs hl tl bl DV no =>
      have T : ItemsAt H ts bs (fun H v b => DueV K H v b) := ⟨bl.symm, fun j y e => by
        have hj : j < bs.length := by rw [bl]; exact (List.getElem?_eq_some_iff.mp e).1
        exact ⟨_, List.getElem?_eq_getElem hj, fun H' s' => (DV j y _ e (List.getElem?_eq_getElem hj)).same s'⟩⟩
      refine ⟨_, rfl, _, _, _, _, true, rfl, rfl, .inl (.lst hl), rfl, true, rfl, iteF ?_⟩
      refine ⟨_, rfl, l, rfl, ⟨_, SqL.of hl⟩, fun D hD => comp_at (walk_list (K := K) (SqL.of hl)) T hD (by rw [bl, sizeLine_eq]; omega) (fun b => .bl b) (fun b _ v H' R s' hv r => ⟨_, rfl, v, b, rfl, hv, r⟩) (fun H1 s1 e1 => ?_)⟩
      refine ⟨D, bs, rfl, SqL.of e1, _, rfl, ?_⟩
      rw [no]
      exact iteT ⟨by decide, q H1 s1⟩
    | @twice l ts prs hl T l64 ok nnd =>
      have tl : ts.length = prs.length := by rw [T.len, List.length_map]
      have fit : ts.length < sizeLine := by rw [tl, sizeLine_eq]; omega
      refine ⟨_, rfl, _, _, _, _, true, rfl, rfl, .inl (.lst hl), rfl, true, rfl, iteF ?_⟩
      refine ⟨_, rfl, l, rfl, ⟨_, SqL.of hl⟩, fun D hD => comp_fmS (walk_list (K := K) (SqL.of hl)) hD fit (fun _ => true) (fun _ => .bl true) (fun x _ H' R _ r => r _ (Same.refl _)) (fun x hx _ H' R s' r => ?_) (fun H1 s1 e1 => ?_)⟩
      · obtain ⟨i, hi⟩ := List.mem_iff_getElem?.mp hx
        obtain ⟨a, c, rfl, h1, h2⟩ := T.of_at hi
        rw [List.getElem?_map] at h1
        obtain ⟨p, hp, rfl⟩ := Option.map_eq_some_iff.mp h1
        exact ⟨_, rfl, _, true, rfl, .good (s' _ _ h2) (ok p (List.mem_of_getElem? hp)), r⟩
      · rw [List.filter_eq_self.mpr fun _ _ => rfl] at e1
        refine ⟨D, ts.map fun _ => true, rfl, SqL.of (by rw [List.map_map]; exact e1), true, ?_, iteF ?_⟩
        · exact congrArg V.bl (by rw [List.all_map]; exact List.all_eq_true.mpr fun _ _ => rfl)
        have hl1 := s1 _ _ hl
        have T1 := T.same s1
        obtain ⟨φ, hφ⟩ : ∃ φ : V → V, ∀ a p, H1 a = some (.tup (cP p)) → φ (.ref a) = .str p.1 := by
          refine ⟨fun x => match x with | .ref a => (match H1 a with | some (.tup (v :: _)) => v | _ => .non) | v => v, fun a p h => ?_⟩
          show (match H1 a with | some (.tup (v :: _)) => v | _ => V.non) = _
          rw [h]
          rfl
        have eφ : (ts.filter fun _ => true).map φ = (prs.map (·.1)).map V.str := by
          rw [List.filter_eq_self.mpr fun _ _ => rfl]
          apply List.ext_getElem?
          intro i
          rw [List.getElem?_map, List.getElem?_map, List.getElem?_map]
          by_cases hi : i < prs.length
          · have hp := List.getElem?_eq_getElem hi
            obtain ⟨a, h1, h2⟩ := T1.at_ i _ (by rw [List.getElem?_map, hp]; rfl)
            rw [h1, hp, Option.map_some, hφ a _ h2]
            rfl
          · rw [List.getElem?_eq_none (by omega), List.getElem?_eq_none (by omega)]
            rfl
        refine ⟨_, rfl, l, rfl, ⟨_, SqL.of hl1⟩, fun D2 hD2 => comp_fm (walk_list (K := K) (SqL.of hl1)) hD2 fit (fun _ => true) φ (fun x _ H' R _ r => r) (fun x hx _ H' R s' r => ?_) ?_⟩
        · obtain ⟨i, hi⟩ := List.mem_iff_getElem?.mp hx
          obtain ⟨a, c, rfl, h1, h2⟩ := T1.of_at hi
          rw [List.getElem?_map] at h1
          obtain ⟨p, hp, rfl⟩ := Option.map_eq_some_iff.mp h1
          rw [hφ a p h2] at r
          exact ⟨_, rfl, a, _, 0, _, rfl, rfl, SqT.of (s' _ _ h2), rfl, r⟩
        · rw [eφ]
          refine ⟨D2, prs.map (·.1), rfl, SqL.of upd_same, by rw [List.length_map]; omega, fun n n1 n2 => ?_⟩
          refine ⟨_, rfl, l, ts, rfl, .inl (SqL.of (Same.upd hD2 _ _ hl1)), _, _, rfl, rfl, _, rfl, ite2 (fun _ => ⟨by decide, q _ (s1.trans (Same.upd hD2))⟩) (fun e => ?_)⟩
          have := n2.mpr nnd
          rw [List.length_map] at this
          exact absurd (decide_eq_true (show (n : Int) < ((ts.length : Nat) : Int) by omega)) e
end
end K24
set_option Elab.async false
set_option linter.all false
set_option maxRecDepth 100000
set_option maxHeartbeats 4000000
namespace K24
open PySem PySem.NumText L2 Pg
seal PE PA PT PW PS PSs PG PGs PI PIf PO PK
section
variable {P : Program} {w : World} {K : PySem.W.Frag} {mg : Str → Option Value} {base : Heap} {f : Addr} {fd : FuncData} {d : Nat → Addr} {cR : Addr}
theorem ok_laterE {C cM cC : Addr} (F : Fun K "need_later" "Ledger.need_later" (inClass (top 31) 1) f fd) (LK : LdgK K C) (X : Er K mg "BadClose" cC) (C1 : Cal P w K mg base (CXE P w) 3 "need_month" ["thing"] (sp_need K cM 119999)) : FnOk P w K mg base (CXE P w) 4 f fd ["self", "month"] (sp_laterE K C cM cC) := by
  refine F.okE (N := ["self", "month"]) ⟨rfl, rfl, rfl, by decide +kernel, rfl, by decide +kernel, by decide +kernel⟩ (fun vs H Q E h => ?_) (fun cdv A outer s H vs Q E hr h => ?_)
  · obtain ⟨L, dx, t, m, cl, v, rfl, _⟩ := h
    rfl
  · obtain ⟨L, dx, t, m, cl, v, rfl, hL, h⟩ := h
    refine ⟨_, pss_cons (ps_expr (pe_cal C1 hr (by decide) passE (pa_cons (pv 1) pa_nil))) (pss_one (ps_if (PW.pt (pw_and (pt_cmp (pc_notN (pe_fld (pv 0) rfl))) (pw_and1 (pt_cmpR op_le (pv 1) (pe_fld (pv 0) rfl) (nomark _))))) (pss_one (ps_raise throws_fn rfl rfl X.at' X.ex (pa_cons pe_str pa_nil))) pss_nil)), ?_⟩
    rcases h with ⟨mo, rfl, h0, h1, h⟩ | ⟨nt, q⟩
    · refine ⟨_, rfl, _, rfl, .inl ⟨mo, rfl, h0, h1, _, rfl, L, C, dx, _, cl, rfl, hL, LK.cls, LK.nC, rfl, _, rfl, ?_⟩⟩
      rcases h with ⟨rfl | ⟨c, rfl, lt⟩, q⟩ | ⟨c, rfl, le, q⟩
      · exact iteNS rfl (iteF q)
      · exact ite2 (fun _ => ⟨_, rfl, _, rfl, L, C, dx, _, _, rfl, hL, LK.cls, LK.nC, rfl, _, _, rfl, rfl, _, rfl, ite2 (fun e => absurd (of_decide_eq_true e) (by omega)) (fun _ => q)⟩) (fun _ => iteF q)
      · exact iteT ⟨_, rfl, _, rfl, L, C, dx, _, _, rfl, hL, LK.cls, LK.nC, rfl, _, _, rfl, rfl, _, rfl, ite2 (fun _ => ⟨by decide, q⟩) (fun e => absurd (decide_eq_true le) e)⟩
    · exact ⟨_, rfl, _, rfl, .inr ⟨nt, q⟩⟩
theorem ok_closeX {C : Addr} (F : Fun K "close" "Ledger.close" (inClass (top 31) 2) f fd) (M1 : CalM P w K mg base (CXE P w) 4 C "need_later" ["self", "month"] (sp_laterE K C (d 3) (d 13))) (C1 : Cal P w K mg base (CXE P w) 4 "need_dues" ["thing"] (sp_duesX K (d 13))) : FnOk P w K mg base (CXE P w) 5 f fd ["self", "month", "dues"] (sp_closeX K C d) := by
  refine F.okE (N := ["self", "month", "dues", "unpaid", "paid_now", "name", "amount"]) ⟨rfl, rfl, rfl, by decide +kernel, rfl, by decide +kernel, by decide +kernel⟩ (fun vs H Q E h => ?_) (fun cdv A outer s H vs Q E hr h => ?_)
  · obtain ⟨L, dx, t, m, cl, v, u, i, rfl, _⟩ := h
    rfl
  · obtain ⟨L, dx, t, m, cl, v, u, i, rfl, hL, rf, q⟩ := h
    refine ⟨_, (pss_cons (ps_expr (pe_calM M1 hr (by decide) passE (pv 0) (pa_cons (pv 1) pa_nil)))
        (pss_cons (ps_expr (pe_cal C1 hr (by decide) passE (pa_cons (pv 2) pa_nil))) pss_never)), ?_⟩
    rcases rf with ⟨rfl, nt⟩ | ⟨rfl, mo, rfl, h0, h1, h⟩
    · exact ⟨_, rfl, L, dx, _, rfl, hL, rfl, _, rfl, L, dx, t, m, cl, v, rfl, hL, .inr ⟨nt, q H (Same.refl _)⟩⟩
    · refine ⟨_, rfl, L, dx, _, rfl, hL, rfl, _, rfl, L, dx, t, m, cl, _, rfl, hL, .inl ⟨mo, rfl, h0, h1, ?_⟩⟩
      rcases h with ⟨c, e, le⟩ | ⟨la, bd⟩
      · exact .inr ⟨c, e, le, q H (Same.refl _)⟩
      · exact .inl ⟨la, _, rfl, u, rfl, bd, q⟩
end
end K24
set_option Elab.async false
set_option linter.all false
set_option maxRecDepth 100000
set_option maxHeartbeats 4000000
namespace K24
open PySem PySem.NumText L2 Pg
seal PE PA PT PW PS PSs PG PGs PI PIf PO PK
section
variable {P : Program} {w : World} {K : PySem.W.Frag} {mg : Str → Option Value} {base : Heap} {f : Addr} {fd : FuncData} {d : Nat → Addr} {cR : Addr}
set_option maxHeartbeats 4000000 in
theorem ok_kindB {d : Nat → Addr} (F : Fun K "_law_kind" "_law_kind" (top 35) f fd) (G : Glb mg) (D : Kds mg d) : FnOkQ P w K mg base 1 f fd ["_law_e"] (sp_kindB K d) := by
  have nd : (["_law_e", "_law_some"] : List Str).Nodup := by decide +kernel
  have nc : (["_law_word", "_law_fits"] : List Str).Nodup := by decide +kernel
  refine F.okQ (N := ["_law_e", "_law_some"]) ⟨rfl, rfl, rfl, by decide +kernel, rfl, by decide +kernel, by decide +kernel⟩ (fun vs H Q E h => ?_) (fun cdv A outer s H vs Q hr hq h => ?_)
  · obtain ⟨ea, C, i, rfl, _⟩ := h
    rfl
  · obtain ⟨ea, C, i, rfl, h0, kd, q⟩ := h
    refine' ⟨_, (pss_cons (ps_set (i := 1) nd rfl (Or.inl rfl) (pe_lstS (pa_cons (pe_tupS (pa_cons pe_str (pa_cons (pe_callB call_isinst rfl G.isinstance boot_isinstance (pa_cons (pv 0) (pa_cons (pe_glob (v := .ref (d 0)) rfl D.g0 rfl) pa_nil))) pa_nil))) (pa_cons (pe_tupS (pa_cons pe_str (pa_cons (pe_callB call_isinst rfl G.isinstance boot_isinstance (pa_cons (pv 0) (pa_cons (pe_glob (v := .ref (d 1)) rfl D.g1 rfl) pa_nil))) pa_nil))) pa_nil))))
      (pss_cons (ps_set (i := 1) nd rfl (Or.inl rfl) (pe_op op_catS (pv 1) (pe_lstS (pa_cons (pe_tupS (pa_cons pe_str (pa_cons (pe_callB call_isinst rfl G.isinstance boot_isinstance (pa_cons (pv 0) (pa_cons (pe_glob (v := .ref (d 2)) rfl D.g2 rfl) pa_nil))) pa_nil))) (pa_cons (pe_tupS (pa_cons pe_str (pa_cons (pe_callB call_isinst rfl G.isinstance boot_isinstance (pa_cons (pv 0) (pa_cons (pe_glob (v := .ref (d 3)) rfl D.g3 rfl) pa_nil))) pa_nil))) pa_nil)))))
      (pss_cons (ps_set (i := 1) nd rfl (Or.inl rfl) (pe_op op_catS (pv 1) (pe_lstS (pa_cons (pe_tupS (pa_cons pe_str (pa_cons (pe_callB call_isinst rfl G.isinstance boot_isinstance (pa_cons (pv 0) (pa_cons (pe_glob (v := .ref (d 4)) rfl D.g4 rfl) pa_nil))) pa_nil))) (pa_cons (pe_tupS (pa_cons pe_str (pa_cons (pe_callB call_isinst rfl G.isinstance boot_isinstance (pa_cons (pv 0) (pa_cons (pe_glob (v := .ref (d 5)) rfl D.g5 rfl) pa_nil))) pa_nil))) pa_nil)))))
      (pss_cons (ps_set (i := 1) nd rfl (Or.inl rfl) (pe_op op_catS (pv 1) (pe_lstS (pa_cons (pe_tupS (pa_cons pe_str (pa_cons (pe_callB call_isinst rfl G.isinstance boot_isinstance (pa_cons (pv 0) (pa_cons (pe_glob (v := .ref (d 6)) rfl D.g6 rfl) pa_nil))) pa_nil))) (pa_cons (pe_tupS (pa_cons pe_str (pa_cons (pe_callB call_isinst rfl G.isinstance boot_isinstance (pa_cons (pv 0) (pa_cons (pe_glob (v := .ref (d 7)) rfl D.g7 rfl) pa_nil))) pa_nil))) (pa_cons (pe_tupS (pa_cons pe_str (pa_cons (pe_callB call_isinst rfl G.isinstance boot_isinstance (pa_cons (pv 0) (pa_cons (pe_glob (v := .ref (d 8)) rfl D.g8 rfl) pa_nil))) pa_nil))) pa_nil))))))
      (pss_cons (ps_set (i := 1) nd rfl (Or.inl rfl) (pe_op op_catS (pv 1) (pe_lstS (pa_cons (pe_tupS (pa_cons pe_str (pa_cons (pe_callB call_isinst rfl G.isinstance boot_isinstance (pa_cons (pv 0) (pa_cons (pe_glob (v := .ref (d 9)) rfl D.g9 rfl) pa_nil))) pa_nil))) (pa_cons (pe_tupS (pa_cons pe_str (pa_cons (pe_callB call_isinst rfl G.isinstance boot_isinstance (pa_cons (pv 0) (pa_cons (pe_glob (v := .ref (d 10)) rfl D.g10 rfl) pa_nil))) pa_nil))) pa_nil)))))
      (pss_cons (ps_set (i := 1) nd rfl (Or.inl rfl) (pe_op op_catS (pv 1) (pe_lstS (pa_cons (pe_tupS (pa_cons pe_str (pa_cons (pe_callB call_isinst rfl G.isinstance boot_isinstance (pa_cons (pv 0) (pa_cons (pe_glob (v := .ref (d 11)) rfl D.g11 rfl) pa_nil))) pa_nil))) (pa_cons (pe_tupS (pa_cons pe_str (pa_cons (pe_callB call_isinst rfl G.isinstance boot_isinstance (pa_cons (pv 0) (pa_cons (pe_glob (v := .ref (d 12)) rfl D.g12 rfl) pa_nil))) pa_nil))) pa_nil)))))
      (pss_cons (ps_set (i := 1) nd rfl (Or.inl rfl) (pe_op op_catS (pv 1) (pe_lstS (pa_cons (pe_tupS (pa_cons pe_str (pa_cons (pe_callB call_isinst rfl G.isinstance boot_isinstance (pa_cons (pv 0) (pa_cons (pe_glob (v := .ref (d 13)) rfl D.g13 rfl) pa_nil))) pa_nil))) (pa_cons (pe_tupS (pa_cons pe_str (pa_cons (pe_callB call_isinst rfl G.isinstance boot_isinstance (pa_cons (pv 0) (pa_cons (pe_glob (v := .ref (d 14)) rfl D.g14 rfl) pa_nil))) pa_nil))) pa_nil)))))
      (pss_one (ps_ret (pe_op op_catS ?comp (pe_op op_repS (pe_lstS (pa_cons pe_str pa_nil)) (pe_callTy call_int1 rfl G.int boot_int (pa_cons (pe_not (pe_callB call_isinst rfl G.isinstance boot_isinstance (pa_cons (pv 0) (pa_cons (pe_bltn (v := .ty "ValueError") rfl G.ve boot_VE rfl) pa_nil)))) pa_nil))))))))))))), ?main⟩
    case comp =>
      refine' pe_comp (Nc := ["_law_word", "_law_fits"]) (cl := []) (src := List.replicate 2 none) (g := gTup K 2 (gCons (gName 0) (gCons (gName 1) gNil))) (tt := tB (tVar 1)) (te := tVar 0) ⟨rfl, rfl, by decide +kernel, by decide +kernel, (fun x c z => nomatch z), no_cells (by rfl), no_src, rfl⟩ hq (pv 1) ?hb
      case hb =>
        intro it C s' H' hq'
        exact ⟨pg_tupQ hq' (pgs_cons (pg_name (i := 0) nc rfl (Or.inl rfl)) (pgs_cons (pg_name (i := 1) nc rfl (Or.inl rfl)) pgs_nil)), pif_one (pt_val (pv 1)), pv 0⟩
    refine k_lst [(("amount" : Str), d 0, decide (i = 0)), (("share" : Str), d 1, decide (i = 1))] rfl h0 (List.forall_mem_cons.mpr ⟨kd.k0, (List.forall_mem_cons.mpr ⟨kd.k1, (fun _ h => nomatch h)⟩)⟩) rfl fun l0 u0 H0 s0 e0 k0 => ?_
    refine k_cat [(("text" : Str), d 2, decide (i = 2)), (("month" : Str), d 3, decide (i = 3))] rfl rfl e0 k0 (h0.same s0) (List.forall_mem_cons.mpr ⟨kd.k2, (List.forall_mem_cons.mpr ⟨kd.k3, (fun _ h => nomatch h)⟩)⟩) rfl rfl fun l1 u1 H1 s1 e1 k1 => ?_
    have S1 : Same H H1 := s0.trans s1
    refine k_cat [(("year" : Str), d 4, decide (i = 4)), (("rule" : Str), d 5, decide (i = 5))] rfl rfl e1 k1 (h0.same S1) (List.forall_mem_cons.mpr ⟨kd.k4, (List.forall_mem_cons.mpr ⟨kd.k5, (fun _ h => nomatch h)⟩)⟩) rfl rfl fun l2 u2 H2 s2 e2 k2 => ?_
    have S2 : Same H H2 := S1.trans s2
    refine k_cat [(("book" : Str), d 6, decide (i = 6)), (("noyear" : Str), d 7, decide (i = 7)), (("day" : Str), d 8, decide (i = 8))] rfl rfl e2 k2 (h0.same S2) (List.forall_mem_cons.mpr ⟨kd.k6, (List.forall_mem_cons.mpr ⟨kd.k7, (List.forall_mem_cons.mpr ⟨kd.k8, (fun _ h => nomatch h)⟩)⟩)⟩) rfl rfl fun l3 u3 H3 s3 e3 k3 => ?_
    have S3 : Same H H3 := S2.trans s3
    refine k_cat [(("entry" : Str), d 9, decide (i = 9)), (("nomark" : Str), d 10, decide (i = 10))] rfl rfl e3 k3 (h0.same S3) (List.forall_mem_cons.mpr ⟨kd.k9, (List.forall_mem_cons.mpr ⟨kd.k10, (fun _ h => nomatch h)⟩)⟩) rfl rfl fun l4 u4 H4 s4 e4 k4 => ?_
    have S4 : Same H H4 := S3.trans s4
    refine k_cat [(("noperson" : Str), d 11, decide (i = 11)), (("many" : Str), d 12, decide (i = 12))] rfl rfl e4 k4 (h0.same S4) (List.forall_mem_cons.mpr ⟨kd.k11, (List.forall_mem_cons.mpr ⟨kd.k12, (fun _ h => nomatch h)⟩)⟩) rfl rfl fun l5 u5 H5 s5 e5 k5 => ?_
    have S5 : Same H H5 := S4.trans s5
    refine k_cat [(("close" : Str), d 13, decide (i = 13)), (("line" : Str), d 14, decide (i = 14))] rfl rfl e5 k5 (h0.same S5) (List.forall_mem_cons.mpr ⟨kd.k13, (List.forall_mem_cons.mpr ⟨kd.k14, (fun _ h => nomatch h)⟩)⟩) rfl rfl fun l6 u6 H6 s6 e6 k6 => ?_
    have S6 : Same H H6 := S5.trans s6
    refine ⟨_, rfl, _, _, rfl, SqL.of e6, fun Da hD => turns_pairs (pairs := kPairs i) rfl k6.1 e6 hD (fun j p z => k6.2 j p z) (by show 15 < sizeLine; decide) fun Ha sa ea => ?_⟩
    have ha := (h0.same S6).same sa
    refine ⟨lenOk rfl, fun lv Hb sb nb eb => ?_⟩
    have hb := ha.same sb
    refine ⟨_, rfl, _, _, _, _, _, rfl, rfl, hb.ty, kd.ve, _, rfl, .inr ⟨_, rfl, ?_⟩⟩
    refine ⟨_, _, _, rfl, rfl, eb, by decide, by decide, by decide, fun lr Hc sc nc er => ?_⟩
    refine ⟨_, _, _, _, rfl, rfl, sc _ _ (sb _ _ ea), er, ?_, fun l Hd sd nd' el => ?_⟩
    · refine Nat.le_trans (Nat.add_le_add_right (m := 15) ?_ _) (by decide)
      rw [List.length_map]
      exact Nat.le_trans (List.length_filter_le _ _) (Nat.le_refl _)
    · refine q l Hd (S6.trans (sa.trans (sb.trans (sc.trans sd)))) ((S6.trans (sa.trans (sb.trans sc))).off nd') ?_
      rw [el]
      exact congrArg (fun z => some (HO.lst z)) (List.append_nil _)
end
end K24
set_option Elab.async false
set_option linter.all false
set_option maxRecDepth 100000
set_option maxHeartbeats 4000000
namespace K24
open PySem PySem.NumText L2 Pg
seal PE PA PT PW PS PSs PG PGs PI PIf PO PK
section
variable {P : Program} {w : World} {K : PySem.W.Frag} {mg : Str → Option Value} {base : Heap} {f : Addr} {fd : FuncData} {d : Nat → Addr} {cR : Addr}
set_option maxHeartbeats 4000000 in
theorem ok_oddM (F : Fun K "_law_odd_month" "_law_odd_month" (top 36) f fd) : FnOk P w K mg base CX0 1 f fd ["_law_cell", "_law_last"] (sp_oddM K) := by
  have nd : (["_law_cell", "_law_last", "_law_far"] : List Str).Nodup := by decide +kernel
  refine F.ok (N := ["_law_cell", "_law_last", "_law_far"]) ⟨rfl, rfl, rfl, by decide +kernel, rfl, by decide +kernel, by decide +kernel⟩ (fun vs H Q E h => ?_) (fun cdv A outer s H vs Q E hr h => ?_)
  · obtain ⟨c, la, rfl, _⟩ := h
    rfl
  · obtain ⟨c, la, rfl, c0, q⟩ := h
    refine' ⟨_, (pss_cons (ps_set (i := 2) nd rfl (Or.inl rfl) (pe_op op_add pe_int (pe_op op_mod (pe_op op_fdiv (pv 0) pe_int) (pe_op op_pow pe_int pe_int))))
        (pss_one (ps_ret (pe_at ix_list (pe_lstS (pa_cons (pe_un un_neg pe_int) (pa_cons pe_int (pa_cons pe_bl (pa_cons pe_non (pa_cons pe_str (pa_cons (pv 2) (pa_cons (pe_op op_sub pe_int (pv 2)) (pa_cons (pe_lstS (pa_cons (pv 1) pa_nil)) (pa_cons (pe_tupS (pa_cons pe_int pa_nil)) (pa_cons pe_dnewS pa_nil))))))))))) (pe_op op_mod (pv 0) pe_int))))), ?main⟩
    dsimp (config := { proj := false, iota := false, beta := false, eta := false }) only [cxOf_K, nox_K]
    have p20 : (0 : Int) < (10 : Int) ^ (20 : Int).toNat := by decide +kernel
    refine ⟨_, rfl, _, _, rfl, rfl, ⟨by decide, by decide⟩, _, _, rfl, rfl, ⟨by decide, by decide, by decide⟩, _, _, rfl, rfl, p20, _, _, rfl, rfl, ?_⟩
    have f0 : 0 ≤ c / 10 % (10 : Int) ^ (20 : Int).toNat := Int.emod_nonneg _ (by omega)
    dsimp only
    obtain ⟨fa, hfa, fa0⟩ : ∃ fa : Int, 120000 + c / 10 % (10 : Int) ^ (20 : Int).toNat = fa ∧ 120000 ≤ fa := ⟨_, rfl, by omega⟩
    rw [hfa]
    refine ⟨_, rfl, _, rfl, _, rfl, _, _, rfl, rfl, _, rfl, lenOk rfl, fun l1 H1 s1 n1 e1 => ⟨lenOk rfl, fun t2 H2 s2 n2 e2 => fun t3 H3 s3 n3 e3 => ⟨lenOk rfl, fun l4 H4 s4 n4 e4 => ?_⟩⟩⟩
    obtain ⟨v, ev, mv⟩ := at_any (xs := [V.int (-1), V.int 120000, V.bl true, V.non, V.str "2031-04", V.int fa, V.int (0 - fa), V.ref l1, V.ref t2, V.ref t3]) (i := c % 10) (Int.emod_nonneg _ (by decide)) (Int.emod_lt_of_pos _ (by decide))
    refine ⟨_, rfl, _, _, rfl, rfl, (by show (0 : Int) < 10; decide), l4, _, _, _, rfl, rfl, SqL.of e4, ev, q v H4 (s1.trans (s2.trans (s3.trans s4))) ?_⟩
    simp only [List.mem_cons, List.not_mem_nil, or_false] at mv
    rcases mv with rfl | rfl | rfl | rfl | rfl | rfl | rfl | rfl | rfl | rfl
    · exact .inr ⟨_, rfl, by omega⟩
    · exact .inr ⟨_, rfl, by omega⟩
    · exact .inl (nn_bl true)
    · exact .inl nn_none
    · exact .inl (nn_str _)
    · exact .inr ⟨_, rfl, by omega⟩
    · exact .inr ⟨_, rfl, by omega⟩
    · exact .inl (nn_lst (s4 _ _ (s3 _ _ (s2 _ _ e1))))
    · exact .inl (nn_tup (s4 _ _ (s3 _ _ e2)))
    · exact .inl (nn_dK (s4 _ _ e3))
theorem bad_name {H : Hp} {t : Addr} {z : Str} {y : V} (e : H t = some (.tup [.str z, y])) (h : (!(nameB z) && decide (z.length ≤ 100)) = true) : DueV K H (.ref t) false := by
  rw [Bool.and_eq_true] at h
  have nb : nameB z = false := by
    cases q : nameB z with
    | false => rfl
    | true => rw [q] at h; cases h.1
  exact .name e (.inl ⟨z, rfl, nb, of_decide_eq_true h.2⟩)
set_option maxHeartbeats 16000000 in
theorem ok_oddP (F : Fun K "_law_odd_pair" "_law_odd_pair" (top 37) f fd) : FnOk P w K mg base CX0 1 f fd ["_law_cell"] (sp_oddP K) := by
  have nd : (["_law_cell", "_law_some"] : List Str).Nodup := by decide +kernel
  refine F.ok (N := ["_law_cell", "_law_some"]) ⟨rfl, rfl, rfl, by decide +kernel, rfl, by decide +kernel, by decide +kernel⟩ (fun vs H Q E h => ?_) (fun cdv A outer s H vs Q E hr h => ?_)
  · obtain ⟨c, rfl, _⟩ := h
    rfl
  · obtain ⟨c, rfl, q⟩ := h
    refine' ⟨_, (pss_cons (ps_set (i := 1) nd rfl (Or.inl rfl) (pe_lstS (pa_cons (pe_tupS (pa_cons pe_str (pa_cons pe_bl pa_nil))) (pa_cons (pe_tupS (pa_cons pe_str (pa_cons pe_non pa_nil))) (pa_cons (pe_tupS (pa_cons pe_str (pa_cons pe_str pa_nil))) (pa_cons (pe_tupS (pa_cons pe_str (pa_cons pe_int pa_nil))) (pa_cons (pe_tupS (pa_cons pe_str (pa_cons pe_int pa_nil))) (pa_cons (pe_tupS (pa_cons pe_str (pa_cons pe_int pa_nil))) (pa_cons (pe_tupS (pa_cons pe_str (pa_cons pe_int pa_nil))) (pa_cons (pe_tupS (pa_cons pe_str (pa_cons pe_int (pa_cons pe_int pa_nil)))) (pa_cons (pe_tupS (pa_cons pe_str pa_nil)) pa_nil)))))))))))
        (pss_cons (ps_set (i := 1) nd rfl (Or.inl rfl) (pe_op op_catS (pv 1) (pe_lstS (pa_cons (pe_lstS (pa_cons pe_str (pa_cons pe_int pa_nil))) (pa_cons pe_non (pa_cons pe_str (pa_cons pe_int (pa_cons (pe_tupS pa_nil) (pa_cons (pe_tupS (pa_cons pe_int (pa_cons pe_str pa_nil))) (pa_cons (pe_tupS (pa_cons pe_non (pa_cons pe_int pa_nil))) (pa_cons (pe_tupS (pa_cons (pe_lstS (pa_cons pe_str pa_nil)) (pa_cons pe_int pa_nil))) (pa_cons (pe_tupS (pa_cons pe_str (pa_cons (pe_lstS (pa_cons pe_int pa_nil)) pa_nil))) (pa_cons (pe_tupS (pa_cons pe_str (pa_cons pe_int pa_nil))) (pa_cons (pe_tupS (pa_cons pe_dnewS (pa_cons pe_int pa_nil))) pa_nil))))))))))))))
        (pss_one (ps_ret (pe_at ix_list (pv 1) (pe_op op_mod (pv 0) pe_int)))))), ?main⟩
    try (dsimp (config := { proj := false, iota := false, beta := false, eta := false }) only [cxOf_K, nox_K])
    refine ⟨lenOk rfl, fun t1 H1 s1 n1 e1 => ⟨lenOk rfl, fun t2 H2 s2 n2 e2 => ⟨lenOk rfl, fun t3 H3 s3 n3 e3 => ⟨lenOk rfl, fun t4 H4 s4 n4 e4 => ⟨lenOk rfl, fun t5 H5 s5 n5 e5 => ⟨lenOk rfl, fun t6 H6 s6 n6 e6 => ⟨lenOk rfl, fun t7 H7 s7 n7 e7 => ⟨lenOk rfl, fun t8 H8 s8 n8 e8 => ⟨lenOk rfl, fun t9 H9 s9 n9 e9 => ⟨lenOk rfl, fun lA HA sA nA eA => ?_⟩⟩⟩⟩⟩⟩⟩⟩⟩⟩
    have e1 := sA _ _ (s9 _ _ (s8 _ _ (s7 _ _ (s6 _ _ (s5 _ _ (s4 _ _ (s3 _ _ (s2 _ _ e1))))))))
    have e2 := sA _ _ (s9 _ _ (s8 _ _ (s7 _ _ (s6 _ _ (s5 _ _ (s4 _ _ (s3 _ _ e2)))))))
    have e3 := sA _ _ (s9 _ _ (s8 _ _ (s7 _ _ (s6 _ _ (s5 _ _ (s4 _ _ e3))))))
    have e4 := sA _ _ (s9 _ _ (s8 _ _ (s7 _ _ (s6 _ _ (s5 _ _ e4)))))
    have e5 := sA _ _ (s9 _ _ (s8 _ _ (s7 _ _ (s6 _ _ e5))))
    have e6 := sA _ _ (s9 _ _ (s8 _ _ (s7 _ _ e6)))
    have e7 := sA _ _ (s9 _ _ (s8 _ _ e7))
    have e8 := sA _ _ (s9 _ _ e8)
    have e9 := sA _ _ e9
    have SA : Same H HA := s1.trans (s2.trans (s3.trans (s4.trans (s5.trans (s6.trans (s7.trans (s8.trans (s9.trans sA))))))))
    clear s1 s2 s3 s4 s5 s6 s7 s8 s9 sA n1 n2 n3 n4 n5 n6 n7 n8 n9 nA
    have D1 : ∀ x ∈ [V.ref t1, V.ref t2, V.ref t3, V.ref t4, V.ref t5, V.ref t6, V.ref t7, V.ref t8, V.ref t9], DueV K HA x false := by
      intro x hx
      simp only [List.mem_cons, List.not_mem_nil, or_false] at hx
      rcases hx with rfl | rfl | rfl | rfl | rfl | rfl | rfl | rfl | rfl
      · exact .num e1 name_a (nn_bl true)
      · exact .num e2 name_a nn_none
      · exact .num e3 name_a (nn_str _)
      · exact bad_name e4 (by decide +kernel)
      · exact bad_name e5 (by decide +kernel)
      · exact bad_name e6 (by decide +kernel)
      · exact bad_name e7 (by decide +kernel)
      · exact .size e8 (by decide)
      · exact .size e9 (by decide)
    clear e1 e2 e3 e4 e5 e6 e7 e8 e9
    refine ⟨_, rfl, lenOk rfl, fun u1 H1 s1 n1 e1 => ?_⟩
    refine ⟨lenOk rfl, fun u2 H2 s2 n2 e2 => ⟨lenOk rfl, fun u3 H3 s3 n3 e3 => ⟨lenOk rfl, fun u4 H4 s4 n4 e4 => ?_⟩⟩⟩
    refine ⟨lenOk rfl, fun u5 H5 s5 n5 e5 => ⟨lenOk rfl, fun u6 H6 s6 n6 e6 => ⟨lenOk rfl, fun u7 H7 s7 n7 e7 => ?_⟩⟩⟩
    refine ⟨lenOk rfl, fun u8 H8 s8 n8 e8 => ⟨lenOk rfl, fun u9 H9 s9 n9 e9 => fun ua Ha sa na ea => ?_⟩⟩
    refine ⟨lenOk rfl, fun ub Hb sb nb eb => ⟨lenOk rfl, fun lB HB sB nB eB => ?_⟩⟩
    have e1 := sB _ _ (sb _ _ (sa _ _ (s9 _ _ (s8 _ _ (s7 _ _ (s6 _ _ (s5 _ _ (s4 _ _ (s3 _ _ (s2 _ _ e1))))))))))
    have e2 := sB _ _ (sb _ _ (sa _ _ (s9 _ _ (s8 _ _ (s7 _ _ (s6 _ _ (s5 _ _ (s4 _ _ (s3 _ _ e2)))))))))
    have e3 := sB _ _ (sb _ _ (sa _ _ (s9 _ _ (s8 _ _ (s7 _ _ (s6 _ _ (s5 _ _ (s4 _ _ e3))))))))
    have e4 := sB _ _ (sb _ _ (sa _ _ (s9 _ _ (s8 _ _ (s7 _ _ (s6 _ _ (s5 _ _ e4)))))))
    have e5 := sB _ _ (sb _ _ (sa _ _ (s9 _ _ (s8 _ _ (s7 _ _ (s6 _ _ e5))))))
    have e6 := sB _ _ (sb _ _ (sa _ _ (s9 _ _ (s8 _ _ (s7 _ _ e6)))))
    have e7 := sB _ _ (sb _ _ (sa _ _ (s9 _ _ (s8 _ _ e7))))
    have e8 := sB _ _ (sb _ _ (sa _ _ (s9 _ _ e8)))
    have e9 := sB _ _ (sb _ _ (sa _ _ e9))
    have ea := sB _ _ (sb _ _ ea)
    have eb := sB _ _ eb
    have SB : Same HA HB := s1.trans (s2.trans (s3.trans (s4.trans (s5.trans (s6.trans (s7.trans (s8.trans (s9.trans (sa.trans (sb.trans sB))))))))))
    clear s1 s2 s3 s4 s5 s6 s7 s8 s9 sa sb sB n1 n2 n3 n4 n5 n6 n7 n8 n9 na nb nB
    have D2 : ∀ x ∈ [V.ref u1, V.non, V.str "a1", V.int 5, V.ref u2, V.ref u3, V.ref u4, V.ref u6, V.ref u8, V.ref u9, V.ref ub], DueV K HB x false := by
      intro x hx
      simp only [List.mem_cons, List.not_mem_nil, or_false] at hx
      rcases hx with rfl | rfl | rfl | rfl | rfl | rfl | rfl | rfl | rfl | rfl | rfl
      · exact .other (.lst e1) rfl
      · exact .other .non rfl
      · exact .other (.str _) rfl
      · exact .other (.int _) rfl
      · exact .size e2 (by decide)
      · exact .name e3 (.inr (ns_int _))
      · exact .name e4 (.inr ns_none)
      · exact .name e6 (.inr (ns_lst e5))
      · exact .num e8 name_a (nn_lst e7)
      · exact bad_name e9 (by decide +kernel)
      · exact .name eb (.inr (ns_dK ea))
    refine ⟨lA, lB, _, _, rfl, rfl, SB _ _ eA, eB, by rw [sizeLine_eq]; show 9 + 11 ≤ 16777216; decide, fun lC HC sC nC eC => ?_⟩
    obtain ⟨v, ev, mv⟩ := at_any (xs := [V.ref t1, V.ref t2, V.ref t3, V.ref t4, V.ref t5, V.ref t6, V.ref t7, V.ref t8, V.ref t9] ++ [V.ref u1, V.non, V.str "a1", V.int 5, V.ref u2, V.ref u3, V.ref u4, V.ref u6, V.ref u8, V.ref u9, V.ref ub]) (i := c % 20) (Int.emod_nonneg _ (by decide)) (Int.emod_lt_of_pos _ (by decide))
    refine ⟨_, rfl, _, rfl, _, _, rfl, rfl, (by show (0 : Int) < 20; decide), lC, _, _, _, rfl, rfl, SqL.of eC, ev, q v HC (SA.trans (SB.trans sC)) ?_⟩
    rcases List.mem_append.mp mv with mv | mv
    · exact ((D1 v mv).same SB).same sC
    · exact (D2 v mv).same sC
end
end K24
set_option Elab.async false
set_option linter.all false
set_option maxRecDepth 100000
set_option maxHeartbeats 4000000
namespace K24
open PySem PySem.NumText L2 Pg
seal PE PA PT PW PS PSs PG PGs PI PIf PO PK
section
variable {P : Program} {w : World} {K : PySem.W.Frag} {mg : Str → Option Value} {base : Heap} {f : Addr} {fd : FuncData} {d : Nat → Addr} {cR : Addr}
theorem bad_cut (t : Addr) {a : Int} (h : a = 0 ∨ a = 1) : (cutV [V.ref t] none (some a) = [] ∧ cutV [V.ref t] (some a) none = [V.ref t]) ∨ (cutV [V.ref t] none (some a) = [V.ref t] ∧ cutV [V.ref t] (some a) none = []) := by
  rcases h with rfl | rfl
  · exact .inl ⟨rfl, rfl⟩
  · exact .inr ⟨rfl, rfl⟩
set_option maxHeartbeats 16000000 in
theorem ok_badD (F : Fun K "_law_bad_dues" "_law_bad_dues" (top 38) f fd) (G : Glb mg) (C1 : Cal P w K mg base CX0 1 "_law_odd_pair" ["_law_cell"] (sp_oddP K)) : FnOk P w K mg base CX0 2 f fd ["_law_dues", "_law_cell"] (sp_badD K) := by
  have nd : (["_law_dues", "_law_cell", "_law_at"] : List Str).Nodup := by decide +kernel
  refine F.ok (N := ["_law_dues", "_law_cell", "_law_at"]) ⟨rfl, rfl, rfl, by decide +kernel, rfl, by decide +kernel, by decide +kernel⟩ (fun vs H Q E h => ?_) (fun cdv A outer s H vs Q E hr h => ?_)
  · obtain ⟨dl, t, n, c, rfl, _⟩ := h
    rfl
  · obtain ⟨dl, t, n, c, rfl, hd, ht, c0, q⟩ := h
    refine' ⟨_, (pss_cons (ps_set (i := 2) nd rfl (Or.inl rfl) (pe_op op_mod (pe_op op_fdiv (pv 1) pe_int) (pe_op op_add (pe_callB call_len_seq rfl G.len boot_len (pa_cons (pv 0) pa_nil)) pe_int)))
        (pss_cons (ps_if (pt_cmpR op_lt (pe_op op_mod (pv 1) pe_int) pe_int (nomark _)) (pss_one (ps_ret (pe_op op_catS (pe_op op_catS (pe_slice sl_list (pv 0) po_none (po_some (pv 2))) (pe_lstS (pa_cons (pe_cal C1 hr (by decide) pass0 (pa_cons (pe_op op_fdiv (pv 1) pe_int) pa_nil)) pa_nil))) (pe_slice sl_list (pv 0) (po_some (pv 2)) po_none)))) pss_nil)
        (pss_cons (ps_if (pt_cmpR op_eq (pe_op op_mod (pv 1) pe_int) pe_int (nomark _)) (pss_one (ps_ret (pe_op op_catS (pe_op op_catS (pe_op op_catS (pv 0) (pe_lstS (pa_cons (pe_tupS (pa_cons pe_str (pa_cons pe_int pa_nil))) pa_nil))) (pe_slice sl_list (pv 0) po_none (po_some pe_int))) (pe_lstS (pa_cons (pe_tupS (pa_cons pe_str (pa_cons (pe_op op_mod (pv 1) pe_int) pa_nil))) pa_nil))))) pss_nil)
        (pss_one (ps_ret (pe_at ix_list (pe_lstS (pa_cons (pe_callTy call_tuple_of rfl G.tuple boot_tuple (pa_cons (pv 0) pa_nil)) (pa_cons pe_non (pa_cons pe_str (pa_cons pe_int (pa_cons (pe_disp (pps_cons pe_str pe_int pps_nil) rfl rfl (fun z => nomatch z) (by decide)) (pa_cons (pe_tupS (pa_cons pe_str (pa_cons pe_int pa_nil))) pa_nil))))))) (pe_op op_mod (pe_op op_fdiv (pv 1) pe_int) pe_int))))))), ?main⟩
    dsimp (config := { proj := false, iota := false, beta := false, eta := false }) only [cxOf_K, nox_K]
    have d5 : CDiv c 5 := ⟨by decide, by decide⟩
    refine ⟨_, rfl, _, _, rfl, rfl, d5, _, rfl, dl, _, rfl, .inl (SqL.of hd), _, _, rfl, rfl, _, _, rfl, rfl, (by show (0 : Int) < 1 + 1; decide), ?_⟩
    have a01 : c / 5 % (((([V.ref t] : List V).length : Nat) : Int) + 1) = 0 ∨ c / 5 % (((([V.ref t] : List V).length : Nat) : Int) + 1) = 1 := by
      show c / 5 % 2 = 0 ∨ c / 5 % 2 = 1
      omega
    refine ⟨_, rfl, _, _, rfl, rfl, (by show (0 : Int) < 5; decide), _, _, rfl, rfl, _, rfl, ite2 (fun _ => ?_) (fun _ => ?_)⟩
    · refine ⟨_, rfl, _, rfl, _, rfl, dl, _, rfl, SqL.of hd, fun p1 p10 => ?_⟩
      have s1 : Same H (upd H p1 (.lst (cutV [V.ref t] none (some (c / 5 % (((([V.ref t] : List V).length : Nat) : Int) + 1)))))) := Same.upd p10
      have e1 : (upd H p1 (.lst (cutV [V.ref t] none (some (c / 5 % (((([V.ref t] : List V).length : Nat) : Int) + 1)))))) p1 = _ := upd_same
      generalize upd H p1 (.lst (cutV [V.ref t] none (some (c / 5 % (((([V.ref t] : List V).length : Nat) : Int) + 1))))) = H1 at s1 e1
      refine ⟨_, rfl, _, _, rfl, rfl, ⟨by decide, by decide⟩, _, rfl, fun v H2 s2 dv => ⟨lenOk rfl, fun p3 H3 s3 n3 e3 => ?_⟩⟩
      have S3 := s1.trans (s2.trans s3)
      refine ⟨p1, p3, _, _, rfl, rfl, s3 _ _ (s2 _ _ e1), e3, ?_, fun p4 H4 s4 n4 e4 => ?_⟩
      · refine Nat.le_trans (Nat.add_le_add_right (cutV_length _ _ _) _) ?_
        rw [sizeLine_eq]
        show 1 + 1 ≤ 16777216
        decide
      have hd4 := s4 _ _ (S3 _ _ hd)
      refine ⟨_, rfl, _, rfl, _, rfl, dl, _, rfl, SqL.of hd4, fun p5 p50 => ?_⟩
      have s5 : Same H4 (upd H4 p5 (.lst (cutV [V.ref t] (some (c / 5 % (((([V.ref t] : List V).length : Nat) : Int) + 1))) none))) := Same.upd p50
      have e5 : (upd H4 p5 (.lst (cutV [V.ref t] (some (c / 5 % (((([V.ref t] : List V).length : Nat) : Int) + 1))) none))) p5 = _ := upd_same
      generalize upd H4 p5 (.lst (cutV [V.ref t] (some (c / 5 % (((([V.ref t] : List V).length : Nat) : Int) + 1))) none)) = H5 at s5 e5
      have S5 := S3.trans (s4.trans s5)
      refine ⟨p4, p5, _, _, rfl, rfl, s5 _ _ e4, e5, ?_, fun p6 H6 s6 n6 e6 => ?_⟩
      · rw [sizeLine_eq, List.length_append]
        have := cutV_length [V.ref t] none (some (c / 5 % (((([V.ref t] : List V).length : Nat) : Int) + 1)))
        have := cutV_length [V.ref t] (some (c / 5 % (((([V.ref t] : List V).length : Nat) : Int) + 1))) none
        have e1 : ([V.ref t] : List V).length = 1 := rfl
        have e2 : ([v] : List V).length = 1 := rfl
        omega
      have S6 := S5.trans s6
      have ht6 := S6 _ _ ht
      have dv6 := ((dv.same s3).same s4).same (s5.trans s6)
      have gd : DueV K H6 (.ref t) true := .good ht6 name_eve
      refine q (.ref p6) H6 S6 ?_ (.inl ⟨p6, _, rfl, S5.free n6, e6⟩)
      rcases bad_cut t a01 with ⟨c1, c2⟩ | ⟨c1, c2⟩
      · rw [c1, c2] at e6
        refine .odd (bs := [false, true]) e6 (by show 2 ≤ 60; decide) rfl (fun j x b h1 h2 => ?_) rfl
        match j, h1, h2 with
        | 0, h1, h2 => cases h1; cases h2; exact dv6
        | 1, h1, h2 => cases h1; cases h2; exact gd
      · rw [c1, c2] at e6
        refine .odd (bs := [true, false]) e6 (by show 2 ≤ 60; decide) rfl (fun j x b h1 h2 => ?_) rfl
        match j, h1, h2 with
        | 0, h1, h2 => cases h1; cases h2; exact gd
        | 1, h1, h2 => cases h1; cases h2; exact dv6
    · refine ⟨_, rfl, _, _, rfl, rfl, (by show (0 : Int) < 5; decide), rfl, _, rfl, ite2 (fun _ => ?_) (fun _ => ?_)⟩
      · refine ⟨_, rfl, lenOk rfl, fun b1 H1 s1 n1 e1 => ⟨lenOk rfl, fun p2 H2 s2 n2 e2 => ?_⟩⟩
        have S2 := s1.trans s2
        refine ⟨dl, p2, _, _, rfl, rfl, S2 _ _ hd, e2, by rw [sizeLine_eq]; show 1 + 1 ≤ 16777216; decide, fun p3 H3 s3 n3 e3 => ?_⟩
        have S3 := S2.trans s3
        refine ⟨_, rfl, _, rfl, dl, _, rfl, SqL.of (S3 _ _ hd), fun p4 p40 => ?_⟩
        have s4 : Same H3 (upd H3 p4 (.lst (cutV [V.ref t] none (some 0)))) := Same.upd p40
        have e4 : (upd H3 p4 (.lst (cutV [V.ref t] none (some 0)))) p4 = some (.lst []) := upd_same
        generalize upd H3 p4 (.lst (cutV [V.ref t] none (some 0))) = H4 at s4 e4
        refine ⟨p3, p4, _, _, rfl, rfl, s4 _ _ e3, e4, by rw [sizeLine_eq]; show 2 + 0 ≤ 16777216; decide, fun p5 H5 s5 n5 e5 => ?_⟩
        refine ⟨_, rfl, _, _, rfl, rfl, (by show (0 : Int) < 7; decide), lenOk rfl, fun b6 H6 s6 n6 e6 => ⟨lenOk rfl, fun p7 H7 s7 n7 e7 => ?_⟩⟩
        refine ⟨p5, p7, _, _, rfl, rfl, s7 _ _ (s6 _ _ e5), e7, by rw [sizeLine_eq]; show 2 + 1 ≤ 16777216; decide, fun p8 H8 s8 n8 e8 => ?_⟩
        have S7 := S3.trans (s4.trans (s5.trans (s6.trans s7)))
        have S8 := S7.trans s8
        have h1 := s8 _ _ (s7 _ _ (s6 _ _ (s5 _ _ (s4 _ _ (s3 _ _ (s2 _ _ e1))))))
        have h2 := s8 _ _ (s7 _ _ e6)
        refine q (.ref p8) H8 S8 (.twice (ts := [.ref t, .ref b1, .ref b6]) (prs := [("eve", n), ("bo", 1), ("bo", c % 7)]) e8 ⟨rfl, fun i x e => ?_⟩ (by show 3 < 64; decide) (fun p hp => ?_) ?_) (.inl ⟨p8, _, rfl, S7.free n8, e8⟩)
        · match i, e with
          | 0, e => cases e; exact ⟨t, rfl, S8 _ _ ht⟩
          | 1, e => cases e; exact ⟨b1, rfl, h1⟩
          | 2, e => cases e; exact ⟨b6, rfl, h2⟩
        · simp only [List.mem_cons, List.not_mem_nil, or_false] at hp
          rcases hp with rfl | rfl | rfl
          · exact name_eve
          · exact name_bo
          · exact name_bo
        · show ¬ (["eve", "bo", "bo"] : List Str).Nodup
          decide +kernel
      · refine ⟨_, rfl, dl, _, rfl, .inl ⟨SqL.of hd, fun p1 p10 => ?_⟩⟩
        have s1 : Same H (upd H p1 (.tup [V.ref t])) := Same.upd p10
        have e1 : (upd H p1 (.tup [V.ref t])) p1 = some (.tup [V.ref t]) := upd_same
        generalize upd H p1 (.tup [V.ref t]) = H1 at s1 e1
        refine fun o o0 => ⟨upd_same, [(Sum.inr "bo", .int 1)], rfl, by show 1 ≤ 15; decide, ?_⟩
        have s2 : Same H1 (upd (upd H1 o (.dK [])) o (.dK (mergeK [] [(Sum.inr "bo", .int 1)]))) := fun b u hb => by
          rw [upd_ne (ne_of_none hb o0), upd_ne (ne_of_none hb o0)]
          exact hb
        have e2 : (upd (upd H1 o (.dK [])) o (.dK (mergeK [] [(Sum.inr "bo", .int 1)]))) o = _ := upd_same
        generalize upd (upd H1 o (.dK [])) o (.dK (mergeK [] [(Sum.inr "bo", .int 1)])) = H2 at s2 e2
        refine ⟨lenOk rfl, fun t3 H3 s3 n3 e3 => ⟨lenOk rfl, fun l4 H4 s4 n4 e4 => ?_⟩⟩
        obtain ⟨v, ev, mv⟩ := at_any (xs := [V.ref p1, V.non, V.str "bo", V.int 5, V.ref o, V.ref t3]) (i := c / 5 % 6) (Int.emod_nonneg _ (by decide)) (Int.emod_lt_of_pos _ (by decide))
        refine ⟨_, rfl, _, _, rfl, rfl, d5, _, _, rfl, rfl, (by show (0 : Int) < 6; decide), l4, _, _, _, rfl, rfl, SqL.of e4, ev, ?_⟩
        have nl : ∃ t, TyOf K H4 v t ∧ PySem.W.kitOne K t (.type "list") = some false := by
          simp only [List.mem_cons, List.not_mem_nil, or_false] at mv
          rcases mv with rfl | rfl | rfl | rfl | rfl | rfl
          · exact ⟨_, .tup (s4 _ _ (s3 _ _ (s2 _ _ e1))), rfl⟩
          · exact ⟨_, .non, rfl⟩
          · exact ⟨_, .str _, rfl⟩
          · exact ⟨_, .int _, rfl⟩
          · exact ⟨_, .dK (s4 _ _ (s3 _ _ e2)), rfl⟩
          · exact ⟨_, .tup (s4 _ _ e3), rfl⟩
        obtain ⟨ty, t1, t2⟩ := nl
        exact q v H4 (s1.trans (s2.trans (s3.trans s4))) (.other t1 t2) (.inr ⟨ty, t1, t2⟩)
end
end K24
set_option Elab.async false
set_option linter.all false
set_option maxRecDepth 100000
set_option maxHeartbeats 4000000
namespace K24
open PySem PySem.NumText L2 Pg
seal PE PA PT PW PS PSs PG PGs PI PIf PO PK
section
variable {P : Program} {w : World} {K : PySem.W.Frag} {mg : Str → Option Value} {base : Heap} {f : Addr} {fd : FuncData} {d : Nat → Addr} {cR : Addr}
theorem ok_stC {C : Addr} (F : Fun K "_law_state" "_law_state" (top 40) f fd) (M_paid : CalM P w K mg base CX0 1 C "paid" ["self", "name"] (sp_paid C)) (M_payments : CalM P w K mg base CX0 1 C "payments" ["self"] (sp_payments C)) (M_last : CalM P w K mg base CX0 1 C "last" ["self"] (sp_last C)) : FnOk P w K mg base CX0 2 f fd ["_law_ledger"] (sp_stC C) := by
  refine F.ok (N := ["_law_ledger"]) ⟨rfl, rfl, rfl, by decide +kernel, rfl, by decide +kernel, by decide +kernel⟩ (fun vs H Q E h => ?_) (fun cdv A outer s H vs Q E hr h => ?_)
  · obtain ⟨L, dx, t, m, cl, tot, mds, rfl, _⟩ := h
    rfl
  · obtain ⟨L, dx, t, m, cl, tot, mds, rfl, LA, q⟩ := h
    obtain ⟨ys, hm, T⟩ := LA.made
    refine ⟨_, (pss_one (ps_ret (pe_lstS (pa_cons (pe_calM M_paid hr (by decide) pass0 (pv 0) (pa_cons pe_str pa_nil)) (pa_cons (pe_calM M_paid hr (by decide) pass0 (pv 0) (pa_cons pe_str pa_nil)) (pa_cons (pe_calM0 M_payments hr (by decide) pass0 (pv 0)) (pa_cons (pe_calM0 M_last hr (by decide) pass0 (pv 0)) pa_nil))))))), ?_⟩
    refine ⟨_, rfl, L, dx, _, rfl, LA.ins, rfl, L, dx, t, m, cl, tot, _, rfl, LA.ins, LA.tot, _, rfl, L, dx, _, rfl, LA.ins, rfl, L, dx, t, m, cl, tot, _, rfl, LA.ins, LA.tot, _, rfl, L, dx, _, rfl, LA.ins, rfl, L, dx, t, m, cl, ys, rfl, LA.ins, hm, fun pl H1 s1 n1 e1 => ?_⟩
    exact ⟨_, rfl, L, dx, _, rfl, s1 _ _ LA.ins, rfl, L, dx, t, m, cl, rfl, s1 _ _ LA.ins, lenOk rfl, fun l H2 s2 n2 e2 => q l pl ys H2 (s1.trans s2) (s1.free n2) e2 (s2 _ _ e1) ((T.same s1).same s2)⟩
end
end K24
set_option Elab.async false
set_option linter.all false
set_option maxRecDepth 100000
set_option maxHeartbeats 4000000
namespace K24
open PySem PySem.NumText L2 Pg
seal PE PA PT PW PS PSs PG PGs PI PIf PO PK
section
variable {P : Program} {w : World} {K : PySem.W.Frag} {mg : Str → Option Value} {base : Heap} {f : Addr} {fd : FuncData} {d : Nat → Addr} {cR : Addr}
theorem ok_refC {C : Addr} (F : Fun K "_law_refused" "_law_refused" (top 39) f fd) (mgR : mg "RollError" = some (.ref cR)) (Z3 : Rz K d cR 3) (Z13 : Rz K d cR 13) (M1 : CalM P w K mg base (CXE P w) 5 C "close" ["self", "month", "dues"] (sp_closeX K C d))
    (Ck : CalQ P w K mg base 1 "_law_kind" ["_law_e"] (sp_kindB K d)) : FnOk P w K mg base CX0 6 f fd ["_law_ledger", "_law_month", "_law_dues"] (sp_refC K C) := by
  have nd : (["_law_ledger", "_law_month", "_law_dues", "_law_e"] : List Str).Nodup := by decide +kernel
  refine F.ok (N := ["_law_ledger", "_law_month", "_law_dues", "_law_e"]) ⟨rfl, rfl, rfl, by decide +kernel, rfl, by decide +kernel, by decide +kernel⟩ (fun vs H Q E h => ?_) (fun cdv A outer s H vs Q E hr h => ?_)
  · obtain ⟨L, dx, t, m, cl, v, u, i, rfl, _⟩ := h
    rfl
  · obtain ⟨L, dx, t, m, cl, v, u, i, rfl, hL, rf, q⟩ := h
    have rz : Rz K d cR i := by
      rcases rf with ⟨rfl, _⟩ | ⟨rfl, _⟩
      · exact Z3
      · exact Z13
    refine' ⟨_, (pss_cons (ps_try (R := fun cls _ H' => cls = .ref (d i) ∧ Same H H') (i := 3) (th := fun ea => tRet (tCallQ ((A.deeper (PyProof.Rows.envOfC "_law_refused" (defScope (top 39)) s.heap.objs.size f cdv)).mark (some (.ref ea))) (sp_kindB K d) (tCons (tVar 3) tNil))) rfl rfl rfl mgR (fun cls o H' z => by rw [z.1]; exact rz.ex) nd rfl rfl
        (fun pn => pss_one (ps_expr (pe_calM M1 hr (by decide) passT (pv 0) (pa_cons (pv 1) (pa_cons (pv 2) pa_nil)))))
        (fun pn ea E => pss_one (ps_ret (pe_calQ (j := 5) Ck ⟨hr.dp, hr.un⟩ (by decide) (pa_cons (pv 3) pa_nil)))))
        pss_never), ?_, ?_⟩
    · exact ⟨_, rfl, L, dx, _, rfl, hL, rfl, _, rfl, _, rfl, L, dx, t, m, cl, v, u, i, rfl, hL, rf, fun H' s' => ⟨rfl, s'⟩⟩
    · rintro ea oe vs cls σ' H' ⟨rfl, s1⟩ hne hcl hd1 hd2 h2 hlen
      refine ⟨.ref ea, List.getElem?_set_self (by rw [hlen]; show 3 < 4; decide), .inr ⟨ea, oe, vs, _, rfl, upd_same, hd2, h2⟩, ea, d i, i, rfl, ⟨⟨oe, vs, upd_same, hcl, hd1, hd2⟩, rz.kd.cls⟩, rz.kd, fun l H2 s2 l0 e => ?_⟩
      exact q l H2 ((s1.trans (Same.upd hne)).trans s2) ((s1.trans (Same.upd hne)).free l0) e
end
end K24
set_option Elab.async false
set_option linter.all false
set_option maxRecDepth 100000
namespace L2
open PySem PySem.Spec PyProof.Rows

noncomputable def tOrN (ta tb : TE) : TE := fun σ H Q => ta σ H fun x H1 => (x = .non ∧ tb σ H1 Q) ∨ ∃ i, x = .int i ∧ (i ≠ 0 → Q (.int i) H1) ∧ (i = 0 → tb σ H1 Q)
section
variable {X : Cx} {a b : Expr} {rest : List Expr} {ta tb : TE} {pos : Pos}
end

noncomputable def rNeNil (K : PySem.W.Frag) : R2 := fun x y H Q => ∃ a b xs, x = .ref a ∧ y = .ref b ∧ SqL K H a xs ∧ SqL K H b [] ∧ (xs = [] → Q (.bl false) H) ∧ (xs ≠ [] → Q (.bl true) H)
end L2
set_option Elab.async false
set_option linter.all false
set_option maxRecDepth 100000
set_option maxHeartbeats 4000000
namespace K24
open PySem PySem.NumText L2 Pg
seal PE PA PT PW PS PSs PG PGs PI PIf PO PK
section
variable {P : Program} {w : World} {K : PySem.W.Frag} {mg : Str → Option Value} {base : Heap} {f : Addr} {fd : FuncData} {d : Nat → Addr} {cR : Addr}
set_option maxHeartbeats 32000000 in
theorem ok_law {C : Addr} (F : Fun K "law" "law" (top 41) f fd) (G : Glb mg) (C_cell : Cal P w K mg base CX0 1 "_law_cell_at" ["_law_script", "_law_k"] (sp_cell K)) (C_mixed : Cal P w K mg base CX0 1 "_law_mixed" ["_law_cell", "_law_k"] sp_mixC)
    (N1 : CalN P w K mg base CX0 1 "Ledger" C ["self"] (sp_init C)) (M_close : CalM P w K mg base CX0 5 C "close" ["self", "month", "dues"] (sp_close C)) (M_last : CalM P w K mg base CX0 1 C "last" ["self"] (sp_last C))
    (C_bad : Cal P w K mg base CX0 2 "_law_bad_dues" ["_law_dues", "_law_cell"] (sp_badD K)) (C_odd : Cal P w K mg base CX0 1 "_law_odd_month" ["_law_cell", "_law_last"] (sp_oddM K)) (C_state : Cal P w K mg base CX0 2 "_law_state" ["_law_ledger"] (sp_stC C)) (C_ref : Cal P w K mg base CX0 6 "_law_refused" ["_law_ledger", "_law_month", "_law_dues"] (sp_refC K C)) : FnOk P w K mg base CX0 7 f fd ["_law_script"] (sp_lawS K) := by
  have nd : (["_law_script", "_law_ledger", "_law_month", "_law_k", "_law_cell", "_law_dues", "_law_late", "_law_due", "_law_state_here", "_law_turn"] : List Str).Nodup := by decide +kernel
  refine F.ok (N := ["_law_script", "_law_ledger", "_law_month", "_law_k", "_law_cell", "_law_dues", "_law_late", "_law_due", "_law_state_here", "_law_turn"]) ⟨rfl, rfl, rfl, by decide +kernel, rfl, by decide +kernel, by decide +kernel⟩ (fun vs H Q E h => ?_) (fun cdv A outer s H vs Q E hr h => ?_)
  · obtain ⟨a, ns, rfl, _⟩ := h
    rfl
  · obtain ⟨a, ns, rfl, hs, q⟩ := h
    have un0 : (A.deeper (PyProof.Rows.envOfC "law" (defScope (top 41)) s.heap.objs.size f cdv)).units < cLine := Nat.lt_of_le_of_lt (Nat.le_add_right _ 64) hr.units
    have un1 : (A.deeper (PyProof.Rows.envOfC "law" (defScope (top 41)) s.heap.objs.size f cdv)).units + 1 < cLine := Nat.lt_of_le_of_lt (Nat.add_le_add_left (by decide : 1 ≤ 64) _) hr.units
    have un2 : (A.deeper (PyProof.Rows.envOfC "law" (defScope (top 41)) s.heap.objs.size f cdv)).units + 2 < cLine := Nat.lt_of_le_of_lt (Nat.add_le_add_left (by decide : 2 ≤ 64) _) hr.units
    have un3 : (A.deeper (PyProof.Rows.envOfC "law" (defScope (top 41)) s.heap.objs.size f cdv)).units + 3 < cLine := Nat.lt_of_le_of_lt (Nat.add_le_add_left (by decide : 3 ≤ 64) _) hr.units
    refine' ⟨_, (pss_cons (ps_set (i := 1) nd rfl (Or.inl rfl) (pe_calN0 (j := 5) N1 hr (by decide) pass0))
        (pss_cons (ps_set (i := 2) nd rfl (Or.inl rfl) (pe_op op_mod (pe_cal C_mixed hr (by decide) pass0 (pa_cons (pe_cal C_cell hr (by decide) pass0 (pa_cons (pv 0) (pa_cons pe_int pa_nil))) (pa_cons pe_int pa_nil))) pe_int))
        (pss_cons (ps_for PassesOwn.never rfl (pi_range1 rfl G.range (pa_cons (pe_op op_mod (pe_cal C_cell hr (by decide) pass0 (pa_cons (pv 0) (pa_cons pe_int pa_nil))) pe_int) pa_nil)) (pg_name (i := 3) nd rfl (Or.inl rfl)) (pss_cons (ps_set (i := 4) nd rfl (Or.inl rfl) (pe_cal C_mixed hr (by decide) pass0 (pa_cons (pe_cal C_cell hr (by decide) pass0 (pa_cons (pv 0) (pa_cons (pe_op op_add pe_int (pv 3)) pa_nil))) (pa_cons pe_int pa_nil))))
        (pss_cons (ps_set (i := 2) nd rfl (Or.inl rfl) (pe_op op_add (pe_op op_add (pv 2) pe_int) (pe_op op_mod (pv 4) pe_int)))
        (pss_one (ps_expr (pe_calM M_close hr (by decide) pass0 (pv 1) (pa_cons (pv 2) (pa_cons (pe_lstS (pa_cons (pe_tupS (pa_cons pe_str (pa_cons (pe_op op_mod (pv 4) pe_int) pa_nil))) (pa_cons (pe_tupS (pa_cons pe_str (pa_cons (pe_op op_sub (pe_op op_fdiv (pv 4) pe_int) pe_int) pa_nil))) pa_nil))) pa_nil))))))))
        (pss_cons (ps_set (i := 4) nd rfl (Or.inl rfl) (pe_cal C_mixed hr (by decide) pass0 (pa_cons (pe_cal C_cell hr (by decide) pass0 (pa_cons (pv 0) (pa_cons pe_int pa_nil))) (pa_cons pe_int pa_nil))))
        (pss_cons (ps_set (i := 5) nd rfl (Or.inl rfl) (pe_lstS (pa_cons (pe_tupS (pa_cons pe_str (pa_cons (pe_op op_add (pe_op op_mod (pv 4) pe_int) pe_int) pa_nil))) pa_nil)))
        (pss_cons (ps_set (i := 6) nd rfl (Or.inl rfl) (pe_op op_add (pv 2) pe_int))
        (pss_cons (ps_set (i := 7) nd rfl (Or.inl rfl) (pe_lstS pa_nil))
        (pss_cut (ps_if (pt_cmpR op_gt (pe_op op_mod (pv 4) pe_int) pe_int (nomark _)) (pss_cons (ps_set (i := 5) nd rfl (Or.inl rfl) (pe_cal C_bad hr (by decide) pass0 (pa_cons (pv 5) (pa_cons (pe_cal C_mixed hr (by decide) pass0 (pa_cons (pe_cal C_cell hr (by decide) pass0 (pa_cons (pv 0) (pa_cons pe_int pa_nil))) (pa_cons pe_int pa_nil))) pa_nil))))
        (pss_one (ps_set (i := 7) nd rfl (Or.inl rfl) (pe_lstS (pa_cons pe_str pa_nil))))) pss_nil)
        (pss_cut (ps_if (PW.pt (pw_and (pt_cmpR op_eq (pe_op op_mod (pe_op op_fdiv (pv 4) pe_int) pe_int) pe_int (nomark _)) (pw_and1 (pt_cmpR op_notN (pe_calM0 M_last hr (by decide) pass0 (pv 1)) pe_non (nomark _))))) (pss_cons (ps_set (i := 6) nd rfl (Or.inl rfl) (pe_at ix_list (pe_lstS (pa_cons (pv 2) (pa_cons (pe_op op_sub (pv 2) pe_int) (pa_cons (pe_op op_fdiv (pv 2) pe_int) (pa_cons pe_int pa_nil))))) (pe_op op_mod (pe_op op_fdiv (pv 4) pe_int) pe_int)))
        (pss_cut (ps_if (pt_cmpR op_lt (pv 6) pe_int (nomark _)) (pss_one (ps_set (i := 6) nd rfl (Or.inl rfl) pe_int)) pss_nil)
        (pss_one (ps_set (i := 7) nd rfl (Or.inl rfl) (pe_lstS (pa_cons pe_str pa_nil)))))) pss_nil)
        (pss_cut (ps_if (PW.pt (pw_or (pt_cmpR op_eq (pe_op op_mod (pe_op op_fdiv (pv 4) pe_int) pe_int) pe_int (nomark _)) (pw_or1 (pt_cmpR (op_eqNil un0) (pv 7) (pe_lstS pa_nil) (nomark _))))) (pss_cons (ps_set (i := 6) nd rfl (Or.inl rfl) (pe_cal C_odd hr (by decide) pass0 (pa_cons (pe_cal C_mixed hr (by decide) pass0 (pa_cons (pe_cal C_cell hr (by decide) pass0 (pa_cons (pv 0) (pa_cons pe_int pa_nil))) (pa_cons pe_int pa_nil))) (pa_cons (pv 2) pa_nil))))
        (pss_one (ps_set (i := 7) nd rfl (Or.inl rfl) (pe_lstS (pa_cons pe_str pa_nil))))) pss_nil)
        (pss_cons (ps_set (i := 8) nd rfl (Or.inl rfl) (pe_cal C_state hr (by decide) pass0 (pa_cons (pv 1) pa_nil)))
        (pss_cons (ps_for PassesOwn.never rfl (pi_range1 rfl G.range (pa_cons pe_int pa_nil)) (pg_name (i := 9) nd rfl (Or.inl rfl)) (pss_one (ps_if (PW.pt (pw_or (pt_cmpR op_neK (pe_cal C_ref hr (by decide) pass0 (pa_cons (pv 1) (pa_cons (pv 6) (pa_cons (pv 5) pa_nil)))) (pv 7) (nomark _)) (pw_or1 (pt_cmpR op_neK (pe_cal C_state hr (by decide) pass0 (pa_cons (pv 1) pa_nil)) (pv 8) (nomark _))))) (pss_one (ps_ret pe_bl)) pss_nil)))
        (pss_cons (ps_if (pt_val (pe_callB call_isinst rfl G.isinstance boot_isinstance (pa_cons (pv 5) (pa_cons (pe_bltn (v := .ty "list") rfl G.list boot_list rfl) pa_nil)))) (pss_cons (ps_expr (pe_bm0 PySem.F.plainAttrs_list PySem.F.slot_list_clear PySem.F.type_list_clear mt_clear (pv 5)))
        (pss_cons (ps_expr (pe_bm PySem.F.plainAttrs_list PySem.F.slot_list_append PySem.F.type_list_append mt_append (pv 5) (pa_cons (pe_tupS (pa_cons pe_str (pa_cons pe_int pa_nil))) pa_nil)))
        (pss_one (ps_ret (pe_and (pe_cmpR op_eqK (pe_calM M_close hr (by decide) pass0 (pv 1) (pa_cons (pe_op op_add (pv 2) pe_int) (pa_cons (pv 5) pa_nil))) (pe_lstS (pa_cons (pe_tupS (pa_cons pe_str (pa_cons pe_int pa_nil))) pa_nil)) (nomark _)) (pe_one (pe_cmpR op_eq (pe_calM0 M_last hr (by decide) pass0 (pv 1)) (pe_op op_add (pv 2) pe_int) (nomark _)))))))) pss_nil)
        (pss_one (ps_ret (pe_cmpR op_eqK (pe_calM M_close hr (by decide) pass0 (pv 1) (pa_cons (pe_op op_add (pv 2) pe_int) (pa_cons (pe_lstS (pa_cons (pe_tupS (pa_cons pe_str (pa_cons pe_int pa_nil))) pa_nil)) pa_nil))) (pe_lstS (pa_cons (pe_tupS (pa_cons pe_str (pa_cons pe_int pa_nil))) pa_nil)) (nomark _))))))))))))))))), ?main⟩
    dsimp (config := { proj := false, iota := false, beta := false, eta := false }) only [cxOf_K, nox_K]
    refine fun L dx L0 dx0 dL => ⟨L, dx, rfl, upd_same, fun t m H1 t0 m0 LA fr => ⟨rfl, ?_⟩⟩
    have ups : Same H (upd (upd H dx (.own L)) L (.ins C dx [])) := fun b o hb => by
      rw [upd_ne (ne_of_none hb L0), upd_ne (ne_of_none hb dx0)]
      exact hb
    have s1 : Same H H1 := fun b o hb => fr b o (ups b o hb) (ne_of_none hb L0)
    have t0 := ups.free t0
    have m0 := ups.free m0
    clear ups fr dx0 dL
    have hs1 := s1.seq hs
    refine ⟨_, rfl, a, 0, ns, rfl, hs1, by decide, _, 1, rfl, by decide, by decide, _, _, rfl, rfl, (by show (0 : Int) < 100000; decide), ?_⟩
    have b0 : 0 ≤ mixC (cellZ ns 0) 1 % 100000 := Int.emod_nonneg _ (by decide)
    have b1 : mixC (cellZ ns 0) 1 % 100000 < 100000 := Int.emod_lt_of_pos _ (by decide)
    dsimp only
    obtain ⟨mo0, hmo⟩ : ∃ mo0, mixC (cellZ ns 0) 1 % 100000 = mo0 := ⟨_, rfl⟩
    rw [hmo] at b0 b1 ⊢
    have c6 : 0 ≤ cellZ ns 1 % 6 := Int.emod_nonneg _ (by decide)
    have c6' : cellZ ns 1 % 6 < 6 := Int.emod_lt_of_pos _ (by decide)
    refine ⟨_, rfl, a, 1, ns, rfl, hs1, by decide, _, _, rfl, rfl, (by show (0 : Int) < 6; decide), _, rfl, by omega, by omega, for_range2 (fun i σ H' => Ex4 fun mo x3 x4 cl => Ex2 fun tot mds => An4 (σ = [some (.ref a), some (.ref L), some (.int mo), x3, x4, none, none, none, none, none]) (Same H H') (LedAt C H' L dx t m cl tot mds) (LgK i mo cl tot mds)) ⟨mo0, _, _, _, _, _, rfl, s1, LA, .inl rfl, b0, by omega, Nat.le_refl _, Nat.le_refl _, rfl⟩ ?_ ?_⟩
    · rintro i σ H2 hi ⟨mo, x3, x4, cl, tot, mds, rfl, s2, LA2, lk⟩ E3 k3
      have i6 : i < 6 := by omega
      have m1 := lk.lo
      have m2 := lk.hi
      have m3 := lk.mn
      have m4 := lk.tn
      refine ⟨_, rfl, _, rfl, _, _, rfl, rfl, a, _, ns, rfl, s2.seq hs, (by show (0 : Int) ≤ 2 + (0 + (i : Int)); omega), _, 3, rfl, by decide, by decide, ?_⟩
      have cc0 := mixC_nn (cellZ ns (2 + (0 + (i : Int)))) 3
      dsimp only
      obtain ⟨c, hc⟩ : ∃ c, mixC (cellZ ns (2 + (0 + (i : Int)))) 3 = c := ⟨_, rfl⟩
      rw [hc] at cc0 ⊢
      refine ⟨_, rfl, _, _, rfl, rfl, _, rfl, _, _, rfl, rfl, (by show (0 : Int) < 14; decide), _, _, rfl, rfl, ?_⟩
      have c14 : 0 ≤ c % 14 := Int.emod_nonneg _ (by decide)
      have c14' : c % 14 < 14 := Int.emod_lt_of_pos _ (by decide)
      refine ⟨_, rfl, L, dx, _, rfl, LA2.ins, rfl, _, rfl, _, rfl, _, _, rfl, rfl, (by show (0 : Int) < 900; decide), lenOk rfl, fun t1 H3 s3 n3 e3 => ⟨_, rfl, _, _, rfl, rfl, ⟨by decide, by decide⟩, _, _, rfl, rfl, lenOk rfl, fun t2 H4 s4 n4 e4 => ⟨lenOk rfl, fun l5 H5 s5 n5 e5 => ?_⟩⟩⟩
      have S5 := s3.trans (s4.trans s5)
      refine ⟨L, dx, t, m, cl, tot, mds, mo + 1 + c % 14, l5, _, [("eve", c % 900), ("bo", c / 900 - 300)], rfl, LA2.same S5, by omega, by omega, lk.later (by omega), e5, ⟨rfl, fun j x e => ?_⟩, by show 2 < 64; decide, by show (["eve", "bo"] : List Str).Nodup; decide +kernel, fun p hp => ?_, by omega, by omega, fun qs r ys H6 pm up LA6 fr6 n6 e6 T6 => ?_⟩
      · match j, e with
        | 0, e => cases e; exact ⟨t1, rfl, s5 _ _ (s4 _ _ e3)⟩
        | 1, e => cases e; exact ⟨t2, rfl, s5 _ _ e4⟩
      · simp only [List.mem_cons, List.not_mem_nil, or_false] at hp
        rcases hp with rfl | rfl
        · exact name_eve
        · exact name_bo
      · refine k3 _ _ ⟨mo + 1 + c % 14, _, _, _, _, _, rfl, fun b o hb => ?_, LA6, lk.step (by omega) (by omega) pm (by show (["eve", "bo"] : List Str).Nodup; decide +kernel) (by show ¬ ("zed" : Str) ∈ (["eve", "bo"] : List Str); decide +kernel) rfl⟩
        exact fr6 _ _ (S5 _ _ (s2 _ _ hb)) (ne_of_none hb L0) (ne_of_none hb t0) (ne_of_none hb m0)
    · rintro σ H2 ⟨mo, x3, x4, cl, tot, mds, rfl, s2, LA2, lk⟩
      have m1 := lk.lo
      have m2 : mo ≤ 100075 := by
        have := lk.hi
        have e : ((cellZ ns 1 % 6).toNat : Int) ≤ 5 := by omega
        omega
      have m3 : mds.length ≤ 1000 := Nat.le_trans lk.mn (by omega)
      have m4 : tot.length ≤ 1000 := Nat.le_trans lk.tn (by omega)
      obtain ⟨ys2, hm2, _⟩ := LA2.made
      have hs2 := s2.seq hs
      refine ⟨_, rfl, a, 8, ns, rfl, hs2, by decide, _, 2, rfl, by decide, by decide, ?_⟩
      have cc0 := mixC_nn (cellZ ns 8) 2
      dsimp only
      obtain ⟨c, hc⟩ : ∃ c, mixC (cellZ ns 8) 2 = c := ⟨_, rfl⟩
      rw [hc] at cc0 ⊢
      refine ⟨_, rfl, _, _, rfl, rfl, (by show (0 : Int) < 1000; decide), _, _, rfl, rfl, lenOk rfl, fun te H3 s3 n3 e3 => ⟨lenOk rfl, fun dl H4 s4 n4 e4 => ?_⟩⟩
      refine ⟨_, rfl, _, _, rfl, rfl, lenOk rfl, fun el H5 s5 n5 e5 => ?_⟩
      have S5 : Same H2 H5 := s3.trans (s4.trans s5)
      have e3' := s5 _ _ (s4 _ _ e3)
      have e4' := s5 _ _ e4
      have LA5 := LA2.same S5
      have hs5 := S5.seq hs2
      have dl2 : H2 dl = none := s3.free n4
      have du5 : DuOk K H5 L t m (.ref dl) := .inl ⟨dl, _, rfl, e4', (ne_of_none LA2.ins dl2).symm, (ne_of_none LA2.tot dl2).symm, (ne_of_none hm2 dl2).symm⟩
      clear s3 s4 s5 n3 n4 n5 e3 e4
      dsimp only
      refine cut_to (fun σ H' => Ex4 fun v5 a7 ds x3 => An4 (σ = [some (.ref a), some (.ref L), some (.int mo), x3, some (.int c), some v5, some (.int (mo + 1)), some (.ref a7), none, none]) (Same H5 H') (DuOk K H' L t m v5) (H' a7 = some (.lst ds) ∧ (ds = [] ∨ (ds = [.str "close"] ∧ BadD K H' v5)))) (fun En kk => ?_) ?_
      · refine ⟨_, rfl, _, _, rfl, rfl, (by show (0 : Int) < 3; decide), _, _, rfl, rfl, _, rfl, ite2 (fun _ => ?_) (fun _ => ?_)⟩
        · refine ⟨_, rfl, _, rfl, a, 9, ns, rfl, hs5, by decide, _, 4, rfl, by decide, by decide, dl, te, _, _, rfl, e4', e3', mixC_nn _ _, fun v H6 s6 bd ln => ⟨lenOk rfl, fun a7 H7 s7 n7 e7 => ?_⟩⟩
          refine kk _ _ ⟨v, a7, _, _, rfl, s6.trans s7, DuOk.same s7 ?_, e7, .inr ⟨rfl, bd.same s7⟩⟩
          rcases ln with ⟨l, ts, rfl, l0, el'⟩ | h
          · obtain ⟨ys5, hm5, _⟩ := LA5.made
            exact .inl ⟨l, ts, rfl, el', (ne_of_none LA5.ins l0).symm, (ne_of_none LA5.tot l0).symm, (ne_of_none hm5 l0).symm⟩
          · exact .inr h
        · exact kk _ _ ⟨_, el, [], _, rfl, Same.refl _, du5, e5, .inl rfl⟩
      clear e5 e3' e4' du5
      rintro σ H6 ⟨v5, a7, ds, x3', rfl, s6, du6, e6, dd6⟩
      have LA6 := LA5.same s6
      have hs6 := s6.seq hs5
      refine cut_to (fun σ H' => Ex4 fun v6 a7 ds x3 => An4 (σ = [some (.ref a), some (.ref L), some (.int mo), x3, some (.int c), some v5, some v6, some (.ref a7), none, none]) (Same H6 H') (H' a7 = some (.lst ds)) (ds = [] ∨ (ds = [.str "close"] ∧ RF K H' cl 13 v6 v5))) (fun En kk => ?_) ?_
      · have skip : ∀ H', Same H6 H' → En.nx [some (.ref a), some (.ref L), some (.int mo), x3', some (.int c), some v5, some (.int (mo + 1)), some (.ref a7), none, none] H' := fun H' s' => kk _ _ ⟨.int (mo + 1), a7, ds, _, rfl, s', s' _ _ e6, dd6.imp id fun h => ⟨h.1, .inr ⟨rfl, mo + 1, rfl, by omega, by omega, .inr ⟨lk.later (by omega), h.2.same s'⟩⟩⟩⟩
        refine ⟨_, rfl, _, _, rfl, rfl, ⟨by decide, by decide⟩, _, _, rfl, rfl, (by show (0 : Int) < 3; decide), rfl, _, rfl, ite2 (fun _ => ?_) (fun _ => iteF (skip H6 (Same.refl _)))⟩
        refine ⟨_, rfl, L, dx, _, rfl, LA6.ins, rfl, L, dx, t, m, cl, rfl, LA6.ins, rfl, _, rfl, ?_⟩
        rcases lk.cl with ecl | ecl
        · rw [ecl]
          exact iteF (skip H6 (Same.refl _))
        · rw [ecl]
          refine iteT ⟨_, rfl, _, rfl, _, _, rfl, rfl, _, rfl, _, _, rfl, rfl, ⟨by decide, by decide⟩, lenOk rfl, fun l7 H7 s7 n7 e7 => ?_⟩
          obtain ⟨v, ev, mv⟩ := at_any (xs := [V.int mo, V.int (mo - 1), V.int (mo / 2), V.int 0]) (i := c / 9 % 4) (Int.emod_nonneg _ (by decide)) (Int.emod_lt_of_pos _ (by decide))
          obtain ⟨la, rfl, la1⟩ : ∃ la : Int, v = .int la ∧ la ≤ mo := by
            simp only [List.mem_cons, List.not_mem_nil, or_false] at mv
            rcases mv with rfl | rfl | rfl | rfl
            · exact ⟨_, rfl, by omega⟩
            · exact ⟨_, rfl, by omega⟩
            · exact ⟨_, rfl, by omega⟩
            · exact ⟨_, rfl, by omega⟩
          refine ⟨_, rfl, _, _, rfl, rfl, ⟨by decide, by decide⟩, _, _, rfl, rfl, (by show (0 : Int) < 4; decide), l7, _, _, _, rfl, rfl, SqL.of e7, ev, ?_⟩
          refine cut_to (fun σ H' => ∃ la : Int, An4 (σ = [some (.ref a), some (.ref L), some (.int mo), x3', some (.int c), some v5, some (.int la), some (.ref a7), none, none]) (H' = H7) (0 ≤ la) (la ≤ mo)) (fun En2 kk2 => ?_) ?_
          · exact ⟨_, rfl, _, _, rfl, rfl, _, rfl, ite2 (fun e => kk2 _ _ ⟨0, rfl, rfl, by decide, by omega⟩) (fun e => kk2 _ _ ⟨la, rfl, rfl, by
              have e : ¬ la < 0 := fun c => e (decide_eq_true c)
              omega, la1⟩)⟩
          · rintro σ H' ⟨la', rfl, rfl, p0, p1⟩
            refine ⟨lenOk rfl, fun a8 H8 s8 n8 e8 => kk _ _ ⟨.int la', a8, _, _, rfl, s7.trans s8, e8, .inr ⟨rfl, .inr ⟨rfl, la', rfl, p0, by omega, .inl ⟨mo, ecl, p1⟩⟩⟩⟩⟩
      clear e6 dd6
      rintro σ H7 ⟨v6, a7', ds7, x3'', rfl, s7, e7, dd7⟩
      have LA7 := LA6.same s7
      have hs7 := s7.seq hs6
      have du7 := du6.same s7
      refine cut_to (fun σ H' => Ex4 fun v6 a7 i x3 => An4 (σ = [some (.ref a), some (.ref L), some (.int mo), x3, some (.int c), some v5, some v6, some (.ref a7), none, none]) (Same H7 H') (H' a7 = some (.lst (kW i))) (RF K H' cl i v6 v5)) (fun En kk => ?_) ?_
      · refine if_to (fun R => ∀ b H', Same H7 H' → (b = false → ds7 ≠ []) → R b H') (fun R r => ?_) fun b H8 s8 hb => ?_
        · refine ⟨_, rfl, _, _, rfl, rfl, ⟨by decide, by decide⟩, _, _, rfl, rfl, (by show (0 : Int) < 3; decide), rfl, _, rfl, ite2 (fun _ => r true H7 (Same.refl _) (fun z => nomatch z)) (fun _ => ?_)⟩
          exact ⟨_, rfl, lenOk rfl, fun em H8 s8 n8 e8 => ⟨a7', em, ds7, rfl, rfl, SqL.of (s8 _ _ e7), SqL.of e8, fun _ => ⟨true, rfl, r true H8 s8 (fun z => nomatch z)⟩, fun nN => ⟨false, rfl, r false H8 s8 fun _ => nN⟩⟩⟩
        · cases b with
          | true =>
            refine iteT ⟨_, rfl, a, 10, ns, rfl, s8.seq hs7, by decide, _, 5, rfl, by decide, by decide, _, rfl, _, _, rfl, mixC_nn _ _, fun v H9 s9 nt => ⟨lenOk rfl, fun a9 H10 s10 n10 e10 => ?_⟩⟩
            exact kk _ _ ⟨v, a9, 3, _, rfl, s8.trans (s9.trans s10), by rw [e10, kW3], .inl ⟨rfl, nt.same s10⟩⟩
          | false =>
            rcases dd7 with rfl | ⟨rfl, rf⟩
            · exact absurd rfl (hb rfl)
            · exact iteF (kk _ _ ⟨v6, a7', 13, _, rfl, s8, by rw [s8 _ _ e7, kW13], rf.same s8⟩)
      clear e7 dd7
      rintro σ H8 ⟨w6, a8, i, x3b, rfl, s8, e8, rf⟩
      have LA8 := LA7.same s8
      have du8 := du7.same s8
      refine ⟨_, rfl, L, dx, t, m, cl, tot, mds, rfl, LA8, fun sl pl ys H9 s9 n9 e9 ep9 T9 => ?_⟩
      refine ⟨_, rfl, by decide, by decide, for_range2 (fun j σ H' => Ex2 fun x3 x9 => σ = [some (.ref a), some (.ref L), some (.int mo), x3, some (.int c), some v5, some w6, some (.ref a8), some (.ref sl), x9] ∧ Same H9 H') ⟨_, _, rfl, Same.refl _⟩ ?_ ?_⟩
      · rintro j σ H10 hj ⟨y3, y9, rfl, s10⟩ E4 k4
        have S10 := s9.trans s10
        have LA10 := LA8.same S10
        refine ⟨_, rfl, _, rfl, _, rfl, L, dx, t, m, cl, w6, v5, i, rfl, LA10.ins, rf.same S10, fun l11 H11 s11 n11 e11 => ?_⟩
        have fk : ((kW i).all flatV) = true := List.all_eq_true.mpr fun x hx => by
          obtain ⟨p, _, rfl⟩ := List.mem_map.mp hx
          rfl
        refine ⟨_, rfl, 1, _, rfl, Is.flat (SqL.of e11) fk, Is.flat (SqL.of (s11 _ _ (S10 _ _ e8))) fk, un1, _, rfl, iteF ?_⟩
        refine ⟨_, rfl, L, dx, t, m, cl, tot, mds, rfl, LA10.same s11, fun sl2 pl2 ys2 H12 s12 n12 e12 ep12 T12 => ?_⟩
        have S12 := s10.trans (s11.trans s12)
        refine ⟨_, rfl, 3, _, rfl, st_is lk.flat e12 ep12 T12, st_is lk.flat (S12 _ _ e9) (S12 _ _ ep9) (T9.same S12), un3, _, rfl, iteF ?_⟩
        exact k4 _ _ ⟨_, _, rfl, S12⟩
      · rintro σ H10 ⟨y3, y9, rfl, s10⟩
        have S10 := s9.trans s10
        have LA10 := LA8.same S10
        have du10 := du8.same S10
        rcases du10 with ⟨l, ts, rfl, hl, lL, lt, lm⟩ | ⟨ty, h1, h2⟩
        · refine ⟨_, rfl, _, _, _, _, true, rfl, rfl, .inl (.lst hl), rfl, true, rfl, iteT ?_⟩
          refine ⟨_, rfl, .inl ⟨rfl, _, SqL.of hl⟩, l, ts, rfl, rfl, hl, ?_⟩
          have e11 : upd H10 l (.lst []) l = some (.lst []) := upd_same
          have f11 : ∀ b o, b ≠ l → H10 b = some o → upd H10 l (.lst []) b = some o := fun b o n h => by rw [upd_ne n]; exact h
          generalize upd H10 l (.lst []) = H11 at e11 f11
          refine ⟨_, rfl, .inl ⟨rfl, _, SqL.of e11⟩, lenOk rfl, fun tz H12 s12 n12 e12 => ⟨l, [], _, rfl, rfl, s12 _ _ e11, by rw [sizeLine_eq]; show 0 < 16777216; decide, ?_⟩⟩
          have lz : tz ≠ l := (ne_of_none e11 n12).symm
          have e13 : upd H12 l (.lst ([] ++ [.ref tz])) l = some (.lst [.ref tz]) := upd_same
          have f13 : ∀ b o, b ≠ l → H12 b = some o → upd H12 l (.lst ([] ++ [.ref tz])) b = some o := fun b o n h => by rw [upd_ne n]; exact h
          generalize upd H12 l (.lst ([] ++ [.ref tz])) = H13 at e13 f13
          have g13 : ∀ b o, b ≠ l → H10 b = some o → H13 b = some o := fun b o n h => f13 _ _ n (s12 _ _ (f11 _ _ n h))
          have LA13 : LedAt C H13 L dx t m cl tot mds := by
            obtain ⟨zs, z1, z2⟩ := LA10.made
            refine ⟨g13 _ _ (Ne.symm lL) LA10.ins, g13 _ _ (Ne.symm lt) LA10.tot, zs, g13 _ _ (Ne.symm lm) z1, z2.mono fun b c h => g13 _ _ (ne_of h hl (by intro z; cases z)) h⟩
          refine ⟨_, rfl, L, dx, _, rfl, LA13.ins, rfl, _, rfl, _, _, rfl, rfl, _, rfl, L, dx, t, m, cl, tot, mds, mo + 1, l, _, [("zed", 7)], rfl, LA13, by omega, by omega, lk.later (by omega), e13, ⟨rfl, fun j x e => ?_⟩, by show 1 < 64; decide, by show (["zed"] : List Str).Nodup; decide +kernel, fun p hp => by rw [List.mem_singleton.mp hp]; exact name_zed, m3, m4, fun qs r zs H14 pm up LA14 fr14 n14 e14 T14 => ?_⟩
          · match j, e with
            | 0, e => cases e; exact ⟨tz, rfl, f13 _ _ lz e12⟩
          rw [zed_dues lk.zd pm] at T14
          refine ⟨lenOk rfl, fun u1 H15 s15 n15 e15 => ⟨lenOk rfl, fun u2 H16 s16 n16 e16 => ?_⟩⟩
          have S16 := s15.trans s16
          refine ⟨2, _, rfl, zed_is (S16 _ _ e14) (T14.same S16), zed_is e16 ⟨rfl, fun j x e => ?_⟩, un2, _, rfl, iteT ?_⟩
          · match j, e with
            | 0, e => cases e; exact ⟨u1, rfl, s16 _ _ e15⟩
          refine ⟨_, rfl, L, dx, _, rfl, S16 _ _ LA14.ins, rfl, L, dx, t, m, _, rfl, S16 _ _ LA14.ins, _, rfl, _, _, rfl, rfl, rfl, ?_⟩
          rw [decide_eq_true rfl]
          exact q H16
        · refine ⟨_, rfl, _, _, _, _, false, rfl, rfl, .inl h1, h2, false, rfl, iteF ?_⟩
          refine ⟨_, rfl, L, dx, _, rfl, LA10.ins, rfl, _, rfl, _, _, rfl, rfl, lenOk rfl, fun tz H12 s12 n12 e12 => ⟨lenOk rfl, fun l H13 s13 n13 e13 => ?_⟩⟩
          have S13 := s12.trans s13
          refine ⟨L, dx, t, m, cl, tot, mds, mo + 1, l, _, [("zed", 7)], rfl, LA10.same S13, by omega, by omega, lk.later (by omega), e13, ⟨rfl, fun j x e => ?_⟩, by show 1 < 64; decide, by show (["zed"] : List Str).Nodup; decide +kernel, fun p hp => by rw [List.mem_singleton.mp hp]; exact name_zed, m3, m4, fun qs r zs H14 pm up LA14 fr14 n14 e14 T14 => ?_⟩
          · match j, e with
            | 0, e => cases e; exact ⟨tz, rfl, s13 _ _ e12⟩
          rw [zed_dues lk.zd pm] at T14
          refine ⟨lenOk rfl, fun u1 H15 s15 n15 e15 => ⟨lenOk rfl, fun u2 H16 s16 n16 e16 => ?_⟩⟩
          have S16 := s15.trans s16
          refine ⟨2, _, rfl, zed_is (S16 _ _ e14) (T14.same S16), zed_is e16 ⟨rfl, fun j x e => ?_⟩, un2, q H16⟩
          match j, e with
          | 0, e => cases e; exact ⟨u1, rfl, s16 _ _ e15⟩
end
end K24
set_option Elab.async false
set_option linter.all false
set_option maxRecDepth 100000
namespace K24
open PySem L2 Pg
theorem law_fn {l : PySem.W.OpenLaw} {w : World} {K : PySem.W.Frag} {h : Heap} {mg : Str → Option Value} {fa : Addr} {c0 c1 c2 c3 c4 c5 c6 c7 c8 c9 c10 c11 c12 c13 c14 cR cL : Addr} {t0 t1 : Tok} {u0 : Tok} (X : K.In h) (G : h.Ns mainGlobals mg) (hfa : mg "law" = some (.ref fa))
    (f_is_number : FnAt K "is_number" (top 18))
    (f_is_number_within : FnAt K "is_number_within" (top 19))
    (f_is_word_of : FnAt K "is_word_of" (top 23))
    (f_is_name : FnAt K "is_name" (top 24))
    (f_need_month : FnAt K "need_month" (top 27))
    (f_is_due : FnAt K "is_due" (top 29))
    (f_need_dues : FnAt K "need_dues" (top 30))
    (f__law_cell_at : FnAt K "_law_cell_at" (top 33))
    (f__law_mixed : FnAt K "_law_mixed" (top 34))
    (f__law_kind : FnAt K "_law_kind" (top 35))
    (f__law_odd_month : FnAt K "_law_odd_month" (top 36))
    (f__law_odd_pair : FnAt K "_law_odd_pair" (top 37))
    (f__law_bad_dues : FnAt K "_law_bad_dues" (top 38))
    (f__law_refused : FnAt K "_law_refused" (top 39))
    (f__law_state : FnAt K "_law_state" (top 40))
    (f_law : FnAt K "law" (top 41))
    (n0 : PySem.W.nsIn K mainGlobals "BadAmount" = some (some (.ref c0)))
    (n1 : PySem.W.nsIn K mainGlobals "BadShare" = some (some (.ref c1)))
    (n2 : PySem.W.nsIn K mainGlobals "BadText" = some (some (.ref c2)))
    (n3 : PySem.W.nsIn K mainGlobals "BadMonth" = some (some (.ref c3)))
    (n4 : PySem.W.nsIn K mainGlobals "BadYear" = some (some (.ref c4)))
    (n5 : PySem.W.nsIn K mainGlobals "BadRule" = some (some (.ref c5)))
    (n6 : PySem.W.nsIn K mainGlobals "BadBook" = some (some (.ref c6)))
    (n7 : PySem.W.nsIn K mainGlobals "NoYear" = some (some (.ref c7)))
    (n8 : PySem.W.nsIn K mainGlobals "BadDay" = some (some (.ref c8)))
    (n9 : PySem.W.nsIn K mainGlobals "BadEntry" = some (some (.ref c9)))
    (n10 : PySem.W.nsIn K mainGlobals "NoMark" = some (some (.ref c10)))
    (n11 : PySem.W.nsIn K mainGlobals "NoPerson" = some (some (.ref c11)))
    (n12 : PySem.W.nsIn K mainGlobals "TooMany" = some (some (.ref c12)))
    (n13 : PySem.W.nsIn K mainGlobals "BadClose" = some (some (.ref c13)))
    (n14 : PySem.W.nsIn K mainGlobals "BadLine" = some (some (.ref c14)))
    (nR : PySem.W.nsIn K mainGlobals "RollError" = some (some (.ref cR)))
    (gc0 : PySem.W.nsIn K mainGlobals "MOST_SIGNS" = some (some (.int 8 t0)))
    (gc1 : PySem.W.nsIn K mainGlobals "LAST_MONTH" = some (some (.int 119999 t1)))
    (s0 : PySem.W.nsIn K mainGlobals "LETTERS" = some (some (.str "abcdefghijklmnopqrstuvwxyz" u0)))
    (b_isinstance : PySem.W.nsIn K mainGlobals "isinstance" = some none)
    (b_int : PySem.W.nsIn K mainGlobals "int" = some none)
    (b_bool : PySem.W.nsIn K mainGlobals "bool" = some none)
    (b_str : PySem.W.nsIn K mainGlobals "str" = some none)
    (b_len : PySem.W.nsIn K mainGlobals "len" = some none)
    (b_range : PySem.W.nsIn K mainGlobals "range" = some none)
    (b_ValueError : PySem.W.nsIn K mainGlobals "ValueError" = some none)
    (b_list : PySem.W.nsIn K mainGlobals "list" = some none)
    (b_tuple : PySem.W.nsIn K mainGlobals "tuple" = some none)
    (b_dict : PySem.W.nsIn K mainGlobals "dict" = some none)
    (b_set : PySem.W.nsIn K mainGlobals "set" = some none)
    (b_all : PySem.W.nsIn K mainGlobals "all" = some none)
    (b_any : PySem.W.nsIn K mainGlobals "any" = some none)
    (b_sum : PySem.W.nsIn K mainGlobals "sum" = some none)
    (b_sorted : PySem.W.nsIn K mainGlobals "sorted" = some none)
    (b_abs : PySem.W.nsIn K mainGlobals "abs" = some none)
    (b_max : PySem.W.nsIn K mainGlobals "max" = some none)
    (b_min : PySem.W.nsIn K mainGlobals "min" = some none)
    (b_zip : PySem.W.nsIn K mainGlobals "zip" = some none)
    (b_enumerate : PySem.W.nsIn K mainGlobals "enumerate" = some none)
    (b_reversed : PySem.W.nsIn K mainGlobals "reversed" = some none)
    (x3 : PySem.W.excIn K c3 veMro "ValueError.__new__" = true)
    (e3 : PySem.W.exmOne K (.ref c3) (.ref cR) = some true)
    (X3 : XK.ExcCls K c3)
    (v3 : PySem.W.kitOne K (.ref c3) (.type "ValueError") = some true)
    (k3_0 : PySem.W.kitOne K (.ref c3) (.ref c0) = some false)
    (k3_1 : PySem.W.kitOne K (.ref c3) (.ref c1) = some false)
    (k3_2 : PySem.W.kitOne K (.ref c3) (.ref c2) = some false)
    (k3_3 : PySem.W.kitOne K (.ref c3) (.ref c3) = some true)
    (k3_4 : PySem.W.kitOne K (.ref c3) (.ref c4) = some false)
    (k3_5 : PySem.W.kitOne K (.ref c3) (.ref c5) = some false)
    (k3_6 : PySem.W.kitOne K (.ref c3) (.ref c6) = some false)
    (k3_7 : PySem.W.kitOne K (.ref c3) (.ref c7) = some false)
    (k3_8 : PySem.W.kitOne K (.ref c3) (.ref c8) = some false)
    (k3_9 : PySem.W.kitOne K (.ref c3) (.ref c9) = some false)
    (k3_10 : PySem.W.kitOne K (.ref c3) (.ref c10) = some false)
    (k3_11 : PySem.W.kitOne K (.ref c3) (.ref c11) = some false)
    (k3_12 : PySem.W.kitOne K (.ref c3) (.ref c12) = some false)
    (k3_13 : PySem.W.kitOne K (.ref c3) (.ref c13) = some false)
    (k3_14 : PySem.W.kitOne K (.ref c3) (.ref c14) = some false)
    (x13 : PySem.W.excIn K c13 veMro "ValueError.__new__" = true)
    (e13 : PySem.W.exmOne K (.ref c13) (.ref cR) = some true)
    (X13 : XK.ExcCls K c13)
    (v13 : PySem.W.kitOne K (.ref c13) (.type "ValueError") = some true)
    (k13_0 : PySem.W.kitOne K (.ref c13) (.ref c0) = some false)
    (k13_1 : PySem.W.kitOne K (.ref c13) (.ref c1) = some false)
    (k13_2 : PySem.W.kitOne K (.ref c13) (.ref c2) = some false)
    (k13_3 : PySem.W.kitOne K (.ref c13) (.ref c3) = some false)
    (k13_4 : PySem.W.kitOne K (.ref c13) (.ref c4) = some false)
    (k13_5 : PySem.W.kitOne K (.ref c13) (.ref c5) = some false)
    (k13_6 : PySem.W.kitOne K (.ref c13) (.ref c6) = some false)
    (k13_7 : PySem.W.kitOne K (.ref c13) (.ref c7) = some false)
    (k13_8 : PySem.W.kitOne K (.ref c13) (.ref c8) = some false)
    (k13_9 : PySem.W.kitOne K (.ref c13) (.ref c9) = some false)
    (k13_10 : PySem.W.kitOne K (.ref c13) (.ref c10) = some false)
    (k13_11 : PySem.W.kitOne K (.ref c13) (.ref c11) = some false)
    (k13_12 : PySem.W.kitOne K (.ref c13) (.ref c12) = some false)
    (k13_13 : PySem.W.kitOne K (.ref c13) (.ref c13) = some true)
    (k13_14 : PySem.W.kitOne K (.ref c13) (.ref c14) = some false)
    (q_Ledger : PySem.W.nsIn K mainGlobals "Ledger" = some (some (.ref cL)))
    (q1_Ledger : PySem.W.plainGet K cL Str.empty = true)
    (q2_Ledger : PySem.W.hasDictIn K cL = true)
    (q3_Ledger : PySem.W.plainOver K cL = true)
    (q4_Ledger : PySem.W.findIn K (.ref cL) "__setattr__" = some (some (.builtin "object.__setattr__")))
    (a_Ledger_totals : NoAttr K cL "totals")
    (a_Ledger_made : NoAttr K cL "made")
    (a_Ledger_closed : NoAttr K cL "closed")
    (m_Ledger___init__ : NwAt K cL "Ledger.__init__" (inClass (top 31) 0))
    (m_Ledger_need_later : MtAt K cL "need_later" "Ledger.need_later" (inClass (top 31) 1))
    (m_Ledger_close : MtAt K cL "close" "Ledger.close" (inClass (top 31) 2))
    (m_Ledger_paid : MtAt K cL "paid" "Ledger.paid" (inClass (top 31) 3))
    (m_Ledger_owed : MtAt K cL "owed" "Ledger.owed" (inClass (top 31) 4))
    (m_Ledger_payments : MtAt K cL "payments" "Ledger.payments" (inClass (top 31) 5))
    (m_Ledger_last : MtAt K cL "last" "Ledger.last" (inClass (top 31) 6))
    : ∃ fd : FuncData, (∀ (s : Shared) (v : Value), BindsTo s fd ⟨[v], []⟩ [("_law_script", v)]) ∧ ∀ base : Heap, K.In base → base.Ns mainGlobals mg → FnOk l.prog w K mg base CX0 7 fa fd ["_law_script"] (sp_lawS K) := by
  obtain ⟨d, rfl, rfl, rfl, rfl, rfl, rfl, rfl, rfl, rfl, rfl, rfl, rfl, rfl, rfl, rfl⟩ : ∃ d : Nat → Addr, d 0 = c0 ∧ d 1 = c1 ∧ d 2 = c2 ∧ d 3 = c3 ∧ d 4 = c4 ∧ d 5 = c5 ∧ d 6 = c6 ∧ d 7 = c7 ∧ d 8 = c8 ∧ d 9 = c9 ∧ d 10 = c10 ∧ d 11 = c11 ∧ d 12 = c12 ∧ d 13 = c13 ∧ d 14 = c14 := ⟨fun i => [c0, c1, c2, c3, c4, c5, c6, c7, c8, c9, c10, c11, c12, c13, c14].getD i 0, rfl, rfl, rfl, rfl, rfl, rfl, rfl, rfl, rfl, rfl, rfl, rfl, rfl, rfl, rfl⟩
  obtain ⟨fl, fdl, al, Fl⟩ := f_law
  have e := hfa.symm.trans (PySem.W.mg_of X G al)
  cases e
  have k3 : KdOf K d (d 3) 3 := ⟨X3, v3, k3_0, k3_1, k3_2, k3_3, k3_4, k3_5, k3_6, k3_7, k3_8, k3_9, k3_10, k3_11, k3_12, k3_13, k3_14⟩
  have k13 : KdOf K d (d 13) 13 := ⟨X13, v13, k13_0, k13_1, k13_2, k13_3, k13_4, k13_5, k13_6, k13_7, k13_8, k13_9, k13_10, k13_11, k13_12, k13_13, k13_14⟩
  have GL : Glb mg := ⟨PySem.W.mg_none_of X G b_isinstance, PySem.W.mg_none_of X G b_int, PySem.W.mg_none_of X G b_bool, PySem.W.mg_none_of X G b_str, PySem.W.mg_none_of X G b_len, PySem.W.mg_none_of X G b_range, PySem.W.mg_none_of X G b_ValueError, PySem.W.mg_none_of X G b_list, PySem.W.mg_none_of X G b_tuple, PySem.W.mg_none_of X G b_dict, PySem.W.mg_none_of X G b_set, PySem.W.mg_none_of X G b_all, PySem.W.mg_none_of X G b_any, PySem.W.mg_none_of X G b_sum, PySem.W.mg_none_of X G b_sorted, PySem.W.mg_none_of X G b_abs, PySem.W.mg_none_of X G b_max, PySem.W.mg_none_of X G b_min, PySem.W.mg_none_of X G b_zip, PySem.W.mg_none_of X G b_enumerate, PySem.W.mg_none_of X G b_reversed⟩
  have KD : Kds mg d := ⟨PySem.W.mg_of X G n0, PySem.W.mg_of X G n1, PySem.W.mg_of X G n2, PySem.W.mg_of X G n3, PySem.W.mg_of X G n4, PySem.W.mg_of X G n5, PySem.W.mg_of X G n6, PySem.W.mg_of X G n7, PySem.W.mg_of X G n8, PySem.W.mg_of X G n9, PySem.W.mg_of X G n10, PySem.W.mg_of X G n11, PySem.W.mg_of X G n12, PySem.W.mg_of X G n13, PySem.W.mg_of X G n14⟩
  have mgR : mg "RollError" = some (.ref cR) := PySem.W.mg_of X G nR
  have ER3 : Er K mg "BadMonth" (d 3) := ⟨PySem.W.mg_of X G n3, x3⟩
  have RZ3 : Rz K d cR 3 := ⟨e3, k3⟩
  have ER13 : Er K mg "BadClose" (d 13) := ⟨PySem.W.mg_of X G n13, x13⟩
  have RZ13 : Rz K d cR 13 := ⟨e13, k13⟩
  have N_MOST_SIGNS : Num mg "MOST_SIGNS" 8 := ⟨t0, PySem.W.mg_of X G gc0⟩
  have N_LAST_MONTH : Num mg "LAST_MONTH" 119999 := ⟨t1, PySem.W.mg_of X G gc1⟩
  have N_LETTERS : Pg.Txt mg "LETTERS" "abcdefghijklmnopqrstuvwxyz" := ⟨_, PySem.W.mg_of X G s0⟩
  have bl := Fl.binds (ps := ["_law_script"]) (fun _ _ _ _ _ _ us hl => by obtain ⟨a, rfl⟩ := ulen1 hl; rfl)
  refine ⟨fdl, fun s v => ?_, fun base _ _ => ?_⟩
  · obtain ⟨oc, od, kV, doc, pm, an, cdv, ct, osl, rfl, lk, hcd⟩ := Fl.ex
    exact .of_eq rfl
  have KL_Ledger : Cls K cL := ⟨q1_Ledger, q2_Ledger, q3_Ledger, q4_Ledger⟩
  have mg_Ledger : mg "Ledger" = some (.ref cL) := PySem.W.mg_of X G q_Ledger
  have LK : LdgK K cL := ⟨KL_Ledger, a_Ledger_totals, a_Ledger_made, a_Ledger_closed⟩
  have C1 := f_is_number.cal (P := l.prog) (w := w) (base := base) (ps := ["thing"]) X G (fun _ _ _ _ _ _ us hl => by obtain ⟨a, rfl⟩ := ulen1 hl; rfl) fun f fd F => ok_is_number F GL
  have C2 := f_is_number_within.cal (P := l.prog) (w := w) (base := base) (ps := ["thing", "least", "most"]) X G (fun _ _ _ _ _ _ us hl => by obtain ⟨a, b, c, rfl⟩ := ulen3 hl; rfl) fun f fd F => ok_within F C1
  have C3 := f_need_month.cal (P := l.prog) (w := w) (base := base) (ps := ["thing"]) X G (fun _ _ _ _ _ _ us hl => by obtain ⟨a, rfl⟩ := ulen1 hl; rfl) fun f fd F => ok_need_month0 F N_LAST_MONTH C2
  have C3x := f_need_month.cal (P := l.prog) (w := w) (base := base) (ps := ["thing"]) X G (fun _ _ _ _ _ _ us hl => by obtain ⟨a, rfl⟩ := ulen1 hl; rfl) fun f fd F => ok_need_month F ER3 N_LAST_MONTH C2
  have C4 := f_is_word_of.cal (P := l.prog) (w := w) (base := base) (ps := ["thing", "signs"]) X G (fun _ _ _ _ _ _ us hl => by obtain ⟨a, b, rfl⟩ := ulen2 hl; rfl) fun f fd F => ok_word F GL N_MOST_SIGNS
  have C4b := f_is_word_of.cal (P := l.prog) (w := w) (base := base) (ps := ["thing", "signs"]) X G (fun _ _ _ _ _ _ us hl => by obtain ⟨a, b, rfl⟩ := ulen2 hl; rfl) fun f fd F => ok_wordB F GL N_MOST_SIGNS
  have C5 := f_is_name.cal (P := l.prog) (w := w) (base := base) (ps := ["thing"]) X G (fun _ _ _ _ _ _ us hl => by obtain ⟨a, rfl⟩ := ulen1 hl; rfl) fun f fd F => ok_name F N_LETTERS C4
  have C5b := f_is_name.cal (P := l.prog) (w := w) (base := base) (ps := ["thing"]) X G (fun _ _ _ _ _ _ us hl => by obtain ⟨a, rfl⟩ := ulen1 hl; rfl) fun f fd F => ok_nameB F N_LETTERS C4b
  have C6 := f_is_due.cal (P := l.prog) (w := w) (base := base) (ps := ["thing"]) X G (fun _ _ _ _ _ _ us hl => by obtain ⟨a, rfl⟩ := ulen1 hl; rfl) fun f fd F => ok_due F GL C1 C5
  have C6b := f_is_due.cal (P := l.prog) (w := w) (base := base) (ps := ["thing"]) X G (fun _ _ _ _ _ _ us hl => by obtain ⟨a, rfl⟩ := ulen1 hl; rfl) fun f fd F => ok_dueB F GL C1 C5b
  have C7 := f_need_dues.cal (P := l.prog) (w := w) (base := base) (ps := ["thing"]) X G (fun _ _ _ _ _ _ us hl => by obtain ⟨a, rfl⟩ := ulen1 hl; rfl) fun f fd F => ok_dues F GL C6
  have C7x := f_need_dues.cal (P := l.prog) (w := w) (base := base) (ps := ["thing"]) X G (fun _ _ _ _ _ _ us hl => by obtain ⟨a, rfl⟩ := ulen1 hl; rfl) fun f fd F => ok_duesX F GL ER13 C6b
  have M0 := m_Ledger___init__.cal (P := l.prog) (w := w) (mg := mg) (base := base) (ps := ["self"]) mg_Ledger (fun _ _ _ _ _ _ us hl => by obtain ⟨a, rfl⟩ := ulen1 hl; rfl) fun f fd F => ok_init F LK
  have M1 := m_Ledger_need_later.cal (P := l.prog) (w := w) (mg := mg) (base := base) (ps := ["self", "month"]) KL_Ledger (fun _ _ _ _ _ _ us hl => by obtain ⟨a, b, rfl⟩ := ulen2 hl; rfl) fun f fd F => ok_later F LK C3
  have M1x := m_Ledger_need_later.cal (P := l.prog) (w := w) (mg := mg) (base := base) (ps := ["self", "month"]) KL_Ledger (fun _ _ _ _ _ _ us hl => by obtain ⟨a, b, rfl⟩ := ulen2 hl; rfl) fun f fd F => ok_laterE F LK ER13 C3x
  have M2 := m_Ledger_paid.cal (P := l.prog) (w := w) (mg := mg) (base := base) (ps := ["self", "name"]) KL_Ledger (fun _ _ _ _ _ _ us hl => by obtain ⟨a, b, rfl⟩ := ulen2 hl; rfl) fun f fd F => ok_paid F LK
  have M3 := m_Ledger_owed.cal (P := l.prog) (w := w) (mg := mg) (base := base) (ps := ["self", "name", "due"]) KL_Ledger (fun _ _ _ _ _ _ us hl => by obtain ⟨a, b, c, rfl⟩ := ulen3 hl; rfl) fun f fd F => ok_owed F M2
  have M4 := m_Ledger_payments.cal (P := l.prog) (w := w) (mg := mg) (base := base) (ps := ["self"]) KL_Ledger (fun _ _ _ _ _ _ us hl => by obtain ⟨a, rfl⟩ := ulen1 hl; rfl) fun f fd F => ok_payments F LK GL
  have M6 := m_Ledger_last.cal (P := l.prog) (w := w) (mg := mg) (base := base) (ps := ["self"]) KL_Ledger (fun _ _ _ _ _ _ us hl => by obtain ⟨a, rfl⟩ := ulen1 hl; rfl) fun f fd F => ok_last F LK
  have M5 := m_Ledger_close.cal (P := l.prog) (w := w) (mg := mg) (base := base) (ps := ["self", "month", "dues"]) KL_Ledger (fun _ _ _ _ _ _ us hl => by obtain ⟨a, b, c, rfl⟩ := ulen3 hl; rfl) fun f fd F => ok_close F LK GL M1 C7 M3 M2
  have M5x := m_Ledger_close.cal (P := l.prog) (w := w) (mg := mg) (base := base) (ps := ["self", "month", "dues"]) KL_Ledger (fun _ _ _ _ _ _ us hl => by obtain ⟨a, b, c, rfl⟩ := ulen3 hl; rfl) fun f fd F => ok_closeX F M1x C7x
  have D1 := f__law_cell_at.cal (P := l.prog) (w := w) (base := base) (ps := ["_law_script", "_law_k"]) X G (fun _ _ _ _ _ _ us hl => by obtain ⟨a, b, rfl⟩ := ulen2 hl; rfl) fun f fd F => ok_cell_at F GL
  have D2 := f__law_mixed.cal (P := l.prog) (w := w) (base := base) (ps := ["_law_cell", "_law_k"]) X G (fun _ _ _ _ _ _ us hl => by obtain ⟨a, b, rfl⟩ := ulen2 hl; rfl) fun f fd F => ok_mixC F
  have D3 := f__law_kind.calQ (P := l.prog) (w := w) (base := base) (ps := ["_law_e"]) X G (fun _ _ _ _ _ _ us hl => by obtain ⟨a, rfl⟩ := ulen1 hl; rfl) fun f fd F => ok_kindB F GL KD
  have D4 := f__law_odd_month.cal (P := l.prog) (w := w) (base := base) (ps := ["_law_cell", "_law_last"]) X G (fun _ _ _ _ _ _ us hl => by obtain ⟨a, b, rfl⟩ := ulen2 hl; rfl) fun f fd F => ok_oddM F
  have D5 := f__law_odd_pair.cal (P := l.prog) (w := w) (base := base) (ps := ["_law_cell"]) X G (fun _ _ _ _ _ _ us hl => by obtain ⟨a, rfl⟩ := ulen1 hl; rfl) fun f fd F => ok_oddP F
  have D6 := f__law_bad_dues.cal (P := l.prog) (w := w) (base := base) (ps := ["_law_dues", "_law_cell"]) X G (fun _ _ _ _ _ _ us hl => by obtain ⟨a, b, rfl⟩ := ulen2 hl; rfl) fun f fd F => ok_badD F GL D5
  have D7 := f__law_refused.cal (P := l.prog) (w := w) (base := base) (ps := ["_law_ledger", "_law_month", "_law_dues"]) X G (fun _ _ _ _ _ _ us hl => by obtain ⟨a, b, c, rfl⟩ := ulen3 hl; rfl) fun f fd F => ok_refC F mgR RZ3 RZ13 M5x D3
  have D8 := f__law_state.cal (P := l.prog) (w := w) (base := base) (ps := ["_law_ledger"]) X G (fun _ _ _ _ _ _ us hl => by obtain ⟨a, rfl⟩ := ulen1 hl; rfl) fun f fd F => ok_stC F M2 M4 M6
  exact ok_law Fl GL D1 D2 M0 M5 M6 D6 D4 D8 D7
theorem walk {l : PySem.W.OpenLaw} {q : Program} {loose : List Str} {XP : (Str → Option Value) → Heap → Prop} {YP : World → Heap → Prop} {d : DefRec} {K : Params → PySem.W.Frag} (hn : l.most = some 63) (hdf : d.params.defaults = [])
    (hY : ∀ (w : World) (h : Heap), YP w h → (K w.params).In h)
    (F : ∀ (w : World) (mg : Str → Option Value) (fa : Addr) (h : Heap), (K w.params).In h → h.Ns mainGlobals mg → mg d.name = some (.ref fa) →
      ∃ fd : FuncData, (∀ (s : Shared) (u : Value), BindsTo s fd ⟨[u], []⟩ [("_law_script", u)]) ∧ ∀ base : Heap, (K w.params).In base → base.Ns mainGlobals mg → FnOk l.prog w (K w.params) mg base CX0 7 fa fd ["_law_script"] (sp_lawS (K w.params))) :
    PySem.W.WalkO q loose XP YP l.row.toRowW d [] (fun f vs => PySem.call f vs) :=
  L2.walk_of (n := 63) (k := 7) (x := "_law_script") (CX := fun _ => CX0) (sp := fun w => (sp_lawS (K w.params))) hn (by decide) hdf ⟨rfl, by decide, by decide⟩ hY F (fun _ _ a ns hl _ hS => ⟨a, ns, rfl, hS, fun _ => rfl⟩) fun _ _ _ _ _ z => z
end K24
set_option Elab.async false
set_option linter.all false
set_option maxRecDepth 100000
namespace L2
open PySem PySem.W PySem.Calls PyProof.Rows

noncomputable def runT (tb : String → Option Builtin) (p : Program) (w : World) (n₀ : Nat) (ann : Option Value) : Nat → SharedT → Thread → Option SharedT
  | 0, _, _ => none
  | n + 1, s, t => match through t with
    | true => some s
    | false => match stepOk n₀ ann t with
      | false => none
      | true => match stepT (denote tb) p w s t with
        | some (s', t') => runT tb p w n₀ ann n s' t'
        | none => none
theorem run_of {tb : String → Option Builtin} {p : Program} {w : World} {n₀ : Nat} {ann : Option Value} (n : Nat) : ∀ {s s' : SharedT} {t : Thread}, runT tb p w n₀ ann n s t = some s' → topRun tb p w n₀ ann n s.abs t = some s'.abs := by
  induction n with
  | zero => intro s s' t h; cases h
  | succ n ih =>
    intro s s' t h
    unfold runT at h
    unfold topRun
    cases ht : through t with
    | true => rw [ht] at h; cases h; rfl
    | false =>
      rw [ht] at h
      cases hk : stepOk n₀ ann t with
      | false => rw [hk] at h; cases h
      | true =>
        rw [hk] at h
        cases hs : stepT (denote tb) p w s t with
        | none => rw [hs] at h; cases h
        | some r =>
          obtain ⟨s₂, t₂⟩ := r
          rw [hs] at h
          rw [stepT_spec hs]
          exact ih h

noncomputable def grow : List Obj → BT → Nat → Option BT
  | [], t, _ => some t
  | o :: l, t, n => match ((t.ins n o).get n).isSome with
    | true => grow l (t.ins n o) (n + 1)
    | false => none
theorem grow_of {life : Life} (l : List Obj) : ∀ {t t' : BT} {n : Nat}, grow l t n = some t' → (absHeap t' (n + l.length) life).objs.toList = (absHeap t n life).objs.toList ++ l := by
  induction l with
  | nil => intro t t' n h; cases h; rw [List.append_nil]; rfl
  | cons o l ih =>
    intro t t' n h
    unfold grow at h
    cases e : ((t.ins n o).get n).isSome with
    | false => rw [e] at h; cases h
    | true =>
      rw [e] at h
      have := ih h
      rw [List.length_cons, show n + (l.length + 1) = n + 1 + l.length by omega, this, absHeap_ins e]
      show ((absHeap t n life).objs.push o).toList ++ l = _
      rw [Array.toList_push, List.append_assoc]
      rfl

noncomputable def onceT {β : Type} (p : Program) (m : Nat) (ann : Option Value) (M : Nat) (see : Shared → β) (w : World) (os : OsState) : Option β :=
  (grow (boot_heap w.params).objs.toList .nil 0).bind fun t => (runT treeTable p w m ann M ⟨t, m, (boot_heap w.params).life, Array.mk [], boot_drawn, boot_toks, os⟩ (topStub p)).map fun s => see s.abs
theorem left_once {p q : Program} {loose : List Str} {Xt : Shared → Bool} {α : Type} {Yf : Shared → α} {Ya : World → α} {N M m : Nat} {g0 : Bool} {ann : Option Value}
    (e : opening p = plainProg p.main.scope.names) (hN : Nat.ble 600 N = true) (f : ∀ s, fenceModules? p s = some s) (le : Nat.ble M N = true)
    (size : ∀ w : World, ((boot_heap w.params).isNs mainGlobals, (boot_heap w.params).objs.toList.length, (boot_heap w.params).nsMap mainGlobals "__annotations__") = (true, m, ann))
    (h : ∀ (w : World) (os : OsState), onceT p m ann M (fun s => ((staticsOk (importedModules p.main.body) (boot_heap w.params) s.heap && namesBound p s.heap && gensDone s && laidKept (boot_heap w.params) s.heap), openSeen q loose (importedModules p.main.body) Xt g0 s, Yf s)) w os = some (true, openGood q loose, Ya w)) :
    LeftO p q loose Xt Yf Ya N g0 := fun w => by
  obtain ⟨⟨hp, gs, d, k, os⟩, e1, e2⟩ := Option.map_eq_some_iff.mp (boot_open e hN f w)
  obtain ⟨rfl, rfl, rfl, rfl⟩ : hp = boot_heap w.params ∧ gs = Array.mk [] ∧ d = boot_drawn ∧ k = boot_toks := by
    have a := congrArg Prod.fst e2
    have b := congrArg (fun x => x.2.1) e2
    have c := congrArg (fun x => x.2.2.1) e2
    have d := congrArg (fun x => x.2.2.2) e2
    exact ⟨a, b, c, d⟩
  have sz := size w
  have z1 : (boot_heap w.params).isNs mainGlobals = true := congrArg Prod.fst sz
  have z2 : (boot_heap w.params).objs.toList.length = m := congrArg (fun x => x.2.1) sz
  have z3 : (boot_heap w.params).nsMap mainGlobals "__annotations__" = ann := congrArg (fun x => x.2.2) sz
  have h := h w os
  unfold onceT at h
  obtain ⟨t, ht, h⟩ := Option.bind_eq_some_iff.mp h
  obtain ⟨s, hs, h⟩ := Option.map_eq_some_iff.mp h
  have ab : SharedT.abs ⟨t, m, (boot_heap w.params).life, Array.mk [], boot_drawn, boot_toks, os⟩ = ⟨boot_heap w.params, Array.mk [], boot_drawn, boot_toks, os⟩ := by
    have g := grow_of (life := (boot_heap w.params).life) _ ht
    rw [Nat.zero_add, z2] at g
    have g' : (absHeap t m (boot_heap w.params).life).objs.toList = (boot_heap w.params).objs.toList := g
    have g2 : absHeap t m (boot_heap w.params).life = boot_heap w.params := by
      show Heap.mk (absHeap t m (boot_heap w.params).life).objs (boot_heap w.params).life = Heap.mk (boot_heap w.params).objs (boot_heap w.params).life
      exact congrArg (Heap.mk · _) (Array.toList_inj.mp g')
    show Shared.mk (absHeap t m (boot_heap w.params).life) _ _ _ _ = _
    rw [g2]
  have r := run_of M hs
  rw [ab] at r
  have r := topRun_mono (N - M) _ _ _ _ r
  rw [show M + (N - M) = N by have := Nat.le_of_ble_eq_true le; omega] at r
  have l1 := congrArg Prod.fst h
  have l2 := congrArg Prod.snd h
  dsimp only at l1 l2
  have t : topFrom treeTable p w N ⟨boot_heap w.params, Array.mk [], boot_drawn, boot_toks, os⟩ = some s.abs := by
    unfold topFrom
    have c : ((boot_heap w.params).isNs mainGlobals && (Array.mk ([] : List GenState)).size == 0) = true := by rw [z1]; rfl
    show (match (boot_heap w.params).isNs mainGlobals && (Array.mk ([] : List GenState)).size == 0 with | true => _ | false => none) = _
    rw [c]
    show (topRun treeTable p w (boot_heap w.params).objs.size ((boot_heap w.params).nsMap mainGlobals "__annotations__") N _ _).bind _ = _
    rw [show (boot_heap w.params).objs.size = m from z2, z3, r]
    show (match _ with | true => _ | false => none) = _
    rw [l1]
  unfold openEnds
  rw [e1]
  show (topFrom treeTable p w N _).map _ = _
  rw [t]
  exact congrArg some l2
end L2
set_option Elab.async false
set_option linter.all false
set_option maxRecDepth 100000
namespace L2
open PySem PySem.W PySem.Calls PyProof.Rows

noncomputable def fragAt (as : List Addr) (h : Heap) : Frag := as.filterMap fun a => (h.get? a).map fun o => (a, o)
theorem frag_in (as : List Addr) (h : Heap) : (fragAt as h).In h := by
  intro a o e
  induction as with
  | nil => cases e
  | cons b r ih =>
    unfold fragAt at e
    rw [List.filterMap_cons] at e
    cases q : h.get? b with
    | none => rw [q] at e; exact ih e
    | some o' =>
      rw [q] at e
      by_cases c : a = b
      · subst c
        have e : List.lookup a ((a, o') :: fragAt r h) = some o := e
        rw [List.lookup_cons_self] at e
        cases e
        exact q
      · have e : List.lookup a ((b, o') :: fragAt r h) = some o := e
        rw [List.lookup_cons, show (a == b) = false from beq_eq_false_iff_ne.mpr c] at e
        exact ih e
structure FnSeen where
  name : Str
  qual : Str
  params : Arguments
  body : FuncBody
  scope : Scope
  globals : Addr
  closure : List (Str × Addr)
  defaults : Value
  builtins : Addr
  ok : Bool
noncomputable def fnSeen (K : Frag) (v : Option (Option Value)) : Option FnSeen := match v with
  | some (some (.ref f)) => match K.lookup f with
    | some ⟨_, _, .func fd, _⟩ => some ⟨fd.name, fd.qualname, fd.params, fd.body, fd.scope, fd.globals, fd.closure, fd.defaults, fd.builtins, codeIn K fd.code fd.qualname && keepIn K (.ref f) && isFn K (.ref f)⟩
    | _ => none
  | _ => none
noncomputable def fnWant (x qual : Str) (st : Stmt) : Option FnSeen := some ⟨x, qual, defArgs st, .stmts (defBody st), defScope st, mainGlobals, [], .none, builtinsNs, true⟩
section
variable {K : Frag} {v : Option (Option Value)} {x qual m : Str} {st : Stmt} {C a : Addr}
theorem fn_seen (h : fnSeen K v = fnWant x qual st) : ∃ f fd, v = some (some (.ref f)) ∧ Fun K x qual st f fd ∧ isFn K (.ref f) = true ∧ keepIn K (.ref f) = true := by
  unfold fnSeen fnWant at h
  split at h
  · rename_i f
    split at h
    · rename_i oc od fd osl e
      obtain ⟨nm, qn, pr, bd, sc, gl, cl, df, kV, doc, pm, an, cdv, ct, bl⟩ := fd
      simp only [Option.some.injEq, FnSeen.mk.injEq, Bool.and_eq_true] at h
      obtain ⟨rfl, rfl, rfl, rfl, rfl, rfl, rfl, rfl, rfl, ⟨h1, h2⟩, h3⟩ := h
      exact ⟨f, _, rfl, fun_mk e h1 h2, h3, h2⟩
    · cases h
  · cases h
theorem fnAt_seen (h : fnSeen K (nsIn K mainGlobals x) = fnWant x x st) : FnAt K x st := by
  obtain ⟨f, fd, h1, h2, _, _⟩ := fn_seen h
  exact ⟨f, fd, h1, h2⟩
theorem mtAt_seen (h : fnSeen K (findIn K (.ref C) m) = fnWant m qual st) : MtAt K C m qual st := by
  obtain ⟨f, fd, h1, h2, h3, h4⟩ := fn_seen h
  exact ⟨f, fd, ⟨h1, h3, h4⟩, h2⟩
theorem nwAt_seen (h : fnSeen K (findIn K (.ref C) "__init__") = fnWant "__init__" qual st) (g : (makesIn K C && keepIn K (.ref C)) = true) : NwAt K C qual st := by
  obtain ⟨f, fd, h1, h2, h3, _⟩ := fn_seen h
  obtain ⟨g1, g2⟩ := Bool.and_eq_true_iff.mp g
  exact ⟨f, fd, ⟨g1, h1, h3, g2⟩, h2⟩

noncomputable def isNo (v : Option (Option Value)) : Bool := match v with
  | some none => true
  | _ => false
theorem no_of (h : isNo v = true) : v = some none := by
  unfold isNo at h
  split at h
  · rfl
  · cases h
noncomputable def isInt (z : Int) (v : Option (Option Value)) : Bool := match v with
  | some (some (.int y _)) => decide (y = z)
  | _ => false
theorem int_of {z : Int} (h : isInt z v = true) : ∃ t, v = some (some (.int z t)) := by
  unfold isInt at h
  split at h
  · rw [of_decide_eq_true h]; exact ⟨_, rfl⟩
  · cases h
noncomputable def isStr (z : Str) (v : Option (Option Value)) : Bool := match v with
  | some (some (.str y _)) => decide (y = z)
  | _ => false
theorem str_of {z : Str} (h : isStr z v = true) : ∃ t, v = some (some (.str z t)) := by
  unfold isStr at h
  split at h
  · rw [of_decide_eq_true h]; exact ⟨_, rfl⟩
  · cases h
noncomputable def isRef (z : Addr) (v : Option (Option Value)) : Bool := match v with
  | some (some (.ref y)) => Nat.beq y z
  | _ => false
theorem ref_of (h : isRef a v = true) : v = some (some (.ref a)) := by
  unfold isRef at h
  split at h
  · rw [Nat.eq_of_beq_eq_true h]
  · cases h
noncomputable def isBlt (z : String) (v : Option (Option Value)) : Bool := match v with
  | some (some (.builtin y)) => decide (y = z)
  | _ => false
theorem blt_of {z : String} (h : isBlt z v = true) : v = some (some (.builtin z)) := by
  unfold isBlt at h
  split at h
  · rw [of_decide_eq_true h]
  · cases h
noncomputable def isB (b : Bool) (v : Option Bool) : Bool := match v with
  | some c => c == b
  | none => false
theorem b_of {b : Bool} {v : Option Bool} (h : isB b v = true) : v = some b := by
  unfold isB at h
  split at h
  · rw [eq_of_beq h]
  · cases h
noncomputable def excSeen (K : Frag) (D : Addr) : Bool := (clsIn K D).isSome && isBlt "BaseException.__getattribute__" (findIn K (.ref D) "__getattribute__") && isNo (findIn K (.ref D) "__getattr__") && isBlt "object.__class__" (findIn K (.ref D) "__class__") && isBlt "getset_descriptor.__get__" (specialIn K (.builtin "object.__class__") "__get__") && isB true (takesIn K (.builtin "object.__class__")) && isB true (mroIn K D (.type "object")) && isB true (mroIn K D (.type "BaseException"))
theorem exc_seen {D : Addr} (h : excSeen K D = true) : XK.ExcCls K D := by
  unfold excSeen at h
  simp only [Bool.and_eq_true] at h
  obtain ⟨⟨⟨⟨⟨⟨⟨h1, h2⟩, h3⟩, h4⟩, h5⟩, h6⟩, h7⟩, h8⟩ := h
  exact ⟨h1, blt_of h2, no_of h3, blt_of h4, blt_of h5, b_of h6, b_of h7, b_of h8⟩
noncomputable def clsSeen (K : Frag) (C : Addr) : Bool := plainGet K C Str.empty && hasDictIn K C && plainOver K C && isBlt "object.__setattr__" (findIn K (.ref C) "__setattr__")
end
theorem all_get {bs : List Bool} (h : bs.all id = true) {b : Bool} (i : Nat) (e : bs[i]? = some b) : b = true := List.all_eq_true.mp h b (List.mem_of_getElem? e)
theorem map_get {α β : Type} {l : List α} {f g : α → β} (h : l.map f = l.map g) {x : α} (i : Nat) (e : l[i]? = some x) : f x = g x := by
  have : (l.map f)[i]? = (l.map g)[i]? := by rw [h]
  rw [List.getElem?_map, List.getElem?_map, e] at this
  exact Option.some.inj this

noncomputable def FactsIn {α : Type} (facts : Frag → α) (good : α) (_ : World) (h : Heap) : Prop := ∃ K : Frag, K.In h ∧ facts K = good
theorem facts_of {α : Type} {facts : Frag → α} {good : α} {as : List Addr} (w : World) (s : Shared) (e : facts (fragAt as s.heap) = good) : FactsIn facts good w s.heap := ⟨_, frag_in as s.heap, e⟩
theorem facts_keep {α : Type} {facts : Frag → α} {good : α} (w : World) (h h' : Heap) (y : FactsIn facts good w h) (k : ∀ b o, h.get? b = some o → h'.get? b = some o) : FactsIn facts good w h' := by
  obtain ⟨K, X, e⟩ := y
  exact ⟨K, X.keeps k, e⟩
theorem walk_ex {q : Program} {loose : List Str} {XP : (Str → Option Value) → Heap → Prop} {α : Type} {facts : Frag → α} {good : α} {r : RowW} {d : DefRec} {kwd : List (Str × Expr)} {run : Value → List Value → Sem Value}
    (h : ∀ K : Frag, facts K = good → WalkO q loose XP (fun _ h => K.In h) r d kwd run) : WalkO q loose XP (FactsIn facts good) r d kwd run := by
  intro w s₀ s₁ mg mb G Y
  obtain ⟨K, X, e⟩ := Y
  exact h K e w s₀ s₁ mg mb G X
theorem def_get {q : Program} {n : Str} (h : (defOf q n).isSome = true) (k : ((defOf q n).map (·.2.isEmpty)) = some true) : defOf q n = some (((defOf q n).get h).1, []) := by
  obtain ⟨⟨d, kwd⟩, e⟩ := Option.isSome_iff_exists.mp h
  have e2 : (defOf q n).get h = (d, kwd) := Option.get_of_eq_some h e
  rw [e2, e]
  rw [e] at k
  have : kwd.isEmpty = true := Option.some.inj k
  rw [List.isEmpty_iff.mp this]
end L2
set_option Elab.async false
set_option linter.all false
set_option maxRecDepth 100000
set_option maxHeartbeats 0
namespace K24
open PySem PySem.W PySem.Calls PyProof.Rows L2
noncomputable def hQ : Program := PySem.W.view PySem.Challenge.pw_coinroll_k24_closes_refused [1, 2, 3, 4, 5, 6, 7, 8, 9, 10, 11, 12, 13, 14, 15, 16, 18, 19, 21, 22, 23, 24, 26, 27, 29, 30, 31, 33, 34, 35, 36, 37, 38, 39, 40, 41]
noncomputable def hAs : List Addr := [2, 3, 15, 22, 23, 24, 25, 28, 35, 36, 37, 40, 47, 48, 49, 52, 59, 60, 61, 64, 71, 72, 73, 76, 83, 84, 85, 88, 95, 96, 97, 100, 107, 108, 109, 112, 119, 120, 121, 124, 131, 132, 133, 136, 143, 144, 145, 148, 155, 156, 157, 160, 167, 168, 169, 172, 179, 180, 181, 184, 191, 192, 193, 196, 203, 204, 205, 208, 210, 211, 213, 214, 215, 217, 218, 220, 221, 222, 225, 226, 227, 229, 230, 232, 233, 234, 236, 237, 239, 240, 241, 243, 244, 246, 247, 248, 251, 252, 260, 262, 263, 265, 266, 267, 269, 270, 272, 273, 274, 277, 278, 279, 281, 282, 284, 285, 286, 288, 289, 291, 292, 293, 295, 296, 298, 299, 300, 302, 303, 305, 306, 307, 308, 309, 310, 311, 314, 316, 317, 319, 320, 321, 323, 324, 326, 327, 328, 331, 332, 333, 335, 336, 338, 339, 340, 342, 343, 345, 346, 347, 349, 350, 352, 353, 354, 356, 357, 359, 360, 361, 363, 364, 366, 367, 368, 370, 371, 373, 374]
noncomputable def hFs : List (Str × Nat) := [("is_number", 18), ("is_number_within", 19), ("is_word_of", 23), ("is_name", 24), ("need_month", 27), ("is_due", 29), ("need_dues", 30), ("_law_cell_at", 33), ("_law_mixed", 34), ("_law_kind", 35), ("_law_odd_month", 36), ("_law_odd_pair", 37), ("_law_bad_dues", 38), ("_law_refused", 39), ("_law_state", 40), ("law", 41)]
noncomputable def hMs : List (Addr × Str × Str × Nat × Nat) := [(309, "__init__", "Ledger.__init__", 31, 0), (309, "need_later", "Ledger.need_later", 31, 1), (309, "close", "Ledger.close", 31, 2), (309, "paid", "Ledger.paid", 31, 3), (309, "owed", "Ledger.owed", 31, 4), (309, "payments", "Ledger.payments", 31, 5), (309, "last", "Ledger.last", 31, 6)]
noncomputable def hYes (K : Frag) : List Bool := [isRef 37 (nsIn K mainGlobals "BadAmount"), isRef 49 (nsIn K mainGlobals "BadShare"), isRef 61 (nsIn K mainGlobals "BadText"), isRef 73 (nsIn K mainGlobals "BadMonth"), isRef 85 (nsIn K mainGlobals "BadYear"), isRef 97 (nsIn K mainGlobals "BadRule"), isRef 109 (nsIn K mainGlobals "BadBook"), isRef 121 (nsIn K mainGlobals "NoYear"), isRef 133 (nsIn K mainGlobals "BadDay"), isRef 145 (nsIn K mainGlobals "BadEntry"), isRef 157 (nsIn K mainGlobals "NoMark"), isRef 169 (nsIn K mainGlobals "NoPerson"), isRef 181 (nsIn K mainGlobals "TooMany"), isRef 193 (nsIn K mainGlobals "BadClose"), isRef 205 (nsIn K mainGlobals "BadLine"), isRef 24 (nsIn K mainGlobals "RollError"), isInt 8 (nsIn K mainGlobals "MOST_SIGNS"), isInt 119999 (nsIn K mainGlobals "LAST_MONTH"), isStr "abcdefghijklmnopqrstuvwxyz" (nsIn K mainGlobals "LETTERS"), isNo (nsIn K mainGlobals "isinstance"), isNo (nsIn K mainGlobals "int"), isNo (nsIn K mainGlobals "bool"), isNo (nsIn K mainGlobals "str"), isNo (nsIn K mainGlobals "len"), isNo (nsIn K mainGlobals "range"), isNo (nsIn K mainGlobals "ValueError"), isNo (nsIn K mainGlobals "list"), isNo (nsIn K mainGlobals "tuple"), isNo (nsIn K mainGlobals "dict"), isNo (nsIn K mainGlobals "set"), isNo (nsIn K mainGlobals "all"), isNo (nsIn K mainGlobals "any"), isNo (nsIn K mainGlobals "sum"), isNo (nsIn K mainGlobals "sorted"), isNo (nsIn K mainGlobals "abs"), isNo (nsIn K mainGlobals "max"), isNo (nsIn K mainGlobals "min"), isNo (nsIn K mainGlobals "zip"), isNo (nsIn K mainGlobals "enumerate"), isNo (nsIn K mainGlobals "reversed"), excIn K 73 veMro "ValueError.__new__", isB true (exmOne K (.ref 73) (.ref 24)), excSeen K 73, isB true (kitOne K (.ref 73) (.type "ValueError")), isB false (kitOne K (.ref 73) (.ref 37)), isB false (kitOne K (.ref 73) (.ref 49)), isB false (kitOne K (.ref 73) (.ref 61)), isB true (kitOne K (.ref 73) (.ref 73)), isB false (kitOne K (.ref 73) (.ref 85)), isB false (kitOne K (.ref 73) (.ref 97)), isB false (kitOne K (.ref 73) (.ref 109)), isB false (kitOne K (.ref 73) (.ref 121)), isB false (kitOne K (.ref 73) (.ref 133)), isB false (kitOne K (.ref 73) (.ref 145)), isB false (kitOne K (.ref 73) (.ref 157)), isB false (kitOne K (.ref 73) (.ref 169)), isB false (kitOne K (.ref 73) (.ref 181)), isB false (kitOne K (.ref 73) (.ref 193)), isB false (kitOne K (.ref 73) (.ref 205)), excIn K 193 veMro "ValueError.__new__", isB true (exmOne K (.ref 193) (.ref 24)), excSeen K 193, isB true (kitOne K (.ref 193) (.type "ValueError")), isB false (kitOne K (.ref 193) (.ref 37)), isB false (kitOne K (.ref 193) (.ref 49)), isB false (kitOne K (.ref 193) (.ref 61)), isB false (kitOne K (.ref 193) (.ref 73)), isB false (kitOne K (.ref 193) (.ref 85)), isB false (kitOne K (.ref 193) (.ref 97)), isB false (kitOne K (.ref 193) (.ref 109)), isB false (kitOne K (.ref 193) (.ref 121)), isB false (kitOne K (.ref 193) (.ref 133)), isB false (kitOne K (.ref 193) (.ref 145)), isB false (kitOne K (.ref 193) (.ref 157)), isB false (kitOne K (.ref 193) (.ref 169)), isB false (kitOne K (.ref 193) (.ref 181)), isB true (kitOne K (.ref 193) (.ref 193)), isB false (kitOne K (.ref 193) (.ref 205)), isRef 309 (nsIn K mainGlobals "Ledger"), plainGet K 309 Str.empty, hasDictIn K 309, plainOver K 309, isBlt "object.__setattr__" (findIn K (.ref 309) "__setattr__"), isNo (findIn K (.ref 309) "totals"), isNo (findIn K (.ref 309) "made"), isNo (findIn K (.ref 309) "closed"), makesIn K 309 && keepIn K (.ref 309)]
noncomputable def hSee (K : Frag) := (hFs.map (fun x => fnSeen K (nsIn K mainGlobals x.1)), hMs.map (fun x => fnSeen K (findIn K (.ref x.1) x.2.1)), (hYes K).all id)
noncomputable def hWant := (hFs.map (fun x => fnWant x.1 x.1 (top x.2)), hMs.map (fun x => fnWant x.2.1 x.2.2.1 (inClass (top x.2.2.2.1) x.2.2.2.2)), true)
noncomputable def hXt (s : Shared) : Bool := xlAt hQ [] s && recOk [] s
noncomputable def hLook (w : World) (s : Shared) := ((staticsOk (importedModules PySem.Challenge.pw_coinroll_k24_closes_refused.main.body) (boot_heap w.params) s.heap && namesBound PySem.Challenge.pw_coinroll_k24_closes_refused s.heap && gensDone s && laidKept (boot_heap w.params) s.heap), openSeen hQ [] (importedModules PySem.Challenge.pw_coinroll_k24_closes_refused.main.body) hXt true s, hSee (fragAt hAs s.heap))
noncomputable def hRun (w : World) (os : OsState) := (grow (boot_heap w.params).objs.toList .nil 0).bind fun t => (runT treeTable PySem.Challenge.pw_coinroll_k24_closes_refused w 11 (some (.ref 6)) 4364 ⟨t, 11, (boot_heap w.params).life, Array.mk [], boot_drawn, boot_toks, os⟩ (topStub PySem.Challenge.pw_coinroll_k24_closes_refused)).map fun s => hLook w s.abs
noncomputable def hEnd (_ : World) (_ : OsState) := some (true, openGood hQ [], hWant)
theorem hRun_self : hRun = hRun := rfl
theorem hEnd_self : hEnd = hEnd := rfl
end K24
lay_quick L2.runT K24.top
name_quick hRunQ for K24.hRun by K24.hRun_self
name_quick hEndQ for K24.hEnd by K24.hEnd_self
namespace K24
open PySem PySem.W PySem.Calls PyProof.Rows L2
theorem hOnce : PySem.W.Fast.hRunQ = PySem.W.Fast.hEndQ := by kernel_rfl
theorem hLeft : LeftO PySem.Challenge.pw_coinroll_k24_closes_refused hQ [] hXt (fun s => hSee (fragAt hAs s.heap)) (fun _ => hWant) 4364 := by
  refine left_once (M := 4364) (m := 11) (ann := some (.ref 6)) (by kernel_rfl) (by kernel_rfl) (fun s => by kernel_rfl) (by kernel_rfl) (fun w => by kernel_rfl) fun w os => ?_
  have e : hRun = hEnd := PySem.W.Fast.hRunQ_eq.trans (hOnce.trans PySem.W.Fast.hEndQ_eq.symm)
  exact congrFun (congrFun e w) os
theorem hDef : (defOf hQ "law").isSome = true := by kernel_rfl
noncomputable def hD : DefRec := ((defOf hQ "law").get hDef).1
theorem hWalk : WalkO hQ [] (XL hQ []) (FactsIn hSee hWant) (PySem.Challenge.rw_coinroll_k24_closes_refused).row.toRowW hD [] (fun f vs => PySem.call f vs) := by
  refine walk_ex fun K e => ?_
  have hF : hFs.map (fun x => fnSeen K (nsIn K mainGlobals x.1)) = hFs.map (fun x => fnWant x.1 x.1 (top x.2)) := congrArg Prod.fst e
  have hM : hMs.map (fun x => fnSeen K (findIn K (.ref x.1) x.2.1)) = hMs.map (fun x => fnWant x.2.1 x.2.2.1 (inClass (top x.2.2.2.1) x.2.2.2.2)) := congrArg (fun z => z.2.1) e
  have hB : (hYes K).all id = true := congrArg (fun z => z.2.2) e
  obtain ⟨t0, gc0⟩ := int_of (all_get hB 16 rfl)
  obtain ⟨t1, gc1⟩ := int_of (all_get hB 17 rfl)
  obtain ⟨u0, s0⟩ := str_of (all_get hB 18 rfl)
  refine walk (l := PySem.Challenge.rw_coinroll_k24_closes_refused) (K := fun _ => K) rfl (by kernel_rfl) (fun w h Y => Y) ?_
  intro w mg fa h KX G hmg
  exact law_fn KX G hmg (fnAt_seen (map_get hF 0 rfl)) (fnAt_seen (map_get hF 1 rfl)) (fnAt_seen (map_get hF 2 rfl)) (fnAt_seen (map_get hF 3 rfl)) (fnAt_seen (map_get hF 4 rfl)) (fnAt_seen (map_get hF 5 rfl)) (fnAt_seen (map_get hF 6 rfl)) (fnAt_seen (map_get hF 7 rfl)) (fnAt_seen (map_get hF 8 rfl)) (fnAt_seen (map_get hF 9 rfl)) (fnAt_seen (map_get hF 10 rfl)) (fnAt_seen (map_get hF 11 rfl)) (fnAt_seen (map_get hF 12 rfl)) (fnAt_seen (map_get hF 13 rfl)) (fnAt_seen (map_get hF 14 rfl)) (fnAt_seen (map_get hF 15 rfl)) (ref_of (all_get hB 0 rfl)) (ref_of (all_get hB 1 rfl)) (ref_of (all_get hB 2 rfl)) (ref_of (all_get hB 3 rfl)) (ref_of (all_get hB 4 rfl)) (ref_of (all_get hB 5 rfl)) (ref_of (all_get hB 6 rfl)) (ref_of (all_get hB 7 rfl)) (ref_of (all_get hB 8 rfl)) (ref_of (all_get hB 9 rfl)) (ref_of (all_get hB 10 rfl)) (ref_of (all_get hB 11 rfl)) (ref_of (all_get hB 12 rfl)) (ref_of (all_get hB 13 rfl)) (ref_of (all_get hB 14 rfl)) (ref_of (all_get hB 15 rfl)) gc0 gc1 s0 (no_of (all_get hB 19 rfl)) (no_of (all_get hB 20 rfl)) (no_of (all_get hB 21 rfl)) (no_of (all_get hB 22 rfl)) (no_of (all_get hB 23 rfl)) (no_of (all_get hB 24 rfl)) (no_of (all_get hB 25 rfl)) (no_of (all_get hB 26 rfl)) (no_of (all_get hB 27 rfl)) (no_of (all_get hB 28 rfl)) (no_of (all_get hB 29 rfl)) (no_of (all_get hB 30 rfl)) (no_of (all_get hB 31 rfl)) (no_of (all_get hB 32 rfl)) (no_of (all_get hB 33 rfl)) (no_of (all_get hB 34 rfl)) (no_of (all_get hB 35 rfl)) (no_of (all_get hB 36 rfl)) (no_of (all_get hB 37 rfl)) (no_of (all_get hB 38 rfl)) (no_of (all_get hB 39 rfl)) (all_get hB 40 rfl) (b_of (all_get hB 41 rfl)) (exc_seen (all_get hB 42 rfl)) (b_of (all_get hB 43 rfl)) (b_of (all_get hB 44 rfl)) (b_of (all_get hB 45 rfl)) (b_of (all_get hB 46 rfl)) (b_of (all_get hB 47 rfl)) (b_of (all_get hB 48 rfl)) (b_of (all_get hB 49 rfl)) (b_of (all_get hB 50 rfl)) (b_of (all_get hB 51 rfl)) (b_of (all_get hB 52 rfl)) (b_of (all_get hB 53 rfl)) (b_of (all_get hB 54 rfl)) (b_of (all_get hB 55 rfl)) (b_of (all_get hB 56 rfl)) (b_of (all_get hB 57 rfl)) (b_of (all_get hB 58 rfl)) (all_get hB 59 rfl) (b_of (all_get hB 60 rfl)) (exc_seen (all_get hB 61 rfl)) (b_of (all_get hB 62 rfl)) (b_of (all_get hB 63 rfl)) (b_of (all_get hB 64 rfl)) (b_of (all_get hB 65 rfl)) (b_of (all_get hB 66 rfl)) (b_of (all_get hB 67 rfl)) (b_of (all_get hB 68 rfl)) (b_of (all_get hB 69 rfl)) (b_of (all_get hB 70 rfl)) (b_of (all_get hB 71 rfl)) (b_of (all_get hB 72 rfl)) (b_of (all_get hB 73 rfl)) (b_of (all_get hB 74 rfl)) (b_of (all_get hB 75 rfl)) (b_of (all_get hB 76 rfl)) (b_of (all_get hB 77 rfl)) (ref_of (all_get hB 78 rfl)) (all_get hB 79 rfl) (all_get hB 80 rfl) (all_get hB 81 rfl) (blt_of (all_get hB 82 rfl)) (no_of (all_get hB 83 rfl)) (no_of (all_get hB 84 rfl)) (no_of (all_get hB 85 rfl)) (nwAt_seen (map_get hM 0 rfl) (all_get hB 86 rfl)) (mtAt_seen (map_get hM 1 rfl)) (mtAt_seen (map_get hM 2 rfl)) (mtAt_seen (map_get hM 3 rfl)) (mtAt_seen (map_get hM 4 rfl)) (mtAt_seen (map_get hM 5 rfl)) (mtAt_seen (map_get hM 6 rfl))
end K24
open PySem PySem.W PyProof.Rows
set_option maxRecDepth 100000 in
set_option maxHeartbeats 0 in
theorem PySem.Challenge.cw_coinroll_k24_closes_refused_holds : PySem.Challenge.rw_coinroll_k24_closes_refused.Holds := by
  w_on; o_law
  refine' holds_open (q := K24.hQ) (d := K24.hD) (kwd := []) K24.hLeft ?a1 ?a2 ?a3 XL.keeps ?a4 ?a5 ?a6 ?a7 ?a8 ?a9 ?b1 ?b2 ?b3 K24.hWalk
  case a1 => exact fun w s e => L2.facts_of w s e
  case a2 => exact L2.facts_keep
  case a3 => exact fun s e => xl_of s (Bool.and_eq_true_iff.mp e).1
  case a4 => exact L2.def_get K24.hDef (by kernel_rfl)
  case a5 => kernel_rfl
  case a6 => kernel_rfl
  case a7 => exact fun s e => recFacts_of (Bool.and_eq_true_iff.mp e).2
  case a8 => rfl
  case a9 => assumption
  case b1 => decide +kernel
  case b2 => exact ⟨rfl, rfl, rfl, rfl, rfl, by decide +kernel⟩
  case b3 => w_witness2
#print axioms PySem.Challenge.cw_coinroll_k24_closes_refused_holds
