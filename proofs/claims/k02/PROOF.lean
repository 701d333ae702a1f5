import PyProof.Rows.All
import Wide.All
import OpenK.AllK
import Wide.FinOn
import Lean
import PyProof.EqAt
import PyProof.EqKinds
import PyProof.TupleCall
import PyProof.NeKinds
import PyProof.SumWalkG
import PyProof.EnumMake
import KE.KIntText
import PyProof.StrLawsIn
import PyProof.StrCalls2
import PyProof.Rows.SortRuns
import KE.KSortTup
import KE.KSortKey
import PyProof.StrCalls
import PyProof.ListRange
import PySem.Challenge.RW_coinroll_k02_whole_splits
set_option Elab.async false
set_option linter.all false
set_option maxRecDepth 100000

namespace L2
open PySem PySem.Spec PyProof.Rows

def isStar : Expr → Bool
  | .Starred _ _ => true
  | _ => false
theorem starEach_cons {e : Expr} {es : List Expr} {env : Env} (h : isStar e = false) : starEach (e :: es) env = (false, eval e env) :: starEach es env := by
  cases e <;> first | rfl | cases h
theorem noStars {env : Env} {pos : Pos} : ∀ {es : List Expr}, es.all (fun e => !isStar e) = true → (backTo pos (starEach es env)).any (·.1) = false
  | [], _ => rfl
  | e :: es, h => by
    rw [List.all_cons, Bool.and_eq_true, Bool.not_eq_true'] at h
    rw [starEach_cons h.1]
    show (false || (backTo pos (starEach es env)).any (·.1)) = false
    rw [Bool.false_or]
    exact noStars h.2


abbrev Key := Sum Int Str
def keyIs : Key → Value → Bool
  | .inl k, v => Value.isInt k v
  | .inr x, v => Value.isStrOf x v
def keyH (w : World) : Key → Int
  | .inl k => hashInt k
  | .inr x => hashStr w x
theorem keyIs_shape : ∀ {k : Key} {v : Value}, keyIs k v = true → (∃ i t, k = Sum.inl i ∧ v = Value.int i t) ∨ (∃ x t, k = Sum.inr x ∧ v = Value.str x t)
  | .inl i, v, h => by
    obtain ⟨t, e⟩ := Value.isInt_shape (k := i) (v := v) h
    exact .inl ⟨i, t, rfl, e⟩
  | .inr x, v, h => by
    obtain ⟨t, e⟩ := Value.isStrOf_shape (x := x) (v := v) h
    exact .inr ⟨x, t, rfl, e⟩
theorem keyIs_int (i : Int) (t : Tok) : keyIs (.inl i) (.int i t) = true := by simp [keyIs, Value.isInt]
theorem keyIs_str (x : Str) (t : Tok) : keyIs (.inr x) (.str x t) = true := by simp [keyIs, Value.isStrOf]
theorem key_ll (a b : Int) : decide ((Sum.inl a : Key) = Sum.inl b) = (a == b) := by
  by_cases e : a = b
  · subst e; simp
  · have h : ¬ (Sum.inl a : Key) = Sum.inl b := fun q => e (Sum.inl.inj q)
    rw [decide_eq_false h]
    exact (beq_eq_false_iff_ne.mpr e).symm
theorem key_rr (a b : Str) : decide ((Sum.inr a : Key) = Sum.inr b) = decide (a = b) := by
  by_cases e : a = b
  · subst e; simp
  · have h : ¬ (Sum.inr a : Key) = Sum.inr b := fun q => e (Sum.inr.inj q)
    rw [decide_eq_false h, decide_eq_false e]
theorem key_lr (a : Int) (b : Str) : decide ((Sum.inl a : Key) = Sum.inr b) = false := decide_eq_false (fun q => nomatch q)
theorem key_rl (a : Str) (b : Int) : decide ((Sum.inr a : Key) = Sum.inl b) = false := decide_eq_false (fun q => nomatch q)

def mixKind (prog : Program) (w : World) : PySem.KeyKind prog w Key where
  is := keyIs
  hash := keyH w
  inj := fun v a b ha hb => by
    rcases keyIs_shape ha with ⟨i, t, rfl, rfl⟩ | ⟨x, t, rfl, rfl⟩
    · rcases keyIs_shape hb with ⟨j, u, rfl, e⟩ | ⟨y, u, rfl, e⟩
      · injection e with e1 _; rw [e1]
      · exact nomatch e
    · rcases keyIs_shape hb with ⟨j, u, rfl, e⟩ | ⟨y, u, rfl, e⟩
      · exact nomatch e
      · injection e with e1 _; rw [e1]
  byValue := fun k v h => by
    rcases keyIs_shape h with ⟨i, t, rfl, rfl⟩ | ⟨x, t, rfl, rfl⟩ <;> rfl
  pyHash := fun hv h => by
    rcases keyIs_shape hv with ⟨i, t, rfl, rfl⟩ | ⟨x, t, rfl, rfl⟩
    · exact wpAny_pyHash_int h
    · exact wpAny_pyHash_str h
  eqBool := fun hu hv h => by
    rcases keyIs_shape hu with ⟨i, t, rfl, rfl⟩ | ⟨x, t, rfl, rfl⟩
    · rcases keyIs_shape hv with ⟨j, u, rfl, rfl⟩ | ⟨y, u, rfl, rfl⟩
      · rw [key_ll] at h; exact wpAny_eqBool_int h
      · rw [key_lr] at h; exact SeqAt.EqAt.int_str i t y u _ _ _ _ h
    · rcases keyIs_shape hv with ⟨j, u, rfl, rfl⟩ | ⟨y, u, rfl, rfl⟩
      · rw [key_rl] at h; exact SeqAt.EqAt.str_int x t j u _ _ _ _ h
      · rw [key_rr] at h; exact wpAny_eqBool_str h
  «strs» := fun k x t v h => by
    rcases keyIs_shape h with ⟨i, u, rfl, e⟩ | ⟨y, u, rfl, e⟩
    · exact nomatch e
    · injection e with e1 _
      subst e1
      cases v <;> rfl

theorem mixKind_int (prog : Program) (w : World) (i : Int) (t : Tok) : (mixKind prog w).is (.inl i) (.int i t) = true := keyIs_int i t
theorem mixKind_str (prog : Program) (w : World) (x : Str) (t : Tok) : (mixKind prog w).is (.inr x) (.str x t) = true := keyIs_str x t
end L2

namespace L2
open PySem PySem.Spec PyProof.Rows


inductive V where
  | non | bl (b : Bool) | int (i : Int) | str (x : Str) | byt (b : Array UInt8) | flt (b : UInt64) | ref (a : Addr) | ty (n : String)
  deriving DecidableEq

def RelV : V → Value → Prop
  | .non, u => u = Value.none
  | .bl b, u => u = Value.bool b
  | .int i, u => ∃ t, u = Value.int i t
  | .str x, u => ∃ t, u = Value.str x t
  | .byt b, u => ∃ t, u = Value.bytes b t
  | .flt b, u => ∃ t, u = Value.float b t
  | .ref a, u => u = Value.ref a
  | .ty n, u => u = Value.type n

abbrev Vals : List V → List Value → Prop := Paired RelV
theorem Vals.length {xs : List V} {us : List Value} (r : Vals xs us) : xs.length = us.length := Paired.length r
theorem Vals.get : ∀ {xs : List V} {us : List Value} {i : Nat} {x : V}, Vals xs us → xs[i]? = some x → ∃ u, us[i]? = some u ∧ RelV x u
  | _, _, _, _, .nil, e => by simp at e
  | _, _, 0, _, .cons r _, e => by simp at e; subst e; exact ⟨_, rfl, r⟩
  | _, _, i + 1, x, .cons _ t, e => by
    obtain ⟨u, h1, h2⟩ := Vals.get (i := i) (x := x) t (by simpa using e)
    exact ⟨u, by simpa using h1, h2⟩
theorem Vals.set {x : V} {u : Value} (r : RelV x u) : ∀ {xs : List V} {us : List Value} (i : Nat), Vals xs us → Vals (xs.set i x) (us.set i u)
  | _, _, _, .nil => .nil
  | _, _, 0, .cons _ t => .cons r t
  | _, _, i + 1, .cons q t => .cons q (Vals.set r i t)
theorem Vals.append : ∀ {xs ys : List V} {us ws : List Value}, Vals xs us → Vals ys ws → Vals (xs ++ ys) (us ++ ws)
  | _, _, _, _, .nil, s => s
  | _, _, _, _, .cons r t, s => .cons r (Vals.append t s)
theorem Vals.take : ∀ {xs : List V} {us : List Value} (n : Nat), Vals xs us → Vals (xs.take n) (us.take n)
  | _, _, 0, _ => .nil
  | _, _, _ + 1, .nil => .nil
  | _, _, n + 1, .cons r t => .cons r (Vals.take n t)
theorem Vals.drop : ∀ {xs : List V} {us : List Value} (n : Nat), Vals xs us → Vals (xs.drop n) (us.drop n)
  | _, _, 0, r => r
  | _, _, _ + 1, .nil => .nil
  | _, _, n + 1, .cons _ t => Vals.drop n t
def RelO : Option V → Option Value → Prop
  | some v, some u => RelV v u
  | none, none => True
  | _, _ => False
def KV {κ : Type} : List (κ × V) → List (κ × Value) → Prop := Paired fun (p : κ × V) (q : κ × Value) => p.1 = q.1 ∧ RelV p.2 q.2


def kV : Key → V
  | .inl i => .int i
  | .inr x => .str x


inductive HO where

  | lst (xs : List V)

  | tup (xs : List V)

  | dK (kvs : List (Key × V)) | dT (kvs : List (List Key × V))

  | set (S : Int → Bool) (n : Nat)

  | ins (C dx : Addr) (fs : List (Str × V))

  | own (x : Addr)

  | xd (fs : List (Str × V))

  | met (f x : Addr)

  | rng (lo hi : Int)

  | frz (o : Obj) (u : HO)

  | tbl (ps : Array Value)

  | ext (φ : Heap → Prop)

abbrev Hp := Addr → Option HO
def upd (H : Hp) (a : Addr) (o : HO) : Hp := fun b => if b = a then some o else H b
theorem upd_same {H : Hp} {a : Addr} {o : HO} : upd H a o a = some o := by unfold upd; rw [if_pos rfl]
theorem upd_ne {H : Hp} {a b : Addr} {o : HO} (h : b ≠ a) : upd H a o b = H b := by unfold upd; rw [if_neg h]
theorem upd_upd {H : Hp} {a : Addr} {o u : HO} : upd (upd H a o) a u = upd H a u := by
  funext b; unfold upd; split <;> rfl

theorem ne_of_none {H : Hp} {a b : Addr} {o : HO} (h : H a = some o) (h' : H b = none) : a ≠ b := by
  intro e; subst e; rw [h] at h'; cases h'

section
variable (P : Program) (w : World)
def ObjOk (H : Hp) (h : Heap) (a : Addr) : HO → Prop
  | .lst xs => xs.length ≤ sizeLine ∧ ∃ (its : List Value) (n : Nat), Vals xs its ∧ h.get? a = some { cls := .type "list", data := .seq its.toArray n }
  | .tup xs => xs.length ≤ sizeLine ∧ ∃ its : List Value, Vals xs its ∧ IsTup h a its.toArray
  | .dK kvs => kvs.length ≤ sizeLine ∧ (a == sysModules) = false ∧ ∃ vs, KV kvs vs ∧ h.DictOf (mixKind P w) a vs
  | .dT kvs => kvs.length ≤ sizeLine ∧ (a == sysModules) = false ∧ ∃ xs : List (List Key × Addr × Value),
      Paired (fun (p : List Key × V) (q : List Key × Addr × Value) => p.1 = q.1 ∧ H q.2.1 = some (.tup (p.1.map kV)) ∧ RelV p.2 q.2.2) kvs xs ∧
      ∃ o es ep, h.get? a = some o ∧ o.ExactDict ∧ o.data = .dict es ep ∧ es.toList = xs.map (entryOfKey (tupleKind (mixKind P w))) ∧ (xs.map (·.1)).Nodup
  | .set S n => h.SetOf (intKind P w) a S n
  | .ins C dx fs => H dx = some (.own a) ∧ fs.length ≤ 1000 ∧ dx ≠ a ∧ h.get? a = some (PySem.W.instObj C dx) ∧
      ∃ mA, h.Ns1 dx mA ∧ (∀ f, RelO (fs.lookup f) (mA f)) ∧ PySem.Within mA (fs.map (·.1))
  | .own _ => ∃ o, h.get? a = some o
  | .xd fs => ∃ mA, h.Ns1 a mA ∧ ∀ f, RelO (fs.lookup f) (mA f)
  | .rng lo hi => ∃ t u v, h.get? a = some { cls := .type "range", data := .fields #[.int lo t, .int hi u, .int 1 v] }
  | .frz o u => h.get? a = some o ∧ ObjOk H h a u
  | .tbl ps => h.get? a = some { cls := .none, data := .fields ps }
  | .met f x => h.get? a = some (PySem.W.methodObj (.ref f) (.ref x))
  | .ext φ => φ h ∧ (∃ o, h.get? a = some o) ∧ ∀ h1 h2 : Heap, φ h1 → (∀ o, h1.get? a = some o → h2.get? a = some o) → φ h2

def HOk (H : Hp) (h : Heap) : Prop := ∀ a o, H a = some o → ObjOk P w H h a o
end

section
variable {P : Program} {w : World} {H H' : Hp} {h h' : Heap} {a : Addr} {o : HO}
theorem ObjOk.lt (x : ObjOk P w H h a o) : a < h.objs.size := by
  cases o with
  | lst xs => obtain ⟨_, _, _, _, e⟩ := x; exact Heap.lt_size e
  | tup xs => obtain ⟨_, _, _, p⟩ := x; exact p.lt
  | dK kvs => obtain ⟨_, _, _, _, o, _, _, e, _⟩ := x; exact Heap.lt_size e
  | dT kvs => obtain ⟨_, _, _, _, o, _, _, e, _⟩ := x; exact Heap.lt_size e
  | set S n => obtain ⟨o, _, _, _, e, _⟩ := x; exact Heap.lt_size e
  | ins C dx fs => obtain ⟨_, _, _, e, _⟩ := x; exact Heap.lt_size e
  | own y => obtain ⟨_, e⟩ := x; exact Heap.lt_size e
  | xd fs => obtain ⟨_, ⟨_, _, _, e, _⟩, _⟩ := x; exact Heap.lt_size e
  | rng lo hi => obtain ⟨_, _, _, e⟩ := x; exact Heap.lt_size e
  | frz ob u => obtain ⟨e, _⟩ := x; exact Heap.lt_size e
  | tbl ps => exact Heap.lt_size (show h.get? a = some _ from x)
  | met f y => exact Heap.lt_size (show h.get? a = some _ from x)
  | ext φ => obtain ⟨_, ⟨_, e⟩, _⟩ := x; exact Heap.lt_size e
theorem Paired.mapP {α β : Type} {F G : α → β → Prop} : ∀ {l₁ : List α} {l₂ : List β}, Paired F l₁ l₂ → (∀ a b, F a b → G a b) → Paired G l₁ l₂
  | _, _, .nil, _ => .nil
  | _, _, .cons r t, f => .cons (f _ _ r) (Paired.mapP t f)
theorem ObjOk.stay (x : ObjOk P w H h a o) (k : ∀ b u, (b = a ∨ H b = some (.own a)) → h.get? b = some u → h'.get? b = some u)
    (ho : ∀ b, H b = some (.own a) → H' b = some (.own a)) (ht : ∀ b xs, H b = some (.tup xs) → H' b = some (.tup xs)) : ObjOk P w H' h' a o := by
  induction o with
  | lst xs => obtain ⟨z, its, n, r, e⟩ := x; exact ⟨z, its, n, r, k _ _ (.inl rfl) e⟩
  | tup xs => obtain ⟨z, its, r, ob, e, c⟩ := x; exact ⟨z, its, r, ob, k _ _ (.inl rfl) e, c⟩
  | dK kvs => obtain ⟨z, y, vs, r, ob, es, ep, e, c⟩ := x; exact ⟨z, y, vs, r, ob, es, ep, k _ _ (.inl rfl) e, c⟩
  | dT kvs =>
    obtain ⟨z, y, xs, r, ob, es, ep, e, c⟩ := x
    exact ⟨z, y, xs, Paired.mapP r fun p q z => ⟨z.1, ht _ _ z.2.1, z.2.2⟩, ob, es, ep, k _ _ (.inl rfl) e, c⟩
  | set S n => obtain ⟨ob, es, ep, t, e, c⟩ := x; exact ⟨ob, es, ep, t, k _ _ (.inl rfl) e, c⟩
  | ins C dx fs =>
    obtain ⟨d, z, ne, e, mA, ⟨od, es, ep, e2, c⟩, r⟩ := x
    exact ⟨ho _ d, z, ne, k _ _ (.inl rfl) e, mA, ⟨od, es, ep, k _ _ (.inr d) e2, c⟩, r⟩
  | own y => obtain ⟨ob, e⟩ := x; exact ⟨ob, k _ _ (.inl rfl) e⟩
  | xd fs => obtain ⟨mA, ⟨od, es, ep, e, c⟩, r⟩ := x; exact ⟨mA, ⟨od, es, ep, k _ _ (.inl rfl) e, c⟩, r⟩
  | rng lo hi => obtain ⟨t, u, v, e⟩ := x; exact ⟨t, u, v, k _ _ (.inl rfl) e⟩
  | frz ob u ih => obtain ⟨e, q⟩ := x; exact ⟨k _ _ (.inl rfl) e, ih q⟩
  | tbl ps =>
    have e : h.get? a = some { cls := .none, data := .fields ps } := x
    show h'.get? a = some { cls := .none, data := .fields ps }
    exact k a _ (.inl rfl) e
  | met f y =>
    have e : h.get? a = some (PySem.W.methodObj (.ref f) (.ref y)) := x
    show h'.get? a = some (PySem.W.methodObj (.ref f) (.ref y))
    exact k a _ (.inl rfl) e
  | ext φ => obtain ⟨p, ⟨o, e⟩, st⟩ := x; exact ⟨st _ _ p fun o q => k _ _ (.inl rfl) q, ⟨o, k _ _ (.inl rfl) e⟩, st⟩
theorem HOk.lt (x : HOk P w H h) (e : H a = some o) : a < h.objs.size := (x a o e).lt
theorem HOk.fresh (x : HOk P w H h) (e : h.objs.size ≤ a) : H a = none := by
  cases q : H a with
  | none => rfl
  | some u => exact absurd (Nat.lt_of_lt_of_le (x.lt q) e) (Nat.lt_irrefl _)

theorem HOk.kept (x : HOk P w H h) (k : ∀ b u, h.get? b = some u → h'.get? b = some u) : HOk P w H h' := fun a o e =>
  (x a o e).stay (fun b u _ q => k b u q) (fun _ q => q) fun _ _ q => q

theorem HOk.laid (x : HOk P w H h) (k : ∀ b u, h.get? b = some u → h'.get? b = some u) (hp : h.objs.size ≤ a) (new : ObjOk P w (upd H a o) h' a o) : HOk P w (upd H a o) h' := fun b u e => by
  have hn := x.fresh hp
  by_cases hb : b = a
  · subst hb; rw [upd_same] at e; cases e; exact new
  · rw [upd_ne hb] at e
    exact (x b u e).stay (fun c v _ q => k c v q) (fun c q => by rw [upd_ne (ne_of_none q hn)]; exact q) fun c xs q => by rw [upd_ne (ne_of_none q hn)]; exact q
end


def Rd (H : Hp) (a : Addr) (u : HO) : Prop := H a = some u ∨ ∃ o, H a = some (.frz o u)
theorem Rd.ok {P : Program} {w : World} {H : Hp} {h : Heap} {a : Addr} {u : HO} (r : Rd H a u) (x : HOk P w H h) : ObjOk P w H h a u := by
  rcases r with r | ⟨o, r⟩
  · exact x a u r
  · obtain ⟨_, q⟩ := x a _ r
    exact q

def Mut : Option HO → Prop
  | some (.lst _) => True
  | some (.dK _) => True
  | some (.dT _) => True
  | some (.set _ _) => True
  | some (.ins _ _ _) => True
  | some (.ext _) => True
  | _ => False
section
variable {P : Program} {w : World} {H : Hp} {h h' : Heap} {x e : Addr} {o' : HO}

theorem HOk.write (ok : HOk P w H h) (mu : Mut (H x)) (he : e = x ∨ H e = some (.own x)) (k : ∀ b u, b ≠ e → h.get? b = some u → h'.get? b = some u) (heo : ∃ u, h'.get? e = some u)
    (new : ObjOk P w (upd H x o') h' x o') : HOk P w (upd H x o') h' := fun b u q => by
  have nown : ∀ c y, H c = some (.own y) → c ≠ x := fun c y r z => by subst z; rw [r] at mu; exact mu
  have ntup : ∀ c xs, H c = some (.tup xs) → c ≠ x := fun c xs r z => by subst z; rw [r] at mu; exact mu
  by_cases hb : b = x
  · subst hb; rw [upd_same] at q; cases q; exact new
  · rw [upd_ne hb] at q
    by_cases hbe : b = e
    · have q' : H b = some (.own x) := by
        rcases he with z | z
        · exact absurd (hbe.trans z) hb
        · rw [hbe]; exact z
      rw [q] at q'; cases q'
      obtain ⟨v, hv⟩ := heo
      exact ⟨v, by rw [hbe]; exact hv⟩
    · refine (ok b u q).stay (fun c v hc r => k c v ?_ r) (fun c r => by rw [upd_ne (nown c b r)]; exact r) fun c xs r => by rw [upd_ne (ntup c xs r)]; exact r
      rcases hc with rfl | hc
      · exact hbe
      · rintro rfl
        rcases he with z | z
        · exact nown c b hc z
        · rw [hc] at z; cases z; exact hb rfl
end


structure Un (fs ex : List Addr) (H H' : Hp) (h h' : Heap) : Prop where
  keep : ∀ b o, h.get? b = some o → H b = none → b ∉ fs → b ∉ ex → h'.get? b = some o
  slot : ∀ b o, h.get? b = some o → H b = none → b ∈ fs → b ∉ ex → ∃ sl, h'.get? b = some { o with slots := sl }
  free : ∀ b o, h.get? b = some o → H b = none → b ∉ ex → H' b = none
  there : ∀ b o, h.get? b = some o → b ∉ ex → ∃ o', h'.get? b = some o'
  tups : ∀ b xs, H b = some (.tup xs) → H' b = some (.tup xs)
  frzs : ∀ b o u, H b = some (.frz o u) → H' b = some (.frz o u)
  tbls : ∀ b ps, H b = some (.tbl ps) → ∃ more, H' b = some (.tbl (ps ++ more))
section
variable {fs fs' ex ex' : List Addr} {H H1 H2 : Hp} {h h1 h2 h' : Heap} {a x e : Addr} {o : HO}
theorem Un.any (u : Un fs ex H H1 h h1) {b : Addr} {ob : Obj} (q : h.get? b = some ob) (n : H b = none) (hx : b ∉ ex) : ∃ sl, h1.get? b = some { ob with slots := sl } := by
  by_cases hb : b ∈ fs
  · exact u.slot b ob q n hb hx
  · exact ⟨ob.slots, u.keep b ob q n hb hx⟩
theorem Un.kept (k : ∀ b u, h.get? b = some u → h'.get? b = some u) : Un fs ex H H h h' :=
  ⟨fun b ob q _ _ _ => k b ob q, fun b ob q _ _ _ => ⟨ob.slots, k b ob q⟩, fun _ _ _ n _ => n, fun b ob q _ => ⟨ob, k b ob q⟩, fun _ _ q => q, fun _ _ _ q => q, fun _ ps q => ⟨#[], by rw [q]; simp⟩⟩
theorem Un.refl : Un fs ex H H h h := Un.kept fun _ _ q => q
theorem Un.laid (k : ∀ b u, h.get? b = some u → h'.get? b = some u) (hp : h.objs.size ≤ a) (hn : H a = none) : Un fs ex H (upd H a o) h h' where
  keep := fun b u q _ _ _ => k b u q
  slot := fun b u q _ _ _ => ⟨u.slots, k b u q⟩
  free := fun b u q n _ => by rw [upd_ne (Nat.ne_of_lt (Nat.lt_of_lt_of_le (Heap.lt_size q) hp))]; exact n
  there := fun b u q _ => ⟨u, k b u q⟩
  tups := fun b xs q => by rw [upd_ne (ne_of_none q hn)]; exact q
  frzs := fun b u xs q => by rw [upd_ne (ne_of_none q hn)]; exact q
  tbls := fun b ps q => ⟨#[], by rw [upd_ne (ne_of_none q hn), q]; simp⟩
theorem Un.write (mu : Mut (H x)) (he : e = x ∨ H e = some (.own x)) (k : ∀ b u, b ≠ e → h.get? b = some u → h'.get? b = some u) (heo : ∃ u, h'.get? e = some u) : Un fs ex H (upd H x o) h h' := by
  have hx : ∀ b, H b = none → b ≠ x := fun b n z => by subst z; rw [n] at mu; exact mu
  have hb : ∀ b, H b = none → b ≠ e := fun b n z => by
    subst z
    rcases he with r | r
    · exact hx b n r
    · rw [n] at r; cases r
  have hm : ∀ b u, H b = some u → ¬ Mut (some u) → b ≠ x := fun b u q nm z => by subst z; rw [q] at mu; exact nm mu
  refine ⟨fun b u q n _ _ => k b u (hb b n) q, fun b u q n _ _ => ⟨u.slots, k b u (hb b n) q⟩, fun b u q n _ => by rw [upd_ne (hx b n)]; exact n, fun b u q _ => ?_,
    fun b xs q => by rw [upd_ne (hm b _ q fun z => z)]; exact q, fun b u xs q => by rw [upd_ne (hm b _ q fun z => z)]; exact q, fun b ps q => ⟨#[], by rw [upd_ne (hm b _ q fun z => z), q]; simp⟩⟩
  by_cases hbe : b = e
  · subst hbe; exact heo
  · exact ⟨u, k b u hbe q⟩
end


def trk (h : Heap) (H : Hp) : List Addr := (List.range h.objs.size).filter fun a => (H a).isSome
def hidT (h : Heap) (H : Hp) : Heap := PySem.W.hideAll h (trk h H)
theorem hidT_size (h : Heap) (H : Hp) : (hidT h H).objs.size = h.objs.size := PySem.W.hideAll_size _ _
theorem hidT_get {h : Heap} {H : Hp} {b : Addr} {o : Obj} (e : h.get? b = some o) (n : H b = none) : (hidT h H).get? b = some o :=
  PySem.W.hideAll_get _ e fun hm => by
    have q : (H b).isSome = true := (List.mem_filter.mp hm).2
    rw [n] at q; simp at q
theorem of_hidT {h : Heap} {H : Hp} {b : Addr} {o : Obj} (e : (hidT h H).get? b = some o) : h.get? b = some o ∧ H b = none := by
  have e' : h.get? b = some o := PySem.W.of_hideAll (trk h H) e
  refine ⟨e', ?_⟩
  cases q : H b with
  | none => rfl
  | some x =>
    have hm : b ∈ trk h H := List.mem_filter.mpr ⟨List.mem_range.mpr (Heap.lt_size e'), by simp [q]⟩
    have z : (hidT h H).get? b = none := PySem.W.hideAll_none (trk h H) hm
    rw [z] at e; cases e


def allNews (g h : Heap) (L : Addr) : List (Addr × Obj) := (List.range h.objs.size).filterMap fun a => if a = L ∨ (g.get? a).isSome = true then none else (h.get? a).map fun o => (a, o)
def rest (g h : Heap) (L d : Addr) : List (Addr × Obj) := (allNews g h L).filter fun p => decide (p.1 ≠ d)
end L2

namespace L2
open PySem PySem.Spec PyProof.Rows


structure Mod (K : PySem.W.Frag) (mg : Str → Option Value) (base : Heap) : Prop where
  kin : K.In base
  glob : base.Ns mainGlobals mg
  blt : ∃ mb, base.Ns builtinsNs mb ∧ ∀ x : Str, x ≠ "__name__" → mb x = bootBuiltins x
  nolimit : base.NoLimit


structure Cx where
  prog : Program
  w : World
  K : PySem.W.Frag
  mg : Str → Option Value
  base : Heap
  A : Around
  N : List Str
  s₀ : Shared
  H₀ : Hp
  env : Env
  outer : List Env
  stack : List Env
  ex : List Addr
  fn : Str → Bool
  calm : Bool
  pn : List (Addr × Obj)
  xe : Value → Shared → Prop

def frs (l : List Env) : List Addr := l.filterMap (·.frame)
abbrev Cx.fs (X : Cx) : List Addr := frs X.outer

def Vis (sc : Scope) (x : Str) : Prop := sc.names.lookup x = some .local ∨ sc.names.lookup x = some .cell ∨ sc.names.lookup x = some .free
def Loc (sc : Scope) (x : Str) : Prop := sc.names.lookup x = some .local ∨ sc.names.lookup x = some .cell
def Look (env : Env) (h : Heap) (m : Str → Option Value) (x : Str) (u : Value) : Prop :=
  (env.kindOf x = some .local ∧ m x = some u) ∨ ((env.kindOf x = some .cell ∨ env.kindOf x = some .free) ∧ ∃ c, env.cells.lookup x = some c ∧ h.IsCell c (some u))

structure Cx.Ok (X : Cx) : Prop where
  mod : Mod X.K X.mg X.base
  kind : X.env.scope.kind = .function
  glob : X.env.globals = mainGlobals
  blt : X.env.builtins = builtinsNs
  above : X.s₀.heap.objs.size ≤ X.env.locals
  inj : ∀ x y c, X.env.cells.lookup x = some c → X.env.cells.lookup y = some c → x = y
  has : ∀ x, (X.env.kindOf x = some .cell ∨ X.env.kindOf x = some .free) → ∃ c, X.env.cells.lookup x = some c
  cab : ∀ x c, X.fn x = true → X.env.cells.lookup x = some c → X.s₀.heap.objs.size ≤ c
  hd : X.calm = true → X.A.handled = none
  frames : X.A.frames = some X.stack
  stk : X.stack = X.outer ∨ (X.stack = X.env :: X.outer ∧ X.env.frame = some X.env.locals)
  exf : ∀ b ∈ X.ex, b ≠ X.env.locals ∧ ∀ x c, X.env.cells.lookup x = some c → c ≠ b
  bs : ∀ b o, X.base.get? b = some o → X.s₀.heap.get? b = some o ∧ X.H₀ b = none
  bsz : X.base.objs.size ≤ X.s₀.heap.objs.size
  noex : ∀ b o, X.base.get? b = some o → b ∉ X.ex
  exfs : ∀ b ∈ X.ex, b ∉ X.fs
  funs : X.s₀.heap.FunFrames X.base X.outer
  frf : ∀ b ∈ X.fs, X.H₀ b = none

structure Inv (X : Cx) (pins : List (Addr × Obj)) (σ : List (Option V)) (H : Hp) (s : Shared) : Prop where
  ok : X.Ok
  os : s.os = X.s₀.os
  bare : AllBare s.gens
  base : Un X.fs X.ex X.H₀ H X.s₀.heap s.heap
  loc : ∃ m, s.heap.Ns X.env.locals m ∧ ∀ (i : Nat) (x : Str) (v : V), X.N[i]? = some x → σ[i]? = some (some v) → Vis X.env.scope x → ∃ u, RelV v u ∧ Look X.env s.heap m x u
  cell : ∀ x c, X.env.cells.lookup x = some c → ∃ v, s.heap.IsCell c v
  free : H X.env.locals = none
  freeC : ∀ x c, X.env.cells.lookup x = some c → H c = none
  pin : ∀ p ∈ X.pn ++ pins, s.heap.get? p.1 = some p.2 ∧ H p.1 = none ∧ p.1 ≠ X.env.locals ∧ p.1 ∉ X.fs ∧ ∀ v, p.2.data ≠ .cell v
  hok : HOk X.prog X.w H s.heap
  len : σ.length = X.N.length

section
variable {X : Cx} {pins : List (Addr × Obj)} {σ : List (Option V)} {H H' : Hp} {s : Shared} {h' : Heap}

theorem Cx.Ok.nofr (ok : X.Ok) {b : Addr} {o : Obj} (e : X.base.get? b = some o) : b ∉ X.fs := fun hb => by
  have := (ok.funs.mem hb).1
  rw [e] at this; cases this
theorem Inv.bs (I : Inv X pins σ H s) : ∀ b o, X.base.get? b = some o → s.heap.get? b = some o ∧ H b = none := fun b o e =>
  ⟨I.base.keep b o (I.ok.bs b o e).1 (I.ok.bs b o e).2 (I.ok.nofr e) (I.ok.noex b o e), I.base.free b o (I.ok.bs b o e).1 (I.ok.bs b o e).2 (I.ok.noex b o e)⟩
theorem Inv.bk (I : Inv X pins σ H s) : ∀ b o, X.base.get? b = some o → s.heap.get? b = some o := fun b o e => (I.bs b o e).1
theorem Inv.mod (I : Inv X pins σ H s) : Mod X.K X.mg X.base := I.ok.mod
theorem Inv.kIn (I : Inv X pins σ H s) : X.K.In s.heap := I.ok.mod.kin.keeps I.bk
theorem Inv.nolimit (I : Inv X pins σ H s) : s.heap.NoLimit := I.ok.mod.nolimit.keeps I.bk

theorem Inv.lt (I : Inv X pins σ H s) : X.env.locals < s.heap.objs.size := let ⟨_, hn, _⟩ := I.loc; hn.lt
theorem Inv.sz (I : Inv X pins σ H s) : X.s₀.heap.objs.size ≤ s.heap.objs.size := Nat.le_trans I.ok.above (Nat.le_of_lt I.lt)
theorem Inv.nofs (I : Inv X pins σ H s) {a : Addr} (h : s.heap.objs.size ≤ a) : a ∉ X.fs := fun hb => by
  obtain ⟨_, o, ho, _⟩ := I.ok.funs.mem hb
  exact absurd (Nat.lt_of_lt_of_le (Heap.lt_size ho) (Nat.le_trans I.sz h)) (Nat.lt_irrefl _)
theorem Inv.cne (I : Inv X pins σ H s) : ∀ x c, X.env.cells.lookup x = some c → c ≠ X.env.locals := fun x c e z => by
  obtain ⟨v, o, ho, hd⟩ := I.cell x c e
  obtain ⟨m, ⟨o', es, ep, ho', hd', _⟩, _⟩ := I.loc
  rw [z, ho'] at ho; cases ho; rw [hd'] at hd; cases hd
theorem Inv.funs (I : Inv X pins σ H s) : s.heap.FunFrames X.base X.outer := by
  have all : ∀ (l : List Env), (∀ b ∈ frs l, b ∈ X.fs) → X.s₀.heap.FunFrames X.base l → s.heap.FunFrames X.base l := by
    intro l
    induction l with
    | nil => intro _ _; trivial
    | cons env r ih =>
      intro hs hl
      obtain ⟨hk, ⟨L, o, hf, hn, ho, hd⟩, hr⟩ := hl
      have hL : L ∈ X.fs := hs L (by unfold frs; rw [List.filterMap_cons, hf]; exact List.mem_cons_self)
      obtain ⟨sl, e⟩ := I.base.slot L o ho (I.ok.frf L hL) hL fun z => I.ok.exfs L z hL
      exact ⟨hk, ⟨L, _, hf, hn, e, hd⟩, ih (fun b hb => hs b (by unfold frs; rw [List.filterMap_cons, hf]; exact List.mem_cons_of_mem _ hb)) hr⟩
  exact all X.outer (fun _ hb => hb) I.ok.funs


theorem Inv.stack (I : Inv X pins σ H s) : s.heap.FunFrames X.base X.stack := by
  rcases I.ok.stk with e | ⟨e, hf⟩
  · rw [e]; exact I.funs
  · rw [e]
    obtain ⟨m, hn, _⟩ := I.loc
    refine .cons (by rw [I.ok.kind]; decide) hf hn ?_ I.funs
    exact Heap.get?_none_of_le (Nat.le_trans I.ok.bsz I.ok.above)
theorem Inv.stkSub (I : Inv X pins σ H s) : ∀ b ∈ frs X.stack, b ∈ X.env.locals :: X.fs := fun b hb => by
  rcases I.ok.stk with e | ⟨e, hf⟩
  · rw [e] at hb; exact List.mem_cons_of_mem _ hb
  · rw [e] at hb
    unfold frs at hb
    rw [List.filterMap_cons, hf] at hb
    exact hb
theorem Inv.stkFree (I : Inv X pins σ H s) : ∀ b ∈ frs X.stack, H b = none := fun b hb => by
  rcases List.mem_cons.mp (I.stkSub b hb) with e | hb
  · rw [e]; exact I.free
  · obtain ⟨_, o, ho, _⟩ := I.ok.funs.mem hb
    exact I.base.free b o ho (I.ok.frf b hb) fun z => I.ok.exfs b z hb


theorem Inv.step {g' : Array GenState} {t' : Nat} {d' : Drawn} {ch : List Addr} (I : Inv X pins σ H s)
    (hch : ∀ b ∈ ch, (b ∈ X.ex ∨ X.s₀.heap.get? b = none) ∧ b ≠ X.env.locals ∧ (∀ x c, X.env.cells.lookup x = some c → c ≠ b) ∧ ∀ p ∈ X.pn ++ pins, p.1 ≠ b)
    (keep : ∀ b o, b ≠ X.env.locals → b ∉ X.fs → b ∉ ch → s.heap.get? b = some o → H b = none → h'.get? b = some o)
    (slot : ∀ b o, b ≠ X.env.locals → b ∈ X.fs → b ∉ ch → s.heap.get? b = some o → H b = none → ∃ sl, h'.get? b = some { o with slots := sl }) (free : ∀ b o, b ∉ ch → s.heap.get? b = some o → H b = none → H' b = none)
    (there : ∀ b o, b ∉ ch → s.heap.get? b = some o → ∃ o', h'.get? b = some o')
    (tups : ∀ b xs, H b = some (.tup xs) → H' b = some (.tup xs)) (frzs : ∀ b o u, H b = some (.frz o u) → H' b = some (.frz o u)) (tbls : ∀ b ps, H b = some (.tbl ps) → ∃ more, H' b = some (.tbl (ps ++ more)))
    (ns : ∀ m, s.heap.Ns X.env.locals m → h'.Ns X.env.locals m) (hok : HOk X.prog X.w H' h') (hg : AllBare g') :
    Inv X pins σ H' { s with heap := h', gens := g', drawn := d', toks := t' } := by
  have neL : ∀ b o, X.s₀.heap.get? b = some o → b ≠ X.env.locals := fun b o e => Nat.ne_of_lt (Nat.lt_of_lt_of_le (Heap.lt_size e) I.ok.above)
  have neC : ∀ b o, X.s₀.heap.get? b = some o → b ∉ X.ex → b ∉ ch := fun b o e hx hb => by
    rcases (hch b hb).1 with z | z
    · exact hx z
    · rw [z] at e; cases e
  have cellK : ∀ x c, X.env.cells.lookup x = some c → ∀ v, s.heap.IsCell c v → h'.IsCell c v := fun x c e v ⟨o, ho, hd⟩ => by
    have nch : c ∉ ch := fun z => (hch c z).2.2.1 x c e rfl
    by_cases hc : c ∈ X.fs
    · obtain ⟨sl, q⟩ := slot c o (I.cne x c e) hc nch ho (I.freeC x c e)
      exact ⟨_, q, hd⟩
    · exact ⟨o, keep c o (I.cne x c e) hc nch ho (I.freeC x c e), hd⟩
  refine ⟨I.ok, I.os, hg, ⟨fun b o e n hb hx => ?_, fun b o e n hb hx => ?_, fun b o e n hx => ?_, fun b o e hx => ?_, fun b xs e => tups b xs (I.base.tups b xs e), fun b o xs e => frzs b o xs (I.base.frzs b o xs e), fun b ps e => ?_⟩, ?_, fun x c e => ?_, ?_, fun x c e => ?_, fun p hp => ?_, hok, I.len⟩
  · exact keep b o (neL b o e) hb (neC b o e hx) (I.base.keep b o e n hb hx) (I.base.free b o e n hx)
  · obtain ⟨sl, e1⟩ := I.base.slot b o e n hb hx
    obtain ⟨sl', e2⟩ := slot b _ (neL b o e) hb (neC b o e hx) e1 (I.base.free b o e n hx)
    exact ⟨sl', e2⟩
  · obtain ⟨o', e1⟩ := I.base.there b o e hx
    exact free b o' (neC b o e hx) e1 (I.base.free b o e n hx)
  · obtain ⟨o', e1⟩ := I.base.there b o e hx
    exact there b o' (neC b o e hx) e1
  · obtain ⟨m1, e1⟩ := I.base.tbls b ps e
    obtain ⟨m2, e2⟩ := tbls b _ e1
    exact ⟨m1 ++ m2, by rw [e2, Array.append_assoc]⟩
  · obtain ⟨m, hn, hl⟩ := I.loc
    refine ⟨m, ns m hn, fun i x v e1 e2 e3 => ?_⟩
    obtain ⟨u, r, l⟩ := hl i x v e1 e2 e3
    refine ⟨u, r, ?_⟩
    rcases l with l | ⟨k, c, e, z⟩
    · exact .inl l
    · exact .inr ⟨k, c, e, cellK x c e _ z⟩
  · obtain ⟨v, z⟩ := I.cell x c e
    exact ⟨v, cellK x c e v z⟩
  · obtain ⟨m, ⟨o, _, _, ho, _⟩, _⟩ := I.loc
    exact free _ o (fun z => (hch _ z).2.1 rfl) ho I.free
  · obtain ⟨v, o, ho, hd⟩ := I.cell x c e
    exact free c o (fun z => (hch c z).2.2.1 x c e rfl) ho (I.freeC x c e)
  · obtain ⟨e, n, ne, nf, d⟩ := I.pin p hp
    have nch : p.1 ∉ ch := fun z => (hch p.1 z).2.2.2 p hp rfl
    exact ⟨keep p.1 p.2 ne nf nch e n, free p.1 p.2 nch e n, ne, nf, d⟩

theorem Inv.un {t' : Nat} (I : Inv X pins σ H s) (u : Un X.fs [] H H' s.heap h') (hok : HOk X.prog X.w H' h') : Inv X pins σ H' { s with heap := h', toks := t' } := by
  obtain ⟨m, ⟨o, es, ep, ho, r⟩, _⟩ := id I.loc
  obtain ⟨sl, hL⟩ := u.any ho I.free (by simp)
  exact I.step (g' := s.gens) (d' := s.drawn) (ch := []) (fun _ z => nomatch z) (fun b o _ hb _ e n => u.keep b o e n hb (by simp)) (fun b o _ hb _ e n => u.slot b o e n hb (by simp)) (fun b o _ e n => u.free b o e n (by simp)) (fun b o _ e => u.there b o e (by simp)) u.tups u.frzs u.tbls (fun m' hm => by
    obtain ⟨o', es', ep', ho', r'⟩ := hm
    rw [ho] at ho'; cases ho'
    exact ⟨_, es', ep', hL, r'⟩) hok I.bare

theorem Inv.call {g' : Array GenState} {t' : Nat} {d' : Drawn} {ch : List Addr} (I : Inv X pins σ H s) (u : Un (frs X.stack) ch H H' s.heap h') (hok : HOk X.prog X.w H' h') (hg : AllBare g')
    (hch : ∀ b ∈ ch, (b ∈ X.ex ∨ X.s₀.heap.get? b = none) ∧ b ≠ X.env.locals ∧ (∀ x c, X.env.cells.lookup x = some c → c ≠ b) ∧ ∀ p ∈ X.pn ++ pins, p.1 ≠ b) :
    Inv X pins σ H' { s with heap := h', gens := g', drawn := d', toks := t' } := by
  obtain ⟨m, ⟨o, es, ep, ho, r⟩, _⟩ := id I.loc
  obtain ⟨sl, hL⟩ := u.any ho I.free fun z => (hch _ z).2.1 rfl
  exact I.step (ch := ch) hch (fun b o hL hb hc e n => u.keep b o e n (fun z => (List.mem_cons.mp (I.stkSub b z)).elim hL hb) hc) (fun b o _ _ hc e n => u.any e n hc) (fun b o hc e n => u.free b o e n hc) (fun b o hc e => u.there b o e hc) u.tups u.frzs u.tbls (fun m' hm => by
    obtain ⟨o', es', ep', ho', r'⟩ := hm
    rw [ho] at ho'; cases ho'
    exact ⟨_, es', ep', hL, r'⟩) hok hg

theorem Inv.turned {t' : Nat} {it : Addr} (I : Inv X pins σ H s) (k : ∀ b o, b ≠ it → s.heap.get? b = some o → h'.get? b = some o) (hn : H it = none) (hL : it ≠ X.env.locals)
    (h1 : it ∈ X.ex ∨ X.s₀.heap.get? it = none) (h2 : ∀ x c, X.env.cells.lookup x = some c → c ≠ it) (h3 : ∀ p ∈ X.pn ++ pins, p.1 ≠ it) : Inv X pins σ H { s with heap := h', toks := t' } := by
  have nit : ∀ b u, H b = some u → b ≠ it := fun b u e z => by rw [z, hn] at e; cases e
  refine I.step (g' := s.gens) (d' := s.drawn) (ch := [it]) (fun b hb => ?_) (fun b o _ _ hc e _ => k b o (fun z => hc (by simp [z])) e) (fun b o _ _ hc e _ => ⟨o.slots, k b o (fun z => hc (by simp [z])) e⟩) (fun _ _ _ _ n => n)
    (fun b o hc e => ⟨o, k b o (fun z => hc (by simp [z])) e⟩) (fun _ _ e => e) (fun _ _ _ e => e) (fun b ps e => ⟨#[], by rw [e]; simp⟩) (fun m hm => ?_) (fun b u e => ?_) I.bare
  · have e : b = it := by simpa using hb
    subst e
    exact ⟨h1, hL, h2, h3⟩
  · obtain ⟨o, es, ep, ho, r⟩ := hm
    exact ⟨o, es, ep, k _ o (Ne.symm hL) ho, r⟩
  · refine (I.hok b u e).stay (fun c v hc q => k c v ?_ q) (fun _ q => q) fun _ _ q => q
    rcases hc with z | z
    · rw [z]; exact nit b u e
    · exact nit c _ z
theorem Inv.tok (I : Inv X pins σ H s) (t : Nat) : Inv X pins σ H { s with toks := t } := I.un (h' := s.heap) (t' := t) Un.refl I.hok

theorem Inv.kept {t' : Nat} (I : Inv X pins σ H s) (k : ∀ b u, s.heap.get? b = some u → h'.get? b = some u) : Inv X pins σ H { s with heap := h', toks := t' } := I.un (Un.kept k) (I.hok.kept k)

theorem Inv.laid {a : Addr} {o : HO} {t' : Nat} (I : Inv X pins σ H s) (k : ∀ b u, s.heap.get? b = some u → h'.get? b = some u) (hp : s.heap.objs.size ≤ a) (new : ObjOk X.prog X.w (upd H a o) h' a o) :
    Inv X pins σ (upd H a o) { s with heap := h', toks := t' } := I.un (Un.laid k hp (I.hok.fresh hp)) (I.hok.laid k hp new)

theorem Inv.write {x e : Addr} {o : HO} {t' : Nat} (I : Inv X pins σ H s) (mu : Mut (H x)) (he : e = x ∨ H e = some (.own x)) (k : ∀ b u, b ≠ e → s.heap.get? b = some u → h'.get? b = some u) (heo : ∃ u, h'.get? e = some u)
    (new : ObjOk X.prog X.w (upd H x o) h' x o) : Inv X pins σ (upd H x o) { s with heap := h', toks := t' } := I.un (Un.write mu he k heo) (I.hok.write mu he k heo new)

theorem Inv.pins_of {pins' : List (Addr × Obj)} (I : Inv X pins σ H s) (h : ∀ p ∈ pins', s.heap.get? p.1 = some p.2 ∧ H p.1 = none ∧ p.1 ≠ X.env.locals ∧ p.1 ∉ X.fs ∧ ∀ v, p.2.data ≠ .cell v) : Inv X pins' σ H s :=
  ⟨I.ok, I.os, I.bare, I.base, I.loc, I.cell, I.free, I.freeC, fun p hp => (List.mem_append.mp hp).elim (fun z => I.pin p (List.mem_append_left _ z)) (h p), I.hok, I.len⟩

theorem nodup_ix {N : List Str} (hN : N.Nodup) {i j : Nat} {x : Str} (a : N[i]? = some x) (b : N[j]? = some x) : i = j := by
  obtain ⟨h1, e1⟩ := List.getElem?_eq_some_iff.mp a
  obtain ⟨h2, e2⟩ := List.getElem?_eq_some_iff.mp b
  exact (List.getElem_inj hN).mp (e1.trans e2.symm)


theorem store_ok2 {M : Model} {A : Around} {E : Value → Shared → Prop} {i : Nat} {x : Str} {v : V} {u : Value} {Q : Unit → Shared → Prop} (I : Inv X pins σ H s) (hN : X.N.Nodup) (hi : X.N[i]? = some x) (hx : Loc X.env.scope x) (r : RelV v u)
    (h : ∀ s', Inv X pins (σ.set i (some v)) H s' → (∃ a, Heap.SameBut a s.heap s'.heap ∧ (a = X.env.locals ∨ X.env.cells.lookup x = some a)) → Q () s') (hf : X.fn x = true ∨ X.env.scope.names.lookup x = some .local := by first | exact .inl rfl | exact .inr rfl | assumption) : wpAny M A (storeName X.env x u) Q E s := by
  obtain ⟨m, hn, hl⟩ := id I.loc
  have hcls : (X.env.scope.kind == .class || (X.env.scope.kind == .module && X.env.locals != X.env.globals)) = false := by rw [I.ok.kind]; rfl
  have hiσ : i < σ.length := by rw [I.len]; exact (List.getElem?_eq_some_iff.mp hi).1
  have cne := I.cne
  have tracked : ∀ {a : Addr} {h' : Heap}, (∃ o, s.heap.get? a = some o ∧ H a = none) → Heap.SameBut a s.heap h' → HOk X.prog X.w H h' := fun {a h'} ha hs b ob e => by
    obtain ⟨_, _, hfree⟩ := ha
    refine (I.hok b ob e).stay (fun c w' hc q => (hs.2 c ?_).trans q) (fun _ q => q) fun _ _ q => q
    rintro rfl
    rcases hc with rfl | hc
    · rw [hfree] at e; cases e
    · rw [hfree] at hc; cases hc
  rcases hx with hk | hk
  · refine wpAny_storeName_local hk hn (fun h' hn' hs => ?_) hcls
    obtain ⟨oL, _, _, hoL, _⟩ := id hn
    refine h _ ⟨I.ok, I.os, I.bare, ⟨fun b o e n hb hx => ?_, fun b o e n hb hx => ?_, I.base.free, fun b o e hx => ?_, I.base.tups, I.base.frzs, I.base.tbls⟩, ⟨_, hn', fun j y v' e1 e2 e3 => ?_⟩, fun y c e => ?_, I.free, I.freeC, fun p hp => ?_, tracked ⟨oL, hoL, I.free⟩ hs, by simpa using I.len⟩ ⟨_, hs, .inl rfl⟩
    · exact (hs.2 b (Nat.ne_of_lt (Nat.lt_of_lt_of_le (Heap.lt_size e) I.ok.above))).trans (I.base.keep b o e n hb hx)
    · obtain ⟨sl, e1⟩ := I.base.slot b o e n hb hx
      exact ⟨sl, (hs.2 b (Nat.ne_of_lt (Nat.lt_of_lt_of_le (Heap.lt_size e) I.ok.above))).trans e1⟩
    · obtain ⟨o', e1⟩ := I.base.there b o e hx
      exact ⟨o', (hs.2 b (Nat.ne_of_lt (Nat.lt_of_lt_of_le (Heap.lt_size e) I.ok.above))).trans e1⟩
    · by_cases hj : j = i
      · subst hj
        rw [hi] at e1; cases e1
        rw [List.getElem?_set_self hiσ] at e2
        cases e2
        exact ⟨u, r, .inl ⟨hk, by simp⟩⟩
      · rw [List.getElem?_set_ne (Ne.symm hj)] at e2
        obtain ⟨u', r', q⟩ := hl j y v' e1 e2 e3
        refine ⟨u', r', ?_⟩
        rcases q with ⟨k, e⟩ | ⟨k, c, e, z⟩
        · refine .inl ⟨k, ?_⟩
          have : y ≠ x := fun e => hj (nodup_ix hN e1 (e ▸ hi))
          simp [this, e]
        · exact .inr ⟨k, c, e, z.sameBut hs (cne y c e)⟩
    · obtain ⟨w', z⟩ := I.cell y c e
      exact ⟨w', z.sameBut hs (cne y c e)⟩
    · obtain ⟨e, n, ne, nf, d⟩ := I.pin p hp
      exact ⟨(hs.2 p.1 ne).trans e, n, ne, nf, d⟩
  · have hfn : X.fn x = true := by
      rcases hf with z | z
      · exact z
      · rw [z] at hk; cases hk
    obtain ⟨c, hc⟩ := I.ok.has x (.inl hk)
    obtain ⟨w', z⟩ := I.cell x c hc
    refine wpAny_storeName_cell I.ok.kind hk hc z (fun h' hc' hs => ?_)
    obtain ⟨oc, hoc, hocd⟩ := id z
    refine h { s with heap := h' } ⟨I.ok, I.os, I.bare, ⟨fun b o e n hb hx => ?_, fun b o e n hb hx => ?_, I.base.free, fun b o e hx => ?_, I.base.tups, I.base.frzs, I.base.tbls⟩, ⟨m, hn.sameBut hs (Ne.symm (cne x c hc)), fun j y v' e1 e2 e3 => ?_⟩, fun y c' e => ?_, I.free, I.freeC, fun p hp => ?_, tracked ⟨oc, hoc, I.freeC x c hc⟩ hs, by simpa using I.len⟩ ⟨c, hs, .inr hc⟩
    · exact (hs.2 b (Nat.ne_of_lt (Nat.lt_of_lt_of_le (Heap.lt_size e) (I.ok.cab x c hfn hc)))).trans (I.base.keep b o e n hb hx)
    · obtain ⟨sl, e1⟩ := I.base.slot b o e n hb hx
      exact ⟨sl, (hs.2 b (Nat.ne_of_lt (Nat.lt_of_lt_of_le (Heap.lt_size e) (I.ok.cab x c hfn hc)))).trans e1⟩
    · obtain ⟨o', e1⟩ := I.base.there b o e hx
      exact ⟨o', (hs.2 b (Nat.ne_of_lt (Nat.lt_of_lt_of_le (Heap.lt_size e) (I.ok.cab x c hfn hc)))).trans e1⟩
    · by_cases hj : j = i
      · subst hj
        rw [hi] at e1; cases e1
        rw [List.getElem?_set_self hiσ] at e2
        cases e2
        exact ⟨u, r, .inr ⟨.inl hk, c, hc, hc'⟩⟩
      · rw [List.getElem?_set_ne (Ne.symm hj)] at e2
        obtain ⟨u', r', q⟩ := hl j y v' e1 e2 e3
        refine ⟨u', r', ?_⟩
        rcases q with q | ⟨k, c', e, z'⟩
        · exact .inl q
        · refine .inr ⟨k, c', e, z'.sameBut hs ?_⟩
          rintro rfl
          exact hj (nodup_ix hN e1 (I.ok.inj _ _ _ e hc ▸ hi))
    · by_cases hcc : c' = c
      · subst hcc; exact ⟨_, hc'⟩
      · obtain ⟨w2, z2⟩ := I.cell y c' e
        exact ⟨w2, z2.sameBut hs hcc⟩
    · obtain ⟨e, n, ne, nf, d⟩ := I.pin p hp
      refine ⟨(hs.2 p.1 ?_).trans e, n, ne, nf, d⟩
      intro q
      rw [q, hoc] at e
      have q' : oc = p.2 := Option.some.inj e
      exact d w' (by rw [← q']; exact hocd)
theorem store_ok {M : Model} {A : Around} {E : Value → Shared → Prop} {i : Nat} {x : Str} {v : V} {u : Value} {Q : Unit → Shared → Prop} (I : Inv X pins σ H s) (hN : X.N.Nodup) (hi : X.N[i]? = some x) (hx : Loc X.env.scope x) (r : RelV v u)
    (h : ∀ s', Inv X pins (σ.set i (some v)) H s' → Q () s') (hf : X.fn x = true ∨ X.env.scope.names.lookup x = some .local := by first | exact .inl rfl | exact .inr rfl | assumption) : wpAny M A (storeName X.env x u) Q E s :=
  store_ok2 I hN hi hx r (fun s' I' _ => h s' I') hf

theorem Inv.call' {s' : Shared} {ch : List Addr} (I : Inv X pins σ H s) (ho : s'.os = s.os) (u : Un (frs X.stack) ch H H' s.heap s'.heap) (hok : HOk X.prog X.w H' s'.heap) (hg : AllBare s'.gens)
    (hch : ∀ b ∈ ch, (b ∈ X.ex ∨ X.s₀.heap.get? b = none) ∧ b ≠ X.env.locals ∧ (∀ x c, X.env.cells.lookup x = some c → c ≠ b) ∧ ∀ p ∈ X.pn ++ pins, p.1 ≠ b) : Inv X pins σ H' s' := by
  obtain ⟨h', g', d', t', o'⟩ := s'
  have e : o' = s.os := ho
  subst e
  exact I.call (g' := g') (t' := t') (d' := d') u hok hg hch
end



abbrev XK := Value → Option Addr → Hp → Prop
abbrev St := List (Option V)
abbrev VK := V → Hp → Prop

abbrev TE := St → Hp → VK → Prop
abbrev TT := St → Hp → (Bool → Hp → Prop) → Prop
abbrev TA := St → Hp → (List V → Hp → Prop) → Prop

structure Ends where
  nx : St → Hp → Prop
  rt : VK
  bk : St → Hp → Prop := fun _ _ => False
  ct : St → Hp → Prop := fun _ _ => False
abbrev TS := Ends → St → Hp → Prop

def EP (X : Cx) (pins : List (Addr × Obj)) (σ : St) (Q : VK) (u : Value) (s' : Shared) : Prop := ∃ v H', Inv X pins σ H' s' ∧ RelV v u ∧ Q v H'
def TP (X : Cx) (pins : List (Addr × Obj)) (σ : St) (Q : Bool → Hp → Prop) (b : Bool) (s' : Shared) : Prop := ∃ H', Inv X pins σ H' s' ∧ Q b H'
def AP (X : Cx) (pins : List (Addr × Obj)) (σ : St) (Q : List V → Hp → Prop) (us : List Value) (s' : Shared) : Prop := ∃ vs H', Inv X pins σ H' s' ∧ Vals vs us ∧ Q vs H'
def SP (X : Cx) (pins : List (Addr × Obj)) (D : Ends) (f : Flow) (s' : Shared) : Prop :=
  match f with
  | .next => ∃ σ' H', Inv X pins σ' H' s' ∧ D.nx σ' H'
  | .brk => ∃ σ' H', Inv X pins σ' H' s' ∧ D.bk σ' H'
  | .cont => ∃ σ' H', Inv X pins σ' H' s' ∧ D.ct σ' H'
  | .ret u => ∃ v σ' H', Inv X pins σ' H' s' ∧ RelV v u ∧ D.rt v H'

def PE (X : Cx) (e : Expr) (t : TE) : Prop :=
  ∀ (pins : List (Addr × Obj)) (s : Shared) (σ : St) (H : Hp) (Q : VK), Inv X pins σ H s → t σ H Q → wpAny (model X.prog X.w) X.A (eval e X.env) (EP X pins σ Q) X.xe s
def PT (X : Cx) (e : Expr) (t : TT) : Prop :=
  ∀ (pins : List (Addr × Obj)) (s : Shared) (σ : St) (H : Hp) (Q : Bool → Hp → Prop), Inv X pins σ H s → t σ H Q → wpAny (model X.prog X.w) X.A (isTrue e X.env (eval e X.env)) (TP X pins σ Q) X.xe s

def PW (X : Cx) (e : Expr) (t : TT) : Prop :=
  ∀ (whole : Sem Value) (pins : List (Addr × Obj)) (s : Shared) (σ : St) (H : Hp) (Q : Bool → Hp → Prop), Inv X pins σ H s → t σ H Q → wpAny (model X.prog X.w) X.A (isTrue e X.env whole) (TP X pins σ Q) X.xe s
theorem PW.pt {X : Cx} {e : Expr} {t : TT} (h : PW X e t) : PT X e t := h _

def PA (X : Cx) (es : List Expr) (t : TA) : Prop :=
  ∀ (pos : Pos) (pins : List (Addr × Obj)) (s : Shared) (σ : St) (H : Hp) (Q : List V → Hp → Prop), Inv X pins σ H s → t σ H Q → wpAny (model X.prog X.w) X.A (spliced (backTo pos (starEach es X.env))) (AP X pins σ Q) X.xe s
def PS (X : Cx) (st : Stmt) (t : TS) : Prop :=
  ∀ (pins : List (Addr × Obj)) (s : Shared) (σ : St) (H : Hp) (D : Ends), Inv X pins σ H s → t D σ H → wpAny (model X.prog X.w) X.A (exec st X.env) (SP X pins D) X.xe s
def PSs (X : Cx) (st : List Stmt) (t : TS) : Prop :=
  ∀ (pins : List (Addr × Obj)) (s : Shared) (σ : St) (H : Hp) (D : Ends), Inv X pins σ H s → t D σ H → wpAny (model X.prog X.w) X.A (execs st X.env) (SP X pins D) X.xe s

theorem thn {α : Type} {t : Sem α} {Q Q' : α → Shared → Prop} {M : Model} {A : Around} {E : Value → Shared → Prop} {s : Shared} (h : wpAny M A t Q E s) (hQ : ∀ a s, Q a s → Q' a s) : wpAny M A t Q' E s := wpAny_mono h hQ fun _ _ x => x
end L2

namespace L2
open PySem PySem.Spec PyProof.Rows
section
variable {X : Cx}


theorem bin {a b : Expr} {ta tb : TE} (ha : PE X a ta) (hb : PE X b tb) {pins : List (Addr × Obj)} {s : Shared} {σ : St} {H : Hp} {R : V → V → Hp → Prop} (I : Inv X pins σ H s) (h : ta σ H fun x H1 => tb σ H1 fun y H2 => R x y H2)
    {α : Type} {Q : α → Shared → Prop} {f : Value → Value → Sem α}
    (hf : ∀ v u s2 x y H2, Inv X pins σ H2 s2 → RelV x v → RelV y u → R x y H2 → wpAny (model X.prog X.w) X.A (f v u) Q X.xe s2) :
    wpAny (model X.prog X.w) X.A (eval a X.env) (fun v s₁ => wpAny (model X.prog X.w) X.A (eval b X.env) (fun u s₂ => wpAny (model X.prog X.w) X.A (f v u) Q X.xe s₂) X.xe s₁) X.xe s := by
  refine thn (ha pins s σ H _ I h) fun v s1 ⟨x, H1, I1, r1, q1⟩ => ?_
  refine thn (hb pins s1 σ H1 _ I1 q1) fun u s2 ⟨y, H2, I2, r2, q2⟩ => ?_
  exact hf v u s2 x y H2 I2 r1 r2 q2


def tVar (i : Nat) : TE := fun σ H Q => ∃ v, σ[i]? = some (some v) ∧ Q v H
def tC (v : V) : TE := fun _ H Q => Q v H
theorem pe_var {i : Nat} {x : Str} {pos : Pos} (hN : X.N[i]? = some x) (hv : Vis X.env.scope x) (hd : (x == ("__debug__" : Str)) = false := by decide) (hcd : (x == ("__classdict__" : Str)) = false := by decide) : PE X (.Name x pos) (tVar i) := by
  intro pins s σ H Q I h
  obtain ⟨v, e, h⟩ := h
  obtain ⟨m, hn, hl⟩ := I.loc
  obtain ⟨u, r, l⟩ := hl i x v hN e hv
  have fin : EP X pins σ Q u s := ⟨v, H, I, r, h⟩
  rcases l with ⟨hk, hm⟩ | ⟨hk, c, hc, hcell⟩
  · exact wpAny_Name (wpAny_loadName_local I.ok.kind hk hn hm fin) hd
  · rcases hk with hk | hk
    · exact wpAny_Name (wpAny_loadName_cell I.ok.kind hk hc hcell fin) hd
    · exact wpAny_Name (wpAny_loadName_free I.ok.kind hk hc hcell fin hcd) hd
theorem pe_int {i j pos} : PE X (.Constant (.int i) j pos) (tC (.int i)) := fun _ _ _ H _ I h => wpAny_Constant_int ⟨.int i, H, I.tok _, ⟨_, rfl⟩, h⟩
theorem pe_bl {b j pos} : PE X (.Constant (.bool b) j pos) (tC (.bl b)) := fun _ _ _ H _ I h => Constant_bool ⟨.bl b, H, I, rfl, h⟩
theorem pe_non {j pos} : PE X (.Constant .none j pos) (tC .non) := fun _ _ _ H _ I h => Constant_none ⟨.non, H, I, rfl, h⟩
theorem pe_str {x j pos} : PE X (.Constant (.str x) j pos) (tC (.str x)) := fun _ _ _ H _ I h => Calls.Constant_str ⟨.str x, H, I.tok _, ⟨_, rfl⟩, h⟩


def Gl (X : Cx) (x : Str) : Prop := X.env.kindOf x = some .globalImplicit
theorem ld_glob {E : Value → Shared → Prop} {pins : List (Addr × Obj)} {s : Shared} {σ : St} {H : Hp} {x : Str} {u : Value} {pos : Pos} {Q : Value → Shared → Prop} (I : Inv X pins σ H s) (hg : Gl X x) (hm : X.mg x = some u) (h : Q u s)
    (hd : (x == ("__debug__" : Str)) = false := by decide) : wpAny (model X.prog X.w) X.A (eval (.Name x pos) X.env) Q E s :=
  Calls.Name_function_global I.ok.kind hg (Calls.loadGlobal_global (by rw [I.ok.glob]; exact I.mod.glob.keeps I.bk) hm h) hd
theorem ld_blt {E : Value → Shared → Prop} {pins : List (Addr × Obj)} {s : Shared} {σ : St} {H : Hp} {x : Str} {u : Value} {pos : Pos} {Q : Value → Shared → Prop} (I : Inv X pins σ H s) (hg : Gl X x) (hm : X.mg x = none) (hv : bootBuiltins x = some u) (h : Q u s)
    (hn : x ≠ "__name__" := by decide) (hd : (x == ("__debug__" : Str)) = false := by decide) : wpAny (model X.prog X.w) X.A (eval (.Name x pos) X.env) Q E s := by
  obtain ⟨mb, h1, h2⟩ := I.mod.blt
  exact Calls.Name_function_global I.ok.kind hg (Calls.loadGlobal_builtin (by rw [I.ok.glob]; exact I.mod.glob.keeps I.bk) hm (by rw [I.ok.blt]; exact h1.keeps I.bk) ((h2 x hn).trans hv) h) hd

theorem pe_glob {x : Str} {v : V} {u : Value} {pos : Pos} (hg : Gl X x) (hm : X.mg x = some u) (r : RelV v u) (hd : (x == ("__debug__" : Str)) = false := by decide) : PE X (.Name x pos) (tC v) :=
  fun _ _ _ H _ I h => ld_glob I hg hm ⟨v, H, I, r, h⟩ hd
theorem pe_bltn {x : Str} {v : V} {u : Value} {pos : Pos} (hg : Gl X x) (hm : X.mg x = none) (hv : bootBuiltins x = some u) (r : RelV v u) (hn : x ≠ "__name__" := by decide) (hd : (x == ("__debug__" : Str)) = false := by decide) : PE X (.Name x pos) (tC v) :=
  fun _ _ _ H _ I h => ld_blt I hg hm hv ⟨v, H, I, r, h⟩ hn hd



def t2I (ta tb : TE) (k : Int → Int → Hp → Prop) : St → Hp → Prop := fun σ H => ta σ H fun x H1 => tb σ H1 fun y H2 => ∃ i j, x = .int i ∧ y = .int j ∧ k i j H2
def tAdd (ta tb : TE) : TE := fun σ H Q => t2I ta tb (fun i j H2 => Q (.int (i + j)) H2) σ H
def tSub (ta tb : TE) : TE := fun σ H Q => t2I ta tb (fun i j H2 => Q (.int (i - j)) H2) σ H

def tMul (ta tb : TE) : TE := fun σ H Q => t2I ta tb (fun i j H2 => (-(2 ^ 64) < i ∧ i < 2 ^ 64) ∧ Q (.int (i * j)) H2) σ H
variable {a b : Expr} {ta tb : TE} {pos : Pos}
def PC (X : Cx) (op : CmpOp) (a b : Expr) (t : TE) : Prop :=
  ∀ (pins : List (Addr × Obj)) (s : Shared) (σ : St) (H : Hp) (Q : VK), Inv X pins σ H s → t σ H Q →
    wpAny (model X.prog X.w) X.A (eval a X.env) (fun v s₁ => wpAny (model X.prog X.w) X.A (eval b X.env) (fun u s₂ => wpAny (model X.prog X.w) X.A (compareOp op v u) (EP X pins σ Q) X.xe s₂) X.xe s₁) X.xe s
def tCmp (p : Int → Int → Bool) (ta tb : TE) : TE := fun σ H Q => t2I ta tb (fun i j H2 => Q (.bl (p i j)) H2) σ H
abbrev tLt : TE → TE → TE := tCmp fun i j => decide (i < j)
abbrev tLe : TE → TE → TE := tCmp fun i j => decide (i ≤ j)
abbrev tGt : TE → TE → TE := tCmp fun i j => decide (j < i)
abbrev tGe : TE → TE → TE := tCmp fun i j => decide (j ≤ i)
abbrev tEqI : TE → TE → TE := tCmp fun i j => decide (i = j)
abbrev tNeI : TE → TE → TE := tCmp fun i j => !decide (i = j)

def tIsN (ta : TE) : TE := fun σ H Q => ta σ H fun x H1 => Q (.bl (decide (x = .non))) H1
def tNotN (ta : TE) : TE := fun σ H Q => ta σ H fun x H1 => Q (.bl (!decide (x = .non))) H1
def tB (t : TE) : TT := fun σ H Q => t σ H fun x H1 => ∃ c, x = .bl c ∧ Q c H1
theorem pt_cmp {op : CmpOp} {t : TE} (h : PC X op a b t) (h1 : behindInMarks op b = false := by first | exact nobehind _ (by decide) (by decide) | rfl) : PT X (.Compare a [op] [b] pos) (tB t) := by
  intro pins s σ H Q I hw
  refine wpAny_isTrue_Compare1 (thn (h pins s σ H _ I hw) fun v s1 h1 => thn h1 fun u s2 h2 => thn h2 fun c s3 ⟨x, H1, I1, r1, q1⟩ => ?_) h1
  obtain ⟨d, rfl, q⟩ := q1
  cases r1
  exact wpAny_truthy_bool ⟨H1, I1, q⟩

theorem pt_val {e : Expr} {t : TE} (h : PE X e t) (he : ∀ whole, isTrue e X.env whole = (do let v ← whole; standAt e.pos; holding [v] (truthy v)) := by intro _; rfl) : PT X e (tB t) := by
  intro pins s σ H Q I hw
  refine isTrue_plain (thn (h pins s σ H _ I hw) fun v s1 ⟨x, H1, I1, r1, q1⟩ => ?_) (he _)
  obtain ⟨d, rfl, q⟩ := q1
  cases r1
  exact wpAny_truthy_bool ⟨H1, I1, q⟩


variable {tA tB' : TT} {rest : List Expr}
def tAnd (t u : TT) : TT := fun σ H Q => t σ H fun c H1 => if c = true then u σ H1 Q else Q false H1
def tOr (t u : TT) : TT := fun σ H Q => t σ H fun c H1 => if c = true then Q true H1 else u σ H1 Q
def tNot (t : TT) : TT := fun σ H Q => t σ H fun c H1 => Q (!c) H1
theorem pw_and1 (ha : PT X a tA) : PW X (.BoolOp .And [a] pos) tA := by
  intro wh pins s σ H Q I h
  refine isTrue_and (thn (ha pins s σ H Q I h) fun c s1 e => ?_)
  cases c with
  | true => exact isTrue_and_nil e
  | false => exact e
theorem pw_or1 (ha : PT X a tA) : PW X (.BoolOp .Or [a] pos) tA := by
  intro wh pins s σ H Q I h
  refine isTrue_or (thn (ha pins s σ H Q I h) fun c s1 e => ?_)
  cases c with
  | false => exact isTrue_or_nil e
  | true => exact e
theorem pw_and (ha : PT X a tA) (hb : PW X (.BoolOp .And (b :: rest) pos) tB') : PW X (.BoolOp .And (a :: b :: rest) pos) (tAnd tA tB') := by
  intro wh pins s σ H Q I h
  refine isTrue_and (thn (ha pins s σ H _ I h) fun c s1 ⟨H1, I1, q1⟩ => ?_)
  cases c with
  | true => exact hb wh pins s1 σ H1 Q I1 q1
  | false => exact ⟨H1, I1, q1⟩
theorem pw_or (ha : PT X a tA) (hb : PW X (.BoolOp .Or (b :: rest) pos) tB') : PW X (.BoolOp .Or (a :: b :: rest) pos) (tOr tA tB') := by
  intro wh pins s σ H Q I h
  refine isTrue_or (thn (ha pins s σ H _ I h) fun c s1 ⟨H1, I1, q1⟩ => ?_)
  cases c with
  | true => exact ⟨H1, I1, q1⟩
  | false => exact hb wh pins s1 σ H1 Q I1 q1
theorem pt_not (ha : PT X a tA) : PT X (.UnaryOp .Not a pos) (tNot tA) := by
  intro pins s σ H Q I h
  exact isTrue_not (ha pins s σ H (fun c H1 => Q (!c) H1) I h)

def tAndV (ta tb : TE) : TE := fun σ H Q => ta σ H fun x H1 => ∃ c, x = .bl c ∧ if c = true then tb σ H1 Q else Q (.bl false) H1
def tOrV (ta tb : TE) : TE := fun σ H Q => ta σ H fun x H1 => ∃ c, x = .bl c ∧ if c = true then Q (.bl true) H1 else tb σ H1 Q
def tNotV (ta : TE) : TE := fun σ H Q => ta σ H fun x H1 => ∃ c, x = .bl c ∧ Q (.bl (!c)) H1
theorem pe_one {op} {t : TE} (h : PE X a t) : PE X (.BoolOp op [a] pos) t := fun pins s σ H Q I hw => BoolOp_one (h pins s σ H Q I hw)
theorem pe_and (ha : PE X a ta) (hb : PE X (.BoolOp .And (b :: rest) pos) tb) : PE X (.BoolOp .And (a :: b :: rest) pos) (tAndV ta tb) := by
  intro pins s σ H Q I h
  refine BoolOp_and (thn (ha pins s σ H _ I h) fun v s1 ⟨x, H1, I1, r1, q1⟩ => ?_)
  obtain ⟨c, rfl, q1⟩ := q1
  cases r1
  refine wpAny_truthy_bool ?_
  cases c with
  | true => exact hb pins s1 σ H1 Q I1 q1
  | false => exact ⟨.bl false, H1, I1, rfl, q1⟩
theorem pe_not (ha : PE X a ta) : PE X (.UnaryOp .Not a pos) (tNotV ta) := by
  intro pins s σ H Q I h
  refine UnaryOp_ (thn (ha pins s σ H _ I h) fun v s1 ⟨x, H1, I1, r1, q1⟩ => ?_)
  obtain ⟨c, rfl, q1⟩ := q1
  cases r1
  exact not_of (wpAny_truthy_bool ⟨.bl (!c), H1, I1, rfl, q1⟩)

def tIf (t : TT) (ta tb : TE) : TE := fun σ H Q => t σ H fun c H1 => if c = true then ta σ H1 Q else tb σ H1 Q
end
end L2

namespace L2
open PySem PySem.Spec PyProof.Rows


def SqL (K : PySem.W.Frag) (H : Hp) (a : Addr) (xs : List V) : Prop :=
  Rd H a (.lst xs) ∨
    ∃ (o : Obj) (its : Array Value) (n : Nat), K.lookup a = some o ∧ o.cls = .type "list" ∧ o.dict = none ∧ o.data = .seq its n ∧ its.size ≤ sizeLine ∧ Vals xs its.toList
def SqT (K : PySem.W.Frag) (H : Hp) (a : Addr) (xs : List V) : Prop :=
  Rd H a (.tup xs) ∨
    ∃ (o : Obj) (its : Array Value) (n : Nat), K.lookup a = some o ∧ o.cls = .type "tuple" ∧ o.data = .seq its n ∧ its.size ≤ sizeLine ∧ Vals xs its.toList
def absV : Value → Option V
  | .none => some .non
  | .bool b => some (.bl b)
  | .int i _ => some (.int i)
  | .str x _ => some (.str x)
  | .bytes b _ => some (.byt b)
  | .float b _ => some (.flt b)
  | .ref a => some (.ref a)
  | .type n => some (.ty n)
  | _ => none
theorem RelV.abs {x : V} {u : Value} (r : RelV x u) : absV u = some x := by
  cases x with
  | non => cases r; rfl
  | bl _ => cases r; rfl
  | int _ => obtain ⟨t, rfl⟩ := r; rfl
  | str _ => obtain ⟨t, rfl⟩ := r; rfl
  | byt _ => obtain ⟨t, rfl⟩ := r; rfl
  | flt _ => obtain ⟨t, rfl⟩ := r; rfl
  | ref _ => cases r; rfl
  | ty _ => cases r; rfl
theorem RelV.inj {x y : V} {u : Value} (r : RelV x u) (q : RelV y u) : x = y := Option.some.inj (r.abs.symm.trans q.abs)
theorem Vals.inj : ∀ {xs ys : List V} {us : List Value}, Vals xs us → Vals ys us → xs = ys
  | _, _, _, .nil, .nil => rfl
  | _, _, _, .cons r t, .cons r' t' => by rw [r.inj r', Vals.inj t t']
section
variable {X : Cx} {pins : List (Addr × Obj)} {σ : St} {H : Hp} {s : Shared} {a : Addr} {xs ys : List V}
theorem SqL.of {K : PySem.W.Frag} (h : H a = some (.lst xs)) : SqL K H a xs := .inl (.inl h)
theorem SqT.of {K : PySem.W.Frag} (h : H a = some (.tup xs)) : SqT K H a xs := .inl (.inl h)
theorem Inv.list (I : Inv X pins σ H s) (h : SqL X.K H a xs) : ∃ its : List Value, Vals xs its ∧ PlainL s.heap a its.toArray ∧ xs.length ≤ sizeLine := by
  rcases h with h | ⟨o, its, n, hk, hc, hd, hs, hz, r⟩
  · obtain ⟨z, its, n, r, e⟩ := h.ok I.hok
    exact ⟨its, r, ⟨_, n, e, rfl, rfl, rfl⟩, z⟩
  · refine ⟨its.toList, r, ⟨o, n, I.kIn a o hk, hc, hd, by simpa using hs⟩, ?_⟩
    have e := r.length
    simp only [Array.length_toList] at e
    omega
theorem Inv.tuple (I : Inv X pins σ H s) (h : SqT X.K H a xs) : ∃ its : List Value, Vals xs its ∧ IsTup s.heap a its.toArray ∧ xs.length ≤ sizeLine := by
  rcases h with h | ⟨o, its, n, hk, hc, hs, hz, r⟩
  · obtain ⟨z, its, r, p⟩ := h.ok I.hok
    exact ⟨its, r, p, z⟩
  · refine ⟨its.toList, r, ⟨o, I.kIn a o hk, hc, n, by simpa using hs⟩, ?_⟩
    have e := r.length
    simp only [Array.length_toList] at e
    omega
theorem Inv.list_inj (I : Inv X pins σ H s) (h : SqL X.K H a xs) (h' : SqL X.K H a ys) : xs = ys := by
  obtain ⟨its, r, ⟨o, n, e, _, _, d⟩, _⟩ := I.list h
  obtain ⟨its', r', ⟨o', n', e', _, _, d'⟩, _⟩ := I.list h'
  rw [e] at e'; cases e'
  rw [d] at d'
  injection d' with d1 _
  have : its = its' := by simpa using congrArg Array.toList d1
  subst this
  exact r.inj r'
theorem Inv.tuple_inj (I : Inv X pins σ H s) (h : SqT X.K H a xs) (h' : SqT X.K H a ys) : xs = ys := by
  obtain ⟨its, r, ⟨o, e, _, n, d⟩, _⟩ := I.tuple h
  obtain ⟨its', r', ⟨o', e', _, n', d'⟩, _⟩ := I.tuple h'
  rw [e] at e'; cases e'
  rw [d] at d'
  injection d' with d1 _
  have : its = its' := by simpa using congrArg Array.toList d1
  subst this
  exact r.inj r'
end


abbrev Cx.wish (X : Cx) (E : Value → Shared → Prop) : Cx := { X with xe := E }

abbrev Cx.nox (X : Cx) : Cx := X.wish fun _ _ => False
theorem Cx.Ok.wish {X : Cx} (ok : X.Ok) (E : Value → Shared → Prop) : (X.wish E).Ok :=
  ⟨ok.mod, ok.kind, ok.glob, ok.blt, ok.above, ok.inj, ok.has, ok.cab, ok.hd, ok.frames, ok.stk, ok.exf, ok.bs, ok.bsz, ok.noex, ok.exfs, ok.funs, ok.frf⟩
theorem Cx.Ok.unwish {X : Cx} {E : Value → Shared → Prop} (ok : (X.wish E).Ok) : X.Ok :=
  ⟨ok.mod, ok.kind, ok.glob, ok.blt, ok.above, ok.inj, ok.has, ok.cab, ok.hd, ok.frames, ok.stk, ok.exf, ok.bs, ok.bsz, ok.noex, ok.exfs, ok.funs, ok.frf⟩
section
variable {X : Cx} {pins : List (Addr × Obj)} {σ : St} {H : Hp} {s : Shared} {E : Value → Shared → Prop}
theorem Inv.wish (I : Inv X pins σ H s) (E : Value → Shared → Prop) : Inv (X.wish E) pins σ H s := ⟨I.ok.wish E, I.os, I.bare, I.base, I.loc, I.cell, I.free, I.freeC, I.pin, I.hok, I.len⟩
theorem Inv.unwish (I : Inv (X.wish E) pins σ H s) : Inv X pins σ H s := ⟨I.ok.unwish, I.os, I.bare, I.base, I.loc, I.cell, I.free, I.freeC, I.pin, I.hok, I.len⟩
theorem SP.unwish {D : Ends} {f : Flow} {s' : Shared} (h : SP (X.wish E) pins D f s') : SP X pins D f s' := by
  cases f with
  | next => obtain ⟨σ', H', I, q⟩ := h; exact ⟨σ', H', I.unwish, q⟩
  | brk => obtain ⟨σ', H', I, q⟩ := h; exact ⟨σ', H', I.unwish, q⟩
  | cont => obtain ⟨σ', H', I, q⟩ := h; exact ⟨σ', H', I.unwish, q⟩
  | ret u => obtain ⟨v, σ', H', I, r, q⟩ := h; exact ⟨v, σ', H', I.unwish, r, q⟩
theorem PSs.nox {st : List Stmt} {t : TS} (h : PSs X.nox st t) : PSs X st t := fun pins s σ H D I hw =>
  wpAny_mono (h pins s σ H D (I.wish _) hw) (fun _ _ q => q.unwish) fun _ _ z => False.elim z
end


section
variable {X : Cx} {st : Stmt} {rest : List Stmt} {t u : TS} {e : Expr} {te : TE} {pos : Pos}
def tNext : TS := fun D σ H => D.nx σ H
def tSeq (t u : TS) : TS := fun D σ H => t { D with nx := u D } σ H
theorem pss_nil : PSs X [] tNext := fun _ _ σ H _ I h => wpAny_execs_nil ⟨σ, H, I, h⟩
theorem pss_cons (h1 : PS X st t) (h2 : PSs X rest u) : PSs X (st :: rest) (tSeq t u) := by
  intro pins s σ H D I h
  refine wpAny_execs_cons (thn (h1 pins s σ H { D with nx := u D } I h) fun f s1 q => ?_)
  cases f with
  | next =>
    obtain ⟨σ', H', I', q⟩ := q
    exact h2 pins s1 σ' H' D I' q
  | ret v => exact q
  | brk => exact q
  | cont => exact q
theorem pss_one (h1 : PS X st t) : PSs X [st] t := by
  intro pins s σ H D I h
  refine wpAny_execs_cons (thn (h1 pins s σ H D I h) fun f s1 q => ?_)
  cases f with
  | next => exact wpAny_execs_nil q
  | ret v => exact q
  | brk => exact q
  | cont => exact q
def tBreak : TS := fun D σ H => D.bk σ H
def tCont : TS := fun D σ H => D.ct σ H
theorem Inv.quiet {pins : List (Addr × Obj)} {σ : St} {H : Hp} {s : Shared} (I : Inv X pins σ H s) : interactive X.env = false := by simp [interactive, I.ok.kind]

def tDrop (te : TE) : TS := fun D σ H => te σ H fun _ H1 => D.nx σ H1
theorem ps_expr (he : PE X e te) (hs : swapsWith e none pos.line X.env = pure false := by rfl) : PS X (.Expr e pos) (tDrop te) := by
  intro pins s σ H D I h
  exact wpAny_Expr_any (thn (he pins s σ H _ I h) fun v s1 ⟨x, H1, I1, r1, q1⟩ => ⟨σ, H1, I1, q1⟩) I.quiet hs
def tRet (te : TE) : TS := fun D σ H => te σ H D.rt
theorem ps_ret (he : PE X e te) : PS X (.Return (some e) pos) (tRet te) := by
  intro pins s σ H D I h
  exact wpAny_Return_some (thn (he pins s σ H _ I h) fun v s1 ⟨x, H1, I1, r1, q1⟩ => ⟨x, σ, H1, I1, r1, q1⟩)
def tRetN : TS := fun D _ H => D.rt .non H
def tIfS (c : TT) (t u : TS) : TS := fun D σ H => c σ H fun b H1 => if b = true then t D σ H1 else u D σ H1
theorem ps_if {c : Expr} {a b : List Stmt} {tc : TT} (hc : PT X c tc) (ha : PSs X a t) (hb : PSs X b u) : PS X (.If c a b pos) (tIfS tc t u) := by
  intro pins s σ H D I h
  refine wpAny_If (thn (hc pins s σ H _ I h) fun d s1 ⟨H1, I1, q1⟩ => ?_)
  cases d with
  | true => exact ha pins s1 σ H1 D I1 q1
  | false => exact hb pins s1 σ H1 D I1 q1

def tNever : TS := fun _ _ _ => False
end


abbrev TG := V → St → Hp → (St → Hp → Prop) → Prop
abbrev TGs := List V → St → Hp → (St → Hp → Prop) → Prop
def PG (X : Cx) (target : Expr) (t : TG) : Prop :=
  ∀ (pins : List (Addr × Obj)) (s : Shared) (σ : St) (H : Hp) (v : V) (u : Value) (Q : St → Hp → Prop), Inv X pins σ H s → RelV v u → t v σ H Q →
    wpAny (model X.prog X.w) X.A (assign target X.env u) (fun _ s' => ∃ σ' H', Inv X pins σ' H' s' ∧ Q σ' H') X.xe s

def PGs (X : Cx) (ts : List Expr) (t : TGs) : Prop :=
  ∀ (pins : List (Addr × Obj)) (s : Shared) (σ : St) (H : Hp) (vs : List V) (us : List Value) (Q : St → Hp → Prop), Inv X pins σ H s → Vals vs us → t vs σ H Q →
    wpAny (model X.prog X.w) X.A (assignInOrder ((assignEach ts X.env).map (·.2)) us) (fun _ s' => ∃ σ' H', Inv X pins σ' H' s' ∧ Q σ' H') X.xe s

abbrev TSet := V → V → V → Hp → (Hp → Prop) → Prop
def PSet (X : Cx) (t : TSet) : Prop :=
  ∀ (pins : List (Addr × Obj)) (s : Shared) (σ : St) (H : Hp) (o i v : V) (ov iv u : Value) (Q : Hp → Prop), Inv X pins σ H s → RelV o ov → RelV i iv → RelV v u → t o i v H Q →
    wpAny (model X.prog X.w) X.A (setItem ov iv u) (fun _ s' => ∃ H', Inv X pins σ H' s' ∧ Q H') X.xe s

abbrev TIp := V → V → Hp → VK → Prop
def PIp (X : Cx) (op : Operator) (t : TIp) : Prop :=
  ∀ (pins : List (Addr × Obj)) (s : Shared) (σ : St) (H : Hp) (x y : V) (v u : Value) (Q : VK), Inv X pins σ H s → RelV x v → RelV y u → t x y H Q →
    wpAny (model X.prog X.w) X.A (inplaceOp op v u) (EP X pins σ Q) X.xe s
section
variable {X : Cx} {pos : Pos}
def gName (i : Nat) : TG := fun v σ H Q => Q (σ.set i (some v)) H
theorem pg_name {i : Nat} {x : Str} (hN : X.N.Nodup) (hi : X.N[i]? = some x) (hx : Loc X.env.scope x) (hf : X.fn x = true ∨ X.env.scope.names.lookup x = some .local := by first | exact .inl rfl | exact .inr rfl | assumption) : PG X (.Name x pos) (gName i) := by
  intro pins s σ H v u Q I r h
  exact wpAny_assign_Name (store_ok I hN hi hx r (fun s' I' => ⟨_, H, I', h⟩) hf)
def gNil : TGs := fun vs σ H Q => vs = [] ∧ Q σ H
def gCons (t : TG) (u : TGs) : TGs := fun vs σ H Q => ∃ v r, vs = v :: r ∧ t v σ H fun σ' H' => u r σ' H' Q
theorem pgs_nil : PGs X [] gNil := by
  intro pins s σ H vs us Q I r h
  obtain ⟨e, h⟩ := h
  subst e
  cases r
  exact assignInOrder_nil ⟨σ, H, I, h⟩
theorem pgs_cons {e : Expr} {es : List Expr} {t : TG} {u : TGs} (h1 : PG X e t) (h2 : PGs X es u)
    (hs : (assignEach (e :: es) X.env).map (·.2) = assign e X.env :: (assignEach es X.env).map (·.2) := by rfl) : PGs X (e :: es) (gCons t u) := by
  intro pins s σ H vs us Q I r h
  obtain ⟨v, vr, e1, h⟩ := h
  subst e1
  cases r with
  | cons r rr =>
    rw [hs]
    refine assignInOrder_cons (thn (h1 pins s σ H _ _ _ I r h) fun _ s1 ⟨σ1, H1, I1, q1⟩ => ?_)
    exact h2 pins s1 σ1 H1 _ _ Q I1 rr q1

def gTup (K : PySem.W.Frag) (n : Nat) (t : TGs) : TG := fun v σ H Q => ∃ a xs, v = .ref a ∧ SqT K H a xs ∧ xs.length = n ∧ t xs σ H Q
theorem pg_tup {es : List Expr} {k : Nat} {t : TGs} {n : Nat} (hc : X.calm = true) (h : PGs X es t)
    (hn : (assignEach es X.env).length = n := by rfl) (hst : (assignEach es X.env).findIdx? (·.1) = none := by rfl) : PG X (.Tuple es k pos) (gTup X.K n t) := by
  intro pins s σ H v u Q I r hw
  obtain ⟨a, xs, e1, hq, hl, hw⟩ := hw
  subst e1
  cases r
  obtain ⟨its, rv, ht, hz⟩ := I.tuple hq
  refine assign_Tuple_tuple (I.ok.hd hc) ht (by simp [hn, ← hl, rv.length]) hst fun h' hx => ?_
  have I1 : Inv X pins σ H { s with heap := h' } := I.kept (t' := s.toks) fun b o e => hx b o (Nat.ne_of_lt (Heap.lt_size e)) e
  exact h pins _ σ H xs _ Q I1 (by simpa using rv) hw

def gSub (to ti : TE) (t : TSet) : TG := fun v σ H Q => to σ H fun o H1 => ti σ H1 fun i H2 => t o i v H2 fun H3 => Q σ H3
theorem pg_sub {o i : Expr} {to ti : TE} {t : TSet} (ho : PE X o to) (hi : PE X i ti) (hs : PSet X t)
    (ha : ∀ v, assign (.Subscript o i pos) X.env v = (do
      let ov ← holding [v] (eval o X.env)
      let iv ← holding [v, ov] (eval i X.env)
      standAt pos
      holding [v, ov, iv] (setItem ov iv v)
      release [v, ov, iv] []) := by intro _; rfl) : PG X (.Subscript o i pos) (gSub to ti t) := by
  intro pins s σ H v u Q I r h
  rw [ha]
  refine wpAny_bind (wpAny_holding (thn (ho pins s σ H _ I h) fun ov s1 ⟨x, H1, I1, r1, q1⟩ => ?_))
  refine wpAny_bind (wpAny_holding (thn (hi pins s1 σ H1 _ I1 q1) fun iv s2 ⟨y, H2, I2, r2, q2⟩ => ?_))
  refine wpAny_bind (wpAny_standAt (wpAny_bind (wpAny_holding (thn (hs pins s2 σ H2 x y v ov iv u _ I2 r1 r2 r q2) fun _ s3 ⟨H3, I3, q3⟩ => ?_))))
  exact wpAny_release ⟨σ, H3, I3, q3⟩

def tAsg (te : TE) (g : TG) : TS := fun D σ H => te σ H fun x H1 => g x σ H1 D.nx
theorem ps_asg {tg e : Expr} {te : TE} {g : TG} (he : PE X e te) (hg : PG X tg g) (hs : swapsWithSole [tg] e pos.line X.env = pure false := by rfl) (hw : swappedStores [tg] e X.env = pure none := by rfl)
    (h1 : (assignEach [tg] X.env).map (·.2) = [assign tg X.env] := by rfl) : PS X (.Assign [tg] e pos) (tAsg te g) := by
  intro pins s σ H D I h
  refine wpAny_Assign_stores (thn (he pins s σ H _ I h) fun v s1 ⟨x, H1, I1, r1, q1⟩ => ?_) hs hw
  rw [h1]
  exact thn (hg pins s1 σ H1 x v _ I1 r1 q1) fun _ s2 q => q

theorem ps_set {i : Nat} {x : Str} {e : Expr} {te : TE} {pos' : Pos} (hN : X.N.Nodup) (hi : X.N[i]? = some x) (hx : Loc X.env.scope x) (he : PE X e te) (hs : swapsWith e (some (.Name x pos')) pos.line X.env = pure false := by rfl) (hf : X.fn x = true ∨ X.env.scope.names.lookup x = some .local := by first | exact .inl rfl | exact .inr rfl | assumption) :
    PS X (.Assign [.Name x pos'] e pos) (tAsg te (gName i)) := by
  intro pins s σ H D I h
  refine wpAny_Assign_Name (thn (he pins s σ H _ I h) fun v s1 ⟨y, H1, I1, r1, q1⟩ => ?_) hs
  exact store_ok I1 hN hi hx r1 (fun s2 I2 => ⟨_, H1, I2, q1⟩) hf

def tPar (i j : Nat) (ta : TA) : TS := fun D σ H => ta σ H fun vs H1 => ∃ v w, vs = [v, w] ∧ D.nx ((σ.set i (some v)).set j (some w)) H1
def tAug (i : Nat) (te : TE) (ti : TIp) : TS := fun D σ H => ∃ x, σ[i]? = some (some x) ∧ te σ H fun y H1 => ti x y H1 fun z H2 => D.nx (σ.set i (some z)) H2
def tAugS (to ti te : TE) (tget : V → V → Hp → VK → Prop) (tip : TIp) (tset : TSet) : TS := fun D σ H => to σ H fun o H1 => ti σ H1 fun i H2 => tget o i H2 fun x H3 => te σ H3 fun y H4 => tip x y H4 fun z H5 => tset o i z H5 fun H6 => D.nx σ H6

def PGet (X : Cx) (t : V → V → Hp → VK → Prop) : Prop :=
  ∀ (pins : List (Addr × Obj)) (s : Shared) (σ : St) (H : Hp) (o i : V) (ov iv : Value) (Q : VK), Inv X pins σ H s → RelV o ov → RelV i iv → t o i H Q →
    wpAny (model X.prog X.w) X.A (getItem ov iv) (EP X pins σ Q) X.xe s
def ipI (f : Int → Int → Int) : TIp := fun x y H Q => ∃ i j, x = .int i ∧ y = .int j ∧ Q (.int (f i j)) H
end


section
variable {X : Cx} {pos : Pos}

def tWhile (c : TT) (tb : TS) : TS := fun D σ H => ∃ W : Nat → St → Hp → Prop, (∃ m, W m σ H) ∧ ∀ m σ H, W m σ H →
  c σ H fun b H1 => if b = true then ∃ N : St → Hp → Prop, (∀ σ' H', N σ' H' → ∃ m', m' < m ∧ W m' σ' H') ∧ tb { D with nx := N, ct := N, bk := D.nx } σ H1 else D.nx σ H1
end



structure It where
  go : Nat → Hp → Prop
  yld : Nat → Hp → V → Hp → Prop
  stop : Nat → Hp → Prop

def FpOk (X : Cx) (pins : List (Addr × Obj)) (H : Hp) (b : Addr) : Prop :=
  H b = none ∧ b ≠ X.env.locals ∧ b ∉ X.fs ∧ (b ∈ X.ex ∨ X.s₀.heap.get? b = none) ∧ (∀ x c, X.env.cells.lookup x = some c → c ≠ b) ∧ ∀ p ∈ X.pn ++ pins, p.1 ≠ b
theorem Inv.fpOk {X : Cx} {pins : List (Addr × Obj)} {σ : St} {H H' : Hp} {s : Shared} {b : Addr} (I : Inv X pins σ H s) (hb : s.heap.objs.size ≤ b) (hn : H' b = none) : FpOk X pins H' b := by
  refine ⟨hn, Nat.ne_of_gt (Nat.lt_of_lt_of_le I.lt hb), I.nofs hb, .inr (Heap.get?_none_of_le (Nat.le_trans I.sz hb)), fun x c e z => ?_, fun p hp z => ?_⟩
  · obtain ⟨v, q⟩ := I.cell x c e
    exact absurd (Nat.lt_of_lt_of_le q.lt (by rw [z]; exact hb)) (Nat.lt_irrefl _)
  · exact absurd (Nat.lt_of_lt_of_le (Heap.lt_size (I.pin p hp).1) (by rw [z]; exact hb)) (Nat.lt_irrefl _)
structure Turn (P : Program) (w : World) (K : PySem.W.Frag) (tg : Expr) (J : It) (fp : List Addr) (it : Addr) (tn : Nat → Heap → Prop) : Prop where
  mem : it ∈ fp
  obj : ∀ i h, tn i h → ∀ b ∈ fp, ∃ o, h.get? b = some o ∧ ∀ v, o.data ≠ .cell v
  keep : ∀ i h h', tn i h → (∀ b ∈ fp, ∀ o, h.get? b = some o → h'.get? b = some o) → tn i h'
  item : ∀ (X : Cx), X.prog = P → X.w = w → X.K = K → X.calm = true → ∀ (i : Nat) (pins : List (Addr × Obj)) (s : Shared) (σ : St) (H : Hp) (E : Value → Shared → Prop), Inv X pins σ H s → (∀ b ∈ fp, FpOk X pins H b) → tn i s.heap → J.go i H →
    wpAny (model P w) X.A (pyNext (.ref it)) (fun r s1 => ∃ u, r = some u ∧
      wpAny (model P w) X.A (letOwnedTupleGo tg (.ref it) u) (fun _ s2 => ∃ x H', Inv X pins σ H' s2 ∧ RelV x u ∧ J.yld i H x H' ∧ tn (i + 1) s2.heap ∧ ∀ b ∈ fp, H' b = none) E s1) E s
  done : ∀ (X : Cx), X.prog = P → X.w = w → X.K = K → X.calm = true → ∀ (i : Nat) (pins : List (Addr × Obj)) (s : Shared) (σ : St) (H : Hp) (E : Value → Shared → Prop), Inv X pins σ H s → (∀ b ∈ fp, FpOk X pins H b) → tn i s.heap → J.stop i H →
    wpAny (model P w) X.A (pyNext (.ref it)) (fun r s1 => r = none ∧ Inv X pins σ H s1) E s
  self : ∀ (A : Around) (i : Nat) (s : Shared) (Q : Value → Shared → Prop) (E : Value → Shared → Prop), tn i s.heap → Q (.ref it) s → wpAny (model P w) A (pyIter (.ref it)) Q E s
abbrev TI := St → Hp → (It → Hp → Prop) → Prop

def PIE (X : Cx) (pins : List (Addr × Obj)) (σ : St) (tg : Expr) (R : It → Hp → Prop) (itv : Value) (s2 : Shared) : Prop :=
  ∃ (it : Addr) (fp : List Addr) (tn : Nat → Heap → Prop) (J : It) (H' : Hp), itv = .ref it ∧ Inv X pins σ H' s2 ∧ Turn X.prog X.w X.K tg J fp it tn ∧ tn 0 s2.heap ∧ (∀ b ∈ fp, FpOk X pins H' b) ∧ R J H'
def PI (X : Cx) (tg iter : Expr) (wi : TI) : Prop :=
  ∀ (pins : List (Addr × Obj)) (s : Shared) (σ : St) (H : Hp) (R : It → Hp → Prop), Inv X pins σ H s → wi σ H R →
    wpAny (model X.prog X.w) X.A (eval iter X.env) (fun v s1 => wpAny (model X.prog X.w) X.A (pyIter v) (PIE X pins σ tg R) X.xe s1) X.xe s


theorem go_of {M : Model} {A : Around} {E : Value → Shared → Prop} {s : Shared} {tg : Expr} {it : Addr} {u : Value} {o : Obj} {n : String} {vs : Array Value} {Q : Unit → Shared → Prop} (ho : s.heap.get? it = some o) (hc : o.cls = .type n) (hd : o.data = .fields vs)
    (hn : ["enumerate", "zip", "dict_itemiterator", "dict_reverseitemiterator", "odict_iterator", "itertools.zip_longest", "itertools.pairwise"].contains n = false) (hQ : Q () s) : wpAny M A (letOwnedTupleGo tg (.ref it) u) Q E s := by
  unfold letOwnedTupleGo
  cases tg <;> first
    | exact wpAny_pure hQ
    | (cases u <;> first
        | exact wpAny_pure hQ
        | (refine wpAny_bind (wpAny_load ho ?_)
           rw [hc, hd]
           show wpAny M A (if (["enumerate", "zip", "dict_itemiterator", "dict_reverseitemiterator", "odict_iterator", "itertools.zip_longest", "itertools.pairwise"].contains n && vs[0]? == some (rawInt _)) = true then _ else _) Q E s
           rw [if_neg (by intro h; rw [hn, Bool.false_and] at h; cases h)]
           exact wpAny_pure hQ))


def Itl (K : PySem.W.Frag) (a : Addr) : It :=
  ⟨fun i H => ∃ xs x, SqL K H a xs ∧ xs[i]? = some x, fun i H x H' => H' = H ∧ ∀ xs, SqL K H a xs → xs[i]? = some x, fun i H => ∃ xs, SqL K H a xs ∧ xs.length ≤ i⟩
def Itt (K : PySem.W.Frag) (a : Addr) : It :=
  ⟨fun i H => ∃ xs x, SqT K H a xs ∧ xs[i]? = some x, fun i H x H' => H' = H ∧ ∀ xs, SqT K H a xs → xs[i]? = some x, fun i H => ∃ xs, SqT K H a xs ∧ xs.length ≤ i⟩

def Itr (lo : Int) (n : Nat) : It := ⟨fun i _ => i < n, fun i H x H' => H' = H ∧ x = .int (lo + i), fun i _ => n ≤ i⟩
theorem turn_list {P : Program} {w : World} {K : PySem.W.Frag} {tg : Expr} (a it : Addr) : Turn P w K tg (Itl K a) [it] it (fun i h => h.IsListIter it a i) where
  mem := by simp
  obj := fun i h st b hb => by
    have e : b = it := by simpa using hb
    subst e
    obtain ⟨o, e, c, d⟩ := st
    exact ⟨o, e, fun v z => by rw [d] at z; cases z⟩
  keep := fun i h h' st k => st.at fun o e => k it (by simp) o e
  item := by
    intro X hP hw hK hc i pins s σ H E I hf st hg
    subst hP hw hK
    obtain ⟨xs, x, hq, hx⟩ := hg
    obtain ⟨its, rv, p, hz⟩ := I.list hq
    obtain ⟨u, hu, ru⟩ := rv.get hx
    obtain ⟨f0, f1, f2, f3, f4, f5⟩ := hf it (by simp)
    refine wpAny_pyNext_list_item st p.isList (x := u) (by simpa using hu) fun h' st' sb => ?_
    have I1 : Inv X pins σ H { s with heap := h' } := I.turned (t' := s.toks) (fun b o hb e => (sb.2 b hb).trans e) f0 f1 f3 f4 f5
    obtain ⟨o, e, c, d⟩ := id st'
    exact ⟨u, rfl, go_of (s := { s with heap := h' }) e c d (by decide) ⟨x, H, I1, ru, ⟨rfl, fun ys hy => by rw [I.list_inj hy hq]; exact hx⟩, st', fun b hb => (hf b hb).1⟩⟩
  done := by
    intro X hP hw hK hc i pins s σ H E I hf st hg
    subst hP hw hK
    obtain ⟨xs, hq, hx⟩ := hg
    obtain ⟨its, rv, p, hz⟩ := I.list hq
    obtain ⟨f0, f1, f2, f3, f4, f5⟩ := hf it (by simp)
    have hl := rv.length
    exact wpAny_pyNext_list_end (I.ok.hd hc) st p.isList (by simp; omega) fun h' eb => ⟨rfl, I.turned (t' := s.toks) (fun b o hb e => eb b o hb e) f0 f1 f3 f4 f5⟩
  self := fun _ _ _ _ _ st h => wpAny_pyIter_listiter st h
theorem turn_range {P : Program} {w : World} {K : PySem.W.Frag} {tg : Expr} (it : Addr) (lo : Int) (n : Nat) : Turn P w K tg (Itr lo n) [it] it (fun i h => IsRangeIter h it (lo + (i : Nat) * 1) ((n : Int) - (i : Nat)) 1) where
  mem := by simp
  obj := fun i h st b hb => by
    have e : b = it := by simpa using hb
    subst e
    exact ⟨_, st, fun v z => by
      have z' : Data.fields _ = Data.cell v := z
      cases z'⟩
  keep := fun i h h' st k => k it (by simp) _ st
  item := by
    intro X hP hw hK hc i pins s σ H E I hf st hg
    subst hP hw hK
    obtain ⟨f0, f1, f2, f3, f4, f5⟩ := hf it (by simp)
    have W := Walks.range (prog := X.prog) (w := X.w) (I.ok.hd hc) it lo 1 n
    refine W.item i s _ _ hg st fun v h' tk hv st' kk => ?_
    obtain ⟨t, rfl⟩ := hv
    have I1 : Inv X pins σ H { s with heap := h', toks := tk } := I.turned (fun b o hb e => kk b o (by simpa using hb) e) f0 f1 f3 f4 f5
    refine ⟨_, rfl, go_of (s := { s with heap := h', toks := tk }) (n := "range_iterator") st' rfl rfl (by decide) ⟨.int (lo + i), H, I1, ⟨t, ?_⟩, ⟨rfl, rfl⟩, st', fun b hb => (hf b hb).1⟩⟩
    rw [Int.mul_one]
  done := by
    intro X hP hw hK hc i pins s σ H E I hf st hg
    subst hP hw hK
    obtain ⟨f0, f1, f2, f3, f4, f5⟩ := hf it (by simp)
    exact wpAny_pyNext_range_end (I.ok.hd hc) st (by have : n ≤ i := hg; omega) fun h' eb => ⟨rfl, I.turned (t' := s.toks) (fun b o hb e => eb b o hb e) f0 f1 f3 f4 f5⟩
  self := fun _ _ _ _ _ st h => wpAny_pyIter_rangeiter st h
end L2

namespace L2
open PySem PySem.Spec PyProof.Rows
section
variable {X : Cx} {tg : Expr}
def iList (K : PySem.W.Frag) (tl : TE) : TI := fun σ H R => tl σ H fun x H1 => ∃ a, x = .ref a ∧ (∃ xs, SqL K H1 a xs) ∧ R (Itl K a) H1
def iTup (K : PySem.W.Frag) (tl : TE) : TI := fun σ H R => tl σ H fun x H1 => ∃ a, x = .ref a ∧ (∃ xs, SqT K H1 a xs) ∧ R (Itt K a) H1
theorem pi_list {l : Expr} {tl : TE} (hl : PE X l tl) : PI X tg l (iList X.K tl) := by
  intro pins s σ H R I h
  refine thn (hl pins s σ H _ I h) fun v s1 ⟨x, H1, I1, r1, q1⟩ => ?_
  obtain ⟨a, e, ⟨xs, hq⟩, q⟩ := q1
  subst e
  cases r1
  obtain ⟨its, rv, p, hz⟩ := I1.list hq
  refine wpAny_pyIter_list p.isList ?_
  refine ⟨s1.heap.objs.size, [s1.heap.objs.size], _, _, H1, rfl, I1.kept (t' := s1.toks) fun b o e => Heap.get?_push_of_some _ e, turn_list a _, ⟨_, Heap.get?_push_size _ rfl, rfl, rfl⟩, fun b hb => ?_, q⟩
  have e : b = s1.heap.objs.size := by simpa using hb
  subst e
  exact I1.fpOk (Nat.le_refl _) (I1.hok.fresh (Nat.le_refl _))
theorem range_it {pins : List (Addr × Obj)} {σ : St} {H : Hp} {s : Shared} {R : It → Hp → Prop} {E : Value → Shared → Prop} {lo hi : Int} {t u v : Tok} {tk : Nat} (I : Inv X pins σ H s) (h1 : -(2 ^ 62) ≤ lo) (h2 : lo < 2 ^ 62) (h3 : -(2 ^ 62) ≤ hi) (h4 : hi < 2 ^ 62)
    (q : R (Itr lo (hi - lo).toNat) H) : wpAny (model X.prog X.w) X.A (pyIter (.ref s.heap.objs.size)) (PIE X pins σ tg R) E { s with heap := s.heap.push { cls := .type "range", data := .fields #[.int lo t, .int hi u, .int 1 v] }, toks := tk } := by
  refine wpAny_pyIter_range (IsRange.new ..) (small_one h1 h2 h3 h4) ?_
  have I1 : Inv X pins σ H { s with heap := s.heap.push { cls := .type "range", data := .fields #[.int lo t, .int hi u, .int 1 v] }, toks := tk } := I.kept fun b o e => Heap.get?_push_of_some _ e
  refine ⟨(s.heap.push { cls := .type "range", data := .fields #[.int lo t, .int hi u, .int 1 v] }).objs.size, [(s.heap.push { cls := .type "range", data := .fields #[.int lo t, .int hi u, .int 1 v] }).objs.size], _, _, H, rfl,
    I1.kept (t' := tk) fun b o e => Heap.get?_push_of_some _ e, turn_range _ lo (hi - lo).toNat, ?_, fun b hb => ?_, q⟩
  · have e1 : lo + ((0 : Nat) : Int) * 1 = lo := by simp
    have e2 : (((hi - lo).toNat : Nat) : Int) - ((0 : Nat) : Int) = Builtin.Range.rangeSize lo hi 1 := by rw [rangeSize_one]; split <;> omega
    show IsRangeIter _ _ (lo + ((0 : Nat) : Int) * 1) ((((hi - lo).toNat : Nat) : Int) - ((0 : Nat) : Int)) 1
    rw [e1, e2]
    exact Heap.get?_push_size _ rfl
  · have e : b = (s.heap.push { cls := .type "range", data := .fields #[.int lo t, .int hi u, .int 1 v] }).objs.size := by simpa using hb
    subst e
    exact I1.fpOk (Nat.le_refl _) (I1.hok.fresh (Nat.le_refl _))
def iRng1 (ta : TA) : TI := fun σ H R => ta σ H fun vs H1 => ∃ j : Int, vs = [.int j] ∧ -(2 ^ 62) ≤ j ∧ j < 2 ^ 62 ∧ R (Itr 0 j.toNat) H1
def iRng2 (ta : TA) : TI := fun σ H R => ta σ H fun vs H1 => ∃ i j : Int, vs = [.int i, .int j] ∧ (-(2 ^ 62) ≤ i ∧ i < 2 ^ 62 ∧ -(2 ^ 62) ≤ j ∧ j < 2 ^ 62) ∧ R (Itr i (j - i).toNat) H1
theorem pi_range1 {a : Expr} {ta : TA} {p pos : Pos} (hg : Gl X "range") (hm : X.mg "range" = none) (ha : PA X [a] ta) (hs : starEach [a] X.env = [(false, eval a X.env)] := by rfl) : PI X tg (.Call (.Name "range" p) [a] [] pos) (iRng1 ta) := by
  intro pins s σ H R I h
  refine Call_ (ld_blt I hg hm boot_range (PyProof.Rows.callWith_type1 (thn (ha pos pins s σ H _ I h) fun us s1 ⟨vs, H1, I1, r1, q1⟩ => ?_) hs rfl))
  obtain ⟨j, e, q1, q2, q⟩ := q1
  subst e
  cases r1 with
  | cons r rr =>
    cases rr
    obtain ⟨t, rfl⟩ := r
    exact call_range_1 (range_it I1 (by omega) (by omega) q1 q2 (by simpa using q))
def tFor (wi : TI) (g : TG) (tb : TS) : TS := fun D σ H => wi σ H fun J H1 => ∃ W : Nat → Nat → St → Hp → Prop, (∃ m, W 0 m σ H1) ∧ ∀ i m σ H, W i m σ H →
  (J.stop i H ∧ D.nx σ H) ∨ (J.go i H ∧ ∃ N : St → Hp → Prop, (∀ σ' H', N σ' H' → ∃ m', m' < m ∧ W (i + 1) m' σ' H') ∧ ∀ x H', J.yld i H x H' → g x σ H' fun σ2 H2 => tb { D with nx := N, ct := N, bk := D.nx } σ2 H2)

def pinsAt (fp : List Addr) (h : Heap) : List (Addr × Obj) := fp.filterMap fun b => (h.get? b).map fun o => (b, o)
theorem mem_pinsAt {fp : List Addr} {h : Heap} {b : Addr} {o : Obj} (hb : b ∈ fp) (e : h.get? b = some o) : (b, o) ∈ pinsAt fp h := List.mem_filterMap.mpr ⟨b, hb, by rw [e]; rfl⟩
theorem of_pinsAt {fp : List Addr} {h : Heap} {p : Addr × Obj} (hp : p ∈ pinsAt fp h) : p.1 ∈ fp ∧ h.get? p.1 = some p.2 := by
  obtain ⟨b, hb, e⟩ := List.mem_filterMap.mp hp
  cases q : h.get? b with
  | none => rw [q] at e; cases e
  | some o =>
    rw [q] at e
    have e' : (b, o) = p := Option.some.inj e
    subst e'
    exact ⟨hb, q⟩
theorem Inv.pinned {pins : List (Addr × Obj)} {σ : St} {H : Hp} {s : Shared} {fp : List Addr} (I : Inv X pins σ H s) (hf : ∀ b ∈ fp, FpOk X pins H b) (ho : ∀ b ∈ fp, ∃ o, s.heap.get? b = some o ∧ ∀ v, o.data ≠ .cell v) : Inv X (pins ++ pinsAt fp s.heap) σ H s :=
  I.pins_of fun p hp => (List.mem_append.mp hp).elim (fun z => I.pin p (List.mem_append_right _ z)) fun z => by
    obtain ⟨hb, e⟩ := of_pinsAt z
    obtain ⟨f0, f1, f2, _⟩ := hf p.1 hb
    obtain ⟨o, e', d⟩ := ho p.1 hb
    rw [e] at e'; cases e'
    exact ⟨e, f0, f1, f2, d⟩
theorem Inv.unpinned {pins pl : List (Addr × Obj)} {σ : St} {H : Hp} {s : Shared} (I : Inv X (pins ++ pl) σ H s) : Inv X pins σ H s := I.pins_of fun p hp => I.pin p (List.mem_append_right _ (List.mem_append_left _ hp))
theorem ps_for {iter : Expr} {body : List Stmt} {wi : TI} {g : TG} {tb : TS} {pos : Pos} (hp : PassesOwn (model X.prog X.w) X.A X.env X.xe) (hc : X.calm = true) (hi : PI X tg iter wi) (hg : PG X tg g) (hb : PSs X body tb)
    (hs : ∀ x, foldedSetIterable iter X.env x = pure x := by intro _; rfl) : PS X (.For tg iter body [] pos) (tFor wi g tb) := by
  intro pins s σ H D I h
  refine wpAny_For (thn (hi pins s σ H _ I h) fun v s1 h1 => thn h1 fun itv s2 h2 => ?_) hs
  obtain ⟨it, fp, tn, J, H2, e, I2, T, st2, f2, W, ⟨m0, w0⟩, turn⟩ := h2
  subst e
  -- what stays true of the iterator's objects through the loop
  have stat : ∀ {H' : Hp}, (∀ b ∈ fp, H' b = none) → ∀ b ∈ fp, FpOk X pins H' b := fun hn b hb => ⟨hn b hb, (f2 b hb).2⟩
  refine codeAny_forLoop_any (fun n s' => ∃ i σ' H', Inv X pins σ' H' s' ∧ tn i s'.heap ∧ (∀ b ∈ fp, H' b = none) ∧ W i n σ' H') ?_ m0 ⟨0, σ, H2, I2, st2, fun b hb => (f2 b hb).1, w0⟩
  rintro n s3 ⟨i, σ3, H3, I3, st3, fr3, w3⟩
  rcases turn i n σ3 H3 w3 with ⟨stop, qn⟩ | ⟨go, N, hN, step⟩
  · refine wpAny_passesOwn hp (thn (T.done X rfl rfl rfl hc i pins s3 σ3 H3 X.xe I3 (stat fr3) st3 stop) fun r s4 ⟨hr, I4⟩ => ?_)
    subst hr
    exact wpAny_execs_nil ⟨σ3, H3, I4, qn⟩
  · refine wpAny_passesOwn hp (thn (T.item X rfl rfl rfl hc i pins s3 σ3 H3 X.xe I3 (stat fr3) st3 go) fun r s4 ⟨u, hr, h4⟩ => ?_)
    subst hr
    refine wpAny_passesOwn hp (thn h4 fun _ s5 ⟨x, H5, I5, r5, y5, st5, fr5⟩ => ?_)
    have I5' := I5.pinned (stat fr5) (T.obj _ _ st5)
    refine wpAny_passesOwn hp (thn (hg _ s5 σ3 H5 x u _ I5' r5 (step x H5 y5)) fun _ s6 ⟨σ6, H6, I6, q6⟩ => ?_)
    refine wpAny_passesOwn hp (thn (hb _ s6 σ6 H6 _ I6 q6) fun f s7 q7 => ?_)
    have again : ∀ {σ7 : St} {H7 : Hp}, Inv X (pins ++ pinsAt fp s5.heap) σ7 H7 s7 → N σ7 H7 → ∃ m, m < n ∧ ∃ i σ' H', Inv X pins σ' H' s7 ∧ tn i s7.heap ∧ (∀ b ∈ fp, H' b = none) ∧ W i m σ' H' := fun {σ7 H7} I7 n7 => by
      obtain ⟨m', hm, w7⟩ := hN σ7 H7 n7
      refine ⟨m', hm, i + 1, σ7, H7, I7.unpinned, T.keep _ _ _ st5 fun b hb o e => (I7.pin (b, o) (List.mem_append_right _ (List.mem_append_right _ (mem_pinsAt hb e)))).1, fun b hb => ?_, w7⟩
      obtain ⟨o, e, d⟩ := T.obj _ _ st5 b hb
      exact (I7.pin (b, o) (List.mem_append_right _ (List.mem_append_right _ (mem_pinsAt hb e)))).2.1
    cases f with
    | next => obtain ⟨σ7, H7, I7, n7⟩ := q7; exact again I7 n7
    | cont => obtain ⟨σ7, H7, I7, n7⟩ := q7; exact again I7 n7
    | brk => obtain ⟨σ7, H7, I7, q7⟩ := q7; exact ⟨σ7, H7, I7.unpinned, q7⟩
    | ret v => obtain ⟨x7, σ7, H7, I7, r7, q7⟩ := q7; exact ⟨x7, σ7, H7, I7.unpinned, r7, q7⟩
end



theorem for_list {K : PySem.W.Frag} {a : Addr} {xs : List V} {g : TG} {tb : TS} {D : Ends} {σ : St} {H : Hp} (Pv : Nat → St → Hp → Prop) (h0 : Pv 0 σ H) (hl : ∀ i σ H, i ≤ xs.length → Pv i σ H → SqL K H a xs)
    (hs : ∀ i x σ H, xs[i]? = some x → Pv i σ H → g x σ H fun σ2 H2 => tb { D with nx := Pv (i + 1), ct := Pv (i + 1), bk := D.nx } σ2 H2) (hd : ∀ σ H, Pv xs.length σ H → D.nx σ H) :
    ∃ W : Nat → Nat → St → Hp → Prop, (∃ m, W 0 m σ H) ∧ ∀ i m σ H, W i m σ H →
      ((Itl K a).stop i H ∧ D.nx σ H) ∨ ((Itl K a).go i H ∧ ∃ N : St → Hp → Prop, (∀ σ' H', N σ' H' → ∃ m', m' < m ∧ W (i + 1) m' σ' H') ∧ ∀ x H', (Itl K a).yld i H x H' → g x σ H' fun σ2 H2 => tb { D with nx := N, ct := N, bk := D.nx } σ2 H2) := by
  refine ⟨fun i m σ H => m = xs.length - i ∧ i ≤ xs.length ∧ Pv i σ H, ⟨xs.length, by simp, Nat.zero_le _, h0⟩, ?_⟩
  rintro i m σ H ⟨rfl, hi, p⟩
  have q := hl i σ H hi p
  by_cases hlt : i < xs.length
  · refine .inr ⟨⟨xs, xs[i], q, by simp [hlt]⟩, Pv (i + 1), fun σ' H' p' => ⟨xs.length - (i + 1), by omega, rfl, hlt, p'⟩, fun x H' y => ?_⟩
    obtain ⟨e, y⟩ := y
    subst e
    exact hs i x σ _ (y xs q) p
  · have e : i = xs.length := by omega
    subst e
    exact .inl ⟨⟨xs, q, Nat.le_refl _⟩, hd σ H p⟩
theorem for_range {lo : Int} {n : Nat} {g : TG} {tb : TS} {D : Ends} {σ : St} {H : Hp} (Pv : Nat → St → Hp → Prop) (h0 : Pv 0 σ H)
    (hs : ∀ i σ H, i < n → Pv i σ H → g (.int (lo + i)) σ H fun σ2 H2 => tb { D with nx := Pv (i + 1), ct := Pv (i + 1), bk := D.nx } σ2 H2) (hd : ∀ σ H, Pv n σ H → D.nx σ H) :
    ∃ W : Nat → Nat → St → Hp → Prop, (∃ m, W 0 m σ H) ∧ ∀ i m σ H, W i m σ H →
      ((Itr lo n).stop i H ∧ D.nx σ H) ∨ ((Itr lo n).go i H ∧ ∃ N : St → Hp → Prop, (∀ σ' H', N σ' H' → ∃ m', m' < m ∧ W (i + 1) m' σ' H') ∧ ∀ x H', (Itr lo n).yld i H x H' → g x σ H' fun σ2 H2 => tb { D with nx := N, ct := N, bk := D.nx } σ2 H2) := by
  refine ⟨fun i m σ H => m = n - i ∧ i ≤ n ∧ Pv i σ H, ⟨n, by simp, Nat.zero_le _, h0⟩, ?_⟩
  rintro i m σ H ⟨rfl, hi, p⟩
  by_cases hlt : i < n
  · refine .inr ⟨hlt, Pv (i + 1), fun σ' H' p' => ⟨n - (i + 1), by omega, rfl, hlt, p'⟩, fun x H' y => ?_⟩
    obtain ⟨e, y⟩ := y
    subst e y
    exact hs i σ _ hlt p
  · have e : i = n := by omega
    subst e
    exact .inl ⟨Nat.le_refl _, hd σ H p⟩

end L2

namespace L2
open PySem PySem.Spec PyProof.Rows

abbrev R2 := V → V → Hp → VK → Prop

def OpR (X : Cx) (f : Value → Value → Sem Value) (r : R2) : Prop :=
  ∀ (pins : List (Addr × Obj)) (s : Shared) (σ : St) (H : Hp) (x y : V) (v u : Value) (Q : VK), Inv X pins σ H s → RelV x v → RelV y u → r x y H Q →
    wpAny (model X.prog X.w) X.A (f v u) (EP X pins σ Q) X.xe s

def UnR (X : Cx) (f : Value → Sem Value) (r : V → Hp → VK → Prop) : Prop :=
  ∀ (pins : List (Addr × Obj)) (s : Shared) (σ : St) (H : Hp) (x : V) (v : Value) (Q : VK), Inv X pins σ H s → RelV x v → r x H Q →
    wpAny (model X.prog X.w) X.A (f v) (EP X pins σ Q) X.xe s

def CallR (X : Cx) (f : Value) (r : List V → Hp → VK → Prop) : Prop :=
  ∀ (pins : List (Addr × Obj)) (s : Shared) (σ : St) (H : Hp) (xs : List V) (us : List Value) (Q : VK), Inv X pins σ H s → Vals xs us → r xs H Q →
    wpAny (model X.prog X.w) X.A (call f us) (EP X pins σ Q) X.xe s

def TruR (X : Cx) (r : V → Hp → (Bool → Hp → Prop) → Prop) : Prop :=
  ∀ (pins : List (Addr × Obj)) (s : Shared) (σ : St) (H : Hp) (x : V) (v : Value) (Q : Bool → Hp → Prop), Inv X pins σ H s → RelV x v → r x H Q →
    wpAny (model X.prog X.w) X.A (truthy v) (TP X pins σ Q) X.xe s

def tOp (r : R2) (ta tb : TE) : TE := fun σ H Q => ta σ H fun x H1 => tb σ H1 fun y H2 => r x y H2 Q
def tUn (r : V → Hp → VK → Prop) (ta : TE) : TE := fun σ H Q => ta σ H fun x H1 => r x H1 Q

def rI (C : Int → Int → Prop) (g : Int → Int → V) : R2 := fun x y H Q => ∃ i j, x = .int i ∧ y = .int j ∧ C i j ∧ Q (g i j) H
def rI0 (g : Int → Int → V) : R2 := fun x y H Q => ∃ i j, x = .int i ∧ y = .int j ∧ Q (g i j) H
def rU (g : Int → V) : V → Hp → VK → Prop := fun x H Q => ∃ i, x = .int i ∧ Q (g i) H

section
variable {X : Cx} {a b c : Expr} {ta tb tc : TE} {pos : Pos}

theorem binT (ha : PE X a ta) (hb : PE X b tb) {pins : List (Addr × Obj)} {s : Shared} {σ : St} {H : Hp} {R : V → V → Hp → Prop} (I : Inv X pins σ H s)
    (h : ta σ H fun x H1 => tb σ H1 fun y H2 => R x y H2) {Q : Value → Shared → Prop} {f : Value → Value → Sem Value}
    (hf : ∀ v u s2 x y H2, Inv X pins σ H2 s2 → RelV x v → RelV y u → R x y H2 → wpAny (model X.prog X.w) X.A (f v u) Q X.xe s2) :
    wpAny (model X.prog X.w) X.A (eval a X.env) (fun v s₁ => wpAny (model X.prog X.w) X.A (eval b X.env) (fun u s₂ => wpAny (model X.prog X.w) X.A (f v u) Q X.xe s₂) X.xe s₁) X.xe s := by
  refine thn (ha pins s σ H _ I h) fun v s1 ⟨x, H1, I1, r1, q1⟩ => ?_
  refine thn (hb pins s1 σ H1 _ I1 q1) fun u s2 ⟨y, H2, I2, r2, q2⟩ => ?_
  exact hf v u s2 x y H2 I2 r1 r2 q2

theorem pe_op {op : Operator} {r : R2} (ho : OpR X (binaryOp op) r) (ha : PE X a ta) (hb : PE X b tb) : PE X (.BinOp a op b pos) (tOp r ta tb) := by
  intro pins s σ H Q I h
  exact wpAny_BinOp (binT ha hb I h fun v u s2 x y H2 I2 rx ry q => ho pins s2 σ H2 x y v u Q I2 rx ry q)
theorem pe_un {op : UnaryOp} {r : V → Hp → VK → Prop} (ho : UnR X (unaryOp op) r) (ha : PE X a ta) : PE X (.UnaryOp op a pos) (tUn r ta) := by
  intro pins s σ H Q I h
  exact UnaryOp_ (thn (ha pins s σ H _ I h) fun v s1 ⟨x, H1, I1, r1, q1⟩ => ho pins s1 σ H1 x v Q I1 r1 q1)

theorem opI {f : Value → Value → Sem Value} {C : Int → Int → Prop} {g : Int → Int → Int}
    (rule : ∀ (i j : Int) (t u : Tok) (s : Shared) (Q : Value → Shared → Prop) (E : Value → Shared → Prop), C i j → Q (.int (g i j) s.toks) { s with toks := s.toks + 1 } → wpAny (model X.prog X.w) X.A (f (.int i t) (.int j u)) Q E s) :
    OpR X f (rI C fun i j => .int (g i j)) := by
  intro pins s σ H x y v u Q I rx ry h
  obtain ⟨i, j, rfl, rfl, hc, q⟩ := h
  obtain ⟨t, rfl⟩ := rx
  obtain ⟨t', rfl⟩ := ry
  exact rule i j t t' s _ _ hc ⟨.int (g i j), H, I.tok _, ⟨_, rfl⟩, q⟩
theorem opI0 {f : Value → Value → Sem Value} {g : Int → Int → Int}
    (rule : ∀ (i j : Int) (t u : Tok) (s : Shared) (Q : Value → Shared → Prop) (E : Value → Shared → Prop), Q (.int (g i j) s.toks) { s with toks := s.toks + 1 } → wpAny (model X.prog X.w) X.A (f (.int i t) (.int j u)) Q E s) :
    OpR X f (rI0 fun i j => .int (g i j)) := by
  intro pins s σ H x y v u Q I rx ry h
  obtain ⟨i, j, rfl, rfl, q⟩ := h
  obtain ⟨t, rfl⟩ := rx
  obtain ⟨t', rfl⟩ := ry
  exact rule i j t t' s _ _ ⟨.int (g i j), H, I.tok _, ⟨_, rfl⟩, q⟩
theorem opB0 {f : Value → Value → Sem Value} {g : Int → Int → Bool}
    (rule : ∀ (i j : Int) (t u : Tok) (s : Shared) (Q : Value → Shared → Prop) (E : Value → Shared → Prop), Q (.bool (g i j)) s → wpAny (model X.prog X.w) X.A (f (.int i t) (.int j u)) Q E s) :
    OpR X f (rI0 fun i j => .bl (g i j)) := by
  intro pins s σ H x y v u Q I rx ry h
  obtain ⟨i, j, rfl, rfl, q⟩ := h
  obtain ⟨t, rfl⟩ := rx
  obtain ⟨t', rfl⟩ := ry
  exact rule i j t t' s _ _ ⟨.bl (g i j), H, I, rfl, q⟩

def CDiv (i j : Int) : Prop := 0 < j ∧ j < 1073741824
def CDivN (i j : Int) : Prop := j ≠ 0 ∧ j.natAbs < 1073741824
def CPow (i j : Int) : Prop := 0 ≤ j ∧ j ≤ 1000000 ∧ i.natAbs < 2 ^ 64
def CMul (i j : Int) : Prop := (-(2 ^ 64) < i ∧ i < 2 ^ 64) ∨ (-(2 ^ 64) < j ∧ j < 2 ^ 64)
theorem CMul.ok {i j : Int} (h : CMul i j) : IntMulOk i j := by
  rcases h with ⟨h1, h2⟩ | ⟨h1, h2⟩
  · exact .of_left (intBits_le_64 h1 h2)
  · exact .of_right (intBits_le_64 h1 h2)
theorem op_add : OpR X (binaryOp .Add) (rI0 fun i j => .int (i + j)) := opI0 fun _ _ _ _ _ _ _ q => add_int q
theorem op_sub : OpR X (binaryOp .Sub) (rI0 fun i j => .int (i - j)) := opI0 fun _ _ _ _ _ _ _ q => sub_int q
theorem op_mul : OpR X (binaryOp .Mult) (rI CMul fun i j => .int (i * j)) := opI fun _ _ _ _ _ _ _ hc q => mul_int q hc.ok

theorem op_fdiv : OpR X (binaryOp .FloorDiv) (rI CDiv fun i j => .int (i / j)) := opI fun i j _ _ _ _ _ hc q => by
  have h1 : (0 : Int) < j := hc.1
  have h2 : j < 1073741824 := hc.2
  exact floordiv_int (by omega) (by rw [Int.fdiv_eq_ediv_of_nonneg i (by omega)]; exact q) (.inl (PyProof.noPylong_small (by omega)))
theorem op_mod : OpR X (binaryOp .Mod) (rI (fun _ j => 0 < j) fun i j => .int (i % j)) := opI fun i j _ _ _ _ _ hc q => by
  have h1 : (0 : Int) < j := hc
  exact mod_int' (by omega) (by rw [Int.fmod_eq_emod_of_nonneg i (by omega)]; exact q)
theorem op_pow : OpR X (binaryOp .Pow) (rI CPow fun i j => .int (i ^ j.toNat)) := opI fun _ _ _ _ _ _ _ hc q => pow_int_small hc.1 hc.2.1 hc.2.2 q
theorem unI {f : Value → Sem Value} {g : Int → Int}
    (rule : ∀ (i : Int) (t : Tok) (s : Shared) (Q : Value → Shared → Prop) (E : Value → Shared → Prop), Q (.int (g i) s.toks) { s with toks := s.toks + 1 } → wpAny (model X.prog X.w) X.A (f (.int i t)) Q E s) :
    UnR X f (rU fun i => .int (g i)) := by
  intro pins s σ H x v Q I rx h
  obtain ⟨i, rfl, q⟩ := h
  obtain ⟨t, rfl⟩ := rx
  exact rule i t s _ _ ⟨.int (g i), H, I.tok _, ⟨_, rfl⟩, q⟩
theorem un_neg : UnR X (unaryOp .USub) (rU fun i => .int (-i)) := unI fun _ _ _ _ _ q => neg_int q
end



def scal : V → V → Bool
  | .non, .non => true | .non, .int _ => true | .int _, .non => true | .non, .bl _ => true | .bl _, .non => true | .non, .str _ => true | .str _, .non => true
  | .int _, .int _ => true | .bl _, .bl _ => true | .str _, .str _ => true | .byt _, .byt _ => true
  | .int _, .str _ => true | .str _, .int _ => true | .bl _, .str _ => true | .str _, .bl _ => true
  | _, _ => false
def rEq : R2 := fun x y H Q => scal x y = true ∧ Q (.bl (decide (x = y))) H
def rNe : R2 := fun x y H Q => scal x y = true ∧ Q (.bl (!decide (x = y))) H

theorem dec_int {i j : Int} : decide (V.int i = V.int j) = (i == j) := by
  rw [Bool.eq_iff_iff]
  simp
theorem dec_bl {i j : Bool} : decide (V.bl i = V.bl j) = (i == j) := by
  rw [Bool.eq_iff_iff]
  simp
theorem dec_str {i j : Str} : decide (V.str i = V.str j) = (i == j) := by
  rw [Bool.eq_iff_iff]
  simp
theorem dec_byt {i j : Array UInt8} : decide (V.byt i = V.byt j) = (i.toList == j.toList) := by
  rw [Bool.eq_iff_iff]
  cases i
  cases j
  simp

section
variable {X : Cx} {a b c : Expr} {ta tb tc : TE} {pos : Pos}
theorem fin_bl {pins : List (Addr × Obj)} {σ : St} {H : Hp} {s : Shared} {Q : VK} {k k' : Bool} (I : Inv X pins σ H s) (q : Q (.bl k) H) (e : k = k') : EP X pins σ Q (.bool k') s := by
  subst e
  exact ⟨.bl k, H, I, rfl, q⟩
theorem op_eq : OpR X (compareOp .Eq) rEq := by
  intro pins s σ H x y v u Q I rx ry h
  obtain ⟨hs, q⟩ := h
  cases x with
  | non =>
    cases rx
    cases y with
    | non => cases ry; exact PySem.EqNone.eq_none_none (fin_bl I q (by simp))
    | bl j => cases ry; exact PySem.EqNone.eq_none_bool (fin_bl I q (by simp))
    | int j => obtain ⟨t', rfl⟩ := ry; exact PySem.EqNone.eq_none_int (fin_bl I q (by simp))
    | str j => obtain ⟨t', rfl⟩ := ry; exact PySem.EqNone.eq_none_str (fin_bl I q (by simp))
    | _ => exact absurd (show false = true from hs) Bool.false_ne_true
  | bl i =>
    cases rx
    cases y with
    | non => cases ry; exact PySem.EqNone.eq_bool_none (fin_bl I q (by simp))
    | bl j => cases ry; exact eq_bool (fin_bl I q dec_bl)
    | str j => obtain ⟨t', rfl⟩ := ry; exact PySem.EqMixed.eq_bool_str (fin_bl I q (by simp))
    | _ => exact absurd (show false = true from hs) Bool.false_ne_true
  | int i =>
    obtain ⟨t, rfl⟩ := rx
    cases y with
    | non => cases ry; exact PySem.EqNone.eq_int_none (fin_bl I q (by simp))
    | int j => obtain ⟨t', rfl⟩ := ry; exact eq_int (fin_bl I q dec_int)
    | str j => obtain ⟨t', rfl⟩ := ry; exact PySem.EqMixed.eq_int_str (fin_bl I q (by simp))
    | _ => exact absurd (show false = true from hs) Bool.false_ne_true
  | str i =>
    obtain ⟨t, rfl⟩ := rx
    cases y with
    | non => cases ry; exact PySem.EqNone.eq_str_none (fin_bl I q (by simp))
    | bl j => cases ry; exact PySem.EqMixed.eq_str_bool (fin_bl I q (by simp))
    | int j => obtain ⟨t', rfl⟩ := ry; exact PySem.EqMixed.eq_str_int (fin_bl I q (by simp))
    | str j => obtain ⟨t', rfl⟩ := ry; exact eq_str (fin_bl I q dec_str)
    | _ => exact absurd (show false = true from hs) Bool.false_ne_true
  | byt i =>
    obtain ⟨t, rfl⟩ := rx
    cases y with
    | byt j => obtain ⟨t', rfl⟩ := ry; exact PySem.W.eq_bytes (fin_bl I q dec_byt)
    | _ => exact absurd (show false = true from hs) Bool.false_ne_true
  | _ => cases y <;> exact absurd (show false = true from hs) Bool.false_ne_true
theorem op_ne : OpR X (compareOp .NotEq) rNe := by
  intro pins s σ H x y v u Q I rx ry h
  obtain ⟨hs, q⟩ := h
  cases x with
  | non =>
    cases rx
    cases y with
    | non => cases ry; exact PySem.EqNone.ne_none_none (fin_bl I q (by simp))
    | bl j => cases ry; exact PySem.EqNone.ne_none_bool (fin_bl I q (by simp))
    | int j => obtain ⟨t', rfl⟩ := ry; exact PySem.EqNone.ne_none_int (fin_bl I q (by simp))
    | str j => obtain ⟨t', rfl⟩ := ry; exact PySem.EqNone.ne_none_str (fin_bl I q (by simp))
    | _ => exact absurd (show false = true from hs) Bool.false_ne_true
  | bl i =>
    cases rx
    cases y with
    | non => cases ry; exact PySem.EqNone.ne_bool_none (fin_bl I q (by simp))
    | bl j => cases ry; exact ne_bool (fin_bl I q (congrArg not dec_bl))
    | str j => obtain ⟨t', rfl⟩ := ry; exact PySem.EqMixed.ne_bool_str (fin_bl I q (by simp))
    | _ => exact absurd (show false = true from hs) Bool.false_ne_true
  | int i =>
    obtain ⟨t, rfl⟩ := rx
    cases y with
    | non => cases ry; exact PySem.EqNone.ne_int_none (fin_bl I q (by simp))
    | int j => obtain ⟨t', rfl⟩ := ry; exact ne_int (fin_bl I q (congrArg not dec_int))
    | str j => obtain ⟨t', rfl⟩ := ry; exact PySem.EqMixed.ne_int_str (fin_bl I q (by simp))
    | _ => exact absurd (show false = true from hs) Bool.false_ne_true
  | str i =>
    obtain ⟨t, rfl⟩ := rx
    cases y with
    | non => cases ry; exact PySem.EqNone.ne_str_none (fin_bl I q (by simp))
    | bl j => cases ry; exact PySem.EqMixed.ne_str_bool (fin_bl I q (by simp))
    | int j => obtain ⟨t', rfl⟩ := ry; exact PySem.EqMixed.ne_str_int (fin_bl I q (by simp))
    | str j => obtain ⟨t', rfl⟩ := ry; exact ne_str (fin_bl I q (congrArg not dec_str))
    | _ => exact absurd (show false = true from hs) Bool.false_ne_true
  | byt i =>
    obtain ⟨t, rfl⟩ := rx
    cases y with
    | byt j => obtain ⟨t', rfl⟩ := ry; exact PySem.W.ne_bytes (fin_bl I q (congrArg not dec_byt))
    | _ => exact absurd (show false = true from hs) Bool.false_ne_true
  | _ => cases y <;> exact absurd (show false = true from hs) Bool.false_ne_true

theorem op_lt : OpR X (compareOp .Lt) (rI0 fun i j => .bl (decide (i < j))) := opB0 fun _ _ _ _ _ _ _ q => lt_int q
theorem op_le : OpR X (compareOp .LtE) (rI0 fun i j => .bl (decide (i ≤ j))) := opB0 fun _ _ _ _ _ _ _ q => le_int q
theorem op_gt : OpR X (compareOp .Gt) (rI0 fun i j => .bl (decide (j < i))) := opB0 fun _ _ _ _ _ _ _ q => gt_int q
def isObj : HO → Bool
  | .lst _ => true
  | .ins _ _ _ => true
  | _ => false
theorem nomark (b : Expr) {op : CmpOp} (h : op ≠ .In := by decide) (h2 : op ≠ .NotIn := by decide) : behindInMarks op b = false := by
  have e1 : (op == CmpOp.In) = false := by cases op <;> first | rfl | exact absurd rfl h
  have e2 : (op == CmpOp.NotIn) = false := by cases op <;> first | rfl | exact absurd rfl h2
  cases b <;> simp [behindInMarks, e1, e2]

theorem pe_cmpR {op : CmpOp} {r : R2} (ho : OpR X (compareOp op) r) (ha : PE X a ta) (hb : PE X b tb) (hm : behindInMarks op b = false) : PE X (.Compare a [op] [b] pos) (tOp r ta tb) := by
  intro pins s σ H Q I h
  exact wpAny_Compare1 (binT ha hb I h fun v u s2 x y H2 I2 rx ry q => ho pins s2 σ H2 x y v u Q I2 rx ry q) hm

def tTest (t : TE) : TT := fun σ H Q => t σ H fun x H' => ∃ k, x = .bl k ∧ Q k H'
theorem pt_cmpR {op : CmpOp} {r : R2} (ho : OpR X (compareOp op) r) (ha : PE X a ta) (hb : PE X b tb) (hm : behindInMarks op b = false) : PT X (.Compare a [op] [b] pos) (tTest (tOp r ta tb)) := by
  intro pins s σ H Q I h
  refine wpAny_isTrue_Compare1 (thn (ha pins s σ H _ I h) fun v s1 ⟨x, H1, I1, r1, q1⟩ => thn (hb pins s1 σ H1 _ I1 q1) fun u s2 ⟨y, H2, I2, r2, q2⟩ =>
    thn (ho pins s2 σ H2 x y v u _ I2 r1 r2 q2) fun c s3 ⟨z, H3, I3, r3, k, e, q3⟩ => ?_) hm
  subst e
  cases r3
  exact wpAny_truthy_bool ⟨H3, I3, q3⟩

def tChain (r r' : R2) (ta tb tc : TE) : TE := fun σ H Q => ta σ H fun x H1 => tb σ H1 fun y H2 => r x y H2 fun z H3 => ∃ k, z = .bl k ∧
  (if k = true then tc σ H3 fun w' H4 => r' y w' H4 Q else Q (.bl false) H3)
def TruV (K : PySem.W.Frag) (x : V) (H : Hp) (k : Bool) : Prop :=
  match x with
  | .non => k = false
  | .bl b => k = b
  | .int i => k = (i != 0)
  | .str y => y.length ≤ sizeLine ∧ k = ((y.length : Int) != 0)
  | .byt y => y.size ≤ sizeLine ∧ k = ((y.size : Int) != 0)
  | .ref p => (∃ xs, SqL K H p xs ∧ k = !xs.isEmpty) ∨ (∃ xs, SqT K H p xs ∧ k = !xs.isEmpty) ∨ ∃ kvs, H p = some (.dK kvs) ∧ k = !kvs.isEmpty
  | _ => False
theorem line63 : (sizeLine : Nat) < 2 ^ 63 := by rw [sizeLine_eq]; decide
def PlainIxT (b : Expr) : Prop := ∀ o i, subscripted b false o i = operate [o, i] (getItem o i)

theorem vals1 {x : V} {us : List Value} (r : Vals [x] us) : ∃ u, us = [u] ∧ RelV x u := by
  cases r with
  | cons r1 r2 => cases r2; exact ⟨_, rfl, r1⟩
theorem vals2 {x y : V} {us : List Value} (r : Vals [x, y] us) : ∃ u w', us = [u, w'] ∧ RelV x u ∧ RelV y w' := by
  cases r with
  | cons r1 r2 =>
    cases r2 with
    | cons r3 r4 => cases r4; exact ⟨_, _, rfl, r1, r3⟩
theorem call_int1 : CallR X (.type "int") (fun xs H Q => (∃ i, xs = [.int i] ∧ Q (.int i) H) ∨ ∃ k, xs = [.bl k] ∧ Q (.int (if k then 1 else 0)) H) := by
  intro pins s σ H xs us Q I r h
  rcases h with ⟨i, rfl, q⟩ | ⟨k, rfl, q⟩
  · obtain ⟨u, rfl, t, rfl⟩ := vals1 r
    exact call_int_int ⟨.int i, H, I, ⟨_, rfl⟩, q⟩
  · obtain ⟨u, rfl, r1⟩ := vals1 r
    cases r1
    exact call_int_bool ⟨.int (if k then 1 else 0), H, I.tok _, ⟨_, rfl⟩, q⟩
def LenV (K : PySem.W.Frag) (x : V) (H : Hp) (n : Nat) : Prop :=
  match x with
  | .str y => y.length ≤ sizeLine ∧ n = y.length
  | .byt y => y.size ≤ sizeLine ∧ n = y.size
  | .ref p => (∃ xs, SqL K H p xs ∧ n = xs.length) ∨ ∃ xs, SqT K H p xs ∧ n = xs.length
  | _ => False
end
end L2

namespace L2
open PySem PySem.Spec PyProof.Rows


structure ObjM (h : Heap) (x dx C : Addr) (mA : Str → Option Value) : Prop where
  obj : h.get? x = some (PySem.W.instObj C dx)
  ns : h.Ns1 dx mA
  ne : dx ≠ x

theorem lookIn_ns {h : Heap} {dx : Addr} {mA : Str → Option Value} (n : h.Ns1 dx mA) : ∃ od, h.get? dx = some od ∧ ∀ name, PySem.W.lookIn name od = some (mA name) := by
  obtain ⟨o, es, ep, ho, hd, hk, _, hm⟩ := n
  refine ⟨o, ho, fun name => ?_⟩
  have e := hm name
  unfold nsFind findBy at e
  rw [← Array.find?_toList] at e
  unfold PySem.W.lookIn
  rw [hd]
  dsimp only
  split
  · rename_i y q
    rw [q] at e
    exact congrArg some e
  · rename_i q
    rw [q] at e
    have a : es.toList.any (·.refKey) = false := by
      rw [List.any_eq_false]
      intro y hy
      obtain ⟨z, t, hkey⟩ := hk y (Array.mem_toList_iff.mp hy)
      simp [DictEntry.refKey, hkey]
    have a' : ¬ es.toList.any (·.refKey) = true := by rw [a]; exact Bool.false_ne_true
    rw [if_neg a']
    exact congrArg some e

theorem ObjM.look {h : Heap} {x dx C : Addr} {mA : Str → Option Value} (I : ObjM h x dx C mA) : ∃ od, PySem.W.InstAt h x (PySem.W.instObj C dx) C (some od) ∧ ∀ name, PySem.W.lookIn name od = some (mA name) :=
  let ⟨od, ho, hl⟩ := lookIn_ns I.ns
  ⟨od, ⟨I.obj, rfl, rfl, ho⟩, hl⟩

section
variable {prog : Program} {w : World} {A : Around} {E : Value → Shared → Prop} {s : Shared} {K : PySem.W.Frag} {x dx C f : Addr} {mA : Str → Option Value} {name : Str} {v : Value}

end


def putF (f : Str) (v : V) : List (Str × V) → List (Str × V)
  | [] => [(f, v)]
  | (g, x) :: r => if g = f then (g, v) :: r else (g, x) :: putF f v r
section
variable {P : Program} {w : World} {H H' : Hp} {h h' : Heap} {a C dx : Addr} {fs fs' : List (Str × V)}
theorem ins_get (hok : HOk P w H h) (e : H a = some (.ins C dx fs)) : ∃ mA, ObjM h a dx C mA ∧ (∀ f, RelO (fs.lookup f) (mA f)) ∧ PySem.Within mA (fs.map (·.1)) ∧ fs.length ≤ 1000 ∧ H dx = some (.own a) := by
  obtain ⟨d, z, ne, ob, mA, n, r, q⟩ := (show ObjOk P w H h a (.ins C dx fs) from hok a _ e)
  exact ⟨mA, ⟨ob, n, ne⟩, r, q, z, d⟩
end


structure Cls (K : PySem.W.Frag) (C : Addr) : Prop where
  pg : PySem.W.plainGet K C Str.empty = true
  hd : PySem.W.hasDictIn K C = true
  po : PySem.W.plainOver K C = true
  sa : PySem.W.findIn K (.ref C) "__setattr__" = some (some (.builtin "object.__setattr__"))
theorem Cls.get {K : PySem.W.Frag} {C : Addr} (c : Cls K C) (f : Str) : PySem.W.plainGet K C f = true := c.pg

def NoAttr (K : PySem.W.Frag) (C : Addr) (f : Str) : Prop := PySem.W.findIn K (.ref C) f = some none
structure Con (K : PySem.W.Frag) (C : Addr) (f : Str) (v : V) (u : Value) : Prop where
  at_ : PySem.W.findIn K (.ref C) f = some (some u)
  rel : RelV v u
  get : PySem.W.specialIn K u "__get__" = some none
  cp : PySem.W.copiedNames.contains f = false

structure Meth (K : PySem.W.Frag) (C : Addr) (m : Str) (f : Addr) : Prop where
  at_ : PySem.W.findIn K (.ref C) m = some (some (.ref f))
  fn : PySem.W.isFn K (.ref f) = true
  kp : PySem.W.keepIn K (.ref f) = true

section
variable {X : Cx} {pins : List (Addr × Obj)} {σ : St} {H : Hp} {s : Shared} {a C dx : Addr} {fs : List (Str × V)} {f : Str} {v : V} {A : Around} {E : Value → Shared → Prop}

end



def tFld (K : PySem.W.Frag) (ta : TE) (f : Str) : TE := fun σ H Q => ta σ H fun x H1 => ∃ a C dx fs v, x = .ref a ∧ H1 a = some (.ins C dx fs) ∧ Cls K C ∧ NoAttr K C f ∧ fs.lookup f = some v ∧ Q v H1

def tCon (K : PySem.W.Frag) (ta : TE) (f : Str) : TE := fun σ H Q => ta σ H fun x H1 => ∃ a C dx fs v u, x = .ref a ∧ H1 a = some (.ins C dx fs) ∧ Cls K C ∧ Con K C f v u ∧ fs.lookup f = none ∧ Q v H1

def sFld (K : PySem.W.Frag) (ta tv : TE) (f : Str) : TS := fun D σ H => tv σ H fun y H1 => ta σ H1 fun x H2 => ∃ a C dx fs, x = .ref a ∧ H2 a = some (.ins C dx fs) ∧ Cls K C ∧ NoAttr K C f ∧ fs.length < 1000 ∧
  D.nx σ (upd H2 a (.ins C dx (putF f y fs)))

def InOp (X : Cx) (op : Operator) (rd : V → V → Hp → VK → Prop) : Prop :=
  ∀ (pins : List (Addr × Obj)) (s : Shared) (σ : St) (H : Hp) (x y : V) (u v : Value) (Q : VK), Inv X pins σ H s → RelV x u → RelV y v → rd x y H Q → wpAny (model X.prog X.w) X.A (inplaceOp op u v) (EP X pins σ Q) X.xe s

def sFldAug (K : PySem.W.Frag) (ta tv : TE) (rd : V → V → Hp → VK → Prop) (f : Str) : TS := fun D σ H => ta σ H fun x H1 => ∃ a C dx fs v, x = .ref a ∧ H1 a = some (.ins C dx fs) ∧ Cls K C ∧ NoAttr K C f ∧ fs.lookup f = some v ∧
  tv σ H1 fun y H2 => rd v y H2 fun z H3 => ∃ dx' fs', H3 a = some (.ins C dx' fs') ∧ fs'.length < 1000 ∧ D.nx σ (upd H3 a (.ins C dx' (putF f z fs')))

section
variable {X : Cx} {o e value : Expr} {f : Str} {pos pos' tpos : Pos} {ta tv : TE}
def rAdd : V → V → Hp → VK → Prop := fun x y H Q => ∃ i j, x = .int i ∧ y = .int j ∧ Q (.int (i + j)) H
def rSub : V → V → Hp → VK → Prop := fun x y H Q => ∃ i j, x = .int i ∧ y = .int j ∧ Q (.int (i - j)) H
end


section
variable {X : Cx} {pins : List (Addr × Obj)} {σ : St} {H : Hp} {s : Shared} {A : Around} {E : Value → Shared → Prop} {Q : Value → Shared → Prop} {c : Value} {b : Bool}

inductive TyOf (K : PySem.W.Frag) (H : Hp) : V → Value → Prop where
  | non : TyOf K H .non (.type "NoneType")
  | bl (x : Bool) : TyOf K H (.bl x) (.type "bool")
  | int (i : Int) : TyOf K H (.int i) (.type "int")
  | str (x : Str) : TyOf K H (.str x) (.type "str")
  | flt (x : UInt64) : TyOf K H (.flt x) (.type "float")
  | lst {a : Addr} {xs : List V} (e : H a = some (.lst xs)) : TyOf K H (.ref a) (.type "list")
  | frz {a : Addr} {o : Obj} {xs : List V} (e : H a = some (.frz o (.lst xs))) : TyOf K H (.ref a) (.type "list")
  | tup {a : Addr} {xs : List V} (e : H a = some (.tup xs)) : TyOf K H (.ref a) (.type "tuple")
  | dK {a : Addr} {kvs : List (Key × V)} (e : H a = some (.dK kvs)) : TyOf K H (.ref a) (.type "dict")
  | dT {a : Addr} {kvs : List (List Key × V)} (e : H a = some (.dT kvs)) : TyOf K H (.ref a) (.type "dict")
  | ins {a C dx : Addr} {fs : List (Str × V)} (e : H a = some (.ins C dx fs)) (cl : Cls K C) (ha : PySem.W.findIn K (.ref C) "__class__" = some (some (.builtin "object.__class__")))
      (hn : PySem.W.specialIn K (.builtin "object.__class__") "__get__" = some (some (.builtin "getset_descriptor.__get__"))) (htk : PySem.W.takesIn K (.builtin "object.__class__") = some true)
      (hm : PySem.W.mroIn K C (.type "object") = some true) : TyOf K H (.ref a) (.ref C)

theorem isinst_ok {x : V} {u t : Value} (I : Inv X pins σ H s) (rx : RelV x u) (ty : TyOf X.K H x t) (e : PySem.W.kitOne X.K t c = some b) (h : ∀ tk, Q (.bool b) { s with toks := tk }) :
    wpAny (model X.prog X.w) A (call (.builtin "isinstance") [u, c]) Q E s := by
  cases ty with
  | non => cases (show u = Value.none from rx); exact PySem.W.kia_one PySem.W.kitx_none I.kIn True.intro e (fun z => nomatch z) h
  | bl y => cases (show u = Value.bool y from rx); exact PySem.W.kia_one PySem.W.kitx_bool I.kIn True.intro e (fun z => nomatch z) h
  | int i => obtain ⟨t, q⟩ := (show ∃ t, u = Value.int i t from rx); cases q; exact PySem.W.kia_one PySem.W.kitx_int I.kIn True.intro e (fun z => nomatch z) h
  | str y => obtain ⟨t, q⟩ := (show ∃ t, u = Value.str y t from rx); cases q; exact PySem.W.kia_one PySem.W.kitx_str I.kIn True.intro e (fun z => nomatch z) h
  | flt y => obtain ⟨t, q⟩ := (show ∃ t, u = Value.float y t from rx); cases q; exact PySem.W.kia_one PySem.W.kitx_float I.kIn True.intro e (fun z => nomatch z) h
  | @lst a xs ea =>
    cases (show u = Value.ref a from rx)
    obtain ⟨_, _, n, _, h1⟩ := (show ObjOk X.prog X.w H s.heap a (.lst xs) from I.hok a _ ea)
    exact PySem.W.kia_one PySem.W.kitx_list I.kIn ⟨_, h1, rfl⟩ e (fun z => nomatch z) h
  | @frz a ob xs ea =>
    cases (show u = Value.ref a from rx)
    obtain ⟨_, _, _, n, _, h1⟩ := (show ObjOk X.prog X.w H s.heap a (.frz ob (.lst xs)) from I.hok a _ ea)
    exact PySem.W.kia_one PySem.W.kitx_list I.kIn ⟨_, h1, rfl⟩ e (fun z => nomatch z) h
  | @tup a xs ea =>
    cases (show u = Value.ref a from rx)
    obtain ⟨_, _, _, p⟩ := (show ObjOk X.prog X.w H s.heap a (.tup xs) from I.hok a _ ea)
    obtain ⟨o, h1, h2, _⟩ := p
    exact PySem.W.kia_one PySem.W.kitx_tuple I.kIn ⟨o, h1, h2⟩ e (fun z => nomatch z) h
  | @dK a kvs ea =>
    cases (show u = Value.ref a from rx)
    obtain ⟨_, _, vs, _, p⟩ := (show ObjOk X.prog X.w H s.heap a (.dK kvs) from I.hok a _ ea)
    obtain ⟨o, es, ep, h1, h2, _⟩ := p
    exact PySem.W.kia_one PySem.W.kitx_dict I.kIn ⟨o, h1, h2.1⟩ e (fun z => nomatch z) h
  | @dT a kvs ea =>
    cases (show u = Value.ref a from rx)
    obtain ⟨_, _, xs, _, o, es, ep, h1, h2, _⟩ := (show ObjOk X.prog X.w H s.heap a (.dT kvs) from I.hok a _ ea)
    exact PySem.W.kia_one PySem.W.kitx_dict I.kIn ⟨o, h1, h2.1⟩ e (fun z => nomatch z) h
  | @ins a C dx fs ea cl ha hn htk hm =>
    cases (show u = Value.ref a from rx)
    obtain ⟨mA, O, _⟩ := ins_get I.hok ea
    obtain ⟨od, J, _⟩ := O.look
    exact PySem.W.kia_one (PySem.W.kitx_own (cl.get _) cl.hd ha hn htk hm) I.kIn J e (fun z => nomatch z) h
end
end L2

namespace L2
open PySem PySem.Spec PyProof.Rows


structure Room (k : Nat) (A : Around) : Prop where
  hd : A.handled = none
  dp : A.depth + 3 * k + 5 < recursionLimit
  un : A.units + 16 * k + 200 < cLine
theorem Room.mono {j k : Nat} {A : Around} (r : Room k A) (h : j ≤ k) : Room j A := ⟨r.hd, by have := r.dp; omega, by have := r.un; omega⟩
theorem Room.deeper {k : Nat} {A : Around} (r : Room (k + 1) A) (env : Env) : Room k (A.deeper env) :=
  ⟨r.hd, by have := r.dp; show A.depth + 1 + 3 * k + 5 < _; omega, by have := r.un; show A.units + 3 + 16 * k + 200 < _; omega⟩
theorem Room.depth {k : Nat} {A : Around} (r : Room k A) : A.depth < recursionLimit := by have := r.dp; omega
theorem Room.units0 {k : Nat} {A : Around} (r : Room k A) : A.units < cLine := by have := r.un; omega


def tNil : TA := fun _ H Q => Q [] H
def tCons (ta : TE) (tr : TA) : TA := fun σ H Q => ta σ H fun x H1 => tr σ H1 fun xs H2 => Q (x :: xs) H2
section
variable {X : Cx} {e : Expr} {es : List Expr} {te : TE} {t : TA} {pos : Pos}
theorem pa_nil : PA X [] tNil := fun _ _ _ _ H Q I h => Calls.spliced_nil ⟨[], H, I, .nil, h⟩
theorem pa_cons (ha : PE X e te) (hr : PA X es t) (hs : starEach (e :: es) X.env = (false, eval e X.env) :: starEach es X.env := by exact starEach_cons rfl) : PA X (e :: es) (tCons te t) := by
  intro pos pins s σ H Q I h
  rw [hs]
  show wpAny _ _ (spliced ((false, eval e X.env) :: backTo pos (starEach es X.env))) _ _ s
  refine Calls.spliced_cons (thn (ha pins s σ H _ I h) fun u s1 ⟨x, H1, I1, r1, q1⟩ => ?_)
  exact thn (hr pos pins s1 σ H1 _ I1 q1) fun us s2 ⟨xs, H2, I2, r2, q2⟩ => ⟨x :: xs, H2, I2, .cons r1 r2, q2⟩


def tTup (t : TA) : TE := fun σ H Q => t σ H fun xs H1 => xs.length ≤ sizeLine ∧ ∀ p, H1 p = none → Q (.ref p) (upd H1 p (.tup xs))
def tLst (t : TA) : TE := fun σ H Q => t σ H fun xs H1 => xs.length ≤ sizeLine ∧ ∀ p, H1 p = none → Q (.ref p) (upd H1 p (.lst xs))
end



abbrev Sp := List V → Hp → VK → XK → Prop

abbrev CXT := List Env → Hp → Shared → XK → Value → Shared → Prop


structure Env0 (P : Program) (w : World) (K : PySem.W.Frag) (mg : Str → Option Value) (base : Heap) (A : Around) (outer : List Env) (s : Shared) (H : Hp) : Prop where
  frames : A.frames = some outer
  mod : Mod K mg base
  bs : ∀ b o, base.get? b = some o → s.heap.get? b = some o ∧ H b = none
  bsz : base.objs.size ≤ s.heap.objs.size
  funs : s.heap.FunFrames base outer
  frf : ∀ b ∈ frs outer, H b = none
  hok : HOk P w H s.heap
  bare : AllBare s.gens

def CE (outer : List Env) (P : Program) (w : World) (H : Hp) (s : Shared) (Q : VK) (u : Value) (s' : Shared) : Prop :=
  ∃ v H', s'.os = s.os ∧ AllBare s'.gens ∧ Un (frs outer) [] H H' s.heap s'.heap ∧ HOk P w H' s'.heap ∧ RelV v u ∧ Q v H'
def CR (CX : CXT) (outer : List Env) (P : Program) (w : World) (H : Hp) (s : Shared) (Q : VK) (E : XK) (r : Result) (s' : Shared) : Prop :=
  match r with
  | .ok (.ret u) => CE outer P w H s Q u s'
  | .ok _ => False
  | .error e => CX outer H s E e s'
structure FnOk (P : Program) (w : World) (K : PySem.W.Frag) (mg : Str → Option Value) (base : Heap) (CX : CXT) (k : Nat) (f : Addr) (fd : FuncData) (ps : List Str) (sp : Sp) : Prop where
  len : ∀ vs H Q E, sp vs H Q E → vs.length = ps.length
  run : ∀ (A : Around) (outer : List Env) (s : Shared) (H : Hp) (args : Args) (us : List Value) (vs : List V) (Q : VK) (E : XK), Room k A → Env0 P w K mg base A outer s H → BindsTo s fd args (ps.zip us) → Vals vs us → sp vs H Q E →
    codeAny (model P w) A (.call (.ref f) args) (CR CX outer P w H s Q E) s
section
variable {X : Cx} {pins : List (Addr × Obj)} {σ : St} {H : Hp} {s s' : Shared}

theorem Inv.env0 (I : Inv X pins σ H s) : Env0 X.prog X.w X.K X.mg X.base X.A X.stack s H :=
  ⟨I.ok.frames, I.ok.mod, I.bs, Nat.le_trans I.ok.bsz I.sz, I.stack, I.stkFree, I.hok, I.bare⟩

theorem Inv.after {Q : VK} {u : Value} (I : Inv X pins σ H s) (h : CE X.stack X.prog X.w H s Q u s') : EP X pins σ Q u s' := by
  obtain ⟨v, H', os, bare, un, hok, r, q⟩ := h
  obtain ⟨hh, g, d, t, os'⟩ := s'
  obtain rfl : os' = s.os := os
  exact ⟨v, H', I.call (h' := hh) (g' := g) (d' := d) (t' := t) (ch := []) un hok bare (fun b z => absurd z (by simp)), r, q⟩
end



def tCall (sp : Sp) (dvs : List V) (E : XK) (t : TA) : TE := fun σ H Q => t σ H fun vs H1 => sp (vs ++ dvs) H1 Q E

def tMeth (C : Addr) (m : Str) (sp : Sp) (dvs : List V) (E : XK) (ta : TE) (t : TA) : TE := fun σ H Q => ta σ H fun x H1 => ∃ a dx fs, x = .ref a ∧ H1 a = some (.ins C dx fs) ∧ fs.lookup m = none ∧
  t σ H1 fun vs H2 => sp (x :: (vs ++ dvs)) H2 Q E

def tMake (C : Addr) (sp : Sp) (dvs : List V) (E : XK) (t : TA) : TE := fun σ H Q => t σ H fun vs H1 => ∀ x dx, H1 x = none → H1 dx = none → dx ≠ x →
  sp (.ref x :: (vs ++ dvs)) (upd (upd H1 dx (.own x)) x (.ins C dx [])) (fun v H2 => v = .non ∧ Q (.ref x) H2) E


def Binds (K : PySem.W.Frag) (fd : FuncData) (ps : List Str) (ds : List Value) : Prop :=
  ∀ (s : Shared) (us : List Value), K.In s.heap → (us ++ ds).length = ps.length → BindsTo s fd ⟨us, []⟩ (ps.zip (us ++ ds))

theorem Binds.all {K : PySem.W.Frag} {fd : FuncData} {ps : List Str} (h : ∀ us : List Value, us.length = ps.length → bindArgs fd ⟨us, []⟩ = pure (ps.zip us)) : Binds K fd ps [] := fun s us _ hl => by
  rw [List.append_nil] at hl ⊢
  exact .of_eq (h us hl)


def Passes (CX : CXT) (X : Cx) (E : XK) : Prop := ∀ (pins : List (Addr × Obj)) (σ : St) (H : Hp) (s : Shared) (e : Value) (s' : Shared), Inv X pins σ H s → CX X.stack H s E e s' → X.xe e s'

section
variable {X : Cx} {CX : CXT} {k : Nat} {f C : Addr} {fd : FuncData} {ps : List Str} {sp : Sp} {dvs : List V} {ds : List Value} {E : XK} {x m : Str} {p pos apos : Pos} {e o : Expr} {es : List Expr} {ta : TE} {t : TA}


theorem run_fn {pins : List (Addr × Obj)} {σ : St} {H : Hp} {s : Shared} {Q : VK} {us : List Value} {vs : List V} (F : FnOk X.prog X.w X.K X.mg X.base CX k f fd ps sp) (hr : Room k X.A) (hb : Binds X.K fd ps ds) (hd : Vals dvs ds) (hx : Passes CX X E)
    (I : Inv X pins σ H s) (r : Vals vs us) (h : sp (vs ++ dvs) H Q E) : wpAny (model X.prog X.w) X.A (call (.ref f) us) (EP X pins σ Q) X.xe s := by
  have r2 : Vals (vs ++ dvs) (us ++ ds) := r.append hd
  have hl : (us ++ ds).length = ps.length := by rw [← r2.length]; exact F.len _ _ _ _ h
  refine wpAny_call (codeAny_mono (F.run X.A X.stack s H ⟨us, []⟩ (us ++ ds) (vs ++ dvs) Q E hr I.env0 (hb s us I.kIn hl) r2 h) fun r s' hq => ?_)
  cases r with
  | error e => exact hx pins σ H s e s' I hq
  | ok fl =>
    cases fl with
    | ret u => exact I.after hq
    | next => exact False.elim hq
    | brk => exact False.elim hq
    | cont => exact False.elim hq

theorem pe_call (F : FnOk X.prog X.w X.K X.mg X.base CX k f fd ps sp) (hr : Room k X.A) (hg : Gl X x) (hm : X.mg x = some (.ref f)) (hk : PySem.W.keepIn X.K (.ref f) = true) (hb : Binds X.K fd ps ds) (hd : Vals dvs ds) (hx : Passes CX X E)
    (ha : PA X (e :: es) t) (hdb : (x == ("__debug__" : Str)) = false := by decide) (he : starEach (e :: es) X.env = (false, eval e X.env) :: starEach es X.env := by exact starEach_cons rfl) (hpl : (backTo pos (starEach es X.env)).any (·.1) = false := by exact noStars rfl) :
    PE X (.Call (.Name x p) (e :: es) [] pos) (tCall sp dvs E t) := by
  intro pins s σ H Q I h
  refine wpAny_Call_Name_kw (ld_glob I hg hm ?_ hdb)
  refine PySem.W.callWith_K (h₀ := X.base) I.ok.mod.kin hk (thn (ha pos pins s σ H _ I h) fun us s1 ⟨vs, H1, I1, r, q⟩ => ⟨I1.kIn, ?_⟩) he hpl
  exact run_fn F hr hb hd hx I1 r q
structure Mk (K : PySem.W.Frag) (C f : Addr) : Prop where
  makes : PySem.W.makesIn K C = true
  init : PySem.W.findIn K (.ref C) "__init__" = some (some (.ref f))
  fn : PySem.W.isFn K (.ref f) = true
  kp : PySem.W.keepIn K (.ref C) = true

end



def PK (X : Cx) (kws : List Keyword) (t : TA) : Prop :=
  ∀ (pos : Pos) (pins : List (Addr × Obj)) (s : Shared) (σ : St) (H : Hp) (Q : List V → Hp → Prop), Inv X pins σ H s → t σ H Q → wpAny (model X.prog X.w) X.A (evalAll ((backToKw pos (keywordEach kws X.env)).map (·.2))) (AP X pins σ Q) X.xe s
section
variable {X : Cx} {CX : CXT} {k : Nat} {f C : Addr} {fd : FuncData} {ps ks : List Str} {sp : Sp} {E : XK} {x m : Str} {p pos apos kpos : Pos} {e o : Expr} {es : List Expr} {kws : List Keyword} {te ta : TE} {t tk : TA} {nm : Option Str}
structure KBinds (K : PySem.W.Frag) (fd : FuncData) (ps ks : List Str) (g : List Value → List Value → List Value) (gV : List V → List V → List V) : Prop where
  to : ∀ (s : Shared) (us ws : List Value), K.In s.heap → (g us ws).length = ps.length → BindsTo s fd ⟨us, ks.zip ws⟩ (ps.zip (g us ws))
  rel : ∀ {vs : List V} {us : List Value} {zs : List V} {ws : List Value}, Vals vs us → Vals zs ws → Vals (gV vs zs) (g us ws)
def tCallK (sp : Sp) (gV : List V → List V → List V) (E : XK) (t tk : TA) : TE := fun σ H Q => t σ H fun vs H1 => tk σ H1 fun zs H2 => sp (gV vs zs) H2 Q E
variable {g : List Value → List Value → List Value} {gV : List V → List V → List V}
end



structure FnScope (N P : List Str) (sc : Scope) : Prop where
  kind : sc.kind = .function
  co : sc.isCoroutine = false
  gen : sc.isGenerator = false
  nd : N.Nodup
  pre : N.take P.length = P
  par : ∀ x ∈ P, sc.names.lookup x = some .local ∨ sc.names.lookup x = some .cell
  nofree : ∀ y ∈ sc.names, y.2 ≠ .free

theorem bindL_out {kindOf : Str → Option NameKind} {x : Str} : ∀ {binds : List (Str × Value)} {m : Str → Option Value}, (∀ v, (x, v) ∉ binds) → bindL kindOf binds m x = m x
  | [], _, _ => rfl
  | (n, v) :: r, m, h => by
    unfold bindL
    rw [bindL_out fun w hw => h w (List.mem_cons_of_mem _ hw)]
    split
    · have : x ≠ n := by rintro rfl; exact h v List.mem_cons_self
      simp [this]
    · rfl
theorem bindC_out {kindOf : Str → Option NameKind} {x : Str} : ∀ {binds : List (Str × Value)} {m : Str → Option Value}, (∀ v, (x, v) ∉ binds) → bindC kindOf binds m x = m x
  | [], _, _ => rfl
  | (n, v) :: r, m, h => by
    unfold bindC
    rw [bindC_out fun w hw => h w (List.mem_cons_of_mem _ hw)]
    split
    · rfl
    · have : x ≠ n := by rintro rfl; exact h v List.mem_cons_self
      simp [this]
theorem bindL_get {kindOf : Str → Option NameKind} {x : Str} {v : Value} : ∀ {P : List Str} {vs : List Value} {i : Nat} {m : Str → Option Value}, P.Nodup → P[i]? = some x → vs[i]? = some v → kindOf x = some .local →
    bindL kindOf (P.zip vs) m x = some v
  | [], _, _, _, _, h, _, _ => by simp at h
  | _ :: _, [], _, _, _, _, h, _ => by simp at h
  | p :: P, w :: vs, 0, m, nd, h1, h2, hk => by
    simp at h1 h2; subst h1; subst h2
    show bindL kindOf ((p, w) :: P.zip vs) m p = _
    unfold bindL
    rw [bindL_out fun v hv => (List.nodup_cons.mp nd).1 (List.of_mem_zip hv).1, if_pos hk]
    simp
  | p :: P, w :: vs, i + 1, m, nd, h1, h2, hk => by
    show bindL kindOf ((p, w) :: P.zip vs) m x = _
    unfold bindL
    exact bindL_get (i := i) (List.nodup_cons.mp nd).2 (by simpa using h1) (by simpa using h2) hk
theorem bindC_get {kindOf : Str → Option NameKind} {x : Str} {v : Value} : ∀ {P : List Str} {vs : List Value} {i : Nat} {m : Str → Option Value}, P.Nodup → P[i]? = some x → vs[i]? = some v → kindOf x ≠ some .local →
    bindC kindOf (P.zip vs) m x = some v
  | [], _, _, _, _, h, _, _ => by simp at h
  | _ :: _, [], _, _, _, _, h, _ => by simp at h
  | p :: P, w :: vs, 0, m, nd, h1, h2, hk => by
    simp at h1 h2; subst h1; subst h2
    show bindC kindOf ((p, w) :: P.zip vs) m p = _
    unfold bindC
    rw [bindC_out fun v hv => (List.nodup_cons.mp nd).1 (List.of_mem_zip hv).1, if_neg hk]
    simp
  | p :: P, w :: vs, i + 1, m, nd, h1, h2, hk => by
    show bindC kindOf ((p, w) :: P.zip vs) m x = _
    unfold bindC
    exact bindC_get (i := i) (List.nodup_cons.mp nd).2 (by simpa using h1) (by simpa using h2) hk


def start (N : List Str) (vs : List V) : St := vs.map some ++ List.replicate (N.length - vs.length) none


def cxOf (CX : CXT) (P : Program) (w : World) (K : PySem.W.Frag) (mg : Str → Option Value) (base : Heap) (N : List Str) (qual : Str) (scope : Scope) (f : Addr) (cd : Value) (A : Around) (outer : List Env) (s : Shared) (H : Hp) (E : XK) : Cx where
  prog := P
  w := w
  K := K
  mg := mg
  base := base
  A := A.deeper (envOfC qual scope s.heap.objs.size f cd)
  N := N
  s₀ := s
  H₀ := H
  env := envOfC qual scope s.heap.objs.size f cd
  outer := outer
  stack := envOfC qual scope s.heap.objs.size f cd :: outer
  ex := []
  calm := true
  fn := fun _ => true
  pn := []
  xe := fun e s' => wpAny (model P w) (A.deeper (envOfC qual scope s.heap.objs.size f cd)) (leaving (envOfC qual scope s.heap.objs.size f cd) e) (fun _ s'' => CX outer H s E e s'') (fun e' s'' => CX outer H s E e' s'') s'

theorem cell_has {sc : Scope} {n : Nat} {x : Str} (h : sc.names.lookup x = some .cell) : ∃ c, (cellsFrom n sc.names []).lookup x = some c := by
  have q := PySem.W.cellsFrom_some sc.names n [] (.inl h)
  exact Option.isSome_iff_exists.mp q

theorem inv_start {CX : CXT} {P : Program} {w : World} {K : PySem.W.Frag} {mg : Str → Option Value} {base : Heap} {N ps : List Str} {qual : Str} {scope : Scope} {f : Addr} {cd : Value} {A : Around} {outer : List Env} {s s1 : Shared} {H : Hp} {E : XK} {us : List Value} {vs : List V}
    (S : FnScope N ps scope) (hd : A.handled = none) (e0 : Env0 P w K mg base A outer s H) (hl : vs.length = ps.length) (r : Vals vs us)
    (x : InCallC s s.heap.objs.size (bindL (envOfC qual scope s.heap.objs.size f cd).kindOf (ps.zip us) fun _ => none) (cellsFrom (s.heap.objs.size + 1) scope.names []) (bindC (envOfC qual scope s.heap.objs.size f cd).kindOf (ps.zip us) fun _ => none) s1) :
    Inv (cxOf CX P w K mg base N qual scope f cd A outer s H E) [] (start N vs) H s1 := by
  have hpl : ps.length ≤ N.length := by have := congrArg List.length S.pre; rw [List.length_take] at this; omega
  obtain ⟨h1, tk, rfl, hk⟩ := x.done
  have noA : ∀ b : Addr, b ∉ (cxOf CX P w K mg base N qual scope f cd A outer s H E).ex := fun b z => absurd (show b ∈ ([] : List Addr) from z) (by simp)
  refine ⟨⟨e0.mod, S.kind, rfl, rfl, Nat.le_refl _, fun y z c h1 h2 => ?_, fun y hy => ?_, fun y c _ h => ?_, fun _ => hd, Around.frames_deeper e0.frames, .inr ⟨rfl, rfl⟩, fun b z => absurd z (noA b), e0.bs, e0.bsz, fun b _ _ => noA b, fun b z => absurd z (noA b), e0.funs, e0.frf⟩,
    rfl, e0.bare, Un.kept hk, ⟨_, x.toInCall.ns, fun i y v h1 h2 h3 => ?_⟩, fun y c h => ⟨_, x.cell y c h⟩, e0.hok.fresh (Nat.le_refl _), fun y c h => ?_, fun p hp => absurd (show p ∈ ([] : List (Addr × Obj)) from hp) (by simp), e0.hok.kept hk, ?_⟩
  · exact name_of_addr x.apart (PySem.mem_of_lookup h1) (PySem.mem_of_lookup h2)
  · have hy : scope.names.lookup y = some .cell ∨ scope.names.lookup y = some .free := hy
    rcases hy with hy | hy
    · exact cell_has hy
    · exact absurd rfl (S.nofree _ (PySem.mem_of_lookup hy))
  · exact Nat.le_of_lt (x.above y c (PySem.mem_of_lookup h))
  · have hi : i < vs.length := by
      unfold start at h2
      by_cases hi : i < vs.length
      · exact hi
      · rw [List.getElem?_append_right (by simpa using hi)] at h2
        rw [List.getElem?_replicate] at h2
        split at h2 <;> cases h2
    have ha : vs[i]? = some v := by
      unfold start at h2
      rw [List.getElem?_append_left (by simpa using hi), List.getElem?_map] at h2
      cases e : vs[i]? with
      | none => rw [e] at h2; cases h2
      | some a => rw [e] at h2; cases h2; rfl
    obtain ⟨u, hu, rv⟩ := r.get ha
    have hp : ps[i]? = some y := by
      rw [← S.pre, List.getElem?_take_of_lt (by omega)]; exact h1
    have ndP : ps.Nodup := by rw [← S.pre]; exact S.nd.sublist (List.take_sublist _ _)
    refine ⟨u, rv, ?_⟩
    rcases S.par y (List.mem_of_getElem? hp) with k | k
    · exact .inl ⟨k, bindL_get ndP hp hu k⟩
    · obtain ⟨c, e⟩ := cell_has (n := s.heap.objs.size + 1) k
      refine .inr ⟨.inl k, c, e, ?_⟩
      have q := x.cell y c e
      rw [bindC_get ndP hp hu (by show scope.names.lookup y ≠ _; rw [k]; decide)] at q
      exact q
  · exact e0.hok.fresh (Nat.le_of_lt (x.above y c (PySem.mem_of_lookup h)))
  · unfold start
    show _ = N.length
    rw [List.length_append, List.length_map, List.length_replicate]
    omega


theorem fn_of {CX : CXT} {P : Program} {w : World} {K : PySem.W.Frag} {mg : Str → Option Value} {base : Heap} {k : Nat} {f : Addr} {name qual : Str} {params : Arguments} {body : List Stmt} {scope : Scope} {dV kV doc pm cdv ct oc : Value} {an od : Option Addr}
    {osl : Array (Option Value)} {N ps : List Str} {sp : Sp} (lk : K.lookup f = some ⟨oc, od, .func (PySem.W.fnOf name qual params body scope dV kV doc pm an cdv ct), osl⟩) (hcd : PySem.W.codeIn K cdv qual = true) (S : FnScope N ps scope)
    (len : ∀ vs H Q E, sp vs H Q E → vs.length = ps.length)
    (hbody : ∀ (A : Around) (outer : List Env) (s : Shared) (H : Hp) (vs : List V) (Q : VK) (E : XK), Room k (A.deeper (envOfC qual scope s.heap.objs.size f cdv)) → sp vs H Q E →
      ∃ t, PSs (cxOf CX P w K mg base N qual scope f cdv A outer s H E) body t ∧ t { nx := fun _ H' => Q .non H', rt := Q } (start N vs) H) :
    FnOk P w K mg base CX (k + 1) f (PySem.W.fnOf name qual params body scope dV kV doc pm an cdv ct) ps sp := by
  refine ⟨len, fun A outer s H args us vs Q E hr e0 hb r hsp => ?_⟩
  have hl := len _ _ _ _ hsp
  have KX : K.In s.heap := e0.mod.kin.keeps fun b o e => (e0.bs b o e).1
  have lim : s.heap.NoLimit := e0.mod.nolimit.keeps fun b o e => (e0.bs b o e).1
  have hkind : ∀ y ∈ ps.zip us, scope.names.lookup y.1 = some .local ∨ (scope.names.lookup y.1 = some .cell ∧ ((cellsFrom (s.heap.objs.size + 1) scope.names []).lookup y.1).isSome = true) := fun ⟨n, v⟩ hy => by
    rcases S.par n (List.of_mem_zip hy).1 with q | q
    · exact .inl q
    · exact .inr ⟨q, PySem.W.cellsFrom_some _ _ _ (.inl q)⟩
  refine codeAny_call_function hr.depth (KX _ _ lk) rfl S.co S.gen rfl (PySem.W.codeRec_of KX hcd) (hb _ _ _ _ ?_)
  refine wpAny_newFunctionEnv_cells S.kind hkind fun env he s1 x => ?_
  subst he
  refine ⟨lim.keeps x.toInCall.keep, codeAny_func ?_⟩
  obtain ⟨t, ht, hq⟩ := hbody A outer s H vs Q E (hr.deeper _) hsp
  have I : Inv (cxOf CX P w K mg base N qual scope f cdv A outer s H E) [] (start N vs) H s1 := inv_start S hr.hd e0 hl r x
  refine wpAny_mono (ht [] s1 (start N vs) H _ I hq) (fun fl s' hs => ?_) fun e s' hs => hs
  have fin : ∀ {σ' : St} {H' : Hp} {v : V} {u : Value}, Inv (cxOf CX P w K mg base N qual scope f cdv A outer s H E) [] σ' H' s' → RelV v u → Q v H' → CE outer P w H s Q u s' :=
    fun {σ' H' v u} J rv q => ⟨v, H', J.os, J.bare, J.base, J.hok, rv, q⟩
  cases fl with
  | ret u =>
    obtain ⟨v, σ', H', J, rv, q⟩ := hs
    exact fin J rv q
  | next =>
    obtain ⟨σ', H', J, q⟩ := hs
    exact fin (v := V.non) (u := Value.none) J rfl q
  | brk =>
    obtain ⟨_, _, _, q⟩ := hs
    exact False.elim q
  | cont =>
    obtain ⟨_, _, _, q⟩ := hs
    exact False.elim q
end L2

namespace L2
open PySem PySem.Spec PyProof.Rows
section
variable {X : Cx} {x : Str} {p pos : Pos} {e : Expr} {es : List Expr} {t : TA} {id T : String} {r : List V → Hp → VK → Prop}

def tCB (r : List V → Hp → VK → Prop) (t : TA) : TE := fun σ H Q => t σ H fun vs H1 => r vs H1 Q

theorem pe_callB (hc : CallR X (.builtin id) r) (hg : Gl X x) (hm : X.mg x = none) (hv : bootBuiltins x = some (.builtin id)) (ha : PA X (e :: es) t) (hn : x ≠ "__name__" := by decide) (hdb : (x == ("__debug__" : Str)) = false := by decide)
    (he : starEach (e :: es) X.env = (false, eval e X.env) :: starEach es X.env := by exact starEach_cons rfl) (hpl : (backTo pos (starEach es X.env)).any (·.1) = false := by exact noStars rfl) : PE X (.Call (.Name x p) (e :: es) [] pos) (tCB r t) := by
  intro pins s σ H Q I h
  refine wpAny_Call_Name_kw (ld_blt I hg hm hv ?_ hn hdb)
  exact PyProof.Rows.callWith_builtin1 (thn (ha pos pins s σ H _ I h) fun us s1 ⟨vs, H1, I1, r1, q1⟩ => hc pins s1 σ H1 vs us Q I1 r1 q1) he hpl

theorem pe_callTy (hc : CallR X (.type T) r) (hg : Gl X x) (hm : X.mg x = none) (hv : bootBuiltins x = some (.type T)) (ha : PA X (e :: es) t) (hn : x ≠ "__name__" := by decide) (hdb : (x == ("__debug__" : Str)) = false := by decide)
    (he : starEach (e :: es) X.env = (false, eval e X.env) :: starEach es X.env := by exact starEach_cons rfl) (hpl : (backTo pos (starEach es X.env)).any (·.1) = false := by exact noStars rfl) : PE X (.Call (.Name x p) (e :: es) [] pos) (tCB r t) := by
  intro pins s σ H Q I h
  refine wpAny_Call_Name_kw (ld_blt I hg hm hv ?_ hn hdb)
  exact PyProof.Rows.callWith_type1 (thn (ha pos pins s σ H _ I h) fun us s1 ⟨vs, H1, I1, r1, q1⟩ => hc pins s1 σ H1 vs us Q I1 r1 q1) he hpl

end
end L2

namespace HT
open PySem PyProof.Rows


def lexLt : List Int → List Int → Bool
  | [], [] => false
  | [], _ :: _ => true
  | _ :: _, [] => false
  | x :: xs, y :: ys => if x = y then lexLt xs ys else decide (x < y)
theorem lexLt_cons (x y : Int) (xs ys : List Int) : lexLt (x :: xs) (y :: ys) = if x = y then lexLt xs ys else decide (x < y) := rfl
theorem lexLt_nil_nil : lexLt [] [] = false := rfl
section
open PySem.SeqAt
open PySem.AutoSeq1 (wpAny_loadPart')
open PySem.MeetsSeq PySem.MeetsSeq2 PySem.MeetsSeq3

end

section
variable {prog : Program} {w : World} {A : Around} {E : Value → Shared → Prop} {s : Shared}

def sIx (n d : Nat) : Option Int → Nat
  | none => d
  | some v => if v < 0 then (v + (n : Int)).toNat else min v.toNat n
end
end HT

namespace L2
open PySem PySem.Spec PyProof.Rows


abbrev TO := St → Hp → (Option Int → Hp → Prop) → Prop

def PO (X : Cx) (e : Option Expr) (t : TO) : Prop :=
  ∀ (pins : List (Addr × Obj)) (s : Shared) (σ : St) (H : Hp) (Q : Option Int → Hp → Prop), Inv X pins σ H s → t σ H Q →
    wpAny (model X.prog X.w) X.A (evalPart e X.env) (fun u s' => ∃ o H', Inv X pins σ H' s' ∧ IsPart u o ∧ Q o H') X.xe s
def tNoPart : TO := fun _ H Q => Q none H
def tPart (t : TE) : TO := fun σ H Q => t σ H fun x H1 => ∃ i, x = .int i ∧ Q (some i) H1

theorem intsAre_of {ns : List Int} : ∀ {us : List Value}, Vals (ns.map V.int) us → IntsAre us ns := by
  induction ns with
  | nil => intro us r; rw [List.map_nil] at r; cases r; exact .nil
  | cons n ns ih =>
    intro us r
    rw [List.map_cons] at r
    cases r with
    | cons r1 r2 =>
      obtain ⟨t, e⟩ := r1
      subst e
      exact .cons n t (ih r2)

section
variable {X : Cx} {e : Expr} {te : TE} {lo hi : Option Expr} {tl th : TO} {pos p2 : Pos}

theorem po_none : PO X none tNoPart := by
  intro pins s σ H Q I h
  rw [evalPart_none]
  exact wpAny_pure ⟨none, H, I, .none, h⟩
theorem po_some (h : PE X e te) : PO X (some e) (tPart te) := by
  intro pins s σ H Q I hw
  rw [evalPart_some]
  refine thn (h pins s σ H _ I hw) fun u s1 ⟨x, H1, I1, r1, q1⟩ => ?_
  obtain ⟨i, rfl, q⟩ := q1
  obtain ⟨t, rfl⟩ := r1
  exact ⟨some i, H1, I1, .int i t, q⟩


def SlR (X : Cx) (r : V → Option Int → Option Int → Hp → VK → Prop) : Prop :=
  ∀ (pins : List (Addr × Obj)) (s : Shared) (σ : St) (H : Hp) (x : V) (v vl vu : Value) (lo hi : Option Int) (sl : Addr) (Q : VK), Inv X pins σ H s → RelV x v → s.heap.IsSliceOf sl vl vu .none → IsPart vl lo → IsPart vu hi → r x lo hi H Q →
    ∃ T id, typeLookup (.type T) "__getitem__" = pure (some (.builtin id)) ∧ s.TypeIs v T ∧ wpAny (model X.prog X.w) X.A (getItem v (.ref sl)) (EP X pins σ Q) X.xe s
def tSl (r : V → Option Int → Option Int → Hp → VK → Prop) (te : TE) (tl th : TO) : TE := fun σ H Q => te σ H fun x H1 => tl σ H1 fun l H2 => th σ H2 fun u H3 => r x l u H3 Q

theorem pe_slice {r : V → Option Int → Option Int → Hp → VK → Prop} (hr : SlR X r) (he : PE X e te) (hl : PO X lo tl) (hu : PO X hi th) : PE X (.Subscript e (.Slice lo hi none p2) pos) (tSl r te tl th) := by
  intro pins s σ H Q I h
  refine Subscript_ (thn (he pins s σ H _ I h) fun v s1 ⟨x, H1, I1, r1, q1⟩ => ?_)
  refine wpAny_Slice (thn (hl pins s1 σ H1 _ I1 q1) fun vl s2 ⟨l, H2, I2, pl, q2⟩ => thn (hu pins s2 σ H2 _ I2 q2) fun vu s3 ⟨u, H3, I3, pu, q3⟩ => ?_)
  rw [evalPart_none]
  refine wpAny_pure ?_
  have I4 : Inv X pins σ H3 { s3 with heap := s3.heap.push { cls := .type "slice", data := .fields #[vl, vu, .none] } } := I3.kept (t' := s3.toks) fun b ob q => Heap.get?_push_of_some _ q
  obtain ⟨T, id, hT, ht, hg⟩ := hr pins { s3 with heap := s3.heap.push { cls := .type "slice", data := .fields #[vl, vu, .none] } } σ H3 x v vl vu l u s3.heap.objs.size Q I4 r1 (Heap.IsSliceOf.new ..) pl pu q3
  show wpAny (model X.prog X.w) X.A (subscriptTail e (.Slice lo hi none p2) v (.ref s3.heap.objs.size)) (EP X pins σ Q) X.xe { s3 with heap := s3.heap.push { cls := .type "slice", data := .fields #[vl, vu, .none] } }
  exact tail_any (ops := [.ref s3.heap.objs.size, v]) ht hT hg (by with_unfolding_all rfl)


def cutV (xs : List V) (lo hi : Option Int) : List V := (xs.drop (HT.sIx xs.length 0 lo)).take (HT.sIx xs.length xs.length hi - HT.sIx xs.length 0 lo)
theorem cutV_length (xs : List V) (lo hi : Option Int) : (cutV xs lo hi).length ≤ xs.length := by
  unfold cutV
  rw [List.length_take, List.length_drop]
  omega

def rSlT (K : PySem.W.Frag) : V → Option Int → Option Int → Hp → VK → Prop := fun x lo hi H Q => ∃ a xs, x = .ref a ∧ SqT K H a xs ∧
  ¬ (HT.sIx xs.length 0 lo = 0 ∧ HT.sIx xs.length xs.length hi = xs.length) ∧ ∀ p, H p = none → Q (.ref p) (upd H p (.tup (cutV xs lo hi)))
def rLtT (K : PySem.W.Frag) : R2 := fun x y H Q => ∃ a b ns ms, x = .ref a ∧ y = .ref b ∧ SqT K H a (ns.map V.int) ∧ SqT K H b (ms.map V.int) ∧ Q (.bl (HT.lexLt ns ms)) H
def rCatT (K : PySem.W.Frag) : R2 := fun x y H Q => ∃ a b xs ys, x = .ref a ∧ y = .ref b ∧ SqT K H a xs ∧ SqT K H b ys ∧ xs ≠ [] ∧ xs.length + ys.length ≤ sizeLine ∧
  (ys = [] → Q (.ref a) H) ∧ (ys ≠ [] → ∀ p, H p = none → Q (.ref p) (upd H p (.tup (xs ++ ys))))
end
end L2

namespace L2
open PySem PySem.Spec PyProof.Rows



def ixN (n : Nat) (i : Int) : Option Nat := if 0 ≤ i then (if i < n then some i.toNat else none) else if -(n : Int) ≤ i then some (i + n).toNat else none
def atI {α : Type} (xs : List α) (i : Int) : Option α := (ixN xs.length i).bind fun j => xs[j]?
theorem ixN_seq {n : Nat} {i : Int} {j : Nat} (h : ixN n i = some j) : seqIndex? i n = some j ∧ j < n ∧ -(n : Int) ≤ i ∧ i < n := by
  unfold ixN at h
  by_cases h0 : 0 ≤ i
  · rw [if_pos h0] at h
    by_cases h1 : i < n
    · rw [if_pos h1] at h
      have e : i.toNat = j := Option.some.inj h
      exact ⟨by rw [seqIndex_of h0 h1, e], by omega, by omega, h1⟩
    · rw [if_neg h1] at h; cases h
  · rw [if_neg h0] at h
    by_cases h1 : -(n : Int) ≤ i
    · rw [if_pos h1] at h
      have e : (i + n).toNat = j := Option.some.inj h
      exact ⟨by rw [seqIndex_neg (by omega) h1, e], by omega, h1, by omega⟩
    · rw [if_neg h1] at h; cases h
theorem atI_get {α : Type} {xs : List α} {i : Int} {v : α} (h : atI xs i = some v) : ∃ j, seqIndex? i xs.length = some j ∧ xs[j]? = some v ∧ j < xs.length ∧ -(xs.length : Int) ≤ i ∧ i < xs.length := by
  unfold atI at h
  cases e : ixN xs.length i with
  | none => rw [e] at h; cases h
  | some j =>
    rw [e] at h
    obtain ⟨h1, h2, h3, h4⟩ := ixN_seq e
    exact ⟨j, h1, h, h2, h3, h4⟩
theorem atI_nat {α : Type} {xs : List α} {j : Nat} {v : α} (h : xs[j]? = some v) : atI xs (j : Int) = some v := by
  have hj : j < xs.length := (List.getElem?_eq_some_iff.mp h).1
  have e : ixN xs.length (j : Int) = some j := by
    unfold ixN
    rw [if_pos (by omega), if_pos (by omega)]; simp
  unfold atI; rw [e]; exact h
def PlainIx (b : Expr) : Prop := ∀ o i, subscripted b false o i = operate [o, i] (getItem o i)

def IxR (X : Cx) (r : R2) : Prop :=
  ∀ (value slice : Expr) (pins : List (Addr × Obj)) (s : Shared) (σ : St) (H : Hp) (x y : V) (v u : Value) (Q : VK), Inv X pins σ H s → RelV x v → RelV y u → r x y H Q →
    subscripted slice false v u = operate [v, u] (getItem v u) → wpAny (model X.prog X.w) X.A (subscriptTail value slice v u) (EP X pins σ Q) X.xe s

def MtR (X : Cx) (id : String) (r : V → List V → Hp → VK → Prop) : Prop :=
  ∀ (pins : List (Addr × Obj)) (s : Shared) (σ : St) (H : Hp) (x : V) (xs : List V) (v : Value) (us : List Value) (Q : VK), Inv X pins σ H s → RelV x v → Vals xs us → r x xs H Q →
    wpAny (model X.prog X.w) X.A (call (.builtin id) (v :: us)) (EP X pins σ Q) X.xe s
section
variable {X : Cx} {a b : Expr} {ta tb : TE} {pos : Pos}
theorem pe_ix {r : R2} (hr : IxR X r) (ha : PE X a ta) (hb : PE X b tb) (hs : PlainIx b) : PE X (.Subscript a b pos) (tOp r ta tb) := by
  intro pins s σ H Q I h
  exact Subscript_ (binT ha hb I h fun v u s2 x y H2 I2 rx ry q => hr a b pins s2 σ H2 x y v u Q I2 rx ry q (hs _ _))

def rIxL (K : PySem.W.Frag) : R2 := fun x y H Q => ∃ p xs i v, x = .ref p ∧ y = .int i ∧ SqL K H p xs ∧ atI xs i = some v ∧ Q v H
def rIxT (K : PySem.W.Frag) : R2 := fun x y H Q => ∃ p xs i v, x = .ref p ∧ y = .int i ∧ SqT K H p xs ∧ atI xs i = some v ∧ Q v H
def rIxS : R2 := fun x y H Q => ∃ z i c, x = .str z ∧ y = .int i ∧ z.length ≤ sizeLine ∧ atI z.cps.toList i = some c ∧ Q (.str ⟨#[c]⟩) H
theorem ix_list : IxR X (rIxL X.K) := by
  intro value slice pins s σ H x y v u Q I rx ry h hs
  obtain ⟨p, xs, i, z, rfl, rfl, hq, he, q⟩ := h
  cases rx
  obtain ⟨t, rfl⟩ := ry
  obtain ⟨its, r, pl, hz⟩ := I.list hq
  obtain ⟨j, h1, h2, h3, h4, h5⟩ := atI_get he
  obtain ⟨w, ew, rw'⟩ := r.get h2
  have hl := r.length
  have hn := line63
  have fin : EP X pins σ Q w s := ⟨z, H, I, rw', q⟩
  by_cases h0 : 0 ≤ i
  · have hj : i.toNat = j := by
      rw [seqIndex_of h0 h5] at h1
      exact Option.some.inj h1
    exact item_listR pl.isList h0 (by omega) (by rw [hj]; simpa using ew) fin hs
  · have hj : (i + (its.toArray.size : Int)).toNat = j := by
      rw [seqIndex_neg (by omega) h4] at h1
      rw [List.size_toArray, ← hl]
      exact Option.some.inj h1
    exact subscriptTail_builtinR (x := w) pl.isList.typeIs slot_list_getitem.lookup
      (wpAny_getItem_list_neg (Q := fun r s' => r = w ∧ EP X pins σ Q r s') pl.isList (by omega) (by rw [List.size_toArray] <;> omega) (by omega) (by rw [hj]; simpa using ew) ⟨rfl, fin⟩) hs
def rIx (K : PySem.W.Frag) : R2 := fun x y H Q => rIxL K x y H Q ∨ rIxT K x y H Q ∨ rIxS x y H Q
theorem mapSeq_set (its : List Value) (n j : Nat) (u : Value) : Obj.mapSeq (·.setIfInBounds j u) { cls := .type "list", data := .seq its.toArray n } = { cls := .type "list", data := .seq (its.set j u).toArray n } := by
  simp [Obj.mapSeq]
theorem Inv.lst {pins : List (Addr × Obj)} {σ : St} {H : Hp} {s : Shared} {p : Addr} {xs : List V} (I : Inv X pins σ H s) (h : H p = some (.lst xs)) :
    ∃ (its : List Value) (n : Nat), Vals xs its ∧ s.heap.get? p = some { cls := .type "list", data := .seq its.toArray n } ∧ xs.length ≤ sizeLine := by
  obtain ⟨z, its, n, r, e⟩ := I.hok p _ h
  exact ⟨its, n, r, e, z⟩

theorem Inv.lstUpd {pins : List (Addr × Obj)} {σ : St} {H : Hp} {s : Shared} {p : Addr} {xs ys : List V} {its its' : List Value} {n n' : Nat} {f : Obj → Obj} (I : Inv X pins σ H s) (h : H p = some (.lst xs))
    (ho : s.heap.get? p = some { cls := .type "list", data := .seq its.toArray n }) (hf : f { cls := .type "list", data := .seq its.toArray n } = { cls := .type "list", data := .seq its'.toArray n' }) (r : Vals ys its') (hz : ys.length ≤ sizeLine) (t : Nat) :
    Inv X pins σ (upd H p (.lst ys)) { s with heap := s.heap.update p f, toks := t } := by
  have e : (s.heap.update p f).get? p = some { cls := .type "list", data := .seq its'.toArray n' } := by
    rw [Heap.get?_update_self f ho (by rw [hf] <;> rfl), hf]
  refine I.write (x := p) (e := p) (by rw [h]; trivial) (.inl rfl) (fun b u hb q => (Heap.get?_update_other _ _ (Ne.symm hb)).trans q) ⟨_, e⟩ ?_
  exact ⟨hz, its', n', r, e⟩
def rSetL : V → V → V → Hp → (Hp → Prop) → Prop := fun o i v H Q => ∃ p xs k j, o = .ref p ∧ i = .int k ∧ H p = some (.lst xs) ∧ ixN xs.length k = some j ∧ Q (upd H p (.lst (xs.set j v)))
theorem set_list : PSet X rSetL := by
  intro pins s σ H o i v ov iv u Q I ro ri rv h
  obtain ⟨p, xs, k, j, rfl, rfl, hp, hj, q⟩ := h
  cases ro
  obtain ⟨t, rfl⟩ := ri
  obtain ⟨its, n, r, ho, hz⟩ := I.lst hp
  obtain ⟨h1, h2, h3, h4⟩ := ixN_seq hj
  have hl := r.length
  have hn := line63
  have I' : Inv X pins σ (upd H p (.lst (xs.set j v))) { s with heap := s.heap.update p (Obj.mapSeq (·.setIfInBounds j u)) } :=
    I.lstUpd hp ho (mapSeq_set its n j u) (r.set rv j) (by rw [List.length_set]; exact hz) s.toks
  by_cases h0 : 0 ≤ k
  · have hk : k.toNat = j := by
      rw [seqIndex_of h0 h4] at h1
      exact Option.some.inj h1
    exact PySem.W.ki_setAt ho h0 (by omega) (by rw [List.size_toArray, ← hl]; exact h4) (by rw [hk]; exact ⟨_, I', q⟩)
  · have hk : (k + (its.toArray.size : Int)).toNat = j := by
      rw [seqIndex_neg (by omega) h3] at h1
      rw [List.size_toArray, ← hl]
      exact Option.some.inj h1
    exact PySem.W.ki_setBack ho (by omega) (by rw [List.size_toArray, ← hl]; exact h3) (by omega) (by rw [hk]; exact ⟨_, I', q⟩)


theorem slice_bounds (lo hi : Option Int) (n : Nat) : (sliceBounds lo hi none n).1 = ((HT.sIx n 0 lo : Nat) : Int) ∧ (sliceBounds lo hi none n).2.1 = ((HT.sIx n n hi : Nat) : Int) ∧ (sliceBounds lo hi none n).2.2 = 1 := by
  refine ⟨?_, ?_, rfl⟩
  · cases lo with
    | none => simp [sliceBounds, HT.sIx]
    | some i =>
      simp only [sliceBounds, HT.sIx, Option.getD_none, show (1 : Int) > 0 by decide, if_true]
      by_cases h : i < 0
      · simp only [h, if_true] <;> omega
      · simp only [h, if_false] <;> omega
  · cases hi with
    | none => simp [sliceBounds, HT.sIx]
    | some i =>
      simp only [sliceBounds, HT.sIx, Option.getD_none, show (1 : Int) > 0 by decide, if_true]
      by_cases h : i < 0
      · simp only [h, if_true] <;> omega
      · simp only [h, if_false] <;> omega
theorem slicePick_cut (its : List Value) (lo hi : Option Int) : slicePick its.toArray lo hi none = ((its.drop (HT.sIx its.length 0 lo)).take (HT.sIx its.length its.length hi - HT.sIx its.length 0 lo)).toArray := by
  obtain ⟨h1, h2, h3⟩ := slice_bounds lo hi its.toArray.size
  unfold slicePick
  rw [h1, h2, h3]
  simp only [sliceRange_one, pick_run, List.size_toArray] <;> rfl

def rSlL (K : PySem.W.Frag) : V → Option Int → Option Int → Hp → VK → Prop := fun x lo hi H Q => ∃ a xs, x = .ref a ∧ SqL K H a xs ∧ ∀ p, H p = none → Q (.ref p) (upd H p (.lst (cutV xs lo hi)))
theorem sl_list : SlR X (rSlL X.K) := by
  intro pins s σ H x v vl vu lo hi sl Q I rx hs pl pu h
  obtain ⟨a, xs, rfl, hx, q⟩ := h
  cases rx
  obtain ⟨its, r, ht, hz⟩ := I.list hx
  have hlen := r.length
  refine ⟨"list", _, slot_list_getitem.lookup, ht.isList.typeIs, ?_⟩
  refine wpAny_getItem_list_slice ht.isList hs pl pu .none (by simp) ?_ (by rw [List.size_toArray] <;> omega)
  rw [slicePick_cut, ← hlen]
  refine ⟨.ref s.heap.objs.size, _, I.laid (t' := s.toks) (o := .lst (cutV xs lo hi)) (fun b ob q => Heap.get?_push_of_some _ q) (Nat.le_refl _) ?_, rfl, q _ (I.hok.fresh (Nat.le_refl _))⟩
  exact ⟨Nat.le_trans (cutV_length xs lo hi) hz, _, 0, (r.drop (HT.sIx xs.length 0 lo)).take (HT.sIx xs.length xs.length hi - HT.sIx xs.length 0 lo), Heap.get?_push_size _ rfl⟩


def flatV : V → Bool
  | .non => true
  | .bl _ => true
  | .int _ => true
  | .str _ => true
  | _ => false

def eqV : V → V → Bool
  | .non, .non => true
  | .bl a, .bl b => a == b
  | .bl a, .int b => (if a then 1 else 0) == b
  | .int a, .bl b => a == (if b then 1 else 0)
  | .int a, .int b => a == b
  | .str a, .str b => a == b
  | _, _ => false
theorem eqAt_V {A : Around} {s : Shared} {y x : V} {u v : Value} (ry : RelV y u) (rx : RelV x v) (fy : flatV y = true) (fx : flatV x = true) : SeqAt.EqAt A s u v (eqV y x) := by
  cases y with
  | non =>
    cases ry
    cases x with
    | non => cases rx; exact SeqAt.EqAt.same _
    | bl b => cases rx; exact SeqAt.EqAt.none_bool b
    | int b => obtain ⟨t, rfl⟩ := rx; exact SeqAt.EqAt.none_int b t
    | str b => obtain ⟨t, rfl⟩ := rx; exact SeqAt.EqAt.none_str b t
    | _ => exact absurd (show false = true from fx) Bool.false_ne_true
  | bl a =>
    cases ry
    cases x with
    | non => cases rx; exact SeqAt.EqAt.bool_none a
    | bl b => cases rx; exact SeqAt.EqAt.bool_bool a b
    | int b => obtain ⟨t, rfl⟩ := rx; exact SeqAt.EqAt.bool_int a b t
    | str b => obtain ⟨t, rfl⟩ := rx; exact SeqAt.EqAt.bool_str a b t
    | _ => exact absurd (show false = true from fx) Bool.false_ne_true
  | int a =>
    obtain ⟨t', rfl⟩ := ry
    cases x with
    | non => cases rx; exact SeqAt.EqAt.int_none a t'
    | bl b => cases rx; exact SeqAt.EqAt.int_bool a t' b
    | int b => obtain ⟨t, rfl⟩ := rx; exact SeqAt.EqAt.int_int a t' b t
    | str b => obtain ⟨t, rfl⟩ := rx; exact SeqAt.EqAt.int_str a t' b t
    | _ => exact absurd (show false = true from fx) Bool.false_ne_true
  | str a =>
    obtain ⟨t', rfl⟩ := ry
    cases x with
    | non => cases rx; exact SeqAt.EqAt.str_none a t'
    | bl b => cases rx; exact SeqAt.EqAt.str_bool a t' b
    | int b => obtain ⟨t, rfl⟩ := rx; exact SeqAt.EqAt.str_int a t' b t
    | str b => obtain ⟨t, rfl⟩ := rx; exact SeqAt.EqAt.str_str a t' b t
    | _ => exact absurd (show false = true from fx) Bool.false_ne_true
  | _ => exact absurd (show false = true from fy) Bool.false_ne_true

def eqU (x : V) (u : Value) : Bool := match u with
  | .none => eqV .non x
  | .bool b => eqV (.bl b) x
  | .int i _ => eqV (.int i) x
  | .str z _ => eqV (.str z) x
  | _ => false
theorem eqU_of {x y : V} {u : Value} (r : RelV y u) (f : flatV y = true) : eqU x u = eqV y x := by
  cases y with
  | non => cases r; rfl
  | bl b => cases r; rfl
  | int i => obtain ⟨t, rfl⟩ := r; rfl
  | str z => obtain ⟨t, rfl⟩ := r; rfl
  | _ => exact absurd (show false = true from f) Bool.false_ne_true
theorem any_eqU {x : V} : ∀ {xs : List V} {us : List Value}, Vals xs us → xs.all flatV = true → us.any (eqU x) = xs.any fun y => eqV y x
  | _, _, .nil, _ => rfl
  | y :: xs, u :: us, .cons r t, f => by
    rw [List.all_cons, Bool.and_eq_true] at f
    rw [List.any_cons, List.any_cons, eqU_of r f.1, any_eqU t f.2]
theorem mem_eqAt {A : Around} {s : Shared} {x : V} {v : Value} (rx : RelV x v) (fx : flatV x = true) : ∀ {xs : List V} {us : List Value}, Vals xs us → xs.all flatV = true → ∀ u ∈ us, SeqAt.EqAt A s u v (eqU x u)
  | _, _, .nil, _ => fun u hu => by cases hu
  | y :: xs, u :: us, .cons r t, f => fun u' hu => by
    rw [List.all_cons, Bool.and_eq_true] at f
    rcases List.mem_cons.mp hu with rfl | hu
    · rw [eqU_of r f.1]; exact eqAt_V r rx f.1 fx
    · exact mem_eqAt rx fx t f.2 u' hu
def inV (x : V) (xs : List V) : Bool := xs.any fun y => eqV y x

def rIn (K : PySem.W.Frag) (neg : Bool) : R2 := fun x y H Q => ∃ p xs, y = .ref p ∧ (SqL K H p xs ∨ SqT K H p xs) ∧ flatV x = true ∧ xs.all flatV = true ∧ Q (.bl (if neg then !inV x xs else inV x xs)) H
theorem op_notIn_seq : OpR X (compareOp .NotIn) (rIn X.K true) := by
  intro pins s σ H x y v u Q I rx ry h
  obtain ⟨p, xs, rfl, hq, fx, fs, q⟩ := h
  cases ry
  rcases hq with hq | hq
  · obtain ⟨its, r, pl, hz⟩ := I.list hq
    refine SeqAt.notIn_listAt (eqU x) pl.isList (fun w hw => mem_eqAt rx fx r fs w (by simpa using hw)) ⟨.bl _, H, I, rfl, ?_⟩
    rw [show its.toArray.any (eqU x) = its.any (eqU x) by simp, any_eqU r fs]
    exact q
  · obtain ⟨its, r, pl, hz⟩ := I.tuple hq
    refine SeqAt.notIn_tupleAt (eqU x) pl (fun w hw => mem_eqAt rx fx r fs w (by simpa using hw)) ⟨.bl _, H, I, rfl, ?_⟩
    rw [show its.toArray.any (eqU x) = its.any (eqU x) by simp, any_eqU r fs]
    exact q
theorem call_len_seq : CallR X (.builtin "len") (fun xs H Q => ∃ p ys, xs = [.ref p] ∧ (SqL X.K H p ys ∨ SqT X.K H p ys) ∧ Q (.int ys.length) H) := by
  intro pins s σ H xs us Q I r h
  obtain ⟨p, ys, rfl, hq, q⟩ := h
  obtain ⟨u, rfl, rx⟩ := vals1 r
  cases rx
  have hn := line63
  rcases hq with hq | hq
  · obtain ⟨its, r', pl, hz⟩ := I.list hq
    have hlen := r'.length
    exact Calls.call_len_list pl.isList (by simp only [List.size_toArray] <;> omega) ⟨.int ys.length, H, I.tok _, ⟨s.toks + 1, by rw [List.size_toArray, hlen]⟩, q⟩
  · obtain ⟨its, r', pl, hz⟩ := I.tuple hq
    have hlen := r'.length
    exact len_tuple pl (by simp only [List.size_toArray] <;> omega) ⟨.int ys.length, H, I.tok _, ⟨s.toks + 1, by rw [List.size_toArray, hlen]⟩, q⟩
theorem call_list_of : CallR X (.type "list") (fun xs H Q => ∃ p ys, xs = [.ref p] ∧ (SqL X.K H p ys ∨ SqT X.K H p ys) ∧ ∀ l, H l = none → Q (.ref l) (upd H l (.lst ys))) := by
  intro pins s σ H xs us Q I r h
  obtain ⟨p, ys, rfl, hq, q⟩ := h
  obtain ⟨u, rfl, rx⟩ := vals1 r
  cases rx
  have fin : ∀ (its : List Value), Vals ys its → ys.length ≤ sizeLine → ∀ (h' : Heap) (c' : Nat), (∀ b o', s.heap.get? b = some o' → h'.get? b = some o') →
      h'.get? s.heap.objs.size = some { cls := .type "list", dict := none, data := .seq its.toArray c', slots := #[] } → EP X pins σ Q (.ref s.heap.objs.size) { s with heap := h' } := fun its r' hz h' c' kp e =>
    ⟨.ref s.heap.objs.size, _, I.laid (t' := s.toks) kp (Nat.le_refl _) (show ObjOk X.prog X.w _ h' _ (.lst ys) from ⟨hz, its, c', r', e⟩), rfl, q _ (I.hok.fresh (Nat.le_refl _))⟩
  rcases hq with hq | hq
  · obtain ⟨its, r', pl, hz⟩ := I.list hq
    have hlen := r'.length
    obtain ⟨o, ho, hc, n, hd⟩ := pl.isList
    exact call_list_seq p (.inl rfl) ho hc hd (fun h' c' kp e => fin its r' hz h' c' kp e) (by simp only [List.size_toArray] <;> omega)
  · obtain ⟨its, r', pl, hz⟩ := I.tuple hq
    have hlen := r'.length
    obtain ⟨o, ho, hc, n, hd⟩ := pl
    exact call_list_seq p (.inr rfl) ho hc hd (fun h' c' kp e => fin its r' hz h' c' kp e) (by simp only [List.size_toArray] <;> omega)
theorem call_tuple_of : CallR X (.type "tuple") (fun xs H Q => ∃ p ys, xs = [.ref p] ∧ ((SqL X.K H p ys ∧ ∀ l, H l = none → Q (.ref l) (upd H l (.tup ys))) ∨ (SqT X.K H p ys ∧ Q (.ref p) H))) := by
  intro pins s σ H xs us Q I r h
  obtain ⟨p, ys, rfl, h⟩ := h
  obtain ⟨u, rfl, rx⟩ := vals1 r
  cases rx
  rcases h with ⟨hq, q⟩ | ⟨hq, q⟩
  · obtain ⟨its, r', pl, hz⟩ := I.list hq
    have hlen := r'.length
    refine call_tuple_list pl.isList (fun h' kp => ?_) (by simp only [List.size_toArray] <;> omega)
    have I1 : Inv X pins σ H { s with heap := h' } := I.kept (t' := s.toks) kp
    have I2 : Inv X pins σ (upd H h'.objs.size (.tup ys)) { s with heap := h'.push { cls := .type "tuple", data := .seq its.toArray } } :=
      I1.laid (t' := s.toks) (fun b o e => Heap.get?_push_of_some _ e) (Nat.le_refl _) (show ObjOk X.prog X.w _ _ _ (.tup ys) from ⟨hz, its, r', IsTup.new _ _⟩)
    exact ⟨.ref h'.objs.size, _, I2, rfl, q _ (I1.hok.fresh (Nat.le_refl _))⟩
  · obtain ⟨its, r', pl, hz⟩ := I.tuple hq
    exact call_tuple_same pl ⟨.ref p, H, I, rfl, q⟩



def tyV (K : PySem.W.Frag) (T : String) (x : V) (H : Hp) : Prop := match x with
  | .str _ => T = "str"
  | .int _ => T = "int"
  | .ref p => (T = "list" ∧ ∃ xs, SqL K H p xs) ∨ (T = "tuple" ∧ ∃ o, K.lookup p = some o ∧ o.cls = .type "tuple" ∧ o.dict = none) ∨
      (T = "dict" ∧ ((∃ kvs, H p = some (.dK kvs)) ∨ ∃ kvs, H p = some (.dT kvs))) ∨ (T = "set" ∧ ∃ S n, H p = some (.set S n))
  | _ => False
theorem tyV_is {pins : List (Addr × Obj)} {σ : St} {H : Hp} {s : Shared} {T : String} {x : V} {v : Value} (I : Inv X pins σ H s) (r : RelV x v) (ty : tyV X.K T x H) :
    s.TypeIs v T ∧ ∀ a, v = .ref a → ∃ ob, s.heap.get? a = some ob ∧ ob.dict = none := by
  cases x with
  | str z =>
    obtain ⟨t, rfl⟩ := r
    cases (show T = "str" from ty)
    exact ⟨typeIs_str s z t, fun _ e => nomatch e⟩
  | int i =>
    obtain ⟨t, rfl⟩ := r
    cases (show T = "int" from ty)
    exact ⟨typeIs_int s i t, fun _ e => nomatch e⟩
  | ref p =>
    cases r
    rcases ty with ⟨rfl, xs, hq⟩ | ⟨rfl, o, hk, hc, hd⟩ | ⟨rfl, hk⟩ | ⟨rfl, S, n, hk⟩
    · obtain ⟨its, _, pl, _⟩ := I.list hq
      refine ⟨pl.isList.typeIs, fun a e => ?_⟩
      cases e
      obtain ⟨o, n, e, c, hd, _⟩ := pl
      exact ⟨o, e, hd⟩
    · refine ⟨⟨o, I.kIn p o hk, hc⟩, fun a e => ?_⟩
      cases e
      exact ⟨o, I.kIn _ o hk, hd⟩
    · have z : ∃ o, s.heap.get? p = some o ∧ o.ExactDict := by
        rcases hk with ⟨kvs, hk⟩ | ⟨kvs, hk⟩
        · obtain ⟨_, _, _, _, o, _, _, e, ex, _⟩ := I.hok p _ hk
          exact ⟨o, e, ex⟩
        · obtain ⟨_, _, _, _, o, _, _, e, ex, _⟩ := I.hok p _ hk
          exact ⟨o, e, ex⟩
      obtain ⟨o, e, ex⟩ := z
      refine ⟨⟨o, e, ex.1⟩, fun a e2 => ?_⟩
      cases e2
      exact ⟨o, e, ex.2.1⟩
    · obtain ⟨o, _, _, _, e, ex, _⟩ := I.hok p _ hk
      refine ⟨⟨o, e, ex.1⟩, fun a e2 => ?_⟩
      cases e2
      exact ⟨o, e, ex.2.1⟩
  | _ => exact False.elim ty
def tBM0 (K : PySem.W.Frag) (T : String) (r : V → List V → Hp → VK → Prop) (to : TE) : TE := fun σ H Q => to σ H fun x H1 => tyV K T x H1 ∧ r x [] H1 Q
def tBM (K : PySem.W.Frag) (T : String) (r : V → List V → Hp → VK → Prop) (to : TE) (t : TA) : TE := fun σ H Q => to σ H fun x H1 => tyV K T x H1 ∧ t σ H1 fun xs H2 => r x xs H2 Q
variable {o e : Expr} {es : List Expr} {to : TE} {t : TA} {name : Str} {apos cpos : Pos} {T id : String} {r : V → List V → Hp → VK → Prop}
theorem pe_bm (pa : PlainAttrs T) (slot : Slot T name id) (hty : typeOf (.builtin id) = pure (.type "method_descriptor")) (hm : MtR X id r) (ho : PE X o to) (ha : PA X (e :: es) t)
    (hbase : attributeBase o name X.env (eval o X.env) = eval o X.env := by rfl)
    (hfew : ((backTo cpos (starEach (e :: es) X.env)).all (fun x => !x.1) && (backToKw cpos (keywordEach [] X.env)).all (fun x => x.1.isSome)
      && decide ((e :: es).length + ([] : List Keyword).length + (if ([] : List Keyword).isEmpty then 0 else 1) < 30)) = true := by rfl)
    (hline : (apos.endLine == cpos.line) = true := by rfl) (hs : starEach (e :: es) X.env = (false, eval e X.env) :: starEach es X.env := by exact starEach_cons rfl) (hplain : (backTo cpos (starEach es X.env)).any (·.1) = false := by rfl) :
    PE X (.Call (.Attribute o name apos) (e :: es) [] cpos) (tBM X.K T r to t) := by
  intro pins s σ H Q I h
  refine wpAny_Call_method_late hbase hfew hline rfl (thn (ho pins s σ H _ I h) fun v s1 ⟨x, H1, I1, r1, ty, q1⟩ => ?_)
  obtain ⟨h1, h2⟩ := tyV_is I1 r1 ty
  refine ⟨T, id, pa, slot, hty, h1, h2, ?_⟩
  have hA := ha cpos pins s1 σ H1 _ I1 q1
  rw [hs] at hA ⊢
  refine Calls.callWith_builtin (by show (false || (backTo cpos (starEach es X.env)).any (·.1)) = false; rw [hplain] <;> rfl) (Calls.evalArgs_plain ?_)
  exact thn hA fun us s2 ⟨vs, H2, I2, r2, q2⟩ => hm pins s2 σ H2 x vs v us Q I2 r1 r2 q2

end
end L2

namespace L2
open PySem PySem.Spec PyProof.Rows

def MtM (X : Cx) (id : String) (r : V → List V → Hp → VK → Prop) : Prop :=
  ∀ (pins : List (Addr × Obj)) (s : Shared) (σ : St) (H : Hp) (x : V) (xs : List V) (v : Value) (us : List Value) (Q : VK), Inv X pins σ H s → RelV x v → Vals xs us → r x xs H Q →
    wpAny (model X.prog X.w) X.A (call (.builtin id) (v :: us)) (EP X pins σ Q) X.xe s


theorem Vals.one : ∀ {x : V} {us : List Value}, Vals [x] us → ∃ u, us = [u] ∧ RelV x u
  | _, _, .cons r .nil => ⟨_, rfl, r⟩
theorem Vals.rep {xs : List V} {us : List Value} (h : Vals xs us) : ∀ k : Nat, Vals (List.replicate k xs).flatten (List.replicate k us).flatten
  | 0 => .nil
  | k + 1 => by
    rw [List.replicate_succ, List.replicate_succ, List.flatten_cons, List.flatten_cons]
    exact Vals.append h (Vals.rep h k)
theorem foldl_rep (its : List Value) : ∀ (k : Nat) (acc : List Value),
    List.foldl (fun x1 x2 => x1 ++ x2) acc.toArray (List.replicate k its.toArray) = (acc ++ (List.replicate k its).flatten).toArray
  | 0, acc => by simp
  | k + 1, acc => by
    have e : acc.toArray ++ its.toArray = (acc ++ its).toArray := by simp
    have e2 : (acc ++ its) ++ (List.replicate k its).flatten = acc ++ (List.replicate (k + 1) its).flatten := by
      rw [List.replicate_succ, List.flatten_cons, List.append_assoc]
    rw [← e2, ← foldl_rep its k (acc ++ its), ← e, List.replicate_succ, List.foldl_cons]

section
variable {X : Cx} {pins : List (Addr × Obj)} {σ : St} {H : Hp} {s : Shared} {l b : Addr} {xs ys zs : List V}


theorem Inv.lset {its its' : List Value} {n : Nat} {f : Array Value → Array Value} {t' : Nat} (I : Inv X pins σ H s) (hH : H l = some (.lst xs))
    (e : s.heap.get? l = some { cls := .type "list", data := .seq its.toArray n }) (hf : f its.toArray = its'.toArray) (hv : Vals ys its') (hz : ys.length ≤ sizeLine) :
    Inv X pins σ (upd H l (.lst ys)) { s with heap := s.heap.update l (Obj.mapSeq f), toks := t' } := by
  have q := PySem.IsL.update e f
  rw [hf] at q
  refine I.write (x := l) (e := l) (by rw [hH]; exact trivial) (.inl rfl) (fun b' u hb hu => (Heap.get?_update_other s.heap (Obj.mapSeq f) (Ne.symm hb)).trans hu) ⟨_, q⟩ ?_
  exact ⟨hz, its', _, hv, q⟩
theorem Inv.lnew {its : List Value} {t' : Nat} (I : Inv X pins σ H s) (hv : Vals ys its) (hz : ys.length ≤ sizeLine) :
    Inv X pins σ (upd H s.heap.objs.size (.lst ys)) { s with heap := s.heap.push { cls := .type "list", data := .seq its.toArray }, toks := t' } :=
  I.laid (fun _ _ q => Heap.get?_push_of_some _ q) (Nat.le_refl _) ⟨hz, its, 0, hv, Heap.get?_push_size _ rfl⟩
theorem Inv.fresh (I : Inv X pins σ H s) : H s.heap.objs.size = none := I.hok.fresh (Nat.le_refl _)
theorem Inv.lstM (I : Inv X pins σ H s) (hH : H l = some (.lst xs)) : xs.length ≤ sizeLine ∧ ∃ (its : List Value) (n : Nat), Vals xs its ∧ xs.length = its.length ∧ s.heap.get? l = some { cls := .type "list", data := .seq its.toArray n } := by
  obtain ⟨z, its, n, r, e⟩ := I.hok l _ hH
  exact ⟨z, its, n, r, r.length, e⟩

theorem notLongL {n : Nat} (h : n ≤ sizeLine) : Builtin.List.listTooLong n = false := by
  unfold Builtin.List.listTooLong
  exact decide_eq_false (by omega)
end

section
variable {X : Cx}


def rAppend : V → List V → Hp → VK → Prop := fun x vs H Q => ∃ l xs y, x = .ref l ∧ vs = [y] ∧ H l = some (.lst xs) ∧ xs.length < sizeLine ∧ Q .non (upd H l (.lst (xs ++ [y])))
theorem mt_append : MtM X "list.append" rAppend := by
  intro pins s σ H x vs v us Q I rx rv h
  obtain ⟨l, xs, y, rfl, rfl, hH, hz, q⟩ := h
  cases rx
  obtain ⟨u, rfl, ru⟩ := rv.one
  obtain ⟨z, its, n, r, hl, e⟩ := I.lstM hH
  refine call_meets F.slot_list_append ⟨_, e, rfl⟩ F.entry_list_append (F.args_list_append_2 _ _) (PySem.list_append l its.toArray n u (by rw [List.size_toArray]; omega)) ⟨e, ?_⟩
  refine ⟨.non, _, I.lset (its' := its ++ [u]) hH e (by simp) (r.append (.cons ru .nil)) ?_, rfl, q⟩
  rw [List.length_append, List.length_singleton]
  omega

def rExtend : V → List V → Hp → VK → Prop := fun x vs H Q => ∃ l b xs zs, x = .ref l ∧ vs = [.ref b] ∧ H l = some (.lst xs) ∧ H b = some (.lst zs) ∧ xs.length + zs.length ≤ sizeLine ∧ Q .non (upd H l (.lst (xs ++ zs)))
theorem mt_extend : MtM X "list.extend" rExtend := by
  intro pins s σ H x vs v us Q I rx rv h
  obtain ⟨l, b, xs, zs, rfl, rfl, hH, hB, hz, q⟩ := h
  cases rx
  obtain ⟨u, rfl, ru⟩ := rv.one
  cases ru
  obtain ⟨z, its, n, r, hl, e⟩ := I.lstM hH
  obtain ⟨z2, its2, n2, r2, hl2, e2⟩ := I.lstM hB
  have hsz : its.toArray.size + its2.toArray.size ≤ sizeLine := by rw [List.size_toArray, List.size_toArray]; omega
  have hlong : ¬ (!its.toArray.isEmpty && Builtin.List.listTooLong (its.toArray.size + its2.toArray.size)) = true := by
    rw [notLongL hsz, Bool.and_false]
    exact Bool.false_ne_true
  refine call_meets F.slot_list_extend ⟨_, e, rfl⟩ F.entry_list_extend (F.args_list_extend_2 _ _)
    (AutoSeq1.list_extend_list_list_0 l its.toArray n b its2.toArray n2 hlong (by rw [List.size_toArray]; omega) (by omega)) ⟨e, e2, ?_⟩
  refine ⟨.non, _, I.lset (its' := its ++ its2) hH e (by simp) (r.append r2) ?_, rfl, q⟩
  rw [List.length_append]
  omega

def rPop : V → List V → Hp → VK → Prop := fun x vs H Q => ∃ l xs y, x = .ref l ∧ vs = [] ∧ H l = some (.lst xs) ∧ xs[xs.length - 1]? = some y ∧ Q y (upd H l (.lst xs.dropLast))
def rPopAt : V → List V → Hp → VK → Prop := fun x vs H Q => ∃ l xs i k y, x = .ref l ∧ vs = [.int i] ∧ H l = some (.lst xs) ∧ -(2 ^ 63) ≤ i ∧ i < 2 ^ 63 ∧ seqIndex? i xs.length = some k ∧ xs[k]? = some y ∧ Q y (upd H l (.lst (xs.eraseIdx k)))
def rReverse : V → List V → Hp → VK → Prop := fun x vs H Q => ∃ l xs, x = .ref l ∧ vs = [] ∧ H l = some (.lst xs) ∧ Q .non (upd H l (.lst xs.reverse))
def rClear : V → List V → Hp → VK → Prop := fun x vs H Q => ∃ l xs, x = .ref l ∧ vs = [] ∧ H l = some (.lst xs) ∧ Q .non (upd H l (.lst []))
def rCat : R2 := fun x y H Q => ∃ l b xs zs, x = .ref l ∧ y = .ref b ∧ H l = some (.lst xs) ∧ H b = some (.lst zs) ∧ xs.length + zs.length ≤ sizeLine ∧ ∀ p, H p = none → Q (.ref p) (upd H p (.lst (xs ++ zs)))
theorem op_cat : OpR X (binaryOp .Add) rCat := by
  intro pins s σ H x y v u Q I rx ry h
  obtain ⟨l, b, xs, zs, rfl, rfl, hH, hB, hz, q⟩ := h
  cases rx
  cases ry
  obtain ⟨z, its, n, r, hl, e⟩ := I.lstM hH
  obtain ⟨z2, its2, n2, r2, hl2, e2⟩ := I.lstM hB
  refine PySem.P.add_list e e2 ?_ (by rw [List.size_toArray, List.size_toArray]; omega)
  have ea : its.toArray ++ its2.toArray = (its ++ its2).toArray := by simp
  rw [ea]
  exact ⟨.ref _, _, I.lnew (t' := s.toks) (r.append r2) (by rw [List.length_append]; omega), rfl, q _ I.fresh⟩

def rRep : R2 := fun x y H Q => ∃ l k xs, x = .ref l ∧ y = .int k ∧ H l = some (.lst xs) ∧ -(2 ^ 63) ≤ k ∧ k < 2 ^ 63 ∧ xs.length * k.toNat ≤ sizeLine ∧
  ∀ p, H p = none → Q (.ref p) (upd H p (.lst (List.replicate k.toNat xs).flatten))
theorem len_rep {α : Type} (xs : List α) (k : Nat) : (List.replicate k xs).flatten.length = k * xs.length := by
  induction k with
  | zero => simp
  | succ k ih => rw [List.replicate_succ, List.flatten_cons, List.length_append, ih, Nat.succ_mul, Nat.add_comm]
theorem op_rep : OpR X (binaryOp .Mult) rRep := by
  intro pins s σ H x y v u Q I rx ry h
  obtain ⟨l, k, xs, rfl, rfl, hH, h1, h2, hz, q⟩ := h
  cases rx
  obtain ⟨t, rfl⟩ := ry
  obtain ⟨z, its, n, r, hl, e⟩ := I.lstM hH
  have hlen : its.toArray.size * k.toNat ≤ sizeLine := by rw [List.size_toArray, ← hl]; exact hz
  have hcap : ¬ its.toArray.size * k.toNat > (2 ^ 63 - 1) / 8 := by
    have : (sizeLine : Nat) ≤ (2 ^ 63 - 1) / 8 := by decide
    omega
  have hfit : ¬ (!Builtin.List.listFitsIndex k) = true := by
    rw [fitsIndex_both h1 h2]
    exact Bool.false_ne_true
  have hlong : ¬ Builtin.List.listTooLong (its.toArray.size * k.toNat) = true := by
    rw [notLongL hlen]
    exact Bool.false_ne_true
  have hnew : List.foldl (fun x1 x2 => x1 ++ x2) #[] (List.replicate (if its.toArray.isEmpty = true then 0 else k.toNat) its.toArray) = (List.replicate k.toNat its).flatten.toArray := by
    have f0 : ∀ m : Nat, List.foldl (fun x1 x2 => x1 ++ x2) #[] (List.replicate m its.toArray) = (List.replicate m its).flatten.toArray := fun m => by
      have := foldl_rep its m []
      rw [List.nil_append] at this
      exact this
    rw [f0]
    cases its with
    | nil => simp
    | cons a r' => rw [if_neg (by simp)]
  refine wpAny_binaryOp_repeat_ref (T := "list") (U := "int") (by decide) ⟨_, e, rfl⟩ (fun s' => typeIs_int s' k t) noFill_list_mul F.fills_int_mul F.slot_int_rmul repeat_list F.slot_int_index.lookup
    (call_meets F.slot_int_rmul (typeIs_int s k t) F.entry_int_rmul (F.args_int_rmul_2 _ _) (int___rmul___int_list k t l its.toArray n)
      ⟨e, rfl, ⟨_, e, rfl⟩, call_meets F.slot_list_mul ⟨_, e, rfl⟩ F.entry_list_mul (F.args_list_mul_2 _ _) (AutoListH.list___mul___list_int_3 l its.toArray n k t hfit hcap hlong) ⟨e, ?_⟩⟩)
  rw [hnew]
  exact ⟨.ref _, _, I.lnew (t' := s.toks) (r.rep k.toNat) (by rw [len_rep, Nat.mul_comm]; exact hz), rfl, q _ I.fresh⟩


end


section
variable {prog : Program} {w : World} {A : Around} {E : Value → Shared → Prop} {s : Shared}
end

section
variable {X : Cx}

end
end L2

namespace Att
open PySem PySem.W PySem.Calls PyProof.Rows


theorem ints_of_wellAll {P : Params} {h : Heap} : ∀ (ns : List Int) (vs : List Value), WellAll P h vs (ns.map WData.int) → IntsAre vs ns := by
  intro ns
  induction ns with
  | nil =>
    intro vs w
    rw [List.map_nil] at w
    cases w
    exact .nil
  | cons n ns ih =>
    intro vs w
    rw [List.map_cons] at w
    cases w with
    | cons a b =>
      cases a
      exact .cons _ _ (ih _ b)

theorem script_of {l : OpenLaw} {n : Nat} (hn : l.most = some n) {P : Params} {h : Heap} {args : List WData} {vals : List Value}
    (hpre : l.row.toRowW.claim.pre args = true) (hwl : WellAll P h vals args) :
    ∃ a vs ns, vals = [Value.ref a] ∧ args = [WData.list (ns.map WData.int)] ∧ h.get? a = some { cls := .type "list", data := .seq vs.toArray } ∧ IntsAre vs ns ∧ ns.length ≤ n := by
  have hsh : WShape.hasAll [] args [.list .int] = true := (pre_splitW hpre).1
  have hc : l.pre.holds [] { args := args } = true := (pre_splitW hpre).2
  obtain ⟨d, r, rfl, h1, h2⟩ := hasAllW_cons hsh
  obtain rfl := hasAllW_nil h2
  obtain ⟨xs, rfl, h3⟩ := hasW_list h1
  obtain ⟨ns, rfl⟩ := items_int h3
  have hlen : ns.length ≤ n := by
    unfold OpenLaw.pre at hc
    have h4 : (WTm.not (.lt (.lit (.int (n : Int))) (.len (.arg 0)))).holds [] { args := [.list (ns.map .int)] } = true := by
      have h4 := (holds_andW hc).1
      rw [hn] at h4
      exact h4
    have h5 := condW_of h4 (w_not (w_lt w_lit (w_len_list (w_arg rfl))))
    rw [List.length_map] at h5
    refine Nat.le_of_not_lt fun q => ?_
    have q' : (n : Int) < ((ns.length : Nat) : Int) := by omega
    first
      | (rw [decide_eq_true q'] at h5; exact absurd h5 (by decide))
      | (simp at h5; omega)
  cases hwl with
  | cons w1 w2 =>
    cases w2
    cases w1 with
    | list ho hall => exact ⟨_, _, ns, rfl, rfl, ho, ints_of_wellAll ns _ hall, hlen⟩

theorem post_true (l : OpenLaw) (args : List WData) : l.row.toRowW.claim.post args (.bool true) args = true :=
  postW_of (r := l.row.toRowW) (X := (true == true))
    (show WShape.has [] (.bool true) .bool = true by first | rfl | decide | simp [WShape.has, WShape.arms, WShape.armsAll])
    (show (WTm.eq .res (.lit (.bool true))).value [] { args := args, res := some (.bool true), after := args } = some (.bool (true == true)) from w_eq_bool (w_res rfl) w_lit) rfl


theorem attach_call {l : OpenLaw} {n : Nat} {q : Program} {loose : List Str} {XP : (Str → Option Value) → Heap → Prop} {YP : World → Heap → Prop} {d : DefRec}
    (hn : l.most = some n) (hdf : d.params.defaults = [])
    (call : ∀ (w : World) (s₀ s₁ : Shared) (mg mb : Str → Option Value) (fa : Addr) (o : Obj) (pm cd doc : Value) (a : Addr) (vs : List Value) (ns : List Int),
      Ground q loose [] XP w s₀ mg mb s₁.heap → YP w s₁.heap →
      s₁.heap.get? fa = some o → o.data = .func (docDef d.name d.params d.body d.scope pm cd doc) → s₁.heap.CodeRec cd d.name → mg d.name = some (.ref fa) →
      s₁.heap.get? a = some { cls := .type "list", data := .seq vs.toArray } → IntsAre vs ns → ns.length ≤ n → s₁.gens = #[] →
      codeAny (model l.prog w) callerA (.call (.ref fa) ⟨[.ref a], []⟩) (fun r s' => r = .ok (.ret (.bool true)) ∧ OldK s₁.heap s'.heap ∧ s'.os = s₁.os ∧ AllBare s'.gens) s₁) :
    WalkO q loose XP YP l.row.toRowW d [] (fun f vs => PySem.call f vs) := by
  intro w s₀ s₁ mg mb G Y fa o pm cd doc dV kV ho hd hcd hD hmg hg args vals as hpre hlay hrd hwl hlo
  obtain rfl : dV = .none := Dflts.none hD hdf
  obtain rfl : kV = .none := Dflts.noKw hD
  obtain ⟨a, vs, ns, rfl, rfl, hobj, hints, hlen⟩ := script_of hn hpre hwl
  refine enter_call (codeAny_mono (call w s₀ s₁ mg mb fa o pm cd doc a vs ns G Y ho (fd_plain hd) hcd hmg hobj hints hlen hg) fun r s' hq => ?_)
  obtain ⟨rfl, h2, h3, h4⟩ := hq
  exact ⟨.inl ⟨.bool true, .bool true, [], rfl, fun _ => rfl, .bool true, post_true l _, fun _ => ⟨List.Pairwise.nil, fun _ hm => (nomatch hm)⟩⟩, h2, h3, h4⟩


section
variable {prog : Program} {w : World} {A : Around} {E : Value → Shared → Prop} {s : Shared} {K : Frag}


def noObjs (h : Heap) : Heap := { h with objs := #[] }
def ledger (h : Heap) (L d : Addr) : List (Addr × Obj) := (List.range h.objs.size).filterMap fun a => if a = L ∨ a = d then none else (h.get? a).map fun o => (a, o)
end
end Att

namespace L2
open PySem PySem.Spec PyProof.Rows

theorem vals_ints : ∀ {vs : List Value} {ns : List Int}, IntsAre vs ns → Vals (ns.map V.int) vs
  | _, _, .nil => .nil
  | _, _, .cons n t h => .cons ⟨t, rfl⟩ (vals_ints h)


def Only (H : Hp) : Prop := ∀ b, H b = none ∨ ∃ o xs, H b = some (.frz o (.lst xs))


end L2

namespace L2
open PySem PySem.Spec PyProof.Rows

abbrev KOf {K : PySem.W.Frag} {h : Heap} (_ : K.In h) : PySem.W.Frag := K


end L2




namespace L2
open PySem PySem.Spec PyProof.Rows



def inClass (s : Stmt) (j : Nat) : Stmt := match s with
  | .ClassDef _ _ _ body _ _ _ _ _ _ _ => body.getD j (.Pass ⟨0, 0, 0, 0⟩)
  | _ => .Pass ⟨0, 0, 0, 0⟩
def defArgs (s : Stmt) : Arguments := match s with
  | .FunctionDef _ a _ _ _ _ _ _ _ _ => a
  | _ => { posonlyargs := [], args := [], vararg := none, kwonlyargs := [], kw_defaults := [], kwarg := none, defaults := [] }
def defBody (s : Stmt) : List Stmt := match s with
  | .FunctionDef _ _ b _ _ _ _ _ _ _ => b
  | _ => []
def defScope (s : Stmt) : Scope := match s with
  | .FunctionDef _ _ _ _ _ _ sc _ _ _ => sc
  | _ => { kind := .function, names := [], isGenerator := false, isCoroutine := false }


abbrev CX0 : CXT := fun _ _ _ _ _ _ => False
abbrev E0 : XK := fun _ _ _ => False
theorem pass0 {X : Cx} : Passes CX0 X E0 := fun _ _ _ _ _ _ _ h => h.elim


structure Fun (K : PySem.W.Frag) (x qual : Str) (st : Stmt) (f : Addr) (fd : FuncData) : Prop where
  ex : ∃ (oc : Value) (od : Option Addr) (kV doc pm : Value) (an : Option Addr) (cdv ct : Value) (osl : Array (Option Value)),
    fd = PySem.W.fnOf x qual (defArgs st) (defBody st) (defScope st) .none kV doc pm an cdv ct ∧ K.lookup f = some ⟨oc, od, .func fd, osl⟩ ∧ PySem.W.codeIn K cdv qual = true
  kp : PySem.W.keepIn K (.ref f) = true
section
variable {P : Program} {w : World} {K : PySem.W.Frag} {mg : Str → Option Value} {base : Heap}

theorem Fun.ok {x qual : Str} {st : Stmt} {f : Addr} {fd : FuncData} {N ps : List Str} {k : Nat} {sp : Sp} (F : Fun K x qual st f fd) (S : FnScope N ps (defScope st)) (len : ∀ vs H Q E, sp vs H Q E → vs.length = ps.length)
    (hbody : ∀ (cdv : Value) (A : Around) (outer : List Env) (s : Shared) (H : Hp) (vs : List V) (Q : VK) (E : XK), Room k (A.deeper (envOfC qual (defScope st) s.heap.objs.size f cdv)) → sp vs H Q E →
      ∃ t, PSs (cxOf CX0 P w K mg base N qual (defScope st) f cdv A outer s H E).nox (defBody st) t ∧ t { nx := fun _ H' => Q .non H', rt := Q } (start N vs) H) : FnOk P w K mg base CX0 (k + 1) f fd ps sp := by
  obtain ⟨oc, od, kV, doc, pm, an, cdv, ct, osl, rfl, lk, hcd⟩ := F.ex
  refine fn_of lk hcd S len fun A outer s H vs Q E hr hsp => ?_
  obtain ⟨t, h, q⟩ := hbody cdv A outer s H vs Q E hr hsp
  exact ⟨t, h.nox, q⟩

theorem Fun.binds {x qual : Str} {st : Stmt} {f : Addr} {fd : FuncData} {ps : List Str} (F : Fun K x qual st f fd)
    (h : ∀ (kV doc pm : Value) (an : Option Addr) (cdv ct : Value) (us : List Value), us.length = ps.length → bindArgs (PySem.W.fnOf x qual (defArgs st) (defBody st) (defScope st) .none kV doc pm an cdv ct) ⟨us, []⟩ = pure (ps.zip us)) : Binds K fd ps [] := by
  obtain ⟨oc, od, kV, doc, pm, an, cdv, ct, osl, rfl, lk, hcd⟩ := F.ex
  exact .all (h kV doc pm an cdv ct)
theorem fun_mk {x qual : Str} {st : Stmt} {f : Addr} {oc : Value} {od an : Option Addr} {osl : Array (Option Value)} {kV doc pm cdv ct : Value} (l : K.lookup f = some ⟨oc, od, .func (PySem.W.fnOf x qual (defArgs st) (defBody st) (defScope st) .none kV doc pm an cdv ct), osl⟩)
    (c : PySem.W.codeIn K cdv qual = true) (k : PySem.W.keepIn K (.ref f) = true) : Fun K x qual st f (PySem.W.fnOf x qual (defArgs st) (defBody st) (defScope st) .none kV doc pm an cdv ct) := ⟨⟨oc, od, kV, doc, pm, an, cdv, ct, osl, rfl, l, c⟩, k⟩
end
section
variable {X : Cx}
theorem pv (i : Nat) {x : Str} {pos : Pos} (hN : X.N[i]? = some x := by rfl) (hv : Vis X.env.scope x := by first | exact Or.inl rfl | exact Or.inr (Or.inl rfl) | exact Or.inr (Or.inr rfl)) (hd : (x == ("__debug__" : Str)) = false := by decide)
    (hcd : (x == ("__classdict__" : Str)) = false := by decide) : PE X (.Name x pos) (tVar i) := pe_var hN hv hd hcd
end


theorem iteF {A B : Prop} (h : B) : if false = true then A else B := by
  rw [if_neg Bool.false_ne_true]
  exact h
theorem iteT {A B : Prop} (h : A) : if true = true then A else B := by
  rw [if_pos rfl]
  exact h
theorem ite2 {c A B : Prop} [Decidable c] (h1 : c → A) (h2 : ¬ c → B) : if c then A else B := by
  by_cases h : c
  · rw [if_pos h]
    exact h1 h
  · rw [if_neg h]
    exact h2 h
def Same (H H' : Hp) : Prop := ∀ b o, H b = some o → H' b = some o
theorem Same.refl (H : Hp) : Same H H := fun _ _ h => h
theorem Same.trans {H H1 H2 : Hp} (a : Same H H1) (b : Same H1 H2) : Same H H2 := fun c o h => b c o (a c o h)
theorem Same.seq {K : PySem.W.Frag} {H H' : Hp} {a : Addr} {xs : List V} (e : Same H H') (h : SqL K H a xs) : SqL K H' a xs := by
  rcases h with (h | ⟨o, h⟩) | h
  · exact .inl (.inl (e _ _ h))
  · exact .inl (.inr ⟨o, e _ _ h⟩)
  · exact .inr h

end L2
set_option Elab.async false
set_option linter.all false
set_option maxRecDepth 100000

namespace XK
open PySem PySem.W PySem.Spec PySem.Calls PyProof.Rows
section
variable {prog : Program} {w : World} {A : Around} {E : Value → Shared → Prop} {s : Shared} {K : Frag} {x D : Addr} {ox : Obj}


structure ExcCls (K : Frag) (D : Addr) : Prop where
  cls : (clsIn K D).isSome = true
  ga : findIn K (.ref D) "__getattribute__" = some (some (.builtin "BaseException.__getattribute__"))
  hook : findIn K (.ref D) "__getattr__" = some none
  ca : findIn K (.ref D) "__class__" = some (some (.builtin "object.__class__"))
  get : specialIn K (.builtin "object.__class__") "__get__" = some (some (.builtin "getset_descriptor.__get__"))
  tk : takesIn K (.builtin "object.__class__") = some true
  ob : mroIn K D (.type "object") = some true
  bx : mroIn K D (.type "BaseException") = some true

theorem found (c : ExcCls K D) : findObj K D none "__class__" = some (.bind (.builtin "getset_descriptor.__get__") (.builtin "object.__class__")) := by
  obtain ⟨cd, hc⟩ := Option.isSome_iff_exists.mp c.cls
  unfold findObj
  rw [hc, Option.bind_some, c.ca, Option.bind_some]
  simp [c.get, c.tk]

theorem ga_check {nameV : Value} {M : Model} {Q : Unit → Shared → Prop} (X : K.In s.heap) (c : ExcCls K D) (I : InstAt s.heap x ox D none) (h : Q () s) :
    wpAny M A (checkBuiltinCall "BaseException.__getattribute__" ⟨[.ref x, nameV], []⟩) Q E s := by
  have hk : builtinKind "BaseException.__getattribute__" = some .slot := by decide +kernel
  have hsplit : splitId "BaseException.__getattribute__" = some ("BaseException", "__getattribute__") := by decide +kernel
  have ha := F.args_bexc_ga (.ref x) nameV
  have L0 := I.type (M := M)
  have L1 := looks_mroIn (M := M) X c.bx
  obtain ⟨hh, g, d, t, os⟩ := s
  simp only [checkBuiltinCall, hk, hsplit]
  unfold isInstance
  repeat (first | exact h | refine wpAny_bind (L0.at ?_) | refine wpAny_bind (L1.at ?_) | refine L0.at ?_ | refine L1.at ?_ | wp_step)

theorem ga_entry {tk : Tok} {Q : Fin → Shared → Prop} (X : K.In s.heap) (c : ExcCls K D) (I : InstAt s.heap x ox D none) (h : Q (.done (.ret (.ref D))) s) :
    wpAny (model prog w) A (Builtin.«object.__getattribute__» ⟨[.ref x, .str "__class__" tk], []⟩) Q E s := by
  have L0 := I.type (M := model prog w)
  have L1 := looks_find (M := model prog w) X I (found c)
  obtain ⟨hh, g, d, t, os⟩ := s
  unfold Builtin.«object.__getattribute__»
  repeat (first | refine wpAny_bind (L0.at ?_) | refine wpAny_bind (L1.at ?_) | wp_step)
  exact class_get X I c.ob (wpAny_pure h)

theorem ga_attr {Q : Option Value → Shared → Prop} (X : K.In s.heap) (c : ExcCls K D) (I : InstAt s.heap x ox D none) (h : Q (some (.ref D)) { s with toks := s.toks + 1 }) :
    wpAny (model prog w) A (getAttr? (.ref x) "__class__") Q E s := by
  have L0 := I.type (M := model prog w)
  have L1 := looks_findIn (M := model prog w) X c.ga
  have L2 := looks_findIn (M := model prog w) X c.hook
  have f3 := PySem.F.attr_ValueError.ga.bind (.ref x)
  have hx2 : (Value.builtin "BaseException.__getattribute__" == Value.builtin "object.__getattribute__") = false := by decide +kernel
  have hx1 : (onTheHeap (Value.ref D) && Value.builtin "BaseException.__getattribute__" == Value.builtin "object.__getattribute__") = false := by rw [hx2]; rfl
  obtain ⟨hh, g, d, t, os⟩ := s
  unfold getAttr? getAttrBy? getAttrBy
  refine wpAny_bind (wpAny_mkText (wpAny_bind (wpAny_attempt (wpAny_holding (wpAny_bind (L0.at (wpAny_bind (L1.at ?_))))))))
  dsimp only
  rw [hx1, if_neg Bool.false_ne_true]
  unfold getAttrByItsOwn hookBefore
  rw [show onTheHeap (Value.ref D) = true from rfl, if_pos rfl]
  refine wpAny_bind (L2.at ?_)
  refine wpAny_bind (wpAny_attempt (wpAny_holding ?_))
  unfold callGetattribute
  rw [Bool.false_and, if_neg Bool.false_ne_true]
  unfold boundAndCalled
  rw [f3]
  refine wpAny_bind (wpAny_pure ?_)
  refine wpAny_call (codeAny_call_builtin PySem.F.attr_ValueError.ga.plain F.entry_bexc_ga (ga_check (s := ⟨hh, g, d, t + 1, os⟩) X c I (ga_entry (s := ⟨hh, g, d, t + 1, os⟩) X c I ?_)))
  repeat (first | exact h | wp_step)

theorem kitx_exc (c : ExcCls K D) : KitX K (.ref x) (.ref D) (fun h => InstAt h x ox D none) where
  ty := fun _ _ _ I => I.type
  it := fun M h X _ => by
    obtain ⟨cd, hc⟩ := Option.isSome_iff_exists.mp c.cls
    unfold clsIn at hc
    split at hc
    · rename_i ho
      intro A' Q' E' s' k q
      unfold isType loadHead
      exact wpAny_bind (wpAny_loadPart (k _ _ (X _ _ ho)) (wpAny_pure q))
    · cases hc
  ne := fun h tp dd its n sl X htp => by
    obtain ⟨cd, hc⟩ := Option.isSome_iff_exists.mp c.cls
    refine Bool.eq_false_iff.mpr fun q => ?_
    obtain rfl : D = tp := Value.ref.inj (beq_iff_eq.mp q)
    unfold clsIn at hc
    split at hc
    · rename_i ho
      cases (X _ _ ho).symm.trans htp
    · cases hc
  ca := fun X I k => ga_attr X c I k
end
end XK
set_option Elab.async false
set_option linter.all false
set_option maxRecDepth 100000

namespace L2
open PySem PySem.Spec PyProof.Rows


section
variable {M : Model} {A : Around} {E : Value → Shared → Prop} {s : Shared}

structure Entered (fl : List Addr) (e : Addr) (oe : Obj) (mark : Value) (h h' : Heap) (T : Addr) : Prop where
  keep : ∀ b o, b ≠ e → b ∉ fl → h.get? b = some o → h'.get? b = some o
  slot : ∀ b o, b ≠ e → h.get? b = some o → ∃ sl, h'.get? b = some { o with slots := sl }
  new : h.objs.size ≤ T
  recd : h'.get? e = some (oe.mapFields (·.setIfInBounds 1 (.ref T)))
  head : ∃ oT ts, h'.get? T = some oT ∧ oT.data = .fields ts ∧ ts[3]? = some mark

theorem enter_ok {base : Heap} {env : Env} {outer : List Env} {L e : Addr} {oe : Obj} {vs : Array Value} {head : Value} {b : Bool} {Q : Unit → Shared → Prop}
    (hfr : A.frames = some (env :: outer)) (hl : s.heap.FunFrames base (env :: outer)) (hf : env.frame = some L) (he : s.heap.get? e = some oe) (hd : oe.data = .fields vs) (hz : 1 < vs.size)
    (k : ∀ h' T, Entered ((env :: outer).filterMap (·.frame)) e oe (rawInt L) s.heap h' T → Q () { s with heap := h' }) :
    wpAny M A (do setField (.ref e) 1 (← EntryCells.newEntry head (← frameOf env) .none (rawInt L) .none (← entryPlaceOf L b))) Q E s := by
  have off : e ∉ (env :: outer).filterMap (·.frame) := fun hm => by
    obtain ⟨_, o, ho, nf⟩ := hl.mem hm
    rw [he] at ho
    cases ho
    exact nf vs hd
  refine wpAny_bind (wpAny_frameOf_fun hfr hl hf fun g so => ?_)
  refine wpAny_bind (wpAny_entryPlaceOf fun pl place => ?_)
  refine wpAny_bind ?_
  unfold EntryCells.newEntry newFields
  refine wpAny_newObj_type ?_ (place.sizeOk5 _ _ _ _ _)
  have g1 : g.get? e = some oe := (so.2.1 e off).trans he
  have g2 := Heap.get?_push_of_some (h := g) { cls := .type "traceback", dict := none, data := .fields ([head, .ref L, .none, rawInt L, .none] ++ (if pl.isEmpty then List.replicate 6 Value.none else pl)).toArray } g1
  have ne : g.objs.size ≠ e := Nat.ne_of_gt (Heap.lt_size g1)
  refine wpAny_setField g2 hd hz (k _ g.objs.size ?_)
  have oth : ∀ c o, c ≠ e → g.get? c = some o → ((g.push { cls := .type "traceback", dict := none, data := .fields ([head, .ref L, .none, rawInt L, .none] ++ (if pl.isEmpty then List.replicate 6 Value.none else pl)).toArray }).update e (Obj.mapFields (·.setIfInBounds 1 (Value.ref g.objs.size)))).get? c = some o := fun c o hc q => by
    rw [Heap.get?_update_other _ _ (Ne.symm hc)]
    exact Heap.get?_push_of_some _ q
  refine ⟨fun c o hc hm q => oth c o hc ((so.2.1 c hm).trans q), fun c o hc q => ?_, by rw [so.1]; exact Nat.le_refl _, ?_, ?_⟩
  · obtain ⟨sl, z⟩ := so.2.2 c o q
    exact ⟨sl, oth c _ hc z⟩
  · exact Heap.get?_update_self _ g2 (Obj.isFreed_of_fields (Obj.data_mapFields hd _))
  · refine ⟨_, _, (Heap.get?_update_other _ _ (Ne.symm ne)).trans (Heap.get?_push_size g rfl), rfl, ?_⟩
    simp
end



def FlyX (X : Cx) (pins : List (Addr × Obj)) (H : Hp) (ea : Addr) (cls fl : Value) (h : Heap) : Prop :=
  FpOk X pins H ea ∧ ∃ oe vs, h.get? ea = some oe ∧ (oe.cls = cls ∧ oe.dict = none) ∧ oe.data = .fields vs ∧ vs[2]? = some .none ∧
    ((vs[1]? = some .none ∧ fl = .none) ∨ ∃ T oT ts, vs[1]? = some (.ref T) ∧ T ≠ ea ∧ FpOk X pins H T ∧ h.get? T = some oT ∧ oT.data = .fields ts ∧ ts[3]? = some fl)

section
variable {X : Cx} {pins : List (Addr × Obj)} {σ : St} {H : Hp} {s : Shared} {ea : Addr} {cls fl : Value} {M : Model} {A : Around} {E : Value → Shared → Prop} {Q : Unit → Shared → Prop}


theorem Inv.flown (I : Inv X pins σ H s) {b : Addr} (f : FpOk X pins H b) {h' : Heap} (k : ∀ c o, c ≠ b → s.heap.get? c = some o → h'.get? c = some o) : Inv X pins σ H { s with heap := h' } :=
  I.turned (t' := s.toks) k f.1 f.2.1 f.2.2.2.1 f.2.2.2.2.1 f.2.2.2.2.2

theorem ObjOk.some {P : Program} {w : World} {h : Heap} {a : Addr} {o : HO} (x : ObjOk P w H h a o) : ∃ u, h.get? a = some u := by
  cases o with
  | lst xs => obtain ⟨_, _, _, _, e⟩ := x; exact ⟨_, e⟩
  | tup xs => obtain ⟨_, _, _, u, e, _⟩ := x; exact ⟨_, e⟩
  | dK kvs => obtain ⟨_, _, _, _, u, _, _, e, _⟩ := x; exact ⟨u, e⟩
  | dT kvs => obtain ⟨_, _, _, _, u, _, _, e, _⟩ := x; exact ⟨u, e⟩
  | set S n => obtain ⟨u, _, _, _, e, _⟩ := x; exact ⟨u, e⟩
  | ins C dx fs => obtain ⟨_, _, _, e, _⟩ := x; exact ⟨_, e⟩
  | own y => exact x
  | xd fs => obtain ⟨_, ⟨u, _, _, e, _⟩, _⟩ := x; exact ⟨u, e⟩
  | rng lo hi => obtain ⟨_, _, _, e⟩ := x; exact ⟨_, e⟩
  | frz ob u => obtain ⟨e, _⟩ := x; exact ⟨_, e⟩
  | tbl ps => exact ⟨_, x⟩
  | met f y => exact ⟨_, x⟩
  | ext φ => exact x.2.1
theorem Inv.none_of (I : Inv X pins σ H s) {b : Addr} (hb : s.heap.get? b = none) : H b = none := by
  cases q : H b with
  | none => rfl
  | some o =>
    obtain ⟨u, e⟩ := (I.hok b o q).some
    rw [hb] at e
    cases e

theorem Inv.fpNone {H' : Hp} (I : Inv X pins σ H s) {b : Addr} (hb : s.heap.get? b = none) (hn : H' b = none) : FpOk X pins H' b := by
  refine ⟨hn, fun z => ?_, fun z => ?_, ?_, fun x c e z => ?_, fun p hp z => ?_⟩
  · obtain ⟨m, ⟨o, _, _, e, _⟩, _⟩ := I.loc
    rw [← z, hb] at e
    cases e
  · obtain ⟨_, o, e, _⟩ := I.funs.mem z
    rw [hb] at e
    cases e
  · by_cases hx : b ∈ X.ex
    · exact .inl hx
    · refine .inr ?_
      cases q : X.s₀.heap.get? b with
      | none => rfl
      | some o =>
        obtain ⟨o', e⟩ := I.base.there b o q hx
        rw [hb] at e
        cases e
  · obtain ⟨v, o, e', _⟩ := I.cell x c e
    rw [z, hb] at e'
    cases e'
  · have e := (I.pin p hp).1
    rw [z, hb] at e
    cases e


theorem flight_ok (I : Inv X pins σ H s) (F : FlyX X pins H ea cls fl s.heap) (k : ∀ s', Inv X pins σ H s' → FlyX X pins H ea cls .none s'.heap → Q () s') :
    wpAny M A (setFlight (.ref ea) none) Q E s := by
  obtain ⟨f0, oe, vs, he, hc, hd, h2, hh⟩ := F
  unfold setFlight
  rcases hh with ⟨h1, rfl⟩ | ⟨T, oT, ts, h1, hne, fT, hT, hdT, h3⟩
  · refine wpAny_bind (wpAny_field he hd h1 ?_)
    rw [if_neg (by decide)]
    exact wpAny_pure (k s I ⟨f0, oe, vs, he, hc, hd, h2, .inl ⟨h1, rfl⟩⟩)
  · have hz : 3 < ts.size := (Array.getElem?_eq_some_iff.mp h3).1
    refine wpAny_bind (wpAny_field he hd h1 ?_)
    rw [if_pos (show (Value.ref T != Value.none) = true by simp)]
    have oth : ∀ c, c ≠ T → (s.heap.update T (Obj.mapFields (·.setIfInBounds 3 ((none : Option Addr).elim Value.none fun f => rawInt f)))).get? c = s.heap.get? c := fun c hc => Heap.get?_update_other _ _ (Ne.symm hc)
    have hT' := Heap.get?_update_self (Obj.mapFields (·.setIfInBounds 3 ((none : Option Addr).elim Value.none fun f => rawInt f))) hT (Obj.isFreed_of_fields (Obj.data_mapFields hdT _))
    refine wpAny_setField hT hdT hz (k _ (I.flown fT fun c o hc q => (oth c hc).trans q) ⟨f0, oe, vs, (oth ea (Ne.symm hne)).trans he, hc, hd, h2, .inr ⟨T, _, _, h1, hne, fT, hT', Obj.data_mapFields hdT _, ?_⟩⟩)
    simp [hz]

theorem dict_mapFields (f : Array Value → Array Value) (o : Obj) : (Obj.mapFields f o).dict = o.dict := by
  obtain ⟨c, d, dt, sl⟩ := o
  cases dt <;> rfl

theorem enter_fly (I : Inv X pins σ H s) (hs : X.stack = X.env :: X.outer) (hf : X.env.frame = some X.env.locals) (hfr : A.frames = some X.stack) {oe : Obj} {vs : Array Value} {head : Value} {b : Bool}
    (f0 : FpOk X pins H ea) (he : s.heap.get? ea = some oe) (hc : oe.cls = cls ∧ oe.dict = none) (hd : oe.data = .fields vs) (h2 : vs[2]? = some .none) (hz : 1 < vs.size)
    (k : ∀ s', Inv X pins σ H s' → FlyX X pins H ea cls (rawInt X.env.locals) s'.heap → Q () s') :
    wpAny M A (do setField (.ref ea) 1 (← EntryCells.newEntry head (← frameOf X.env) .none (rawInt X.env.locals) .none (← entryPlaceOf X.env.locals b))) Q E s := by
  have stk : s.heap.FunFrames X.base (X.env :: X.outer) := by
    have q := I.stack
    rw [hs] at q
    exact q
  have fm : ∀ b, b ∈ (X.env :: X.outer).filterMap (·.frame) ↔ b = X.env.locals ∨ b ∈ X.fs := fun b => by
    rw [List.filterMap_cons, hf]
    exact List.mem_cons
  have fre : ∀ b ∈ (X.env :: X.outer).filterMap (·.frame), H b = none := fun b hb => I.stkFree b (by rw [hs]; exact hb)
  refine enter_ok (hfr.trans (congrArg some hs)) stk hf he hd hz fun h' T W => ?_
  have nT : ea ≠ T := Nat.ne_of_lt (Nat.lt_of_lt_of_le (Heap.lt_size he) W.new)
  have I' : Inv X pins σ H { s with heap := h' } := by
    refine I.step (g' := s.gens) (d' := s.drawn) (t' := s.toks) (ch := [ea]) (fun b hb => ?_) (fun b o hL hb hc q _ => ?_) (fun b o _ _ hc q _ => W.slot b o (fun z => hc (by simp [z])) q) (fun _ _ _ _ n => n)
      (fun b o hc q => ?_) (fun _ _ q => q) (fun _ _ _ q => q) (fun _ ps q => ⟨#[], by rw [q]; simp⟩) (fun m hm => ?_) (fun b u q => ?_) I.bare
    · obtain rfl : b = ea := by simpa using hb
      exact ⟨f0.2.2.2.1, f0.2.1, f0.2.2.2.2.1, f0.2.2.2.2.2⟩
    · exact W.keep b o (fun z => hc (by simp [z])) (fun z => ((fm b).mp z).elim hL hb) q
    · obtain ⟨sl, z⟩ := W.slot b o (fun z => hc (by simp [z])) q
      exact ⟨_, z⟩
    · obtain ⟨o, es, ep, ho, r⟩ := hm
      obtain ⟨sl, z⟩ := W.slot _ o (Ne.symm f0.2.1) ho
      exact ⟨_, es, ep, z, r⟩
    · refine (I.hok b u q).stay (fun c v hc z => ?_) (fun _ z => z) fun _ _ z => z
      have nc : H c ≠ none := by
        rcases hc with rfl | hc
        · rw [q]; simp
        · rw [hc]; simp
      exact W.keep c v (fun e => nc (by rw [e]; exact f0.1)) (fun e => nc (fre c e)) z
  obtain ⟨oT, ts, hT, hdT, h3⟩ := W.head
  refine k _ I' ⟨f0, _, _, W.recd, ⟨(Obj.cls_mapFields _ _).trans hc.1, (dict_mapFields _ _).trans hc.2⟩, Obj.data_mapFields hd _, ?_, .inr ⟨T, oT, ts, ?_, Ne.symm nT, ?_, hT, hdT, h3⟩⟩
  · rw [Array.getElem?_setIfInBounds_ne (by decide)]
    exact h2
  · simp [hz]
  · exact I.fpOk W.new (I.hok.fresh W.new)


theorem note_ok (I : Inv X pins σ H s) (F : FlyX X pins H ea cls .none s.heap) (hs : X.stack = X.env :: X.outer) (hf : X.env.frame = some X.env.locals) (hfr : A.frames = some X.stack)
    (k : ∀ s', Inv X pins σ H s' → FlyX X pins H ea cls (rawInt X.env.locals) s'.heap → Q () s') : wpAny M A (noteFrame (.ref ea) X.env) Q E s := by
  obtain ⟨f0, oe, vs, he, hc, hd, h2, hh⟩ := F
  unfold noteFrame
  simp only [hf]
  rcases hh with ⟨h1, _⟩ | ⟨T, oT, ts, h1, hne, fT, hT, hdT, h3⟩
  · refine wpAny_bind (wpAny_field he hd h1 ?_)
    rw [if_neg (by decide)]
    exact enter_fly I hs hf hfr f0 he hc hd h2 (Array.getElem?_eq_some_iff.mp h1).1 k
  · have hz : 3 < ts.size := (Array.getElem?_eq_some_iff.mp h3).1
    refine wpAny_bind (wpAny_field he hd h1 ?_)
    rw [if_pos (show (Value.ref T != Value.none) = true by simp)]
    refine wpAny_bind (wpAny_field hT hdT h3 ?_)
    rw [if_neg (show ¬ ((Value.none == rawInt X.env.locals) = true) by simp [rawInt])]
    have oth : ∀ c, c ≠ T → (s.heap.update T (Obj.mapFields (·.setIfInBounds 3 Value.none))).get? c = s.heap.get? c := fun c hc => Heap.get?_update_other _ _ (Ne.symm hc)
    refine wpAny_bind (wpAny_setField hT hdT hz ?_)
    exact enter_fly (I.flown fT fun c o hc q => (oth c hc).trans q) hs hf hfr f0 ((oth ea (Ne.symm hne)).trans he) hc hd h2 (Array.getElem?_eq_some_iff.mp h1).1 k
end



def CXE (P : Program) (w : World) : CXT := fun outer H s E e s' => ∃ (ea : Addr) (cls : Value) (H' : Hp), e = .ref ea ∧ s'.os = s.os ∧ AllBare s'.gens ∧ Un (frs outer) [] H H' s.heap s'.heap ∧ HOk P w H' s'.heap ∧
  (s.heap.get? ea = none ∧ H' ea = none ∧ ∃ oe vs, s'.heap.get? ea = some oe ∧ (oe.cls = cls ∧ oe.dict = none) ∧ oe.data = .fields vs ∧ vs[2]? = some .none ∧
    ((vs[1]? = some .none) ∨ ∃ T oT ts, vs[1]? = some (.ref T) ∧ T ≠ ea ∧ s.heap.get? T = none ∧ H' T = none ∧ s'.heap.get? T = some oT ∧ oT.data = .fields ts ∧ ts[3]? = some .none)) ∧ E cls none H'


def Throws (X : Cx) (E : XK) : Prop := ∀ (pins : List (Addr × Obj)) (σ : St) (H : Hp) (s : Shared) (ea : Addr) (cls : Value), Inv X pins σ H s → FlyX X pins H ea cls .none s.heap → E cls none H → X.xe (.ref ea) s

theorem throws_pass {P : Program} {w : World} {X : Cx} {E : XK} (hP : X.prog = P) (hw : X.w = w) (t : Throws X E) : Passes (CXE P w) X E := by
  subst hP hw
  intro pins σ H s e s' I c
  obtain ⟨ea, cls, H', rfl, os, bare, un, hok, ⟨n0, f0, oe, vs, he, hc, hd, h2, hh⟩, q⟩ := c
  have I' : Inv X pins σ H' s' := I.call' (ch := []) os un hok bare fun b z => absurd z (by simp)
  refine t pins σ H' s' ea cls I' ⟨I.fpNone n0 f0, oe, vs, he, hc, hd, h2, ?_⟩ q
  rcases hh with h1 | ⟨T, oT, ts, h1, ne, nT, fT, hT, hdT, h3⟩
  · exact .inl ⟨h1, rfl⟩
  · exact .inr ⟨T, oT, ts, h1, ne, I.fpNone nT fT, hT, hdT, h3⟩


theorem passF {P : Program} {w : World} {X : Cx} : Passes (CXE P w) X E0 := fun _ _ _ _ _ _ _ c => by
  obtain ⟨_, _, _, _, _, _, _, _, _, q⟩ := c
  exact q.elim


theorem throws_fn {P : Program} {w : World} {K : PySem.W.Frag} {mg : Str → Option Value} {base : Heap} {N : List Str} {qual : Str} {scope : Scope} {f : Addr} {cd : Value} {A : Around} {outer : List Env} {s : Shared} {H : Hp} {E : XK} :
    Throws (cxOf (CXE P w) P w K mg base N qual scope f cd A outer s H E) E := by
  intro pins σ H' s' ea cls I F q
  show wpAny _ _ (leaving _ _) _ _ _
  unfold leaving
  refine wpAny_bind (note_ok I F rfl rfl I.ok.frames fun s1 I1 F1 => ?_)
  refine flight_ok I1 F1 fun s2 I2 F2 => ?_
  obtain ⟨f0, oe, vs, he, hc, hd, h2, hh⟩ := F2
  have ge : ∀ {b : Addr}, FpOk (cxOf (CXE P w) P w K mg base N qual scope f cd A outer s H E) pins H' b → s.heap.get? b = none := fun {b} z => by
    rcases z.2.2.2.1 with z | z
    · exact absurd (show b ∈ ([] : List Addr) from z) (by simp)
    · exact z
  refine ⟨ea, cls, H', rfl, I2.os, I2.bare, I2.base, I2.hok, ⟨ge f0, f0.1, oe, vs, he, hc, hd, h2, ?_⟩, q⟩
  rcases hh with ⟨h1, _⟩ | ⟨T, oT, ts, h1, ne, fT, hT, hdT, h3⟩
  · exact .inl h1
  · exact .inr ⟨T, oT, ts, h1, ne, ge fT, fT.1, hT, hdT, h3⟩



abbrev veMro : List Value := [.type "ValueError", .type "Exception", .type "BaseException", .type "object"]
theorem exc_obj {K : PySem.W.Frag} {h : Heap} {C : Addr} {bmB : List Value} {newId : String} (X : K.In h) (q : PySem.W.excIn K C bmB newId = true) :
    ∃ bm N nm qn bs hd sn sub ab col dd k0 k1 k2 k3 k5 mN, h.get? C = some (excClassObj nm qn C N bs bm hd sn sub ab col dd k0 k1 k2 k3 k5 newId) ∧ h.Ns N mN ∧ mN "__init__" = none ∧ OwnTail h bmB bm := by
  unfold PySem.W.excIn at q
  split at q
  case h_2 => cases q
  case h_1 dd cd sl lk =>
    split at q
    case h_2 => cases q
    case h_1 C' bm k0 k1 k2 k3 n k5 em es =>
      simp only [Bool.and_eq_true, beq_iff_eq, Bool.not_eq_true'] at q
      obtain ⟨⟨⟨⟨⟨e1, e2⟩, e3⟩, e4⟩, e5⟩, e6⟩ := q
      subst e1 e2
      obtain ⟨c1, c2, c3, c4, c5, c6, c7, c8, c9, c10, c11⟩ := cd
      dsimp only at em e3 e5 e6
      subst em e3
      obtain ⟨ls⟩ := sl
      dsimp only at es
      subst es
      exact ⟨bm, c4, c1, c5, c2, c6, c7, c8, c9, c10, dd, k0, k1, k2, k3, k5, _, X _ _ lk, .of_isNs (PySem.W.isNs_of_in X e5), PySem.W.nsMap_none_of_in X e5 e6, PySem.W.tail_of_in X e4⟩

section
variable {X : Cx} {E : XK} {x : Str} {C : Addr} {e₀ : Expr} {rest : List Expr} {t : TA} {np cpos pos : Pos}
def tRaise (E : XK) (C : Addr) (t : TA) : TS := fun _ σ H => t σ H fun vs H1 => vs.length ≤ sizeLine ∧ E (.ref C) none H1
theorem ps_raise (hE : Throws X E) (hc : X.calm = true) (hg : Gl X x) (hm : X.mg x = some (.ref C)) (hx : PySem.W.excIn X.K C veMro "ValueError.__new__" = true) (ha : PA X (e₀ :: rest) t)
    (he : starEach (e₀ :: rest) X.env = (false, eval e₀ X.env) :: starEach rest X.env := by exact starEach_cons rfl) (hpl : (backTo cpos (starEach rest X.env)).any (·.1) = false := by exact noStars rfl) (hdb : (x == ("__debug__" : Str)) = false := by decide) :
    PS X (.Raise (some (.Call (.Name x np) (e₀ :: rest) [] cpos)) none pos) (tRaise E C t) := by
  intro pins s σ H D I h
  obtain ⟨bm, N, nm, qn, bs, hd, sn, sub, ab, col, dd, k0, k1, k2, k3, k5, mN, oC, oN, ni, T⟩ := exc_obj I.ok.mod.kin hx
  have FB := PySem.F.excBase_ValueError
  refine wpAny_Raise_call_subT (C := C) (nm := nm) (q := qn) (N := N) (bs := bs) (bm := bm) (hdct := hd) (sn := sn) (sub := sub) (ab := ab) (col := col) (dd := dd) (k0 := k0) (k1 := k1) (k2 := k2) (k3 := k3) (k5 := k5) (mN := mN)
    FB (T.hasType FB.hasBase) (I.ok.hd hc) (by rw [he]; show (false || (backTo cpos (starEach rest X.env)).any (·.1)) = false; rw [hpl]; rfl) ni (ld_glob I hg hm ⟨rfl, ?_⟩ hdb)
  have q := ha cpos pins s σ H _ I h
  rw [he] at q ⊢
  refine Calls.evalArgs_plain (thn q fun us s2 ⟨vs, H1, I1, r, hl, w⟩ => ⟨rfl, by show us.length ≤ sizeLine; rw [← r.length]; exact hl, I1.bk _ _ oC, oN.keeps I1.bk, T.keeps I1.bk, fun h' e made => ?_⟩)
  obtain ⟨t0, there, _, _⟩ := made.there
  exact hE pins σ H1 _ e (.ref C) (I1.kept (t' := s2.toks) made.keeps) ⟨I1.fpNone made.new (I1.none_of made.new), _, _, there, ⟨rfl, rfl⟩, rfl, rfl, .inl ⟨rfl, rfl⟩⟩ w
end
end L2
set_option Elab.async false
set_option linter.all false
set_option maxRecDepth 100000
namespace L2
open PySem PySem.Spec PyProof.Rows


abbrev Cx.tr (X : Cx) (pn : List (Addr × Obj)) (E : Value → Shared → Prop) : Cx := { X with pn := pn, xe := E }

abbrev Cx.hdl (X : Cx) (pn : List (Addr × Obj)) (ea : Addr) (E : Value → Shared → Prop) : Cx := { X with pn := pn, xe := E, A := X.A.mark (some (.ref ea)), calm := false }

def excO (ea : Addr) (oe : Obj) : HO := .frz oe (.ext fun h => ∃ o, h.get? ea = some o)
section
variable {X : Cx} {pn pins : List (Addr × Obj)} {σ : St} {H : Hp} {s : Shared} {E : Value → Shared → Prop} {ea : Addr}
theorem Cx.Ok.tr (ok : X.Ok) : (X.tr pn E).Ok :=
  ⟨ok.mod, ok.kind, ok.glob, ok.blt, ok.above, ok.inj, ok.has, ok.cab, ok.hd, ok.frames, ok.stk, ok.exf, ok.bs, ok.bsz, ok.noex, ok.exfs, ok.funs, ok.frf⟩
theorem Cx.Ok.hdl (ok : X.Ok) : (X.hdl pn ea E).Ok :=
  ⟨ok.mod, ok.kind, ok.glob, ok.blt, ok.above, ok.inj, ok.has, ok.cab, (fun z => nomatch z), ok.frames, ok.stk, ok.exf, ok.bs, ok.bsz, ok.noex, ok.exfs, ok.funs, ok.frf⟩
theorem Inv.tr (I : Inv X pins σ H s) : Inv (X.tr (X.pn ++ pins) E) [] σ H s :=
  ⟨I.ok.tr, I.os, I.bare, I.base, I.loc, I.cell, I.free, I.freeC, fun p hp => I.pin p (by simpa using hp), I.hok, I.len⟩
theorem Inv.toHdl {E' : Value → Shared → Prop} (I : Inv (X.tr pn E') [] σ H s) (ok : X.Ok) : Inv (X.hdl pn ea E) [] σ H s :=
  ⟨ok.hdl, I.os, I.bare, I.base, I.loc, I.cell, I.free, I.freeC, I.pin, I.hok, I.len⟩
theorem Inv.ofHdl (I : Inv (X.hdl (X.pn ++ pins) ea E) [] σ H s) (ok : X.Ok) : Inv X pins σ H s :=
  ⟨ok, I.os, I.bare, I.base, I.loc, I.cell, I.free, I.freeC, fun p hp => I.pin p (by simpa using hp), I.hok, I.len⟩
theorem Inv.ofTr (I : Inv (X.tr (X.pn ++ pins) E) [] σ H s) (ok : X.Ok) : Inv X pins σ H s :=
  ⟨ok, I.os, I.bare, I.base, I.loc, I.cell, I.free, I.freeC, fun p hp => I.pin p (by simpa using hp), I.hok, I.len⟩
theorem FlyX.toHdl {E' : Value → Shared → Prop} {cls fl : Value} {h : Heap} {eb : Addr} (F : FlyX (X.tr pn E') [] H ea cls fl h) : FlyX (X.hdl pn eb E) [] H ea cls fl h := F

theorem Inv.hold (I : Inv X pins σ H s) (f : FpOk X pins H ea) {oe : Obj} (he : s.heap.get? ea = some oe) : Inv X pins σ (upd H ea (excO ea oe)) s := by
  have off : ∀ b u, H b = some u → b ≠ ea := fun b u q z => by rw [z, f.1] at q; cases q
  refine I.step (h' := s.heap) (g' := s.gens) (d' := s.drawn) (t' := s.toks) (ch := [ea]) (fun b hb => ?_) (fun _ _ _ _ _ q _ => q) (fun b o _ _ _ q _ => ⟨o.slots, q⟩) (fun b o hc _ n => ?_) (fun b o _ q => ⟨o, q⟩)
    (fun b xs q => by rw [upd_ne (off b _ q)]; exact q) (fun b o u q => by rw [upd_ne (off b _ q)]; exact q) (fun b ps q => ⟨#[], by rw [upd_ne (off b _ q), q]; simp⟩) (fun _ z => z) (fun b u q => ?_) I.bare
  · obtain rfl : b = ea := by simpa using hb
    exact ⟨f.2.2.2.1, f.2.1, f.2.2.2.2.1, f.2.2.2.2.2⟩
  · rw [upd_ne (fun z => hc (by simp [z]))]
    exact n
  · by_cases hb : b = ea
    · subst hb
      rw [upd_same] at q
      cases q
      exact ⟨he, ⟨_, he⟩, ⟨_, he⟩, fun h1 h2 ⟨o, e⟩ k => ⟨o, k o e⟩⟩
    · rw [upd_ne hb] at q
      exact (I.hok b u q).stay (fun _ _ _ z => z) (fun c z => by rw [upd_ne (off c _ z)]; exact z) fun c xs z => by rw [upd_ne (off c _ z)]; exact z

theorem Inv.relocal {h' : Heap} {m' : Str → Option Value} {t' : Nat} (I : Inv X pins σ H s) (hn : h'.Ns X.env.locals m') (hs : Heap.SameBut X.env.locals s.heap h') :
    Inv X pins (X.N.map fun _ => none) H { s with heap := h', toks := t' } := by
  have nl : ∀ b o, X.s₀.heap.get? b = some o → b ≠ X.env.locals := fun b o e => Nat.ne_of_lt (Nat.lt_of_lt_of_le (Heap.lt_size e) I.ok.above)
  refine ⟨I.ok, I.os, I.bare, ⟨fun b o e n hb hx => ?_, fun b o e n hb hx => ?_, I.base.free, fun b o e hx => ?_, I.base.tups, I.base.frzs, I.base.tbls⟩, ⟨m', hn, fun i x v e1 e2 _ => ?_⟩, fun x c e => ?_, I.free, I.freeC, fun p hp => ?_, fun b u q => ?_, by simp⟩
  · exact (hs.2 b (nl b o e)).trans (I.base.keep b o e n hb hx)
  · obtain ⟨sl, q⟩ := I.base.slot b o e n hb hx
    exact ⟨sl, (hs.2 b (nl b o e)).trans q⟩
  · obtain ⟨o', q⟩ := I.base.there b o e hx
    exact ⟨o', (hs.2 b (nl b o e)).trans q⟩
  · rw [List.getElem?_map, e1] at e2
    cases e2
  · obtain ⟨v, z⟩ := I.cell x c e
    exact ⟨v, z.sameBut hs (I.cne x c e)⟩
  · obtain ⟨e, n, ne, nf, d⟩ := I.pin p hp
    exact ⟨(hs.2 p.1 ne).trans e, n, ne, nf, d⟩
  · refine (I.hok b u q).stay (fun c v hc z => (hs.2 c ?_).trans z) (fun _ z => z) fun _ _ z => z
    rintro rfl
    rcases hc with hc | hc
    · rw [← hc, I.free] at q; cases q
    · rw [I.free] at hc; cases hc
end


def tryE (X : Cx) (pn : List (Addr × Obj)) (R : XK) : Value → Shared → Prop := fun e s => ∃ (ea : Addr) (cls : Value) (σ : St) (H : Hp), e = .ref ea ∧ Inv (X.tr pn fun _ _ => True) [] σ H s ∧ FlyX (X.tr pn fun _ _ => True) [] H ea cls .none s.heap ∧ R cls none H
theorem throws_try {X : Cx} {pn : List (Addr × Obj)} {R : XK} : Throws (X.tr pn (tryE X pn R)) R := by
  intro pins σ H s ea cls I F q
  refine ⟨ea, cls, σ, H, rfl, ⟨⟨I.ok.mod, I.ok.kind, I.ok.glob, I.ok.blt, I.ok.above, I.ok.inj, I.ok.has, I.ok.cab, I.ok.hd, I.ok.frames, I.ok.stk, I.ok.exf, I.ok.bs, I.ok.bsz, I.ok.noex, I.ok.exfs, I.ok.funs, I.ok.frf⟩, I.os, I.bare, I.base, I.loc, I.cell, I.free, I.freeC, fun p hp => I.pin p ?_, I.hok, I.len⟩, ?_, q⟩
  · rw [List.append_nil] at hp
    exact List.mem_append_left _ hp
  · have cut : ∀ {b : Addr}, FpOk (X.tr pn (tryE X pn R)) pins H b → FpOk (X.tr pn fun _ _ => True) [] H b := fun {b} f => ⟨f.1, f.2.1, f.2.2.1, f.2.2.2.1, f.2.2.2.2.1, fun p hp => f.2.2.2.2.2 p (by rw [List.append_nil] at hp; exact List.mem_append_left _ hp)⟩
    obtain ⟨f0, oe, vs, he, hc, hd, h2, hh⟩ := F
    refine ⟨cut f0, oe, vs, he, hc, hd, h2, ?_⟩
    rcases hh with z | ⟨T, oT, ts, h1, ne, fT, hT, hdT, h3⟩
    · exact .inl z
    · exact .inr ⟨T, oT, ts, h1, ne, cut fT, hT, hdT, h3⟩


def fall (N : List Str) (D : Ends) : Ends := { nx := fun _ H => D.nx (N.map fun _ => none) H, rt := D.rt, bk := fun _ H => D.bk (N.map fun _ => none) H, ct := fun _ H => D.ct (N.map fun _ => none) H }
def tTry (R : XK) (N : List Str) (i : Nat) (tb : TS) (th : Addr → TS) : TS := fun D σ H => tb D σ H ∧ ∀ (ea : Addr) (oe : Obj) (vs : Array Value) (cls : Value) (σ' : St) (H' : Hp), R cls none H' → H' ea = none → oe.cls = cls → oe.dict = none →
  oe.data = .fields vs → vs[2]? = some .none → σ'.length = N.length → th ea (fall N D) (σ'.set i (some (.ref ea))) (upd H' ea (excO ea oe))

theorem ps_try {X : Cx} {x n : Str} {i : Nat} {c : Addr} {R : XK} {tb : TS} {th : Addr → TS} {body suite : List Stmt} {b₀ : Stmt} {np hpos pos : Pos} (hs : X.stack = X.env :: X.outer) (hf : X.env.frame = some X.env.locals) (hg : Gl X x) (hm : X.mg x = some (.ref c))
    (hR : ∀ cls o H, R cls o H → PySem.W.exmOne X.K cls (.ref c) = some true) (hN : X.N.Nodup) (hi : X.N[i]? = some n) (hn : X.env.scope.names.lookup n = some .local)
    (hb : ∀ pn, PSs (X.tr pn (tryE X pn R)) body tb) (hh : ∀ pn ea E, PSs (X.hdl pn ea E) (b₀ :: suite) (th ea)) (hdb : (x == ("__debug__" : Str)) = false := by decide) :
    PS X (.Try body [.ExceptHandler (some (.Name x np)) (some n) (b₀ :: suite) hpos] [] [] pos) (tTry R X.N i tb th) := by
  intro pins s σ H D I h
  obtain ⟨h1, h2⟩ := h
  have ok := I.ok
  have cls0 : (X.env.scope.kind == .class || (X.env.scope.kind == .module && X.env.locals != X.env.globals)) = false := by rw [ok.kind]; rfl
  refine wpAny_Try_except (wpAny_mono (hb (X.pn ++ pins) [] s σ H D I.tr h1) (fun f s1 q => ?_) fun e s1 q => ?_)
  · cases f with
    | next =>
      obtain ⟨σ', H', I', q⟩ := q
      exact wpAny_execs_nil ⟨σ', H', I'.ofTr ok, q⟩
    | brk => obtain ⟨σ', H', I', q⟩ := q; exact ⟨σ', H', I'.ofTr ok, q⟩
    | cont => obtain ⟨σ', H', I', q⟩ := q; exact ⟨σ', H', I'.ofTr ok, q⟩
    | ret u => obtain ⟨v, σ', H', I', r, q⟩ := q; exact ⟨v, σ', H', I'.ofTr ok, r, q⟩
  · obtain ⟨ea, cls, σ1, H1, rfl, I1, F1, r1⟩ := q
    refine note_ok (X := X.tr (X.pn ++ pins) fun _ _ => True) I1 F1 hs hf I1.ok.frames fun s2 I2 F2 => ?_
    refine flight_ok I2 F2 fun s3 I3 F3 => ?_
    have J3 : Inv (X.hdl (X.pn ++ pins) ea fun _ _ => True) [] σ1 H1 s3 := I3.toHdl ok
    obtain ⟨_, oe3, _, he3, hc3, _⟩ := id F3
    refine wpAny_handleBy_cons (codeAny_handlers_test (ld_glob J3 hg hm ?_ hdb)) (by intro q; cases q)
    have LT : PySem.W.Looks (model X.prog X.w) s3.heap (typeOf (.ref ea)) cls := by
      rw [← hc3.1]
      exact (PySem.W.Looks.ld he3).andThen .now
    refine (PySem.W.exm_one J3.kIn LT (hR cls none H1 r1)).here ?_
    refine codeAny_handlers_suite_as ?_
    refine flight_ok J3 F3.toHdl fun s4 J4 F4 => ?_
    obtain ⟨f4, oe, vs, he, hc, hd, h2', _⟩ := F4
    have J5 := J4.hold f4 he
    refine store_ok (X := X.hdl (X.pn ++ pins) ea fun _ _ => True) J5 hN hi (.inl hn) (v := .ref ea) rfl (fun s6 J6 => ?_) (.inr hn)
    have len : σ1.length = X.N.length := I1.len
    have J6' : ∀ E, Inv (X.hdl (X.pn ++ pins) ea E) [] (σ1.set i (some (.ref ea))) (upd H1 ea (excO ea oe)) s6 := fun E => ⟨ok.hdl, J6.os, J6.bare, J6.base, J6.loc, J6.cell, J6.free, J6.freeC, J6.pin, J6.hok, J6.len⟩
    refine wpAny_mono (hh (X.pn ++ pins) ea _ [] s6 _ _ (fall X.N D) (J6' _) (h2 ea oe vs cls σ1 H1 r1 f4.1 hc.1 hc.2 hd h2' len)) (fun f s7 q => ?_) fun _ _ z => z
    have go : ∀ {σ7 : St} {H7 : Hp} {E7 : Value → Shared → Prop}, Inv (X.hdl (X.pn ++ pins) ea E7) [] σ7 H7 s7 → (∀ s8, Inv X pins (X.N.map fun _ => none) H7 s8 → SP X pins D f s8) →
        wpAny (model X.prog X.w) X.A (do bindName X.env n .none; unbindBehindTheSuite X.env n hpos) (fun _ s8 => SP X pins D f s8) X.xe s7 := fun {σ7 H7 E7} J k => by
      obtain ⟨m, hns, _⟩ := J.loc
      exact wpAny_nameGoes hn hns cls0 fun h' m' hn' hs' => k _ ((J.ofHdl ok).relocal hn' hs')
    cases f with
    | next => obtain ⟨σ', H', I', q⟩ := q; exact go I' fun s8 I8 => ⟨_, _, I8, q⟩
    | brk => obtain ⟨σ', H', I', q⟩ := q; exact go I' fun s8 I8 => ⟨_, _, I8, q⟩
    | cont => obtain ⟨σ', H', I', q⟩ := q; exact go I' fun s8 I8 => ⟨_, _, I8, q⟩
    | ret u => obtain ⟨v, σ', H', I', r, q⟩ := q; exact go I' fun s8 I8 => ⟨v, _, _, I8, r, q⟩
end L2
set_option Elab.async false
set_option linter.all false
set_option maxRecDepth 100000
namespace L2
open PySem PySem.Spec PyProof.Rows


def Quiet (A : Around) (h : Heap) : Prop := A.handled = none ∨ ∃ ea oe vs, A.handled = some (.ref ea) ∧ h.get? ea = some oe ∧ oe.data = .fields vs ∧ vs[2]? = some .none
theorem Quiet.keeps {A : Around} {h h' : Heap} (q : Quiet A h) (k : ∀ b o, (A.handled = some (.ref b)) → h.get? b = some o → h'.get? b = some o) : Quiet A h' := by
  rcases q with q | ⟨ea, oe, vs, e1, e2, e3, e4⟩
  · exact .inl q
  · exact .inr ⟨ea, oe, vs, e1, k ea oe e1 e2, e3, e4⟩
theorem entry_unchain : entryFor table "proto.unchain" = some Builtin.«proto.unchain» := entryFor_of_tree (by kernel_rfl)
section
variable {prog : Program} {w : World} {A : Around} {E : Value → Shared → Prop} {s : Shared}
theorem raise_quiet {α : Type} {Q : α → Shared → Prop} {a : Addr} {oa : Obj} {ws : Array Value} (q : Quiet A s.heap) (ha : s.heap.get? a = some oa) (hd : oa.data = .fields ws) (hz : 2 < ws.size) (hne : A.handled ≠ some (.ref a))
    (k : ∀ h', (∀ b o, b ≠ a → s.heap.get? b = some o → h'.get? b = some o) → (∃ o', h'.get? a = some o' ∧ o'.cls = oa.cls) → E (.ref a) { s with heap := h' }) : wpAny (model prog w) A (raiseNew (.ref a) : Sem α) Q E s := by
  unfold raiseNew
  refine wpAny_bind (wpAny_handled ?_)
  rcases q with q | ⟨ea, oe, vs, e1, e2, e3, e4⟩
  · rw [q]
    exact wpAny_bind (wpAny_pure (wpAny_throw (k s.heap (fun _ _ _ z => z) ⟨oa, ha, rfl⟩)))
  · have ne : ea ≠ a := fun z => hne (by rw [← z]; exact e1)
    rw [e1]
    dsimp only
    rw [if_pos (show (Value.ref ea != Value.ref a) = true by simp [ne])]
    refine wpAny_bind (wpAny_holding (runValue_entry entry_unchain ?_))
    unfold Builtin.«proto.unchain»
    refine wpAny_bind (wpAny_field e2 e3 e4 ?_)
    rw [if_pos (by decide)]
    refine wpAny_bind (wpAny_pure (wpAny_pure ⟨.none, rfl, ?_⟩))
    refine wpAny_bind ?_
    unfold updateField
    refine wpAny_bind (wpAny_load ha ?_)
    rw [hd]
    dsimp only
    rw [if_pos hz]
    refine wpAny_update ha (wpAny_throw (k _ (fun b o hb z => (Heap.get?_update_other _ _ (Ne.symm hb)).trans z) ⟨_, Heap.get?_update_self _ ha (Obj.isFreed_of_fields (Obj.data_mapFields hd _)), Obj.cls_mapFields _ _⟩))


theorem stop_quiet {α : Type} {it : Addr} {o : Obj} {ws : Array Value} {Q : α → Shared → Prop} (q : Quiet A s.heap) (hi : A.handled ≠ some (.ref it)) (ho : s.heap.get? it = some o) (hd : o.data = .fields ws) (hz : 0 < ws.size)
    (k : ∀ h' e, (∀ b u, b ≠ it → s.heap.get? b = some u → h'.get? b = some u) → (∃ o', h'.get? e = some o' ∧ o'.cls = .type "StopIteration") → E (.ref e) { s with heap := h' }) :
    wpAny (model prog w) A (do setField (.ref it) 0 .none; raiseNew (← newExc (.type "StopIteration") []) : Sem α) Q E s := by
  refine wpAny_bind (wpAny_setField ho hd hz ?_)
  unfold newExc newTuple
  refine wpAny_bind (wpAny_bind (wpAny_newObj_type ?_ (by size_fits)))
  refine wpAny_bind (m := firstArgMember _ _) (wpAny_of_eq (a := Value.none) (by first | rfl | (simp only [firstArgMember]; rfl)) ?_)
  refine wpAny_newObj_type ?_ (by size_fits)
  have kp : ∀ (u1 u2 : Obj) b u, b ≠ it → s.heap.get? b = some u → (((s.heap.update it (Obj.mapFields (·.setIfInBounds 0 Value.none))).push u1).push u2).get? b = some u := fun u1 u2 b u hb z => Heap.get?_push_of_some _ (Heap.get?_push_of_some _ ((Heap.get?_update_other _ _ (Ne.symm hb)).trans z))
  have sz : ∀ u : Obj, ((s.heap.update it (Obj.mapFields (·.setIfInBounds 0 Value.none))).push u).objs.size = s.heap.objs.size + 1 := fun u => by rw [Heap.size_push, Heap.size_after_update]
  refine raise_quiet (q.keeps fun b u hb z => kp _ _ b u (fun c => hi (by rw [← c]; exact hb)) z) (Heap.get?_push_size _ rfl) rfl (by simp; omega) (fun z => ?_) fun h' k1 k2 => ?_
  · rcases q with q | ⟨ea, oe, vs, e1, e2, _⟩
    · rw [q] at z; cases z
    · rw [e1] at z
      have l1 := Heap.lt_size e2
      have c := Value.ref.inj (Option.some.inj z)
      rw [sz] at c
      rw [c] at l1
      exact absurd l1 (Nat.not_lt_of_le (Nat.le_succ _))
  · refine k h' _ (fun b u hb z => k1 b u (fun c => ?_) (kp _ _ b u hb z)) k2
    have l1 := Heap.lt_size z
    rw [sz] at c
    rw [c] at l1
    exact absurd l1 (Nat.not_lt_of_le (Nat.le_succ _))

theorem list_end_q {it l : Addr} {j : Nat} {its : Array Value} {Q : Option Value → Shared → Prop} (q : Quiet A s.heap) (hq : A.handled ≠ some (.ref it)) (hit : s.heap.IsListIter it l j) (hl : s.heap.IsList l its) (hx : its[j]? = none)
    (k : ∀ h', (∀ b u, b ≠ it → s.heap.get? b = some u → h'.get? b = some u) → Q none { s with heap := h' }) : wpAny (model prog w) A (pyNext (.ref it)) Q E s := by
  obtain ⟨oi, hoi, ci, di⟩ := id hit
  obtain ⟨ol, hol, _, nl, dl⟩ := hl
  unfold pyNext
  refine wpAny_bind (wpAny_attempt (wpAny_callSpecial?_slot (name := Str.ofString "__next__") hit.typeIs slot_listiter_next (wpAny_call_entry slot_listiter_next hit.typeIs entry_listiter_next ?_ (args_listiter_next _))))
  refine wpAny_bind (m := field (.ref it) 0) (wpAny_field hoi di (x := .ref l) rfl ?_)
  rw [if_neg (show ¬ ((Value.ref l == Value.none) = true) from Bool.false_ne_true)]
  refine wpAny_bind (m := field (.ref it) 1) (wpAny_field hoi di (x := .int j 0) rfl (wpAny_bind (m := seqItems? (.ref l)) (wpAny_seqItems hol dl ?_)))
  simp only [Int.toNat_natCast, hx]
  unfold Builtin.SmallTypes.stopIteration
  refine wpAny_bind (wpAny_rule (stop_quiet (A := A.in1) q hq hoi di (by simp) fun h' e k1 ⟨o', e1, e2⟩ => ?_))
  exact wpAny_bind (wpAny_isInstance (T := "StopIteration") (b := true) ⟨o', e1, e2⟩ isSubtype_stop (wpAny_pure (k h' k1)))

theorem tup_end_q {it l : Addr} {j : Nat} {its : Array Value} {Q : Option Value → Shared → Prop} (q : Quiet A s.heap) (hq : A.handled ≠ some (.ref it)) (hit : IsTupIter s.heap it l j) (hl : IsTup s.heap l its) (hx : its[j]? = none)
    (k : ∀ h', (∀ b u, b ≠ it → s.heap.get? b = some u → h'.get? b = some u) → Q none { s with heap := h' }) : wpAny (model prog w) A (pyNext (.ref it)) Q E s := by
  obtain ⟨oi, hoi, ci, di⟩ := id hit
  obtain ⟨ol, hol, _, nl, dl⟩ := hl
  unfold pyNext
  refine wpAny_bind (wpAny_attempt (wpAny_callSpecial?_slot (name := Str.ofString "__next__") hit.typeIs slot_tupleiter_next (wpAny_call_entry slot_tupleiter_next hit.typeIs entry_tupleiter_next ?_ (args_tupleiter_next _))))
  refine wpAny_bind (m := field (.ref it) 0) (wpAny_field hoi di (x := .ref l) rfl ?_)
  rw [if_neg (show ¬ ((Value.ref l == Value.none) = true) from Bool.false_ne_true)]
  refine wpAny_bind (m := field (.ref it) 1) (wpAny_field hoi di (x := .int j 0) rfl (wpAny_bind (m := seqItems? (.ref l)) (wpAny_seqItems hol dl ?_)))
  simp only [Int.toNat_natCast, hx]
  unfold Builtin.SmallTypes.stopIteration
  refine wpAny_bind (wpAny_rule (stop_quiet (A := A.in1) q hq hoi di (by simp) fun h' e k1 ⟨o', e1, e2⟩ => ?_))
  exact wpAny_bind (wpAny_isInstance (T := "StopIteration") (b := true) ⟨o', e1, e2⟩ isSubtype_stop (wpAny_pure (k h' k1)))

theorem unpack_q {l : Addr} {its : Array Value} {ts : List (Bool × (Value → Sem Unit))} {Q : Unit → Shared → Prop} (q : Quiet A s.heap) (hl : IsTup s.heap l its) (hn : ts.length = its.size) (hst : ts.findIdx? (·.1) = none)
    (k : ∀ h', (∀ b u, s.heap.get? b = some u → h'.get? b = some u) → wpAny (model prog w) A (assignInOrder (ts.map (·.2)) its.toList) Q E { s with heap := h' }) : wpAny (model prog w) A (unpack (.ref l) ts) Q E s := by
  have hlt : l ≠ s.heap.objs.size := by obtain ⟨o, e, _⟩ := hl; exact Nat.ne_of_lt (Heap.lt_size e)
  have new : A.handled ≠ some (.ref s.heap.objs.size) := fun z => by
    rcases q with q | ⟨ea, oe, vs, e1, e2, _⟩
    · rw [q] at z; cases z
    · rw [e1] at z
      have c := Value.ref.inj (Option.some.inj z)
      have l1 := Heap.lt_size e2
      rw [c] at l1
      exact Nat.lt_irrefl _ l1
  unfold unpack
  rw [hn, hst]
  refine wpAny_bind (wpAny_holding ?_)
  unfold unpackItems
  refine wpAny_bind ?_
  unfold notIterableAtAll
  refine wpAny_bind (wpAny_specialOf hl.typeIs slot_tuple_iter.lookup (wpAny_pure ?_))
  simp only [Bool.false_eq_true, if_false]
  refine wpAny_bind (wpAny_holding (iter_tuple hl (wpAny_bind (wpAny_holding (draw_tuple hlt its.size 0 _ _ ⟨_, Heap.get?_push_size _ rfl, rfl, rfl⟩ (hl.push _) (by omega) fun h1 hi1 hs1 => ?_)))))
  rw [show List.take its.size (List.drop 0 its.toList) = its.toList by rw [List.drop_zero]; exact List.take_of_length_le (by simp), if_neg (by simp)]
  have kp : ∀ b u, s.heap.get? b = some u → h1.get? b = some u := fun b u z => (hs1.2 b (Nat.ne_of_lt (Heap.lt_size z))).trans (Heap.get?_push_of_some _ z)
  refine wpAny_bind (wpAny_holding (tup_end_q (s := { s with heap := h1 }) (q.keeps fun b u _ z => kp b u z) new hi1 ((hl.push _).extBut hs1.extBut hlt) (by simp) fun h2 k2 => ?_))
  simp only [Option.isSome_none, Bool.false_eq_true, if_false]
  exact wpAny_pure (k h2 fun b u z => k2 b u (Nat.ne_of_lt (Heap.lt_size z)) (kp b u z))
end



def HdR (A : Around) (H : Hp) : Prop := A.handled = none ∨ ∃ ea oe vs u, A.handled = some (.ref ea) ∧ H ea = some (.frz oe u) ∧ oe.data = .fields vs ∧ vs[2]? = some .none
section
variable {X : Cx} {pins : List (Addr × Obj)} {σ : St} {H : Hp} {s : Shared}
theorem Inv.quiet' (I : Inv X pins σ H s) (q : HdR X.A X.H₀) : Quiet X.A s.heap ∧ ∀ b, H b = none → X.A.handled ≠ some (.ref b) := by
  rcases q with q | ⟨ea, oe, vs, u, e1, e2, e3, e4⟩
  · exact ⟨.inl q, fun b _ z => by rw [q] at z; cases z⟩
  · have e := I.base.frzs ea oe u e2
    refine ⟨.inr ⟨ea, oe, vs, e1, (I.hok ea _ e).1, e3, e4⟩, fun b hb z => ?_⟩
    rw [e1] at z
    cases z
    rw [e] at hb
    cases hb
theorem Inv.hdr (I : Inv X pins σ H s) (q : HdR X.A X.H₀) : HdR X.A H := by
  rcases q with q | ⟨ea, oe, vs, u, e1, e2, e3, e4⟩
  · exact .inl q
  · exact .inr ⟨ea, oe, vs, u, e1, I.base.frzs ea oe u e2, e3, e4⟩

theorem pg_tupQ {es : List Expr} {k : Nat} {t : TGs} {n : Nat} {pos : Pos} (hq : HdR X.A X.H₀) (h : PGs X es t) (hn : (assignEach es X.env).length = n := by rfl) (hst : (assignEach es X.env).findIdx? (·.1) = none := by rfl) :
    PG X (.Tuple es k pos) (gTup X.K n t) := by
  intro pins s σ H v u Q I r hw
  obtain ⟨a, xs, e1, hs, hl, hw⟩ := hw
  subst e1
  cases r
  obtain ⟨its, rv, ht, hz⟩ := I.tuple hs
  rw [assign_Tuple]
  refine wpAny_bind (wpAny_standAt (unpack_q (I.quiet' hq).1 ht (by simp [hn, ← hl, rv.length]) hst fun h' kp => ?_))
  exact h pins _ σ H xs _ Q (I.kept (t' := s.toks) kp) (by simpa using rv) hw
end
end L2
set_option Elab.async false
set_option linter.all false
set_option maxRecDepth 100000
namespace L2
open PySem PySem.Spec PyProof.Rows


def cxComp (X : Cx) (Nc : List Str) (scope : Scope) (cl : List (Str × Addr)) (C it : Addr) (s : Shared) (H : Hp) : Cx :=
  { X with N := Nc, s₀ := s, H₀ := H, env := compEnvC scope cl C X.env, outer := X.stack, ex := [it], fn := fun _ => false, pn := [], xe := fun _ _ => False }

def PIf (X : Cx) (ifs : List Expr) (t : TT) : Prop :=
  ∀ (pins : List (Addr × Obj)) (s : Shared) (σ : St) (H : Hp) (Q : Bool → Hp → Prop), Inv X pins σ H s → t σ H Q →
    wpAny (model X.prog X.w) X.A (forIn ifs true fun c r => if r = true then do let ok ← isTrue c X.env (eval c X.env); pure (ForInStep.yield ok) else pure (ForInStep.yield r)) (TP X pins σ Q) X.xe s
def tNoIf : TT := fun _ H Q => Q true H
theorem pif_nil {X : Cx} : PIf X [] tNoIf := fun _ _ _ H _ I h => wpAny_tests_nil ⟨H, I, h⟩
theorem pif_one {X : Cx} {c : Expr} {t : TT} (h : PT X c t) : PIf X [c] t := fun pins s σ H Q I q => wpAny_tests_one (h pins s σ H Q I q)


theorem comp_loop {prog : Program} {w : World} {A : Around} {R : Result → Shared → Prop} {s : Shared} {elt tgt iter : Expr} {ifs : List Expr} {scope : Scope} {pos : Pos} {it acc : Value} {env : Env} (J : Nat → Shared → Prop)
    (turn : ∀ n s, J n s → wpAny (model prog w) A (pyNext it) (fun r s1 => match r with
      | none => R (.ok .next) s1
      | some v => wpAny (model prog w) A (letOwnedTupleGo tgt it v) (fun _ s2 => wpAny (model prog w) A (assign tgt env v) (fun _ s3 =>
          wpAny (model prog w) A (forIn ifs true fun c r => if r = true then do let ok ← isTrue c env (eval c env); pure (ForInStep.yield ok) else pure (ForInStep.yield r)) (fun ok s4 =>
            if ok = true then wpAny (model prog w) A (eval elt env) (fun x s5 => wpAny (model prog w) A (call (.builtin "list.append") [acc, x]) (fun _ s6 => ∃ m, m < n ∧ J m s6) (fun _ _ => False) s5) (fun _ _ => False) s4
            else ∃ m, m < n ∧ J m s4) (fun _ _ => False) s3) (fun _ _ => False) s2) (fun _ _ => False) s1) (fun _ _ => False) s)
    (n : Nat) (h : J n s) : codeAny (model prog w) A (.compLoop (.ListComp elt [⟨tgt, iter, ifs, 0⟩] scope pos) 0 it acc env) R s := by
  refine codeAny_loop rfl J (fun n s hJ => ?_) n h
  show wpAny _ A ((compTurn (.ListComp elt [⟨tgt, iter, ifs, 0⟩] scope pos) 0 it acc env).onRaise (fun x => do noteFrame x env; theTreesLotGoes x)) _ _ s
  refine wpAny_noted (wpAny_mono (E := fun _ _ => False) ?_ (fun _ _ z => z) fun _ _ z => z.elim)
  rw [compTurn_list]
  refine wpAny_bind (wpAny_standAt (wpAny_bind (thn (turn n s hJ) fun r s1 h1 => ?_)))
  cases r with
  | none => exact wpAny_pure h1
  | some v =>
    refine wpAny_bind (thn h1 fun _ s2 h2 => wpAny_bind (thn h2 fun _ s3 h3 => wpAny_bind (thn h3 fun ok s4 h4 => ?_)))
    cases ok with
    | false => exact wpAny_pure ⟨rfl, h4⟩
    | true => exact wpAny_bind (wpAny_bind (thn h4 fun x s5 h5 => wpAny_bind (thn h5 fun _ s6 h6 => wpAny_pure (wpAny_pure ⟨rfl, h6⟩))))


def capt (src : List (Option Nat)) (σ : St) : St := src.map fun o => o.bind fun j => (σ[j]?).join

def tTurns (K : PySem.W.Frag) (a D : Addr) (xs : List V) (g : TG) (tt : TT) (te : TE) (fin : List V → Hp → Prop) (σ : St) (H : Hp) : Prop :=
  ∃ W : Nat → List V → St → Hp → Prop, W 0 [] σ H ∧ (∀ i ys σ H, W i ys σ H → SqL K H a xs ∧ H D = some (.lst ys)) ∧
    (∀ i x ys σ H, xs[i]? = some x → W i ys σ H → g x σ H fun σ1 H1 => tt σ1 H1 fun b H2 => if b = true then te σ1 H2 fun y H3 => H3 D = some (.lst ys) ∧ ys.length < sizeLine ∧ W (i + 1) (ys ++ [y]) σ1 (upd H3 D (.lst (ys ++ [y]))) else W (i + 1) ys σ1 H2) ∧
    ∀ ys σ H, W xs.length ys σ H → fin ys H
def tComp (K : PySem.W.Frag) (src : List (Option Nat)) (tl : TE) (g : TG) (tt : TT) (te : TE) : TE := fun σ H Q => tl σ H fun x H1 => ∃ a xs, x = .ref a ∧ SqL K H1 a xs ∧
  ∀ D, H1 D = none → tTurns K a D xs g tt te (fun ys H2 => Q (.ref D) H2) (capt src σ) (upd H1 D (.lst []))

section
variable {X : Cx} {elt iter tgt : Expr} {ifs : List Expr} {scope : Scope} {cl : List (Str × Addr)} {Nc : List Str} {src : List (Option Nat)} {g : TG} {tt : TT} {te : TE}

structure CompOk (X : Cx) (Nc : List Str) (scope : Scope) (cl : List (Str × Addr)) (src : List (Option Nat)) : Prop where
  clos : closureFor scope X.env = pure cl
  kind : scope.kind = .function
  cell : ∀ y ∈ scope.names, y.2 ≠ .cell
  names : ∀ y ∈ scope.names, y.2 = .local → scope.names.lookup y.1 = some .local
  sub : ∀ x c, cl.lookup x = some c → X.env.cells.lookup x = some c
  has : ∀ x, ((relabel scope X.env).names.lookup x = some .cell ∨ (relabel scope X.env).names.lookup x = some .free) → ∃ c, cl.lookup x = some c
  frm : ∀ (i j : Nat), src[i]? = some (some j) → ∃ x, Nc[i]? = some x ∧ X.N[j]? = some x ∧ X.env.scope.names.lookup x = some .cell ∧ (relabel scope X.env).names.lookup x = some .cell
  len : src.length = Nc.length

theorem comp_block {pins : List (Addr × Obj)} {σ : St} {H : Hp} {s : Shared} {a D it : Addr} {xs : List V} {R : Addr → Result → Shared → Prop} {fin : List V → Hp → Prop} {pos : Pos} {E : Value → Shared → Prop}
    (c : CompOk X Nc scope cl src) (hq : HdR X.A X.H₀) (I : Inv X pins σ H s) (hit : s.heap.IsListIter it a 0) (f : FpOk X pins H it) (hz : xs.length ≤ sizeLine)
    (hb : ∀ C s' H', HdR X.A H' → PG (cxComp X Nc scope cl C it s' H') tgt g ∧ PIf (cxComp X Nc scope cl C it s' H') ifs tt ∧ PE (cxComp X Nc scope cl C it s' H') elt te)
    (h : tTurns X.K a D xs g tt te fin (capt src σ) H)
    (kend : ∀ C ys σ' H' s', H C = none → Inv (cxComp X Nc scope cl C it s H) [] σ' H' s' → H' D = some (.lst ys) → fin ys H' → R C (.ok .next) s') :
    wpAny (model X.prog X.w) X.A (newFunctionEnv scope X.env.globals cl [] X.env.qual none .none (some X.env)) (fun cenv s4 =>
      codeAny (model X.prog X.w) X.A (.compStart (.ListComp elt [⟨tgt, iter, ifs, 0⟩] scope pos) 0 (.ref it) (.ref D) { cenv with scope := relabel scope X.env }) (R cenv.locals) s4) E s := by
  obtain ⟨W, w0, wi, wt, wf⟩ := h
  refine wpAny_newFunctionEnv c.cell (by intro y hy; simp at hy) (fun h1 hn1 hs1 => ?_) c.kind
  have hC0 : H s.heap.objs.size = none := I.hok.fresh (Nat.le_refl _)
  have old : ∀ b o, s.heap.get? b = some o → h1.get? b = some o := fun b o e => hs1.extBut b o (Nat.ne_of_lt (Heap.lt_size e)) (Heap.get?_push_of_some _ e)
  have itlt : it < s.heap.objs.size := by obtain ⟨o, e, _⟩ := hit; exact Heap.lt_size e
  have inStk : it ∉ frs X.stack := fun z => (List.mem_cons.mp (I.stkSub it z)).elim f.2.1 f.2.2.1
  have Yok : (cxComp X Nc scope cl s.heap.objs.size it s H).Ok := by
    refine ⟨I.ok.mod, c.kind, I.ok.glob, I.ok.blt, Nat.le_refl _, fun x y b h1 h2 => I.ok.inj x y b (c.sub x b h1) (c.sub y b h2), fun x hx => c.has x hx, (fun x b h1 _ => nomatch h1), I.ok.hd, I.ok.frames, .inl rfl, fun b hb => ?_, fun b o e => I.bs b o e, Nat.le_trans I.ok.bsz I.sz, fun b o e hb => ?_, fun b hb => ?_, I.stack, I.stkFree⟩
    · obtain rfl : b = it := by simpa [cxComp] using hb
      exact ⟨Nat.ne_of_lt itlt, fun x b' e => f.2.2.2.2.1 x b' (c.sub x b' e)⟩
    · obtain rfl : b = it := by simpa [cxComp] using hb
      have e0 := (I.ok.bs b o e).1
      rcases f.2.2.2.1 with z | z
      · exact I.ok.noex b o e z
      · rw [z] at e0; cases e0
    · obtain rfl : b = it := by simpa [cxComp] using hb
      exact inStk
  have J0 : Inv (cxComp X Nc scope cl s.heap.objs.size it s H) [] (capt src σ) H { s with heap := h1, toks := s.toks + ([] : List (Str × Value)).length } := by
    refine ⟨Yok, rfl, I.bare, Un.kept old, ⟨_, hn1, fun i x v e1 e2 e3 => ?_⟩, fun x b e => ?_, hC0, fun x b e => I.freeC x b (c.sub x b e), fun p hp => absurd (show p ∈ ([] : List (Addr × Obj)) from hp) (by simp), I.hok.kept old, ?_⟩
    · unfold capt at e2
      rw [List.getElem?_map] at e2
      cases q : src[i]? with
      | none => rw [q] at e2; cases e2
      | some oj =>
        rw [q] at e2
        cases oj with
        | none => cases e2
        | some j =>
          obtain ⟨y, y1, y2, y3, y4⟩ := c.frm i j q
          obtain rfl : y = x := Option.some.inj (y1.symm.trans e1)
          have e2' : (σ[j]?).join = some v := Option.some.inj e2
          have e2s : σ[j]? = some (some v) := by
            cases z : σ[j]? with
            | none => rw [z] at e2'; cases e2'
            | some ov => rw [z] at e2'; exact congrArg some e2'
          obtain ⟨m, hn, hl⟩ := I.loc
          obtain ⟨u, r, l⟩ := hl j y v y2 e2s (.inr (.inl y3))
          refine ⟨u, r, .inr ⟨.inl y4, ?_⟩⟩
          rcases l with ⟨k1, _⟩ | ⟨_, b, k2, k3⟩
          · exact absurd (k1.symm.trans y3) (by intro z; cases z)
          · obtain ⟨b', k4⟩ := c.has y (.inl y4)
            have k5 := c.sub y b' k4
            rw [k2] at k5
            cases k5
            obtain ⟨o, ho, hd⟩ := k3
            exact ⟨b, k4, o, old b o ho, hd⟩
    · obtain ⟨v, o, ho, hd⟩ := I.cell x b (c.sub x b e)
      exact ⟨v, o, old b o ho, hd⟩
    · unfold capt
      rw [List.length_map]
      exact c.len
  have hit1 : h1.IsListIter it a 0 := hit.at fun o e => old it o e
  obtain ⟨bg, bi, be⟩ := hb s.heap.objs.size s H (I.hdr hq)
  have hq' : HdR (cxComp X Nc scope cl s.heap.objs.size it s H).A (cxComp X Nc scope cl s.heap.objs.size it s H).H₀ := I.hdr hq
  have fpY : ∀ {σ2 : St} {H2 : Hp} {s2 : Shared}, Inv (cxComp X Nc scope cl s.heap.objs.size it s H) [] σ2 H2 s2 → H2 it = none → FpOk (cxComp X Nc scope cl s.heap.objs.size it s H) [] H2 it := fun {σ2 H2 s2} J n =>
    ⟨n, Nat.ne_of_lt itlt, inStk, .inl (by simp [cxComp]), fun x b' e => f.2.2.2.2.1 x b' (c.sub x b' e), fun p hp => absurd (show p ∈ ([] : List (Addr × Obj)) from hp) (by simp)⟩
  have loop : codeAny (model X.prog X.w) X.A (.compLoop (.ListComp elt [⟨tgt, iter, ifs, 0⟩] scope pos) 0 (.ref it) (.ref D) (compEnvC scope cl s.heap.objs.size X.env)) (R s.heap.objs.size) { s with heap := h1, toks := s.toks + ([] : List (Str × Value)).length } := by
    refine comp_loop (fun n s' => ∃ i ys σ' H', n = xs.length - i ∧ i ≤ xs.length ∧ Inv (cxComp X Nc scope cl s.heap.objs.size it s H) [] σ' H' s' ∧ s'.heap.IsListIter it a i ∧ H' it = none ∧ W i ys σ' H') ?_ xs.length
      ⟨0, [], _, H, rfl, Nat.zero_le _, J0, hit1, f.1, w0⟩
    rintro n s2 ⟨i, ys, σ2, H2, rfl, hi, J2, it2, fr2, w2⟩
    obtain ⟨q1, q2⟩ := wi i ys σ2 H2 w2
    obtain ⟨its, rv, pl, hz'⟩ := J2.list q1
    by_cases hlt : i < xs.length
    · have hx : xs[i]? = some xs[i] := by simp [hlt]
      obtain ⟨u, hu, ru⟩ := rv.get hx
      refine wpAny_pyNext_list_item it2 pl.isList (x := u) (by simpa using hu) fun h3 it3 sb3 => ?_
      have J3 : Inv (cxComp X Nc scope cl s.heap.objs.size it s H) [] σ2 H2 { s2 with heap := h3 } := J2.flown (fpY J2 fr2) fun b o hb' e => (sb3.2 b hb').trans e
      obtain ⟨oi, ei, ci, di⟩ := id it3
      refine go_of (s := { s2 with heap := h3 }) ei ci di (by decide) ?_
      have J3' := J3.pinned (fp := [it]) (fun b hb' => by obtain rfl : b = it := (by simpa using hb'); exact fpY J3 fr2) (fun b hb' => by obtain rfl : b = it := (by simpa using hb'); exact ⟨oi, ei, fun v z => by rw [di] at z; cases z⟩)
      have back : ∀ {σ4 : St} {H4 : Hp} {s4 : Shared}, Inv (cxComp X Nc scope cl s.heap.objs.size it s H) ([] ++ pinsAt [it] h3) σ4 H4 s4 → Inv (cxComp X Nc scope cl s.heap.objs.size it s H) [] σ4 H4 s4 ∧ s4.heap.IsListIter it a (i + 1) ∧ H4 it = none := fun {σ4 H4 s4} J4 => by
        have p := J4.pin (it, oi) (List.mem_append_right _ (List.mem_append_right _ (mem_pinsAt (by simp) ei)))
        exact ⟨J4.unpinned, ⟨oi, p.1, ci, di⟩, p.2.1⟩
      refine thn (bg _ _ σ2 H2 xs[i] u _ J3' ru (wt i xs[i] ys σ2 H2 hx w2)) fun _ s4 ⟨σ4, H4, J4, q4⟩ => ?_
      refine thn (bi _ s4 σ4 H4 _ J4 q4) fun b s5 ⟨H5, J5, q5⟩ => ?_
      cases b with
      | false =>
        obtain ⟨J5', it5, fr5⟩ := back J5
        exact ⟨xs.length - (i + 1), by omega, i + 1, ys, σ4, H5, rfl, hlt, J5', it5, fr5, q5⟩
      | true =>
        refine thn (be _ s5 σ4 H5 _ J5 q5) fun y s6 ⟨vy, H6, J6, ry, hD6, hl6, q6⟩ => ?_
        refine thn (mt_append (X := cxComp X Nc scope cl s.heap.objs.size it s H) _ s6 σ4 H6 (.ref D) [vy] (.ref D) [y] (fun _ H' => H' = upd H6 D (.lst (ys ++ [vy]))) J6 rfl (.cons ry .nil) ⟨D, ys, vy, rfl, rfl, hD6, hl6, rfl⟩) fun _ s7 ⟨_, H7, J7, _, e7⟩ => ?_
        subst e7
        obtain ⟨J7', it7, fr7⟩ := back J7
        exact ⟨xs.length - (i + 1), by omega, i + 1, ys ++ [vy], σ4, _, rfl, hlt, J7', it7, fr7, q6⟩
    · have hie : i = xs.length := by omega
      subst hie
      obtain ⟨qt, qn⟩ := J2.quiet' hq'
      have hl := rv.length
      refine list_end_q qt (qn it fr2) it2 pl.isList (by simp; omega) fun h3 k3 => ?_
      exact kend _ ys σ2 H2 _ hC0 (J2.flown (fpY J2 fr2) k3) q2 (wf ys σ2 H2 w2)
  exact codeAny_compStart_list loop (wpAny_pyIter_listiter hit1 loop)


theorem comp_back {pins : List (Addr × Obj)} {σ σ' : St} {H H' : Hp} {s s' : Shared} {C it : Addr} {h' : Heap} (I : Inv X pins σ H s) (f : FpOk X pins H it) (J : Inv (cxComp X Nc scope cl C it s H) [] σ' H' s') (hs : Heap.SameBut C s'.heap h') :
    Inv X pins σ H' { s' with heap := h' } := by
  have nC : ∀ b o, s.heap.get? b = some o → b ≠ C := fun b o e => Nat.ne_of_lt (Nat.lt_of_lt_of_le (Heap.lt_size e) J.ok.above)
  have B := J.base
  refine I.call' (s' := { s' with heap := h' }) (ch := [it]) J.os ⟨fun b o e n hb hx => (hs.2 b (nC b o e)).trans (B.keep b o e n hb hx), fun b o e n hb hx => ?_, B.free, fun b o e hx => ?_, B.tups, B.frzs, B.tbls⟩ (fun b u q => ?_) J.bare fun b hb => ?_
  · obtain ⟨sl, z⟩ := B.slot b o e n hb hx
    exact ⟨sl, (hs.2 b (nC b o e)).trans z⟩
  · obtain ⟨o', z⟩ := B.there b o e hx
    exact ⟨o', (hs.2 b (nC b o e)).trans z⟩
  · have hC : H' C = none := J.free
    refine (J.hok b u q).stay (fun c v hc z => (hs.2 c ?_).trans z) (fun _ z => z) fun _ _ z => z
    rintro rfl
    rcases hc with hc | hc
    · rw [← hc, hC] at q; cases q
    · rw [hC] at hc; cases hc
  · obtain rfl : b = it := (by simpa using hb)
    exact ⟨f.2.2.2.1, f.2.1, f.2.2.2.2.1, f.2.2.2.2.2⟩

theorem pe_comp {tl : TE} {pos : Pos} (c : CompOk X Nc scope cl src) (hq : HdR X.A X.H₀) (hi : PE X iter tl)
    (hb : ∀ it C s' H', HdR X.A H' → PG (cxComp X Nc scope cl C it s' H') tgt g ∧ PIf (cxComp X Nc scope cl C it s' H') ifs tt ∧ PE (cxComp X Nc scope cl C it s' H') elt te)
    (hs : ∀ x, foldedSetIterable iter X.env x = pure x := by intro _; rfl) : PE X (.ListComp elt [⟨tgt, iter, ifs, 0⟩] scope pos) (tComp X.K src tl g tt te) := by
  intro pins s σ H Q I h
  rw [eval_ListComp]
  refine wpAny_comprehension_free (use := none) rfl hs c.clos c.kind c.names (thn (hi pins s σ H _ I h) fun v s1 ⟨x, H1, I1, r, a, xs, e, hS, hT⟩ => ?_)
  subst e
  cases r
  obtain ⟨its, rv, pl, hz⟩ := I1.list hS
  refine wpAny_pyIter_list pl.isList ?_
  have I2 : Inv X pins σ H1 { s1 with heap := s1.heap.push { cls := .type "list_iterator", data := .fields #[.ref a, .int 0 0] } } := I1.kept (t' := s1.toks) fun b o e => Heap.get?_push_of_some _ e
  have f2 : FpOk X pins H1 s1.heap.objs.size := I1.fpOk (Nat.le_refl _) (I1.hok.fresh (Nat.le_refl _))
  refine wpAny_newObj_type ?_ (by size_fits)
  have I3 := I2.laid (a := (s1.heap.push { cls := .type "list_iterator", data := .fields #[.ref a, .int 0 0] }).objs.size) (o := .lst []) (t' := s1.toks) (h' := (s1.heap.push { cls := .type "list_iterator", data := .fields #[.ref a, .int 0 0] }).push { cls := .type "list", data := .seq ([] : List Value).toArray }) (fun b o e => Heap.get?_push_of_some _ e) (Nat.le_refl _) ⟨Nat.zero_le _, [], 0, .nil, Heap.get?_push_size _ rfl⟩
  have ne : s1.heap.objs.size ≠ (s1.heap.push { cls := .type "list_iterator", data := .fields #[.ref a, .int 0 0] }).objs.size := by rw [Heap.size_push]; exact Nat.ne_of_lt (Nat.lt_succ_self _)
  have f3 : FpOk X pins (upd H1 (s1.heap.push { cls := .type "list_iterator", data := .fields #[.ref a, .int 0 0] }).objs.size (.lst [])) s1.heap.objs.size := ⟨by rw [upd_ne ne]; exact f2.1, f2.2⟩
  refine comp_block (it := s1.heap.objs.size) (R := fun C => compPost (model X.prog X.w) X.A X.xe none (EP X pins σ Q) _ C) c hq I3 ⟨_, Heap.get?_push_of_some _ (Heap.get?_push_size _ rfl), rfl, rfl⟩ f3 hz (hb _) (hT _ (I2.hok.fresh (Nat.le_refl _))) fun C ys σ' H' s' hC J hD q => ?_
  obtain ⟨m, hn, _⟩ := id J.loc
  exact ⟨m, hn, fun h' hs' => ⟨.ref _, H', comp_back I3 f3 J hs', rfl, q⟩⟩
end
end L2
set_option Elab.async false
set_option linter.all false
set_option maxRecDepth 100000
namespace L2
open PySem PySem.Spec PyProof.Rows

structure RoomQ (k : Nat) (A : Around) : Prop where
  dp : A.depth + 3 * k + 5 < recursionLimit
  un : A.units + 16 * k + 200 < cLine
theorem RoomQ.mono {j k : Nat} {A : Around} (r : RoomQ k A) (h : j ≤ k) : RoomQ j A := ⟨by have := r.dp; omega, by have := r.un; omega⟩
structure FnOkQ (P : Program) (w : World) (K : PySem.W.Frag) (mg : Str → Option Value) (base : Heap) (k : Nat) (f : Addr) (fd : FuncData) (ps : List Str) (sp : Sp) : Prop where
  len : ∀ vs H Q E, sp vs H Q E → vs.length = ps.length
  run : ∀ (A : Around) (outer : List Env) (s : Shared) (H : Hp) (args : Args) (us : List Value) (vs : List V) (Q : VK), RoomQ k A → HdR A H → Env0 P w K mg base A outer s H → BindsTo s fd args (ps.zip us) → Vals vs us → sp vs H Q E0 →
    codeAny (model P w) A (.call (.ref f) args) (CR CX0 outer P w H s Q E0) s

def cxQ (P : Program) (w : World) (K : PySem.W.Frag) (mg : Str → Option Value) (base : Heap) (N : List Str) (qual : Str) (scope : Scope) (f : Addr) (cd : Value) (A : Around) (outer : List Env) (s : Shared) (H : Hp) : Cx :=
  { cxOf CX0 P w K mg base N qual scope f cd A outer s H E0 with calm := false, xe := fun _ _ => False }
section
variable {P : Program} {w : World} {K : PySem.W.Frag} {mg : Str → Option Value} {base : Heap}
theorem Fun.okQ {x qual : Str} {st : Stmt} {f : Addr} {fd : FuncData} {N ps : List Str} {k : Nat} {sp : Sp} (F : Fun K x qual st f fd) (S : FnScope N ps (defScope st)) (len : ∀ vs H Q E, sp vs H Q E → vs.length = ps.length)
    (hbody : ∀ (cdv : Value) (A : Around) (outer : List Env) (s : Shared) (H : Hp) (vs : List V) (Q : VK), RoomQ k (A.deeper (envOfC qual (defScope st) s.heap.objs.size f cdv)) → HdR (A.deeper (envOfC qual (defScope st) s.heap.objs.size f cdv)) H → sp vs H Q E0 →
      ∃ t, PSs (cxQ P w K mg base N qual (defScope st) f cdv A outer s H) (defBody st) t ∧ t { nx := fun _ H' => Q .non H', rt := Q } (start N vs) H) : FnOkQ P w K mg base (k + 1) f fd ps sp := by
  obtain ⟨oc, od, kV, doc, pm, an, cdv, ct, osl, rfl, lk, hcd⟩ := F.ex
  refine ⟨len, fun A outer s H args us vs Q hr hh e0 hb r hsp => ?_⟩
  have hl := len _ _ _ _ hsp
  have KX : K.In s.heap := e0.mod.kin.keeps fun b o e => (e0.bs b o e).1
  have lim : s.heap.NoLimit := e0.mod.nolimit.keeps fun b o e => (e0.bs b o e).1
  have dpt : A.depth < recursionLimit := by have := hr.dp; omega
  have kinds : ∀ y ∈ ps.zip us, (defScope st).names.lookup y.1 = some .local ∨ ((defScope st).names.lookup y.1 = some .cell ∧ ((cellsFrom (s.heap.objs.size + 1) (defScope st).names []).lookup y.1).isSome = true) := fun ⟨n, v⟩ hy => by
    rcases S.par n (List.of_mem_zip hy).1 with q | q
    · exact .inl q
    · exact .inr ⟨q, PySem.W.cellsFrom_some _ _ _ (.inl q)⟩
  refine codeAny_call_function dpt (KX _ _ lk) rfl S.co S.gen rfl (PySem.W.codeRec_of KX hcd) (hb _ _ _ _ ?_)
  refine wpAny_newFunctionEnv_cells S.kind kinds fun env he s1 x => ?_
  subst he
  refine ⟨lim.keeps x.toInCall.keep, codeAny_func ?_⟩
  have rq : RoomQ k (A.deeper (envOfC qual (defScope st) s.heap.objs.size f cdv)) := ⟨by have := hr.dp; show A.depth + 1 + 3 * k + 5 < _; omega, by have := hr.un; show A.units + 3 + 16 * k + 200 < _; omega⟩
  obtain ⟨t, ht, hq⟩ := hbody cdv A outer s H vs Q rq hh hsp
  have J := inv_start (CX := CX0) (E := E0) (A := { A with handled := none }) S rfl ⟨e0.frames, e0.mod, e0.bs, e0.bsz, e0.funs, e0.frf, e0.hok, e0.bare⟩ hl r x
  have I : Inv (cxQ P w K mg base N qual (defScope st) f cdv A outer s H) [] (start N vs) H s1 :=
    ⟨⟨J.ok.mod, J.ok.kind, J.ok.glob, J.ok.blt, J.ok.above, J.ok.inj, J.ok.has, J.ok.cab, (fun z => nomatch z), Around.frames_deeper e0.frames, J.ok.stk, J.ok.exf, J.ok.bs, J.ok.bsz, J.ok.noex, J.ok.exfs, J.ok.funs, J.ok.frf⟩, J.os, J.bare, J.base, J.loc, J.cell, J.free, J.freeC, J.pin, J.hok, J.len⟩
  refine wpAny_mono (ht [] s1 (start N vs) H _ I hq) (fun fl s' hs => ?_) fun e s' hs => False.elim hs
  have fin : ∀ {σ' : St} {H' : Hp} {v : V} {u : Value}, Inv (cxQ P w K mg base N qual (defScope st) f cdv A outer s H) [] σ' H' s' → RelV v u → Q v H' → CE outer P w H s Q u s' :=
    fun {σ' H' v u} J rv q => ⟨v, H', J.os, J.bare, J.base, J.hok, rv, q⟩
  cases fl with
  | ret u =>
    obtain ⟨v, σ', H', J, rv, q⟩ := hs
    exact fin J rv q
  | next =>
    obtain ⟨σ', H', J, q⟩ := hs
    exact fin (v := V.non) (u := Value.none) J rfl q
  | brk => obtain ⟨_, _, _, z⟩ := hs; exact False.elim z
  | cont => obtain ⟨_, _, _, z⟩ := hs; exact False.elim z

theorem Fun.okE {x qual : Str} {st : Stmt} {f : Addr} {fd : FuncData} {N ps : List Str} {k : Nat} {sp : Sp} (F : Fun K x qual st f fd) (S : FnScope N ps (defScope st)) (len : ∀ vs H Q E, sp vs H Q E → vs.length = ps.length)
    (hbody : ∀ (cdv : Value) (A : Around) (outer : List Env) (s : Shared) (H : Hp) (vs : List V) (Q : VK) (E : XK), Room k (A.deeper (envOfC qual (defScope st) s.heap.objs.size f cdv)) → sp vs H Q E →
      ∃ t, PSs (cxOf (CXE P w) P w K mg base N qual (defScope st) f cdv A outer s H E) (defBody st) t ∧ t { nx := fun _ H' => Q .non H', rt := Q } (start N vs) H) : FnOk P w K mg base (CXE P w) (k + 1) f fd ps sp := by
  obtain ⟨oc, od, kV, doc, pm, an, cdv, ct, osl, rfl, lk, hcd⟩ := F.ex
  exact fn_of lk hcd S len fun A outer s H vs Q E hr hsp => hbody cdv A outer s H vs Q E hr hsp

theorem passE {N : List Str} {qual : Str} {scope : Scope} {f : Addr} {cd : Value} {A : Around} {outer : List Env} {s : Shared} {H : Hp} {E : XK} : Passes (CXE P w) (cxOf (CXE P w) P w K mg base N qual scope f cd A outer s H E) E := throws_pass rfl rfl throws_fn
end

theorem passT {X : Cx} {pn : List (Addr × Obj)} {R : XK} : Passes (CXE X.prog X.w) (X.tr pn (tryE X pn R)) R := throws_pass rfl rfl throws_try

section
variable {X : Cx} {k : Nat} {f : Addr} {fd : FuncData} {ps : List Str} {sp : Sp} {x : Str} {p pos : Pos} {e : Expr} {es : List Expr} {t : TA}
def tCallQ (A : Around) (sp : Sp) (t : TA) : TE := fun σ H Q => t σ H fun vs H1 => HdR A H1 ∧ sp vs H1 Q E0
theorem pe_callQ (F : FnOkQ X.prog X.w X.K X.mg X.base k f fd ps sp) (hr : RoomQ k X.A) (hg : Gl X x) (hm : X.mg x = some (.ref f)) (hk : PySem.W.keepIn X.K (.ref f) = true) (hb : Binds X.K fd ps []) (ha : PA X (e :: es) t)
    (hdb : (x == ("__debug__" : Str)) = false := by decide) (he : starEach (e :: es) X.env = (false, eval e X.env) :: starEach es X.env := by exact starEach_cons rfl) (hpl : (backTo pos (starEach es X.env)).any (·.1) = false := by exact noStars rfl) :
    PE X (.Call (.Name x p) (e :: es) [] pos) (tCallQ X.A sp t) := by
  intro pins s σ H Q I h
  refine wpAny_Call_Name_kw (ld_glob I hg hm ?_ hdb)
  refine PySem.W.callWith_K (h₀ := X.base) I.ok.mod.kin hk (thn (ha pos pins s σ H _ I h) fun us s1 ⟨vs, H1, I1, r, hd, q⟩ => ⟨I1.kIn, ?_⟩) he hpl
  have hl : us.length = ps.length := by rw [← r.length]; exact F.len _ _ _ _ q
  have B : BindsTo s1 fd ⟨us, []⟩ (ps.zip us) := by
    have z := hb s1 us I1.kIn (by rw [List.append_nil]; exact hl)
    rw [List.append_nil] at z
    exact z
  refine wpAny_call (codeAny_mono (F.run X.A X.stack s1 H1 ⟨us, []⟩ us vs Q hr hd I1.env0 B r q) fun r s' hq => ?_)
  cases r with
  | error e => exact False.elim hq
  | ok fl =>
    cases fl with
    | ret u => exact I1.after hq
    | next => exact False.elim hq
    | brk => exact False.elim hq
    | cont => exact False.elim hq
end



def clsV : V → Option Value
  | .ref a => some (.ref a)
  | .ty n => some (.type n)
  | _ => none

def TyX (K : PySem.W.Frag) (H : Hp) (x : V) (t : Value) : Prop :=
  TyOf K H x t ∨ ∃ a oe C vs, x = .ref a ∧ t = .ref C ∧ H a = some (excO a oe) ∧ oe.cls = .ref C ∧ oe.dict = none ∧ oe.data = .fields vs ∧ XK.ExcCls K C
section
variable {X : Cx}
theorem call_isinst : CallR X (.builtin "isinstance") (fun xs H Q => ∃ x c cv t b, xs = [x, c] ∧ clsV c = some cv ∧ TyX X.K H x t ∧ PySem.W.kitOne X.K t cv = some b ∧ Q (.bl b) H) := by
  intro pins s σ H xs us Q I r h
  obtain ⟨x, c, cv, t, b, rfl, hc, ty, hk, q⟩ := h
  obtain ⟨u, v, rfl, ru, rv⟩ := vals2 r
  obtain rfl : v = cv := by
    cases c with
    | ref a => cases hc; exact rv
    | ty n => cases hc; exact rv
    | _ => cases hc
  rcases ty with ty | ⟨a, oe, C, vs, rfl, rfl, ha, e1, e2, e3, ec⟩
  · exact isinst_ok I ru ty hk fun tk => ⟨.bl b, H, I.tok tk, rfl, q⟩
  · cases ru
    have g := (I.hok a _ ha).1
    have inst : PySem.W.InstAt s.heap a oe C none := ⟨g, e1, by unfold PySem.W.notCls; rw [e3], by rw [e2]; trivial⟩
    exact PySem.W.kia_one (XK.kitx_exc (ox := oe) ec) I.kIn inst hk (fun z => nomatch z) fun tk => ⟨.bl b, H, I.tok tk, rfl, q⟩


def eqVs (xs ys : List V) : Bool := xs.length == ys.length && (List.range xs.length).all fun j => eqV (xs.getD j .non) (ys.getD j .non)
def rEqL (K : PySem.W.Frag) (neg : Bool) : R2 := fun x y H Q => ∃ a b xs ys, x = .ref a ∧ y = .ref b ∧ SqL K H a xs ∧ SqL K H b ys ∧ xs.all flatV = true ∧ ys.all flatV = true ∧ Q (.bl (if neg then !eqVs xs ys else eqVs xs ys)) H
theorem all_at {xs : List V} (h : xs.all flatV = true) {j : Nat} (hj : j < xs.length) : flatV (xs.getD j .non) = true := by
  rw [List.getD_eq_getElem?_getD, List.getElem?_eq_getElem hj, Option.getD_some]
  exact List.all_eq_true.mp h _ (List.getElem_mem hj)
theorem vals_at {xs : List V} {us : List Value} (r : Vals xs us) {j : Nat} (hj : j < us.length) : RelV (xs.getD j .non) us[j] := by
  have hl := r.length
  have hx : xs[j]? = some (xs.getD j .non) := by
    rw [List.getD_eq_getElem?_getD, List.getElem?_eq_getElem (by omega), Option.getD_some]
  obtain ⟨u, e, q⟩ := r.get hx
  rw [List.getElem?_eq_getElem hj] at e
  cases e
  exact q
theorem op_eqL (hu : X.A.units < cLine) : OpR X (compareOp .Eq) (rEqL X.K false) := by
  intro pins s σ H x y v u Q I rx ry h
  obtain ⟨a, b, xs, ys, rfl, rfl, h1, h2, f1, f2, q⟩ := h
  cases rx
  cases ry
  obtain ⟨us, r1, p1, _⟩ := I.list h1
  obtain ⟨ws, r2, p2, _⟩ := I.list h2
  have l1 := r1.length
  have l2 := r2.length
  by_cases hl : xs.length = ys.length
  · refine SeqAt.eq_listAt p1.isList p2.isList (by simp; omega) hu (e := fun j => eqV (xs.getD j .non) (ys.getD j .non)) (fun j h1 h2 => ?_) ?_
    · simp at h1 h2
      simp only [List.getElem_toArray]
      exact eqAt_V (vals_at r1 h1) (vals_at r2 h2) (all_at f1 (by omega)) (all_at f2 (by omega))
    · refine ⟨.bl _, H, I, rfl, ?_⟩
      have e : eqVs xs ys = (List.range us.toArray.size).all fun j => eqV (xs.getD j .non) (ys.getD j .non) := by
        unfold eqVs
        rw [beq_iff_eq.mpr hl, Bool.true_and, List.size_toArray, ← l1]
      rw [← e]
      exact q
  · refine SeqAt.eq_list_lengthsAt p1.isList p2.isList (by simp; omega) hu ⟨.bl false, H, I, rfl, ?_⟩
    have e : eqVs xs ys = false := by
      unfold eqVs
      rw [beq_eq_false_iff_ne.mpr hl, Bool.false_and]
    rw [← e]
    exact q
theorem op_neL (hu : X.A.units < cLine) : OpR X (compareOp .NotEq) (rEqL X.K true) := by
  intro pins s σ H x y v u Q I rx ry h
  obtain ⟨a, b, xs, ys, rfl, rfl, h1, h2, f1, f2, q⟩ := h
  cases rx
  cases ry
  obtain ⟨us, r1, p1, _⟩ := I.list h1
  obtain ⟨ws, r2, p2, _⟩ := I.list h2
  have l1 := r1.length
  have l2 := r2.length
  by_cases hl : xs.length = ys.length
  · refine SeqAt.RcNeAt.lists p1.isList p2.isList (by simp; omega) hu (e := fun j => eqV (xs.getD j .non) (ys.getD j .non)) (fun j h1 h2 => ?_) _ _ _ _ ?_
    · simp at h1 h2
      simp only [List.getElem_toArray]
      exact eqAt_V (vals_at r1 h1) (vals_at r2 h2) (all_at f1 (by omega)) (all_at f2 (by omega))
    · refine ⟨.bl _, H, I, rfl, ?_⟩
      have e : eqVs xs ys = (List.range us.toArray.size).all fun j => eqV (xs.getD j .non) (ys.getD j .non) := by
        unfold eqVs
        rw [beq_iff_eq.mpr hl, Bool.true_and, List.size_toArray, ← l1]
      rw [← e]
      exact q
  · refine SeqAt.RcNeAt.lists_lengths p1.isList p2.isList (by simp; omega) hu _ _ _ _ ⟨.bl true, H, I, rfl, ?_⟩
    have e : eqVs xs ys = false := by
      unfold eqVs
      rw [beq_eq_false_iff_ne.mpr hl, Bool.false_and]
    have q' := q
    rw [if_pos rfl, e] at q'
    exact q'
end
end L2
set_option Elab.async false
set_option linter.all false
set_option maxRecDepth 100000
namespace L2
open PySem PySem.Spec PyProof.Rows

def Cal (P : Program) (w : World) (K : PySem.W.Frag) (mg : Str → Option Value) (base : Heap) (CX : CXT) (k : Nat) (x : Str) (ps : List Str) (sp : Sp) : Prop :=
  ∃ f fd, mg x = some (.ref f) ∧ PySem.W.keepIn K (.ref f) = true ∧ Binds K fd ps [] ∧ FnOk P w K mg base CX k f fd ps sp
def CalQ (P : Program) (w : World) (K : PySem.W.Frag) (mg : Str → Option Value) (base : Heap) (k : Nat) (x : Str) (ps : List Str) (sp : Sp) : Prop :=
  ∃ f fd, mg x = some (.ref f) ∧ PySem.W.keepIn K (.ref f) = true ∧ Binds K fd ps [] ∧ FnOkQ P w K mg base k f fd ps sp
section
variable {X : Cx} {CX : CXT} {j k : Nat} {ps : List Str} {sp : Sp} {x : Str} {p pos : Pos} {e : Expr} {es : List Expr} {t : TA} {E : XK}
theorem pe_cal (C : Cal X.prog X.w X.K X.mg X.base CX k x ps sp) (hr : Room j X.A) (hj : k ≤ j) (hx : Passes CX X E) (ha : PA X (e :: es) t) (hg : Gl X x := by rfl)
    (hdb : (x == ("__debug__" : Str)) = false := by decide) (he : starEach (e :: es) X.env = (false, eval e X.env) :: starEach es X.env := by exact starEach_cons rfl) (hpl : (backTo pos (starEach es X.env)).any (·.1) = false := by exact noStars rfl) :
    PE X (.Call (.Name x p) (e :: es) [] pos) (fun σ H Q => t σ H fun vs H1 => sp vs H1 Q E) := by
  obtain ⟨f, fd, hm, hk, hb, F⟩ := C
  intro pins s σ H Q I h
  refine pe_call (dvs := []) F (hr.mono hj) hg hm hk hb .nil hx ha hdb he hpl pins s σ H Q I ?_
  unfold tCall
  simp only [List.append_nil]
  exact h
theorem pe_calQ (C : CalQ X.prog X.w X.K X.mg X.base k x ps sp) (hr : RoomQ j X.A) (hj : k ≤ j) (ha : PA X (e :: es) t) (hg : Gl X x := by rfl)
    (hdb : (x == ("__debug__" : Str)) = false := by decide) (he : starEach (e :: es) X.env = (false, eval e X.env) :: starEach es X.env := by exact starEach_cons rfl) (hpl : (backTo pos (starEach es X.env)).any (·.1) = false := by exact noStars rfl) :
    PE X (.Call (.Name x p) (e :: es) [] pos) (tCallQ X.A sp t) := by
  obtain ⟨f, fd, hm, hk, hb, F⟩ := C
  exact pe_callQ F (hr.mono hj) hg hm hk hb ha hdb he hpl
end

theorem boot_isinstance : bootBuiltins "isinstance" = some (.builtin "isinstance") := by kernel_rfl
theorem boot_sum : bootBuiltins "sum" = some (.builtin "sum") := by kernel_rfl
theorem boot_int : bootBuiltins "int" = some (.type "int") := by kernel_rfl
theorem boot_bool : bootBuiltins "bool" = some (.type "bool") := by kernel_rfl
theorem boot_list : bootBuiltins "list" = some (.type "list") := by kernel_rfl
theorem boot_tuple : bootBuiltins "tuple" = some (.type "tuple") := by kernel_rfl
theorem boot_VE : bootBuiltins "ValueError" = some (.type "ValueError") := by kernel_rfl


def OfT (K : PySem.W.Frag) (H : Hp) (v : V) (T : String) : Prop := TyOf K H v (.type T)
def numT : List (String × Bool × Bool × Bool × Bool) := [("NoneType", false, false, false, false), ("bool", true, true, false, false), ("int", true, false, false, false), ("str", false, false, true, false), ("list", false, false, false, true), ("tuple", false, false, false, false), ("dict", false, false, false, false)]
theorem kit_tab {K : PySem.W.Frag} : ∀ r ∈ numT, PySem.W.kitOne K (.type r.1) (.type "int") = some r.2.1 ∧ PySem.W.kitOne K (.type r.1) (.type "bool") = some r.2.2.1 ∧ PySem.W.kitOne K (.type r.1) (.type "str") = some r.2.2.2.1 ∧ PySem.W.kitOne K (.type r.1) (.type "list") = some r.2.2.2.2 := by
  intro r hr
  simp only [numT, List.mem_cons, List.not_mem_nil, or_false] at hr
  rcases hr with rfl | rfl | rfl | rfl | rfl | rfl | rfl <;> exact ⟨by rfl, by rfl, by rfl, by rfl⟩

def NoNum (K : PySem.W.Frag) (H : Hp) (v : V) : Prop := ∃ r ∈ numT, TyOf K H v (.type r.1) ∧ r.1 ≠ "int"
def NoStr (K : PySem.W.Frag) (H : Hp) (v : V) : Prop := ∃ r ∈ numT, TyOf K H v (.type r.1) ∧ r.1 ≠ "str"
end L2
set_option Elab.async false
set_option linter.all false
set_option maxRecDepth 100000
namespace L2
open PySem PySem.Spec PyProof.Rows

section
variable {κ : Type} [DecidableEq κ]
def valV (kvs : List (κ × V)) (k : κ) : Option V := (kvs.find? fun kv => decide (kv.1 = k)).map (·.2)

def putK (kvs : List (κ × V)) (k : κ) (v : V) : List (κ × V) :=
  if (kvs.any fun kv => decide (kv.1 = k)) = true then kvs.map (fun kv => if kv.1 = k then (kv.1, v) else kv) else kvs ++ [(k, v)]
def dropK (kvs : List (κ × V)) (k : κ) : List (κ × V) := kvs.filter fun kv => decide (kv.1 ≠ k)

theorem length_putK (kvs : List (κ × V)) (k : κ) (v : V) : (putK kvs k v).length ≤ kvs.length + 1 := by
  unfold putK
  split
  · rw [List.length_map]; omega
  · rw [List.length_append, List.length_cons, List.length_nil]; omega
theorem KV.any {kvs : List (κ × V)} {vs : List (κ × Value)} (r : KV kvs vs) (k : κ) : (kvs.any fun kv => decide (kv.1 = k)) = vs.any fun kv => decide (kv.1 = k) := by
  unfold KV at r
  induction r with
  | nil => rfl
  | cons h t ih => rw [List.any_cons, List.any_cons, ih, h.1]
theorem KV.repl {kvs : List (κ × V)} {vs : List (κ × Value)} (r : KV kvs vs) (k : κ) {y : V} {u : Value} (ry : RelV y u) :
    KV (kvs.map fun kv => if kv.1 = k then (kv.1, y) else kv) (vs.map fun kv => if kv.1 = k then (kv.1, u) else kv) := by
  unfold KV at r ⊢
  induction r with
  | nil => exact .nil
  | @cons p q ps qs h t ih =>
    rw [List.map_cons, List.map_cons]
    refine .cons ?_ ih
    obtain ⟨h1, h2⟩ := h
    by_cases e : p.1 = k
    · rw [if_pos e, if_pos (h1.symm.trans e)]; exact ⟨h1, ry⟩
    · rw [if_neg e, if_neg (fun z => e (h1.trans z))]; exact ⟨h1, h2⟩
theorem KV.put {kvs : List (κ × V)} {vs : List (κ × Value)} (r : KV kvs vs) (k : κ) {y : V} {u : Value} (ry : RelV y u) : KV (putK kvs k y) (stored vs k u) := by
  unfold putK stored
  rw [r.any k]
  by_cases e : (vs.any fun kv => decide (kv.1 = k)) = true
  · rw [if_pos e, if_pos e]; exact r.repl k ry
  · rw [if_neg e, if_neg e]; exact Paired.snoc r ⟨rfl, ry⟩
end



theorem kV_is {P : Program} {w : World} {k : Key} {u : Value} (r : RelV (kV k) u) : (mixKind P w).is k u = true := by
  cases k with
  | inl i => obtain ⟨t, e⟩ := (show ∃ t, u = Value.int i t from r); subst e; exact mixKind_int P w i t
  | inr x => obtain ⟨t, e⟩ := (show ∃ t, u = Value.str x t from r); subst e; exact mixKind_str P w x t
abbrev KT (H : Hp) : List (List Key × V) → List (List Key × Addr × Value) → Prop := Paired fun p q => p.1 = q.1 ∧ H q.2.1 = some (.tup (p.1.map kV)) ∧ RelV p.2 q.2.2
section
variable {P : Program} {w : World} {H : Hp} {h : Heap} {a : Addr}
theorem rd_of {u : HO} (ok : HOk P w H h) (e : Rd H a u) : ObjOk P w H h a u := e.ok ok
theorem dk_rd {kvs : List (Key × V)} (ok : HOk P w H h) (e : Rd H a (.dK kvs)) : kvs.length ≤ sizeLine ∧ (a == sysModules) = false ∧ ∃ vs, KV kvs vs ∧ h.DictOf (mixKind P w) a vs :=
  show ObjOk P w H h a (.dK kvs) from rd_of ok e
theorem dk_of {kvs : List (Key × V)} (ok : HOk P w H h) (e : H a = some (.dK kvs)) : kvs.length ≤ sizeLine ∧ (a == sysModules) = false ∧ ∃ vs, KV kvs vs ∧ h.DictOf (mixKind P w) a vs := dk_rd ok (.inl e)

end


def DGet (H : Hp) (a : Addr) (y : V) (r : Option V) : Prop :=
  (∃ kvs k, Rd H a (.dK kvs) ∧ y = kV k ∧ r = valV kvs k) ∨ ∃ kvs k b, Rd H a (.dT kvs) ∧ y = .ref b ∧ H b = some (.tup (k.map kV)) ∧ r = valV kvs k

def DPut (H : Hp) (a : Addr) (y v : V) (H' : Hp) : Prop :=
  (∃ kvs k, H a = some (.dK kvs) ∧ y = kV k ∧ kvs.length < sizeLine ∧ H' = upd H a (.dK (putK kvs k v))) ∨
  ∃ kvs k b, H a = some (.dT kvs) ∧ y = .ref b ∧ H b = some (.tup (k.map kV)) ∧ kvs.length < sizeLine ∧ H' = upd H a (.dT (putK kvs k v))
section
variable {X : Cx} {pins : List (Addr × Obj)} {σ : St} {H : Hp} {s : Shared} {a : Addr} {y v : V} {u r : Value} {o : Option V} {A : Around} {E : Value → Shared → Prop}

theorem Inv.big (I : Inv X pins σ H s) : sysModules < s.heap.objs.size := by
  have h : mainGlobals < s.heap.objs.size := (I.mod.glob.keeps I.bk).lt
  exact Nat.lt_trans (by decide) h


theorem d_write {h' : Heap} {t' : Nat} {ob : HO} (I : Inv X pins σ H s) (mu : Mut (H a)) (hs : Heap.SameBut a s.heap h') (he : ∃ q, h'.get? a = some q) (new : ObjOk X.prog X.w (upd H a ob) h' a ob) :
    Inv X pins σ (upd H a ob) { s with heap := h', toks := t' } :=
  I.write (x := a) (e := a) mu (.inl rfl) (fun b q hb z => (hs.2 b hb).trans z) he new
theorem dk_new {P : Program} {w : World} {H' : Hp} {h' : Heap} {kvs : List (Key × V)} {vs : List (Key × Value)} (z : kvs.length ≤ sizeLine) (hd : (a == sysModules) = false) (rel : KV kvs vs) (dd : h'.DictOf (mixKind P w) a vs) :
    ObjOk P w H' h' a (.dK kvs) := ⟨z, hd, vs, rel, dd⟩

end

section
variable {X : Cx} {pins : List (Addr × Obj)} {σ : St} {H : Hp} {s : Shared} {a : Addr} {kvs : List (Key × V)} {k : Key} {u : Value} {A : Around} {E : Value → Shared → Prop}

end




def NoSl (i : Expr) : Prop := ∀ ov iv, subscripted i false ov iv = operate [ov, iv] (getItem ov iv)
def tDGet (td ty : TE) : TE := fun σ H Q => td σ H fun x H1 => ty σ H1 fun y H2 => ∃ a v, x = .ref a ∧ DGet H2 a y (some v) ∧ Q v H2

def tDIn (ty td : TE) : TE := fun σ H Q => ty σ H fun y H1 => td σ H1 fun x H2 => ∃ a o, x = .ref a ∧ DGet H2 a y o ∧ Q (.bl o.isSome) H2
def tDNotIn (ty td : TE) : TE := fun σ H Q => ty σ H fun y H1 => td σ H1 fun x H2 => ∃ a o, x = .ref a ∧ DGet H2 a y o ∧ Q (.bl (!o.isSome)) H2

def sDPut (td ty tv : TE) : TS := fun D σ H => tv σ H fun v H1 => td σ H1 fun x H2 => ty σ H2 fun y H3 => ∃ a H4, x = .ref a ∧ DPut H3 a y v H4 ∧ D.nx σ H4

def sDAug (td ty tv : TE) (rd : V → V → Hp → VK → Prop) : TS := fun D σ H => td σ H fun x H1 => ty σ H1 fun y H2 => ∃ a v, x = .ref a ∧ DGet H2 a y (some v) ∧
  tv σ H2 fun y2 H3 => rd v y2 H3 fun z H4 => ∃ H5, DPut H4 a y z H5 ∧ D.nx σ H5

def sDDel (td ty : TE) : TS := fun D σ H => td σ H fun x H1 => ty σ H1 fun y H2 => ∃ a kvs k, x = .ref a ∧ H2 a = some (.dK kvs) ∧ y = kV k ∧ (valV kvs k).isSome = true ∧ D.nx σ (upd H2 a (.dK (dropK kvs k)))

section
variable {X : Cx} {o i e value : Expr} {pos pos' tpos : Pos} {td ty tv : TE}
end



theorem dk_empty {P : Program} {w : World} {H : Hp} (h : Heap) (hb : sysModules < h.objs.size) : ObjOk P w H (h.push { cls := .type "dict", data := .dict #[] }) h.objs.size (.dK []) :=
  ⟨Nat.zero_le _, beq_eq_false_iff_ne.mpr (Ne.symm (Nat.ne_of_lt hb)), [], .nil, Heap.DictOf.new h⟩
def tDNewK : TE := fun _ H Q => ∀ p, H p = none → Q (.ref p) (upd H p (.dK []))
def tDNewT : TE := fun _ H Q => ∀ p, H p = none → Q (.ref p) (upd H p (.dT []))
section
variable {X : Cx} {pos : Pos}
theorem pe_dnewK : PE X (.Dict [] [] pos) tDNewK := fun pins s σ H Q I h =>
  wpAny_Dict_empty ⟨.ref s.heap.objs.size, _, I.laid (a := s.heap.objs.size) (o := .dK []) (t' := s.toks) (fun _ _ q => Heap.get?_push_of_some _ q) (Nat.le_refl _) (dk_empty s.heap I.big), rfl, h _ (I.hok.fresh (Nat.le_refl _))⟩
end


def tPairs : List (TE × TE) → St → Hp → (List (V × V) → Hp → Prop) → Prop
  | [], _, H, Q => Q [] H
  | (tk, tv) :: r, σ, H, Q => tk σ H fun x H1 => tv σ H1 fun y H2 => tPairs r σ H2 fun ps H3 => Q ((x, y) :: ps) H3
abbrev VV : List (V × V) → List (Value × Value) → Prop := Paired fun p q => RelV p.1 q.1 ∧ RelV p.2 q.2
def PPs (X : Cx) (pos : Pos) (keys : List (Option Expr)) (values : List Expr) (trs : List (TE × TE)) : Prop :=
  ∀ (pins : List (Addr × Obj)) (s : Shared) (σ : St) (H : Hp) (Q : List (V × V) → Hp → Prop), Inv X pins σ H s → tPairs trs σ H Q →
    wpAny (model X.prog X.w) X.A (evalPairs (pairTrees keys values X.env pos)) (fun vs s' => ∃ ps H', Inv X pins σ H' s' ∧ VV ps vs ∧ Q ps H') X.xe s
theorem pps_nil {X : Cx} {pos : Pos} : PPs X pos [] [] [] := fun pins s σ H Q I h => pairTrees_nil_walk ⟨[], H, I, .nil, h⟩
theorem pps_cons {X : Cx} {pos : Pos} {k v : Expr} {ks : List (Option Expr)} {vs : List Expr} {tk tv : TE} {trs : List (TE × TE)} (hk : PE X k tk) (hv : PE X v tv) (hr : PPs X pos ks vs trs) :
    PPs X pos (some k :: ks) (v :: vs) ((tk, tv) :: trs) := fun pins s σ H Q I h =>
  pairTrees_cons_walk (thn (hk pins s σ H _ I h) fun u s1 ⟨x, H1, I1, rx, q1⟩ => thn (hv pins s1 σ H1 _ I1 q1) fun w2 s2 ⟨y, H2, I2, ry, q2⟩ =>
    thn (hr pins s2 σ H2 _ I2 q2) fun ws s3 ⟨ps, H3, I3, rel, q3⟩ => ⟨(x, y) :: ps, H3, I3, .cons ⟨rx, ry⟩ rel, q3⟩)

def mergeK (kvs more : List (Key × V)) : List (Key × V) := more.foldl (fun acc kv => putK acc kv.1 kv.2) kvs
theorem KV.merge : ∀ {more : List (Key × V)} {rs : List (Key × Value)} {kvs : List (Key × V)} {vs : List (Key × Value)}, KV more rs → KV kvs vs → KV (mergeK kvs more) (merged vs rs) := by
  intro more rs kvs vs r
  unfold KV at r
  induction r generalizing kvs vs with
  | nil => intro q; exact q
  | @cons p q ps qs h t ih =>
    intro r0
    have e : KV (putK kvs p.1 p.2) (stored vs q.1 q.2) := by
      have := r0.put p.1 h.2
      rw [← h.1]; exact this
    exact ih e
theorem length_mergeK : ∀ (more kvs : List (Key × V)), (mergeK kvs more).length ≤ kvs.length + more.length
  | [], kvs => by show kvs.length ≤ kvs.length + 0; omega
  | p :: r, kvs => by
    have h1 := length_mergeK r (putK kvs p.1 p.2)
    have h2 := length_putK kvs p.1 p.2
    show (mergeK (putK kvs p.1 p.2) r).length ≤ _
    rw [List.length_cons]; omega
theorem carries_of {P : Program} {w : World} : ∀ {kvs : List (Key × V)} {ws : List (Value × Value)}, VV (kvs.map fun kv => (kV kv.1, kv.2)) ws → ∃ rs, Carries (mixKind P w) ws rs ∧ KV kvs rs
  | [], _, r => by rw [List.map_nil] at r; cases r; exact ⟨[], True.intro, .nil⟩
  | p :: kvs, _, r => by
    rw [List.map_cons] at r
    cases r with
    | @cons a b as bs h t =>
      obtain ⟨rs, c, q⟩ := carries_of (P := P) (w := w) t
      obtain ⟨b1, b2⟩ := b
      exact ⟨(p.1, b2) :: rs, ⟨kV_is h.1, rfl, c⟩, .cons ⟨rfl, h.2⟩ q⟩

def tDisp (trs : List (TE × TE)) : TE := fun σ H Q => ∀ p, H p = none → tPairs trs σ (upd H p (.dK [])) fun ps H2 => H2 p = some (.dK []) ∧ ∃ kvs : List (Key × V), ps = kvs.map (fun kv => (kV kv.1, kv.2)) ∧ kvs.length ≤ 15 ∧ Q (.ref p) (upd H2 p (.dK (mergeK [] kvs)))
theorem pe_disp {X : Cx} {pos : Pos} {keys : List (Option Expr)} {values : List Expr} {trs : List (TE × TE)} (h : PPs X pos keys values trs) (hall : keys.all (·.isSome) = true) (hl : keys.length = values.length) (h0 : keys ≠ [])
    (h15 : keys.length ≤ 15) : PE X (.Dict keys values pos) (tDisp trs) := by
  intro pins s σ H Q I q
  have hn := I.hok.fresh (Nat.le_refl s.heap.objs.size)
  have I1 := I.laid (a := s.heap.objs.size) (o := .dK []) (h' := s.heap.push { cls := .type "dict", data := .dict #[] }) (t' := s.toks) (fun _ _ q => Heap.get?_push_of_some _ q) (Nat.le_refl _) (dk_empty s.heap I.big)
  refine wpAny_Dict_walk (knd := mixKind X.prog X.w) hall hl h0 h15 (thn (h pins _ σ _ _ I1 (q _ hn)) fun ws s2 ⟨ps, H2, I2, rel, e, kvs, ep, lk, q2⟩ => ?_)
  subst ep
  obtain ⟨rs, c, rk⟩ := carries_of (P := X.prog) (w := X.w) rel
  obtain ⟨z, hd, vs0, r0, dd⟩ := dk_of I2.hok e
  cases r0
  refine ⟨rs, c, dd, fun h' dd' hs => ⟨.ref s.heap.objs.size, _, ?_, rfl, q2⟩⟩
  have hz : (mergeK [] kvs).length ≤ sizeLine := by
    have h1 := length_mergeK kvs []
    rw [List.length_nil] at h1
    rw [sizeLine_eq]; omega
  have he : ∃ q, h'.get? s.heap.objs.size = some q := let ⟨q, _, _, hq, _⟩ := dd'; ⟨q, hq⟩
  exact d_write I2 (by rw [e]; exact True.intro) hs he (dk_new hz hd (rk.merge .nil) dd')




structure M1 (X : Cx) (o : Expr) (m : Str) (apos : Pos) (e : Expr) (cpos : Pos) : Prop where
  base : attributeBase o m X.env (eval o X.env) = eval o X.env
  few : ((backTo cpos (starEach [e] X.env)).all (fun x => !x.1) && (backToKw cpos (keywordEach [] X.env)).all (fun x => x.1.isSome)
    && decide (([e] : List Expr).length + ([] : List Keyword).length + (if ([] : List Keyword).isEmpty then 0 else 1) < 30)) = true
  line : (apos.endLine == cpos.line) = true
  trees : backTo cpos (starEach [e] X.env) = [(false, eval e X.env)]
structure M2 (X : Cx) (o : Expr) (m : Str) (apos : Pos) (e f : Expr) (cpos : Pos) : Prop where
  base : attributeBase o m X.env (eval o X.env) = eval o X.env
  few : ((backTo cpos (starEach [e, f] X.env)).all (fun x => !x.1) && (backToKw cpos (keywordEach [] X.env)).all (fun x => x.1.isSome)
    && decide (([e, f] : List Expr).length + ([] : List Keyword).length + (if ([] : List Keyword).isEmpty then 0 else 1) < 30)) = true
  line : (apos.endLine == cpos.line) = true
  trees : backTo cpos (starEach [e, f] X.env) = [(false, eval e X.env), (false, eval f X.env)]


def IsD (H : Hp) (a : Addr) : Prop := (∃ kvs, Rd H a (.dK kvs)) ∨ ∃ kvs, Rd H a (.dT kvs)
section
variable {X : Cx} {pins : List (Addr × Obj)} {σ : St} {H : Hp} {s : Shared} {a : Addr} {y d : V} {u r : Value} {o : Option V} {A : Around} {E : Value → Shared → Prop}

end

def tDGet1 (td ty : TE) : TE := fun σ H Q => td σ H fun x H1 => ∃ a, x = .ref a ∧ IsD H1 a ∧ ty σ H1 fun y H2 => ∃ o, DGet H2 a y o ∧ Q (o.getD .non) H2
def tDGet2 (td ty tx : TE) : TE := fun σ H Q => td σ H fun x H1 => ∃ a, x = .ref a ∧ IsD H1 a ∧ ty σ H1 fun y H2 => tx σ H2 fun z H3 => ∃ o, DGet H3 a y o ∧ Q (o.getD z) H3

def tDPop1 (td ty : TE) : TE := fun σ H Q => td σ H fun x H1 => ∃ a, x = .ref a ∧ IsD H1 a ∧ ty σ H1 fun y H2 => ∃ kvs k v, H2 a = some (.dK kvs) ∧ y = kV k ∧ valV kvs k = some v ∧ Q v (upd H2 a (.dK (dropK kvs k)))
def tDPop2 (td ty tx : TE) : TE := fun σ H Q => td σ H fun x H1 => ∃ a, x = .ref a ∧ IsD H1 a ∧ ty σ H1 fun y H2 => tx σ H2 fun z H3 => ∃ kvs k, H3 a = some (.dK kvs) ∧ y = kV k ∧
  (∀ v, valV kvs k = some v → Q v (upd H3 a (.dK (dropK kvs k)))) ∧ (valV kvs k = none → Q z H3)
section
variable {X : Cx} {o e f : Expr} {apos cpos : Pos} {td ty tx : TE}
end


section
variable {X : Cx} {pins : List (Addr × Obj)} {σ : St} {H : Hp} {s : Shared} {a : Addr} {kvs : List (Key × V)} {A : Around} {E : Value → Shared → Prop}
end


section
variable {X : Cx} {pins : List (Addr × Obj)} {σ : St} {H : Hp} {s : Shared} {a : Addr} {y : V} {u : Value} {A : Around} {E : Value → Shared → Prop}

end
section
variable {X : Cx}

end

section
variable {κ : Type} [DecidableEq κ]
end
end L2
set_option Elab.async false
set_option linter.all false
set_option maxRecDepth 100000
namespace L2
open PySem PySem.Spec PyProof.Rows

theorem Same.upd {H : Hp} {p : Addr} {o : HO} (hp : H p = none) : Same H (L2.upd H p o) := fun b u e => by
  rw [upd_ne (ne_of_none e hp)]
  exact e
theorem TyOf.same {K : PySem.W.Frag} {H H' : Hp} {v : V} {t : Value} (e : Same H H') (h : TyOf K H v t) : TyOf K H' v t := by
  cases h with
  | non => exact .non
  | bl x => exact .bl x
  | int i => exact .int i
  | str x => exact .str x
  | flt x => exact .flt x
  | lst q => exact .lst (e _ _ q)
  | frz q => exact .frz (e _ _ q)
  | tup q => exact .tup (e _ _ q)
  | dK q => exact .dK (e _ _ q)
  | dT q => exact .dT (e _ _ q)
  | ins q c1 c2 c3 c4 c5 => exact .ins (e _ _ q) c1 c2 c3 c4 c5
theorem NoNum.same {K : PySem.W.Frag} {H H' : Hp} {v : V} (e : Same H H') (h : NoNum K H v) : NoNum K H' v := by
  obtain ⟨r, h1, h2, h3⟩ := h
  exact ⟨r, h1, h2.same e, h3⟩
section
variable {K : PySem.W.Frag} {H : Hp}
theorem nn_none : NoNum K H .non := ⟨("NoneType", false, false, false, false), by decide, .non, by decide⟩
theorem nn_bl (b : Bool) : NoNum K H (.bl b) := ⟨("bool", true, true, false, false), by decide, .bl b, by decide⟩
theorem nn_str (x : Str) : NoNum K H (.str x) := ⟨("str", false, false, true, false), by decide, .str x, by decide⟩
theorem nn_lst {a : Addr} {xs : List V} (e : H a = some (.lst xs)) : NoNum K H (.ref a) := ⟨("list", false, false, false, true), by decide, .lst e, by decide⟩
theorem nn_tup {a : Addr} {xs : List V} (e : H a = some (.tup xs)) : NoNum K H (.ref a) := ⟨("tuple", false, false, false, false), by decide, .tup e, by decide⟩
theorem nn_dK {a : Addr} {kvs : List (Key × V)} (e : H a = some (.dK kvs)) : NoNum K H (.ref a) := ⟨("dict", false, false, false, false), by decide, .dK e, by decide⟩
end

def isSl : Expr → Bool
  | .Slice _ _ _ _ => true
  | _ => false
theorem plain_ix {b : Expr} (h : isSl b = false) : PlainIx b := fun o i => by
  cases b <;> first | rfl | cases h
theorem pe_at {X : Cx} {a b : Expr} {ta tb : TE} {pos : Pos} {r : R2} (hr : IxR X r) (ha : PE X a ta) (hb : PE X b tb) (hs : isSl b = false := by rfl) : PE X (.Subscript a b pos) (tOp r ta tb) := pe_ix hr ha hb (plain_ix hs)

theorem atI_of {α : Type} {xs : List α} {i : Int} {v : α} (h0 : 0 ≤ i) (h : xs[i.toNat]? = some v) : atI xs i = some v := by
  have e := atI_nat h
  rwa [Int.toNat_of_nonneg h0] at e
theorem at_any {α : Type} {xs : List α} {i : Int} (h0 : 0 ≤ i) (h1 : i < xs.length) : ∃ v, atI xs i = some v ∧ v ∈ xs := by
  have hl : i.toNat < xs.length := by omega
  exact ⟨xs[i.toNat], atI_of h0 (List.getElem?_eq_getElem hl), List.getElem_mem hl⟩
def cellZ (ns : List Int) (k : Int) : Int := ns.getD k.toNat 0
def mixZ (ns : List Int) (k : Int) : Int := (cellZ ns k * 48271 + 7919 * k * k * k + 104729) % 2147483647 * 16807 % 2147483629
theorem mixZ_nn (ns : List Int) (k : Int) : 0 ≤ mixZ ns k := Int.emod_nonneg _ (by decide)
theorem mixZ_lt (ns : List Int) (k : Int) : mixZ ns k < 2147483629 := Int.emod_lt_of_pos _ (by decide)
theorem cell_at {ns : List Int} {k : Int} (h0 : 0 ≤ k) (h : k < ((ns.map V.int).length : Nat)) : atI (ns.map V.int) k = some (.int (cellZ ns k)) := by
  rw [List.length_map] at h
  have hl : k.toNat < ns.length := by omega
  refine atI_of h0 ?_
  unfold cellZ
  rw [List.getElem?_map, List.getElem?_eq_getElem hl, List.getD_eq_getElem?_getD, List.getElem?_eq_getElem hl]
  rfl
theorem cell_out {ns : List Int} {k : Int} (h : ¬ k < ((ns.map V.int).length : Nat)) : cellZ ns k = 0 := by
  rw [List.length_map] at h
  unfold cellZ
  rw [List.getD_eq_getElem?_getD, List.getElem?_eq_none (by omega)]
  rfl
end L2
set_option Elab.async false
set_option linter.all false
set_option maxRecDepth 100000
namespace L2
open PySem PySem.Spec PyProof.Rows


theorem lenOk {n : Nat} (h : Nat.ble n 1000 = true) : n ≤ sizeLine := Nat.le_trans (Nat.le_of_ble_eq_true h) (by decide)

def New (H : Hp) (o : HO) (Q : VK) : Prop := ∀ p H', Same H H' → H p = none → H' p = some o → Q (.ref p) H'
theorem New.at {H : Hp} {o : HO} {Q : VK} (h : New H o Q) {p : Addr} (hp : H p = none) : Q (.ref p) (upd H p o) := h p _ (Same.upd hp) hp upd_same
def tTupS (t : TA) : TE := fun σ H Q => t σ H fun xs H1 => xs.length ≤ sizeLine ∧ New H1 (.tup xs) Q
def tLstS (t : TA) : TE := fun σ H Q => t σ H fun xs H1 => xs.length ≤ sizeLine ∧ New H1 (.lst xs) Q
section
variable {X : Cx} {es : List Expr} {t : TA} {pos : Pos}
theorem pe_tupS {x1} (h : PA X es t) : PE X (.Tuple es x1 pos) (tTupS t) := by
  intro pins s σ H Q I hq
  refine wpAny_Tuple_spliced (thn (h pos pins s σ H _ I hq) fun us s1 ⟨xs, H1, I1, r, z, q⟩ => ⟨by rw [← r.length]; exact z, ?_⟩)
  have hf : H1 s1.heap.objs.size = none := I1.hok.fresh (Nat.le_refl _)
  refine ⟨.ref s1.heap.objs.size, upd H1 s1.heap.objs.size (.tup xs), I1.laid (t' := s1.toks) (fun b u e => Heap.get?_push_of_some _ e) (Nat.le_refl _) ?_, rfl, q.at hf⟩
  exact ⟨z, us, r, ⟨_, Heap.get?_push_size _ rfl, rfl, _, rfl⟩⟩
theorem pe_lstS (h : PA X es t) : PE X (.List es pos) (tLstS t) := by
  intro pins s σ H Q I hq
  refine wpAny_List_spliced (thn (h pos pins s σ H _ I hq) fun us s1 ⟨xs, H1, I1, r, z, q⟩ => ⟨by rw [← r.length]; exact z, ?_⟩)
  have hf : H1 s1.heap.objs.size = none := I1.hok.fresh (Nat.le_refl _)
  refine ⟨.ref s1.heap.objs.size, upd H1 s1.heap.objs.size (.lst xs), I1.laid (t' := s1.toks) (fun b u e => Heap.get?_push_of_some _ e) (Nat.le_refl _) ?_, rfl, q.at hf⟩
  exact ⟨z, us, 0, r, Heap.get?_push_size _ rfl⟩
def tDNewS : TE := fun _ H Q => New H (.dK []) Q
theorem pe_dnewS : PE X (.Dict [] [] pos) tDNewS := fun pins s σ H Q I h => pe_dnewK pins s σ H Q I fun p hp => h.at hp
def rCatS : R2 := fun x y H Q => ∃ l b xs zs, x = .ref l ∧ y = .ref b ∧ H l = some (.lst xs) ∧ H b = some (.lst zs) ∧ xs.length + zs.length ≤ sizeLine ∧ New H (.lst (xs ++ zs)) Q
theorem op_catS : OpR X (binaryOp .Add) rCatS := fun pins s σ H x y v u Q I rx ry ⟨l, b, xs, zs, e1, e2, h1, h2, hz, q⟩ => op_cat pins s σ H x y v u Q I rx ry ⟨l, b, xs, zs, e1, e2, h1, h2, hz, fun p hp => q.at hp⟩
def rRepS : R2 := fun x y H Q => ∃ l k xs, x = .ref l ∧ y = .int k ∧ H l = some (.lst xs) ∧ -(2 ^ 63) ≤ k ∧ k < 2 ^ 63 ∧ xs.length * k.toNat ≤ sizeLine ∧ New H (.lst (List.replicate k.toNat xs).flatten) Q
theorem op_repS : OpR X (binaryOp .Mult) rRepS := fun pins s σ H x y v u Q I rx ry ⟨l, k, xs, e1, e2, h1, h2, h3, hz, q⟩ => op_rep pins s σ H x y v u Q I rx ry ⟨l, k, xs, e1, e2, h1, h2, h3, hz, fun p hp => q.at hp⟩
end

theorem lookup_local {l : List (Str × NameKind)} (h : l.all (fun y => decide (y.2 = .local)) = true) {x : Str} {k : NameKind} (e : l.lookup x = some k) : k = .local := by
  induction l with
  | nil => cases e
  | cons y r ih =>
    rw [List.all_cons, Bool.and_eq_true] at h
    rw [List.lookup_cons] at e
    split at e
    · cases e
      exact of_decide_eq_true h.1
    · exact ih h.2 e
theorem no_cells {l : List (Str × NameKind)} {cl : List (Str × Addr)} (h : l.all (fun y => decide (y.2 = .local)) = true) (x : Str) (z : l.lookup x = some .cell ∨ l.lookup x = some .free) : ∃ c, cl.lookup x = some c := by
  rcases z with z | z
  · cases lookup_local h z
  · cases lookup_local h z
theorem no_src {n : Nat} {C : Nat → Nat → Prop} (i j : Nat) (z : (List.replicate n (none : Option Nat))[i]? = some (some j)) : C i j := by
  rw [List.getElem?_replicate] at z
  split at z <;> cases z

theorem turns_pairs {K : PySem.W.Frag} {a D : Addr} {ts : List V} {pairs : List (Str × Bool)} {H1 : Hp} {fin : List V → Hp → Prop} {σ : St} (hσ : σ.length = 2) (hl : ts.length = pairs.length) (ha : H1 a = some (.lst ts)) (hD : H1 D = none)
    (ht : ∀ (i : Nat) p, pairs[i]? = some p → ∃ t, ts[i]? = some (V.ref t) ∧ H1 t = some (.tup [.str p.1, .bl p.2])) (hz : pairs.length < sizeLine)
    (k : ∀ H2, Same H1 H2 → H2 D = some (.lst ((pairs.filter (·.2)).map fun p => V.str p.1)) → fin ((pairs.filter (·.2)).map fun p => V.str p.1) H2) :
    tTurns K a D ts (gTup K 2 (gCons (gName 0) (gCons (gName 1) gNil))) (tB (tVar 1)) (tVar 0) fin σ (upd H1 D (.lst [])) := by
  refine ⟨fun i ys σ H => σ.length = 2 ∧ ys = ((pairs.take i).filter (·.2)).map (fun p => V.str p.1) ∧ H D = some (.lst ys) ∧ Same H1 H, ⟨hσ, by simp, upd_same, Same.upd hD⟩, ?_, ?_, ?_⟩
  · rintro i ys σ H ⟨_, _, e, s⟩
    exact ⟨SqL.of (s _ _ ha), e⟩
  · rintro i x ys σ H hx ⟨h2, e, hd, s⟩
    obtain ⟨x0, x1, rfl⟩ : ∃ x0 x1, σ = [x0, x1] := by
      match σ, h2 with
      | [x0, x1], _ => exact ⟨x0, x1, rfl⟩
    have hi : i < pairs.length := by
      have := (List.getElem?_eq_some_iff.mp hx).1
      omega
    have hp : pairs[i]? = some pairs[i] := List.getElem?_eq_getElem hi
    obtain ⟨t, e1, e2⟩ := ht i _ hp
    rw [hx] at e1
    cases e1
    have len : ys.length ≤ i := by
      rw [e, List.length_map]
      exact Nat.le_trans (List.length_filter_le _ _) (by rw [List.length_take]; exact Nat.min_le_left _ _)
    have tk : pairs.take (i + 1) = pairs.take i ++ [pairs[i]] := by rw [List.take_succ, hp]; rfl
    refine ⟨t, _, rfl, SqT.of (s _ _ e2), rfl, _, _, rfl, _, _, rfl, rfl, _, rfl, pairs[i].2, rfl, ?_⟩
    cases hb : pairs[i].2 with
    | true =>
      refine iteT ⟨_, rfl, hd, by omega, rfl, ?_, upd_same, fun b o z => ?_⟩
      · rw [tk, List.filter_append, List.map_append, ← e]
        simp [hb]
      · rw [upd_ne (ne_of_none z hD)]
        exact s b o z
    | false =>
      refine iteF ⟨rfl, ?_, hd, s⟩
      rw [tk, List.filter_append, List.map_append, ← e]
      simp [hb]
  · rintro ys σ H ⟨_, e, hd, s⟩
    rw [hl, List.take_of_length_le (Nat.le_refl _)] at e
    subst e
    exact k H s hd

structure Held (K : PySem.W.Frag) (H : Hp) (ea C : Addr) : Prop where
  ex : ∃ oe vs, H ea = some (excO ea oe) ∧ oe.cls = .ref C ∧ oe.dict = none ∧ oe.data = .fields vs
  cls : XK.ExcCls K C
theorem Held.same {K : PySem.W.Frag} {H H' : Hp} {ea C : Addr} (h : Held K H ea C) (s : Same H H') : Held K H' ea C := by
  obtain ⟨⟨oe, vs, e, r⟩, c⟩ := h
  exact ⟨⟨oe, vs, s _ _ e, r⟩, c⟩
theorem Held.ty {K : PySem.W.Frag} {H : Hp} {ea C : Addr} (h : Held K H ea C) : TyX K H (.ref ea) (.ref C) := by
  obtain ⟨⟨oe, vs, e, e1, e2, e3⟩, c⟩ := h
  exact .inr ⟨ea, oe, C, vs, rfl, rfl, e, e1, e2, e3, c⟩
end L2
set_option Elab.async false
set_option linter.all false
set_option maxRecDepth 100000
namespace L2
open PySem PySem.Spec PyProof.Rows

section
variable {X : Cx}
theorem Inv.walked {pins : List (Addr × Obj)} {σ : St} {H : Hp} {s : Shared} (I : Inv X pins σ H s) {u : Obj} {h' : Heap} {tk : Nat} (hk : ∀ b o, b ∉ [s.heap.objs.size] → (s.heap.push u).get? b = some o → h'.get? b = some o) :
    Inv X pins σ H { s with heap := h', toks := tk } :=
  I.kept (t' := tk) fun b o e => hk b o (by simp; exact Nat.ne_of_lt (Heap.lt_size e)) (Heap.get?_push_of_some _ e)
theorem range_all {α : Type} (bs : List α) (d : α) (p : α → Bool) : (List.range bs.length).all (fun i => p (bs.getD i d)) = bs.all p := by
  induction bs with
  | nil => rfl
  | cons b r ih =>
    rw [List.length_cons, List.range_succ_eq_map, List.all_cons, List.all_map, List.all_cons]
    congr 1
theorem val_bl {bs : List Bool} {its : List Value} (rv : Vals (bs.map V.bl) its) {i : Nat} {v : Value} (e : its.toArray[i]? = some v) : v = .bool (bs.getD i false) := by
  have hl := rv.length
  rw [List.length_map] at hl
  have hi : i < its.length := by
    have := (Array.getElem?_eq_some_iff.mp e).1
    simpa using this
  have hx : (bs.map V.bl)[i]? = some (V.bl (bs.getD i false)) := by
    rw [List.getElem?_map, List.getElem?_eq_getElem (by omega), List.getD_eq_getElem?_getD, List.getElem?_eq_getElem (by omega)]
    rfl
  obtain ⟨u, e1, e2⟩ := rv.get hx
  have e3 : its[i]? = some v := by simpa using e
  rw [e1] at e3
  cases e3
  exact e2
theorem call_allL (hc : X.calm = true) : CallR X (.builtin "all") (fun xs H Q => ∃ (a : Addr) (bs : List Bool), xs = [.ref a] ∧ SqL X.K H a (bs.map V.bl) ∧ Q (.bl (bs.all id)) H) := by
  intro pins s σ H xs us Q I r h
  obtain ⟨a, bs, rfl, hS, q⟩ := h
  obtain ⟨u, rfl, ru⟩ := vals1 r
  cases ru
  obtain ⟨its, rv, pl, hz⟩ := I.list hS
  have hl : its.length = bs.length := by rw [← rv.length, List.length_map]
  have hlt : a ≠ s.heap.objs.size := by obtain ⟨o, e, _⟩ := pl.isList; exact Nat.ne_of_lt (Heap.lt_size e)
  refine call_all_walk (wpAny_pyIter_list pl.isList ?_)
  refine ⟨s.heap.objs.size, _, _, _, _, _, fun i => bs.getD i false, rfl, Walks.list (A := X.A.in1) (I.ok.hd hc) _ a hlt its.toArray, ⟨⟨_, Heap.get?_push_size _ rfl, rfl, rfl⟩, pl.isList.push _⟩, fun i v s' Q' E' hP hQ => ?_, fun h' tk hk => ?_⟩
  · rw [val_bl rv hP]
    exact wpAny_truthy_bool hQ
  · refine ⟨.bl _, H, I.walked hk, rfl, ?_⟩
    have e : (List.range its.toArray.size).all (fun i => bs.getD i false) = bs.all id := by
      rw [List.size_toArray, hl]
      exact range_all bs false id
    rw [e]
    exact q
theorem val_int {ns : List Int} {its : List Value} (rv : Vals (ns.map V.int) its) {i : Nat} {v : Value} (e : its.toArray[i]? = some v) : ∃ t, v = .int (ns.getD i 0) t := by
  have hl := rv.length
  rw [List.length_map] at hl
  have hi : i < its.length := by
    have := (Array.getElem?_eq_some_iff.mp e).1
    simpa using this
  have hx : (ns.map V.int)[i]? = some (V.int (ns.getD i 0)) := by
    rw [List.getElem?_map, List.getElem?_eq_getElem (by omega), List.getD_eq_getElem?_getD, List.getElem?_eq_getElem (by omega)]
    rfl
  obtain ⟨u, e1, e2⟩ := rv.get hx
  have e3 : its[i]? = some v := by simpa using e
  rw [e1] at e3
  cases e3
  exact e2
theorem preSum_take (l : List Int) : ∀ j, preSum (fun i => l.getD i 0) j = (l.take j).sum
  | 0 => by simp [preSum]
  | j + 1 => by
    rw [preSum, preSum_take l j]
    by_cases h : j < l.length
    · have e : l.take (j + 1) = l.take j ++ [l[j]] := by rw [List.take_succ, List.getElem?_eq_getElem h]; rfl
      rw [e, List.sum_append, List.getD_eq_getElem?_getD, List.getElem?_eq_getElem h]
      simp
    · rw [List.take_of_length_le (by omega), List.take_of_length_le (by omega), List.getD_eq_getElem?_getD, List.getElem?_eq_none (by omega)]
      simp
theorem call_sumL (hc : X.calm = true) : CallR X (.builtin "sum") (fun xs H Q => ∃ (a : Addr) (ns : List Int), xs = [.ref a] ∧ SqL X.K H a (ns.map V.int) ∧ Q (.int ns.sum) H) := by
  intro pins s σ H xs us Q I r h
  obtain ⟨a, ns, rfl, hS, q⟩ := h
  obtain ⟨u, rfl, ru⟩ := vals1 r
  cases ru
  obtain ⟨its, rv, pl, hz⟩ := I.list hS
  have hl : its.length = ns.length := by rw [← rv.length, List.length_map]
  have hlt' : a < s.heap.objs.size := by obtain ⟨o, e, _⟩ := pl.isList; exact Heap.lt_size e
  have hlt : a ≠ s.heap.objs.size := Nat.ne_of_lt hlt'
  refine call_sum_walkG (wpAny_pyIter_list pl.isList ?_)
  refine ⟨s.heap.objs.size, _, _, _, _, _, fun i => ns.getD i 0, rfl, Walks.list (A := X.A.in1) (I.ok.hd hc) _ a hlt its.toArray, ⟨⟨_, Heap.get?_push_size _ rfl, rfl, rfl⟩, pl.isList.push _⟩, fun b hb => ?_, fun i v hP => val_int rv hP, fun h' tk t' hk => ?_⟩
  · show b < (s.heap.push _).objs.size
    rw [Heap.size_push]
    rcases List.mem_cons.mp hb with rfl | hb
    · exact Nat.lt_succ_self _
    · rw [List.mem_singleton.mp hb]
      exact Nat.lt_succ_of_lt hlt'
  · refine ⟨.int _, H, I.walked hk, ⟨t', rfl⟩, ?_⟩
    have e : preSum (fun i => ns.getD i 0) its.toArray.size = ns.sum := by
      rw [List.size_toArray, hl, preSum_take, List.take_of_length_le (Nat.le_refl _)]
    rw [e]
    exact q
end
end L2
set_option Elab.async false
set_option linter.all false
set_option maxRecDepth 100000
namespace L2
open PySem PySem.Spec PyProof.Rows


def cutL (l : List Nat) (lo hi : Option Int) : List Nat := (l.drop (HT.sIx l.length 0 lo)).take (HT.sIx l.length l.length hi - HT.sIx l.length 0 lo)
def rSlS : V → Option Int → Option Int → Hp → VK → Prop := fun x lo hi H Q => ∃ z, x = .str z ∧ z.length ≤ sizeLine ∧ Q (.str (Txt.slice z lo hi)) H
end L2
set_option Elab.async false
set_option linter.all false
set_option maxRecDepth 100000
namespace L2
open PySem PySem.Spec PyProof.Rows

def cxCompF (X : Cx) (Nc : List Str) (scope : Scope) (cl : List (Str × Addr)) (C : Addr) (fp : List Addr) (s : Shared) (H : Hp) : Cx :=
  { X with N := Nc, s₀ := s, H₀ := H, env := compEnvC scope cl C X.env, outer := X.stack, ex := fp, fn := fun _ => false, pn := [], xe := fun _ _ => False }

def tTurnsI (J : It) (D : Addr) (g : TG) (tt : TT) (te : TE) (fin : List V → Hp → Prop) (σ : St) (H : Hp) : Prop :=
  ∃ W : Nat → Nat → List V → St → Hp → Prop, (∃ m, W 0 m [] σ H) ∧ (∀ i m ys σ H, W i m ys σ H → H D = some (.lst ys)) ∧
    ∀ i m ys σ H, W i m ys σ H → (J.stop i H ∧ fin ys H) ∨
      (J.go i H ∧ ∃ N : List V → St → Hp → Prop, (∀ ys' σ' H', N ys' σ' H' → ∃ m', m' < m ∧ W (i + 1) m' ys' σ' H') ∧
        ∀ x H', J.yld i H x H' → g x σ H' fun σ1 H1 => tt σ1 H1 fun b H2 => if b = true then te σ1 H2 fun y H3 => H3 D = some (.lst ys) ∧ ys.length < sizeLine ∧ N (ys ++ [y]) σ1 (upd H3 D (.lst (ys ++ [y]))) else N ys σ1 H2)
def tCompI (src : List (Option Nat)) (wi : TI) (g : TG) (tt : TT) (te : TE) : TE := fun σ H Q => wi σ H fun J H1 => ∀ D, H1 D = none → tTurnsI J D g tt te (fun ys H2 => Q (.ref D) H2) (capt src σ) (upd H1 D (.lst []))
section
variable {X : Cx} {elt iter tgt : Expr} {ifs : List Expr} {scope : Scope} {cl : List (Str × Addr)} {Nc : List Str} {src : List (Option Nat)} {g : TG} {tt : TT} {te : TE}
theorem comp_blockI {pins : List (Addr × Obj)} {σ : St} {H : Hp} {s : Shared} {D it : Addr} {fp : List Addr} {tn : Nat → Heap → Prop} {J : It} {R : Addr → Result → Shared → Prop} {fin : List V → Hp → Prop} {pos : Pos} {E : Value → Shared → Prop}
    (c : CompOk X Nc scope cl src) (hcalm : X.calm = true) (I : Inv X pins σ H s) (T : Turn X.prog X.w X.K tgt J fp it tn) (st0 : tn 0 s.heap) (f : ∀ b ∈ fp, FpOk X pins H b)
    (hb : ∀ C s' H', PG (cxCompF X Nc scope cl C fp s' H') tgt g ∧ PIf (cxCompF X Nc scope cl C fp s' H') ifs tt ∧ PE (cxCompF X Nc scope cl C fp s' H') elt te)
    (h : tTurnsI J D g tt te fin (capt src σ) H)
    (kend : ∀ C ys σ' H' s', H C = none → Inv (cxCompF X Nc scope cl C fp s H) [] σ' H' s' → H' D = some (.lst ys) → fin ys H' → R C (.ok .next) s') :
    wpAny (model X.prog X.w) X.A (newFunctionEnv scope X.env.globals cl [] X.env.qual none .none (some X.env)) (fun cenv s4 =>
      codeAny (model X.prog X.w) X.A (.compStart (.ListComp elt [⟨tgt, iter, ifs, 0⟩] scope pos) 0 (.ref it) (.ref D) { cenv with scope := relabel scope X.env }) (R cenv.locals) s4) E s := by
  obtain ⟨W, ⟨m0, w0⟩, wi, wt⟩ := h
  refine wpAny_newFunctionEnv c.cell (by intro y hy; simp at hy) (fun h1 hn1 hs1 => ?_) c.kind
  have hC0 : H s.heap.objs.size = none := I.hok.fresh (Nat.le_refl _)
  have old : ∀ b o, s.heap.get? b = some o → h1.get? b = some o := fun b o e => hs1.extBut b o (Nat.ne_of_lt (Heap.lt_size e)) (Heap.get?_push_of_some _ e)
  have fplt : ∀ b ∈ fp, b < s.heap.objs.size := fun b hb => by
    obtain ⟨o, e, _⟩ := T.obj 0 _ st0 b hb
    exact Heap.lt_size e
  have inStk : ∀ b ∈ fp, b ∉ frs X.stack := fun b hb z => (List.mem_cons.mp (I.stkSub b z)).elim (f b hb).2.1 (f b hb).2.2.1
  have Yok : (cxCompF X Nc scope cl s.heap.objs.size fp s H).Ok := by
    refine ⟨I.ok.mod, c.kind, I.ok.glob, I.ok.blt, Nat.le_refl _, fun x y b h1 h2 => I.ok.inj x y b (c.sub x b h1) (c.sub y b h2), fun x hx => c.has x hx, (fun x b h1 _ => nomatch h1), I.ok.hd, I.ok.frames, .inl rfl, fun b hb => ?_, fun b o e => I.bs b o e, Nat.le_trans I.ok.bsz I.sz, fun b o e hb => ?_, fun b hb => ?_, I.stack, I.stkFree⟩
    · exact ⟨Nat.ne_of_lt (fplt b hb), fun x b' e => (f b hb).2.2.2.2.1 x b' (c.sub x b' e)⟩
    · have e0 := (I.ok.bs b o e).1
      rcases (f b hb).2.2.2.1 with z | z
      · exact I.ok.noex b o e z
      · rw [z] at e0; cases e0
    · exact inStk b hb
  have J0 : Inv (cxCompF X Nc scope cl s.heap.objs.size fp s H) [] (capt src σ) H { s with heap := h1, toks := s.toks + ([] : List (Str × Value)).length } := by
    refine ⟨Yok, rfl, I.bare, Un.kept old, ⟨_, hn1, fun i x v e1 e2 e3 => ?_⟩, fun x b e => ?_, hC0, fun x b e => I.freeC x b (c.sub x b e), fun p hp => absurd (show p ∈ ([] : List (Addr × Obj)) from hp) (by simp), I.hok.kept old, ?_⟩
    · unfold capt at e2
      rw [List.getElem?_map] at e2
      cases q : src[i]? with
      | none => rw [q] at e2; cases e2
      | some oj =>
        rw [q] at e2
        cases oj with
        | none => cases e2
        | some j =>
          obtain ⟨y, y1, y2, y3, y4⟩ := c.frm i j q
          obtain rfl : y = x := Option.some.inj (y1.symm.trans e1)
          have e2' : (σ[j]?).join = some v := Option.some.inj e2
          have e2s : σ[j]? = some (some v) := by
            cases z : σ[j]? with
            | none => rw [z] at e2'; cases e2'
            | some ov => rw [z] at e2'; exact congrArg some e2'
          obtain ⟨m, hn, hl⟩ := I.loc
          obtain ⟨u, r, l⟩ := hl j y v y2 e2s (.inr (.inl y3))
          refine ⟨u, r, .inr ⟨.inl y4, ?_⟩⟩
          rcases l with ⟨k1, _⟩ | ⟨_, b, k2, k3⟩
          · exact absurd (k1.symm.trans y3) (by intro z; cases z)
          · obtain ⟨b', k4⟩ := c.has y (.inl y4)
            have k5 := c.sub y b' k4
            rw [k2] at k5
            cases k5
            obtain ⟨o, ho, hd⟩ := k3
            exact ⟨b, k4, o, old b o ho, hd⟩
    · obtain ⟨v, o, ho, hd⟩ := I.cell x b (c.sub x b e)
      exact ⟨v, o, old b o ho, hd⟩
    · unfold capt
      rw [List.length_map]
      exact c.len
  have st1 : tn 0 h1 := T.keep _ _ _ st0 fun b _ o e => old b o e
  obtain ⟨bg, bi, be⟩ := hb s.heap.objs.size s H
  have fpY : ∀ {H2 : Hp}, (∀ b ∈ fp, H2 b = none) → ∀ b ∈ fp, FpOk (cxCompF X Nc scope cl s.heap.objs.size fp s H) [] H2 b := fun {H2} n b hb =>
    ⟨n b hb, Nat.ne_of_lt (fplt b hb), inStk b hb, .inl hb, fun x b' e => (f b hb).2.2.2.2.1 x b' (c.sub x b' e), fun p hp => absurd (show p ∈ ([] : List (Addr × Obj)) from hp) (by simp)⟩
  have loop : codeAny (model X.prog X.w) X.A (.compLoop (.ListComp elt [⟨tgt, iter, ifs, 0⟩] scope pos) 0 (.ref it) (.ref D) (compEnvC scope cl s.heap.objs.size X.env)) (R s.heap.objs.size) { s with heap := h1, toks := s.toks + ([] : List (Str × Value)).length } := by
    refine comp_loop (fun n s' => ∃ i ys σ' H', Inv (cxCompF X Nc scope cl s.heap.objs.size fp s H) [] σ' H' s' ∧ tn i s'.heap ∧ (∀ b ∈ fp, H' b = none) ∧ W i n ys σ' H') ?_ m0 ⟨0, [], _, H, J0, st1, fun b hb => (f b hb).1, w0⟩
    rintro n s2 ⟨i, ys, σ2, H2, J2, st2, fr2, w2⟩
    have q2 := wi i n ys σ2 H2 w2
    rcases wt i n ys σ2 H2 w2 with ⟨stop, qn⟩ | ⟨go, N, hN, step⟩
    · refine thn (T.done (cxCompF X Nc scope cl s.heap.objs.size fp s H) rfl rfl rfl hcalm i [] s2 σ2 H2 _ J2 (fpY fr2) st2 stop) fun r s4 ⟨hr, I4⟩ => ?_
      subst hr
      exact kend _ ys σ2 H2 _ hC0 I4 q2 qn
    · refine thn (T.item (cxCompF X Nc scope cl s.heap.objs.size fp s H) rfl rfl rfl hcalm i [] s2 σ2 H2 _ J2 (fpY fr2) st2 go) fun r s4 ⟨u, hr, h4⟩ => ?_
      subst hr
      refine thn h4 fun _ s5 ⟨x, H5, I5, r5, y5, st5, fr5⟩ => ?_
      have I5' := I5.pinned (fpY fr5) (T.obj _ _ st5)
      have back : ∀ {σ7 : St} {H7 : Hp} {s7 : Shared}, Inv (cxCompF X Nc scope cl s.heap.objs.size fp s H) ([] ++ pinsAt fp s5.heap) σ7 H7 s7 → Inv (cxCompF X Nc scope cl s.heap.objs.size fp s H) [] σ7 H7 s7 ∧ tn (i + 1) s7.heap ∧ ∀ b ∈ fp, H7 b = none := fun {σ7 H7 s7} I7 => by
        refine ⟨I7.unpinned, T.keep _ _ _ st5 fun b hb o e => (I7.pin (b, o) (List.mem_append_right _ (List.mem_append_right _ (mem_pinsAt hb e)))).1, fun b hb => ?_⟩
        obtain ⟨o, e, d⟩ := T.obj _ _ st5 b hb
        exact (I7.pin (b, o) (List.mem_append_right _ (List.mem_append_right _ (mem_pinsAt hb e)))).2.1
      refine thn (bg _ s5 σ2 H5 x u _ I5' r5 (step x H5 y5)) fun _ s6 ⟨σ6, H6, I6, q6⟩ => ?_
      refine thn (bi _ s6 σ6 H6 _ I6 q6) fun b s7 ⟨H7, I7, q7⟩ => ?_
      cases b with
      | false =>
        obtain ⟨m', hm, w7⟩ := hN _ _ _ q7
        obtain ⟨J7, st7, fr7⟩ := back I7
        exact ⟨m', hm, i + 1, ys, σ6, H7, J7, st7, fr7, w7⟩
      | true =>
        refine thn (be _ s7 σ6 H7 _ I7 q7) fun y s8 ⟨vy, H8, I8, ry, hD8, hl8, n8⟩ => ?_
        refine thn (mt_append (X := cxCompF X Nc scope cl s.heap.objs.size fp s H) _ s8 σ6 H8 (.ref D) [vy] (.ref D) [y] (fun _ H' => H' = upd H8 D (.lst (ys ++ [vy]))) I8 rfl (.cons ry .nil) ⟨D, ys, vy, rfl, rfl, hD8, hl8, rfl⟩) fun _ s9 ⟨_, H9, I9, _, e9⟩ => ?_
        subst e9
        obtain ⟨m', hm, w8⟩ := hN _ _ _ n8
        obtain ⟨J9, st9, fr9⟩ := back I9
        exact ⟨m', hm, i + 1, ys ++ [vy], σ6, _, J9, st9, fr9, w8⟩
  exact codeAny_compStart_list loop (T.self _ 0 _ _ _ st1 loop)

theorem comp_backI {pins : List (Addr × Obj)} {σ σ' : St} {H H' : Hp} {s s' : Shared} {C : Addr} {fp : List Addr} {h' : Heap} (I : Inv X pins σ H s) (f : ∀ b ∈ fp, FpOk X pins H b) (J : Inv (cxCompF X Nc scope cl C fp s H) [] σ' H' s') (hs : Heap.SameBut C s'.heap h') :
    Inv X pins σ H' { s' with heap := h' } := by
  have nC : ∀ b o, s.heap.get? b = some o → b ≠ C := fun b o e => Nat.ne_of_lt (Nat.lt_of_lt_of_le (Heap.lt_size e) J.ok.above)
  have B := J.base
  refine I.call' (s' := { s' with heap := h' }) (ch := fp) J.os ⟨fun b o e n hb hx => (hs.2 b (nC b o e)).trans (B.keep b o e n hb hx), fun b o e n hb hx => ?_, B.free, fun b o e hx => ?_, B.tups, B.frzs, B.tbls⟩ (fun b u q => ?_) J.bare fun b hb => ?_
  · obtain ⟨sl, z⟩ := B.slot b o e n hb hx
    exact ⟨sl, (hs.2 b (nC b o e)).trans z⟩
  · obtain ⟨o', z⟩ := B.there b o e hx
    exact ⟨o', (hs.2 b (nC b o e)).trans z⟩
  · have hC : H' C = none := J.free
    refine (J.hok b u q).stay (fun c v hc z => (hs.2 c ?_).trans z) (fun _ z => z) fun _ _ z => z
    rintro rfl
    rcases hc with hc | hc
    · rw [← hc, hC] at q; cases q
    · rw [hC] at hc; cases hc
  · exact ⟨(f b hb).2.2.2.1, (f b hb).2.1, (f b hb).2.2.2.2.1, (f b hb).2.2.2.2.2⟩

theorem pe_compI {wi : TI} {pos : Pos} (c : CompOk X Nc scope cl src) (hcalm : X.calm = true) (hi : PI X tgt iter wi)
    (hb : ∀ fp C s' H', PG (cxCompF X Nc scope cl C fp s' H') tgt g ∧ PIf (cxCompF X Nc scope cl C fp s' H') ifs tt ∧ PE (cxCompF X Nc scope cl C fp s' H') elt te)
    (hs : ∀ x, foldedSetIterable iter X.env x = pure x := by intro _; rfl) : PE X (.ListComp elt [⟨tgt, iter, ifs, 0⟩] scope pos) (tCompI src wi g tt te) := by
  intro pins s σ H Q I h
  rw [eval_ListComp]
  refine wpAny_comprehension_free (use := none) rfl hs c.clos c.kind c.names (thn (hi pins s σ H _ I h) fun v s1 h1 => thn h1 fun itv s2 h2 => ?_)
  obtain ⟨it, fp, tn, J, H2, e, I2, T, st2, f2, hT⟩ := h2
  subst e
  refine wpAny_newObj_type ?_ (by size_fits)
  have old : ∀ b o, s2.heap.get? b = some o → (s2.heap.push { cls := .type "list", data := .seq ([] : List Value).toArray }).get? b = some o := fun b o e => Heap.get?_push_of_some _ e
  have I3 := I2.laid (a := s2.heap.objs.size) (o := .lst []) (t' := s2.toks) (h' := s2.heap.push { cls := .type "list", data := .seq ([] : List Value).toArray }) old (Nat.le_refl _) ⟨Nat.zero_le _, [], 0, .nil, Heap.get?_push_size _ rfl⟩
  have ne : ∀ b ∈ fp, b ≠ s2.heap.objs.size := fun b hb => by
    obtain ⟨o, e, _⟩ := T.obj 0 _ st2 b hb
    exact Nat.ne_of_lt (Heap.lt_size e)
  have f3 : ∀ b ∈ fp, FpOk X pins (upd H2 s2.heap.objs.size (.lst [])) b := fun b hb => ⟨by rw [upd_ne (ne b hb)]; exact (f2 b hb).1, (f2 b hb).2⟩
  refine comp_blockI (it := it) (R := fun C => compPost (model X.prog X.w) X.A X.xe none (EP X pins σ Q) _ C) c hcalm I3 T (T.keep _ _ _ st2 fun b _ o e => old b o e) f3 (hb fp) (hT _ (I2.hok.fresh (Nat.le_refl _))) fun C ys σ' H' s' hC J' hD q => ?_
  obtain ⟨m, hn, _⟩ := id J'.loc
  exact ⟨m, hn, fun h' hs' => ⟨.ref _, H', comp_backI I3 f3 J' hs', rfl, q⟩⟩
end

section
variable {K : PySem.W.Frag} {a D : Addr} {xs : List V} {g : TG} {tt : TT} {te : TE} {fin : List V → Hp → Prop} {σ : St} {H : Hp}

def cTurn (D : Addr) (g : TG) (tt : TT) (te : TE) (x : V) (ys : List V) (N : List V → St → Hp → Prop) (σ : St) (H : Hp) : Prop :=
  g x σ H fun σ1 H1 => tt σ1 H1 fun b H2 => if b = true then te σ1 H2 fun y H3 => H3 D = some (.lst ys) ∧ ys.length < sizeLine ∧ N (ys ++ [y]) σ1 (upd H3 D (.lst (ys ++ [y]))) else N ys σ1 H2
theorem compI_list (Pv : Nat → List V → St → Hp → Prop) (h0 : Pv 0 [] σ H) (hl : ∀ i ys σ H, i ≤ xs.length → Pv i ys σ H → SqL K H a xs ∧ H D = some (.lst ys))
    (hs : ∀ i x ys σ H, xs[i]? = some x → Pv i ys σ H → cTurn D g tt te x ys (Pv (i + 1)) σ H) (hd : ∀ ys σ H, Pv xs.length ys σ H → fin ys H) : tTurnsI (Itl K a) D g tt te fin σ H := by
  refine ⟨fun i m ys σ H => m = xs.length - i ∧ i ≤ xs.length ∧ Pv i ys σ H, ⟨xs.length, by simp, Nat.zero_le _, h0⟩, fun i m ys σ H ⟨_, hi, p⟩ => (hl i ys σ H hi p).2, ?_⟩
  rintro i m ys σ H ⟨rfl, hi, p⟩
  have q := (hl i ys σ H hi p).1
  by_cases hlt : i < xs.length
  · refine .inr ⟨⟨xs, xs[i], q, by simp [hlt]⟩, Pv (i + 1), fun ys' σ' H' p' => ⟨xs.length - (i + 1), by omega, rfl, hlt, p'⟩, fun x H' y => ?_⟩
    obtain ⟨e, y⟩ := y
    subst e
    exact hs i x ys σ _ (y xs q) p
  · have e : i = xs.length := by omega
    subst e
    exact .inl ⟨⟨xs, q, Nat.le_refl _⟩, hd ys σ H p⟩
end
end L2
set_option Elab.async false
set_option linter.all false
set_option maxRecDepth 100000
namespace L2
open PySem PySem.Spec PyProof.Rows

def CanCall (X : Cx) (v : V) (vs : List V) (H : Hp) (Q : VK) : Prop :=
  ∃ (CX : CXT) (k : Nat) (f : Addr) (fd : FuncData) (ps : List Str) (sp : Sp) (E : XK), v = .ref f ∧ FnOk X.prog X.w X.K X.mg X.base CX k f fd ps sp ∧ Room k X.A ∧ Binds X.K fd ps [] ∧ Passes CX X E ∧ sp vs H Q E
def CDivB (i j : Int) : Prop := 0 < j ∧ j < 2 ^ 64
theorem log2_small {n : Nat} (h : n < 2 ^ 64) : n.log2 < 9000 := by
  by_cases h0 : n = 0
  · rw [h0]; decide
  · exact Nat.lt_trans ((Nat.log2_lt h0).mpr h) (by decide)
theorem op_fdivB {X : Cx} : OpR X (binaryOp .FloorDiv) (rI CDivB fun i j => .int (i / j)) := opI fun i j _ _ _ _ _ hc q => by
  refine floordiv_int (by have := hc.1; omega) ?_ (.inl (PyProof.noPylong_of_log2 (log2_small (by have h1 := hc.1; have h2 := hc.2; omega))))
  rw [Int.fdiv_eq_ediv_of_nonneg _ (Int.le_of_lt hc.1)]
  exact q
end L2
set_option Elab.async false
set_option linter.all false
set_option maxRecDepth 100000
namespace L2
open PySem PySem.Spec PyProof.Rows

def Its (z : Str) : It := ⟨fun i _ => i < z.cps.size, fun i H x H' => H' = H ∧ ∃ c, z.cps[i]? = some c ∧ x = .str ⟨#[c]⟩, fun i _ => z.cps.size ≤ i⟩
def iStr (tl : TE) : TI := fun σ H R => tl σ H fun x H1 => ∃ z, x = .str z ∧ R (Its z) H1
def sgn (c : Nat) : V := .str ⟨#[c]⟩
section
variable {D : Addr} {g : TG} {tt : TT} {te : TE} {fin : List V → Hp → Prop} {σ : St} {H : Hp} {z : Str}
end
end L2
set_option Elab.async false
set_option linter.all false
set_option maxRecDepth 100000
namespace L2
open PySem PySem.Spec PyProof.Rows

section
variable {X : Cx}

def timesS (z : Str) (n : Int) : Str := ⟨(List.replicate n.toNat z.cps.toList).flatten.toArray⟩
end
end L2
set_option Elab.async false
set_option linter.all false
set_option maxRecDepth 100000
namespace L2
open PySem PySem.Spec PyProof.Rows
open Builtin.Str (occurrences partsBetween)

section
variable {X : Cx}
end
end L2
set_option Elab.async false
set_option linter.all false
set_option maxRecDepth 100000
namespace L2
open PySem PySem.Spec PyProof.Rows

inductive Dt where
  | v (x : V)
  | l (xs : List Dt)
  | t (xs : List Dt)

inductive Is (K : PySem.W.Frag) (H : Hp) : Nat → V → Dt → Prop where
  | v {n : Nat} {x : V} : flatV x = true → Is K H n x (.v x)
  | l {n : Nat} {a : Addr} {xs : List V} {ds : List Dt} : SqL K H a xs → xs.length = ds.length → (∀ (j : Nat) x d, xs[j]? = some x → ds[j]? = some d → Is K H n x d) → Is K H (n + 1) (.ref a) (.l ds)
  | t {n : Nat} {a : Addr} {xs : List V} {ds : List Dt} : SqT K H a xs → xs.length = ds.length → (∀ (j : Nat) x d, xs[j]? = some x → ds[j]? = some d → Is K H n x d) → Is K H (n + 1) (.ref a) (.t ds)
section
variable {X : Cx} {pins : List (Addr × Obj)} {σ : St} {H : Hp} {s : Shared}
end
section
variable {X : Cx}
def isSeq : Dt → Bool
  | .v _ => false
  | _ => true
def rSame (X : Cx) (neg : Bool) : R2 := fun x y H Q => ∃ n d, isSeq d = true ∧ Is X.K H n x d ∧ Is X.K H n y d ∧ X.A.units + n < cLine ∧ Q (.bl (!neg)) H
end
end L2
set_option Elab.async false
set_option linter.all false
set_option maxRecDepth 100000
set_option maxHeartbeats 1000000

namespace SG
open PySem PyProof.Rows
class Rk where
  num : Value → Int
  knd : SortKind
variable [Rk]
def K (xs : Array Keyed) (i : Nat) : Int := match xs[i]? with
  | some q => Rk.num q.1
  | none => 0
def SortedTo (xs : Array Keyed) (n : Nat) : Prop := ∀ a b, a ≤ b → b < n → K xs a ≤ K xs b
structure SBase (b₀ : Array Keyed) (st : SortSt) : Prop where
  perm : (arrOf st).Perm b₀
  kind : kindOf st = Rk.knd
  failed : failedOf st = none
  pend : pendingOf st = #[]
theorem SBase.size {b₀ : Array Keyed} {st : SortSt} (h : SBase b₀ st) : (arrOf st).size = b₀.size := h.perm.size_eq
theorem SBase.setArr {b₀ : Array Keyed} {st : SortSt} (h : SBase b₀ st) {ys : Array Keyed} (q : ys.Perm (arrOf st)) : SBase b₀ (PyProof.Rows.setArr st ys) := ⟨q.trans h.perm, h.kind, h.failed, h.pend⟩

def Cmp (prog : Program) (w : World) (A : Around) (s : Shared) (b₀ : Array Keyed) : Prop :=
  ∀ p ∈ b₀.toList, ∀ q ∈ b₀.toList, ∀ (Q : Bool → Shared → Prop) (E : Value → Shared → Prop), Q (decide (Rk.num p.1 < Rk.num q.1)) s → wpAny (model prog w) A (keyLt' Rk.knd p.1 q.1) Q E s
section
variable {prog : Program} {w : World} {A : Around} {E : Value → Shared → Prop} {s : Shared} {b₀ : Array Keyed}
theorem SBase.mem {st : SortSt} (h : SBase b₀ st) {i : Nat} (hi : i < b₀.size) : ∃ p, (arrOf st)[i]? = some p ∧ p ∈ b₀.toList := by
  have hi' : i < (arrOf st).size := by rw [h.size]; exact hi
  exact ⟨_, getElem?_pos _ i hi', (Array.perm_iff_toList_perm.mp h.perm).mem_iff.mp (by simp)⟩
theorem wpS_ltK {st : SortSt} {i j : Nat} {Q : Option Bool → SortSt → Prop} (hB : SBase b₀ st) (hk : Cmp prog w A s b₀) (hi : i < b₀.size) (hj : j < b₀.size) (h : Q (some (decide (K (arrOf st) i < K (arrOf st) j))) st) : wpS (model prog w) A E s (ltAt' i j) Q st := by
  obtain ⟨p, e1, m1⟩ := hB.mem hi
  obtain ⟨q, e2, m2⟩ := hB.mem hj
  have k1 : K (arrOf st) i = Rk.num p.1 := by unfold K; rw [e1]
  have k2 : K (arrOf st) j = Rk.num q.1 := by unfold K; rw [e2]
  rw [k1, k2] at h
  rw [ltAt'_eq]; refine wpS_bind (wpS_get ?_)
  show wpS _ _ _ _ (do let u ← elem' (arrOf st) i; let v ← elem' (arrOf st) j; lt' u v) Q st
  rw [elem'_eq, elem'_eq, e1, e2]
  refine wpS_bind (wpS_pure (wpS_bind (wpS_pure (?_))))
  rw [lt'_eq]; refine wpS_bind (wpS_get ?_)
  rw [hB.kind]
  refine wpS_bind (wpS_lift (wpAny_attempt (hk p m1 q m2 _ _ ⟨rfl, ?_⟩)))
  exact wpS_pure h
theorem wpS_ascLoop {st : SortSt} {a N : Nat} {Q : AscSt → SortSt → Prop} (hk : Cmp prog w A s b₀) (hN : N ≤ b₀.size) (h1 : 1 ≤ a) (ha : a ≤ N) (hB : SBase b₀ st) (hs : SortedTo (arrOf st) a)
    (h : ∀ m, a ≤ m → m ≤ N → SortedTo (arrOf st) m → (m = N ∨ K (arrOf st) m < K (arrOf st) (m - 1)) → Q (none, m) st) : wpS (model prog w) A E s (ascLoop a N) Q st := by
  unfold ascLoop
  refine wpS_forRange (I := fun x c st' => st' = st ∧ c = (none, x) ∧ SortedTo (arrOf st) x) ?turn ?done ⟨rfl, rfl, hs⟩
  case done =>
    rintro c st' ⟨rfl, rfl, z⟩
    have e : max a N = N := by omega
    rw [e] at z ⊢
    exact h N ha (Nat.le_refl _) z (.inl rfl)
  case turn =>
    rintro x c st' hx1 hx2 ⟨rfl, rfl, z⟩
    dsimp only
    refine wpS_bind (wpS_ltK hB hk (by omega) (by omega) ?_)
    by_cases lt : K (arrOf st') x < K (arrOf st') (x - 1)
    · simp only [lt, decide_true, if_true]; exact wpS_pure (h x hx1 (by omega) z (.inr lt))
    · simp only [lt, decide_false, Bool.false_eq_true, if_false]
      refine wpS_pure ⟨rfl, rfl, fun i j hij hj => ?_⟩
      by_cases c1 : j < x
      · exact z i j hij c1
      · obtain rfl : j = x := by omega
        by_cases c2 : i = j
        · rw [c2]; exact Int.le_refl _
        · have := z i (j - 1) (by omega) (by omega)
          omega
end
end SG
namespace SG
open PySem PyProof.Rows
variable [Rk]
abbrev ky (p : Keyed) : Int := Rk.num p.1
def put (x : Keyed) (l : List Keyed) : List Keyed := l.takeWhile (fun y => decide (ky y ≤ ky x)) ++ x :: l.dropWhile (fun y => decide (ky y ≤ ky x))
def srt (l : List Keyed) : List Keyed := l.foldl (fun acc x => put x acc) []
theorem srt_snoc (l : List Keyed) (x : Keyed) : srt (l ++ [x]) = put x (srt l) := by
  unfold srt
  rw [List.foldl_append]
  rfl
theorem tw_all {p : Keyed → Bool} : ∀ {a b : List Keyed}, (∀ y ∈ a, p y = true) → (∀ y ∈ b, p y = false) → (a ++ b).takeWhile p = a ∧ (a ++ b).dropWhile p = b
  | [], [], _, _ => ⟨rfl, rfl⟩
  | [], y :: b, _, h => by
    have := h y List.mem_cons_self
    simp [List.takeWhile, List.dropWhile, this]
  | x :: a, b, h1, h2 => by
    have hx := h1 x List.mem_cons_self
    obtain ⟨e1, e2⟩ := tw_all (fun y hy => h1 y (List.mem_cons_of_mem _ hy)) h2
    simp only [List.cons_append, List.takeWhile, List.dropWhile, hx]
    exact ⟨by rw [e1], e2⟩
theorem put_at {x : Keyed} {a b : List Keyed} (h1 : ∀ y ∈ a, ky y ≤ ky x) (h2 : ∀ y ∈ b, ky x < ky y) : put x (a ++ b) = a ++ x :: b := by
  unfold put
  obtain ⟨e1, e2⟩ := tw_all (p := fun y => decide (ky y ≤ ky x)) (a := a) (b := b) (fun y hy => decide_eq_true (h1 y hy)) (fun y hy => decide_eq_false (by have := h2 y hy; omega))
  rw [e1, e2]
theorem put_perm (x : Keyed) (l : List Keyed) : (put x l).Perm (l ++ [x]) := by
  unfold put
  refine List.perm_middle.trans ?_
  rw [List.takeWhile_append_dropWhile]
  exact (List.perm_append_singleton x l).symm
theorem srt_perm (l : List Keyed) : (srt l).Perm l := by
  have : ∀ (l acc : List Keyed), (l.foldl (fun acc x => put x acc) acc).Perm (acc ++ l) := by
    intro l
    induction l with
    | nil => intro acc; simp
    | cons x r ih =>
      intro acc
      rw [List.foldl_cons]
      refine (ih _).trans ?_
      have := (put_perm x acc).append_right r
      simpa using this
  have q := this l []
  rw [List.nil_append] at q
  exact q
theorem srt_mem {l : List Keyed} {y : Keyed} : y ∈ srt l ↔ y ∈ l := (srt_perm l).mem_iff
theorem srt_len (l : List Keyed) : (srt l).length = l.length := (srt_perm l).length_eq
abbrev Up (l : List Keyed) : Prop := l.Pairwise fun a b => ky a ≤ ky b
theorem up_put {x : Keyed} {l : List Keyed} (h : Up l) : Up (put x l) := by
  have : ∀ l : List Keyed, Up l → Up (put x l) := by
    intro l
    induction l with
    | nil => intro _; exact List.pairwise_singleton _ _
    | cons y r ih =>
      intro h
      obtain ⟨h1, h2⟩ := List.pairwise_cons.mp h
      by_cases hy : ky y ≤ ky x
      · have e : put x (y :: r) = y :: put x r := by
          unfold put
          simp [List.takeWhile, List.dropWhile, hy]
        rw [e]
        refine List.pairwise_cons.mpr ⟨fun z hz => ?_, ih h2⟩
        rcases List.mem_append.mp ((put_perm x r).mem_iff.mp hz) with q | q
        · exact h1 z q
        · rw [List.mem_singleton.mp q]; exact hy
      · have e : put x (y :: r) = x :: y :: r := by
          unfold put
          simp [List.takeWhile, List.dropWhile, hy]
        rw [e]
        refine List.pairwise_cons.mpr ⟨fun z hz => ?_, h⟩
        rcases List.mem_cons.mp hz with rfl | q
        · omega
        · have := h1 z q; omega
  exact this l h
theorem srt_up (l : List Keyed) : Up (srt l) := by
  have : ∀ (l acc : List Keyed), Up acc → Up (l.foldl (fun acc x => put x acc) acc) := by
    intro l
    induction l with
    | nil => intro acc h; exact h
    | cons x r ih => intro acc h; exact ih _ (up_put h)
  exact this l [] List.Pairwise.nil

theorem srt_more (xs : List Keyed) : ∀ (n : Nat) (b : List Keyed), b.length = n → Up (srt xs ++ b) → srt (xs ++ b) = srt xs ++ b := by
  intro n
  induction n with
  | zero =>
    intro b hb _
    rw [List.length_eq_zero_iff.mp hb]
    simp
  | succ n ih =>
    intro b hb h
    obtain ⟨c, z, rfl⟩ : ∃ c z, b = c ++ [z] := ⟨b.dropLast, b.getLast (by intro e; rw [e] at hb; cases hb), (List.dropLast_concat_getLast _).symm⟩
    rw [List.length_append] at hb
    have h' : Up ((srt xs ++ c) ++ [z]) := by rw [List.append_assoc]; exact h
    obtain ⟨u1, _, u3⟩ := List.pairwise_append.mp h'
    rw [← List.append_assoc, srt_snoc, ih c (by simp at hb; exact hb) u1]
    have := put_at (x := z) (a := srt xs ++ c) (b := []) (fun y hy => u3 y hy z (List.mem_singleton.mpr rfl)) (fun y hy => absurd hy (by simp))
    rw [List.append_nil] at this
    rw [this, List.append_assoc]
theorem srt_id {l : List Keyed} (h : Up l) : srt l = l := by
  have := srt_more [] l.length l rfl (by simpa [srt] using h)
  simpa [srt] using this

theorem srt_front {xs : List Keyed} {v : Int} (h1 : ∀ y ∈ xs, v < ky y) : ∀ (n : Nat) (b : List Keyed), b.length = n → (∀ y ∈ b, ky y = v) → srt (xs ++ b) = b ++ srt xs := by
  intro n
  induction n with
  | zero =>
    intro b hb _
    rw [List.length_eq_zero_iff.mp hb]
    simp
  | succ n ih =>
    intro b hb h
    obtain ⟨c, z, rfl⟩ : ∃ c z, b = c ++ [z] := ⟨b.dropLast, b.getLast (by intro e; rw [e] at hb; cases hb), (List.dropLast_concat_getLast _).symm⟩
    rw [List.length_append] at hb
    have hz : ky z = v := h z (by simp)
    rw [← List.append_assoc, srt_snoc, ih c (by simp at hb; exact hb) fun y hy => h y (by simp [hy])]
    have := put_at (x := z) (a := c) (b := srt xs) (fun y hy => by rw [h y (by simp [hy]), hz]; exact Int.le_refl _) (fun y hy => by rw [hz]; exact h1 y (srt_mem.mp hy))
    rw [this]
    simp

theorem toL {α : Type} {xs : Array α} {l : List α} (h : xs.toList = l) (i : Nat) : xs[i]? = l[i]? := by rw [← h]; simp
theorem list_bubble {xs : Array Keyed} {p q r : List Keyed} {x : Keyed} (h : xs.toList = p ++ (q ++ x :: r)) : (bubble xs (p.length + q.length) q.length).toList = p ++ (x :: (q ++ r)) := by
  have hs : p.length + q.length < xs.size := by
    have : xs.size = (p ++ (q ++ x :: r)).length := by rw [← h]; simp
    rw [this]; simp only [List.length_append, List.length_cons]; omega
  refine List.ext_getElem? fun i => ?_
  have e := getElem?_bubble hs q.length (by omega) i
  rw [Array.getElem?_toList, e, toL h, toL h, toL h, show p.length + q.length - q.length = p.length by omega]
  by_cases h1 : i = p.length
  · have e1 : (p ++ (q ++ x :: r))[p.length + q.length]? = some x := by
      rw [List.getElem?_append_right (by omega), List.getElem?_append_right (by omega)]
      simp
    have e2 : (p ++ (x :: (q ++ r)))[i]? = some x := by
      rw [List.getElem?_append_right (by omega), h1]
      simp
    rw [if_pos h1, e1, e2]
  · rw [if_neg h1]
    by_cases h2 : p.length < i ∧ i ≤ p.length + q.length
    · obtain ⟨j, hj⟩ : ∃ j, i = p.length + (j + 1) := ⟨i - p.length - 1, by omega⟩
      have e1 : (p ++ (q ++ x :: r))[i - 1]? = q[j]? := by
        rw [List.getElem?_append_right (by omega), List.getElem?_append_left (by omega)]
        congr 1
        omega
      have e2 : (p ++ (x :: (q ++ r)))[i]? = q[j]? := by
        rw [List.getElem?_append_right (by omega), show i - p.length = j + 1 by omega, List.getElem?_cons_succ, List.getElem?_append_left (by omega)]
      rw [if_pos h2, e1, e2]
    · rw [if_neg h2]
      by_cases h3 : i < p.length
      · rw [List.getElem?_append_left h3, List.getElem?_append_left h3]
      · obtain ⟨j, hj⟩ : ∃ j, i = p.length + q.length + (j + 1) := ⟨i - p.length - q.length - 1, by omega⟩
        have e1 : (p ++ (q ++ x :: r))[i]? = r[j]? := by
          rw [List.getElem?_append_right (by omega), List.getElem?_append_right (by omega), show i - p.length - q.length = j + 1 by omega, List.getElem?_cons_succ]
        have e2 : (p ++ (x :: (q ++ r)))[i]? = r[j]? := by
          rw [List.getElem?_append_right (by omega), show i - p.length = (q.length + j) + 1 by omega, List.getElem?_cons_succ, List.getElem?_append_right (by omega)]
          congr 1
          omega
        rw [e1, e2]
theorem list_mirror {xs : Array Keyed} {p m r : List Keyed} (h : xs.toList = p ++ (m ++ r)) {i j : Nat} (hi : i = p.length) (hj : j = p.length + m.length) : (mirror xs i j ((j - i) / 2)).toList = p ++ (m.reverse ++ r) := by
  subst hi hj
  have hs : p.length + m.length ≤ xs.size := by
    have : xs.size = (p ++ (m ++ r)).length := by rw [← h]; simp
    rw [this]; simp only [List.length_append]; omega
  refine List.ext_getElem? fun k => ?_
  have e := getElem?_mirror_all (i := p.length) hs k
  rw [Array.getElem?_toList, e, toL h, toL h]
  by_cases h1 : p.length ≤ k ∧ k < p.length + m.length
  · obtain ⟨n, hn⟩ : ∃ n, k = p.length + n := ⟨k - p.length, by omega⟩
    have e1 : (p ++ (m ++ r))[p.length + (p.length + m.length) - 1 - k]? = m[m.length - 1 - n]? := by
      rw [List.getElem?_append_right (by omega), List.getElem?_append_left (by omega)]
      congr 1
      omega
    have e2 : (p ++ (m.reverse ++ r))[k]? = m[m.length - 1 - n]? := by
      rw [List.getElem?_append_right (by omega), List.getElem?_append_left (by rw [List.length_reverse]; omega), List.getElem?_reverse (by omega)]
      congr 1
      omega
    rw [if_pos h1, e1, e2]
  · rw [if_neg h1]
    by_cases h2 : k < p.length
    · rw [List.getElem?_append_left h2, List.getElem?_append_left h2]
    · have e1 : (p ++ (m ++ r))[k]? = r[k - p.length - m.length]? := by
        rw [List.getElem?_append_right (by omega), List.getElem?_append_right (by omega)]
      have e2 : (p ++ (m.reverse ++ r))[k]? = r[k - p.length - m.length]? := by
        rw [List.getElem?_append_right (by omega), List.getElem?_append_right (by rw [List.length_reverse]; omega), List.length_reverse]
      rw [e1, e2]
theorem K_of {xs : Array Keyed} {i : Nat} {p : Keyed} (h : xs[i]? = some p) : K xs i = ky p := by
  unfold K
  rw [h]

theorem up_of {xs : Array Keyed} {l r : List Keyed} (h : xs.toList = l ++ r) (hs : SortedTo xs l.length) : Up l := by
  refine List.pairwise_iff_getElem.mpr fun i j hi hj hij => ?_
  have e1 : xs[i]? = some l[i] := by rw [toL h, List.getElem?_append_left hi]; exact List.getElem?_eq_getElem hi
  have e2 : xs[j]? = some l[j] := by rw [toL h, List.getElem?_append_left hj]; exact List.getElem?_eq_getElem hj
  have := hs i j (Nat.le_of_lt hij) hj
  rw [K_of e1, K_of e2] at this
  exact this
theorem of_up {xs : Array Keyed} {l r : List Keyed} (h : xs.toList = l ++ r) (hu : Up l) : SortedTo xs l.length := by
  intro i j hij hj
  have hi : i < l.length := by omega
  have e1 : xs[i]? = some l[i] := by rw [toL h, List.getElem?_append_left hi]; exact List.getElem?_eq_getElem hi
  have e2 : xs[j]? = some l[j] := by rw [toL h, List.getElem?_append_left hj]; exact List.getElem?_eq_getElem hj
  rw [K_of e1, K_of e2]
  by_cases q : i = j
  · subst q; exact Int.le_refl _
  · exact List.pairwise_iff_getElem.mp hu i j hi hj (by omega)
end SG
namespace SG
open PySem PyProof.Rows
variable [Rk]
section
variable {prog : Program} {w : World} {A : Around} {E : Value → Shared → Prop} {s : Shared} {b₀ : Array Keyed}

structure Got (b₀ : Array Keyed) (st : SortSt) (n : Nat) : Prop where
  base : SBase b₀ st
  list : (arrOf st).toList = srt (b₀.toList.take n) ++ b₀.toList.drop n
theorem sized (b₀ : Array Keyed) : b₀.toList.length = b₀.size := by simp
theorem Got.len {st : SortSt} {n : Nat} (g : Got b₀ st n) (hn : n ≤ b₀.size) : (srt (b₀.toList.take n)).length = n := by
  rw [srt_len, List.length_take, sized]
  omega
theorem Got.up {st : SortSt} {n : Nat} (g : Got b₀ st n) (hn : n ≤ b₀.size) : SortedTo (arrOf st) n := by
  have := of_up g.list (srt_up _)
  rw [g.len hn] at this
  exact this
theorem drop_at {k : Nat} (hk : k < b₀.size) : b₀.toList.drop k = b₀[k] :: b₀.toList.drop (k + 1) := by
  rw [List.drop_eq_getElem_cons (by rw [sized]; exact hk)]
  simp
theorem take_at {k : Nat} (hk : k < b₀.size) : b₀.toList.take (k + 1) = b₀.toList.take k ++ [b₀[k]] := by
  rw [List.take_succ, List.getElem?_eq_getElem (by rw [sized]; exact hk)]
  simp
theorem Got.next {st : SortSt} {k : Nat} (g : Got b₀ st k) (hk : k < b₀.size) : (arrOf st)[k]? = some b₀[k] := by
  rw [toL g.list, List.getElem?_append_right (by rw [g.len (by omega)]; exact Nat.le_refl _), g.len (by omega), drop_at hk]
  simp
theorem Got.atI {st : SortSt} {n i : Nat} (g : Got b₀ st n) (hn : n ≤ b₀.size) (hi : i < n) : ∃ y, (srt (b₀.toList.take n))[i]? = some y ∧ K (arrOf st) i = ky y := by
  have hl := g.len hn
  have e := List.getElem?_eq_getElem (l := srt (b₀.toList.take n)) (i := i) (by rw [hl]; exact hi)
  exact ⟨_, e, K_of (by rw [toL g.list, List.getElem?_append_left (by rw [hl]; exact hi)]; exact e)⟩

theorem Got.insert {st : SortSt} {k c : Nat} (g : Got b₀ st k) (hk : k < b₀.size) (hc : c ≤ k) (lo : ∀ i, i < c → K (arrOf st) i ≤ K (arrOf st) k) (hi : ∀ i, c ≤ i → i < k → K (arrOf st) k < K (arrOf st) i) :
    Got b₀ (setArr st (bubble (arrOf st) k (k - c))) (k + 1) := by
  have hl := g.len (by omega : k ≤ b₀.size)
  have ex : K (arrOf st) k = ky b₀[k] := K_of (g.next hk)
  have e0 : srt (b₀.toList.take k) = (srt (b₀.toList.take k)).take c ++ (srt (b₀.toList.take k)).drop c := (List.take_append_drop _ _).symm
  have lp : ((srt (b₀.toList.take k)).take c).length = c := by rw [List.length_take, hl]; omega
  have lq : ((srt (b₀.toList.take k)).drop c).length = k - c := by rw [List.length_drop, hl]
  have li : (arrOf st).toList = (srt (b₀.toList.take k)).take c ++ ((srt (b₀.toList.take k)).drop c ++ b₀[k] :: b₀.toList.drop (k + 1)) := by
    rw [g.list, drop_at hk, ← List.append_assoc, ← e0]
  refine ⟨g.base.setArr (bubble_perm _ _ _), ?_⟩
  have mv := list_bubble li
  rw [lp, lq, show c + (k - c) = k by omega] at mv
  show (bubble (arrOf st) k (k - c)).toList = _
  rw [mv, take_at hk, srt_snoc]
  have pa := put_at (x := b₀[k]) (a := (srt (b₀.toList.take k)).take c) (b := (srt (b₀.toList.take k)).drop c) (fun y hy => ?_) (fun y hy => ?_)
  · rw [← e0] at pa
    rw [pa]
    simp
  · obtain ⟨i, hi', e⟩ := List.mem_iff_getElem.mp hy
    rw [lp] at hi'
    obtain ⟨z, ez, kz⟩ := g.atI (by omega) (by omega : i < k)
    have : z = y := by
      rw [List.getElem_take] at e
      rw [List.getElem?_eq_getElem (by rw [hl]; omega)] at ez
      rw [← e]
      exact (Option.some.inj ez).symm
    have q := lo i hi'
    rw [kz, ex, this] at q
    exact q
  · obtain ⟨i, hi', e⟩ := List.mem_iff_getElem.mp hy
    rw [lq] at hi'
    obtain ⟨z, ez, kz⟩ := g.atI (by omega) (by omega : c + i < k)
    have : z = y := by
      rw [List.getElem_drop] at e
      rw [List.getElem?_eq_getElem (by rw [hl]; omega)] at ez
      rw [← e]
      exact (Option.some.inj ez).symm
    have q := hi (c + i) (by omega) (by omega)
    rw [kz, ex, this] at q
    exact q
theorem runs_in {st : SortSt} {n m : Nat} {Q : Bool → SortSt → Prop} (hk : Cmp prog w A s b₀) (hn : n ≤ b₀.size) (hm : m ≤ n) (hm1 : 1 ≤ m) (g : Got b₀ st m) (fin : ∀ st', Got b₀ st' n → Q true st') :
    wpS (model prog w) A E s (binarySort' 0 n m) Q st := by
  rw [binarySort'_eq]
  simp only [Nat.zero_add]
  refine wpS_bind (wpS_mono (wpS_forRange (I := fun k c st' => c = (none, ()) ∧ Got b₀ st' k) (Q := fun c st' => c = (none, ()) ∧ Got b₀ st' n) ?turn ?done ?begin) ?after)
  case after =>
    rintro _ st' ⟨rfl, g'⟩
    exact wpS_pure (fin st' g')
  case begin =>
    rw [show max m 1 = m by omega]
    exact ⟨rfl, g⟩
  case done =>
    rintro c st' ⟨hc, g'⟩
    rw [show max (max m 1) n = n by omega] at g'
    exact ⟨hc, g'⟩
  case turn =>
    rintro k _ st' lo hi ⟨rfl, g'⟩
    have kz : k < b₀.size := by omega
    have srtd := g'.up (by omega : k ≤ b₀.size)
    refine wpS_bind (wpS_mono (wpS_forRange
      (I := fun x c st2 => st2 = st' ∧ ∃ l r, c = (none, l, r) ∧ (l ≤ r ∧ r ≤ k ∧ r - l ≤ k - x) ∧ (∀ i, i < l → K (arrOf st') i ≤ K (arrOf st') k) ∧ ∀ i, r ≤ i → i < k → K (arrOf st') k < K (arrOf st') i)
      (Q := fun c st2 => st2 = st' ∧ ∃ l r, c = (none, l, r) ∧ l ≤ k ∧ (∀ i, i < l → K (arrOf st') i ≤ K (arrOf st') k) ∧ ∀ i, l ≤ i → i < k → K (arrOf st') k < K (arrOf st') i) ?t2 ?d2 ?b2) ?a2)
    case b2 => exact ⟨rfl, 0, k, rfl, ⟨by omega, by omega, by omega⟩, fun i hi => absurd hi (by omega), fun i h1 h2 => absurd h2 (by omega)⟩
    case d2 =>
      rintro c st2 ⟨rfl, l, r, rfl, ⟨q1, q2, q3⟩, q4, q5⟩
      obtain rfl : l = r := by omega
      exact ⟨rfl, l, l, rfl, q2, q4, q5⟩
    case t2 =>
      rintro x c st2 _ _ ⟨rfl, l, r, rfl, ⟨q1, q2, q3⟩, q4, q5⟩
      dsimp only
      by_cases end' : l ≥ r
      · rw [if_pos end']
        obtain rfl : l = r := by omega
        exact wpS_pure ⟨rfl, l, l, rfl, q2, q4, q5⟩
      rw [if_neg end']
      refine wpS_bind (wpS_ltK g'.base hk kz (by omega) ?_)
      by_cases less : K (arrOf st2) k < K (arrOf st2) ((l + r) / 2)
      · rw [decide_eq_true less]
        simp only [if_true]
        exact wpS_pure ⟨rfl, l, (l + r) / 2, rfl, ⟨by omega, by omega, by omega⟩, q4, fun i h1 h2 => Int.lt_of_lt_of_le less (srtd _ _ h1 h2)⟩
      · rw [decide_eq_false less]
        simp only [Bool.false_eq_true, if_false]
        refine wpS_pure ⟨rfl, (l + r) / 2 + 1, r, rfl, ⟨by omega, by omega, by omega⟩, fun i h1 => ?_, q5⟩
        have := srtd i ((l + r) / 2) (by omega) (by omega)
        omega
    case a2 =>
      rintro c st2 ⟨rfl, l, r, rfl, q1, q2, q3⟩
      show wpS _ _ _ _ (do moveDown' k l; pure (ForInStep.yield (none, ()))) _ _
      rw [moveDown'_eq]
      exact wpS_bind (wpS_modify (wpS_pure ⟨rfl, g'.insert kz q1 q2 q3⟩))
end
end SG
namespace SG
open PySem PyProof.Rows
variable [Rk]
section
variable {prog : Program} {w : World} {A : Around} {E : Value → Shared → Prop} {s : Shared} {b₀ : Array Keyed}
theorem Got.on {st : SortSt} {n m : Nat} (g : Got b₀ st n) (h1 : n ≤ m) (h2 : m ≤ b₀.size) (hs : SortedTo (arrOf st) m) : Got b₀ st m := by
  have et : b₀.toList.take m = b₀.toList.take n ++ (b₀.toList.drop n).take (m - n) := by
    have := List.take_add (l := b₀.toList) (i := n) (j := m - n)
    rwa [show n + (m - n) = m by omega] at this
  have ed : b₀.toList.drop n = (b₀.toList.drop n).take (m - n) ++ b₀.toList.drop m := by
    have := (List.take_append_drop (m - n) (b₀.toList.drop n)).symm
    rwa [List.drop_drop, show n + (m - n) = m by omega] at this
  have li : (arrOf st).toList = (srt (b₀.toList.take n) ++ (b₀.toList.drop n).take (m - n)) ++ b₀.toList.drop m := by
    rw [g.list, List.append_assoc, ← ed]
  have ln : (srt (b₀.toList.take n) ++ (b₀.toList.drop n).take (m - n)).length = m := by
    rw [List.length_append, g.len (by omega), List.length_take, List.length_drop, sized]
    omega
  refine ⟨g.base, ?_⟩
  rw [et, srt_more _ _ _ rfl (up_of li (by rw [ln]; exact hs))]
  exact li
theorem tail_in {st : SortSt} {n N : Nat} {Q : Option Nat → SortSt → Prop} (hk : Cmp prog w A s b₀) (hN : N ≤ b₀.size) (h1 : 1 ≤ n) (hn : n ≤ N) (hB : SBase b₀ st)
    (li : (arrOf st).toList = (srt (b₀.toList.take n)).reverse ++ b₀.toList.drop n) (fin : ∀ m st', Got b₀ st' m → 1 ≤ m → m ≤ N → Q (some m) st') : wpS (model prog w) A E s (tail3 n N) Q st := by
  unfold tail3
  have ln : (srt (b₀.toList.take n)).length = n := by rw [srt_len, List.length_take, sized]; omega
  refine wpS_bind (wpS_reverse ?_)
  have g : Got b₀ (setArr st (mirror (arrOf st) 0 n ((n - 0) / 2))) n := by
    refine ⟨hB.setArr (mirror_perm _ _ _ _), ?_⟩
    have e := list_mirror (xs := arrOf st) (p := []) (m := (srt (b₀.toList.take n)).reverse) (r := b₀.toList.drop n) (i := 0) (j := n) (by rw [List.nil_append]; exact li) rfl (by rw [List.length_reverse, ln]; simp)
    rw [List.reverse_reverse, List.nil_append] at e
    exact e
  refine wpS_bind (wpS_ascLoop hk hN h1 hn g.base (g.up (by omega)) fun m a1 a2 a3 _ => ?_)
  exact wpS_pure (fin m _ (g.on a1 (by omega) a3) (by omega) a2)

structure Fall (b₀ : Array Keyed) (st : SortSt) (x q : Nat) (xs b : List Keyed) (v : Int) : Prop where
  base : SBase b₀ st
  cut : b₀.toList.take x = xs ++ b
  list : (arrOf st).toList = (srt xs).reverse ++ (b ++ b₀.toList.drop x)
  len : b.length = q + 1
  same : ∀ y ∈ b, ky y = v
  less : ∀ y ∈ xs, v < ky y
theorem Fall.size {st : SortSt} {x q : Nat} {xs b : List Keyed} {v : Int} (f : Fall b₀ st x q xs b v) (hx : x ≤ b₀.size) : xs.length + (q + 1) = x := by
  have := congrArg List.length f.cut
  rw [List.length_take, sized, List.length_append, f.len] at this
  omega
theorem Fall.next {st : SortSt} {x q : Nat} {xs b : List Keyed} {v : Int} (f : Fall b₀ st x q xs b v) (hx : x < b₀.size) : K (arrOf st) x = ky b₀[x] := by
  have sz := f.size (by omega)
  refine K_of ?_
  rw [toL f.list, List.getElem?_append_right (by rw [List.length_reverse, srt_len]; omega), List.getElem?_append_right (by rw [List.length_reverse, srt_len, f.len]; omega), drop_at hx, List.length_reverse, srt_len, f.len, show x - xs.length - (q + 1) = 0 by omega]
  rfl
theorem Fall.last {st : SortSt} {x q : Nat} {xs b : List Keyed} {v : Int} (f : Fall b₀ st x q xs b v) (hx : x ≤ b₀.size) : K (arrOf st) (x - 1) = v := by
  have sz := f.size hx
  have hq : q < b.length := by rw [f.len]; omega
  have e : (arrOf st)[x - 1]? = some b[q] := by
    rw [toL f.list, List.getElem?_append_right (by rw [List.length_reverse, srt_len]; omega), List.getElem?_append_left (by rw [List.length_reverse, srt_len, f.len]; omega), List.length_reverse, srt_len, show x - 1 - xs.length = q by omega]
    exact List.getElem?_eq_getElem hq
  rw [K_of e]
  exact f.same _ (List.getElem_mem hq)

theorem Fall.turned {st : SortSt} {x q : Nat} {xs b : List Keyed} {v : Int} (f : Fall b₀ st x q xs b v) (hx : x ≤ b₀.size) : (mirror (arrOf st) (x - (q + 1)) x ((x - (x - (q + 1))) / 2)).toList = (srt (b₀.toList.take x)).reverse ++ b₀.toList.drop x := by
  have sz := f.size hx
  have e := list_mirror (xs := arrOf st) (p := (srt xs).reverse) (m := b) (r := b₀.toList.drop x) (i := x - (q + 1)) (j := x) f.list (by rw [List.length_reverse, srt_len]; omega) (by rw [List.length_reverse, srt_len, f.len]; omega)
  rw [e, f.cut, srt_front f.less _ _ rfl f.same, List.reverse_append, List.append_assoc]
theorem Fall.still {st : SortSt} {x : Nat} {xs b : List Keyed} {v : Int} (f : Fall b₀ st x 0 xs b v) : (arrOf st).toList = (srt (b₀.toList.take x)).reverse ++ b₀.toList.drop x := by
  obtain ⟨y, hy⟩ : ∃ y, b = [y] := List.length_eq_one_iff.mp f.len
  rw [f.list, f.cut, srt_front f.less _ _ rfl f.same, List.reverse_append, List.append_assoc, hy]
  rfl

theorem fall_on {st : SortSt} {x : Nat} (hB : SBase b₀ st) (hx : x < b₀.size) (li : (arrOf st).toList = (srt (b₀.toList.take x)).reverse ++ b₀.toList.drop x) (hl : ∀ y ∈ b₀.toList.take x, ky b₀[x] < ky y) :
    Fall b₀ st (x + 1) 0 (b₀.toList.take x) [b₀[x]] (ky b₀[x]) := by
  refine ⟨hB, take_at hx, ?_, rfl, fun y hy => by rw [List.mem_singleton.mp hy], hl⟩
  rw [li, drop_at hx]
  rfl
theorem fall_loop {st : SortSt} {n N : Nat} {Q : DescSt → SortSt → Prop} (hk : Cmp prog w A s b₀) (hN : N ≤ b₀.size) (h1 : 1 ≤ n) (hn : n ≤ N) {q0 : Nat} {xs0 c0 : List Keyed} {v0 : Int} (hq0 : q0 = 0) (f0 : Fall b₀ st n q0 xs0 c0 v0)
    (fin : ∀ m q st' xs b v, Fall b₀ st' m q xs b v → n ≤ m → m ≤ N → Q (none, m, q) st') : wpS (model prog w) A E s (descLoop n N) Q st := by
  subst hq0
  unfold descLoop
  refine wpS_forRange (I := fun x c st' => ∃ q xs b v, c = (none, x, q) ∧ Fall b₀ st' x q xs b v) ?turn ?done ⟨0, xs0, c0, v0, rfl, f0⟩
  case done =>
    rintro c st' ⟨q, xs, b, v, rfl, f⟩
    rw [show max n N = N by omega] at f ⊢
    exact fin N q st' xs b v f hn (Nat.le_refl _)
  case turn =>
    rintro x c st' lo hi ⟨q, xs, b, v, rfl, f⟩
    dsimp only
    have hx : x < b₀.size := by omega
    have kx := f.next hx
    have kl := f.last (by omega)
    refine wpS_bind (wpS_ltK f.base hk (by omega) (by omega) ?_)
    by_cases less : K (arrOf st') x < K (arrOf st') (x - 1)
    · rw [decide_eq_true less]
      simp only [if_true]
      have hl : ∀ y ∈ b₀.toList.take x, ky b₀[x] < ky y := fun y hy => by
        rw [kx, kl] at less
        rw [f.cut] at hy
        rcases List.mem_append.mp hy with z | z
        · have := f.less y z; omega
        · rw [f.same y z]; exact less
      by_cases hq : q > 0
      · rw [if_pos hq]
        exact wpS_bind (wpS_reverse (wpS_pure ⟨0, _, _, _, rfl, fall_on (f.base.setArr (mirror_perm _ _ _ _)) hx (f.turned (by omega)) hl⟩))
      · rw [if_neg hq]
        obtain rfl : q = 0 := by omega
        exact wpS_pure ⟨0, _, _, _, rfl, fall_on f.base hx f.still hl⟩
    · rw [decide_eq_false less]
      simp only [Bool.false_eq_true, if_false]
      refine wpS_bind (wpS_ltK f.base hk (by omega) (by omega) ?_)
      by_cases more : K (arrOf st') (x - 1) < K (arrOf st') x
      · rw [decide_eq_true more]
        simp only [if_true]
        exact wpS_pure (fin x q st' xs b v f lo (by omega))
      · rw [decide_eq_false more]
        simp only [Bool.false_eq_true, if_false]
        have eq : ky b₀[x] = v := by rw [kx, kl] at less more; omega
        refine wpS_pure ⟨q + 1, xs, b ++ [b₀[x]], v, rfl, f.base, ?_, ?_, by rw [List.length_append, f.len]; rfl, fun y hy => ?_, f.less⟩
        · rw [take_at hx, f.cut, List.append_assoc]
        · rw [f.list, drop_at hx, List.append_assoc]
          rfl
        · rcases List.mem_append.mp hy with z | z
          · exact f.same y z
          · rw [List.mem_singleton.mp z]; exact eq
theorem fall_part {st : SortSt} {n N : Nat} {Q : Option Nat → SortSt → Prop} (hk : Cmp prog w A s b₀) (hN : N ≤ b₀.size) (hn : n + 1 ≤ N) (hB : SBase b₀ st) (li : (arrOf st).toList = (srt (b₀.toList.take n)).reverse ++ b₀.toList.drop n)
    (hl : ∀ (h : n < b₀.size), ∀ y ∈ b₀.toList.take n, ky b₀[n] < ky y) (fin : ∀ m st', Got b₀ st' m → 1 ≤ m → m ≤ N → Q (some m) st') : wpS (model prog w) A E s (descPart n N) Q st := by
  unfold descPart
  refine wpS_bind (wpS_lift (wpAny_rule ⟨rfl, ?_⟩))
  have hx : n < b₀.size := by omega
  refine wpS_bind (fall_loop hk hN (by omega) hn rfl (fall_on hB hx li (hl hx)) fun m q st' xs b v f a1 a2 => ?_)
  dsimp only
  by_cases hq : q > 0
  · rw [if_pos hq]
    exact wpS_bind (wpS_reverse (tail_in hk hN (by omega) a2 (f.base.setArr (mirror_perm _ _ _ _)) (f.turned (by omega)) fin))
  · rw [if_neg hq]
    obtain rfl : q = 0 := by omega
    exact tail_in hk hN (by omega) a2 f.base f.still fin
theorem count_in {st : SortSt} {N : Nat} {Q : Option Nat → SortSt → Prop} (hk : Cmp prog w A s b₀) (hN : N ≤ b₀.size) (h1 : 1 ≤ N) (hB : SBase b₀ st) (h0 : (arrOf st).toList = b₀.toList)
    (fin : ∀ m st', Got b₀ st' m → 1 ≤ m → m ≤ N → Q (some m) st') : wpS (model prog w) A E s (countRun' 0 N) Q st := by
  rw [countRun0_eq]
  have g0 : Got b₀ st 0 := ⟨hB, by rw [h0]; rfl⟩
  refine wpS_bind (wpS_ascLoop hk hN (Nat.le_refl 1) h1 hB (fun i j a b => by
    obtain rfl : i = j := by omega
    exact Int.le_refl _) fun n a1 a2 up stop => ?_)
  dsimp only
  have gn : Got b₀ st n := g0.on (Nat.zero_le _) (by omega) up
  by_cases e : n = N
  · rw [if_pos (by simpa using e)]
    exact wpS_pure (fin n st gn a1 a2)
  rw [if_neg (by simpa using e)]
  have dn : K (arrOf st) n < K (arrOf st) (n - 1) := stop.resolve_left e
  have hn : n < b₀.size := by omega
  have kn : K (arrOf st) n = ky b₀[n] := K_of (gn.next hn)
  have li : (arrOf st).toList = b₀.toList.take n ++ b₀.toList.drop n := by rw [h0, List.take_append_drop]
  have lt : (b₀.toList.take n).length = n := by rw [List.length_take, sized]; omega
  have id' : srt (b₀.toList.take n) = b₀.toList.take n := srt_id (up_of li (by rw [lt]; exact up))
  have kat : ∀ y ∈ b₀.toList.take n, ∃ i, i < n ∧ K (arrOf st) i = ky y := fun y hy => by
    obtain ⟨i, hi, rfl⟩ := List.mem_iff_getElem.mp hy
    rw [lt] at hi
    exact ⟨i, hi, K_of (by rw [toL li, List.getElem?_append_left (by rw [lt]; exact hi)]; exact List.getElem?_eq_getElem _)⟩
  by_cases two : n > 1
  · rw [if_pos two]
    refine wpS_bind (wpS_ltK hB hk (by omega) (by omega) ?_)
    by_cases rose : K (arrOf st) 0 < K (arrOf st) (n - 1)
    · rw [decide_eq_true rose]
      simp only [if_true]
      exact wpS_pure (fin n st gn a1 a2)
    · rw [decide_eq_false rose]
      simp only [Bool.false_eq_true, if_false]
      refine wpS_bind (wpS_reverse (fall_part hk hN (by omega) (hB.setArr (mirror_perm _ _ _ _)) ?_ (fun _ y hy => ?_) fin))
      · have e := list_mirror (xs := arrOf st) (p := []) (m := b₀.toList.take n) (r := b₀.toList.drop n) (i := 0) (j := n) (by rw [List.nil_append]; exact li) rfl (by rw [lt]; simp)
        rw [id']
        exact e
      · obtain ⟨i, hi, ki⟩ := kat y hy
        have u1 := up 0 i (by omega) hi
        have u2 := up i (n - 1) (by omega) (by omega)
        rw [← ki, ← kn]
        omega
  · rw [if_neg two]
    obtain rfl : n = 1 := by omega
    refine fall_part hk hN (by omega) hB ?_ (fun _ y hy => ?_) fin
    · rw [id']
      obtain ⟨z, hz⟩ : ∃ z, b₀.toList.take 1 = [z] := List.length_eq_one_iff.mp lt
      rw [hz]
      rw [hz] at li
      exact li
    · obtain ⟨i, hi, ki⟩ := kat y hy
      obtain rfl : i = 0 := by omega
      rw [← ki, ← kn]
      exact dn
theorem sort_in {st : SortSt} {Q : Unit → SortSt → Prop} (hk : Cmp prog w A s b₀) (hB : SBase b₀ st) (h0 : (arrOf st).toList = b₀.toList) (h2 : 2 ≤ b₀.size) (h64 : b₀.size < 64)
    (fin : ∀ st', failedOf st' = none → (arrOf st').toList = srt b₀.toList → Q () st') : wpS (model prog w) A E s sortRuns' Q st := by
  rw [sortRuns'_eq]
  refine wpS_bind (wpS_get ?_)
  dsimp only
  have mr : minRun' b₀.size b₀.size 0 = b₀.size := by
    obtain ⟨f, hf⟩ : ∃ f, b₀.size = f + 1 := ⟨b₀.size - 1, by omega⟩
    have q : minRun' (f + 1) b₀.size 0 = b₀.size := by
      rw [minRun'_succ, if_pos h64]
      rfl
    rwa [← hf] at q
  simp only [hB.size, mr]
  have whole : ∀ {st' : SortSt}, Got b₀ st' b₀.size → (arrOf st').toList = srt b₀.toList := fun {st'} g => by
    have := g.list
    rw [← sized, List.take_of_length_le (Nat.le_refl _), List.drop_of_length_le (Nat.le_refl _), List.append_nil] at this
    exact this
  refine wpS_bind (wpS_mono (wpS_forRange
    (I := fun x c st' => (x = 0 ∧ c = (none, 0) ∧ st' = st) ∨ (1 ≤ x ∧ c = (none, b₀.size) ∧ failedOf st' = none ∧ pendingOf st' = #[(0, b₀.size, 0)] ∧ (arrOf st').toList = srt b₀.toList))
    (Q := fun c st' => c = (none, b₀.size) ∧ failedOf st' = none ∧ pendingOf st' = #[(0, b₀.size, 0)] ∧ (arrOf st').toList = srt b₀.toList) ?turn ?done (.inl ⟨rfl, rfl, rfl⟩)) ?after)
  case done =>
    rintro c st' (⟨z, _⟩ | ⟨_, z⟩)
    · omega
    · exact z
  case turn =>
    rintro x c st' _ hx (⟨rfl, rfl, rfl⟩ | ⟨x1, rfl, z⟩)
    · dsimp only
      rw [if_neg (by omega)]
      simp only [Nat.sub_zero, Nat.min_self, Nat.zero_add]
      refine wpS_bind (count_in hk (Nat.le_refl _) (by omega) hB h0 fun m st2 g m1 m2 => ?_)
      dsimp only
      have fin2 : ∀ {st3 : SortSt}, Got b₀ st3 b₀.size → (failedOf (setPending st3 ((pendingOf st3).push (0, b₀.size, 0))) = none ∧ pendingOf (setPending st3 ((pendingOf st3).push (0, b₀.size, 0))) = #[(0, b₀.size, 0)] ∧ (arrOf (setPending st3 ((pendingOf st3).push (0, b₀.size, 0)))).toList = srt b₀.toList) := fun {st3} g3 =>
        ⟨g3.base.failed, by show (pendingOf st3).push _ = _; rw [g3.base.pend]; rfl, show (arrOf st3).toList = srt b₀.toList from whole g3⟩
      by_cases lt : m < b₀.size
      · rw [if_pos lt]
        refine wpS_bind (wpS_lift (wpAny_rule ⟨rfl, ?_⟩))
        refine wpS_bind (runs_in hk (Nat.le_refl _) m2 m1 g fun st3 g3 => ?_)
        simp only [Bool.not_true, Bool.false_eq_true, if_false]
        refine wpS_bind (wpS_get ?_)
        rw [show (pendingOf st3).back? = none by rw [g3.base.pend]; rfl]
        dsimp only
        exact wpS_bind (wpS_modify (wpS_pure (.inr ⟨by omega, rfl, fin2 g3⟩)))
      · rw [if_neg lt]
        obtain rfl : m = b₀.size := by omega
        refine wpS_bind (wpS_get ?_)
        rw [show (pendingOf st2).back? = none by rw [g.base.pend]; rfl]
        dsimp only
        exact wpS_bind (wpS_modify (wpS_pure (.inr ⟨by omega, rfl, fin2 g⟩)))
    · dsimp only
      rw [if_pos (Nat.le_refl _)]
      exact wpS_pure ⟨rfl, z⟩
  case after =>
    rintro c st' ⟨rfl, z1, z2, z3⟩
    dsimp only
    refine wpS_bind (wpS_mono (wpS_forRange (I := fun _ c st2 => st2 = st' ∧ c = (none, ())) (Q := fun c st2 => st2 = st' ∧ c = (none, ())) ?_ (fun _ _ q => q) ⟨rfl, rfl⟩) ?_)
    · rintro x c st2 _ _ ⟨rfl, rfl⟩
      refine wpS_bind (wpS_get ?_)
      rw [if_pos (by rw [z2]; exact Nat.le_refl 1)]
      exact wpS_pure ⟨rfl, rfl⟩
    · rintro c st2 ⟨rfl, rfl⟩
      exact wpS_pure (fin _ z1 z3)
end
end SG
set_option Elab.async false
set_option linter.all false
set_option maxRecDepth 100000

namespace SS
open PySem PyProof.Rows
@[reducible] def rk : SG.Rk := ⟨numOf, oneType'⟩
local instance : SG.Rk := rk
abbrev ky (p : Keyed) : Int := numOf p.1
abbrev put (x : Keyed) (l : List Keyed) : List Keyed := @SG.put rk x l
abbrev srt (l : List Keyed) : List Keyed := @SG.srt rk l
theorem srt_perm (l : List Keyed) : (srt l).Perm l := @SG.srt_perm rk l
theorem srt_len (l : List Keyed) : (srt l).length = l.length := (srt_perm l).length_eq
abbrev Up (l : List Keyed) : Prop := @SG.Up rk l
theorem srt_id {l : List Keyed} (h : Up l) : srt l = l := @SG.srt_id rk l h
theorem sort_in {prog : Program} {w : World} {A : Around} {E : Value → Shared → Prop} {s : Shared} {b₀ : Array Keyed} {st : SortSt} {Q : Unit → SortSt → Prop} (hk : IntKeys b₀) (hB : SBase b₀ st) (h0 : (arrOf st).toList = b₀.toList) (h2 : 2 ≤ b₀.size) (h64 : b₀.size < 64)
    (fin : ∀ st', failedOf st' = none → (arrOf st').toList = srt b₀.toList → Q () st') : wpS (model prog w) A E s sortRuns' Q st := by
  refine @SG.sort_in rk prog w A E s b₀ st Q (fun p hp q hq R E' h => ?_) ⟨hB.perm, hB.kind, hB.failed, hB.pend⟩ h0 h2 h64 fin
  obtain ⟨n, t, e1⟩ := hk p hp
  obtain ⟨m, u, e2⟩ := hk q hq
  have h : R (decide (numOf p.1 < numOf q.1)) s := h
  show wpAny _ _ (keyLt' oneType' p.1 q.1) R E' s
  rw [keyLt'_oneType, e1, e2]
  rw [e1, e2] at h
  exact oneLt_int h
end SS
set_option Elab.async false
set_option linter.all false
set_option maxRecDepth 100000
namespace L2
open PySem PySem.Spec PyProof.Rows

abbrev lamEnv (qual : Str) (scope : Scope) (cl : List (Str × Addr)) (f c' : Addr) (C : Addr) : Env := PySem.W.envX qual scope C f (.ref c') cl
def cxLam (X : Cx) (A : Around) (Nc : List Str) (qual : Str) (scope : Scope) (cl : List (Str × Addr)) (f c' : Addr) (s : Shared) (H : Hp) : Cx :=
  { X with A := A.deeper (lamEnv qual scope cl f c' s.heap.objs.size), N := Nc, s₀ := s, H₀ := H, env := lamEnv qual scope cl f c' s.heap.objs.size, outer := X.stack, stack := lamEnv qual scope cl f c' s.heap.objs.size :: X.stack, ex := [], fn := fun _ => false, pn := [], xe := fun _ _ => False }

structure LamOk (X : Cx) (p : Str) (Nr : List Str) (scope : Scope) (cl : List (Str × Addr)) (src : List (Option Nat)) : Prop where
  clos : closureFor scope X.env = pure cl
  kind : scope.kind = .function
  co : scope.isCoroutine = false
  gen : scope.isGenerator = false
  cell : ∀ y ∈ scope.names, y.2 ≠ .cell
  par : scope.names.lookup p = some .local
  sub : ∀ x c, cl.lookup x = some c → X.env.cells.lookup x = some c
  has : ∀ x, (scope.names.lookup x = some .cell ∨ scope.names.lookup x = some .free) → ∃ c, cl.lookup x = some c
  frm : ∀ (i j : Nat), src[i]? = some (some j) → ∃ x, Nr[i]? = some x ∧ X.N[j]? = some x ∧ X.env.scope.names.lookup x = some .cell ∧ scope.names.lookup x = some .free
  len : src.length = Nr.length
section
variable {X : Cx} {A : Around} {p : Str} {Nr : List Str} {scope : Scope} {cl : List (Str × Addr)} {src : List (Option Nat)} {pins : List (Addr × Obj)} {σ : St} {H : Hp} {s : Shared} {f c' : Addr} {name qual : Str} {params : Arguments} {body : Expr} {pm ctv u : Value} {v : V} {te : TE} {Q : VK}
theorem lam_call (L : LamOk X p Nr scope cl src) (I : Inv X pins σ H s) (hf : s.heap.get? f = some (PySem.W.kla_obj name qual params body scope cl pm c' ctv)) (hcd : s.heap.CodeRec (.ref c') qual)
    (hA : A.frames = some X.stack) (hh : X.calm = true → A.handled = none) (hroom : A.depth < recursionLimit)
    (hbind : bindArgs (PySem.W.kla_fn name qual params body scope cl pm (.ref c') ctv) ⟨[u], []⟩ = pure [(p, u)])
    (hb : PE (cxLam X A (p :: Nr) qual scope cl f c' s H) body te) (r : RelV v u) (h : te (some v :: capt src σ) H Q) :
    wpAny (model X.prog X.w) A (call (.ref f) [u]) (EP X pins σ Q) (fun _ _ => False) s := by
  refine wpAny_call ?_
  refine PySem.W.kla_callFunE hroom hf rfl L.co L.gen rfl hcd ?_
  rw [hbind]
  refine wpAny_pure (wpAny_newFunctionEnv L.cell (fun x hx => ?_) (fun h1 hn1 hs1 => ?_) L.kind)
  · obtain rfl : x = (p, u) := List.mem_singleton.mp hx
    exact L.par
  have hC0 : H s.heap.objs.size = none := I.hok.fresh (Nat.le_refl _)
  have old : ∀ b o, s.heap.get? b = some o → h1.get? b = some o := fun b o e => hs1.extBut b o (Nat.ne_of_lt (Heap.lt_size e)) (Heap.get?_push_of_some _ e)
  refine ⟨I.nolimit.keeps old, ?_⟩
  have Yok : (cxLam X A (p :: Nr) qual scope cl f c' s H).Ok := by
    refine ⟨I.ok.mod, L.kind, rfl, rfl, Nat.le_refl _, fun x y b h1 h2 => I.ok.inj x y b (L.sub x b h1) (L.sub y b h2), fun x hx => L.has x hx, (fun x b h1 _ => nomatch h1), hh, Around.frames_deeper hA, .inr ⟨rfl, rfl⟩, (fun b hb => nomatch hb), fun b o e => I.bs b o e, Nat.le_trans I.ok.bsz I.sz, (fun b o e hb => nomatch hb), (fun b hb => nomatch hb), I.stack, I.stkFree⟩
  have J0 : Inv (cxLam X A (p :: Nr) qual scope cl f c' s H) [] (some v :: capt src σ) H { s with heap := h1, toks := s.toks + [(p, u)].length } := by
    refine ⟨Yok, rfl, I.bare, Un.kept old, ⟨_, hn1, fun i x v' e1 e2 e3 => ?_⟩, fun x b e => ?_, hC0, fun x b e => I.freeC x b (L.sub x b e), fun p hp => absurd (show p ∈ ([] : List (Addr × Obj)) from hp) (by simp), I.hok.kept old, ?_⟩
    · cases i with
      | zero =>
        cases e1
        cases e2
        exact ⟨u, r, .inl ⟨L.par, by simp⟩⟩
      | succ i =>
        have e2 : (capt src σ)[i]? = some (some v') := e2
        have e1 : Nr[i]? = some x := e1
        unfold capt at e2
        rw [List.getElem?_map] at e2
        cases q : src[i]? with
        | none => rw [q] at e2; cases e2
        | some oj =>
          rw [q] at e2
          cases oj with
          | none => cases e2
          | some j =>
            obtain ⟨y, y1, y2, y3, y4⟩ := L.frm i j q
            obtain rfl : y = x := Option.some.inj (y1.symm.trans e1)
            have e2' : (σ[j]?).join = some v' := Option.some.inj e2
            have e2s : σ[j]? = some (some v') := by
              cases z : σ[j]? with
              | none => rw [z] at e2'; cases e2'
              | some ov => rw [z] at e2'; exact congrArg some e2'
            obtain ⟨m, hn, hl⟩ := I.loc
            obtain ⟨u', r', l⟩ := hl j y v' y2 e2s (.inr (.inl y3))
            refine ⟨u', r', .inr ⟨.inr y4, ?_⟩⟩
            rcases l with ⟨k1, _⟩ | ⟨_, b, k2, k3⟩
            · exact absurd (k1.symm.trans y3) (by intro z; cases z)
            · obtain ⟨b', k4⟩ := L.has y (.inr y4)
              have k5 := L.sub y b' k4
              rw [k2] at k5
              cases k5
              obtain ⟨o, ho, hd⟩ := k3
              exact ⟨b, k4, o, old b o ho, hd⟩
    · obtain ⟨v', o, ho, hd⟩ := I.cell x b (L.sub x b e)
      exact ⟨v', o, old b o ho, hd⟩
    · show (some v :: capt src σ).length = (p :: Nr).length
      unfold capt
      rw [List.length_cons, List.length_map, List.length_cons, L.len]
  show codeAny _ _ (.expr body (lamEnv qual scope cl f c' s.heap.objs.size)) _ _
  refine PySem.W.kla_codeExpr (wpAny_mono (hb [] _ _ H Q J0 h) (fun w s' hq => ?_) fun _ _ z => False.elim z)
  obtain ⟨v', H', J, rv, q⟩ := hq
  have := I.after (Q := Q) (u := w) (s' := s') ⟨v', H', J.os, J.bare, J.base, J.hok, rv, q⟩
  exact this
end
end L2
set_option Elab.async false
set_option linter.all false
set_option maxRecDepth 100000
namespace SS
open PySem PyProof.Rows

def iput (k : Nat → Int) (x : Nat) (l : List Nat) : List Nat := l.takeWhile (fun y => decide (k y ≤ k x)) ++ x :: l.dropWhile (fun y => decide (k y ≤ k x))
def iord (k : Nat → Int) (l : List Nat) : List Nat := l.foldl (fun acc x => iput k x acc) []
end SS
namespace SG
open PySem PyProof.Rows
variable [Rk]
theorem pair_put {R : Nat → Keyed → Prop} {k : Nat → Int} (hR : ∀ i p, R i p → ky p = k i) {i : Nat} {p : Keyed} (h : R i p) {l : List Nat} {l' : List Keyed} (u : Paired R l l') : Paired R (SS.iput k i l) (put p l') := by
  induction u with
  | nil => exact .cons h .nil
  | @cons x y l l' r t ih =>
    by_cases q : k x ≤ k i
    · have q' : ky y ≤ ky p := by rw [hR _ _ r, hR _ _ h]; exact q
      have e1 : SS.iput k i (x :: l) = x :: SS.iput k i l := by unfold SS.iput; simp [List.takeWhile, List.dropWhile, q]
      have e2 : put p (y :: l') = y :: put p l' := by unfold put; simp [List.takeWhile, List.dropWhile, q']
      rw [e1, e2]
      exact .cons r ih
    · have q' : ¬ ky y ≤ ky p := by rw [hR _ _ r, hR _ _ h]; exact q
      have e1 : SS.iput k i (x :: l) = i :: x :: l := by unfold SS.iput; simp [List.takeWhile, List.dropWhile, q]
      have e2 : put p (y :: l') = p :: y :: l' := by unfold put; simp [List.takeWhile, List.dropWhile, q']
      rw [e1, e2]
      exact .cons h (.cons r t)
theorem pair_srt {R : Nat → Keyed → Prop} {k : Nat → Int} (hR : ∀ i p, R i p → ky p = k i) {l : List Nat} {l' : List Keyed} (h : Paired R l l') : Paired R (SS.iord k l) (srt l') := by
  have : ∀ (l : List Nat) (l' : List Keyed) (a : List Nat) (a' : List Keyed), Paired R l l' → Paired R a a' → Paired R (l.foldl (fun acc x => SS.iput k x acc) a) (l'.foldl (fun acc x => put x acc) a') := by
    intro l l' a a' h
    induction h generalizing a a' with
    | nil => intro q; exact q
    | cons r t ih => intro q; exact ih _ _ (pair_put hR r q)
  exact this l l' [] [] h .nil
end SG
namespace SS
open PySem PyProof.Rows
theorem pair_srt {R : Nat → Keyed → Prop} {k : Nat → Int} (hR : ∀ i p, R i p → ky p = k i) {l : List Nat} {l' : List Keyed} (h : Paired R l l') : Paired R (iord k l) (srt l') := @SG.pair_srt rk R k hR l l' h
end SS
namespace L2
open PySem PySem.Spec PyProof.Rows
section
variable {X : Cx} {A : Around} {E : Value → Shared → Prop} {pins : List (Addr × Obj)} {σ : St} {H : Hp} {s : Shared} {a kS : Addr} {e e1 : Nat} {keys : Array Value} {vs : List Value} {kz : List Int} {P : PySem.Fin → Shared → Prop}
theorem Inv.turn1 (I : Inv X pins σ H s) (f : FpOk X pins H a) {h' : Heap} (hs : Heap.SameBut a s.heap h') : Inv X pins σ H { s with heap := h' } :=
  I.turned (t' := s.toks) (fun b o n q => (hs.2 b n).trans q) f.1 f.2.1 f.2.2.2.1 f.2.2.2.2.1 f.2.2.2.2.2
theorem key_tail {st : SortSt} {l : List Keyed} (I : Inv X pins σ H s) (hk : s.heap.get? kS = some (seqObj "list" keys e)) (ha : s.heap.get? a = some (seqObj "list" #[] e1)) (fa : FpOk X pins H a) (fk : FpOk X pins H kS) (hne : kS ≠ a)
    (hks : keys.size ≤ 64) (hl : (arrOf st).toList = l) (hl64 : l.length ≤ 64) (hfl : failedOf st = none)
    (h : ∀ h' c, Inv X pins σ H { s with heap := h' } → h'.get? a = some (seqObj "list" (l.map (·.2)).toArray c) → P (.done (.ret .none)) { s with heap := h' }) :
    wpAny (model X.prog X.w) A (ksk_tail a false e1 (.ref kS) st) P E s := by
  have u1 := Heap.SameBut.update s.heap kS (Obj.mapSeq fun _ => (#[] : Array Value))
  have J1 := I.turn1 fk u1
  have a1 : (s.heap.update kS (Obj.mapSeq fun _ => (#[] : Array Value))).get? a = some (seqObj "list" #[] e1) := (u1.2 a hne.symm).trans ha
  have ez : ((arrOf st).map (·.2)) = (l.map (·.2)).toArray := by rw [← hl, ← Array.toList_map, Array.toArray_toList]
  have u2 := Heap.SameBut.update (s.heap.update kS (Obj.mapSeq fun _ => (#[] : Array Value))) a (Obj.mapSeq fun _ => (arrOf st).map (·.2))
  have J2 := J1.turn1 fa u2
  have a2 := get?_update_seq a1 fun _ => (arrOf st).map (·.2)
  have sz : ((arrOf st).map (·.2)).size ≤ 64 := by rw [ez]; simpa using hl64
  unfold ksk_tail
  dsimp only
  refine wpAny_bind (listUpdate_at hk rfl (wpAny_bind (wpAny_letGo (wpAny_bind (seqEpoch_at a1 rfl (wpAny_bind (listUpdate_at a1 rfl ?_ (Nat.zero_le _) (Nat.le_trans sz (by rw [sizeLine_eq]; omega)))))))) (Nat.le_trans hks (by rw [sizeLine_eq]; omega)) (Nat.zero_le _))
  rw [hfl]
  simp only [bne_self_eq_false, Bool.false_eq_true, if_false]
  rw [ez] at a2
  exact wpAny_pure (h _ _ J2 (by rw [← ez] at a2 ⊢; exact a2))
theorem key_end (I : Inv X pins σ H s) (hS : s.heap.get? kS = some (seqObj "list" keys e)) (ha : s.heap.get? a = some (seqObj "list" #[] e1)) (fa : FpOk X pins H a) (fk : FpOk X pins H kS) (hne : kS ≠ a)
    (hk : IntsAre keys.toList kz) (hlen : kz.length = vs.length) (h64 : vs.length < 64)
    (h : ∀ h' c, Inv X pins σ H { s with heap := h' } → h'.get? a = some (seqObj "list" ((SS.srt (keys.toList.zip vs)).map (·.2)).toArray c) → P (.done (.ret .none)) { s with heap := h' }) :
    wpAny (model X.prog X.w) A (ksk_end a false vs.toArray e1 (.ref kS) keys) P E s := by
  have hsz : keys.size = vs.length := by have q := hk.length; rw [Array.length_toList] at q; omega
  have zl : (keys.toList.zip vs).length = vs.length := by rw [List.length_zip, Array.length_toList, hsz, Nat.min_self]
  have zs : (keys.zip vs.toArray).size = vs.length := by rw [← zl, ← ksk_zip, Array.length_toList]
  unfold ksk_end
  dsimp only
  rw [if_neg (by decide)]
  by_cases h2 : vs.toArray.size < 2
  · rw [if_pos h2, if_pos h2]
    refine wpAny_bind (wpAny_pure ?_)
    rw [StateT.run_pure]
    refine wpAny_bind (wpAny_pure ?_)
    have h2' : vs.length < 2 := by simpa using h2
    refine key_tail (l := SS.srt (keys.toList.zip vs)) I hS ha fa fk hne (by omega) ?_ (by rw [SS.srt_len, zl]; omega) rfl h
    have : SS.Up (keys.toList.zip vs) := by
      cases q : keys.toList.zip vs with
      | nil => exact List.Pairwise.nil
      | cons x r =>
        cases r with
        | nil => exact List.pairwise_singleton _ _
        | cons y r => rw [q] at zl; simp at zl; omega
    rw [SS.srt_id this]
    exact ksk_zip keys vs
  · rw [if_neg h2, if_neg h2]
    have h2' : 2 ≤ vs.length := by simpa using h2
    rw [ksk_kind hk (by omega)]
    refine wpAny_bind (wpAny_pure (wpAny_bind (wpAny_mono (SS.sort_in (b₀ := keys.zip vs.toArray) (st := SortSt.mk' oneType' (keys.zip vs.toArray) #[] 7 none)
      (Q := fun _ st' => failedOf st' = none ∧ (arrOf st').toList = SS.srt (keys.zip vs.toArray).toList) (ksk_intKeys hk) ⟨.refl _, rfl, rfl, rfl⟩ rfl (by omega) (by omega) fun st' z1 z2 => ⟨z1, z2⟩) ?_ fun _ _ z => z)))
    rintro ⟨⟨⟩, st'⟩ s' ⟨rfl, z1, z2⟩
    rw [ksk_zip] at z2
    exact key_tail I hS ha fa fk hne (by omega) z2 (by rw [SS.srt_len, zl]; omega) z1 h
theorem key_rest {f : Value} {k : Nat → Int} (I : Inv X pins σ H s) (hS : s.heap.get? kS = some (seqObj "list" #[] 0)) (ha : s.heap.get? a = some (seqObj "list" #[] e1)) (fa : FpOk X pins H a) (fk : FpOk X pins H kS) (hne : kS ≠ a) (h64 : vs.length < 64)
    (turn : ∀ (i : Nat) (v : Value) (s' : Shared) (pl : List (Addr × Obj)), vs[i]? = some v → Inv X (pins ++ pl) σ H s' → wpAny (model X.prog X.w) A (call f [v]) (EP X (pins ++ pl) σ fun x H' => x = .int (k i) ∧ H' = H) (fun _ _ => False) s')
    (h : ∀ s' c keys, IntsAre keys ((List.range vs.length).map k) → Inv X pins σ H s' → s'.heap.get? a = some (seqObj "list" ((SS.srt (keys.zip vs)).map (·.2)).toArray c) → P (.done (.ret .none)) s') :
    wpAny (model X.prog X.w) A (ksk_rest a f false vs.toArray e1 (.ref kS)) P E s := by
  unfold ksk_rest
  refine wpAny_bind (wpAny_rule ?_)
  rw [← Array.forIn_toList, ksk_tl]
  refine wpAny_bind (ksk_fold (fun i s' => ∃ kA c, Inv X pins σ H s' ∧ s'.heap.get? kS = some (seqObj "list" kA c) ∧ s'.heap.get? a = some (seqObj "list" #[] e1) ∧ IntsAre kA.toList ((List.range i).map k)) vs 0 s ⟨#[], 0, I, hS, ha, .nil⟩ ?step ?done)
  case step =>
    rintro j x s' hx ⟨kA, c, J, jS, ja, hk⟩
    rw [Nat.zero_add] at hk ⊢
    have hj : j < vs.length := (List.getElem?_eq_some_iff.mp hx).1
    have hz : kA.size = j := by have q := hk.length; rw [Array.length_toList] at q; simpa using q
    have fp : ∀ b ∈ [a, kS], FpOk X pins H b := fun b hb => by
      rcases List.mem_cons.mp hb with rfl | hb
      · exact fa
      · rw [List.mem_singleton.mp hb]; exact fk
    have ob : ∀ b ∈ [a, kS], ∃ o, s'.heap.get? b = some o ∧ ∀ v, o.data ≠ .cell v := fun b hb => by
      rcases List.mem_cons.mp hb with rfl | hb
      · exact ⟨_, ja, fun v z => nomatch z⟩
      · rw [List.mem_singleton.mp hb]; exact ⟨_, jS, fun v z => nomatch z⟩
    refine wpAny_bind (wpAny_attempt (wpAny_mono (turn j x s' _ hx (J.pinned fp ob)) (fun w s2 hq => ?_) fun _ _ z => z.elim))
    obtain ⟨v, H2, J2, rv, rfl, rfl⟩ := hq
    obtain ⟨t2, rfl⟩ := rv
    have gS := (J2.pin (kS, _) (List.mem_append_right _ (List.mem_append_right _ (mem_pinsAt (fp := [a, kS]) (by simp) jS)))).1
    have ga := (J2.pin (a, _) (List.mem_append_right _ (List.mem_append_right _ (mem_pinsAt (fp := [a, kS]) (by simp) ja)))).1
    have u1 := Heap.SameBut.update s2.heap kS (Obj.mapSeq (·.push (.int (k j) t2)))
    refine wpAny_bind (listUpdate_at gS rfl (wpAny_pure ⟨rfl, kA.push (.int (k j) t2), _, J2.unpinned.turn1 fk u1, get?_update_seq gS (·.push (.int (k j) t2)), (u1.2 a hne.symm).trans ga, ?_⟩) (by rw [sizeLine_eq]; omega) (by rw [Array.size_push, sizeLine_eq]; omega))
    rw [Array.toList_push, List.range_succ, List.map_append]
    exact ksk_snoc hk
  case done =>
    rintro s' ⟨kA, c, J, jS, ja, hk⟩
    rw [Nat.zero_add] at hk
    refine wpAny_bind (listItems_at jS rfl ?_)
    exact key_end J jS ja fa fk hne hk (by simp) h64 fun h' c' J' q => h _ c' _ hk J' q
theorem key_sort {f : Value} {k : Nat → Int} {n : Nat} (I : Inv X pins σ H s) (ha : s.heap.get? a = some (seqObj "list" vs.toArray n)) (fa : FpOk X pins H a) (h64 : vs.length < 64)
    (turn : ∀ (i : Nat) (v : Value) (s' : Shared) (pl : List (Addr × Obj)), vs[i]? = some v → Inv X (pins ++ pl) σ H s' → wpAny (model X.prog X.w) A (call f [v]) (EP X (pins ++ pl) σ fun x H' => x = .int (k i) ∧ H' = H) (fun _ _ => False) s')
    (h : ∀ s' c keys, IntsAre keys ((List.range vs.length).map k) → Inv X pins σ H s' → s'.heap.get? a = some (seqObj "list" ((SS.srt (keys.zip vs)).map (·.2)).toArray c) → P (.done (.ret .none)) s') :
    wpAny (model X.prog X.w) A (ksk_tree a f false) P E s := by
  have u1 := Heap.SameBut.update s.heap a (Obj.mapSeq fun _ => (#[] : Array Value))
  have g1 := get?_update_seq ha fun _ => (#[] : Array Value)
  have J1 := I.turn1 fa u1
  have J2 := J1.kept (t' := s.toks) (h' := (s.heap.update a (Obj.mapSeq fun _ => (#[] : Array Value))).push (seqObj "tuple" vs.toArray 0)) fun b o q => Heap.get?_push_of_some _ q
  have J3 := J2.kept (t' := s.toks) (h' := ((s.heap.update a (Obj.mapSeq fun _ => (#[] : Array Value))).push (seqObj "tuple" vs.toArray 0)).push (seqObj "list" #[] 0)) fun b o q => Heap.get?_push_of_some _ q
  unfold ksk_tree
  refine wpAny_bind (listItems_at ha rfl (wpAny_bind (listUpdate_at ha rfl (wpAny_bind (seqEpoch_at g1 rfl (wpAny_bind (wpAny_newTuple (wpAny_bind (wpAny_newList (wpAny_holding ?_) (Nat.zero_le _))) (by show vs.length ≤ _; rw [sizeLine_eq]; omega))))) (by rw [List.size_toArray, sizeLine_eq]; omega) (Nat.zero_le _))))
  have lt : a < (s.heap.update a (Obj.mapSeq fun _ => (#[] : Array Value))).objs.size := Heap.lt_size g1
  exact key_rest J3 (Heap.get?_push_size _ rfl) (Heap.get?_push_of_some _ (Heap.get?_push_of_some _ g1)) fa (J2.fpOk (Nat.le_refl _) (J2.hok.fresh (Nat.le_refl _)))
    (Nat.ne_of_gt (Nat.lt_of_lt_of_le lt (by rw [size_push']; exact Nat.le_succ _))) h64 turn h

theorem Inv.adopt {xs : List V} {us : List Value} {n : Nat} (I : Inv X pins σ H s) (f : FpOk X pins H a) (ha : s.heap.get? a = some (seqObj "list" us.toArray n)) (r : Vals xs us) (hz : xs.length ≤ sizeLine) : Inv X pins σ (upd H a (.lst xs)) s := by
  have ne : ∀ b o, H b = some o → b ≠ a := fun b o q => ne_of_none q f.1
  refine ⟨I.ok, I.os, I.bare, ⟨I.base.keep, I.base.slot, fun b o q n hx => ?_, I.base.there, fun b ys q => ?_, fun b o u q => ?_, fun b ps q => ?_⟩, I.loc, I.cell, ?_, fun x c q => ?_, fun p hp => ?_, fun b o q => ?_, I.len⟩
  · have nb : b ≠ a := fun z => by
      subst z
      rcases f.2.2.2.1 with z | z
      · exact hx z
      · rw [z] at q; cases q
    rw [upd_ne nb]
    exact I.base.free b o q n hx
  · have z := I.base.tups b ys q
    rw [upd_ne (ne _ _ z)]; exact z
  · have z := I.base.frzs b o u q
    rw [upd_ne (ne _ _ z)]; exact z
  · obtain ⟨m, z⟩ := I.base.tbls b ps q
    exact ⟨m, by rw [upd_ne (ne _ _ z)]; exact z⟩
  · rw [upd_ne (Ne.symm f.2.1)]; exact I.free
  · rw [upd_ne (f.2.2.2.2.1 x c q)]; exact I.freeC x c q
  · obtain ⟨p1, p2, p3, p4, p5⟩ := I.pin p hp
    exact ⟨p1, by rw [upd_ne (f.2.2.2.2.2 p hp)]; exact p2, p3, p4, p5⟩
  · by_cases nb : b = a
    · subst nb
      rw [upd_same] at q
      cases q
      exact ⟨hz, us, n, r, ha⟩
    · rw [upd_ne nb] at q
      refine (I.hok b o q).stay (fun c u _ z => z) (fun c z => ?_) fun c ys z => ?_
      · rw [upd_ne (ne _ _ z)]; exact z
      · rw [upd_ne (ne _ _ z)]; exact z
end
end L2
set_option Elab.async false
set_option linter.all false
set_option maxRecDepth 100000
namespace L2
open PySem PySem.Spec PyProof.Rows
theorem paired_of {α β : Type} {F : α → β → Prop} : ∀ {l₁ : List α} {l₂ : List β}, l₁.length = l₂.length → (∀ (i : Nat) a b, l₁[i]? = some a → l₂[i]? = some b → F a b) → Paired F l₁ l₂
  | [], [], _, _ => .nil
  | [], _ :: _, h, _ => by simp at h
  | _ :: _, [], h, _ => by simp at h
  | a :: l, b :: m, h, f => .cons (f 0 a b rfl rfl) (paired_of (by simpa using h) fun i x y e1 e2 => f (i + 1) x y (by simpa using e1) (by simpa using e2))
theorem order_vals {xs : List V} {vs keys : List Value} {k : Nat → Int} (r : Vals xs vs) (hk : IntsAre keys ((List.range vs.length).map k)) :
    Vals ((SS.iord k (List.range vs.length)).map fun i => xs.getD i .non) ((SS.srt (keys.zip vs)).map (·.2)) := by
  have hl : keys.length = vs.length := by have := hk.length; simpa using this
  have xl := r.length
  have P0 : Paired (fun (i : Nat) (p : Keyed) => SS.ky p = k i ∧ RelV (xs.getD i .non) p.2) (List.range vs.length) (keys.zip vs) := by
    refine paired_of (by rw [List.length_range, List.length_zip, hl, Nat.min_self]) fun i j p e1 e2 => ?_
    obtain ⟨hi, rfl⟩ : i < vs.length ∧ i = j := by
      rw [List.getElem?_eq_some_iff] at e1
      obtain ⟨h1, h2⟩ := e1
      rw [List.getElem_range] at h2
      exact ⟨by simpa using h1, h2⟩
    have e3 : keys[i]? = some p.1 ∧ vs[i]? = some p.2 := List.getElem?_zip_eq_some.mp e2
    obtain ⟨t, ht⟩ := hk.get i (k i) (by rw [List.getElem?_map, List.getElem?_range hi]; rfl)
    rw [e3.1] at ht
    refine ⟨by show numOf p.1 = k i; rw [Option.some.inj ht]; rfl, ?_⟩
    obtain ⟨u, hu, rv⟩ := r.get (i := i) (x := xs.getD i .non) (by rw [List.getD_eq_getElem?_getD, List.getElem?_eq_getElem (by omega)]; rfl)
    rw [e3.2] at hu
    cases hu
    exact rv
  have P1 := SS.pair_srt (k := k) (fun i p h => h.1) P0
  have : ∀ {l : List Nat} {m : List Keyed}, Paired (fun (i : Nat) (p : Keyed) => SS.ky p = k i ∧ RelV (xs.getD i .non) p.2) l m → Vals (l.map fun i => xs.getD i .non) (m.map (·.2)) := by
    intro l m h
    induction h with
    | nil => exact .nil
    | cons r _ ih => exact .cons r.2 ih
  exact this P1
section
variable {X : Cx} {A : Around} {E : Value → Shared → Prop} {pins : List (Addr × Obj)} {σ : St} {H : Hp} {s : Shared} {r q : Addr} {xs : List V} {k : Nat → Int} {Q : VK}
theorem key_sorted (I : Inv X pins σ H s) (h64 : xs.length < 64)
    (hc : ∀ R : List Value → Shared → Prop, (∀ h' tk vs, Vals xs vs → (∀ b o, s.heap.get? b = some o → h'.get? b = some o) → R vs { s with heap := h', toks := tk }) → wpAny (model X.prog X.w) A.in1 (collect (.ref r)) R E s)
    (turn : ∀ (i : Nat) (x : V) (v : Value) (s' : Shared) (pl : List (Addr × Obj)), xs[i]? = some x → RelV x v → Inv X (pins ++ pl) σ H s' → wpAny (model X.prog X.w) A.in1.in1 (call (.ref q) [v]) (EP X (pins ++ pl) σ fun y H' => y = .int (k i) ∧ H' = H) (fun _ _ => False) s')
    (h : ∀ D, H D = none → Q (.ref D) (upd H D (.lst ((SS.iord k (List.range xs.length)).map fun i => xs.getD i .non)))) :
    wpAny (model X.prog X.w) A (call (.builtin "sorted") [.ref r] [(Str.ofString "key", .ref q)]) (EP X pins σ Q) E s := by
  refine call_function_entry_kw kind_sorted plain_sorted entry_sorted (ksk_s1 _ _) ?_
  unfold Builtin.«sorted»
  refine wpAny_bind (m := checkCount "sorted" 1 1 _) (wpAny_pure (wpAny_bind (hc _ fun h1 tk vs rv keep => ?_)))
  have vl := rv.length
  refine wpAny_bind (wpAny_newList ?_ (by rw [sizeLine_eq]; omega))
  have J1 : Inv X pins σ H { s with heap := h1, toks := tk } := I.kept keep
  have J2 : Inv X pins σ H { s with heap := h1.push (seqObj "list" vs.toArray 0), toks := tk } := J1.kept (t' := tk) fun b o z => Heap.get?_push_of_some _ z
  have hn : H h1.objs.size = none := J1.hok.fresh (Nat.le_refl _)
  have fa : FpOk X pins H h1.objs.size := J1.fpOk (Nat.le_refl _) hn
  have ha : (h1.push (seqObj "list" vs.toArray 0)).get? h1.objs.size = some (seqObj "list" vs.toArray 0) := Heap.get?_push_size _ rfl
  refine wpAny_bind (wpAny_holding (wpAny_call_entry_kw slot_list_sort ⟨_, ha, rfl⟩ entry_list_sort ?body (ksk_l1 _ _)))
  case body =>
    rw [ksk_t1]
    refine key_sort (X := X) (pins := pins) (σ := σ) (H := H) (k := k) J2 ha fa (by omega) (fun i v s' pl hv J => ?_) fun s' c keys hk J hg => ⟨_, rfl, wpAny_pure ⟨_, rfl, ?_⟩⟩
    · have hi : i < xs.length := by rw [vl]; exact (List.getElem?_eq_some_iff.mp hv).1
      obtain ⟨u, hu, ru⟩ := rv.get (List.getElem?_eq_getElem hi)
      rw [hv] at hu
      cases hu
      exact turn i _ v s' pl (List.getElem?_eq_getElem hi) ru J
    · have ov := order_vals rv hk
      rw [← vl] at ov
      refine ⟨.ref h1.objs.size, _, J.adopt fa hg ov ?_, rfl, h _ hn⟩
      rw [ov.length, List.length_map, SS.srt_len, List.length_zip, sizeLine_eq]
      have : keys.length = vs.length := by have := hk.length; simpa using this
      omega
def RngCome (s : Shared) (lo : Int) (n : Nat) (w : Result) (s' : Shared) : Prop := ∃ h' tk acc c, w = .ok (.ret (.ref s.heap.objs.size)) ∧ s' = { s with heap := h', toks := tk } ∧ (∀ b o, s.heap.get? b = some o → h'.get? b = some o) ∧ h'.get? s.heap.objs.size = some { cls := .type "list", dict := none, data := .seq acc c, slots := #[] } ∧ ItemsOf (fun i v => ∃ t, v = .int (lo + i * 1) t) acc n
theorem collect_range {lo hi : Int} {t u v : Tok} {n : Nat} {R : List Value → Shared → Prop} (hh : A.handled = none) (hr : IsRange s.heap r lo hi 1 t u v) (hs : Builtin.Range.small lo hi 1 = true) (hn : Builtin.Range.rangeSize lo hi 1 = n) (hz : n ≤ 2 ^ 24)
    (h : ∀ h' tk vs, Vals ((List.range n).map fun i => V.int (lo + (i : Nat))) vs → (∀ b o, s.heap.get? b = some o → h'.get? b = some o) → R vs { s with heap := h', toks := tk }) : wpAny (model X.prog X.w) A (collect (.ref r)) R E s := by
  have go : codeAny (model X.prog X.w) A (.builtin "proto.collect" ⟨[.ref r], []⟩) (RngCome s lo n) s := by
    refine codeAny_builtin F.entry_proto_collect ?_
    rw [Around.under_plainId F.plain_proto_collect _]; show wpAny _ A.in1 (newList [] >>= fun l => again (.builtin "list.__iadd__" ⟨[l, .ref r], []⟩)) _ _ s
    refine wpAny_bind (wpAny_newObj_type (wpAny_pure ⟨plainId_quiet F.plain_list_iadd _, codeAny_builtin F.entry_list_iadd ?_⟩))
    rw [Around.under_plainId F.plain_list_iadd _]; show wpAny _ A.in1 (Builtin.List.listExtendWith (.ref s.heap.objs.size) (.ref r) (.ref s.heap.objs.size)) _ _ _
    have hS0 : (s.heap.push { cls := .type "list", data := .seq ([] : List Value).toArray }).get? s.heap.objs.size = some { cls := .type "list", data := .seq #[] 0 } := Heap.get?_push_size _ rfl
    exact wpAny_extend_range (A := A) (R := RngCome s lo n) (s := { s with heap := s.heap.push { cls := .type "list", data := .seq ([] : List Value).toArray } }) hh (Heap.get?_push_of_some _ hr) hs hn hz _ _ 0 hS0 fun h' tk acc c hk hS hacc =>
      ⟨h', tk, acc, c, rfl, rfl, fun b o e => hk b o (Nat.ne_of_lt (Heap.lt_size e)) (Heap.get?_push_of_some _ e), hS, hacc⟩
  unfold collect
  refine wpAny_bind (wpAny_runValue (codeAny_mono go fun w s' hq => ?_))
  obtain ⟨h', tk, acc, c, rfl, rfl, hk, hS, hacc⟩ := hq
  show wpAny _ A (load s.heap.objs.size >>= _) _ _ _
  refine wpAny_bind (wpAny_load hS (wpAny_pure (h h' tk acc.toList (paired_of ?_ fun i a b e1 e2 => ?_) hk)))
  · have := hacc.1
    simp [this]
  · have hi' : i < n := by
      have := (List.getElem?_eq_some_iff.mp e1).1
      simpa using this
    rw [List.getElem?_map, List.getElem?_range hi'] at e1
    cases e1
    obtain ⟨t', e⟩ := hacc.2 i b (by rw [← Array.getElem?_toList]; exact e2)
    exact ⟨t', by rw [e]; simp⟩
end
end L2
set_option Elab.async false
set_option linter.all false
set_option maxRecDepth 100000
namespace L2
open PySem PySem.Spec PyProof.Rows PySem.W

structure LamHd (X : Cx) (c P : Addr) : Prop where
  code : X.env.code = .ref c
  hd : CodeHd X.base c P
  bm : ∃ bm o, X.mg "__builtins__" = some (.ref bm) ∧ bm ≠ builtinsNs ∧ bm ≠ mainGlobals ∧ X.base.get? bm = some o ∧ o.cls = .type "module" ∧ o.dict = some builtinsNs ∧ o.data = .plain

def LamAt (H : Hp) (c' : Addr) (qual : Str) : Prop := ∃ oc vs t u, H c' = some (.frz oc u) ∧ oc.data = .fields vs ∧ vs[1]? = some (.str qual t)

def LamTab (H : Hp) (P : Addr) (pos : Pos) (qual : Str) : Prop :=
  ∃ ps, H P = some (.tbl ps) ∧ TriplesOk ps.toList ∧ (codeAmong pos ps.toList = none ∨ ∃ c', codeAmong pos ps.toList = some (.ref c') ∧ LamAt H c' qual)
theorem triples_snoc {x y : Int} {t u : Tok} {v : Value} (l : List Value) (h : TriplesOk l) : TriplesOk (l ++ [.int x t, .int y u, v]) := by
  fun_induction TriplesOk l with
  | case1 => exact trivial
  | case2 _ _ _ _ _ rest ih => exact ih h
  | case3 => exact False.elim h
theorem lamAt_rec {P : Program} {w : World} {H : Hp} {h : Heap} {c' : Addr} {qual : Str} (x : LamAt H c' qual) (ok : HOk P w H h) : h.CodeRec (.ref c') qual := by
  obtain ⟨oc, vs, t, u, e, d, v⟩ := x
  exact ⟨c', oc, vs, t, rfl, (ok c' _ e).1, d, v⟩
def LamNext (H H' : Hp) (P : Addr) : Prop := ∀ b o, b ≠ P → H b = some o → H' b = some o
section
variable {X : Cx} {p : Str} {Nr : List Str} {scope : Scope} {cl : List (Str × Addr)} {src : List (Option Nat)} {pins : List (Addr × Obj)} {σ : St} {H : Hp} {s : Shared} {c P : Addr} {params : Arguments} {body : Expr} {pos : Pos} {E : Value → Shared → Prop}

def LamCome (X : Cx) (pins : List (Addr × Obj)) (σ : St) (H : Hp) (P : Addr) (pos : Pos) (qual : Str) (params : Arguments) (body : Expr) (scope : Scope) (cl : List (Str × Addr)) (w : Value) (s' : Shared) : Prop :=
  ∃ f c' pm ctv H', w = .ref f ∧ Inv X pins σ H' s' ∧ LamNext H H' P ∧ LamTab H' P pos qual ∧ LamAt H' c' qual ∧ FpOk X pins H' f ∧ s'.heap.get? f = some (kla_obj "<lambda>" qual params body scope cl pm c' ctv)
theorem lam_make (L : LamOk X p Nr scope cl src) (Y : LamHd X c P) (I : Inv X pins σ H s) (T : LamTab H P pos (X.env.qual ++ "<lambda>")) (hdef : defaultsOf params X.env = ([], [])) :
    wpAny (model X.prog X.w) X.A (eval (.Lambda params body scope pos) X.env) (LamCome X pins σ H P pos (X.env.qual ++ "<lambda>") params body scope cl) E s := by
  obtain ⟨ps, hP, ht, hc⟩ := T
  obtain ⟨bm, ob, b1, b2, b3, b4, b5⟩ := Y.bm
  have gP : s.heap.get? P = some (tabObj ps) := I.hok P _ hP
  have hg := I.ok.mod.glob.keeps I.bk
  have hgP : mainGlobals ≠ P := fun z => by
    obtain ⟨o, es, ep, e1, _⟩ := I.ok.mod.glob
    have := (I.bs _ _ e1).2
    rw [z, hP] at this; cases this
  have hbP : bm ≠ P := fun z => by
    have := (I.bs _ _ b4).2
    rw [z, hP] at this; cases this
  have hB : s.heap.BuiltinsAt X.mg P := ⟨bm, ob, b1, b2, b3, hbP, I.bk _ _ b4, b5⟩
  refine kla_eval hdef ?_
  rcases hc with hc | ⟨c', hc, la⟩
  · refine kla_makeFunction L.clos I.ok.glob hg Y.code (Y.hd.keeps I.bk) gP ht hc hgP hB fun c' ctv h' tk hx hge hlt hrec htb => ?_
    obtain ⟨c2, oc, vs, t, e2, hoc, hd, hv⟩ := hrec
    cases e2
    have Plt : P < s.heap.objs.size := Heap.lt_size gP
    have nc : H c' = none := I.hok.fresh hge
    have ncP : c' ≠ P := Nat.ne_of_gt (Nat.lt_of_lt_of_le Plt hge)
    have nb : ∀ b o, H b = some o → b ≠ c' := fun b o q => ne_of_none q nc
    have fr : ∀ {o : Obj}, s.heap.objs.size ≤ h'.objs.size := fun {o} => Nat.le_of_lt (Nat.lt_of_le_of_lt hge hlt)
    refine ⟨h'.objs.size, c', _, ctv, upd (upd H P (.tbl (ps ++ #[rawInt pos.line, rawInt pos.col, .ref c']))) c' (.frz oc (.ext fun _ => True)), rfl, I.un ⟨fun b o e n _ _ => ?_, fun b o e n _ _ => ?_, fun b o e n _ => ?_, fun b o e _ => ?_, fun b ys q => ?_, fun b o u q => ?_, fun b qs q => ?_⟩ (fun b o q => ?_), fun b o n q => ?_, ?_, ?_, I.fpOk (fr (o := oc)) ?_, Heap.get?_push_size _ rfl⟩
    · exact Heap.get?_push_of_some _ (hx b o (fun z => by rw [z, hP] at n; cases n) e)
    · exact ⟨o.slots, Heap.get?_push_of_some _ (hx b o (fun z => by rw [z, hP] at n; cases n) e)⟩
    · rw [upd_ne (Nat.ne_of_lt (Nat.lt_of_lt_of_le (Heap.lt_size e) hge)), upd_ne (fun z => by rw [z, hP] at n; cases n)]; exact n
    · by_cases z : b = P
      · subst z; exact ⟨_, Heap.get?_push_of_some _ htb⟩
      · exact ⟨o, Heap.get?_push_of_some _ (hx b o z e)⟩
    · rw [upd_ne (nb _ _ q), upd_ne (fun z => by rw [z, hP] at q; cases q)]; exact q
    · rw [upd_ne (nb _ _ q), upd_ne (fun z => by rw [z, hP] at q; cases q)]; exact q
    · by_cases z : b = P
      · subst z
        rw [hP] at q
        cases q
        exact ⟨_, by rw [upd_ne (Ne.symm ncP), upd_same]⟩
      · exact ⟨#[], by rw [upd_ne (nb _ _ q), upd_ne z, q]; simp⟩
    · by_cases z : b = c'
      · subst z
        rw [upd_same] at q
        cases q
        exact ⟨Heap.get?_push_of_some _ hoc, trivial, ⟨_, Heap.get?_push_of_some _ hoc⟩, fun _ _ _ _ => trivial⟩
      · rw [upd_ne z] at q
        by_cases z2 : b = P
        · subst z2
          rw [upd_same] at q
          cases q
          exact Heap.get?_push_of_some _ htb
        · rw [upd_ne z2] at q
          refine (I.hok b o q).stay (fun a u ha e => Heap.get?_push_of_some _ (hx a u (fun y => ?_) e)) (fun a e => ?_) fun a ys e => ?_
          · subst y
            rcases ha with y | y
            · exact z2 y.symm
            · rw [hP] at y; cases y
          · rw [upd_ne (nb _ _ e), upd_ne (fun y => by rw [y, hP] at e; cases e)]; exact e
          · rw [upd_ne (nb _ _ e), upd_ne (fun y => by rw [y, hP] at e; cases e)]; exact e
    · rw [upd_ne (nb _ _ q), upd_ne n]; exact q
    · have la : LamAt (upd (upd H P (.tbl (ps ++ #[rawInt pos.line, rawInt pos.col, .ref c']))) c' (.frz oc (.ext fun _ => True))) c' (X.env.qual ++ "<lambda>") := ⟨oc, vs, t, _, upd_same, hd, hv⟩
      refine ⟨_, by rw [upd_ne (Ne.symm ncP), upd_same], ?_, .inr ⟨c', ?_, la⟩⟩
      · rw [Array.toList_append]
        exact triples_snoc _ ht
      · rw [Array.toList_append]
        exact codeAmong_snoc _ ht hc
    · exact ⟨oc, vs, t, _, upd_same, hd, hv⟩
    · rw [upd_ne (Nat.ne_of_gt hlt), upd_ne (Nat.ne_of_gt (Nat.lt_of_lt_of_le Plt (fr (o := oc))))]
      exact I.hok.fresh (fr (o := oc))
  · refine kla_makeFunctionHit L.clos I.ok.glob hg Y.code (Y.hd.keeps I.bk) gP ht hc hB fun ctv h' tk hk hsz => ?_
    exact ⟨h'.objs.size, c', _, ctv, H, rfl, I.kept (t' := tk) fun b o e => Heap.get?_push_of_some _ (hk b o e), fun _ _ _ q => q, ⟨ps, hP, ht, .inr ⟨c', hc, la⟩⟩, la, I.fpOk hsz (I.hok.fresh hsz), Heap.get?_push_size _ rfl⟩
end
end L2
set_option Elab.async false
set_option linter.all false
set_option maxRecDepth 100000
namespace L2
open PySem PySem.Spec PyProof.Rows PySem.W
def tSortK (P : Addr) (lpos : Pos) (qual : Str) (src : List (Option Nat)) (ta : TA) (te : TE) : TE := fun σ H Q => ta σ H fun vs H1 => ∃ (n : Nat) (k : Nat → Int), vs = [.int n] ∧ n < 64 ∧ LamTab H1 P lpos qual ∧
  ∀ H2, LamNext H1 H2 P → LamTab H2 P lpos qual → (∀ i, i < n → te (some (.int i) :: capt src σ) H2 fun x H' => x = .int (k i) ∧ H' = H2) ∧ ∀ D, H2 D = none → Q (.ref D) (upd H2 D (.lst ((SS.iord k (List.range n)).map fun i => .int (i : Nat))))
theorem iord_lt {k : Nat → Int} {n : Nat} : ∀ i ∈ SS.iord k (List.range n), i < n := by
  have put : ∀ (x : Nat) (l : List Nat), x < n → (∀ i ∈ l, i < n) → ∀ i ∈ SS.iput k x l, i < n := by
    intro x l hx hl i hi
    unfold SS.iput at hi
    rcases List.mem_append.mp hi with h | h
    · exact hl i ((List.takeWhile_sublist _).mem h)
    · rcases List.mem_cons.mp h with rfl | h
      · exact hx
      · exact hl i ((List.dropWhile_sublist _).mem h)
  have : ∀ (l acc : List Nat), (∀ i ∈ l, i < n) → (∀ i ∈ acc, i < n) → ∀ i ∈ l.foldl (fun acc x => SS.iput k x acc) acc, i < n := by
    intro l
    induction l with
    | nil => intro acc _ h; exact h
    | cons x r ih => intro acc h1 h2; exact ih _ (fun i hi => h1 i (List.mem_cons_of_mem _ hi)) (put x acc (h1 x List.mem_cons_self) h2)
  exact this _ _ (fun i hi => List.mem_range.mp hi) (fun i hi => absurd hi (by simp))
section
variable {X : Cx} {p : Str} {Nr : List Str} {scope : Scope} {cl : List (Str × Addr)} {src : List (Option Nat)} {c P : Addr} {params : Arguments} {body a : Expr} {pos lpos kpos p1 p2 p3 : Pos} {ta : TA} {te : TE}
theorem pe_sortK (hcalm : X.calm = true) (hroom : X.A.depth < recursionLimit) (L : LamOk X p Nr scope cl src) (Y : LamHd X c P) (hdef : defaultsOf params X.env = ([], [])) (hg1 : Gl X "sorted") (hm1 : X.mg "sorted" = none) (hg2 : Gl X "range") (hm2 : X.mg "range" = none)
    (ha : PA X [a] ta)
    (hbind : ∀ pm c' ctv u, bindArgs (kla_fn "<lambda>" (X.env.qual ++ "<lambda>") params body scope cl pm (.ref c') ctv) ⟨[u], []⟩ = pure [(p, u)])
    (hb : ∀ A f c' s' H', PE (cxLam X A (p :: Nr) (X.env.qual ++ "<lambda>") scope cl f c' s' H') body te)
    (hs : starEach [a] X.env = [(false, eval a X.env)] := by rfl) (hs1 : starEach [.Call (.Name "range" p2) [a] [] p3] X.env = [(false, eval (.Call (.Name "range" p2) [a] [] p3) X.env)] := by rfl) :
    PE X (.Call (.Name "sorted" p1) [.Call (.Name "range" p2) [a] [] p3] [⟨some "key", .Lambda params body scope lpos, kpos⟩] pos) (tSortK P lpos (X.env.qual ++ "<lambda>") src ta te) := by
  intro pins s σ H Q I h
  refine wpAny_Call_Name_kw (ld_blt I hg1 hm1 boot_sorted ?_)
  refine callWith_kw ?_ (by rw [hs1]; rfl) (by rw [hs1]; rfl) rfl rfl
  rw [hs1]
  show wpAny _ _ (spliced ((false, eval (.Call (.Name "range" p2) [a] [] p3) X.env) :: [])) _ _ s
  refine Calls.spliced_cons ?_
  refine Call_ (ld_blt I hg2 hm2 boot_range (PyProof.Rows.callWith_type1 (thn (ha p3 pins s σ H _ I h) fun us s1 ⟨vs, H1, I1, r1, q1⟩ => ?_) hs rfl))
  obtain ⟨n, k, e, hn, T, q⟩ := q1
  subst e
  cases r1 with
  | cons r rr =>
    cases rr
    obtain ⟨t, rfl⟩ := r
    refine call_range_1 (Calls.spliced_nil ?_)
    have I2 : Inv X pins σ H1 { s1 with heap := s1.heap.push { cls := .type "range", data := .fields #[.int 0 s1.toks, .int n t, .int 1 (s1.toks + 1)] }, toks := s1.toks + 1 + 1 } := I1.kept fun b o e => Heap.get?_push_of_some _ e
    have fr : ∀ b ∈ [s1.heap.objs.size], FpOk X pins H1 b := fun b hb => by
      rw [List.mem_singleton.mp hb]; exact I1.fpOk (Nat.le_refl _) (I1.hok.fresh (Nat.le_refl _))
    have gr : (s1.heap.push { cls := .type "range", data := .fields #[.int 0 s1.toks, .int n t, .int 1 (s1.toks + 1)] }).get? s1.heap.objs.size = some { cls := .type "range", data := .fields #[.int 0 s1.toks, .int n t, .int 1 (s1.toks + 1)] } := Heap.get?_push_size _ rfl
    have I3 := I2.pinned fr fun b hb => by rw [List.mem_singleton.mp hb]; exact ⟨_, gr, fun v z => nomatch z⟩
    show wpAny _ _ (evalAll [do let v ← eval (.Lambda params body scope lpos) X.env; standAt pos; pure v]) _ _ _
    refine wpAny_evalAll_cons (wpAny_bind (thn (lam_make (E := X.xe) L Y I3 T hdef) fun w s4 hq => wpAny_bind (wpAny_standAt (wpAny_pure (wpAny_evalAll_nil ?_)))))
    obtain ⟨f, c', pm, ctv, H4, rfl, I4, nx, T4, la, ff, gf⟩ := hq
    show wpAny _ _ (call (.builtin "sorted") [.ref s1.heap.objs.size] [(Str.ofString "key", .ref f)]) _ _ _
    have gr4 := (I4.pin (s1.heap.objs.size, _) (List.mem_append_right _ (List.mem_append_right _ (mem_pinsAt (fp := [s1.heap.objs.size]) (by simp) gr)))).1
    have I5 := I4.pinned (fp := [f]) (fun b hb => by rw [List.mem_singleton.mp hb]; exact ff) fun b hb => by rw [List.mem_singleton.mp hb]; exact ⟨_, gf, fun v z => nomatch z⟩
    obtain ⟨q1, q2⟩ := q H4 nx T4
    have ln : ((List.range n).map fun i => V.int ((0 : Int) + (i : Nat))).length = n := by simp
    refine wpAny_mono (key_sorted (Q := Q) (k := k) (xs := (List.range n).map fun i => V.int ((0 : Int) + (i : Nat))) I5 (by rw [ln]; exact hn) (fun R hR => ?_) (fun i x v s' pl hx rv J => ?_) fun D hD => ?_) (fun w s' hq => ?_) fun _ _ z => z
    · refine collect_range (A := X.A.in1) (I4.ok.hd hcalm) gr4 (small_one (by omega) (by omega) (by omega) (by omega)) (n := n) (by rw [rangeSize_one]; split <;> omega) (by omega) hR
    · have hi : i < n := by rw [← ln]; exact (List.getElem?_eq_some_iff.mp hx).1
      rw [List.getElem?_map, List.getElem?_range hi] at hx
      obtain rfl : V.int (i : Nat) = x := by
        have := Option.some.inj hx
        simpa using this
      have gf' := (J.pin (f, _) (List.mem_append_right _ (List.mem_append_left _ (List.mem_append_right _ (mem_pinsAt (fp := [f]) (by simp) gf))))).1
      exact lam_call L J gf' (lamAt_rec la J.hok) I4.ok.frames I4.ok.hd hroom (hbind _ _ _ _) (hb _ _ _ _ _) rv (q1 i hi)
    · rw [ln]
      have e : (SS.iord k (List.range n)).map (fun i => ((List.range n).map fun i => V.int ((0 : Int) + (i : Nat))).getD i .non) = (SS.iord k (List.range n)).map fun i => V.int (i : Nat) := by
        refine List.map_congr_left fun i hi => ?_
        rw [List.getD_eq_getElem?_getD, List.getElem?_map, List.getElem?_range (iord_lt i hi)]
        simp
      rw [e]
      exact q2 D hD
    · obtain ⟨v, H', J, rv, qv⟩ := hq
      exact ⟨v, H', J.unpinned.unpinned, rv, qv⟩
end
end L2
set_option Elab.async false
set_option linter.all false
set_option maxRecDepth 100000
namespace K02
open PySem L2
def top (i : Nat) : Stmt := PySem.Challenge.pw_coinroll_k02_whole_splits.main.body.getD i (.Pass ⟨0, 0, 0, 0⟩)
structure Glb (mg : Str → Option Value) : Prop where
  isinstance : mg "isinstance" = none
  int : mg "int" = none
  bool : mg "bool" = none
  len : mg "len" = none
  range : mg "range" = none
  ve : mg "ValueError" = none
  list : mg "list" = none
  all : mg "all" = none
  sum : mg "sum" = none
  sorted : mg "sorted" = none
  tuple : mg "tuple" = none

structure Err (K : PySem.W.Frag) (mg : Str → Option Value) (cA cS : Addr) : Prop where
  amount : mg "BadAmount" = some (.ref cA)
  share : mg "BadShare" = some (.ref cS)
  xA : PySem.W.excIn K cA veMro "ValueError.__new__" = true
  xS : PySem.W.excIn K cS veMro "ValueError.__new__" = true
section
variable {P : Program} {w : World} {K : PySem.W.Frag} {mg : Str → Option Value} {base : Heap} {f : Addr} {fd : FuncData} {cA cS : Addr}
local macro_rules | `(tactic| walk_at "sc") => `(tactic| exact ⟨rfl, rfl, rfl, by decide +kernel, rfl, by decide +kernel, by decide +kernel⟩)

def sp_is_number (K : PySem.W.Frag) : Sp := fun vs H Q _ => ∃ v, vs = [v] ∧ ((∃ z, v = .int z ∧ Q (.bl true) H) ∨ (NoNum K H v ∧ Q (.bl false) H))
theorem ok_is_number (F : Fun K "is_number" "is_number" (top 20) f fd) (G : Glb mg) : FnOk P w K mg base CX0 1 f fd ["thing"] (sp_is_number K) := by
  refine F.ok (N := ["thing"]) (by walk_at "sc") (fun vs H Q E h => ?_) (fun cdv A outer s H vs Q E hr h => ?_)
  · obtain ⟨v, rfl, _⟩ := h
    rfl
  · obtain ⟨v, rfl, h⟩ := h
    refine ⟨_, pss_one (ps_ret (pe_and (pe_callB call_isinst rfl G.isinstance boot_isinstance (pa_cons (pv 0) (pa_cons (pe_bltn (v := .ty "int") rfl G.int boot_int rfl) pa_nil)))
      (pe_one (pe_not (pe_callB call_isinst rfl G.isinstance boot_isinstance (pa_cons (pv 0) (pa_cons (pe_bltn (v := .ty "bool") rfl G.bool boot_bool rfl) pa_nil))))))), ?_⟩
    rcases h with ⟨z, rfl, q⟩ | ⟨⟨r, hr', ty, ne⟩, q⟩
    · refine ⟨_, rfl, _, _, _, _, true, rfl, rfl, .inl (.int z), rfl, true, rfl, iteT ?_⟩
      exact ⟨_, rfl, _, _, _, _, false, rfl, rfl, .inl (.int z), rfl, false, rfl, q⟩
    · obtain ⟨k1, k2, _⟩ := kit_tab (K := K) r hr'
      refine ⟨_, rfl, _, _, _, _, r.2.1, rfl, rfl, .inl ty, k1, r.2.1, rfl, ?_⟩
      cases e : r.2.1 with
      | false => exact iteF q
      | true =>
        refine iteT ⟨_, rfl, _, _, _, _, r.2.2.1, rfl, rfl, .inl ty, k2, r.2.2.1, rfl, ?_⟩
        have : r.2.2.1 = true := by
          simp only [numT, List.mem_cons, List.not_mem_nil, or_false] at hr'
          rcases hr' with rfl | rfl | rfl | rfl | rfl | rfl | rfl <;> first | rfl | (exact absurd rfl ne) | (cases e)
        rw [this]
        exact q
def sp_within (K : PySem.W.Frag) : Sp := fun vs H Q _ => ∃ v a b, vs = [v, .int a, .int b] ∧ ((∃ z, v = .int z ∧ Q (.bl (decide (a ≤ z ∧ z ≤ b))) H) ∨ (NoNum K H v ∧ Q (.bl false) H))
theorem ok_within (F : Fun K "is_number_within" "is_number_within" (top 21) f fd) (C1 : Cal P w K mg base CX0 1 "is_number" ["thing"] (sp_is_number K)) : FnOk P w K mg base CX0 2 f fd ["thing", "least", "most"] (sp_within K) := by
  refine F.ok (N := ["thing", "least", "most"]) (by walk_at "sc") (fun vs H Q E h => ?_) (fun cdv A outer s H vs Q E hr h => ?_)
  · obtain ⟨v, a, b, rfl, _⟩ := h
    rfl
  · obtain ⟨v, a, b, rfl, h⟩ := h
    refine ⟨_, pss_one (ps_ret (pe_and (pe_cal C1 hr (by decide) pass0 (pa_cons (pv 0) pa_nil)) (pe_and (pe_cmpR op_le (pv 1) (pv 0) (nomark _)) (pe_one (pe_cmpR op_le (pv 0) (pv 2) (nomark _)))))), ?_⟩
    rcases h with ⟨z, rfl, q⟩ | ⟨nn, q⟩
    · refine ⟨_, rfl, _, rfl, .inl ⟨z, rfl, true, rfl, iteT ⟨_, rfl, _, rfl, _, _, rfl, rfl, _, rfl, ?_⟩⟩⟩
      refine ite2 (fun e => ⟨_, rfl, _, rfl, _, _, rfl, rfl, ?_⟩) (fun e => ?_)
      · have e1 : a ≤ z := of_decide_eq_true e
        show Q (.bl (decide (z ≤ b))) H
        rw [show decide (z ≤ b) = decide (a ≤ z ∧ z ≤ b) by simp [e1]]
        exact q
      · have e1 : ¬ a ≤ z := fun c => e (decide_eq_true c)
        show Q (.bl false) H
        rw [show false = decide (a ≤ z ∧ z ≤ b) by simp [e1]]
        exact q
    · exact ⟨_, rfl, _, rfl, .inr ⟨nn, false, rfl, iteF q⟩⟩

def sp_need_amount (K : PySem.W.Frag) (cA : Addr) : Sp := fun vs H Q E => ∃ v, vs = [v] ∧ ((∃ z, v = .int z ∧ Q .non H) ∨ (NoNum K H v ∧ E (.ref cA) none H))
theorem ok_need_amount (F : Fun K "need_amount" "need_amount" (top 23) f fd) (X : Err K mg cA cS) (C1 : Cal P w K mg base CX0 1 "is_number" ["thing"] (sp_is_number K)) : FnOk P w K mg base (CXE P w) 2 f fd ["thing"] (sp_need_amount K cA) := by
  refine F.okE (N := ["thing"]) (by walk_at "sc") (fun vs H Q E h => ?_) (fun cdv A outer s H vs Q E hr h => ?_)
  · obtain ⟨v, rfl, _⟩ := h
    rfl
  · obtain ⟨v, rfl, h⟩ := h
    refine ⟨_, pss_one (ps_if (pt_not (pt_val (pe_cal C1 hr (by decide) pass0 (pa_cons (pv 0) pa_nil)))) (pss_one (ps_raise throws_fn rfl rfl X.amount X.xA (pa_cons pe_str pa_nil))) pss_nil), ?_⟩
    rcases h with ⟨z, rfl, q⟩ | ⟨nn, q⟩
    · exact ⟨_, rfl, _, rfl, .inl ⟨z, rfl, true, rfl, iteF q⟩⟩
    · exact ⟨_, rfl, _, rfl, .inr ⟨nn, false, rfl, iteT ⟨by decide, q⟩⟩⟩

end
end K02
set_option Elab.async false
set_option linter.all false
set_option maxRecDepth 100000
namespace L2
open PySem PySem.Spec PyProof.Rows

theorem boot_all : bootBuiltins "all" = some (.builtin "all") := by kernel_rfl
theorem has_of {l : List (Str × NameKind)} {cl : List (Str × Addr)} (h : l.all (fun y => match y.2 with | .cell | .free => (cl.lookup y.1).isSome | _ => true) = true) (x : Str) (z : l.lookup x = some .cell ∨ l.lookup x = some .free) : ∃ c, cl.lookup x = some c := by
  rcases z with z | z
  · have := List.all_eq_true.mp h _ (PySem.mem_of_lookup z)
    exact Option.isSome_iff_exists.mp this
  · have := List.all_eq_true.mp h _ (PySem.mem_of_lookup z)
    exact Option.isSome_iff_exists.mp this
theorem sub_of {cl cs : List (Str × Addr)} (h : ∀ q ∈ cl, cs.lookup q.1 = some q.2) (x : Str) (c : Addr) (z : cl.lookup x = some c) : cs.lookup x = some c := h _ (PySem.mem_of_lookup z)
theorem frm_nil {C : Nat → Nat → Prop} (i j : Nat) (z : ([] : List (Option Nat))[i]? = some (some j)) : C i j := by simp at z
theorem frm_none {l : List (Option Nat)} {C : Nat → Nat → Prop} (h : ∀ i j, l[i]? = some (some j) → C (i + 1) j) (i j : Nat) (z : (none :: l)[i]? = some (some j)) : C i j := by
  cases i with
  | zero => simp at z
  | succ i => exact h i j (by simpa using z)
theorem frm_some {l : List (Option Nat)} {k : Nat} {C : Nat → Nat → Prop} (h0 : C 0 k) (h : ∀ i j, l[i]? = some (some j) → C (i + 1) j) (i j : Nat) (z : (some k :: l)[i]? = some (some j)) : C i j := by
  cases i with
  | zero =>
    have : some k = some j := by simpa using z
    cases this
    exact h0
  | succ i => exact h i j (by simpa using z)

theorem compI_map {K : PySem.W.Frag} {a D : Addr} {xs : List V} {te : TE} {fin : List V → Hp → Prop} {σ : St} {H : Hp} (φ : V → V) (ha : SqL K H a xs) (hD : H D = none) (hz : xs.length < sizeLine)
    (hs : ∀ x ∈ xs, ∀ H' R, Same H H' → R (φ x) H' → te (σ.set 0 (some x)) H' R) (hf : fin (xs.map φ) (upd H D (.lst (xs.map φ)))) :
    tTurnsI (Itl K a) D (gName 0) tNoIf te fin σ (upd H D (.lst [])) := by
  refine compI_list (xs := xs) (fun i ys σ' H' => ys = (xs.take i).map φ ∧ (∀ x, σ'.set 0 (some x) = σ.set 0 (some x)) ∧ H' = upd H D (.lst ys)) ⟨rfl, fun _ => rfl, rfl⟩ ?_ ?_ ?_
  · rintro i ys σ' H' _ ⟨_, _, rfl⟩
    exact ⟨(Same.upd hD).seq ha, upd_same⟩
  · rintro i x ys σ' H' hx ⟨rfl, e, rfl⟩
    have hi : i < xs.length := (List.getElem?_eq_some_iff.mp hx).1
    show te (σ'.set 0 (some x)) _ _
    rw [e x]
    have hl : ((xs.take i).map φ).length = i := by rw [List.length_map, List.length_take]; omega
    have he : (xs.take (i + 1)).map φ = (xs.take i).map φ ++ [φ x] := by rw [List.take_add_one, hx]; simp
    refine hs x (List.mem_of_getElem? hx) _ _ (Same.upd (o := .lst ((xs.take i).map φ)) hD) ⟨upd_same, by omega, he.symm, fun y => ?_, upd_upd⟩
    rw [← e x]
    simp
    exact e y
  · rintro ys σ' H' ⟨rfl, _, rfl⟩
    rw [List.take_length]
    exact hf
end L2
set_option Elab.async false
set_option linter.all false
set_option maxRecDepth 100000
set_option maxHeartbeats 1000000
namespace K02
open PySem L2
seal PE PA PT PW PS PSs PG PGs PI PIf PO PK
structure Cst (mg : Str → Option Value) : Prop where
  most : ∃ t, mg "MOST_WEIGHTS" = some (.int 50 t)
  great : ∃ t, mg "GREATEST_WEIGHT" = some (.int 1000000000 t)
def NoLst (K : PySem.W.Frag) (H : Hp) (v : V) : Prop := ∃ r ∈ numT, TyOf K H v (.type r.1) ∧ r.1 ≠ "list"
def Item (K : PySem.W.Frag) (H : Hp) (x : V) : Prop := NoNum K H x ∨ ∃ z, x = .int z
def inW : V → Bool
  | .int z => decide (0 ≤ z ∧ z ≤ 1000000000)
  | _ => false
def valI : V → Int
  | .int z => z
  | _ => 0
def okW (xs : List V) : Bool := xs.all inW && decide (0 < (xs.map valI).sum)
theorem no_int {K : PySem.W.Frag} {H : Hp} {z : Int} (h : NoNum K H (.int z)) : False := by
  obtain ⟨r, _, ty, ne⟩ := h
  have : ∀ T, TyOf K H (.int z) (.type T) → T = "int" := fun T q => by cases q; rfl
  exact ne (this _ ty)
theorem inW_no {K : PySem.W.Frag} {H : Hp} {x : V} (h : NoNum K H x) : inW x = false := by
  cases x <;> first | rfl | exact (no_int h).elim
theorem ints_of {xs : List V} (h : xs.all inW = true) : xs = (xs.map valI).map V.int := by
  rw [List.map_map]
  have : ∀ x ∈ xs, x = (V.int ∘ valI) x := fun x hx => by
    have := List.all_eq_true.mp h x hx
    cases x <;> first | rfl | cases this
  exact (List.map_id xs).symm.trans (List.map_congr_left this)
section
variable {P : Program} {w : World} {K : PySem.W.Frag} {mg : Str → Option Value} {base : Heap} {f : Addr} {fd : FuncData} {cA cS : Addr}
local macro_rules | `(tactic| walk_at "sc") => `(tactic| exact ⟨rfl, rfl, rfl, by decide +kernel, rfl, by decide +kernel, by decide +kernel⟩)
def sp_isw (K : PySem.W.Frag) : Sp := fun vs H Q _ => ∃ u, vs = [u] ∧ ((NoLst K H u ∧ Q (.bl false) H) ∨ ∃ a xs, u = .ref a ∧ H a = some (.lst xs) ∧ ((50 < xs.length ∧ Q (.bl false) H) ∨ (xs.length ≤ 50 ∧ (∀ x ∈ xs, Item K H x) ∧ ∀ H', Same H H' → Q (.bl (okW xs)) H')))
theorem ok_isw (F : Fun K "is_weights" "is_weights" (top 22) f fd) (G : Glb mg) (C : Cst mg) (C1 : Cal P w K mg base CX0 2 "is_number_within" ["thing", "least", "most"] (sp_within K)) : FnOk P w K mg base CX0 3 f fd ["thing"] (sp_isw K) := by
  have nc : (["weight"] : List Str).Nodup := by decide +kernel
  refine F.ok (N := ["thing"]) (by walk_at "sc") (fun vs H Q E h => ?_) (fun cdv A outer s H vs Q E hr h => ?_)
  · obtain ⟨v, rfl, _⟩ := h
    rfl
  · obtain ⟨u, rfl, h⟩ := h
    obtain ⟨t, em⟩ := C.most
    obtain ⟨t', eg⟩ := C.great
    refine' ⟨_, (pss_cons (ps_if (PW.pt (pw_or (pt_not (pt_val (pe_callB call_isinst rfl G.isinstance boot_isinstance (pa_cons (pv 0) (pa_cons (pe_bltn (v := .ty "list") rfl G.list boot_list rfl) pa_nil))))) (pw_or1 (pt_cmpR op_gt (pe_callB call_len_seq rfl G.len boot_len (pa_cons (pv 0) pa_nil)) (pe_glob (v := .int 50) rfl em ⟨t, rfl⟩) (nomark _))))) (pss_one (ps_ret pe_bl)) pss_nil)
        (pss_cons (ps_if (pt_not (pt_val (pe_callB (call_allL rfl) rfl G.all boot_all (pa_cons ?comp pa_nil)))) (pss_one (ps_ret pe_bl)) pss_nil)
        (pss_one (ps_ret (pe_cmpR op_gt (pe_callB (call_sumL rfl) rfl G.sum boot_sum (pa_cons (pv 0) pa_nil)) pe_int (nomark _)))))), ?main⟩
    case comp =>
      refine' pe_compI (Nc := ["weight"]) (cl := []) (src := [none]) (wi := iList K (tVar 0)) (g := gName 0) (tt := tNoIf) (te := fun σ H Q => tCons (tVar 0) (tCons (tC (.int 0)) (tCons (tC (.int 1000000000)) tNil)) σ H fun vs H1 => sp_within K vs H1 Q E0) ⟨rfl, rfl, by decide +kernel, by decide +kernel, (fun x c z => nomatch z), has_of (by rfl), frm_none frm_nil, rfl⟩ rfl (pi_list (pv 0)) ?hb
      case hb =>
        intro fp C' s' H'
        exact ⟨pg_name (i := 0) nc rfl (Or.inl rfl), pif_nil, pe_cal C1 hr (by decide) pass0 (pa_cons (pv 0) (pa_cons pe_int (pa_cons (pe_glob (v := .int 1000000000) rfl eg ⟨t', rfl⟩) pa_nil)))⟩
    rcases h with ⟨⟨r, hr', ty, ne⟩, q⟩ | ⟨a, xs, rfl, hx, h⟩
    · obtain ⟨_, _, _, k4⟩ := kit_tab (K := K) r hr'
      have e : r.2.2.2.2 = false := by
        simp only [numT, List.mem_cons, List.not_mem_nil, or_false] at hr'
        rcases hr' with rfl | rfl | rfl | rfl | rfl | rfl | rfl <;> first | rfl | exact absurd rfl ne
      rw [e] at k4
      exact ⟨_, rfl, _, _, _, _, false, rfl, rfl, .inl ty, k4, false, rfl, iteT q⟩
    have kl : PySem.W.kitOne K (.type "list") (.type "list") = some true := (kit_tab (K := K) ("list", false, false, false, true) (by simp [numT])).2.2.2
    refine ⟨_, rfl, _, _, _, _, true, rfl, rfl, .inl (.lst hx), kl, true, rfl, iteF ⟨_, rfl, a, xs, rfl, .inl (SqL.of hx), _, _, rfl, rfl, _, rfl, ?_⟩⟩
    rcases h with ⟨hl, q⟩ | ⟨hl, hi, q⟩
    · exact ite2 (fun _ => q) (fun e => absurd (decide_eq_true (by omega)) e)
    refine ite2 (fun z => by have := of_decide_eq_true z; omega) fun _ => ⟨_, rfl, a, rfl, ⟨xs, SqL.of hx⟩, fun D hD => ?_⟩
    refine compI_map (K := K) (xs := xs) (fun x => .bl (inW x)) (SqL.of hx) hD (by rw [sizeLine_eq]; omega) (fun x hx' H' R s1 r => ?_) ?_
    · refine ⟨x, rfl, x, 0, 1000000000, rfl, ?_⟩
      rcases hi x hx' with nn | ⟨z, rfl⟩
      · rw [inW_no nn] at r
        exact .inr ⟨nn.same s1, r⟩
      · exact .inl ⟨z, rfl, r⟩
    · refine ⟨D, xs.map inW, rfl, SqL.of (by rw [List.map_map]; exact upd_same), _, rfl, ?_⟩
      have s1 : Same H (upd H D (.lst (xs.map fun x => V.bl (inW x)))) := Same.upd hD
      have ea : (xs.map inW).all id = xs.all inW := by rw [List.all_map]; rfl
      unfold okW at q
      refine ite2 (fun e => ?_) (fun e => ?_)
      · rw [ea] at e
        have e' : xs.all inW = false := by simpa using e
        rw [e'] at q
        exact q _ s1
      · rw [ea] at e
        have e' : xs.all inW = true := by simpa using e
        rw [e'] at q
        refine ⟨_, rfl, a, xs.map valI, rfl, SqL.of ?_, _, _, rfl, rfl, ?_⟩
        · rw [← ints_of e']
          exact s1 _ _ hx
        · exact q _ s1
end
end K02
set_option Elab.async false
set_option linter.all false
set_option maxRecDepth 100000
set_option maxHeartbeats 1000000
namespace K02
open PySem L2

def lowsZ (z : Int) (ws : List Int) (S : Int) : List Int := ws.map fun w => z * w / S
def restsZ (z : Int) (ws : List Int) (S : Int) : List Int := ws.map fun w => z * w % S
def keyZ (z : Int) (ws : List Int) (i : Nat) : Int := -((restsZ z ws ws.sum).getD i 0)
def ordZ (z : Int) (ws : List Int) : List Nat := SS.iord (keyZ z ws) (List.range ws.length)
def leftZ (z : Int) (ws : List Int) : Int := z - (lowsZ z ws ws.sum).sum
def bump (l : List Int) (i : Nat) : List Int := l.set i (l.getD i 0 + 1)
def splitZ (z : Int) (ws : List Int) : List Int := ((ordZ z ws).take (leftZ z ws).toNat).foldl bump (lowsZ z ws ws.sum)
theorem sum_parts (z S : Int) : ∀ ws : List Int, S * (lowsZ z ws S).sum + (restsZ z ws S).sum = z * ws.sum
  | [] => by simp [lowsZ, restsZ]
  | w :: ws => by
    have ih := sum_parts z S ws
    have e := Int.mul_ediv_add_emod (z * w) S
    simp only [lowsZ, restsZ, List.map_cons, List.sum_cons] at *
    rw [Int.mul_add, Int.mul_add, ← ih]
    omega
theorem left_rests {z : Int} {ws : List Int} (h : 0 < ws.sum) : ws.sum * leftZ z ws = (restsZ z ws ws.sum).sum := by
  have e := sum_parts z ws.sum ws
  unfold leftZ
  rw [Int.mul_sub]
  rw [Int.mul_comm ws.sum z]
  omega
theorem rests_nn {z S : Int} (h : 0 < S) : ∀ ws : List Int, 0 ≤ (restsZ z ws S).sum ∧ (restsZ z ws S).sum ≤ (S - 1) * ws.length
  | [] => by simp [restsZ]
  | w :: ws => by
    obtain ⟨i1, i2⟩ := rests_nn (z := z) h ws
    have e1 := Int.emod_nonneg (z * w) (Int.ne_of_gt h)
    have e2 := Int.emod_lt_of_pos (z * w) h
    simp only [restsZ, List.map_cons, List.sum_cons, List.length_cons] at *
    refine ⟨by omega, ?_⟩
    have : (S - 1) * ((ws.length + 1 : Nat) : Int) = (S - 1) * (ws.length : Int) + (S - 1) := by
      rw [show ((ws.length + 1 : Nat) : Int) = (ws.length : Int) + 1 by omega, Int.mul_add, Int.mul_one]
    omega
theorem left_nn {z : Int} {ws : List Int} (h : 0 < ws.sum) : 0 ≤ leftZ z ws ∧ leftZ z ws ≤ ws.length := by
  have e := left_rests (z := z) h
  obtain ⟨i1, i2⟩ := rests_nn (z := z) h ws
  rw [← e] at i1 i2
  refine ⟨Int.nonneg_of_mul_nonneg_right i1 h, ?_⟩
  have h3 : ws.sum * leftZ z ws ≤ ws.sum * ws.length := by
    refine Int.le_trans i2 ?_
    exact Int.mul_le_mul_of_nonneg_right (by omega) (by omega)
  exact Int.le_of_mul_le_mul_left h3 h
end K02
set_option Elab.async false
set_option linter.all false
set_option maxRecDepth 100000
namespace L2
open PySem PySem.Spec PyProof.Rows

section
variable {X : Cx} {elt iter tgt : Expr} {ifs : List Expr} {scope : Scope} {cl : List (Str × Addr)} {Nc : List Str} {src : List (Option Nat)} {g : TG} {tt : TT} {te : TE}
theorem ps_setC {i : Nat} {x : Str} {wi : TI} {pos pos' cpos : Pos} (hN : X.N.Nodup) (hx : X.N[i]? = some x) (hl : X.env.scope.names.lookup x = some .local) (c : CompOk X Nc scope cl src) (hcalm : X.calm = true) (hi : PI X tgt iter wi)
    (hb : ∀ fp C s' H', PG (cxCompF X Nc scope cl C fp s' H') tgt g ∧ PIf (cxCompF X Nc scope cl C fp s' H') ifs tt ∧ PE (cxCompF X Nc scope cl C fp s' H') elt te)
    (hsw : swapsWith (.ListComp elt [⟨tgt, iter, ifs, 0⟩] scope cpos) (some (.Name x pos')) pos.line X.env = pure true := by rfl)
    (hs : ∀ x, foldedSetIterable iter X.env x = pure x := by intro _; rfl) : PS X (.Assign [.Name x pos'] (.ListComp elt [⟨tgt, iter, ifs, 0⟩] scope cpos) pos) (tAsg (tCompI src wi g tt te) (gName i)) := by
  intro pins s σ H D I h
  rw [exec_Assign_Name_used _ _ _ _ hsw]
  refine wpAny_bind (wpAny_standAt (wpAny_bind ?_))
  show wpAny _ X.A (do let _ ← comprehension (.ListComp elt [⟨tgt, iter, ifs, 0⟩] scope cpos) scope X.env _ (newList []) false (eval iter X.env) (some (assign (.Name x pos') X.env))) _ _ s
  refine wpAny_bind (wpAny_mono (wpAny_comprehension_free (use := some (assign (.Name x pos') X.env)) (Q := fun _ s' => ∃ σ' H', Inv X pins σ' H' s' ∧ D.nx σ' H') rfl hs c.clos c.kind c.names (thn (hi pins s σ H _ I h) fun v s1 h1 => thn h1 fun itv s2 h2 => ?_)) (fun _ s' hq => wpAny_pure (wpAny_pure hq)) fun _ _ z => z)
  obtain ⟨it, fp, tn, J, H2, e, I2, T, st2, f2, hT⟩ := h2
  subst e
  refine wpAny_newObj_type ?_ (by size_fits)
  have old : ∀ b o, s2.heap.get? b = some o → (s2.heap.push { cls := .type "list", data := .seq ([] : List Value).toArray }).get? b = some o := fun b o e => Heap.get?_push_of_some _ e
  have I3 := I2.laid (a := s2.heap.objs.size) (o := .lst []) (t' := s2.toks) (h' := s2.heap.push { cls := .type "list", data := .seq ([] : List Value).toArray }) old (Nat.le_refl _) ⟨Nat.zero_le _, [], 0, .nil, Heap.get?_push_size _ rfl⟩
  have ne : ∀ b ∈ fp, b ≠ s2.heap.objs.size := fun b hb => by
    obtain ⟨o, e, _⟩ := T.obj 0 _ st2 b hb
    exact Nat.ne_of_lt (Heap.lt_size e)
  have f3 : ∀ b ∈ fp, FpOk X pins (upd H2 s2.heap.objs.size (.lst [])) b := fun b hb => ⟨by rw [upd_ne (ne b hb)]; exact (f2 b hb).1, (f2 b hb).2⟩
  refine comp_blockI (it := it) (R := fun C => compPost (model X.prog X.w) X.A X.xe (some (assign (.Name x pos') X.env)) (fun _ s' => ∃ σ' H', Inv X pins σ' H' s' ∧ D.nx σ' H') _ C) c hcalm I3 T (T.keep _ _ _ st2 fun b _ o e => old b o e) f3 (hb fp) (hT _ (I2.hok.fresh (Nat.le_refl _))) fun C ys σ' H' s' hC J' hD q => ?_
  obtain ⟨m, hn, _⟩ := id J'.loc
  have B : Inv X pins σ H' s' := comp_backI I3 f3 J' ⟨rfl, fun _ _ => rfl⟩
  have Cge : ∀ b o, (s2.heap.push { cls := .type "list", data := .seq ([] : List Value).toArray }).get? b = some o → b ≠ C := fun b o e => Nat.ne_of_lt (Nat.lt_of_lt_of_le (Heap.lt_size e) J'.ok.above)
  have CL : C ≠ X.env.locals := fun z => by
    obtain ⟨m3, ⟨o, _, _, ho, _⟩, _⟩ := I3.loc
    exact Cge _ o ho z.symm
  refine wpAny_assign_Name (store_ok2 B hN hx (.inl hl) (v := .ref s2.heap.objs.size) rfl (fun s5 I5 hsb => ?_) (.inr hl))
  obtain ⟨a, sb, ha⟩ := hsb
  have aL : a ≠ C := by
    rcases ha with rfl | ha
    · exact CL.symm
    · obtain ⟨v, o, ho, _⟩ := I3.cell x a ha
      exact Cge _ o ho
  refine ⟨m, hn.sameBut sb aL.symm, fun h' hs' => ⟨_, H', I5.turned (t' := s5.toks) (fun b o n e => (hs'.2 b n).trans e) J'.free CL ?_ (fun y b e z => ?_) (fun p hp z => ?_), q⟩⟩
  · exact .inr (Heap.get?_none_of_le (Nat.le_trans I3.sz J'.ok.above))
  · obtain ⟨v, o, ho, _⟩ := I3.cell y b e
    exact Cge _ o ho z
  · exact Cge _ _ (I3.pin p hp).1 z
end
end L2
set_option Elab.async false
set_option linter.all false
set_option maxRecDepth 100000
set_option maxHeartbeats 1000000
namespace L2
open PySem PySem.Spec PyProof.Rows
theorem Fun.okEC {P : Program} {w : World} {K : PySem.W.Frag} {mg : Str → Option Value} {base : Heap} {x qual : Str} {st : Stmt} {f c : Addr} {fd : FuncData} {N ps : List Str} {k : Nat} {sp : Sp} (F : Fun K x qual st f fd) (hc : fd.code = .ref c) (S : FnScope N ps (defScope st)) (len : ∀ vs H Q E, sp vs H Q E → vs.length = ps.length)
    (hbody : ∀ (A : Around) (outer : List Env) (s : Shared) (H : Hp) (vs : List V) (Q : VK) (E : XK), Room k (A.deeper (envOfC qual (defScope st) s.heap.objs.size f (.ref c))) → sp vs H Q E →
      ∃ t, PSs (cxOf (CXE P w) P w K mg base N qual (defScope st) f (.ref c) A outer s H E) (defBody st) t ∧ t { nx := fun _ H' => Q .non H', rt := Q } (start N vs) H) : FnOk P w K mg base (CXE P w) (k + 1) f fd ps sp := by
  obtain ⟨oc, od, kV, doc, pm, an, cdv, ct, osl, rfl, lk, hcd⟩ := F.ex
  have e : cdv = .ref c := hc
  subst e
  exact fn_of lk hcd S len fun A outer s H vs Q E hr hsp => hbody A outer s H vs Q E hr hsp
theorem sub1 {cs : List (Str × Addr)} {k : Str} {a : Addr} (h : cs.lookup k = some a) : ∀ q ∈ [(k, a)], cs.lookup q.1 = some q.2 := fun q hq => by rw [List.mem_singleton.mp hq]; exact h
theorem subN {cs cl : List (Str × Addr)} {k : Str} {a : Addr} (h : cs.lookup k = some a) (t : ∀ q ∈ cl, cs.lookup q.1 = some q.2) : ∀ q ∈ (k, a) :: cl, cs.lookup q.1 = some q.2 := fun q hq => by
  rcases List.mem_cons.mp hq with rfl | hq
  · exact h
  · exact t q hq
end L2
namespace K02
open PySem L2
seal PE PA PT PW PS PSs PG PGs PI PIf PO PK
section
variable {P : Program} {w : World} {K : PySem.W.Frag} {mg : Str → Option Value} {base : Heap} {f : Addr} {fd : FuncData} {cA cS c T : Addr}
local macro_rules | `(tactic| walk_at "sc") => `(tactic| exact ⟨rfl, rfl, rfl, by decide +kernel, rfl, by decide +kernel, by decide +kernel⟩)
def lpos : Pos := ⟨58, 42, 58, 69⟩
def lqual : Str := ("split" : Str) ++ ".<locals>." ++ "<lambda>"

def BadW (K : PySem.W.Frag) (H : Hp) (u : V) : Prop := NoLst K H u ∨ ∃ a xs, u = .ref a ∧ H a = some (.lst xs) ∧ (50 < xs.length ∨ (xs.length ≤ 50 ∧ (∀ x ∈ xs, Item K H x) ∧ okW xs = false))
def GoodW (ws : List Int) : Prop := ws.length ≤ 50 ∧ (∀ x ∈ ws, 0 ≤ x ∧ x ≤ 1000000000) ∧ 0 < ws.sum
def sp_split (K : PySem.W.Frag) (cA cS T : Addr) : Sp := fun vs H Q E => ∃ v u, vs = [v, u] ∧ ((NoNum K H v ∧ E (.ref cA) none H) ∨ ∃ z, v = .int z ∧ ((BadW K H u ∧ ∀ H', Same H H' → E (.ref cS) none H') ∨
  ∃ a ws, u = .ref a ∧ H a = some (.lst (ws.map V.int)) ∧ GoodW ws ∧ LamTab H T lpos lqual ∧ ∀ l H', LamNext H H' T → LamTab H' T lpos lqual → H l = none → H' l = some (.lst ((splitZ z ws).map V.int)) → Q (.ref l) H'))
structure Nest (mg : Str → Option Value) (base : Heap) (c T : Addr) : Prop where
  hd : PySem.W.CodeHd base c T
  bm : ∃ bm o, mg "__builtins__" = some (.ref bm) ∧ bm ≠ builtinsNs ∧ bm ≠ mainGlobals ∧ base.get? bm = some o ∧ o.cls = .type "module" ∧ o.dict = some builtinsNs ∧ o.data = .plain
theorem okW_ints {ws : List Int} (h : GoodW ws) : okW (ws.map V.int) = true := by
  unfold okW
  rw [List.all_map, List.map_map]
  have e : ws.map (valI ∘ V.int) = ws := (List.map_congr_left fun x _ => rfl).trans (List.map_id ws)
  rw [e, decide_eq_true h.2.2, Bool.and_true]
  exact List.all_eq_true.mpr fun x hx => decide_eq_true (h.2.1 x hx)
theorem sum_small : ∀ {ws : List Int}, (∀ x ∈ ws, 0 ≤ x ∧ x ≤ 1000000000) → ws.sum ≤ 1000000000 * ws.length
  | [], _ => by simp
  | x :: ws, h => by
    have h1 := h x List.mem_cons_self
    have h2 := sum_small (ws := ws) fun y hy => h y (List.mem_cons_of_mem _ hy)
    rw [List.sum_cons, List.length_cons]
    omega
theorem maps_low {z S : Int} {ws : List Int} : (ws.map V.int).map (fun x => V.int (z * valI x / S)) = (lowsZ z ws S).map V.int := by
  rw [List.map_map, lowsZ, List.map_map]; rfl
theorem maps_rest {z S : Int} {ws : List Int} : (ws.map V.int).map (fun x => V.int (z * valI x % S)) = (restsZ z ws S).map V.int := by
  rw [List.map_map, restsZ, List.map_map]; rfl
theorem lamAt_same {H H' : Hp} {c' : Addr} {qu : Str} (s : ∀ b o u, H b = some (.frz o u) → H' b = some (.frz o u)) (h : LamAt H c' qu) : LamAt H' c' qu := by
  obtain ⟨oc, vs, t, u, e, r⟩ := h
  exact ⟨oc, vs, t, u, s _ _ _ e, r⟩
theorem lamTab_same {H H' : Hp} {T : Addr} {po : Pos} {qu : Str} (s : Same H H') (h : LamTab H T po qu) : LamTab H' T po qu := by
  obtain ⟨ps, e, t, r⟩ := h
  exact ⟨ps, s _ _ e, t, r.imp id fun ⟨c', e', la⟩ => ⟨c', e', lamAt_same (fun b o u z => s _ _ z) la⟩⟩
theorem lamTab_put {H : Hp} {T D : Addr} {po : Pos} {qu : Str} {xs ys : List V} (hD : H D = some (.lst xs)) (h : LamTab H T po qu) : LamTab (upd H D (.lst ys)) T po qu := by
  obtain ⟨ps, e, t, r⟩ := h
  refine ⟨ps, by rw [upd_ne (fun z => by rw [z, hD] at e; cases e)]; exact e, t, r.imp id fun ⟨c', e', la⟩ => ⟨c', e', lamAt_same (fun b o u z => ?_) la⟩⟩
  rw [upd_ne (fun y => by rw [y, hD] at z; cases z)]
  exact z
theorem bump_len (l : List Int) (i : Nat) : (bump l i).length = l.length := by unfold bump; rw [List.length_set]
theorem bumps_len : ∀ (o : List Nat) (l : List Int), (o.foldl bump l).length = l.length
  | [], _ => rfl
  | i :: o, l => by rw [List.foldl_cons, bumps_len o, bump_len]
theorem atI_int {l : List Int} {i : Nat} (h : i < l.length) : atI (l.map V.int) (i : Int) = some (.int (l.getD i 0)) := by
  unfold atI ixN
  rw [if_pos (by omega), if_pos (by rw [List.length_map]; omega)]
  show (l.map V.int)[(i : Int).toNat]? = _
  rw [Int.toNat_natCast, List.getElem?_map, List.getD_eq_getElem?_getD, List.getElem?_eq_getElem h]
  rfl
theorem ixN_int {n i : Nat} (h : i < n) : ixN n (i : Int) = some i := by
  unfold ixN
  rw [if_pos (by omega), if_pos (by omega), Int.toNat_natCast]
theorem cut_take {xs : List V} {k : Int} (h : 0 ≤ k) : cutV xs none (some k) = xs.take k.toNat := by
  unfold cutV HT.sIx
  simp only [List.drop_zero, Nat.sub_zero]
  rw [if_neg (by omega)]
  by_cases hk : k.toNat ≤ xs.length
  · rw [Nat.min_eq_left hk]
  · rw [Nat.min_eq_right (by omega), List.take_length, List.take_of_length_le (by omega)]
theorem ok_split (F : Fun K "split" "split" (top 24) f fd) (hc : fd.code = .ref c) (Y : Nest mg base c T) (G : Glb mg) (X : Err K mg cA cS) (C1 : Cal P w K mg base (CXE P w) 2 "need_amount" ["thing"] (sp_need_amount K cA)) (C2 : Cal P w K mg base CX0 3 "is_weights" ["thing"] (sp_isw K)) :
    FnOk P w K mg base (CXE P w) 4 f fd ["amount", "weights"] (sp_split K cA cS T) := by
  have nd : (["amount", "weights", "total", "shares", "rests", "left", "order", "place"] : List Str).Nodup := by decide +kernel
  have nc : (["weight", "amount", "total"] : List Str).Nodup := by decide +kernel
  refine F.okEC (N := ["amount", "weights", "total", "shares", "rests", "left", "order", "place"]) hc (by walk_at "sc") (fun vs H Q E h => ?_) (fun A outer s H vs Q E hr h => ?_)
  · obtain ⟨v, u, rfl, _⟩ := h
    rfl
  · obtain ⟨v, u, rfl, h⟩ := h
    refine' ⟨_, (pss_cons (ps_expr (pe_cal C1 hr (by decide) passE (pa_cons (pv 0) pa_nil)))
        (pss_cons (ps_if (pt_not (pt_val (pe_cal C2 hr (by decide) pass0 (pa_cons (pv 1) pa_nil)))) (pss_one (ps_raise throws_fn rfl rfl X.share X.xS (pa_cons pe_str pa_nil))) pss_nil)
        (pss_cons (ps_set (i := 2) nd rfl (Or.inr rfl) (pe_callB (call_sumL rfl) rfl G.sum boot_sum (pa_cons (pv 1) pa_nil)))
        (pss_cons (ps_setC (i := 3) (Nc := ["weight", "amount", "total"]) (cl := [("total", s.heap.objs.size + 2), ("amount", s.heap.objs.size + 1)]) (src := [none, some 0, some 2]) (wi := iList K (tVar 1)) (g := gName 0) (tt := tNoIf) (te := tOp (rI CDivB fun i j => .int (i / j)) (tOp (rI CMul fun i j => .int (i * j)) (tVar 1) (tVar 0)) (tVar 2)) nd rfl rfl ?ck1 rfl (pi_list (pv 1)) ?hb1)
        (pss_cons (ps_set (i := 4) nd rfl (Or.inr rfl) (pe_compI (Nc := ["weight", "amount", "total"]) (cl := [("total", s.heap.objs.size + 2), ("amount", s.heap.objs.size + 1)]) (src := [none, some 0, some 2]) (wi := iList K (tVar 1)) (g := gName 0) (tt := tNoIf) (te := tOp (rI (fun _ j => 0 < j) fun i j => .int (i % j)) (tOp (rI CMul fun i j => .int (i * j)) (tVar 1) (tVar 0)) (tVar 2)) ?ck2 rfl (pi_list (pv 1)) ?hb2))
        (pss_cons (ps_set (i := 5) nd rfl (Or.inl rfl) (pe_op op_sub (pv 0) (pe_callB (call_sumL rfl) rfl G.sum boot_sum (pa_cons (pv 3) pa_nil))))
        (pss_cons (ps_set (i := 6) nd rfl (Or.inl rfl) ?srt)
        (PSs.nox (pss_cons (ps_for PassesOwn.never rfl (pi_list (pe_slice sl_list (pv 6) po_none (po_some (pv 5)))) (pg_name (i := 7) nd rfl (Or.inl rfl)) (pss_one (ps_asg (pe_op op_add (pe_at ix_list (pv 3) (pv 7)) pe_int) (pg_sub (pv 3) (pv 7) set_list))))
        (pss_one (ps_ret (pv 3)))))))))))), ?main⟩
    case ck1 => exact ⟨rfl, rfl, by decide +kernel, by decide +kernel, sub_of (subN rfl (sub1 rfl)), has_of (by rfl), frm_none (frm_some ⟨_, rfl, rfl, rfl, rfl⟩ (frm_some ⟨_, rfl, rfl, rfl, rfl⟩ frm_nil)), rfl⟩
    case ck2 => exact ⟨rfl, rfl, by decide +kernel, by decide +kernel, sub_of (subN rfl (sub1 rfl)), has_of (by rfl), frm_none (frm_some ⟨_, rfl, rfl, rfl, rfl⟩ (frm_some ⟨_, rfl, rfl, rfl, rfl⟩ frm_nil)), rfl⟩
    case hb1 =>
      intro fp C' s' H'
      exact ⟨pg_name (i := 0) nc rfl (Or.inl rfl), pif_nil, pe_op op_fdivB (pe_op op_mul (pv 1) (pv 0)) (pv 2)⟩
    case hb2 =>
      intro fp C' s' H'
      exact ⟨pg_name (i := 0) nc rfl (Or.inl rfl), pif_nil, pe_op op_mod (pe_op op_mul (pv 1) (pv 0)) (pv 2)⟩
    case srt =>
      refine' pe_sortK (P := T) (c := c) (p := "place") (Nr := ["rests"]) (cl := [("rests", s.heap.objs.size + 3)]) (src := [some 4]) (ta := tCons (tCB (fun xs H Q => ∃ p ys, xs = [.ref p] ∧ (SqL K H p ys ∨ SqT K H p ys) ∧ Q (.int ys.length) H) (tCons (tVar 4) tNil)) tNil) (te := tUn (rU fun i => .int (-i)) (tOp (rIxL K) (tVar 1) (tVar 0))) rfl hr.depth ?lk ⟨rfl, Y.hd, Y.bm⟩ rfl rfl G.sorted rfl G.range (pa_cons (pe_callB call_len_seq rfl G.len boot_len (pa_cons (pv 4) pa_nil)) pa_nil) (fun _ _ _ _ => rfl) ?hb3
      case lk => exact ⟨rfl, rfl, rfl, rfl, by decide +kernel, rfl, sub_of (sub1 rfl), has_of (by rfl), frm_some ⟨_, rfl, rfl, rfl, rfl⟩ frm_nil, rfl⟩
      case hb3 =>
        intro A' f' c' s' H'
        exact pe_un un_neg (pe_at ix_list (pv 1) (pv 0))
    rcases h with ⟨nn, q⟩ | ⟨z, rfl, q⟩
    · exact ⟨_, rfl, _, rfl, .inr ⟨nn, q⟩⟩
    refine ⟨_, rfl, _, rfl, .inl ⟨z, rfl, ?_⟩⟩
    rcases q with ⟨bw, q⟩ | ⟨a, ws, rfl, hw, gw, lt, q⟩
    · rcases bw with nl | ⟨a, xs, rfl, hx, hb⟩
      · exact ⟨_, rfl, _, rfl, .inl ⟨nl, false, rfl, iteT ⟨by decide, q H (Same.refl _)⟩⟩⟩
      · rcases hb with hl | ⟨hl, hi, ho⟩
        · exact ⟨_, rfl, _, rfl, .inr ⟨a, xs, rfl, hx, .inl ⟨hl, false, rfl, iteT ⟨by decide, q H (Same.refl _)⟩⟩⟩⟩
        · refine ⟨_, rfl, _, rfl, .inr ⟨a, xs, rfl, hx, .inr ⟨hl, hi, fun H' s1 => ?_⟩⟩⟩
          rw [ho]
          exact ⟨false, rfl, iteT ⟨by decide, q H' s1⟩⟩
    obtain ⟨g1, g2, g3⟩ := id gw
    have hS := sum_small g2
    have S64 : CDivB z ws.sum := ⟨g3, by omega⟩
    refine ⟨_, rfl, _, rfl, .inr ⟨a, ws.map V.int, rfl, hw, .inr ⟨by simpa using g1, fun x hx => ?_, fun H1 s1 => ?_⟩⟩⟩
    · obtain ⟨y, _, rfl⟩ := List.mem_map.mp hx
      exact .inr ⟨y, rfl⟩
    rw [okW_ints gw]
    have w1 : H1 a = some (.lst (ws.map V.int)) := s1 _ _ hw
    refine ⟨true, rfl, iteF ⟨_, rfl, a, ws, rfl, SqL.of w1, ⟨_, rfl, a, rfl, ⟨_, SqL.of w1⟩, fun D hD => ?_⟩⟩⟩
    refine compI_map (K := K) (xs := ws.map V.int) (fun x => .int (z * valI x / ws.sum)) (SqL.of w1) hD (by rw [List.length_map, sizeLine_eq]; omega) (fun x hx H' R s2 r => ?_) ?_
    · obtain ⟨y, hy, rfl⟩ := List.mem_map.mp hx
      have := g2 y hy
      exact ⟨_, rfl, _, rfl, z, y, rfl, rfl, .inr ⟨by omega, by omega⟩, _, rfl, _, _, rfl, rfl, S64, r⟩
    rw [maps_low]
    have s2 : Same H1 (upd H1 D (.lst ((lowsZ z ws ws.sum).map V.int))) := Same.upd hD
    refine ⟨_, rfl, a, rfl, ⟨_, SqL.of (s2 _ _ w1)⟩, fun D2 hD2 => ?_⟩
    refine compI_map (K := K) (xs := ws.map V.int) (fun x => .int (z * valI x % ws.sum)) (SqL.of (s2 _ _ w1)) hD2 (by rw [List.length_map, sizeLine_eq]; omega) (fun x hx H' R s3 r => ?_) ?_
    · obtain ⟨y, hy, rfl⟩ := List.mem_map.mp hx
      have := g2 y hy
      exact ⟨_, rfl, _, rfl, z, y, rfl, rfl, .inr ⟨by omega, by omega⟩, _, rfl, _, _, rfl, rfl, g3, r⟩
    rw [maps_rest]
    have s3 : Same (upd H1 D (.lst ((lowsZ z ws ws.sum).map V.int))) (upd (upd H1 D (.lst ((lowsZ z ws ws.sum).map V.int))) D2 (.lst ((restsZ z ws ws.sum).map V.int))) := Same.upd hD2
    generalize eH3 : upd (upd H1 D (.lst ((lowsZ z ws ws.sum).map V.int))) D2 (.lst ((restsZ z ws ws.sum).map V.int)) = H3 at s3 ⊢
    have dl : H3 D = some (.lst ((lowsZ z ws ws.sum).map V.int)) := s3 _ _ upd_same
    have dr : H3 D2 = some (.lst ((restsZ z ws ws.sum).map V.int)) := by rw [← eH3]; exact upd_same
    have S3 : Same H H3 := (s1.trans s2).trans s3
    refine ⟨_, rfl, _, rfl, D, _, rfl, SqL.of dl, _, _, rfl, rfl, ?_⟩
    have rl : (restsZ z ws ws.sum).length = ws.length := by unfold restsZ; rw [List.length_map]
    refine ⟨_, rfl, D2, _, rfl, .inl (SqL.of dr), ws.length, keyZ z ws, ?_, by omega, ?_, fun H4 nx T4 => ⟨fun i hi => ?_, fun L hL => ?_⟩⟩
    · rw [List.length_map, rl]
    · exact lamTab_same S3 lt
    · have hi' : i < (restsZ z ws ws.sum).length := by omega
      have nT : D2 ≠ T := fun y => by
        obtain ⟨ps, e, _⟩ := lamTab_same S3 lt
        rw [← y, dr] at e; cases e
      exact ⟨_, rfl, _, rfl, D2, _, _, _, rfl, rfl, SqL.of (nx _ _ nT dr), atI_int hi', _, rfl, rfl, rfl⟩
    obtain ⟨l1, l2⟩ := left_nn (z := z) g3
    have tT := lamTab_same S3 lt
    have nD : D ≠ T := fun y => by
      obtain ⟨ps, e, _⟩ := tT
      rw [← y, dl] at e; cases e
    have d4 : H4 D = some (.lst ((lowsZ z ws ws.sum).map V.int)) := nx _ _ nD dl
    have s5 : Same H4 (upd H4 L (.lst ((ordZ z ws).map fun i => .int (i : Nat)))) := Same.upd hL
    refine ⟨_, rfl, _, rfl, _, rfl, L, _, rfl, SqL.of upd_same, fun p hp => ?_⟩
    have hp : upd H4 L (.lst ((ordZ z ws).map fun i => .int (i : Nat))) p = none := hp
    have s6 : Same (upd H4 L (.lst ((ordZ z ws).map fun i => .int (i : Nat)))) (upd (upd H4 L (.lst ((ordZ z ws).map fun i => .int (i : Nat)))) p (.lst (cutV ((ordZ z ws).map fun i => V.int (i : Nat)) none (some (leftZ z ws))))) := Same.upd hp
    obtain ⟨H6, eH6⟩ : ∃ H6, upd (upd H4 L (.lst ((ordZ z ws).map fun i => .int (i : Nat)))) p (.lst (cutV ((ordZ z ws).map fun i => V.int (i : Nat)) none (some (leftZ z ws)))) = H6 := ⟨_, rfl⟩
    rw [eH6] at s6
    have p6 : H6 p = some (.lst (((ordZ z ws).take (leftZ z ws).toNat).map fun i => V.int (i : Nat))) := by
      rw [← eH6, upd_same, cut_take l1, List.map_take]
    have S6 := s5.trans s6
    have d6 := S6 _ _ d4
    have pD : p ≠ D := fun y => by
      have := s5 _ _ d4
      rw [← y, hp] at this; cases this
    have lw : (lowsZ z ws ws.sum).length = ws.length := by unfold lowsZ; rw [List.length_map]
    have p6' : (upd (upd H4 L (.lst ((ordZ z ws).map fun i => .int (i : Nat)))) p (.lst (cutV ((ordZ z ws).map fun i => V.int (i : Nat)) none (some (leftZ z ws))))) p = some (.lst (((ordZ z ws).take (leftZ z ws).toNat).map fun i => V.int (i : Nat))) := by rw [eH6]; exact p6
    refine ⟨p, rfl, ⟨_, SqL.of p6'⟩, for_list (xs := ((ordZ z ws).take (leftZ z ws).toNat).map fun i => V.int (i : Nat)) (fun i σ H' => ∃ o7, σ = [some (.int z), some (.ref a), some (.int ws.sum), some (.ref D), some (.ref D2), some (.int (leftZ z ws)), some (.ref L), o7] ∧
      H' = upd H6 D (.lst (((((ordZ z ws).take (leftZ z ws).toNat).take i).foldl bump (lowsZ z ws ws.sum)).map V.int))) ⟨_, rfl, ?_⟩ ?_ ?_ ?_⟩
    · show upd (upd H4 L (.lst ((ordZ z ws).map fun i => .int (i : Nat)))) p (.lst (cutV ((ordZ z ws).map fun i => V.int (i : Nat)) none (some (leftZ z ws)))) = _
      rw [eH6]
      funext b
      unfold upd
      by_cases e : b = D
      · rw [if_pos e, e, d6]; rfl
      · rw [if_neg e]
    · rintro i σ H' _ ⟨o7, rfl, rfl⟩
      exact SqL.of (by rw [upd_ne pD]; exact p6)
    · rintro i x σ H' hx ⟨o7, rfl, rfl⟩
      rw [List.getElem?_map] at hx
      obtain ⟨j, hj, rfl⟩ := Option.map_eq_some_iff.mp hx
      have jm : j < ws.length := iord_lt j (List.mem_of_mem_take (List.mem_of_getElem? hj))
      have jl : j < ((((ordZ z ws).take (leftZ z ws).toNat).take i).foldl bump (lowsZ z ws ws.sum)).length := by rw [bumps_len, lw]; exact jm
      refine ⟨_, rfl, _, rfl, D, _, _, _, rfl, rfl, SqL.of upd_same, atI_int jl, _, _, rfl, rfl, _, rfl, _, rfl, D, _, _, j, rfl, rfl, upd_same, ixN_int (by rw [List.length_map]; exact jl), _, rfl, ?_⟩
      rw [upd_upd, List.take_add_one, hj, Option.toList_some, List.foldl_append, List.foldl_cons, List.foldl_nil]
      unfold bump
      rw [List.map_set]
    · rintro σ H' ⟨o7, rfl, rfl⟩
      have e : ((ordZ z ws).take (leftZ z ws).toNat).take (((ordZ z ws).take (leftZ z ws).toNat).map fun i => V.int (i : Nat)).length = (ordZ z ws).take (leftZ z ws).toNat := by rw [List.length_map, List.take_length]
      have hD0 : H D = none := by
        cases y : H D with
        | none => rfl
        | some o => rw [s1 _ _ y] at hD; cases hD
      refine ⟨_, rfl, q D _ (fun b o nb y => ?_) (lamTab_put d6 (lamTab_same S6 T4)) hD0 ?_⟩
      · rw [upd_ne (fun t => by rw [t, hD0] at y; cases y)]
        exact S6 _ _ (nx _ _ nb (S3 _ _ y))
      · rw [upd_same, e]
        rfl
end
end K02
set_option Elab.async false
set_option linter.all false
set_option maxRecDepth 100000
set_option maxHeartbeats 1000000
namespace K02
open PySem L2
seal PE PA PT PW PS PSs PG PGs PI PIf PO PK
section
variable {P : Program} {w : World} {K : PySem.W.Frag} {mg : Str → Option Value} {base : Heap} {f : Addr} {fd : FuncData} {cA cS : Addr} {d : Nat → Addr} {cR : Addr}
def sp_cell (K : PySem.W.Frag) : Sp := fun vs H Q _ => ∃ a k ns, vs = [.ref a, .int k] ∧ SqL K H a (ns.map V.int) ∧ 0 ≤ k ∧ Q (.int (cellZ ns k)) H
def sp_mixed (K : PySem.W.Frag) : Sp := fun vs H Q _ => ∃ a k ns, vs = [.ref a, .int k] ∧ SqL K H a (ns.map V.int) ∧ 0 ≤ k ∧ k ≤ 1000 ∧ Q (.int (mixZ ns k)) H
def sp_whole : Sp := fun vs H Q _ => ∃ z, vs = [.int z] ∧ Q (.bl true) H
def sp_amount : Sp := fun vs H Q _ => ∃ n, vs = [.int n] ∧ 0 ≤ n ∧ n < 2147483648 ∧ ∀ z H', Same H H' → Q (.int z) H'

structure Kds (mg : Str → Option Value) (d : Nat → Addr) : Prop where
  g0 : mg "BadAmount" = some (.ref (d 0))
  g1 : mg "BadShare" = some (.ref (d 1))
  g2 : mg "BadText" = some (.ref (d 2))
  g3 : mg "BadMonth" = some (.ref (d 3))
  g4 : mg "BadYear" = some (.ref (d 4))
  g5 : mg "BadRule" = some (.ref (d 5))
  g6 : mg "BadBook" = some (.ref (d 6))
  g7 : mg "NoYear" = some (.ref (d 7))
  g8 : mg "BadDay" = some (.ref (d 8))
  g9 : mg "BadEntry" = some (.ref (d 9))
  g10 : mg "NoMark" = some (.ref (d 10))
  g11 : mg "NoPerson" = some (.ref (d 11))
  g12 : mg "TooMany" = some (.ref (d 12))
  g13 : mg "BadClose" = some (.ref (d 13))
  g14 : mg "BadLine" = some (.ref (d 14))

structure KdOf (K : PySem.W.Frag) (d : Nat → Addr) (C : Addr) (i : Nat) : Prop where
  cls : XK.ExcCls K C
  ve : PySem.W.kitOne K (.ref C) (.type "ValueError") = some true
  k0 : PySem.W.kitOne K (.ref C) (.ref (d 0)) = some (decide (i = 0))
  k1 : PySem.W.kitOne K (.ref C) (.ref (d 1)) = some (decide (i = 1))
  k2 : PySem.W.kitOne K (.ref C) (.ref (d 2)) = some (decide (i = 2))
  k3 : PySem.W.kitOne K (.ref C) (.ref (d 3)) = some (decide (i = 3))
  k4 : PySem.W.kitOne K (.ref C) (.ref (d 4)) = some (decide (i = 4))
  k5 : PySem.W.kitOne K (.ref C) (.ref (d 5)) = some (decide (i = 5))
  k6 : PySem.W.kitOne K (.ref C) (.ref (d 6)) = some (decide (i = 6))
  k7 : PySem.W.kitOne K (.ref C) (.ref (d 7)) = some (decide (i = 7))
  k8 : PySem.W.kitOne K (.ref C) (.ref (d 8)) = some (decide (i = 8))
  k9 : PySem.W.kitOne K (.ref C) (.ref (d 9)) = some (decide (i = 9))
  k10 : PySem.W.kitOne K (.ref C) (.ref (d 10)) = some (decide (i = 10))
  k11 : PySem.W.kitOne K (.ref C) (.ref (d 11)) = some (decide (i = 11))
  k12 : PySem.W.kitOne K (.ref C) (.ref (d 12)) = some (decide (i = 12))
  k13 : PySem.W.kitOne K (.ref C) (.ref (d 13)) = some (decide (i = 13))
  k14 : PySem.W.kitOne K (.ref C) (.ref (d 14)) = some (decide (i = 14))
def kPairs (i : Nat) : List (Str × Bool) := [("amount", decide (i = 0)), ("share", decide (i = 1)), ("text", decide (i = 2)), ("month", decide (i = 3)), ("year", decide (i = 4)), ("rule", decide (i = 5)), ("book", decide (i = 6)), ("noyear", decide (i = 7)), ("day", decide (i = 8)), ("entry", decide (i = 9)), ("nomark", decide (i = 10)), ("noperson", decide (i = 11)), ("many", decide (i = 12)), ("close", decide (i = 13)), ("line", decide (i = 14))]
def kWord (i : Nat) : List V := ((kPairs i).filter (·.2)).map (fun p => V.str p.1) ++ [.str "value"]
def sp_kind (K : PySem.W.Frag) (d : Nat → Addr) : Sp := fun vs H Q _ => ∃ ea C i, vs = [.ref ea] ∧ Held K H ea C ∧ KdOf K d C i ∧ ∀ l H', Same H H' → H' l = some (.lst (kWord i)) → Q (.ref l) H'
structure Roll (K : PySem.W.Frag) (mg : Str → Option Value) (d : Nat → Addr) (cR : Addr) : Prop where
  mgR : mg "RollError" = some (.ref cR)
  exA : PySem.W.exmOne K (.ref (d 0)) (.ref cR) = some true
  exS : PySem.W.exmOne K (.ref (d 1)) (.ref cR) = some true
  kA : KdOf K d (d 0) 0
  kS : KdOf K d (d 1) 1
theorem eq_word0 : eqVs (kWord 0) [.str "amount", .str "value"] = true := by decide +kernel
theorem eq_word1 : eqVs (kWord 1) [.str "share", .str "value"] = true := by decide +kernel
theorem dInt {a b : Int} : (decide (V.int a = V.int b) = true) ↔ a = b := by rw [decide_eq_true_iff]; exact ⟨fun h => V.int.inj h, fun h => congrArg V.int h⟩
def Good (H : Hp) (u : V) (T : Addr) (ws : List Int) : Prop := ∃ a, u = .ref a ∧ H a = some (.lst (ws.map V.int)) ∧ GoodW ws ∧ LamTab H T lpos lqual
def Refd (K : PySem.W.Frag) (H : Hp) (v u : V) (i : Nat) : Prop := (i = 0 ∧ NoNum K H v) ∨ (i = 1 ∧ ∃ z, v = .int z ∧ BadW K H u)
def sp_tried (K : PySem.W.Frag) (T : Addr) : Sp := fun vs H Q _ => ∃ v u, vs = [v, u] ∧ ((∃ i, Refd K H v u i ∧ ∀ l H', Same H H' → H' l = some (.lst (kWord i)) → Q (.ref l) H') ∨
  ∃ z ws, v = .int z ∧ Good H u T ws ∧ ∀ l H', LamNext H H' T → LamTab H' T lpos lqual → H l = none → H' l = some (.lst ((splitZ z ws).map V.int)) → Q (.ref l) H')
end
end K02
set_option Elab.async false
set_option linter.all false
set_option maxRecDepth 100000
set_option maxHeartbeats 1000000
namespace K02
open PySem L2
seal PE PA PT PW PS PSs PG PGs PI PIf PO PK
section
variable {P : Program} {w : World} {K : PySem.W.Frag} {mg : Str → Option Value} {base : Heap} {f : Addr} {fd : FuncData} {cA cS : Addr} {d : Nat → Addr} {cR : Addr}
local macro_rules | `(tactic| walk_at "sc") => `(tactic| exact ⟨rfl, rfl, rfl, by decide +kernel, rfl, by decide +kernel, by decide +kernel⟩)
theorem ok_cell (F : Fun K "_law_cell" "_law_cell" (top 26) f fd) (G : Glb mg) : FnOk P w K mg base CX0 1 f fd ["_law_script", "_law_k"] (sp_cell K) := by
  refine F.ok (N := ["_law_script", "_law_k"]) (by walk_at "sc") (fun vs H Q E h => ?_) (fun cdv A outer s H vs Q E hr h => ?_)
  · obtain ⟨a, k, ns, rfl, _⟩ := h
    rfl
  · obtain ⟨a, k, ns, rfl, hs, hk, q⟩ := h
    refine ⟨_, (pss_cons (ps_if (pt_cmpR op_lt (pv 1) (pe_callB call_len_seq rfl G.len PySem.boot_len (pa_cons (pv 0) pa_nil)) (nomark _)) (pss_one (ps_ret (pe_at ix_list (pv 0) (pv 1)))) pss_nil)
        (pss_one (ps_ret pe_int))), ?_⟩
    refine ⟨_, rfl, _, rfl, a, _, rfl, .inl hs, _, _, rfl, rfl, _, rfl, ite2 (fun e => ?_) (fun e => ?_)⟩
    · exact ⟨_, rfl, _, rfl, a, _, _, _, rfl, rfl, hs, cell_at hk (of_decide_eq_true e), q⟩
    · rw [cell_out fun c => e (decide_eq_true c)] at q
      exact q

end
end K02
set_option Elab.async false
set_option linter.all false
set_option maxRecDepth 100000
set_option maxHeartbeats 1000000
namespace K02
open PySem L2
seal PE PA PT PW PS PSs PG PGs PI PIf PO PK
section
variable {P : Program} {w : World} {K : PySem.W.Frag} {mg : Str → Option Value} {base : Heap} {f : Addr} {fd : FuncData} {cA cS : Addr} {d : Nat → Addr} {cR : Addr}
local macro_rules | `(tactic| walk_at "sc") => `(tactic| exact ⟨rfl, rfl, rfl, by decide +kernel, rfl, by decide +kernel, by decide +kernel⟩)
theorem ok_mixed (F : Fun K "_law_mixed" "_law_mixed" (top 27) f fd) (C1 : Cal P w K mg base CX0 1 "_law_cell" ["_law_script", "_law_k"] (sp_cell K)) : FnOk P w K mg base CX0 2 f fd ["_law_script", "_law_k"] (sp_mixed K) := by
  refine F.ok (N := ["_law_script", "_law_k"]) (by walk_at "sc") (fun vs H Q E h => ?_) (fun cdv A outer s H vs Q E hr h => ?_)
  · obtain ⟨a, k, ns, rfl, _⟩ := h
    rfl
  · obtain ⟨a, k, ns, rfl, hs, hk, hk2, q⟩ := h
    refine ⟨_, (pss_one (ps_ret (pe_op op_mod (pe_op op_mul (pe_op op_mod (pe_op op_add (pe_op op_add (pe_op op_mul (pe_cal C1 hr (by decide) pass0 (pa_cons (pv 0) (pa_cons (pv 1) pa_nil))) pe_int) (pe_op op_mul (pe_op op_mul (pe_op op_mul pe_int (pv 1)) (pv 1)) (pv 1))) pe_int) pe_int) pe_int) pe_int))), ?_⟩
    refine ⟨_, rfl, _, rfl, a, k, ns, rfl, hs, hk, _, _, rfl, rfl, .inr ⟨by omega, by omega⟩, ?_⟩
    refine ⟨_, rfl, _, _, rfl, rfl, .inr ⟨by omega, by omega⟩, _, rfl, _, _, rfl, rfl, .inr ⟨by omega, by omega⟩, _, rfl, _, _, rfl, rfl, .inr ⟨by omega, by omega⟩, ?_⟩
    refine ⟨_, _, rfl, rfl, _, _, rfl, rfl, _, _, rfl, rfl, (by show (0 : Int) < 2147483647; decide), _, _, rfl, rfl, .inr ⟨by omega, by omega⟩, _, _, rfl, rfl, (by show (0 : Int) < 2147483629; decide), q⟩

end
end K02
set_option Elab.async false
set_option linter.all false
set_option maxRecDepth 100000
set_option maxHeartbeats 1000000
namespace K02
open PySem L2
seal PE PA PT PW PS PSs PG PGs PI PIf PO PK
section
variable {P : Program} {w : World} {K : PySem.W.Frag} {mg : Str → Option Value} {base : Heap} {f : Addr} {fd : FuncData} {cA cS : Addr} {d : Nat → Addr} {cR : Addr}
local macro_rules | `(tactic| walk_at "sc") => `(tactic| exact ⟨rfl, rfl, rfl, by decide +kernel, rfl, by decide +kernel, by decide +kernel⟩)
theorem ok_whole (F : Fun K "_law_whole" "_law_whole" (top 28) f fd) (G : Glb mg) : FnOk P w K mg base CX0 1 f fd ["_law_found"] sp_whole := by
  refine F.ok (N := ["_law_found"]) (by walk_at "sc") (fun vs H Q E h => ?_) (fun cdv A outer s H vs Q E hr h => ?_)
  · obtain ⟨v, rfl, _⟩ := h
    rfl
  · obtain ⟨z, rfl, q⟩ := h
    refine ⟨_, pss_one (ps_ret (pe_and (pe_callB call_isinst rfl G.isinstance boot_isinstance (pa_cons (pv 0) (pa_cons (pe_bltn (v := .ty "int") rfl G.int boot_int rfl) pa_nil)))
      (pe_one (pe_not (pe_callB call_isinst rfl G.isinstance boot_isinstance (pa_cons (pv 0) (pa_cons (pe_bltn (v := .ty "bool") rfl G.bool boot_bool rfl) pa_nil))))))), ?_⟩
    refine ⟨_, rfl, _, _, _, _, true, rfl, rfl, .inl (.int z), rfl, true, rfl, iteT ?_⟩
    exact ⟨_, rfl, _, _, _, _, false, rfl, rfl, .inl (.int z), rfl, false, rfl, q⟩

end
end K02
set_option Elab.async false
set_option linter.all false
set_option maxRecDepth 100000
set_option maxHeartbeats 1000000
namespace K02
open PySem L2
seal PE PA PT PW PS PSs PG PGs PI PIf PO PK
section
variable {P : Program} {w : World} {K : PySem.W.Frag} {mg : Str → Option Value} {base : Heap} {f : Addr} {fd : FuncData} {cA cS T : Addr} {d : Nat → Addr} {cR : Addr}
local macro_rules | `(tactic| walk_at "sc") => `(tactic| exact ⟨rfl, rfl, rfl, by decide +kernel, rfl, by decide +kernel, by decide +kernel⟩)
theorem ok_amount (F : Fun K "_law_amount" "_law_amount" (top 29) f fd) : FnOk P w K mg base CX0 1 f fd ["_law_number"] sp_amount := by
  have nd : (["_law_number", "_law_sign", "_law_more"] : List Str).Nodup := by decide +kernel
  refine F.ok (N := ["_law_number", "_law_sign", "_law_more"]) (by walk_at "sc") (fun vs H Q E h => ?_) (fun cdv A outer s H vs Q E hr h => ?_)
  · obtain ⟨v, rfl, _⟩ := h
    rfl
  · obtain ⟨n, rfl, h0, h1, q⟩ := h
    refine ⟨_, (pss_cons (ps_set (i := 1) nd rfl (Or.inl rfl) (pe_at ix_list (pe_lstS (pa_cons pe_int (pa_cons (pe_un un_neg pe_int) pa_nil))) (pe_op op_mod (pv 0) pe_int)))
        (pss_cons (ps_set (i := 2) nd rfl (Or.inl rfl) (pe_op op_fdiv (pv 0) pe_int))
        (pss_cons (ps_if (pt_cmpR op_eq (pe_op op_mod (pe_op op_fdiv (pv 0) pe_int) pe_int) pe_int (nomark _)) (pss_one (ps_ret (pe_op op_mul (pe_op op_mul (pe_op op_mul (pv 1) (pv 2)) (pv 2)) (pe_op op_add pe_int (pe_op op_mod (pv 2) pe_int))))) pss_nil)
        (pss_one (ps_ret (pe_op op_mul (pv 1) (pe_op op_mod (pv 2) (pe_at ix_list (pe_lstS (pa_cons pe_int (pa_cons pe_int (pa_cons (pe_op op_pow pe_int pe_int) (pa_cons pe_int pa_nil))))) (pe_op op_sub (pe_op op_mod (pe_op op_fdiv (pv 0) pe_int) pe_int) pe_int))))))))), ?_⟩
    refine ⟨_, rfl, lenOk rfl, fun p H1 s1 n1 f1 => ?_⟩
    obtain ⟨v, ev, mv⟩ := at_any (xs := [V.int 1, V.int (-1)]) (i := n % 2) (by omega) (by show _ < ((2 : Nat) : Int); omega)
    obtain ⟨sg, rfl, g1, g2⟩ : ∃ sg, v = .int sg ∧ -1 ≤ sg ∧ sg ≤ 1 := by
      simp only [List.mem_cons, List.not_mem_nil, or_false] at mv
      rcases mv with rfl | rfl
      · exact ⟨1, rfl, by decide, by decide⟩
      · exact ⟨-1, rfl, by decide, by decide⟩
    refine ⟨_, rfl, _, _, rfl, rfl, (by show (0 : Int) < 2; decide), p, _, _, _, rfl, rfl, SqL.of f1, ev, ?_⟩
    refine ⟨_, rfl, _, _, rfl, rfl, ⟨by decide, by decide⟩, ?_⟩
    refine ⟨_, rfl, _, _, rfl, rfl, ⟨by decide, by decide⟩, _, _, rfl, rfl, (by show (0 : Int) < 5; decide), rfl, _, rfl, ite2 (fun e => ?_) (fun e => ?_)⟩
    · refine ⟨_, rfl, _, rfl, _, _, rfl, rfl, .inl ⟨by omega, by omega⟩, _, rfl, _, _, rfl, rfl, .inr ⟨by omega, by omega⟩, ?_⟩
      exact ⟨_, rfl, _, _, rfl, rfl, (by show (0 : Int) < 1000003; decide), _, _, rfl, rfl, _, _, rfl, rfl, .inr ⟨by omega, by omega⟩, q _ _ s1⟩
    have e' : ¬ n / 2 % 5 = 0 := fun c => e (dInt.mpr c)
    refine ⟨_, rfl, _, rfl, _, _, rfl, rfl, ⟨by decide, by decide, by decide⟩, lenOk rfl, fun p2 H2 s2 n2 f2 => ?_⟩
    obtain ⟨v3, ev3, mv3⟩ := at_any (xs := [V.int 30, V.int 1000, V.int (10 ^ (9 : Int).toNat), V.int 7]) (i := n / 2 % 5 - 1) (by omega) (by show _ < ((4 : Nat) : Int); omega)
    obtain ⟨m, rfl, hm⟩ : ∃ m, v3 = .int m ∧ 0 < m := by
      simp only [List.mem_cons, List.not_mem_nil, or_false] at mv3
      rcases mv3 with rfl | rfl | rfl | rfl <;> exact ⟨_, rfl, by decide⟩
    refine ⟨_, rfl, _, _, rfl, rfl, ⟨by decide, by decide⟩, _, _, rfl, rfl, (by show (0 : Int) < 5; decide), _, _, rfl, rfl, p2, _, _, _, rfl, rfl, SqL.of f2, ev3, ?_⟩
    exact ⟨_, _, rfl, rfl, hm, _, _, rfl, rfl, .inl ⟨by omega, by omega⟩, q _ _ (s1.trans s2)⟩
end
end K02
set_option Elab.async false
set_option linter.all false
set_option maxRecDepth 100000
set_option maxHeartbeats 1000000
namespace K02
open PySem L2
seal PE PA PT PW PS PSs PG PGs PI PIf PO PK
section
variable {P : Program} {w : World} {K : PySem.W.Frag} {mg : Str → Option Value} {base : Heap} {f : Addr} {fd : FuncData} {cA cS T : Addr} {d : Nat → Addr} {cR : Addr}
local macro_rules | `(tactic| walk_at "sc") => `(tactic| exact ⟨rfl, rfl, rfl, by decide +kernel, rfl, by decide +kernel, by decide +kernel⟩)
theorem same_put {H H' : Hp} {l : Addr} {o : HO} (s : Same H H') (h : H l = none) : Same H (upd H' l o) := fun b u e => by
  rw [upd_ne (ne_of_none e h)]
  exact s _ _ e
def sp_weights (K : PySem.W.Frag) : Sp := fun vs H Q _ => ∃ a, ∃ ns : List Int, vs = [.ref a] ∧ SqL K H a (ns.map V.int) ∧ ∀ l H', ∀ ws : List Int, Same H H' → H l = none → H' l = some (.lst (ws.map V.int)) → GoodW ws → Q (.ref l) H'
theorem sum_nn : ∀ {ws : List Int}, (∀ x ∈ ws, 0 ≤ x ∧ x ≤ 1000000000) → 0 ≤ ws.sum
  | [], _ => by simp
  | x :: ws, h => by
    have h1 := h x List.mem_cons_self
    have h2 := sum_nn (ws := ws) fun y hy => h y (List.mem_cons_of_mem _ hy)
    rw [List.sum_cons]
    omega
theorem sum_set : ∀ {ws : List Int} {j : Nat} {y : Int}, (∀ x ∈ ws, 0 ≤ x ∧ x ≤ 1000000000) → j < ws.length → 0 < y → 0 < (ws.set j y).sum
  | [], _, _, _, h, _ => by simp at h
  | x :: ws, 0, y, h, _, hy => by
    have := sum_nn (ws := ws) fun y hy => h y (List.mem_cons_of_mem _ hy)
    rw [List.set_cons_zero, List.sum_cons]
    omega
  | x :: ws, j + 1, y, h, hj, hy => by
    have h1 := h x List.mem_cons_self
    have h2 := sum_set (ws := ws) (j := j) (y := y) (fun y hy => h y (List.mem_cons_of_mem _ hy)) (by simpa using hj) hy
    rw [List.set_cons_succ, List.sum_cons]
    omega
theorem all_snoc {ws : List Int} {y : Int} (h : ∀ x ∈ ws, 0 ≤ x ∧ x ≤ 1000000000) (h0 : 0 ≤ y) (h1 : y ≤ 1000000000) : ∀ x ∈ ws ++ [y], 0 ≤ x ∧ x ≤ 1000000000 := fun x hx => by
  rcases List.mem_append.mp hx with q | q
  · exact h x q
  · rw [List.mem_singleton.mp q]; exact ⟨h0, h1⟩
set_option hygiene false in
local macro_rules | `(tactic| walk_at "wblock") => `(tactic| (
      have S2 : Same H H2 := s1.trans s2
      have n0 : H l = none := by
        cases y : H l with
        | none => rfl
        | some o => rw [s1 _ _ y] at n2; cases n2
      refine ⟨_, rfl, many, rfl, by omega, by omega, for_range (n := many.toNat) (fun i σ H' => ∃ o4 o5 o6, ∃ ws : List Int, σ = [some (.ref a), some (.int (mixZ ns 1)), some (.int many), some (.ref l), o4, o5, o6] ∧ ws.length = i ∧ (∀ x ∈ ws, 0 ≤ x ∧ x ≤ 1000000000) ∧ H' l = some (.lst (ws.map V.int)) ∧ Same H H') ⟨_, _, _, [], rfl, rfl, (fun x hx => absurd hx (by simp)), f2, S2⟩ ?_ ?_⟩
      · rintro i σ H3 hi ⟨o4, o5, o6, ws, rfl, hl, hw, h3, s3⟩
        have k0 := mixZ_nn ns (2 + (0 + (i : Nat) : Int))
        have len3 : (ws.map V.int).length < sizeLine := by rw [List.length_map, sizeLine_eq]; omega
        have fin : ∀ (y : Int) (H4 : Hp) (o4 o5 o6 : Option V), H4 l = some (.lst (ws.map V.int)) → Same H H4 → 0 ≤ y → y ≤ 1000000000 → ∃ p4 p5 p6, ∃ us : List Int, [some (.ref a), some (.int (mixZ ns 1)), some (.int many), some (.ref l), o4, o5, o6] = [some (.ref a), some (.int (mixZ ns 1)), some (.int many), some (.ref l), p4, p5, p6] ∧ us.length = i + 1 ∧ (∀ x ∈ us, 0 ≤ x ∧ x ≤ 1000000000) ∧ (upd H4 l (.lst (ws.map V.int ++ [.int y]))) l = some (.lst (us.map V.int)) ∧ Same H (upd H4 l (.lst (ws.map V.int ++ [.int y]))) := fun y H4 o4 o5 o6 h4 s4 y0 y1 =>
          ⟨o4, o5, o6, ws ++ [y], rfl, by rw [List.length_append, hl]; rfl, all_snoc hw y0 y1, by rw [upd_same, List.map_append]; rfl, same_put s4 n0⟩
        refine ⟨_, rfl, _, rfl, _, _, rfl, rfl, a, _, ns, rfl, s3.seq hs, by omega, by omega, ?_⟩
        refine ⟨_, rfl, _, _, rfl, rfl, (by show (0 : Int) < 4; decide), ?_⟩
        refine ⟨_, rfl, rfl, _, rfl, ite2 (fun e0 => ?_) (fun e0 => ?_)⟩
        · refine ⟨_, rfl, .inl ⟨rfl, _, SqL.of h3⟩, _, rfl, _, _, rfl, rfl, ⟨by decide, by decide⟩, _, _, rfl, rfl, (by show (0 : Int) < 3; decide), l, _, _, rfl, rfl, h3, len3, fin _ _ _ _ _ h3 s3 (by omega) (by omega)⟩
        refine ⟨_, rfl, rfl, _, rfl, ite2 (fun e1 => ?_) (fun e1 => ?_)⟩
        · refine ⟨_, rfl, .inl ⟨rfl, _, SqL.of h3⟩, _, rfl, _, _, rfl, rfl, ⟨by decide, by decide⟩, _, _, rfl, rfl, (by show (0 : Int) < 10; decide), l, _, _, rfl, rfl, h3, len3, fin _ _ _ _ _ h3 s3 (by omega) (by omega)⟩
        refine ⟨_, rfl, rfl, _, rfl, ite2 (fun e2 => ?_) (fun e2 => ?_)⟩
        · refine ⟨_, rfl, .inl ⟨rfl, _, SqL.of h3⟩, _, _, rfl, rfl, ⟨by decide, by decide, by decide⟩, _, _, rfl, rfl, ⟨by decide, by decide, by decide⟩, _, _, rfl, rfl, lenOk rfl, fun p4 H4 s4 n4 f4 => ?_⟩
          obtain ⟨v4, ev4, mv4⟩ := at_any (xs := [V.int 0, V.int (10 ^ (9 : Int).toNat), V.int (10 ^ (9 : Int).toNat - 1), V.int 1]) (i := mixZ ns (2 + (0 + (i : Nat) : Int)) / 4 % 4) (by omega) (by show _ < ((4 : Nat) : Int); omega)
          obtain ⟨y, rfl, y0, y1⟩ : ∃ y, v4 = .int y ∧ 0 ≤ y ∧ y ≤ 1000000000 := by
            simp only [List.mem_cons, List.not_mem_nil, or_false] at mv4
            rcases mv4 with rfl | rfl | rfl | rfl <;> exact ⟨_, rfl, by decide, by decide⟩
          exact ⟨_, rfl, _, _, rfl, rfl, ⟨by decide, by decide⟩, _, _, rfl, rfl, (by show (0 : Int) < 4; decide), p4, _, _, _, rfl, rfl, SqL.of f4, ev4, l, _, _, rfl, rfl, s4 _ _ h3, len3, fin _ _ _ _ _ (s4 _ _ h3) (s3.trans s4) y0 y1⟩
        · have b9 : (10 : Int) ^ (9 : Int).toNat + 1 = 1000000001 := by decide
          refine ⟨_, rfl, .inl ⟨rfl, _, SqL.of h3⟩, _, rfl, _, _, rfl, rfl, ⟨by decide, by decide⟩, _, _, rfl, rfl, ⟨by decide, by decide, by decide⟩, _, _, rfl, rfl, _, _, rfl, rfl, (by show (0 : Int) < 10 ^ (9 : Int).toNat + 1; decide), l, _, _, rfl, rfl, h3, len3, fin _ _ _ _ _ h3 s3 ?_ ?_⟩
          · rw [b9]; omega
          · rw [b9]; omega
      · rintro σ H3 ⟨o4, o5, o6, ws, rfl, hl, hw, h3, s3⟩
        refine ⟨_, rfl, l, ws, rfl, SqL.of h3, rfl, _, rfl, ite2 (fun e0 => ?_) (fun e0 => ?_)⟩
        · have jl : (mixZ ns 1 / 3200 % many).toNat < ws.length := by
            have h1 := Int.emod_lt_of_pos (mixZ ns 1 / 3200) (show 0 < many by omega)
            have h2 := Int.emod_nonneg (mixZ ns 1 / 3200) (show many ≠ 0 by omega)
            omega
          have je : ((mixZ ns 1 / 3200 % many).toNat : Int) = mixZ ns 1 / 3200 % many := Int.toNat_of_nonneg (Int.emod_nonneg _ (by omega))
          refine ⟨_, rfl, _, _, rfl, rfl, ⟨by decide, by decide⟩, _, _, rfl, rfl, (by show (0 : Int) < 9; decide), _, _, rfl, rfl, _, rfl, _, rfl, _, _, rfl, rfl, ⟨by decide, by decide⟩, _, rfl, _, _, rfl, rfl, (by show 0 < many; omega), l, _, _, (mixZ ns 1 / 3200 % many).toNat, rfl, rfl, h3, by rw [← je]; exact ixN_int (by rw [List.length_map]; exact jl), _, rfl, ?_⟩
          refine q l _ (ws.set (mixZ ns 1 / 3200 % many).toNat (1 + mixZ ns 1 / 7 % 9)) (same_put s3 n0) n0 (by rw [upd_same, List.map_set]) ⟨by rw [List.length_set]; omega, fun x hx => ?_, sum_set hw jl (by omega)⟩
          rcases List.mem_or_eq_of_mem_set hx with hx | rfl
          · exact hw x hx
          · omega
        · have e0' : ¬ ws.sum = 0 := fun c => e0 (dInt.mpr c)
          have := sum_nn hw
          exact ⟨_, rfl, q l _ ws s3 n0 h3 ⟨by omega, hw, by omega⟩⟩))
theorem ok_weights (F : Fun K "_law_weights" "_law_weights" (top 30) f fd) (G : Glb mg) (Cm : Cal P w K mg base CX0 2 "_law_mixed" ["_law_script", "_law_k"] (sp_mixed K)) : FnOk P w K mg base CX0 3 f fd ["_law_script"] (sp_weights K) := by
  have nd : (["_law_script", "_law_number", "_law_many", "_law_found", "_law_k", "_law_more", "_law_way"] : List Str).Nodup := by decide +kernel
  refine F.ok (N := ["_law_script", "_law_number", "_law_many", "_law_found", "_law_k", "_law_more", "_law_way"]) (by walk_at "sc") (fun vs H Q E h => ?_) (fun cdv A outer s H vs Q E hr h => ?_)
  · obtain ⟨a, ns, rfl, _⟩ := h
    rfl
  · obtain ⟨a, ns, rfl, hs, q⟩ := h
    refine ⟨_, (pss_cons (ps_set (i := 1) nd rfl (Or.inl rfl) (pe_cal Cm hr (by decide) pass0 (pa_cons (pv 0) (pa_cons pe_int pa_nil))))
        (pss_cons (ps_set (i := 2) nd rfl (Or.inl rfl) (pe_op op_add pe_int (pe_op op_mod (pv 1) pe_int)))
        (pss_cons (ps_if (pt_cmpR op_eq (pe_op op_mod (pe_op op_fdiv (pv 1) pe_int) pe_int) pe_int (nomark _)) (pss_one (ps_set (i := 2) nd rfl (Or.inl rfl) (pe_at ix_list (pe_lstS (pa_cons (pe_op op_add pe_int (pe_op op_mod (pe_op op_fdiv (pv 1) pe_int) pe_int)) (pa_cons pe_int (pa_cons pe_int pa_nil)))) (pe_op op_mod (pe_op op_fdiv (pv 1) pe_int) pe_int)))) pss_nil)
        (pss_cons (ps_set (i := 3) nd rfl (Or.inl rfl) (pe_lstS pa_nil))
        (pss_cons (ps_for PassesOwn.never rfl (pi_range1 rfl G.range (pa_cons (pv 2) pa_nil)) (pg_name (i := 4) nd rfl (Or.inl rfl)) (pss_cons (ps_set (i := 5) nd rfl (Or.inl rfl) (pe_cal Cm hr (by decide) pass0 (pa_cons (pv 0) (pa_cons (pe_op op_add pe_int (pv 4)) pa_nil))))
        (pss_cons (ps_set (i := 6) nd rfl (Or.inl rfl) (pe_op op_mod (pv 5) pe_int))
        (pss_one (ps_if (pt_cmpR op_eq (pv 6) pe_int (nomark _)) (pss_one (ps_expr (pe_bm PySem.F.plainAttrs_list PySem.F.slot_list_append PySem.F.type_list_append mt_append (pv 3) (pa_cons (pe_op op_mod (pe_op op_fdiv (pv 5) pe_int) pe_int) pa_nil)))) (pss_one (ps_if (pt_cmpR op_eq (pv 6) pe_int (nomark _)) (pss_one (ps_expr (pe_bm PySem.F.plainAttrs_list PySem.F.slot_list_append PySem.F.type_list_append mt_append (pv 3) (pa_cons (pe_op op_mod (pe_op op_fdiv (pv 5) pe_int) pe_int) pa_nil)))) (pss_one (ps_if (pt_cmpR op_eq (pv 6) pe_int (nomark _)) (pss_one (ps_expr (pe_bm PySem.F.plainAttrs_list PySem.F.slot_list_append PySem.F.type_list_append mt_append (pv 3) (pa_cons (pe_at ix_list (pe_lstS (pa_cons pe_int (pa_cons (pe_op op_pow pe_int pe_int) (pa_cons (pe_op op_sub (pe_op op_pow pe_int pe_int) pe_int) (pa_cons pe_int pa_nil))))) (pe_op op_mod (pe_op op_fdiv (pv 5) pe_int) pe_int)) pa_nil)))) (pss_one (ps_expr (pe_bm PySem.F.plainAttrs_list PySem.F.slot_list_append PySem.F.type_list_append mt_append (pv 3) (pa_cons (pe_op op_mod (pe_op op_fdiv (pv 5) pe_int) (pe_op op_add (pe_op op_pow pe_int pe_int) pe_int)) pa_nil)))))))))))))
        (pss_cons (ps_if (pt_cmpR op_eq (pe_callB (call_sumL rfl) rfl G.sum boot_sum (pa_cons (pv 3) pa_nil)) pe_int (nomark _)) (pss_one (ps_asg (pe_op op_add pe_int (pe_op op_mod (pe_op op_fdiv (pv 1) pe_int) pe_int)) (pg_sub (pv 3) (pe_op op_mod (pe_op op_fdiv (pv 1) pe_int) (pv 2)) set_list))) pss_nil)
        (pss_one (ps_ret (pv 3))))))))), ?_⟩
    have m0 := mixZ_nn ns 1
    refine ⟨_, rfl, a, 1, ns, rfl, hs, by decide, by decide, ?_⟩
    refine ⟨_, rfl, _, _, rfl, rfl, (by show (0 : Int) < 8; decide), _, _, rfl, rfl, ?_⟩
    refine ⟨_, rfl, _, _, rfl, rfl, ⟨by decide, by decide⟩, _, _, rfl, rfl, (by show (0 : Int) < 8; decide), rfl, _, rfl, ite2 (fun e => ?b1) (fun e => ?b2)⟩
    case b1 =>
      refine ⟨_, rfl, _, _, rfl, rfl, ⟨by decide, by decide⟩, _, _, rfl, rfl, (by show (0 : Int) < 50; decide), _, _, rfl, rfl, lenOk rfl, fun p H1 s1 n1 f1 => ?_⟩
      obtain ⟨v, ev, mv⟩ := at_any (xs := [V.int (1 + mixZ ns 1 / 64 % 50), V.int 50, V.int 49]) (i := mixZ ns 1 / 3200 % 3) (by omega) (by show _ < ((3 : Nat) : Int); omega)
      obtain ⟨many, rfl, hm1, hm2⟩ : ∃ many, v = .int many ∧ 1 ≤ many ∧ many ≤ 50 := by
        simp only [List.mem_cons, List.not_mem_nil, or_false] at mv
        rcases mv with rfl | rfl | rfl
        · exact ⟨_, rfl, by omega, by omega⟩
        · exact ⟨_, rfl, by decide, by decide⟩
        · exact ⟨_, rfl, by decide, by decide⟩
      refine ⟨_, rfl, _, _, rfl, rfl, ⟨by decide, by decide⟩, _, _, rfl, rfl, (by show (0 : Int) < 3; decide), p, _, _, _, rfl, rfl, SqL.of f1, ev, ?_⟩
      refine ⟨lenOk rfl, fun l H2 s2 n2 f2 => ?_⟩
      walk_at "wblock"
    case b2 =>
      let many : Int := 1 + mixZ ns 1 % 8
      have hm1 : 1 ≤ many := by show 1 ≤ 1 + mixZ ns 1 % 8; omega
      have hm2 : many ≤ 50 := by show 1 + mixZ ns 1 % 8 ≤ 50; omega
      have s1 : Same H H := Same.refl _
      refine ⟨lenOk rfl, fun l H2 s2 n2 f2 => ?_⟩
      walk_at "wblock"
end
end K02
set_option Elab.async false
set_option linter.all false
set_option maxRecDepth 100000
namespace L2
open PySem PySem.Spec PyProof.Rows

def FnAt (K : PySem.W.Frag) (x : Str) (st : Stmt) : Prop := ∃ f fd, PySem.W.nsIn K mainGlobals x = some (some (.ref f)) ∧ Fun K x x st f fd
section
variable {P : Program} {w : World} {K : PySem.W.Frag} {mg : Str → Option Value} {base : Heap} {x : Str} {st : Stmt} {CX : CXT} {k : Nat} {ps : List Str} {sp : Sp} {h0 : Heap}
theorem fnAt_mk {f : Addr} {oc : Value} {od an : Option Addr} {osl : Array (Option Value)} {kV doc pm cdv ct : Value} (a : PySem.W.nsIn K mainGlobals x = some (some (.ref f)))
    (l : K.lookup f = some ⟨oc, od, .func (PySem.W.fnOf x x (defArgs st) (defBody st) (defScope st) .none kV doc pm an cdv ct), osl⟩) (c : PySem.W.codeIn K cdv x = true) (q : PySem.W.keepIn K (.ref f) = true) : FnAt K x st := ⟨f, _, a, fun_mk l c q⟩
theorem FnAt.cal (h : FnAt K x st) (X : K.In h0) (G : h0.Ns mainGlobals mg)
    (hb : ∀ (kV doc pm : Value) (an : Option Addr) (cdv ct : Value) (us : List Value), us.length = ps.length → bindArgs (PySem.W.fnOf x x (defArgs st) (defBody st) (defScope st) .none kV doc pm an cdv ct) ⟨us, []⟩ = pure (ps.zip us))
    (ok : ∀ f fd, Fun K x x st f fd → FnOk P w K mg base CX k f fd ps sp) : Cal P w K mg base CX k x ps sp := by
  obtain ⟨f, fd, a, F⟩ := h
  exact ⟨f, fd, PySem.W.mg_of X G a, F.kp, F.binds hb, ok f fd F⟩
theorem FnAt.calQ (h : FnAt K x st) (X : K.In h0) (G : h0.Ns mainGlobals mg)
    (hb : ∀ (kV doc pm : Value) (an : Option Addr) (cdv ct : Value) (us : List Value), us.length = ps.length → bindArgs (PySem.W.fnOf x x (defArgs st) (defBody st) (defScope st) .none kV doc pm an cdv ct) ⟨us, []⟩ = pure (ps.zip us))
    (ok : ∀ f fd, Fun K x x st f fd → FnOkQ P w K mg base k f fd ps sp) : CalQ P w K mg base k x ps sp := by
  obtain ⟨f, fd, a, F⟩ := h
  exact ⟨f, fd, PySem.W.mg_of X G a, F.kp, F.binds hb, ok f fd F⟩
end

theorem ulen1 {α : Type} {us : List α} (h : us.length = 1) : ∃ a, us = [a] := by
  match us, h with
  | [a], _ => exact ⟨a, rfl⟩
theorem ulen2 {α : Type} {us : List α} (h : us.length = 2) : ∃ a b, us = [a, b] := by
  match us, h with
  | [a, b], _ => exact ⟨a, b, rfl⟩
theorem ulen3 {α : Type} {us : List α} (h : us.length = 3) : ∃ a b c, us = [a, b, c] := by
  match us, h with
  | [a, b, c], _ => exact ⟨a, b, c, rfl⟩
end L2
set_option Elab.async false
set_option linter.all false
set_option maxRecDepth 100000
namespace L2
open PySem PySem.Spec PyProof.Rows PySem.W

def BMain (mg : Str → Option Value) (base : Heap) : Prop := ∃ bm o, mg "__builtins__" = some (.ref bm) ∧ bm ≠ builtinsNs ∧ bm ≠ mainGlobals ∧ base.get? bm = some o ∧ o.cls = .type "module" ∧ o.dict = some builtinsNs ∧ o.data = .plain

def OnlyT (tabs : List (Addr × Addr)) (H : Hp) : Prop := ∀ b, H b = none ∨ (∃ o xs, H b = some (.frz o (.lst xs))) ∨ ((∃ q ∈ tabs, q.2 = b) ∧ H b = some (.tbl #[]))
theorem law_callT {P : Program} {w : World} {K : Frag} {mg mb : Str → Option Value} {CX : CXT} {k : Nat} {fa a : Addr} {fd : FuncData} {x : Str} {sp : Sp} {s₁ : Shared} {vs : List Value} {ns : List Int} {tabs : List (Addr × Addr)}
    (KX : K.In s₁.heap) (hns : s₁.heap.Ns mainGlobals mg) (hb : s₁.heap.Ns builtinsNs mb) (hbb : ∀ x : Str, x ≠ "__name__" → mb x = bootBuiltins x) (hlim : s₁.heap.NoLimit) (hg : s₁.gens = #[])
    (ha : s₁.heap.get? a = some { cls := .type "list", data := .seq vs.toArray }) (hi : IntsAre vs ns) (hl : ns.length ≤ sizeLine) (hr : Room k callerA)
    (hT : TabsAt tabs s₁.heap) (hB : BMain mg s₁.heap) (hKt : noTabs K = true)
    (F : ∀ base : Heap, K.In base → base.Ns mainGlobals mg → (∀ q ∈ tabs, CodeHd base q.1 q.2) → BMain mg base → FnOk P w K mg base CX k fa fd [x] sp) (hbind : ∀ (s : Shared) (u : Value), BindsTo s fd ⟨[u], []⟩ [(x, u)])
    (hsp : ∀ H : Hp, (∀ q ∈ tabs, H q.2 = some (.tbl #[])) → SqL K H a (ns.map V.int) → sp [.ref a] H (fun v _ => v = .bl true) fun _ _ _ => False)
    (hCX : ∀ H e s', CX [] H s₁ (fun _ _ _ => False) e s' → False) :
    codeAny (model P w) callerA (.call (.ref fa) ⟨[.ref a], []⟩) (fun r s' => r = .ok (.ret (.bool true)) ∧ OldK s₁.heap s'.heap ∧ s'.os = s₁.os ∧ AllBare s'.gens) s₁ := by
  have rv := vals_ints hi
  have lenV := hi.length
  have tabNo : ∀ b, (∃ q ∈ tabs, q.2 = b) → s₁.heap.get? b = some (tabObj #[]) := fun b ⟨q, hq, e⟩ => e ▸ (hT q hq).2
  have core : ∀ H : Hp, OnlyT tabs H → (∀ q ∈ tabs, H q.2 = some (.tbl #[])) → SqL K H a (ns.map V.int) → HOk P w H s₁.heap → (∀ b, H b ≠ none → b = a ∨ ∃ q ∈ tabs, q.2 = b) → (H a ≠ none → K.lookup a = none) →
      codeAny (model P w) callerA (.call (.ref fa) ⟨[.ref a], []⟩) (fun r s' => r = .ok (.ret (.bool true)) ∧ OldK s₁.heap s'.heap ∧ s'.os = s₁.os ∧ AllBare s'.gens) s₁ := by
    intro H hO hO2 hS hok hA hK
    have base_of : ∀ {b : Addr} {o : Obj}, s₁.heap.get? b = some o → H b = none → (hidT s₁.heap H).get? b = some o := fun e n => hidT_get e n
    have nb : ∀ {b : Addr} {o : Obj}, s₁.heap.get? b = some o → b ≠ a → o ≠ tabObj #[] → H b = none := fun {b o} e n1 n2 => by
      cases q : H b with
      | none => rfl
      | some u =>
        rcases hA b (by rw [q]; simp) with e' | e'
        · exact absurd e' n1
        · exact absurd (Option.some.inj (e.symm.trans (tabNo b e'))) n2
    have nA : ∀ {b : Addr} {o : Obj}, s₁.heap.get? b = some o → o.cls ≠ .type "list" → b ≠ a := fun {b o} e n z => by
      rw [z, ha] at e; cases e; exact n rfl
    have nsK : ∀ {b : Addr} {m : Str → Option Value}, s₁.heap.Ns b m → (hidT s₁.heap H).Ns b m := fun {b m} ⟨o, es, ep, e, d, r⟩ => ⟨o, es, ep, base_of e (nb e (fun z => by rw [z, ha] at e; cases e; cases d) fun z => by rw [z] at d; cases d), d, r⟩
    have hKb : K.In (hidT s₁.heap H) := fun b o e => base_of (KX b o e) (by
      cases q : H b with
      | none => rfl
      | some u =>
        rcases hA b (by rw [q]; simp) with e' | e'
        · subst e'
          rw [hK (by rw [q]; simp)] at e; cases e
        · have h1 := KX b o e
          rw [tabNo b e'] at h1
          cases h1
          have h2 := List.all_eq_true.mp hKt (b, _) (mem_of_lookupK e)
          exact absurd (show false = true from h2) Bool.false_ne_true)
    have hM : Mod K mg (hidT s₁.heap H) := ⟨hKb, nsK hns, ⟨mb, nsK hb, hbb⟩, let ⟨mc, h1, h2⟩ := hlim; ⟨mc, nsK h1, h2⟩⟩
    have hCd : ∀ q ∈ tabs, CodeHd (hidT s₁.heap H) q.1 q.2 := fun q hq => by
      obtain ⟨o, vs, file, tf, flags, tg, inF, text, tt, e1, r1, r⟩ := (hT q hq).1
      exact ⟨o, vs, file, tf, flags, tg, inF, text, tt, base_of e1 (nb e1 (nA e1 (by rw [r1]; decide)) (fun z => by rw [z] at r1; cases r1)), r1, r⟩
    have hBm : BMain mg (hidT s₁.heap H) := by
      obtain ⟨bm, o, b1, b2, b3, b4, b5, r⟩ := hB
      exact ⟨bm, o, b1, b2, b3, base_of b4 (nb b4 (nA b4 (by rw [b5]; decide)) (fun z => by rw [z] at b5; cases b5)), b5, r⟩
    have e0 : Env0 P w K mg (hidT s₁.heap H) callerA [] s₁ H := ⟨rfl, hM, fun b o e => of_hidT e, Nat.le_of_eq (hidT_size _ _), trivial, fun b hb => absurd (show b ∈ ([] : List Addr) from hb) (by simp), hok, .of_eq hg⟩
    refine codeAny_mono ((F _ hKb (nsK hns) hCd hBm).run callerA [] s₁ H ⟨[.ref a], []⟩ [.ref a] [.ref a] _ _ hr e0 (hbind s₁ (.ref a)) (.cons rfl .nil) (hsp H hO2 hS)) fun r s' h => ?_
    cases r with
    | error e => exact (hCX H e s' h).elim
    | ok fl =>
      cases fl with
      | next => exact False.elim h
      | brk => exact False.elim h
      | cont => exact False.elim h
      | ret u =>
        obtain ⟨v, H', os, bare, un, hok', r', q⟩ := h
        have q' : v = .bl true := q
        subst q'
        obtain rfl : u = Value.bool true := r'
        have key : ∀ b o, s₁.heap.get? b = some o → (s'.heap.get? b = some o) ∨ ((∃ q ∈ tabs, q.2 = b) ∧ ∃ ps, s'.heap.get? b = some (tabObj ps)) := fun b o e => by
          cases q : H b with
          | none => exact .inl (un.keep b o e q (by intro z; exact absurd (show b ∈ ([] : List Addr) from z) (by simp)) (by simp))
          | some u =>
            rcases hO b with z | ⟨ob, xs, z⟩ | ⟨hq, z⟩
            · rw [q] at z; cases z
            · have z2 := un.frzs b ob _ z
              obtain ⟨e1, _⟩ := hok b _ z
              obtain ⟨e2, _⟩ := hok' b _ z2
              rw [e] at e1; cases e1
              exact .inl e2
            · obtain ⟨more, z2⟩ := un.tbls b _ z
              exact .inr ⟨hq, _, hok' b _ z2⟩
        refine ⟨rfl, ⟨fun b o e => ?_, fun b o e => ?_⟩, os, bare⟩
        · rcases key b o e with z | ⟨⟨q, hq, rfl⟩, ps, z⟩
          · exact .inl z
          · have e2 := (hT q hq).2
            rw [e] at e2
            cases e2
            exact .inr (.inl ⟨((hT q hq).1.tab (hT q hq).2).isCodeTable, rfl, #[], ps, rfl, by rw [Array.empty_append]; exact z⟩)
        · rcases key b o e with z | ⟨_, ps, z⟩
          · exact ⟨_, z⟩
          · exact ⟨_, z⟩
  have aT : ∀ q ∈ tabs, q.2 ≠ a := fun q hq z => by
    have := (hT q hq).2
    rw [z, ha] at this; cases this
  classical
  cases hk : K.lookup a with
  | some o =>
    have e := KX a o hk
    rw [ha] at e
    cases e
    refine core (fun b => if ∃ q ∈ tabs, q.2 = b then some (.tbl #[]) else none) (fun b => ?_) (fun q hq => if_pos ⟨q, hq, rfl⟩) (.inr ⟨_, vs.toArray, _, hk, rfl, rfl, rfl, by rw [List.size_toArray, lenV]; exact hl, by simpa using rv⟩) (fun b u z => ?_) (fun b z => ?_) fun z => ?_
    · by_cases h : ∃ q ∈ tabs, q.2 = b
      · exact .inr (.inr ⟨h, if_pos h⟩)
      · exact .inl (if_neg h)
    · by_cases h : ∃ q ∈ tabs, q.2 = b
      · have z' := (if_pos h).symm.trans z
        cases z'
        exact tabNo b h
      · have z' := (if_neg h).symm.trans z
        cases z'
    · by_cases h : ∃ q ∈ tabs, q.2 = b
      · exact .inr h
      · exact absurd (if_neg h) z
    · refine absurd (if_neg ?_) z
      rintro ⟨q, hq, e⟩
      exact aT q hq e
  | none =>
    refine core (fun b => if b = a then some (.frz { cls := .type "list", data := .seq vs.toArray } (.lst (ns.map V.int))) else if ∃ q ∈ tabs, q.2 = b then some (.tbl #[]) else none) (fun b => ?_) (fun q hq => (if_neg (aT q hq)).trans (if_pos ⟨q, hq, rfl⟩)) (.inl (.inr ⟨{ cls := .type "list", data := .seq vs.toArray }, if_pos rfl⟩)) (fun b u z => ?_) (fun b z => ?_) fun _ => hk
    · by_cases hb : b = a
      · exact .inr (.inl ⟨_, _, if_pos hb⟩)
      · by_cases h : ∃ q ∈ tabs, q.2 = b
        · exact .inr (.inr ⟨h, (if_neg hb).trans (if_pos h)⟩)
        · exact .inl ((if_neg hb).trans (if_neg h))
    · by_cases hb : b = a
      · have z' := (if_pos hb).symm.trans z
        cases z'
        subst hb
        exact ⟨ha, by rw [List.length_map]; exact hl, vs, _, rv, ha⟩
      · by_cases h : ∃ q ∈ tabs, q.2 = b
        · have z' := ((if_neg hb).trans (if_pos h)).symm.trans z
          cases z'
          exact tabNo b h
        · have z' := ((if_neg hb).trans (if_neg h)).symm.trans z
          cases z'
    · by_cases hb : b = a
      · exact .inl hb
      · by_cases h : ∃ q ∈ tabs, q.2 = b
        · exact .inr h
        · exact absurd ((if_neg hb).trans (if_neg h)) z

theorem walk_ofT {l : OpenLaw} {n k : Nat} {q : Program} {loose : List Str} {XP : (Str → Option Value) → Heap → Prop} {YP : World → Heap → Prop} {d : DefRec} {K : Params → Frag} {CX : World → CXT} {sp : World → List (Addr × Addr) → Sp} {x : Str} {xs : List Str}
    (hn : l.most = some n) (hn2 : n ≤ sizeLine) (hdf : d.params.defaults = []) (hr : Room k callerA)
    (hY : ∀ (w : World) (h : Heap), YP w h → (K w.params).In h)
    (hX : ∀ x ∈ xs, ∃ e, (recsOf q).find? (fun e => e.name == x) = some e)
    (hK : ∀ w : World, noTabs (K w.params) = true)
    (hI : ∀ (w : World), ∀ x ∈ xs, (tabIn (K w.params) x).isSome = true)
    (F : ∀ (w : World) (mg : Str → Option Value) (fa : Addr) (h : Heap) (tabs : List (Addr × Addr)), (K w.params).In h → h.Ns mainGlobals mg → mg d.name = some (.ref fa) → xs.map (tabIn (K w.params)) = tabs.map some →
      ∃ fd : FuncData, (∀ (s : Shared) (u : Value), BindsTo s fd ⟨[u], []⟩ [(x, u)]) ∧
        ∀ base : Heap, (K w.params).In base → base.Ns mainGlobals mg → (∀ q ∈ tabs, CodeHd base q.1 q.2) → BMain mg base → FnOk l.prog w (K w.params) mg base (CX w) k fa fd [x] (sp w tabs))
    (hsp : ∀ (w : World) (tabs : List (Addr × Addr)) (H : Hp) (a : Addr) (ns : List Int), tabs.length = xs.length → ns.length ≤ n → (∀ q ∈ tabs, H q.2 = some (.tbl #[])) → SqL (K w.params) H a (ns.map V.int) → sp w tabs [.ref a] H (fun v _ => v = .bl true) fun _ _ _ => False)
    (hCX : ∀ (w : World) (H : Hp) (s : Shared) (e : Value) (s' : Shared), CX w [] H s (fun _ _ _ => False) e s' → False) :
    WalkO q loose XP YP l.row.toRowW d [] (fun f vs => PySem.call f vs) := by
  refine Att.attach_call hn hdf fun w s₀ s₁ mg mb fa o pm cd doc a vs ns G Y ho hd hcd hmg hobj hints hlen hg => ?_
  have KX := hY w _ Y
  have ex : ∀ ys : List Str, (∀ x ∈ ys, x ∈ xs) → ∃ tabs : List (Addr × Addr), ys.map (tabIn (K w.params)) = tabs.map some ∧ TabsAt tabs s₁.heap := by
    intro ys
    induction ys with
    | nil => exact fun _ => ⟨[], rfl, fun q hq => absurd hq List.not_mem_nil⟩
    | cons y ys ih =>
      intro hys
      obtain ⟨tabs, e1, e2⟩ := ih fun x hx => hys x (List.mem_cons_of_mem _ hx)
      have hy := hys y List.mem_cons_self
      obtain ⟨t, ht⟩ := Option.isSome_iff_exists.mp (hI w y hy)
      obtain ⟨e, he⟩ := hX y hy
      refine ⟨t :: tabs, by rw [List.map_cons, List.map_cons, ht, e1], List.forall_mem_cons.mpr ⟨tab_of (x := y) (c := t.1) (P := t.2) G.T KX he ht, e2⟩⟩
  obtain ⟨tabs, e1, hT⟩ := ex xs fun _ h => h
  obtain ⟨fd, hb, hF⟩ := F w mg fa _ tabs KX G.T.g hmg e1
  have hB : BMain mg s₁.heap := by
    obtain ⟨bm, ob, b1, b2, b3, b4, b5, b6⟩ := G.T.bmain
    refine ⟨bm, ob, b1, b2, fun z => ?_, b3, b4, b5, b6⟩
    obtain ⟨o, es, ep, h1, h2, _⟩ := G.T.g
    rw [z, h1] at b3
    cases b3
    rw [h2] at b6; cases b6
  have hlx : tabs.length = xs.length := by
    have := congrArg List.length e1
    simpa using this.symm
  exact law_callT KX G.T.g G.T.b G.T.builtins G.T.nolimit hg hobj hints (Nat.le_trans hlen hn2) hr hT hB (hK w) hF hb (fun H hO hS => hsp w tabs H a ns hlx hlen hO hS) fun H e s' => hCX w H s₁ e s'
theorem tabs_one {K : Frag} {x : Str} {tabs : List (Addr × Addr)} (h : [x].map (tabIn K) = tabs.map some) : ∃ t, tabs = [t] ∧ tabIn K x = some t := by
  cases tabs with
  | nil => cases h
  | cons t r =>
    cases r with
    | nil => exact ⟨t, rfl, (List.cons.inj h).1⟩
    | cons _ _ => cases (List.cons.inj h).2
theorem FnAt.calC {P : Program} {w : World} {K : Frag} {mg : Str → Option Value} {base : Heap} {x : Str} {st : Stmt} {CX : CXT} {k : Nat} {ps : List Str} {sp : Sp} {h0 : Heap} {t : Addr × Addr} (h : FnAt K x st) (X : K.In h0) (G : h0.Ns mainGlobals mg)
    (hb : ∀ (kV doc pm : Value) (an : Option Addr) (cdv ct : Value) (us : List Value), us.length = ps.length → bindArgs (PySem.W.fnOf x x (defArgs st) (defBody st) (defScope st) .none kV doc pm an cdv ct) ⟨us, []⟩ = pure (ps.zip us)) (ht : tabIn K x = some t)
    (ok : ∀ f fd, Fun K x x st f fd → fd.code = .ref t.1 → FnOk P w K mg base CX k f fd ps sp) : Cal P w K mg base CX k x ps sp := by
  obtain ⟨f, fd, a, F⟩ := h
  refine ⟨f, fd, PySem.W.mg_of X G a, F.kp, F.binds hb, ok f fd F ?_⟩
  obtain ⟨oc, od, kV, doc, pm, an, cdv, ct, osl, e, lk, hcd⟩ := F.ex
  exact law_code X G ht (PySem.W.mg_of X G a) (X _ _ lk) rfl
end L2
set_option Elab.async false
set_option linter.all false
set_option maxRecDepth 100000
set_option maxHeartbeats 1000000
namespace SS
theorem iput_permK (k : Nat → Int) (x : Nat) (l : List Nat) : (iput k x l).Perm (l ++ [x]) := by
  unfold iput
  refine List.perm_middle.trans ?_
  rw [List.takeWhile_append_dropWhile]
  exact (List.perm_append_singleton x l).symm
theorem iord_permK (k : Nat → Int) (l : List Nat) : (iord k l).Perm l := by
  have : ∀ (l acc : List Nat), (l.foldl (fun acc x => iput k x acc) acc).Perm (acc ++ l) := by
    intro l
    induction l with
    | nil => intro acc; simp
    | cons x r ih =>
      intro acc
      rw [List.foldl_cons]
      refine (ih _).trans ?_
      have := (iput_permK k x acc).append_right r
      simpa using this
  have q := this l []
  rw [List.nil_append] at q
  exact q
end SS
namespace L2
open PySem PySem.Spec PyProof.Rows PySem.W
section
variable {prog : Program} {w : World} {A : Around} {E : Value → Shared → Prop} {s : Shared}
theorem lex_ints {b fin : Bool} {Q : Bool → Shared → Prop} : ∀ {us vs : List Value} {ns ms : List Int} {i : Nat}, IntsAre us ns → IntsAre vs ms → fin = decide (us.length < vs.length) → Q (HT.lexLt ns ms) s → KatLex prog w A b fin Q (us.zip vs) i s
  | _, _, _, _, _, .nil, .nil, hf, h => by
    subst hf
    exact h
  | _, _, _, _, _, .nil, .cons y u rv, hf, h => by
    subst hf
    exact h
  | _, _, _, _, _, .cons x t ru, .nil, hf, h => by
    subst hf
    exact h
  | _, _, _, _, i, .cons x t ru, .cons y u rv, hf, h => by
    rw [HT.lexLt_cons] at h
    refine kat_cons (wpAny_eqBool_int (kat_go (fun e => kat_yes ?_) fun e => kat_no ?_))
    · have e' : x = y := by simpa using e
      rw [if_pos e'] at h
      refine lex_ints ru rv ?_ h
      rw [hf]
      simp
    · have e' : ¬ x = y := by simpa using e
      rw [if_neg e'] at h
      cases (b && i == 0) with
      | true => exact oneLt_int h
      | false => exact kat_one _ _ (lt_int h)
end
theorem tups_of {h : Heap} : ∀ {its : List Value}, (∀ v ∈ its, ∃ a o xs n k t, v = Value.ref a ∧ h.get? a = some o ∧ o.cls = .type "tuple" ∧ o.data = .seq xs n ∧ xs[0]? = some (Value.int k t)) → ∃ fs, KatTups h its fs ∧ fs.length = its.length ∧ ∀ f ∈ fs, ∃ k t, f = Value.int k t
  | [], _ => ⟨[], trivial, rfl, fun f hf => absurd hf (by simp)⟩
  | v :: its, H => by
    obtain ⟨fs, t1, t2, t3⟩ := tups_of (its := its) fun v hv => H v (List.mem_cons_of_mem _ hv)
    obtain ⟨a, o, xs, n, k, t, e1, e2, e3, e4, e5⟩ := H v List.mem_cons_self
    refine ⟨.int k t :: fs, ⟨⟨a, o, xs, n, e1, e2, e3, e4, e5⟩, t1⟩, by rw [List.length_cons, List.length_cons, t2], fun f hf => ?_⟩
    rcases List.mem_cons.mp hf with rfl | hf
    · exact ⟨k, t, rfl⟩
    · exact t3 f hf

def rSortTup : List V → Hp → VK → Prop := fun xs H Q => ∃ (a : Addr) (ts : List V) (nsOf : Nat → List Int) (rk : Nat → Int), xs = [.ref a] ∧ H a = some (.lst ts) ∧ ts.length < 64 ∧
  (∀ i, i < ts.length → ∃ t, ts[i]? = some (.ref t) ∧ H t = some (.tup ((nsOf i).map V.int)) ∧ nsOf i ≠ []) ∧ (∀ i j, i < ts.length → j < ts.length → HT.lexLt (nsOf i) (nsOf j) = decide (rk i < rk j)) ∧
  New H (.lst ((SS.iord rk (List.range ts.length)).map fun i => ts.getD i .non)) Q
section
variable {X : Cx} {A : Around} {E : Value → Shared → Prop} {pins : List (Addr × Obj)} {σ : St} {H : Hp} {s : Shared} {a : Addr} {its : List Value} {ts : List V} {nsOf : Nat → List Int} {rk : Nat → Int} {P : PySem.Fin → Shared → Prop}

def TupAt (H : Hp) (ts : List V) (its : List Value) (nsOf : Nat → List Int) : Prop := Vals ts its ∧ ∀ i, i < ts.length → ∃ t, ts[i]? = some (.ref t) ∧ H t = some (.tup ((nsOf i).map V.int)) ∧ nsOf i ≠ []
theorem tup_obj (T : TupAt H ts its nsOf) {P : Program} {w : World} {h : Heap} (ok : HOk P w H h) {i : Nat} {v : Value} (hv : its[i]? = some v) : ∃ t o us n, v = .ref t ∧ H t = some (.tup ((nsOf i).map V.int)) ∧ h.get? t = some o ∧ o.cls = .type "tuple" ∧ o.data = .seq us.toArray n ∧ IntsAre us (nsOf i) ∧ nsOf i ≠ [] := by
  have hi : i < ts.length := by rw [T.1.length]; exact (List.getElem?_eq_some_iff.mp hv).1
  obtain ⟨t, e1, e2, e3⟩ := T.2 i hi
  obtain ⟨u, hu, ru⟩ := T.1.get e1
  rw [hv] at hu
  cases hu
  cases ru
  obtain ⟨_, us, rv, o, ho, hc, n, hd⟩ := ok t _ e2
  exact ⟨t, o, us, n, rfl, e2, ho, hc, hd, intsAre_of rv, e3⟩
open Classical in
noncomputable def rankOf (its : List Value) (rk : Nat → Int) : Value → Int := fun v => if h : ∃ i, its[i]? = some v then rk h.choose else 0
theorem rank_at (T : TupAt H ts its nsOf) {P : Program} {w : World} {h : Heap} (ok : HOk P w H h) (hlex : ∀ i j, i < ts.length → j < ts.length → HT.lexLt (nsOf i) (nsOf j) = decide (rk i < rk j)) {i : Nat} {v : Value} (hv : its[i]? = some v) : rankOf its rk v = rk i := by
  have ex : ∃ i, its[i]? = some v := ⟨i, hv⟩
  unfold rankOf
  rw [dif_pos ex]
  have hj := ex.choose_spec
  generalize ex.choose = j at hj
  have li : i < ts.length := by rw [T.1.length]; exact (List.getElem?_eq_some_iff.mp hv).1
  have lj : j < ts.length := by rw [T.1.length]; exact (List.getElem?_eq_some_iff.mp hj).1
  obtain ⟨t, _, _, _, e1, e2, _⟩ := tup_obj T ok hv
  obtain ⟨t', _, _, _, e1', e2', _⟩ := tup_obj T ok hj
  rw [e1] at e1'
  cases e1'
  rw [e2] at e2'
  have en : (nsOf i).map V.int = (nsOf j).map V.int := HO.tup.inj (Option.some.inj e2')
  have en' : nsOf i = nsOf j := by
    have := congrArg (List.map fun v => match v with | V.int z => z | _ => 0) en
    rw [List.map_map, List.map_map] at this
    have id1 : ∀ l : List Int, l.map ((fun v => match v with | V.int z => z | _ => 0) ∘ V.int) = l := fun l => (List.map_congr_left fun x _ => rfl).trans (List.map_id l)
    rw [id1, id1] at this
    exact this
  have h1 := hlex i j li lj
  have h2 := hlex j i lj li
  rw [en'] at h1 h2
  rw [h1] at h2
  have : (rk i < rk j) ↔ (rk j < rk i) := decide_eq_decide.mp h2
  omega
theorem cmp_tups (T : TupAt H ts its nsOf) {P : Program} {w : World} (ok : HOk P w H s.heap) (hlex : ∀ i j, i < ts.length → j < ts.length → HT.lexLt (nsOf i) (nsOf j) = decide (rk i < rk j)) :
    @SG.Cmp ⟨rankOf its rk, tuples' true⟩ P w A s (its.toArray.zip its.toArray) := by
  intro p hp q hq Q E h
  rw [ksk_zip] at hp hq
  obtain ⟨x, x'⟩ := p
  obtain ⟨y, y'⟩ := q
  obtain ⟨i, hi⟩ := List.mem_iff_getElem?.mp (List.of_mem_zip hp).1
  obtain ⟨j, hj⟩ := List.mem_iff_getElem?.mp (List.of_mem_zip hq).1
  rw [ksk_tl] at hi hj
  have li : i < ts.length := by rw [T.1.length]; exact (List.getElem?_eq_some_iff.mp hi).1
  have lj : j < ts.length := by rw [T.1.length]; exact (List.getElem?_eq_some_iff.mp hj).1
  have h' : Q (decide (rankOf its rk x < rankOf its rk y)) s := h
  rw [rank_at T ok hlex hi, rank_at T ok hlex hj, ← hlex i j li lj] at h'
  obtain ⟨t, o, us, n, e1, _, e3, _, e5, e6, _⟩ := tup_obj T ok hi
  obtain ⟨t', o', us', n', f1, _, f3, _, f5, f6, _⟩ := tup_obj T ok hj
  show wpAny (model P w) A (keyLt' (tuples' true) x y) Q E s
  rw [e1, f1]
  refine kat_lt e3 e5 f3 f5 ?_
  rw [ksk_tl, ksk_tl]
  exact lex_ints e6 f6 (by simp) h'
theorem order_tups (T : TupAt H ts its nsOf) {P : Program} {w : World} {h : Heap} (ok : HOk P w H h) (hlex : ∀ i j, i < ts.length → j < ts.length → HT.lexLt (nsOf i) (nsOf j) = decide (rk i < rk j)) :
    Vals ((SS.iord rk (List.range ts.length)).map fun i => ts.getD i .non) ((@SG.srt ⟨rankOf its rk, tuples' true⟩ (its.zip its)).map (·.2)) := by
  letI : SG.Rk := ⟨rankOf its rk, tuples' true⟩
  have tl := T.1.length
  have P0 : Paired (fun (i : Nat) (p : Keyed) => SG.ky p = rk i ∧ RelV (ts.getD i .non) p.2) (List.range ts.length) (its.zip its) := by
    refine paired_of (by rw [List.length_range, List.length_zip, Nat.min_self, tl]) fun i j p e1 e2 => ?_
    obtain ⟨hi, rfl⟩ : i < ts.length ∧ i = j := by
      rw [List.getElem?_eq_some_iff] at e1
      obtain ⟨h1, h2⟩ := e1
      rw [List.getElem_range] at h2
      exact ⟨by simpa using h1, h2⟩
    have e3 : its[i]? = some p.1 ∧ its[i]? = some p.2 := List.getElem?_zip_eq_some.mp e2
    refine ⟨rank_at T ok hlex e3.1, ?_⟩
    obtain ⟨u, hu, rv⟩ := T.1.get (i := i) (x := ts.getD i .non) (by rw [List.getD_eq_getElem?_getD, List.getElem?_eq_getElem hi]; rfl)
    rw [e3.2] at hu
    cases hu
    exact rv
  have P1 := SG.pair_srt (k := rk) (fun i p h => h.1) P0
  have : ∀ {l : List Nat} {m : List Keyed}, Paired (fun (i : Nat) (p : Keyed) => SG.ky p = rk i ∧ RelV (ts.getD i .non) p.2) l m → Vals (l.map fun i => ts.getD i .non) (m.map (·.2)) := by
    intro l m h
    induction h with
    | nil => exact .nil
    | cons r _ ih => exact .cons r.2 ih
  exact this P1
theorem tup_sort {n : Nat} (I : Inv X pins σ H s) (ha : s.heap.get? a = some (seqObj "list" its.toArray n)) (fa : FpOk X pins H a) (h64 : its.length < 64) (T : TupAt H ts its nsOf) (hlex : ∀ i j, i < ts.length → j < ts.length → HT.lexLt (nsOf i) (nsOf j) = decide (rk i < rk j))
    (h : ∀ s' c out, Vals ((SS.iord rk (List.range ts.length)).map fun i => ts.getD i .non) out → Inv X pins σ H s' → s'.heap.get? a = some (seqObj "list" out.toArray c) → P (.done (.ret .none)) s') :
    wpAny (model X.prog X.w) A (Builtin.«list.sort» ⟨[.ref a], []⟩) P E s := by
  letI : SG.Rk := ⟨rankOf its rk, tuples' true⟩
  have u1 := Heap.SameBut.update s.heap a (Obj.mapSeq fun _ => (#[] : Array Value))
  obtain ⟨e1, g1⟩ : ∃ e1, (s.heap.update a (Obj.mapSeq fun _ => (#[] : Array Value))).get? a = some (seqObj "list" #[] e1) := ⟨_, get?_update_seq ha fun _ => #[]⟩
  have J1 := I.turn1 fa u1
  have J2 := J1.kept (t' := s.toks) (h' := (s.heap.update a (Obj.mapSeq fun _ => (#[] : Array Value))).push (seqObj "tuple" its.toArray 0)) fun b o q => Heap.get?_push_of_some _ q
  have J3 := J2.kept (t' := s.toks) (h' := ((s.heap.update a (Obj.mapSeq fun _ => (#[] : Array Value))).push (seqObj "tuple" its.toArray 0)).push (seqObj "list" #[] 0)) fun b o q => Heap.get?_push_of_some _ q
  have g3 : (((s.heap.update a (Obj.mapSeq fun _ => (#[] : Array Value))).push (seqObj "tuple" its.toArray 0)).push (seqObj "list" #[] 0)).get? a = some (seqObj "list" #[] e1) := Heap.get?_push_of_some _ (Heap.get?_push_of_some _ g1)
  rw [list_sort_plain]
  refine wpAny_bind (listItems_at ha rfl (wpAny_bind (listUpdate_at ha rfl (wpAny_bind (seqEpoch_at g1 rfl (wpAny_bind (wpAny_newTuple (wpAny_bind (wpAny_newList (wpAny_holding ?_) (Nat.zero_le _))) (by show its.length ≤ _; rw [sizeLine_eq]; omega))))) (by rw [List.size_toArray, sizeLine_eq]; omega) (Nat.zero_le _))))
  dsimp only
  have ov := order_tups T J3.hok hlex
  have zl : (its.zip its).length = its.length := by rw [List.length_zip, Nat.min_self]
  have zs : (its.toArray.zip its.toArray).size = its.length := by rw [← zl, ← ksk_tl its, ← ksk_zip, Array.length_toList, ksk_tl]
  have fin : ∀ (st : SortSt), (arrOf st).toList = SG.srt (its.zip its) → failedOf st = none → wpAny (model X.prog X.w) A (do
      let touched := (← seqEpoch a) != e1
      Builtin.List.listUpdate (.ref a) fun _ => (arrOf st).map (·.2)
      if let some e := failedOf st then rule "list.sort.comparison-raised"; throw e
      if touched then rule "list.sort.modified"; raiseError "ValueError" "list modified during sort"
      ret .none) P E { s with heap := ((s.heap.update a (Obj.mapSeq fun _ => (#[] : Array Value))).push (seqObj "tuple" its.toArray 0)).push (seqObj "list" #[] 0) } := fun st e3 e2 => by
    have ez : ((arrOf st).map (·.2)) = ((SG.srt (its.zip its)).map (·.2)).toArray := by rw [← e3, ← Array.toList_map, Array.toArray_toList]
    have sz : ((arrOf st).map (·.2)).size ≤ 64 := by rw [ez]; simp only [List.size_toArray, List.length_map]; rw [SG.srt_len, zl]; omega
    have u3 := Heap.SameBut.update (((s.heap.update a (Obj.mapSeq fun _ => (#[] : Array Value))).push (seqObj "tuple" its.toArray 0)).push (seqObj "list" #[] 0)) a (Obj.mapSeq fun _ => (arrOf st).map (·.2))
    have a3 := get?_update_seq g3 fun _ => (arrOf st).map (·.2)
    refine wpAny_bind (seqEpoch_at g3 rfl (wpAny_bind (listUpdate_at g3 rfl ?_ (Nat.zero_le _) (Nat.le_trans sz (by rw [sizeLine_eq]; omega)))))
    rw [e2]
    simp only [bne_self_eq_false, Bool.false_eq_true, if_false]
    have a4 : ∃ c, ((((s.heap.update a (Obj.mapSeq fun _ => (#[] : Array Value))).push (seqObj "tuple" its.toArray 0)).push (seqObj "list" #[] 0)).update a (Obj.mapSeq fun _ => (arrOf st).map (·.2))).get? a = some (seqObj "list" ((SG.srt (its.zip its)).map (·.2)).toArray c) := ⟨_, by rw [← ez]; exact a3⟩
    obtain ⟨c, a4⟩ := a4
    exact wpAny_pure (h _ c _ ov (J3.turn1 fa u3) a4)
  by_cases h2 : its.toArray.size < 2
  · rw [if_pos h2, if_pos h2]
    refine wpAny_bind (wpAny_pure ?_)
    rw [StateT.run_pure]
    refine wpAny_bind (wpAny_pure ?_)
    have h2' : its.length < 2 := by simpa using h2
    refine fin _ ?_ rfl
    have up : SG.Up (its.zip its) := by
      cases q : its.zip its with
      | nil => exact List.Pairwise.nil
      | cons x r =>
        cases r with
        | nil => exact List.pairwise_singleton _ _
        | cons y r => rw [q] at zl; simp at zl; omega
    rw [SG.srt_id up]
    exact ksk_zip its.toArray its
  · rw [if_neg h2, if_neg h2]
    have h2' : 2 ≤ its.length := by simpa using h2
    obtain ⟨fs, k1, k2, k3⟩ := tups_of (h := (((s.heap.update a (Obj.mapSeq fun _ => (#[] : Array Value))).push (seqObj "tuple" its.toArray 0)).push (seqObj "list" #[] 0))) (its := its) fun v hv => by
      obtain ⟨i, hi⟩ := List.mem_iff_getElem?.mp hv
      obtain ⟨t, o, us, n', y1, _, y3, y4, y5, y6, y7⟩ := tup_obj T J3.hok hi
      generalize nsOf i = nl at y6 y7
      cases y6 with
      | nil => exact absurd rfl y7
      | cons k t' r => exact ⟨t, o, _, n', k, t', y1, y3, y4, y5, by simp⟩
    refine wpAny_bind (kat_kind (T := .type "int") k1 (by omega) (fun v hv => ?_) rfl ?_)
    · obtain ⟨k, t, rfl⟩ := k3 v hv
      exact .now
    refine wpAny_bind (wpAny_mono (SG.sort_in (b₀ := its.toArray.zip its.toArray) (st := SortSt.mk' (tuples' true) (its.toArray.zip its.toArray) #[] 7 none)
      (Q := fun _ st' => failedOf st' = none ∧ (arrOf st').toList = SG.srt (its.toArray.zip its.toArray).toList) (cmp_tups T J3.hok hlex) ⟨.refl _, rfl, rfl, rfl⟩ rfl (by omega) (by omega) fun st' z1 z2 => ⟨z1, z2⟩) ?_ fun _ _ z => z)
    rintro ⟨⟨⟩, st'⟩ s' ⟨rfl, z1, z2⟩
    rw [ksk_zip] at z2
    exact fin st' z2 z1
theorem call_sortTup : CallR X (.builtin "sorted") rSortTup := by
  intro pins s σ H xs us Q I r h
  obtain ⟨a, ts, nsOf, rk, rfl, ha, h64, ht, hlex, q⟩ := h
  cases r with
  | cons r1 rr =>
    cases rr
    cases r1
    obtain ⟨hz, its, n0, rv, hg⟩ := I.hok a _ ha
    have tl := rv.length
    refine Calls.call_function_entry kind_sorted plain_sorted entry_sorted (args_sorted1 _) ?_
    unfold Builtin.«sorted»
    refine wpAny_bind (m := checkCount "sorted" 1 1 _) (wpAny_pure (wpAny_bind (collect_list ⟨_, hg, rfl, _, rfl⟩ (wpAny_bind (wpAny_newList ?_ (by rw [sizeLine_eq]; omega))) (by rw [sizeLine_eq]; omega))))
    have u0 := Heap.SameBut.update (s.heap.push (seqObj "list" #[] 0)) s.heap.objs.size (Obj.mapSeq (· ++ its.toArray))
    have J1 := I.kept (t' := s.toks) (h' := (s.heap.push (seqObj "list" #[] 0)).update s.heap.objs.size (Obj.mapSeq (· ++ its.toArray))) fun b o e => (u0.2 b (Nat.ne_of_lt (Heap.lt_size e))).trans (Heap.get?_push_of_some _ e)
    have J2 := J1.kept (t' := s.toks) (h' := ((s.heap.push (seqObj "list" #[] 0)).update s.heap.objs.size (Obj.mapSeq (· ++ its.toArray))).push (seqObj "list" its.toArray 0)) fun b o e => Heap.get?_push_of_some _ e
    have hn : H ((s.heap.push (seqObj "list" #[] 0)).update s.heap.objs.size (Obj.mapSeq (· ++ its.toArray))).objs.size = none := J1.hok.fresh (Nat.le_refl _)
    have fa := J1.fpOk (Nat.le_refl _) hn
    refine wpAny_bind (wpAny_holding (wpAny_call_entry slot_list_sort ⟨_, Heap.get?_push_size _ rfl, rfl⟩ entry_list_sort ?body (args_list_sort _)))
    case body =>
      refine tup_sort (X := X) (pins := pins) (σ := σ) (H := H) (rk := rk) J2 (Heap.get?_push_size _ rfl) fa (by omega) ⟨rv, ht⟩ hlex fun s' c out ov J hq => ⟨_, rfl, wpAny_pure ⟨_, rfl, ?_⟩⟩
      refine ⟨.ref _, _, J.adopt fa hq ov ?_, rfl, q.at hn⟩
      rw [List.length_map, (SS.iord_permK rk _).length_eq, List.length_range, sizeLine_eq]
      omega
end
end L2
set_option Elab.async false
set_option linter.all false
set_option maxRecDepth 100000
namespace L2
open PySem PySem.Spec PyProof.Rows

section
variable {X : Cx}
end
end L2
set_option Elab.async false
set_option linter.all false
set_option maxRecDepth 100000
namespace L2
open PySem PySem.Spec PyProof.Rows

section
variable {X : Cx} {a b c : Expr} {ta : TA} {te : TE} {p1 p2 p3 pos : Pos}

def RngHere (X : Cx) (pins : List (Addr × Obj)) (σ : St) (R : Int → Int → Hp → Prop) (w : Value) (s' : Shared) : Prop :=
  ∃ r i j t u v H1, w = .ref r ∧ Inv X pins σ H1 s' ∧ IsRange s'.heap r i j 1 t u v ∧ (-(2 ^ 62) ≤ i ∧ i < 2 ^ 62 ∧ -(2 ^ 62) ≤ j ∧ j < 2 ^ 62) ∧ R i j H1
def tRng2 (ta : TA) (σ : St) (H : Hp) (R : Int → Int → Hp → Prop) : Prop := ta σ H fun vs H1 => ∃ i j : Int, vs = [.int i, .int j] ∧ (-(2 ^ 62) ≤ i ∧ i < 2 ^ 62 ∧ -(2 ^ 62) ≤ j ∧ j < 2 ^ 62) ∧ R i j H1
def tListRng (ta : TA) : TE := fun σ H Q => tRng2 ta σ H fun i j H1 => (j - i).toNat ≤ 2 ^ 24 ∧ New H1 (.lst ((List.range (j - i).toNat).map fun k => .int (i + (k : Nat)))) Q
def tInRng (te : TE) (ta : TA) : TT := fun σ H Q => te σ H fun x H1 => ∃ n, x = .int n ∧ tRng2 ta σ H1 fun i j H2 => Q (decide (i ≤ n ∧ n < j)) H2
end
end L2
set_option Elab.async false
set_option linter.all false
set_option maxRecDepth 100000
namespace L2
open PySem
end L2
namespace Pg
open PySem L2

structure Glb (mg : Str → Option Value) : Prop where
  isinstance : mg "isinstance" = none
  int : mg "int" = none
  bool : mg "bool" = none
  str : mg "str" = none
  len : mg "len" = none
  range : mg "range" = none
  ve : mg "ValueError" = none
  list : mg "list" = none
  tuple : mg "tuple" = none
  dict : mg "dict" = none
  set : mg "set" = none
  all : mg "all" = none
  any : mg "any" = none
  sum : mg "sum" = none
  sorted : mg "sorted" = none
  abs : mg "abs" = none
  max : mg "max" = none
  min : mg "min" = none
  zip : mg "zip" = none
  enumerate : mg "enumerate" = none
  reversed : mg "reversed" = none

structure Er (K : PySem.W.Frag) (mg : Str → Option Value) (x : Str) (c : Addr) : Prop where
  at' : mg x = some (.ref c)
  ex : PySem.W.excIn K c veMro "ValueError.__new__" = true

def Num (mg : Str → Option Value) (x : Str) (n : Int) : Prop := ∃ t, mg x = some (.int n t)
def Txt (mg : Str → Option Value) (x : Str) (z : Str) : Prop := ∃ t, mg x = some (.str z t)

structure Kds (mg : Str → Option Value) (d : Nat → Addr) : Prop where
  g0 : mg "BadAmount" = some (.ref (d 0))
  g1 : mg "BadShare" = some (.ref (d 1))
  g2 : mg "BadText" = some (.ref (d 2))
  g3 : mg "BadMonth" = some (.ref (d 3))
  g4 : mg "BadYear" = some (.ref (d 4))
  g5 : mg "BadRule" = some (.ref (d 5))
  g6 : mg "BadBook" = some (.ref (d 6))
  g7 : mg "NoYear" = some (.ref (d 7))
  g8 : mg "BadDay" = some (.ref (d 8))
  g9 : mg "BadEntry" = some (.ref (d 9))
  g10 : mg "NoMark" = some (.ref (d 10))
  g11 : mg "NoPerson" = some (.ref (d 11))
  g12 : mg "TooMany" = some (.ref (d 12))
  g13 : mg "BadClose" = some (.ref (d 13))
  g14 : mg "BadLine" = some (.ref (d 14))

structure KdOf (K : PySem.W.Frag) (d : Nat → Addr) (C : Addr) (i : Nat) : Prop where
  cls : XK.ExcCls K C
  ve : PySem.W.kitOne K (.ref C) (.type "ValueError") = some true
  k0 : PySem.W.kitOne K (.ref C) (.ref (d 0)) = some (decide (i = 0))
  k1 : PySem.W.kitOne K (.ref C) (.ref (d 1)) = some (decide (i = 1))
  k2 : PySem.W.kitOne K (.ref C) (.ref (d 2)) = some (decide (i = 2))
  k3 : PySem.W.kitOne K (.ref C) (.ref (d 3)) = some (decide (i = 3))
  k4 : PySem.W.kitOne K (.ref C) (.ref (d 4)) = some (decide (i = 4))
  k5 : PySem.W.kitOne K (.ref C) (.ref (d 5)) = some (decide (i = 5))
  k6 : PySem.W.kitOne K (.ref C) (.ref (d 6)) = some (decide (i = 6))
  k7 : PySem.W.kitOne K (.ref C) (.ref (d 7)) = some (decide (i = 7))
  k8 : PySem.W.kitOne K (.ref C) (.ref (d 8)) = some (decide (i = 8))
  k9 : PySem.W.kitOne K (.ref C) (.ref (d 9)) = some (decide (i = 9))
  k10 : PySem.W.kitOne K (.ref C) (.ref (d 10)) = some (decide (i = 10))
  k11 : PySem.W.kitOne K (.ref C) (.ref (d 11)) = some (decide (i = 11))
  k12 : PySem.W.kitOne K (.ref C) (.ref (d 12)) = some (decide (i = 12))
  k13 : PySem.W.kitOne K (.ref C) (.ref (d 13)) = some (decide (i = 13))
  k14 : PySem.W.kitOne K (.ref C) (.ref (d 14)) = some (decide (i = 14))

structure Rz (K : PySem.W.Frag) (d : Nat → Addr) (cR : Addr) (i : Nat) : Prop where
  ex : PySem.W.exmOne K (.ref (d i)) (.ref cR) = some true
  kd : KdOf K d (d i) i
def kPairs (i : Nat) : List (Str × Bool) := [("amount", decide (i = 0)), ("share", decide (i = 1)), ("text", decide (i = 2)), ("month", decide (i = 3)), ("year", decide (i = 4)), ("rule", decide (i = 5)), ("book", decide (i = 6)), ("noyear", decide (i = 7)), ("day", decide (i = 8)), ("entry", decide (i = 9)), ("nomark", decide (i = 10)), ("noperson", decide (i = 11)), ("many", decide (i = 12)), ("close", decide (i = 13)), ("line", decide (i = 14))]
def kWord (i : Nat) : List V := ((kPairs i).filter (·.2)).map (fun p => V.str p.1) ++ [.str "value"]
def sp_kind (K : PySem.W.Frag) (d : Nat → Addr) : Sp := fun vs H Q _ => ∃ ea C i, vs = [.ref ea] ∧ Held K H ea C ∧ KdOf K d C i ∧ ∀ l H', Same H H' → H l = none → H' l = some (.lst (kWord i)) → Q (.ref l) H'
def sp_is_number (K : PySem.W.Frag) : Sp := fun vs H Q _ => ∃ v, vs = [v] ∧ ((∃ z, v = .int z ∧ Q (.bl true) H) ∨ (NoNum K H v ∧ Q (.bl false) H))
def sp_within (K : PySem.W.Frag) : Sp := fun vs H Q _ => ∃ v a b, vs = [v, .int a, .int b] ∧ ((∃ z, v = .int z ∧ Q (.bl (decide (a ≤ z ∧ z ≤ b))) H) ∨ (NoNum K H v ∧ Q (.bl false) H))
def sp_need_amount (K : PySem.W.Frag) (cA : Addr) : Sp := fun vs H Q E => ∃ v, vs = [v] ∧ ((∃ z, v = .int z ∧ Q .non H) ∨ (NoNum K H v ∧ E (.ref cA) none H))

def NotTo (K : PySem.W.Frag) (H : Hp) (m : Int) (v : V) : Prop := NoNum K H v ∨ ∃ z, v = .int z ∧ ¬ (0 ≤ z ∧ z ≤ m)
def sp_need (K : PySem.W.Frag) (c : Addr) (m : Int) : Sp := fun vs H Q E => ∃ v, vs = [v] ∧ ((∃ z, v = .int z ∧ 0 ≤ z ∧ z ≤ m ∧ Q .non H) ∨ (NotTo K H m v ∧ E (.ref c) none H))

def sp_cell (K : PySem.W.Frag) : Sp := fun vs H Q _ => ∃ a k ns, vs = [.ref a, .int k] ∧ SqL K H a (ns.map V.int) ∧ 0 ≤ k ∧ Q (.int (cellZ ns k)) H
def sp_mixed (K : PySem.W.Frag) : Sp := fun vs H Q _ => ∃ a k ns, vs = [.ref a, .int k] ∧ SqL K H a (ns.map V.int) ∧ 0 ≤ k ∧ k ≤ 1000 ∧ Q (.int (mixZ ns k)) H
def sp_whole : Sp := fun vs H Q _ => ∃ z, vs = [.int z] ∧ Q (.bl true) H
def sp_lawS (K : PySem.W.Frag) : Sp := fun vs H Q _ => ∃ (a : Addr) (ns : List Int), vs = [.ref a] ∧ SqL K H a (ns.map V.int) ∧ ∀ H', Q (.bl true) H'
def sp_year_of (K : PySem.W.Frag) (c : Addr) : Sp := fun vs H Q E => ∃ v, vs = [v] ∧ ((∃ z, v = .int z ∧ 0 ≤ z ∧ z ≤ 119999 ∧ Q (.int (z / 12)) H) ∨ (NotTo K H 119999 v ∧ E (.ref c) none H))
def sp_place_of (K : PySem.W.Frag) (c : Addr) : Sp := fun vs H Q E => ∃ v, vs = [v] ∧ ((∃ z, v = .int z ∧ 0 ≤ z ∧ z ≤ 119999 ∧ Q (.int (z % 12 + 1)) H) ∨ (NotTo K H 119999 v ∧ E (.ref c) none H))
def monthsL (i : Int) (n : Nat) : List V := (List.range n).map fun k => .int (i + (k : Nat))
def sp_months_of (K : PySem.W.Frag) (c : Addr) : Sp := fun vs H Q E => ∃ v, vs = [v] ∧ ((∃ z, v = .int z ∧ 0 ≤ z ∧ z ≤ 9999 ∧ New H (.lst (monthsL (z * 12) 12)) Q) ∨ (NotTo K H 9999 v ∧ E (.ref c) none H))
end Pg
set_option Elab.async false
set_option linter.all false
set_option maxRecDepth 100000
namespace Pg
open PySem L2

def rIs (K : PySem.W.Frag) : List V → Hp → VK → Prop := fun xs H Q => ∃ x c cv t b, xs = [x, c] ∧ clsV c = some cv ∧ TyX K H x t ∧ PySem.W.kitOne K t cv = some b ∧ Q (.bl b) H
def tK1 (K : PySem.W.Frag) (w : Str) (c : Addr) : TE := tTupS (tCons (tC (.str w)) (tCons (tCB (rIs K) (tCons (tVar 0) (tCons (tC (.ref c)) tNil))) tNil))
def tKs (K : PySem.W.Frag) : List (Str × Addr × Bool) → TA
  | [] => tNil
  | x :: r => tCons (tK1 K x.1 x.2.1) (tKs K r)
def bits (l : List (Str × Addr × Bool)) : List (Str × Bool) := l.map fun x => (x.1, x.2.2)

def Tups (H : Hp) (ts : List V) (ps : List (Str × Bool)) : Prop := ts.length = ps.length ∧ ∀ (i : Nat) p, ps[i]? = some p → ∃ t, ts[i]? = some (V.ref t) ∧ H t = some (.tup [.str p.1, .bl p.2])
theorem Tups.same {H H' : Hp} {ts : List V} {ps : List (Str × Bool)} (h : Tups H ts ps) (s : Same H H') : Tups H' ts ps :=
  ⟨h.1, fun i p e => let ⟨t, e1, e2⟩ := h.2 i p e; ⟨t, e1, s _ _ e2⟩⟩
theorem Tups.app {H : Hp} {ts us : List V} {ps qs : List (Str × Bool)} (h : Tups H ts ps) (k : Tups H us qs) : Tups H (ts ++ us) (ps ++ qs) := by
  refine ⟨by rw [List.length_append, List.length_append, h.1, k.1], fun i p e => ?_⟩
  by_cases hi : i < ps.length
  · rw [List.getElem?_append_left hi] at e
    obtain ⟨t, e1, e2⟩ := h.2 i p e
    exact ⟨t, by rw [List.getElem?_append_left (by rw [h.1]; exact hi)]; exact e1, e2⟩
  · rw [List.getElem?_append_right (by omega)] at e
    obtain ⟨t, e1, e2⟩ := k.2 _ p e
    exact ⟨t, by rw [List.getElem?_append_right (by rw [h.1]; omega), h.1]; exact e1, e2⟩
section
variable {K : PySem.W.Frag} {ea C : Addr} {σ : St}
theorem kt_all (hσ : σ[0]? = some (some (.ref ea))) : ∀ (l : List (Str × Addr × Bool)) (H : Hp) (Q : List V → Hp → Prop), Held K H ea C → (∀ x ∈ l, PySem.W.kitOne K (.ref C) (.ref x.2.1) = some x.2.2) →
    (∀ ts H', Same H H' → Tups H' ts (bits l) → Q ts H') → tKs K l σ H Q
  | [], H, Q, _, _, q => q [] H (Same.refl _) ⟨rfl, fun i p e => nomatch e⟩
  | x :: r, H, Q, h, hk, q => by
    refine ⟨_, hσ, _, _, _, _, _, rfl, rfl, h.ty, hk x List.mem_cons_self, lenOk rfl, fun t H1 s1 _ e1 => ?_⟩
    refine kt_all hσ r H1 _ (h.same s1) (fun y hy => hk y (List.mem_cons_of_mem _ hy)) fun ts H2 s2 k => ?_
    refine q _ H2 (s1.trans s2) ⟨by rw [List.length_cons, k.1]; rfl, fun i p e => ?_⟩
    cases i with
    | zero => cases e; exact ⟨t, rfl, s2 _ _ e1⟩
    | succ i => exact k.2 i p e
theorem k_lst (l : List (Str × Addr × Bool)) {H : Hp} {Q : VK} (hσ : σ[0]? = some (some (.ref ea))) (h : Held K H ea C) (hk : ∀ x ∈ l, PySem.W.kitOne K (.ref C) (.ref x.2.1) = some x.2.2) (hl : Nat.ble l.length 1000 = true)
    (q : ∀ p ts H', Same H H' → H' p = some (.lst ts) → Tups H' ts (bits l) → Q (.ref p) H') : tLstS (tKs K l) σ H Q :=
  kt_all hσ l H _ h hk fun ts H1 s1 k => ⟨by rw [k.1]; unfold bits; rw [List.length_map]; exact lenOk hl, fun p H2 s2 _ e => q p ts H2 (s1.trans s2) e (k.same s2)⟩
theorem k_cat (l : List (Str × Addr × Bool)) {ps : List (Str × Bool)} {f : Addr} {ts : List V} {H : Hp} {Q : VK} (hσ : σ[0]? = some (some (.ref ea))) (h1 : σ[1]? = some (some (.ref f))) (hf : H f = some (.lst ts)) (kf : Tups H ts ps) (h : Held K H ea C)
    (hk : ∀ x ∈ l, PySem.W.kitOne K (.ref C) (.ref x.2.1) = some x.2.2) (hl : Nat.ble l.length 1000 = true) (hp : Nat.ble (ps.length + l.length) 1000 = true)
    (q : ∀ p us H', Same H H' → H' p = some (.lst us) → Tups H' us (ps ++ bits l) → Q (.ref p) H') : tOp rCatS (tVar 1) (tLstS (tKs K l)) σ H Q := by
  refine ⟨_, h1, k_lst l hσ h hk hl fun p us H1 s1 e1 k1 => ⟨f, p, ts, us, rfl, rfl, s1 _ _ hf, e1, ?_, fun r H2 s2 _ e2 => q r _ H2 (s1.trans s2) e2 (((kf.same s1).app k1).same s2)⟩⟩
  have := k1.1
  unfold bits at this
  rw [List.length_map] at this
  rw [kf.1, this]
  exact lenOk hp
end
end Pg
set_option Elab.async false
set_option linter.all false
set_option maxRecDepth 100000
set_option maxHeartbeats 1000000
namespace K02
open PySem L2
seal PE PA PT PW PS PSs PG PGs PI PIf PO PK
section
variable {P : Program} {w : World} {K : PySem.W.Frag} {mg : Str → Option Value} {base : Heap} {f : Addr} {fd : FuncData} {cA cS : Addr} {d : Nat → Addr} {cR : Addr}
local macro_rules | `(tactic| walk_at "sc") => `(tactic| exact ⟨rfl, rfl, rfl, by decide +kernel, rfl, by decide +kernel, by decide +kernel⟩)
set_option maxHeartbeats 4000000 in
theorem ok_kind {d : Nat → Addr} (F : Fun K "_law_kind" "_law_kind" (top 31) f fd) (G : Glb mg) (D : Kds mg d) : FnOkQ P w K mg base 1 f fd ["_law_e"] (sp_kind K d) := by
  have nd : (["_law_e", "_law_found"] : List Str).Nodup := by decide +kernel
  have nc : (["_law_word", "_law_fits_here"] : List Str).Nodup := by decide +kernel
  refine F.okQ (N := ["_law_e", "_law_found"]) (by walk_at "sc") (fun vs H Q E h => ?_) (fun cdv A outer s H vs Q hr hq h => ?_)
  · obtain ⟨ea, C, i, rfl, _⟩ := h
    rfl
  · obtain ⟨ea, C, i, rfl, h0, kd, q⟩ := h
    refine' ⟨_, (pss_cons (ps_set (i := 1) nd rfl (Or.inl rfl) (pe_lstS (pa_cons (pe_tupS (pa_cons pe_str (pa_cons (pe_callB call_isinst rfl G.isinstance boot_isinstance (pa_cons (pv 0) (pa_cons (pe_glob (v := .ref (d 0)) rfl D.g0 rfl) pa_nil))) pa_nil))) (pa_cons (pe_tupS (pa_cons pe_str (pa_cons (pe_callB call_isinst rfl G.isinstance boot_isinstance (pa_cons (pv 0) (pa_cons (pe_glob (v := .ref (d 1)) rfl D.g1 rfl) pa_nil))) pa_nil))) (pa_cons (pe_tupS (pa_cons pe_str (pa_cons (pe_callB call_isinst rfl G.isinstance boot_isinstance (pa_cons (pv 0) (pa_cons (pe_glob (v := .ref (d 2)) rfl D.g2 rfl) pa_nil))) pa_nil))) pa_nil)))))
      (pss_cons (ps_set (i := 1) nd rfl (Or.inl rfl) (pe_op op_catS (pv 1) (pe_lstS (pa_cons (pe_tupS (pa_cons pe_str (pa_cons (pe_callB call_isinst rfl G.isinstance boot_isinstance (pa_cons (pv 0) (pa_cons (pe_glob (v := .ref (d 3)) rfl D.g3 rfl) pa_nil))) pa_nil))) (pa_cons (pe_tupS (pa_cons pe_str (pa_cons (pe_callB call_isinst rfl G.isinstance boot_isinstance (pa_cons (pv 0) (pa_cons (pe_glob (v := .ref (d 4)) rfl D.g4 rfl) pa_nil))) pa_nil))) pa_nil)))))
      (pss_cons (ps_set (i := 1) nd rfl (Or.inl rfl) (pe_op op_catS (pv 1) (pe_lstS (pa_cons (pe_tupS (pa_cons pe_str (pa_cons (pe_callB call_isinst rfl G.isinstance boot_isinstance (pa_cons (pv 0) (pa_cons (pe_glob (v := .ref (d 5)) rfl D.g5 rfl) pa_nil))) pa_nil))) (pa_cons (pe_tupS (pa_cons pe_str (pa_cons (pe_callB call_isinst rfl G.isinstance boot_isinstance (pa_cons (pv 0) (pa_cons (pe_glob (v := .ref (d 6)) rfl D.g6 rfl) pa_nil))) pa_nil))) pa_nil)))))
      (pss_cons (ps_set (i := 1) nd rfl (Or.inl rfl) (pe_op op_catS (pv 1) (pe_lstS (pa_cons (pe_tupS (pa_cons pe_str (pa_cons (pe_callB call_isinst rfl G.isinstance boot_isinstance (pa_cons (pv 0) (pa_cons (pe_glob (v := .ref (d 7)) rfl D.g7 rfl) pa_nil))) pa_nil))) (pa_cons (pe_tupS (pa_cons pe_str (pa_cons (pe_callB call_isinst rfl G.isinstance boot_isinstance (pa_cons (pv 0) (pa_cons (pe_glob (v := .ref (d 8)) rfl D.g8 rfl) pa_nil))) pa_nil))) pa_nil)))))
      (pss_cons (ps_set (i := 1) nd rfl (Or.inl rfl) (pe_op op_catS (pv 1) (pe_lstS (pa_cons (pe_tupS (pa_cons pe_str (pa_cons (pe_callB call_isinst rfl G.isinstance boot_isinstance (pa_cons (pv 0) (pa_cons (pe_glob (v := .ref (d 9)) rfl D.g9 rfl) pa_nil))) pa_nil))) (pa_cons (pe_tupS (pa_cons pe_str (pa_cons (pe_callB call_isinst rfl G.isinstance boot_isinstance (pa_cons (pv 0) (pa_cons (pe_glob (v := .ref (d 10)) rfl D.g10 rfl) pa_nil))) pa_nil))) pa_nil)))))
      (pss_cons (ps_set (i := 1) nd rfl (Or.inl rfl) (pe_op op_catS (pv 1) (pe_lstS (pa_cons (pe_tupS (pa_cons pe_str (pa_cons (pe_callB call_isinst rfl G.isinstance boot_isinstance (pa_cons (pv 0) (pa_cons (pe_glob (v := .ref (d 11)) rfl D.g11 rfl) pa_nil))) pa_nil))) (pa_cons (pe_tupS (pa_cons pe_str (pa_cons (pe_callB call_isinst rfl G.isinstance boot_isinstance (pa_cons (pv 0) (pa_cons (pe_glob (v := .ref (d 12)) rfl D.g12 rfl) pa_nil))) pa_nil))) pa_nil)))))
      (pss_cons (ps_set (i := 1) nd rfl (Or.inl rfl) (pe_op op_catS (pv 1) (pe_lstS (pa_cons (pe_tupS (pa_cons pe_str (pa_cons (pe_callB call_isinst rfl G.isinstance boot_isinstance (pa_cons (pv 0) (pa_cons (pe_glob (v := .ref (d 13)) rfl D.g13 rfl) pa_nil))) pa_nil))) (pa_cons (pe_tupS (pa_cons pe_str (pa_cons (pe_callB call_isinst rfl G.isinstance boot_isinstance (pa_cons (pv 0) (pa_cons (pe_glob (v := .ref (d 14)) rfl D.g14 rfl) pa_nil))) pa_nil))) pa_nil)))))
      (pss_one (ps_ret (pe_op op_catS ?comp (pe_op op_repS (pe_lstS (pa_cons pe_str pa_nil)) (pe_callTy call_int1 rfl G.int boot_int (pa_cons (pe_callB call_isinst rfl G.isinstance boot_isinstance (pa_cons (pv 0) (pa_cons (pe_bltn (v := .ty "ValueError") rfl G.ve boot_VE rfl) pa_nil))) pa_nil))))))))))))), ?main⟩
    case comp =>
      refine' pe_comp (Nc := ["_law_word", "_law_fits_here"]) (cl := []) (src := List.replicate 2 none) (g := gTup K 2 (gCons (gName 0) (gCons (gName 1) gNil))) (tt := tB (tVar 1)) (te := tVar 0) ⟨rfl, rfl, by decide +kernel, by decide +kernel, (fun x c z => nomatch z), no_cells (by rfl), no_src, rfl⟩ hq (pv 1) ?hb
      case hb =>
        intro it C s' H' hq'
        exact ⟨pg_tupQ hq' (pgs_cons (pg_name (i := 0) nc rfl (Or.inl rfl)) (pgs_cons (pg_name (i := 1) nc rfl (Or.inl rfl)) pgs_nil)), pif_one (pt_val (pv 1)), pv 0⟩
    refine Pg.k_lst [(("amount" : Str), d 0, decide (i = 0)), (("share" : Str), d 1, decide (i = 1)), (("text" : Str), d 2, decide (i = 2))] rfl h0 (List.forall_mem_cons.mpr ⟨kd.k0, (List.forall_mem_cons.mpr ⟨kd.k1, (List.forall_mem_cons.mpr ⟨kd.k2, (fun _ h => nomatch h)⟩)⟩)⟩) rfl fun l0 u0 H0 s0 e0 k0 => ?_
    refine Pg.k_cat [(("month" : Str), d 3, decide (i = 3)), (("year" : Str), d 4, decide (i = 4))] rfl rfl e0 k0 (h0.same s0) (List.forall_mem_cons.mpr ⟨kd.k3, (List.forall_mem_cons.mpr ⟨kd.k4, (fun _ h => nomatch h)⟩)⟩) rfl rfl fun l1 u1 H1 s1 e1 k1 => ?_
    have S1 : Same H H1 := s0.trans s1
    refine Pg.k_cat [(("rule" : Str), d 5, decide (i = 5)), (("book" : Str), d 6, decide (i = 6))] rfl rfl e1 k1 (h0.same S1) (List.forall_mem_cons.mpr ⟨kd.k5, (List.forall_mem_cons.mpr ⟨kd.k6, (fun _ h => nomatch h)⟩)⟩) rfl rfl fun l2 u2 H2 s2 e2 k2 => ?_
    have S2 : Same H H2 := S1.trans s2
    refine Pg.k_cat [(("noyear" : Str), d 7, decide (i = 7)), (("day" : Str), d 8, decide (i = 8))] rfl rfl e2 k2 (h0.same S2) (List.forall_mem_cons.mpr ⟨kd.k7, (List.forall_mem_cons.mpr ⟨kd.k8, (fun _ h => nomatch h)⟩)⟩) rfl rfl fun l3 u3 H3 s3 e3 k3 => ?_
    have S3 : Same H H3 := S2.trans s3
    refine Pg.k_cat [(("entry" : Str), d 9, decide (i = 9)), (("nomark" : Str), d 10, decide (i = 10))] rfl rfl e3 k3 (h0.same S3) (List.forall_mem_cons.mpr ⟨kd.k9, (List.forall_mem_cons.mpr ⟨kd.k10, (fun _ h => nomatch h)⟩)⟩) rfl rfl fun l4 u4 H4 s4 e4 k4 => ?_
    have S4 : Same H H4 := S3.trans s4
    refine Pg.k_cat [(("noperson" : Str), d 11, decide (i = 11)), (("many" : Str), d 12, decide (i = 12))] rfl rfl e4 k4 (h0.same S4) (List.forall_mem_cons.mpr ⟨kd.k11, (List.forall_mem_cons.mpr ⟨kd.k12, (fun _ h => nomatch h)⟩)⟩) rfl rfl fun l5 u5 H5 s5 e5 k5 => ?_
    have S5 : Same H H5 := S4.trans s5
    refine Pg.k_cat [(("close" : Str), d 13, decide (i = 13)), (("line" : Str), d 14, decide (i = 14))] rfl rfl e5 k5 (h0.same S5) (List.forall_mem_cons.mpr ⟨kd.k13, (List.forall_mem_cons.mpr ⟨kd.k14, (fun _ h => nomatch h)⟩)⟩) rfl rfl fun l6 u6 H6 s6 e6 k6 => ?_
    have S6 : Same H H6 := S5.trans s6
    refine ⟨_, rfl, _, _, rfl, SqL.of e6, fun Da hD => turns_pairs (pairs := kPairs i) rfl k6.1 e6 hD (fun j p z => k6.2 j p z) (by show 15 < sizeLine; decide) fun Ha sa ea => ?_⟩
    have ha := (h0.same S6).same sa
    refine ⟨lenOk rfl, fun lv Hb sb nb eb => ?_⟩
    have hb := ha.same sb
    refine ⟨_, rfl, _, _, _, _, _, rfl, rfl, hb.ty, kd.ve, .inr ⟨_, rfl, ?_⟩⟩
    refine ⟨_, _, _, rfl, rfl, eb, by decide, by decide, by decide, fun lr Hc sc nc er => ?_⟩
    refine ⟨_, _, _, _, rfl, rfl, sc _ _ (sb _ _ ea), er, ?_, fun l Hd sd nd' el => ?_⟩
    · refine Nat.le_trans (Nat.add_le_add_right (m := 15) ?_ _) (by decide)
      rw [List.length_map]
      exact Nat.le_trans (List.length_filter_le _ _) (Nat.le_refl _)
    · exact q l Hd (S6.trans (sa.trans (sb.trans (sc.trans sd)))) el
end
end K02
set_option Elab.async false
set_option linter.all false
set_option maxRecDepth 100000
set_option maxHeartbeats 1000000
namespace K02
open PySem L2
seal PE PA PT PW PS PSs PG PGs PI PIf PO PK
section
variable {P : Program} {w : World} {K : PySem.W.Frag} {mg : Str → Option Value} {base : Heap} {f : Addr} {fd : FuncData} {cA cS T : Addr} {d : Nat → Addr} {cR : Addr}
local macro_rules | `(tactic| walk_at "sc") => `(tactic| exact ⟨rfl, rfl, rfl, by decide +kernel, rfl, by decide +kernel, by decide +kernel⟩)
theorem ok_tried (F : Fun K "_law_tried" "_law_tried" (top 32) f fd) (R : Roll K mg d cR) (C1 : Cal P w K mg base (CXE P w) 4 "split" ["amount", "weights"] (sp_split K (d 0) (d 1) T))
    (Ck : CalQ P w K mg base 1 "_law_kind" ["_law_e"] (sp_kind K d)) : FnOk P w K mg base CX0 5 f fd ["_law_amount_here", "_law_weights_here"] (sp_tried K T) := by
  have nd : (["_law_amount_here", "_law_weights_here", "_law_e"] : List Str).Nodup := by decide +kernel
  refine F.ok (N := ["_law_amount_here", "_law_weights_here", "_law_e"]) (by walk_at "sc") (fun vs H Q E h => ?_) (fun cdv A outer s H vs Q E hr h => ?_)
  · obtain ⟨v, u, rfl, _⟩ := h
    rfl
  · obtain ⟨v, u, rfl, h⟩ := h
    rcases h with ⟨i, hc, q⟩ | ⟨z, ws, rfl, ⟨a, rfl, hw, gw, lt⟩, q⟩
    · have kd : KdOf K d (d i) i ∧ PySem.W.exmOne K (.ref (d i)) (.ref cR) = some true := by
        rcases hc with ⟨rfl, _⟩ | ⟨rfl, _⟩
        · exact ⟨R.kA, R.exA⟩
        · exact ⟨R.kS, R.exS⟩
      refine ⟨_, pss_one (ps_try (R := fun cls _ H' => cls = .ref (d i) ∧ Same H H') (i := 2) (th := fun ea => tRet (tCallQ ((A.deeper (PyProof.Rows.envOfC "_law_tried" (defScope (top 32)) s.heap.objs.size f cdv)).mark (some (.ref ea))) (sp_kind K d) (tCons (tVar 2) tNil))) rfl rfl rfl R.mgR (fun cls o H' z => by rw [z.1]; exact kd.2) nd rfl rfl
        (fun pn => pss_one (ps_ret (pe_cal C1 hr (by decide) passT (pa_cons (pv 0) (pa_cons (pv 1) pa_nil)))))
        (fun pn ea E => pss_one (ps_ret (pe_calQ (j := 4) Ck ⟨hr.dp, hr.un⟩ (by decide) (pa_cons (pv 2) pa_nil))))), ?_, ?_⟩
      · rcases hc with ⟨rfl, nn⟩ | ⟨rfl, z, rfl, bw⟩
        · exact ⟨_, rfl, _, rfl, _, _, rfl, .inl ⟨nn, rfl, Same.refl _⟩⟩
        · exact ⟨_, rfl, _, rfl, _, _, rfl, .inr ⟨z, rfl, .inl ⟨bw, fun H' s1 => ⟨rfl, s1⟩⟩⟩⟩
      · rintro ea oe vs cls σ' H' ⟨rfl, s1⟩ hne hcl hd1 hd2 h2 hlen
        refine ⟨.ref ea, List.getElem?_set_self (by rw [hlen]; show 2 < 3; decide), .inr ⟨ea, oe, vs, _, rfl, upd_same, hd2, h2⟩, ea, d i, i, rfl, ⟨⟨oe, vs, upd_same, hcl, hd1, hd2⟩, kd.1.cls⟩, kd.1, fun l H2 s2 e => q l H2 ((s1.trans (Same.upd hne)).trans s2) e⟩
    · refine ⟨_, pss_one (ps_try (R := fun _ _ _ => False) (i := 2) (th := fun ea => tRet (tCallQ ((A.deeper (PyProof.Rows.envOfC "_law_tried" (defScope (top 32)) s.heap.objs.size f cdv)).mark (some (.ref ea))) (sp_kind K d) (tCons (tVar 2) tNil))) rfl rfl rfl R.mgR (fun cls o H' z => z.elim) nd rfl rfl
        (fun pn => pss_one (ps_ret (pe_cal C1 hr (by decide) passT (pa_cons (pv 0) (pa_cons (pv 1) pa_nil)))))
        (fun pn ea E => pss_one (ps_ret (pe_calQ (j := 4) Ck ⟨hr.dp, hr.un⟩ (by decide) (pa_cons (pv 2) pa_nil))))), ?_, ?_⟩
      · exact ⟨_, rfl, _, rfl, _, _, rfl, .inr ⟨z, rfl, .inr ⟨a, ws, rfl, hw, gw, lt, q⟩⟩⟩
      · intro ea oe vs cls σ' H' z
        exact z.elim
end
end K02
set_option Elab.async false
set_option linter.all false
set_option maxRecDepth 100000
set_option maxHeartbeats 1000000
namespace K02
open PySem L2
seal PE PA PT PW PS PSs PG PGs PI PIf PO PK
section
variable {P : Program} {w : World} {K : PySem.W.Frag} {mg : Str → Option Value} {base : Heap} {f : Addr} {fd : FuncData} {cA cS T : Addr} {d : Nat → Addr} {cR : Addr}
local macro_rules | `(tactic| walk_at "sc") => `(tactic| exact ⟨rfl, rfl, rfl, by decide +kernel, rfl, by decide +kernel, by decide +kernel⟩)
theorem nl_none {H : Hp} : NoLst K H .non := ⟨("NoneType", false, false, false, false), by decide, .non, by decide⟩
theorem nl_str {H : Hp} (x : Str) : NoLst K H (.str x) := ⟨("str", false, false, true, false), by decide, .str x, by decide⟩
theorem nl_int {H : Hp} (i : Int) : NoLst K H (.int i) := ⟨("int", true, false, false, false), by decide, .int i, by decide⟩
theorem nl_tup {H : Hp} {a : Addr} {xs : List V} (e : H a = some (.tup xs)) : NoLst K H (.ref a) := ⟨("tuple", false, false, false, false), by decide, .tup e, by decide⟩
theorem nl_dK {H : Hp} {a : Addr} {kvs : List (Key × V)} (e : H a = some (.dK kvs)) : NoLst K H (.ref a) := ⟨("dict", false, false, false, false), by decide, .dK e, by decide⟩

theorem bad_nought {H : Hp} {a : Addr} {n : Nat} (e : H a = some (.lst (List.replicate n (.int 0)))) (h : n ≤ 50) : BadW K H (.ref a) := by
  refine .inr ⟨a, _, rfl, e, .inr ⟨by rw [List.length_replicate]; exact h, fun x hx => .inr ⟨0, List.eq_of_mem_replicate hx⟩, ?_⟩⟩
  unfold okW
  have : ((List.replicate n (V.int 0)).map valI).sum = 0 := by
    rw [List.map_replicate]
    show (List.replicate n (0 : Int)).sum = 0
    simp
  rw [this]
  simp
theorem bad_one {H : Hp} {a : Addr} {xs : List V} (e : H a = some (.lst xs)) (h : xs.length ≤ 50) (hi : ∀ x ∈ xs, Item K H x) {y : V} (hy : y ∈ xs) (hb : inW y = false) : BadW K H (.ref a) := by
  refine .inr ⟨a, xs, rfl, e, .inr ⟨h, hi, ?_⟩⟩
  unfold okW
  have : xs.all inW = false := by
    cases c : xs.all inW with
    | false => rfl
    | true => rw [List.all_eq_true.mp c y hy] at hb; cases hb
  rw [this]
  rfl
theorem bad_any {H : Hp} {a : Addr} {xs : List V} (e : H a = some (.lst xs)) (hi : ∀ x ∈ xs, Item K H x) {y : V} (hy : y ∈ xs) (hb : inW y = false) : BadW K H (.ref a) := by
  by_cases h : xs.length ≤ 50
  · exact bad_one e h hi hy hb
  · exact .inr ⟨a, xs, rfl, e, .inl (by omega)⟩
theorem cut_sub {xs : List V} {lo hi : Option Int} : ∀ x ∈ cutV xs lo hi, x ∈ xs := fun x hx => List.mem_of_mem_drop (List.mem_of_mem_take hx)
theorem rep_one (k : Int) : (List.replicate k.toNat [V.int 0]).flatten = List.replicate k.toNat (V.int 0) := by
  induction k.toNat with
  | zero => rfl
  | succ n ih => rw [List.replicate_succ, List.replicate_succ, List.flatten_cons, ih]; rfl
theorem item_same {H H' : Hp} {x : V} (s : Same H H') (h : Item K H x) : Item K H' x := h.imp (fun q => q.same s) id
theorem badW_same {H H' : Hp} {u : V} (s : Same H H') (h : BadW K H u) : BadW K H' u := by
  rcases h with ⟨r, h1, h2, h3⟩ | ⟨a, xs, e, h1, h2⟩
  · exact .inl ⟨r, h1, h2.same s, h3⟩
  · refine .inr ⟨a, xs, e, s _ _ h1, ?_⟩
    rcases h2 with h2 | ⟨h2, h3, h4⟩
    · exact .inl h2
    · exact .inr ⟨h2, fun x hx => item_same s (h3 x hx), h4⟩
def sp_none (K : PySem.W.Frag) : Sp := fun vs H Q _ => ∃ n l, ∃ ws : List Int, vs = [.int n, .ref l] ∧ 0 ≤ n ∧ H l = some (.lst (ws.map V.int)) ∧ GoodW ws ∧ ∀ v H', Same H H' → BadW K H' v → Q v H'
set_option hygiene false in
local macro_rules | `(tactic| walk_at "nblockA") => `(tactic| (
      refine ⟨_, rfl, _, rfl, _, rfl, l, _, rfl, SqL.of h13, fun pA hA => ?_⟩
      have sA : Same H13 (upd H13 pA (.lst (cutV (ws.map V.int) none (some (n / 16 / 10 % ((ws.map V.int).length + 1)))))) := Same.upd hA
      refine ⟨_, rfl, lenOk rfl, fun pB HB sB _ fB => ⟨pA, pB, _, _, rfl, rfl, sB _ _ upd_same, fB, ?_, fun pC HC sC _ fC => ?_⟩⟩
      · have := len none (some (n / 16 / 10 % ((ws.map V.int).length + 1)))
        rw [sizeLine_eq]
        show _ + 1 ≤ _
        omega
      refine ⟨_, rfl, _, rfl, _, rfl, l, _, rfl, SqL.of (sC _ _ (sB _ _ (sA _ _ h13))), fun pD hD => ⟨pC, pD, _, _, rfl, rfl, (Same.upd hD) _ _ fC, upd_same, ?_, fun pE HE sE _ fE => ?_⟩⟩
      · rw [sizeLine_eq, List.length_append]
        refine Nat.le_trans (Nat.add_le_add (Nat.add_le_add_right (len _ _) _) (len _ _)) ?_
        show 50 + 1 + 50 ≤ _
        omega
      · exact ends HE pE _ _ _ _ ((((sA.trans sB).trans sC).trans (Same.upd hD)).trans sE) fE))
set_option hygiene false in
local macro_rules | `(tactic| walk_at "nblockB") => `(tactic| (
      refine ⟨_, rfl, _, rfl, _, rfl, l, _, rfl, SqL.of h13, fun pA hA => ?_⟩
      have sA : Same H13 (upd H13 pA (.lst (cutV (ws.map V.int) none (some (n / 16 / 10 % ((ws.map V.int).length + 1)))))) := Same.upd hA
      refine ⟨_, rfl, lenOk rfl, fun pB HB sB _ fB => ⟨pA, pB, _, _, rfl, rfl, sB _ _ upd_same, fB, ?_, fun pC HC sC _ fC => ?_⟩⟩
      · have := len none (some (n / 16 / 10 % ((ws.map V.int).length + 1)))
        rw [sizeLine_eq]
        show _ + 1 ≤ _
        omega
      refine ⟨_, rfl, _, rfl, _, _, rfl, rfl, _, rfl, l, _, rfl, SqL.of (sC _ _ (sB _ _ (sA _ _ h13))), fun pD hD => ⟨pC, pD, _, _, rfl, rfl, (Same.upd hD) _ _ fC, upd_same, ?_, fun pE HE sE _ fE => ?_⟩⟩
      · rw [sizeLine_eq, List.length_append]
        refine Nat.le_trans (Nat.add_le_add (Nat.add_le_add_right (len _ _) _) (len _ _)) ?_
        show 50 + 1 + 50 ≤ _
        omega
      · exact ends HE pE _ _ _ _ ((((sA.trans sB).trans sC).trans (Same.upd hD)).trans sE) fE))
theorem ok_none (F : Fun K "_law_none" "_law_none" (top 34) f fd) (G : Glb mg) : FnOk P w K mg base CX0 1 f fd ["_law_number", "_law_weights_here"] (sp_none K) := by
  have nd : (["_law_number", "_law_weights_here", "_law_more", "_law_odd", "_law_at"] : List Str).Nodup := by decide +kernel
  refine F.ok (N := ["_law_number", "_law_weights_here", "_law_more", "_law_odd", "_law_at"]) (by walk_at "sc") (fun vs H Q E h => ?_) (fun cdv A outer s H vs Q E hr h => ?_)
  · obtain ⟨n, l, ws, rfl, _⟩ := h
    rfl
  · obtain ⟨n, l, ws, rfl, hn, hl, ⟨g1, g2, g3⟩, q⟩ := h
    refine ⟨_, (pss_cons (ps_set (i := 2) nd rfl (Or.inl rfl) (pe_op op_fdiv (pv 0) pe_int))
        (pss_cons (ps_set (i := 3) nd rfl (Or.inl rfl) (pe_at ix_list (pe_lstS (pa_cons pe_non (pa_cons (pe_callTy call_tuple_of rfl G.tuple boot_tuple (pa_cons (pv 1) pa_nil)) (pa_cons (pe_lstS pa_nil) (pa_cons (pe_lstS (pa_cons pe_int pa_nil)) (pa_cons (pe_op op_repS (pe_lstS (pa_cons pe_int pa_nil)) pe_int) (pa_cons (pe_op op_repS (pe_lstS (pa_cons pe_int pa_nil)) pe_int) (pa_cons pe_str (pa_cons pe_int (pa_cons (pe_disp (pps_cons pe_int pe_int pps_nil) rfl rfl (by simp) (by decide)) (pa_cons (pe_op op_repS (pe_lstS (pa_cons pe_int pa_nil)) (pe_callB call_len_seq rfl G.len boot_len (pa_cons (pv 1) pa_nil))) pa_nil))))))))))) (pe_op op_mod (pv 2) pe_int)))
        (pss_cons (ps_if (pt_cmpR op_lt (pe_op op_mod (pv 0) pe_int) pe_int (nomark _)) (pss_one (ps_ret (pv 3))) pss_nil)
        (pss_cons (ps_set (i := 4) nd rfl (Or.inl rfl) (pe_op op_mod (pe_op op_fdiv (pv 2) pe_int) (pe_op op_add (pe_callB call_len_seq rfl G.len boot_len (pa_cons (pv 1) pa_nil)) pe_int)))
        (pss_cons (ps_set (i := 3) nd rfl (Or.inl rfl) (pe_at ix_list (pe_lstS (pa_cons (pe_un un_neg pe_int) (pa_cons (pe_op op_add (pe_op op_pow pe_int pe_int) pe_int) (pa_cons pe_bl (pa_cons pe_non (pa_cons pe_str (pa_cons (pe_lstS (pa_cons pe_int pa_nil)) (pa_cons (pe_op op_add (pe_op op_add (pe_op op_pow pe_int pe_int) pe_int) (pv 2)) (pa_cons (pe_op op_sub (pe_un un_neg pe_int) (pv 2)) (pa_cons pe_bl pa_nil)))))))))) (pe_op op_mod (pv 2) pe_int)))
        (pss_cons (ps_if (PW.pt (pw_and (pt_cmpR op_lt (pe_callB call_len_seq rfl G.len boot_len (pa_cons (pv 1) pa_nil)) pe_int (nomark _)) (pw_and1 (pt_cmpR op_eq (pe_op op_mod (pv 0) pe_int) pe_int (nomark _))))) (pss_one (ps_ret (pe_op op_catS (pe_op op_catS (pe_slice sl_list (pv 1) po_none (po_some (pv 4))) (pe_lstS (pa_cons (pv 3) pa_nil))) (pe_slice sl_list (pv 1) (po_some (pv 4)) po_none)))) pss_nil)
        (pss_one (ps_ret (pe_op op_catS (pe_op op_catS (pe_slice sl_list (pv 1) po_none (po_some (pv 4))) (pe_lstS (pa_cons (pv 3) pa_nil))) (pe_slice sl_list (pv 1) (po_some (pe_op op_add (pv 4) pe_int)) po_none)))))))))), ?_⟩
    refine ⟨_, rfl, _, _, rfl, rfl, ⟨by decide, by decide⟩, ?_⟩
    refine ⟨_, rfl, l, _, rfl, .inl ⟨SqL.of hl, fun p1 hp1 => ?_⟩⟩
    have s1 : Same H (upd H p1 (.tup (ws.map V.int))) := Same.upd hp1
    have f1 : (upd H p1 (.tup (ws.map V.int))) p1 = some (.tup (ws.map V.int)) := upd_same
    generalize upd H p1 (.tup (ws.map V.int)) = H1 at s1 f1 ⊢
    refine ⟨lenOk rfl, fun p2 H2 s2 _ f2 => ⟨lenOk rfl, fun p3 H3 s3 _ f3 => ⟨lenOk rfl, fun p4 H4 s4 _ f4 => ?_⟩⟩⟩
    refine ⟨p4, _, _, rfl, rfl, f4, by decide, by decide, lenOk rfl, fun p5 H5 s5 _ f5 => ⟨lenOk rfl, fun p6 H6 s6 _ f6 => ?_⟩⟩
    refine ⟨p6, _, _, rfl, rfl, f6, by decide, by decide, lenOk rfl, fun p7 H7 s7 _ f7 => fun p8 hp8 => ⟨upd_same, [(.inl 0, .int 1)], rfl, by decide, ?_⟩⟩
    have s8 : Same H7 (upd (upd H7 p8 (.dK [])) p8 (.dK (mergeK [] [(.inl 0, .int 1)]))) := by rw [upd_upd]; exact Same.upd hp8
    have f8 : (upd (upd H7 p8 (.dK [])) p8 (.dK (mergeK [] [(.inl 0, .int 1)]))) p8 = some (.dK (mergeK [] [(.inl 0, .int 1)])) := upd_same
    generalize upd (upd H7 p8 (.dK [])) p8 (.dK (mergeK [] [(.inl 0, .int 1)])) = H8 at s8 f8 ⊢
    have S8 : Same H H8 := ((((((s1.trans s2).trans s3).trans s4).trans s5).trans s6).trans s7).trans s8
    have e8 : ((ws.map V.int).length : Int) = ws.length := by rw [List.length_map]
    refine ⟨lenOk rfl, fun p9 H9 s9 _ f9 => ⟨_, rfl, l, _, rfl, .inl (SqL.of (s9 _ _ (S8 _ _ hl))), p9, _, _, rfl, rfl, f9, by omega, by rw [e8]; omega, ?_, fun p10 H10 s10 _ f10 => ?_⟩⟩
    · rw [e8, Int.toNat_natCast, sizeLine_eq]
      show 1 * ws.length ≤ _
      omega
    rw [rep_one, e8, Int.toNat_natCast] at f10
    refine ⟨lenOk rfl, fun p11 H11 s11 _ f11 => ?_⟩
    have t10 := s10.trans s11
    have t9 := s9.trans t10
    have t8 := s8.trans t9
    have t7 := s7.trans t8
    have t6 := s6.trans t7
    have t5 := s5.trans t6
    have t4 := s4.trans t5
    have t3 := s3.trans t4
    have t2 := s2.trans t3
    have S11 : Same H H11 := s1.trans t2
    have hm := Int.ediv_nonneg hn (show (0 : Int) ≤ 16 by decide)
    obtain ⟨v, ev, mv⟩ := at_any (xs := [V.non, V.ref p1, V.ref p2, V.ref p3, V.ref p5, V.ref p7, V.str "12", V.int 5, V.ref p8, V.ref p10]) (i := n / 16 % 10) (by omega) (by show _ < ((10 : Nat) : Int); omega)
    have bv : BadW K H11 v := by
      simp only [List.mem_cons, List.not_mem_nil, or_false] at mv
      rcases mv with rfl | rfl | rfl | rfl | rfl | rfl | rfl | rfl | rfl | rfl
      · exact .inl nl_none
      · exact .inl (nl_tup (t2 _ _ f1))
      · exact bad_nought (n := 0) (t3 _ _ f2) (by decide)
      · exact bad_nought (n := 1) (t4 _ _ f3) (by decide)
      · exact bad_nought (n := 50) (t6 _ _ f5) (by decide)
      · exact .inr ⟨p7, _, rfl, t8 _ _ f7, .inl (by decide)⟩
      · exact .inl (nl_str _)
      · exact .inl (nl_int _)
      · exact .inl (nl_dK (t9 _ _ f8))
      · exact bad_nought (n := ws.length) (s11 _ _ f10) g1
    refine ⟨_, rfl, _, _, rfl, rfl, (by show (0 : Int) < 10; decide), p11, _, _, _, rfl, rfl, SqL.of f11, ev, ?_⟩
    refine ⟨_, rfl, _, _, rfl, rfl, (by show (0 : Int) < 16; decide), _, _, rfl, rfl, _, rfl, ite2 (fun e => ?_) (fun e => ?_)⟩
    · exact ⟨_, rfl, q _ _ S11 bv⟩
    refine ⟨_, rfl, _, _, rfl, rfl, ⟨by decide, by decide⟩, _, rfl, l, _, rfl, .inl (SqL.of (S11 _ _ hl)), _, _, rfl, rfl, _, _, rfl, rfl, (by omega), ?_⟩
    refine ⟨_, rfl, _, _, rfl, rfl, ⟨by decide, by decide, by decide⟩, _, _, rfl, rfl, lenOk rfl, fun p12 H12 s12 _ f12 => ?_⟩
    refine ⟨_, _, rfl, rfl, ⟨by decide, by decide, by decide⟩, _, _, rfl, rfl, _, rfl, _, _, rfl, rfl, _, rfl, _, rfl, _, _, rfl, rfl, lenOk rfl, fun p13 H13 s13 _ f13 => ?_⟩
    obtain ⟨y, ey, my⟩ := at_any (xs := [V.int (-1), V.int (10 ^ (9 : Int).toNat + 1), V.bl true, V.non, V.str "1", V.ref p12, V.int (10 ^ (9 : Int).toNat + 1 + n / 16), V.int (-1 - n / 16), V.bl false]) (i := n / 16 % 9) (by omega) (by show _ < ((9 : Nat) : Int); omega)
    have b9 : (10 : Int) ^ (9 : Int).toNat = 1000000000 := by decide
    have bi : ∀ z : Int, ¬ (0 ≤ z ∧ z ≤ 1000000000) → inW (.int z) = false := fun z h => decide_eq_false h
    have by1 : Item K H13 y ∧ inW y = false := by
      simp only [List.mem_cons, List.not_mem_nil, or_false] at my
      rcases my with rfl | rfl | rfl | rfl | rfl | rfl | rfl | rfl | rfl
      · exact ⟨.inr ⟨_, rfl⟩, rfl⟩
      · exact ⟨.inr ⟨_, rfl⟩, bi _ (by rw [b9]; omega)⟩
      · exact ⟨.inl (nn_bl _), rfl⟩
      · exact ⟨.inl nn_none, rfl⟩
      · exact ⟨.inl (nn_str _), rfl⟩
      · exact ⟨.inl (nn_lst (s13 _ _ f12)), rfl⟩
      · exact ⟨.inr ⟨_, rfl⟩, bi _ (by rw [b9]; omega)⟩
      · exact ⟨.inr ⟨_, rfl⟩, bi _ (by omega)⟩
      · exact ⟨.inl (nn_bl _), rfl⟩
    have S13 : Same H H13 := (S11.trans s12).trans s13
    have h13 := S13 _ _ hl
    have len : ∀ lo hi, (cutV (ws.map V.int) lo hi).length ≤ 50 := fun lo hi => Nat.le_trans (cutV_length _ _ _) (by rw [List.length_map]; exact g1)
    have ends : ∀ (H14 : Hp) (p : Addr) (a1 b1 a2 b2 : Option Int), Same H13 H14 → H14 p = some (.lst (cutV (ws.map V.int) a1 b1 ++ [y] ++ cutV (ws.map V.int) a2 b2)) → Q (.ref p) H14 := fun H14 p a1 b1 a2 b2 s14 e14 => by
      refine q _ _ (S13.trans s14) (bad_any e14 (fun x hx => ?_) (y := y) (by simp) by1.2)
      have it : ∀ x ∈ ws.map V.int, Item K H14 x := fun x hx => by
        obtain ⟨k, _, rfl⟩ := List.mem_map.mp hx
        exact .inr ⟨k, rfl⟩
      rcases List.mem_append.mp hx with hx | hx
      · rcases List.mem_append.mp hx with hx | hx
        · exact it x (cut_sub x hx)
        · rw [List.mem_singleton.mp hx]; exact item_same s14 by1.1
      · exact it x (cut_sub x hx)
    refine ⟨_, rfl, _, _, rfl, rfl, (by show (0 : Int) < 9; decide), p13, _, _, _, rfl, rfl, SqL.of f13, ey, ?_⟩
    refine ⟨_, rfl, l, _, rfl, .inl (SqL.of h13), _, _, rfl, rfl, _, rfl, ite2 (fun e1 => ?_) (fun e1 => iteF ?_)⟩
    · refine ⟨_, rfl, _, _, rfl, rfl, (by show (0 : Int) < 2; decide), rfl, _, rfl, ite2 (fun e2 => ?_) (fun e2 => ?_)⟩
      · walk_at "nblockA"
      · walk_at "nblockB"
    · walk_at "nblockB"
end
end K02
set_option Elab.async false
set_option linter.all false
set_option maxRecDepth 100000
set_option maxHeartbeats 1000000
namespace K02
open PySem L2
seal PE PA PT PW PS PSs PG PGs PI PIf PO PK
section
variable {P : Program} {w : World} {K : PySem.W.Frag} {mg : Str → Option Value} {base : Heap} {f : Addr} {fd : FuncData} {cA cS T : Addr} {d : Nat → Addr} {cR : Addr}
local macro_rules | `(tactic| walk_at "sc") => `(tactic| exact ⟨rfl, rfl, rfl, by decide +kernel, rfl, by decide +kernel, by decide +kernel⟩)
def sp_fits : Sp := fun vs H Q _ => ∃ z l r, ∃ ws : List Int, vs = [.int z, .ref l, .ref r] ∧ H l = some (.lst (ws.map V.int)) ∧ GoodW ws ∧ H r = some (.lst ((splitZ z ws).map V.int)) ∧ ∀ H', Same H H' → Q (.bl true) H'
def sp_law (K : PySem.W.Frag) (T : Addr) : Sp := fun vs H Q _ => ∃ a, ∃ ns : List Int, vs = [.ref a] ∧ SqL K H a (ns.map V.int) ∧ LamTab H T lpos lqual ∧ ∀ H', Q (.bl true) H'
theorem tab_ne {H : Hp} {T b : Addr} {o : HO} (t : LamTab H T lpos lqual) (e : H b = some o) (h : ∀ ps, o ≠ .tbl ps) : b ≠ T := fun z => by
  obtain ⟨ps, e', _⟩ := t
  rw [z, e'] at e
  exact h ps (Option.some.inj e).symm
theorem nx_lst {H H' : Hp} {T b : Addr} {xs : List V} (t : LamTab H T lpos lqual) (nx : LamNext H H' T) (e : H b = some (.lst xs)) : H' b = some (.lst xs) := nx _ _ (tab_ne t e fun _ z => nomatch z) e
theorem nx_seq {H H' : Hp} {T b : Addr} {xs : List V} (t : LamTab H T lpos lqual) (nx : LamNext H H' T) (e : SqL K H b xs) : SqL K H' b xs := by
  rcases e with (e | ⟨o, e⟩) | e
  · exact .inl (.inl (nx_lst t nx e))
  · exact .inl (.inr ⟨o, nx _ _ (tab_ne t e fun _ z => nomatch z) e⟩)
  · exact .inr e
theorem up_seq {H : Hp} {b f : Addr} {xs : List V} {o : HO} (n : ∀ u, H b = some u → b ≠ f) (e : SqL K H b xs) : SqL K (upd H f o) b xs := by
  rcases e with (e | ⟨q, e⟩) | e
  · exact .inl (.inl (by rw [upd_ne (n _ e)]; exact e))
  · exact .inl (.inr ⟨q, by rw [upd_ne (n _ e)]; exact e⟩)
  · exact .inr e
theorem flat_ints (zs : List Int) : (zs.map V.int).all flatV = true := List.all_eq_true.mpr fun x hx => by
  obtain ⟨k, _, rfl⟩ := List.mem_map.mp hx
  rfl
theorem eq_ints (zs : List Int) : eqVs (zs.map V.int) (zs.map V.int) = true := by
  unfold eqVs
  rw [Bool.and_eq_true]
  refine ⟨by simp, List.all_eq_true.mpr fun j hj => ?_⟩
  have hj' : j < zs.length := by simpa using hj
  rw [List.getD_eq_getElem?_getD, List.getElem?_map, List.getElem?_eq_getElem hj']
  show eqV (.int _) (.int _) = true
  simp [eqV]
theorem ok_law (F : Fun K "law" "law" (top 35) f fd) (G : Glb mg) (Cm : Cal P w K mg base CX0 2 "_law_mixed" ["_law_script", "_law_k"] (sp_mixed K)) (Ca : Cal P w K mg base CX0 1 "_law_amount" ["_law_number"] sp_amount)
    (Cw : Cal P w K mg base CX0 3 "_law_weights" ["_law_script"] (sp_weights K)) (Ct : Cal P w K mg base CX0 5 "_law_tried" ["_law_amount_here", "_law_weights_here"] (sp_tried K T)) (Cf : Cal P w K mg base CX0 2 "_law_fits" ["_law_amount_here", "_law_weights_here", "_law_found"] sp_fits)
    (Cs : Cal P w K mg base (CXE P w) 4 "split" ["amount", "weights"] (sp_split K (d 0) (d 1) T)) (Cn : Cal P w K mg base CX0 1 "_law_none" ["_law_number", "_law_weights_here"] (sp_none K)) : FnOk P w K mg base CX0 6 f fd ["_law_script"] (sp_law K T) := by
  have nd : (["_law_script", "_law_amount_here", "_law_weights_here", "_law_handed", "_law_found", "_law_kept", "_law_none_here", "_law_odd"] : List Str).Nodup := by decide +kernel
  refine F.ok (N := ["_law_script", "_law_amount_here", "_law_weights_here", "_law_handed", "_law_found", "_law_kept", "_law_none_here", "_law_odd"]) (by walk_at "sc") (fun vs H Q E h => ?_) (fun cdv A outer s H vs Q E hr h => ?_)
  · obtain ⟨a, ns, rfl, _⟩ := h
    rfl
  · obtain ⟨a, ns, rfl, hs, t0, q⟩ := h
    have hu := hr.units0
    refine ⟨_, (pss_cons (ps_set (i := 1) nd rfl (Or.inl rfl) (pe_cal Ca hr (by decide) pass0 (pa_cons (pe_cal Cm hr (by decide) pass0 (pa_cons (pv 0) (pa_cons pe_int pa_nil))) pa_nil)))
        (pss_cons (ps_set (i := 2) nd rfl (Or.inl rfl) (pe_cal Cw hr (by decide) pass0 (pa_cons (pv 0) pa_nil)))
        (pss_cons (ps_set (i := 3) nd rfl (Or.inl rfl) (pe_callTy call_list_of rfl G.list boot_list (pa_cons (pv 2) pa_nil)))
        (pss_cons (ps_set (i := 4) nd rfl (Or.inl rfl) (pe_cal Ct hr (by decide) pass0 (pa_cons (pv 1) (pa_cons (pv 3) pa_nil))))
        (pss_cons (ps_if (PW.pt (pw_or (pt_not (pt_val (pe_cal Cf hr (by decide) pass0 (pa_cons (pv 1) (pa_cons (pv 2) (pa_cons (pv 4) pa_nil)))))) (pw_or1 (pt_cmpR (op_neL hu) (pv 3) (pv 2) (nomark _))))) (pss_one (ps_ret pe_bl)) pss_nil)
        (pss_cons (ps_set (i := 5) nd rfl (Or.inl rfl) (pe_callTy call_list_of rfl G.list boot_list (pa_cons (pv 4) pa_nil)))
        (pss_cons (ps_expr (pe_bm PySem.F.plainAttrs_list PySem.F.slot_list_append PySem.F.type_list_append mt_append (pv 4) (pa_cons pe_int pa_nil)))
        (pss_cons (ps_if (PW.pt (pw_or (pt_cmpR (op_neL hu) (pe_cal Cs hr (by decide) passF (pa_cons (pv 1) (pa_cons (pv 3) pa_nil))) (pv 5) (nomark _)) (pw_or1 (pt_cmpR (op_neL hu) (pv 4) (pe_op op_catS (pv 5) (pe_lstS (pa_cons pe_int pa_nil))) (nomark _))))) (pss_one (ps_ret pe_bl)) pss_nil)
        (pss_cons (ps_set (i := 6) nd rfl (Or.inl rfl) (pe_cal Cn hr (by decide) pass0 (pa_cons (pe_cal Cm hr (by decide) pass0 (pa_cons (pv 0) (pa_cons pe_int pa_nil))) (pa_cons (pv 2) pa_nil))))
        (pss_cons (ps_if (pt_cmpR (op_neL hu) (pe_cal Ct hr (by decide) pass0 (pa_cons (pv 1) (pa_cons (pv 6) pa_nil))) (pe_lstS (pa_cons pe_str (pa_cons pe_str pa_nil))) (nomark _)) (pss_one (ps_ret pe_bl)) pss_nil)
        (pss_cons (ps_set (i := 7) nd rfl (Or.inl rfl) (pe_at ix_list (pe_lstS (pa_cons pe_non (pa_cons pe_bl (pa_cons pe_str (pa_cons (pe_lstS (pa_cons pe_int pa_nil)) (pa_cons (pe_tupS pa_nil) (pa_cons pe_bl (pa_cons pe_dnewS (pa_cons pe_str pa_nil))))))))) (pe_op op_mod (pe_cal Cm hr (by decide) pass0 (pa_cons (pv 0) (pa_cons pe_int pa_nil))) pe_int)))
        (pss_cons (ps_if (PW.pt (pw_or (pt_cmpR (op_neL hu) (pe_cal Ct hr (by decide) pass0 (pa_cons (pv 7) (pa_cons (pv 2) pa_nil))) (pe_lstS (pa_cons pe_str (pa_cons pe_str pa_nil))) (nomark _)) (pw_or1 (pt_cmpR (op_neL hu) (pe_cal Ct hr (by decide) pass0 (pa_cons (pv 7) (pa_cons (pv 6) pa_nil))) (pe_lstS (pa_cons pe_str (pa_cons pe_str pa_nil))) (nomark _))))) (pss_one (ps_ret pe_bl)) pss_nil)
        (pss_cons (ps_expr (pe_bm PySem.F.plainAttrs_list PySem.F.slot_list_append PySem.F.type_list_append mt_append (pv 3) (pa_cons pe_int pa_nil)))
        (pss_one (ps_ret (pe_cal Cf hr (by decide) pass0 (pa_cons (pv 1) (pa_cons (pv 2) (pa_cons (pe_cal Cs hr (by decide) passF (pa_cons (pv 1) (pa_cons (pv 2) pa_nil))) pa_nil))))))))))))))))))), ?_⟩
    refine ⟨_, rfl, a, 0, ns, rfl, hs, by decide, by decide, _, rfl, mixZ_nn _ _, (by have := mixZ_lt ns 0; omega), fun z H1 s1 => ?_⟩
    refine ⟨_, rfl, a, ns, rfl, s1.seq hs, fun l H2 ws s2 n2 f2 gw => ?_⟩
    have S2 := s1.trans s2
    have wl : (ws.map V.int).length ≤ 50 := by rw [List.length_map]; exact gw.1
    refine ⟨_, rfl, l, _, rfl, .inl (SqL.of f2), fun hd nh => ?_⟩
    have s3 : Same H2 (upd H2 hd (.lst (ws.map V.int))) := Same.upd nh
    have f3 : (upd H2 hd (.lst (ws.map V.int))) hd = some (.lst (ws.map V.int)) := upd_same
    generalize upd H2 hd (.lst (ws.map V.int)) = H3 at s3 f3 ⊢
    have w3 := s3 _ _ f2
    have S3 := S2.trans s3
    have t3 := lamTab_same S3 t0
    refine ⟨_, rfl, _, rfl, _, _, rfl, .inr ⟨z, ws, rfl, ⟨hd, rfl, f3, gw, t3⟩, fun fo H4 nx4 t4 n4 f4 => ?_⟩⟩
    have w4 := nx_lst t3 nx4 w3
    have h4 := nx_lst t3 nx4 f3
    have q4 := nx_seq t3 nx4 (S3.seq hs)
    refine ⟨_, rfl, _, rfl, _, rfl, z, l, fo, ws, rfl, w4, gw, f4, fun H5 s5 => ⟨true, rfl, iteF ⟨_, rfl, _, rfl, hd, l, _, _, rfl, rfl, SqL.of (s5 _ _ h4), SqL.of (s5 _ _ w4), flat_ints _, flat_ints _, _, rfl, ?_⟩⟩⟩
    rw [eq_ints]
    have f5 := s5 _ _ f4
    have sl : ((splitZ z ws).map V.int).length ≤ 50 := by
      rw [List.length_map]
      unfold splitZ
      rw [bumps_len]
      unfold lowsZ
      rw [List.length_map]
      exact gw.1
    refine iteF ⟨_, rfl, fo, _, rfl, .inl (SqL.of f5), fun k nk => ?_⟩
    have s6 : Same H5 (upd H5 k (.lst ((splitZ z ws).map V.int))) := Same.upd nk
    have k6 : (upd H5 k (.lst ((splitZ z ws).map V.int))) k = some (.lst ((splitZ z ws).map V.int)) := upd_same
    generalize upd H5 k (.lst ((splitZ z ws).map V.int)) = H6 at s6 k6 ⊢
    have f6 := s6 _ _ f5
    have S6 := s5.trans s6
    have t6 := lamTab_same S6 t4
    have w6 := S6 _ _ w4
    have h6 := S6 _ _ h4
    have q6 := S6.seq q4
    have lf : l ≠ fo := ne_of_none w3 n4
    have hf : hd ≠ fo := ne_of_none f3 n4
    have kf : k ≠ fo := fun y => by rw [y, f5] at nk; cases nk
    refine ⟨_, rfl, .inl ⟨rfl, _, SqL.of f6⟩, fo, _, _, rfl, rfl, f6, by rw [sizeLine_eq]; omega, ?_⟩
    have t7 := lamTab_put (ys := (splitZ z ws).map V.int ++ [V.int 1]) f6 t6
    have w7 : (upd H6 fo (.lst ((splitZ z ws).map V.int ++ [V.int 1]))) l = some (.lst (ws.map V.int)) := by rw [upd_ne lf]; exact w6
    have h7 : (upd H6 fo (.lst ((splitZ z ws).map V.int ++ [V.int 1]))) hd = some (.lst (ws.map V.int)) := by rw [upd_ne hf]; exact h6
    have k7 : (upd H6 fo (.lst ((splitZ z ws).map V.int ++ [V.int 1]))) k = some (.lst ((splitZ z ws).map V.int)) := by rw [upd_ne kf]; exact k6
    have f7 : (upd H6 fo (.lst ((splitZ z ws).map V.int ++ [V.int 1]))) fo = some (.lst ((splitZ z ws).map V.int ++ [V.int 1])) := upd_same
    have q7 : SqL K (upd H6 fo (.lst ((splitZ z ws).map V.int ++ [V.int 1]))) a (ns.map V.int) := by
      rcases hs with hs' | hk
      · refine up_seq (fun u e y => ?_) q6
        rcases hs' with e' | ⟨o, e'⟩
        · have e2 := S3 _ _ e'
          rw [y, n4] at e2; cases e2
        · have e2 := S3 _ _ e'
          rw [y, n4] at e2; cases e2
      · exact .inr hk
    generalize upd H6 fo (.lst ((splitZ z ws).map V.int ++ [V.int 1])) = H7 at t7 w7 h7 k7 f7 q7 ⊢
    refine ⟨_, rfl, _, rfl, _, _, rfl, .inr ⟨z, rfl, .inr ⟨hd, ws, rfl, h7, gw, t7, fun g H8 nx8 t8 n8 g8 => ?_⟩⟩⟩
    have k8 := nx_lst t7 nx8 k7
    have f8 := nx_lst t7 nx8 f7
    have w8 := nx_lst t7 nx8 w7
    have h8 := nx_lst t7 nx8 h7
    have q8 := nx_seq t7 nx8 q7
    refine ⟨_, rfl, g, k, _, _, rfl, rfl, SqL.of g8, SqL.of k8, flat_ints _, flat_ints _, _, rfl, ?_⟩
    rw [eq_ints]
    have e1 : (splitZ z ws).map V.int ++ [V.int 1] = (splitZ z ws ++ [1]).map V.int := by rw [List.map_append]; rfl
    refine iteF ⟨_, rfl, _, rfl, lenOk rfl, fun o1 H9 s9 _ g9 => ⟨k, o1, _, _, rfl, rfl, s9 _ _ k8, g9, by rw [sizeLine_eq]; show _ + 1 ≤ _; omega, fun o2 H10 s10 _ g10 => ?_⟩⟩
    have S10 := s9.trans s10
    refine ⟨fo, o2, _, _, rfl, rfl, SqL.of (S10 _ _ f8), SqL.of g10, by rw [e1]; exact flat_ints _, by rw [e1]; exact flat_ints _, _, rfl, ?_⟩
    rw [e1, eq_ints]
    have w10 := S10 _ _ w8
    refine iteF ⟨_, rfl, a, 54, ns, rfl, S10.seq q8, by decide, by decide, _, rfl, _, l, ws, rfl, mixZ_nn _ _, w10, gw, fun no H11 s11 bn => ?_⟩
    have S11 := S10.trans s11
    refine ⟨_, rfl, _, rfl, _, _, rfl, .inl ⟨1, .inr ⟨rfl, z, rfl, bn⟩, fun r1 H12 s12 g12 => ?_⟩⟩
    refine ⟨lenOk rfl, fun o3 H13 s13 _ g13 => ⟨r1, o3, _, _, rfl, rfl, SqL.of (s13 _ _ g12), SqL.of g13, rfl, rfl, _, rfl, ?_⟩⟩
    rw [eq_word1]
    have S13 := (S11.trans s12).trans s13
    have bn13 := badW_same (s12.trans s13) bn
    refine iteF ⟨lenOk rfl, fun p1 H14 s14 _ g14 => ⟨lenOk rfl, fun p2 H15 s15 _ g15 => fun p3 H16 s16 _ g16 => ⟨lenOk rfl, fun p4 H17 s17 _ g17 => ?_⟩⟩⟩
    have S17 : Same H13 H17 := ((s14.trans s15).trans s16).trans s17
    obtain ⟨v, ev, mv⟩ := at_any (xs := [V.non, V.bl true, V.str "5", V.ref p1, V.ref p2, V.bl false, V.ref p3, V.str "1.00"]) (i := mixZ ns 55 % 8) (by have := mixZ_nn ns 55; omega) (by show _ < ((8 : Nat) : Int); omega)
    have nn : NoNum K H17 v := by
      simp only [List.mem_cons, List.not_mem_nil, or_false] at mv
      rcases mv with rfl | rfl | rfl | rfl | rfl | rfl | rfl | rfl
      · exact nn_none
      · exact nn_bl _
      · exact nn_str _
      · exact nn_lst (s17 _ _ (s16 _ _ (s15 _ _ g14)))
      · exact nn_tup (s17 _ _ (s16 _ _ g15))
      · exact nn_bl _
      · exact nn_dK (s17 _ _ g16)
      · exact nn_str _
    refine ⟨_, rfl, a, 55, ns, rfl, (S13.trans S17).seq q8, by decide, by decide, _, _, rfl, rfl, (by show (0 : Int) < 8; decide), p4, _, _, _, rfl, rfl, SqL.of g17, ev, ?_⟩
    refine ⟨_, rfl, _, rfl, _, _, rfl, .inl ⟨0, .inl ⟨rfl, nn⟩, fun r2 H18 s18 g18 => ⟨lenOk rfl, fun o4 H19 s19 _ g19 => ⟨r2, o4, _, _, rfl, rfl, SqL.of (s19 _ _ g18), SqL.of g19, rfl, rfl, _, rfl, ?_⟩⟩⟩⟩
    rw [eq_word0]
    have S19 := s18.trans s19
    refine iteF ⟨_, rfl, _, rfl, _, _, rfl, .inl ⟨0, .inl ⟨rfl, nn.same S19⟩, fun r3 H20 s20 g20 => ⟨lenOk rfl, fun o5 H21 s21 _ g21 => ⟨r3, o5, _, _, rfl, rfl, SqL.of (s21 _ _ g20), SqL.of g21, rfl, rfl, _, rfl, ?_⟩⟩⟩⟩
    rw [eq_word0]
    have S21 := (((S13.trans S17).trans S19).trans s20).trans s21
    have h21 := S21 _ _ h8
    have w21 := S21 _ _ w8
    have t21 := lamTab_same S21 t8
    refine iteF ⟨_, rfl, .inl ⟨rfl, _, SqL.of h21⟩, hd, _, _, rfl, rfl, h21, by rw [sizeLine_eq]; omega, ?_⟩
    have lh : l ≠ hd := fun y => by rw [← y, f2] at nh; cases nh
    have t22 := lamTab_put (ys := ws.map V.int ++ [V.int 7]) h21 t21
    have w22 : (upd H21 hd (.lst (ws.map V.int ++ [V.int 7]))) l = some (.lst (ws.map V.int)) := by rw [upd_ne lh]; exact w21
    refine ⟨_, rfl, _, rfl, _, rfl, _, rfl, _, _, rfl, .inr ⟨z, rfl, .inr ⟨l, ws, rfl, w22, gw, t22, fun g2 H23 nx23 t23 n23 g23 => ?_⟩⟩⟩
    exact ⟨z, l, g2, ws, rfl, nx_lst t22 nx23 w22, gw, g23, fun H24 _ => q H24⟩
end
end K02
set_option Elab.async false
set_option linter.all false
set_option maxRecDepth 100000
set_option maxHeartbeats 1000000
namespace SS
theorem iput_perm (k : Nat → Int) (x : Nat) (l : List Nat) : (iput k x l).Perm (l ++ [x]) := by
  unfold iput
  refine List.perm_middle.trans ?_
  rw [List.takeWhile_append_dropWhile]
  exact (List.perm_append_singleton x l).symm
theorem iord_perm (k : Nat → Int) (l : List Nat) : (iord k l).Perm l := by
  have : ∀ (l acc : List Nat), (l.foldl (fun acc x => iput k x acc) acc).Perm (acc ++ l) := by
    intro l
    induction l with
    | nil => intro acc; simp
    | cons x r ih =>
      intro acc
      rw [List.foldl_cons]
      refine (ih _).trans ?_
      have := (iput_perm k x acc).append_right r
      simpa using this
  have q := this l []
  rw [List.nil_append] at q
  exact q

theorem iord_same {k k' : Nat → Int} {n : Nat} (h : ∀ y x, y < x → x < n → (k y ≤ k x ↔ k' y ≤ k' x)) : ∀ m, m ≤ n → iord k (List.range m) = iord k' (List.range m)
  | 0, _ => rfl
  | m + 1, hm => by
    have ih := iord_same h m (by omega)
    have e : ∀ k : Nat → Int, iord k (List.range (m + 1)) = iput k m (iord k (List.range m)) := fun k => by
      unfold iord
      rw [List.range_succ, List.foldl_append]
      rfl
    rw [e, e, ← ih]
    unfold iput
    have c : ∀ l : List Nat, (∀ y ∈ l, y < m) → l.takeWhile (fun y => decide (k y ≤ k m)) = l.takeWhile (fun y => decide (k' y ≤ k' m)) ∧ l.dropWhile (fun y => decide (k y ≤ k m)) = l.dropWhile (fun y => decide (k' y ≤ k' m)) := by
      intro l
      induction l with
      | nil => intro _; exact ⟨rfl, rfl⟩
      | cons y r ih2 =>
        intro hl
        have hy := h y m (hl y List.mem_cons_self) (by omega)
        obtain ⟨i1, i2⟩ := ih2 fun z hz => hl z (List.mem_cons_of_mem _ hz)
        have ed : decide (k y ≤ k m) = decide (k' y ≤ k' m) := decide_eq_decide.mpr hy
        simp only [List.takeWhile_cons, List.dropWhile_cons, ed, i1, i2, and_self]
    obtain ⟨c1, c2⟩ := c (iord k (List.range m)) fun y hy => List.mem_range.mp ((iord_perm k _).mem_iff.mp hy)
    rw [c1, c2]
end SS
namespace K02
open PySem L2
theorem getD_set {l : List Int} {i j : Nat} {v : Int} : (l.set i v).getD j 0 = if i = j ∧ j < l.length then v else l.getD j 0 := by
  rw [List.getD_eq_getElem?_getD, List.getElem?_set, List.getD_eq_getElem?_getD]
  by_cases e : i = j
  · subst e
    by_cases hl : i < l.length
    · simp [hl]
    · simp [hl]
  · simp [e]

theorem bumps_get : ∀ (o : List Nat) (l : List Int) (j : Nat), o.Nodup → j < l.length → (o.foldl bump l).getD j 0 = l.getD j 0 + (if j ∈ o then 1 else 0)
  | [], l, j, _, _ => by simp
  | i :: o, l, j, nd, hj => by
    obtain ⟨n1, n2⟩ := List.nodup_cons.mp nd
    rw [List.foldl_cons, bumps_get o (bump l i) j n2 (by rw [bump_len]; exact hj)]
    unfold bump
    rw [getD_set]
    by_cases e : i = j
    · subst e
      rw [if_pos ⟨rfl, hj⟩, if_neg n1, if_pos List.mem_cons_self]
      omega
    · rw [if_neg (fun z => e z.1)]
      have : (j ∈ i :: o) ↔ j ∈ o := by simp [Ne.symm e]
      simp only [this]
theorem bump_sum : ∀ (l : List Int) (i : Nat), i < l.length → (bump l i).sum = l.sum + 1
  | [], _, h => by simp at h
  | x :: l, 0, _ => by
    show (x + 1 + l.sum : Int) = x + l.sum + 1
    omega
  | x :: l, i + 1, h => by
    have ih := bump_sum l i (by simpa using h)
    unfold bump at ih ⊢
    show x + (l.set i (l.getD i 0 + 1)).sum = x + l.sum + 1
    rw [ih]
    omega
theorem bumps_sum : ∀ (o : List Nat) (l : List Int), (∀ i ∈ o, i < l.length) → (o.foldl bump l).sum = l.sum + o.length
  | [], l, _ => by simp
  | i :: o, l, h => by
    rw [List.foldl_cons, bumps_sum o (bump l i) (fun j hj => by rw [bump_len]; exact h j (List.mem_cons_of_mem _ hj)), bump_sum l i (h i List.mem_cons_self), List.length_cons]
    omega
theorem ord_len (z : Int) (ws : List Int) : (ordZ z ws).length = ws.length := by
  unfold ordZ
  rw [(SS.iord_perm _ _).length_eq, List.length_range]
theorem ord_nodup (z : Int) (ws : List Int) : (ordZ z ws).Nodup := (SS.iord_perm _ _).nodup_iff.mpr List.nodup_range
theorem low_len (z : Int) (ws : List Int) : (lowsZ z ws ws.sum).length = ws.length := by unfold lowsZ; rw [List.length_map]

theorem split_get {z : Int} {ws : List Int} {i : Nat} (hi : i < ws.length) : (splitZ z ws).getD i 0 = (lowsZ z ws ws.sum).getD i 0 + (if i ∈ (ordZ z ws).take (leftZ z ws).toNat then 1 else 0) :=
  bumps_get _ _ i ((ord_nodup z ws).sublist (List.take_sublist _ _)) (by rw [low_len]; exact hi)
theorem split_sum {z : Int} {ws : List Int} (h : 0 < ws.sum) : (splitZ z ws).sum = z := by
  obtain ⟨l1, l2⟩ := left_nn (z := z) h
  unfold splitZ
  rw [bumps_sum _ _ fun i hi => by rw [low_len]; exact iord_lt i (List.mem_of_mem_take hi)]
  rw [List.length_take, ord_len]
  unfold leftZ at *
  omega

theorem ahead {z : Int} {ws : List Int} (h : 0 < ws.sum) : (ordZ z ws).map (fun i => (splitZ z ws).getD i 0 - (lowsZ z ws ws.sum).getD i 0) = List.replicate (leftZ z ws).toNat 1 ++ List.replicate (ws.length - (leftZ z ws).toNat) 0 := by
  obtain ⟨l1, l2⟩ := left_nn (z := z) h
  have e := List.take_append_drop (leftZ z ws).toNat (ordZ z ws)
  have nd := ord_nodup z ws
  rw [← e] at nd
  have dis := (List.nodup_append.mp nd).2.2
  have lt : ∀ i ∈ ordZ z ws, i < ws.length := fun i hi => iord_lt i hi
  conv => lhs; rw [← e]
  rw [List.map_append]
  congr 1
  · refine List.eq_replicate_iff.mpr ⟨by rw [List.length_map, List.length_take, ord_len]; omega, fun x hx => ?_⟩
    obtain ⟨i, hi, rfl⟩ := List.mem_map.mp hx
    rw [split_get (lt i (List.mem_of_mem_take hi)), if_pos hi]
    omega
  · refine List.eq_replicate_iff.mpr ⟨by rw [List.length_map, List.length_drop, ord_len], fun x hx => ?_⟩
    obtain ⟨i, hi, rfl⟩ := List.mem_map.mp hx
    rw [split_get (lt i (List.mem_of_mem_drop hi)), if_neg fun z => dis i z i hi rfl]
    omega

theorem ord_rank (z : Int) (ws : List Int) (h : ws.length ≤ 64) : ordZ z ws = SS.iord (fun i => keyZ z ws i * 64 + i) (List.range ws.length) := by
  refine SS.iord_same (n := ws.length) (fun y x hy hx => ?_) _ (Nat.le_refl _)
  show keyZ z ws y ≤ keyZ z ws x ↔ keyZ z ws y * 64 + y ≤ keyZ z ws x * 64 + x
  omega
end K02
set_option Elab.async false
set_option linter.all false
set_option maxRecDepth 100000
set_option maxHeartbeats 1000000
namespace K02
open PySem L2
seal PE PA PT PW PS PSs PG PGs PI PIf PO PK
section
variable {P : Program} {w : World} {K : PySem.W.Frag} {mg : Str → Option Value} {base : Heap} {f : Addr} {fd : FuncData} {cA cS T : Addr} {d : Nat → Addr} {cR : Addr}
local macro_rules | `(tactic| walk_at "sc") => `(tactic| exact ⟨rfl, rfl, rfl, by decide +kernel, rfl, by decide +kernel, by decide +kernel⟩)

def rSortT : List V → Hp → VK → Prop := fun xs H Q => ∃ (a : Addr) (ts : List V) (nsOf : Nat → List Int) (rk : Nat → Int), xs = [.ref a] ∧ H a = some (.lst ts) ∧ ts.length < 64 ∧
  (∀ i, i < ts.length → ∃ t, ts[i]? = some (.ref t) ∧ H t = some (.tup ((nsOf i).map V.int)) ∧ nsOf i ≠ []) ∧ (∀ i j, i < ts.length → j < ts.length → HT.lexLt (nsOf i) (nsOf j) = decide (rk i < rk j)) ∧
  New H (.lst ((SS.iord rk (List.range ts.length)).map fun i => ts.getD i .non)) Q
def triple (z : Int) (ws : List Int) (i : Nat) : List Int := [keyZ z ws i, i, (splitZ z ws).getD i 0 - (lowsZ z ws ws.sum).getD i 0]
theorem lex_rank {z : Int} {ws : List Int} {i j : Nat} (hi : i < 64) (hj : j < 64) : HT.lexLt (triple z ws i) (triple z ws j) = decide (keyZ z ws i * 64 + i < keyZ z ws j * 64 + j) := by
  unfold triple
  rw [HT.lexLt_cons, HT.lexLt_cons, HT.lexLt_cons, HT.lexLt_nil_nil]
  generalize keyZ z ws i = p
  generalize keyZ z ws j = q
  by_cases h1 : p = q
  · rw [if_pos h1]
    by_cases h2 : (i : Int) = (j : Int)
    · have h2' : i = j := by omega
      subst h2'
      rw [if_pos rfl, if_pos rfl]
      symm
      exact decide_eq_false (by omega)
    · rw [if_neg h2]
      exact decide_eq_decide.mpr (by omega)
  · rw [if_neg h1]
    exact decide_eq_decide.mpr (by omega)
theorem key_eq {z : Int} {ws : List Int} {i : Nat} (hi : i < ws.length) : z * ws.getD i 0 / ws.sum * ws.sum - z * ws.getD i 0 = keyZ z ws i := by
  unfold keyZ restsZ
  rw [List.getD_eq_getElem?_getD (l := ws.map _), List.getElem?_map, List.getD_eq_getElem?_getD, List.getElem?_eq_getElem hi]
  show z * ws[i] / ws.sum * ws.sum - z * ws[i] = -(z * ws[i] % ws.sum)
  have := Int.mul_ediv_add_emod (z * ws[i]) ws.sum
  rw [Int.mul_comm (z * ws[i] / ws.sum)]
  omega
theorem low_get {z : Int} {ws : List Int} {i : Nat} (hi : i < ws.length) : (lowsZ z ws ws.sum).getD i 0 = z * ws.getD i 0 / ws.sum := by
  unfold lowsZ
  rw [List.getD_eq_getElem?_getD, List.getElem?_map, List.getD_eq_getElem?_getD, List.getElem?_eq_getElem hi]
  rfl
theorem one_01 {z : Int} {ws : List Int} {i : Nat} (hi : i < ws.length) : (splitZ z ws).getD i 0 - z * ws.getD i 0 / ws.sum = 0 ∨ (splitZ z ws).getD i 0 - z * ws.getD i 0 / ws.sum = 1 := by
  rw [split_get hi, low_get hi]
  split <;> omega
theorem in01 {d : Int} (h : d = 0 ∨ d = 1) : inV (.int d) [.int 0, .int 1] = true := by
  rcases h with rfl | rfl <;> decide
theorem split_len (z : Int) (ws : List Int) : (splitZ z ws).length = ws.length := by
  unfold splitZ
  rw [bumps_len, low_len]
theorem sum_rep (c : Int) : ∀ n : Nat, (List.replicate n c).sum = c * n
  | 0 => by simp
  | n + 1 => by
    rw [List.replicate_succ, List.sum_cons, sum_rep c n, show ((n + 1 : Nat) : Int) = (n : Int) + 1 by omega, Int.mul_add, Int.mul_one]
    omega
theorem rep_c (c : Int) (n : Nat) : (List.replicate n [V.int c]).flatten = (List.replicate n c).map V.int := by
  induction n with
  | zero => rfl
  | succ n ih => rw [List.replicate_succ, List.replicate_succ, List.flatten_cons, ih]; rfl
theorem ok_fits (hS : ∀ X : Cx, X.calm = true → CallR X (.builtin "sorted") rSortT) (F : Fun K "_law_fits" "_law_fits" (top 33) f fd) (G : Glb mg) (C1 : Cal P w K mg base CX0 1 "_law_whole" ["_law_found"] sp_whole) : FnOk P w K mg base CX0 2 f fd ["_law_amount_here", "_law_weights_here", "_law_found"] sp_fits := by
  have nd : (["_law_amount_here", "_law_weights_here", "_law_found", "_law_whole_here", "_law_rests", "_law_k", "_law_low", "_law_ahead", "_law_many"] : List Str).Nodup := by decide +kernel
  have nc : (["_law_one"] : List Str).Nodup := by decide +kernel
  have nc3 : (["_law_rest", "_law_k", "_law_one"] : List Str).Nodup := by decide +kernel
  refine F.ok (N := ["_law_amount_here", "_law_weights_here", "_law_found", "_law_whole_here", "_law_rests", "_law_k", "_law_low", "_law_ahead", "_law_many"]) (by walk_at "sc") (fun vs H Q E h => ?_) (fun cdv A outer s H vs Q E hr h => ?_)
  · obtain ⟨z, l, r, ws, rfl, _⟩ := h
    rfl
  · obtain ⟨z, l, r, ws, rfl, hl, gw, hf, q⟩ := h
    have hu := hr.units0
    refine' ⟨_, (pss_cons (ps_if (PW.pt (pw_or (pt_not (pt_val (pe_callB call_isinst rfl G.isinstance boot_isinstance (pa_cons (pv 2) (pa_cons (pe_bltn (v := .ty "list") rfl G.list boot_list rfl) pa_nil))))) (pw_or (pt_cmpR op_ne (pe_callB call_len_seq rfl G.len boot_len (pa_cons (pv 2) pa_nil)) (pe_callB call_len_seq rfl G.len boot_len (pa_cons (pv 1) pa_nil)) (nomark _)) (pw_or1 (pt_not (pt_val (pe_callB (call_allL rfl) rfl G.all boot_all (pa_cons ?comp pa_nil)))))))) (pss_one (ps_ret pe_bl)) pss_nil)
        (pss_cons (ps_set (i := 3) nd rfl (Or.inl rfl) (pe_callB (call_sumL rfl) rfl G.sum boot_sum (pa_cons (pv 1) pa_nil)))
        (pss_cons (ps_set (i := 4) nd rfl (Or.inl rfl) (pe_lstS pa_nil))
        (pss_cons (ps_for PassesOwn.never rfl (pi_range1 rfl G.range (pa_cons (pe_callB call_len_seq rfl G.len boot_len (pa_cons (pv 1) pa_nil)) pa_nil)) (pg_name (i := 5) nd rfl (Or.inl rfl)) (pss_cons (ps_set (i := 6) nd rfl (Or.inl rfl) (pe_op op_fdivB (pe_op op_mul (pv 0) (pe_at ix_list (pv 1) (pv 5))) (pv 3)))
        (pss_cons (ps_if (pt_cmpR op_notIn_seq (pe_op op_sub (pe_at ix_list (pv 2) (pv 5)) (pv 6)) (pe_tupS (pa_cons pe_int (pa_cons pe_int pa_nil))) (by rfl)) (pss_one (ps_ret pe_bl)) pss_nil)
        (pss_one (ps_expr (pe_bm PySem.F.plainAttrs_list PySem.F.slot_list_append PySem.F.type_list_append mt_append (pv 4) (pa_cons (pe_tupS (pa_cons (pe_op op_sub (pe_op op_mul (pv 6) (pv 3)) (pe_op op_mul (pv 0) (pe_at ix_list (pv 1) (pv 5)))) (pa_cons (pv 5) (pa_cons (pe_op op_sub (pe_at ix_list (pv 2) (pv 5)) (pv 6)) pa_nil)))) pa_nil)))))))
        (pss_cons (ps_setC (i := 7) (Nc := ["_law_rest", "_law_k", "_law_one"]) (cl := []) (src := [none, none, none]) (wi := iList K (tCB rSortT (tCons (tVar 4) tNil))) (g := gTup K 3 (gCons (gName 0) (gCons (gName 1) (gCons (gName 2) gNil)))) (tt := tNoIf) (te := tVar 2) nd rfl rfl ?ck2 rfl (pi_list (pe_callB (hS _ rfl) rfl G.sorted PyProof.Rows.boot_sorted (pa_cons (pv 4) pa_nil))) ?hb2)
        (pss_cons (ps_set (i := 8) nd rfl (Or.inl rfl) (pe_callB (call_sumL rfl) rfl G.sum boot_sum (pa_cons (pv 7) pa_nil)))
        (pss_one (ps_ret (pe_and (pe_cmpR op_eq (pe_callB (call_sumL rfl) rfl G.sum boot_sum (pa_cons (pv 2) pa_nil)) (pv 0) (nomark _)) (pe_one (pe_cmpR (op_eqL hu) (pv 7) (pe_op op_catS (pe_op op_repS (pe_lstS (pa_cons pe_int pa_nil)) (pv 8)) (pe_op op_repS (pe_lstS (pa_cons pe_int pa_nil)) (pe_op op_sub (pe_callB call_len_seq rfl G.len boot_len (pa_cons (pv 7) pa_nil)) (pv 8)))) (nomark _)))))))))))), ?main⟩
    case comp =>
      refine' pe_compI (Nc := ["_law_one"]) (cl := []) (src := [none]) (wi := iList K (tVar 2)) (g := gName 0) (tt := tNoIf) (te := fun σ H Q => tCons (tVar 0) tNil σ H fun vs H1 => sp_whole vs H1 Q E0) ⟨rfl, rfl, by decide +kernel, by decide +kernel, (fun x c z => nomatch z), has_of (by rfl), frm_none frm_nil, rfl⟩ rfl (pi_list (pv 2)) ?hb
      case hb =>
        intro fp C' s' H'
        exact ⟨pg_name (i := 0) nc rfl (Or.inl rfl), pif_nil, pe_cal C1 hr (by decide) pass0 (pa_cons (pv 0) pa_nil)⟩
    case ck2 => exact ⟨rfl, rfl, by decide +kernel, by decide +kernel, (fun x c z => nomatch z), has_of (by rfl), frm_none (frm_none (frm_none frm_nil)), rfl⟩
    case hb2 =>
      intro fp C' s' H'
      exact ⟨pg_tup rfl (pgs_cons (pg_name (i := 0) nc3 rfl (Or.inl rfl)) (pgs_cons (pg_name (i := 1) nc3 rfl (Or.inl rfl)) (pgs_cons (pg_name (i := 2) nc3 rfl (Or.inl rfl)) pgs_nil))), pif_nil, pv 2⟩
    obtain ⟨g1, g2, g3⟩ := id gw
    have hsm := sum_small g2
    have fl := split_len z ws
    have kl : PySem.W.kitOne K (.type "list") (.type "list") = some true := (kit_tab (K := K) ("list", false, false, false, true) (by simp [numT])).2.2.2
    refine ⟨_, rfl, _, _, _, _, true, rfl, rfl, .inl (.lst hf), kl, true, rfl, iteF ⟨_, rfl, r, _, rfl, .inl (SqL.of hf), _, rfl, l, _, rfl, .inl (SqL.of hl), rfl, _, rfl, ?_⟩⟩
    refine ite2 (fun e => ?_) (fun _ => ?_)
    · exfalso
      have : ((splitZ z ws).map V.int).length = (ws.map V.int).length := by rw [List.length_map, List.length_map, fl]
      rw [this] at e
      simp at e
    refine ⟨_, rfl, r, rfl, ⟨_, SqL.of hf⟩, fun D hD => ?_⟩
    refine compI_map (K := K) (xs := (splitZ z ws).map V.int) (fun x => .bl true) (SqL.of hf) hD (by rw [List.length_map, fl, sizeLine_eq]; omega) (fun x hx H' R s1 r1 => ?_) ?_
    · obtain ⟨y, _, rfl⟩ := List.mem_map.mp hx
      exact ⟨_, rfl, y, rfl, r1⟩
    have s1 : Same H (upd H D (.lst (((splitZ z ws).map V.int).map fun x => V.bl true))) := Same.upd hD
    have d1 : (upd H D (.lst (((splitZ z ws).map V.int).map fun x => V.bl true))) D = some (.lst (((splitZ z ws).map fun _ => true).map V.bl)) := by rw [upd_same, List.map_map, List.map_map]; rfl
    generalize upd H D (.lst (((splitZ z ws).map V.int).map fun x => V.bl true)) = H1 at s1 d1 ⊢
    have at1 : ((splitZ z ws).map fun _ => true).all id = true := by rw [List.all_map]; simp
    refine ⟨D, _, rfl, SqL.of d1, _, rfl, ?_⟩
    rw [at1]
    refine iteF ⟨_, rfl, l, ws, rfl, SqL.of (s1 _ _ hl), lenOk rfl, fun R H2 s2 n2 f2 => ?_⟩
    have S2 := s1.trans s2
    have nR : H R = none := by
      cases y : H R with
      | none => rfl
      | some o => rw [s1 _ _ y] at n2; cases n2
    refine ⟨_, rfl, l, _, rfl, .inl (SqL.of (S2 _ _ hl)), _, rfl, by rw [List.length_map]; omega, by rw [List.length_map]; omega, ?_⟩
    rw [List.length_map, Int.toNat_natCast]
    refine for_range (n := ws.length) (fun i σ H' => ∃ o5 o6 o7 o8, ∃ ts : List V, σ = [some (.int z), some (.ref l), some (.ref r), some (.int ws.sum), some (.ref R), o5, o6, o7, o8] ∧ Same H H' ∧ H' R = some (.lst ts) ∧ ts.length = i ∧ ∀ j, j < i → ∃ t, ts[j]? = some (.ref t) ∧ t ≠ R ∧ H' t = some (.tup ((triple z ws j).map V.int))) ⟨_, _, _, _, [], rfl, S2, f2, rfl, fun j hj => absurd hj (by omega)⟩ ?_ ?_
    · rintro i σ H3 hi ⟨o5, o6, o7, o8, ts, rfl, s3, f3, hl3, ht⟩
      have e0 : ((0 : Int) + (i : Nat)) = (i : Int) := by omega
      have wi := atI_int hi
      have fi := atI_int (l := splitZ z ws) (i := i) (by rw [fl]; exact hi)
      have wb : 0 ≤ ws.getD i 0 ∧ ws.getD i 0 ≤ 1000000000 := by
        rw [List.getD_eq_getElem?_getD, List.getElem?_eq_getElem hi]
        exact g2 _ (List.getElem_mem hi)
      rw [e0]
      refine ⟨_, rfl, _, rfl, _, rfl, l, _, _, _, rfl, rfl, SqL.of (s3 _ _ hl), wi, _, _, rfl, rfl, .inr ⟨by omega, by omega⟩, _, rfl, _, _, rfl, rfl, ⟨g3, by omega⟩, ?_⟩
      refine ⟨_, rfl, _, rfl, r, _, _, _, rfl, rfl, SqL.of (s3 _ _ hf), fi, _, rfl, _, _, rfl, rfl, lenOk rfl, fun p H4 s4 _ f4 => ⟨p, _, rfl, .inr (SqT.of f4), rfl, rfl, _, rfl, ?_⟩⟩
      rw [in01 (one_01 hi)]
      have S4 := s3.trans s4
      refine iteF ⟨_, rfl, .inl ⟨rfl, _, SqL.of (s4 _ _ f3)⟩, _, rfl, _, rfl, _, _, rfl, rfl, .inr ⟨by omega, by omega⟩, _, rfl, _, rfl, _, rfl, l, _, _, _, rfl, rfl, SqL.of (S4 _ _ hl), wi, _, _, rfl, rfl, .inr ⟨by omega, by omega⟩, _, _, rfl, rfl, ?_⟩
      refine ⟨_, rfl, _, rfl, _, rfl, r, _, _, _, rfl, rfl, SqL.of (S4 _ _ hf), fi, _, rfl, _, _, rfl, rfl, lenOk rfl, fun t H5 s5 n5 f5 => ?_⟩
      have S5 := S4.trans s5
      have r5 := s5 _ _ (s4 _ _ f3)
      have tR : t ≠ R := fun y => by rw [y, f3 |> s4 _ _] at n5; cases n5
      have f5' : H5 t = some (.tup ((triple z ws i).map V.int)) := by
        rw [f5]
        unfold triple
        rw [low_get hi, ← key_eq hi]
        rfl
      refine ⟨R, _, _, rfl, rfl, r5, by rw [sizeLine_eq, hl3]; omega, _, _, _, _, ts ++ [.ref t], rfl, same_put S5 nR, upd_same, by rw [List.length_append, hl3]; rfl, fun j hj => ?_⟩
      by_cases e : j = i
      · subst e
        exact ⟨t, by rw [List.getElem?_append_right (by omega), hl3]; simp, tR, by rw [upd_ne tR]; exact f5'⟩
      · obtain ⟨t', a1, a2, a3⟩ := ht j (by omega)
        exact ⟨t', by rw [List.getElem?_append_left (by omega)]; exact a1, a2, by rw [upd_ne a2]; exact s5 _ _ (s4 _ _ a3)⟩
    · rintro σ H3 ⟨o5, o6, o7, o8, ts, rfl, s3, f3, hl3, ht⟩
      refine ⟨_, rfl, R, ts, triple z ws, fun i => keyZ z ws i * 64 + i, rfl, f3, by omega, fun i hi => ?_, fun i j hi hj => lex_rank (by omega) (by omega), fun so H4 s4 n4 f4 => ?_⟩
      · obtain ⟨t, a1, _, a3⟩ := ht i (by omega)
        exact ⟨t, a1, a3, by unfold triple; simp⟩
      rw [hl3, ← ord_rank z ws (by omega)] at f4
      refine ⟨so, rfl, ⟨_, SqL.of f4⟩, fun D2 hD2 => ?_⟩
      have S4 := s3.trans s4
      refine compI_list (xs := (ordZ z ws).map fun i => ts.getD i .non) (fun i ys σ' H' => ys = (((ordZ z ws).take i).map fun j => (splitZ z ws).getD j 0 - (lowsZ z ws ws.sum).getD j 0).map V.int ∧ σ'.length = 3 ∧ H' = upd H4 D2 (.lst ys)) ⟨rfl, rfl, rfl⟩ ?_ ?_ ?_
      · rintro i ys σ' H' _ ⟨_, _, rfl⟩
        exact ⟨(Same.upd hD2).seq (SqL.of f4), upd_same⟩
      · rintro i x ys σ' H' hx ⟨rfl, hσ, rfl⟩
        rw [List.getElem?_map] at hx
        obtain ⟨j, hj, rfl⟩ := Option.map_eq_some_iff.mp hx
        have jm : j < ws.length := iord_lt j (List.mem_of_getElem? hj)
        obtain ⟨t, a1, _, a3⟩ := ht j jm
        have tD : t ≠ D2 := ne_of_none (s4 _ _ a3) hD2
        have ex : ts.getD j .non = .ref t := by rw [List.getD_eq_getElem?_getD, a1]; rfl
        rw [ex]
        have h4 : (upd H4 D2 (.lst ((((ordZ z ws).take i).map fun j => (splitZ z ws).getD j 0 - (lowsZ z ws ws.sum).getD j 0).map V.int))) t = some (.tup ((triple z ws j).map V.int)) := by rw [upd_ne tD]; exact s4 _ _ a3
        refine ⟨t, _, rfl, SqT.of h4, rfl, _, _, rfl, _, _, rfl, _, _, rfl, rfl, _, List.getElem?_set_self (by rw [List.length_set, List.length_set, hσ]; decide), upd_same, ?_, ?_, by rw [List.length_set, List.length_set, List.length_set]; exact hσ, upd_upd⟩
        · rw [List.length_map, List.length_map, List.length_take, ord_len, sizeLine_eq]
          omega
        · rw [List.take_add_one, hj, Option.toList_some, List.map_append, List.map_append]
          rfl
      · rintro ys σ' H' ⟨rfl, _, rfl⟩
        rw [List.length_map, List.take_length, ahead g3]
        obtain ⟨l1, l2⟩ := left_nn (z := z) g3
        have s5 : Same H4 (upd H4 D2 (.lst ((List.replicate (leftZ z ws).toNat (1 : Int) ++ List.replicate (ws.length - (leftZ z ws).toNat) 0).map V.int))) := Same.upd hD2
        have d5 : (upd H4 D2 (.lst ((List.replicate (leftZ z ws).toNat (1 : Int) ++ List.replicate (ws.length - (leftZ z ws).toNat) 0).map V.int))) D2 = some (.lst ((List.replicate (leftZ z ws).toNat (1 : Int) ++ List.replicate (ws.length - (leftZ z ws).toNat) 0).map V.int)) := upd_same
        generalize upd H4 D2 (.lst ((List.replicate (leftZ z ws).toNat (1 : Int) ++ List.replicate (ws.length - (leftZ z ws).toNat) 0).map V.int)) = H5 at s5 d5 ⊢
        have S5 := S4.trans s5
        have sm : (List.replicate (leftZ z ws).toNat (1 : Int) ++ List.replicate (ws.length - (leftZ z ws).toNat) 0).sum = leftZ z ws := by
          rw [List.sum_append, sum_rep, sum_rep]
          omega
        have ln : ((List.replicate (leftZ z ws).toNat (1 : Int) ++ List.replicate (ws.length - (leftZ z ws).toNat) 0).map V.int).length = ws.length := by
          rw [List.length_map, List.length_append, List.length_replicate, List.length_replicate]
          omega
        refine ⟨_, rfl, D2, _, rfl, SqL.of d5, ?_⟩
        rw [sm]
        refine ⟨_, rfl, r, splitZ z ws, rfl, SqL.of (S5 _ _ hf), _, rfl, rfl, _, rfl, ite2 (fun _ => ?_) (fun e => ?_)⟩
        · refine ⟨_, rfl, lenOk rfl, fun p1 H6 s6 _ f6 => ⟨_, rfl, p1, _, _, rfl, rfl, f6, by omega, by omega, by rw [sizeLine_eq]; show 1 * _ ≤ _; omega, fun p2 H7 s7 _ f7 => ⟨lenOk rfl, fun p3 H8 s8 _ f8 => ?_⟩⟩⟩
          have d8 := s8 _ _ (s7 _ _ (s6 _ _ d5))
          refine ⟨_, rfl, D2, _, rfl, .inl (SqL.of d8), _, rfl, _, _, rfl, rfl, p3, _, _, rfl, rfl, f8, by rw [ln]; omega, by rw [ln]; omega, by rw [ln, sizeLine_eq]; show 1 * _ ≤ _; omega, fun p4 H9 s9 _ f9 => ?_⟩
          rw [ln, rep_c] at f9
          rw [rep_c] at f7
          have en : ((ws.length : Int) - leftZ z ws).toNat = ws.length - (leftZ z ws).toNat := by omega
          rw [en] at f9
          refine ⟨p2, p4, _, _, rfl, rfl, s9 _ _ (s8 _ _ f7), f9, by rw [List.length_map, List.length_map, List.length_replicate, List.length_replicate, sizeLine_eq]; omega, fun p5 H10 s10 _ f10 => ?_⟩
          rw [← List.map_append] at f10
          refine ⟨D2, p5, _, _, rfl, rfl, SqL.of (s10 _ _ (s9 _ _ d8)), SqL.of f10, flat_ints _, flat_ints _, ?_⟩
          rw [eq_ints]
          exact q _ (((((S5.trans s6).trans s7).trans s8).trans s9).trans s10)
        · exfalso
          apply e
          rw [split_sum g3]
          exact decide_eq_true rfl
end
end K02
set_option Elab.async false
set_option linter.all false
set_option maxRecDepth 100000
namespace K02
open PySem L2

structure Nms (K : PySem.W.Frag) (d : Nat → Addr) (cR : Addr) (t0 : Tok) (t1 : Tok) : Prop where
  n0 : PySem.W.nsIn K mainGlobals "BadAmount" = some (some (.ref (d 0)))
  n1 : PySem.W.nsIn K mainGlobals "BadShare" = some (some (.ref (d 1)))
  n2 : PySem.W.nsIn K mainGlobals "BadText" = some (some (.ref (d 2)))
  n3 : PySem.W.nsIn K mainGlobals "BadMonth" = some (some (.ref (d 3)))
  n4 : PySem.W.nsIn K mainGlobals "BadYear" = some (some (.ref (d 4)))
  n5 : PySem.W.nsIn K mainGlobals "BadRule" = some (some (.ref (d 5)))
  n6 : PySem.W.nsIn K mainGlobals "BadBook" = some (some (.ref (d 6)))
  n7 : PySem.W.nsIn K mainGlobals "NoYear" = some (some (.ref (d 7)))
  n8 : PySem.W.nsIn K mainGlobals "BadDay" = some (some (.ref (d 8)))
  n9 : PySem.W.nsIn K mainGlobals "BadEntry" = some (some (.ref (d 9)))
  n10 : PySem.W.nsIn K mainGlobals "NoMark" = some (some (.ref (d 10)))
  n11 : PySem.W.nsIn K mainGlobals "NoPerson" = some (some (.ref (d 11)))
  n12 : PySem.W.nsIn K mainGlobals "TooMany" = some (some (.ref (d 12)))
  n13 : PySem.W.nsIn K mainGlobals "BadClose" = some (some (.ref (d 13)))
  n14 : PySem.W.nsIn K mainGlobals "BadLine" = some (some (.ref (d 14)))
  nR : PySem.W.nsIn K mainGlobals "RollError" = some (some (.ref cR))
  c0 : PySem.W.nsIn K mainGlobals "MOST_WEIGHTS" = some (some (.int 50 t0))
  c1 : PySem.W.nsIn K mainGlobals "GREATEST_WEIGHT" = some (some (.int 1000000000 t1))
  b_isinstance : PySem.W.nsIn K mainGlobals "isinstance" = some none
  b_int : PySem.W.nsIn K mainGlobals "int" = some none
  b_bool : PySem.W.nsIn K mainGlobals "bool" = some none
  b_len : PySem.W.nsIn K mainGlobals "len" = some none
  b_range : PySem.W.nsIn K mainGlobals "range" = some none
  b_ValueError : PySem.W.nsIn K mainGlobals "ValueError" = some none
  b_list : PySem.W.nsIn K mainGlobals "list" = some none
  b_all : PySem.W.nsIn K mainGlobals "all" = some none
  b_sum : PySem.W.nsIn K mainGlobals "sum" = some none
  b_sorted : PySem.W.nsIn K mainGlobals "sorted" = some none
  b_tuple : PySem.W.nsIn K mainGlobals "tuple" = some none
  x0 : PySem.W.excIn K (d 0) veMro "ValueError.__new__" = true
  e0 : PySem.W.exmOne K (.ref (d 0)) (.ref cR) = some true
  k0 : KdOf K d (d 0) 0
  x1 : PySem.W.excIn K (d 1) veMro "ValueError.__new__" = true
  e1 : PySem.W.exmOne K (.ref (d 1)) (.ref cR) = some true
  k1 : KdOf K d (d 1) 1
def sp_lawT (K : PySem.W.Frag) (tabs : List (Addr × Addr)) : Sp := sp_law K (tabs.getD 0 (0, 0)).2
structure Txt (K : PySem.W.Frag) : Prop where
  f_is_number : FnAt K "is_number" (top 20)
  f_is_number_within : FnAt K "is_number_within" (top 21)
  f_is_weights : FnAt K "is_weights" (top 22)
  f_need_amount : FnAt K "need_amount" (top 23)
  f_split : FnAt K "split" (top 24)
  f__law_cell : FnAt K "_law_cell" (top 26)
  f__law_mixed : FnAt K "_law_mixed" (top 27)
  f__law_whole : FnAt K "_law_whole" (top 28)
  f__law_amount : FnAt K "_law_amount" (top 29)
  f__law_weights : FnAt K "_law_weights" (top 30)
  f__law_kind : FnAt K "_law_kind" (top 31)
  f__law_tried : FnAt K "_law_tried" (top 32)
  f__law_fits : FnAt K "_law_fits" (top 33)
  f__law_none : FnAt K "_law_none" (top 34)
  f_law : FnAt K "law" (top 35)
  nms : ∃ d cR t0 t1, Nms K d cR t0 t1
theorem law_fn {l : PySem.W.OpenLaw} {w : World} {K : PySem.W.Frag} {h : Heap} {mg : Str → Option Value} {fa : Addr} {tabs : List (Addr × Addr)} (X : K.In h) (G : h.Ns mainGlobals mg) (hfa : mg "law" = some (.ref fa)) (tb : (["split"] : List Str).map (PySem.W.tabIn K) = tabs.map some) (T : Txt K) :
    ∃ fd : FuncData, (∀ (s : Shared) (v : Value), BindsTo s fd ⟨[v], []⟩ [("_law_script", v)]) ∧ ∀ base : Heap, K.In base → base.Ns mainGlobals mg → (∀ q ∈ tabs, PySem.W.CodeHd base q.1 q.2) → BMain mg base → FnOk l.prog w K mg base CX0 6 fa fd ["_law_script"] (sp_lawT K tabs) := by
  obtain ⟨d, cR, t0, t1, N⟩ := T.nms
  obtain ⟨fl, fdl, al, Fl⟩ := T.f_law
  have e := hfa.symm.trans (PySem.W.mg_of X G al)
  cases e
  have GL : Glb mg := ⟨PySem.W.mg_none_of X G N.b_isinstance, PySem.W.mg_none_of X G N.b_int, PySem.W.mg_none_of X G N.b_bool, PySem.W.mg_none_of X G N.b_len, PySem.W.mg_none_of X G N.b_range, PySem.W.mg_none_of X G N.b_ValueError, PySem.W.mg_none_of X G N.b_list, PySem.W.mg_none_of X G N.b_all, PySem.W.mg_none_of X G N.b_sum, PySem.W.mg_none_of X G N.b_sorted, PySem.W.mg_none_of X G N.b_tuple⟩
  have CS : Cst mg := ⟨⟨t0, PySem.W.mg_of X G N.c0⟩, ⟨t1, PySem.W.mg_of X G N.c1⟩⟩
  have ER : Err K mg (d 0) (d 1) := ⟨PySem.W.mg_of X G N.n0, PySem.W.mg_of X G N.n1, N.x0, N.x1⟩
  have KD : Kds mg d := ⟨PySem.W.mg_of X G N.n0, PySem.W.mg_of X G N.n1, PySem.W.mg_of X G N.n2, PySem.W.mg_of X G N.n3, PySem.W.mg_of X G N.n4, PySem.W.mg_of X G N.n5, PySem.W.mg_of X G N.n6, PySem.W.mg_of X G N.n7, PySem.W.mg_of X G N.n8, PySem.W.mg_of X G N.n9, PySem.W.mg_of X G N.n10, PySem.W.mg_of X G N.n11, PySem.W.mg_of X G N.n12, PySem.W.mg_of X G N.n13, PySem.W.mg_of X G N.n14⟩
  have RL : Roll K mg d cR := ⟨PySem.W.mg_of X G N.nR, N.e0, N.e1, N.k0, N.k1⟩
  obtain ⟨t, rfl, ht⟩ := tabs_one tb
  have bl := Fl.binds (ps := ["_law_script"]) (fun _ _ _ _ _ _ us hl => by obtain ⟨a, rfl⟩ := ulen1 hl; rfl)
  refine ⟨fdl, fun s v => ?_, fun base _ _ hcd hbm => ?_⟩
  · obtain ⟨oc, od, kV, doc, pm, an, cdv, ct, osl, rfl, lk, hcd⟩ := Fl.ex
    exact .of_eq rfl
  have NE : Nest mg base t.1 t.2 := ⟨hcd t (List.mem_singleton.mpr rfl), hbm⟩
  have C1 := T.f_is_number.cal (P := l.prog) (w := w) (base := base) (ps := ["thing"]) X G (fun _ _ _ _ _ _ us hl => by obtain ⟨a, rfl⟩ := ulen1 hl; rfl) fun f fd F => ok_is_number F GL
  have C2 := T.f_is_number_within.cal (P := l.prog) (w := w) (base := base) (ps := ["thing", "least", "most"]) X G (fun _ _ _ _ _ _ us hl => by obtain ⟨a, b, c, rfl⟩ := ulen3 hl; rfl) fun f fd F => ok_within F C1
  have C3 := T.f_is_weights.cal (P := l.prog) (w := w) (base := base) (ps := ["thing"]) X G (fun _ _ _ _ _ _ us hl => by obtain ⟨a, rfl⟩ := ulen1 hl; rfl) fun f fd F => ok_isw F GL CS C2
  have C4 := T.f_need_amount.cal (P := l.prog) (w := w) (base := base) (ps := ["thing"]) X G (fun _ _ _ _ _ _ us hl => by obtain ⟨a, rfl⟩ := ulen1 hl; rfl) fun f fd F => ok_need_amount F ER C1
  have C5 := T.f_split.calC (P := l.prog) (w := w) (base := base) (ps := ["amount", "weights"]) X G (fun _ _ _ _ _ _ us hl => by obtain ⟨a, b, rfl⟩ := ulen2 hl; rfl) ht fun f fd F hc => ok_split F hc NE GL ER C4 C3
  have D1 := T.f__law_cell.cal (P := l.prog) (w := w) (base := base) (ps := ["_law_script", "_law_k"]) X G (fun _ _ _ _ _ _ us hl => by obtain ⟨a, b, rfl⟩ := ulen2 hl; rfl) fun f fd F => ok_cell F GL
  have D2 := T.f__law_mixed.cal (P := l.prog) (w := w) (base := base) (ps := ["_law_script", "_law_k"]) X G (fun _ _ _ _ _ _ us hl => by obtain ⟨a, b, rfl⟩ := ulen2 hl; rfl) fun f fd F => ok_mixed F D1
  have D3 := T.f__law_whole.cal (P := l.prog) (w := w) (base := base) (ps := ["_law_found"]) X G (fun _ _ _ _ _ _ us hl => by obtain ⟨a, rfl⟩ := ulen1 hl; rfl) fun f fd F => ok_whole F GL
  have D4 := T.f__law_amount.cal (P := l.prog) (w := w) (base := base) (ps := ["_law_number"]) X G (fun _ _ _ _ _ _ us hl => by obtain ⟨a, rfl⟩ := ulen1 hl; rfl) fun f fd F => ok_amount F
  have D5 := T.f__law_weights.cal (P := l.prog) (w := w) (base := base) (ps := ["_law_script"]) X G (fun _ _ _ _ _ _ us hl => by obtain ⟨a, rfl⟩ := ulen1 hl; rfl) fun f fd F => ok_weights F GL D2
  have D6 := T.f__law_kind.calQ (P := l.prog) (w := w) (base := base) (ps := ["_law_e"]) X G (fun _ _ _ _ _ _ us hl => by obtain ⟨a, rfl⟩ := ulen1 hl; rfl) fun f fd F => ok_kind F GL KD
  have D7 := T.f__law_tried.cal (P := l.prog) (w := w) (base := base) (ps := ["_law_amount_here", "_law_weights_here"]) X G (fun _ _ _ _ _ _ us hl => by obtain ⟨a, b, rfl⟩ := ulen2 hl; rfl) fun f fd F => ok_tried F RL C5 D6
  have D8 := T.f__law_fits.cal (P := l.prog) (w := w) (base := base) (ps := ["_law_amount_here", "_law_weights_here", "_law_found"]) X G (fun _ _ _ _ _ _ us hl => by obtain ⟨a, b, c, rfl⟩ := ulen3 hl; rfl) fun f fd F => ok_fits (fun X _ => call_sortTup) F GL D3
  have D9 := T.f__law_none.cal (P := l.prog) (w := w) (base := base) (ps := ["_law_number", "_law_weights_here"]) X G (fun _ _ _ _ _ _ us hl => by obtain ⟨a, b, rfl⟩ := ulen2 hl; rfl) fun f fd F => ok_none F GL
  exact ok_law Fl GL D2 D4 D5 D7 D8 C5 D9
theorem walk {l : PySem.W.OpenLaw} {q : Program} {loose : List Str} {XP : (Str → Option Value) → Heap → Prop} {YP : World → Heap → Prop} {d : DefRec} {K : Params → PySem.W.Frag} (hn : l.most = some 63) (hdf : d.params.defaults = [])
    (hY : ∀ (w : World) (h : Heap), YP w h → (K w.params).In h)
    (hX : ∀ x ∈ (["split"] : List Str), ∃ e, (PyProof.Rows.recsOf q).find? (fun e => e.name == x) = some e) (hK : ∀ w : World, PySem.W.noTabs (K w.params) = true) (hI : ∀ (w : World), ∀ x ∈ (["split"] : List Str), (PySem.W.tabIn (K w.params) x).isSome = true)
    (F : ∀ (w : World) (mg : Str → Option Value) (fa : Addr) (h : Heap) (tabs : List (Addr × Addr)), (K w.params).In h → h.Ns mainGlobals mg → mg d.name = some (.ref fa) → (["split"] : List Str).map (PySem.W.tabIn (K w.params)) = tabs.map some →
      ∃ fd : FuncData, (∀ (s : Shared) (u : Value), BindsTo s fd ⟨[u], []⟩ [("_law_script", u)]) ∧ ∀ base : Heap, (K w.params).In base → base.Ns mainGlobals mg → (∀ q ∈ tabs, PySem.W.CodeHd base q.1 q.2) → BMain mg base → FnOk l.prog w (K w.params) mg base CX0 6 fa fd ["_law_script"] (sp_lawT (K w.params) tabs)) :
    PySem.W.WalkO q loose XP YP l.row.toRowW d [] (fun f vs => PySem.call f vs) :=
  L2.walk_ofT (n := 63) (k := 6) (x := "_law_script") (CX := fun _ => CX0) (sp := fun w tabs => (sp_lawT (K w.params) tabs)) hn (by decide) hdf ⟨rfl, by decide, by decide⟩ hY hX hK hI F (fun w tabs H a ns hl _ hq hS => by obtain ⟨t, rfl⟩ := List.length_eq_one_iff.mp hl; exact ⟨a, ns, rfl, hS, ⟨_, hq t (List.mem_singleton.mpr rfl), trivial, .inl rfl⟩, fun _ => rfl⟩) fun _ _ _ _ _ z => z
theorem nms_mk {K : PySem.W.Frag} {c0 c1 c2 c3 c4 c5 c6 c7 c8 c9 c10 c11 c12 c13 c14 cR : Addr} {t0 t1 : Tok}
    (n0 : PySem.W.nsIn K mainGlobals "BadAmount" = some (some (.ref c0)))
    (n1 : PySem.W.nsIn K mainGlobals "BadShare" = some (some (.ref c1)))
    (n2 : PySem.W.nsIn K mainGlobals "BadText" = some (some (.ref c2)))
    (n3 : PySem.W.nsIn K mainGlobals "BadMonth" = some (some (.ref c3)))
    (n4 : PySem.W.nsIn K mainGlobals "BadYear" = some (some (.ref c4)))
    (n5 : PySem.W.nsIn K mainGlobals "BadRule" = some (some (.ref c5)))
    (n6 : PySem.W.nsIn K mainGlobals "BadBook" = some (some (.ref c6)))
    (n7 : PySem.W.nsIn K mainGlobals "NoYear" = some (some (.ref c7)))
    (n8 : PySem.W.nsIn K mainGlobals "BadDay" = some (some (.ref c8)))
    (n9 : PySem.W.nsIn K mainGlobals "BadEntry" = some (some (.ref c9)))
    (n10 : PySem.W.nsIn K mainGlobals "NoMark" = some (some (.ref c10)))
    (n11 : PySem.W.nsIn K mainGlobals "NoPerson" = some (some (.ref c11)))
    (n12 : PySem.W.nsIn K mainGlobals "TooMany" = some (some (.ref c12)))
    (n13 : PySem.W.nsIn K mainGlobals "BadClose" = some (some (.ref c13)))
    (n14 : PySem.W.nsIn K mainGlobals "BadLine" = some (some (.ref c14)))
    (nR : PySem.W.nsIn K mainGlobals "RollError" = some (some (.ref cR)))
    (gc0 : PySem.W.nsIn K mainGlobals "MOST_WEIGHTS" = some (some (.int 50 t0)))
    (gc1 : PySem.W.nsIn K mainGlobals "GREATEST_WEIGHT" = some (some (.int 1000000000 t1)))
    (b_isinstance : PySem.W.nsIn K mainGlobals "isinstance" = some none)
    (b_int : PySem.W.nsIn K mainGlobals "int" = some none)
    (b_bool : PySem.W.nsIn K mainGlobals "bool" = some none)
    (b_len : PySem.W.nsIn K mainGlobals "len" = some none)
    (b_range : PySem.W.nsIn K mainGlobals "range" = some none)
    (b_ValueError : PySem.W.nsIn K mainGlobals "ValueError" = some none)
    (b_list : PySem.W.nsIn K mainGlobals "list" = some none)
    (b_all : PySem.W.nsIn K mainGlobals "all" = some none)
    (b_sum : PySem.W.nsIn K mainGlobals "sum" = some none)
    (b_sorted : PySem.W.nsIn K mainGlobals "sorted" = some none)
    (b_tuple : PySem.W.nsIn K mainGlobals "tuple" = some none)
    (x0 : PySem.W.excIn K c0 veMro "ValueError.__new__" = true)
    (e0 : PySem.W.exmOne K (.ref c0) (.ref cR) = some true)
    (X0 : XK.ExcCls K c0)
    (v0 : PySem.W.kitOne K (.ref c0) (.type "ValueError") = some true)
    (k0_0 : PySem.W.kitOne K (.ref c0) (.ref c0) = some true)
    (k0_1 : PySem.W.kitOne K (.ref c0) (.ref c1) = some false)
    (k0_2 : PySem.W.kitOne K (.ref c0) (.ref c2) = some false)
    (k0_3 : PySem.W.kitOne K (.ref c0) (.ref c3) = some false)
    (k0_4 : PySem.W.kitOne K (.ref c0) (.ref c4) = some false)
    (k0_5 : PySem.W.kitOne K (.ref c0) (.ref c5) = some false)
    (k0_6 : PySem.W.kitOne K (.ref c0) (.ref c6) = some false)
    (k0_7 : PySem.W.kitOne K (.ref c0) (.ref c7) = some false)
    (k0_8 : PySem.W.kitOne K (.ref c0) (.ref c8) = some false)
    (k0_9 : PySem.W.kitOne K (.ref c0) (.ref c9) = some false)
    (k0_10 : PySem.W.kitOne K (.ref c0) (.ref c10) = some false)
    (k0_11 : PySem.W.kitOne K (.ref c0) (.ref c11) = some false)
    (k0_12 : PySem.W.kitOne K (.ref c0) (.ref c12) = some false)
    (k0_13 : PySem.W.kitOne K (.ref c0) (.ref c13) = some false)
    (k0_14 : PySem.W.kitOne K (.ref c0) (.ref c14) = some false)
    (x1 : PySem.W.excIn K c1 veMro "ValueError.__new__" = true)
    (e1 : PySem.W.exmOne K (.ref c1) (.ref cR) = some true)
    (X1 : XK.ExcCls K c1)
    (v1 : PySem.W.kitOne K (.ref c1) (.type "ValueError") = some true)
    (k1_0 : PySem.W.kitOne K (.ref c1) (.ref c0) = some false)
    (k1_1 : PySem.W.kitOne K (.ref c1) (.ref c1) = some true)
    (k1_2 : PySem.W.kitOne K (.ref c1) (.ref c2) = some false)
    (k1_3 : PySem.W.kitOne K (.ref c1) (.ref c3) = some false)
    (k1_4 : PySem.W.kitOne K (.ref c1) (.ref c4) = some false)
    (k1_5 : PySem.W.kitOne K (.ref c1) (.ref c5) = some false)
    (k1_6 : PySem.W.kitOne K (.ref c1) (.ref c6) = some false)
    (k1_7 : PySem.W.kitOne K (.ref c1) (.ref c7) = some false)
    (k1_8 : PySem.W.kitOne K (.ref c1) (.ref c8) = some false)
    (k1_9 : PySem.W.kitOne K (.ref c1) (.ref c9) = some false)
    (k1_10 : PySem.W.kitOne K (.ref c1) (.ref c10) = some false)
    (k1_11 : PySem.W.kitOne K (.ref c1) (.ref c11) = some false)
    (k1_12 : PySem.W.kitOne K (.ref c1) (.ref c12) = some false)
    (k1_13 : PySem.W.kitOne K (.ref c1) (.ref c13) = some false)
    (k1_14 : PySem.W.kitOne K (.ref c1) (.ref c14) = some false)
    : ∃ d cR t0 t1, Nms K d cR t0 t1 := by
  exact ⟨fun i => [c0, c1, c2, c3, c4, c5, c6, c7, c8, c9, c10, c11, c12, c13, c14].getD i 0, cR, t0, t1, ⟨n0, n1, n2, n3, n4, n5, n6, n7, n8, n9, n10, n11, n12, n13, n14, nR, gc0, gc1, b_isinstance, b_int, b_bool, b_len, b_range, b_ValueError, b_list, b_all, b_sum, b_sorted, b_tuple, x0, e0, ⟨X0, v0, k0_0, k0_1, k0_2, k0_3, k0_4, k0_5, k0_6, k0_7, k0_8, k0_9, k0_10, k0_11, k0_12, k0_13, k0_14⟩, x1, e1, ⟨X1, v1, k1_0, k1_1, k1_2, k1_3, k1_4, k1_5, k1_6, k1_7, k1_8, k1_9, k1_10, k1_11, k1_12, k1_13, k1_14⟩⟩⟩
end K02
set_option Elab.async false
set_option linter.all false
open PySem PySem.W PyProof.Rows
set_option maxRecDepth 100000 in
set_option maxHeartbeats 0 in
theorem PySem.Challenge.cw_coinroll_k02_whole_splits_holds : PySem.Challenge.rw_coinroll_k02_whole_splits.Holds := by
  w_on; o_law; k_head; (case hw => w_witness2)
  k_fill
  refine' K02.walk (l := PySem.Challenge.rw_coinroll_k02_whole_splits) rfl rfl (fun w h Y => PySem.W.km_in_of Y) (List.forall_mem_cons.mpr ⟨⟨_, rfl⟩, (fun _ h => nomatch h)⟩) ?hK ?hI ?F
  case hK => intro w; kernel_rfl
  case hI => intro w; exact (List.forall_mem_cons.mpr ⟨by kernel_rfl, (fun _ h => nomatch h)⟩)
  case F =>
    intro w mg fa h tabs KX G hmg tb
    refine' K02.law_fn KX G hmg tb ?T
    case T =>
      refine' ⟨?f20, ?f21, ?f22, ?f23, ?f24, ?f26, ?f27, ?f28, ?f29, ?f30, ?f31, ?f32, ?f33, ?f34, ?f35, ?nms⟩
      (case f20 => (refine' L2.fnAt_mk ?a ?l ?c ?k; (case a => k_is); (case l => k_is); (case c => k_is); (case k => k_is)))
      (case f21 => (refine' L2.fnAt_mk ?a ?l ?c ?k; (case a => k_is); (case l => k_is); (case c => k_is); (case k => k_is)))
      (case f22 => (refine' L2.fnAt_mk ?a ?l ?c ?k; (case a => k_is); (case l => k_is); (case c => k_is); (case k => k_is)))
      (case f23 => (refine' L2.fnAt_mk ?a ?l ?c ?k; (case a => k_is); (case l => k_is); (case c => k_is); (case k => k_is)))
      (case f24 => (refine' L2.fnAt_mk ?a ?l ?c ?k; (case a => k_is); (case l => k_is); (case c => k_is); (case k => k_is)))
      (case f26 => (refine' L2.fnAt_mk ?a ?l ?c ?k; (case a => k_is); (case l => k_is); (case c => k_is); (case k => k_is)))
      (case f27 => (refine' L2.fnAt_mk ?a ?l ?c ?k; (case a => k_is); (case l => k_is); (case c => k_is); (case k => k_is)))
      (case f28 => (refine' L2.fnAt_mk ?a ?l ?c ?k; (case a => k_is); (case l => k_is); (case c => k_is); (case k => k_is)))
      (case f29 => (refine' L2.fnAt_mk ?a ?l ?c ?k; (case a => k_is); (case l => k_is); (case c => k_is); (case k => k_is)))
      (case f30 => (refine' L2.fnAt_mk ?a ?l ?c ?k; (case a => k_is); (case l => k_is); (case c => k_is); (case k => k_is)))
      (case f31 => (refine' L2.fnAt_mk ?a ?l ?c ?k; (case a => k_is); (case l => k_is); (case c => k_is); (case k => k_is)))
      (case f32 => (refine' L2.fnAt_mk ?a ?l ?c ?k; (case a => k_is); (case l => k_is); (case c => k_is); (case k => k_is)))
      (case f33 => (refine' L2.fnAt_mk ?a ?l ?c ?k; (case a => k_is); (case l => k_is); (case c => k_is); (case k => k_is)))
      (case f34 => (refine' L2.fnAt_mk ?a ?l ?c ?k; (case a => k_is); (case l => k_is); (case c => k_is); (case k => k_is)))
      (case f35 => (refine' L2.fnAt_mk ?a ?l ?c ?k; (case a => k_is); (case l => k_is); (case c => k_is); (case k => k_is)))
      case nms =>
        refine' K02.nms_mk ?n0 ?n1 ?n2 ?n3 ?n4 ?n5 ?n6 ?n7 ?n8 ?n9 ?n10 ?n11 ?n12 ?n13 ?n14 ?nR ?gc0 ?gc1 ?b_isinstance ?b_int ?b_bool ?b_len ?b_range ?b_ValueError ?b_list ?b_all ?b_sum ?b_sorted ?b_tuple ?x0 ?e0 ?X0 ?v0 ?k0_0 ?k0_1 ?k0_2 ?k0_3 ?k0_4 ?k0_5 ?k0_6 ?k0_7 ?k0_8 ?k0_9 ?k0_10 ?k0_11 ?k0_12 ?k0_13 ?k0_14 ?x1 ?e1 ?X1 ?v1 ?k1_0 ?k1_1 ?k1_2 ?k1_3 ?k1_4 ?k1_5 ?k1_6 ?k1_7 ?k1_8 ?k1_9 ?k1_10 ?k1_11 ?k1_12 ?k1_13 ?k1_14
        (case n0 => k_is)
        (case n1 => k_is)
        (case n2 => k_is)
        (case n3 => k_is)
        (case n4 => k_is)
        (case n5 => k_is)
        (case n6 => k_is)
        (case n7 => k_is)
        (case n8 => k_is)
        (case n9 => k_is)
        (case n10 => k_is)
        (case n11 => k_is)
        (case n12 => k_is)
        (case n13 => k_is)
        (case n14 => k_is)
        (case nR => k_is)
        (case gc0 => k_is)
        (case gc1 => k_is)
        (case b_isinstance => k_is)
        (case b_int => k_is)
        (case b_bool => k_is)
        (case b_len => k_is)
        (case b_range => k_is)
        (case b_ValueError => k_is)
        (case b_list => k_is)
        (case b_all => k_is)
        (case b_sum => k_is)
        (case b_sorted => k_is)
        (case b_tuple => k_is)
        (case x0 => kernel_rfl)
        (case e0 => kernel_rfl)
        (case X0 => (refine' ⟨?y1, ?y2, ?y3, ?y4, ?y5, ?y6, ?y7, ?y8⟩; (case y1 => kernel_rfl); (case y2 => k_is); (case y3 => k_is); (case y4 => k_is); (case y5 => k_is); (case y6 => k_is); (case y7 => k_is); (case y8 => k_is)))
        (case v0 => kernel_rfl)
        (case k0_0 => kernel_rfl)
        (case k0_1 => kernel_rfl)
        (case k0_2 => kernel_rfl)
        (case k0_3 => kernel_rfl)
        (case k0_4 => kernel_rfl)
        (case k0_5 => kernel_rfl)
        (case k0_6 => kernel_rfl)
        (case k0_7 => kernel_rfl)
        (case k0_8 => kernel_rfl)
        (case k0_9 => kernel_rfl)
        (case k0_10 => kernel_rfl)
        (case k0_11 => kernel_rfl)
        (case k0_12 => kernel_rfl)
        (case k0_13 => kernel_rfl)
        (case k0_14 => kernel_rfl)
        (case x1 => kernel_rfl)
        (case e1 => kernel_rfl)
        (case X1 => (refine' ⟨?y1, ?y2, ?y3, ?y4, ?y5, ?y6, ?y7, ?y8⟩; (case y1 => kernel_rfl); (case y2 => k_is); (case y3 => k_is); (case y4 => k_is); (case y5 => k_is); (case y6 => k_is); (case y7 => k_is); (case y8 => k_is)))
        (case v1 => kernel_rfl)
        (case k1_0 => kernel_rfl)
        (case k1_1 => kernel_rfl)
        (case k1_2 => kernel_rfl)
        (case k1_3 => kernel_rfl)
        (case k1_4 => kernel_rfl)
        (case k1_5 => kernel_rfl)
        (case k1_6 => kernel_rfl)
        (case k1_7 => kernel_rfl)
        (case k1_8 => kernel_rfl)
        (case k1_9 => kernel_rfl)
        (case k1_10 => kernel_rfl)
        (case k1_11 => kernel_rfl)
        (case k1_12 => kernel_rfl)
        (case k1_13 => kernel_rfl)
        (case k1_14 => kernel_rfl)
#print axioms PySem.Challenge.cw_coinroll_k02_whole_splits_holds
