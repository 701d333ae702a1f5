import PyProof.Rows.All
import Wide.All
import OpenK.AllK
import Wide.FinOn
import Lean
import PyProof.EqAt
import PyProof.EqKinds
import PyProof.TupleCall
import PyProof.NeKinds
import PyProof.SumWalkG
import PyProof.EnumMake
import KE.KIntText
import PyProof.StrLawsIn
import PyProof.StrCalls2
import PyProof.Rows.SortRuns
import KE.KSortTup
import KE.KSortKey
import PyProof.StrCalls
import PyProof.ListRange
import KE.IntTextLaws
import KE.IntTextText
import PyProof.Rows.FStr
import PyProof.SetKind
import PyProof.Rows.SetFrom
import PyProof.Walks
import KE.KItemsList
import KE.KDictOf
import PyProof.AttrMissHeap
import PyProof.AutoListH
import PyProof.Rows.ZipGen
import PyProof.Rows.EnumRows
import PyProof.EnumFor
import PyProof.WalksMore
import PyProof.TupleIter
import KE.KRevIter
import PyProof.CollectIter
import PyProof.JoinWalk
import PyProof.Rows.FactsT2
import PyProof.SeqI3
import PyProof.DictWalks
import PyProof.CollectWalk
import PyProof.Rows.SortWalk
import KE.KDictSum
import PySem.Challenge.RW_coinroll_k13_dues_of_months
set_option Elab.async false
set_option linter.all false
set_option genSizeOf false
set_option compiler.extract_closed false
set_option maxRecDepth 100000
namespace L2
open PySem PySem.Spec PyProof.Rows
noncomputable def isStar:Expr→Bool
  | .Starred _ _=>true
  | _=>false
theorem starEach_cons {e:Expr} {es:List Expr} {env:Env} (h:isStar e=false):starEach (e::es) env=(false,eval e env)::starEach es env:=by
  cases e <;> first | rfl | cases h
theorem noStars {env:Env} {pos:Pos}:∀ {es:List Expr},es.all (fun e=>!isStar e)=true→(backTo pos (starEach es env)).any (·.1)=false
  | [],_=>rfl
  | e::es,h=>by
    rw[List.all_cons,Bool.and_eq_true,Bool.not_eq_true'] at h
    rw[starEach_cons h.1]
    show (false || (backTo pos (starEach es env)).any (·.1))=false
    rw[Bool.false_or]
    exact noStars h.2
noncomputable abbrev Key:=Sum Int Str
noncomputable def keyIs:Key→Value→Bool
  | .inl k,v=>Value.isInt k v
  | .inr x,v=>Value.isStrOf x v
noncomputable def keyH (w:World):Key→Int
  | .inl k=>hashInt k
  | .inr x=>hashStr w x
theorem keyIs_shape:∀ {k:Key} {v:Value},keyIs k v=true→(∃ i t,k=Sum.inl i∧v=Value.int i t)∨(∃ x t,k=Sum.inr x∧v=Value.str x t)
  | .inl i,v,h=>by
    obtain⟨t,e⟩:=Value.isInt_shape (k:=i) (v:=v) h
    exact .inl ⟨i,t,rfl,e⟩
  | .inr x,v,h=>by
    obtain⟨t,e⟩:=Value.isStrOf_shape (x:=x) (v:=v) h
    exact .inr ⟨x,t,rfl,e⟩
theorem key_ll (a b:Int):decide ((Sum.inl a:Key)=Sum.inl b)=(a==b):=by
  by_cases e:a=b
  · subst e;simp
  · have h:¬ (Sum.inl a:Key)=Sum.inl b:=fun q=>e (Sum.inl.inj q)
    rw[decide_eq_false h]
    exact (beq_eq_false_iff_ne.mpr e).symm
theorem key_rr (a b:Str):decide ((Sum.inr a:Key)=Sum.inr b)=decide (a=b):=by
  by_cases e:a=b
  · subst e;simp
  · have h:¬ (Sum.inr a:Key)=Sum.inr b:=fun q=>e (Sum.inr.inj q)
    rw[decide_eq_false h,decide_eq_false e]
theorem key_lr (a:Int) (b:Str):decide ((Sum.inl a:Key)=Sum.inr b)=false:=decide_eq_false (fun q=>nomatch q)
theorem key_rl (a:Str) (b:Int):decide ((Sum.inr a:Key)=Sum.inl b)=false:=decide_eq_false (fun q=>nomatch q)
noncomputable def mixKind (prog:Program) (w:World):PySem.KeyKind prog w Key where
  is:=keyIs
  hash:=keyH w
  inj:=fun v a b ha hb=>by
    rcases keyIs_shape ha with ⟨i,t,rfl,rfl⟩ | ⟨x,t,rfl,rfl⟩
    · rcases keyIs_shape hb with ⟨j,u,rfl,e⟩ | ⟨y,u,rfl,e⟩
      · injection e with e1 _;rw[e1]
      · exact nomatch e
    · rcases keyIs_shape hb with ⟨j,u,rfl,e⟩ | ⟨y,u,rfl,e⟩
      · exact nomatch e
      · injection e with e1 _;rw[e1]
  byValue:=fun k v h=>by
    rcases keyIs_shape h with ⟨i,t,rfl,rfl⟩ | ⟨x,t,rfl,rfl⟩ <;> rfl
  pyHash:=fun hv h=>by
    rcases keyIs_shape hv with ⟨i,t,rfl,rfl⟩ | ⟨x,t,rfl,rfl⟩
    · exact wpAny_pyHash_int h
    · exact wpAny_pyHash_str h
  eqBool:=fun hu hv h=>by
    rcases keyIs_shape hu with ⟨i,t,rfl,rfl⟩ | ⟨x,t,rfl,rfl⟩
    · rcases keyIs_shape hv with ⟨j,u,rfl,rfl⟩ | ⟨y,u,rfl,rfl⟩
      · rw[key_ll] at h;exact wpAny_eqBool_int h
      · rw[key_lr] at h;exact SeqAt.EqAt.int_str i t y u _ _ _ _ h
    · rcases keyIs_shape hv with ⟨j,u,rfl,rfl⟩ | ⟨y,u,rfl,rfl⟩
      · rw[key_rl] at h;exact SeqAt.EqAt.str_int x t j u _ _ _ _ h
      · rw[key_rr] at h;exact wpAny_eqBool_str h
  «strs»:=fun k x t v h=>by
    rcases keyIs_shape h with ⟨i,u,rfl,e⟩ | ⟨y,u,rfl,e⟩
    · exact nomatch e
    · injection e with e1 _
      subst e1
      cases v <;> rfl
inductive V where
  | non | bl (b:Bool) | int (i:Int) | str (x:Str) | byt (b:Array UInt8) | flt (b:UInt64) | ref (a:Addr) | ty (n:String)
  deriving DecidableEq
noncomputable def RelV:V→Value→Prop
  | .non,u=>u=Value.none
  | .bl b,u=>u=Value.bool b
  | .int i,u=>∃ t,u=Value.int i t
  | .str x,u=>∃ t,u=Value.str x t
  | .byt b,u=>∃ t,u=Value.bytes b t
  | .flt b,u=>∃ t,u=Value.float b t
  | .ref a,u=>u=Value.ref a
  | .ty n,u=>u=Value.type n
noncomputable abbrev Vals:List V→List Value→Prop:=Paired RelV
theorem Vals.length {xs:List V} {us:List Value} (r:Vals xs us):xs.length=us.length:=Paired.length r
theorem Vals.get:∀ {xs:List V} {us:List Value} {i:Nat} {x:V},Vals xs us→xs[i]? = some x→∃ u,us[i]? = some u∧RelV x u
  | _,_,_,_,.nil,e=>by simp at e
  | _,_,0,_,.cons r _,e=>by simp at e;subst e;exact⟨_,rfl,r⟩
  | _,_,i+1,x,.cons _ t,e=>by
    obtain⟨u,h1,h2⟩:=Vals.get (i:=i) (x:=x) t (by simpa using e)
    exact⟨u,by simpa using h1,h2⟩
theorem Vals.set {x:V} {u:Value} (r:RelV x u):∀ {xs:List V} {us:List Value} (i:Nat),Vals xs us→Vals (xs.set i x) (us.set i u)
  | _,_,_,.nil=>.nil
  | _,_,0,.cons _ t=>.cons r t
  | _,_,i+1,.cons q t=>.cons q (Vals.set r i t)
theorem Vals.append:∀ {xs ys:List V} {us ws:List Value},Vals xs us→Vals ys ws→Vals (xs++ys) (us++ws)
  | _,_,_,_,.nil,s=>s
  | _,_,_,_,.cons r t,s=>.cons r (Vals.append t s)
theorem Vals.take:∀ {xs:List V} {us:List Value} (n:Nat),Vals xs us→Vals (xs.take n) (us.take n)
  | _,_,0,_=>.nil
  | _,_,_+1,.nil=>.nil
  | _,_,n+1,.cons r t=>.cons r (Vals.take n t)
theorem Vals.drop:∀ {xs:List V} {us:List Value} (n:Nat),Vals xs us→Vals (xs.drop n) (us.drop n)
  | _,_,0,r=>r
  | _,_,_+1,.nil=>.nil
  | _,_,n+1,.cons _ t=>Vals.drop n t
noncomputable def RelO:Option V→Option Value→Prop
  | some v,some u=>RelV v u
  | none,none=>True
  | _,_=>False
noncomputable def KV {κ:Type}:List (κ × V)→List (κ × Value)→Prop:=Paired fun (p:κ × V) (q:κ × Value)=>p.1=q.1∧RelV p.2 q.2
noncomputable def kV:Key→V
  | .inl i=>.int i
  | .inr x=>.str x
inductive HO where
  | lst (xs:List V)
  | tup (xs:List V)
  | dK (kvs:List (Key × V)) | dT (kvs:List (List Key × V))
  | set (S:Int→Bool) (n:Nat)
  | ins (C dx:Addr) (fs:List (Str × V))
  | own (x:Addr)
  | xd (fs:List (Str × V))
  | met (f x:Addr)
  | rng (lo hi:Int)
  | frz (o:Obj) (u:HO)
  | tbl (ps:Array Value)
  | ext (φ:Heap→Prop)
noncomputable abbrev Hp:=Addr→Option HO
noncomputable def upd (H:Hp) (a:Addr) (o:HO):Hp:=fun b=>if b=a then some o else H b
theorem upd_same {H:Hp} {a:Addr} {o:HO}:upd H a o a=some o:=by unfold upd;rw[if_pos rfl]
theorem upd_ne {H:Hp} {a b:Addr} {o:HO} (h:b≠a):upd H a o b=H b:=by unfold upd;rw[if_neg h]
theorem upd_upd {H:Hp} {a:Addr} {o u:HO}:upd (upd H a o) a u=upd H a u:=by
  funext b;unfold upd;split <;> rfl
theorem ne_of {H:Hp} {a b:Addr} {o u:HO} (h:H a=some o) (h':H b=some u) (d:o≠u):a≠b:=by
  intro e;subst e;rw[h] at h';exact d (Option.some.inj h')
theorem ne_of_none {H:Hp} {a b:Addr} {o:HO} (h:H a=some o) (h':H b=none):a≠b:=by
  intro e;subst e;rw[h] at h';cases h'
section
variable (P:Program) (w:World)
noncomputable def ObjOk (H:Hp) (h:Heap) (a:Addr):HO→Prop
  | .lst xs=>xs.length≤sizeLine∧∃ (its:List Value) (n:Nat),Vals xs its∧h.get? a=some { cls:=.type "list",data:=.seq its.toArray n }
  | .tup xs=>xs.length≤sizeLine∧∃ its:List Value,Vals xs its∧IsTup h a its.toArray
  | .dK kvs=>kvs.length≤sizeLine∧(a==sysModules)=false∧∃ vs,KV kvs vs∧h.DictOf (mixKind P w) a vs
  | .dT kvs=>kvs.length≤sizeLine∧(a==sysModules)=false∧∃ xs:List (List Key × Addr × Value),
      Paired (fun (p:List Key × V) (q:List Key × Addr × Value)=>p.1=q.1∧H q.2.1=some (.tup (p.1.map kV))∧RelV p.2 q.2.2) kvs xs ∧
      ∃ o es ep,h.get? a=some o∧o.ExactDict∧o.data = .dict es ep∧es.toList=xs.map (entryOfKey (tupleKind (mixKind P w)))∧(xs.map (·.1)).Nodup
  | .set S n=>h.SetOf (intKind P w) a S n
  | .ins C dx fs=>H dx=some (.own a)∧fs.length≤1000∧dx≠a∧h.get? a=some (PySem.W.instObj C dx) ∧
      ∃ mA,h.Ns1 dx mA∧(∀ f,RelO (fs.lookup f) (mA f))∧PySem.Within mA (fs.map (·.1))
  | .own _=>∃ o,h.get? a=some o
  | .xd fs=>∃ mA,h.Ns1 a mA∧∀ f,RelO (fs.lookup f) (mA f)
  | .rng lo hi=>∃ t u v,h.get? a=some { cls:=.type "range",data:=.fields #[.int lo t,.int hi u,.int 1 v] }
  | .frz o u=>h.get? a=some o∧ObjOk H h a u
  | .tbl ps=>h.get? a=some { cls:=.none,data:=.fields ps }
  | .met f x=>h.get? a=some (PySem.W.methodObj (.ref f) (.ref x))
  | .ext φ=>φ h∧(∃ o,h.get? a=some o)∧∀ h1 h2:Heap,φ h1→(∀ o,h1.get? a=some o→h2.get? a=some o)→φ h2
noncomputable def HOk (H:Hp) (h:Heap):Prop:=∀ a o,H a=some o→ObjOk P w H h a o
end
section
variable {P:Program} {w:World} {H H':Hp} {h h':Heap} {a:Addr} {o:HO}
theorem ObjOk.lt (x:ObjOk P w H h a o):a<h.objs.size:=by
  cases o with
  | lst xs=>obtain⟨_,_,_,_,e⟩:=x;exact Heap.lt_size e
  | tup xs=>obtain⟨_,_,_,p⟩:=x;exact p.lt
  | dK kvs=>obtain⟨_,_,_,_,o,_,_,e,_⟩:=x;exact Heap.lt_size e
  | dT kvs=>obtain⟨_,_,_,_,o,_,_,e,_⟩:=x;exact Heap.lt_size e
  | set S n=>obtain⟨o,_,_,_,e,_⟩:=x;exact Heap.lt_size e
  | ins C dx fs=>obtain⟨_,_,_,e,_⟩:=x;exact Heap.lt_size e
  | own y=>obtain⟨_,e⟩:=x;exact Heap.lt_size e
  | xd fs=>obtain⟨_,⟨_,_,_,e,_⟩,_⟩:=x;exact Heap.lt_size e
  | rng lo hi=>obtain⟨_,_,_,e⟩:=x;exact Heap.lt_size e
  | frz ob u=>obtain⟨e,_⟩:=x;exact Heap.lt_size e
  | tbl ps=>exact Heap.lt_size (show h.get? a=some _ from x)
  | met f y=>exact Heap.lt_size (show h.get? a=some _ from x)
  | ext φ=>obtain⟨_,⟨_,e⟩,_⟩:=x;exact Heap.lt_size e
theorem Paired.mapP {α β:Type} {F G:α→β→Prop}:∀ {l₁:List α} {l₂:List β},Paired F l₁ l₂→(∀ a b,F a b→G a b)→Paired G l₁ l₂
  | _,_,.nil,_=>.nil
  | _,_,.cons r t,f=>.cons (f _ _ r) (Paired.mapP t f)
theorem ObjOk.stay (x:ObjOk P w H h a o) (k:∀ b u,(b=a∨H b=some (.own a))→h.get? b=some u→h'.get? b=some u)
    (ho:∀ b,H b=some (.own a)→H' b=some (.own a)) (ht:∀ b xs,H b=some (.tup xs)→H' b=some (.tup xs)):ObjOk P w H' h' a o:=by
  induction o with
  | lst xs=>obtain⟨z,its,n,r,e⟩:=x;exact⟨z,its,n,r,k _ _ (.inl rfl) e⟩
  | tup xs=>obtain⟨z,its,r,ob,e,c⟩:=x;exact⟨z,its,r,ob,k _ _ (.inl rfl) e,c⟩
  | dK kvs=>obtain⟨z,y,vs,r,ob,es,ep,e,c⟩:=x;exact⟨z,y,vs,r,ob,es,ep,k _ _ (.inl rfl) e,c⟩
  | dT kvs =>
    obtain⟨z,y,xs,r,ob,es,ep,e,c⟩:=x
    exact⟨z,y,xs,Paired.mapP r fun p q z=>⟨z.1,ht _ _ z.2.1,z.2.2⟩,ob,es,ep,k _ _ (.inl rfl) e,c⟩
  | set S n=>obtain⟨ob,es,ep,t,e,c⟩:=x;exact⟨ob,es,ep,t,k _ _ (.inl rfl) e,c⟩
  | ins C dx fs =>
    obtain⟨d,z,ne,e,mA,⟨od,es,ep,e2,c⟩,r⟩:=x
    exact⟨ho _ d,z,ne,k _ _ (.inl rfl) e,mA,⟨od,es,ep,k _ _ (.inr d) e2,c⟩,r⟩
  | own y=>obtain⟨ob,e⟩:=x;exact⟨ob,k _ _ (.inl rfl) e⟩
  | xd fs=>obtain⟨mA,⟨od,es,ep,e,c⟩,r⟩:=x;exact⟨mA,⟨od,es,ep,k _ _ (.inl rfl) e,c⟩,r⟩
  | rng lo hi=>obtain⟨t,u,v,e⟩:=x;exact⟨t,u,v,k _ _ (.inl rfl) e⟩
  | frz ob u ih=>obtain⟨e,q⟩:=x;exact⟨k _ _ (.inl rfl) e,ih q⟩
  | tbl ps =>
    have e:h.get? a=some { cls:=.none,data:=.fields ps }:=x
    show h'.get? a=some { cls:=.none,data:=.fields ps }
    exact k a _ (.inl rfl) e
  | met f y =>
    have e:h.get? a=some (PySem.W.methodObj (.ref f) (.ref y)):=x
    show h'.get? a=some (PySem.W.methodObj (.ref f) (.ref y))
    exact k a _ (.inl rfl) e
  | ext φ=>obtain⟨p,⟨o,e⟩,st⟩:=x;exact⟨st _ _ p fun o q=>k _ _ (.inl rfl) q,⟨o,k _ _ (.inl rfl) e⟩,st⟩
theorem HOk.lt (x:HOk P w H h) (e:H a=some o):a<h.objs.size:=(x a o e).lt
theorem HOk.fresh (x:HOk P w H h) (e:h.objs.size≤a):H a=none:=by
  cases q:H a with
  | none=>rfl
  | some u=>exact absurd (Nat.lt_of_lt_of_le (x.lt q) e) (Nat.lt_irrefl _)
theorem HOk.kept (x:HOk P w H h) (k:∀ b u,h.get? b=some u→h'.get? b=some u):HOk P w H h':=fun a o e =>
  (x a o e).stay (fun b u _ q=>k b u q) (fun _ q=>q) fun _ _ q=>q
theorem HOk.laid (x:HOk P w H h) (k:∀ b u,h.get? b=some u→h'.get? b=some u) (hp:h.objs.size≤a) (new:ObjOk P w (upd H a o) h' a o):HOk P w (upd H a o) h':=fun b u e=>by
  have hn:=x.fresh hp
  by_cases hb:b=a
  · subst hb;rw[upd_same] at e;cases e;exact new
  · rw[upd_ne hb] at e
    exact (x b u e).stay (fun c v _ q=>k c v q) (fun c q=>by rw[upd_ne (ne_of_none q hn)];exact q) fun c xs q=>by rw[upd_ne (ne_of_none q hn)];exact q
end
noncomputable def Rd (H:Hp) (a:Addr) (u:HO):Prop:=H a=some u∨∃ o,H a=some (.frz o u)
theorem Rd.ok {P:Program} {w:World} {H:Hp} {h:Heap} {a:Addr} {u:HO} (r:Rd H a u) (x:HOk P w H h):ObjOk P w H h a u:=by
  rcases r with r | ⟨o,r⟩
  · exact x a u r
  · obtain⟨_,q⟩:=x a _ r
    exact q
noncomputable def Mut:Option HO→Prop
  | some (.lst _)=>True
  | some (.dK _)=>True
  | some (.dT _)=>True
  | some (.set _ _)=>True
  | some (.ins _ _ _)=>True
  | some (.ext _)=>True
  | _=>False
section
variable {P:Program} {w:World} {H:Hp} {h h':Heap} {x e:Addr} {o':HO}
theorem HOk.write (ok:HOk P w H h) (mu:Mut (H x)) (he:e=x∨H e=some (.own x)) (k:∀ b u,b≠e→h.get? b=some u→h'.get? b=some u) (heo:∃ u,h'.get? e=some u)
    (new:ObjOk P w (upd H x o') h' x o'):HOk P w (upd H x o') h':=fun b u q=>by
  have nown:∀ c y,H c=some (.own y)→c≠x:=fun c y r z=>by subst z;rw[r] at mu;exact mu
  have ntup:∀ c xs,H c=some (.tup xs)→c≠x:=fun c xs r z=>by subst z;rw[r] at mu;exact mu
  by_cases hb:b=x
  · subst hb;rw[upd_same] at q;cases q;exact new
  · rw[upd_ne hb] at q
    by_cases hbe:b=e
    · have q':H b=some (.own x):=by
        rcases he with z | z
        · exact absurd (hbe.trans z) hb
        · rw[hbe];exact z
      rw[q] at q';cases q'
      obtain⟨v,hv⟩:=heo
      exact⟨v,by rw[hbe];exact hv⟩
    · refine (ok b u q).stay (fun c v hc r=>k c v ?_ r) (fun c r=>by rw[upd_ne (nown c b r)];exact r) fun c xs r=>by rw[upd_ne (ntup c xs r)];exact r
      rcases hc with rfl | hc
      · exact hbe
      · rintro rfl
        rcases he with z | z
        · exact nown c b hc z
        · rw[hc] at z;cases z;exact hb rfl
end
structure Un (fs ex:List Addr) (H H':Hp) (h h':Heap):Prop where
  keep:∀ b o,h.get? b=some o→H b=none→b∉fs→b∉ex→h'.get? b=some o
  slot:∀ b o,h.get? b=some o→H b=none→b∈fs→b∉ex→∃ sl,h'.get? b=some { o with slots:=sl }
  free:∀ b o,h.get? b=some o→H b=none→b∉ex→H' b=none
  there:∀ b o,h.get? b=some o→b∉ex→∃ o',h'.get? b=some o'
  tups:∀ b xs,H b=some (.tup xs)→H' b=some (.tup xs)
  frzs:∀ b o u,H b=some (.frz o u)→H' b=some (.frz o u)
  tbls:∀ b ps,H b=some (.tbl ps)→∃ more,H' b=some (.tbl (ps++more))
section
variable {fs fs' ex ex':List Addr} {H H1 H2:Hp} {h h1 h2 h':Heap} {a x e:Addr} {o:HO}
theorem Un.any (u:Un fs ex H H1 h h1) {b:Addr} {ob:Obj} (q:h.get? b=some ob) (n:H b=none) (hx:b∉ex):∃ sl,h1.get? b=some { ob with slots:=sl }:=by
  by_cases hb:b∈fs
  · exact u.slot b ob q n hb hx
  · exact⟨ob.slots,u.keep b ob q n hb hx⟩
theorem Un.kept (k:∀ b u,h.get? b=some u→h'.get? b=some u):Un fs ex H H h h' :=
  ⟨fun b ob q _ _ _=>k b ob q,fun b ob q _ _ _=>⟨ob.slots,k b ob q⟩,fun _ _ _ n _=>n,fun b ob q _=>⟨ob,k b ob q⟩,fun _ _ q=>q,fun _ _ _ q=>q,fun _ ps q=>⟨#[],by rw[q];simp⟩⟩
theorem Un.refl:Un fs ex H H h h:=Un.kept fun _ _ q=>q
theorem Un.laid (k:∀ b u,h.get? b=some u→h'.get? b=some u) (hp:h.objs.size≤a) (hn:H a=none):Un fs ex H (upd H a o) h h' where
  keep:=fun b u q _ _ _=>k b u q
  slot:=fun b u q _ _ _=>⟨u.slots,k b u q⟩
  free:=fun b u q n _=>by rw[upd_ne (Nat.ne_of_lt (Nat.lt_of_lt_of_le (Heap.lt_size q) hp))];exact n
  there:=fun b u q _=>⟨u,k b u q⟩
  tups:=fun b xs q=>by rw[upd_ne (ne_of_none q hn)];exact q
  frzs:=fun b u xs q=>by rw[upd_ne (ne_of_none q hn)];exact q
  tbls:=fun b ps q=>⟨#[],by rw[upd_ne (ne_of_none q hn),q];simp⟩
theorem Un.write (mu:Mut (H x)) (he:e=x∨H e=some (.own x)) (k:∀ b u,b≠e→h.get? b=some u→h'.get? b=some u) (heo:∃ u,h'.get? e=some u):Un fs ex H (upd H x o) h h':=by
  have hx:∀ b,H b=none→b≠x:=fun b n z=>by subst z;rw[n] at mu;exact mu
  have hb:∀ b,H b=none→b≠e:=fun b n z=>by
    subst z
    rcases he with r | r
    · exact hx b n r
    · rw[n] at r;cases r
  have hm:∀ b u,H b=some u→¬ Mut (some u)→b≠x:=fun b u q nm z=>by subst z;rw[q] at mu;exact nm mu
  refine⟨fun b u q n _ _=>k b u (hb b n) q,fun b u q n _ _=>⟨u.slots,k b u (hb b n) q⟩,fun b u q n _=>by rw[upd_ne (hx b n)];exact n,fun b u q _=>?_,
    fun b xs q=>by rw[upd_ne (hm b _ q fun z=>z)];exact q,fun b u xs q=>by rw[upd_ne (hm b _ q fun z=>z)];exact q,fun b ps q=>⟨#[],by rw[upd_ne (hm b _ q fun z=>z),q];simp⟩⟩
  by_cases hbe:b=e
  · subst hbe;exact heo
  · exact⟨u,k b u hbe q⟩
end
noncomputable def trk (h:Heap) (H:Hp):List Addr:=(List.range h.objs.size).filter fun a=>(H a).isSome
noncomputable def hidT (h:Heap) (H:Hp):Heap:=PySem.W.hideAll h (trk h H)
theorem hidT_size (h:Heap) (H:Hp):(hidT h H).objs.size=h.objs.size:=PySem.W.hideAll_size _ _
theorem hidT_get {h:Heap} {H:Hp} {b:Addr} {o:Obj} (e:h.get? b=some o) (n:H b=none):(hidT h H).get? b=some o :=
  PySem.W.hideAll_get _ e fun hm=>by
    have q:(H b).isSome=true:=(List.mem_filter.mp hm).2
    rw[n] at q;simp at q
theorem of_hidT {h:Heap} {H:Hp} {b:Addr} {o:Obj} (e:(hidT h H).get? b=some o):h.get? b=some o∧H b=none:=by
  have e':h.get? b=some o:=PySem.W.of_hideAll (trk h H) e
  refine⟨e',?_⟩
  cases q:H b with
  | none=>rfl
  | some x =>
    have hm:b∈trk h H:=List.mem_filter.mpr ⟨List.mem_range.mpr (Heap.lt_size e'),by simp[q]⟩
    have z:(hidT h H).get? b=none:=PySem.W.hideAll_none (trk h H) hm
    rw[z] at e;cases e
noncomputable def allNews (g h:Heap) (L:Addr):List (Addr × Obj):=(List.range h.objs.size).filterMap fun a=>if a=L∨(g.get? a).isSome=true then none else (h.get? a).map fun o=>(a,o)
noncomputable def rest (g h:Heap) (L d:Addr):List (Addr × Obj):=(allNews g h L).filter fun p=>decide (p.1≠d)
structure Mod (K:PySem.W.Frag) (mg:Str→Option Value) (base:Heap):Prop where
  kin:K.In base
  glob:base.Ns mainGlobals mg
  blt:∃ mb,base.Ns builtinsNs mb∧∀ x:Str,x≠"__name__"→mb x=bootBuiltins x
  nolimit:base.NoLimit
structure Cx where
  prog:Program
  w:World
  K:PySem.W.Frag
  mg:Str→Option Value
  base:Heap
  A:Around
  N:List Str
  s₀:Shared
  H₀:Hp
  env:Env
  outer:List Env
  stack:List Env
  ex:List Addr
  fn:Str→Bool
  calm:Bool
  pn:List (Addr × Obj)
  xe:Value→Shared→Prop
noncomputable def frs (l:List Env):List Addr:=l.filterMap (·.frame)
noncomputable abbrev Cx.fs (X:Cx):List Addr:=frs X.outer
noncomputable def Vis (sc:Scope) (x:Str):Prop:=sc.names.lookup x=some .local∨sc.names.lookup x=some .cell∨sc.names.lookup x=some .free
noncomputable def Loc (sc:Scope) (x:Str):Prop:=sc.names.lookup x=some .local∨sc.names.lookup x=some .cell
noncomputable def Look (env:Env) (h:Heap) (m:Str→Option Value) (x:Str) (u:Value):Prop :=
  (env.kindOf x=some .local∧m x=some u)∨((env.kindOf x=some .cell∨env.kindOf x=some .free)∧∃ c,env.cells.lookup x=some c∧h.IsCell c (some u))
structure Cx.Ok (X:Cx):Prop where
  mod:Mod X.K X.mg X.base
  kind:X.env.scope.kind = .function
  glob:X.env.globals=mainGlobals
  blt:X.env.builtins=builtinsNs
  above:X.s₀.heap.objs.size≤X.env.locals
  inj:∀ x y c,X.env.cells.lookup x=some c→X.env.cells.lookup y=some c→x=y
  has:∀ x,(X.env.kindOf x=some .cell∨X.env.kindOf x=some .free)→∃ c,X.env.cells.lookup x=some c
  cab:∀ x c,X.fn x=true→X.env.cells.lookup x=some c→X.s₀.heap.objs.size≤c
  hd:X.calm=true→X.A.handled=none
  frames:X.A.frames=some X.stack
  stk:X.stack=X.outer∨(X.stack=X.env::X.outer∧X.env.frame=some X.env.locals)
  exf:∀ b∈X.ex,b≠X.env.locals∧∀ x c,X.env.cells.lookup x=some c→c≠b
  bs:∀ b o,X.base.get? b=some o→X.s₀.heap.get? b=some o∧X.H₀ b=none
  bsz:X.base.objs.size≤X.s₀.heap.objs.size
  noex:∀ b o,X.base.get? b=some o→b∉X.ex
  exfs:∀ b∈X.ex,b∉X.fs
  funs:X.s₀.heap.FunFrames X.base X.outer
  frf:∀ b∈X.fs,X.H₀ b=none
structure Inv (X:Cx) (pins:List (Addr × Obj)) (σ:List (Option V)) (H:Hp) (s:Shared):Prop where
  ok:X.Ok
  os:s.os=X.s₀.os
  bare:AllBare s.gens
  base:Un X.fs X.ex X.H₀ H X.s₀.heap s.heap
  loc:∃ m,s.heap.Ns X.env.locals m∧∀ (i:Nat) (x:Str) (v:V),X.N[i]? = some x→σ[i]? = some (some v)→Vis X.env.scope x→∃ u,RelV v u∧Look X.env s.heap m x u
  cell:∀ x c,X.env.cells.lookup x=some c→∃ v,s.heap.IsCell c v
  free:H X.env.locals=none
  freeC:∀ x c,X.env.cells.lookup x=some c→H c=none
  pin:∀ p∈X.pn++pins,s.heap.get? p.1=some p.2∧H p.1=none∧p.1≠X.env.locals∧p.1∉X.fs∧∀ v,p.2.data≠.cell v
  hok:HOk X.prog X.w H s.heap
  len:σ.length=X.N.length
section
variable {X:Cx} {pins:List (Addr × Obj)} {σ:List (Option V)} {H H':Hp} {s:Shared} {h':Heap}
theorem Cx.Ok.nofr (ok:X.Ok) {b:Addr} {o:Obj} (e:X.base.get? b=some o):b∉X.fs:=fun hb=>by
  have:=(ok.funs.mem hb).1
  rw[e] at this;cases this
theorem Inv.bs (I:Inv X pins σ H s):∀ b o,X.base.get? b=some o→s.heap.get? b=some o∧H b=none:=fun b o e =>
  ⟨I.base.keep b o (I.ok.bs b o e).1 (I.ok.bs b o e).2 (I.ok.nofr e) (I.ok.noex b o e),I.base.free b o (I.ok.bs b o e).1 (I.ok.bs b o e).2 (I.ok.noex b o e)⟩
theorem Inv.bk (I:Inv X pins σ H s):∀ b o,X.base.get? b=some o→s.heap.get? b=some o:=fun b o e=>(I.bs b o e).1
theorem Inv.mod (I:Inv X pins σ H s):Mod X.K X.mg X.base:=I.ok.mod
theorem Inv.kIn (I:Inv X pins σ H s):X.K.In s.heap:=I.ok.mod.kin.keeps I.bk
theorem Inv.lt (I:Inv X pins σ H s):X.env.locals<s.heap.objs.size:=let ⟨_,hn,_⟩:=I.loc;hn.lt
theorem Inv.sz (I:Inv X pins σ H s):X.s₀.heap.objs.size≤s.heap.objs.size:=Nat.le_trans I.ok.above (Nat.le_of_lt I.lt)
theorem Inv.nofs (I:Inv X pins σ H s) {a:Addr} (h:s.heap.objs.size≤a):a∉X.fs:=fun hb=>by
  obtain⟨_,o,ho,_⟩:=I.ok.funs.mem hb
  exact absurd (Nat.lt_of_lt_of_le (Heap.lt_size ho) (Nat.le_trans I.sz h)) (Nat.lt_irrefl _)
theorem Inv.cne (I:Inv X pins σ H s):∀ x c,X.env.cells.lookup x=some c→c≠X.env.locals:=fun x c e z=>by
  obtain⟨v,o,ho,hd⟩:=I.cell x c e
  obtain⟨m,⟨o',es,ep,ho',hd',_⟩,_⟩:=I.loc
  rw[z,ho'] at ho;cases ho;rw[hd'] at hd;cases hd
theorem Inv.funs (I:Inv X pins σ H s):s.heap.FunFrames X.base X.outer:=by
  have all:∀ (l:List Env),(∀ b∈frs l,b∈X.fs)→X.s₀.heap.FunFrames X.base l→s.heap.FunFrames X.base l:=by
    intro l
    induction l with
    | nil=>intro _ _;trivial
    | cons env r ih =>
      intro hs hl
      obtain⟨hk,⟨L,o,hf,hn,ho,hd⟩,hr⟩:=hl
      have hL:L∈X.fs:=hs L (by unfold frs;rw[List.filterMap_cons,hf];exact List.mem_cons_self)
      obtain⟨sl,e⟩:=I.base.slot L o ho (I.ok.frf L hL) hL fun z=>I.ok.exfs L z hL
      exact⟨hk,⟨L,_,hf,hn,e,hd⟩,ih (fun b hb=>hs b (by unfold frs;rw[List.filterMap_cons,hf];exact List.mem_cons_of_mem _ hb)) hr⟩
  exact all X.outer (fun _ hb=>hb) I.ok.funs
theorem Inv.stack (I:Inv X pins σ H s):s.heap.FunFrames X.base X.stack:=by
  rcases I.ok.stk with e | ⟨e,hf⟩
  · rw[e];exact I.funs
  · rw[e]
    obtain⟨m,hn,_⟩:=I.loc
    refine .cons (by rw[I.ok.kind];decide) hf hn ?_ I.funs
    exact Heap.get?_none_of_le (Nat.le_trans I.ok.bsz I.ok.above)
theorem Inv.stkSub (I:Inv X pins σ H s):∀ b∈frs X.stack,b∈X.env.locals::X.fs:=fun b hb=>by
  rcases I.ok.stk with e | ⟨e,hf⟩
  · rw[e] at hb;exact List.mem_cons_of_mem _ hb
  · rw[e] at hb
    unfold frs at hb
    rw[List.filterMap_cons,hf] at hb
    exact hb
theorem Inv.stkFree (I:Inv X pins σ H s):∀ b∈frs X.stack,H b=none:=fun b hb=>by
  rcases List.mem_cons.mp (I.stkSub b hb) with e | hb
  · rw[e];exact I.free
  · obtain⟨_,o,ho,_⟩:=I.ok.funs.mem hb
    exact I.base.free b o ho (I.ok.frf b hb) fun z=>I.ok.exfs b z hb
theorem Inv.step {g':Array GenState} {t':Nat} {d':Drawn} {ch:List Addr} (I:Inv X pins σ H s)
    (hch:∀ b∈ch,(b∈X.ex∨X.s₀.heap.get? b=none)∧b≠X.env.locals∧(∀ x c,X.env.cells.lookup x=some c→c≠b)∧∀ p∈X.pn++pins,p.1≠b)
    (keep:∀ b o,b≠X.env.locals→b∉X.fs→b∉ch→s.heap.get? b=some o→H b=none→h'.get? b=some o)
    (slot:∀ b o,b≠X.env.locals→b∈X.fs→b∉ch→s.heap.get? b=some o→H b=none→∃ sl,h'.get? b=some { o with slots:=sl }) (free:∀ b o,b∉ch→s.heap.get? b=some o→H b=none→H' b=none)
    (there:∀ b o,b∉ch→s.heap.get? b=some o→∃ o',h'.get? b=some o')
    (tups:∀ b xs,H b=some (.tup xs)→H' b=some (.tup xs)) (frzs:∀ b o u,H b=some (.frz o u)→H' b=some (.frz o u)) (tbls:∀ b ps,H b=some (.tbl ps)→∃ more,H' b=some (.tbl (ps++more)))
    (ns:∀ m,s.heap.Ns X.env.locals m→h'.Ns X.env.locals m) (hok:HOk X.prog X.w H' h') (hg:AllBare g') :
    Inv X pins σ H' { s with heap:=h',gens:=g',drawn:=d',toks:=t' }:=by
  have neL:∀ b o,X.s₀.heap.get? b=some o→b≠X.env.locals:=fun b o e=>Nat.ne_of_lt (Nat.lt_of_lt_of_le (Heap.lt_size e) I.ok.above)
  have neC:∀ b o,X.s₀.heap.get? b=some o→b∉X.ex→b∉ch:=fun b o e hx hb=>by
    rcases (hch b hb).1 with z | z
    · exact hx z
    · rw[z] at e;cases e
  have cellK:∀ x c,X.env.cells.lookup x=some c→∀ v,s.heap.IsCell c v→h'.IsCell c v:=fun x c e v ⟨o,ho,hd⟩=>by
    have nch:c∉ch:=fun z=>(hch c z).2.2.1 x c e rfl
    by_cases hc:c∈X.fs
    · obtain⟨sl,q⟩:=slot c o (I.cne x c e) hc nch ho (I.freeC x c e)
      exact⟨_,q,hd⟩
    · exact⟨o,keep c o (I.cne x c e) hc nch ho (I.freeC x c e),hd⟩
  refine⟨I.ok,I.os,hg,⟨fun b o e n hb hx=>?_,fun b o e n hb hx=>?_,fun b o e n hx=>?_,fun b o e hx=>?_,fun b xs e=>tups b xs (I.base.tups b xs e),fun b o xs e=>frzs b o xs (I.base.frzs b o xs e),fun b ps e=>?_⟩,?_,fun x c e=>?_,?_,fun x c e=>?_,fun p hp=>?_,hok,I.len⟩
  · exact keep b o (neL b o e) hb (neC b o e hx) (I.base.keep b o e n hb hx) (I.base.free b o e n hx)
  · obtain⟨sl,e1⟩:=I.base.slot b o e n hb hx
    obtain⟨sl',e2⟩:=slot b _ (neL b o e) hb (neC b o e hx) e1 (I.base.free b o e n hx)
    exact⟨sl',e2⟩
  · obtain⟨o',e1⟩:=I.base.there b o e hx
    exact free b o' (neC b o e hx) e1 (I.base.free b o e n hx)
  · obtain⟨o',e1⟩:=I.base.there b o e hx
    exact there b o' (neC b o e hx) e1
  · obtain⟨m1,e1⟩:=I.base.tbls b ps e
    obtain⟨m2,e2⟩:=tbls b _ e1
    exact⟨m1++m2,by rw[e2,Array.append_assoc]⟩
  · obtain⟨m,hn,hl⟩:=I.loc
    refine⟨m,ns m hn,fun i x v e1 e2 e3=>?_⟩
    obtain⟨u,r,l⟩:=hl i x v e1 e2 e3
    refine⟨u,r,?_⟩
    rcases l with l | ⟨k,c,e,z⟩
    · exact .inl l
    · exact .inr ⟨k,c,e,cellK x c e _ z⟩
  · obtain⟨v,z⟩:=I.cell x c e
    exact⟨v,cellK x c e v z⟩
  · obtain⟨m,⟨o,_,_,ho,_⟩,_⟩:=I.loc
    exact free _ o (fun z=>(hch _ z).2.1 rfl) ho I.free
  · obtain⟨v,o,ho,hd⟩:=I.cell x c e
    exact free c o (fun z=>(hch c z).2.2.1 x c e rfl) ho (I.freeC x c e)
  · obtain⟨e,n,ne,nf,d⟩:=I.pin p hp
    have nch:p.1∉ch:=fun z=>(hch p.1 z).2.2.2 p hp rfl
    exact⟨keep p.1 p.2 ne nf nch e n,free p.1 p.2 nch e n,ne,nf,d⟩
theorem Inv.un {t':Nat} (I:Inv X pins σ H s) (u:Un X.fs [] H H' s.heap h') (hok:HOk X.prog X.w H' h'):Inv X pins σ H' { s with heap:=h',toks:=t' }:=by
  obtain⟨m,⟨o,es,ep,ho,r⟩,_⟩:=id I.loc
  obtain⟨sl,hL⟩:=u.any ho I.free (by simp)
  exact I.step (g':=s.gens) (d':=s.drawn) (ch:=[]) (fun _ z=>nomatch z) (fun b o _ hb _ e n=>u.keep b o e n hb (by simp)) (fun b o _ hb _ e n=>u.slot b o e n hb (by simp)) (fun b o _ e n=>u.free b o e n (by simp)) (fun b o _ e=>u.there b o e (by simp)) u.tups u.frzs u.tbls (fun m' hm=>by
    obtain⟨o',es',ep',ho',r'⟩:=hm
    rw[ho] at ho';cases ho'
    exact⟨_,es',ep',hL,r'⟩) hok I.bare
theorem Inv.call {g':Array GenState} {t':Nat} {d':Drawn} {ch:List Addr} (I:Inv X pins σ H s) (u:Un (frs X.stack) ch H H' s.heap h') (hok:HOk X.prog X.w H' h') (hg:AllBare g')
    (hch:∀ b∈ch,(b∈X.ex∨X.s₀.heap.get? b=none)∧b≠X.env.locals∧(∀ x c,X.env.cells.lookup x=some c→c≠b)∧∀ p∈X.pn++pins,p.1≠b) :
    Inv X pins σ H' { s with heap:=h',gens:=g',drawn:=d',toks:=t' }:=by
  obtain⟨m,⟨o,es,ep,ho,r⟩,_⟩:=id I.loc
  obtain⟨sl,hL⟩:=u.any ho I.free fun z=>(hch _ z).2.1 rfl
  exact I.step (ch:=ch) hch (fun b o hL hb hc e n=>u.keep b o e n (fun z=>(List.mem_cons.mp (I.stkSub b z)).elim hL hb) hc) (fun b o _ _ hc e n=>u.any e n hc) (fun b o hc e n=>u.free b o e n hc) (fun b o hc e=>u.there b o e hc) u.tups u.frzs u.tbls (fun m' hm=>by
    obtain⟨o',es',ep',ho',r'⟩:=hm
    rw[ho] at ho';cases ho'
    exact⟨_,es',ep',hL,r'⟩) hok hg
theorem Inv.turned {t':Nat} {it:Addr} (I:Inv X pins σ H s) (k:∀ b o,b≠it→s.heap.get? b=some o→h'.get? b=some o) (hn:H it=none) (hL:it≠X.env.locals)
    (h1:it∈X.ex∨X.s₀.heap.get? it=none) (h2:∀ x c,X.env.cells.lookup x=some c→c≠it) (h3:∀ p∈X.pn++pins,p.1≠it):Inv X pins σ H { s with heap:=h',toks:=t' }:=by
  have nit:∀ b u,H b=some u→b≠it:=fun b u e z=>by rw[z,hn] at e;cases e
  refine I.step (g':=s.gens) (d':=s.drawn) (ch:=[it]) (fun b hb=>?_) (fun b o _ _ hc e _=>k b o (fun z=>hc (by simp[z])) e) (fun b o _ _ hc e _=>⟨o.slots,k b o (fun z=>hc (by simp[z])) e⟩) (fun _ _ _ _ n=>n)
    (fun b o hc e=>⟨o,k b o (fun z=>hc (by simp[z])) e⟩) (fun _ _ e=>e) (fun _ _ _ e=>e) (fun b ps e=>⟨#[],by rw[e];simp⟩) (fun m hm=>?_) (fun b u e=>?_) I.bare
  · have e:b=it:=by simpa using hb
    subst e
    exact⟨h1,hL,h2,h3⟩
  · obtain⟨o,es,ep,ho,r⟩:=hm
    exact⟨o,es,ep,k _ o (Ne.symm hL) ho,r⟩
  · refine (I.hok b u e).stay (fun c v hc q=>k c v ?_ q) (fun _ q=>q) fun _ _ q=>q
    rcases hc with z | z
    · rw[z];exact nit b u e
    · exact nit c _ z
theorem Inv.tok (I:Inv X pins σ H s) (t:Nat):Inv X pins σ H { s with toks:=t }:=I.un (h':=s.heap) (t':=t) Un.refl I.hok
theorem Inv.kept {t':Nat} (I:Inv X pins σ H s) (k:∀ b u,s.heap.get? b=some u→h'.get? b=some u):Inv X pins σ H { s with heap:=h',toks:=t' }:=I.un (Un.kept k) (I.hok.kept k)
theorem Inv.laid {a:Addr} {o:HO} {t':Nat} (I:Inv X pins σ H s) (k:∀ b u,s.heap.get? b=some u→h'.get? b=some u) (hp:s.heap.objs.size≤a) (new:ObjOk X.prog X.w (upd H a o) h' a o) :
    Inv X pins σ (upd H a o) { s with heap:=h',toks:=t' }:=I.un (Un.laid k hp (I.hok.fresh hp)) (I.hok.laid k hp new)
theorem Inv.write {x e:Addr} {o:HO} {t':Nat} (I:Inv X pins σ H s) (mu:Mut (H x)) (he:e=x∨H e=some (.own x)) (k:∀ b u,b≠e→s.heap.get? b=some u→h'.get? b=some u) (heo:∃ u,h'.get? e=some u)
    (new:ObjOk X.prog X.w (upd H x o) h' x o):Inv X pins σ (upd H x o) { s with heap:=h',toks:=t' }:=I.un (Un.write mu he k heo) (I.hok.write mu he k heo new)
theorem Inv.pins_of {pins':List (Addr × Obj)} (I:Inv X pins σ H s) (h:∀ p∈pins',s.heap.get? p.1=some p.2∧H p.1=none∧p.1≠X.env.locals∧p.1∉X.fs∧∀ v,p.2.data≠.cell v):Inv X pins' σ H s :=
  ⟨I.ok,I.os,I.bare,I.base,I.loc,I.cell,I.free,I.freeC,fun p hp=>(List.mem_append.mp hp).elim (fun z=>I.pin p (List.mem_append_left _ z)) (h p),I.hok,I.len⟩
theorem nodup_ix {N:List Str} (hN:N.Nodup) {i j:Nat} {x:Str} (a:N[i]? = some x) (b:N[j]? = some x):i=j:=by
  obtain⟨h1,e1⟩:=List.getElem?_eq_some_iff.mp a
  obtain⟨h2,e2⟩:=List.getElem?_eq_some_iff.mp b
  exact (List.getElem_inj hN).mp (e1.trans e2.symm)
theorem store_ok2 {M:Model} {A:Around} {E:Value→Shared→Prop} {i:Nat} {x:Str} {v:V} {u:Value} {Q:Unit→Shared→Prop} (I:Inv X pins σ H s) (hN:X.N.Nodup) (hi:X.N[i]? = some x) (hx:Loc X.env.scope x) (r:RelV v u)
    (h:∀ s',Inv X pins (σ.set i (some v)) H s'→(∃ a,Heap.SameBut a s.heap s'.heap∧(a=X.env.locals∨X.env.cells.lookup x=some a))→Q () s') (hf:X.fn x=true∨X.env.scope.names.lookup x=some .local:=by first | exact .inl rfl | exact .inr rfl | assumption):wpAny M A (storeName X.env x u) Q E s:=by
  obtain⟨m,hn,hl⟩:=id I.loc
  have hcls:(X.env.scope.kind == .class || (X.env.scope.kind == .module&&X.env.locals != X.env.globals))=false:=by rw[I.ok.kind];rfl
  have hiσ:i < σ.length:=by rw[I.len];exact (List.getElem?_eq_some_iff.mp hi).1
  have cne:=I.cne
  have tracked:∀ {a:Addr} {h':Heap},(∃ o,s.heap.get? a=some o∧H a=none)→Heap.SameBut a s.heap h'→HOk X.prog X.w H h':=fun {a h'} ha hs b ob e=>by
    obtain⟨_,_,hfree⟩:=ha
    refine (I.hok b ob e).stay (fun c w' hc q=>(hs.2 c ?_).trans q) (fun _ q=>q) fun _ _ q=>q
    rintro rfl
    rcases hc with rfl | hc
    · rw[hfree] at e;cases e
    · rw[hfree] at hc;cases hc
  rcases hx with hk | hk
  · refine wpAny_storeName_local hk hn (fun h' hn' hs=>?_) hcls
    obtain⟨oL,_,_,hoL,_⟩:=id hn
    refine h _ ⟨I.ok,I.os,I.bare,⟨fun b o e n hb hx=>?_,fun b o e n hb hx=>?_,I.base.free,fun b o e hx=>?_,I.base.tups,I.base.frzs,I.base.tbls⟩,⟨_,hn',fun j y v' e1 e2 e3=>?_⟩,fun y c e=>?_,I.free,I.freeC,fun p hp=>?_,tracked ⟨oL,hoL,I.free⟩ hs,by simpa using I.len⟩ ⟨_,hs,.inl rfl⟩
    · exact (hs.2 b (Nat.ne_of_lt (Nat.lt_of_lt_of_le (Heap.lt_size e) I.ok.above))).trans (I.base.keep b o e n hb hx)
    · obtain⟨sl,e1⟩:=I.base.slot b o e n hb hx
      exact⟨sl,(hs.2 b (Nat.ne_of_lt (Nat.lt_of_lt_of_le (Heap.lt_size e) I.ok.above))).trans e1⟩
    · obtain⟨o',e1⟩:=I.base.there b o e hx
      exact⟨o',(hs.2 b (Nat.ne_of_lt (Nat.lt_of_lt_of_le (Heap.lt_size e) I.ok.above))).trans e1⟩
    · by_cases hj:j=i
      · subst hj
        rw[hi] at e1;cases e1
        rw[List.getElem?_set_self hiσ] at e2
        cases e2
        exact⟨u,r,.inl ⟨hk,by simp⟩⟩
      · rw[List.getElem?_set_ne (Ne.symm hj)] at e2
        obtain⟨u',r',q⟩:=hl j y v' e1 e2 e3
        refine⟨u',r',?_⟩
        rcases q with ⟨k,e⟩ | ⟨k,c,e,z⟩
        · refine .inl ⟨k,?_⟩
          have:y≠x:=fun e=>hj (nodup_ix hN e1 (e ▸ hi))
          simp[this,e]
        · exact .inr ⟨k,c,e,z.sameBut hs (cne y c e)⟩
    · obtain⟨w',z⟩:=I.cell y c e
      exact⟨w',z.sameBut hs (cne y c e)⟩
    · obtain⟨e,n,ne,nf,d⟩:=I.pin p hp
      exact⟨(hs.2 p.1 ne).trans e,n,ne,nf,d⟩
  · have hfn:X.fn x=true:=by
      rcases hf with z | z
      · exact z
      · rw[z] at hk;cases hk
    obtain⟨c,hc⟩:=I.ok.has x (.inl hk)
    obtain⟨w',z⟩:=I.cell x c hc
    refine wpAny_storeName_cell I.ok.kind hk hc z (fun h' hc' hs=>?_)
    obtain⟨oc,hoc,hocd⟩:=id z
    refine h { s with heap:=h' } ⟨I.ok,I.os,I.bare,⟨fun b o e n hb hx=>?_,fun b o e n hb hx=>?_,I.base.free,fun b o e hx=>?_,I.base.tups,I.base.frzs,I.base.tbls⟩,⟨m,hn.sameBut hs (Ne.symm (cne x c hc)),fun j y v' e1 e2 e3=>?_⟩,fun y c' e=>?_,I.free,I.freeC,fun p hp=>?_,tracked ⟨oc,hoc,I.freeC x c hc⟩ hs,by simpa using I.len⟩ ⟨c,hs,.inr hc⟩
    · exact (hs.2 b (Nat.ne_of_lt (Nat.lt_of_lt_of_le (Heap.lt_size e) (I.ok.cab x c hfn hc)))).trans (I.base.keep b o e n hb hx)
    · obtain⟨sl,e1⟩:=I.base.slot b o e n hb hx
      exact⟨sl,(hs.2 b (Nat.ne_of_lt (Nat.lt_of_lt_of_le (Heap.lt_size e) (I.ok.cab x c hfn hc)))).trans e1⟩
    · obtain⟨o',e1⟩:=I.base.there b o e hx
      exact⟨o',(hs.2 b (Nat.ne_of_lt (Nat.lt_of_lt_of_le (Heap.lt_size e) (I.ok.cab x c hfn hc)))).trans e1⟩
    · by_cases hj:j=i
      · subst hj
        rw[hi] at e1;cases e1
        rw[List.getElem?_set_self hiσ] at e2
        cases e2
        exact⟨u,r,.inr ⟨.inl hk,c,hc,hc'⟩⟩
      · rw[List.getElem?_set_ne (Ne.symm hj)] at e2
        obtain⟨u',r',q⟩:=hl j y v' e1 e2 e3
        refine⟨u',r',?_⟩
        rcases q with q | ⟨k,c',e,z'⟩
        · exact .inl q
        · refine .inr ⟨k,c',e,z'.sameBut hs ?_⟩
          rintro rfl
          exact hj (nodup_ix hN e1 (I.ok.inj _ _ _ e hc ▸ hi))
    · by_cases hcc:c'=c
      · subst hcc;exact⟨_,hc'⟩
      · obtain⟨w2,z2⟩:=I.cell y c' e
        exact⟨w2,z2.sameBut hs hcc⟩
    · obtain⟨e,n,ne,nf,d⟩:=I.pin p hp
      refine⟨(hs.2 p.1 ?_).trans e,n,ne,nf,d⟩
      intro q
      rw[q,hoc] at e
      have q':oc=p.2:=Option.some.inj e
      exact d w' (by rw[← q'];exact hocd)
theorem store_ok {M:Model} {A:Around} {E:Value→Shared→Prop} {i:Nat} {x:Str} {v:V} {u:Value} {Q:Unit→Shared→Prop} (I:Inv X pins σ H s) (hN:X.N.Nodup) (hi:X.N[i]? = some x) (hx:Loc X.env.scope x) (r:RelV v u)
    (h:∀ s',Inv X pins (σ.set i (some v)) H s'→Q () s') (hf:X.fn x=true∨X.env.scope.names.lookup x=some .local:=by first | exact .inl rfl | exact .inr rfl | assumption):wpAny M A (storeName X.env x u) Q E s :=
  store_ok2 I hN hi hx r (fun s' I' _=>h s' I') hf
theorem Inv.call' {s':Shared} {ch:List Addr} (I:Inv X pins σ H s) (ho:s'.os=s.os) (u:Un (frs X.stack) ch H H' s.heap s'.heap) (hok:HOk X.prog X.w H' s'.heap) (hg:AllBare s'.gens)
    (hch:∀ b∈ch,(b∈X.ex∨X.s₀.heap.get? b=none)∧b≠X.env.locals∧(∀ x c,X.env.cells.lookup x=some c→c≠b)∧∀ p∈X.pn++pins,p.1≠b):Inv X pins σ H' s':=by
  obtain⟨h',g',d',t',o'⟩:=s'
  have e:o'=s.os:=ho
  subst e
  exact I.call (g':=g') (t':=t') (d':=d') u hok hg hch
end
noncomputable abbrev XK:=Value→Option Addr→Hp→Prop
noncomputable abbrev St:=List (Option V)
noncomputable abbrev VK:=V→Hp→Prop
noncomputable abbrev TE:=St→Hp→VK→Prop
noncomputable abbrev TT:=St→Hp→(Bool→Hp→Prop)→Prop
noncomputable abbrev TA:=St→Hp→(List V→Hp→Prop)→Prop
structure Ends where
  nx:St→Hp→Prop
  rt:VK
  bk:St→Hp→Prop:=fun _ _=>False
  ct:St→Hp→Prop:=fun _ _=>False
noncomputable abbrev TS:=Ends→St→Hp→Prop
noncomputable def EP (X:Cx) (pins:List (Addr × Obj)) (σ:St) (Q:VK) (u:Value) (s':Shared):Prop:=∃ v H',Inv X pins σ H' s'∧RelV v u∧Q v H'
noncomputable def TP (X:Cx) (pins:List (Addr × Obj)) (σ:St) (Q:Bool→Hp→Prop) (b:Bool) (s':Shared):Prop:=∃ H',Inv X pins σ H' s'∧Q b H'
noncomputable def AP (X:Cx) (pins:List (Addr × Obj)) (σ:St) (Q:List V→Hp→Prop) (us:List Value) (s':Shared):Prop:=∃ vs H',Inv X pins σ H' s'∧Vals vs us∧Q vs H'
noncomputable def SP (X:Cx) (pins:List (Addr × Obj)) (D:Ends) (f:Flow) (s':Shared):Prop :=
  match f with
  | .next=>∃ σ' H',Inv X pins σ' H' s'∧D.nx σ' H'
  | .brk=>∃ σ' H',Inv X pins σ' H' s'∧D.bk σ' H'
  | .cont=>∃ σ' H',Inv X pins σ' H' s'∧D.ct σ' H'
  | .ret u=>∃ v σ' H',Inv X pins σ' H' s'∧RelV v u∧D.rt v H'
noncomputable def PE (X:Cx) (e:Expr) (t:TE):Prop :=
  ∀ (pins:List (Addr × Obj)) (s:Shared) (σ:St) (H:Hp) (Q:VK),Inv X pins σ H s→t σ H Q→wpAny (model X.prog X.w) X.A (eval e X.env) (EP X pins σ Q) X.xe s
noncomputable def PT (X:Cx) (e:Expr) (t:TT):Prop :=
  ∀ (pins:List (Addr × Obj)) (s:Shared) (σ:St) (H:Hp) (Q:Bool→Hp→Prop),Inv X pins σ H s→t σ H Q→wpAny (model X.prog X.w) X.A (isTrue e X.env (eval e X.env)) (TP X pins σ Q) X.xe s
noncomputable def PW (X:Cx) (e:Expr) (t:TT):Prop :=
  ∀ (whole:Sem Value) (pins:List (Addr × Obj)) (s:Shared) (σ:St) (H:Hp) (Q:Bool→Hp→Prop),Inv X pins σ H s→t σ H Q→wpAny (model X.prog X.w) X.A (isTrue e X.env whole) (TP X pins σ Q) X.xe s
theorem PW.pt {X:Cx} {e:Expr} {t:TT} (h:PW X e t):PT X e t:=h _
noncomputable def PA (X:Cx) (es:List Expr) (t:TA):Prop :=
  ∀ (pos:Pos) (pins:List (Addr × Obj)) (s:Shared) (σ:St) (H:Hp) (Q:List V→Hp→Prop),Inv X pins σ H s→t σ H Q→wpAny (model X.prog X.w) X.A (spliced (backTo pos (starEach es X.env))) (AP X pins σ Q) X.xe s
noncomputable def PS (X:Cx) (st:Stmt) (t:TS):Prop :=
  ∀ (pins:List (Addr × Obj)) (s:Shared) (σ:St) (H:Hp) (D:Ends),Inv X pins σ H s→t D σ H→wpAny (model X.prog X.w) X.A (exec st X.env) (SP X pins D) X.xe s
noncomputable def PSs (X:Cx) (st:List Stmt) (t:TS):Prop :=
  ∀ (pins:List (Addr × Obj)) (s:Shared) (σ:St) (H:Hp) (D:Ends),Inv X pins σ H s→t D σ H→wpAny (model X.prog X.w) X.A (execs st X.env) (SP X pins D) X.xe s
theorem thn {α:Type} {t:Sem α} {Q Q':α→Shared→Prop} {M:Model} {A:Around} {E:Value→Shared→Prop} {s:Shared} (h:wpAny M A t Q E s) (hQ:∀ a s,Q a s→Q' a s):wpAny M A t Q' E s:=wpAny_mono h hQ fun _ _ x=>x
section
variable {X:Cx}
theorem bin {a b:Expr} {ta tb:TE} (ha:PE X a ta) (hb:PE X b tb) {pins:List (Addr × Obj)} {s:Shared} {σ:St} {H:Hp} {R:V→V→Hp→Prop} (I:Inv X pins σ H s) (h:ta σ H fun x H1=>tb σ H1 fun y H2=>R x y H2)
    {α:Type} {Q:α→Shared→Prop} {f:Value→Value→Sem α}
    (hf:∀ v u s2 x y H2,Inv X pins σ H2 s2→RelV x v→RelV y u→R x y H2→wpAny (model X.prog X.w) X.A (f v u) Q X.xe s2) :
    wpAny (model X.prog X.w) X.A (eval a X.env) (fun v s₁=>wpAny (model X.prog X.w) X.A (eval b X.env) (fun u s₂=>wpAny (model X.prog X.w) X.A (f v u) Q X.xe s₂) X.xe s₁) X.xe s:=by
  refine thn (ha pins s σ H _ I h) fun v s1 ⟨x,H1,I1,r1,q1⟩=>?_
  refine thn (hb pins s1 σ H1 _ I1 q1) fun u s2 ⟨y,H2,I2,r2,q2⟩=>?_
  exact hf v u s2 x y H2 I2 r1 r2 q2
noncomputable def tVar (i:Nat):TE:=fun σ H Q=>∃ v,σ[i]? = some (some v)∧Q v H
noncomputable def tC (v:V):TE:=fun _ H Q=>Q v H
theorem pe_var {i:Nat} {x:Str} {pos:Pos} (hN:X.N[i]? = some x) (hv:Vis X.env.scope x) (hd:(x==("__debug__":Str))=false:=by decide) (hcd:(x==("__classdict__":Str))=false:=by decide):PE X (.Name x pos) (tVar i):=by
  intro pins s σ H Q I h
  obtain⟨v,e,h⟩:=h
  obtain⟨m,hn,hl⟩:=I.loc
  obtain⟨u,r,l⟩:=hl i x v hN e hv
  have fin:EP X pins σ Q u s:=⟨v,H,I,r,h⟩
  rcases l with ⟨hk,hm⟩ | ⟨hk,c,hc,hcell⟩
  · exact wpAny_Name (wpAny_loadName_local I.ok.kind hk hn hm fin) hd
  · rcases hk with hk | hk
    · exact wpAny_Name (wpAny_loadName_cell I.ok.kind hk hc hcell fin) hd
    · exact wpAny_Name (wpAny_loadName_free I.ok.kind hk hc hcell fin hcd) hd
theorem pe_int {i j pos}:PE X (.Constant (.int i) j pos) (tC (.int i)):=fun _ _ _ H _ I h=>wpAny_Constant_int ⟨.int i,H,I.tok _,⟨_,rfl⟩,h⟩
theorem pe_bl {b j pos}:PE X (.Constant (.bool b) j pos) (tC (.bl b)):=fun _ _ _ H _ I h=>Constant_bool ⟨.bl b,H,I,rfl,h⟩
theorem pe_non {j pos}:PE X (.Constant .none j pos) (tC .non):=fun _ _ _ H _ I h=>Constant_none ⟨.non,H,I,rfl,h⟩
theorem pe_str {x j pos}:PE X (.Constant (.str x) j pos) (tC (.str x)):=fun _ _ _ H _ I h=>Calls.Constant_str ⟨.str x,H,I.tok _,⟨_,rfl⟩,h⟩
noncomputable def Gl (X:Cx) (x:Str):Prop:=X.env.kindOf x=some .globalImplicit
theorem ld_glob {E:Value→Shared→Prop} {pins:List (Addr × Obj)} {s:Shared} {σ:St} {H:Hp} {x:Str} {u:Value} {pos:Pos} {Q:Value→Shared→Prop} (I:Inv X pins σ H s) (hg:Gl X x) (hm:X.mg x=some u) (h:Q u s)
    (hd:(x==("__debug__":Str))=false:=by decide):wpAny (model X.prog X.w) X.A (eval (.Name x pos) X.env) Q E s :=
  Calls.Name_function_global I.ok.kind hg (Calls.loadGlobal_global (by rw[I.ok.glob];exact I.mod.glob.keeps I.bk) hm h) hd
theorem ld_blt {E:Value→Shared→Prop} {pins:List (Addr × Obj)} {s:Shared} {σ:St} {H:Hp} {x:Str} {u:Value} {pos:Pos} {Q:Value→Shared→Prop} (I:Inv X pins σ H s) (hg:Gl X x) (hm:X.mg x=none) (hv:bootBuiltins x=some u) (h:Q u s)
    (hn:x≠"__name__":=by decide) (hd:(x==("__debug__":Str))=false:=by decide):wpAny (model X.prog X.w) X.A (eval (.Name x pos) X.env) Q E s:=by
  obtain⟨mb,h1,h2⟩:=I.mod.blt
  exact Calls.Name_function_global I.ok.kind hg (Calls.loadGlobal_builtin (by rw[I.ok.glob];exact I.mod.glob.keeps I.bk) hm (by rw[I.ok.blt];exact h1.keeps I.bk) ((h2 x hn).trans hv) h) hd
theorem pe_glob {x:Str} {v:V} {u:Value} {pos:Pos} (hg:Gl X x) (hm:X.mg x=some u) (r:RelV v u) (hd:(x==("__debug__":Str))=false:=by decide):PE X (.Name x pos) (tC v) :=
  fun _ _ _ H _ I h=>ld_glob I hg hm ⟨v,H,I,r,h⟩ hd
theorem pe_bltn {x:Str} {v:V} {u:Value} {pos:Pos} (hg:Gl X x) (hm:X.mg x=none) (hv:bootBuiltins x=some u) (r:RelV v u) (hn:x≠"__name__":=by decide) (hd:(x==("__debug__":Str))=false:=by decide):PE X (.Name x pos) (tC v) :=
  fun _ _ _ H _ I h=>ld_blt I hg hm hv ⟨v,H,I,r,h⟩ hn hd
noncomputable def t2I (ta tb:TE) (k:Int→Int→Hp→Prop):St→Hp→Prop:=fun σ H=>ta σ H fun x H1=>tb σ H1 fun y H2=>∃ i j,x = .int i∧y = .int j∧k i j H2
noncomputable def tAdd (ta tb:TE):TE:=fun σ H Q=>t2I ta tb (fun i j H2=>Q (.int (i+j)) H2) σ H
noncomputable def tSub (ta tb:TE):TE:=fun σ H Q=>t2I ta tb (fun i j H2=>Q (.int (i - j)) H2) σ H
noncomputable def tMul (ta tb:TE):TE:=fun σ H Q=>t2I ta tb (fun i j H2=>(-(2 ^ 64)<i∧i<2 ^ 64)∧Q (.int (i*j)) H2) σ H
variable {a b:Expr} {ta tb:TE} {pos:Pos}
noncomputable def PC (X:Cx) (op:CmpOp) (a b:Expr) (t:TE):Prop :=
  ∀ (pins:List (Addr × Obj)) (s:Shared) (σ:St) (H:Hp) (Q:VK),Inv X pins σ H s→t σ H Q →
    wpAny (model X.prog X.w) X.A (eval a X.env) (fun v s₁=>wpAny (model X.prog X.w) X.A (eval b X.env) (fun u s₂=>wpAny (model X.prog X.w) X.A (compareOp op v u) (EP X pins σ Q) X.xe s₂) X.xe s₁) X.xe s
noncomputable def tCmp (p:Int→Int→Bool) (ta tb:TE):TE:=fun σ H Q=>t2I ta tb (fun i j H2=>Q (.bl (p i j)) H2) σ H
noncomputable abbrev tLt:TE→TE→TE:=tCmp fun i j=>decide (i<j)
noncomputable abbrev tLe:TE→TE→TE:=tCmp fun i j=>decide (i≤j)
noncomputable abbrev tGt:TE→TE→TE:=tCmp fun i j=>decide (j<i)
noncomputable abbrev tGe:TE→TE→TE:=tCmp fun i j=>decide (j≤i)
noncomputable abbrev tEqI:TE→TE→TE:=tCmp fun i j=>decide (i=j)
noncomputable abbrev tNeI:TE→TE→TE:=tCmp fun i j=>!decide (i=j)
noncomputable def tIsN (ta:TE):TE:=fun σ H Q=>ta σ H fun x H1=>Q (.bl (decide (x = .non))) H1
noncomputable def tNotN (ta:TE):TE:=fun σ H Q=>ta σ H fun x H1=>Q (.bl (!decide (x = .non))) H1
noncomputable def tB (t:TE):TT:=fun σ H Q=>t σ H fun x H1=>∃ c,x = .bl c∧Q c H1
theorem pt_cmp {op:CmpOp} {t:TE} (h:PC X op a b t) (h1:behindInMarks op b=false:=by first | exact nobehind _ (by decide) (by decide) | rfl):PT X (.Compare a [op] [b] pos) (tB t):=by
  intro pins s σ H Q I hw
  refine wpAny_isTrue_Compare1 (thn (h pins s σ H _ I hw) fun v s1 h1=>thn h1 fun u s2 h2=>thn h2 fun c s3 ⟨x,H1,I1,r1,q1⟩=>?_) h1
  obtain⟨d,rfl,q⟩:=q1
  cases r1
  exact wpAny_truthy_bool ⟨H1,I1,q⟩
theorem pt_val {e:Expr} {t:TE} (h:PE X e t) (he:∀ whole,isTrue e X.env whole=(do let v ← whole;standAt e.pos;holding [v] (truthy v)):=by intro _;rfl):PT X e (tB t):=by
  intro pins s σ H Q I hw
  refine isTrue_plain (thn (h pins s σ H _ I hw) fun v s1 ⟨x,H1,I1,r1,q1⟩=>?_) (he _)
  obtain⟨d,rfl,q⟩:=q1
  cases r1
  exact wpAny_truthy_bool ⟨H1,I1,q⟩
variable {tA tB':TT} {rest:List Expr}
noncomputable def tAnd (t u:TT):TT:=fun σ H Q=>t σ H fun c H1=>if c=true then u σ H1 Q else Q false H1
noncomputable def tOr (t u:TT):TT:=fun σ H Q=>t σ H fun c H1=>if c=true then Q true H1 else u σ H1 Q
noncomputable def tNot (t:TT):TT:=fun σ H Q=>t σ H fun c H1=>Q (!c) H1
theorem pw_and1 (ha:PT X a tA):PW X (.BoolOp .And [a] pos) tA:=by
  intro wh pins s σ H Q I h
  refine isTrue_and (thn (ha pins s σ H Q I h) fun c s1 e=>?_)
  cases c with
  | true=>exact isTrue_and_nil e
  | false=>exact e
theorem pw_or1 (ha:PT X a tA):PW X (.BoolOp .Or [a] pos) tA:=by
  intro wh pins s σ H Q I h
  refine isTrue_or (thn (ha pins s σ H Q I h) fun c s1 e=>?_)
  cases c with
  | false=>exact isTrue_or_nil e
  | true=>exact e
theorem pw_and (ha:PT X a tA) (hb:PW X (.BoolOp .And (b::rest) pos) tB'):PW X (.BoolOp .And (a::b::rest) pos) (tAnd tA tB'):=by
  intro wh pins s σ H Q I h
  refine isTrue_and (thn (ha pins s σ H _ I h) fun c s1 ⟨H1,I1,q1⟩=>?_)
  cases c with
  | true=>exact hb wh pins s1 σ H1 Q I1 q1
  | false=>exact⟨H1,I1,q1⟩
theorem pw_or (ha:PT X a tA) (hb:PW X (.BoolOp .Or (b::rest) pos) tB'):PW X (.BoolOp .Or (a::b::rest) pos) (tOr tA tB'):=by
  intro wh pins s σ H Q I h
  refine isTrue_or (thn (ha pins s σ H _ I h) fun c s1 ⟨H1,I1,q1⟩=>?_)
  cases c with
  | true=>exact⟨H1,I1,q1⟩
  | false=>exact hb wh pins s1 σ H1 Q I1 q1
theorem pt_not (ha:PT X a tA):PT X (.UnaryOp .Not a pos) (tNot tA):=by
  intro pins s σ H Q I h
  exact isTrue_not (ha pins s σ H (fun c H1=>Q (!c) H1) I h)
noncomputable def tAndV (ta tb:TE):TE:=fun σ H Q=>ta σ H fun x H1=>∃ c,x = .bl c∧if c=true then tb σ H1 Q else Q (.bl false) H1
noncomputable def tOrV (ta tb:TE):TE:=fun σ H Q=>ta σ H fun x H1=>∃ c,x = .bl c∧if c=true then Q (.bl true) H1 else tb σ H1 Q
noncomputable def tNotV (ta:TE):TE:=fun σ H Q=>ta σ H fun x H1=>∃ c,x = .bl c∧Q (.bl (!c)) H1
theorem pe_one {op} {t:TE} (h:PE X a t):PE X (.BoolOp op [a] pos) t:=fun pins s σ H Q I hw=>BoolOp_one (h pins s σ H Q I hw)
theorem pe_and (ha:PE X a ta) (hb:PE X (.BoolOp .And (b::rest) pos) tb):PE X (.BoolOp .And (a::b::rest) pos) (tAndV ta tb):=by
  intro pins s σ H Q I h
  refine BoolOp_and (thn (ha pins s σ H _ I h) fun v s1 ⟨x,H1,I1,r1,q1⟩=>?_)
  obtain⟨c,rfl,q1⟩:=q1
  cases r1
  refine wpAny_truthy_bool ?_
  cases c with
  | true=>exact hb pins s1 σ H1 Q I1 q1
  | false=>exact⟨.bl false,H1,I1,rfl,q1⟩
theorem pe_or (ha:PE X a ta) (hb:PE X (.BoolOp .Or (b::rest) pos) tb):PE X (.BoolOp .Or (a::b::rest) pos) (tOrV ta tb):=by
  intro pins s σ H Q I h
  refine BoolOp_or (thn (ha pins s σ H _ I h) fun v s1 ⟨x,H1,I1,r1,q1⟩=>?_)
  obtain⟨c,rfl,q1⟩:=q1
  cases r1
  refine wpAny_truthy_bool ?_
  cases c with
  | false=>exact hb pins s1 σ H1 Q I1 q1
  | true=>exact⟨.bl true,H1,I1,rfl,q1⟩
theorem pe_not (ha:PE X a ta):PE X (.UnaryOp .Not a pos) (tNotV ta):=by
  intro pins s σ H Q I h
  refine UnaryOp_ (thn (ha pins s σ H _ I h) fun v s1 ⟨x,H1,I1,r1,q1⟩=>?_)
  obtain⟨c,rfl,q1⟩:=q1
  cases r1
  exact not_of (wpAny_truthy_bool ⟨.bl (!c),H1,I1,rfl,q1⟩)
noncomputable def tIf (t:TT) (ta tb:TE):TE:=fun σ H Q=>t σ H fun c H1=>if c=true then ta σ H1 Q else tb σ H1 Q
theorem pe_ifExp {c:Expr} (hc:PT X c tA) (ha:PE X a ta) (hb:PE X b tb):PE X (.IfExp c a b pos) (tIf tA ta tb):=by
  intro pins s σ H Q I h
  refine wpAny_IfExp (thn (hc pins s σ H _ I h) fun d s1 ⟨H1,I1,q1⟩=>?_)
  cases d with
  | true=>exact ha pins s1 σ H1 Q I1 q1
  | false=>exact hb pins s1 σ H1 Q I1 q1
end
noncomputable def SqL (K:PySem.W.Frag) (H:Hp) (a:Addr) (xs:List V):Prop :=
  Rd H a (.lst xs) ∨
    ∃ (o:Obj) (its:Array Value) (n:Nat),K.lookup a=some o∧o.cls = .type "list"∧o.dict=none∧o.data = .seq its n∧its.size≤sizeLine∧Vals xs its.toList
noncomputable def SqT (K:PySem.W.Frag) (H:Hp) (a:Addr) (xs:List V):Prop :=
  Rd H a (.tup xs) ∨
    ∃ (o:Obj) (its:Array Value) (n:Nat),K.lookup a=some o∧o.cls = .type "tuple"∧o.data = .seq its n∧its.size≤sizeLine∧Vals xs its.toList
noncomputable def absV:Value→Option V
  | .none=>some .non
  | .bool b=>some (.bl b)
  | .int i _=>some (.int i)
  | .str x _=>some (.str x)
  | .bytes b _=>some (.byt b)
  | .float b _=>some (.flt b)
  | .ref a=>some (.ref a)
  | .type n=>some (.ty n)
  | _=>none
theorem RelV.abs {x:V} {u:Value} (r:RelV x u):absV u=some x:=by
  cases x with
  | non=>cases r;rfl
  | bl _=>cases r;rfl
  | int _=>obtain⟨t,rfl⟩:=r;rfl
  | str _=>obtain⟨t,rfl⟩:=r;rfl
  | byt _=>obtain⟨t,rfl⟩:=r;rfl
  | flt _=>obtain⟨t,rfl⟩:=r;rfl
  | ref _=>cases r;rfl
  | ty _=>cases r;rfl
theorem RelV.inj {x y:V} {u:Value} (r:RelV x u) (q:RelV y u):x=y:=Option.some.inj (r.abs.symm.trans q.abs)
theorem Vals.inj:∀ {xs ys:List V} {us:List Value},Vals xs us→Vals ys us→xs=ys
  | _,_,_,.nil,.nil=>rfl
  | _,_,_,.cons r t,.cons r' t'=>by rw[r.inj r',Vals.inj t t']
section
variable {X:Cx} {pins:List (Addr × Obj)} {σ:St} {H:Hp} {s:Shared} {a:Addr} {xs ys:List V}
theorem SqL.of {K:PySem.W.Frag} (h:H a=some (.lst xs)):SqL K H a xs:=.inl (.inl h)
theorem SqT.of {K:PySem.W.Frag} (h:H a=some (.tup xs)):SqT K H a xs:=.inl (.inl h)
theorem Inv.list (I:Inv X pins σ H s) (h:SqL X.K H a xs):∃ its:List Value,Vals xs its∧PlainL s.heap a its.toArray∧xs.length≤sizeLine:=by
  rcases h with h | ⟨o,its,n,hk,hc,hd,hs,hz,r⟩
  · obtain⟨z,its,n,r,e⟩:=h.ok I.hok
    exact⟨its,r,⟨_,n,e,rfl,rfl,rfl⟩,z⟩
  · refine⟨its.toList,r,⟨o,n,I.kIn a o hk,hc,hd,by simpa using hs⟩,?_⟩
    have e:=r.length
    simp only[Array.length_toList] at e
    omega
theorem Inv.tuple (I:Inv X pins σ H s) (h:SqT X.K H a xs):∃ its:List Value,Vals xs its∧IsTup s.heap a its.toArray∧xs.length≤sizeLine:=by
  rcases h with h | ⟨o,its,n,hk,hc,hs,hz,r⟩
  · obtain⟨z,its,r,p⟩:=h.ok I.hok
    exact⟨its,r,p,z⟩
  · refine⟨its.toList,r,⟨o,I.kIn a o hk,hc,n,by simpa using hs⟩,?_⟩
    have e:=r.length
    simp only[Array.length_toList] at e
    omega
theorem Inv.list_inj (I:Inv X pins σ H s) (h:SqL X.K H a xs) (h':SqL X.K H a ys):xs=ys:=by
  obtain⟨its,r,⟨o,n,e,_,_,d⟩,_⟩:=I.list h
  obtain⟨its',r',⟨o',n',e',_,_,d'⟩,_⟩:=I.list h'
  rw[e] at e';cases e'
  rw[d] at d'
  injection d' with d1 _
  have:its=its':=by simpa using congrArg Array.toList d1
  subst this
  exact r.inj r'
theorem Inv.tuple_inj (I:Inv X pins σ H s) (h:SqT X.K H a xs) (h':SqT X.K H a ys):xs=ys:=by
  obtain⟨its,r,⟨o,e,_,n,d⟩,_⟩:=I.tuple h
  obtain⟨its',r',⟨o',e',_,n',d'⟩,_⟩:=I.tuple h'
  rw[e] at e';cases e'
  rw[d] at d'
  injection d' with d1 _
  have:its=its':=by simpa using congrArg Array.toList d1
  subst this
  exact r.inj r'
end
noncomputable abbrev Cx.wish (X:Cx) (E:Value→Shared→Prop):Cx:={ X with xe:=E }
noncomputable abbrev Cx.nox (X:Cx):Cx:=X.wish fun _ _=>False
theorem Cx.Ok.wish {X:Cx} (ok:X.Ok) (E:Value→Shared→Prop):(X.wish E).Ok :=
  ⟨ok.mod,ok.kind,ok.glob,ok.blt,ok.above,ok.inj,ok.has,ok.cab,ok.hd,ok.frames,ok.stk,ok.exf,ok.bs,ok.bsz,ok.noex,ok.exfs,ok.funs,ok.frf⟩
theorem Cx.Ok.unwish {X:Cx} {E:Value→Shared→Prop} (ok:(X.wish E).Ok):X.Ok :=
  ⟨ok.mod,ok.kind,ok.glob,ok.blt,ok.above,ok.inj,ok.has,ok.cab,ok.hd,ok.frames,ok.stk,ok.exf,ok.bs,ok.bsz,ok.noex,ok.exfs,ok.funs,ok.frf⟩
section
variable {X:Cx} {pins:List (Addr × Obj)} {σ:St} {H:Hp} {s:Shared} {E:Value→Shared→Prop}
theorem Inv.wish (I:Inv X pins σ H s) (E:Value→Shared→Prop):Inv (X.wish E) pins σ H s:=⟨I.ok.wish E,I.os,I.bare,I.base,I.loc,I.cell,I.free,I.freeC,I.pin,I.hok,I.len⟩
theorem Inv.unwish (I:Inv (X.wish E) pins σ H s):Inv X pins σ H s:=⟨I.ok.unwish,I.os,I.bare,I.base,I.loc,I.cell,I.free,I.freeC,I.pin,I.hok,I.len⟩
theorem SP.unwish {D:Ends} {f:Flow} {s':Shared} (h:SP (X.wish E) pins D f s'):SP X pins D f s':=by
  cases f with
  | next=>obtain⟨σ',H',I,q⟩:=h;exact⟨σ',H',I.unwish,q⟩
  | brk=>obtain⟨σ',H',I,q⟩:=h;exact⟨σ',H',I.unwish,q⟩
  | cont=>obtain⟨σ',H',I,q⟩:=h;exact⟨σ',H',I.unwish,q⟩
  | ret u=>obtain⟨v,σ',H',I,r,q⟩:=h;exact⟨v,σ',H',I.unwish,r,q⟩
theorem PSs.nox {st:List Stmt} {t:TS} (h:PSs X.nox st t):PSs X st t:=fun pins s σ H D I hw =>
  wpAny_mono (h pins s σ H D (I.wish _) hw) (fun _ _ q=>q.unwish) fun _ _ z=>False.elim z
end
section
variable {X:Cx} {st:Stmt} {rest:List Stmt} {t u:TS} {e:Expr} {te:TE} {pos:Pos}
noncomputable def tNext:TS:=fun D σ H=>D.nx σ H
noncomputable def tSeq (t u:TS):TS:=fun D σ H=>t { D with nx:=u D } σ H
theorem pss_nil:PSs X [] tNext:=fun _ _ σ H _ I h=>wpAny_execs_nil ⟨σ,H,I,h⟩
theorem pss_cons (h1:PS X st t) (h2:PSs X rest u):PSs X (st::rest) (tSeq t u):=by
  intro pins s σ H D I h
  refine wpAny_execs_cons (thn (h1 pins s σ H { D with nx:=u D } I h) fun f s1 q=>?_)
  cases f with
  | next =>
    obtain⟨σ',H',I',q⟩:=q
    exact h2 pins s1 σ' H' D I' q
  | ret v=>exact q
  | brk=>exact q
  | cont=>exact q
theorem pss_one (h1:PS X st t):PSs X [st] t:=by
  intro pins s σ H D I h
  refine wpAny_execs_cons (thn (h1 pins s σ H D I h) fun f s1 q=>?_)
  cases f with
  | next=>exact wpAny_execs_nil q
  | ret v=>exact q
  | brk=>exact q
  | cont=>exact q
noncomputable def tBreak:TS:=fun D σ H=>D.bk σ H
noncomputable def tCont:TS:=fun D σ H=>D.ct σ H
theorem Inv.quiet {pins:List (Addr × Obj)} {σ:St} {H:Hp} {s:Shared} (I:Inv X pins σ H s):interactive X.env=false:=by simp[interactive,I.ok.kind]
noncomputable def tDrop (te:TE):TS:=fun D σ H=>te σ H fun _ H1=>D.nx σ H1
theorem ps_expr (he:PE X e te) (hs:swapsWith e none pos.line X.env=pure false:=by rfl):PS X (.Expr e pos) (tDrop te):=by
  intro pins s σ H D I h
  exact wpAny_Expr_any (thn (he pins s σ H _ I h) fun v s1 ⟨x,H1,I1,r1,q1⟩=>⟨σ,H1,I1,q1⟩) I.quiet hs
noncomputable def tRet (te:TE):TS:=fun D σ H=>te σ H D.rt
theorem ps_ret (he:PE X e te):PS X (.Return (some e) pos) (tRet te):=by
  intro pins s σ H D I h
  exact wpAny_Return_some (thn (he pins s σ H _ I h) fun v s1 ⟨x,H1,I1,r1,q1⟩=>⟨x,σ,H1,I1,r1,q1⟩)
noncomputable def tRetN:TS:=fun D _ H=>D.rt .non H
noncomputable def tIfS (c:TT) (t u:TS):TS:=fun D σ H=>c σ H fun b H1=>if b=true then t D σ H1 else u D σ H1
theorem ps_if {c:Expr} {a b:List Stmt} {tc:TT} (hc:PT X c tc) (ha:PSs X a t) (hb:PSs X b u):PS X (.If c a b pos) (tIfS tc t u):=by
  intro pins s σ H D I h
  refine wpAny_If (thn (hc pins s σ H _ I h) fun d s1 ⟨H1,I1,q1⟩=>?_)
  cases d with
  | true=>exact ha pins s1 σ H1 D I1 q1
  | false=>exact hb pins s1 σ H1 D I1 q1
noncomputable def tNever:TS:=fun _ _ _=>False
theorem pss_never {sts:List Stmt}:PSs X sts tNever:=fun _ _ _ _ _ _ h=>h.elim
end
noncomputable abbrev TG:=V→St→Hp→(St→Hp→Prop)→Prop
noncomputable abbrev TGs:=List V→St→Hp→(St→Hp→Prop)→Prop
noncomputable def PG (X:Cx) (target:Expr) (t:TG):Prop :=
  ∀ (pins:List (Addr × Obj)) (s:Shared) (σ:St) (H:Hp) (v:V) (u:Value) (Q:St→Hp→Prop),Inv X pins σ H s→RelV v u→t v σ H Q →
    wpAny (model X.prog X.w) X.A (assign target X.env u) (fun _ s'=>∃ σ' H',Inv X pins σ' H' s'∧Q σ' H') X.xe s
noncomputable def PGs (X:Cx) (ts:List Expr) (t:TGs):Prop :=
  ∀ (pins:List (Addr × Obj)) (s:Shared) (σ:St) (H:Hp) (vs:List V) (us:List Value) (Q:St→Hp→Prop),Inv X pins σ H s→Vals vs us→t vs σ H Q →
    wpAny (model X.prog X.w) X.A (assignInOrder ((assignEach ts X.env).map (·.2)) us) (fun _ s'=>∃ σ' H',Inv X pins σ' H' s'∧Q σ' H') X.xe s
noncomputable abbrev TSet:=V→V→V→Hp→(Hp→Prop)→Prop
noncomputable def PSet (X:Cx) (t:TSet):Prop :=
  ∀ (pins:List (Addr × Obj)) (s:Shared) (σ:St) (H:Hp) (o i v:V) (ov iv u:Value) (Q:Hp→Prop),Inv X pins σ H s→RelV o ov→RelV i iv→RelV v u→t o i v H Q →
    wpAny (model X.prog X.w) X.A (setItem ov iv u) (fun _ s'=>∃ H',Inv X pins σ H' s'∧Q H') X.xe s
noncomputable abbrev TIp:=V→V→Hp→VK→Prop
noncomputable def PIp (X:Cx) (op:Operator) (t:TIp):Prop :=
  ∀ (pins:List (Addr × Obj)) (s:Shared) (σ:St) (H:Hp) (x y:V) (v u:Value) (Q:VK),Inv X pins σ H s→RelV x v→RelV y u→t x y H Q →
    wpAny (model X.prog X.w) X.A (inplaceOp op v u) (EP X pins σ Q) X.xe s
section
variable {X:Cx} {pos:Pos}
noncomputable def gName (i:Nat):TG:=fun v σ H Q=>Q (σ.set i (some v)) H
theorem pg_name {i:Nat} {x:Str} (hN:X.N.Nodup) (hi:X.N[i]? = some x) (hx:Loc X.env.scope x) (hf:X.fn x=true∨X.env.scope.names.lookup x=some .local:=by first | exact .inl rfl | exact .inr rfl | assumption):PG X (.Name x pos) (gName i):=by
  intro pins s σ H v u Q I r h
  exact wpAny_assign_Name (store_ok I hN hi hx r (fun s' I'=>⟨_,H,I',h⟩) hf)
noncomputable def gNil:TGs:=fun vs σ H Q=>vs=[]∧Q σ H
noncomputable def gCons (t:TG) (u:TGs):TGs:=fun vs σ H Q=>∃ v r,vs=v::r∧t v σ H fun σ' H'=>u r σ' H' Q
theorem pgs_nil:PGs X [] gNil:=by
  intro pins s σ H vs us Q I r h
  obtain⟨e,h⟩:=h
  subst e
  cases r
  exact assignInOrder_nil ⟨σ,H,I,h⟩
theorem pgs_cons {e:Expr} {es:List Expr} {t:TG} {u:TGs} (h1:PG X e t) (h2:PGs X es u)
    (hs:(assignEach (e::es) X.env).map (·.2)=assign e X.env::(assignEach es X.env).map (·.2):=by rfl):PGs X (e::es) (gCons t u):=by
  intro pins s σ H vs us Q I r h
  obtain⟨v,vr,e1,h⟩:=h
  subst e1
  cases r with
  | cons r rr =>
    rw[hs]
    refine assignInOrder_cons (thn (h1 pins s σ H _ _ _ I r h) fun _ s1 ⟨σ1,H1,I1,q1⟩=>?_)
    exact h2 pins s1 σ1 H1 _ _ Q I1 rr q1
noncomputable def gTup (K:PySem.W.Frag) (n:Nat) (t:TGs):TG:=fun v σ H Q=>∃ a xs,v = .ref a∧SqT K H a xs∧xs.length=n∧t xs σ H Q
theorem pg_tup {es:List Expr} {k:Nat} {t:TGs} {n:Nat} (hc:X.calm=true) (h:PGs X es t)
    (hn:(assignEach es X.env).length=n:=by rfl) (hst:(assignEach es X.env).findIdx? (·.1)=none:=by rfl):PG X (.Tuple es k pos) (gTup X.K n t):=by
  intro pins s σ H v u Q I r hw
  obtain⟨a,xs,e1,hq,hl,hw⟩:=hw
  subst e1
  cases r
  obtain⟨its,rv,ht,hz⟩:=I.tuple hq
  refine assign_Tuple_tuple (I.ok.hd hc) ht (by simp[hn,← hl,rv.length]) hst fun h' hx=>?_
  have I1:Inv X pins σ H { s with heap:=h' }:=I.kept (t':=s.toks) fun b o e=>hx b o (Nat.ne_of_lt (Heap.lt_size e)) e
  exact h pins _ σ H xs _ Q I1 (by simpa using rv) hw
noncomputable def gSub (to ti:TE) (t:TSet):TG:=fun v σ H Q=>to σ H fun o H1=>ti σ H1 fun i H2=>t o i v H2 fun H3=>Q σ H3
noncomputable def tAsg (te:TE) (g:TG):TS:=fun D σ H=>te σ H fun x H1=>g x σ H1 D.nx
theorem ps_set {i:Nat} {x:Str} {e:Expr} {te:TE} {pos':Pos} (hN:X.N.Nodup) (hi:X.N[i]? = some x) (hx:Loc X.env.scope x) (he:PE X e te) (hs:swapsWith e (some (.Name x pos')) pos.line X.env=pure false:=by rfl) (hf:X.fn x=true∨X.env.scope.names.lookup x=some .local:=by first | exact .inl rfl | exact .inr rfl | assumption) :
    PS X (.Assign [.Name x pos'] e pos) (tAsg te (gName i)):=by
  intro pins s σ H D I h
  refine wpAny_Assign_Name (thn (he pins s σ H _ I h) fun v s1 ⟨y,H1,I1,r1,q1⟩=>?_) hs
  exact store_ok I1 hN hi hx r1 (fun s2 I2=>⟨_,H1,I2,q1⟩) hf
noncomputable def tPar (i j:Nat) (ta:TA):TS:=fun D σ H=>ta σ H fun vs H1=>∃ v w,vs=[v,w]∧D.nx ((σ.set i (some v)).set j (some w)) H1
noncomputable def tAug (i:Nat) (te:TE) (ti:TIp):TS:=fun D σ H=>∃ x,σ[i]? = some (some x)∧te σ H fun y H1=>ti x y H1 fun z H2=>D.nx (σ.set i (some z)) H2
noncomputable def tAugS (to ti te:TE) (tget:V→V→Hp→VK→Prop) (tip:TIp) (tset:TSet):TS:=fun D σ H=>to σ H fun o H1=>ti σ H1 fun i H2=>tget o i H2 fun x H3=>te σ H3 fun y H4=>tip x y H4 fun z H5=>tset o i z H5 fun H6=>D.nx σ H6
noncomputable def PGet (X:Cx) (t:V→V→Hp→VK→Prop):Prop :=
  ∀ (pins:List (Addr × Obj)) (s:Shared) (σ:St) (H:Hp) (o i:V) (ov iv:Value) (Q:VK),Inv X pins σ H s→RelV o ov→RelV i iv→t o i H Q →
    wpAny (model X.prog X.w) X.A (getItem ov iv) (EP X pins σ Q) X.xe s
noncomputable def ipI (f:Int→Int→Int):TIp:=fun x y H Q=>∃ i j,x = .int i∧y = .int j∧Q (.int (f i j)) H
end
section
variable {X:Cx} {pos:Pos}
noncomputable def tWhile (c:TT) (tb:TS):TS:=fun D σ H=>∃ W:Nat→St→Hp→Prop,(∃ m,W m σ H)∧∀ m σ H,W m σ H →
  c σ H fun b H1=>if b=true then ∃ N:St→Hp→Prop,(∀ σ' H',N σ' H'→∃ m',m'<m∧W m' σ' H')∧tb { D with nx:=N,ct:=N,bk:=D.nx } σ H1 else D.nx σ H1
end
structure It where
  go:Nat→Hp→Prop
  yld:Nat→Hp→V→Hp→Prop
  stop:Nat→Hp→Prop
noncomputable def FpOk (X:Cx) (pins:List (Addr × Obj)) (H:Hp) (b:Addr):Prop :=
  H b=none∧b≠X.env.locals∧b∉X.fs∧(b∈X.ex∨X.s₀.heap.get? b=none)∧(∀ x c,X.env.cells.lookup x=some c→c≠b)∧∀ p∈X.pn++pins,p.1≠b
theorem Inv.fpOk {X:Cx} {pins:List (Addr × Obj)} {σ:St} {H H':Hp} {s:Shared} {b:Addr} (I:Inv X pins σ H s) (hb:s.heap.objs.size≤b) (hn:H' b=none):FpOk X pins H' b:=by
  refine⟨hn,Nat.ne_of_gt (Nat.lt_of_lt_of_le I.lt hb),I.nofs hb,.inr (Heap.get?_none_of_le (Nat.le_trans I.sz hb)),fun x c e z=>?_,fun p hp z=>?_⟩
  · obtain⟨v,q⟩:=I.cell x c e
    exact absurd (Nat.lt_of_lt_of_le q.lt (by rw[z];exact hb)) (Nat.lt_irrefl _)
  · exact absurd (Nat.lt_of_lt_of_le (Heap.lt_size (I.pin p hp).1) (by rw[z];exact hb)) (Nat.lt_irrefl _)
structure Turn (P:Program) (w:World) (K:PySem.W.Frag) (tg:Expr) (J:It) (fp:List Addr) (it:Addr) (tn:Nat→Heap→Prop):Prop where
  mem:it∈fp
  obj:∀ i h,tn i h→∀ b∈fp,∃ o,h.get? b=some o∧∀ v,o.data≠.cell v
  keep:∀ i h h',tn i h→(∀ b∈fp,∀ o,h.get? b=some o→h'.get? b=some o)→tn i h'
  item:∀ (X:Cx),X.prog=P→X.w=w→X.K=K→X.calm=true→∀ (i:Nat) (pins:List (Addr × Obj)) (s:Shared) (σ:St) (H:Hp) (E:Value→Shared→Prop),Inv X pins σ H s→(∀ b∈fp,FpOk X pins H b)→tn i s.heap→J.go i H →
    wpAny (model P w) X.A (pyNext (.ref it)) (fun r s1=>∃ u,r=some u ∧
      wpAny (model P w) X.A (letOwnedTupleGo tg (.ref it) u) (fun _ s2=>∃ x H',Inv X pins σ H' s2∧RelV x u∧J.yld i H x H'∧tn (i+1) s2.heap∧∀ b∈fp,H' b=none) E s1) E s
  done:∀ (X:Cx),X.prog=P→X.w=w→X.K=K→X.calm=true→∀ (i:Nat) (pins:List (Addr × Obj)) (s:Shared) (σ:St) (H:Hp) (E:Value→Shared→Prop),Inv X pins σ H s→(∀ b∈fp,FpOk X pins H b)→tn i s.heap→J.stop i H →
    wpAny (model P w) X.A (pyNext (.ref it)) (fun r s1=>r=none∧Inv X pins σ H s1) E s
  self:∀ (A:Around) (i:Nat) (s:Shared) (Q:Value→Shared→Prop) (E:Value→Shared→Prop),tn i s.heap→Q (.ref it) s→wpAny (model P w) A (pyIter (.ref it)) Q E s
noncomputable abbrev TI:=St→Hp→(It→Hp→Prop)→Prop
noncomputable def PIE (X:Cx) (pins:List (Addr × Obj)) (σ:St) (tg:Expr) (R:It→Hp→Prop) (itv:Value) (s2:Shared):Prop :=
  ∃ (it:Addr) (fp:List Addr) (tn:Nat→Heap→Prop) (J:It) (H':Hp),itv = .ref it∧Inv X pins σ H' s2∧Turn X.prog X.w X.K tg J fp it tn∧tn 0 s2.heap∧(∀ b∈fp,FpOk X pins H' b)∧R J H'
noncomputable def PI (X:Cx) (tg iter:Expr) (wi:TI):Prop :=
  ∀ (pins:List (Addr × Obj)) (s:Shared) (σ:St) (H:Hp) (R:It→Hp→Prop),Inv X pins σ H s→wi σ H R →
    wpAny (model X.prog X.w) X.A (eval iter X.env) (fun v s1=>wpAny (model X.prog X.w) X.A (pyIter v) (PIE X pins σ tg R) X.xe s1) X.xe s
theorem go_of {M:Model} {A:Around} {E:Value→Shared→Prop} {s:Shared} {tg:Expr} {it:Addr} {u:Value} {o:Obj} {n:String} {vs:Array Value} {Q:Unit→Shared→Prop} (ho:s.heap.get? it=some o) (hc:o.cls = .type n) (hd:o.data = .fields vs)
    (hn:["enumerate","zip","dict_itemiterator","dict_reverseitemiterator","odict_iterator","itertools.zip_longest","itertools.pairwise"].contains n=false) (hQ:Q () s):wpAny M A (letOwnedTupleGo tg (.ref it) u) Q E s:=by
  unfold letOwnedTupleGo
  cases tg <;> first
    | exact wpAny_pure hQ
    | (cases u <;> first
        | exact wpAny_pure hQ
        | (refine wpAny_bind (wpAny_load ho ?_)
           rw[hc,hd]
           show wpAny M A (if (["enumerate","zip","dict_itemiterator","dict_reverseitemiterator","odict_iterator","itertools.zip_longest","itertools.pairwise"].contains n&&vs[0]? == some (rawInt _))=true then _ else _) Q E s
           rw[if_neg (by intro h;rw[hn,Bool.false_and] at h;cases h)]
           exact wpAny_pure hQ))
noncomputable def Itl (K:PySem.W.Frag) (a:Addr):It :=
  ⟨fun i H=>∃ xs x,SqL K H a xs∧xs[i]? = some x,fun i H x H'=>H'=H∧∀ xs,SqL K H a xs→xs[i]? = some x,fun i H=>∃ xs,SqL K H a xs∧xs.length≤i⟩
noncomputable def Itt (K:PySem.W.Frag) (a:Addr):It :=
  ⟨fun i H=>∃ xs x,SqT K H a xs∧xs[i]? = some x,fun i H x H'=>H'=H∧∀ xs,SqT K H a xs→xs[i]? = some x,fun i H=>∃ xs,SqT K H a xs∧xs.length≤i⟩
noncomputable def Itr (lo:Int) (n:Nat):It:=⟨fun i _=>i<n,fun i H x H'=>H'=H∧x = .int (lo+i),fun i _=>n≤i⟩
theorem turn_list {P:Program} {w:World} {K:PySem.W.Frag} {tg:Expr} (a it:Addr):Turn P w K tg (Itl K a) [it] it (fun i h=>h.IsListIter it a i) where
  mem:=by simp
  obj:=fun i h st b hb=>by
    have e:b=it:=by simpa using hb
    subst e
    obtain⟨o,e,c,d⟩:=st
    exact⟨o,e,fun v z=>by rw[d] at z;cases z⟩
  keep:=fun i h h' st k=>st.at fun o e=>k it (by simp) o e
  item:=by
    intro X hP hw hK hc i pins s σ H E I hf st hg
    subst hP hw hK
    obtain⟨xs,x,hq,hx⟩:=hg
    obtain⟨its,rv,p,hz⟩:=I.list hq
    obtain⟨u,hu,ru⟩:=rv.get hx
    obtain⟨f0,f1,f2,f3,f4,f5⟩:=hf it (by simp)
    refine wpAny_pyNext_list_item st p.isList (x:=u) (by simpa using hu) fun h' st' sb=>?_
    have I1:Inv X pins σ H { s with heap:=h' }:=I.turned (t':=s.toks) (fun b o hb e=>(sb.2 b hb).trans e) f0 f1 f3 f4 f5
    obtain⟨o,e,c,d⟩:=id st'
    exact⟨u,rfl,go_of (s:={ s with heap:=h' }) e c d (by decide) ⟨x,H,I1,ru,⟨rfl,fun ys hy=>by rw[I.list_inj hy hq];exact hx⟩,st',fun b hb=>(hf b hb).1⟩⟩
  done:=by
    intro X hP hw hK hc i pins s σ H E I hf st hg
    subst hP hw hK
    obtain⟨xs,hq,hx⟩:=hg
    obtain⟨its,rv,p,hz⟩:=I.list hq
    obtain⟨f0,f1,f2,f3,f4,f5⟩:=hf it (by simp)
    have hl:=rv.length
    exact wpAny_pyNext_list_end (I.ok.hd hc) st p.isList (by simp;omega) fun h' eb=>⟨rfl,I.turned (t':=s.toks) (fun b o hb e=>eb b o hb e) f0 f1 f3 f4 f5⟩
  self:=fun _ _ _ _ _ st h=>wpAny_pyIter_listiter st h
theorem turn_tuple {P:Program} {w:World} {K:PySem.W.Frag} {tg:Expr} (a it:Addr):Turn P w K tg (Itt K a) [it] it (fun i h=>h.IsTupleIter it a i) where
  mem:=by simp
  obj:=fun i h st b hb=>by
    have e:b=it:=by simpa using hb
    subst e
    obtain⟨o,e,c,d⟩:=st
    exact⟨o,e,fun v z=>by rw[d] at z;cases z⟩
  keep:=fun i h h' st k=>st.at fun o e=>k it (by simp) o e
  item:=by
    intro X hP hw hK hc i pins s σ H E I hf st hg
    subst hP hw hK
    obtain⟨xs,x,hq,hx⟩:=hg
    obtain⟨its,rv,p,hz⟩:=I.tuple hq
    obtain⟨u,hu,ru⟩:=rv.get hx
    obtain⟨f0,f1,f2,f3,f4,f5⟩:=hf it (by simp)
    refine wpAny_pyNext_tuple_item st (show s.heap.IsTuple a its.toArray from p) (x:=u) (by simpa using hu) fun h' st' sb=>?_
    have I1:Inv X pins σ H { s with heap:=h' }:=I.turned (t':=s.toks) (fun b o hb e=>(sb.2 b hb).trans e) f0 f1 f3 f4 f5
    obtain⟨o,e,c,d⟩:=id st'
    exact⟨u,rfl,go_of (s:={ s with heap:=h' }) e c d (by decide) ⟨x,H,I1,ru,⟨rfl,fun ys hy=>by rw[I.tuple_inj hy hq];exact hx⟩,st',fun b hb=>(hf b hb).1⟩⟩
  done:=by
    intro X hP hw hK hc i pins s σ H E I hf st hg
    subst hP hw hK
    obtain⟨xs,hq,hx⟩:=hg
    obtain⟨its,rv,p,hz⟩:=I.tuple hq
    obtain⟨f0,f1,f2,f3,f4,f5⟩:=hf it (by simp)
    have hl:=rv.length
    exact wpAny_pyNext_tuple_end (I.ok.hd hc) st (show s.heap.IsTuple a its.toArray from p) (by simp;omega) fun h' eb=>⟨rfl,I.turned (t':=s.toks) (fun b o hb e=>eb b o hb e) f0 f1 f3 f4 f5⟩
  self:=fun _ _ _ _ _ st h=>wpAny_pyIter_tupleiter st h
theorem turn_range {P:Program} {w:World} {K:PySem.W.Frag} {tg:Expr} (it:Addr) (lo:Int) (n:Nat):Turn P w K tg (Itr lo n) [it] it (fun i h=>IsRangeIter h it (lo+(i:Nat)*1) ((n:Int) - (i:Nat)) 1) where
  mem:=by simp
  obj:=fun i h st b hb=>by
    have e:b=it:=by simpa using hb
    subst e
    exact⟨_,st,fun v z=>by
      have z':Data.fields _=Data.cell v:=z
      cases z'⟩
  keep:=fun i h h' st k=>k it (by simp) _ st
  item:=by
    intro X hP hw hK hc i pins s σ H E I hf st hg
    subst hP hw hK
    obtain⟨f0,f1,f2,f3,f4,f5⟩:=hf it (by simp)
    have W:=Walks.range (prog:=X.prog) (w:=X.w) (I.ok.hd hc) it lo 1 n
    refine W.item i s _ _ hg st fun v h' tk hv st' kk=>?_
    obtain⟨t,rfl⟩:=hv
    have I1:Inv X pins σ H { s with heap:=h',toks:=tk }:=I.turned (fun b o hb e=>kk b o (by simpa using hb) e) f0 f1 f3 f4 f5
    refine⟨_,rfl,go_of (s:={ s with heap:=h',toks:=tk }) (n:="range_iterator") st' rfl rfl (by decide) ⟨.int (lo+i),H,I1,⟨t,?_⟩,⟨rfl,rfl⟩,st',fun b hb=>(hf b hb).1⟩⟩
    rw[Int.mul_one]
  done:=by
    intro X hP hw hK hc i pins s σ H E I hf st hg
    subst hP hw hK
    obtain⟨f0,f1,f2,f3,f4,f5⟩:=hf it (by simp)
    exact wpAny_pyNext_range_end (I.ok.hd hc) st (by have:n≤i:=hg;omega) fun h' eb=>⟨rfl,I.turned (t':=s.toks) (fun b o hb e=>eb b o hb e) f0 f1 f3 f4 f5⟩
  self:=fun _ _ _ _ _ st h=>wpAny_pyIter_rangeiter st h
section
variable {X:Cx} {tg:Expr}
noncomputable def iList (K:PySem.W.Frag) (tl:TE):TI:=fun σ H R=>tl σ H fun x H1=>∃ a,x = .ref a∧(∃ xs,SqL K H1 a xs)∧R (Itl K a) H1
noncomputable def iTup (K:PySem.W.Frag) (tl:TE):TI:=fun σ H R=>tl σ H fun x H1=>∃ a,x = .ref a∧(∃ xs,SqT K H1 a xs)∧R (Itt K a) H1
theorem pi_list {l:Expr} {tl:TE} (hl:PE X l tl):PI X tg l (iList X.K tl):=by
  intro pins s σ H R I h
  refine thn (hl pins s σ H _ I h) fun v s1 ⟨x,H1,I1,r1,q1⟩=>?_
  obtain⟨a,e,⟨xs,hq⟩,q⟩:=q1
  subst e
  cases r1
  obtain⟨its,rv,p,hz⟩:=I1.list hq
  refine wpAny_pyIter_list p.isList ?_
  refine⟨s1.heap.objs.size,[s1.heap.objs.size],_,_,H1,rfl,I1.kept (t':=s1.toks) fun b o e=>Heap.get?_push_of_some _ e,turn_list a _,⟨_,Heap.get?_push_size _ rfl,rfl,rfl⟩,fun b hb=>?_,q⟩
  have e:b=s1.heap.objs.size:=by simpa using hb
  subst e
  exact I1.fpOk (Nat.le_refl _) (I1.hok.fresh (Nat.le_refl _))
theorem pi_tup {l:Expr} {tl:TE} (hl:PE X l tl):PI X tg l (iTup X.K tl):=by
  intro pins s σ H R I h
  refine thn (hl pins s σ H _ I h) fun v s1 ⟨x,H1,I1,r1,q1⟩=>?_
  obtain⟨a,e,⟨xs,hq⟩,q⟩:=q1
  subst e
  cases r1
  obtain⟨its,rv,p,hz⟩:=I1.tuple hq
  refine wpAny_pyIter_tuple (show s1.heap.IsTuple a its.toArray from p) ?_
  refine⟨s1.heap.objs.size,[s1.heap.objs.size],_,_,H1,rfl,I1.kept (t':=s1.toks) fun b o e=>Heap.get?_push_of_some _ e,turn_tuple a _,⟨_,Heap.get?_push_size _ rfl,rfl,rfl⟩,fun b hb=>?_,q⟩
  have e:b=s1.heap.objs.size:=by simpa using hb
  subst e
  exact I1.fpOk (Nat.le_refl _) (I1.hok.fresh (Nat.le_refl _))
theorem range_it {pins:List (Addr × Obj)} {σ:St} {H:Hp} {s:Shared} {R:It→Hp→Prop} {E:Value→Shared→Prop} {lo hi:Int} {t u v:Tok} {tk:Nat} (I:Inv X pins σ H s) (h1:-(2 ^ 62)≤lo) (h2:lo<2 ^ 62) (h3:-(2 ^ 62)≤hi) (h4:hi<2 ^ 62)
    (q:R (Itr lo (hi - lo).toNat) H):wpAny (model X.prog X.w) X.A (pyIter (.ref s.heap.objs.size)) (PIE X pins σ tg R) E { s with heap:=s.heap.push { cls:=.type "range",data:=.fields #[.int lo t,.int hi u,.int 1 v] },toks:=tk }:=by
  refine wpAny_pyIter_range (IsRange.new ..) (small_one h1 h2 h3 h4) ?_
  have I1:Inv X pins σ H { s with heap:=s.heap.push { cls:=.type "range",data:=.fields #[.int lo t,.int hi u,.int 1 v] },toks:=tk }:=I.kept fun b o e=>Heap.get?_push_of_some _ e
  refine⟨(s.heap.push { cls:=.type "range",data:=.fields #[.int lo t,.int hi u,.int 1 v] }).objs.size,[(s.heap.push { cls:=.type "range",data:=.fields #[.int lo t,.int hi u,.int 1 v] }).objs.size],_,_,H,rfl,
    I1.kept (t':=tk) fun b o e=>Heap.get?_push_of_some _ e,turn_range _ lo (hi - lo).toNat,?_,fun b hb=>?_,q⟩
  · have e1:lo+((0:Nat):Int)*1=lo:=by simp
    have e2:(((hi - lo).toNat:Nat):Int) - ((0:Nat):Int)=Builtin.Range.rangeSize lo hi 1:=by rw[rangeSize_one];split <;> omega
    show IsRangeIter _ _ (lo+((0:Nat):Int)*1) ((((hi - lo).toNat:Nat):Int) - ((0:Nat):Int)) 1
    rw[e1,e2]
    exact Heap.get?_push_size _ rfl
  · have e:b=(s.heap.push { cls:=.type "range",data:=.fields #[.int lo t,.int hi u,.int 1 v] }).objs.size:=by simpa using hb
    subst e
    exact I1.fpOk (Nat.le_refl _) (I1.hok.fresh (Nat.le_refl _))
noncomputable def iRng1 (ta:TA):TI:=fun σ H R=>ta σ H fun vs H1=>∃ j:Int,vs=[.int j]∧-(2 ^ 62)≤j∧j<2 ^ 62∧R (Itr 0 j.toNat) H1
noncomputable def iRng2 (ta:TA):TI:=fun σ H R=>ta σ H fun vs H1=>∃ i j:Int,vs=[.int i,.int j]∧(-(2 ^ 62)≤i∧i<2 ^ 62∧-(2 ^ 62)≤j∧j<2 ^ 62)∧R (Itr i (j - i).toNat) H1
theorem pi_range1 {a:Expr} {ta:TA} {p pos:Pos} (hg:Gl X "range") (hm:X.mg "range" = none) (ha:PA X [a] ta) (hs:starEach [a] X.env=[(false,eval a X.env)]:=by rfl):PI X tg (.Call (.Name "range" p) [a] [] pos) (iRng1 ta):=by
  intro pins s σ H R I h
  refine Call_ (ld_blt I hg hm boot_range (PyProof.Rows.callWith_type1 (thn (ha pos pins s σ H _ I h) fun us s1 ⟨vs,H1,I1,r1,q1⟩=>?_) hs rfl))
  obtain⟨j,e,q1,q2,q⟩:=q1
  subst e
  cases r1 with
  | cons r rr =>
    cases rr
    obtain⟨t,rfl⟩:=r
    exact call_range_1 (range_it I1 (by omega) (by omega) q1 q2 (by simpa using q))
theorem pi_range2 {a b:Expr} {ta:TA} {p pos:Pos} (hg:Gl X "range") (hm:X.mg "range" = none) (ha:PA X [a,b] ta) (hs:starEach [a,b] X.env=[(false,eval a X.env),(false,eval b X.env)]:=by rfl) (hs2:starEach [b] X.env=[(false,eval b X.env)]:=by rfl) :
    PI X tg (.Call (.Name "range" p) [a,b] [] pos) (iRng2 ta):=by
  intro pins s σ H R I h
  refine Call_ (ld_blt I hg hm boot_range (PyProof.Rows.callWith_type1 (thn (ha pos pins s σ H _ I h) fun us s1 ⟨vs,H1,I1,r1,q1⟩=>?_) (by rw[hs,hs2]) (by rw[hs2];rfl)))
  obtain⟨i,j,e,⟨q1,q2,q3,q4⟩,q⟩:=q1
  subst e
  cases r1 with
  | cons r rr =>
    cases rr with
    | cons r' rr =>
      cases rr
      obtain⟨t,rfl⟩:=r
      obtain⟨t',rfl⟩:=r'
      exact call_range_2 (range_it I1 q1 q2 q3 q4 q)
noncomputable def tFor (wi:TI) (g:TG) (tb:TS):TS:=fun D σ H=>wi σ H fun J H1=>∃ W:Nat→Nat→St→Hp→Prop,(∃ m,W 0 m σ H1)∧∀ i m σ H,W i m σ H →
  (J.stop i H∧D.nx σ H)∨(J.go i H∧∃ N:St→Hp→Prop,(∀ σ' H',N σ' H'→∃ m',m'<m∧W (i+1) m' σ' H')∧∀ x H',J.yld i H x H'→g x σ H' fun σ2 H2=>tb { D with nx:=N,ct:=N,bk:=D.nx } σ2 H2)
noncomputable def pinsAt (fp:List Addr) (h:Heap):List (Addr × Obj):=fp.filterMap fun b=>(h.get? b).map fun o=>(b,o)
theorem mem_pinsAt {fp:List Addr} {h:Heap} {b:Addr} {o:Obj} (hb:b∈fp) (e:h.get? b=some o):(b,o)∈pinsAt fp h:=List.mem_filterMap.mpr ⟨b,hb,by rw[e];rfl⟩
theorem of_pinsAt {fp:List Addr} {h:Heap} {p:Addr × Obj} (hp:p∈pinsAt fp h):p.1∈fp∧h.get? p.1=some p.2:=by
  obtain⟨b,hb,e⟩:=List.mem_filterMap.mp hp
  cases q:h.get? b with
  | none=>rw[q] at e;cases e
  | some o =>
    rw[q] at e
    have e':(b,o)=p:=Option.some.inj e
    subst e'
    exact⟨hb,q⟩
theorem Inv.pinned {pins:List (Addr × Obj)} {σ:St} {H:Hp} {s:Shared} {fp:List Addr} (I:Inv X pins σ H s) (hf:∀ b∈fp,FpOk X pins H b) (ho:∀ b∈fp,∃ o,s.heap.get? b=some o∧∀ v,o.data≠.cell v):Inv X (pins++pinsAt fp s.heap) σ H s :=
  I.pins_of fun p hp=>(List.mem_append.mp hp).elim (fun z=>I.pin p (List.mem_append_right _ z)) fun z=>by
    obtain⟨hb,e⟩:=of_pinsAt z
    obtain⟨f0,f1,f2,_⟩:=hf p.1 hb
    obtain⟨o,e',d⟩:=ho p.1 hb
    rw[e] at e';cases e'
    exact⟨e,f0,f1,f2,d⟩
theorem Inv.unpinned {pins pl:List (Addr × Obj)} {σ:St} {H:Hp} {s:Shared} (I:Inv X (pins++pl) σ H s):Inv X pins σ H s:=I.pins_of fun p hp=>I.pin p (List.mem_append_right _ (List.mem_append_left _ hp))
theorem ps_for {iter:Expr} {body:List Stmt} {wi:TI} {g:TG} {tb:TS} {pos:Pos} (hp:PassesOwn (model X.prog X.w) X.A X.env X.xe) (hc:X.calm=true) (hi:PI X tg iter wi) (hg:PG X tg g) (hb:PSs X body tb)
    (hs:∀ x,foldedSetIterable iter X.env x=pure x:=by intro _;rfl):PS X (.For tg iter body [] pos) (tFor wi g tb):=by
  intro pins s σ H D I h
  refine wpAny_For (thn (hi pins s σ H _ I h) fun v s1 h1=>thn h1 fun itv s2 h2=>?_) hs
  obtain⟨it,fp,tn,J,H2,e,I2,T,st2,f2,W,⟨m0,w0⟩,turn⟩:=h2
  subst e
  have stat:∀ {H':Hp},(∀ b∈fp,H' b=none)→∀ b∈fp,FpOk X pins H' b:=fun hn b hb=>⟨hn b hb,(f2 b hb).2⟩
  refine codeAny_forLoop_any (fun n s'=>∃ i σ' H',Inv X pins σ' H' s'∧tn i s'.heap∧(∀ b∈fp,H' b=none)∧W i n σ' H') ?_ m0 ⟨0,σ,H2,I2,st2,fun b hb=>(f2 b hb).1,w0⟩
  rintro n s3 ⟨i,σ3,H3,I3,st3,fr3,w3⟩
  rcases turn i n σ3 H3 w3 with ⟨stop,qn⟩ | ⟨go,N,hN,step⟩
  · refine wpAny_passesOwn hp (thn (T.done X rfl rfl rfl hc i pins s3 σ3 H3 X.xe I3 (stat fr3) st3 stop) fun r s4 ⟨hr,I4⟩=>?_)
    subst hr
    exact wpAny_execs_nil ⟨σ3,H3,I4,qn⟩
  · refine wpAny_passesOwn hp (thn (T.item X rfl rfl rfl hc i pins s3 σ3 H3 X.xe I3 (stat fr3) st3 go) fun r s4 ⟨u,hr,h4⟩=>?_)
    subst hr
    refine wpAny_passesOwn hp (thn h4 fun _ s5 ⟨x,H5,I5,r5,y5,st5,fr5⟩=>?_)
    have I5':=I5.pinned (stat fr5) (T.obj _ _ st5)
    refine wpAny_passesOwn hp (thn (hg _ s5 σ3 H5 x u _ I5' r5 (step x H5 y5)) fun _ s6 ⟨σ6,H6,I6,q6⟩=>?_)
    refine wpAny_passesOwn hp (thn (hb _ s6 σ6 H6 _ I6 q6) fun f s7 q7=>?_)
    have again:∀ {σ7:St} {H7:Hp},Inv X (pins++pinsAt fp s5.heap) σ7 H7 s7→N σ7 H7→∃ m,m<n∧∃ i σ' H',Inv X pins σ' H' s7∧tn i s7.heap∧(∀ b∈fp,H' b=none)∧W i m σ' H':=fun {σ7 H7} I7 n7=>by
      obtain⟨m',hm,w7⟩:=hN σ7 H7 n7
      refine⟨m',hm,i+1,σ7,H7,I7.unpinned,T.keep _ _ _ st5 fun b hb o e=>(I7.pin (b,o) (List.mem_append_right _ (List.mem_append_right _ (mem_pinsAt hb e)))).1,fun b hb=>?_,w7⟩
      obtain⟨o,e,d⟩:=T.obj _ _ st5 b hb
      exact (I7.pin (b,o) (List.mem_append_right _ (List.mem_append_right _ (mem_pinsAt hb e)))).2.1
    cases f with
    | next=>obtain⟨σ7,H7,I7,n7⟩:=q7;exact again I7 n7
    | cont=>obtain⟨σ7,H7,I7,n7⟩:=q7;exact again I7 n7
    | brk=>obtain⟨σ7,H7,I7,q7⟩:=q7;exact⟨σ7,H7,I7.unpinned,q7⟩
    | ret v=>obtain⟨x7,σ7,H7,I7,r7,q7⟩:=q7;exact⟨x7,σ7,H7,I7.unpinned,r7,q7⟩
end
theorem for_tup {K:PySem.W.Frag} {a:Addr} {xs:List V} {g:TG} {tb:TS} {D:Ends} {σ:St} {H:Hp} (Pv:Nat→St→Hp→Prop) (h0:Pv 0 σ H) (hl:∀ i σ H,i≤xs.length→Pv i σ H→SqT K H a xs)
    (hs:∀ i x σ H,xs[i]? = some x→Pv i σ H→g x σ H fun σ2 H2=>tb { D with nx:=Pv (i+1),ct:=Pv (i+1),bk:=D.nx } σ2 H2) (hd:∀ σ H,Pv xs.length σ H→D.nx σ H) :
    ∃ W:Nat→Nat→St→Hp→Prop,(∃ m,W 0 m σ H)∧∀ i m σ H,W i m σ H →
      ((Itt K a).stop i H∧D.nx σ H)∨((Itt K a).go i H∧∃ N:St→Hp→Prop,(∀ σ' H',N σ' H'→∃ m',m'<m∧W (i+1) m' σ' H')∧∀ x H',(Itt K a).yld i H x H'→g x σ H' fun σ2 H2=>tb { D with nx:=N,ct:=N,bk:=D.nx } σ2 H2):=by
  refine⟨fun i m σ H=>m=xs.length - i∧i≤xs.length∧Pv i σ H,⟨xs.length,by simp,Nat.zero_le _,h0⟩,?_⟩
  rintro i m σ H ⟨rfl,hi,p⟩
  have q:=hl i σ H hi p
  by_cases hlt:i<xs.length
  · refine .inr ⟨⟨xs,xs[i],q,by simp[hlt]⟩,Pv (i+1),fun σ' H' p'=>⟨xs.length - (i+1),by omega,rfl,hlt,p'⟩,fun x H' y=>?_⟩
    obtain⟨e,y⟩:=y
    subst e
    exact hs i x σ _ (y xs q) p
  · have e:i=xs.length:=by omega
    subst e
    exact .inl ⟨⟨xs,q,Nat.le_refl _⟩,hd σ H p⟩
theorem for_range {lo:Int} {n:Nat} {g:TG} {tb:TS} {D:Ends} {σ:St} {H:Hp} (Pv:Nat→St→Hp→Prop) (h0:Pv 0 σ H)
    (hs:∀ i σ H,i<n→Pv i σ H→g (.int (lo+i)) σ H fun σ2 H2=>tb { D with nx:=Pv (i+1),ct:=Pv (i+1),bk:=D.nx } σ2 H2) (hd:∀ σ H,Pv n σ H→D.nx σ H) :
    ∃ W:Nat→Nat→St→Hp→Prop,(∃ m,W 0 m σ H)∧∀ i m σ H,W i m σ H →
      ((Itr lo n).stop i H∧D.nx σ H)∨((Itr lo n).go i H∧∃ N:St→Hp→Prop,(∀ σ' H',N σ' H'→∃ m',m'<m∧W (i+1) m' σ' H')∧∀ x H',(Itr lo n).yld i H x H'→g x σ H' fun σ2 H2=>tb { D with nx:=N,ct:=N,bk:=D.nx } σ2 H2):=by
  refine⟨fun i m σ H=>m=n - i∧i≤n∧Pv i σ H,⟨n,by simp,Nat.zero_le _,h0⟩,?_⟩
  rintro i m σ H ⟨rfl,hi,p⟩
  by_cases hlt:i<n
  · refine .inr ⟨hlt,Pv (i+1),fun σ' H' p'=>⟨n - (i+1),by omega,rfl,hlt,p'⟩,fun x H' y=>?_⟩
    obtain⟨e,y⟩:=y
    subst e y
    exact hs i σ _ hlt p
  · have e:i=n:=by omega
    subst e
    exact .inl ⟨Nat.le_refl _,hd σ H p⟩
noncomputable abbrev R2:=V→V→Hp→VK→Prop
noncomputable def OpR (X:Cx) (f:Value→Value→Sem Value) (r:R2):Prop :=
  ∀ (pins:List (Addr × Obj)) (s:Shared) (σ:St) (H:Hp) (x y:V) (v u:Value) (Q:VK),Inv X pins σ H s→RelV x v→RelV y u→r x y H Q →
    wpAny (model X.prog X.w) X.A (f v u) (EP X pins σ Q) X.xe s
noncomputable def UnR (X:Cx) (f:Value→Sem Value) (r:V→Hp→VK→Prop):Prop :=
  ∀ (pins:List (Addr × Obj)) (s:Shared) (σ:St) (H:Hp) (x:V) (v:Value) (Q:VK),Inv X pins σ H s→RelV x v→r x H Q →
    wpAny (model X.prog X.w) X.A (f v) (EP X pins σ Q) X.xe s
noncomputable def CallR (X:Cx) (f:Value) (r:List V→Hp→VK→Prop):Prop :=
  ∀ (pins:List (Addr × Obj)) (s:Shared) (σ:St) (H:Hp) (xs:List V) (us:List Value) (Q:VK),Inv X pins σ H s→Vals xs us→r xs H Q →
    wpAny (model X.prog X.w) X.A (call f us) (EP X pins σ Q) X.xe s
noncomputable def TruR (X:Cx) (r:V→Hp→(Bool→Hp→Prop)→Prop):Prop :=
  ∀ (pins:List (Addr × Obj)) (s:Shared) (σ:St) (H:Hp) (x:V) (v:Value) (Q:Bool→Hp→Prop),Inv X pins σ H s→RelV x v→r x H Q →
    wpAny (model X.prog X.w) X.A (truthy v) (TP X pins σ Q) X.xe s
noncomputable def tOp (r:R2) (ta tb:TE):TE:=fun σ H Q=>ta σ H fun x H1=>tb σ H1 fun y H2=>r x y H2 Q
noncomputable def tUn (r:V→Hp→VK→Prop) (ta:TE):TE:=fun σ H Q=>ta σ H fun x H1=>r x H1 Q
noncomputable def rI (C:Int→Int→Prop) (g:Int→Int→V):R2:=fun x y H Q=>∃ i j,x = .int i∧y = .int j∧C i j∧Q (g i j) H
noncomputable def rI0 (g:Int→Int→V):R2:=fun x y H Q=>∃ i j,x = .int i∧y = .int j∧Q (g i j) H
noncomputable def rU (g:Int→V):V→Hp→VK→Prop:=fun x H Q=>∃ i,x = .int i∧Q (g i) H
section
variable {X:Cx} {a b c:Expr} {ta tb tc:TE} {pos:Pos}
theorem binT (ha:PE X a ta) (hb:PE X b tb) {pins:List (Addr × Obj)} {s:Shared} {σ:St} {H:Hp} {R:V→V→Hp→Prop} (I:Inv X pins σ H s)
    (h:ta σ H fun x H1=>tb σ H1 fun y H2=>R x y H2) {Q:Value→Shared→Prop} {f:Value→Value→Sem Value}
    (hf:∀ v u s2 x y H2,Inv X pins σ H2 s2→RelV x v→RelV y u→R x y H2→wpAny (model X.prog X.w) X.A (f v u) Q X.xe s2) :
    wpAny (model X.prog X.w) X.A (eval a X.env) (fun v s₁=>wpAny (model X.prog X.w) X.A (eval b X.env) (fun u s₂=>wpAny (model X.prog X.w) X.A (f v u) Q X.xe s₂) X.xe s₁) X.xe s:=by
  refine thn (ha pins s σ H _ I h) fun v s1 ⟨x,H1,I1,r1,q1⟩=>?_
  refine thn (hb pins s1 σ H1 _ I1 q1) fun u s2 ⟨y,H2,I2,r2,q2⟩=>?_
  exact hf v u s2 x y H2 I2 r1 r2 q2
theorem pe_op {op:Operator} {r:R2} (ho:OpR X (binaryOp op) r) (ha:PE X a ta) (hb:PE X b tb):PE X (.BinOp a op b pos) (tOp r ta tb):=by
  intro pins s σ H Q I h
  exact wpAny_BinOp (binT ha hb I h fun v u s2 x y H2 I2 rx ry q=>ho pins s2 σ H2 x y v u Q I2 rx ry q)
theorem pe_un {op:UnaryOp} {r:V→Hp→VK→Prop} (ho:UnR X (unaryOp op) r) (ha:PE X a ta):PE X (.UnaryOp op a pos) (tUn r ta):=by
  intro pins s σ H Q I h
  exact UnaryOp_ (thn (ha pins s σ H _ I h) fun v s1 ⟨x,H1,I1,r1,q1⟩=>ho pins s1 σ H1 x v Q I1 r1 q1)
theorem opI {f:Value→Value→Sem Value} {C:Int→Int→Prop} {g:Int→Int→Int}
    (rule:∀ (i j:Int) (t u:Tok) (s:Shared) (Q:Value→Shared→Prop) (E:Value→Shared→Prop),C i j→Q (.int (g i j) s.toks) { s with toks:=s.toks+1 }→wpAny (model X.prog X.w) X.A (f (.int i t) (.int j u)) Q E s) :
    OpR X f (rI C fun i j=>.int (g i j)):=by
  intro pins s σ H x y v u Q I rx ry h
  obtain⟨i,j,rfl,rfl,hc,q⟩:=h
  obtain⟨t,rfl⟩:=rx
  obtain⟨t',rfl⟩:=ry
  exact rule i j t t' s _ _ hc ⟨.int (g i j),H,I.tok _,⟨_,rfl⟩,q⟩
theorem opI0 {f:Value→Value→Sem Value} {g:Int→Int→Int}
    (rule:∀ (i j:Int) (t u:Tok) (s:Shared) (Q:Value→Shared→Prop) (E:Value→Shared→Prop),Q (.int (g i j) s.toks) { s with toks:=s.toks+1 }→wpAny (model X.prog X.w) X.A (f (.int i t) (.int j u)) Q E s) :
    OpR X f (rI0 fun i j=>.int (g i j)):=by
  intro pins s σ H x y v u Q I rx ry h
  obtain⟨i,j,rfl,rfl,q⟩:=h
  obtain⟨t,rfl⟩:=rx
  obtain⟨t',rfl⟩:=ry
  exact rule i j t t' s _ _ ⟨.int (g i j),H,I.tok _,⟨_,rfl⟩,q⟩
theorem opB0 {f:Value→Value→Sem Value} {g:Int→Int→Bool}
    (rule:∀ (i j:Int) (t u:Tok) (s:Shared) (Q:Value→Shared→Prop) (E:Value→Shared→Prop),Q (.bool (g i j)) s→wpAny (model X.prog X.w) X.A (f (.int i t) (.int j u)) Q E s) :
    OpR X f (rI0 fun i j=>.bl (g i j)):=by
  intro pins s σ H x y v u Q I rx ry h
  obtain⟨i,j,rfl,rfl,q⟩:=h
  obtain⟨t,rfl⟩:=rx
  obtain⟨t',rfl⟩:=ry
  exact rule i j t t' s _ _ ⟨.bl (g i j),H,I,rfl,q⟩
noncomputable def CDiv (i j:Int):Prop:=0<j∧j<1073741824
noncomputable def CDivN (i j:Int):Prop:=j≠0∧j.natAbs<1073741824
noncomputable def CPow (i j:Int):Prop:=0≤j∧j≤1000000∧i.natAbs<2 ^ 64
noncomputable def CMul (i j:Int):Prop:=(-(2 ^ 64)<i∧i<2 ^ 64)∨(-(2 ^ 64)<j∧j<2 ^ 64)
theorem CMul.ok {i j:Int} (h:CMul i j):IntMulOk i j:=by
  rcases h with ⟨h1,h2⟩ | ⟨h1,h2⟩
  · exact .of_left (intBits_le_64 h1 h2)
  · exact .of_right (intBits_le_64 h1 h2)
theorem op_add:OpR X (binaryOp .Add) (rI0 fun i j=>.int (i+j)):=opI0 fun _ _ _ _ _ _ _ q=>add_int q
theorem op_sub:OpR X (binaryOp .Sub) (rI0 fun i j=>.int (i - j)):=opI0 fun _ _ _ _ _ _ _ q=>sub_int q
theorem op_mul:OpR X (binaryOp .Mult) (rI CMul fun i j=>.int (i*j)):=opI fun _ _ _ _ _ _ _ hc q=>mul_int q hc.ok
theorem op_fdiv:OpR X (binaryOp .FloorDiv) (rI CDiv fun i j=>.int (i/j)):=opI fun i j _ _ _ _ _ hc q=>by
  have h1:(0:Int)<j:=hc.1
  have h2:j<1073741824:=hc.2
  exact floordiv_int (by omega) (by rw[Int.fdiv_eq_ediv_of_nonneg i (by omega)];exact q) (.inl (PyProof.noPylong_small (by omega)))
theorem op_mod:OpR X (binaryOp .Mod) (rI (fun _ j=>0<j) fun i j=>.int (i%j)):=opI fun i j _ _ _ _ _ hc q=>by
  have h1:(0:Int)<j:=hc
  exact mod_int' (by omega) (by rw[Int.fmod_eq_emod_of_nonneg i (by omega)];exact q)
theorem op_pow:OpR X (binaryOp .Pow) (rI CPow fun i j=>.int (i ^ j.toNat)):=opI fun _ _ _ _ _ _ _ hc q=>pow_int_small hc.1 hc.2.1 hc.2.2 q
theorem unI {f:Value→Sem Value} {g:Int→Int}
    (rule:∀ (i:Int) (t:Tok) (s:Shared) (Q:Value→Shared→Prop) (E:Value→Shared→Prop),Q (.int (g i) s.toks) { s with toks:=s.toks+1 }→wpAny (model X.prog X.w) X.A (f (.int i t)) Q E s) :
    UnR X f (rU fun i=>.int (g i)):=by
  intro pins s σ H x v Q I rx h
  obtain⟨i,rfl,q⟩:=h
  obtain⟨t,rfl⟩:=rx
  exact rule i t s _ _ ⟨.int (g i),H,I.tok _,⟨_,rfl⟩,q⟩
theorem un_neg:UnR X (unaryOp .USub) (rU fun i=>.int (-i)):=unI fun _ _ _ _ _ q=>neg_int q
end
noncomputable def scal:V→V→Bool
  | .non,.non=>true | .non,.int _=>true | .int _,.non=>true | .non,.bl _=>true | .bl _,.non=>true | .non,.str _=>true | .str _,.non=>true
  | .int _,.int _=>true | .bl _,.bl _=>true | .str _,.str _=>true | .byt _,.byt _=>true
  | .int _,.str _=>true | .str _,.int _=>true | .bl _,.str _=>true | .str _,.bl _=>true
  | _,_=>false
noncomputable def rEq:R2:=fun x y H Q=>scal x y=true∧Q (.bl (decide (x=y))) H
noncomputable def rNe:R2:=fun x y H Q=>scal x y=true∧Q (.bl (!decide (x=y))) H
theorem dec_int {i j:Int}:decide (V.int i=V.int j)=(i==j):=by
  rw[Bool.eq_iff_iff]
  simp
theorem dec_bl {i j:Bool}:decide (V.bl i=V.bl j)=(i==j):=by
  rw[Bool.eq_iff_iff]
  simp
theorem dec_str {i j:Str}:decide (V.str i=V.str j)=(i==j):=by
  rw[Bool.eq_iff_iff]
  simp
theorem dec_byt {i j:Array UInt8}:decide (V.byt i=V.byt j)=(i.toList==j.toList):=by
  rw[Bool.eq_iff_iff]
  cases i
  cases j
  simp
section
variable {X:Cx} {a b c:Expr} {ta tb tc:TE} {pos:Pos}
theorem fin_bl {pins:List (Addr × Obj)} {σ:St} {H:Hp} {s:Shared} {Q:VK} {k k':Bool} (I:Inv X pins σ H s) (q:Q (.bl k) H) (e:k=k'):EP X pins σ Q (.bool k') s:=by
  subst e
  exact⟨.bl k,H,I,rfl,q⟩
theorem op_eq:OpR X (compareOp .Eq) rEq:=by
  intro pins s σ H x y v u Q I rx ry h
  obtain⟨hs,q⟩:=h
  cases x with
  | non =>
    cases rx
    cases y with
    | non=>cases ry;exact PySem.EqNone.eq_none_none (fin_bl I q (by simp))
    | bl j=>cases ry;exact PySem.EqNone.eq_none_bool (fin_bl I q (by simp))
    | int j=>obtain⟨t',rfl⟩:=ry;exact PySem.EqNone.eq_none_int (fin_bl I q (by simp))
    | str j=>obtain⟨t',rfl⟩:=ry;exact PySem.EqNone.eq_none_str (fin_bl I q (by simp))
    | _=>exact absurd (show false=true from hs) Bool.false_ne_true
  | bl i =>
    cases rx
    cases y with
    | non=>cases ry;exact PySem.EqNone.eq_bool_none (fin_bl I q (by simp))
    | bl j=>cases ry;exact eq_bool (fin_bl I q dec_bl)
    | str j=>obtain⟨t',rfl⟩:=ry;exact PySem.EqMixed.eq_bool_str (fin_bl I q (by simp))
    | _=>exact absurd (show false=true from hs) Bool.false_ne_true
  | int i =>
    obtain⟨t,rfl⟩:=rx
    cases y with
    | non=>cases ry;exact PySem.EqNone.eq_int_none (fin_bl I q (by simp))
    | int j=>obtain⟨t',rfl⟩:=ry;exact eq_int (fin_bl I q dec_int)
    | str j=>obtain⟨t',rfl⟩:=ry;exact PySem.EqMixed.eq_int_str (fin_bl I q (by simp))
    | _=>exact absurd (show false=true from hs) Bool.false_ne_true
  | str i =>
    obtain⟨t,rfl⟩:=rx
    cases y with
    | non=>cases ry;exact PySem.EqNone.eq_str_none (fin_bl I q (by simp))
    | bl j=>cases ry;exact PySem.EqMixed.eq_str_bool (fin_bl I q (by simp))
    | int j=>obtain⟨t',rfl⟩:=ry;exact PySem.EqMixed.eq_str_int (fin_bl I q (by simp))
    | str j=>obtain⟨t',rfl⟩:=ry;exact eq_str (fin_bl I q dec_str)
    | _=>exact absurd (show false=true from hs) Bool.false_ne_true
  | byt i =>
    obtain⟨t,rfl⟩:=rx
    cases y with
    | byt j=>obtain⟨t',rfl⟩:=ry;exact PySem.W.eq_bytes (fin_bl I q dec_byt)
    | _=>exact absurd (show false=true from hs) Bool.false_ne_true
  | _=>cases y <;> exact absurd (show false=true from hs) Bool.false_ne_true
theorem op_ne:OpR X (compareOp .NotEq) rNe:=by
  intro pins s σ H x y v u Q I rx ry h
  obtain⟨hs,q⟩:=h
  cases x with
  | non =>
    cases rx
    cases y with
    | non=>cases ry;exact PySem.EqNone.ne_none_none (fin_bl I q (by simp))
    | bl j=>cases ry;exact PySem.EqNone.ne_none_bool (fin_bl I q (by simp))
    | int j=>obtain⟨t',rfl⟩:=ry;exact PySem.EqNone.ne_none_int (fin_bl I q (by simp))
    | str j=>obtain⟨t',rfl⟩:=ry;exact PySem.EqNone.ne_none_str (fin_bl I q (by simp))
    | _=>exact absurd (show false=true from hs) Bool.false_ne_true
  | bl i =>
    cases rx
    cases y with
    | non=>cases ry;exact PySem.EqNone.ne_bool_none (fin_bl I q (by simp))
    | bl j=>cases ry;exact ne_bool (fin_bl I q (congrArg not dec_bl))
    | str j=>obtain⟨t',rfl⟩:=ry;exact PySem.EqMixed.ne_bool_str (fin_bl I q (by simp))
    | _=>exact absurd (show false=true from hs) Bool.false_ne_true
  | int i =>
    obtain⟨t,rfl⟩:=rx
    cases y with
    | non=>cases ry;exact PySem.EqNone.ne_int_none (fin_bl I q (by simp))
    | int j=>obtain⟨t',rfl⟩:=ry;exact ne_int (fin_bl I q (congrArg not dec_int))
    | str j=>obtain⟨t',rfl⟩:=ry;exact PySem.EqMixed.ne_int_str (fin_bl I q (by simp))
    | _=>exact absurd (show false=true from hs) Bool.false_ne_true
  | str i =>
    obtain⟨t,rfl⟩:=rx
    cases y with
    | non=>cases ry;exact PySem.EqNone.ne_str_none (fin_bl I q (by simp))
    | bl j=>cases ry;exact PySem.EqMixed.ne_str_bool (fin_bl I q (by simp))
    | int j=>obtain⟨t',rfl⟩:=ry;exact PySem.EqMixed.ne_str_int (fin_bl I q (by simp))
    | str j=>obtain⟨t',rfl⟩:=ry;exact ne_str (fin_bl I q (congrArg not dec_str))
    | _=>exact absurd (show false=true from hs) Bool.false_ne_true
  | byt i =>
    obtain⟨t,rfl⟩:=rx
    cases y with
    | byt j=>obtain⟨t',rfl⟩:=ry;exact PySem.W.ne_bytes (fin_bl I q (congrArg not dec_byt))
    | _=>exact absurd (show false=true from hs) Bool.false_ne_true
  | _=>cases y <;> exact absurd (show false=true from hs) Bool.false_ne_true
theorem op_lt:OpR X (compareOp .Lt) (rI0 fun i j=>.bl (decide (i<j))):=opB0 fun _ _ _ _ _ _ _ q=>lt_int q
theorem op_le:OpR X (compareOp .LtE) (rI0 fun i j=>.bl (decide (i≤j))):=opB0 fun _ _ _ _ _ _ _ q=>le_int q
theorem op_gt:OpR X (compareOp .Gt) (rI0 fun i j=>.bl (decide (j<i))):=opB0 fun _ _ _ _ _ _ _ q=>gt_int q
theorem op_ge:OpR X (compareOp .GtE) (rI0 fun i j=>.bl (decide (j≤i))):=opB0 fun _ _ _ _ _ _ _ q=>ge_int q
theorem op_in_str:OpR X (compareOp .In) (fun x y H Q=>∃ i j,x = .str i∧y = .str j∧Q (.bl (!(Builtin.Str.occurrences j i 0 j.length 1).isEmpty)) H):=by
  intro pins s σ H x y v u Q I rx ry h
  obtain⟨i,j,rfl,rfl,q⟩:=h
  obtain⟨t,rfl⟩:=rx
  obtain⟨t',rfl⟩:=ry
  exact in_str (fin_bl I q rfl)
noncomputable def isObj:HO→Bool
  | .lst _=>true
  | .ins _ _ _=>true
  | _=>false
theorem nomark (b:Expr) {op:CmpOp} (h:op≠.In:=by decide) (h2:op≠.NotIn:=by decide):behindInMarks op b=false:=by
  have e1:(op==CmpOp.In)=false:=by cases op <;> first | rfl | exact absurd rfl h
  have e2:(op==CmpOp.NotIn)=false:=by cases op <;> first | rfl | exact absurd rfl h2
  cases b <;> simp[behindInMarks,e1,e2]
theorem pe_cmpR {op:CmpOp} {r:R2} (ho:OpR X (compareOp op) r) (ha:PE X a ta) (hb:PE X b tb) (hm:behindInMarks op b=false):PE X (.Compare a [op] [b] pos) (tOp r ta tb):=by
  intro pins s σ H Q I h
  exact wpAny_Compare1 (binT ha hb I h fun v u s2 x y H2 I2 rx ry q=>ho pins s2 σ H2 x y v u Q I2 rx ry q) hm
noncomputable def tTest (t:TE):TT:=fun σ H Q=>t σ H fun x H'=>∃ k,x = .bl k∧Q k H'
theorem pt_cmpR {op:CmpOp} {r:R2} (ho:OpR X (compareOp op) r) (ha:PE X a ta) (hb:PE X b tb) (hm:behindInMarks op b=false):PT X (.Compare a [op] [b] pos) (tTest (tOp r ta tb)):=by
  intro pins s σ H Q I h
  refine wpAny_isTrue_Compare1 (thn (ha pins s σ H _ I h) fun v s1 ⟨x,H1,I1,r1,q1⟩=>thn (hb pins s1 σ H1 _ I1 q1) fun u s2 ⟨y,H2,I2,r2,q2⟩ =>
    thn (ho pins s2 σ H2 x y v u _ I2 r1 r2 q2) fun c s3 ⟨z,H3,I3,r3,k,e,q3⟩=>?_) hm
  subst e
  cases r3
  exact wpAny_truthy_bool ⟨H3,I3,q3⟩
noncomputable def tChain (r r':R2) (ta tb tc:TE):TE:=fun σ H Q=>ta σ H fun x H1=>tb σ H1 fun y H2=>r x y H2 fun z H3=>∃ k,z = .bl k ∧
  (if k=true then tc σ H3 fun w' H4=>r' y w' H4 Q else Q (.bl false) H3)
noncomputable def TruV (K:PySem.W.Frag) (x:V) (H:Hp) (k:Bool):Prop :=
  match x with
  | .non=>k=false
  | .bl b=>k=b
  | .int i=>k=(i != 0)
  | .str y=>y.length≤sizeLine∧k=((y.length:Int) != 0)
  | .byt y=>y.size≤sizeLine∧k=((y.size:Int) != 0)
  | .ref p=>(∃ xs,SqL K H p xs∧k = !xs.isEmpty)∨(∃ xs,SqT K H p xs∧k = !xs.isEmpty)∨∃ kvs,H p=some (.dK kvs)∧k = !kvs.isEmpty
  | _=>False
theorem line63:(sizeLine:Nat)<2 ^ 63:=by rw[sizeLine_eq];decide
theorem op_add_str:OpR X (binaryOp .Add) (fun x y H Q=>∃ i j,x = .str i∧y = .str j∧i.length+j.length≤sizeLine∧Q (.str (i++j)) H):=by
  intro pins s σ H x y v u Q I rx ry h
  obtain⟨i,j,rfl,rfl,hz,q⟩:=h
  obtain⟨t,rfl⟩:=rx
  obtain⟨t',rfl⟩:=ry
  exact add_str (fun t' tk=>⟨.str (i++j),H,I.tok _,⟨_,rfl⟩,q⟩) hz
noncomputable def PlainIxT (b:Expr):Prop:=∀ o i,subscripted b false o i=operate [o,i] (getItem o i)
theorem vals1 {x:V} {us:List Value} (r:Vals [x] us):∃ u,us=[u]∧RelV x u:=by
  cases r with
  | cons r1 r2=>cases r2;exact⟨_,rfl,r1⟩
theorem vals2 {x y:V} {us:List Value} (r:Vals [x,y] us):∃ u w',us=[u,w']∧RelV x u∧RelV y w':=by
  cases r with
  | cons r1 r2 =>
    cases r2 with
    | cons r3 r4=>cases r4;exact⟨_,_,rfl,r1,r3⟩
theorem call_max2 (hc:X.calm=true):CallR X (.builtin "max") (fun xs H Q=>∃ i j,xs=[.int i,.int j]∧Q (.int (if j > i then j else i)) H):=by
  intro pins s σ H xs us Q I r h
  obtain⟨i,j,rfl,q⟩:=h
  obtain⟨u,w',rfl,⟨t,rfl⟩,⟨t',rfl⟩⟩:=vals2 r
  refine max_two_ints (I.ok.hd hc) fun h' tk k=>⟨_,H,I.kept k,?_,q⟩
  by_cases hj:j > i
  · rw[if_pos hj,if_pos hj];exact⟨_,rfl⟩
  · rw[if_neg hj,if_neg hj];exact⟨_,rfl⟩
theorem call_min2 (hc:X.calm=true):CallR X (.builtin "min") (fun xs H Q=>∃ i j,xs=[.int i,.int j]∧Q (.int (if j<i then j else i)) H):=by
  intro pins s σ H xs us Q I r h
  obtain⟨i,j,rfl,q⟩:=h
  obtain⟨u,w',rfl,⟨t,rfl⟩,⟨t',rfl⟩⟩:=vals2 r
  refine min_two_ints (I.ok.hd hc) fun h' tk k=>⟨_,H,I.kept k,?_,q⟩
  by_cases hj:j<i
  · rw[if_pos hj,if_pos hj];exact⟨_,rfl⟩
  · rw[if_neg hj,if_neg hj];exact⟨_,rfl⟩
theorem call_int1:CallR X (.type "int") (fun xs H Q=>(∃ i,xs=[.int i]∧Q (.int i) H)∨∃ k,xs=[.bl k]∧Q (.int (if k then 1 else 0)) H):=by
  intro pins s σ H xs us Q I r h
  rcases h with ⟨i,rfl,q⟩ | ⟨k,rfl,q⟩
  · obtain⟨u,rfl,t,rfl⟩:=vals1 r
    exact call_int_int ⟨.int i,H,I,⟨_,rfl⟩,q⟩
  · obtain⟨u,rfl,r1⟩:=vals1 r
    cases r1
    exact call_int_bool ⟨.int (if k then 1 else 0),H,I.tok _,⟨_,rfl⟩,q⟩
theorem call_str_int:CallR X (.type "str") (fun xs H Q=>∃ i,xs=[.int i]∧i.natAbs.log2<1920∧Q (.str (toString i)) H):=by
  intro pins s σ H xs us Q I r h
  obtain⟨i,rfl,hz,q⟩:=h
  obtain⟨u,rfl,t,rfl⟩:=vals1 r
  exact PySem.P.str_of_int hz ⟨.str _,H,I.tok _,⟨_,rfl⟩,q⟩
noncomputable def LenV (K:PySem.W.Frag) (x:V) (H:Hp) (n:Nat):Prop :=
  match x with
  | .str y=>y.length≤sizeLine∧n=y.length
  | .byt y=>y.size≤sizeLine∧n=y.size
  | .ref p=>(∃ xs,SqL K H p xs∧n=xs.length)∨∃ xs,SqT K H p xs∧n=xs.length
  | _=>False
end
structure ObjM (h:Heap) (x dx C:Addr) (mA:Str→Option Value):Prop where
  obj:h.get? x=some (PySem.W.instObj C dx)
  ns:h.Ns1 dx mA
  ne:dx≠x
theorem lookIn_ns {h:Heap} {dx:Addr} {mA:Str→Option Value} (n:h.Ns1 dx mA):∃ od,h.get? dx=some od∧∀ name,PySem.W.lookIn name od=some (mA name):=by
  obtain⟨o,es,ep,ho,hd,hk,_,hm⟩:=n
  refine⟨o,ho,fun name=>?_⟩
  have e:=hm name
  unfold nsFind findBy at e
  rw[← Array.find?_toList] at e
  unfold PySem.W.lookIn
  rw[hd]
  dsimp only
  split
  · rename_i y q
    rw[q] at e
    exact congrArg some e
  · rename_i q
    rw[q] at e
    have a:es.toList.any (·.refKey)=false:=by
      rw[List.any_eq_false]
      intro y hy
      obtain⟨z,t,hkey⟩:=hk y (Array.mem_toList_iff.mp hy)
      simp[DictEntry.refKey,hkey]
    have a':¬ es.toList.any (·.refKey)=true:=by rw[a];exact Bool.false_ne_true
    rw[if_neg a']
    exact congrArg some e
theorem ObjM.look {h:Heap} {x dx C:Addr} {mA:Str→Option Value} (I:ObjM h x dx C mA):∃ od,PySem.W.InstAt h x (PySem.W.instObj C dx) C (some od)∧∀ name,PySem.W.lookIn name od=some (mA name) :=
  let ⟨od,ho,hl⟩:=lookIn_ns I.ns
  ⟨od,⟨I.obj,rfl,rfl,ho⟩,hl⟩
section
variable {prog:Program} {w:World} {A:Around} {E:Value→Shared→Prop} {s:Shared} {K:PySem.W.Frag} {x dx C f:Addr} {mA:Str→Option Value} {name:Str} {v:Value}
theorem get_map {expr:Bool} {Q:Value→Shared→Prop} (X:K.In s.heap) (I:ObjM s.heap x dx C mA) (hg:PySem.W.plainGet K C name=true) (hh:PySem.W.hasDictIn K C=true)
    (ha:PySem.W.findIn K (.ref C) name=some none) (hv:mA name=some v) (hv':PySem.W.handedIn v=true) (h:Q v { s with toks:=s.toks+1 }) :
    wpAny (model prog w) A (getAttr (.ref x) name expr) Q E s:=by
  obtain⟨od,J,hl⟩:=I.look
  exact PySem.W.get_value X J (PySem.W.plainGet_of hg).1 (PySem.W.findObj_own hh ha rfl (by rw[hl,hv])) hv' h
theorem get_meth {pl:Sem Bool} {Q:Value × List Value→Shared→Prop} (X:K.In s.heap) (I:ObjM s.heap x dx C mA) (hg:PySem.W.plainGet K C name=true)
    (hf:PySem.W.findIn K (.ref C) name=some (some (.ref f))) (ht:PySem.W.isFn K (.ref f)=true) (hv:mA name=none) (h:Q (.ref f,[.ref x]) s) :
    wpAny (model prog w) A (getMethod (.ref x) name pl) Q E s:=by
  obtain⟨od,J,hl⟩:=I.look
  exact PySem.W.method_fn X J (PySem.W.plainGet_of hg).1 (PySem.W.plainGet_of hg).2 hf (beq_iff_eq.mp ht) (by show (PySem.W.lookIn name od).map (·.isSome)=some false;rw[hl,hv];rfl) h
theorem set_map {ns:List Str} {Q:Unit→Shared→Prop} (X:K.In s.heap) (I:ObjM s.heap x dx C mA)
    (hs:PySem.W.findIn K (.ref C) "__setattr__" = some (some (.builtin "object.__setattr__"))) (hp:PySem.W.plainOver K C=true) (ht:PySem.W.takerIn K C name=some none) (hh:PySem.W.hasDictIn K C=true)
    (hw:PySem.Within mA ns) (hsz:ns.length≤sizeLine)
    (h:∀ h',ObjM h' x dx C (fun y=>if y=name then some v else mA y)→Heap.SameBut dx s.heap h'→Q () { s with heap:=h',toks:=s.toks+2 }) :
    wpAny (model prog w) A (setAttr (.ref x) name v) Q E s:=by
  obtain⟨od,J,hl⟩:=I.look
  refine PySem.W.set_plain X J hs (PySem.W.osa_open (s:={ s with toks:=s.toks+1 }) (r:=none) X J hp ht fun b=>?_)
  obtain⟨cd,hc,hd'⟩:=PySem.W.any_some hh
  have hx:s.heap.get? x=some ⟨.ref C,some dx,.plain,#[]⟩:=I.obj
  refine wpAny_bind (wpAny_pure (wpAny_bind (wpAny_bind (wpAny_loadPart hx (wpAny_bind (PySem.W.Looks.here (s:={ s with toks:=s.toks+1 }) (PySem.W.looks_clsIn X hc) ?_))))))
  rw[hd']
  refine wpAny_pure (a:=some dx) (wpAny_bind (wpAny_pure (wpAny_bind ?_)))
  refine wpAny_nsSet1 (s:={ s with toks:=s.toks+1 }) I.ns fun h' hn2 hs2=>?_
  obtain⟨oD,esD,epD,hoD,hdD,hcD⟩:=hn2.count (PySem.Within.cons name v hw)
  refine wpAny_bind (wpAny_lookBehind hoD (by rw[hdD];exact pastItsLine_dict (Nat.le_trans hcD (by rw[List.length_cons];omega))) ?_)
  exact wpAny_pure (h _ ⟨(hs2.2 _ (Ne.symm I.ne)).trans I.obj,hn2,I.ne⟩ hs2)
theorem make_map {R:Result→Shared→Prop} {vs:List Value} {kw:List (Str × Value)} (X:K.In s.heap) (hm:PySem.W.makesIn K C=true)
    (hi:PySem.W.findIn K (.ref C) "__init__" = some (some (.ref f))) (hf:PySem.W.typeIn K (.ref f)=some (.type "function"))
    (h:codeAny (model prog w) (A.under (.builtin "type.__call__" ⟨.ref C::vs,kw⟩)) (.call (.ref f) ⟨.ref (s.heap.objs.size+1)::vs,kw⟩) (PySem.W.InitBack (s.heap.objs.size+1) R)
      { s with heap:=(s.heap.push PySem.W.emptyDict).push (PySem.W.instObj C s.heap.objs.size) }) :
    codeAny (model prog w) A (.call (.ref C) ⟨vs,kw⟩) R s:=by
  obtain⟨hh,g,d,t,os⟩:=s
  exact PySem.W.make_core (PySem.W.makes_of X hm) (PySem.W.looks_findIn X hi) (fun self=>PySem.W.bind_fn X self hf) (.inl rfl) h
end
noncomputable def putF (f:Str) (v:V):List (Str × V)→List (Str × V)
  | []=>[(f,v)]
  | (g,x)::r=>if g=f then (g,v)::r else (g,x)::putF f v r
theorem lookup_putF (f g:Str) (v:V):∀ fs:List (Str × V),(putF f v fs).lookup g=if g=f then some v else fs.lookup g
  | []=>by
    show List.lookup g [(f,v)]=_
    by_cases h:g=f
    · have hb:(g==f)=true:=beq_iff_eq.mpr h
      simp only[List.lookup,hb,if_pos h]
    · have hb:(g==f)=false:=beq_eq_false_iff_ne.mpr h
      simp only[List.lookup,hb,if_neg h]
  | (k,x)::r=>by
    have ih:=lookup_putF f g v r
    rw[show putF f v ((k,x)::r)=(if k=f then (k,v)::r else (k,x)::putF f v r) from rfl]
    by_cases hk:k=f
    · rw[if_pos hk]
      by_cases h:g=k
      · have hb:(g==k)=true:=beq_iff_eq.mpr h
        simp only[List.lookup,hb,if_pos (h.trans hk)]
      · have hb:(g==k)=false:=beq_eq_false_iff_ne.mpr h
        simp only[List.lookup,hb,if_neg (fun e:g=f=>h (e.trans hk.symm))]
    · rw[if_neg hk]
      by_cases h:g=k
      · have hb:(g==k)=true:=beq_iff_eq.mpr h
        simp only[List.lookup,hb,if_neg (fun e:g=f=>hk (h.symm.trans e))]
      · have hb:(g==k)=false:=beq_eq_false_iff_ne.mpr h
        simp only[List.lookup,hb]
        exact ih
theorem keys_putF (f:Str) (v:V):∀ fs:List (Str × V),f∈(putF f v fs).map (·.1)∧∀ g,g∈fs.map (·.1)→g∈(putF f v fs).map (·.1)
  | []=>⟨by simp[putF],fun g h=>by simp at h⟩
  | (k,x)::r=>by
    obtain⟨i1,i2⟩:=keys_putF f v r
    rw[show putF f v ((k,x)::r)=(if k=f then (k,v)::r else (k,x)::putF f v r) from rfl]
    by_cases hk:k=f
    · rw[if_pos hk]
      subst hk
      exact⟨by simp,fun g h=>by simpa using h⟩
    · rw[if_neg hk]
      refine⟨?_,fun g h=>?_⟩
      · rw[List.map_cons]
        exact List.mem_cons_of_mem _ i1
      · rw[List.map_cons] at h ⊢
        rcases List.mem_cons.mp h with e | e
        · exact List.mem_cons.mpr (.inl e)
        · exact List.mem_cons_of_mem _ (i2 g e)
theorem length_putF (f:Str) (v:V):∀ fs:List (Str × V),(putF f v fs).length≤fs.length+1
  | []=>by simp[putF]
  | (k,x)::r=>by
    have ih:=length_putF f v r
    rw[show putF f v ((k,x)::r)=(if k=f then (k,v)::r else (k,x)::putF f v r) from rfl]
    by_cases hk:k=f
    · rw[if_pos hk,List.length_cons,List.length_cons];omega
    · rw[if_neg hk,List.length_cons,List.length_cons];omega
theorem RelO.some_of {v:V} {o:Option Value} (r:RelO (some v) o):∃ u,o=some u∧RelV v u:=by
  cases o with
  | none=>exact (show False from r).elim
  | some u=>exact⟨u,rfl,r⟩
theorem RelO.none_of {o:Option Value} (r:RelO none o):o=none:=by
  cases o with
  | none=>rfl
  | some u=>exact (show False from r).elim
theorem handed_of {v:V} {u:Value} (r:RelV v u):PySem.W.handedIn u=true:=by
  cases v with
  | non=>cases (show u=Value.none from r);rfl
  | bl b=>cases (show u=Value.bool b from r);rfl
  | int i=>obtain⟨t,e⟩:=(show ∃ t,u=Value.int i t from r);cases e;rfl
  | str x=>obtain⟨t,e⟩:=(show ∃ t,u=Value.str x t from r);cases e;rfl
  | byt b=>obtain⟨t,e⟩:=(show ∃ t,u=Value.bytes b t from r);cases e;rfl
  | flt b=>obtain⟨t,e⟩:=(show ∃ t,u=Value.float b t from r);cases e;rfl
  | ref a=>cases (show u=Value.ref a from r);rfl
  | ty n=>cases (show u=Value.type n from r);rfl
section
variable {P:Program} {w:World} {H H':Hp} {h h':Heap} {a C dx:Addr} {fs fs':List (Str × V)}
theorem ins_get (hok:HOk P w H h) (e:H a=some (.ins C dx fs)):∃ mA,ObjM h a dx C mA∧(∀ f,RelO (fs.lookup f) (mA f))∧PySem.Within mA (fs.map (·.1))∧fs.length≤1000∧H dx=some (.own a):=by
  obtain⟨d,z,ne,ob,mA,n,r,q⟩:=(show ObjOk P w H h a (.ins C dx fs) from hok a _ e)
  exact⟨mA,⟨ob,n,ne⟩,r,q,z,d⟩
end
structure Cls (K:PySem.W.Frag) (C:Addr):Prop where
  pg:PySem.W.plainGet K C Str.empty=true
  hd:PySem.W.hasDictIn K C=true
  po:PySem.W.plainOver K C=true
  sa:PySem.W.findIn K (.ref C) "__setattr__" = some (some (.builtin "object.__setattr__"))
theorem Cls.get {K:PySem.W.Frag} {C:Addr} (c:Cls K C) (f:Str):PySem.W.plainGet K C f=true:=c.pg
noncomputable def NoAttr (K:PySem.W.Frag) (C:Addr) (f:Str):Prop:=PySem.W.findIn K (.ref C) f=some none
theorem NoAttr.taker {K:PySem.W.Frag} {C:Addr} {f:Str} (n:NoAttr K C f):PySem.W.takerIn K C f=some none:=by
  unfold PySem.W.takerIn
  rw[show PySem.W.findIn K (.ref C) f=some none from n]
  rfl
structure Con (K:PySem.W.Frag) (C:Addr) (f:Str) (v:V) (u:Value):Prop where
  at_:PySem.W.findIn K (.ref C) f=some (some u)
  rel:RelV v u
  get:PySem.W.specialIn K u "__get__" = some none
  cp:PySem.W.copiedNames.contains f=false
structure Meth (K:PySem.W.Frag) (C:Addr) (m:Str) (f:Addr):Prop where
  at_:PySem.W.findIn K (.ref C) m=some (some (.ref f))
  fn:PySem.W.isFn K (.ref f)=true
  kp:PySem.W.keepIn K (.ref f)=true
section
variable {X:Cx} {pins:List (Addr × Obj)} {σ:St} {H:Hp} {s:Shared} {a C dx:Addr} {fs:List (Str × V)} {f:Str} {v:V} {A:Around} {E:Value→Shared→Prop}
theorem getattr_ok {b:Bool} {Q:Value→Shared→Prop} (I:Inv X pins σ H s) (e:H a=some (.ins C dx fs)) (c:Cls X.K C) (n:NoAttr X.K C f) (l:fs.lookup f=some v)
    (h:∀ u s',Inv X pins σ H s'→RelV v u→Q u s'):wpAny (model X.prog X.w) A (getAttr (.ref a) f b) Q E s:=by
  obtain⟨mA,O,r,_,_,_⟩:=ins_get I.hok e
  obtain⟨u,hu,ru⟩:=RelO.some_of (v:=v) (o:=mA f) (by rw[← l];exact r f)
  exact get_map I.kIn O (c.get f) c.hd n hu (handed_of ru) (h u _ (I.tok _) ru)
theorem getmeth_ok {m:Str} {g:Addr} {pl:Sem Bool} {Q:Value × List Value→Shared→Prop} (I:Inv X pins σ H s) (e:H a=some (.ins C dx fs)) (c:Cls X.K C) (k:Meth X.K C m g) (l:fs.lookup m=none)
    (h:Q (.ref g,[.ref a]) s):wpAny (model X.prog X.w) A (getMethod (.ref a) m pl) Q E s:=by
  obtain⟨mA,O,r,_,_,_⟩:=ins_get I.hok e
  have hn:mA m=none:=RelO.none_of (by rw[← l];exact r m)
  exact get_meth I.kIn O (c.get m) k.at_ k.fn hn h
theorem setattr_ok {y:V} {u:Value} {Q:Unit→Shared→Prop} (I:Inv X pins σ H s) (e:H a=some (.ins C dx fs)) (c:Cls X.K C) (n:NoAttr X.K C f) (hl:fs.length<1000) (ry:RelV y u)
    (h:∀ s',Inv X pins σ (upd H a (.ins C dx (putF f y fs))) s'→Q () s'):wpAny (model X.prog X.w) A (setAttr (.ref a) f u) Q E s:=by
  obtain⟨mA,O,r,wi,_,ho⟩:=ins_get I.hok e
  have hz:(fs.map (·.1)).length≤sizeLine:=by rw[List.length_map,sizeLine_eq];omega
  refine set_map I.kIn O c.sa c.po n.taker c.hd wi hz fun h' O' sb=>h _ ?_
  have hd:∃ o,h'.get? dx=some o:=let ⟨o,_,_,e',_⟩:=O'.ns;⟨o,e'⟩
  refine I.write (x:=a) (e:=dx) (by rw[e];exact True.intro) (.inr ho) (fun b q hb z=>(sb.2 b hb).trans z) hd ?_
  refine⟨by rw[upd_ne O.ne];exact ho,?_,O.ne,O'.obj,_,O'.ns,fun g=>?_,fun g hg=>?_⟩
  · have:=length_putF f y fs;omega
  · show RelO ((putF f y fs).lookup g) (if g=f then some u else mA g)
    rw[lookup_putF]
    by_cases q:g=f
    · rw[if_pos q,if_pos q];exact ry
    · rw[if_neg q,if_neg q];exact r g
  · by_cases q:g=f
    · rw[q];exact (keys_putF f y fs).1
    · refine (keys_putF f y fs).2 g (wi g fun z=>hg ?_)
      show (if g=f then some u else mA g)=none
      rw[if_neg q];exact z
theorem Inv.made (I:Inv X pins σ H s):Inv X pins σ (upd (upd H s.heap.objs.size (.own (s.heap.objs.size+1))) (s.heap.objs.size+1) (.ins C s.heap.objs.size []))
    { s with heap:=(s.heap.push PySem.W.emptyDict).push (PySem.W.instObj C s.heap.objs.size) }:=by
  have e1:(s.heap.push PySem.W.emptyDict).get? s.heap.objs.size=some PySem.W.emptyDict:=Heap.get?_push_size s.heap rfl
  have e2:((s.heap.push PySem.W.emptyDict).push (PySem.W.instObj C s.heap.objs.size)).get? (s.heap.objs.size+1)=some (PySem.W.instObj C s.heap.objs.size):=by
    have:=Heap.get?_push_size (s.heap.push PySem.W.emptyDict) (o:=PySem.W.instObj C s.heap.objs.size) rfl
    rwa [Heap.size_push] at this
  have e3:(s.heap.push PySem.W.emptyDict).Ns s.heap.objs.size (fun _=>none):=⟨PySem.W.emptyDict,#[],_,e1,rfl,(fun e he=>absurd he (by simp)),fun _=>rfl⟩
  have I1:=I.laid (a:=s.heap.objs.size) (o:=.own (s.heap.objs.size+1)) (h':=s.heap.push PySem.W.emptyDict) (t':=s.toks) (fun b u q=>Heap.get?_push_of_some _ q) (Nat.le_refl _) ⟨_,e1⟩
  refine I1.laid (a:=s.heap.objs.size+1) (o:=.ins C s.heap.objs.size []) (t':=s.toks) (fun b u q=>Heap.get?_push_of_some _ q) (Nat.le_of_eq (Heap.size_push _ _)) ?_
  have ne:s.heap.objs.size≠s.heap.objs.size+1:=Nat.ne_of_lt (Nat.lt_succ_self _)
  refine⟨by rw[upd_ne ne,upd_same],Nat.zero_le _,ne,e2,fun _=>none,(Heap.Ns1.of_empty e3).at fun o q=>Heap.get?_push_of_some _ q,fun _=>True.intro,fun y hy=>absurd rfl hy⟩
theorem attr_of {prog:Program} {w:World} {env:Env} {e:Expr} {f:Str} {pos:Pos} {s:Shared} {Q:Value→Shared→Prop} (hb:attributeBase e f env (eval e env)=eval e env)
    (h:wpAny (model prog w) A (eval e env) (fun o s₁=>wpAny (model prog w) A (getAttr o f true) Q E s₁) E s):wpAny (model prog w) A (eval (.Attribute e f pos) env) Q E s :=
  Attribute_any_ h (by rw[arm_eval_Attribute,hb])
end
noncomputable def tFld (K:PySem.W.Frag) (ta:TE) (f:Str):TE:=fun σ H Q=>ta σ H fun x H1=>∃ a C dx fs v,x = .ref a∧H1 a=some (.ins C dx fs)∧Cls K C∧NoAttr K C f∧fs.lookup f=some v∧Q v H1
noncomputable def tCon (K:PySem.W.Frag) (ta:TE) (f:Str):TE:=fun σ H Q=>ta σ H fun x H1=>∃ a C dx fs v u,x = .ref a∧H1 a=some (.ins C dx fs)∧Cls K C∧Con K C f v u∧fs.lookup f=none∧Q v H1
noncomputable def sFld (K:PySem.W.Frag) (ta tv:TE) (f:Str):TS:=fun D σ H=>tv σ H fun y H1=>ta σ H1 fun x H2=>∃ a C dx fs,x = .ref a∧H2 a=some (.ins C dx fs)∧Cls K C∧NoAttr K C f∧fs.length<1000 ∧
  D.nx σ (upd H2 a (.ins C dx (putF f y fs)))
noncomputable def InOp (X:Cx) (op:Operator) (rd:V→V→Hp→VK→Prop):Prop :=
  ∀ (pins:List (Addr × Obj)) (s:Shared) (σ:St) (H:Hp) (x y:V) (u v:Value) (Q:VK),Inv X pins σ H s→RelV x u→RelV y v→rd x y H Q→wpAny (model X.prog X.w) X.A (inplaceOp op u v) (EP X pins σ Q) X.xe s
noncomputable def sFldAug (K:PySem.W.Frag) (ta tv:TE) (rd:V→V→Hp→VK→Prop) (f:Str):TS:=fun D σ H=>ta σ H fun x H1=>∃ a C dx fs v,x = .ref a∧H1 a=some (.ins C dx fs)∧Cls K C∧NoAttr K C f∧fs.lookup f=some v ∧
  tv σ H1 fun y H2=>rd v y H2 fun z H3=>∃ dx' fs',H3 a=some (.ins C dx' fs')∧fs'.length<1000∧D.nx σ (upd H3 a (.ins C dx' (putF f z fs')))
section
variable {X:Cx} {o e value:Expr} {f:Str} {pos pos' tpos:Pos} {ta tv:TE}
theorem pe_fld (he:PE X e ta) (hb:attributeBase e f X.env (eval e X.env)=eval e X.env):PE X (.Attribute e f pos) (tFld X.K ta f):=by
  intro pins s σ H Q I h
  refine attr_of hb (thn (he pins s σ H _ I h) fun u s1 ⟨x,H1,I1,rx,a,C,dx,fs,v,ex,ea,c,n,l,q⟩=>?_)
  subst ex
  obtain rfl:u=Value.ref a:=rx
  exact getattr_ok I1 ea c n l fun u' s2 I2 ru=>⟨v,H1,I2,ru,q⟩
theorem ps_fld (ha:PE X o ta) (hv:PE X value tv) (hs:swapsWith value (some (.Attribute o f pos')) pos.line X.env=pure false):PS X (.Assign [.Attribute o f pos'] value pos) (sFld X.K ta tv f):=by
  intro pins s σ H D I h
  refine plainObj_wpAny_Assign_Attribute (thn (hv pins s σ H _ I h) fun u s1 ⟨y,H1,I1,ry,q⟩=>thn (ha pins s1 σ H1 _ I1 q) fun ov s2 ⟨x,H2,I2,rx,a,C,dx,fs,ex,ea,c,n,l,q2⟩=>?_) hs
  subst ex
  obtain rfl:ov=Value.ref a:=rx
  exact setattr_ok I2 ea c n l ry fun s3 I3=>⟨σ,_,I3,q2⟩
noncomputable def rAdd:V→V→Hp→VK→Prop:=fun x y H Q=>∃ i j,x = .int i∧y = .int j∧Q (.int (i+j)) H
noncomputable def rSub:V→V→Hp→VK→Prop:=fun x y H Q=>∃ i j,x = .int i∧y = .int j∧Q (.int (i - j)) H
theorem methcall_of {pl:Sem Bool} {m:Str} {apos:Pos} {args:List Expr} {pins:List (Addr × Obj)} {s:Shared} {σ:St} {H:Hp} {Q:Value→Shared→Prop} {te:TE} (he:PE X e te) (I:Inv X pins σ H s)
    (h:te σ H fun x H1=>∃ a C dx fs g,x = .ref a∧H1 a=some (.ins C dx fs)∧Cls X.K C∧Meth X.K C m g∧fs.lookup m=none ∧
      ∀ s1,Inv X pins σ H1 s1→wpAny (model X.prog X.w) X.A (callWith pos (.ref g) [.ref a] (backTo pos (starEach args X.env)) (backToKw pos (keywordEach [] X.env))) Q X.xe s1)
    (ht:eval (.Call (.Attribute e m apos) args [] pos) X.env=(do
      let ov ← eval e X.env
      standAt apos.atName
      let (f,first) ← holding [ov] (getMethod ov m pl)
      callWith pos f first (backTo pos (starEach args X.env)) (backToKw pos (keywordEach [] X.env)))) :
    wpAny (model X.prog X.w) X.A (eval (.Call (.Attribute e m apos) args [] pos) X.env) Q X.xe s:=by
  refine PySem.W.methodCall_KW (pl:=pl) (thn (he pins s σ H _ I h) fun u s1 ⟨x,H1,I1,rx,a,C,dx,fs,g,ex,ea,c,k,l,q⟩=>?_) ht
  subst ex
  obtain rfl:u=Value.ref a:=rx
  exact getmeth_ok I1 ea c k l (q s1 I1)
end
section
variable {X:Cx} {pins:List (Addr × Obj)} {σ:St} {H:Hp} {s:Shared} {A:Around} {E:Value→Shared→Prop} {Q:Value→Shared→Prop} {c:Value} {b:Bool}
inductive TyOf (K:PySem.W.Frag) (H:Hp):V→Value→Prop where
  | non:TyOf K H .non (.type "NoneType")
  | bl (x:Bool):TyOf K H (.bl x) (.type "bool")
  | int (i:Int):TyOf K H (.int i) (.type "int")
  | str (x:Str):TyOf K H (.str x) (.type "str")
  | flt (x:UInt64):TyOf K H (.flt x) (.type "float")
  | lst {a:Addr} {xs:List V} (e:H a=some (.lst xs)):TyOf K H (.ref a) (.type "list")
  | frz {a:Addr} {o:Obj} {xs:List V} (e:H a=some (.frz o (.lst xs))):TyOf K H (.ref a) (.type "list")
  | tup {a:Addr} {xs:List V} (e:H a=some (.tup xs)):TyOf K H (.ref a) (.type "tuple")
  | dK {a:Addr} {kvs:List (Key × V)} (e:H a=some (.dK kvs)):TyOf K H (.ref a) (.type "dict")
  | dT {a:Addr} {kvs:List (List Key × V)} (e:H a=some (.dT kvs)):TyOf K H (.ref a) (.type "dict")
  | ins {a C dx:Addr} {fs:List (Str × V)} (e:H a=some (.ins C dx fs)) (cl:Cls K C) (ha:PySem.W.findIn K (.ref C) "__class__" = some (some (.builtin "object.__class__")))
      (hn:PySem.W.specialIn K (.builtin "object.__class__") "__get__" = some (some (.builtin "getset_descriptor.__get__"))) (htk:PySem.W.takesIn K (.builtin "object.__class__")=some true)
      (hm:PySem.W.mroIn K C (.type "object")=some true):TyOf K H (.ref a) (.ref C)
theorem isinst_ok {x:V} {u t:Value} (I:Inv X pins σ H s) (rx:RelV x u) (ty:TyOf X.K H x t) (e:PySem.W.kitOne X.K t c=some b) (h:∀ tk,Q (.bool b) { s with toks:=tk }) :
    wpAny (model X.prog X.w) A (call (.builtin "isinstance") [u,c]) Q E s:=by
  cases ty with
  | non=>cases (show u=Value.none from rx);exact PySem.W.kia_one PySem.W.kitx_none I.kIn True.intro e (fun z=>nomatch z) h
  | bl y=>cases (show u=Value.bool y from rx);exact PySem.W.kia_one PySem.W.kitx_bool I.kIn True.intro e (fun z=>nomatch z) h
  | int i=>obtain⟨t,q⟩:=(show ∃ t,u=Value.int i t from rx);cases q;exact PySem.W.kia_one PySem.W.kitx_int I.kIn True.intro e (fun z=>nomatch z) h
  | str y=>obtain⟨t,q⟩:=(show ∃ t,u=Value.str y t from rx);cases q;exact PySem.W.kia_one PySem.W.kitx_str I.kIn True.intro e (fun z=>nomatch z) h
  | flt y=>obtain⟨t,q⟩:=(show ∃ t,u=Value.float y t from rx);cases q;exact PySem.W.kia_one PySem.W.kitx_float I.kIn True.intro e (fun z=>nomatch z) h
  | @lst a xs ea =>
    cases (show u=Value.ref a from rx)
    obtain⟨_,_,n,_,h1⟩:=(show ObjOk X.prog X.w H s.heap a (.lst xs) from I.hok a _ ea)
    exact PySem.W.kia_one PySem.W.kitx_list I.kIn ⟨_,h1,rfl⟩ e (fun z=>nomatch z) h
  | @frz a ob xs ea =>
    cases (show u=Value.ref a from rx)
    obtain⟨_,_,_,n,_,h1⟩:=(show ObjOk X.prog X.w H s.heap a (.frz ob (.lst xs)) from I.hok a _ ea)
    exact PySem.W.kia_one PySem.W.kitx_list I.kIn ⟨_,h1,rfl⟩ e (fun z=>nomatch z) h
  | @tup a xs ea =>
    cases (show u=Value.ref a from rx)
    obtain⟨_,_,_,p⟩:=(show ObjOk X.prog X.w H s.heap a (.tup xs) from I.hok a _ ea)
    obtain⟨o,h1,h2,_⟩:=p
    exact PySem.W.kia_one PySem.W.kitx_tuple I.kIn ⟨o,h1,h2⟩ e (fun z=>nomatch z) h
  | @dK a kvs ea =>
    cases (show u=Value.ref a from rx)
    obtain⟨_,_,vs,_,p⟩:=(show ObjOk X.prog X.w H s.heap a (.dK kvs) from I.hok a _ ea)
    obtain⟨o,es,ep,h1,h2,_⟩:=p
    exact PySem.W.kia_one PySem.W.kitx_dict I.kIn ⟨o,h1,h2.1⟩ e (fun z=>nomatch z) h
  | @dT a kvs ea =>
    cases (show u=Value.ref a from rx)
    obtain⟨_,_,xs,_,o,es,ep,h1,h2,_⟩:=(show ObjOk X.prog X.w H s.heap a (.dT kvs) from I.hok a _ ea)
    exact PySem.W.kia_one PySem.W.kitx_dict I.kIn ⟨o,h1,h2.1⟩ e (fun z=>nomatch z) h
  | @ins a C dx fs ea cl ha hn htk hm =>
    cases (show u=Value.ref a from rx)
    obtain⟨mA,O,_⟩:=ins_get I.hok ea
    obtain⟨od,J,_⟩:=O.look
    exact PySem.W.kia_one (PySem.W.kitx_own (cl.get _) cl.hd ha hn htk hm) I.kIn J e (fun z=>nomatch z) h
end
structure Room (k:Nat) (A:Around):Prop where
  hd:A.handled=none
  dp:A.depth+3*k+5<recursionLimit
  un:A.units+16*k+200<cLine
theorem Room.mono {j k:Nat} {A:Around} (r:Room k A) (h:j≤k):Room j A:=⟨r.hd,by have:=r.dp;omega,by have:=r.un;omega⟩
theorem Room.deeper {k:Nat} {A:Around} (r:Room (k+1) A) (env:Env):Room k (A.deeper env) :=
  ⟨r.hd,by have:=r.dp;show A.depth+1+3*k+5<_;omega,by have:=r.un;show A.units+3+16*k+200<_;omega⟩
theorem make_depth {A:Around} {C:Addr} {us:List Value} {kw:List (Str × Value)}:(A.under (.builtin "type.__call__" ⟨.ref C::us,kw⟩)).depth=A.depth+1:=by
  first | rfl | simp[Around.under,Code.weight,Code.isCreation,Code.isGuard,Code.isCaller,Code.frames,Code.isFrame,guardIds]
theorem make_units {A:Around} {C:Addr} {us:List Value} {kw:List (Str × Value)}:(A.under (.builtin "type.__call__" ⟨.ref C::us,kw⟩)).units=A.units+1:=by
  first | rfl | simp[Around.under,Code.cUnits,Code.frames,Code.isFrame]
theorem Room.make {k:Nat} {A:Around} (r:Room (k+1) A) (C:Addr) (us:List Value) (kw:List (Str × Value)):Room k (A.under (.builtin "type.__call__" ⟨.ref C::us,kw⟩)) :=
  ⟨r.hd,by have:=r.dp;rw[make_depth];omega,by have:=r.un;rw[make_units];omega⟩
theorem Room.depth {k:Nat} {A:Around} (r:Room k A):A.depth<recursionLimit:=by have:=r.dp;omega
theorem Room.units {k:Nat} {A:Around} (r:Room k A):A.units+64<cLine:=by have:=r.un;omega
theorem Room.units0 {k:Nat} {A:Around} (r:Room k A):A.units<cLine:=by have:=r.un;omega
noncomputable def tNil:TA:=fun _ H Q=>Q [] H
noncomputable def tCons (ta:TE) (tr:TA):TA:=fun σ H Q=>ta σ H fun x H1=>tr σ H1 fun xs H2=>Q (x::xs) H2
section
variable {X:Cx} {e:Expr} {es:List Expr} {te:TE} {t:TA} {pos:Pos}
theorem pa_nil:PA X [] tNil:=fun _ _ _ _ H Q I h=>Calls.spliced_nil ⟨[],H,I,.nil,h⟩
theorem pa_cons (ha:PE X e te) (hr:PA X es t) (hs:starEach (e::es) X.env=(false,eval e X.env)::starEach es X.env:=by exact starEach_cons rfl):PA X (e::es) (tCons te t):=by
  intro pos pins s σ H Q I h
  rw[hs]
  show wpAny _ _ (spliced ((false,eval e X.env)::backTo pos (starEach es X.env))) _ _ s
  refine Calls.spliced_cons (thn (ha pins s σ H _ I h) fun u s1 ⟨x,H1,I1,r1,q1⟩=>?_)
  exact thn (hr pos pins s1 σ H1 _ I1 q1) fun us s2 ⟨xs,H2,I2,r2,q2⟩=>⟨x::xs,H2,I2,.cons r1 r2,q2⟩
noncomputable def tTup (t:TA):TE:=fun σ H Q=>t σ H fun xs H1=>xs.length≤sizeLine∧∀ p,H1 p=none→Q (.ref p) (upd H1 p (.tup xs))
noncomputable def tLst (t:TA):TE:=fun σ H Q=>t σ H fun xs H1=>xs.length≤sizeLine∧∀ p,H1 p=none→Q (.ref p) (upd H1 p (.lst xs))
end
noncomputable abbrev Sp:=List V→Hp→VK→XK→Prop
noncomputable abbrev CXT:=List Env→Hp→Shared→XK→Value→Shared→Prop
structure Env0 (P:Program) (w:World) (K:PySem.W.Frag) (mg:Str→Option Value) (base:Heap) (A:Around) (outer:List Env) (s:Shared) (H:Hp):Prop where
  frames:A.frames=some outer
  mod:Mod K mg base
  bs:∀ b o,base.get? b=some o→s.heap.get? b=some o∧H b=none
  bsz:base.objs.size≤s.heap.objs.size
  funs:s.heap.FunFrames base outer
  frf:∀ b∈frs outer,H b=none
  hok:HOk P w H s.heap
  bare:AllBare s.gens
noncomputable def CE (outer:List Env) (P:Program) (w:World) (H:Hp) (s:Shared) (Q:VK) (u:Value) (s':Shared):Prop :=
  ∃ v H',s'.os=s.os∧AllBare s'.gens∧Un (frs outer) [] H H' s.heap s'.heap∧HOk P w H' s'.heap∧RelV v u∧Q v H'
noncomputable def CR (CX:CXT) (outer:List Env) (P:Program) (w:World) (H:Hp) (s:Shared) (Q:VK) (E:XK) (r:Result) (s':Shared):Prop :=
  match r with
  | .ok (.ret u)=>CE outer P w H s Q u s'
  | .ok _=>False
  | .error e=>CX outer H s E e s'
structure FnOk (P:Program) (w:World) (K:PySem.W.Frag) (mg:Str→Option Value) (base:Heap) (CX:CXT) (k:Nat) (f:Addr) (fd:FuncData) (ps:List Str) (sp:Sp):Prop where
  len:∀ vs H Q E,sp vs H Q E→vs.length=ps.length
  run:∀ (A:Around) (outer:List Env) (s:Shared) (H:Hp) (args:Args) (us:List Value) (vs:List V) (Q:VK) (E:XK),Room k A→Env0 P w K mg base A outer s H→BindsTo s fd args (ps.zip us)→Vals vs us→sp vs H Q E →
    codeAny (model P w) A (.call (.ref f) args) (CR CX outer P w H s Q E) s
theorem FnOk.mono {P:Program} {w:World} {K:PySem.W.Frag} {mg:Str→Option Value} {base:Heap} {CX:CXT} {j k:Nat} {f:Addr} {fd:FuncData} {ps:List Str} {sp:Sp} (F:FnOk P w K mg base CX j f fd ps sp) (h:j≤k) :
    FnOk P w K mg base CX k f fd ps sp:=⟨F.len,fun A outer s H args us vs Q E hr=>F.run A outer s H args us vs Q E (hr.mono h)⟩
theorem FnOk.imp {P:Program} {w:World} {K:PySem.W.Frag} {mg:Str→Option Value} {base:Heap} {CX:CXT} {k:Nat} {f:Addr} {fd:FuncData} {ps:List Str} {sp sp':Sp} (F:FnOk P w K mg base CX k f fd ps sp)
    (h:∀ vs H Q E,sp' vs H Q E→sp vs H Q E):FnOk P w K mg base CX k f fd ps sp' :=
  ⟨fun vs H Q E q=>F.len vs H Q E (h _ _ _ _ q),fun A outer s H args us vs Q E hr he hb hv hs=>F.run A outer s H args us vs Q E hr he hb hv (h _ _ _ _ hs)⟩
theorem Env0.make {P:Program} {w:World} {K:PySem.W.Frag} {mg:Str→Option Value} {base:Heap} {A:Around} {outer:List Env} {s:Shared} {H:Hp} (e:Env0 P w K mg base A outer s H) (C:Addr) (us:List Value) (kw:List (Str × Value)) :
    Env0 P w K mg base (A.under (.builtin "type.__call__" ⟨.ref C::us,kw⟩)) outer s H:=⟨by first | exact e.frames | (simpa [Around.under,Code.envs,Code.isFrame,pushEnvs] using e.frames),e.mod,e.bs,e.bsz,e.funs,e.frf,e.hok,e.bare⟩
section
variable {X:Cx} {pins:List (Addr × Obj)} {σ:St} {H:Hp} {s s':Shared}
theorem Inv.env0 (I:Inv X pins σ H s):Env0 X.prog X.w X.K X.mg X.base X.A X.stack s H :=
  ⟨I.ok.frames,I.ok.mod,I.bs,Nat.le_trans I.ok.bsz I.sz,I.stack,I.stkFree,I.hok,I.bare⟩
theorem Inv.after {Q:VK} {u:Value} (I:Inv X pins σ H s) (h:CE X.stack X.prog X.w H s Q u s'):EP X pins σ Q u s':=by
  obtain⟨v,H',os,bare,un,hok,r,q⟩:=h
  obtain⟨hh,g,d,t,os'⟩:=s'
  obtain rfl:os'=s.os:=os
  exact⟨v,H',I.call (h':=hh) (g':=g) (d':=d) (t':=t) (ch:=[]) un hok bare (fun b z=>absurd z (by simp)),r,q⟩
end
noncomputable def tCall (sp:Sp) (dvs:List V) (E:XK) (t:TA):TE:=fun σ H Q=>t σ H fun vs H1=>sp (vs++dvs) H1 Q E
noncomputable def tMeth (C:Addr) (m:Str) (sp:Sp) (dvs:List V) (E:XK) (ta:TE) (t:TA):TE:=fun σ H Q=>ta σ H fun x H1=>∃ a dx fs,x = .ref a∧H1 a=some (.ins C dx fs)∧fs.lookup m=none ∧
  t σ H1 fun vs H2=>sp (x::(vs++dvs)) H2 Q E
noncomputable def tMake (C:Addr) (sp:Sp) (dvs:List V) (E:XK) (t:TA):TE:=fun σ H Q=>t σ H fun vs H1=>∀ x dx,H1 x=none→H1 dx=none→dx≠x →
  sp (.ref x::(vs++dvs)) (upd (upd H1 dx (.own x)) x (.ins C dx [])) (fun v H2=>v = .non∧Q (.ref x) H2) E
noncomputable def Binds (K:PySem.W.Frag) (fd:FuncData) (ps:List Str) (ds:List Value):Prop :=
  ∀ (s:Shared) (us:List Value),K.In s.heap→(us++ds).length=ps.length→BindsTo s fd ⟨us,[]⟩ (ps.zip (us++ds))
theorem Binds.all {K:PySem.W.Frag} {fd:FuncData} {ps:List Str} (h:∀ us:List Value,us.length=ps.length→bindArgs fd ⟨us,[]⟩=pure (ps.zip us)):Binds K fd ps []:=fun s us _ hl=>by
  rw[List.append_nil] at hl ⊢
  exact .of_eq (h us hl)
noncomputable def Passes (CX:CXT) (X:Cx) (E:XK):Prop:=∀ (pins:List (Addr × Obj)) (σ:St) (H:Hp) (s:Shared) (e:Value) (s':Shared),Inv X pins σ H s→CX X.stack H s E e s'→X.xe e s'
section
variable {X:Cx} {CX:CXT} {k:Nat} {f C:Addr} {fd:FuncData} {ps:List Str} {sp:Sp} {dvs:List V} {ds:List Value} {E:XK} {x m:Str} {p pos apos:Pos} {e o:Expr} {es:List Expr} {ta:TE} {t:TA}
theorem run_fn {pins:List (Addr × Obj)} {σ:St} {H:Hp} {s:Shared} {Q:VK} {us:List Value} {vs:List V} (F:FnOk X.prog X.w X.K X.mg X.base CX k f fd ps sp) (hr:Room k X.A) (hb:Binds X.K fd ps ds) (hd:Vals dvs ds) (hx:Passes CX X E)
    (I:Inv X pins σ H s) (r:Vals vs us) (h:sp (vs++dvs) H Q E):wpAny (model X.prog X.w) X.A (call (.ref f) us) (EP X pins σ Q) X.xe s:=by
  have r2:Vals (vs++dvs) (us++ds):=r.append hd
  have hl:(us++ds).length=ps.length:=by rw[← r2.length];exact F.len _ _ _ _ h
  refine wpAny_call (codeAny_mono (F.run X.A X.stack s H ⟨us,[]⟩ (us++ds) (vs++dvs) Q E hr I.env0 (hb s us I.kIn hl) r2 h) fun r s' hq=>?_)
  cases r with
  | error e=>exact hx pins σ H s e s' I hq
  | ok fl =>
    cases fl with
    | ret u=>exact I.after hq
    | next=>exact False.elim hq
    | brk=>exact False.elim hq
    | cont=>exact False.elim hq
theorem pe_call (F:FnOk X.prog X.w X.K X.mg X.base CX k f fd ps sp) (hr:Room k X.A) (hg:Gl X x) (hm:X.mg x=some (.ref f)) (hk:PySem.W.keepIn X.K (.ref f)=true) (hb:Binds X.K fd ps ds) (hd:Vals dvs ds) (hx:Passes CX X E)
    (ha:PA X (e::es) t) (hdb:(x==("__debug__":Str))=false:=by decide) (he:starEach (e::es) X.env=(false,eval e X.env)::starEach es X.env:=by exact starEach_cons rfl) (hpl:(backTo pos (starEach es X.env)).any (·.1)=false:=by exact noStars rfl) :
    PE X (.Call (.Name x p) (e::es) [] pos) (tCall sp dvs E t):=by
  intro pins s σ H Q I h
  refine wpAny_Call_Name_kw (ld_glob I hg hm ?_ hdb)
  refine PySem.W.callWith_K (h₀:=X.base) I.ok.mod.kin hk (thn (ha pos pins s σ H _ I h) fun us s1 ⟨vs,H1,I1,r,q⟩=>⟨I1.kIn,?_⟩) he hpl
  exact run_fn F hr hb hd hx I1 r q
theorem pe_meth {pl:Sem Bool} (he:PE X o ta) (c:Cls X.K C) (hm:Meth X.K C m f) (F:FnOk X.prog X.w X.K X.mg X.base CX k f fd ps sp) (hr:Room k X.A) (hb:Binds X.K fd ps ds) (hd:Vals dvs ds) (hx:Passes CX X E) (ha:PA X (e::es) t)
    (hst:starEach (e::es) X.env=(false,eval e X.env)::starEach es X.env:=by exact starEach_cons rfl) (hpl:(backTo pos (starEach es X.env)).any (·.1)=false:=by exact noStars rfl)
    (ht:eval (.Call (.Attribute o m apos) (e::es) [] pos) X.env=(do
      let ov ← eval o X.env
      standAt apos.atName
      let (f,first) ← holding [ov] (getMethod ov m pl)
      callWith pos f first (backTo pos (starEach (e::es) X.env)) (backToKw pos (keywordEach [] X.env))):=by rfl) :
    PE X (.Call (.Attribute o m apos) (e::es) [] pos) (tMeth C m sp dvs E ta t):=by
  intro pins s σ H Q I h
  refine PySem.W.methodCall_KW (pl:=pl) (thn (he pins s σ H _ I h) fun u s1 ⟨x,H1,I1,rx,a,dx,fs,ex,ea,l,q⟩=>?_) ht
  subst ex
  obtain rfl:u=Value.ref a:=rx
  refine getmeth_ok I1 ea c hm l ?_
  refine PySem.W.callWith_K (first:=[.ref a]) (h₀:=X.base) I.ok.mod.kin hm.kp (thn (ha pos pins s1 σ H1 _ I1 q) fun us s2 ⟨vs,H2,I2,r,q2⟩=>⟨I2.kIn,?_⟩) hst hpl
  exact run_fn (us:=.ref a::us) (vs:=.ref a::vs) F hr hb hd hx I2 (.cons rfl r) q2
theorem pe_meth0 {pl:Sem Bool} (he:PE X o ta) (c:Cls X.K C) (hm:Meth X.K C m f) (F:FnOk X.prog X.w X.K X.mg X.base CX k f fd ps sp) (hr:Room k X.A) (hb:Binds X.K fd ps ds) (hd:Vals dvs ds) (hx:Passes CX X E)
    (ht:eval (.Call (.Attribute o m apos) [] [] pos) X.env=(do
      let ov ← eval o X.env
      standAt apos.atName
      let (f,first) ← holding [ov] (getMethod ov m pl)
      callWith pos f first (backTo pos (starEach [] X.env)) (backToKw pos (keywordEach [] X.env))):=by rfl) :
    PE X (.Call (.Attribute o m apos) [] [] pos) (tMeth C m sp dvs E ta tNil):=by
  intro pins s σ H Q I h
  refine PySem.W.methodCall_KW (pl:=pl) (thn (he pins s σ H _ I h) fun u s1 ⟨x,H1,I1,rx,a,dx,fs,ex,ea,l,q⟩=>?_) ht
  subst ex
  obtain rfl:u=Value.ref a:=rx
  refine getmeth_ok I1 ea c hm l ?_
  exact PySem.W.callWith_K0 (first:=[.ref a]) I1.kIn hm.kp (run_fn (us:=[.ref a]) (vs:=[.ref a]) F hr hb hd hx I1 (.cons rfl .nil) q)
structure Mk (K:PySem.W.Frag) (C f:Addr):Prop where
  makes:PySem.W.makesIn K C=true
  init:PySem.W.findIn K (.ref C) "__init__" = some (some (.ref f))
  fn:PySem.W.isFn K (.ref f)=true
  kp:PySem.W.keepIn K (.ref C)=true
theorem run_make {pins:List (Addr × Obj)} {σ:St} {H:Hp} {s:Shared} {Q:VK} {us:List Value} {vs:List V} (M:Mk X.K C f) (F:FnOk X.prog X.w X.K X.mg X.base CX k f fd ps sp) (hr:Room (k+1) X.A) (hb:Binds X.K fd ps ds) (hd:Vals dvs ds)
    (hx:Passes CX X E) (I:Inv X pins σ H s) (r:Vals vs us)
    (h:∀ x dx,H x=none→H dx=none→dx≠x→sp (.ref x::(vs++dvs)) (upd (upd H dx (.own x)) x (.ins C dx [])) (fun v H2=>v = .non∧Q (.ref x) H2) E) :
    wpAny (model X.prog X.w) X.A (call (.ref C) us) (EP X pins σ Q) X.xe s:=by
  have hq:=h (s.heap.objs.size+1) s.heap.objs.size (I.hok.fresh (Nat.le_succ _)) (I.hok.fresh (Nat.le_refl _)) (Nat.ne_of_lt (Nat.lt_succ_self _))
  have I2:=Inv.made (C:=C) I
  have r2:Vals (V.ref (s.heap.objs.size+1)::(vs++dvs)) (Value.ref (s.heap.objs.size+1)::(us++ds)):=.cons rfl (r.append hd)
  have hl:(Value.ref (s.heap.objs.size+1)::us++ds).length=ps.length:=by
    have e:=r2.length
    rw[F.len _ _ _ _ hq] at e
    exact e.symm
  refine wpAny_call (make_map (f:=f) I.kIn M.makes M.init (beq_iff_eq.mp M.fn) (codeAny_mono (F.run _ X.stack _ _ ⟨Value.ref (s.heap.objs.size+1)::us,[]⟩ (Value.ref (s.heap.objs.size+1)::(us++ds)) _ _ E (hr.make C us [])
    (I2.env0.make C us []) (hb _ (Value.ref (s.heap.objs.size+1)::us) I2.kIn hl) r2 hq) fun r s' hq'=>?_))
  cases r with
  | error e=>exact hx pins σ _ _ e s' I2 hq'
  | ok fl =>
    cases fl with
    | ret u =>
      obtain⟨v,H',I3,rv,ev,q3⟩:=I2.after hq'
      subst ev
      exact⟨rv,⟨V.ref (s.heap.objs.size+1),H',I3,rfl,q3⟩⟩
    | next=>exact False.elim hq'
    | brk=>exact False.elim hq'
    | cont=>exact False.elim hq'
theorem pe_make (M:Mk X.K C f) (F:FnOk X.prog X.w X.K X.mg X.base CX k f fd ps sp) (hr:Room (k+1) X.A) (hg:Gl X x) (hm:X.mg x=some (.ref C)) (hb:Binds X.K fd ps ds) (hd:Vals dvs ds) (hx:Passes CX X E)
    (ha:PA X (e::es) t) (hdb:(x==("__debug__":Str))=false:=by decide) (he:starEach (e::es) X.env=(false,eval e X.env)::starEach es X.env:=by exact starEach_cons rfl) (hpl:(backTo pos (starEach es X.env)).any (·.1)=false:=by exact noStars rfl) :
    PE X (.Call (.Name x p) (e::es) [] pos) (tMake C sp dvs E t):=by
  intro pins s σ H Q I h
  refine wpAny_Call_Name_kw (ld_glob I hg hm ?_ hdb)
  refine PySem.W.callWith_K (h₀:=X.base) I.ok.mod.kin M.kp (thn (ha pos pins s σ H _ I h) fun us s1 ⟨vs,H1,I1,r,q⟩=>⟨I1.kIn,?_⟩) he hpl
  exact run_make M F hr hb hd hx I1 r q
end
noncomputable def PK (X:Cx) (kws:List Keyword) (t:TA):Prop :=
  ∀ (pos:Pos) (pins:List (Addr × Obj)) (s:Shared) (σ:St) (H:Hp) (Q:List V→Hp→Prop),Inv X pins σ H s→t σ H Q→wpAny (model X.prog X.w) X.A (evalAll ((backToKw pos (keywordEach kws X.env)).map (·.2))) (AP X pins σ Q) X.xe s
section
variable {X:Cx} {CX:CXT} {k:Nat} {f C:Addr} {fd:FuncData} {ps ks:List Str} {sp:Sp} {E:XK} {x m:Str} {p pos apos kpos:Pos} {e o:Expr} {es:List Expr} {kws:List Keyword} {te ta:TE} {t tk:TA} {nm:Option Str}
structure KBinds (K:PySem.W.Frag) (fd:FuncData) (ps ks:List Str) (g:List Value→List Value→List Value) (gV:List V→List V→List V):Prop where
  to:∀ (s:Shared) (us ws:List Value),K.In s.heap→(g us ws).length=ps.length→BindsTo s fd ⟨us,ks.zip ws⟩ (ps.zip (g us ws))
  rel:∀ {vs:List V} {us:List Value} {zs:List V} {ws:List Value},Vals vs us→Vals zs ws→Vals (gV vs zs) (g us ws)
noncomputable def tCallK (sp:Sp) (gV:List V→List V→List V) (E:XK) (t tk:TA):TE:=fun σ H Q=>t σ H fun vs H1=>tk σ H1 fun zs H2=>sp (gV vs zs) H2 Q E
variable {g:List Value→List Value→List Value} {gV:List V→List V→List V}
end
structure FnScope (N P:List Str) (sc:Scope):Prop where
  kind:sc.kind = .function
  co:sc.isCoroutine=false
  gen:sc.isGenerator=false
  nd:N.Nodup
  pre:N.take P.length=P
  par:∀ x∈P,sc.names.lookup x=some .local∨sc.names.lookup x=some .cell
  nofree:∀ y∈sc.names,y.2≠.free
theorem bindL_out {kindOf:Str→Option NameKind} {x:Str}:∀ {binds:List (Str × Value)} {m:Str→Option Value},(∀ v,(x,v)∉binds)→bindL kindOf binds m x=m x
  | [],_,_=>rfl
  | (n,v)::r,m,h=>by
    unfold bindL
    rw[bindL_out fun w hw=>h w (List.mem_cons_of_mem _ hw)]
    split
    · have:x≠n:=by rintro rfl;exact h v List.mem_cons_self
      simp[this]
    · rfl
theorem bindC_out {kindOf:Str→Option NameKind} {x:Str}:∀ {binds:List (Str × Value)} {m:Str→Option Value},(∀ v,(x,v)∉binds)→bindC kindOf binds m x=m x
  | [],_,_=>rfl
  | (n,v)::r,m,h=>by
    unfold bindC
    rw[bindC_out fun w hw=>h w (List.mem_cons_of_mem _ hw)]
    split
    · rfl
    · have:x≠n:=by rintro rfl;exact h v List.mem_cons_self
      simp[this]
theorem bindL_get {kindOf:Str→Option NameKind} {x:Str} {v:Value}:∀ {P:List Str} {vs:List Value} {i:Nat} {m:Str→Option Value},P.Nodup→P[i]? = some x→vs[i]? = some v→kindOf x=some .local →
    bindL kindOf (P.zip vs) m x=some v
  | [],_,_,_,_,h,_,_=>by simp at h
  | _::_,[],_,_,_,_,h,_=>by simp at h
  | p::P,w::vs,0,m,nd,h1,h2,hk=>by
    simp at h1 h2;subst h1;subst h2
    show bindL kindOf ((p,w)::P.zip vs) m p=_
    unfold bindL
    rw[bindL_out fun v hv=>(List.nodup_cons.mp nd).1 (List.of_mem_zip hv).1,if_pos hk]
    simp
  | p::P,w::vs,i+1,m,nd,h1,h2,hk=>by
    show bindL kindOf ((p,w)::P.zip vs) m x=_
    unfold bindL
    exact bindL_get (i:=i) (List.nodup_cons.mp nd).2 (by simpa using h1) (by simpa using h2) hk
theorem bindC_get {kindOf:Str→Option NameKind} {x:Str} {v:Value}:∀ {P:List Str} {vs:List Value} {i:Nat} {m:Str→Option Value},P.Nodup→P[i]? = some x→vs[i]? = some v→kindOf x≠some .local →
    bindC kindOf (P.zip vs) m x=some v
  | [],_,_,_,_,h,_,_=>by simp at h
  | _::_,[],_,_,_,_,h,_=>by simp at h
  | p::P,w::vs,0,m,nd,h1,h2,hk=>by
    simp at h1 h2;subst h1;subst h2
    show bindC kindOf ((p,w)::P.zip vs) m p=_
    unfold bindC
    rw[bindC_out fun v hv=>(List.nodup_cons.mp nd).1 (List.of_mem_zip hv).1,if_neg hk]
    simp
  | p::P,w::vs,i+1,m,nd,h1,h2,hk=>by
    show bindC kindOf ((p,w)::P.zip vs) m x=_
    unfold bindC
    exact bindC_get (i:=i) (List.nodup_cons.mp nd).2 (by simpa using h1) (by simpa using h2) hk
noncomputable def start (N:List Str) (vs:List V):St:=vs.map some++List.replicate (N.length - vs.length) none
noncomputable def cxOf (CX:CXT) (P:Program) (w:World) (K:PySem.W.Frag) (mg:Str→Option Value) (base:Heap) (N:List Str) (qual:Str) (scope:Scope) (f:Addr) (cd:Value) (A:Around) (outer:List Env) (s:Shared) (H:Hp) (E:XK):Cx where
  prog:=P
  w:=w
  K:=K
  mg:=mg
  base:=base
  A:=A.deeper (envOfC qual scope s.heap.objs.size f cd)
  N:=N
  s₀:=s
  H₀:=H
  env:=envOfC qual scope s.heap.objs.size f cd
  outer:=outer
  stack:=envOfC qual scope s.heap.objs.size f cd::outer
  ex:=[]
  calm:=true
  fn:=fun _=>true
  pn:=[]
  xe:=fun e s'=>wpAny (model P w) (A.deeper (envOfC qual scope s.heap.objs.size f cd)) (leaving (envOfC qual scope s.heap.objs.size f cd) e) (fun _ s''=>CX outer H s E e s'') (fun e' s''=>CX outer H s E e' s'') s'
theorem cell_has {sc:Scope} {n:Nat} {x:Str} (h:sc.names.lookup x=some .cell):∃ c,(cellsFrom n sc.names []).lookup x=some c:=by
  have q:=PySem.W.cellsFrom_some sc.names n [] (.inl h)
  exact Option.isSome_iff_exists.mp q
theorem inv_start {CX:CXT} {P:Program} {w:World} {K:PySem.W.Frag} {mg:Str→Option Value} {base:Heap} {N ps:List Str} {qual:Str} {scope:Scope} {f:Addr} {cd:Value} {A:Around} {outer:List Env} {s s1:Shared} {H:Hp} {E:XK} {us:List Value} {vs:List V}
    (S:FnScope N ps scope) (hd:A.handled=none) (e0:Env0 P w K mg base A outer s H) (hl:vs.length=ps.length) (r:Vals vs us)
    (x:InCallC s s.heap.objs.size (bindL (envOfC qual scope s.heap.objs.size f cd).kindOf (ps.zip us) fun _=>none) (cellsFrom (s.heap.objs.size+1) scope.names []) (bindC (envOfC qual scope s.heap.objs.size f cd).kindOf (ps.zip us) fun _=>none) s1) :
    Inv (cxOf CX P w K mg base N qual scope f cd A outer s H E) [] (start N vs) H s1:=by
  have hpl:ps.length≤N.length:=by have:=congrArg List.length S.pre;rw[List.length_take] at this;omega
  obtain⟨h1,tk,rfl,hk⟩:=x.done
  have noA:∀ b:Addr,b∉(cxOf CX P w K mg base N qual scope f cd A outer s H E).ex:=fun b z=>absurd (show b∈([]:List Addr) from z) (by simp)
  refine⟨⟨e0.mod,S.kind,rfl,rfl,Nat.le_refl _,fun y z c h1 h2=>?_,fun y hy=>?_,fun y c _ h=>?_,fun _=>hd,Around.frames_deeper e0.frames,.inr ⟨rfl,rfl⟩,fun b z=>absurd z (noA b),e0.bs,e0.bsz,fun b _ _=>noA b,fun b z=>absurd z (noA b),e0.funs,e0.frf⟩,
    rfl,e0.bare,Un.kept hk,⟨_,x.toInCall.ns,fun i y v h1 h2 h3=>?_⟩,fun y c h=>⟨_,x.cell y c h⟩,e0.hok.fresh (Nat.le_refl _),fun y c h=>?_,fun p hp=>absurd (show p∈([]:List (Addr × Obj)) from hp) (by simp),e0.hok.kept hk,?_⟩
  · exact name_of_addr x.apart (PySem.mem_of_lookup h1) (PySem.mem_of_lookup h2)
  · have hy:scope.names.lookup y=some .cell∨scope.names.lookup y=some .free:=hy
    rcases hy with hy | hy
    · exact cell_has hy
    · exact absurd rfl (S.nofree _ (PySem.mem_of_lookup hy))
  · exact Nat.le_of_lt (x.above y c (PySem.mem_of_lookup h))
  · have hi:i<vs.length:=by
      unfold start at h2
      by_cases hi:i<vs.length
      · exact hi
      · rw[List.getElem?_append_right (by simpa using hi)] at h2
        rw[List.getElem?_replicate] at h2
        split at h2 <;> cases h2
    have ha:vs[i]? = some v:=by
      unfold start at h2
      rw[List.getElem?_append_left (by simpa using hi),List.getElem?_map] at h2
      cases e:vs[i]? with
      | none=>rw[e] at h2;cases h2
      | some a=>rw[e] at h2;cases h2;rfl
    obtain⟨u,hu,rv⟩:=r.get ha
    have hp:ps[i]? = some y:=by
      rw[← S.pre,List.getElem?_take_of_lt (by omega)];exact h1
    have ndP:ps.Nodup:=by rw[← S.pre];exact S.nd.sublist (List.take_sublist _ _)
    refine⟨u,rv,?_⟩
    rcases S.par y (List.mem_of_getElem? hp) with k | k
    · exact .inl ⟨k,bindL_get ndP hp hu k⟩
    · obtain⟨c,e⟩:=cell_has (n:=s.heap.objs.size+1) k
      refine .inr ⟨.inl k,c,e,?_⟩
      have q:=x.cell y c e
      rw[bindC_get ndP hp hu (by show scope.names.lookup y≠_;rw[k];decide)] at q
      exact q
  · exact e0.hok.fresh (Nat.le_of_lt (x.above y c (PySem.mem_of_lookup h)))
  · unfold start
    show _=N.length
    rw[List.length_append,List.length_map,List.length_replicate]
    omega
theorem fn_of {CX:CXT} {P:Program} {w:World} {K:PySem.W.Frag} {mg:Str→Option Value} {base:Heap} {k:Nat} {f:Addr} {name qual:Str} {params:Arguments} {body:List Stmt} {scope:Scope} {dV kV doc pm cdv ct oc:Value} {an od:Option Addr}
    {osl:Array (Option Value)} {N ps:List Str} {sp:Sp} (lk:K.lookup f=some ⟨oc,od,.func (PySem.W.fnOf name qual params body scope dV kV doc pm an cdv ct),osl⟩) (hcd:PySem.W.codeIn K cdv qual=true) (S:FnScope N ps scope)
    (len:∀ vs H Q E,sp vs H Q E→vs.length=ps.length)
    (hbody:∀ (A:Around) (outer:List Env) (s:Shared) (H:Hp) (vs:List V) (Q:VK) (E:XK),Room k (A.deeper (envOfC qual scope s.heap.objs.size f cdv))→sp vs H Q E →
      ∃ t,PSs (cxOf CX P w K mg base N qual scope f cdv A outer s H E) body t∧t { nx:=fun _ H'=>Q .non H',rt:=Q } (start N vs) H) :
    FnOk P w K mg base CX (k+1) f (PySem.W.fnOf name qual params body scope dV kV doc pm an cdv ct) ps sp:=by
  refine⟨len,fun A outer s H args us vs Q E hr e0 hb r hsp=>?_⟩
  have hl:=len _ _ _ _ hsp
  have KX:K.In s.heap:=e0.mod.kin.keeps fun b o e=>(e0.bs b o e).1
  have lim:s.heap.NoLimit:=e0.mod.nolimit.keeps fun b o e=>(e0.bs b o e).1
  have hkind:∀ y∈ps.zip us,scope.names.lookup y.1=some .local∨(scope.names.lookup y.1=some .cell∧((cellsFrom (s.heap.objs.size+1) scope.names []).lookup y.1).isSome=true):=fun⟨n,v⟩ hy=>by
    rcases S.par n (List.of_mem_zip hy).1 with q | q
    · exact .inl q
    · exact .inr ⟨q,PySem.W.cellsFrom_some _ _ _ (.inl q)⟩
  refine codeAny_call_function hr.depth (KX _ _ lk) rfl S.co S.gen rfl (PySem.W.codeRec_of KX hcd) (hb _ _ _ _ ?_)
  refine wpAny_newFunctionEnv_cells S.kind hkind fun env he s1 x=>?_
  subst he
  refine⟨lim.keeps x.toInCall.keep,codeAny_func ?_⟩
  obtain⟨t,ht,hq⟩:=hbody A outer s H vs Q E (hr.deeper _) hsp
  have I:Inv (cxOf CX P w K mg base N qual scope f cdv A outer s H E) [] (start N vs) H s1:=inv_start S hr.hd e0 hl r x
  refine wpAny_mono (ht [] s1 (start N vs) H _ I hq) (fun fl s' hs=>?_) fun e s' hs=>hs
  have fin:∀ {σ':St} {H':Hp} {v:V} {u:Value},Inv (cxOf CX P w K mg base N qual scope f cdv A outer s H E) [] σ' H' s'→RelV v u→Q v H'→CE outer P w H s Q u s' :=
    fun {σ' H' v u} J rv q=>⟨v,H',J.os,J.bare,J.base,J.hok,rv,q⟩
  cases fl with
  | ret u =>
    obtain⟨v,σ',H',J,rv,q⟩:=hs
    exact fin J rv q
  | next =>
    obtain⟨σ',H',J,q⟩:=hs
    exact fin (v:=V.non) (u:=Value.none) J rfl q
  | brk =>
    obtain⟨_,_,_,q⟩:=hs
    exact False.elim q
  | cont =>
    obtain⟨_,_,_,q⟩:=hs
    exact False.elim q
section
variable {X:Cx} {x:Str} {p pos:Pos} {e:Expr} {es:List Expr} {t:TA} {id T:String} {r:List V→Hp→VK→Prop}
noncomputable def tCB (r:List V→Hp→VK→Prop) (t:TA):TE:=fun σ H Q=>t σ H fun vs H1=>r vs H1 Q
theorem pe_callB (hc:CallR X (.builtin id) r) (hg:Gl X x) (hm:X.mg x=none) (hv:bootBuiltins x=some (.builtin id)) (ha:PA X (e::es) t) (hn:x≠"__name__":=by decide) (hdb:(x==("__debug__":Str))=false:=by decide)
    (he:starEach (e::es) X.env=(false,eval e X.env)::starEach es X.env:=by exact starEach_cons rfl) (hpl:(backTo pos (starEach es X.env)).any (·.1)=false:=by exact noStars rfl):PE X (.Call (.Name x p) (e::es) [] pos) (tCB r t):=by
  intro pins s σ H Q I h
  refine wpAny_Call_Name_kw (ld_blt I hg hm hv ?_ hn hdb)
  exact PyProof.Rows.callWith_builtin1 (thn (ha pos pins s σ H _ I h) fun us s1 ⟨vs,H1,I1,r1,q1⟩=>hc pins s1 σ H1 vs us Q I1 r1 q1) he hpl
theorem pe_callTy (hc:CallR X (.type T) r) (hg:Gl X x) (hm:X.mg x=none) (hv:bootBuiltins x=some (.type T)) (ha:PA X (e::es) t) (hn:x≠"__name__":=by decide) (hdb:(x==("__debug__":Str))=false:=by decide)
    (he:starEach (e::es) X.env=(false,eval e X.env)::starEach es X.env:=by exact starEach_cons rfl) (hpl:(backTo pos (starEach es X.env)).any (·.1)=false:=by exact noStars rfl):PE X (.Call (.Name x p) (e::es) [] pos) (tCB r t):=by
  intro pins s σ H Q I h
  refine wpAny_Call_Name_kw (ld_blt I hg hm hv ?_ hn hdb)
  exact PyProof.Rows.callWith_type1 (thn (ha pos pins s σ H _ I h) fun us s1 ⟨vs,H1,I1,r1,q1⟩=>hc pins s1 σ H1 vs us Q I1 r1 q1) he hpl
end
end L2
namespace HT
open PySem PyProof.Rows
noncomputable def lexLt:List Int→List Int→Bool
  | [],[]=>false
  | [],_::_=>true
  | _::_,[]=>false
  | x::xs,y::ys=>if x=y then lexLt xs ys else decide (x<y)
section
open PySem.SeqAt
open PySem.AutoSeq1 (wpAny_loadPart')
open PySem.MeetsSeq PySem.MeetsSeq2 PySem.MeetsSeq3
end
section
variable {prog:Program} {w:World} {A:Around} {E:Value→Shared→Prop} {s:Shared}
noncomputable def sIx (n d:Nat):Option Int→Nat
  | none=>d
  | some v=>if v<0 then (v+(n:Int)).toNat else min v.toNat n
theorem sIx_none (n d:Nat):sIx n d none=d:=rfl
theorem sIx_nat (n d k:Nat):sIx n d (some (k:Int))=min k n:=by
  show (if (k:Int)<0 then ((k:Int)+(n:Int)).toNat else min (k:Int).toNat n)=min k n
  rw[if_neg (by omega),Int.toNat_natCast]
theorem sIx_le (n d:Nat) (hd:d≤n) (o:Option Int):sIx n d o≤n:=by
  cases o with
  | none=>exact hd
  | some v =>
    show (if v<0 then (v+(n:Int)).toNat else min v.toNat n)≤n
    by_cases hv:v<0
    · rw[if_pos hv];omega
    · rw[if_neg hv];exact Nat.min_le_right _ _
end
end HT
namespace L2
open PySem PySem.Spec PyProof.Rows
noncomputable abbrev TO:=St→Hp→(Option Int→Hp→Prop)→Prop
noncomputable def PO (X:Cx) (e:Option Expr) (t:TO):Prop :=
  ∀ (pins:List (Addr × Obj)) (s:Shared) (σ:St) (H:Hp) (Q:Option Int→Hp→Prop),Inv X pins σ H s→t σ H Q →
    wpAny (model X.prog X.w) X.A (evalPart e X.env) (fun u s'=>∃ o H',Inv X pins σ H' s'∧IsPart u o∧Q o H') X.xe s
noncomputable def tNoPart:TO:=fun _ H Q=>Q none H
noncomputable def tPart (t:TE):TO:=fun σ H Q=>t σ H fun x H1=>∃ i,x = .int i∧Q (some i) H1
section
variable {X:Cx} {e:Expr} {te:TE} {lo hi:Option Expr} {tl th:TO} {pos p2:Pos}
theorem po_none:PO X none tNoPart:=by
  intro pins s σ H Q I h
  rw[evalPart_none]
  exact wpAny_pure ⟨none,H,I,.none,h⟩
theorem po_some (h:PE X e te):PO X (some e) (tPart te):=by
  intro pins s σ H Q I hw
  rw[evalPart_some]
  refine thn (h pins s σ H _ I hw) fun u s1 ⟨x,H1,I1,r1,q1⟩=>?_
  obtain⟨i,rfl,q⟩:=q1
  obtain⟨t,rfl⟩:=r1
  exact⟨some i,H1,I1,.int i t,q⟩
noncomputable def SlR (X:Cx) (r:V→Option Int→Option Int→Hp→VK→Prop):Prop :=
  ∀ (pins:List (Addr × Obj)) (s:Shared) (σ:St) (H:Hp) (x:V) (v vl vu:Value) (lo hi:Option Int) (sl:Addr) (Q:VK),Inv X pins σ H s→RelV x v→s.heap.IsSliceOf sl vl vu .none→IsPart vl lo→IsPart vu hi→r x lo hi H Q →
    ∃ T id,typeLookup (.type T) "__getitem__" = pure (some (.builtin id))∧s.TypeIs v T∧wpAny (model X.prog X.w) X.A (getItem v (.ref sl)) (EP X pins σ Q) X.xe s
noncomputable def tSl (r:V→Option Int→Option Int→Hp→VK→Prop) (te:TE) (tl th:TO):TE:=fun σ H Q=>te σ H fun x H1=>tl σ H1 fun l H2=>th σ H2 fun u H3=>r x l u H3 Q
theorem pe_slice {r:V→Option Int→Option Int→Hp→VK→Prop} (hr:SlR X r) (he:PE X e te) (hl:PO X lo tl) (hu:PO X hi th):PE X (.Subscript e (.Slice lo hi none p2) pos) (tSl r te tl th):=by
  intro pins s σ H Q I h
  refine Subscript_ (thn (he pins s σ H _ I h) fun v s1 ⟨x,H1,I1,r1,q1⟩=>?_)
  refine wpAny_Slice (thn (hl pins s1 σ H1 _ I1 q1) fun vl s2 ⟨l,H2,I2,pl,q2⟩=>thn (hu pins s2 σ H2 _ I2 q2) fun vu s3 ⟨u,H3,I3,pu,q3⟩=>?_)
  rw[evalPart_none]
  refine wpAny_pure ?_
  have I4:Inv X pins σ H3 { s3 with heap:=s3.heap.push { cls:=.type "slice",data:=.fields #[vl,vu,.none] } }:=I3.kept (t':=s3.toks) fun b ob q=>Heap.get?_push_of_some _ q
  obtain⟨T,id,hT,ht,hg⟩:=hr pins { s3 with heap:=s3.heap.push { cls:=.type "slice",data:=.fields #[vl,vu,.none] } } σ H3 x v vl vu l u s3.heap.objs.size Q I4 r1 (Heap.IsSliceOf.new ..) pl pu q3
  show wpAny (model X.prog X.w) X.A (subscriptTail e (.Slice lo hi none p2) v (.ref s3.heap.objs.size)) (EP X pins σ Q) X.xe { s3 with heap:=s3.heap.push { cls:=.type "slice",data:=.fields #[vl,vu,.none] } }
  exact tail_any (ops:=[.ref s3.heap.objs.size,v]) ht hT hg (by with_unfolding_all rfl)
noncomputable def cutV (xs:List V) (lo hi:Option Int):List V:=(xs.drop (HT.sIx xs.length 0 lo)).take (HT.sIx xs.length xs.length hi - HT.sIx xs.length 0 lo)
theorem cutV_length (xs:List V) (lo hi:Option Int):(cutV xs lo hi).length≤xs.length:=by
  unfold cutV
  rw[List.length_take,List.length_drop]
  omega
noncomputable def rSlT (K:PySem.W.Frag):V→Option Int→Option Int→Hp→VK→Prop:=fun x lo hi H Q=>∃ a xs,x = .ref a∧SqT K H a xs ∧
  ¬ (HT.sIx xs.length 0 lo=0∧HT.sIx xs.length xs.length hi=xs.length)∧∀ p,H p=none→Q (.ref p) (upd H p (.tup (cutV xs lo hi)))
noncomputable def rLtT (K:PySem.W.Frag):R2:=fun x y H Q=>∃ a b ns ms,x = .ref a∧y = .ref b∧SqT K H a (ns.map V.int)∧SqT K H b (ms.map V.int)∧Q (.bl (HT.lexLt ns ms)) H
noncomputable def rCatT (K:PySem.W.Frag):R2:=fun x y H Q=>∃ a b xs ys,x = .ref a∧y = .ref b∧SqT K H a xs∧SqT K H b ys∧xs≠[]∧xs.length+ys.length≤sizeLine ∧
  (ys=[]→Q (.ref a) H)∧(ys≠[]→∀ p,H p=none→Q (.ref p) (upd H p (.tup (xs++ys))))
end
noncomputable def ixN (n:Nat) (i:Int):Option Nat:=if 0≤i then (if i<n then some i.toNat else none) else if -(n:Int)≤i then some (i+n).toNat else none
noncomputable def atI {α:Type} (xs:List α) (i:Int):Option α:=(ixN xs.length i).bind fun j=>xs[j]?
theorem ixN_seq {n:Nat} {i:Int} {j:Nat} (h:ixN n i=some j):seqIndex? i n=some j∧j<n∧-(n:Int)≤i∧i<n:=by
  unfold ixN at h
  by_cases h0:0≤i
  · rw[if_pos h0] at h
    by_cases h1:i<n
    · rw[if_pos h1] at h
      have e:i.toNat=j:=Option.some.inj h
      exact⟨by rw[seqIndex_of h0 h1,e],by omega,by omega,h1⟩
    · rw[if_neg h1] at h;cases h
  · rw[if_neg h0] at h
    by_cases h1:-(n:Int)≤i
    · rw[if_pos h1] at h
      have e:(i+n).toNat=j:=Option.some.inj h
      exact⟨by rw[seqIndex_neg (by omega) h1,e],by omega,h1,by omega⟩
    · rw[if_neg h1] at h;cases h
theorem atI_get {α:Type} {xs:List α} {i:Int} {v:α} (h:atI xs i=some v):∃ j,seqIndex? i xs.length=some j∧xs[j]? = some v∧j<xs.length∧-(xs.length:Int)≤i∧i<xs.length:=by
  unfold atI at h
  cases e:ixN xs.length i with
  | none=>rw[e] at h;cases h
  | some j =>
    rw[e] at h
    obtain⟨h1,h2,h3,h4⟩:=ixN_seq e
    exact⟨j,h1,h,h2,h3,h4⟩
theorem atI_nat {α:Type} {xs:List α} {j:Nat} {v:α} (h:xs[j]? = some v):atI xs (j:Int)=some v:=by
  have hj:j<xs.length:=(List.getElem?_eq_some_iff.mp h).1
  have e:ixN xs.length (j:Int)=some j:=by
    unfold ixN
    rw[if_pos (by omega),if_pos (by omega)];simp
  unfold atI;rw[e];exact h
theorem atI_last {α:Type} (xs:List α) (v:α):atI (xs++[v]) (-1)=some v:=by
  have hl:(xs++[v]).length=xs.length+1:=by simp
  have e:ixN (xs++[v]).length (-1)=some xs.length:=by
    unfold ixN
    rw[hl,if_neg (by decide),if_pos (by omega)]
    congr 1
    omega
  unfold atI
  rw[e]
  show (xs++[v])[xs.length]? = some v
  simp
noncomputable def PlainIx (b:Expr):Prop:=∀ o i,subscripted b false o i=operate [o,i] (getItem o i)
noncomputable def IxR (X:Cx) (r:R2):Prop :=
  ∀ (value slice:Expr) (pins:List (Addr × Obj)) (s:Shared) (σ:St) (H:Hp) (x y:V) (v u:Value) (Q:VK),Inv X pins σ H s→RelV x v→RelV y u→r x y H Q →
    subscripted slice false v u=operate [v,u] (getItem v u)→wpAny (model X.prog X.w) X.A (subscriptTail value slice v u) (EP X pins σ Q) X.xe s
noncomputable def MtR (X:Cx) (id:String) (r:V→List V→Hp→VK→Prop):Prop :=
  ∀ (pins:List (Addr × Obj)) (s:Shared) (σ:St) (H:Hp) (x:V) (xs:List V) (v:Value) (us:List Value) (Q:VK),Inv X pins σ H s→RelV x v→Vals xs us→r x xs H Q →
    wpAny (model X.prog X.w) X.A (call (.builtin id) (v::us)) (EP X pins σ Q) X.xe s
section
variable {X:Cx} {a b:Expr} {ta tb:TE} {pos:Pos}
theorem pe_ix {r:R2} (hr:IxR X r) (ha:PE X a ta) (hb:PE X b tb) (hs:PlainIx b):PE X (.Subscript a b pos) (tOp r ta tb):=by
  intro pins s σ H Q I h
  exact Subscript_ (binT ha hb I h fun v u s2 x y H2 I2 rx ry q=>hr a b pins s2 σ H2 x y v u Q I2 rx ry q (hs _ _))
noncomputable def rIxL (K:PySem.W.Frag):R2:=fun x y H Q=>∃ p xs i v,x = .ref p∧y = .int i∧SqL K H p xs∧atI xs i=some v∧Q v H
noncomputable def rIxT (K:PySem.W.Frag):R2:=fun x y H Q=>∃ p xs i v,x = .ref p∧y = .int i∧SqT K H p xs∧atI xs i=some v∧Q v H
noncomputable def rIxS:R2:=fun x y H Q=>∃ z i c,x = .str z∧y = .int i∧z.length≤sizeLine∧atI z.cps.toList i=some c∧Q (.str ⟨#[c]⟩) H
theorem ix_list:IxR X (rIxL X.K):=by
  intro value slice pins s σ H x y v u Q I rx ry h hs
  obtain⟨p,xs,i,z,rfl,rfl,hq,he,q⟩:=h
  cases rx
  obtain⟨t,rfl⟩:=ry
  obtain⟨its,r,pl,hz⟩:=I.list hq
  obtain⟨j,h1,h2,h3,h4,h5⟩:=atI_get he
  obtain⟨w,ew,rw'⟩:=r.get h2
  have hl:=r.length
  have hn:=line63
  have fin:EP X pins σ Q w s:=⟨z,H,I,rw',q⟩
  by_cases h0:0≤i
  · have hj:i.toNat=j:=by
      rw[seqIndex_of h0 h5] at h1
      exact Option.some.inj h1
    exact item_listR pl.isList h0 (by omega) (by rw[hj];simpa using ew) fin hs
  · have hj:(i+(its.toArray.size:Int)).toNat=j:=by
      rw[seqIndex_neg (by omega) h4] at h1
      rw[List.size_toArray,← hl]
      exact Option.some.inj h1
    exact subscriptTail_builtinR (x:=w) pl.isList.typeIs slot_list_getitem.lookup
      (wpAny_getItem_list_neg (Q:=fun r s'=>r=w∧EP X pins σ Q r s') pl.isList (by omega) (by rw[List.size_toArray] <;> omega) (by omega) (by rw[hj];simpa using ew) ⟨rfl,fin⟩) hs
theorem ix_tup:IxR X (rIxT X.K):=by
  intro value slice pins s σ H x y v u Q I rx ry h hs
  obtain⟨p,xs,i,z,rfl,rfl,hq,he,q⟩:=h
  cases rx
  obtain⟨t,rfl⟩:=ry
  obtain⟨its,r,pl,hz⟩:=I.tuple hq
  obtain⟨j,h1,h2,h3,h4,h5⟩:=atI_get he
  obtain⟨w,ew,rw'⟩:=r.get h2
  have hl:=r.length
  have hn:=line63
  have fin:EP X pins σ Q w s:=⟨z,H,I,rw',q⟩
  exact subscriptTail_builtinR (x:=w) pl.typeIs slot_tuple_getitem.lookup
    (getItem_tuple (j:=j) (Q:=fun r s'=>r=w∧EP X pins σ Q r s') pl (by omega) (by omega) (by rw[List.size_toArray,← hl];exact h1) (by simpa using ew) ⟨rfl,fin⟩) hs
theorem ix_str:IxR X rIxS:=by
  intro value slice pins s σ H x y v u Q I rx ry h hs
  obtain⟨z,i,c,rfl,rfl,hz,he,q⟩:=h
  obtain⟨t,rfl⟩:=rx
  obtain⟨t',rfl⟩:=ry
  obtain⟨j,h1,h2,h3,h4,h5⟩:=atI_get he
  have hl:z.cps.toList.length=z.length:=by simp[Str.length]
  rw[hl] at h1 h4 h5
  have hn:=line63
  exact tail_any (typeIs_str s z t) slot_str_getitem.lookup (getItem_str (c:=c) (by
    have e1:decide (i < -(2 ^ 63:Int))=false:=decide_eq_false (by omega)
    have e2:decide (i ≥ 2 ^ 63)=false:=decide_eq_false (by omega)
    rw[e1,e2,Bool.or_false]) (by rw[h1];simpa using h2) ⟨.str ⟨#[c]⟩,H,I.tok _,⟨_,rfl⟩,q⟩) hs
noncomputable def rIx (K:PySem.W.Frag):R2:=fun x y H Q=>rIxL K x y H Q∨rIxT K x y H Q∨rIxS x y H Q
noncomputable def rSetL:V→V→V→Hp→(Hp→Prop)→Prop:=fun o i v H Q=>∃ p xs k j,o = .ref p∧i = .int k∧H p=some (.lst xs)∧ixN xs.length k=some j∧Q (upd H p (.lst (xs.set j v)))
theorem slice_bounds (lo hi:Option Int) (n:Nat):(sliceBounds lo hi none n).1=((HT.sIx n 0 lo:Nat):Int)∧(sliceBounds lo hi none n).2.1=((HT.sIx n n hi:Nat):Int)∧(sliceBounds lo hi none n).2.2=1:=by
  refine⟨?_,?_,rfl⟩
  · cases lo with
    | none=>simp[sliceBounds,HT.sIx]
    | some i =>
      simp only[sliceBounds,HT.sIx,Option.getD_none,show (1:Int) > 0 by decide,if_true]
      by_cases h:i<0
      · simp only[h,if_true] <;> omega
      · simp only[h,if_false] <;> omega
  · cases hi with
    | none=>simp[sliceBounds,HT.sIx]
    | some i =>
      simp only[sliceBounds,HT.sIx,Option.getD_none,show (1:Int) > 0 by decide,if_true]
      by_cases h:i<0
      · simp only[h,if_true] <;> omega
      · simp only[h,if_false] <;> omega
theorem slicePick_cut (its:List Value) (lo hi:Option Int):slicePick its.toArray lo hi none=((its.drop (HT.sIx its.length 0 lo)).take (HT.sIx its.length its.length hi - HT.sIx its.length 0 lo)).toArray:=by
  obtain⟨h1,h2,h3⟩:=slice_bounds lo hi its.toArray.size
  unfold slicePick
  rw[h1,h2,h3]
  simp only[sliceRange_one,pick_run,List.size_toArray] <;> rfl
noncomputable def rSlL (K:PySem.W.Frag):V→Option Int→Option Int→Hp→VK→Prop:=fun x lo hi H Q=>∃ a xs,x = .ref a∧SqL K H a xs∧∀ p,H p=none→Q (.ref p) (upd H p (.lst (cutV xs lo hi)))
theorem sl_list:SlR X (rSlL X.K):=by
  intro pins s σ H x v vl vu lo hi sl Q I rx hs pl pu h
  obtain⟨a,xs,rfl,hx,q⟩:=h
  cases rx
  obtain⟨its,r,ht,hz⟩:=I.list hx
  have hlen:=r.length
  refine⟨"list",_,slot_list_getitem.lookup,ht.isList.typeIs,?_⟩
  refine wpAny_getItem_list_slice ht.isList hs pl pu .none (by simp) ?_ (by rw[List.size_toArray] <;> omega)
  rw[slicePick_cut,← hlen]
  refine⟨.ref s.heap.objs.size,_,I.laid (t':=s.toks) (o:=.lst (cutV xs lo hi)) (fun b ob q=>Heap.get?_push_of_some _ q) (Nat.le_refl _) ?_,rfl,q _ (I.hok.fresh (Nat.le_refl _))⟩
  exact⟨Nat.le_trans (cutV_length xs lo hi) hz,_,0,(r.drop (HT.sIx xs.length 0 lo)).take (HT.sIx xs.length xs.length hi - HT.sIx xs.length 0 lo),Heap.get?_push_size _ rfl⟩
noncomputable def flatV:V→Bool
  | .non=>true
  | .bl _=>true
  | .int _=>true
  | .str _=>true
  | _=>false
noncomputable def eqV:V→V→Bool
  | .non,.non=>true
  | .bl a,.bl b=>a==b
  | .bl a,.int b=>(if a then 1 else 0)==b
  | .int a,.bl b=>a==(if b then 1 else 0)
  | .int a,.int b=>a==b
  | .str a,.str b=>a==b
  | _,_=>false
theorem eqAt_V {A:Around} {s:Shared} {y x:V} {u v:Value} (ry:RelV y u) (rx:RelV x v) (fy:flatV y=true) (fx:flatV x=true):SeqAt.EqAt A s u v (eqV y x):=by
  cases y with
  | non =>
    cases ry
    cases x with
    | non=>cases rx;exact SeqAt.EqAt.same _
    | bl b=>cases rx;exact SeqAt.EqAt.none_bool b
    | int b=>obtain⟨t,rfl⟩:=rx;exact SeqAt.EqAt.none_int b t
    | str b=>obtain⟨t,rfl⟩:=rx;exact SeqAt.EqAt.none_str b t
    | _=>exact absurd (show false=true from fx) Bool.false_ne_true
  | bl a =>
    cases ry
    cases x with
    | non=>cases rx;exact SeqAt.EqAt.bool_none a
    | bl b=>cases rx;exact SeqAt.EqAt.bool_bool a b
    | int b=>obtain⟨t,rfl⟩:=rx;exact SeqAt.EqAt.bool_int a b t
    | str b=>obtain⟨t,rfl⟩:=rx;exact SeqAt.EqAt.bool_str a b t
    | _=>exact absurd (show false=true from fx) Bool.false_ne_true
  | int a =>
    obtain⟨t',rfl⟩:=ry
    cases x with
    | non=>cases rx;exact SeqAt.EqAt.int_none a t'
    | bl b=>cases rx;exact SeqAt.EqAt.int_bool a t' b
    | int b=>obtain⟨t,rfl⟩:=rx;exact SeqAt.EqAt.int_int a t' b t
    | str b=>obtain⟨t,rfl⟩:=rx;exact SeqAt.EqAt.int_str a t' b t
    | _=>exact absurd (show false=true from fx) Bool.false_ne_true
  | str a =>
    obtain⟨t',rfl⟩:=ry
    cases x with
    | non=>cases rx;exact SeqAt.EqAt.str_none a t'
    | bl b=>cases rx;exact SeqAt.EqAt.str_bool a t' b
    | int b=>obtain⟨t,rfl⟩:=rx;exact SeqAt.EqAt.str_int a t' b t
    | str b=>obtain⟨t,rfl⟩:=rx;exact SeqAt.EqAt.str_str a t' b t
    | _=>exact absurd (show false=true from fx) Bool.false_ne_true
  | _=>exact absurd (show false=true from fy) Bool.false_ne_true
noncomputable def eqU (x:V) (u:Value):Bool:=match u with
  | .none=>eqV .non x
  | .bool b=>eqV (.bl b) x
  | .int i _=>eqV (.int i) x
  | .str z _=>eqV (.str z) x
  | _=>false
theorem eqU_of {x y:V} {u:Value} (r:RelV y u) (f:flatV y=true):eqU x u=eqV y x:=by
  cases y with
  | non=>cases r;rfl
  | bl b=>cases r;rfl
  | int i=>obtain⟨t,rfl⟩:=r;rfl
  | str z=>obtain⟨t,rfl⟩:=r;rfl
  | _=>exact absurd (show false=true from f) Bool.false_ne_true
theorem any_eqU {x:V}:∀ {xs:List V} {us:List Value},Vals xs us→xs.all flatV=true→us.any (eqU x)=xs.any fun y=>eqV y x
  | _,_,.nil,_=>rfl
  | y::xs,u::us,.cons r t,f=>by
    rw[List.all_cons,Bool.and_eq_true] at f
    rw[List.any_cons,List.any_cons,eqU_of r f.1,any_eqU t f.2]
theorem mem_eqAt {A:Around} {s:Shared} {x:V} {v:Value} (rx:RelV x v) (fx:flatV x=true):∀ {xs:List V} {us:List Value},Vals xs us→xs.all flatV=true→∀ u∈us,SeqAt.EqAt A s u v (eqU x u)
  | _,_,.nil,_=>fun u hu=>by cases hu
  | y::xs,u::us,.cons r t,f=>fun u' hu=>by
    rw[List.all_cons,Bool.and_eq_true] at f
    rcases List.mem_cons.mp hu with rfl | hu
    · rw[eqU_of r f.1];exact eqAt_V r rx f.1 fx
    · exact mem_eqAt rx fx t f.2 u' hu
noncomputable def inV (x:V) (xs:List V):Bool:=xs.any fun y=>eqV y x
noncomputable def rIn (K:PySem.W.Frag) (neg:Bool):R2:=fun x y H Q=>∃ p xs,y = .ref p∧(SqL K H p xs∨SqT K H p xs)∧flatV x=true∧xs.all flatV=true∧Q (.bl (if neg then !inV x xs else inV x xs)) H
theorem op_in_seq:OpR X (compareOp .In) (rIn X.K false):=by
  intro pins s σ H x y v u Q I rx ry h
  obtain⟨p,xs,rfl,hq,fx,fs,q⟩:=h
  cases ry
  rcases hq with hq | hq
  · obtain⟨its,r,pl,hz⟩:=I.list hq
    refine SeqAt.in_listAt (eqU x) pl.isList (fun w hw=>mem_eqAt rx fx r fs w (by simpa using hw)) ⟨.bl _,H,I,rfl,?_⟩
    rw[show its.toArray.any (eqU x)=its.any (eqU x) by simp,any_eqU r fs]
    exact q
  · obtain⟨its,r,pl,hz⟩:=I.tuple hq
    refine SeqAt.in_tupleAt (eqU x) pl (fun w hw=>mem_eqAt rx fx r fs w (by simpa using hw)) ⟨.bl _,H,I,rfl,?_⟩
    rw[show its.toArray.any (eqU x)=its.any (eqU x) by simp,any_eqU r fs]
    exact q
theorem op_notIn_seq:OpR X (compareOp .NotIn) (rIn X.K true):=by
  intro pins s σ H x y v u Q I rx ry h
  obtain⟨p,xs,rfl,hq,fx,fs,q⟩:=h
  cases ry
  rcases hq with hq | hq
  · obtain⟨its,r,pl,hz⟩:=I.list hq
    refine SeqAt.notIn_listAt (eqU x) pl.isList (fun w hw=>mem_eqAt rx fx r fs w (by simpa using hw)) ⟨.bl _,H,I,rfl,?_⟩
    rw[show its.toArray.any (eqU x)=its.any (eqU x) by simp,any_eqU r fs]
    exact q
  · obtain⟨its,r,pl,hz⟩:=I.tuple hq
    refine SeqAt.notIn_tupleAt (eqU x) pl (fun w hw=>mem_eqAt rx fx r fs w (by simpa using hw)) ⟨.bl _,H,I,rfl,?_⟩
    rw[show its.toArray.any (eqU x)=its.any (eqU x) by simp,any_eqU r fs]
    exact q
theorem call_len_seq:CallR X (.builtin "len") (fun xs H Q=>∃ p ys,xs=[.ref p]∧(SqL X.K H p ys∨SqT X.K H p ys)∧Q (.int ys.length) H):=by
  intro pins s σ H xs us Q I r h
  obtain⟨p,ys,rfl,hq,q⟩:=h
  obtain⟨u,rfl,rx⟩:=vals1 r
  cases rx
  have hn:=line63
  rcases hq with hq | hq
  · obtain⟨its,r',pl,hz⟩:=I.list hq
    have hlen:=r'.length
    exact Calls.call_len_list pl.isList (by simp only[List.size_toArray] <;> omega) ⟨.int ys.length,H,I.tok _,⟨s.toks+1,by rw[List.size_toArray,hlen]⟩,q⟩
  · obtain⟨its,r',pl,hz⟩:=I.tuple hq
    have hlen:=r'.length
    exact len_tuple pl (by simp only[List.size_toArray] <;> omega) ⟨.int ys.length,H,I.tok _,⟨s.toks+1,by rw[List.size_toArray,hlen]⟩,q⟩
theorem call_len_str:CallR X (.builtin "len") (fun xs H Q=>∃ z,xs=[.str z]∧z.length≤sizeLine∧Q (.int z.length) H):=by
  intro pins s σ H xs us Q I r h
  obtain⟨z,rfl,hz,q⟩:=h
  obtain⟨u,rfl,t,rfl⟩:=vals1 r
  have hn:=line63
  exact len_str (by omega) ⟨.int z.length,H,I.tok _,⟨_,rfl⟩,q⟩
theorem call_list_of:CallR X (.type "list") (fun xs H Q=>∃ p ys,xs=[.ref p]∧(SqL X.K H p ys∨SqT X.K H p ys)∧∀ l,H l=none→Q (.ref l) (upd H l (.lst ys))):=by
  intro pins s σ H xs us Q I r h
  obtain⟨p,ys,rfl,hq,q⟩:=h
  obtain⟨u,rfl,rx⟩:=vals1 r
  cases rx
  have fin:∀ (its:List Value),Vals ys its→ys.length≤sizeLine→∀ (h':Heap) (c':Nat),(∀ b o',s.heap.get? b=some o'→h'.get? b=some o') →
      h'.get? s.heap.objs.size=some { cls:=.type "list",dict:=none,data:=.seq its.toArray c',slots:=#[] }→EP X pins σ Q (.ref s.heap.objs.size) { s with heap:=h' }:=fun its r' hz h' c' kp e =>
    ⟨.ref s.heap.objs.size,_,I.laid (t':=s.toks) kp (Nat.le_refl _) (show ObjOk X.prog X.w _ h' _ (.lst ys) from ⟨hz,its,c',r',e⟩),rfl,q _ (I.hok.fresh (Nat.le_refl _))⟩
  rcases hq with hq | hq
  · obtain⟨its,r',pl,hz⟩:=I.list hq
    have hlen:=r'.length
    obtain⟨o,ho,hc,n,hd⟩:=pl.isList
    exact call_list_seq p (.inl rfl) ho hc hd (fun h' c' kp e=>fin its r' hz h' c' kp e) (by simp only[List.size_toArray] <;> omega)
  · obtain⟨its,r',pl,hz⟩:=I.tuple hq
    have hlen:=r'.length
    obtain⟨o,ho,hc,n,hd⟩:=pl
    exact call_list_seq p (.inr rfl) ho hc hd (fun h' c' kp e=>fin its r' hz h' c' kp e) (by simp only[List.size_toArray] <;> omega)
theorem call_tuple_of:CallR X (.type "tuple") (fun xs H Q=>∃ p ys,xs=[.ref p]∧((SqL X.K H p ys∧∀ l,H l=none→Q (.ref l) (upd H l (.tup ys)))∨(SqT X.K H p ys∧Q (.ref p) H))):=by
  intro pins s σ H xs us Q I r h
  obtain⟨p,ys,rfl,h⟩:=h
  obtain⟨u,rfl,rx⟩:=vals1 r
  cases rx
  rcases h with ⟨hq,q⟩ | ⟨hq,q⟩
  · obtain⟨its,r',pl,hz⟩:=I.list hq
    have hlen:=r'.length
    refine call_tuple_list pl.isList (fun h' kp=>?_) (by simp only[List.size_toArray] <;> omega)
    have I1:Inv X pins σ H { s with heap:=h' }:=I.kept (t':=s.toks) kp
    have I2:Inv X pins σ (upd H h'.objs.size (.tup ys)) { s with heap:=h'.push { cls:=.type "tuple",data:=.seq its.toArray } } :=
      I1.laid (t':=s.toks) (fun b o e=>Heap.get?_push_of_some _ e) (Nat.le_refl _) (show ObjOk X.prog X.w _ _ _ (.tup ys) from ⟨hz,its,r',IsTup.new _ _⟩)
    exact⟨.ref h'.objs.size,_,I2,rfl,q _ (I1.hok.fresh (Nat.le_refl _))⟩
  · obtain⟨its,r',pl,hz⟩:=I.tuple hq
    exact call_tuple_same pl ⟨.ref p,H,I,rfl,q⟩
noncomputable def tyV (K:PySem.W.Frag) (T:String) (x:V) (H:Hp):Prop:=match x with
  | .str _=>T = "str"
  | .int _=>T = "int"
  | .ref p=>(T = "list"∧∃ xs,SqL K H p xs)∨(T = "tuple"∧∃ o,K.lookup p=some o∧o.cls = .type "tuple"∧o.dict=none) ∨
      (T = "dict"∧((∃ kvs,H p=some (.dK kvs))∨∃ kvs,H p=some (.dT kvs)))∨(T = "set"∧∃ S n,H p=some (.set S n))
  | _=>False
theorem tyV_is {pins:List (Addr × Obj)} {σ:St} {H:Hp} {s:Shared} {T:String} {x:V} {v:Value} (I:Inv X pins σ H s) (r:RelV x v) (ty:tyV X.K T x H) :
    s.TypeIs v T∧∀ a,v = .ref a→∃ ob,s.heap.get? a=some ob∧ob.dict=none:=by
  cases x with
  | str z =>
    obtain⟨t,rfl⟩:=r
    cases (show T = "str" from ty)
    exact⟨typeIs_str s z t,fun _ e=>nomatch e⟩
  | int i =>
    obtain⟨t,rfl⟩:=r
    cases (show T = "int" from ty)
    exact⟨typeIs_int s i t,fun _ e=>nomatch e⟩
  | ref p =>
    cases r
    rcases ty with ⟨rfl,xs,hq⟩ | ⟨rfl,o,hk,hc,hd⟩ | ⟨rfl,hk⟩ | ⟨rfl,S,n,hk⟩
    · obtain⟨its,_,pl,_⟩:=I.list hq
      refine⟨pl.isList.typeIs,fun a e=>?_⟩
      cases e
      obtain⟨o,n,e,c,hd,_⟩:=pl
      exact⟨o,e,hd⟩
    · refine⟨⟨o,I.kIn p o hk,hc⟩,fun a e=>?_⟩
      cases e
      exact⟨o,I.kIn _ o hk,hd⟩
    · have z:∃ o,s.heap.get? p=some o∧o.ExactDict:=by
        rcases hk with ⟨kvs,hk⟩ | ⟨kvs,hk⟩
        · obtain⟨_,_,_,_,o,_,_,e,ex,_⟩:=I.hok p _ hk
          exact⟨o,e,ex⟩
        · obtain⟨_,_,_,_,o,_,_,e,ex,_⟩:=I.hok p _ hk
          exact⟨o,e,ex⟩
      obtain⟨o,e,ex⟩:=z
      refine⟨⟨o,e,ex.1⟩,fun a e2=>?_⟩
      cases e2
      exact⟨o,e,ex.2.1⟩
    · obtain⟨o,_,_,_,e,ex,_⟩:=I.hok p _ hk
      refine⟨⟨o,e,ex.1⟩,fun a e2=>?_⟩
      cases e2
      exact⟨o,e,ex.2.1⟩
  | _=>exact False.elim ty
noncomputable def tBM0 (K:PySem.W.Frag) (T:String) (r:V→List V→Hp→VK→Prop) (to:TE):TE:=fun σ H Q=>to σ H fun x H1=>tyV K T x H1∧r x [] H1 Q
noncomputable def tBM (K:PySem.W.Frag) (T:String) (r:V→List V→Hp→VK→Prop) (to:TE) (t:TA):TE:=fun σ H Q=>to σ H fun x H1=>tyV K T x H1∧t σ H1 fun xs H2=>r x xs H2 Q
variable {o e:Expr} {es:List Expr} {to:TE} {t:TA} {name:Str} {apos cpos:Pos} {T id:String} {r:V→List V→Hp→VK→Prop}
theorem pe_bm (pa:PlainAttrs T) (slot:Slot T name id) (hty:typeOf (.builtin id)=pure (.type "method_descriptor")) (hm:MtR X id r) (ho:PE X o to) (ha:PA X (e::es) t)
    (hbase:attributeBase o name X.env (eval o X.env)=eval o X.env:=by rfl)
    (hfew:((backTo cpos (starEach (e::es) X.env)).all (fun x=>!x.1)&&(backToKw cpos (keywordEach [] X.env)).all (fun x=>x.1.isSome)
      && decide ((e::es).length+([]:List Keyword).length+(if ([]:List Keyword).isEmpty then 0 else 1)<30))=true:=by rfl)
    (hline:(apos.endLine==cpos.line)=true:=by rfl) (hs:starEach (e::es) X.env=(false,eval e X.env)::starEach es X.env:=by exact starEach_cons rfl) (hplain:(backTo cpos (starEach es X.env)).any (·.1)=false:=by rfl) :
    PE X (.Call (.Attribute o name apos) (e::es) [] cpos) (tBM X.K T r to t):=by
  intro pins s σ H Q I h
  refine wpAny_Call_method_late hbase hfew hline rfl (thn (ho pins s σ H _ I h) fun v s1 ⟨x,H1,I1,r1,ty,q1⟩=>?_)
  obtain⟨h1,h2⟩:=tyV_is I1 r1 ty
  refine⟨T,id,pa,slot,hty,h1,h2,?_⟩
  have hA:=ha cpos pins s1 σ H1 _ I1 q1
  rw[hs] at hA ⊢
  refine Calls.callWith_builtin (by show (false || (backTo cpos (starEach es X.env)).any (·.1))=false;rw[hplain] <;> rfl) (Calls.evalArgs_plain ?_)
  exact thn hA fun us s2 ⟨vs,H2,I2,r2,q2⟩=>hm pins s2 σ H2 x vs v us Q I2 r1 r2 q2
end
noncomputable def MtM (X:Cx) (id:String) (r:V→List V→Hp→VK→Prop):Prop :=
  ∀ (pins:List (Addr × Obj)) (s:Shared) (σ:St) (H:Hp) (x:V) (xs:List V) (v:Value) (us:List Value) (Q:VK),Inv X pins σ H s→RelV x v→Vals xs us→r x xs H Q →
    wpAny (model X.prog X.w) X.A (call (.builtin id) (v::us)) (EP X pins σ Q) X.xe s
theorem Vals.one:∀ {x:V} {us:List Value},Vals [x] us→∃ u,us=[u]∧RelV x u
  | _,_,.cons r .nil=>⟨_,rfl,r⟩
theorem Vals.two:∀ {x y:V} {us:List Value},Vals [x,y] us→∃ u v,us=[u,v]∧RelV x u∧RelV y v
  | _,_,_,.cons r (.cons q .nil)=>⟨_,_,rfl,r,q⟩
theorem Vals.dropLast {xs:List V} {us:List Value} (h:Vals xs us):Vals xs.dropLast us.dropLast:=by
  induction h with
  | nil=>exact .nil
  | cons r t ih =>
    cases t with
    | nil=>exact .nil
    | cons q t'=>exact .cons r ih
theorem Vals.eraseIdx:∀ {xs:List V} {us:List Value} (i:Nat),Vals xs us→Vals (xs.eraseIdx i) (us.eraseIdx i)
  | _,_,_,.nil=>.nil
  | _,_,0,.cons _ t=>t
  | _,_,i+1,.cons r t=>.cons r (Vals.eraseIdx i t)
theorem Vals.reverse {xs:List V} {us:List Value} (h:Vals xs us):Vals xs.reverse us.reverse:=by
  induction h with
  | nil=>exact .nil
  | cons r t ih=>rw[List.reverse_cons,List.reverse_cons];exact Vals.append ih (.cons r .nil)
theorem erase_last {α:Type} (l:List α):l.eraseIdx (l.length - 1)=l.dropLast:=by
  induction l with
  | nil=>rfl
  | cons a r ih =>
    cases r with
    | nil=>rfl
    | cons b r =>
      have e:(a::b::r).length - 1=((b::r).length - 1)+1:=by
        have h1:(a::b::r).length=r.length+2:=rfl
        have h2:(b::r).length=r.length+1:=rfl
        omega
      rw[e,List.eraseIdx_cons_succ,ih]
      all_goals rfl
theorem len_erase {α:Type}:∀ (l:List α) (i:Nat),(l.eraseIdx i).length≤l.length
  | [],_=>Nat.le_refl _
  | _::_,0=>Nat.le_succ _
  | _::r,i+1=>Nat.succ_le_succ (len_erase r i)
section
variable {X:Cx} {pins:List (Addr × Obj)} {σ:St} {H:Hp} {s:Shared} {l b:Addr} {xs ys zs:List V}
theorem Inv.lset {its its':List Value} {n:Nat} {f:Array Value→Array Value} {t':Nat} (I:Inv X pins σ H s) (hH:H l=some (.lst xs))
    (e:s.heap.get? l=some { cls:=.type "list",data:=.seq its.toArray n }) (hf:f its.toArray=its'.toArray) (hv:Vals ys its') (hz:ys.length≤sizeLine) :
    Inv X pins σ (upd H l (.lst ys)) { s with heap:=s.heap.update l (Obj.mapSeq f),toks:=t' }:=by
  have q:=PySem.IsL.update e f
  rw[hf] at q
  refine I.write (x:=l) (e:=l) (by rw[hH];exact trivial) (.inl rfl) (fun b' u hb hu=>(Heap.get?_update_other s.heap (Obj.mapSeq f) (Ne.symm hb)).trans hu) ⟨_,q⟩ ?_
  exact⟨hz,its',_,hv,q⟩
theorem Inv.lnew {its:List Value} {t':Nat} (I:Inv X pins σ H s) (hv:Vals ys its) (hz:ys.length≤sizeLine) :
    Inv X pins σ (upd H s.heap.objs.size (.lst ys)) { s with heap:=s.heap.push { cls:=.type "list",data:=.seq its.toArray },toks:=t' } :=
  I.laid (fun _ _ q=>Heap.get?_push_of_some _ q) (Nat.le_refl _) ⟨hz,its,0,hv,Heap.get?_push_size _ rfl⟩
theorem Inv.fresh (I:Inv X pins σ H s):H s.heap.objs.size=none:=I.hok.fresh (Nat.le_refl _)
theorem Inv.lstM (I:Inv X pins σ H s) (hH:H l=some (.lst xs)):xs.length≤sizeLine∧∃ (its:List Value) (n:Nat),Vals xs its∧xs.length=its.length∧s.heap.get? l=some { cls:=.type "list",data:=.seq its.toArray n }:=by
  obtain⟨z,its,n,r,e⟩:=I.hok l _ hH
  exact⟨z,its,n,r,r.length,e⟩
theorem notLongL {n:Nat} (h:n≤sizeLine):Builtin.List.listTooLong n=false:=by
  unfold Builtin.List.listTooLong
  exact decide_eq_false (by omega)
end
section
variable {X:Cx}
noncomputable def rAppend:V→List V→Hp→VK→Prop:=fun x vs H Q=>∃ l xs y,x = .ref l∧vs=[y]∧H l=some (.lst xs)∧xs.length<sizeLine∧Q .non (upd H l (.lst (xs++[y])))
theorem mt_append:MtM X "list.append" rAppend:=by
  intro pins s σ H x vs v us Q I rx rv h
  obtain⟨l,xs,y,rfl,rfl,hH,hz,q⟩:=h
  cases rx
  obtain⟨u,rfl,ru⟩:=rv.one
  obtain⟨z,its,n,r,hl,e⟩:=I.lstM hH
  refine call_meets F.slot_list_append ⟨_,e,rfl⟩ F.entry_list_append (F.args_list_append_2 _ _) (PySem.list_append l its.toArray n u (by rw[List.size_toArray];omega)) ⟨e,?_⟩
  refine⟨.non,_,I.lset (its':=its++[u]) hH e (by simp) (r.append (.cons ru .nil)) ?_,rfl,q⟩
  rw[List.length_append,List.length_singleton]
  omega
noncomputable def rExtend:V→List V→Hp→VK→Prop:=fun x vs H Q=>∃ l b xs zs,x = .ref l∧vs=[.ref b]∧H l=some (.lst xs)∧H b=some (.lst zs)∧xs.length+zs.length≤sizeLine∧Q .non (upd H l (.lst (xs++zs)))
noncomputable def rPop:V→List V→Hp→VK→Prop:=fun x vs H Q=>∃ l xs y,x = .ref l∧vs=[]∧H l=some (.lst xs)∧xs[xs.length - 1]? = some y∧Q y (upd H l (.lst xs.dropLast))
noncomputable def rPopAt:V→List V→Hp→VK→Prop:=fun x vs H Q=>∃ l xs i k y,x = .ref l∧vs=[.int i]∧H l=some (.lst xs)∧-(2 ^ 63)≤i∧i<2 ^ 63∧seqIndex? i xs.length=some k∧xs[k]? = some y∧Q y (upd H l (.lst (xs.eraseIdx k)))
theorem mt_popAt:MtM X "list.pop" rPopAt:=by
  intro pins s σ H x vs v us Q I rx rv h
  obtain⟨l,xs,i,k,y,rfl,rfl,hH,h1,h2,hk,hy,q⟩:=h
  cases rx
  obtain⟨u,rfl,ru⟩:=rv.one
  obtain⟨t,rfl⟩:=ru
  obtain⟨z,its,n,r,hl,e⟩:=I.lstM hH
  obtain⟨w,hw,rw'⟩:=r.get hy
  refine call_meets F.slot_list_pop ⟨_,e,rfl⟩ F.entry_list_pop (F.args_list_pop_2 _ _)
    (MeetsSeq.list_pop_at l its.toArray n i t k w (fitsIndex_both h1 h2) (by rw[List.size_toArray,← hl];exact hk) (by rw[← Array.getElem?_toList];exact hw) (by rw[List.size_toArray];omega)) ⟨e,?_⟩
  refine⟨y,_,I.lset (its':=its.eraseIdx k) hH e ?_ (r.eraseIdx k) ?_,rw',q⟩
  · show its.toArray.eraseIdxIfInBounds k=(its.eraseIdx k).toArray
    rw[List.eraseIdxIfInBounds_toArray]
  · have:=len_erase xs k
    omega
noncomputable def rReverse:V→List V→Hp→VK→Prop:=fun x vs H Q=>∃ l xs,x = .ref l∧vs=[]∧H l=some (.lst xs)∧Q .non (upd H l (.lst xs.reverse))
noncomputable def rClear:V→List V→Hp→VK→Prop:=fun x vs H Q=>∃ l xs,x = .ref l∧vs=[]∧H l=some (.lst xs)∧Q .non (upd H l (.lst []))
noncomputable def rCat:R2:=fun x y H Q=>∃ l b xs zs,x = .ref l∧y = .ref b∧H l=some (.lst xs)∧H b=some (.lst zs)∧xs.length+zs.length≤sizeLine∧∀ p,H p=none→Q (.ref p) (upd H p (.lst (xs++zs)))
theorem op_cat:OpR X (binaryOp .Add) rCat:=by
  intro pins s σ H x y v u Q I rx ry h
  obtain⟨l,b,xs,zs,rfl,rfl,hH,hB,hz,q⟩:=h
  cases rx
  cases ry
  obtain⟨z,its,n,r,hl,e⟩:=I.lstM hH
  obtain⟨z2,its2,n2,r2,hl2,e2⟩:=I.lstM hB
  refine PySem.P.add_list e e2 ?_ (by rw[List.size_toArray,List.size_toArray];omega)
  have ea:its.toArray++its2.toArray=(its++its2).toArray:=by simp
  rw[ea]
  exact⟨.ref _,_,I.lnew (t':=s.toks) (r.append r2) (by rw[List.length_append];omega),rfl,q _ I.fresh⟩
noncomputable def rRep:R2:=fun x y H Q=>∃ l k xs,x = .ref l∧y = .int k∧H l=some (.lst xs)∧-(2 ^ 63)≤k∧k<2 ^ 63∧xs.length*k.toNat≤sizeLine ∧
  ∀ p,H p=none→Q (.ref p) (upd H p (.lst (List.replicate k.toNat xs).flatten))
end
section
variable {prog:Program} {w:World} {A:Around} {E:Value→Shared→Prop} {s:Shared}
end
section
variable {X:Cx}
end
end L2
namespace Att
open PySem PySem.W PySem.Calls PyProof.Rows
theorem ints_of_wellAll {P:Params} {h:Heap}:∀ (ns:List Int) (vs:List Value),WellAll P h vs (ns.map WData.int)→IntsAre vs ns:=by
  intro ns
  induction ns with
  | nil =>
    intro vs w
    rw[List.map_nil] at w
    cases w
    exact .nil
  | cons n ns ih =>
    intro vs w
    rw[List.map_cons] at w
    cases w with
    | cons a b =>
      cases a
      exact .cons _ _ (ih _ b)
theorem script_of {l:OpenLaw} {n:Nat} (hn:l.most=some n) {P:Params} {h:Heap} {args:List WData} {vals:List Value}
    (hpre:l.row.toRowW.claim.pre args=true) (hwl:WellAll P h vals args) :
    ∃ a vs ns,vals=[Value.ref a]∧args=[WData.list (ns.map WData.int)]∧h.get? a=some { cls:=.type "list",data:=.seq vs.toArray }∧IntsAre vs ns∧ns.length≤n:=by
  have hsh:WShape.hasAll [] args [.list .int]=true:=(pre_splitW hpre).1
  have hc:l.pre.holds [] { args:=args } = true:=(pre_splitW hpre).2
  obtain⟨d,r,rfl,h1,h2⟩:=hasAllW_cons hsh
  obtain rfl:=hasAllW_nil h2
  obtain⟨xs,rfl,h3⟩:=hasW_list h1
  obtain⟨ns,rfl⟩:=items_int h3
  have hlen:ns.length≤n:=by
    unfold OpenLaw.pre at hc
    have h4:(WTm.not (.lt (.lit (.int (n:Int))) (.len (.arg 0)))).holds [] { args:=[.list (ns.map .int)] } = true:=by
      have h4:=(holds_andW hc).1
      rw[hn] at h4
      exact h4
    have h5:=condW_of h4 (w_not (w_lt w_lit (w_len_list (w_arg rfl))))
    rw[List.length_map] at h5
    refine Nat.le_of_not_lt fun q=>?_
    have q':(n:Int)<((ns.length:Nat):Int):=by omega
    first
      | (rw[decide_eq_true q'] at h5;exact absurd h5 (by decide))
      | (simp at h5;omega)
  cases hwl with
  | cons w1 w2 =>
    cases w2
    cases w1 with
    | list ho hall=>exact⟨_,_,ns,rfl,rfl,ho,ints_of_wellAll ns _ hall,hlen⟩
theorem post_true (l:OpenLaw) (args:List WData):l.row.toRowW.claim.post args (.bool true) args=true :=
  postW_of (r:=l.row.toRowW) (X:=(true==true))
    (show WShape.has [] (.bool true) .bool=true by first | rfl | decide | simp[WShape.has,WShape.arms,WShape.armsAll])
    (show (WTm.eq .res (.lit (.bool true))).value [] { args:=args,res:=some (.bool true),after:=args } = some (.bool (true==true)) from w_eq_bool (w_res rfl) w_lit) rfl
theorem attach_call {l:OpenLaw} {n:Nat} {q:Program} {loose:List Str} {XP:(Str→Option Value)→Heap→Prop} {YP:World→Heap→Prop} {d:DefRec}
    (hn:l.most=some n) (hdf:d.params.defaults=[])
    (call:∀ (w:World) (s₀ s₁:Shared) (mg mb:Str→Option Value) (fa:Addr) (o:Obj) (pm cd doc:Value) (a:Addr) (vs:List Value) (ns:List Int),
      Ground q loose [] XP w s₀ mg mb s₁.heap→YP w s₁.heap →
      s₁.heap.get? fa=some o→o.data = .func (docDef d.name d.params d.body d.scope pm cd doc)→s₁.heap.CodeRec cd d.name→mg d.name=some (.ref fa) →
      s₁.heap.get? a=some { cls:=.type "list",data:=.seq vs.toArray }→IntsAre vs ns→ns.length≤n→s₁.gens = #[] →
      codeAny (model l.prog w) callerA (.call (.ref fa) ⟨[.ref a],[]⟩) (fun r s'=>r = .ok (.ret (.bool true))∧OldK s₁.heap s'.heap∧s'.os=s₁.os∧AllBare s'.gens) s₁) :
    WalkO q loose XP YP l.row.toRowW d [] (fun f vs=>PySem.call f vs):=by
  intro w s₀ s₁ mg mb G Y fa o pm cd doc dV kV ho hd hcd hD hmg hg args vals as hpre hlay hrd hwl hlo
  obtain rfl:dV = .none:=Dflts.none hD hdf
  obtain rfl:kV = .none:=Dflts.noKw hD
  obtain⟨a,vs,ns,rfl,rfl,hobj,hints,hlen⟩:=script_of hn hpre hwl
  refine enter_call (codeAny_mono (call w s₀ s₁ mg mb fa o pm cd doc a vs ns G Y ho (fd_plain hd) hcd hmg hobj hints hlen hg) fun r s' hq=>?_)
  obtain⟨rfl,h2,h3,h4⟩:=hq
  exact⟨.inl ⟨.bool true,.bool true,[],rfl,fun _=>rfl,.bool true,post_true l _,fun _=>⟨List.Pairwise.nil,fun _ hm=>(nomatch hm)⟩⟩,h2,h3,h4⟩
section
variable {prog:Program} {w:World} {A:Around} {E:Value→Shared→Prop} {s:Shared} {K:Frag}
noncomputable def noObjs (h:Heap):Heap:={ h with objs:=#[] }
noncomputable def ledger (h:Heap) (L d:Addr):List (Addr × Obj):=(List.range h.objs.size).filterMap fun a=>if a=L∨a=d then none else (h.get? a).map fun o=>(a,o)
end
end Att
namespace L2
open PySem PySem.Spec PyProof.Rows
theorem vals_ints:∀ {vs:List Value} {ns:List Int},IntsAre vs ns→Vals (ns.map V.int) vs
  | _,_,.nil=>.nil
  | _,_,.cons n t h=>.cons ⟨t,rfl⟩ (vals_ints h)
noncomputable def Only (H:Hp):Prop:=∀ b,H b=none∨∃ o xs,H b=some (.frz o (.lst xs))
theorem law_call {P:Program} {w:World} {K:PySem.W.Frag} {mg mb:Str→Option Value} {CX:CXT} {k:Nat} {fa a:Addr} {fd:FuncData} {x:Str} {sp:Sp} {s₁:Shared} {vs:List Value} {ns:List Int}
    (KX:K.In s₁.heap) (hns:s₁.heap.Ns mainGlobals mg) (hb:s₁.heap.Ns builtinsNs mb) (hbb:∀ x:Str,x≠"__name__"→mb x=bootBuiltins x) (hlim:s₁.heap.NoLimit) (hg:s₁.gens = #[])
    (ha:s₁.heap.get? a=some { cls:=.type "list",data:=.seq vs.toArray }) (hi:IntsAre vs ns) (hl:ns.length≤sizeLine) (hr:Room k callerA)
    (F:∀ base:Heap,K.In base→base.Ns mainGlobals mg→FnOk P w K mg base CX k fa fd [x] sp) (hbind:∀ (s:Shared) (u:Value),BindsTo s fd ⟨[u],[]⟩ [(x,u)])
    (hsp:∀ H:Hp,Only H→SqL K H a (ns.map V.int)→sp [.ref a] H (fun v _=>v = .bl true) fun _ _ _=>False)
    (hCX:∀ H e s',CX [] H s₁ (fun _ _ _=>False) e s'→False) :
    codeAny (model P w) callerA (.call (.ref fa) ⟨[.ref a],[]⟩) (fun r s'=>r = .ok (.ret (.bool true))∧OldK s₁.heap s'.heap∧s'.os=s₁.os∧AllBare s'.gens) s₁:=by
  have rv:=vals_ints hi
  have lenV:=hi.length
  have core:∀ H:Hp,Only H→SqL K H a (ns.map V.int)→HOk P w H s₁.heap→(∀ b,H b≠none→b=a)→(H a≠none→K.lookup a=none) →
      codeAny (model P w) callerA (.call (.ref fa) ⟨[.ref a],[]⟩) (fun r s'=>r = .ok (.ret (.bool true))∧OldK s₁.heap s'.heap∧s'.os=s₁.os∧AllBare s'.gens) s₁:=by
    intro H hO hS hok hA hK
    have base_of:∀ {b:Addr} {o:Obj},s₁.heap.get? b=some o→H b=none→(hidT s₁.heap H).get? b=some o:=fun e n=>hidT_get e n
    have noA:∀ {b:Addr} {o:Obj} {es:Array DictEntry} {ep:Nat},s₁.heap.get? b=some o→o.data = .dict es ep→H b=none:=fun {b o es ep} e d=>by
      cases q:H b with
      | none=>rfl
      | some u =>
        have e':b=a:=hA b (by rw[q];simp)
        subst e'
        rw[ha] at e;cases e
        have d':Data.seq vs.toArray _=Data.dict es ep:=d
        cases d'
    have nsK:∀ {b:Addr} {m:Str→Option Value},s₁.heap.Ns b m→(hidT s₁.heap H).Ns b m:=fun {b m} ⟨o,es,ep,e,d,r⟩=>⟨o,es,ep,base_of e (noA e d),d,r⟩
    have hKb:K.In (hidT s₁.heap H):=fun b o e=>base_of (KX b o e) (by
      cases q:H b with
      | none=>rfl
      | some u =>
        have e':b=a:=hA b (by rw[q];simp)
        subst e'
        rw[hK (by rw[q];simp)] at e;cases e)
    have hM:Mod K mg (hidT s₁.heap H):=⟨hKb,nsK hns,⟨mb,nsK hb,hbb⟩,let ⟨mc,h1,h2⟩:=hlim;⟨mc,nsK h1,h2⟩⟩
    have e0:Env0 P w K mg (hidT s₁.heap H) callerA [] s₁ H:=⟨rfl,hM,fun b o e=>of_hidT e,Nat.le_of_eq (hidT_size _ _),trivial,fun b hb=>absurd (show b∈([]:List Addr) from hb) (by simp),hok,.of_eq hg⟩
    refine codeAny_mono ((F _ hKb (nsK hns)).run callerA [] s₁ H ⟨[.ref a],[]⟩ [.ref a] [.ref a] _ _ hr e0 (hbind s₁ (.ref a)) (.cons rfl .nil) (hsp H hO hS)) fun r s' h=>?_
    cases r with
    | error e=>exact (hCX H e s' h).elim
    | ok fl =>
      cases fl with
      | next=>exact False.elim h
      | brk=>exact False.elim h
      | cont=>exact False.elim h
      | ret u =>
        obtain⟨v,H',os,bare,un,hok',r',q⟩:=h
        have q':v = .bl true:=q
        subst q'
        obtain rfl:u=Value.bool true:=r'
        refine⟨rfl,OldK.of_keep fun b o e=>?_,os,bare⟩
        cases q:H b with
        | none=>exact un.keep b o e q (by intro z;exact absurd (show b∈([]:List Addr) from z) (by simp)) (by simp)
        | some u =>
          rcases hO b with z | ⟨ob,xs,z⟩
          · rw[q] at z;cases z
          · have z2:=un.frzs b ob _ z
            obtain⟨e1,_⟩:=hok b _ z
            obtain⟨e2,_⟩:=hok' b _ z2
            rw[e] at e1;cases e1
            exact e2
  cases hk:K.lookup a with
  | some o =>
    have e:=KX a o hk
    rw[ha] at e
    cases e
    refine core (fun _=>none) (fun _=>.inl rfl) (.inr ⟨_,vs.toArray,_,hk,rfl,rfl,rfl,by rw[List.size_toArray,lenV];exact hl,by simpa using rv⟩) (fun b u z=>by have z':(none:Option HO)=some u:=z;cases z') (fun b z=>absurd rfl z) fun z=>absurd rfl z
  | none =>
    refine core (fun b=>if b=a then some (.frz { cls:=.type "list",data:=.seq vs.toArray } (.lst (ns.map V.int))) else none) (fun b=>?_) (.inl (.inr ⟨{ cls:=.type "list",data:=.seq vs.toArray },if_pos rfl⟩)) (fun b u z=>?_) (fun b z=>?_) fun _=>hk
    · by_cases hb:b=a
      · exact .inr ⟨_,_,if_pos hb⟩
      · exact .inl (if_neg hb)
    · by_cases hb:b=a
      · have z':=(if_pos hb).symm.trans z
        cases z'
        subst hb
        exact⟨ha,by rw[List.length_map];exact hl,vs,_,rv,ha⟩
      · have z':=(if_neg hb).symm.trans z
        cases z'
    · by_cases hb:b=a
      · exact hb
      · exact absurd (if_neg hb) z
noncomputable abbrev KOf {K:PySem.W.Frag} {h:Heap} (_:K.In h):PySem.W.Frag:=K
theorem walk_of {l:PySem.W.OpenLaw} {n k:Nat} {q:Program} {loose:List Str} {XP:(Str→Option Value)→Heap→Prop} {YP:World→Heap→Prop} {d:DefRec} {K:Params→PySem.W.Frag} {CX:World→CXT} {sp:World→Sp} {x:Str}
    (hn:l.most=some n) (hn2:n≤sizeLine) (hdf:d.params.defaults=[]) (hr:Room k callerA)
    (hY:∀ (w:World) (h:Heap),YP w h→(K w.params).In h)
    (F:∀ (w:World) (mg:Str→Option Value) (fa:Addr) (h:Heap),(K w.params).In h→h.Ns mainGlobals mg→mg d.name=some (.ref fa) →
      ∃ fd:FuncData,(∀ (s:Shared) (u:Value),BindsTo s fd ⟨[u],[]⟩ [(x,u)]) ∧
        ∀ base:Heap,(K w.params).In base→base.Ns mainGlobals mg→FnOk l.prog w (K w.params) mg base (CX w) k fa fd [x] (sp w))
    (hsp:∀ (w:World) (H:Hp) (a:Addr) (ns:List Int),ns.length≤n→Only H→SqL (K w.params) H a (ns.map V.int)→sp w [.ref a] H (fun v _=>v = .bl true) fun _ _ _=>False)
    (hCX:∀ (w:World) (H:Hp) (s:Shared) (e:Value) (s':Shared),CX w [] H s (fun _ _ _=>False) e s'→False) :
    PySem.W.WalkO q loose XP YP l.row.toRowW d [] (fun f vs=>PySem.call f vs):=by
  refine Att.attach_call hn hdf fun w s₀ s₁ mg mb fa o pm cd doc a vs ns G Y ho hd hcd hmg hobj hints hlen hg=>?_
  have KX:=hY w _ Y
  obtain⟨fd,hb,hF⟩:=F w mg fa _ KX G.T.g hmg
  exact law_call KX G.T.g G.T.b G.T.builtins G.T.nolimit hg hobj hints (Nat.le_trans hlen hn2) hr hF hb (fun H hO hS=>hsp w H a ns hlen hO hS) fun H e s'=>hCX w H s₁ e s'
noncomputable def inClass (s:Stmt) (j:Nat):Stmt:=match s with
  | .ClassDef _ _ _ body _ _ _ _ _ _ _=>body.getD j (.Pass ⟨0,0,0,0⟩)
  | _=>.Pass ⟨0,0,0,0⟩
noncomputable def defArgs (s:Stmt):Arguments:=match s with
  | .FunctionDef _ a _ _ _ _ _ _ _ _=>a
  | _=>{ posonlyargs:=[],args:=[],vararg:=none,kwonlyargs:=[],kw_defaults:=[],kwarg:=none,defaults:=[] }
noncomputable def defBody (s:Stmt):List Stmt:=match s with
  | .FunctionDef _ _ b _ _ _ _ _ _ _=>b
  | _=>[]
noncomputable def defScope (s:Stmt):Scope:=match s with
  | .FunctionDef _ _ _ _ _ _ sc _ _ _=>sc
  | _=>{ kind:=.function,names:=[],isGenerator:=false,isCoroutine:=false }
noncomputable abbrev CX0:CXT:=fun _ _ _ _ _ _=>False
noncomputable abbrev E0:XK:=fun _ _ _=>False
theorem pass0 {X:Cx}:Passes CX0 X E0:=fun _ _ _ _ _ _ _ h=>h.elim
structure Fun (K:PySem.W.Frag) (x qual:Str) (st:Stmt) (f:Addr) (fd:FuncData):Prop where
  ex:∃ (oc:Value) (od:Option Addr) (kV doc pm:Value) (an:Option Addr) (cdv ct:Value) (osl:Array (Option Value)),
    fd=PySem.W.fnOf x qual (defArgs st) (defBody st) (defScope st) .none kV doc pm an cdv ct∧K.lookup f=some ⟨oc,od,.func fd,osl⟩∧PySem.W.codeIn K cdv qual=true
  kp:PySem.W.keepIn K (.ref f)=true
section
variable {P:Program} {w:World} {K:PySem.W.Frag} {mg:Str→Option Value} {base:Heap}
theorem Fun.ok {x qual:Str} {st:Stmt} {f:Addr} {fd:FuncData} {N ps:List Str} {k:Nat} {sp:Sp} (F:Fun K x qual st f fd) (S:FnScope N ps (defScope st)) (len:∀ vs H Q E,sp vs H Q E→vs.length=ps.length)
    (hbody:∀ (cdv:Value) (A:Around) (outer:List Env) (s:Shared) (H:Hp) (vs:List V) (Q:VK) (E:XK),Room k (A.deeper (envOfC qual (defScope st) s.heap.objs.size f cdv))→sp vs H Q E →
      ∃ t,PSs (cxOf CX0 P w K mg base N qual (defScope st) f cdv A outer s H E).nox (defBody st) t∧t { nx:=fun _ H'=>Q .non H',rt:=Q } (start N vs) H):FnOk P w K mg base CX0 (k+1) f fd ps sp:=by
  obtain⟨oc,od,kV,doc,pm,an,cdv,ct,osl,rfl,lk,hcd⟩:=F.ex
  refine fn_of lk hcd S len fun A outer s H vs Q E hr hsp=>?_
  obtain⟨t,h,q⟩:=hbody cdv A outer s H vs Q E hr hsp
  exact⟨t,h.nox,q⟩
theorem Fun.binds {x qual:Str} {st:Stmt} {f:Addr} {fd:FuncData} {ps:List Str} (F:Fun K x qual st f fd)
    (h:∀ (kV doc pm:Value) (an:Option Addr) (cdv ct:Value) (us:List Value),us.length=ps.length→bindArgs (PySem.W.fnOf x qual (defArgs st) (defBody st) (defScope st) .none kV doc pm an cdv ct) ⟨us,[]⟩=pure (ps.zip us)):Binds K fd ps []:=by
  obtain⟨oc,od,kV,doc,pm,an,cdv,ct,osl,rfl,lk,hcd⟩:=F.ex
  exact .all (h kV doc pm an cdv ct)
theorem fun_mk {x qual:Str} {st:Stmt} {f:Addr} {oc:Value} {od an:Option Addr} {osl:Array (Option Value)} {kV doc pm cdv ct:Value} (l:K.lookup f=some ⟨oc,od,.func (PySem.W.fnOf x qual (defArgs st) (defBody st) (defScope st) .none kV doc pm an cdv ct),osl⟩)
    (c:PySem.W.codeIn K cdv qual=true) (k:PySem.W.keepIn K (.ref f)=true):Fun K x qual st f (PySem.W.fnOf x qual (defArgs st) (defBody st) (defScope st) .none kV doc pm an cdv ct):=⟨⟨oc,od,kV,doc,pm,an,cdv,ct,osl,rfl,l,c⟩,k⟩
end
section
variable {X:Cx}
theorem pv (i:Nat) {x:Str} {pos:Pos} (hN:X.N[i]? = some x:=by rfl) (hv:Vis X.env.scope x:=by first | exact Or.inl rfl | exact Or.inr (Or.inl rfl) | exact Or.inr (Or.inr rfl)) (hd:(x==("__debug__":Str))=false:=by decide)
    (hcd:(x==("__classdict__":Str))=false:=by decide):PE X (.Name x pos) (tVar i):=pe_var hN hv hd hcd
end
theorem iteF {A B:Prop} (h:B):if false=true then A else B:=by
  rw[if_neg Bool.false_ne_true]
  exact h
theorem iteT {A B:Prop} (h:A):if true=true then A else B:=by
  rw[if_pos rfl]
  exact h
theorem ite2 {c A B:Prop} [Decidable c] (h1:c→A) (h2:¬ c→B):if c then A else B:=by
  by_cases h:c
  · rw[if_pos h]
    exact h1 h
  · rw[if_neg h]
    exact h2 h
noncomputable def Same (H H':Hp):Prop:=∀ b o,H b=some o→H' b=some o
theorem Same.refl (H:Hp):Same H H:=fun _ _ h=>h
theorem Same.trans {H H1 H2:Hp} (a:Same H H1) (b:Same H1 H2):Same H H2:=fun c o h=>b c o (a c o h)
theorem Same.free {H H':Hp} (e:Same H H') {l:Addr} (h:H' l=Option.none):H l=Option.none:=by
  cases q:H l with
  | none=>rfl
  | some o =>
    rw[e l o q] at h
    cases h
theorem Same.seq {K:PySem.W.Frag} {H H':Hp} {a:Addr} {xs:List V} (e:Same H H') (h:SqL K H a xs):SqL K H' a xs:=by
  rcases h with (h | ⟨o,h⟩) | h
  · exact .inl (.inl (e _ _ h))
  · exact .inl (.inr ⟨o,e _ _ h⟩)
  · exact .inr h
end L2
namespace XK
open PySem PySem.W PySem.Spec PySem.Calls PyProof.Rows
section
variable {prog:Program} {w:World} {A:Around} {E:Value→Shared→Prop} {s:Shared} {K:Frag} {x D:Addr} {ox:Obj}
structure ExcCls (K:Frag) (D:Addr):Prop where
  cls:(clsIn K D).isSome=true
  ga:findIn K (.ref D) "__getattribute__" = some (some (.builtin "BaseException.__getattribute__"))
  hook:findIn K (.ref D) "__getattr__" = some none
  ca:findIn K (.ref D) "__class__" = some (some (.builtin "object.__class__"))
  get:specialIn K (.builtin "object.__class__") "__get__" = some (some (.builtin "getset_descriptor.__get__"))
  tk:takesIn K (.builtin "object.__class__")=some true
  ob:mroIn K D (.type "object")=some true
  bx:mroIn K D (.type "BaseException")=some true
theorem found (c:ExcCls K D):findObj K D none "__class__" = some (.bind (.builtin "getset_descriptor.__get__") (.builtin "object.__class__")):=by
  obtain⟨cd,hc⟩:=Option.isSome_iff_exists.mp c.cls
  unfold findObj
  rw[hc,Option.bind_some,c.ca,Option.bind_some]
  simp[c.get,c.tk]
theorem ga_check {nameV:Value} {M:Model} {Q:Unit→Shared→Prop} (X:K.In s.heap) (c:ExcCls K D) (I:InstAt s.heap x ox D none) (h:Q () s) :
    wpAny M A (checkBuiltinCall "BaseException.__getattribute__" ⟨[.ref x,nameV],[]⟩) Q E s:=by
  have hk:builtinKind "BaseException.__getattribute__" = some .slot:=by decide +kernel
  have hsplit:splitId "BaseException.__getattribute__" = some ("BaseException","__getattribute__"):=by decide +kernel
  have ha:=F.args_bexc_ga (.ref x) nameV
  have L0:=I.type (M:=M)
  have L1:=looks_mroIn (M:=M) X c.bx
  obtain⟨hh,g,d,t,os⟩:=s
  simp only[checkBuiltinCall,hk,hsplit]
  unfold isInstance
  repeat (first | exact h | refine wpAny_bind (L0.at ?_) | refine wpAny_bind (L1.at ?_) | refine L0.at ?_ | refine L1.at ?_ | wp_step)
theorem ga_entry {tk:Tok} {Q:Fin→Shared→Prop} (X:K.In s.heap) (c:ExcCls K D) (I:InstAt s.heap x ox D none) (h:Q (.done (.ret (.ref D))) s) :
    wpAny (model prog w) A (Builtin.«object.__getattribute__» ⟨[.ref x,.str "__class__" tk],[]⟩) Q E s:=by
  have L0:=I.type (M:=model prog w)
  have L1:=looks_find (M:=model prog w) X I (found c)
  obtain⟨hh,g,d,t,os⟩:=s
  unfold Builtin.«object.__getattribute__»
  repeat (first | refine wpAny_bind (L0.at ?_) | refine wpAny_bind (L1.at ?_) | wp_step)
  exact class_get X I c.ob (wpAny_pure h)
theorem ga_attr {Q:Option Value→Shared→Prop} (X:K.In s.heap) (c:ExcCls K D) (I:InstAt s.heap x ox D none) (h:Q (some (.ref D)) { s with toks:=s.toks+1 }) :
    wpAny (model prog w) A (getAttr? (.ref x) "__class__") Q E s:=by
  have L0:=I.type (M:=model prog w)
  have L1:=looks_findIn (M:=model prog w) X c.ga
  have L2:=looks_findIn (M:=model prog w) X c.hook
  have f3:=PySem.F.attr_ValueError.ga.bind (.ref x)
  have hx2:(Value.builtin "BaseException.__getattribute__" == Value.builtin "object.__getattribute__")=false:=by decide +kernel
  have hx1:(onTheHeap (Value.ref D)&&Value.builtin "BaseException.__getattribute__" == Value.builtin "object.__getattribute__")=false:=by rw[hx2];rfl
  obtain⟨hh,g,d,t,os⟩:=s
  unfold getAttr? getAttrBy? getAttrBy
  refine wpAny_bind (wpAny_mkText (wpAny_bind (wpAny_attempt (wpAny_holding (wpAny_bind (L0.at (wpAny_bind (L1.at ?_))))))))
  dsimp only
  rw[hx1,if_neg Bool.false_ne_true]
  unfold getAttrByItsOwn hookBefore
  rw[show onTheHeap (Value.ref D)=true from rfl,if_pos rfl]
  refine wpAny_bind (L2.at ?_)
  refine wpAny_bind (wpAny_attempt (wpAny_holding ?_))
  unfold callGetattribute
  rw[Bool.false_and,if_neg Bool.false_ne_true]
  unfold boundAndCalled
  rw[f3]
  refine wpAny_bind (wpAny_pure ?_)
  refine wpAny_call (codeAny_call_builtin PySem.F.attr_ValueError.ga.plain F.entry_bexc_ga (ga_check (s:=⟨hh,g,d,t+1,os⟩) X c I (ga_entry (s:=⟨hh,g,d,t+1,os⟩) X c I ?_)))
  repeat (first | exact h | wp_step)
theorem kitx_exc (c:ExcCls K D):KitX K (.ref x) (.ref D) (fun h=>InstAt h x ox D none) where
  ty:=fun _ _ _ I=>I.type
  it:=fun M h X _=>by
    obtain⟨cd,hc⟩:=Option.isSome_iff_exists.mp c.cls
    unfold clsIn at hc
    split at hc
    · rename_i ho
      intro A' Q' E' s' k q
      unfold isType loadHead
      exact wpAny_bind (wpAny_loadPart (k _ _ (X _ _ ho)) (wpAny_pure q))
    · cases hc
  ne:=fun h tp dd its n sl X htp=>by
    obtain⟨cd,hc⟩:=Option.isSome_iff_exists.mp c.cls
    refine Bool.eq_false_iff.mpr fun q=>?_
    obtain rfl:D=tp:=Value.ref.inj (beq_iff_eq.mp q)
    unfold clsIn at hc
    split at hc
    · rename_i ho
      cases (X _ _ ho).symm.trans htp
    · cases hc
  ca:=fun X I k=>ga_attr X c I k
end
end XK
namespace L2
open PySem PySem.Spec PyProof.Rows
section
variable {M:Model} {A:Around} {E:Value→Shared→Prop} {s:Shared}
structure Entered (fl:List Addr) (e:Addr) (oe:Obj) (mark:Value) (h h':Heap) (T:Addr):Prop where
  keep:∀ b o,b≠e→b∉fl→h.get? b=some o→h'.get? b=some o
  slot:∀ b o,b≠e→h.get? b=some o→∃ sl,h'.get? b=some { o with slots:=sl }
  new:h.objs.size≤T
  recd:h'.get? e=some (oe.mapFields (·.setIfInBounds 1 (.ref T)))
  head:∃ oT ts,h'.get? T=some oT∧oT.data = .fields ts∧ts[3]? = some mark
end
noncomputable def FlyX (X:Cx) (pins:List (Addr × Obj)) (H:Hp) (ea:Addr) (cls fl:Value) (h:Heap):Prop :=
  FpOk X pins H ea∧∃ oe vs,h.get? ea=some oe∧(oe.cls=cls∧oe.dict=none)∧oe.data = .fields vs∧vs[2]? = some .none ∧
    ((vs[1]? = some .none∧fl = .none)∨∃ T oT ts,vs[1]? = some (.ref T)∧T≠ea∧FpOk X pins H T∧h.get? T=some oT∧oT.data = .fields ts∧ts[3]? = some fl)
section
variable {X:Cx} {pins:List (Addr × Obj)} {σ:St} {H:Hp} {s:Shared} {ea:Addr} {cls fl:Value} {M:Model} {A:Around} {E:Value→Shared→Prop} {Q:Unit→Shared→Prop}
end
noncomputable def CXE (P:Program) (w:World):CXT:=fun outer H s E e s'=>∃ (ea:Addr) (cls:Value) (H':Hp),e = .ref ea∧s'.os=s.os∧AllBare s'.gens∧Un (frs outer) [] H H' s.heap s'.heap∧HOk P w H' s'.heap ∧
  (s.heap.get? ea=none∧H' ea=none∧∃ oe vs,s'.heap.get? ea=some oe∧(oe.cls=cls∧oe.dict=none)∧oe.data = .fields vs∧vs[2]? = some .none ∧
    ((vs[1]? = some .none)∨∃ T oT ts,vs[1]? = some (.ref T)∧T≠ea∧s.heap.get? T=none∧H' T=none∧s'.heap.get? T=some oT∧oT.data = .fields ts∧ts[3]? = some .none))∧E cls none H'
noncomputable def Throws (X:Cx) (E:XK):Prop:=∀ (pins:List (Addr × Obj)) (σ:St) (H:Hp) (s:Shared) (ea:Addr) (cls:Value),Inv X pins σ H s→FlyX X pins H ea cls .none s.heap→E cls none H→X.xe (.ref ea) s
noncomputable abbrev veMro:List Value:=[.type "ValueError",.type "Exception",.type "BaseException",.type "object"]
section
variable {X:Cx} {E:XK} {x:Str} {C:Addr} {e₀:Expr} {rest:List Expr} {t:TA} {np cpos pos:Pos}
noncomputable def tRaise (E:XK) (C:Addr) (t:TA):TS:=fun _ σ H=>t σ H fun vs H1=>vs.length≤sizeLine∧E (.ref C) none H1
end
noncomputable abbrev Cx.tr (X:Cx) (pn:List (Addr × Obj)) (E:Value→Shared→Prop):Cx:={ X with pn:=pn,xe:=E }
noncomputable abbrev Cx.hdl (X:Cx) (pn:List (Addr × Obj)) (ea:Addr) (E:Value→Shared→Prop):Cx:={ X with pn:=pn,xe:=E,A:=X.A.mark (some (.ref ea)),calm:=false }
noncomputable def excO (ea:Addr) (oe:Obj):HO:=.frz oe (.ext fun h=>∃ o,h.get? ea=some o)
section
variable {X:Cx} {pn pins:List (Addr × Obj)} {σ:St} {H:Hp} {s:Shared} {E:Value→Shared→Prop} {ea:Addr}
theorem Cx.Ok.tr (ok:X.Ok):(X.tr pn E).Ok :=
  ⟨ok.mod,ok.kind,ok.glob,ok.blt,ok.above,ok.inj,ok.has,ok.cab,ok.hd,ok.frames,ok.stk,ok.exf,ok.bs,ok.bsz,ok.noex,ok.exfs,ok.funs,ok.frf⟩
theorem Inv.tr (I:Inv X pins σ H s):Inv (X.tr (X.pn++pins) E) [] σ H s :=
  ⟨I.ok.tr,I.os,I.bare,I.base,I.loc,I.cell,I.free,I.freeC,fun p hp=>I.pin p (by simpa using hp),I.hok,I.len⟩
theorem Inv.ofTr (I:Inv (X.tr (X.pn++pins) E) [] σ H s) (ok:X.Ok):Inv X pins σ H s :=
  ⟨ok,I.os,I.bare,I.base,I.loc,I.cell,I.free,I.freeC,fun p hp=>I.pin p (by simpa using hp),I.hok,I.len⟩
end
noncomputable def tryE (X:Cx) (pn:List (Addr × Obj)) (R:XK):Value→Shared→Prop:=fun e s=>∃ (ea:Addr) (cls:Value) (σ:St) (H:Hp),e = .ref ea∧Inv (X.tr pn fun _ _=>True) [] σ H s∧FlyX (X.tr pn fun _ _=>True) [] H ea cls .none s.heap∧R cls none H
noncomputable def fall (N:List Str) (D:Ends):Ends:={ nx:=fun _ H=>D.nx (N.map fun _=>none) H,rt:=D.rt,bk:=fun _ H=>D.bk (N.map fun _=>none) H,ct:=fun _ H=>D.ct (N.map fun _=>none) H }
noncomputable def tTry (R:XK) (N:List Str) (i:Nat) (tb:TS) (th:Addr→TS):TS:=fun D σ H=>tb D σ H∧∀ (ea:Addr) (oe:Obj) (vs:Array Value) (cls:Value) (σ':St) (H':Hp),R cls none H'→H' ea=none→oe.cls=cls→oe.dict=none →
  oe.data = .fields vs→vs[2]? = some .none→σ'.length=N.length→th ea (fall N D) (σ'.set i (some (.ref ea))) (upd H' ea (excO ea oe))
noncomputable def Quiet (A:Around) (h:Heap):Prop:=A.handled=none∨∃ ea oe vs,A.handled=some (.ref ea)∧h.get? ea=some oe∧oe.data = .fields vs∧vs[2]? = some .none
section
variable {prog:Program} {w:World} {A:Around} {E:Value→Shared→Prop} {s:Shared}
end
noncomputable def HdR (A:Around) (H:Hp):Prop:=A.handled=none∨∃ ea oe vs u,A.handled=some (.ref ea)∧H ea=some (.frz oe u)∧oe.data = .fields vs∧vs[2]? = some .none
section
variable {X:Cx} {pins:List (Addr × Obj)} {σ:St} {H:Hp} {s:Shared}
end
noncomputable def cxComp (X:Cx) (Nc:List Str) (scope:Scope) (cl:List (Str × Addr)) (C it:Addr) (s:Shared) (H:Hp):Cx :=
  { X with N:=Nc,s₀:=s,H₀:=H,env:=compEnvC scope cl C X.env,outer:=X.stack,ex:=[it],fn:=fun _=>false,pn:=[],xe:=fun _ _=>False }
noncomputable def PIf (X:Cx) (ifs:List Expr) (t:TT):Prop :=
  ∀ (pins:List (Addr × Obj)) (s:Shared) (σ:St) (H:Hp) (Q:Bool→Hp→Prop),Inv X pins σ H s→t σ H Q →
    wpAny (model X.prog X.w) X.A (forIn ifs true fun c r=>if r=true then do let ok ← isTrue c X.env (eval c X.env);pure (ForInStep.yield ok) else pure (ForInStep.yield r)) (TP X pins σ Q) X.xe s
noncomputable def tNoIf:TT:=fun _ H Q=>Q true H
theorem pif_nil {X:Cx}:PIf X [] tNoIf:=fun _ _ _ H _ I h=>wpAny_tests_nil ⟨H,I,h⟩
theorem pif_one {X:Cx} {c:Expr} {t:TT} (h:PT X c t):PIf X [c] t:=fun pins s σ H Q I q=>wpAny_tests_one (h pins s σ H Q I q)
theorem comp_loop {prog:Program} {w:World} {A:Around} {R:Result→Shared→Prop} {s:Shared} {elt tgt iter:Expr} {ifs:List Expr} {scope:Scope} {pos:Pos} {it acc:Value} {env:Env} (J:Nat→Shared→Prop)
    (turn:∀ n s,J n s→wpAny (model prog w) A (pyNext it) (fun r s1=>match r with
      | none=>R (.ok .next) s1
      | some v=>wpAny (model prog w) A (letOwnedTupleGo tgt it v) (fun _ s2=>wpAny (model prog w) A (assign tgt env v) (fun _ s3 =>
          wpAny (model prog w) A (forIn ifs true fun c r=>if r=true then do let ok ← isTrue c env (eval c env);pure (ForInStep.yield ok) else pure (ForInStep.yield r)) (fun ok s4 =>
            if ok=true then wpAny (model prog w) A (eval elt env) (fun x s5=>wpAny (model prog w) A (call (.builtin "list.append") [acc,x]) (fun _ s6=>∃ m,m<n∧J m s6) (fun _ _=>False) s5) (fun _ _=>False) s4
            else ∃ m,m<n∧J m s4) (fun _ _=>False) s3) (fun _ _=>False) s2) (fun _ _=>False) s1) (fun _ _=>False) s)
    (n:Nat) (h:J n s):codeAny (model prog w) A (.compLoop (.ListComp elt [⟨tgt,iter,ifs,0⟩] scope pos) 0 it acc env) R s:=by
  refine codeAny_loop rfl J (fun n s hJ=>?_) n h
  show wpAny _ A ((compTurn (.ListComp elt [⟨tgt,iter,ifs,0⟩] scope pos) 0 it acc env).onRaise (fun x=>do noteFrame x env;theTreesLotGoes x)) _ _ s
  refine wpAny_noted (wpAny_mono (E:=fun _ _=>False) ?_ (fun _ _ z=>z) fun _ _ z=>z.elim)
  rw[compTurn_list]
  refine wpAny_bind (wpAny_standAt (wpAny_bind (thn (turn n s hJ) fun r s1 h1=>?_)))
  cases r with
  | none=>exact wpAny_pure h1
  | some v =>
    refine wpAny_bind (thn h1 fun _ s2 h2=>wpAny_bind (thn h2 fun _ s3 h3=>wpAny_bind (thn h3 fun ok s4 h4=>?_)))
    cases ok with
    | false=>exact wpAny_pure ⟨rfl,h4⟩
    | true=>exact wpAny_bind (wpAny_bind (thn h4 fun x s5 h5=>wpAny_bind (thn h5 fun _ s6 h6=>wpAny_pure (wpAny_pure ⟨rfl,h6⟩))))
noncomputable def capt (src:List (Option Nat)) (σ:St):St:=src.map fun o=>o.bind fun j=>(σ[j]?).join
noncomputable def tTurns (K:PySem.W.Frag) (a D:Addr) (xs:List V) (g:TG) (tt:TT) (te:TE) (fin:List V→Hp→Prop) (σ:St) (H:Hp):Prop :=
  ∃ W:Nat→List V→St→Hp→Prop,W 0 [] σ H∧(∀ i ys σ H,W i ys σ H→SqL K H a xs∧H D=some (.lst ys)) ∧
    (∀ i x ys σ H,xs[i]? = some x→W i ys σ H→g x σ H fun σ1 H1=>tt σ1 H1 fun b H2=>if b=true then te σ1 H2 fun y H3=>H3 D=some (.lst ys)∧ys.length<sizeLine∧W (i+1) (ys++[y]) σ1 (upd H3 D (.lst (ys++[y]))) else W (i+1) ys σ1 H2) ∧
    ∀ ys σ H,W xs.length ys σ H→fin ys H
noncomputable def tComp (K:PySem.W.Frag) (src:List (Option Nat)) (tl:TE) (g:TG) (tt:TT) (te:TE):TE:=fun σ H Q=>tl σ H fun x H1=>∃ a xs,x = .ref a∧SqL K H1 a xs ∧
  ∀ D,H1 D=none→tTurns K a D xs g tt te (fun ys H2=>Q (.ref D) H2) (capt src σ) (upd H1 D (.lst []))
section
variable {X:Cx} {elt iter tgt:Expr} {ifs:List Expr} {scope:Scope} {cl:List (Str × Addr)} {Nc:List Str} {src:List (Option Nat)} {g:TG} {tt:TT} {te:TE}
structure CompOk (X:Cx) (Nc:List Str) (scope:Scope) (cl:List (Str × Addr)) (src:List (Option Nat)):Prop where
  clos:closureFor scope X.env=pure cl
  kind:scope.kind = .function
  cell:∀ y∈scope.names,y.2≠.cell
  names:∀ y∈scope.names,y.2 = .local→scope.names.lookup y.1=some .local
  sub:∀ x c,cl.lookup x=some c→X.env.cells.lookup x=some c
  has:∀ x,((relabel scope X.env).names.lookup x=some .cell∨(relabel scope X.env).names.lookup x=some .free)→∃ c,cl.lookup x=some c
  frm:∀ (i j:Nat),src[i]? = some (some j)→∃ x,Nc[i]? = some x∧X.N[j]? = some x∧X.env.scope.names.lookup x=some .cell∧(relabel scope X.env).names.lookup x=some .cell
  len:src.length=Nc.length
end
structure RoomQ (k:Nat) (A:Around):Prop where
  dp:A.depth+3*k+5<recursionLimit
  un:A.units+16*k+200<cLine
structure FnOkQ (P:Program) (w:World) (K:PySem.W.Frag) (mg:Str→Option Value) (base:Heap) (k:Nat) (f:Addr) (fd:FuncData) (ps:List Str) (sp:Sp):Prop where
  len:∀ vs H Q E,sp vs H Q E→vs.length=ps.length
  run:∀ (A:Around) (outer:List Env) (s:Shared) (H:Hp) (args:Args) (us:List Value) (vs:List V) (Q:VK),RoomQ k A→HdR A H→Env0 P w K mg base A outer s H→BindsTo s fd args (ps.zip us)→Vals vs us→sp vs H Q E0 →
    codeAny (model P w) A (.call (.ref f) args) (CR CX0 outer P w H s Q E0) s
noncomputable def cxQ (P:Program) (w:World) (K:PySem.W.Frag) (mg:Str→Option Value) (base:Heap) (N:List Str) (qual:Str) (scope:Scope) (f:Addr) (cd:Value) (A:Around) (outer:List Env) (s:Shared) (H:Hp):Cx :=
  { cxOf CX0 P w K mg base N qual scope f cd A outer s H E0 with calm:=false,xe:=fun _ _=>False }
section
variable {P:Program} {w:World} {K:PySem.W.Frag} {mg:Str→Option Value} {base:Heap}
end
section
variable {X:Cx} {k:Nat} {f:Addr} {fd:FuncData} {ps:List Str} {sp:Sp} {x:Str} {p pos:Pos} {e:Expr} {es:List Expr} {t:TA}
noncomputable def tCallQ (A:Around) (sp:Sp) (t:TA):TE:=fun σ H Q=>t σ H fun vs H1=>HdR A H1∧sp vs H1 Q E0
end
noncomputable def clsV:V→Option Value
  | .ref a=>some (.ref a)
  | .ty n=>some (.type n)
  | _=>none
noncomputable def TyX (K:PySem.W.Frag) (H:Hp) (x:V) (t:Value):Prop :=
  TyOf K H x t∨∃ a oe C vs,x = .ref a∧t = .ref C∧H a=some (excO a oe)∧oe.cls = .ref C∧oe.dict=none∧oe.data = .fields vs∧XK.ExcCls K C
section
variable {X:Cx}
theorem call_isinst:CallR X (.builtin "isinstance") (fun xs H Q=>∃ x c cv t b,xs=[x,c]∧clsV c=some cv∧TyX X.K H x t∧PySem.W.kitOne X.K t cv=some b∧Q (.bl b) H):=by
  intro pins s σ H xs us Q I r h
  obtain⟨x,c,cv,t,b,rfl,hc,ty,hk,q⟩:=h
  obtain⟨u,v,rfl,ru,rv⟩:=vals2 r
  obtain rfl:v=cv:=by
    cases c with
    | ref a=>cases hc;exact rv
    | ty n=>cases hc;exact rv
    | _=>cases hc
  rcases ty with ty | ⟨a,oe,C,vs,rfl,rfl,ha,e1,e2,e3,ec⟩
  · exact isinst_ok I ru ty hk fun tk=>⟨.bl b,H,I.tok tk,rfl,q⟩
  · cases ru
    have g:=(I.hok a _ ha).1
    have inst:PySem.W.InstAt s.heap a oe C none:=⟨g,e1,by unfold PySem.W.notCls;rw[e3],by rw[e2];trivial⟩
    exact PySem.W.kia_one (XK.kitx_exc (ox:=oe) ec) I.kIn inst hk (fun z=>nomatch z) fun tk=>⟨.bl b,H,I.tok tk,rfl,q⟩
noncomputable def eqVs (xs ys:List V):Bool:=xs.length==ys.length&&(List.range xs.length).all fun j=>eqV (xs.getD j .non) (ys.getD j .non)
noncomputable def rEqL (K:PySem.W.Frag) (neg:Bool):R2:=fun x y H Q=>∃ a b xs ys,x = .ref a∧y = .ref b∧SqL K H a xs∧SqL K H b ys∧xs.all flatV=true∧ys.all flatV=true∧Q (.bl (if neg then !eqVs xs ys else eqVs xs ys)) H
end
noncomputable def Cal (P:Program) (w:World) (K:PySem.W.Frag) (mg:Str→Option Value) (base:Heap) (CX:CXT) (k:Nat) (x:Str) (ps:List Str) (sp:Sp):Prop :=
  ∃ f fd,mg x=some (.ref f)∧PySem.W.keepIn K (.ref f)=true∧Binds K fd ps []∧FnOk P w K mg base CX k f fd ps sp
noncomputable def CalQ (P:Program) (w:World) (K:PySem.W.Frag) (mg:Str→Option Value) (base:Heap) (k:Nat) (x:Str) (ps:List Str) (sp:Sp):Prop :=
  ∃ f fd,mg x=some (.ref f)∧PySem.W.keepIn K (.ref f)=true∧Binds K fd ps []∧FnOkQ P w K mg base k f fd ps sp
section
variable {X:Cx} {CX:CXT} {j k:Nat} {ps:List Str} {sp:Sp} {x:Str} {p pos:Pos} {e:Expr} {es:List Expr} {t:TA} {E:XK}
theorem pe_cal (C:Cal X.prog X.w X.K X.mg X.base CX k x ps sp) (hr:Room j X.A) (hj:k≤j) (hx:Passes CX X E) (ha:PA X (e::es) t) (hg:Gl X x:=by rfl)
    (hdb:(x==("__debug__":Str))=false:=by decide) (he:starEach (e::es) X.env=(false,eval e X.env)::starEach es X.env:=by exact starEach_cons rfl) (hpl:(backTo pos (starEach es X.env)).any (·.1)=false:=by exact noStars rfl) :
    PE X (.Call (.Name x p) (e::es) [] pos) (fun σ H Q=>t σ H fun vs H1=>sp vs H1 Q E):=by
  obtain⟨f,fd,hm,hk,hb,F⟩:=C
  intro pins s σ H Q I h
  refine pe_call (dvs:=[]) F (hr.mono hj) hg hm hk hb .nil hx ha hdb he hpl pins s σ H Q I ?_
  unfold tCall
  simp only[List.append_nil]
  exact h
end
theorem boot_isinstance:bootBuiltins "isinstance" = some (.builtin "isinstance"):=by kernel_rfl
theorem boot_sum:bootBuiltins "sum" = some (.builtin "sum"):=by kernel_rfl
theorem boot_int:bootBuiltins "int" = some (.type "int"):=by kernel_rfl
theorem boot_bool:bootBuiltins "bool" = some (.type "bool"):=by kernel_rfl
theorem boot_str:bootBuiltins "str" = some (.type "str"):=by kernel_rfl
theorem boot_list:bootBuiltins "list" = some (.type "list"):=by kernel_rfl
theorem boot_tuple:bootBuiltins "tuple" = some (.type "tuple"):=by kernel_rfl
noncomputable def OfT (K:PySem.W.Frag) (H:Hp) (v:V) (T:String):Prop:=TyOf K H v (.type T)
noncomputable def numT:List (String × Bool × Bool × Bool × Bool):=[("NoneType",false,false,false,false),("bool",true,true,false,false),("int",true,false,false,false),("str",false,false,true,false),("list",false,false,false,true),("tuple",false,false,false,false),("dict",false,false,false,false)]
theorem kit_tab {K:PySem.W.Frag}:∀ r∈numT,PySem.W.kitOne K (.type r.1) (.type "int")=some r.2.1∧PySem.W.kitOne K (.type r.1) (.type "bool")=some r.2.2.1∧PySem.W.kitOne K (.type r.1) (.type "str")=some r.2.2.2.1∧PySem.W.kitOne K (.type r.1) (.type "list")=some r.2.2.2.2:=by
  intro r hr
  simp only[numT,List.mem_cons,List.not_mem_nil,or_false] at hr
  rcases hr with rfl | rfl | rfl | rfl | rfl | rfl | rfl <;> exact⟨by rfl,by rfl,by rfl,by rfl⟩
noncomputable def NoNum (K:PySem.W.Frag) (H:Hp) (v:V):Prop:=∃ r∈numT,TyOf K H v (.type r.1)∧r.1≠"int"
noncomputable def NoStr (K:PySem.W.Frag) (H:Hp) (v:V):Prop:=∃ r∈numT,TyOf K H v (.type r.1)∧r.1≠"str"
section
variable {κ:Type} [DecidableEq κ]
noncomputable def valV (kvs:List (κ × V)) (k:κ):Option V:=(kvs.find? fun kv=>decide (kv.1=k)).map (·.2)
noncomputable def putK (kvs:List (κ × V)) (k:κ) (v:V):List (κ × V) :=
  if (kvs.any fun kv=>decide (kv.1=k))=true then kvs.map (fun kv=>if kv.1=k then (kv.1,v) else kv) else kvs++[(k,v)]
noncomputable def dropK (kvs:List (κ × V)) (k:κ):List (κ × V):=kvs.filter fun kv=>decide (kv.1≠k)
end
noncomputable abbrev KT (H:Hp):List (List Key × V)→List (List Key × Addr × Value)→Prop:=Paired fun p q=>p.1=q.1∧H q.2.1=some (.tup (p.1.map kV))∧RelV p.2 q.2.2
section
variable {P:Program} {w:World} {H:Hp} {h:Heap} {a:Addr}
end
noncomputable def DGet (H:Hp) (a:Addr) (y:V) (r:Option V):Prop :=
  (∃ kvs k,Rd H a (.dK kvs)∧y=kV k∧r=valV kvs k)∨∃ kvs k b,Rd H a (.dT kvs)∧y = .ref b∧H b=some (.tup (k.map kV))∧r=valV kvs k
noncomputable def DPut (H:Hp) (a:Addr) (y v:V) (H':Hp):Prop :=
  (∃ kvs k,H a=some (.dK kvs)∧y=kV k∧kvs.length<sizeLine∧H'=upd H a (.dK (putK kvs k v))) ∨
  ∃ kvs k b,H a=some (.dT kvs)∧y = .ref b∧H b=some (.tup (k.map kV))∧kvs.length<sizeLine∧H'=upd H a (.dT (putK kvs k v))
section
variable {X:Cx} {pins:List (Addr × Obj)} {σ:St} {H:Hp} {s:Shared} {a:Addr} {y v:V} {u r:Value} {o:Option V} {A:Around} {E:Value→Shared→Prop}
end
section
variable {X:Cx} {pins:List (Addr × Obj)} {σ:St} {H:Hp} {s:Shared} {a:Addr} {kvs:List (Key × V)} {k:Key} {u:Value} {A:Around} {E:Value→Shared→Prop}
end
noncomputable def NoSl (i:Expr):Prop:=∀ ov iv,subscripted i false ov iv=operate [ov,iv] (getItem ov iv)
noncomputable def tDGet (td ty:TE):TE:=fun σ H Q=>td σ H fun x H1=>ty σ H1 fun y H2=>∃ a v,x = .ref a∧DGet H2 a y (some v)∧Q v H2
noncomputable def tDIn (ty td:TE):TE:=fun σ H Q=>ty σ H fun y H1=>td σ H1 fun x H2=>∃ a o,x = .ref a∧DGet H2 a y o∧Q (.bl o.isSome) H2
noncomputable def tDNotIn (ty td:TE):TE:=fun σ H Q=>ty σ H fun y H1=>td σ H1 fun x H2=>∃ a o,x = .ref a∧DGet H2 a y o∧Q (.bl (!o.isSome)) H2
noncomputable def sDPut (td ty tv:TE):TS:=fun D σ H=>tv σ H fun v H1=>td σ H1 fun x H2=>ty σ H2 fun y H3=>∃ a H4,x = .ref a∧DPut H3 a y v H4∧D.nx σ H4
noncomputable def sDAug (td ty tv:TE) (rd:V→V→Hp→VK→Prop):TS:=fun D σ H=>td σ H fun x H1=>ty σ H1 fun y H2=>∃ a v,x = .ref a∧DGet H2 a y (some v) ∧
  tv σ H2 fun y2 H3=>rd v y2 H3 fun z H4=>∃ H5,DPut H4 a y z H5∧D.nx σ H5
noncomputable def sDDel (td ty:TE):TS:=fun D σ H=>td σ H fun x H1=>ty σ H1 fun y H2=>∃ a kvs k,x = .ref a∧H2 a=some (.dK kvs)∧y=kV k∧(valV kvs k).isSome=true∧D.nx σ (upd H2 a (.dK (dropK kvs k)))
section
variable {X:Cx} {o i e value:Expr} {pos pos' tpos:Pos} {td ty tv:TE}
end
noncomputable def tDNewK:TE:=fun _ H Q=>∀ p,H p=none→Q (.ref p) (upd H p (.dK []))
noncomputable def tDNewT:TE:=fun _ H Q=>∀ p,H p=none→Q (.ref p) (upd H p (.dT []))
section
variable {X:Cx} {pos:Pos}
end
noncomputable def tPairs:List (TE × TE)→St→Hp→(List (V × V)→Hp→Prop)→Prop
  | [],_,H,Q=>Q [] H
  | (tk,tv)::r,σ,H,Q=>tk σ H fun x H1=>tv σ H1 fun y H2=>tPairs r σ H2 fun ps H3=>Q ((x,y)::ps) H3
noncomputable abbrev VV:List (V × V)→List (Value × Value)→Prop:=Paired fun p q=>RelV p.1 q.1∧RelV p.2 q.2
noncomputable def PPs (X:Cx) (pos:Pos) (keys:List (Option Expr)) (values:List Expr) (trs:List (TE × TE)):Prop :=
  ∀ (pins:List (Addr × Obj)) (s:Shared) (σ:St) (H:Hp) (Q:List (V × V)→Hp→Prop),Inv X pins σ H s→tPairs trs σ H Q →
    wpAny (model X.prog X.w) X.A (evalPairs (pairTrees keys values X.env pos)) (fun vs s'=>∃ ps H',Inv X pins σ H' s'∧VV ps vs∧Q ps H') X.xe s
noncomputable def mergeK (kvs more:List (Key × V)):List (Key × V):=more.foldl (fun acc kv=>putK acc kv.1 kv.2) kvs
noncomputable def tDisp (trs:List (TE × TE)):TE:=fun σ H Q=>∀ p,H p=none→tPairs trs σ (upd H p (.dK [])) fun ps H2=>H2 p=some (.dK [])∧∃ kvs:List (Key × V),ps=kvs.map (fun kv=>(kV kv.1,kv.2))∧kvs.length≤15∧Q (.ref p) (upd H2 p (.dK (mergeK [] kvs)))
structure M1 (X:Cx) (o:Expr) (m:Str) (apos:Pos) (e:Expr) (cpos:Pos):Prop where
  base:attributeBase o m X.env (eval o X.env)=eval o X.env
  few:((backTo cpos (starEach [e] X.env)).all (fun x=>!x.1)&&(backToKw cpos (keywordEach [] X.env)).all (fun x=>x.1.isSome)
    && decide (([e]:List Expr).length+([]:List Keyword).length+(if ([]:List Keyword).isEmpty then 0 else 1)<30))=true
  line:(apos.endLine==cpos.line)=true
  trees:backTo cpos (starEach [e] X.env)=[(false,eval e X.env)]
structure M2 (X:Cx) (o:Expr) (m:Str) (apos:Pos) (e f:Expr) (cpos:Pos):Prop where
  base:attributeBase o m X.env (eval o X.env)=eval o X.env
  few:((backTo cpos (starEach [e,f] X.env)).all (fun x=>!x.1)&&(backToKw cpos (keywordEach [] X.env)).all (fun x=>x.1.isSome)
    && decide (([e,f]:List Expr).length+([]:List Keyword).length+(if ([]:List Keyword).isEmpty then 0 else 1)<30))=true
  line:(apos.endLine==cpos.line)=true
  trees:backTo cpos (starEach [e,f] X.env)=[(false,eval e X.env),(false,eval f X.env)]
noncomputable def IsD (H:Hp) (a:Addr):Prop:=(∃ kvs,Rd H a (.dK kvs))∨∃ kvs,Rd H a (.dT kvs)
section
variable {X:Cx} {pins:List (Addr × Obj)} {σ:St} {H:Hp} {s:Shared} {a:Addr} {y d:V} {u r:Value} {o:Option V} {A:Around} {E:Value→Shared→Prop}
end
noncomputable def tDGet1 (td ty:TE):TE:=fun σ H Q=>td σ H fun x H1=>∃ a,x = .ref a∧IsD H1 a∧ty σ H1 fun y H2=>∃ o,DGet H2 a y o∧Q (o.getD .non) H2
noncomputable def tDGet2 (td ty tx:TE):TE:=fun σ H Q=>td σ H fun x H1=>∃ a,x = .ref a∧IsD H1 a∧ty σ H1 fun y H2=>tx σ H2 fun z H3=>∃ o,DGet H3 a y o∧Q (o.getD z) H3
noncomputable def tDPop1 (td ty:TE):TE:=fun σ H Q=>td σ H fun x H1=>∃ a,x = .ref a∧IsD H1 a∧ty σ H1 fun y H2=>∃ kvs k v,H2 a=some (.dK kvs)∧y=kV k∧valV kvs k=some v∧Q v (upd H2 a (.dK (dropK kvs k)))
noncomputable def tDPop2 (td ty tx:TE):TE:=fun σ H Q=>td σ H fun x H1=>∃ a,x = .ref a∧IsD H1 a∧ty σ H1 fun y H2=>tx σ H2 fun z H3=>∃ kvs k,H3 a=some (.dK kvs)∧y=kV k ∧
  (∀ v,valV kvs k=some v→Q v (upd H3 a (.dK (dropK kvs k))))∧(valV kvs k=none→Q z H3)
section
variable {X:Cx} {o e f:Expr} {apos cpos:Pos} {td ty tx:TE}
end
section
variable {X:Cx} {pins:List (Addr × Obj)} {σ:St} {H:Hp} {s:Shared} {a:Addr} {kvs:List (Key × V)} {A:Around} {E:Value→Shared→Prop}
end
section
variable {X:Cx} {pins:List (Addr × Obj)} {σ:St} {H:Hp} {s:Shared} {a:Addr} {y:V} {u:Value} {A:Around} {E:Value→Shared→Prop}
end
section
variable {X:Cx}
end
section
variable {κ:Type} [DecidableEq κ]
end
theorem Same.upd {H:Hp} {p:Addr} {o:HO} (hp:H p=none):Same H (L2.upd H p o):=fun b u e=>by
  rw[upd_ne (ne_of_none e hp)]
  exact e
theorem Same.tup {K:PySem.W.Frag} {H H':Hp} {a:Addr} {xs:List V} (e:Same H H') (h:SqT K H a xs):SqT K H' a xs:=by
  rcases h with (h | ⟨o,h⟩) | h
  · exact .inl (.inl (e _ _ h))
  · exact .inl (.inr ⟨o,e _ _ h⟩)
  · exact .inr h
section
variable {K:PySem.W.Frag} {H:Hp}
end
noncomputable def isSl:Expr→Bool
  | .Slice _ _ _ _=>true
  | _=>false
theorem plain_ix {b:Expr} (h:isSl b=false):PlainIx b:=fun o i=>by
  cases b <;> first | rfl | cases h
theorem pe_at {X:Cx} {a b:Expr} {ta tb:TE} {pos:Pos} {r:R2} (hr:IxR X r) (ha:PE X a ta) (hb:PE X b tb) (hs:isSl b=false:=by rfl):PE X (.Subscript a b pos) (tOp r ta tb):=pe_ix hr ha hb (plain_ix hs)
theorem atI_of {α:Type} {xs:List α} {i:Int} {v:α} (h0:0≤i) (h:xs[i.toNat]? = some v):atI xs i=some v:=by
  have e:=atI_nat h
  rwa [Int.toNat_of_nonneg h0] at e
theorem at_any {α:Type} {xs:List α} {i:Int} (h0:0≤i) (h1:i<xs.length):∃ v,atI xs i=some v∧v∈xs:=by
  have hl:i.toNat<xs.length:=by omega
  exact⟨xs[i.toNat],atI_of h0 (List.getElem?_eq_getElem hl),List.getElem_mem hl⟩
theorem dStr {a b:Str}:(decide (V.str a=V.str b)=true)↔a=b:=by rw[decide_eq_true_iff];exact⟨fun h=>V.str.inj h,fun h=>congrArg V.str h⟩
theorem dInt {a b:Int}:(decide (V.int a=V.int b)=true)↔a=b:=by rw[decide_eq_true_iff];exact⟨fun h=>V.int.inj h,fun h=>congrArg V.int h⟩
theorem dIntB (a b:Int):decide (V.int a=V.int b)=decide (a=b):=Bool.eq_iff_iff.mpr (dInt.trans decide_eq_true_iff.symm)
noncomputable def cellZ (ns:List Int) (k:Int):Int:=ns.getD k.toNat 0
noncomputable def mixZ (ns:List Int) (k:Int):Int:=(cellZ ns k*48271+7919*k*k*k+104729)%2147483647*16807%2147483629
theorem cell_at {ns:List Int} {k:Int} (h0:0≤k) (h:k<((ns.map V.int).length:Nat)):atI (ns.map V.int) k=some (.int (cellZ ns k)):=by
  rw[List.length_map] at h
  have hl:k.toNat<ns.length:=by omega
  refine atI_of h0 ?_
  unfold cellZ
  rw[List.getElem?_map,List.getElem?_eq_getElem hl,List.getD_eq_getElem?_getD,List.getElem?_eq_getElem hl]
  rfl
theorem cell_out {ns:List Int} {k:Int} (h:¬ k<((ns.map V.int).length:Nat)):cellZ ns k=0:=by
  rw[List.length_map] at h
  unfold cellZ
  rw[List.getD_eq_getElem?_getD,List.getElem?_eq_none (by omega)]
  rfl
theorem lenOk {n:Nat} (h:Nat.ble n 1000=true):n≤sizeLine:=Nat.le_trans (Nat.le_of_ble_eq_true h) (by decide)
noncomputable def New (H:Hp) (o:HO) (Q:VK):Prop:=∀ p H',Same H H'→H p=none→H' p=some o→Q (.ref p) H'
theorem New.at {H:Hp} {o:HO} {Q:VK} (h:New H o Q) {p:Addr} (hp:H p=none):Q (.ref p) (upd H p o):=h p _ (Same.upd hp) hp upd_same
noncomputable def tTupS (t:TA):TE:=fun σ H Q=>t σ H fun xs H1=>xs.length≤sizeLine∧New H1 (.tup xs) Q
noncomputable def tLstS (t:TA):TE:=fun σ H Q=>t σ H fun xs H1=>xs.length≤sizeLine∧New H1 (.lst xs) Q
section
variable {X:Cx} {es:List Expr} {t:TA} {pos:Pos}
theorem pe_tupS {x1} (h:PA X es t):PE X (.Tuple es x1 pos) (tTupS t):=by
  intro pins s σ H Q I hq
  refine wpAny_Tuple_spliced (thn (h pos pins s σ H _ I hq) fun us s1 ⟨xs,H1,I1,r,z,q⟩=>⟨by rw[← r.length];exact z,?_⟩)
  have hf:H1 s1.heap.objs.size=none:=I1.hok.fresh (Nat.le_refl _)
  refine⟨.ref s1.heap.objs.size,upd H1 s1.heap.objs.size (.tup xs),I1.laid (t':=s1.toks) (fun b u e=>Heap.get?_push_of_some _ e) (Nat.le_refl _) ?_,rfl,q.at hf⟩
  exact⟨z,us,r,⟨_,Heap.get?_push_size _ rfl,rfl,_,rfl⟩⟩
theorem pe_lstS (h:PA X es t):PE X (.List es pos) (tLstS t):=by
  intro pins s σ H Q I hq
  refine wpAny_List_spliced (thn (h pos pins s σ H _ I hq) fun us s1 ⟨xs,H1,I1,r,z,q⟩=>⟨by rw[← r.length];exact z,?_⟩)
  have hf:H1 s1.heap.objs.size=none:=I1.hok.fresh (Nat.le_refl _)
  refine⟨.ref s1.heap.objs.size,upd H1 s1.heap.objs.size (.lst xs),I1.laid (t':=s1.toks) (fun b u e=>Heap.get?_push_of_some _ e) (Nat.le_refl _) ?_,rfl,q.at hf⟩
  exact⟨z,us,0,r,Heap.get?_push_size _ rfl⟩
noncomputable def tDNewS:TE:=fun _ H Q=>New H (.dK []) Q
noncomputable def rCatS:R2:=fun x y H Q=>∃ l b xs zs,x = .ref l∧y = .ref b∧H l=some (.lst xs)∧H b=some (.lst zs)∧xs.length+zs.length≤sizeLine∧New H (.lst (xs++zs)) Q
theorem op_catS:OpR X (binaryOp .Add) rCatS:=fun pins s σ H x y v u Q I rx ry ⟨l,b,xs,zs,e1,e2,h1,h2,hz,q⟩=>op_cat pins s σ H x y v u Q I rx ry ⟨l,b,xs,zs,e1,e2,h1,h2,hz,fun p hp=>q.at hp⟩
noncomputable def rRepS:R2:=fun x y H Q=>∃ l k xs,x = .ref l∧y = .int k∧H l=some (.lst xs)∧-(2 ^ 63)≤k∧k<2 ^ 63∧xs.length*k.toNat≤sizeLine∧New H (.lst (List.replicate k.toNat xs).flatten) Q
end
structure Held (K:PySem.W.Frag) (H:Hp) (ea C:Addr):Prop where
  ex:∃ oe vs,H ea=some (excO ea oe)∧oe.cls = .ref C∧oe.dict=none∧oe.data = .fields vs
  cls:XK.ExcCls K C
section
variable {X:Cx}
theorem Inv.walked {pins:List (Addr × Obj)} {σ:St} {H:Hp} {s:Shared} (I:Inv X pins σ H s) {u:Obj} {h':Heap} {tk:Nat} (hk:∀ b o,b∉[s.heap.objs.size]→(s.heap.push u).get? b=some o→h'.get? b=some o) :
    Inv X pins σ H { s with heap:=h',toks:=tk } :=
  I.kept (t':=tk) fun b o e=>hk b o (by simp;exact Nat.ne_of_lt (Heap.lt_size e)) (Heap.get?_push_of_some _ e)
theorem range_all {α:Type} (bs:List α) (d:α) (p:α→Bool):(List.range bs.length).all (fun i=>p (bs.getD i d))=bs.all p:=by
  induction bs with
  | nil=>rfl
  | cons b r ih =>
    rw[List.length_cons,List.range_succ_eq_map,List.all_cons,List.all_map,List.all_cons]
    congr 1
theorem val_bl {bs:List Bool} {its:List Value} (rv:Vals (bs.map V.bl) its) {i:Nat} {v:Value} (e:its.toArray[i]? = some v):v = .bool (bs.getD i false):=by
  have hl:=rv.length
  rw[List.length_map] at hl
  have hi:i<its.length:=by
    have:=(Array.getElem?_eq_some_iff.mp e).1
    simpa using this
  have hx:(bs.map V.bl)[i]? = some (V.bl (bs.getD i false)):=by
    rw[List.getElem?_map,List.getElem?_eq_getElem (by omega),List.getD_eq_getElem?_getD,List.getElem?_eq_getElem (by omega)]
    rfl
  obtain⟨u,e1,e2⟩:=rv.get hx
  have e3:its[i]? = some v:=by simpa using e
  rw[e1] at e3
  cases e3
  exact e2
theorem call_allL (hc:X.calm=true):CallR X (.builtin "all") (fun xs H Q=>∃ (a:Addr) (bs:List Bool),xs=[.ref a]∧SqL X.K H a (bs.map V.bl)∧Q (.bl (bs.all id)) H):=by
  intro pins s σ H xs us Q I r h
  obtain⟨a,bs,rfl,hS,q⟩:=h
  obtain⟨u,rfl,ru⟩:=vals1 r
  cases ru
  obtain⟨its,rv,pl,hz⟩:=I.list hS
  have hl:its.length=bs.length:=by rw[← rv.length,List.length_map]
  have hlt:a≠s.heap.objs.size:=by obtain⟨o,e,_⟩:=pl.isList;exact Nat.ne_of_lt (Heap.lt_size e)
  refine call_all_walk (wpAny_pyIter_list pl.isList ?_)
  refine⟨s.heap.objs.size,_,_,_,_,_,fun i=>bs.getD i false,rfl,Walks.list (A:=X.A.in1) (I.ok.hd hc) _ a hlt its.toArray,⟨⟨_,Heap.get?_push_size _ rfl,rfl,rfl⟩,pl.isList.push _⟩,fun i v s' Q' E' hP hQ=>?_,fun h' tk hk=>?_⟩
  · rw[val_bl rv hP]
    exact wpAny_truthy_bool hQ
  · refine⟨.bl _,H,I.walked hk,rfl,?_⟩
    have e:(List.range its.toArray.size).all (fun i=>bs.getD i false)=bs.all id:=by
      rw[List.size_toArray,hl]
      exact range_all bs false id
    rw[e]
    exact q
theorem val_int {ns:List Int} {its:List Value} (rv:Vals (ns.map V.int) its) {i:Nat} {v:Value} (e:its.toArray[i]? = some v):∃ t,v = .int (ns.getD i 0) t:=by
  have hl:=rv.length
  rw[List.length_map] at hl
  have hi:i<its.length:=by
    have:=(Array.getElem?_eq_some_iff.mp e).1
    simpa using this
  have hx:(ns.map V.int)[i]? = some (V.int (ns.getD i 0)):=by
    rw[List.getElem?_map,List.getElem?_eq_getElem (by omega),List.getD_eq_getElem?_getD,List.getElem?_eq_getElem (by omega)]
    rfl
  obtain⟨u,e1,e2⟩:=rv.get hx
  have e3:its[i]? = some v:=by simpa using e
  rw[e1] at e3
  cases e3
  exact e2
theorem preSum_take (l:List Int):∀ j,preSum (fun i=>l.getD i 0) j=(l.take j).sum
  | 0=>by simp[preSum]
  | j+1=>by
    rw[preSum,preSum_take l j]
    by_cases h:j<l.length
    · have e:l.take (j+1)=l.take j++[l[j]]:=by rw[List.take_succ,List.getElem?_eq_getElem h];rfl
      rw[e,List.sum_append,List.getD_eq_getElem?_getD,List.getElem?_eq_getElem h]
      simp
    · rw[List.take_of_length_le (by omega),List.take_of_length_le (by omega),List.getD_eq_getElem?_getD,List.getElem?_eq_none (by omega)]
      simp
theorem call_sumL (hc:X.calm=true):CallR X (.builtin "sum") (fun xs H Q=>∃ (a:Addr) (ns:List Int),xs=[.ref a]∧SqL X.K H a (ns.map V.int)∧Q (.int ns.sum) H):=by
  intro pins s σ H xs us Q I r h
  obtain⟨a,ns,rfl,hS,q⟩:=h
  obtain⟨u,rfl,ru⟩:=vals1 r
  cases ru
  obtain⟨its,rv,pl,hz⟩:=I.list hS
  have hl:its.length=ns.length:=by rw[← rv.length,List.length_map]
  have hlt':a<s.heap.objs.size:=by obtain⟨o,e,_⟩:=pl.isList;exact Heap.lt_size e
  have hlt:a≠s.heap.objs.size:=Nat.ne_of_lt hlt'
  refine call_sum_walkG (wpAny_pyIter_list pl.isList ?_)
  refine⟨s.heap.objs.size,_,_,_,_,_,fun i=>ns.getD i 0,rfl,Walks.list (A:=X.A.in1) (I.ok.hd hc) _ a hlt its.toArray,⟨⟨_,Heap.get?_push_size _ rfl,rfl,rfl⟩,pl.isList.push _⟩,fun b hb=>?_,fun i v hP=>val_int rv hP,fun h' tk t' hk=>?_⟩
  · show b<(s.heap.push _).objs.size
    rw[Heap.size_push]
    rcases List.mem_cons.mp hb with rfl | hb
    · exact Nat.lt_succ_self _
    · rw[List.mem_singleton.mp hb]
      exact Nat.lt_succ_of_lt hlt'
  · refine⟨.int _,H,I.walked hk,⟨t',rfl⟩,?_⟩
    have e:preSum (fun i=>ns.getD i 0) its.toArray.size=ns.sum:=by
      rw[List.size_toArray,hl,preSum_take,List.take_of_length_le (Nat.le_refl _)]
    rw[e]
    exact q
end
noncomputable def cutL (l:List Nat) (lo hi:Option Int):List Nat:=(l.drop (HT.sIx l.length 0 lo)).take (HT.sIx l.length l.length hi - HT.sIx l.length 0 lo)
theorem clip_lo (n d:Nat) (v:Int):max 0 (min (if v<0 then v+(n:Int) else v) (n:Int))=((HT.sIx n d (some v):Nat):Int):=by
  show _=(((if v<0 then (v+(n:Int)).toNat else min v.toNat n):Nat):Int)
  by_cases hv:v<0
  · have le:=Int.add_le_add_right (Int.le_of_lt hv) (n:Int)
    rw[Int.zero_add] at le
    rw[if_pos hv,if_pos hv,Int.min_eq_left le,Int.ofNat_toNat,Int.max_comm]
  · obtain⟨m,rfl⟩:=Int.eq_ofNat_of_zero_le (Int.not_lt.mp hv)
    rw[if_neg hv,if_neg hv,Int.toNat_natCast,Int.max_eq_right (Int.le_min.mpr ⟨Int.natCast_nonneg m,Int.natCast_nonneg n⟩)]
    rcases Nat.le_total m n with c | c
    · rw[Nat.min_eq_left c,Int.min_eq_left (Int.ofNat_le.mpr c)]
    · rw[Nat.min_eq_right c,Int.min_eq_right (Int.ofNat_le.mpr c)]
theorem slice_ix (lo hi:Option Int) (n:Nat):Builtin.Str.strSliceIndices lo hi 1 n=sliceRange ((HT.sIx n 0 lo:Nat):Int) ((HT.sIx n n hi:Nat):Int) 1:=by
  unfold Builtin.Str.strSliceIndices
  simp only[show (1:Int) > 0 by decide,if_true]
  cases lo with
  | none =>
    cases hi with
    | none=>rfl
    | some j=>simp only[clip_lo n n j];rfl
  | some i =>
    cases hi with
    | none=>simp only[clip_lo n 0 i];rfl
    | some j=>simp only[clip_lo n 0 i,clip_lo n n j]
theorem slice_codes (z:Str) (lo hi:Option Int):(Txt.slice z lo hi).cps.toList=cutL z.cps.toList lo hi:=by
  have len:z.length=z.cps.toList.length:=Array.length_toList.symm
  have ix:=(slice_ix lo hi z.length).trans (sliceRange_one _ _)
  have key:(Builtin.Str.strSliceIndices lo hi 1 z.length).filterMap (z.cps[·]?)=cutL z.cps.toList lo hi:=by
    rw[ix,pick_run,len]
    rfl
  unfold Txt.slice
  split
  · rename_i h
    have h:(Builtin.Str.strSliceIndices lo hi 1 z.length).length=z.length:=by simpa using h
    rw[ix,List.length_map,List.length_range,len] at h
    have a2:=HT.sIx_le z.cps.toList.length z.cps.toList.length (Nat.le_refl _) hi
    have hl:(cutL z.cps.toList lo hi).length=z.cps.toList.length:=by
      unfold cutL
      rw[List.length_take,List.length_drop,h]
      exact Nat.min_eq_left (Nat.le_trans (Nat.le_of_eq h.symm) (Nat.sub_le_sub_right a2 _))
    exact (((List.take_sublist _ _).trans (List.drop_sublist _ _)).eq_of_length hl).symm
  · exact key
noncomputable def rSlS:V→Option Int→Option Int→Hp→VK→Prop:=fun x lo hi H Q=>∃ z,x = .str z∧z.length≤sizeLine∧Q (.str (Txt.slice z lo hi)) H
theorem part_some {v:Value} {o:Option Int} (p:IsPart v o):∃ l:Option (Int × Tok),v=partValue l∧o=l.map (·.1):=by
  cases p with
  | none=>exact⟨none,rfl,rfl⟩
  | int i t=>exact⟨some (i,t),rfl,rfl⟩
theorem sl_str {X:Cx}:SlR X rSlS:=by
  intro pins s σ H x v vl vu lo hi sl Q I rx hs pl pu h
  obtain⟨z,rfl,hz,q⟩:=h
  obtain⟨t,rfl⟩:=rx
  obtain⟨l,rfl,rfl⟩:=part_some pl
  obtain⟨u,rfl,rfl⟩:=part_some pu
  refine⟨"str",_,F.slot_str_getitem.lookup,typeIs_str _ _ _,wpAny_getItem_str_slice (l:=l) (u:=u) (st:=none) hs rfl ?_⟩
  exact post_val_or_str ⟨Nat.le_trans (Txt.slice_le z _ _) hz,fun t' k=>⟨.str _,H,I.tok k,⟨t',rfl⟩,q⟩⟩
noncomputable def cxCompF (X:Cx) (Nc:List Str) (scope:Scope) (cl:List (Str × Addr)) (C:Addr) (fp:List Addr) (s:Shared) (H:Hp):Cx :=
  { X with N:=Nc,s₀:=s,H₀:=H,env:=compEnvC scope cl C X.env,outer:=X.stack,ex:=fp,fn:=fun _=>false,pn:=[],xe:=fun _ _=>False }
noncomputable def tTurnsI (J:It) (D:Addr) (g:TG) (tt:TT) (te:TE) (fin:List V→Hp→Prop) (σ:St) (H:Hp):Prop :=
  ∃ W:Nat→Nat→List V→St→Hp→Prop,(∃ m,W 0 m [] σ H)∧(∀ i m ys σ H,W i m ys σ H→H D=some (.lst ys)) ∧
    ∀ i m ys σ H,W i m ys σ H→(J.stop i H∧fin ys H) ∨
      (J.go i H∧∃ N:List V→St→Hp→Prop,(∀ ys' σ' H',N ys' σ' H'→∃ m',m'<m∧W (i+1) m' ys' σ' H') ∧
        ∀ x H',J.yld i H x H'→g x σ H' fun σ1 H1=>tt σ1 H1 fun b H2=>if b=true then te σ1 H2 fun y H3=>H3 D=some (.lst ys)∧ys.length<sizeLine∧N (ys++[y]) σ1 (upd H3 D (.lst (ys++[y]))) else N ys σ1 H2)
noncomputable def tCompI (src:List (Option Nat)) (wi:TI) (g:TG) (tt:TT) (te:TE):TE:=fun σ H Q=>wi σ H fun J H1=>∀ D,H1 D=none→tTurnsI J D g tt te (fun ys H2=>Q (.ref D) H2) (capt src σ) (upd H1 D (.lst []))
section
variable {X:Cx} {elt iter tgt:Expr} {ifs:List Expr} {scope:Scope} {cl:List (Str × Addr)} {Nc:List Str} {src:List (Option Nat)} {g:TG} {tt:TT} {te:TE}
theorem comp_blockI {pins:List (Addr × Obj)} {σ:St} {H:Hp} {s:Shared} {D it:Addr} {fp:List Addr} {tn:Nat→Heap→Prop} {J:It} {R:Addr→Result→Shared→Prop} {fin:List V→Hp→Prop} {pos:Pos} {E:Value→Shared→Prop}
    (c:CompOk X Nc scope cl src) (hcalm:X.calm=true) (I:Inv X pins σ H s) (T:Turn X.prog X.w X.K tgt J fp it tn) (st0:tn 0 s.heap) (f:∀ b∈fp,FpOk X pins H b)
    (hb:∀ C s' H',PG (cxCompF X Nc scope cl C fp s' H') tgt g∧PIf (cxCompF X Nc scope cl C fp s' H') ifs tt∧PE (cxCompF X Nc scope cl C fp s' H') elt te)
    (h:tTurnsI J D g tt te fin (capt src σ) H)
    (kend:∀ C ys σ' H' s',H C=none→Inv (cxCompF X Nc scope cl C fp s H) [] σ' H' s'→H' D=some (.lst ys)→fin ys H'→R C (.ok .next) s') :
    wpAny (model X.prog X.w) X.A (newFunctionEnv scope X.env.globals cl [] X.env.qual none .none (some X.env)) (fun cenv s4 =>
      codeAny (model X.prog X.w) X.A (.compStart (.ListComp elt [⟨tgt,iter,ifs,0⟩] scope pos) 0 (.ref it) (.ref D) { cenv with scope:=relabel scope X.env }) (R cenv.locals) s4) E s:=by
  obtain⟨W,⟨m0,w0⟩,wi,wt⟩:=h
  refine wpAny_newFunctionEnv c.cell (by intro y hy;simp at hy) (fun h1 hn1 hs1=>?_) c.kind
  have hC0:H s.heap.objs.size=none:=I.hok.fresh (Nat.le_refl _)
  have old:∀ b o,s.heap.get? b=some o→h1.get? b=some o:=fun b o e=>hs1.extBut b o (Nat.ne_of_lt (Heap.lt_size e)) (Heap.get?_push_of_some _ e)
  have fplt:∀ b∈fp,b<s.heap.objs.size:=fun b hb=>by
    obtain⟨o,e,_⟩:=T.obj 0 _ st0 b hb
    exact Heap.lt_size e
  have inStk:∀ b∈fp,b∉frs X.stack:=fun b hb z=>(List.mem_cons.mp (I.stkSub b z)).elim (f b hb).2.1 (f b hb).2.2.1
  have Yok:(cxCompF X Nc scope cl s.heap.objs.size fp s H).Ok:=by
    refine⟨I.ok.mod,c.kind,I.ok.glob,I.ok.blt,Nat.le_refl _,fun x y b h1 h2=>I.ok.inj x y b (c.sub x b h1) (c.sub y b h2),fun x hx=>c.has x hx,(fun x b h1 _=>nomatch h1),I.ok.hd,I.ok.frames,.inl rfl,fun b hb=>?_,fun b o e=>I.bs b o e,Nat.le_trans I.ok.bsz I.sz,fun b o e hb=>?_,fun b hb=>?_,I.stack,I.stkFree⟩
    · exact⟨Nat.ne_of_lt (fplt b hb),fun x b' e=>(f b hb).2.2.2.2.1 x b' (c.sub x b' e)⟩
    · have e0:=(I.ok.bs b o e).1
      rcases (f b hb).2.2.2.1 with z | z
      · exact I.ok.noex b o e z
      · rw[z] at e0;cases e0
    · exact inStk b hb
  have J0:Inv (cxCompF X Nc scope cl s.heap.objs.size fp s H) [] (capt src σ) H { s with heap:=h1,toks:=s.toks+([]:List (Str × Value)).length }:=by
    refine⟨Yok,rfl,I.bare,Un.kept old,⟨_,hn1,fun i x v e1 e2 e3=>?_⟩,fun x b e=>?_,hC0,fun x b e=>I.freeC x b (c.sub x b e),fun p hp=>absurd (show p∈([]:List (Addr × Obj)) from hp) (by simp),I.hok.kept old,?_⟩
    · unfold capt at e2
      rw[List.getElem?_map] at e2
      cases q:src[i]? with
      | none=>rw[q] at e2;cases e2
      | some oj =>
        rw[q] at e2
        cases oj with
        | none=>cases e2
        | some j =>
          obtain⟨y,y1,y2,y3,y4⟩:=c.frm i j q
          obtain rfl:y=x:=Option.some.inj (y1.symm.trans e1)
          have e2':(σ[j]?).join=some v:=Option.some.inj e2
          have e2s:σ[j]? = some (some v):=by
            cases z:σ[j]? with
            | none=>rw[z] at e2';cases e2'
            | some ov=>rw[z] at e2';exact congrArg some e2'
          obtain⟨m,hn,hl⟩:=I.loc
          obtain⟨u,r,l⟩:=hl j y v y2 e2s (.inr (.inl y3))
          refine⟨u,r,.inr ⟨.inl y4,?_⟩⟩
          rcases l with ⟨k1,_⟩ | ⟨_,b,k2,k3⟩
          · exact absurd (k1.symm.trans y3) (by intro z;cases z)
          · obtain⟨b',k4⟩:=c.has y (.inl y4)
            have k5:=c.sub y b' k4
            rw[k2] at k5
            cases k5
            obtain⟨o,ho,hd⟩:=k3
            exact⟨b,k4,o,old b o ho,hd⟩
    · obtain⟨v,o,ho,hd⟩:=I.cell x b (c.sub x b e)
      exact⟨v,o,old b o ho,hd⟩
    · unfold capt
      rw[List.length_map]
      exact c.len
  have st1:tn 0 h1:=T.keep _ _ _ st0 fun b _ o e=>old b o e
  obtain⟨bg,bi,be⟩:=hb s.heap.objs.size s H
  have fpY:∀ {H2:Hp},(∀ b∈fp,H2 b=none)→∀ b∈fp,FpOk (cxCompF X Nc scope cl s.heap.objs.size fp s H) [] H2 b:=fun {H2} n b hb =>
    ⟨n b hb,Nat.ne_of_lt (fplt b hb),inStk b hb,.inl hb,fun x b' e=>(f b hb).2.2.2.2.1 x b' (c.sub x b' e),fun p hp=>absurd (show p∈([]:List (Addr × Obj)) from hp) (by simp)⟩
  have loop:codeAny (model X.prog X.w) X.A (.compLoop (.ListComp elt [⟨tgt,iter,ifs,0⟩] scope pos) 0 (.ref it) (.ref D) (compEnvC scope cl s.heap.objs.size X.env)) (R s.heap.objs.size) { s with heap:=h1,toks:=s.toks+([]:List (Str × Value)).length }:=by
    refine comp_loop (fun n s'=>∃ i ys σ' H',Inv (cxCompF X Nc scope cl s.heap.objs.size fp s H) [] σ' H' s'∧tn i s'.heap∧(∀ b∈fp,H' b=none)∧W i n ys σ' H') ?_ m0 ⟨0,[],_,H,J0,st1,fun b hb=>(f b hb).1,w0⟩
    rintro n s2 ⟨i,ys,σ2,H2,J2,st2,fr2,w2⟩
    have q2:=wi i n ys σ2 H2 w2
    rcases wt i n ys σ2 H2 w2 with ⟨stop,qn⟩ | ⟨go,N,hN,step⟩
    · refine thn (T.done (cxCompF X Nc scope cl s.heap.objs.size fp s H) rfl rfl rfl hcalm i [] s2 σ2 H2 _ J2 (fpY fr2) st2 stop) fun r s4 ⟨hr,I4⟩=>?_
      subst hr
      exact kend _ ys σ2 H2 _ hC0 I4 q2 qn
    · refine thn (T.item (cxCompF X Nc scope cl s.heap.objs.size fp s H) rfl rfl rfl hcalm i [] s2 σ2 H2 _ J2 (fpY fr2) st2 go) fun r s4 ⟨u,hr,h4⟩=>?_
      subst hr
      refine thn h4 fun _ s5 ⟨x,H5,I5,r5,y5,st5,fr5⟩=>?_
      have I5':=I5.pinned (fpY fr5) (T.obj _ _ st5)
      have back:∀ {σ7:St} {H7:Hp} {s7:Shared},Inv (cxCompF X Nc scope cl s.heap.objs.size fp s H) ([]++pinsAt fp s5.heap) σ7 H7 s7→Inv (cxCompF X Nc scope cl s.heap.objs.size fp s H) [] σ7 H7 s7∧tn (i+1) s7.heap∧∀ b∈fp,H7 b=none:=fun {σ7 H7 s7} I7=>by
        refine⟨I7.unpinned,T.keep _ _ _ st5 fun b hb o e=>(I7.pin (b,o) (List.mem_append_right _ (List.mem_append_right _ (mem_pinsAt hb e)))).1,fun b hb=>?_⟩
        obtain⟨o,e,d⟩:=T.obj _ _ st5 b hb
        exact (I7.pin (b,o) (List.mem_append_right _ (List.mem_append_right _ (mem_pinsAt hb e)))).2.1
      refine thn (bg _ s5 σ2 H5 x u _ I5' r5 (step x H5 y5)) fun _ s6 ⟨σ6,H6,I6,q6⟩=>?_
      refine thn (bi _ s6 σ6 H6 _ I6 q6) fun b s7 ⟨H7,I7,q7⟩=>?_
      cases b with
      | false =>
        obtain⟨m',hm,w7⟩:=hN _ _ _ q7
        obtain⟨J7,st7,fr7⟩:=back I7
        exact⟨m',hm,i+1,ys,σ6,H7,J7,st7,fr7,w7⟩
      | true =>
        refine thn (be _ s7 σ6 H7 _ I7 q7) fun y s8 ⟨vy,H8,I8,ry,hD8,hl8,n8⟩=>?_
        refine thn (mt_append (X:=cxCompF X Nc scope cl s.heap.objs.size fp s H) _ s8 σ6 H8 (.ref D) [vy] (.ref D) [y] (fun _ H'=>H'=upd H8 D (.lst (ys++[vy]))) I8 rfl (.cons ry .nil) ⟨D,ys,vy,rfl,rfl,hD8,hl8,rfl⟩) fun _ s9 ⟨_,H9,I9,_,e9⟩=>?_
        subst e9
        obtain⟨m',hm,w8⟩:=hN _ _ _ n8
        obtain⟨J9,st9,fr9⟩:=back I9
        exact⟨m',hm,i+1,ys++[vy],σ6,_,J9,st9,fr9,w8⟩
  exact codeAny_compStart_list loop (T.self _ 0 _ _ _ st1 loop)
theorem comp_backI {pins:List (Addr × Obj)} {σ σ':St} {H H':Hp} {s s':Shared} {C:Addr} {fp:List Addr} {h':Heap} (I:Inv X pins σ H s) (f:∀ b∈fp,FpOk X pins H b) (J:Inv (cxCompF X Nc scope cl C fp s H) [] σ' H' s') (hs:Heap.SameBut C s'.heap h') :
    Inv X pins σ H' { s' with heap:=h' }:=by
  have nC:∀ b o,s.heap.get? b=some o→b≠C:=fun b o e=>Nat.ne_of_lt (Nat.lt_of_lt_of_le (Heap.lt_size e) J.ok.above)
  have B:=J.base
  refine I.call' (s':={ s' with heap:=h' }) (ch:=fp) J.os ⟨fun b o e n hb hx=>(hs.2 b (nC b o e)).trans (B.keep b o e n hb hx),fun b o e n hb hx=>?_,B.free,fun b o e hx=>?_,B.tups,B.frzs,B.tbls⟩ (fun b u q=>?_) J.bare fun b hb=>?_
  · obtain⟨sl,z⟩:=B.slot b o e n hb hx
    exact⟨sl,(hs.2 b (nC b o e)).trans z⟩
  · obtain⟨o',z⟩:=B.there b o e hx
    exact⟨o',(hs.2 b (nC b o e)).trans z⟩
  · have hC:H' C=none:=J.free
    refine (J.hok b u q).stay (fun c v hc z=>(hs.2 c ?_).trans z) (fun _ z=>z) fun _ _ z=>z
    rintro rfl
    rcases hc with hc | hc
    · rw[← hc,hC] at q;cases q
    · rw[hC] at hc;cases hc
  · exact⟨(f b hb).2.2.2.1,(f b hb).2.1,(f b hb).2.2.2.2.1,(f b hb).2.2.2.2.2⟩
theorem pe_compI {wi:TI} {pos:Pos} (c:CompOk X Nc scope cl src) (hcalm:X.calm=true) (hi:PI X tgt iter wi)
    (hb:∀ fp C s' H',PG (cxCompF X Nc scope cl C fp s' H') tgt g∧PIf (cxCompF X Nc scope cl C fp s' H') ifs tt∧PE (cxCompF X Nc scope cl C fp s' H') elt te)
    (hs:∀ x,foldedSetIterable iter X.env x=pure x:=by intro _;rfl):PE X (.ListComp elt [⟨tgt,iter,ifs,0⟩] scope pos) (tCompI src wi g tt te):=by
  intro pins s σ H Q I h
  rw[eval_ListComp]
  refine wpAny_comprehension_free (use:=none) rfl hs c.clos c.kind c.names (thn (hi pins s σ H _ I h) fun v s1 h1=>thn h1 fun itv s2 h2=>?_)
  obtain⟨it,fp,tn,J,H2,e,I2,T,st2,f2,hT⟩:=h2
  subst e
  refine wpAny_newObj_type ?_ (by size_fits)
  have old:∀ b o,s2.heap.get? b=some o→(s2.heap.push { cls:=.type "list",data:=.seq ([]:List Value).toArray }).get? b=some o:=fun b o e=>Heap.get?_push_of_some _ e
  have I3:=I2.laid (a:=s2.heap.objs.size) (o:=.lst []) (t':=s2.toks) (h':=s2.heap.push { cls:=.type "list",data:=.seq ([]:List Value).toArray }) old (Nat.le_refl _) ⟨Nat.zero_le _,[],0,.nil,Heap.get?_push_size _ rfl⟩
  have ne:∀ b∈fp,b≠s2.heap.objs.size:=fun b hb=>by
    obtain⟨o,e,_⟩:=T.obj 0 _ st2 b hb
    exact Nat.ne_of_lt (Heap.lt_size e)
  have f3:∀ b∈fp,FpOk X pins (upd H2 s2.heap.objs.size (.lst [])) b:=fun b hb=>⟨by rw[upd_ne (ne b hb)];exact (f2 b hb).1,(f2 b hb).2⟩
  refine comp_blockI (it:=it) (R:=fun C=>compPost (model X.prog X.w) X.A X.xe none (EP X pins σ Q) _ C) c hcalm I3 T (T.keep _ _ _ st2 fun b _ o e=>old b o e) f3 (hb fp) (hT _ (I2.hok.fresh (Nat.le_refl _))) fun C ys σ' H' s' hC J' hD q=>?_
  obtain⟨m,hn,_⟩:=id J'.loc
  exact⟨m,hn,fun h' hs'=>⟨.ref _,H',comp_backI I3 f3 J' hs',rfl,q⟩⟩
end
section
variable {K:PySem.W.Frag} {a D:Addr} {xs:List V} {g:TG} {tt:TT} {te:TE} {fin:List V→Hp→Prop} {σ:St} {H:Hp}
noncomputable def cTurn (D:Addr) (g:TG) (tt:TT) (te:TE) (x:V) (ys:List V) (N:List V→St→Hp→Prop) (σ:St) (H:Hp):Prop :=
  g x σ H fun σ1 H1=>tt σ1 H1 fun b H2=>if b=true then te σ1 H2 fun y H3=>H3 D=some (.lst ys)∧ys.length<sizeLine∧N (ys++[y]) σ1 (upd H3 D (.lst (ys++[y]))) else N ys σ1 H2
end
noncomputable def CanCall (X:Cx) (v:V) (vs:List V) (H:Hp) (Q:VK):Prop :=
  ∃ (CX:CXT) (k:Nat) (f:Addr) (fd:FuncData) (ps:List Str) (sp:Sp) (E:XK),v = .ref f∧FnOk X.prog X.w X.K X.mg X.base CX k f fd ps sp∧Room k X.A∧Binds X.K fd ps []∧Passes CX X E∧sp vs H Q E
noncomputable def CDivB (i j:Int):Prop:=0<j∧j<2 ^ 64
noncomputable def Its (z:Str):It:=⟨fun i _=>i<z.cps.size,fun i H x H'=>H'=H∧∃ c,z.cps[i]? = some c∧x = .str ⟨#[c]⟩,fun i _=>z.cps.size≤i⟩
theorem iterTy (z:Str):strIterType z = "str_ascii_iterator"∨strIterType z = "str_iterator":=by
  unfold strIterType
  split
  · exact .inl rfl
  · exact .inr rfl
theorem turn_str {P:Program} {w:World} {K:PySem.W.Frag} {tg:Expr} (z:Str) (t:Tok) (it:Addr):Turn P w K tg (Its z) [it] it (fun i h=>h.IsStrIter it (strIterType z) z t i) where
  mem:=by simp
  obj:=fun i h st b hb=>by
    have e:b=it:=by simpa using hb
    subst e
    obtain⟨o,e,c,d⟩:=st
    exact⟨o,e,fun v q=>by rw[d] at q;cases q⟩
  keep:=fun i h h' st k=>by
    obtain⟨o,e,r⟩:=st
    exact⟨o,k it (by simp) o e,r⟩
  item:=by
    intro X hP hw hK hc i pins s σ H E I hf st hg
    subst hP hw hK
    have hg':i<z.cps.size:=hg
    have hx:z.cps[i]? = some z.cps[i]:=Array.getElem?_eq_getElem hg'
    obtain⟨f0,f1,f2,f3,f4,f5⟩:=hf it (by simp)
    have fin:∀ h':Heap,h'.IsStrIter it (strIterType z) z t (i+1)→Heap.SameBut it s.heap h'→∃ u,some (Value.str ⟨#[z.cps[i]]⟩ s.toks)=some u ∧
        wpAny (model X.prog X.w) X.A (letOwnedTupleGo tg (.ref it) u) (fun _ s2=>∃ x H',Inv X pins σ H' s2∧RelV x u∧(Its z).yld i H x H'∧s2.heap.IsStrIter it (strIterType z) z t (i+1)∧∀ b∈[it],H' b=none) E { s with heap:=h',toks:=s.toks+1 }:=fun h' st' sb=>by
      have I1:Inv X pins σ H { s with heap:=h',toks:=s.toks+1 }:=I.turned (t':=s.toks+1) (fun b o hb e=>(sb.2 b hb).trans e) f0 f1 f3 f4 f5
      obtain⟨o,e,c,d⟩:=id st'
      refine⟨_,rfl,go_of (s:={ s with heap:=h',toks:=s.toks+1 }) e c d ?_ ⟨.str ⟨#[z.cps[i]]⟩,H,I1,⟨_,rfl⟩,⟨rfl,_,hx,rfl⟩,st',fun b hb=>(hf b hb).1⟩⟩
      rcases iterTy z with q | q <;> rw[q] <;> decide
    rcases iterTy z with q | q
    · rw[q] at st fin ⊢
      exact wpAny_pyNext_ascii_item st hx fun h' st' sb=>fin h' st' sb
    · rw[q] at st fin ⊢
      exact wpAny_pyNext_wide_item st hx fun h' st' sb=>fin h' st' sb
  done:=by
    intro X hP hw hK hc i pins s σ H E I hf st hg
    subst hP hw hK
    have hg':z.cps.size≤i:=hg
    have hx:z.cps[i]? = none:=Array.getElem?_eq_none hg'
    obtain⟨f0,f1,f2,f3,f4,f5⟩:=hf it (by simp)
    have fin:∀ h':Heap,Heap.ExtBut it s.heap h'→(none:Option Value)=none∧Inv X pins σ H { s with heap:=h' }:=fun h' eb=>⟨rfl,I.turned (t':=s.toks) (fun b o hb e=>eb b o hb e) f0 f1 f3 f4 f5⟩
    rcases iterTy z with q | q
    · rw[q] at st
      exact wpAny_pyNext_ascii_end (I.ok.hd hc) st hx fin
    · rw[q] at st
      exact wpAny_pyNext_wide_end (I.ok.hd hc) st hx fin
  self:=fun _ _ _ _ _ st h=>by
    rcases iterTy z with q | q
    · rw[q] at st
      exact wpAny_pyIter_striter_ascii st h
    · rw[q] at st
      exact wpAny_pyIter_striter_wide st h
noncomputable def iStr (tl:TE):TI:=fun σ H R=>tl σ H fun x H1=>∃ z,x = .str z∧R (Its z) H1
theorem pi_str {X:Cx} {tg l:Expr} {tl:TE} (hl:PE X l tl):PI X tg l (iStr tl):=by
  intro pins s σ H R I h
  refine thn (hl pins s σ H _ I h) fun v s1 ⟨x,H1,I1,r1,q1⟩=>?_
  obtain⟨z,e,q⟩:=q1
  subst e
  obtain⟨t,rfl⟩:=r1
  refine wpAny_pyIter_strU ?_
  refine⟨s1.heap.objs.size,[s1.heap.objs.size],_,_,H1,rfl,I1.kept (t':=s1.toks) fun b o e=>Heap.get?_push_of_some _ e,turn_str z t _,⟨_,Heap.get?_push_size _ rfl,rfl,rfl⟩,fun b hb=>?_,q⟩
  have e:b=s1.heap.objs.size:=by simpa using hb
  subst e
  exact I1.fpOk (Nat.le_refl _) (I1.hok.fresh (Nat.le_refl _))
noncomputable def sgn (c:Nat):V:=.str ⟨#[c]⟩
section
variable {D:Addr} {g:TG} {tt:TT} {te:TE} {fin:List V→Hp→Prop} {σ:St} {H:Hp} {z:Str}
end
section
variable {X:Cx}
theorem sign_in (x:Str) (c:Nat):(!(Builtin.Str.occurrences x ⟨#[c]⟩ 0 x.length 1).isEmpty)=x.cps.toList.contains c:=by
  rw[Bool.eq_iff_iff,StrLaws.found_iff,List.contains_iff_mem]
  constructor
  · rintro ⟨i,h⟩
    exact List.mem_of_getElem? ((StrLaws.subAt_one x c i).mp h)
  · intro h
    obtain⟨i,hi⟩:=List.getElem?_of_mem h
    exact⟨i,(StrLaws.subAt_one x c i).mpr hi⟩
noncomputable def timesS (z:Str) (n:Int):Str:=⟨(List.replicate n.toNat z.cps.toList).flatten.toArray⟩
theorem call_int_text:CallR X (.type "int") (fun xs H Q=>∃ z n,xs=[.str z]∧PySem.intText? z=some n∧z.length≤640∧Q (.int n) H):=by
  intro pins s σ H xs us Q I r h
  obtain⟨z,n,rfl,hn,hl,q⟩:=h
  obtain⟨u,rfl,ru⟩:=vals1 r
  obtain⟨t,rfl⟩:=ru
  exact PySem.W.KIN.call_text hn hl ⟨.int n,H,I.tok _,⟨_,rfl⟩,q⟩
end
open Builtin.Str (occurrences partsBetween)
theorem vals_strs:∀ {zs:List Str} {its:List Value},Vals (zs.map V.str) its→∃ l:List (Str × Tok),l.map (·.1)=zs∧its=strValues l
  | [],_,.nil=>⟨[],rfl,rfl⟩
  | z::zs,_,.cons ⟨t,e⟩ r=>by
    obtain⟨l,e1,e2⟩:=vals_strs r
    subst e e2
    exact⟨(z,t)::l,by rw[List.map_cons,e1],rfl⟩
theorem strs_vals:∀ (l:List (Str × Tok)),Vals ((l.map (·.1)).map V.str) (strValues l)
  | []=>.nil
  | p::r=>.cons ⟨p.2,rfl⟩ (strs_vals r)
section
variable {X:Cx}
theorem mt_join:MtR X "str.join" (fun x vs H Q=>∃ sep zs a,x = .str sep∧vs=[.ref a]∧SqL X.K H a (zs.map V.str)∧JoinOk sep zs=true∧Q (.str (Txt.join sep zs)) H):=by
  intro pins s σ H x xs v us Q I rx rv h
  obtain⟨sep,zs,a,rfl,rfl,hS,hj,q⟩:=h
  obtain⟨t,rfl⟩:=rx
  obtain⟨u,rfl,ru⟩:=Vals.one rv
  cases ru
  obtain⟨its,r,pl,hz⟩:=I.list hS
  obtain⟨l,e1,rfl⟩:=vals_strs r
  exact SC.join pl.isList e1 hj fun t' k=>⟨.str _,H,I.tok k,⟨t',rfl⟩,q⟩
theorem mt_split:MtR X "str.split" (fun x vs H Q=>∃ z y,x = .str z∧vs=[.str y]∧(y.length==0)=false∧z.length≤sizeLine∧(partsBetween z (occurrences z y 0 z.length (z.length+1)) y.length).length≤sizeLine∧New H (.lst ((Txt.split z y).map V.str)) Q):=by
  intro pins s σ H x xs v us Q I rx rv h
  obtain⟨z,y,rfl,rfl,hy,h1,h2,q⟩:=h
  obtain⟨t,rfl⟩:=rx
  obtain⟨u,rfl,ru⟩:=Vals.one rv
  obtain⟨tu,rfl⟩:=ru
  have fin:∀ (l:List (Str × Tok)) (k:Nat),l.map (·.1)=Txt.split z y→(Txt.split z y).length≤sizeLine→EP X pins σ Q (.ref s.heap.objs.size) { s with toks:=k,heap:=s.heap.push { cls:=.type "list",data:=.seq (strValues l).toArray } }:=fun l k e hl=>by
    refine⟨.ref _,upd H s.heap.objs.size (.lst ((Txt.split z y).map V.str)),I.laid (t':=k) (fun b o e=>Heap.get?_push_of_some _ e) (Nat.le_refl _) ⟨by rw[List.length_map];exact hl,strValues l,0,by rw[← e];exact strs_vals l,Heap.get?_push_size _ rfl⟩,rfl,q.at (I.hok.fresh (Nat.le_refl _))⟩
  have one:∀ e:Txt.split z y=[z],(Txt.split z y).length≤sizeLine:=fun e=>by rw[e];exact lenOk rfl
  cases c1:(decide (z.length<y.length) || decide (Builtin.Str.strKind z<Builtin.Str.strKind y))
  · cases hf:(occurrences z y 0 z.length (z.length+1)).isEmpty
    · refine call_meets F.slot_str_split (typeIs_str _ _ _) F.entry_str_split (F.args_str_split_2 _ _) (meets_str_split_sep z y t tu c1 hy hf h1 h2) ?_
      show wants _ _ _ { s with toks:=_,heap:=s.heap.push { cls:=.type "list",data:=.seq (strsFrom s.toks (partsBetween z (occurrences z y 0 z.length (z.length+1)) y.length)).toArray } }
      rw[strsFrom_eq]
      have e:Txt.split z y=partsBetween z (occurrences z y 0 z.length (z.length+1)) y.length:=(if_neg (ne_true_of_eq_false c1)).trans (if_neg (ne_true_of_eq_false hf))
      exact fin (numbered s.toks _) _ ((numbered_texts _ _).trans e.symm) (by rw[e];exact h2)
    · have e:Txt.split z y=[z]:=(if_neg (ne_true_of_eq_false c1)).trans (if_pos hf)
      exact call_meets F.slot_str_split (typeIs_str _ _ _) F.entry_str_split (F.args_str_split_2 _ _) (meets_str_split_not_found z y t tu c1 hy hf) (fin [(z,t)] s.toks e.symm (one e))
  · have e:Txt.split z y=[z]:=if_pos c1
    exact call_meets F.slot_str_split (typeIs_str _ _ _) F.entry_str_split (F.args_str_split_2 _ _) (meets_str_split_cannot_occur z y t tu c1) (fin [(z,t)] s.toks e.symm (one e))
end
end L2
namespace L2
open PySem PySem.Spec PyProof.Rows
inductive Dt where
  | v (x:V)
  | l (xs:List Dt)
  | t (xs:List Dt)
inductive Is (K:PySem.W.Frag) (H:Hp):Nat→V→Dt→Prop where
  | v {n:Nat} {x:V}:flatV x=true→Is K H n x (.v x)
  | l {n:Nat} {a:Addr} {xs:List V} {ds:List Dt}:SqL K H a xs→xs.length=ds.length→(∀ (j:Nat) x d,xs[j]? = some x→ds[j]? = some d→Is K H n x d)→Is K H (n+1) (.ref a) (.l ds)
  | t {n:Nat} {a:Addr} {xs:List V} {ds:List Dt}:SqT K H a xs→xs.length=ds.length→(∀ (j:Nat) x d,xs[j]? = some x→ds[j]? = some d→Is K H n x d)→Is K H (n+1) (.ref a) (.t ds)
theorem Is.flatT {K:PySem.W.Frag} {H:Hp} {a:Addr} {xs:List V} (h:SqT K H a xs) (f:xs.all flatV=true):Is K H 1 (.ref a) (.t (xs.map Dt.v)):=by
  refine .t h (by simp) fun j x d e1 e2=>?_
  rw[List.getElem?_map,e1] at e2
  cases e2
  exact .v (List.all_eq_true.mp f x (List.mem_of_getElem? e1))
theorem eqV_self {x:V} (f:flatV x=true):eqV x x=true:=by
  cases x <;> simp[flatV] at f <;> simp[eqV]
theorem all_true (n:Nat):(List.range n).all (fun _=>true)=true:=by
  rw[List.all_eq_true]
  intro _ _
  rfl
section
variable {X:Cx} {pins:List (Addr × Obj)} {σ:St} {H:Hp} {s:Shared}
theorem ix_of {xs:List V} {its:List Value} (r:Vals xs its) {j:Nat} (h:j<its.toArray.size):∃ x,xs[j]? = some x∧RelV x its.toArray[j]:=by
  have hl:=r.length
  have hj:j<xs.length:=by rw[hl];simpa using h
  refine⟨xs[j],List.getElem?_eq_getElem hj,?_⟩
  obtain⟨u,e1,e2⟩:=r.get (List.getElem?_eq_getElem hj)
  have:its[j]? = some its.toArray[j]:=by simp at h ⊢
  rw[this] at e1
  cases e1
  exact e2
theorem eqAt_same (I:Inv X pins σ H s):∀ (n:Nat) (d:Dt) (x y:V) (u v:Value) (A:Around),Is X.K H n x d→Is X.K H n y d→RelV x u→RelV y v→A.units+n<cLine→SeqAt.EqAt A s u v true:=by
  intro n
  induction n with
  | zero =>
    intro d x y u v A hx hy ru rv hu
    cases hx with
    | v f =>
      cases hy with
      | v f' =>
        have e:=eqAt_V (A:=A) (s:=s) ru rv f f
        rw[eqV_self f] at e
        exact e
  | succ n ih =>
    intro d x y u v A hx hy ru rv hu
    cases hx with
    | v f =>
      cases hy with
      | v f' =>
        have e:=eqAt_V (A:=A) (s:=s) ru rv f f
        rw[eqV_self f] at e
        exact e
    | l h1 h2 h3 =>
      cases hy with
      | l g1 g2 g3 =>
        cases ru
        cases rv
        rename_i a xs ds b ys
        by_cases hab:a=b
        · subst hab
          exact SeqAt.EqAt.same _
        · obtain⟨us,r1,p1,_⟩:=I.list h1
          obtain⟨ws,r2,p2,_⟩:=I.list g1
          have e:=SeqAt.RcAt.lists (A:=A) (e:=fun _=>true) p1.isList p2.isList (by rw[List.size_toArray,List.size_toArray,← r1.length,← r2.length,h2,g2]) (by omega) fun j k1 k2=>by
            obtain⟨x,ex,rx⟩:=ix_of r1 k1
            obtain⟨y,ey,ry⟩:=ix_of r2 k2
            have hj:j<ds.length:=by
              have:=(List.getElem?_eq_some_iff.mp ex).1
              omega
            exact ih ds[j] x y _ _ A.in1 (h3 j x _ ex (List.getElem?_eq_getElem hj)) (g3 j y _ ey (List.getElem?_eq_getElem hj)) rx ry (by show A.units+1+n<cLine;omega)
          rw[all_true] at e
          exact SeqAt.EqAt.of_refs hab e
    | t h1 h2 h3 =>
      cases hy with
      | t g1 g2 g3 =>
        cases ru
        cases rv
        rename_i a xs ds b ys
        by_cases hab:a=b
        · subst hab
          exact SeqAt.EqAt.same _
        · obtain⟨us,r1,p1,_⟩:=I.tuple h1
          obtain⟨ws,r2,p2,_⟩:=I.tuple g1
          have e:=SeqAt.RcAt.tuples (A:=A) (e:=fun _=>true) (show s.heap.IsTuple a us.toArray from p1) (show s.heap.IsTuple b ws.toArray from p2) (by omega) fun j k1 k2=>by
            obtain⟨x,ex,rx⟩:=ix_of r1 k1
            obtain⟨y,ey,ry⟩:=ix_of r2 k2
            have hj:j<ds.length:=by
              have:=(List.getElem?_eq_some_iff.mp ex).1
              omega
            exact ih ds[j] x y _ _ A.in1 (h3 j x _ ex (List.getElem?_eq_getElem hj)) (g3 j y _ ey (List.getElem?_eq_getElem hj)) rx ry (by show A.units+1+n<cLine;omega)
          rw[all_true,Bool.true_and,show (us.toArray.size==ws.toArray.size)=true by rw[beq_iff_eq,List.size_toArray,List.size_toArray,← r1.length,← r2.length,h2,g2]] at e
          exact SeqAt.EqAt.of_refs hab e
theorem kids (I:Inv X pins σ H s) {n:Nat} {ds:List Dt} {xs ys:List V} {us ws:List Value} {A:Around} (r1:Vals xs us) (r2:Vals ys ws) (h2:xs.length=ds.length)
    (h3:∀ (j:Nat) x d,xs[j]? = some x→ds[j]? = some d→Is X.K H n x d) (g3:∀ (j:Nat) x d,ys[j]? = some x→ds[j]? = some d→Is X.K H n x d) (hu:A.units+(n+1)<cLine) :
    ∀ j (k1:j<us.toArray.size) (k2:j<ws.toArray.size),SeqAt.EqAt A.in1 s us.toArray[j] ws.toArray[j] ((fun _=>true) j):=fun j k1 k2=>by
  obtain⟨x,ex,rx⟩:=ix_of r1 k1
  obtain⟨y,ey,ry⟩:=ix_of r2 k2
  have hj:j<ds.length:=by
    have:=(List.getElem?_eq_some_iff.mp ex).1
    omega
  exact eqAt_same I n ds[j] x y _ _ A.in1 (h3 j x _ ex (List.getElem?_eq_getElem hj)) (g3 j y _ ey (List.getElem?_eq_getElem hj)) rx ry (by show A.units+1+n<cLine;omega)
end
section
variable {X:Cx}
noncomputable def isSeq:Dt→Bool
  | .v _=>false
  | _=>true
noncomputable def rSame (X:Cx) (neg:Bool):R2:=fun x y H Q=>∃ n d,isSeq d=true∧Is X.K H n x d∧Is X.K H n y d∧X.A.units+n<cLine∧Q (.bl (!neg)) H
theorem op_neD:OpR X (compareOp .NotEq) (rSame X true):=by
  intro pins s σ H x y v u Q I rx ry h
  obtain⟨n,d,hq,hx,hy,hu,q⟩:=h
  cases hx with
  | v f=>cases hq
  | l h1 h2 h3 =>
    cases hy with
    | l g1 g2 g3 =>
      cases rx
      cases ry
      obtain⟨us,r1,p1,_⟩:=I.list h1
      obtain⟨ws,r2,p2,_⟩:=I.list g1
      refine SeqAt.RcNeAt.lists (e:=fun _=>true) p1.isList p2.isList (by rw[List.size_toArray,List.size_toArray,← r1.length,← r2.length,h2,g2]) (by omega) (kids I r1 r2 h2 h3 g3 hu) _ _ _ _ ?_
      rw[all_true]
      exact⟨.bl false,H,I,rfl,q⟩
  | t h1 h2 h3 =>
    cases hy with
    | t g1 g2 g3 =>
      cases rx
      cases ry
      obtain⟨us,r1,p1,_⟩:=I.tuple h1
      obtain⟨ws,r2,p2,_⟩:=I.tuple g1
      refine SeqAt.RcNeAt.tuples (e:=fun _=>true) (show s.heap.IsTuple _ us.toArray from p1) (show s.heap.IsTuple _ ws.toArray from p2) (by omega) (kids I r1 r2 h2 h3 g3 hu) _ _ _ _ ?_
      rw[all_true,Bool.true_and,show (us.toArray.size==ws.toArray.size)=true by rw[beq_iff_eq,List.size_toArray,List.size_toArray,← r1.length,← r2.length,h2,g2]]
      exact⟨.bl false,H,I,rfl,q⟩
end
end L2
set_option maxHeartbeats 1000000
namespace SG
open PySem PyProof.Rows
class Rk where
  num:Value→Int
  knd:SortKind
variable [Rk]
noncomputable def K (xs:Array Keyed) (i:Nat):Int:=match xs[i]? with
  | some q=>Rk.num q.1
  | none=>0
noncomputable def SortedTo (xs:Array Keyed) (n:Nat):Prop:=∀ a b,a≤b→b<n→K xs a≤K xs b
structure SBase (b₀:Array Keyed) (st:SortSt):Prop where
  perm:(arrOf st).Perm b₀
  kind:kindOf st=Rk.knd
  failed:failedOf st=none
  pend:pendingOf st = #[]
theorem SBase.size {b₀:Array Keyed} {st:SortSt} (h:SBase b₀ st):(arrOf st).size=b₀.size:=h.perm.size_eq
theorem SBase.setArr {b₀:Array Keyed} {st:SortSt} (h:SBase b₀ st) {ys:Array Keyed} (q:ys.Perm (arrOf st)):SBase b₀ (PyProof.Rows.setArr st ys):=⟨q.trans h.perm,h.kind,h.failed,h.pend⟩
noncomputable def Cmp (prog:Program) (w:World) (A:Around) (s:Shared) (b₀:Array Keyed):Prop :=
  ∀ p∈b₀.toList,∀ q∈b₀.toList,∀ (Q:Bool→Shared→Prop) (E:Value→Shared→Prop),Q (decide (Rk.num p.1<Rk.num q.1)) s→wpAny (model prog w) A (keyLt' Rk.knd p.1 q.1) Q E s
section
variable {prog:Program} {w:World} {A:Around} {E:Value→Shared→Prop} {s:Shared} {b₀:Array Keyed}
theorem SBase.mem {st:SortSt} (h:SBase b₀ st) {i:Nat} (hi:i<b₀.size):∃ p,(arrOf st)[i]? = some p∧p∈b₀.toList:=by
  have hi':i<(arrOf st).size:=by rw[h.size];exact hi
  exact⟨_,getElem?_pos _ i hi',(Array.perm_iff_toList_perm.mp h.perm).mem_iff.mp (by simp)⟩
theorem wpS_ltK {st:SortSt} {i j:Nat} {Q:Option Bool→SortSt→Prop} (hB:SBase b₀ st) (hk:Cmp prog w A s b₀) (hi:i<b₀.size) (hj:j<b₀.size) (h:Q (some (decide (K (arrOf st) i<K (arrOf st) j))) st):wpS (model prog w) A E s (ltAt' i j) Q st:=by
  obtain⟨p,e1,m1⟩:=hB.mem hi
  obtain⟨q,e2,m2⟩:=hB.mem hj
  have k1:K (arrOf st) i=Rk.num p.1:=by unfold K;rw[e1]
  have k2:K (arrOf st) j=Rk.num q.1:=by unfold K;rw[e2]
  rw[k1,k2] at h
  rw[ltAt'_eq];refine wpS_bind (wpS_get ?_)
  show wpS _ _ _ _ (do let u ← elem' (arrOf st) i;let v ← elem' (arrOf st) j;lt' u v) Q st
  rw[elem'_eq,elem'_eq,e1,e2]
  refine wpS_bind (wpS_pure (wpS_bind (wpS_pure (?_))))
  rw[lt'_eq];refine wpS_bind (wpS_get ?_)
  rw[hB.kind]
  refine wpS_bind (wpS_lift (wpAny_attempt (hk p m1 q m2 _ _ ⟨rfl,?_⟩)))
  exact wpS_pure h
theorem wpS_ascLoop {st:SortSt} {a N:Nat} {Q:AscSt→SortSt→Prop} (hk:Cmp prog w A s b₀) (hN:N≤b₀.size) (h1:1≤a) (ha:a≤N) (hB:SBase b₀ st) (hs:SortedTo (arrOf st) a)
    (h:∀ m,a≤m→m≤N→SortedTo (arrOf st) m→(m=N∨K (arrOf st) m<K (arrOf st) (m - 1))→Q (none,m) st):wpS (model prog w) A E s (ascLoop a N) Q st:=by
  unfold ascLoop
  refine wpS_forRange (I:=fun x c st'=>st'=st∧c=(none,x)∧SortedTo (arrOf st) x) ?turn ?done ⟨rfl,rfl,hs⟩
  case done =>
    rintro c st' ⟨rfl,rfl,z⟩
    have e:max a N=N:=by omega
    rw[e] at z ⊢
    exact h N ha (Nat.le_refl _) z (.inl rfl)
  case turn =>
    rintro x c st' hx1 hx2 ⟨rfl,rfl,z⟩
    dsimp only
    refine wpS_bind (wpS_ltK hB hk (by omega) (by omega) ?_)
    by_cases lt:K (arrOf st') x<K (arrOf st') (x - 1)
    · simp only[lt,decide_true,if_true];exact wpS_pure (h x hx1 (by omega) z (.inr lt))
    · simp only[lt,decide_false,Bool.false_eq_true,if_false]
      refine wpS_pure ⟨rfl,rfl,fun i j hij hj=>?_⟩
      by_cases c1:j<x
      · exact z i j hij c1
      · obtain rfl:j=x:=by omega
        by_cases c2:i=j
        · rw[c2];exact Int.le_refl _
        · have:=z i (j - 1) (by omega) (by omega)
          omega
end
end SG
namespace SG
open PySem PyProof.Rows
variable [Rk]
noncomputable abbrev ky (p:Keyed):Int:=Rk.num p.1
noncomputable def put (x:Keyed) (l:List Keyed):List Keyed:=l.takeWhile (fun y=>decide (ky y≤ky x))++x::l.dropWhile (fun y=>decide (ky y≤ky x))
noncomputable def srt (l:List Keyed):List Keyed:=l.foldl (fun acc x=>put x acc) []
theorem srt_snoc (l:List Keyed) (x:Keyed):srt (l++[x])=put x (srt l):=by
  unfold srt
  rw[List.foldl_append]
  rfl
theorem tw_all {p:Keyed→Bool}:∀ {a b:List Keyed},(∀ y∈a,p y=true)→(∀ y∈b,p y=false)→(a++b).takeWhile p=a∧(a++b).dropWhile p=b
  | [],[],_,_=>⟨rfl,rfl⟩
  | [],y::b,_,h=>by
    have:=h y List.mem_cons_self
    simp[List.takeWhile,List.dropWhile,this]
  | x::a,b,h1,h2=>by
    have hx:=h1 x List.mem_cons_self
    obtain⟨e1,e2⟩:=tw_all (fun y hy=>h1 y (List.mem_cons_of_mem _ hy)) h2
    simp only[List.cons_append,List.takeWhile,List.dropWhile,hx]
    exact⟨by rw[e1],e2⟩
theorem put_at {x:Keyed} {a b:List Keyed} (h1:∀ y∈a,ky y≤ky x) (h2:∀ y∈b,ky x<ky y):put x (a++b)=a++x::b:=by
  unfold put
  obtain⟨e1,e2⟩:=tw_all (p:=fun y=>decide (ky y≤ky x)) (a:=a) (b:=b) (fun y hy=>decide_eq_true (h1 y hy)) (fun y hy=>decide_eq_false (by have:=h2 y hy;omega))
  rw[e1,e2]
theorem put_perm (x:Keyed) (l:List Keyed):(put x l).Perm (l++[x]):=by
  unfold put
  refine List.perm_middle.trans ?_
  rw[List.takeWhile_append_dropWhile]
  exact (List.perm_append_singleton x l).symm
theorem srt_perm (l:List Keyed):(srt l).Perm l:=by
  have:∀ (l acc:List Keyed),(l.foldl (fun acc x=>put x acc) acc).Perm (acc++l):=by
    intro l
    induction l with
    | nil=>intro acc;simp
    | cons x r ih =>
      intro acc
      rw[List.foldl_cons]
      refine (ih _).trans ?_
      have:=(put_perm x acc).append_right r
      simpa using this
  have q:=this l []
  rw[List.nil_append] at q
  exact q
theorem srt_mem {l:List Keyed} {y:Keyed}:y∈srt l↔y∈l:=(srt_perm l).mem_iff
theorem srt_len (l:List Keyed):(srt l).length=l.length:=(srt_perm l).length_eq
noncomputable abbrev Up (l:List Keyed):Prop:=l.Pairwise fun a b=>ky a≤ky b
theorem up_put {x:Keyed} {l:List Keyed} (h:Up l):Up (put x l):=by
  have:∀ l:List Keyed,Up l→Up (put x l):=by
    intro l
    induction l with
    | nil=>intro _;exact List.pairwise_singleton _ _
    | cons y r ih =>
      intro h
      obtain⟨h1,h2⟩:=List.pairwise_cons.mp h
      by_cases hy:ky y≤ky x
      · have e:put x (y::r)=y::put x r:=by
          unfold put
          simp[List.takeWhile,List.dropWhile,hy]
        rw[e]
        refine List.pairwise_cons.mpr ⟨fun z hz=>?_,ih h2⟩
        rcases List.mem_append.mp ((put_perm x r).mem_iff.mp hz) with q | q
        · exact h1 z q
        · rw[List.mem_singleton.mp q];exact hy
      · have e:put x (y::r)=x::y::r:=by
          unfold put
          simp[List.takeWhile,List.dropWhile,hy]
        rw[e]
        refine List.pairwise_cons.mpr ⟨fun z hz=>?_,h⟩
        rcases List.mem_cons.mp hz with rfl | q
        · omega
        · have:=h1 z q;omega
  exact this l h
theorem srt_up (l:List Keyed):Up (srt l):=by
  have:∀ (l acc:List Keyed),Up acc→Up (l.foldl (fun acc x=>put x acc) acc):=by
    intro l
    induction l with
    | nil=>intro acc h;exact h
    | cons x r ih=>intro acc h;exact ih _ (up_put h)
  exact this l [] List.Pairwise.nil
theorem srt_more (xs:List Keyed):∀ (n:Nat) (b:List Keyed),b.length=n→Up (srt xs++b)→srt (xs++b)=srt xs++b:=by
  intro n
  induction n with
  | zero =>
    intro b hb _
    rw[List.length_eq_zero_iff.mp hb]
    simp
  | succ n ih =>
    intro b hb h
    obtain⟨c,z,rfl⟩:∃ c z,b=c++[z]:=⟨b.dropLast,b.getLast (by intro e;rw[e] at hb;cases hb),(List.dropLast_concat_getLast _).symm⟩
    rw[List.length_append] at hb
    have h':Up ((srt xs++c)++[z]):=by rw[List.append_assoc];exact h
    obtain⟨u1,_,u3⟩:=List.pairwise_append.mp h'
    rw[← List.append_assoc,srt_snoc,ih c (by simp at hb;exact hb) u1]
    have:=put_at (x:=z) (a:=srt xs++c) (b:=[]) (fun y hy=>u3 y hy z (List.mem_singleton.mpr rfl)) (fun y hy=>absurd hy (by simp))
    rw[List.append_nil] at this
    rw[this,List.append_assoc]
theorem srt_id {l:List Keyed} (h:Up l):srt l=l:=by
  have:=srt_more [] l.length l rfl (by simpa [srt] using h)
  simpa [srt] using this
theorem srt_front {xs:List Keyed} {v:Int} (h1:∀ y∈xs,v<ky y):∀ (n:Nat) (b:List Keyed),b.length=n→(∀ y∈b,ky y=v)→srt (xs++b)=b++srt xs:=by
  intro n
  induction n with
  | zero =>
    intro b hb _
    rw[List.length_eq_zero_iff.mp hb]
    simp
  | succ n ih =>
    intro b hb h
    obtain⟨c,z,rfl⟩:∃ c z,b=c++[z]:=⟨b.dropLast,b.getLast (by intro e;rw[e] at hb;cases hb),(List.dropLast_concat_getLast _).symm⟩
    rw[List.length_append] at hb
    have hz:ky z=v:=h z (by simp)
    rw[← List.append_assoc,srt_snoc,ih c (by simp at hb;exact hb) fun y hy=>h y (by simp[hy])]
    have:=put_at (x:=z) (a:=c) (b:=srt xs) (fun y hy=>by rw[h y (by simp[hy]),hz];exact Int.le_refl _) (fun y hy=>by rw[hz];exact h1 y (srt_mem.mp hy))
    rw[this]
    simp
theorem toL {α:Type} {xs:Array α} {l:List α} (h:xs.toList=l) (i:Nat):xs[i]? = l[i]?:=by rw[← h];simp
theorem list_bubble {xs:Array Keyed} {p q r:List Keyed} {x:Keyed} (h:xs.toList=p++(q++x::r)):(bubble xs (p.length+q.length) q.length).toList=p++(x::(q++r)):=by
  have hs:p.length+q.length<xs.size:=by
    have:xs.size=(p++(q++x::r)).length:=by rw[← h];simp
    rw[this];simp only[List.length_append,List.length_cons];omega
  refine List.ext_getElem? fun i=>?_
  have e:=getElem?_bubble hs q.length (by omega) i
  rw[Array.getElem?_toList,e,toL h,toL h,toL h,show p.length+q.length - q.length=p.length by omega]
  by_cases h1:i=p.length
  · have e1:(p++(q++x::r))[p.length+q.length]? = some x:=by
      rw[List.getElem?_append_right (by omega),List.getElem?_append_right (by omega)]
      simp
    have e2:(p++(x::(q++r)))[i]? = some x:=by
      rw[List.getElem?_append_right (by omega),h1]
      simp
    rw[if_pos h1,e1,e2]
  · rw[if_neg h1]
    by_cases h2:p.length<i∧i≤p.length+q.length
    · obtain⟨j,hj⟩:∃ j,i=p.length+(j+1):=⟨i - p.length - 1,by omega⟩
      have e1:(p++(q++x::r))[i - 1]? = q[j]?:=by
        rw[List.getElem?_append_right (by omega),List.getElem?_append_left (by omega)]
        congr 1
        omega
      have e2:(p++(x::(q++r)))[i]? = q[j]?:=by
        rw[List.getElem?_append_right (by omega),show i - p.length=j+1 by omega,List.getElem?_cons_succ,List.getElem?_append_left (by omega)]
      rw[if_pos h2,e1,e2]
    · rw[if_neg h2]
      by_cases h3:i<p.length
      · rw[List.getElem?_append_left h3,List.getElem?_append_left h3]
      · obtain⟨j,hj⟩:∃ j,i=p.length+q.length+(j+1):=⟨i - p.length - q.length - 1,by omega⟩
        have e1:(p++(q++x::r))[i]? = r[j]?:=by
          rw[List.getElem?_append_right (by omega),List.getElem?_append_right (by omega),show i - p.length - q.length=j+1 by omega,List.getElem?_cons_succ]
        have e2:(p++(x::(q++r)))[i]? = r[j]?:=by
          rw[List.getElem?_append_right (by omega),show i - p.length=(q.length+j)+1 by omega,List.getElem?_cons_succ,List.getElem?_append_right (by omega)]
          congr 1
          omega
        rw[e1,e2]
theorem list_mirror {xs:Array Keyed} {p m r:List Keyed} (h:xs.toList=p++(m++r)) {i j:Nat} (hi:i=p.length) (hj:j=p.length+m.length):(mirror xs i j ((j - i)/2)).toList=p++(m.reverse++r):=by
  subst hi hj
  have hs:p.length+m.length≤xs.size:=by
    have:xs.size=(p++(m++r)).length:=by rw[← h];simp
    rw[this];simp only[List.length_append];omega
  refine List.ext_getElem? fun k=>?_
  have e:=getElem?_mirror_all (i:=p.length) hs k
  rw[Array.getElem?_toList,e,toL h,toL h]
  by_cases h1:p.length≤k∧k<p.length+m.length
  · obtain⟨n,hn⟩:∃ n,k=p.length+n:=⟨k - p.length,by omega⟩
    have e1:(p++(m++r))[p.length+(p.length+m.length) - 1 - k]? = m[m.length - 1 - n]?:=by
      rw[List.getElem?_append_right (by omega),List.getElem?_append_left (by omega)]
      congr 1
      omega
    have e2:(p++(m.reverse++r))[k]? = m[m.length - 1 - n]?:=by
      rw[List.getElem?_append_right (by omega),List.getElem?_append_left (by rw[List.length_reverse];omega),List.getElem?_reverse (by omega)]
      congr 1
      omega
    rw[if_pos h1,e1,e2]
  · rw[if_neg h1]
    by_cases h2:k<p.length
    · rw[List.getElem?_append_left h2,List.getElem?_append_left h2]
    · have e1:(p++(m++r))[k]? = r[k - p.length - m.length]?:=by
        rw[List.getElem?_append_right (by omega),List.getElem?_append_right (by omega)]
      have e2:(p++(m.reverse++r))[k]? = r[k - p.length - m.length]?:=by
        rw[List.getElem?_append_right (by omega),List.getElem?_append_right (by rw[List.length_reverse];omega),List.length_reverse]
      rw[e1,e2]
theorem K_of {xs:Array Keyed} {i:Nat} {p:Keyed} (h:xs[i]? = some p):K xs i=ky p:=by
  unfold K
  rw[h]
theorem up_of {xs:Array Keyed} {l r:List Keyed} (h:xs.toList=l++r) (hs:SortedTo xs l.length):Up l:=by
  refine List.pairwise_iff_getElem.mpr fun i j hi hj hij=>?_
  have e1:xs[i]? = some l[i]:=by rw[toL h,List.getElem?_append_left hi];exact List.getElem?_eq_getElem hi
  have e2:xs[j]? = some l[j]:=by rw[toL h,List.getElem?_append_left hj];exact List.getElem?_eq_getElem hj
  have:=hs i j (Nat.le_of_lt hij) hj
  rw[K_of e1,K_of e2] at this
  exact this
theorem of_up {xs:Array Keyed} {l r:List Keyed} (h:xs.toList=l++r) (hu:Up l):SortedTo xs l.length:=by
  intro i j hij hj
  have hi:i<l.length:=by omega
  have e1:xs[i]? = some l[i]:=by rw[toL h,List.getElem?_append_left hi];exact List.getElem?_eq_getElem hi
  have e2:xs[j]? = some l[j]:=by rw[toL h,List.getElem?_append_left hj];exact List.getElem?_eq_getElem hj
  rw[K_of e1,K_of e2]
  by_cases q:i=j
  · subst q;exact Int.le_refl _
  · exact List.pairwise_iff_getElem.mp hu i j hi hj (by omega)
end SG
namespace SG
open PySem PyProof.Rows
variable [Rk]
section
variable {prog:Program} {w:World} {A:Around} {E:Value→Shared→Prop} {s:Shared} {b₀:Array Keyed}
structure Got (b₀:Array Keyed) (st:SortSt) (n:Nat):Prop where
  base:SBase b₀ st
  list:(arrOf st).toList=srt (b₀.toList.take n)++b₀.toList.drop n
theorem sized (b₀:Array Keyed):b₀.toList.length=b₀.size:=by simp
theorem Got.len {st:SortSt} {n:Nat} (g:Got b₀ st n) (hn:n≤b₀.size):(srt (b₀.toList.take n)).length=n:=by
  rw[srt_len,List.length_take,sized]
  omega
theorem Got.up {st:SortSt} {n:Nat} (g:Got b₀ st n) (hn:n≤b₀.size):SortedTo (arrOf st) n:=by
  have:=of_up g.list (srt_up _)
  rw[g.len hn] at this
  exact this
theorem drop_at {k:Nat} (hk:k<b₀.size):b₀.toList.drop k=b₀[k]::b₀.toList.drop (k+1):=by
  rw[List.drop_eq_getElem_cons (by rw[sized];exact hk)]
  simp
theorem take_at {k:Nat} (hk:k<b₀.size):b₀.toList.take (k+1)=b₀.toList.take k++[b₀[k]]:=by
  rw[List.take_succ,List.getElem?_eq_getElem (by rw[sized];exact hk)]
  simp
theorem Got.next {st:SortSt} {k:Nat} (g:Got b₀ st k) (hk:k<b₀.size):(arrOf st)[k]? = some b₀[k]:=by
  rw[toL g.list,List.getElem?_append_right (by rw[g.len (by omega)];exact Nat.le_refl _),g.len (by omega),drop_at hk]
  simp
theorem Got.atI {st:SortSt} {n i:Nat} (g:Got b₀ st n) (hn:n≤b₀.size) (hi:i<n):∃ y,(srt (b₀.toList.take n))[i]? = some y∧K (arrOf st) i=ky y:=by
  have hl:=g.len hn
  have e:=List.getElem?_eq_getElem (l:=srt (b₀.toList.take n)) (i:=i) (by rw[hl];exact hi)
  exact⟨_,e,K_of (by rw[toL g.list,List.getElem?_append_left (by rw[hl];exact hi)];exact e)⟩
theorem Got.insert {st:SortSt} {k c:Nat} (g:Got b₀ st k) (hk:k<b₀.size) (hc:c≤k) (lo:∀ i,i<c→K (arrOf st) i≤K (arrOf st) k) (hi:∀ i,c≤i→i<k→K (arrOf st) k<K (arrOf st) i) :
    Got b₀ (setArr st (bubble (arrOf st) k (k - c))) (k+1):=by
  have hl:=g.len (by omega:k≤b₀.size)
  have ex:K (arrOf st) k=ky b₀[k]:=K_of (g.next hk)
  have e0:srt (b₀.toList.take k)=(srt (b₀.toList.take k)).take c++(srt (b₀.toList.take k)).drop c:=(List.take_append_drop _ _).symm
  have lp:((srt (b₀.toList.take k)).take c).length=c:=by rw[List.length_take,hl];omega
  have lq:((srt (b₀.toList.take k)).drop c).length=k - c:=by rw[List.length_drop,hl]
  have li:(arrOf st).toList=(srt (b₀.toList.take k)).take c++((srt (b₀.toList.take k)).drop c++b₀[k]::b₀.toList.drop (k+1)):=by
    rw[g.list,drop_at hk,← List.append_assoc,← e0]
  refine⟨g.base.setArr (bubble_perm _ _ _),?_⟩
  have mv:=list_bubble li
  rw[lp,lq,show c+(k - c)=k by omega] at mv
  show (bubble (arrOf st) k (k - c)).toList=_
  rw[mv,take_at hk,srt_snoc]
  have pa:=put_at (x:=b₀[k]) (a:=(srt (b₀.toList.take k)).take c) (b:=(srt (b₀.toList.take k)).drop c) (fun y hy=>?_) (fun y hy=>?_)
  · rw[← e0] at pa
    rw[pa]
    simp
  · obtain⟨i,hi',e⟩:=List.mem_iff_getElem.mp hy
    rw[lp] at hi'
    obtain⟨z,ez,kz⟩:=g.atI (by omega) (by omega:i<k)
    have:z=y:=by
      rw[List.getElem_take] at e
      rw[List.getElem?_eq_getElem (by rw[hl];omega)] at ez
      rw[← e]
      exact (Option.some.inj ez).symm
    have q:=lo i hi'
    rw[kz,ex,this] at q
    exact q
  · obtain⟨i,hi',e⟩:=List.mem_iff_getElem.mp hy
    rw[lq] at hi'
    obtain⟨z,ez,kz⟩:=g.atI (by omega) (by omega:c+i<k)
    have:z=y:=by
      rw[List.getElem_drop] at e
      rw[List.getElem?_eq_getElem (by rw[hl];omega)] at ez
      rw[← e]
      exact (Option.some.inj ez).symm
    have q:=hi (c+i) (by omega) (by omega)
    rw[kz,ex,this] at q
    exact q
theorem runs_in {st:SortSt} {n m:Nat} {Q:Bool→SortSt→Prop} (hk:Cmp prog w A s b₀) (hn:n≤b₀.size) (hm:m≤n) (hm1:1≤m) (g:Got b₀ st m) (fin:∀ st',Got b₀ st' n→Q true st') :
    wpS (model prog w) A E s (binarySort' 0 n m) Q st:=by
  rw[binarySort'_eq]
  simp only[Nat.zero_add]
  refine wpS_bind (wpS_mono (wpS_forRange (I:=fun k c st'=>c=(none,())∧Got b₀ st' k) (Q:=fun c st'=>c=(none,())∧Got b₀ st' n) ?turn ?done ?begin) ?after)
  case after =>
    rintro _ st' ⟨rfl,g'⟩
    exact wpS_pure (fin st' g')
  case begin =>
    rw[show max m 1=m by omega]
    exact⟨rfl,g⟩
  case done =>
    rintro c st' ⟨hc,g'⟩
    rw[show max (max m 1) n=n by omega] at g'
    exact⟨hc,g'⟩
  case turn =>
    rintro k _ st' lo hi ⟨rfl,g'⟩
    have kz:k<b₀.size:=by omega
    have srtd:=g'.up (by omega:k≤b₀.size)
    refine wpS_bind (wpS_mono (wpS_forRange
      (I:=fun x c st2=>st2=st'∧∃ l r,c=(none,l,r)∧(l≤r∧r≤k∧r - l≤k - x)∧(∀ i,i<l→K (arrOf st') i≤K (arrOf st') k)∧∀ i,r≤i→i<k→K (arrOf st') k<K (arrOf st') i)
      (Q:=fun c st2=>st2=st'∧∃ l r,c=(none,l,r)∧l≤k∧(∀ i,i<l→K (arrOf st') i≤K (arrOf st') k)∧∀ i,l≤i→i<k→K (arrOf st') k<K (arrOf st') i) ?t2 ?d2 ?b2) ?a2)
    case b2=>exact⟨rfl,0,k,rfl,⟨by omega,by omega,by omega⟩,fun i hi=>absurd hi (by omega),fun i h1 h2=>absurd h2 (by omega)⟩
    case d2 =>
      rintro c st2 ⟨rfl,l,r,rfl,⟨q1,q2,q3⟩,q4,q5⟩
      obtain rfl:l=r:=by omega
      exact⟨rfl,l,l,rfl,q2,q4,q5⟩
    case t2 =>
      rintro x c st2 _ _ ⟨rfl,l,r,rfl,⟨q1,q2,q3⟩,q4,q5⟩
      dsimp only
      by_cases end':l ≥ r
      · rw[if_pos end']
        obtain rfl:l=r:=by omega
        exact wpS_pure ⟨rfl,l,l,rfl,q2,q4,q5⟩
      rw[if_neg end']
      refine wpS_bind (wpS_ltK g'.base hk kz (by omega) ?_)
      by_cases less:K (arrOf st2) k<K (arrOf st2) ((l+r)/2)
      · rw[decide_eq_true less]
        simp only[if_true]
        exact wpS_pure ⟨rfl,l,(l+r)/2,rfl,⟨by omega,by omega,by omega⟩,q4,fun i h1 h2=>Int.lt_of_lt_of_le less (srtd _ _ h1 h2)⟩
      · rw[decide_eq_false less]
        simp only[Bool.false_eq_true,if_false]
        refine wpS_pure ⟨rfl,(l+r)/2+1,r,rfl,⟨by omega,by omega,by omega⟩,fun i h1=>?_,q5⟩
        have:=srtd i ((l+r)/2) (by omega) (by omega)
        omega
    case a2 =>
      rintro c st2 ⟨rfl,l,r,rfl,q1,q2,q3⟩
      show wpS _ _ _ _ (do moveDown' k l;pure (ForInStep.yield (none,()))) _ _
      rw[moveDown'_eq]
      exact wpS_bind (wpS_modify (wpS_pure ⟨rfl,g'.insert kz q1 q2 q3⟩))
end
end SG
namespace SG
open PySem PyProof.Rows
variable [Rk]
section
variable {prog:Program} {w:World} {A:Around} {E:Value→Shared→Prop} {s:Shared} {b₀:Array Keyed}
theorem Got.on {st:SortSt} {n m:Nat} (g:Got b₀ st n) (h1:n≤m) (h2:m≤b₀.size) (hs:SortedTo (arrOf st) m):Got b₀ st m:=by
  have et:b₀.toList.take m=b₀.toList.take n++(b₀.toList.drop n).take (m - n):=by
    have:=List.take_add (l:=b₀.toList) (i:=n) (j:=m - n)
    rwa [show n+(m - n)=m by omega] at this
  have ed:b₀.toList.drop n=(b₀.toList.drop n).take (m - n)++b₀.toList.drop m:=by
    have:=(List.take_append_drop (m - n) (b₀.toList.drop n)).symm
    rwa [List.drop_drop,show n+(m - n)=m by omega] at this
  have li:(arrOf st).toList=(srt (b₀.toList.take n)++(b₀.toList.drop n).take (m - n))++b₀.toList.drop m:=by
    rw[g.list,List.append_assoc,← ed]
  have ln:(srt (b₀.toList.take n)++(b₀.toList.drop n).take (m - n)).length=m:=by
    rw[List.length_append,g.len (by omega),List.length_take,List.length_drop,sized]
    omega
  refine⟨g.base,?_⟩
  rw[et,srt_more _ _ _ rfl (up_of li (by rw[ln];exact hs))]
  exact li
theorem tail_in {st:SortSt} {n N:Nat} {Q:Option Nat→SortSt→Prop} (hk:Cmp prog w A s b₀) (hN:N≤b₀.size) (h1:1≤n) (hn:n≤N) (hB:SBase b₀ st)
    (li:(arrOf st).toList=(srt (b₀.toList.take n)).reverse++b₀.toList.drop n) (fin:∀ m st',Got b₀ st' m→1≤m→m≤N→Q (some m) st'):wpS (model prog w) A E s (tail3 n N) Q st:=by
  unfold tail3
  have ln:(srt (b₀.toList.take n)).length=n:=by rw[srt_len,List.length_take,sized];omega
  refine wpS_bind (wpS_reverse ?_)
  have g:Got b₀ (setArr st (mirror (arrOf st) 0 n ((n - 0)/2))) n:=by
    refine⟨hB.setArr (mirror_perm _ _ _ _),?_⟩
    have e:=list_mirror (xs:=arrOf st) (p:=[]) (m:=(srt (b₀.toList.take n)).reverse) (r:=b₀.toList.drop n) (i:=0) (j:=n) (by rw[List.nil_append];exact li) rfl (by rw[List.length_reverse,ln];simp)
    rw[List.reverse_reverse,List.nil_append] at e
    exact e
  refine wpS_bind (wpS_ascLoop hk hN h1 hn g.base (g.up (by omega)) fun m a1 a2 a3 _=>?_)
  exact wpS_pure (fin m _ (g.on a1 (by omega) a3) (by omega) a2)
structure Fall (b₀:Array Keyed) (st:SortSt) (x q:Nat) (xs b:List Keyed) (v:Int):Prop where
  base:SBase b₀ st
  cut:b₀.toList.take x=xs++b
  list:(arrOf st).toList=(srt xs).reverse++(b++b₀.toList.drop x)
  len:b.length=q+1
  same:∀ y∈b,ky y=v
  less:∀ y∈xs,v<ky y
theorem Fall.size {st:SortSt} {x q:Nat} {xs b:List Keyed} {v:Int} (f:Fall b₀ st x q xs b v) (hx:x≤b₀.size):xs.length+(q+1)=x:=by
  have:=congrArg List.length f.cut
  rw[List.length_take,sized,List.length_append,f.len] at this
  omega
theorem Fall.next {st:SortSt} {x q:Nat} {xs b:List Keyed} {v:Int} (f:Fall b₀ st x q xs b v) (hx:x<b₀.size):K (arrOf st) x=ky b₀[x]:=by
  have sz:=f.size (by omega)
  refine K_of ?_
  rw[toL f.list,List.getElem?_append_right (by rw[List.length_reverse,srt_len];omega),List.getElem?_append_right (by rw[List.length_reverse,srt_len,f.len];omega),drop_at hx,List.length_reverse,srt_len,f.len,show x - xs.length - (q+1)=0 by omega]
  rfl
theorem Fall.last {st:SortSt} {x q:Nat} {xs b:List Keyed} {v:Int} (f:Fall b₀ st x q xs b v) (hx:x≤b₀.size):K (arrOf st) (x - 1)=v:=by
  have sz:=f.size hx
  have hq:q<b.length:=by rw[f.len];omega
  have e:(arrOf st)[x - 1]? = some b[q]:=by
    rw[toL f.list,List.getElem?_append_right (by rw[List.length_reverse,srt_len];omega),List.getElem?_append_left (by rw[List.length_reverse,srt_len,f.len];omega),List.length_reverse,srt_len,show x - 1 - xs.length=q by omega]
    exact List.getElem?_eq_getElem hq
  rw[K_of e]
  exact f.same _ (List.getElem_mem hq)
theorem Fall.turned {st:SortSt} {x q:Nat} {xs b:List Keyed} {v:Int} (f:Fall b₀ st x q xs b v) (hx:x≤b₀.size):(mirror (arrOf st) (x - (q+1)) x ((x - (x - (q+1)))/2)).toList=(srt (b₀.toList.take x)).reverse++b₀.toList.drop x:=by
  have sz:=f.size hx
  have e:=list_mirror (xs:=arrOf st) (p:=(srt xs).reverse) (m:=b) (r:=b₀.toList.drop x) (i:=x - (q+1)) (j:=x) f.list (by rw[List.length_reverse,srt_len];omega) (by rw[List.length_reverse,srt_len,f.len];omega)
  rw[e,f.cut,srt_front f.less _ _ rfl f.same,List.reverse_append,List.append_assoc]
theorem Fall.still {st:SortSt} {x:Nat} {xs b:List Keyed} {v:Int} (f:Fall b₀ st x 0 xs b v):(arrOf st).toList=(srt (b₀.toList.take x)).reverse++b₀.toList.drop x:=by
  obtain⟨y,hy⟩:∃ y,b=[y]:=List.length_eq_one_iff.mp f.len
  rw[f.list,f.cut,srt_front f.less _ _ rfl f.same,List.reverse_append,List.append_assoc,hy]
  rfl
theorem fall_on {st:SortSt} {x:Nat} (hB:SBase b₀ st) (hx:x<b₀.size) (li:(arrOf st).toList=(srt (b₀.toList.take x)).reverse++b₀.toList.drop x) (hl:∀ y∈b₀.toList.take x,ky b₀[x]<ky y) :
    Fall b₀ st (x+1) 0 (b₀.toList.take x) [b₀[x]] (ky b₀[x]):=by
  refine⟨hB,take_at hx,?_,rfl,fun y hy=>by rw[List.mem_singleton.mp hy],hl⟩
  rw[li,drop_at hx]
  rfl
theorem fall_loop {st:SortSt} {n N:Nat} {Q:DescSt→SortSt→Prop} (hk:Cmp prog w A s b₀) (hN:N≤b₀.size) (h1:1≤n) (hn:n≤N) {q0:Nat} {xs0 c0:List Keyed} {v0:Int} (hq0:q0=0) (f0:Fall b₀ st n q0 xs0 c0 v0)
    (fin:∀ m q st' xs b v,Fall b₀ st' m q xs b v→n≤m→m≤N→Q (none,m,q) st'):wpS (model prog w) A E s (descLoop n N) Q st:=by
  subst hq0
  unfold descLoop
  refine wpS_forRange (I:=fun x c st'=>∃ q xs b v,c=(none,x,q)∧Fall b₀ st' x q xs b v) ?turn ?done ⟨0,xs0,c0,v0,rfl,f0⟩
  case done =>
    rintro c st' ⟨q,xs,b,v,rfl,f⟩
    rw[show max n N=N by omega] at f ⊢
    exact fin N q st' xs b v f hn (Nat.le_refl _)
  case turn =>
    rintro x c st' lo hi ⟨q,xs,b,v,rfl,f⟩
    dsimp only
    have hx:x<b₀.size:=by omega
    have kx:=f.next hx
    have kl:=f.last (by omega)
    refine wpS_bind (wpS_ltK f.base hk (by omega) (by omega) ?_)
    by_cases less:K (arrOf st') x<K (arrOf st') (x - 1)
    · rw[decide_eq_true less]
      simp only[if_true]
      have hl:∀ y∈b₀.toList.take x,ky b₀[x]<ky y:=fun y hy=>by
        rw[kx,kl] at less
        rw[f.cut] at hy
        rcases List.mem_append.mp hy with z | z
        · have:=f.less y z;omega
        · rw[f.same y z];exact less
      by_cases hq:q > 0
      · rw[if_pos hq]
        exact wpS_bind (wpS_reverse (wpS_pure ⟨0,_,_,_,rfl,fall_on (f.base.setArr (mirror_perm _ _ _ _)) hx (f.turned (by omega)) hl⟩))
      · rw[if_neg hq]
        obtain rfl:q=0:=by omega
        exact wpS_pure ⟨0,_,_,_,rfl,fall_on f.base hx f.still hl⟩
    · rw[decide_eq_false less]
      simp only[Bool.false_eq_true,if_false]
      refine wpS_bind (wpS_ltK f.base hk (by omega) (by omega) ?_)
      by_cases more:K (arrOf st') (x - 1)<K (arrOf st') x
      · rw[decide_eq_true more]
        simp only[if_true]
        exact wpS_pure (fin x q st' xs b v f lo (by omega))
      · rw[decide_eq_false more]
        simp only[Bool.false_eq_true,if_false]
        have eq:ky b₀[x]=v:=by rw[kx,kl] at less more;omega
        refine wpS_pure ⟨q+1,xs,b++[b₀[x]],v,rfl,f.base,?_,?_,by rw[List.length_append,f.len];rfl,fun y hy=>?_,f.less⟩
        · rw[take_at hx,f.cut,List.append_assoc]
        · rw[f.list,drop_at hx,List.append_assoc]
          rfl
        · rcases List.mem_append.mp hy with z | z
          · exact f.same y z
          · rw[List.mem_singleton.mp z];exact eq
theorem fall_part {st:SortSt} {n N:Nat} {Q:Option Nat→SortSt→Prop} (hk:Cmp prog w A s b₀) (hN:N≤b₀.size) (hn:n+1≤N) (hB:SBase b₀ st) (li:(arrOf st).toList=(srt (b₀.toList.take n)).reverse++b₀.toList.drop n)
    (hl:∀ (h:n<b₀.size),∀ y∈b₀.toList.take n,ky b₀[n]<ky y) (fin:∀ m st',Got b₀ st' m→1≤m→m≤N→Q (some m) st'):wpS (model prog w) A E s (descPart n N) Q st:=by
  unfold descPart
  refine wpS_bind (wpS_lift (wpAny_rule ⟨rfl,?_⟩))
  have hx:n<b₀.size:=by omega
  refine wpS_bind (fall_loop hk hN (by omega) hn rfl (fall_on hB hx li (hl hx)) fun m q st' xs b v f a1 a2=>?_)
  dsimp only
  by_cases hq:q > 0
  · rw[if_pos hq]
    exact wpS_bind (wpS_reverse (tail_in hk hN (by omega) a2 (f.base.setArr (mirror_perm _ _ _ _)) (f.turned (by omega)) fin))
  · rw[if_neg hq]
    obtain rfl:q=0:=by omega
    exact tail_in hk hN (by omega) a2 f.base f.still fin
theorem count_in {st:SortSt} {N:Nat} {Q:Option Nat→SortSt→Prop} (hk:Cmp prog w A s b₀) (hN:N≤b₀.size) (h1:1≤N) (hB:SBase b₀ st) (h0:(arrOf st).toList=b₀.toList)
    (fin:∀ m st',Got b₀ st' m→1≤m→m≤N→Q (some m) st'):wpS (model prog w) A E s (countRun' 0 N) Q st:=by
  rw[countRun0_eq]
  have g0:Got b₀ st 0:=⟨hB,by rw[h0];rfl⟩
  refine wpS_bind (wpS_ascLoop hk hN (Nat.le_refl 1) h1 hB (fun i j a b=>by
    obtain rfl:i=j:=by omega
    exact Int.le_refl _) fun n a1 a2 up stop=>?_)
  dsimp only
  have gn:Got b₀ st n:=g0.on (Nat.zero_le _) (by omega) up
  by_cases e:n=N
  · rw[if_pos (by simpa using e)]
    exact wpS_pure (fin n st gn a1 a2)
  rw[if_neg (by simpa using e)]
  have dn:K (arrOf st) n<K (arrOf st) (n - 1):=stop.resolve_left e
  have hn:n<b₀.size:=by omega
  have kn:K (arrOf st) n=ky b₀[n]:=K_of (gn.next hn)
  have li:(arrOf st).toList=b₀.toList.take n++b₀.toList.drop n:=by rw[h0,List.take_append_drop]
  have lt:(b₀.toList.take n).length=n:=by rw[List.length_take,sized];omega
  have id':srt (b₀.toList.take n)=b₀.toList.take n:=srt_id (up_of li (by rw[lt];exact up))
  have kat:∀ y∈b₀.toList.take n,∃ i,i<n∧K (arrOf st) i=ky y:=fun y hy=>by
    obtain⟨i,hi,rfl⟩:=List.mem_iff_getElem.mp hy
    rw[lt] at hi
    exact⟨i,hi,K_of (by rw[toL li,List.getElem?_append_left (by rw[lt];exact hi)];exact List.getElem?_eq_getElem _)⟩
  by_cases two:n > 1
  · rw[if_pos two]
    refine wpS_bind (wpS_ltK hB hk (by omega) (by omega) ?_)
    by_cases rose:K (arrOf st) 0<K (arrOf st) (n - 1)
    · rw[decide_eq_true rose]
      simp only[if_true]
      exact wpS_pure (fin n st gn a1 a2)
    · rw[decide_eq_false rose]
      simp only[Bool.false_eq_true,if_false]
      refine wpS_bind (wpS_reverse (fall_part hk hN (by omega) (hB.setArr (mirror_perm _ _ _ _)) ?_ (fun _ y hy=>?_) fin))
      · have e:=list_mirror (xs:=arrOf st) (p:=[]) (m:=b₀.toList.take n) (r:=b₀.toList.drop n) (i:=0) (j:=n) (by rw[List.nil_append];exact li) rfl (by rw[lt];simp)
        rw[id']
        exact e
      · obtain⟨i,hi,ki⟩:=kat y hy
        have u1:=up 0 i (by omega) hi
        have u2:=up i (n - 1) (by omega) (by omega)
        rw[← ki,← kn]
        omega
  · rw[if_neg two]
    obtain rfl:n=1:=by omega
    refine fall_part hk hN (by omega) hB ?_ (fun _ y hy=>?_) fin
    · rw[id']
      obtain⟨z,hz⟩:∃ z,b₀.toList.take 1=[z]:=List.length_eq_one_iff.mp lt
      rw[hz]
      rw[hz] at li
      exact li
    · obtain⟨i,hi,ki⟩:=kat y hy
      obtain rfl:i=0:=by omega
      rw[← ki,← kn]
      exact dn
theorem sort_in {st:SortSt} {Q:Unit→SortSt→Prop} (hk:Cmp prog w A s b₀) (hB:SBase b₀ st) (h0:(arrOf st).toList=b₀.toList) (h2:2≤b₀.size) (h64:b₀.size<64)
    (fin:∀ st',failedOf st'=none→(arrOf st').toList=srt b₀.toList→Q () st'):wpS (model prog w) A E s sortRuns' Q st:=by
  rw[sortRuns'_eq]
  refine wpS_bind (wpS_get ?_)
  dsimp only
  have mr:minRun' b₀.size b₀.size 0=b₀.size:=by
    obtain⟨f,hf⟩:∃ f,b₀.size=f+1:=⟨b₀.size - 1,by omega⟩
    have q:minRun' (f+1) b₀.size 0=b₀.size:=by
      rw[minRun'_succ,if_pos h64]
      rfl
    rwa [← hf] at q
  simp only[hB.size,mr]
  have whole:∀ {st':SortSt},Got b₀ st' b₀.size→(arrOf st').toList=srt b₀.toList:=fun {st'} g=>by
    have:=g.list
    rw[← sized,List.take_of_length_le (Nat.le_refl _),List.drop_of_length_le (Nat.le_refl _),List.append_nil] at this
    exact this
  refine wpS_bind (wpS_mono (wpS_forRange
    (I:=fun x c st'=>(x=0∧c=(none,0)∧st'=st)∨(1≤x∧c=(none,b₀.size)∧failedOf st'=none∧pendingOf st' = #[(0,b₀.size,0)]∧(arrOf st').toList=srt b₀.toList))
    (Q:=fun c st'=>c=(none,b₀.size)∧failedOf st'=none∧pendingOf st' = #[(0,b₀.size,0)]∧(arrOf st').toList=srt b₀.toList) ?turn ?done (.inl ⟨rfl,rfl,rfl⟩)) ?after)
  case done =>
    rintro c st' (⟨z,_⟩ | ⟨_,z⟩)
    · omega
    · exact z
  case turn =>
    rintro x c st' _ hx (⟨rfl,rfl,rfl⟩ | ⟨x1,rfl,z⟩)
    · dsimp only
      rw[if_neg (by omega)]
      simp only[Nat.sub_zero,Nat.min_self,Nat.zero_add]
      refine wpS_bind (count_in hk (Nat.le_refl _) (by omega) hB h0 fun m st2 g m1 m2=>?_)
      dsimp only
      have fin2:∀ {st3:SortSt},Got b₀ st3 b₀.size→(failedOf (setPending st3 ((pendingOf st3).push (0,b₀.size,0)))=none∧pendingOf (setPending st3 ((pendingOf st3).push (0,b₀.size,0))) = #[(0,b₀.size,0)]∧(arrOf (setPending st3 ((pendingOf st3).push (0,b₀.size,0)))).toList=srt b₀.toList):=fun {st3} g3 =>
        ⟨g3.base.failed,by show (pendingOf st3).push _=_;rw[g3.base.pend];rfl,show (arrOf st3).toList=srt b₀.toList from whole g3⟩
      by_cases lt:m<b₀.size
      · rw[if_pos lt]
        refine wpS_bind (wpS_lift (wpAny_rule ⟨rfl,?_⟩))
        refine wpS_bind (runs_in hk (Nat.le_refl _) m2 m1 g fun st3 g3=>?_)
        simp only[Bool.not_true,Bool.false_eq_true,if_false]
        refine wpS_bind (wpS_get ?_)
        rw[show (pendingOf st3).back? = none by rw[g3.base.pend];rfl]
        dsimp only
        exact wpS_bind (wpS_modify (wpS_pure (.inr ⟨by omega,rfl,fin2 g3⟩)))
      · rw[if_neg lt]
        obtain rfl:m=b₀.size:=by omega
        refine wpS_bind (wpS_get ?_)
        rw[show (pendingOf st2).back? = none by rw[g.base.pend];rfl]
        dsimp only
        exact wpS_bind (wpS_modify (wpS_pure (.inr ⟨by omega,rfl,fin2 g⟩)))
    · dsimp only
      rw[if_pos (Nat.le_refl _)]
      exact wpS_pure ⟨rfl,z⟩
  case after =>
    rintro c st' ⟨rfl,z1,z2,z3⟩
    dsimp only
    refine wpS_bind (wpS_mono (wpS_forRange (I:=fun _ c st2=>st2=st'∧c=(none,())) (Q:=fun c st2=>st2=st'∧c=(none,())) ?_ (fun _ _ q=>q) ⟨rfl,rfl⟩) ?_)
    · rintro x c st2 _ _ ⟨rfl,rfl⟩
      refine wpS_bind (wpS_get ?_)
      rw[if_pos (by rw[z2];exact Nat.le_refl 1)]
      exact wpS_pure ⟨rfl,rfl⟩
    · rintro c st2 ⟨rfl,rfl⟩
      exact wpS_pure (fin _ z1 z3)
end
end SG
namespace SS
open PySem PyProof.Rows
@[reducible] noncomputable def rk:SG.Rk:=⟨numOf,oneType'⟩
noncomputable local instance:SG.Rk:=rk
noncomputable abbrev ky (p:Keyed):Int:=numOf p.1
noncomputable abbrev put (x:Keyed) (l:List Keyed):List Keyed:=@SG.put rk x l
noncomputable abbrev srt (l:List Keyed):List Keyed:=@SG.srt rk l
noncomputable abbrev Up (l:List Keyed):Prop:=@SG.Up rk l
end SS
namespace L2
open PySem PySem.Spec PyProof.Rows
noncomputable abbrev lamEnv (qual:Str) (scope:Scope) (cl:List (Str × Addr)) (f c':Addr) (C:Addr):Env:=PySem.W.envX qual scope C f (.ref c') cl
noncomputable def cxLam (X:Cx) (A:Around) (Nc:List Str) (qual:Str) (scope:Scope) (cl:List (Str × Addr)) (f c':Addr) (s:Shared) (H:Hp):Cx :=
  { X with A:=A.deeper (lamEnv qual scope cl f c' s.heap.objs.size),N:=Nc,s₀:=s,H₀:=H,env:=lamEnv qual scope cl f c' s.heap.objs.size,outer:=X.stack,stack:=lamEnv qual scope cl f c' s.heap.objs.size::X.stack,ex:=[],fn:=fun _=>false,pn:=[],xe:=fun _ _=>False }
structure LamOk (X:Cx) (p:Str) (Nr:List Str) (scope:Scope) (cl:List (Str × Addr)) (src:List (Option Nat)):Prop where
  clos:closureFor scope X.env=pure cl
  kind:scope.kind = .function
  co:scope.isCoroutine=false
  gen:scope.isGenerator=false
  cell:∀ y∈scope.names,y.2≠.cell
  par:scope.names.lookup p=some .local
  sub:∀ x c,cl.lookup x=some c→X.env.cells.lookup x=some c
  has:∀ x,(scope.names.lookup x=some .cell∨scope.names.lookup x=some .free)→∃ c,cl.lookup x=some c
  frm:∀ (i j:Nat),src[i]? = some (some j)→∃ x,Nr[i]? = some x∧X.N[j]? = some x∧X.env.scope.names.lookup x=some .cell∧scope.names.lookup x=some .free
  len:src.length=Nr.length
section
variable {X:Cx} {A:Around} {p:Str} {Nr:List Str} {scope:Scope} {cl:List (Str × Addr)} {src:List (Option Nat)} {pins:List (Addr × Obj)} {σ:St} {H:Hp} {s:Shared} {f c':Addr} {name qual:Str} {params:Arguments} {body:Expr} {pm ctv u:Value} {v:V} {te:TE} {Q:VK}
end
end L2
namespace SS
open PySem PyProof.Rows
noncomputable def iput (k:Nat→Int) (x:Nat) (l:List Nat):List Nat:=l.takeWhile (fun y=>decide (k y≤k x))++x::l.dropWhile (fun y=>decide (k y≤k x))
noncomputable def iord (k:Nat→Int) (l:List Nat):List Nat:=l.foldl (fun acc x=>iput k x acc) []
end SS
namespace SG
open PySem PyProof.Rows
variable [Rk]
theorem pair_put {R:Nat→Keyed→Prop} {k:Nat→Int} (hR:∀ i p,R i p→ky p=k i) {i:Nat} {p:Keyed} (h:R i p) {l:List Nat} {l':List Keyed} (u:Paired R l l'):Paired R (SS.iput k i l) (put p l'):=by
  induction u with
  | nil=>exact .cons h .nil
  | @cons x y l l' r t ih =>
    by_cases q:k x≤k i
    · have q':ky y≤ky p:=by rw[hR _ _ r,hR _ _ h];exact q
      have e1:SS.iput k i (x::l)=x::SS.iput k i l:=by unfold SS.iput;simp[List.takeWhile,List.dropWhile,q]
      have e2:put p (y::l')=y::put p l':=by unfold put;simp[List.takeWhile,List.dropWhile,q']
      rw[e1,e2]
      exact .cons r ih
    · have q':¬ ky y≤ky p:=by rw[hR _ _ r,hR _ _ h];exact q
      have e1:SS.iput k i (x::l)=i::x::l:=by unfold SS.iput;simp[List.takeWhile,List.dropWhile,q]
      have e2:put p (y::l')=p::y::l':=by unfold put;simp[List.takeWhile,List.dropWhile,q']
      rw[e1,e2]
      exact .cons h (.cons r t)
theorem pair_srt {R:Nat→Keyed→Prop} {k:Nat→Int} (hR:∀ i p,R i p→ky p=k i) {l:List Nat} {l':List Keyed} (h:Paired R l l'):Paired R (SS.iord k l) (srt l'):=by
  have:∀ (l:List Nat) (l':List Keyed) (a:List Nat) (a':List Keyed),Paired R l l'→Paired R a a'→Paired R (l.foldl (fun acc x=>SS.iput k x acc) a) (l'.foldl (fun acc x=>put x acc) a'):=by
    intro l l' a a' h
    induction h generalizing a a' with
    | nil=>intro q;exact q
    | cons r t ih=>intro q;exact ih _ _ (pair_put hR r q)
  exact this l l' [] [] h .nil
end SG
namespace SS
open PySem PyProof.Rows
end SS
namespace L2
open PySem PySem.Spec PyProof.Rows
section
variable {X:Cx} {A:Around} {E:Value→Shared→Prop} {pins:List (Addr × Obj)} {σ:St} {H:Hp} {s:Shared} {a kS:Addr} {e e1:Nat} {keys:Array Value} {vs:List Value} {kz:List Int} {P:PySem.Fin→Shared→Prop}
theorem Inv.turn1 (I:Inv X pins σ H s) (f:FpOk X pins H a) {h':Heap} (hs:Heap.SameBut a s.heap h'):Inv X pins σ H { s with heap:=h' } :=
  I.turned (t':=s.toks) (fun b o n q=>(hs.2 b n).trans q) f.1 f.2.1 f.2.2.2.1 f.2.2.2.2.1 f.2.2.2.2.2
theorem Inv.adopt {xs:List V} {us:List Value} {n:Nat} (I:Inv X pins σ H s) (f:FpOk X pins H a) (ha:s.heap.get? a=some (seqObj "list" us.toArray n)) (r:Vals xs us) (hz:xs.length≤sizeLine):Inv X pins σ (upd H a (.lst xs)) s:=by
  have ne:∀ b o,H b=some o→b≠a:=fun b o q=>ne_of_none q f.1
  refine⟨I.ok,I.os,I.bare,⟨I.base.keep,I.base.slot,fun b o q n hx=>?_,I.base.there,fun b ys q=>?_,fun b o u q=>?_,fun b ps q=>?_⟩,I.loc,I.cell,?_,fun x c q=>?_,fun p hp=>?_,fun b o q=>?_,I.len⟩
  · have nb:b≠a:=fun z=>by
      subst z
      rcases f.2.2.2.1 with z | z
      · exact hx z
      · rw[z] at q;cases q
    rw[upd_ne nb]
    exact I.base.free b o q n hx
  · have z:=I.base.tups b ys q
    rw[upd_ne (ne _ _ z)];exact z
  · have z:=I.base.frzs b o u q
    rw[upd_ne (ne _ _ z)];exact z
  · obtain⟨m,z⟩:=I.base.tbls b ps q
    exact⟨m,by rw[upd_ne (ne _ _ z)];exact z⟩
  · rw[upd_ne (Ne.symm f.2.1)];exact I.free
  · rw[upd_ne (f.2.2.2.2.1 x c q)];exact I.freeC x c q
  · obtain⟨p1,p2,p3,p4,p5⟩:=I.pin p hp
    exact⟨p1,by rw[upd_ne (f.2.2.2.2.2 p hp)];exact p2,p3,p4,p5⟩
  · by_cases nb:b=a
    · subst nb
      rw[upd_same] at q
      cases q
      exact⟨hz,us,n,r,ha⟩
    · rw[upd_ne nb] at q
      refine (I.hok b o q).stay (fun c u _ z=>z) (fun c z=>?_) fun c ys z=>?_
      · rw[upd_ne (ne _ _ z)];exact z
      · rw[upd_ne (ne _ _ z)];exact z
end
theorem paired_of {α β:Type} {F:α→β→Prop}:∀ {l₁:List α} {l₂:List β},l₁.length=l₂.length→(∀ (i:Nat) a b,l₁[i]? = some a→l₂[i]? = some b→F a b)→Paired F l₁ l₂
  | [],[],_,_=>.nil
  | [],_::_,h,_=>by simp at h
  | _::_,[],h,_=>by simp at h
  | a::l,b::m,h,f=>.cons (f 0 a b rfl rfl) (paired_of (by simpa using h) fun i x y e1 e2=>f (i+1) x y (by simpa using e1) (by simpa using e2))
section
variable {X:Cx} {A:Around} {E:Value→Shared→Prop} {pins:List (Addr × Obj)} {σ:St} {H:Hp} {s:Shared} {r q:Addr} {xs:List V} {k:Nat→Int} {Q:VK}
noncomputable def RngCome (s:Shared) (lo:Int) (n:Nat) (w:Result) (s':Shared):Prop:=∃ h' tk acc c,w = .ok (.ret (.ref s.heap.objs.size))∧s' = { s with heap:=h',toks:=tk }∧(∀ b o,s.heap.get? b=some o→h'.get? b=some o)∧h'.get? s.heap.objs.size=some { cls:=.type "list",dict:=none,data:=.seq acc c,slots:=#[] }∧ItemsOf (fun i v=>∃ t,v = .int (lo+i*1) t) acc n
end
open PySem.W
structure LamHd (X:Cx) (c P:Addr):Prop where
  code:X.env.code = .ref c
  hd:CodeHd X.base c P
  bm:∃ bm o,X.mg "__builtins__" = some (.ref bm)∧bm≠builtinsNs∧bm≠mainGlobals∧X.base.get? bm=some o∧o.cls = .type "module"∧o.dict=some builtinsNs∧o.data = .plain
noncomputable def LamAt (H:Hp) (c':Addr) (qual:Str):Prop:=∃ oc vs t u,H c'=some (.frz oc u)∧oc.data = .fields vs∧vs[1]? = some (.str qual t)
noncomputable def LamTab (H:Hp) (P:Addr) (pos:Pos) (qual:Str):Prop :=
  ∃ ps,H P=some (.tbl ps)∧TriplesOk ps.toList∧(codeAmong pos ps.toList=none∨∃ c',codeAmong pos ps.toList=some (.ref c')∧LamAt H c' qual)
noncomputable def LamNext (H H':Hp) (P:Addr):Prop:=∀ b o,b≠P→H b=some o→H' b=some o
section
variable {X:Cx} {p:Str} {Nr:List Str} {scope:Scope} {cl:List (Str × Addr)} {src:List (Option Nat)} {pins:List (Addr × Obj)} {σ:St} {H:Hp} {s:Shared} {c P:Addr} {params:Arguments} {body:Expr} {pos:Pos} {E:Value→Shared→Prop}
noncomputable def LamCome (X:Cx) (pins:List (Addr × Obj)) (σ:St) (H:Hp) (P:Addr) (pos:Pos) (qual:Str) (params:Arguments) (body:Expr) (scope:Scope) (cl:List (Str × Addr)) (w:Value) (s':Shared):Prop :=
  ∃ f c' pm ctv H',w = .ref f∧Inv X pins σ H' s'∧LamNext H H' P∧LamTab H' P pos qual∧LamAt H' c' qual∧FpOk X pins H' f∧s'.heap.get? f=some (kla_obj "<lambda>" qual params body scope cl pm c' ctv)
end
end L2
namespace L2
open PySem PySem.Spec PyProof.Rows
noncomputable def FnAt (K:PySem.W.Frag) (x:Str) (st:Stmt):Prop:=∃ f fd,PySem.W.nsIn K mainGlobals x=some (some (.ref f))∧Fun K x x st f fd
section
variable {P:Program} {w:World} {K:PySem.W.Frag} {mg:Str→Option Value} {base:Heap} {x:Str} {st:Stmt} {CX:CXT} {k:Nat} {ps:List Str} {sp:Sp} {h0:Heap}
theorem FnAt.cal (h:FnAt K x st) (X:K.In h0) (G:h0.Ns mainGlobals mg)
    (hb:∀ (kV doc pm:Value) (an:Option Addr) (cdv ct:Value) (us:List Value),us.length=ps.length→bindArgs (PySem.W.fnOf x x (defArgs st) (defBody st) (defScope st) .none kV doc pm an cdv ct) ⟨us,[]⟩=pure (ps.zip us))
    (ok:∀ f fd,Fun K x x st f fd→FnOk P w K mg base CX k f fd ps sp):Cal P w K mg base CX k x ps sp:=by
  obtain⟨f,fd,a,F⟩:=h
  exact⟨f,fd,PySem.W.mg_of X G a,F.kp,F.binds hb,ok f fd F⟩
end
theorem ulen1 {α:Type} {us:List α} (h:us.length=1):∃ a,us=[a]:=by
  match us,h with
  | [a],_=>exact⟨a,rfl⟩
theorem ulen2 {α:Type} {us:List α} (h:us.length=2):∃ a b,us=[a,b]:=by
  match us,h with
  | [a,b],_=>exact⟨a,b,rfl⟩
theorem ulen3 {α:Type} {us:List α} (h:us.length=3):∃ a b c,us=[a,b,c]:=by
  match us,h with
  | [a,b,c],_=>exact⟨a,b,c,rfl⟩
theorem ulen4 {α:Type} {us:List α} (h:us.length=4):∃ a b c d,us=[a,b,c,d]:=by
  match us,h with
  | [a,b,c,d],_=>exact⟨a,b,c,d,rfl⟩
theorem ulen5 {α:Type} {us:List α} (h:us.length=5):∃ a b c d e,us=[a,b,c,d,e]:=by
  match us,h with
  | [a,b,c,d,e],_=>exact⟨a,b,c,d,e,rfl⟩
open PySem.W
noncomputable def BMain (mg:Str→Option Value) (base:Heap):Prop:=∃ bm o,mg "__builtins__" = some (.ref bm)∧bm≠builtinsNs∧bm≠mainGlobals∧base.get? bm=some o∧o.cls = .type "module"∧o.dict=some builtinsNs∧o.data = .plain
noncomputable def OnlyT (tabs:List (Addr × Addr)) (H:Hp):Prop:=∀ b,H b=none∨(∃ o xs,H b=some (.frz o (.lst xs)))∨((∃ q∈tabs,q.2=b)∧H b=some (.tbl #[]))
end L2
namespace SS
theorem iput_permK (k:Nat→Int) (x:Nat) (l:List Nat):(iput k x l).Perm (l++[x]):=by
  unfold iput
  refine List.perm_middle.trans ?_
  rw[List.takeWhile_append_dropWhile]
  exact (List.perm_append_singleton x l).symm
theorem iord_permK (k:Nat→Int) (l:List Nat):(iord k l).Perm l:=by
  have:∀ (l acc:List Nat),(l.foldl (fun acc x=>iput k x acc) acc).Perm (acc++l):=by
    intro l
    induction l with
    | nil=>intro acc;simp
    | cons x r ih =>
      intro acc
      rw[List.foldl_cons]
      refine (ih _).trans ?_
      have:=(iput_permK k x acc).append_right r
      simpa using this
  have q:=this l []
  rw[List.nil_append] at q
  exact q
end SS
namespace L2
open PySem PySem.Spec PyProof.Rows PySem.W
section
variable {prog:Program} {w:World} {A:Around} {E:Value→Shared→Prop} {s:Shared}
end
noncomputable def rSortTup:List V→Hp→VK→Prop:=fun xs H Q=>∃ (a:Addr) (ts:List V) (nsOf:Nat→List Int) (rk:Nat→Int),xs=[.ref a]∧H a=some (.lst ts)∧ts.length<64 ∧
  (∀ i,i<ts.length→∃ t,ts[i]? = some (.ref t)∧H t=some (.tup ((nsOf i).map V.int))∧nsOf i≠[])∧(∀ i j,i<ts.length→j<ts.length→HT.lexLt (nsOf i) (nsOf j)=decide (rk i<rk j)) ∧
  New H (.lst ((SS.iord rk (List.range ts.length)).map fun i=>ts.getD i .non)) Q
section
variable {X:Cx} {A:Around} {E:Value→Shared→Prop} {pins:List (Addr × Obj)} {σ:St} {H:Hp} {s:Shared} {a:Addr} {its:List Value} {ts:List V} {nsOf:Nat→List Int} {rk:Nat→Int} {P:PySem.Fin→Shared→Prop}
noncomputable def TupAt (H:Hp) (ts:List V) (its:List Value) (nsOf:Nat→List Int):Prop:=Vals ts its∧∀ i,i<ts.length→∃ t,ts[i]? = some (.ref t)∧H t=some (.tup ((nsOf i).map V.int))∧nsOf i≠[]
open Classical in
noncomputable def rankOf (its:List Value) (rk:Nat→Int):Value→Int:=fun v=>if h:∃ i,its[i]? = some v then rk h.choose else 0
end
end L2
namespace L2
open PySem PySem.Spec PyProof.Rows
section
variable {X:Cx}
theorem mt_startswith:MtR X "str.startswith" (fun x vs H Q=>∃ z y,x = .str z∧vs=[.str y]∧Q (.bl (Txt.startswith z y)) H):=by
  intro pins s σ H x xs v us Q I rx rv h
  obtain⟨z,y,rfl,rfl,q⟩:=h
  obtain⟨t,rfl⟩:=rx
  obtain⟨u,rfl,ru⟩:=Vals.one rv
  obtain⟨tu,rfl⟩:=ru
  exact SC.startswith ⟨.bl _,H,I,rfl,q⟩
end
open PySem.W
noncomputable def tSortK (P:Addr) (lpos:Pos) (qual:Str) (src:List (Option Nat)) (ta:TA) (te:TE):TE:=fun σ H Q=>ta σ H fun vs H1=>∃ (n:Nat) (k:Nat→Int),vs=[.int n]∧n<64∧LamTab H1 P lpos qual ∧
  ∀ H2,LamNext H1 H2 P→LamTab H2 P lpos qual→(∀ i,i<n→te (some (.int i)::capt src σ) H2 fun x H'=>x = .int (k i)∧H'=H2)∧∀ D,H2 D=none→Q (.ref D) (upd H2 D (.lst ((SS.iord k (List.range n)).map fun i=>.int (i:Nat))))
section
variable {X:Cx} {p:Str} {Nr:List Str} {scope:Scope} {cl:List (Str × Addr)} {src:List (Option Nat)} {c P:Addr} {params:Arguments} {body a:Expr} {pos lpos kpos p1 p2 p3:Pos} {ta:TA} {te:TE}
end
end L2
namespace L2
open PySem PySem.Spec PyProof.Rows
theorem boot_all:bootBuiltins "all" = some (.builtin "all"):=by kernel_rfl
theorem has_of {l:List (Str × NameKind)} {cl:List (Str × Addr)} (h:l.all (fun y=>match y.2 with | .cell | .free=>(cl.lookup y.1).isSome | _=>true)=true) (x:Str) (z:l.lookup x=some .cell∨l.lookup x=some .free):∃ c,cl.lookup x=some c:=by
  rcases z with z | z
  · have:=List.all_eq_true.mp h _ (PySem.mem_of_lookup z)
    exact Option.isSome_iff_exists.mp this
  · have:=List.all_eq_true.mp h _ (PySem.mem_of_lookup z)
    exact Option.isSome_iff_exists.mp this
theorem sub_of {cl cs:List (Str × Addr)} (h:∀ q∈cl,cs.lookup q.1=some q.2) (x:Str) (c:Addr) (z:cl.lookup x=some c):cs.lookup x=some c:=h _ (PySem.mem_of_lookup z)
theorem frm_nil {C:Nat→Nat→Prop} (i j:Nat) (z:([]:List (Option Nat))[i]? = some (some j)):C i j:=by simp at z
theorem frm_none {l:List (Option Nat)} {C:Nat→Nat→Prop} (h:∀ i j,l[i]? = some (some j)→C (i+1) j) (i j:Nat) (z:(none::l)[i]? = some (some j)):C i j:=by
  cases i with
  | zero=>simp at z
  | succ i=>exact h i j (by simpa using z)
theorem frm_some {l:List (Option Nat)} {k:Nat} {C:Nat→Nat→Prop} (h0:C 0 k) (h:∀ i j,l[i]? = some (some j)→C (i+1) j) (i j:Nat) (z:(some k::l)[i]? = some (some j)):C i j:=by
  cases i with
  | zero =>
    have:some k=some j:=by simpa using z
    cases this
    exact h0
  | succ i=>exact h i j (by simpa using z)
section
variable {X:Cx} {a b c:Expr} {ta:TA} {te:TE} {p1 p2 p3 pos:Pos}
noncomputable def RngHere (X:Cx) (pins:List (Addr × Obj)) (σ:St) (R:Int→Int→Hp→Prop) (w:Value) (s':Shared):Prop :=
  ∃ r i j t u v H1,w = .ref r∧Inv X pins σ H1 s'∧IsRange s'.heap r i j 1 t u v∧(-(2 ^ 62)≤i∧i<2 ^ 62∧-(2 ^ 62)≤j∧j<2 ^ 62)∧R i j H1
noncomputable def tRng2 (ta:TA) (σ:St) (H:Hp) (R:Int→Int→Hp→Prop):Prop:=ta σ H fun vs H1=>∃ i j:Int,vs=[.int i,.int j]∧(-(2 ^ 62)≤i∧i<2 ^ 62∧-(2 ^ 62)≤j∧j<2 ^ 62)∧R i j H1
noncomputable def tListRng (ta:TA):TE:=fun σ H Q=>tRng2 ta σ H fun i j H1=>(j - i).toNat≤2 ^ 24∧New H1 (.lst ((List.range (j - i).toNat).map fun k=>.int (i+(k:Nat)))) Q
noncomputable def tInRng (te:TE) (ta:TA):TT:=fun σ H Q=>te σ H fun x H1=>∃ n,x = .int n∧tRng2 ta σ H1 fun i j H2=>Q (decide (i≤n∧n<j)) H2
end
section
variable {X:Cx} {elt iter tgt:Expr} {ifs:List Expr} {scope:Scope} {cl:List (Str × Addr)} {Nc:List Str} {src:List (Option Nat)} {g:TG} {tt:TT} {te:TE}
theorem ps_setC {i:Nat} {x:Str} {wi:TI} {pos pos' cpos:Pos} (hN:X.N.Nodup) (hx:X.N[i]? = some x) (hl:X.env.scope.names.lookup x=some .local) (c:CompOk X Nc scope cl src) (hcalm:X.calm=true) (hi:PI X tgt iter wi)
    (hb:∀ fp C s' H',PG (cxCompF X Nc scope cl C fp s' H') tgt g∧PIf (cxCompF X Nc scope cl C fp s' H') ifs tt∧PE (cxCompF X Nc scope cl C fp s' H') elt te)
    (hsw:swapsWith (.ListComp elt [⟨tgt,iter,ifs,0⟩] scope cpos) (some (.Name x pos')) pos.line X.env=pure true:=by rfl)
    (hs:∀ x,foldedSetIterable iter X.env x=pure x:=by intro _;rfl):PS X (.Assign [.Name x pos'] (.ListComp elt [⟨tgt,iter,ifs,0⟩] scope cpos) pos) (tAsg (tCompI src wi g tt te) (gName i)):=by
  intro pins s σ H D I h
  rw[exec_Assign_Name_used _ _ _ _ hsw]
  refine wpAny_bind (wpAny_standAt (wpAny_bind ?_))
  show wpAny _ X.A (do let _ ← comprehension (.ListComp elt [⟨tgt,iter,ifs,0⟩] scope cpos) scope X.env _ (newList []) false (eval iter X.env) (some (assign (.Name x pos') X.env))) _ _ s
  refine wpAny_bind (wpAny_mono (wpAny_comprehension_free (use:=some (assign (.Name x pos') X.env)) (Q:=fun _ s'=>∃ σ' H',Inv X pins σ' H' s'∧D.nx σ' H') rfl hs c.clos c.kind c.names (thn (hi pins s σ H _ I h) fun v s1 h1=>thn h1 fun itv s2 h2=>?_)) (fun _ s' hq=>wpAny_pure (wpAny_pure hq)) fun _ _ z=>z)
  obtain⟨it,fp,tn,J,H2,e,I2,T,st2,f2,hT⟩:=h2
  subst e
  refine wpAny_newObj_type ?_ (by size_fits)
  have old:∀ b o,s2.heap.get? b=some o→(s2.heap.push { cls:=.type "list",data:=.seq ([]:List Value).toArray }).get? b=some o:=fun b o e=>Heap.get?_push_of_some _ e
  have I3:=I2.laid (a:=s2.heap.objs.size) (o:=.lst []) (t':=s2.toks) (h':=s2.heap.push { cls:=.type "list",data:=.seq ([]:List Value).toArray }) old (Nat.le_refl _) ⟨Nat.zero_le _,[],0,.nil,Heap.get?_push_size _ rfl⟩
  have ne:∀ b∈fp,b≠s2.heap.objs.size:=fun b hb=>by
    obtain⟨o,e,_⟩:=T.obj 0 _ st2 b hb
    exact Nat.ne_of_lt (Heap.lt_size e)
  have f3:∀ b∈fp,FpOk X pins (upd H2 s2.heap.objs.size (.lst [])) b:=fun b hb=>⟨by rw[upd_ne (ne b hb)];exact (f2 b hb).1,(f2 b hb).2⟩
  refine comp_blockI (it:=it) (R:=fun C=>compPost (model X.prog X.w) X.A X.xe (some (assign (.Name x pos') X.env)) (fun _ s'=>∃ σ' H',Inv X pins σ' H' s'∧D.nx σ' H') _ C) c hcalm I3 T (T.keep _ _ _ st2 fun b _ o e=>old b o e) f3 (hb fp) (hT _ (I2.hok.fresh (Nat.le_refl _))) fun C ys σ' H' s' hC J' hD q=>?_
  obtain⟨m,hn,_⟩:=id J'.loc
  have B:Inv X pins σ H' s':=comp_backI I3 f3 J' ⟨rfl,fun _ _=>rfl⟩
  have Cge:∀ b o,(s2.heap.push { cls:=.type "list",data:=.seq ([]:List Value).toArray }).get? b=some o→b≠C:=fun b o e=>Nat.ne_of_lt (Nat.lt_of_lt_of_le (Heap.lt_size e) J'.ok.above)
  have CL:C≠X.env.locals:=fun z=>by
    obtain⟨m3,⟨o,_,_,ho,_⟩,_⟩:=I3.loc
    exact Cge _ o ho z.symm
  refine wpAny_assign_Name (store_ok2 B hN hx (.inl hl) (v:=.ref s2.heap.objs.size) rfl (fun s5 I5 hsb=>?_) (.inr hl))
  obtain⟨a,sb,ha⟩:=hsb
  have aL:a≠C:=by
    rcases ha with rfl | ha
    · exact CL.symm
    · obtain⟨v,o,ho,_⟩:=I3.cell x a ha
      exact Cge _ o ho
  refine⟨m,hn.sameBut sb aL.symm,fun h' hs'=>⟨_,H',I5.turned (t':=s5.toks) (fun b o n e=>(hs'.2 b n).trans e) J'.free CL ?_ (fun y b e z=>?_) (fun p hp z=>?_),q⟩⟩
  · exact .inr (Heap.get?_none_of_le (Nat.le_trans I3.sz J'.ok.above))
  · obtain⟨v,o,ho,_⟩:=I3.cell y b e
    exact Cge _ o ho z
  · exact Cge _ _ (I3.pin p hp).1 z
end
end L2
namespace L2
open PySem
end L2
namespace Pg
open PySem L2
structure Glb (mg:Str→Option Value):Prop where
  isinstance:mg "isinstance" = none
  int:mg "int" = none
  bool:mg "bool" = none
  str:mg "str" = none
  len:mg "len" = none
  range:mg "range" = none
  ve:mg "ValueError" = none
  list:mg "list" = none
  tuple:mg "tuple" = none
  dict:mg "dict" = none
  set:mg "set" = none
  all:mg "all" = none
  any:mg "any" = none
  sum:mg "sum" = none
  sorted:mg "sorted" = none
  abs:mg "abs" = none
  max:mg "max" = none
  min:mg "min" = none
  zip:mg "zip" = none
  enumerate:mg "enumerate" = none
  reversed:mg "reversed" = none
structure Er (K:PySem.W.Frag) (mg:Str→Option Value) (x:Str) (c:Addr):Prop where
  at':mg x=some (.ref c)
  ex:PySem.W.excIn K c veMro "ValueError.__new__" = true
noncomputable def Num (mg:Str→Option Value) (x:Str) (n:Int):Prop:=∃ t,mg x=some (.int n t)
noncomputable def Txt (mg:Str→Option Value) (x:Str) (z:Str):Prop:=∃ t,mg x=some (.str z t)
structure Kds (mg:Str→Option Value) (d:Nat→Addr):Prop where
  g0:mg "BadAmount" = some (.ref (d 0))
  g1:mg "BadShare" = some (.ref (d 1))
  g2:mg "BadText" = some (.ref (d 2))
  g3:mg "BadMonth" = some (.ref (d 3))
  g4:mg "BadYear" = some (.ref (d 4))
  g5:mg "BadRule" = some (.ref (d 5))
  g6:mg "BadBook" = some (.ref (d 6))
  g7:mg "NoYear" = some (.ref (d 7))
  g8:mg "BadDay" = some (.ref (d 8))
  g9:mg "BadEntry" = some (.ref (d 9))
  g10:mg "NoMark" = some (.ref (d 10))
  g11:mg "NoPerson" = some (.ref (d 11))
  g12:mg "TooMany" = some (.ref (d 12))
  g13:mg "BadClose" = some (.ref (d 13))
  g14:mg "BadLine" = some (.ref (d 14))
structure KdOf (K:PySem.W.Frag) (d:Nat→Addr) (C:Addr) (i:Nat):Prop where
  cls:XK.ExcCls K C
  ve:PySem.W.kitOne K (.ref C) (.type "ValueError")=some true
  k0:PySem.W.kitOne K (.ref C) (.ref (d 0))=some (decide (i=0))
  k1:PySem.W.kitOne K (.ref C) (.ref (d 1))=some (decide (i=1))
  k2:PySem.W.kitOne K (.ref C) (.ref (d 2))=some (decide (i=2))
  k3:PySem.W.kitOne K (.ref C) (.ref (d 3))=some (decide (i=3))
  k4:PySem.W.kitOne K (.ref C) (.ref (d 4))=some (decide (i=4))
  k5:PySem.W.kitOne K (.ref C) (.ref (d 5))=some (decide (i=5))
  k6:PySem.W.kitOne K (.ref C) (.ref (d 6))=some (decide (i=6))
  k7:PySem.W.kitOne K (.ref C) (.ref (d 7))=some (decide (i=7))
  k8:PySem.W.kitOne K (.ref C) (.ref (d 8))=some (decide (i=8))
  k9:PySem.W.kitOne K (.ref C) (.ref (d 9))=some (decide (i=9))
  k10:PySem.W.kitOne K (.ref C) (.ref (d 10))=some (decide (i=10))
  k11:PySem.W.kitOne K (.ref C) (.ref (d 11))=some (decide (i=11))
  k12:PySem.W.kitOne K (.ref C) (.ref (d 12))=some (decide (i=12))
  k13:PySem.W.kitOne K (.ref C) (.ref (d 13))=some (decide (i=13))
  k14:PySem.W.kitOne K (.ref C) (.ref (d 14))=some (decide (i=14))
structure Rz (K:PySem.W.Frag) (d:Nat→Addr) (cR:Addr) (i:Nat):Prop where
  ex:PySem.W.exmOne K (.ref (d i)) (.ref cR)=some true
  kd:KdOf K d (d i) i
noncomputable def kPairs (i:Nat):List (Str × Bool):=[("amount",decide (i=0)),("share",decide (i=1)),("text",decide (i=2)),("month",decide (i=3)),("year",decide (i=4)),("rule",decide (i=5)),("book",decide (i=6)),("noyear",decide (i=7)),("day",decide (i=8)),("entry",decide (i=9)),("nomark",decide (i=10)),("noperson",decide (i=11)),("many",decide (i=12)),("close",decide (i=13)),("line",decide (i=14))]
noncomputable def kWord (i:Nat):List V:=((kPairs i).filter (·.2)).map (fun p=>V.str p.1)++[.str "value"]
noncomputable def sp_kind (K:PySem.W.Frag) (d:Nat→Addr):Sp:=fun vs H Q _=>∃ ea C i,vs=[.ref ea]∧Held K H ea C∧KdOf K d C i∧∀ l H',Same H H'→H l=none→H' l=some (.lst (kWord i))→Q (.ref l) H'
noncomputable def sp_is_number (K:PySem.W.Frag):Sp:=fun vs H Q _=>∃ v,vs=[v]∧((∃ z,v = .int z∧Q (.bl true) H)∨(NoNum K H v∧Q (.bl false) H))
noncomputable def sp_within (K:PySem.W.Frag):Sp:=fun vs H Q _=>∃ v a b,vs=[v,.int a,.int b]∧((∃ z,v = .int z∧Q (.bl (decide (a≤z∧z≤b))) H)∨(NoNum K H v∧Q (.bl false) H))
noncomputable def sp_need_amount (K:PySem.W.Frag) (cA:Addr):Sp:=fun vs H Q E=>∃ v,vs=[v]∧((∃ z,v = .int z∧Q .non H)∨(NoNum K H v∧E (.ref cA) none H))
noncomputable def NotTo (K:PySem.W.Frag) (H:Hp) (m:Int) (v:V):Prop:=NoNum K H v∨∃ z,v = .int z∧¬ (0≤z∧z≤m)
noncomputable def sp_need (K:PySem.W.Frag) (c:Addr) (m:Int):Sp:=fun vs H Q E=>∃ v,vs=[v]∧((∃ z,v = .int z∧0≤z∧z≤m∧Q .non H)∨(NotTo K H m v∧E (.ref c) none H))
noncomputable def sp_cell (K:PySem.W.Frag):Sp:=fun vs H Q _=>∃ a k ns,vs=[.ref a,.int k]∧SqL K H a (ns.map V.int)∧0≤k∧Q (.int (cellZ ns k)) H
noncomputable def sp_mixed (K:PySem.W.Frag):Sp:=fun vs H Q _=>∃ a k ns,vs=[.ref a,.int k]∧SqL K H a (ns.map V.int)∧0≤k∧k≤1000∧Q (.int (mixZ ns k)) H
noncomputable def sp_whole:Sp:=fun vs H Q _=>∃ z,vs=[.int z]∧Q (.bl true) H
noncomputable def sp_lawS (K:PySem.W.Frag):Sp:=fun vs H Q _=>∃ (a:Addr) (ns:List Int),vs=[.ref a]∧SqL K H a (ns.map V.int)∧∀ H',Q (.bl true) H'
theorem sub1 {cs:List (Str × Addr)} {k:Str} {a:Addr} (h:cs.lookup k=some a):∀ q∈[(k,a)],cs.lookup q.1=some q.2:=fun q hq=>by rw[List.mem_singleton.mp hq];exact h
theorem subN {cs cl:List (Str × Addr)} {k:Str} {a:Addr} (h:cs.lookup k=some a) (t:∀ q∈cl,cs.lookup q.1=some q.2):∀ q∈(k,a)::cl,cs.lookup q.1=some q.2:=fun q hq=>by
  rcases List.mem_cons.mp hq with rfl | hq
  · exact h
  · exact t q hq
noncomputable def sp_year_of (K:PySem.W.Frag) (c:Addr):Sp:=fun vs H Q E=>∃ v,vs=[v]∧((∃ z,v = .int z∧0≤z∧z≤119999∧Q (.int (z/12)) H)∨(NotTo K H 119999 v∧E (.ref c) none H))
noncomputable def sp_place_of (K:PySem.W.Frag) (c:Addr):Sp:=fun vs H Q E=>∃ v,vs=[v]∧((∃ z,v = .int z∧0≤z∧z≤119999∧Q (.int (z%12+1)) H)∨(NotTo K H 119999 v∧E (.ref c) none H))
noncomputable def monthsL (i:Int) (n:Nat):List V:=(List.range n).map fun k=>.int (i+(k:Nat))
noncomputable def sp_months_of (K:PySem.W.Frag) (c:Addr):Sp:=fun vs H Q E=>∃ v,vs=[v]∧((∃ z,v = .int z∧0≤z∧z≤9999∧New H (.lst (monthsL (z*12) 12)) Q)∨(NotTo K H 9999 v∧E (.ref c) none H))
end Pg
set_option maxHeartbeats 4000000
namespace K13
open PySem PySem.NumText L2 Pg
noncomputable def top (i:Nat):Stmt:=PySem.Challenge.pw_coinroll_k13_dues_of_months.main.body.getD i (.Pass ⟨0,0,0,0⟩)
end K13
namespace L2
open PySem PySem.W PySem.Calls PyProof.Rows
noncomputable def runT (tb:String→Option Builtin) (p:Program) (w:World) (n₀:Nat) (ann:Option Value):Nat→SharedT→Thread→Option SharedT
  | 0,_,_=>none
  | n+1,s,t=>match through t with
    | true=>some s
    | false=>match stepOk n₀ ann t with
      | false=>none
      | true=>match stepT (denote tb) p w s t with
        | some (s',t')=>runT tb p w n₀ ann n s' t'
        | none=>none
theorem run_of {tb:String→Option Builtin} {p:Program} {w:World} {n₀:Nat} {ann:Option Value} (n:Nat):∀ {s s':SharedT} {t:Thread},runT tb p w n₀ ann n s t=some s'→topRun tb p w n₀ ann n s.abs t=some s'.abs:=by
  induction n with
  | zero=>intro s s' t h;cases h
  | succ n ih =>
    intro s s' t h
    unfold runT at h
    unfold topRun
    cases ht:through t with
    | true=>rw[ht] at h;cases h;rfl
    | false =>
      rw[ht] at h
      cases hk:stepOk n₀ ann t with
      | false=>rw[hk] at h;cases h
      | true =>
        rw[hk] at h
        cases hs:stepT (denote tb) p w s t with
        | none=>rw[hs] at h;cases h
        | some r =>
          obtain⟨s₂,t₂⟩:=r
          rw[hs] at h
          rw[stepT_spec hs]
          exact ih h
noncomputable def grow:List Obj→BT→Nat→Option BT
  | [],t,_=>some t
  | o::l,t,n=>match ((t.ins n o).get n).isSome with
    | true=>grow l (t.ins n o) (n+1)
    | false=>none
theorem grow_of {life:Life} (l:List Obj):∀ {t t':BT} {n:Nat},grow l t n=some t'→(absHeap t' (n+l.length) life).objs.toList=(absHeap t n life).objs.toList++l:=by
  induction l with
  | nil=>intro t t' n h;cases h;rw[List.append_nil];rfl
  | cons o l ih =>
    intro t t' n h
    unfold grow at h
    cases e:((t.ins n o).get n).isSome with
    | false=>rw[e] at h;cases h
    | true =>
      rw[e] at h
      have:=ih h
      rw[List.length_cons,show n+(l.length+1)=n+1+l.length by omega,this,absHeap_ins e]
      show ((absHeap t n life).objs.push o).toList++l=_
      rw[Array.toList_push,List.append_assoc]
      rfl
noncomputable def onceT {β:Type} (p:Program) (m:Nat) (ann:Option Value) (M:Nat) (see:Shared→β) (w:World) (os:OsState):Option β :=
  (grow (boot_heap w.params).objs.toList .nil 0).bind fun t=>(runT treeTable p w m ann M ⟨t,m,(boot_heap w.params).life,Array.mk [],boot_drawn,boot_toks,os⟩ (topStub p)).map fun s=>see s.abs
theorem left_once {p q:Program} {loose:List Str} {Xt:Shared→Bool} {α:Type} {Yf:Shared→α} {Ya:World→α} {N M m:Nat} {g0:Bool} {ann:Option Value}
    (e:opening p=plainProg p.main.scope.names) (hN:Nat.ble 600 N=true) (f:∀ s,fenceModules? p s=some s) (le:Nat.ble M N=true)
    (size:∀ w:World,((boot_heap w.params).isNs mainGlobals,(boot_heap w.params).objs.toList.length,(boot_heap w.params).nsMap mainGlobals "__annotations__")=(true,m,ann))
    (h:∀ (w:World) (os:OsState),onceT p m ann M (fun s=>((staticsOk (importedModules p.main.body) (boot_heap w.params) s.heap&&namesBound p s.heap&&gensDone s&&laidKept (boot_heap w.params) s.heap),openSeen q loose (importedModules p.main.body) Xt g0 s,Yf s)) w os=some (true,openGood q loose,Ya w)) :
    LeftO p q loose Xt Yf Ya N g0:=fun w=>by
  obtain⟨⟨hp,gs,d,k,os⟩,e1,e2⟩:=Option.map_eq_some_iff.mp (boot_open e hN f w)
  obtain⟨rfl,rfl,rfl,rfl⟩:hp=boot_heap w.params∧gs=Array.mk []∧d=boot_drawn∧k=boot_toks:=by
    have a:=congrArg Prod.fst e2
    have b:=congrArg (fun x=>x.2.1) e2
    have c:=congrArg (fun x=>x.2.2.1) e2
    have d:=congrArg (fun x=>x.2.2.2) e2
    exact⟨a,b,c,d⟩
  have sz:=size w
  have z1:(boot_heap w.params).isNs mainGlobals=true:=congrArg Prod.fst sz
  have z2:(boot_heap w.params).objs.toList.length=m:=congrArg (fun x=>x.2.1) sz
  have z3:(boot_heap w.params).nsMap mainGlobals "__annotations__" = ann:=congrArg (fun x=>x.2.2) sz
  have h:=h w os
  unfold onceT at h
  obtain⟨t,ht,h⟩:=Option.bind_eq_some_iff.mp h
  obtain⟨s,hs,h⟩:=Option.map_eq_some_iff.mp h
  have ab:SharedT.abs ⟨t,m,(boot_heap w.params).life,Array.mk [],boot_drawn,boot_toks,os⟩=⟨boot_heap w.params,Array.mk [],boot_drawn,boot_toks,os⟩:=by
    have g:=grow_of (life:=(boot_heap w.params).life) _ ht
    rw[Nat.zero_add,z2] at g
    have g':(absHeap t m (boot_heap w.params).life).objs.toList=(boot_heap w.params).objs.toList:=g
    have g2:absHeap t m (boot_heap w.params).life=boot_heap w.params:=by
      show Heap.mk (absHeap t m (boot_heap w.params).life).objs (boot_heap w.params).life=Heap.mk (boot_heap w.params).objs (boot_heap w.params).life
      exact congrArg (Heap.mk · _) (Array.toList_inj.mp g')
    show Shared.mk (absHeap t m (boot_heap w.params).life) _ _ _ _=_
    rw[g2]
  have r:=run_of M hs
  rw[ab] at r
  have r:=topRun_mono (N - M) _ _ _ _ r
  rw[show M+(N - M)=N by have:=Nat.le_of_ble_eq_true le;omega] at r
  have l1:=congrArg Prod.fst h
  have l2:=congrArg Prod.snd h
  dsimp only at l1 l2
  have t:topFrom treeTable p w N ⟨boot_heap w.params,Array.mk [],boot_drawn,boot_toks,os⟩=some s.abs:=by
    unfold topFrom
    have c:((boot_heap w.params).isNs mainGlobals&&(Array.mk ([]:List GenState)).size==0)=true:=by rw[z1];rfl
    show (match (boot_heap w.params).isNs mainGlobals&&(Array.mk ([]:List GenState)).size==0 with | true=>_ | false=>none)=_
    rw[c]
    show (topRun treeTable p w (boot_heap w.params).objs.size ((boot_heap w.params).nsMap mainGlobals "__annotations__") N _ _).bind _=_
    rw[show (boot_heap w.params).objs.size=m from z2,z3,r]
    show (match _ with | true=>_ | false=>none)=_
    rw[l1]
  unfold openEnds
  rw[e1]
  show (topFrom treeTable p w N _).map _=_
  rw[t]
  exact congrArg some l2
end L2
namespace L2
open PySem PySem.Spec PyProof.Rows
noncomputable def CalM (P:Program) (w:World) (K:PySem.W.Frag) (mg:Str→Option Value) (base:Heap) (CX:CXT) (k:Nat) (C:Addr) (m:Str) (ps:List Str) (sp:Sp):Prop :=
  Cls K C∧∃ f fd,Meth K C m f∧Binds K fd ps []∧FnOk P w K mg base CX k f fd ps sp
noncomputable def CalN (P:Program) (w:World) (K:PySem.W.Frag) (mg:Str→Option Value) (base:Heap) (CX:CXT) (k:Nat) (x:Str) (C:Addr) (ps:List Str) (sp:Sp):Prop :=
  mg x=some (.ref C)∧∃ f fd,Mk K C f∧Binds K fd ps []∧FnOk P w K mg base CX k f fd ps sp
section
variable {X:Cx} {CX:CXT} {j k:Nat} {C:Addr} {ps:List Str} {sp:Sp} {x m:Str} {p apos pos:Pos} {o e:Expr} {es:List Expr} {ta:TE} {t:TA} {E:XK}
noncomputable def tMt (C:Addr) (m:Str) (sp:Sp) (E:XK) (ta:TE) (t:TA):TE:=fun σ H Q=>ta σ H fun x H1=>∃ a dx fs,x = .ref a∧H1 a=some (.ins C dx fs)∧fs.lookup m=none∧t σ H1 fun vs H2=>sp (x::vs) H2 Q E
theorem pe_calM {pl:Sem Bool} (M:CalM X.prog X.w X.K X.mg X.base CX k C m ps sp) (hr:Room j X.A) (hj:k≤j) (hx:Passes CX X E) (he:PE X o ta) (ha:PA X (e::es) t)
    (hst:starEach (e::es) X.env=(false,eval e X.env)::starEach es X.env:=by exact starEach_cons rfl) (hpl:(backTo pos (starEach es X.env)).any (·.1)=false:=by exact noStars rfl)
    (ht:eval (.Call (.Attribute o m apos) (e::es) [] pos) X.env=(do
      let ov ← eval o X.env
      standAt apos.atName
      let (f,first) ← holding [ov] (getMethod ov m pl)
      callWith pos f first (backTo pos (starEach (e::es) X.env)) (backToKw pos (keywordEach [] X.env))):=by rfl) :
    PE X (.Call (.Attribute o m apos) (e::es) [] pos) (tMt C m sp E ta t):=by
  obtain⟨c,f,fd,hm,hb,F⟩:=M
  intro pins s σ H Q I h
  refine pe_meth (dvs:=[]) he c hm F (hr.mono hj) hb .nil hx ha hst hpl ht pins s σ H Q I ?_
  unfold tMeth
  simp only[List.append_nil]
  exact h
theorem pe_calM0 {pl:Sem Bool} (M:CalM X.prog X.w X.K X.mg X.base CX k C m ps sp) (hr:Room j X.A) (hj:k≤j) (hx:Passes CX X E) (he:PE X o ta)
    (ht:eval (.Call (.Attribute o m apos) [] [] pos) X.env=(do
      let ov ← eval o X.env
      standAt apos.atName
      let (f,first) ← holding [ov] (getMethod ov m pl)
      callWith pos f first (backTo pos (starEach [] X.env)) (backToKw pos (keywordEach [] X.env))):=by rfl) :
    PE X (.Call (.Attribute o m apos) [] [] pos) (tMt C m sp E ta tNil):=by
  obtain⟨c,f,fd,hm,hb,F⟩:=M
  intro pins s σ H Q I h
  refine pe_meth0 (dvs:=[]) he c hm F (hr.mono hj) hb .nil hx ht pins s σ H Q I ?_
  unfold tMeth
  simp only[List.append_nil]
  exact h
noncomputable def tMk (C:Addr) (sp:Sp) (E:XK) (t:TA):TE:=fun σ H Q=>t σ H fun vs H1=>∀ x dx,H1 x=none→H1 dx=none→dx≠x →
  sp (.ref x::vs) (upd (upd H1 dx (.own x)) x (.ins C dx [])) (fun v H2=>v = .non∧Q (.ref x) H2) E
end
noncomputable def MtAt (K:PySem.W.Frag) (C:Addr) (m qual:Str) (st:Stmt):Prop:=∃ f fd,Meth K C m f∧Fun K m qual st f fd
noncomputable def NwAt (K:PySem.W.Frag) (C:Addr) (qual:Str) (st:Stmt):Prop:=∃ f fd,Mk K C f∧Fun K "__init__" qual st f fd
section
variable {P:Program} {w:World} {K:PySem.W.Frag} {mg:Str→Option Value} {base:Heap} {C:Addr} {x m qual:Str} {st:Stmt} {CX:CXT} {k:Nat} {ps:List Str} {sp:Sp}
theorem MtAt.cal (h:MtAt K C m qual st) (cl:Cls K C)
    (hb:∀ (kV doc pm:Value) (an:Option Addr) (cdv ct:Value) (us:List Value),us.length=ps.length→bindArgs (PySem.W.fnOf m qual (defArgs st) (defBody st) (defScope st) .none kV doc pm an cdv ct) ⟨us,[]⟩=pure (ps.zip us))
    (ok:∀ f fd,Fun K m qual st f fd→FnOk P w K mg base CX k f fd ps sp):CalM P w K mg base CX k C m ps sp:=by
  obtain⟨f,fd,M,F⟩:=h
  exact⟨cl,f,fd,M,F.binds hb,ok f fd F⟩
theorem NwAt.cal (h:NwAt K C qual st) (hm:mg x=some (.ref C))
    (hb:∀ (kV doc pm:Value) (an:Option Addr) (cdv ct:Value) (us:List Value),us.length=ps.length→bindArgs (PySem.W.fnOf "__init__" qual (defArgs st) (defBody st) (defScope st) .none kV doc pm an cdv ct) ⟨us,[]⟩=pure (ps.zip us))
    (ok:∀ f fd,Fun K "__init__" qual st f fd→FnOk P w K mg base CX k f fd ps sp):CalN P w K mg base CX k x C ps sp:=by
  obtain⟨f,fd,M,F⟩:=h
  exact⟨hm,f,fd,M,F.binds hb,ok f fd F⟩
end
end L2
namespace L2
open PySem PySem.W PySem.Calls PyProof.Rows
noncomputable def fragAt (as:List Addr) (h:Heap):Frag:=as.filterMap fun a=>(h.get? a).map fun o=>(a,o)
theorem frag_in (as:List Addr) (h:Heap):(fragAt as h).In h:=by
  intro a o e
  induction as with
  | nil=>cases e
  | cons b r ih =>
    unfold fragAt at e
    rw[List.filterMap_cons] at e
    cases q:h.get? b with
    | none=>rw[q] at e;exact ih e
    | some o' =>
      rw[q] at e
      by_cases c:a=b
      · subst c
        have e:List.lookup a ((a,o')::fragAt r h)=some o:=e
        rw[List.lookup_cons_self] at e
        cases e
        exact q
      · have e:List.lookup a ((b,o')::fragAt r h)=some o:=e
        rw[List.lookup_cons,show (a==b)=false from beq_eq_false_iff_ne.mpr c] at e
        exact ih e
structure FnSeen where
  name:Str
  qual:Str
  params:Arguments
  body:FuncBody
  scope:Scope
  globals:Addr
  closure:List (Str × Addr)
  defaults:Value
  builtins:Addr
  ok:Bool
noncomputable def fnSeen (K:Frag) (v:Option (Option Value)):Option FnSeen:=match v with
  | some (some (.ref f))=>match K.lookup f with
    | some ⟨_,_,.func fd,_⟩=>some ⟨fd.name,fd.qualname,fd.params,fd.body,fd.scope,fd.globals,fd.closure,fd.defaults,fd.builtins,codeIn K fd.code fd.qualname&&keepIn K (.ref f)&&isFn K (.ref f)⟩
    | _=>none
  | _=>none
noncomputable def fnWant (x qual:Str) (st:Stmt):Option FnSeen:=some ⟨x,qual,defArgs st,.stmts (defBody st),defScope st,mainGlobals,[],.none,builtinsNs,true⟩
section
variable {K:Frag} {v:Option (Option Value)} {x qual m:Str} {st:Stmt} {C a:Addr}
theorem fn_seen (h:fnSeen K v=fnWant x qual st):∃ f fd,v=some (some (.ref f))∧Fun K x qual st f fd∧isFn K (.ref f)=true∧keepIn K (.ref f)=true:=by
  unfold fnSeen fnWant at h
  split at h
  · rename_i f
    split at h
    · rename_i oc od fd osl e
      obtain⟨nm,qn,pr,bd,sc,gl,cl,df,kV,doc,pm,an,cdv,ct,bl⟩:=fd
      simp only[Option.some.injEq,FnSeen.mk.injEq,Bool.and_eq_true] at h
      obtain⟨rfl,rfl,rfl,rfl,rfl,rfl,rfl,rfl,rfl,⟨h1,h2⟩,h3⟩:=h
      exact⟨f,_,rfl,fun_mk e h1 h2,h3,h2⟩
    · cases h
  · cases h
theorem fnAt_seen (h:fnSeen K (nsIn K mainGlobals x)=fnWant x x st):FnAt K x st:=by
  obtain⟨f,fd,h1,h2,_,_⟩:=fn_seen h
  exact⟨f,fd,h1,h2⟩
theorem mtAt_seen (h:fnSeen K (findIn K (.ref C) m)=fnWant m qual st):MtAt K C m qual st:=by
  obtain⟨f,fd,h1,h2,h3,h4⟩:=fn_seen h
  exact⟨f,fd,⟨h1,h3,h4⟩,h2⟩
theorem nwAt_seen (h:fnSeen K (findIn K (.ref C) "__init__")=fnWant "__init__" qual st) (g:(makesIn K C&&keepIn K (.ref C))=true):NwAt K C qual st:=by
  obtain⟨f,fd,h1,h2,h3,_⟩:=fn_seen h
  obtain⟨g1,g2⟩:=Bool.and_eq_true_iff.mp g
  exact⟨f,fd,⟨g1,h1,h3,g2⟩,h2⟩
noncomputable def isNo (v:Option (Option Value)):Bool:=match v with
  | some none=>true
  | _=>false
theorem no_of (h:isNo v=true):v=some none:=by
  unfold isNo at h
  split at h
  · rfl
  · cases h
noncomputable def isInt (z:Int) (v:Option (Option Value)):Bool:=match v with
  | some (some (.int y _))=>decide (y=z)
  | _=>false
theorem int_of {z:Int} (h:isInt z v=true):∃ t,v=some (some (.int z t)):=by
  unfold isInt at h
  split at h
  · rw[of_decide_eq_true h];exact⟨_,rfl⟩
  · cases h
noncomputable def isStr (z:Str) (v:Option (Option Value)):Bool:=match v with
  | some (some (.str y _))=>decide (y=z)
  | _=>false
theorem str_of {z:Str} (h:isStr z v=true):∃ t,v=some (some (.str z t)):=by
  unfold isStr at h
  split at h
  · rw[of_decide_eq_true h];exact⟨_,rfl⟩
  · cases h
noncomputable def isRef (z:Addr) (v:Option (Option Value)):Bool:=match v with
  | some (some (.ref y))=>Nat.beq y z
  | _=>false
theorem ref_of (h:isRef a v=true):v=some (some (.ref a)):=by
  unfold isRef at h
  split at h
  · rw[Nat.eq_of_beq_eq_true h]
  · cases h
noncomputable def isBlt (z:String) (v:Option (Option Value)):Bool:=match v with
  | some (some (.builtin y))=>decide (y=z)
  | _=>false
theorem blt_of {z:String} (h:isBlt z v=true):v=some (some (.builtin z)):=by
  unfold isBlt at h
  split at h
  · rw[of_decide_eq_true h]
  · cases h
noncomputable def isB (b:Bool) (v:Option Bool):Bool:=match v with
  | some c=>c==b
  | none=>false
theorem b_of {b:Bool} {v:Option Bool} (h:isB b v=true):v=some b:=by
  unfold isB at h
  split at h
  · rw[eq_of_beq h]
  · cases h
noncomputable def excSeen (K:Frag) (D:Addr):Bool:=(clsIn K D).isSome&&isBlt "BaseException.__getattribute__" (findIn K (.ref D) "__getattribute__")&&isNo (findIn K (.ref D) "__getattr__")&&isBlt "object.__class__" (findIn K (.ref D) "__class__")&&isBlt "getset_descriptor.__get__" (specialIn K (.builtin "object.__class__") "__get__")&&isB true (takesIn K (.builtin "object.__class__"))&&isB true (mroIn K D (.type "object"))&&isB true (mroIn K D (.type "BaseException"))
noncomputable def clsSeen (K:Frag) (C:Addr):Bool:=plainGet K C Str.empty&&hasDictIn K C&&plainOver K C&&isBlt "object.__setattr__" (findIn K (.ref C) "__setattr__")
end
theorem all_get {bs:List Bool} (h:bs.all id=true) {b:Bool} (i:Nat) (e:bs[i]? = some b):b=true:=List.all_eq_true.mp h b (List.mem_of_getElem? e)
theorem map_get {α β:Type} {l:List α} {f g:α→β} (h:l.map f=l.map g) {x:α} (i:Nat) (e:l[i]? = some x):f x=g x:=by
  have:(l.map f)[i]? = (l.map g)[i]?:=by rw[h]
  rw[List.getElem?_map,List.getElem?_map,e] at this
  exact Option.some.inj this
noncomputable def FactsIn {α:Type} (facts:Frag→α) (good:α) (_:World) (h:Heap):Prop:=∃ K:Frag,K.In h∧facts K=good
theorem facts_of {α:Type} {facts:Frag→α} {good:α} {as:List Addr} (w:World) (s:Shared) (e:facts (fragAt as s.heap)=good):FactsIn facts good w s.heap:=⟨_,frag_in as s.heap,e⟩
theorem facts_keep {α:Type} {facts:Frag→α} {good:α} (w:World) (h h':Heap) (y:FactsIn facts good w h) (k:∀ b o,h.get? b=some o→h'.get? b=some o):FactsIn facts good w h':=by
  obtain⟨K,X,e⟩:=y
  exact⟨K,X.keeps k,e⟩
theorem walk_ex {q:Program} {loose:List Str} {XP:(Str→Option Value)→Heap→Prop} {α:Type} {facts:Frag→α} {good:α} {r:RowW} {d:DefRec} {kwd:List (Str × Expr)} {run:Value→List Value→Sem Value}
    (h:∀ K:Frag,facts K=good→WalkO q loose XP (fun _ h=>K.In h) r d kwd run):WalkO q loose XP (FactsIn facts good) r d kwd run:=by
  intro w s₀ s₁ mg mb G Y
  obtain⟨K,X,e⟩:=Y
  exact h K e w s₀ s₁ mg mb G X
theorem def_get {q:Program} {n:Str} (h:(defOf q n).isSome=true) (k:((defOf q n).map (·.2.isEmpty))=some true):defOf q n=some (((defOf q n).get h).1,[]):=by
  obtain⟨⟨d,kwd⟩,e⟩:=Option.isSome_iff_exists.mp h
  have e2:(defOf q n).get h=(d,kwd):=Option.get_of_eq_some h e
  rw[e2,e]
  rw[e] at k
  have:kwd.isEmpty=true:=Option.some.inj k
  rw[List.isEmpty_iff.mp this]
end L2
namespace L2
open PySem PySem.Spec PyProof.Rows
structure ClsFn (K:PySem.W.Frag) (C:Addr) (m:Str) (f:Addr):Prop where
  ga:PySem.W.specialIn K (.ref C) "__getattribute__" = some (some (.builtin "type.__getattribute__"))
  rd:PySem.W.readsIn K C (.type "type")=true
  at_:PySem.W.findCls K (.ref C) (.type "type") m=some (.val (.ref f))
  kp:PySem.W.keepIn K (.ref f)=true
noncomputable def CalC (P:Program) (w:World) (K:PySem.W.Frag) (mg:Str→Option Value) (base:Heap) (CX:CXT) (k:Nat) (x m:Str) (ps:List Str) (sp:Sp):Prop :=
  ∃ C f fd,mg x=some (.ref C)∧ClsFn K C m f∧Binds K fd ps []∧FnOk P w K mg base CX k f fd ps sp
section
variable {X:Cx} {CX:CXT} {j k:Nat} {C:Addr} {ps:List Str} {sp:Sp} {x m:Str} {p apos pos:Pos} {o e:Expr} {es:List Expr} {ta:TE} {t:TA} {E:XK}
noncomputable def tCl (sp:Sp) (E:XK) (t:TA):TE:=fun σ H Q=>t σ H fun vs H2=>sp vs H2 Q E
theorem pe_calC {pl:Sem Bool} (M:CalC X.prog X.w X.K X.mg X.base CX k x m ps sp) (hr:Room j X.A) (hj:k≤j) (hx:Passes CX X E) (ha:PA X (e::es) t) (hg:Gl X x:=by rfl) (hdb:(x==("__debug__":Str))=false:=by decide)
    (hst:starEach (e::es) X.env=(false,eval e X.env)::starEach es X.env:=by exact starEach_cons rfl) (hpl:(backTo pos (starEach es X.env)).any (·.1)=false:=by exact noStars rfl)
    (ht:eval (.Call (.Attribute (.Name x p) m apos) (e::es) [] pos) X.env=(do
      let ov ← eval (.Name x p) X.env
      standAt apos.atName
      let (f,first) ← holding [ov] (getMethod ov m pl)
      callWith pos f first (backTo pos (starEach (e::es) X.env)) (backToKw pos (keywordEach [] X.env))):=by rfl) :
    PE X (.Call (.Attribute (.Name x p) m apos) (e::es) [] pos) (tCl sp E t):=by
  obtain⟨C,f,fd,hm,c,hb,F⟩:=M
  intro pins s σ H Q I h
  refine PySem.W.methodCall_KW (pl:=pl) (thn (pe_glob (v:=.ref C) hg hm rfl hdb pins s σ H (fun v H1=>v = .ref C∧H1=H) I ⟨rfl,rfl⟩) fun u s1 ⟨y,H1,I1,rx,e1,e2⟩=>?_) ht
  subst e1 e2
  obtain rfl:u=Value.ref C:=rx
  refine PySem.W.method_cls I1.kIn c.ga (PySem.W.cls_value I1.kIn c.rd c.at_ rfl ?_)
  have I2:=I1.tok (s1.toks+1)
  refine PySem.W.callWith_K (first:=[]) (h₀:=X.base) I.ok.mod.kin c.kp (thn (ha pos pins _ σ H1 _ I2 h) fun us s2 ⟨vs,H2,I3,r,q2⟩=>⟨I3.kIn,?_⟩) hst hpl
  exact run_fn (dvs:=[]) (us:=us) (vs:=vs) F (hr.mono hj) hb .nil hx I3 r (by rw[List.append_nil];exact q2)
theorem pe_calN (M:CalN X.prog X.w X.K X.mg X.base CX k x C ps sp) (hr:Room (j+1) X.A) (hj:k≤j) (hx:Passes CX X E) (ha:PA X (e::es) t) (hg:Gl X x:=by rfl)
    (hdb:(x==("__debug__":Str))=false:=by decide) (hst:starEach (e::es) X.env=(false,eval e X.env)::starEach es X.env:=by exact starEach_cons rfl) (hpl:(backTo pos (starEach es X.env)).any (·.1)=false:=by exact noStars rfl) :
    PE X (.Call (.Name x p) (e::es) [] pos) (tMk C sp E t):=by
  obtain⟨hm,f,fd,M,hb,F⟩:=M
  intro pins s σ H Q I h
  refine pe_make (dvs:=[]) M (F.mono hj) hr hg hm hb .nil hx ha hdb hst hpl pins s σ H Q I ?_
  unfold tMake
  simp only[List.append_nil]
  exact h
theorem pe_anyP {α:Type} {p:α→Prop} {e:Expr} {T:α→TE} (h:∀ i,p i→PE X e (T i)):PE X e (fun σ H Q=>∃ i,p i∧T i σ H Q):=fun pins s σ H Q I ⟨i,hp,g⟩=>h i hp pins s σ H Q I g
theorem call_strX:CallR X (.type "str") (fun xs H Q=>(∃ i,xs=[.int i]∧i.natAbs.log2<1920∧Q (.str (toString i)) H)∨∃ z,xs=[.str z]∧Q (.str z) H):=by
  intro pins s σ H xs us Q I r h
  rcases h with h | ⟨z,rfl,q⟩
  · exact call_str_int pins s σ H xs us Q I r h
  · obtain⟨u,rfl,t,rfl⟩:=vals1 r
    exact PySem.P.str_of_str ⟨.str _,H,I,⟨_,rfl⟩,q⟩
end
section
variable {P:Program} {w:World} {K:PySem.W.Frag} {mg:Str→Option Value} {base:Heap} {C:Addr} {x m qual:Str} {st:Stmt} {CX:CXT} {k:Nat} {ps:List Str} {sp:Sp}
noncomputable def clsFnSeen (K:PySem.W.Frag) (C:Addr) (m:Str):Bool :=
  (match PySem.W.specialIn K (.ref C) "__getattribute__" with | some (some (.builtin b))=>b == "type.__getattribute__" | _=>false)&&PySem.W.readsIn K C (.type "type") &&
  (match PySem.W.findIn K (.ref C) m,PySem.W.findCls K (.ref C) (.type "type") m with | some (some (.ref f)),some (.val (.ref g))=>Nat.beq f g | _,_=>false)
theorem cls_fn {f:Addr} (h:clsFnSeen K C m=true) (M:Meth K C m f):ClsFn K C m f:=by
  unfold clsFnSeen at h
  obtain⟨h,h3⟩:=Bool.and_eq_true_iff.mp h
  obtain⟨h1,h2⟩:=Bool.and_eq_true_iff.mp h
  refine⟨?_,h2,?_,M.kp⟩
  · split at h1
    · rename_i b e
      rw[e,beq_iff_eq.mp h1]
    · cases h1
  · rw[M.at_] at h3
    split at h3
    · rename_i f' g e1 e2
      cases e1
      rw[e2,Nat.eq_of_beq_eq_true h3]
    · cases h3
theorem MtAt.calC (h:MtAt K C m qual st) (see:clsFnSeen K C m=true) (hm:mg x=some (.ref C))
    (hb:∀ (kV doc pm:Value) (an:Option Addr) (cdv ct:Value) (us:List Value),us.length=ps.length→bindArgs (PySem.W.fnOf m qual (defArgs st) (defBody st) (defScope st) .none kV doc pm an cdv ct) ⟨us,[]⟩=pure (ps.zip us))
    (ok:∀ f fd,Fun K m qual st f fd→FnOk P w K mg base CX k f fd ps sp):CalC P w K mg base CX k x m ps sp:=by
  obtain⟨f,fd,M,F⟩:=h
  exact⟨C,f,fd,hm,cls_fn see M,F.binds hb,ok f fd F⟩
end
end L2
namespace L2
open PySem PySem.W PyProof.Rows
noncomputable def TpC (K:Frag) (x:Str) (zs:List Str):Prop:=∃ a,nsIn K mainGlobals x=some (some (.ref a))∧∀ H,SqT K H a (zs.map V.str)
noncomputable def isStrsC:List Value→List Str→Bool
  | [],[]=>true
  | v::r,z::q=>isStr z (some (some v))&&isStrsC r q
  | _,_=>false
theorem strs_valsC:∀ {its:List Value} {zs:List Str},isStrsC its zs=true→Vals (zs.map V.str) its
  | [],[],_=>.nil
  | v::r,z::q,h=>by
    unfold isStrsC at h
    obtain⟨h1,h2⟩:=Bool.and_eq_true_iff.mp h
    obtain⟨t,e⟩:=str_of h1
    cases e
    exact .cons ⟨t,rfl⟩ (strs_valsC h2)
  | [],z::q,h=>by cases h
  | v::r,[],h=>by cases h
noncomputable def tupSeen (K:Frag) (x:Str) (zs:List Str):Bool:=match nsIn K mainGlobals x with
  | some (some (.ref a))=>match K.lookup a with
    | some ⟨.type n,_,.seq its _,_⟩=>decide (n = "tuple")&&Nat.ble its.size 1000&&isStrsC its.toList zs
    | _=>false
  | _=>false
theorem tup_seen {K:Frag} {x:Str} {zs:List Str} (h:tupSeen K x zs=true):TpC K x zs:=by
  unfold tupSeen at h
  split at h
  · rename_i a e
    split at h
    · rename_i n od its k sl e2
      rw[Bool.and_eq_true,Bool.and_eq_true] at h
      obtain⟨⟨h1,h2⟩,h3⟩:=h
      refine⟨a,e,fun H=>.inr ⟨_,its,k,e2,?_,rfl,lenOk h2,strs_valsC h3⟩⟩
      rw[of_decide_eq_true h1]
    · cases h
  · cases h
theorem TpC.mg {K:Frag} {x:Str} {zs:List Str} {h:Heap} {mg:Str→Option Value} (T:TpC K x zs) (X:K.In h) (G:h.Ns mainGlobals mg):∃ a,mg x=some (.ref a)∧∀ H,SqT K H a (zs.map V.str):=by
  obtain⟨a,e,t⟩:=T
  exact⟨a,mg_of X G e,t⟩
end L2
set_option maxHeartbeats 0
namespace K13
open PySem PySem.W PySem.Calls PyProof.Rows L2
noncomputable def hQ:Program:=PySem.W.view PySem.Challenge.pw_coinroll_k13_dues_of_months [1,2,3,4,5,7,8,9,10,11,12,13,14,15,16,17,18,19,20,22,23,24,25,26,27,29,30,31,33,34,35,37,38,39,40,41,42,43,44,45,46,47,48,50,51,52,53,55,56,58,59,60,61,62,63,64,65,67,68,69,70,71,72,73,74,75,76,77,78,79,80,81,82,83,84,85,86,87,88,89]
noncomputable def hAs:List Addr:=[2,3,15,22,23,24,25,28,35,36,37,40,47,48,49,52,59,60,61,64,71,72,73,76,77,79,80,82,83,84,86,87,89,90,91,93,94,96,97,98,100,101,103,104,105,107,108,110,111,112,114,115,117,118,119,121,122,124,125,126,128,129,131,132,133,135,136,138,139,140,142,143,145,146,147,150,151,152,154,155,157,158,159,162,163,164,167,168,169,171,172,174,175,176,178,179,181,182,183,186,187,188,191,192,193,196,197,198,199,201,202,204,205,206,208,209,211,212,213,215,216,218,219,220,222,223,225,226,227,230,231,239,241,242,244,245,246,248,249,251,252,253,255,256,258,259,260,262,263,265,266,267,269,270,272,273,274,276,277,279,280,281,282,283,284,285,288,295,297,298,300,301,302,304,305,307,308,309,311,312,314,315,316,318,319,321,322,323,324,325,328,335,337,338,340,341,342,344,345,347,348,349,351,352,354,355,356,358,359,361,362,363,364,365,368,375,377,378,380,381,382,384,385,387,388,389,391,392,394,395,396,398,399,401,402,403,404,405,408,415,417,418,420,421,422,424,425,427,428,429,431,432,434,435,436,438,439,441,442,443,444,445,448,450,451,453,454,455,458,459,460,467,470,471,472,474,475,477,478,479,482,483,484,486,487,489,490,491,492,493,496,503,505,506,508,509,510,512,513,515,516,517,519,520,522,523,524,526,527,529,530,531,533,534,536,537,538,539,540,543,545,546,548,549,550,552,553,555,556,557,560,561,562,564,565,567,568,569,571,572,574,575,576,578,579,581,582,583,585,586,588,589,590,592,593,595,596,597,599,600,602,603,604,606,607,609,610,611,613,614,616,617,618,620,621,623,624,625,628,629,630,632,633,635,636,637,639,640,642,643,644,646,647,649,650,651,653,654,656,657,658,660,661,663,664,665,667,668,670,671,672,674,675,677,678,679,682,683,684,686,687,689,690,691,694,695,696,699,700,701,704,705,706,709,710,711,713,714,716,717,718,720,721,723,724,725,727,728,730,731,732,735,736]
noncomputable def hFs:List (Str × Nat):=[(("is_number":Str),11),(("is_number_within":Str),12),(("is_parts":Str),13),(("is_way":Str),14),(("need_amount":Str),15),(("need_way":Str),16),(("half_goes_up":Str),17),(("goes_up":Str),18),(("rounded":Str),19),(("share_of":Str),20),(("is_word_of":Str),25),(("is_name":Str),26),(("rise":Str),27),(("are_figures":Str),29),(("is_number_text":Str),30),(("read_number":Str),31),(("dues_of":Str),33),(("month_row":Str),34),(("year_table":Str),35),(("is_rule_name":Str),39),(("is_rule_amount":Str),40),(("need_rule_amount":Str),41),(("need_share":Str),42),(("months_with_base":Str),43),(("is_band":Str),51),(("are_bands":Str),52),(("number_of":Str),59),(("band_of":Str),60),(("bands_of":Str),61),(("plain_rule":Str),62),(("is_ontop":Str),63),(("rule_of_words":Str),64),(("rule_of":Str),65),(("_law_cell_at":Str),67),(("_law_mixed":Str),68),(("_law_whole":Str),69),(("_law_amount":Str),70),(("_law_bases":Str),71),(("_law_names":Str),72),(("_law_parts":Str),73),(("_law_way":Str),74),(("_law_pairs":Str),75),(("_law_plain":Str),76),(("_law_rule":Str),77),(("_law_rounded":Str),78),(("_law_pieces":Str),79),(("_law_until":Str),80),(("_law_of_month":Str),81),(("_law_row":Str),82),(("_law_rules":Str),83),(("_law_dues":Str),84),(("_law_net":Str),85),(("_law_dues_right":Str),86),(("_law_table_right":Str),87),(("_law_asked":Str),88),(("law":Str),89)]
noncomputable def hMs:List (Addr × Str × Str × Nat × Nat):=[(283,("__init__":Str),("Rule.__init__":Str),44,0),(325,("__init__":Str),("Flat.__init__":Str),45,0),(325,("until":Str),("Flat.until":Str),45,1),(325,("twin":Str),("Flat.twin":Str),45,3),(325,("depth":Str),("Rule.depth":Str),44,4),(325,("of_month":Str),("Rule.of_month":Str),44,5),(365,("__init__":Str),("Share.__init__":Str),46,0),(365,("until":Str),("Share.until":Str),46,1),(365,("twin":Str),("Share.twin":Str),46,3),(365,("depth":Str),("Rule.depth":Str),44,4),(365,("of_month":Str),("Rule.of_month":Str),44,5),(405,("__init__":Str),("Capped.__init__":Str),47,0),(405,("until":Str),("Capped.until":Str),47,1),(405,("twin":Str),("Capped.twin":Str),47,3),(405,("depth":Str),("Rule.depth":Str),44,4),(405,("of_month":Str),("Rule.of_month":Str),44,5),(445,("__init__":Str),("Least.__init__":Str),48,0),(445,("until":Str),("Least.until":Str),48,1),(445,("twin":Str),("Least.twin":Str),48,3),(445,("depth":Str),("Rule.depth":Str),44,4),(445,("of_month":Str),("Rule.of_month":Str),44,5),(493,("__init__":Str),("Bands.__init__":Str),53,0),(493,("until":Str),("Bands.until":Str),53,1),(493,("twin":Str),("Bands.twin":Str),53,3),(493,("depth":Str),("Rule.depth":Str),44,4),(493,("of_month":Str),("Rule.of_month":Str),44,5),(540,("__init__":Str),("OnTop.__init__":Str),56,0),(540,("until":Str),("OnTop.until":Str),56,1),(540,("twin":Str),("OnTop.twin":Str),56,3),(540,("depth":Str),("OnTop.depth":Str),56,4),(540,("of_month":Str),("Rule.of_month":Str),44,5)]
noncomputable def hYes (K:Frag):List Bool:=[isInt 8 (nsIn K mainGlobals "MOST_SIGNS"),isInt 20000 (nsIn K mainGlobals "MOST_PARTS"),isInt 10000 (nsIn K mainGlobals "WHOLE"),isInt 5000 (nsIn K mainGlobals "HALF"),isInt 1000000000000 (nsIn K mainGlobals "MOST_AMOUNT"),isInt 12 (nsIn K mainGlobals "MOST_BANDS"),isInt 3 (nsIn K mainGlobals "MOST_DEPTH"),isInt 13 (nsIn K mainGlobals "MOST_FIGURES"),isStr "abcdefghijklmnopqrstuvwxyz" (nsIn K mainGlobals "LETTERS"),isStr "0123456789" (nsIn K mainGlobals "FIGURES"),tupSeen K "WAYS" ["down","up","near","even"],tupSeen K "NO_RULE_NAMES" ["base","net","month","sums"],isNo (nsIn K mainGlobals "isinstance"),isNo (nsIn K mainGlobals "int"),isNo (nsIn K mainGlobals "bool"),isNo (nsIn K mainGlobals "str"),isNo (nsIn K mainGlobals "len"),isNo (nsIn K mainGlobals "range"),isNo (nsIn K mainGlobals "ValueError"),isNo (nsIn K mainGlobals "list"),isNo (nsIn K mainGlobals "tuple"),isNo (nsIn K mainGlobals "dict"),isNo (nsIn K mainGlobals "set"),isNo (nsIn K mainGlobals "all"),isNo (nsIn K mainGlobals "any"),isNo (nsIn K mainGlobals "sum"),isNo (nsIn K mainGlobals "sorted"),isNo (nsIn K mainGlobals "abs"),isNo (nsIn K mainGlobals "max"),isNo (nsIn K mainGlobals "min"),isNo (nsIn K mainGlobals "zip"),isNo (nsIn K mainGlobals "enumerate"),isNo (nsIn K mainGlobals "reversed"),isRef 283 (nsIn K mainGlobals "Rule"),plainGet K 283 Str.empty,hasDictIn K 283,plainOver K 283,isBlt "object.__setattr__" (findIn K (.ref 283) "__setattr__"),clsFnSeen K 283 "__init__",isRef 325 (nsIn K mainGlobals "Flat"),plainGet K 325 Str.empty,hasDictIn K 325,plainOver K 325,isBlt "object.__setattr__" (findIn K (.ref 325) "__setattr__"),isNo (findIn K (.ref 325) "name"),isNo (findIn K (.ref 325) "amount"),isNo (findIn K (.ref 325) "parts"),isNo (findIn K (.ref 325) "way"),isNo (findIn K (.ref 325) "most"),isNo (findIn K (.ref 325) "least"),makesIn K 325&&keepIn K (.ref 325),isRef 365 (nsIn K mainGlobals "Share"),plainGet K 365 Str.empty,hasDictIn K 365,plainOver K 365,isBlt "object.__setattr__" (findIn K (.ref 365) "__setattr__"),isNo (findIn K (.ref 365) "name"),isNo (findIn K (.ref 365) "amount"),isNo (findIn K (.ref 365) "parts"),isNo (findIn K (.ref 365) "way"),isNo (findIn K (.ref 365) "most"),isNo (findIn K (.ref 365) "least"),makesIn K 365&&keepIn K (.ref 365),isRef 405 (nsIn K mainGlobals "Capped"),plainGet K 405 Str.empty,hasDictIn K 405,plainOver K 405,isBlt "object.__setattr__" (findIn K (.ref 405) "__setattr__"),isNo (findIn K (.ref 405) "name"),isNo (findIn K (.ref 405) "amount"),isNo (findIn K (.ref 405) "parts"),isNo (findIn K (.ref 405) "way"),isNo (findIn K (.ref 405) "most"),isNo (findIn K (.ref 405) "least"),makesIn K 405&&keepIn K (.ref 405),isRef 445 (nsIn K mainGlobals "Least"),plainGet K 445 Str.empty,hasDictIn K 445,plainOver K 445,isBlt "object.__setattr__" (findIn K (.ref 445) "__setattr__"),isNo (findIn K (.ref 445) "name"),isNo (findIn K (.ref 445) "amount"),isNo (findIn K (.ref 445) "parts"),isNo (findIn K (.ref 445) "way"),isNo (findIn K (.ref 445) "most"),isNo (findIn K (.ref 445) "least"),makesIn K 445&&keepIn K (.ref 445),isRef 493 (nsIn K mainGlobals "Bands"),plainGet K 493 Str.empty,hasDictIn K 493,plainOver K 493,isBlt "object.__setattr__" (findIn K (.ref 493) "__setattr__"),isNo (findIn K (.ref 493) "name"),isNo (findIn K (.ref 493) "bands"),isNo (findIn K (.ref 493) "way"),isNo (findIn K (.ref 493) "parts"),isNo (findIn K (.ref 493) "within"),makesIn K 493&&keepIn K (.ref 493),isRef 540 (nsIn K mainGlobals "OnTop"),plainGet K 540 Str.empty,hasDictIn K 540,plainOver K 540,isBlt "object.__setattr__" (findIn K (.ref 540) "__setattr__"),isNo (findIn K (.ref 540) "name"),isNo (findIn K (.ref 540) "bands"),isNo (findIn K (.ref 540) "way"),isNo (findIn K (.ref 540) "parts"),isNo (findIn K (.ref 540) "within"),makesIn K 540&&keepIn K (.ref 540),isBlt "getset_descriptor.__get__" (specialIn K (.builtin "object.__class__") "__get__"),isB true (takesIn K (.builtin "object.__class__")),(!(Nat.beq 365 540)),isBlt "object.__class__" (findIn K (.ref 325) "__class__"),isB true (mroIn K 325 (.type "object")),isB true (kitOne K (.ref 325) (.ref 283)),isBlt "object.__class__" (findIn K (.ref 365) "__class__"),isB true (mroIn K 365 (.type "object")),isB true (kitOne K (.ref 365) (.ref 283)),isBlt "object.__class__" (findIn K (.ref 405) "__class__"),isB true (mroIn K 405 (.type "object")),isB true (kitOne K (.ref 405) (.ref 283)),isBlt "object.__class__" (findIn K (.ref 445) "__class__"),isB true (mroIn K 445 (.type "object")),isB true (kitOne K (.ref 445) (.ref 283)),isBlt "object.__class__" (findIn K (.ref 493) "__class__"),isB true (mroIn K 493 (.type "object")),isB true (kitOne K (.ref 493) (.ref 283)),isBlt "object.__class__" (findIn K (.ref 540) "__class__"),isB true (mroIn K 540 (.type "object")),isB true (kitOne K (.ref 540) (.ref 283))]
noncomputable def hSee (K:Frag):=(hFs.map (fun x=>fnSeen K (nsIn K mainGlobals x.1)),hMs.map (fun x=>fnSeen K (findIn K (.ref x.1) x.2.1)),(hYes K).all id)
noncomputable def hWant:=(hFs.map (fun x=>fnWant x.1 x.1 (top x.2)),hMs.map (fun x=>fnWant x.2.1 x.2.2.1 (inClass (top x.2.2.2.1) x.2.2.2.2)),true)
noncomputable def hXt (s:Shared):Bool:=xlAt hQ [] s&&recOk [] s
noncomputable def hLook (w:World) (s:Shared):=((staticsOk (importedModules PySem.Challenge.pw_coinroll_k13_dues_of_months.main.body) (boot_heap w.params) s.heap&&namesBound PySem.Challenge.pw_coinroll_k13_dues_of_months s.heap&&gensDone s&&laidKept (boot_heap w.params) s.heap),openSeen hQ [] (importedModules PySem.Challenge.pw_coinroll_k13_dues_of_months.main.body) hXt true s,hSee (fragAt hAs s.heap))
noncomputable def hY0 (K:Frag):List Bool:=[isInt 8 (nsIn K mainGlobals "MOST_SIGNS"),isInt 20000 (nsIn K mainGlobals "MOST_PARTS"),isInt 10000 (nsIn K mainGlobals "WHOLE"),isInt 5000 (nsIn K mainGlobals "HALF"),isInt 1000000000000 (nsIn K mainGlobals "MOST_AMOUNT"),isInt 12 (nsIn K mainGlobals "MOST_BANDS"),isInt 3 (nsIn K mainGlobals "MOST_DEPTH"),isInt 13 (nsIn K mainGlobals "MOST_FIGURES"),isStr "abcdefghijklmnopqrstuvwxyz" (nsIn K mainGlobals "LETTERS"),isStr "0123456789" (nsIn K mainGlobals "FIGURES"),tupSeen K "WAYS" ["down","up","near","even"],tupSeen K "NO_RULE_NAMES" ["base","net","month","sums"],isNo (nsIn K mainGlobals "isinstance"),isNo (nsIn K mainGlobals "int"),isNo (nsIn K mainGlobals "bool"),isNo (nsIn K mainGlobals "str"),isNo (nsIn K mainGlobals "len"),isNo (nsIn K mainGlobals "range"),isNo (nsIn K mainGlobals "ValueError"),isNo (nsIn K mainGlobals "list"),isNo (nsIn K mainGlobals "tuple"),isNo (nsIn K mainGlobals "dict"),isNo (nsIn K mainGlobals "set"),isNo (nsIn K mainGlobals "all"),isNo (nsIn K mainGlobals "any"),isNo (nsIn K mainGlobals "sum"),isNo (nsIn K mainGlobals "sorted"),isNo (nsIn K mainGlobals "abs"),isNo (nsIn K mainGlobals "max"),isNo (nsIn K mainGlobals "min"),isNo (nsIn K mainGlobals "zip"),isNo (nsIn K mainGlobals "enumerate"),isNo (nsIn K mainGlobals "reversed"),isRef 283 (nsIn K mainGlobals "Rule"),plainGet K 283 Str.empty,hasDictIn K 283,plainOver K 283,isBlt "object.__setattr__" (findIn K (.ref 283) "__setattr__"),clsFnSeen K 283 "__init__",isRef 325 (nsIn K mainGlobals "Flat"),plainGet K 325 Str.empty,hasDictIn K 325,plainOver K 325,isBlt "object.__setattr__" (findIn K (.ref 325) "__setattr__"),isNo (findIn K (.ref 325) "name"),isNo (findIn K (.ref 325) "amount"),isNo (findIn K (.ref 325) "parts"),isNo (findIn K (.ref 325) "way"),isNo (findIn K (.ref 325) "most"),isNo (findIn K (.ref 325) "least"),makesIn K 325&&keepIn K (.ref 325),isRef 365 (nsIn K mainGlobals "Share"),plainGet K 365 Str.empty,hasDictIn K 365,plainOver K 365,isBlt "object.__setattr__" (findIn K (.ref 365) "__setattr__"),isNo (findIn K (.ref 365) "name"),isNo (findIn K (.ref 365) "amount"),isNo (findIn K (.ref 365) "parts"),isNo (findIn K (.ref 365) "way"),isNo (findIn K (.ref 365) "most"),isNo (findIn K (.ref 365) "least"),makesIn K 365&&keepIn K (.ref 365),isRef 405 (nsIn K mainGlobals "Capped"),plainGet K 405 Str.empty,hasDictIn K 405,plainOver K 405,isBlt "object.__setattr__" (findIn K (.ref 405) "__setattr__"),isNo (findIn K (.ref 405) "name"),isNo (findIn K (.ref 405) "amount"),isNo (findIn K (.ref 405) "parts"),isNo (findIn K (.ref 405) "way"),isNo (findIn K (.ref 405) "most"),isNo (findIn K (.ref 405) "least"),makesIn K 405&&keepIn K (.ref 405),isRef 445 (nsIn K mainGlobals "Least"),plainGet K 445 Str.empty,hasDictIn K 445,plainOver K 445,isBlt "object.__setattr__" (findIn K (.ref 445) "__setattr__")]
noncomputable def hY1 (K:Frag):List Bool:=[isNo (findIn K (.ref 445) "name"),isNo (findIn K (.ref 445) "amount"),isNo (findIn K (.ref 445) "parts"),isNo (findIn K (.ref 445) "way"),isNo (findIn K (.ref 445) "most"),isNo (findIn K (.ref 445) "least"),makesIn K 445&&keepIn K (.ref 445),isRef 493 (nsIn K mainGlobals "Bands"),plainGet K 493 Str.empty,hasDictIn K 493,plainOver K 493,isBlt "object.__setattr__" (findIn K (.ref 493) "__setattr__"),isNo (findIn K (.ref 493) "name"),isNo (findIn K (.ref 493) "bands"),isNo (findIn K (.ref 493) "way"),isNo (findIn K (.ref 493) "parts"),isNo (findIn K (.ref 493) "within"),makesIn K 493&&keepIn K (.ref 493),isRef 540 (nsIn K mainGlobals "OnTop"),plainGet K 540 Str.empty,hasDictIn K 540,plainOver K 540,isBlt "object.__setattr__" (findIn K (.ref 540) "__setattr__"),isNo (findIn K (.ref 540) "name"),isNo (findIn K (.ref 540) "bands"),isNo (findIn K (.ref 540) "way"),isNo (findIn K (.ref 540) "parts"),isNo (findIn K (.ref 540) "within"),makesIn K 540&&keepIn K (.ref 540),isBlt "getset_descriptor.__get__" (specialIn K (.builtin "object.__class__") "__get__"),isB true (takesIn K (.builtin "object.__class__")),(!(Nat.beq 365 540)),isBlt "object.__class__" (findIn K (.ref 325) "__class__"),isB true (mroIn K 325 (.type "object")),isB true (kitOne K (.ref 325) (.ref 283)),isBlt "object.__class__" (findIn K (.ref 365) "__class__"),isB true (mroIn K 365 (.type "object")),isB true (kitOne K (.ref 365) (.ref 283)),isBlt "object.__class__" (findIn K (.ref 405) "__class__"),isB true (mroIn K 405 (.type "object")),isB true (kitOne K (.ref 405) (.ref 283)),isBlt "object.__class__" (findIn K (.ref 445) "__class__"),isB true (mroIn K 445 (.type "object")),isB true (kitOne K (.ref 445) (.ref 283)),isBlt "object.__class__" (findIn K (.ref 493) "__class__"),isB true (mroIn K 493 (.type "object")),isB true (kitOne K (.ref 493) (.ref 283)),isBlt "object.__class__" (findIn K (.ref 540) "__class__"),isB true (mroIn K 540 (.type "object")),isB true (kitOne K (.ref 540) (.ref 283))]
noncomputable def hX (w:World) (os:OsState):Option SharedT:=(grow (boot_heap w.params).objs.toList .nil 0).bind fun t=>(runT treeTable PySem.Challenge.pw_coinroll_k13_dues_of_months w 11 (some (.ref 6)) 5362 ⟨t,11,(boot_heap w.params).life,Array.mk [],boot_drawn,boot_toks,os⟩ (topStub PySem.Challenge.pw_coinroll_k13_dues_of_months))
noncomputable def hRun0 (w:World) (os:OsState):=(((grow (boot_heap w.params).objs.toList .nil 0).bind fun t=>(runT treeTable PySem.Challenge.pw_coinroll_k13_dues_of_months w 11 (some (.ref 6)) 5362 ⟨t,11,(boot_heap w.params).life,Array.mk [],boot_drawn,boot_toks,os⟩ (topStub PySem.Challenge.pw_coinroll_k13_dues_of_months))).map fun s=>staticsOk (importedModules PySem.Challenge.pw_coinroll_k13_dues_of_months.main.body) (boot_heap w.params) s.abs.heap)
noncomputable def hEnd0 (_:World) (_:OsState):=some (true)
theorem hRun0_self:hRun0=hRun0:=rfl
theorem hEnd0_self:hEnd0=hEnd0:=rfl
noncomputable def hRun1 (w:World) (os:OsState):=(((grow (boot_heap w.params).objs.toList .nil 0).bind fun t=>(runT treeTable PySem.Challenge.pw_coinroll_k13_dues_of_months w 11 (some (.ref 6)) 5362 ⟨t,11,(boot_heap w.params).life,Array.mk [],boot_drawn,boot_toks,os⟩ (topStub PySem.Challenge.pw_coinroll_k13_dues_of_months))).map fun s=>namesBound PySem.Challenge.pw_coinroll_k13_dues_of_months s.abs.heap&&gensDone s.abs&&laidKept (boot_heap w.params) s.abs.heap)
noncomputable def hEnd1 (_:World) (_:OsState):=some (true)
theorem hRun1_self:hRun1=hRun1:=rfl
theorem hEnd1_self:hEnd1=hEnd1:=rfl
noncomputable def hRun2 (w:World) (os:OsState):=(((grow (boot_heap w.params).objs.toList .nil 0).bind fun t=>(runT treeTable PySem.Challenge.pw_coinroll_k13_dues_of_months w 11 (some (.ref 6)) 5362 ⟨t,11,(boot_heap w.params).life,Array.mk [],boot_drawn,boot_toks,os⟩ (topStub PySem.Challenge.pw_coinroll_k13_dues_of_months))).map fun s=>seen ((recsOf hQ).map (·.name)) (ownsOf hQ) [] { s.abs with gens:=#[] })
noncomputable def hEnd2 (_:World) (_:OsState):=some (expectedOf hQ)
theorem hRun2_self:hRun2=hRun2:=rfl
theorem hEnd2_self:hEnd2=hEnd2:=rfl
noncomputable def hRun3 (w:World) (os:OsState):=(((grow (boot_heap w.params).objs.toList .nil 0).bind fun t=>(runT treeTable PySem.Challenge.pw_coinroll_k13_dues_of_months w 11 (some (.ref 6)) 5362 ⟨t,11,(boot_heap w.params).life,Array.mk [],boot_drawn,boot_toks,os⟩ (topStub PySem.Challenge.pw_coinroll_k13_dues_of_months))).map fun s=>s.abs.heap.bltView)
noncomputable def hEnd3 (_:World) (_:OsState):=some (bltViewBooted)
theorem hRun3_self:hRun3=hRun3:=rfl
theorem hEnd3_self:hEnd3=hEnd3:=rfl
noncomputable def hRun4 (w:World) (os:OsState):=(((grow (boot_heap w.params).objs.toList .nil 0).bind fun t=>(runT treeTable PySem.Challenge.pw_coinroll_k13_dues_of_months w 11 (some (.ref 6)) 5362 ⟨t,11,(boot_heap w.params).life,Array.mk [],boot_drawn,boot_toks,os⟩ (topStub PySem.Challenge.pw_coinroll_k13_dues_of_months))).map fun s=>s.abs.heap.keysOk (looseW hQ []) ((recsOf hQ).map (·.name)) ((litsOf hQ).map (·.1)) ((clssOf hQ (looseW hQ [])).map (·.name)))
noncomputable def hEnd4 (_:World) (_:OsState):=some (true)
theorem hRun4_self:hRun4=hRun4:=rfl
theorem hEnd4_self:hEnd4=hEnd4:=rfl
noncomputable def hRun5 (w:World) (os:OsState):=(((grow (boot_heap w.params).objs.toList .nil 0).bind fun t=>(runT treeTable PySem.Challenge.pw_coinroll_k13_dues_of_months w 11 (some (.ref 6)) 5362 ⟨t,11,(boot_heap w.params).life,Array.mk [],boot_drawn,boot_toks,os⟩ (topStub PySem.Challenge.pw_coinroll_k13_dues_of_months))).map fun s=>s.abs.heap.accountedOkI (importedModules PySem.Challenge.pw_coinroll_k13_dues_of_months.main.body))
noncomputable def hEnd5 (_:World) (_:OsState):=some (true)
theorem hRun5_self:hRun5=hRun5:=rfl
theorem hEnd5_self:hEnd5=hEnd5:=rfl
noncomputable def hRun6 (w:World) (os:OsState):=(((grow (boot_heap w.params).objs.toList .nil 0).bind fun t=>(runT treeTable PySem.Challenge.pw_coinroll_k13_dues_of_months w 11 (some (.ref 6)) 5362 ⟨t,11,(boot_heap w.params).life,Array.mk [],boot_drawn,boot_toks,os⟩ (topStub PySem.Challenge.pw_coinroll_k13_dues_of_months))).map fun s=>s.abs.heap.isNs mainGlobals&&s.abs.heap.isNs builtinsNs&&tablesOk hQ s.abs.heap&&hXt s.abs&&(if true=true then s.abs.gens.size==0 else !leftWithCleanup s.abs.gens))
noncomputable def hEnd6 (_:World) (_:OsState):=some (true)
theorem hRun6_self:hRun6=hRun6:=rfl
theorem hEnd6_self:hEnd6=hEnd6:=rfl
noncomputable def hRun7 (w:World) (os:OsState):=(((grow (boot_heap w.params).objs.toList .nil 0).bind fun t=>(runT treeTable PySem.Challenge.pw_coinroll_k13_dues_of_months w 11 (some (.ref 6)) 5362 ⟨t,11,(boot_heap w.params).life,Array.mk [],boot_drawn,boot_toks,os⟩ (topStub PySem.Challenge.pw_coinroll_k13_dues_of_months))).map fun s=>(tabsOk hQ s.abs,pinSeenD hQ (drecsOf hQ) s.abs,plainSeenE hQ (looseW hQ []) s.abs))
noncomputable def hEnd7 (_:World) (_:OsState):=some ((true,pinGoodD (drecsOf hQ),plainGoodE hQ (looseW hQ [])))
theorem hRun7_self:hRun7=hRun7:=rfl
theorem hEnd7_self:hEnd7=hEnd7:=rfl
noncomputable def hRun8 (w:World) (os:OsState):=(((grow (boot_heap w.params).objs.toList .nil 0).bind fun t=>(runT treeTable PySem.Challenge.pw_coinroll_k13_dues_of_months w 11 (some (.ref 6)) 5362 ⟨t,11,(boot_heap w.params).life,Array.mk [],boot_drawn,boot_toks,os⟩ (topStub PySem.Challenge.pw_coinroll_k13_dues_of_months))).map fun s=>(plainSeenD hQ [] s.abs,wideSeen hQ s.abs,clsSeenW hQ [] s.abs))
noncomputable def hEnd8 (_:World) (_:OsState):=some ((plainGoodD hQ [],wideGood hQ,clsGoodW hQ []))
theorem hRun8_self:hRun8=hRun8:=rfl
theorem hEnd8_self:hEnd8=hEnd8:=rfl
noncomputable def hRun9 (w:World) (os:OsState):=(((grow (boot_heap w.params).objs.toList .nil 0).bind fun t=>(runT treeTable PySem.Challenge.pw_coinroll_k13_dues_of_months w 11 (some (.ref 6)) 5362 ⟨t,11,(boot_heap w.params).life,Array.mk [],boot_drawn,boot_toks,os⟩ (topStub PySem.Challenge.pw_coinroll_k13_dues_of_months))).map fun s=>hFs.map (fun x=>fnSeen (fragAt hAs s.abs.heap) (nsIn (fragAt hAs s.abs.heap) mainGlobals x.1)))
noncomputable def hEnd9 (_:World) (_:OsState):=some (hFs.map (fun x=>fnWant x.1 x.1 (top x.2)))
theorem hRun9_self:hRun9=hRun9:=rfl
theorem hEnd9_self:hEnd9=hEnd9:=rfl
noncomputable def hRun10 (w:World) (os:OsState):=(((grow (boot_heap w.params).objs.toList .nil 0).bind fun t=>(runT treeTable PySem.Challenge.pw_coinroll_k13_dues_of_months w 11 (some (.ref 6)) 5362 ⟨t,11,(boot_heap w.params).life,Array.mk [],boot_drawn,boot_toks,os⟩ (topStub PySem.Challenge.pw_coinroll_k13_dues_of_months))).map fun s=>hMs.map (fun x=>fnSeen (fragAt hAs s.abs.heap) (findIn (fragAt hAs s.abs.heap) (.ref x.1) x.2.1)))
noncomputable def hEnd10 (_:World) (_:OsState):=some (hMs.map (fun x=>fnWant x.2.1 x.2.2.1 (inClass (top x.2.2.2.1) x.2.2.2.2)))
theorem hRun10_self:hRun10=hRun10:=rfl
theorem hEnd10_self:hEnd10=hEnd10:=rfl
noncomputable def hRun11 (w:World) (os:OsState):=(((grow (boot_heap w.params).objs.toList .nil 0).bind fun t=>(runT treeTable PySem.Challenge.pw_coinroll_k13_dues_of_months w 11 (some (.ref 6)) 5362 ⟨t,11,(boot_heap w.params).life,Array.mk [],boot_drawn,boot_toks,os⟩ (topStub PySem.Challenge.pw_coinroll_k13_dues_of_months))).map fun s=>(hY0 (fragAt hAs s.abs.heap)).all id)
noncomputable def hEnd11 (_:World) (_:OsState):=some (true)
theorem hRun11_self:hRun11=hRun11:=rfl
theorem hEnd11_self:hEnd11=hEnd11:=rfl
noncomputable def hRun12 (w:World) (os:OsState):=(((grow (boot_heap w.params).objs.toList .nil 0).bind fun t=>(runT treeTable PySem.Challenge.pw_coinroll_k13_dues_of_months w 11 (some (.ref 6)) 5362 ⟨t,11,(boot_heap w.params).life,Array.mk [],boot_drawn,boot_toks,os⟩ (topStub PySem.Challenge.pw_coinroll_k13_dues_of_months))).map fun s=>(hY1 (fragAt hAs s.abs.heap)).all id)
noncomputable def hEnd12 (_:World) (_:OsState):=some (true)
theorem hRun12_self:hRun12=hRun12:=rfl
theorem hEnd12_self:hEnd12=hEnd12:=rfl
end K13
lay_quick L2.runT K13.top
name_quick hRunQ0 for K13.hRun0 by K13.hRun0_self
name_quick hRunQ1 for K13.hRun1 by K13.hRun1_self
name_quick hRunQ2 for K13.hRun2 by K13.hRun2_self
name_quick hEndQ2 for K13.hEnd2 by K13.hEnd2_self
name_quick hRunQ3 for K13.hRun3 by K13.hRun3_self
name_quick hRunQ4 for K13.hRun4 by K13.hRun4_self
name_quick hRunQ5 for K13.hRun5 by K13.hRun5_self
name_quick hRunQ6 for K13.hRun6 by K13.hRun6_self
name_quick hRunQ7 for K13.hRun7 by K13.hRun7_self
name_quick hEndQ7 for K13.hEnd7 by K13.hEnd7_self
name_quick hRunQ8 for K13.hRun8 by K13.hRun8_self
name_quick hEndQ8 for K13.hEnd8 by K13.hEnd8_self
name_quick hRunQ9 for K13.hRun9 by K13.hRun9_self
name_quick hEndQ9 for K13.hEnd9 by K13.hEnd9_self
name_quick hRunQ10 for K13.hRun10 by K13.hRun10_self
name_quick hEndQ10 for K13.hEnd10 by K13.hEnd10_self
name_quick hRunQ11 for K13.hRun11 by K13.hRun11_self
name_quick hRunQ12 for K13.hRun12 by K13.hRun12_self
namespace K13
open PySem PySem.W PySem.Calls PyProof.Rows L2
theorem hOnce0:PySem.W.Fast.hRunQ0=hEnd0:=by kernel_rfl
theorem hOnce1:PySem.W.Fast.hRunQ1=hEnd1:=by kernel_rfl
theorem hOnce2:PySem.W.Fast.hRunQ2=PySem.W.Fast.hEndQ2:=by kernel_rfl
theorem hOnce3:PySem.W.Fast.hRunQ3=hEnd3:=by kernel_rfl
theorem hOnce4:PySem.W.Fast.hRunQ4=hEnd4:=by kernel_rfl
theorem hOnce5:PySem.W.Fast.hRunQ5=hEnd5:=by kernel_rfl
theorem hOnce6:PySem.W.Fast.hRunQ6=hEnd6:=by kernel_rfl
theorem hOnce7:PySem.W.Fast.hRunQ7=PySem.W.Fast.hEndQ7:=by kernel_rfl
theorem hOnce8:PySem.W.Fast.hRunQ8=PySem.W.Fast.hEndQ8:=by kernel_rfl
theorem hOnce9:PySem.W.Fast.hRunQ9=PySem.W.Fast.hEndQ9:=by kernel_rfl
theorem hOnce10:PySem.W.Fast.hRunQ10=PySem.W.Fast.hEndQ10:=by kernel_rfl
theorem hOnce11:PySem.W.Fast.hRunQ11=hEnd11:=by kernel_rfl
theorem hOnce12:PySem.W.Fast.hRunQ12=hEnd12:=by kernel_rfl
theorem hGot0 (w:World) (os:OsState):(hX w os).map (fun s=>staticsOk (importedModules PySem.Challenge.pw_coinroll_k13_dues_of_months.main.body) (boot_heap w.params) s.abs.heap)=some (true):=by
  have e:hRun0=hEnd0:=PySem.W.Fast.hRunQ0_eq.trans hOnce0
  exact congrFun (congrFun e w) os
theorem hGot1 (w:World) (os:OsState):(hX w os).map (fun s=>namesBound PySem.Challenge.pw_coinroll_k13_dues_of_months s.abs.heap&&gensDone s.abs&&laidKept (boot_heap w.params) s.abs.heap)=some (true):=by
  have e:hRun1=hEnd1:=PySem.W.Fast.hRunQ1_eq.trans hOnce1
  exact congrFun (congrFun e w) os
theorem hGot2 (w:World) (os:OsState):(hX w os).map (fun s=>seen ((recsOf hQ).map (·.name)) (ownsOf hQ) [] { s.abs with gens:=#[] })=some (expectedOf hQ):=by
  have e:hRun2=hEnd2:=PySem.W.Fast.hRunQ2_eq.trans (hOnce2.trans PySem.W.Fast.hEndQ2_eq.symm)
  exact congrFun (congrFun e w) os
theorem hGot3 (w:World) (os:OsState):(hX w os).map (fun s=>s.abs.heap.bltView)=some (bltViewBooted):=by
  have e:hRun3=hEnd3:=PySem.W.Fast.hRunQ3_eq.trans hOnce3
  exact congrFun (congrFun e w) os
theorem hGot4 (w:World) (os:OsState):(hX w os).map (fun s=>s.abs.heap.keysOk (looseW hQ []) ((recsOf hQ).map (·.name)) ((litsOf hQ).map (·.1)) ((clssOf hQ (looseW hQ [])).map (·.name)))=some (true):=by
  have e:hRun4=hEnd4:=PySem.W.Fast.hRunQ4_eq.trans hOnce4
  exact congrFun (congrFun e w) os
theorem hGot5 (w:World) (os:OsState):(hX w os).map (fun s=>s.abs.heap.accountedOkI (importedModules PySem.Challenge.pw_coinroll_k13_dues_of_months.main.body))=some (true):=by
  have e:hRun5=hEnd5:=PySem.W.Fast.hRunQ5_eq.trans hOnce5
  exact congrFun (congrFun e w) os
theorem hGot6 (w:World) (os:OsState):(hX w os).map (fun s=>s.abs.heap.isNs mainGlobals&&s.abs.heap.isNs builtinsNs&&tablesOk hQ s.abs.heap&&hXt s.abs&&(if true=true then s.abs.gens.size==0 else !leftWithCleanup s.abs.gens))=some (true):=by
  have e:hRun6=hEnd6:=PySem.W.Fast.hRunQ6_eq.trans hOnce6
  exact congrFun (congrFun e w) os
theorem hGot7 (w:World) (os:OsState):(hX w os).map (fun s=>(tabsOk hQ s.abs,pinSeenD hQ (drecsOf hQ) s.abs,plainSeenE hQ (looseW hQ []) s.abs))=some ((true,pinGoodD (drecsOf hQ),plainGoodE hQ (looseW hQ []))):=by
  have e:hRun7=hEnd7:=PySem.W.Fast.hRunQ7_eq.trans (hOnce7.trans PySem.W.Fast.hEndQ7_eq.symm)
  exact congrFun (congrFun e w) os
theorem hGot8 (w:World) (os:OsState):(hX w os).map (fun s=>(plainSeenD hQ [] s.abs,wideSeen hQ s.abs,clsSeenW hQ [] s.abs))=some ((plainGoodD hQ [],wideGood hQ,clsGoodW hQ [])):=by
  have e:hRun8=hEnd8:=PySem.W.Fast.hRunQ8_eq.trans (hOnce8.trans PySem.W.Fast.hEndQ8_eq.symm)
  exact congrFun (congrFun e w) os
theorem hGot9 (w:World) (os:OsState):(hX w os).map (fun s=>hFs.map (fun x=>fnSeen (fragAt hAs s.abs.heap) (nsIn (fragAt hAs s.abs.heap) mainGlobals x.1)))=some (hFs.map (fun x=>fnWant x.1 x.1 (top x.2))):=by
  have e:hRun9=hEnd9:=PySem.W.Fast.hRunQ9_eq.trans (hOnce9.trans PySem.W.Fast.hEndQ9_eq.symm)
  exact congrFun (congrFun e w) os
theorem hGot10 (w:World) (os:OsState):(hX w os).map (fun s=>hMs.map (fun x=>fnSeen (fragAt hAs s.abs.heap) (findIn (fragAt hAs s.abs.heap) (.ref x.1) x.2.1)))=some (hMs.map (fun x=>fnWant x.2.1 x.2.2.1 (inClass (top x.2.2.2.1) x.2.2.2.2))):=by
  have e:hRun10=hEnd10:=PySem.W.Fast.hRunQ10_eq.trans (hOnce10.trans PySem.W.Fast.hEndQ10_eq.symm)
  exact congrFun (congrFun e w) os
theorem hGot11 (w:World) (os:OsState):(hX w os).map (fun s=>(hY0 (fragAt hAs s.abs.heap)).all id)=some (true):=by
  have e:hRun11=hEnd11:=PySem.W.Fast.hRunQ11_eq.trans hOnce11
  exact congrFun (congrFun e w) os
theorem hGot12 (w:World) (os:OsState):(hX w os).map (fun s=>(hY1 (fragAt hAs s.abs.heap)).all id)=some (true):=by
  have e:hRun12=hEnd12:=PySem.W.Fast.hRunQ12_eq.trans hOnce12
  exact congrFun (congrFun e w) os
theorem hLeft:LeftO PySem.Challenge.pw_coinroll_k13_dues_of_months hQ [] hXt (fun s=>hSee (fragAt hAs s.heap)) (fun _=>hWant) 5362:=by
  refine left_once (M:=5362) (m:=11) (ann:=some (.ref 6)) (by kernel_rfl) (by kernel_rfl) (fun s=>by kernel_rfl) (by kernel_rfl) (fun w=>by kernel_rfl) fun w os=>?_
  obtain⟨s,es,e0⟩:=Option.map_eq_some_iff.mp (hGot0 w os)
  obtain⟨s1,es1,e1⟩:=Option.map_eq_some_iff.mp (hGot1 w os)
  obtain rfl:s=s1:=Option.some.inj (es.symm.trans es1)
  obtain⟨s2,es2,e2⟩:=Option.map_eq_some_iff.mp (hGot2 w os)
  obtain rfl:s=s2:=Option.some.inj (es.symm.trans es2)
  obtain⟨s3,es3,e3⟩:=Option.map_eq_some_iff.mp (hGot3 w os)
  obtain rfl:s=s3:=Option.some.inj (es.symm.trans es3)
  obtain⟨s4,es4,e4⟩:=Option.map_eq_some_iff.mp (hGot4 w os)
  obtain rfl:s=s4:=Option.some.inj (es.symm.trans es4)
  obtain⟨s5,es5,e5⟩:=Option.map_eq_some_iff.mp (hGot5 w os)
  obtain rfl:s=s5:=Option.some.inj (es.symm.trans es5)
  obtain⟨s6,es6,e6⟩:=Option.map_eq_some_iff.mp (hGot6 w os)
  obtain rfl:s=s6:=Option.some.inj (es.symm.trans es6)
  obtain⟨s7,es7,e7⟩:=Option.map_eq_some_iff.mp (hGot7 w os)
  obtain rfl:s=s7:=Option.some.inj (es.symm.trans es7)
  obtain⟨s8,es8,e8⟩:=Option.map_eq_some_iff.mp (hGot8 w os)
  obtain rfl:s=s8:=Option.some.inj (es.symm.trans es8)
  obtain⟨s9,es9,e9⟩:=Option.map_eq_some_iff.mp (hGot9 w os)
  obtain rfl:s=s9:=Option.some.inj (es.symm.trans es9)
  obtain⟨s10,es10,e10⟩:=Option.map_eq_some_iff.mp (hGot10 w os)
  obtain rfl:s=s10:=Option.some.inj (es.symm.trans es10)
  obtain⟨s11,es11,e11⟩:=Option.map_eq_some_iff.mp (hGot11 w os)
  obtain rfl:s=s11:=Option.some.inj (es.symm.trans es11)
  obtain⟨s12,es12,e12⟩:=Option.map_eq_some_iff.mp (hGot12 w os)
  obtain rfl:s=s12:=Option.some.inj (es.symm.trans es12)
  have ey:(hYes (fragAt hAs s.abs.heap)).all id=true:=by
    show (hY0 (fragAt hAs s.abs.heap)++hY1 (fragAt hAs s.abs.heap)).all id=true
    try simp only[List.all_append,Bool.and_eq_true]
    exact⟨e11,e12⟩
  have el:hLook w s.abs=(true,openGood hQ [],hWant):=by
    have a1:(staticsOk (importedModules PySem.Challenge.pw_coinroll_k13_dues_of_months.main.body) (boot_heap w.params) s.abs.heap&&namesBound PySem.Challenge.pw_coinroll_k13_dues_of_months s.abs.heap&&gensDone s.abs&&laidKept (boot_heap w.params) s.abs.heap)=true:=by
      have e1:=e1
      simp only[Bool.and_eq_true] at e1 ⊢
      exact⟨⟨⟨e0,e1.1.1⟩,e1.1.2⟩,e1.2⟩
    have ab:(s.abs.heap.keysOk (looseW hQ []) ((recsOf hQ).map (·.name)) ((litsOf hQ).map (·.1)) ((clssOf hQ (looseW hQ [])).map (·.name))&&s.abs.heap.accountedOkI (importedModules PySem.Challenge.pw_coinroll_k13_dues_of_months.main.body)&&s.abs.heap.isNs mainGlobals&&s.abs.heap.isNs builtinsNs&&tablesOk hQ s.abs.heap&&hXt s.abs&&(if true=true then s.abs.gens.size==0 else !leftWithCleanup s.abs.gens))=true:=by
      have e6:=e6
      simp only[Bool.and_eq_true] at e6 ⊢
      obtain⟨⟨⟨⟨g1,g2⟩,g3⟩,g4⟩,g5⟩:=e6
      exact⟨⟨⟨⟨⟨⟨e4,e5⟩,g1⟩,g2⟩,g3⟩,g4⟩,g5⟩
    have a2:openSeen hQ [] (importedModules PySem.Challenge.pw_coinroll_k13_dues_of_months.main.body) hXt true s.abs=openGood hQ []:=congr (congrArg Prod.mk e2) (congr (congrArg Prod.mk e3) (congr (congrArg Prod.mk ab) (congr (congrArg Prod.mk (congrArg Prod.fst e7)) (congr (congrArg Prod.mk (congrArg (fun z=>z.2.1) e7)) (congr (congrArg Prod.mk (congrArg (fun z=>z.2.2) e7)) e8)))))
    exact congr (congrArg Prod.mk a1) (congr (congrArg Prod.mk a2) (congr (congrArg Prod.mk e9) (congr (congrArg Prod.mk e10) ey)))
  unfold onceT
  obtain⟨t,ht,hs⟩:=Option.bind_eq_some_iff.mp es
  rw[ht]
  show (runT _ _ w _ _ _ _ _).map _=_
  rw[hs]
  exact congrArg some el
end K13
set_option maxHeartbeats 4000000
namespace K13
open PySem PySem.NumText L2 Pg
seal PE PA PT PW PS PSs PG PGs PI PIf PO PK
section
variable {P:Program} {w:World} {K:PySem.W.Frag} {mg:Str→Option Value} {base:Heap} {f:Addr} {fd:FuncData} {d:Nat→Addr} {cR:Addr}
theorem ok_is_number (F:Fun K "is_number" "is_number" (top 11) f fd) (G:Glb mg):FnOk P w K mg base CX0 1 f fd ["thing"] (sp_is_number K):=by
  refine F.ok (N:=["thing"]) ⟨rfl,rfl,rfl,by decide +kernel,rfl,by decide +kernel,by decide +kernel⟩ (fun vs H Q E h=>?_) (fun cdv A outer s H vs Q E hr h=>?_)
  · obtain⟨v,rfl,_⟩:=h
    rfl
  · obtain⟨v,rfl,h⟩:=h
    refine⟨_,pss_one (ps_ret (pe_and (pe_callB call_isinst rfl G.isinstance boot_isinstance (pa_cons (pv 0) (pa_cons (pe_bltn (v:=.ty "int") rfl G.int boot_int rfl) pa_nil)))
      (pe_one (pe_not (pe_callB call_isinst rfl G.isinstance boot_isinstance (pa_cons (pv 0) (pa_cons (pe_bltn (v:=.ty "bool") rfl G.bool boot_bool rfl) pa_nil))))))),?_⟩
    rcases h with ⟨z,rfl,q⟩ | ⟨⟨r,hr',ty,ne⟩,q⟩
    · refine⟨_,rfl,_,_,_,_,true,rfl,rfl,.inl (.int z),rfl,true,rfl,iteT ?_⟩
      exact⟨_,rfl,_,_,_,_,false,rfl,rfl,.inl (.int z),rfl,false,rfl,q⟩
    · obtain⟨k1,k2,_⟩:=kit_tab (K:=K) r hr'
      refine⟨_,rfl,_,_,_,_,r.2.1,rfl,rfl,.inl ty,k1,r.2.1,rfl,?_⟩
      cases e:r.2.1 with
      | false=>exact iteF q
      | true =>
        refine iteT ⟨_,rfl,_,_,_,_,r.2.2.1,rfl,rfl,.inl ty,k2,r.2.2.1,rfl,?_⟩
        have:r.2.2.1=true:=by
          simp only[numT,List.mem_cons,List.not_mem_nil,or_false] at hr'
          rcases hr' with rfl | rfl | rfl | rfl | rfl | rfl | rfl <;> first | rfl | (exact absurd rfl ne) | (cases e)
        rw[this]
        exact q
end
end K13
namespace K13
open PySem PySem.NumText L2 Pg
seal PE PA PT PW PS PSs PG PGs PI PIf PO PK
section
variable {P:Program} {w:World} {K:PySem.W.Frag} {mg:Str→Option Value} {base:Heap} {f:Addr} {fd:FuncData} {d:Nat→Addr} {cR:Addr}
theorem ok_within (F:Fun K "is_number_within" "is_number_within" (top 12) f fd) (C1:Cal P w K mg base CX0 1 "is_number" ["thing"] (sp_is_number K)):FnOk P w K mg base CX0 2 f fd ["thing","least","most"] (sp_within K):=by
  refine F.ok (N:=["thing","least","most"]) ⟨rfl,rfl,rfl,by decide +kernel,rfl,by decide +kernel,by decide +kernel⟩ (fun vs H Q E h=>?_) (fun cdv A outer s H vs Q E hr h=>?_)
  · obtain⟨v,a,b,rfl,_⟩:=h
    rfl
  · obtain⟨v,a,b,rfl,h⟩:=h
    refine⟨_,pss_one (ps_ret (pe_and (pe_cal C1 hr (by decide) pass0 (pa_cons (pv 0) pa_nil)) (pe_and (pe_cmpR op_le (pv 1) (pv 0) (nomark _)) (pe_one (pe_cmpR op_le (pv 0) (pv 2) (nomark _)))))),?_⟩
    rcases h with ⟨z,rfl,q⟩ | ⟨nn,q⟩
    · refine⟨_,rfl,_,rfl,.inl ⟨z,rfl,true,rfl,iteT ⟨_,rfl,_,rfl,_,_,rfl,rfl,_,rfl,?_⟩⟩⟩
      refine ite2 (fun e=>⟨_,rfl,_,rfl,_,_,rfl,rfl,?_⟩) (fun e=>?_)
      · have e1:a≤z:=of_decide_eq_true e
        show Q (.bl (decide (z≤b))) H
        rw[show decide (z≤b)=decide (a≤z∧z≤b) by simp[e1]]
        exact q
      · have e1:¬ a≤z:=fun c=>e (decide_eq_true c)
        show Q (.bl false) H
        rw[show false=decide (a≤z∧z≤b) by simp[e1]]
        exact q
    · exact⟨_,rfl,_,rfl,.inr ⟨nn,false,rfl,iteF q⟩⟩
end
end K13
namespace Pg
open PySem PySem.NumText L2
noncomputable def numS (z:Int):Str:=toString z
noncomputable def dg (n:Nat):List Nat:=(Nat.toDigits 10 n).map Char.toNat
theorem numS_codes (n:Nat):(numS (n:Nat)).cps.toList=dg n:=PySem.W.KIN.signs_num n
theorem dg_digits (n:Nat):AllDigits (dg n):=by
  intro c hc
  obtain⟨ch,hch,e⟩:=List.mem_map.mp hc
  have r:=PyProof.Rows.digit_range (Nat.isDigit_of_mem_toDigits (by decide) (by decide) hch)
  rw[← e]
  exact r
theorem dg_len_pos (n:Nat):1≤(dg n).length:=by unfold dg;rw[List.length_map];exact PySem.toDigits_len_ge 10 n
theorem dg_len_le {k n:Nat} (hk:1≤k) (hn:n<10 ^ k):(dg n).length≤k:=by unfold dg;rw[List.length_map];exact PySem.toDigits_len_pow (by decide) hk hn
theorem str_eq {a b:Str} (h:a.cps.toList=b.cps.toList):a=b:=by
  obtain⟨a⟩:=a
  obtain⟨b⟩:=b
  have:a=b:=Array.toList_inj.mp h
  rw[this]
noncomputable def padZ (k:Nat) (l:List Nat):List Nat:=List.replicate (k - l.length) 48++l
theorem log_small {z:Int} (h0:0≤z) (h1:z<2 ^ 64):z.natAbs.log2<1920:=by
  by_cases h:z.natAbs=0
  · rw[h];decide
  · exact Nat.lt_trans ((Nat.log2_lt h).mpr (show z.natAbs<2 ^ 64 by omega)) (by decide)
theorem app_codes (a b:Str):(a++b).cps.toList=a.cps.toList++b.cps.toList:=by
  show (a.cps++b.cps).toList=_
  simp
theorem len_codes (z:Str):z.length=z.cps.toList.length:=by show z.cps.size=_;simp
theorem app_len (a b:Str):(a++b).length=a.length+b.length:=by rw[len_codes,app_codes,List.length_append,← len_codes,← len_codes]
theorem app_le {a b:Str} {m n:Nat} (h1:a.length≤m) (h2:b.length≤n):(a++b).length≤m+n:=by rw[app_len];exact Nat.add_le_add h1 h2
theorem fitS {n m:Nat} (h:n≤m) (k:Nat.ble m 1000000=true):n≤sizeLine:=Nat.le_trans h (Nat.le_trans (Nat.le_of_ble_eq_true k) (by rw[sizeLine_eq];decide))
theorem fitA {a b m n:Nat} (h1:a≤m) (h2:b≤n) (k:Nat.ble (m+n) 1000000=true):a+b≤sizeLine:=fitS (Nat.add_le_add h1 h2) k
noncomputable def isF (c:Nat):Bool:=decide (48≤c)&&decide (c≤57)
noncomputable def figL (l:List Nat):Bool:=!l.isEmpty&&l.all isF
theorem fig_in (c:Nat):(!(Builtin.Str.occurrences ("0123456789":Str) ⟨#[c]⟩ 0 ("0123456789":Str).length 1).isEmpty)=isF c:=by
  rw[sign_in]
  have e:("0123456789":Str).cps.toList=[48,49,50,51,52,53,54,55,56,57]:=by decide +kernel
  rw[e]
  by_cases h:c<58
  · have all:∀ c<58,[48,49,50,51,52,53,54,55,56,57].contains c=isF c:=by decide +kernel
    exact all c h
  · have e1:isF c=false:=by
      unfold isF
      rw[decide_eq_false (p:=c≤57) (fun z=>h (Nat.lt_succ_of_le z)),Bool.and_false]
    rw[e1,Bool.eq_false_iff]
    intro z
    have all:∀ x∈[48,49,50,51,52,53,54,55,56,57],x<58:=by decide +kernel
    exact h (all c (List.contains_iff_mem.mp z))
noncomputable def sp_figs:Sp:=fun vs H Q _=>∃ z,vs=[.str z]∧z.length≤100000∧∀ H',Same H H'→Q (.bl (figL z.cps.toList)) H'
noncomputable def mtB (z:Str):Bool:=decide (z.cps.toList.length=7)&&(figL (z.cps.toList.take 4)&&(decide (z.cps.toList[4]? = some 45)&&figL (z.cps.toList.drop 5)))
noncomputable def sp_is_month_text (K:PySem.W.Frag):Sp:=fun vs H Q _=>∃ v,vs=[v]∧((NoStr K H v∧Q (.bl false) H)∨∃ z,v = .str z∧z.length≤100000∧∀ H',Same H H'→Q (.bl (mtB z)) H')
noncomputable def readM (z:Str):Option Int:=if mtB z=true∧1≤digitsVal (z.cps.toList.drop 5)∧digitsVal (z.cps.toList.drop 5)≤12 then some ((digitsVal (z.cps.toList.take 4):Nat)*12+(digitsVal (z.cps.toList.drop 5):Nat) - 1) else none
noncomputable def sp_read_month (K:PySem.W.Frag) (cT:Addr):Sp:=fun vs H Q E=>∃ v,vs=[v]∧((NoStr K H v∧E (.ref cT) none H)∨∃ z,v = .str z∧z.length≤100000∧∀ H',Same H H'→(∀ m,readM z=some m→Q (.int m) H')∧(readM z=none→E (.ref cT) none H'))
noncomputable def yearS (y:Int):Str:=Txt.zfill (numS y) 4
noncomputable def placeS (p:Int):Str:=Txt.zfill (numS p) 2
noncomputable def monthS (m:Int):Str:=yearS (m/12)++("-":Str)++placeS (m%12+1)
noncomputable def sp_year_text:Sp:=fun vs H Q _=>∃ z,vs=[.int z]∧0≤z∧z≤9999∧Q (.str (yearS z)) H
noncomputable def sp_month_text (K:PySem.W.Frag) (c:Addr):Sp:=fun vs H Q E=>∃ v,vs=[v]∧((∃ z,v = .int z∧0≤z∧z≤119999∧Q (.str (monthS z)) H)∨(NotTo K H 119999 v∧E (.ref c) none H))
end Pg
namespace L2
open PySem PySem.Spec PyProof.Rows
noncomputable abbrev TJ:=St→Hp→(List Str→Hp→Prop)→Prop
noncomputable def joinS:List Str→Str
  | []=>Str.empty
  | z::r=>z++joinS r
noncomputable def tjNil:TJ:=fun _ H Q=>Q [] H
noncomputable def tjCons (te:TE) (t:TJ):TJ:=fun σ H Q=>te σ H fun v H1=>∃ z,v = .str z∧z.length≤100000∧t σ H1 fun zs H2=>Q (z::zs) H2
noncomputable def PJ (X:Cx) (es:List Expr) (t:TJ):Prop:=∀ (pins:List (Addr × Obj)) (s:Shared) (σ:St) (H:Hp) (out:Str) (Q:VK),Inv X pins σ H s→out.length+100000*es.length≤sizeLine→(t σ H fun zs H'=>Q (.str (out++joinS zs)) H') →
  wpAny (model X.prog X.w) X.A (joinParts out (evalEach es X.env)) (EP X pins σ Q) X.xe s
section
variable {X:Cx} {e:Expr} {es:List Expr} {te:TE} {t:TJ} {pos:Pos}
noncomputable def tFStr (t:TJ):TE:=fun σ H Q=>t σ H fun zs H'=>Q (.str (joinS zs)) H'
end
end L2
namespace Pg
open PySem L2
theorem dg_step {n:Nat} (h:10≤n):dg n=dg (n/10)++[48+n%10]:=by
  unfold dg
  rw[Nat.toDigits_of_base_le (by decide) h,List.map_append,List.map_singleton]
  congr 2
  have:n%10<10:=Nat.mod_lt _ (by decide)
  generalize n%10=d at this
  match d,this with
  | 0,_=>rfl
  | 1,_=>rfl
  | 2,_=>rfl
  | 3,_=>rfl
  | 4,_=>rfl
  | 5,_=>rfl
  | 6,_=>rfl
  | 7,_=>rfl
  | 8,_=>rfl
  | 9,_=>rfl
  | d+10,h=>omega
theorem dg_one {n:Nat} (h:n<10):dg n=[48+n]:=by
  match n,h with
  | 0,_=>rfl
  | 1,_=>rfl
  | 2,_=>rfl
  | 3,_=>rfl
  | 4,_=>rfl
  | 5,_=>rfl
  | 6,_=>rfl
  | 7,_=>rfl
  | 8,_=>rfl
  | 9,_=>rfl
  | d+10,h=>omega
noncomputable def absI (a:Int):Int:=if a<0 then -a else a
noncomputable def signS (a:Int):Str:=if a<0 then "-" else ""
noncomputable def toldS (a:Int):Str:=joinS [signS a,numS (absI a/100),".",Txt.zfill (numS (absI a%100)) 2]
noncomputable def stripR (l:List Nat):List Nat:=l.take (l.length - (l.reverse.takeWhile fun c=>decide (c=32)).length)
theorem join_one (sep z:Str):Txt.join sep [z]=z:=rfl
theorem join_snoc (sep z:Str) {zs:List Str} (h:zs≠[]):Txt.join sep (zs++[z])=Txt.join sep zs++sep++z:=by
  cases zs with
  | nil=>exact absurd rfl h
  | cons a r =>
    unfold Txt.join Builtin.Str.glued
    show Str.mk ((r++[z]).foldl _ _)=Str.mk (_++_++_)
    rw[List.foldl_append]
    rfl
theorem numS_len {z:Int} {k:Nat} (h0:0≤z) (hk:1≤k) (h1:z.toNat<10 ^ k):(numS z).length≤k:=by
  obtain⟨n,rfl⟩:=Int.eq_ofNat_of_zero_le h0
  rw[len_codes,numS_codes]
  exact dg_len_le hk (by simpa using h1)
end Pg
namespace L2
open PySem PySem.Spec PyProof.Rows
structure Walk (J:It) (H:Hp) (xs:List V):Prop where
  go:∀ i x H',xs[i]? = some x→Same H H'→J.go i H'∧∀ y H'',J.yld i H' y H''→H''=H'∧y=x
  stop:∀ H',Same H H'→J.stop xs.length H'
theorem walk_list {K:PySem.W.Frag} {a:Addr} {xs:List V} {H:Hp} (h:SqL K H a xs):Walk (Itl K a) H xs :=
  ⟨fun i x H' e s=>⟨⟨xs,x,s.seq h,e⟩,fun y H'' ⟨e1,e2⟩=>⟨e1,Option.some.inj ((e2 xs (s.seq h)).symm.trans e)⟩⟩,fun H' s=>⟨xs,s.seq h,Nat.le_refl _⟩⟩
theorem walk_tup {K:PySem.W.Frag} {a:Addr} {xs:List V} {H:Hp} (h:SqT K H a xs):Walk (Itt K a) H xs :=
  ⟨fun i x H' e s=>⟨⟨xs,x,s.tup h,e⟩,fun y H'' ⟨e1,e2⟩=>⟨e1,Option.some.inj ((e2 xs (s.tup h)).symm.trans e)⟩⟩,fun H' s=>⟨xs,s.tup h,Nat.le_refl _⟩⟩
theorem walk_rng {lo:Int} {n:Nat} {H:Hp}:Walk (Itr lo n) H ((List.range n).map fun k=>V.int (lo+(k:Nat))):=by
  refine⟨fun i x H' e s=>?_,fun H' s=>by rw[List.length_map,List.length_range];exact Nat.le_refl n⟩
  rw[List.getElem?_map] at e
  obtain⟨k,hk,rfl⟩:=Option.map_eq_some_iff.mp e
  obtain⟨h1,h2⟩:=List.getElem?_eq_some_iff.mp hk
  simp at h1 h2
  exact⟨by show i<n;omega,fun y H'' ⟨e1,e2⟩=>⟨e1,by rw[e2,← h2]⟩⟩
theorem walk_str {z:Str} {H:Hp}:Walk (Its z) H (z.cps.toList.map sgn):=by
  refine⟨fun i x H' e s=>?_,fun H' s=>by rw[List.length_map,Array.length_toList];exact Nat.le_refl _⟩
  rw[List.getElem?_map] at e
  obtain⟨c,hc,rfl⟩:=Option.map_eq_some_iff.mp e
  have hc':z.cps[i]? = some c:=by simpa using hc
  exact⟨(Array.getElem?_eq_some_iff.mp hc').1,fun y H'' ⟨e1,c',h1,e2⟩=>⟨e1,by rw[e2,Option.some.inj (h1.symm.trans hc')];rfl⟩⟩
section
variable {J:It} {D:Addr} {g:TG} {tt:TT} {te:TE} {fin:List V→Hp→Prop} {σ:St} {H:Hp} {xs:List V}
theorem comp_walk (W:Walk J H xs) (hD:H D=none) (Good:Nat→List V→Hp→Prop) (Sg:St→Prop) (s0:Sg σ) (g0:Good 0 [] (upd H D (.lst [])))
    (hs:∀ i x ys σ' H',xs[i]? = some x→Sg σ'→Same H H'→H' D=some (.lst ys)→ys.length≤i→Good i ys H'→cTurn D g tt te x ys (fun ys' σ2 H2=>Sg σ2∧Same H H2∧H2 D=some (.lst ys')∧ys'.length≤i+1∧Good (i+1) ys' H2) σ' H')
    (hf:∀ ys H',Same H H'→H' D=some (.lst ys)→ys.length≤xs.length→Good xs.length ys H'→fin ys H'):tTurnsI J D g tt te fin σ (upd H D (.lst [])):=by
  refine⟨fun i m ys σ' H'=>m=xs.length - i∧i≤xs.length∧Sg σ'∧Same H H'∧H' D=some (.lst ys)∧ys.length≤i∧Good i ys H',⟨xs.length,by simp,Nat.zero_le _,s0,Same.upd hD,upd_same,Nat.le_refl _,g0⟩,fun i m ys σ H ⟨_,_,_,_,h,_⟩=>h,?_⟩
  rintro i m ys σ' H' ⟨rfl,hi,h1,h2,h3,h4,h5⟩
  by_cases hlt:i<xs.length
  · have hx:xs[i]? = some xs[i]:=List.getElem?_eq_getElem hlt
    obtain⟨w1,w2⟩:=W.go i _ H' hx h2
    refine .inr ⟨w1,fun ys' σ2 H2=>Sg σ2∧Same H H2∧H2 D=some (.lst ys')∧ys'.length≤i+1∧Good (i+1) ys' H2,fun ys' σ2 H2 p=>⟨xs.length - (i+1),by omega,rfl,hlt,p⟩,fun y H'' hy=>?_⟩
    obtain⟨e1,e2⟩:=w2 y H'' hy
    subst e1 e2
    exact hs i _ ys σ' _ hx h1 h2 h3 h4 h5
  · have e:i=xs.length:=by omega
    subst e
    exact .inl ⟨W.stop H' h2,hf ys H' h2 h3 h4 h5⟩
theorem comp_fm (W:Walk J H xs) (hD:H D=none) (hz:xs.length<sizeLine) (p:V→Bool) (φ:V→V)
    (ht:∀ x∈xs,∀ H' R,Same H H'→R (p x) H'→tt (σ.set 0 (some x)) H' R)
    (he:∀ x∈xs,p x=true→∀ H' R,Same H H'→R (φ x) H'→te (σ.set 0 (some x)) H' R)
    (hf:fin ((xs.filter p).map φ) (upd H D (.lst ((xs.filter p).map φ)))):tTurnsI J D (gName 0) tt te fin σ (upd H D (.lst [])):=by
  refine comp_walk W hD (fun i ys H'=>ys=((xs.take i).filter p).map φ∧H'=upd H D (.lst ys)) (fun σ'=>∀ x,σ'.set 0 (some x) = σ.set 0 (some x)) (fun _=>rfl) ⟨rfl,rfl⟩ ?_ ?_
  · rintro i x ys σ' H' hx hσ s hd hl ⟨rfl,rfl⟩
    have hi:i<xs.length:=(List.getElem?_eq_some_iff.mp hx).1
    have hm:=List.mem_of_getElem? hx
    have tk:xs.take (i+1)=xs.take i++[x]:=by rw[List.take_add_one,hx];rfl
    have hσ2:∀ y,(σ'.set 0 (some x)).set 0 (some y) = σ.set 0 (some y):=fun y=>by rw[List.set_set];exact hσ y
    show tt (σ'.set 0 (some x)) _ _
    rw[hσ x]
    refine ht x hm _ _ s ?_
    rw[hσ x] at hσ2
    cases hp:p x with
    | true =>
      refine iteT (he x hm hp _ _ s ⟨hd,by omega,hσ2,?_,upd_same,?_,?_,upd_upd⟩)
      · rw[upd_upd];exact Same.upd hD
      · rw[List.length_append,List.length_singleton];omega
      · rw[tk,List.filter_append,List.map_append];simp[hp]
    | false =>
      refine iteF ⟨hσ2,s,hd,by omega,?_,rfl⟩
      rw[tk,List.filter_append,List.map_append];simp[hp]
  · rintro ys H' s hd hl ⟨rfl,rfl⟩
    rw[List.take_length]
    exact hf
end
end L2
namespace L2
theorem countP_lt {p q:Nat→Bool} {l:List Nat} (h:∀ x∈l,p x=true→q x=true) (w:∃ x∈l,q x=true∧p x=false):l.countP p<l.countP q:=by
  induction l with
  | nil =>
    obtain⟨x,hx,_⟩:=w
    cases hx
  | cons a l ih =>
    rw[List.countP_cons,List.countP_cons]
    have hl:∀ x∈l,p x=true→q x=true:=fun x hx=>h x (List.mem_cons_of_mem _ hx)
    obtain⟨x,hx,h1,h2⟩:=w
    rcases List.mem_cons.mp hx with rfl | hx
    · rw[h1,h2,if_pos rfl,if_neg Bool.false_ne_true]
      exact Nat.lt_succ_of_le (List.countP_mono_left hl)
    · have:=ih hl ⟨x,hx,h1,h2⟩
      cases e:p a with
      | false =>
        rw[if_neg Bool.false_ne_true]
        exact Nat.lt_of_lt_of_le this (Nat.le_add_right _ _)
      | true =>
        rw[h a List.mem_cons_self e,if_pos rfl]
        exact Nat.add_lt_add_right this 1
noncomputable def rkT (key:Nat→List Nat) (n i:Nat):Int:=((List.range n).countP fun j=>decide (key j<key i):Nat)
theorem rkT_lt {key:Nat→List Nat} {n i j:Nat} (hi:i<n):decide (key i<key j)=decide (rkT key n i<rkT key n j):=by
  refine decide_eq_decide.mpr ⟨fun h=>?_,fun h=>?_⟩
  · refine Int.ofNat_lt.mpr (countP_lt (fun x _ e=>decide_eq_true (List.lt_trans (of_decide_eq_true e) h)) ⟨i,List.mem_range.mpr hi,decide_eq_true h,decide_eq_false (List.lt_irrefl _)⟩)
  · have h:=Int.ofNat_lt.mp h
    refine Classical.byContradiction fun c=>Nat.not_lt.mpr (List.countP_mono_left fun x _ e=>?_) h
    have e:=of_decide_eq_true e
    refine decide_eq_true (Classical.byContradiction fun d=>c (List.lt_of_le_of_lt d e))
theorem rkT_same {key:Nat→List Nat} {n i j:Nat} (h:key i=key j):rkT key n i=rkT key n j:=by
  have:(fun k=>decide (key k<key i))=fun k=>decide (key k<key j):=funext fun k=>decide_eq_decide.mpr (by rw[h])
  unfold rkT
  rw[this]
end L2
set_option maxHeartbeats 1000000
namespace SS
theorem iput_up {k:Nat→Int} {x:Nat} {l:List Nat} (h:l.Pairwise fun a b=>k a≤k b):(iput k x l).Pairwise fun a b=>k a≤k b:=by
  unfold iput
  have h':=h
  rw[← List.takeWhile_append_dropWhile (p:=fun y=>decide (k y≤k x)) (l:=l),List.pairwise_append] at h'
  obtain⟨h1,h2,h3⟩:=h'
  have lo:∀ y∈l.takeWhile (fun y=>decide (k y≤k x)),k y≤k x:=fun y hy=>of_decide_eq_true (List.all_eq_true.mp List.all_takeWhile y hy)
  have hi:∀ y∈l.dropWhile (fun y=>decide (k y≤k x)),k x≤k y:=by
    cases e:l.dropWhile (fun y=>decide (k y≤k x)) with
    | nil=>intro y hy;cases hy
    | cons a r =>
      have ha:decide (k a≤k x)=false:=by
        have:=List.head?_dropWhile_not (fun y=>decide (k y≤k x)) l
        rw[e] at this
        simpa using this
      have ha:=of_decide_eq_false ha
      rw[e] at h2
      intro y hy
      rcases List.mem_cons.mp hy with rfl | hy
      · omega
      · have:=(List.pairwise_cons.mp h2).1 y hy
        omega
  refine List.pairwise_append.mpr ⟨h1,List.pairwise_cons.mpr ⟨hi,h2⟩,fun a ha b hb=>?_⟩
  rcases List.mem_cons.mp hb with rfl | hb
  · exact lo a ha
  · exact h3 a ha b hb
theorem iord_up (k:Nat→Int) (l:List Nat):(iord k l).Pairwise fun a b=>k a≤k b:=by
  have:∀ (l acc:List Nat),acc.Pairwise (fun a b=>k a≤k b)→(l.foldl (fun acc x=>iput k x acc) acc).Pairwise fun a b=>k a≤k b:=by
    intro l
    induction l with
    | nil=>intro acc h;exact h
    | cons x r ih =>
      intro acc h
      rw[List.foldl_cons]
      exact ih _ (iput_up h)
  exact this l [] List.Pairwise.nil
end SS
namespace L2
open PySem PySem.Spec PyProof.Rows PySem.W
section
variable {prog:Program} {w:World} {A:Around} {s:Shared}
theorem lex_pair {Q:Bool→Shared→Prop} {a c:Str} {t t2 u u2:Tok} {x y:Int} (h1:a=c→x=y) (h:Q (decide (a.cps.toList<c.cps.toList)) s) :
    KatLex prog w A true (decide (2<2)) Q ([Value.str a t,Value.int x t2].zip [Value.str c u,Value.int y u2]) 0 s:=by
  refine kat_cons (wpAny_eqBool_str (kat_go (fun e=>kat_yes ?_) fun e=>kat_no ?_))
  · have e:=of_decide_eq_true e
    have e2:=h1 e
    subst e e2
    refine kat_cons (wpAny_eqBool_int (kat_go (fun e=>kat_yes ?_) fun e=>?_))
    · have h:Q (decide (a.cps.toList<a.cps.toList)) s:=h
      rw[decide_eq_false (List.lt_irrefl _)] at h
      exact h
    · simp at e
  · exact oneLt_str h
end
section
variable {X:Cx} {A:Around} {E:Value→Shared→Prop} {pins:List (Addr × Obj)} {σ:St} {H:Hp} {s:Shared} {a:Addr} {its:List Value} {ts:List V} {nm:Nat→Str} {am:Nat→Int} {P:PySem.Fin→Shared→Prop}
structure PairAt (H:Hp) (ts:List V) (nm:Nat→Str) (am:Nat→Int):Prop where
  at_:∀ i,i<ts.length→∃ t,ts[i]? = some (.ref t)∧H t=some (.tup [.str (nm i),.int (am i)])
  one:∀ i j,i<ts.length→j<ts.length→nm i=nm j→am i=am j
noncomputable abbrev rkP (nm:Nat→Str) (n:Nat):Nat→Int:=rkT (fun i=>(nm i).cps.toList) n
theorem pair_obj (T:PairAt H ts nm am) (rv:Vals ts its) {P:Program} {w:World} {h:Heap} (ok:HOk P w H h) {i:Nat} {v:Value} (hv:its[i]? = some v):∃ t o k1 k2 n,v = .ref t∧H t=some (.tup [.str (nm i),.int (am i)])∧h.get? t=some o∧o.cls = .type "tuple"∧o.data = .seq #[Value.str (nm i) k1,Value.int (am i) k2] n:=by
  have hi:i<ts.length:=by rw[rv.length];exact (List.getElem?_eq_some_iff.mp hv).1
  obtain⟨t,e1,e2⟩:=T.at_ i hi
  obtain⟨u,hu,ru⟩:=rv.get e1
  rw[hv] at hu
  cases hu
  cases ru
  obtain⟨_,us,rv,o,ho,hc,n,hd⟩:=ok t _ e2
  obtain⟨u1,u2,rfl,⟨k1,r1⟩,⟨k2,r2⟩⟩:=vals2 rv
  subst r1 r2
  exact⟨t,o,k1,k2,n,rfl,e2,ho,hc,hd⟩
theorem rank_pair (T:PairAt H ts nm am) (rv:Vals ts its) {P:Program} {w:World} {h:Heap} (ok:HOk P w H h) {i:Nat} {v:Value} (hv:its[i]? = some v):rankOf its (rkP nm ts.length) v=rkP nm ts.length i:=by
  have ex:∃ i,its[i]? = some v:=⟨i,hv⟩
  unfold rankOf
  rw[dif_pos ex]
  have hj:=ex.choose_spec
  generalize ex.choose=j at hj
  obtain⟨t,_,_,_,_,e1,e2,_⟩:=pair_obj T rv ok hv
  obtain⟨t',_,_,_,_,e1',e2',_⟩:=pair_obj T rv ok hj
  rw[e1] at e1'
  cases e1'
  rw[e2] at e2'
  have en:nm i=nm j:=by
    have:=HO.tup.inj (Option.some.inj e2')
    exact V.str.inj (List.cons.inj this).1
  exact rkT_same (congrArg (fun z:Str=>z.cps.toList) en.symm)
theorem cmp_pairs (T:PairAt H ts nm am) (rv:Vals ts its) {P:Program} {w:World} (ok:HOk P w H s.heap) :
    @SG.Cmp ⟨rankOf its (rkP nm ts.length),tuples' true⟩ P w A s (its.toArray.zip its.toArray):=by
  intro p hp q hq Q E h
  rw[ksk_zip] at hp hq
  obtain⟨x,x'⟩:=p
  obtain⟨y,y'⟩:=q
  obtain⟨i,hi⟩:=List.mem_iff_getElem?.mp (List.of_mem_zip hp).1
  obtain⟨j,hj⟩:=List.mem_iff_getElem?.mp (List.of_mem_zip hq).1
  rw[ksk_tl] at hi hj
  have li:i<ts.length:=by rw[rv.length];exact (List.getElem?_eq_some_iff.mp hi).1
  have lj:j<ts.length:=by rw[rv.length];exact (List.getElem?_eq_some_iff.mp hj).1
  have h':Q (decide (rankOf its (rkP nm ts.length) x<rankOf its (rkP nm ts.length) y)) s:=h
  rw[rank_pair T rv ok hi,rank_pair T rv ok hj,← rkT_lt li] at h'
  obtain⟨t,o,k1,k2,n,e1,_,e3,_,e5⟩:=pair_obj T rv ok hi
  obtain⟨t',o',l1,l2,n',f1,_,f3,_,f5⟩:=pair_obj T rv ok hj
  show wpAny (model P w) A (keyLt' (tuples' true) x y) Q E s
  rw[e1,f1]
  exact kat_lt e3 e5 f3 f5 (lex_pair (T.one i j li lj) h')
theorem order_pairs (T:PairAt H ts nm am) (rv:Vals ts its) {P:Program} {w:World} {h:Heap} (ok:HOk P w H h) :
    Vals ((SS.iord (rkP nm ts.length) (List.range ts.length)).map fun i=>ts.getD i .non) ((@SG.srt ⟨rankOf its (rkP nm ts.length),tuples' true⟩ (its.zip its)).map (·.2)):=by
  letI:SG.Rk:=⟨rankOf its (rkP nm ts.length),tuples' true⟩
  have tl:=rv.length
  have P0:Paired (fun (i:Nat) (p:Keyed)=>SG.ky p=rkP nm ts.length i∧RelV (ts.getD i .non) p.2) (List.range ts.length) (its.zip its):=by
    refine paired_of (by rw[List.length_range,List.length_zip,Nat.min_self,tl]) fun i j p e1 e2=>?_
    obtain⟨hi,rfl⟩:i<ts.length∧i=j:=by
      rw[List.getElem?_eq_some_iff] at e1
      obtain⟨h1,h2⟩:=e1
      rw[List.getElem_range] at h2
      exact⟨by simpa using h1,h2⟩
    have e3:its[i]? = some p.1∧its[i]? = some p.2:=List.getElem?_zip_eq_some.mp e2
    refine⟨rank_pair T rv ok e3.1,?_⟩
    obtain⟨u,hu,rv⟩:=rv.get (i:=i) (x:=ts.getD i .non) (by rw[List.getD_eq_getElem?_getD,List.getElem?_eq_getElem hi];rfl)
    rw[e3.2] at hu
    cases hu
    exact rv
  have P1:=SG.pair_srt (k:=rkP nm ts.length) (fun i p h=>h.1) P0
  have:∀ {l:List Nat} {m:List Keyed},Paired (fun (i:Nat) (p:Keyed)=>SG.ky p=rkP nm ts.length i∧RelV (ts.getD i .non) p.2) l m→Vals (l.map fun i=>ts.getD i .non) (m.map (·.2)):=by
    intro l m h
    induction h with
    | nil=>exact .nil
    | cons r _ ih=>exact .cons r.2 ih
  exact this P1
theorem strs_of {h:Heap} {its:List Value} (H:∀ v∈its,∃ a o xs n k t,v=Value.ref a∧h.get? a=some o∧o.cls = .type "tuple"∧o.data = .seq xs n∧xs[0]? = some (Value.str k t)):∃ fs,KatTups h its fs∧fs.length=its.length∧∀ f∈fs,∃ k t,f=Value.str k t:=by
  induction its with
  | nil=>exact⟨[],trivial,rfl,fun f hf=>absurd hf (by simp)⟩
  | cons v its ih =>
    obtain⟨fs,t1,t2,t3⟩:=ih fun v hv=>H v (List.mem_cons_of_mem _ hv)
    obtain⟨a,o,xs,n,k,t,e1,e2,e3,e4,e5⟩:=H v List.mem_cons_self
    refine⟨.str k t::fs,⟨⟨a,o,xs,n,e1,e2,e3,e4,e5⟩,t1⟩,by rw[List.length_cons,List.length_cons,t2],fun f hf=>?_⟩
    rcases List.mem_cons.mp hf with rfl | hf
    · exact⟨k,t,rfl⟩
    · exact t3 f hf
theorem pair_sort {n:Nat} (I:Inv X pins σ H s) (ha:s.heap.get? a=some (seqObj "list" its.toArray n)) (fa:FpOk X pins H a) (h64:its.length<64) (T:PairAt H ts nm am) (rv:Vals ts its)
    (h:∀ s' c out,Vals ((SS.iord (rkP nm ts.length) (List.range ts.length)).map fun i=>ts.getD i .non) out→Inv X pins σ H s'→s'.heap.get? a=some (seqObj "list" out.toArray c)→P (.done (.ret .none)) s') :
    wpAny (model X.prog X.w) A (Builtin.«list.sort» ⟨[.ref a],[]⟩) P E s:=by
  letI:SG.Rk:=⟨rankOf its (rkP nm ts.length),tuples' true⟩
  have u1:=Heap.SameBut.update s.heap a (Obj.mapSeq fun _=>(#[]:Array Value))
  obtain⟨e1,g1⟩:∃ e1,(s.heap.update a (Obj.mapSeq fun _=>(#[]:Array Value))).get? a=some (seqObj "list" #[] e1):=⟨_,get?_update_seq ha fun _=>#[]⟩
  have J1:=I.turn1 fa u1
  have J2:=J1.kept (t':=s.toks) (h':=(s.heap.update a (Obj.mapSeq fun _=>(#[]:Array Value))).push (seqObj "tuple" its.toArray 0)) fun b o q=>Heap.get?_push_of_some _ q
  have J3:=J2.kept (t':=s.toks) (h':=((s.heap.update a (Obj.mapSeq fun _=>(#[]:Array Value))).push (seqObj "tuple" its.toArray 0)).push (seqObj "list" #[] 0)) fun b o q=>Heap.get?_push_of_some _ q
  have g3:(((s.heap.update a (Obj.mapSeq fun _=>(#[]:Array Value))).push (seqObj "tuple" its.toArray 0)).push (seqObj "list" #[] 0)).get? a=some (seqObj "list" #[] e1):=Heap.get?_push_of_some _ (Heap.get?_push_of_some _ g1)
  rw[list_sort_plain]
  refine wpAny_bind (listItems_at ha rfl (wpAny_bind (listUpdate_at ha rfl (wpAny_bind (seqEpoch_at g1 rfl (wpAny_bind (wpAny_newTuple (wpAny_bind (wpAny_newList (wpAny_holding ?_) (Nat.zero_le _))) (by show its.length≤_;rw[sizeLine_eq];omega))))) (by rw[List.size_toArray,sizeLine_eq];omega) (Nat.zero_le _))))
  dsimp only
  have ov:=order_pairs T rv J3.hok
  have zl:(its.zip its).length=its.length:=by rw[List.length_zip,Nat.min_self]
  have zs:(its.toArray.zip its.toArray).size=its.length:=by rw[← zl,← ksk_tl its,← ksk_zip,Array.length_toList,ksk_tl]
  have fin:∀ (st:SortSt),(arrOf st).toList=SG.srt (its.zip its)→failedOf st=none→wpAny (model X.prog X.w) A (do
      let touched:=(← seqEpoch a) != e1
      Builtin.List.listUpdate (.ref a) fun _=>(arrOf st).map (·.2)
      if let some e:=failedOf st then rule "list.sort.comparison-raised";throw e
      if touched then rule "list.sort.modified";raiseError "ValueError" "list modified during sort"
      ret .none) P E { s with heap:=((s.heap.update a (Obj.mapSeq fun _=>(#[]:Array Value))).push (seqObj "tuple" its.toArray 0)).push (seqObj "list" #[] 0) }:=fun st e3 e2=>by
    have ez:((arrOf st).map (·.2))=((SG.srt (its.zip its)).map (·.2)).toArray:=by rw[← e3,← Array.toList_map,Array.toArray_toList]
    have sz:((arrOf st).map (·.2)).size≤64:=by rw[ez];simp only[List.size_toArray,List.length_map];rw[SG.srt_len,zl];omega
    have u3:=Heap.SameBut.update (((s.heap.update a (Obj.mapSeq fun _=>(#[]:Array Value))).push (seqObj "tuple" its.toArray 0)).push (seqObj "list" #[] 0)) a (Obj.mapSeq fun _=>(arrOf st).map (·.2))
    have a3:=get?_update_seq g3 fun _=>(arrOf st).map (·.2)
    refine wpAny_bind (seqEpoch_at g3 rfl (wpAny_bind (listUpdate_at g3 rfl ?_ (Nat.zero_le _) (Nat.le_trans sz (by rw[sizeLine_eq];omega)))))
    rw[e2]
    simp only[bne_self_eq_false,Bool.false_eq_true,if_false]
    have a4:∃ c,((((s.heap.update a (Obj.mapSeq fun _=>(#[]:Array Value))).push (seqObj "tuple" its.toArray 0)).push (seqObj "list" #[] 0)).update a (Obj.mapSeq fun _=>(arrOf st).map (·.2))).get? a=some (seqObj "list" ((SG.srt (its.zip its)).map (·.2)).toArray c):=⟨_,by rw[← ez];exact a3⟩
    obtain⟨c,a4⟩:=a4
    exact wpAny_pure (h _ c _ ov (J3.turn1 fa u3) a4)
  by_cases h2:its.toArray.size<2
  · rw[if_pos h2,if_pos h2]
    refine wpAny_bind (wpAny_pure ?_)
    rw[StateT.run_pure]
    refine wpAny_bind (wpAny_pure ?_)
    have h2':its.length<2:=by simpa using h2
    refine fin _ ?_ rfl
    have up:SG.Up (its.zip its):=by
      cases q:its.zip its with
      | nil=>exact List.Pairwise.nil
      | cons x r =>
        cases r with
        | nil=>exact List.pairwise_singleton _ _
        | cons y r=>rw[q] at zl;simp at zl;omega
    rw[SG.srt_id up]
    exact ksk_zip its.toArray its
  · rw[if_neg h2,if_neg h2]
    have h2':2≤its.length:=by simpa using h2
    obtain⟨fs,k1,k2,k3⟩:=strs_of (h:=(((s.heap.update a (Obj.mapSeq fun _=>(#[]:Array Value))).push (seqObj "tuple" its.toArray 0)).push (seqObj "list" #[] 0))) (its:=its) fun v hv=>by
      obtain⟨i,hi⟩:=List.mem_iff_getElem?.mp hv
      obtain⟨t,o,k1,k2,n',y1,_,y3,y4,y5⟩:=pair_obj T rv J3.hok hi
      exact⟨t,o,_,n',_,k1,y1,y3,y4,y5,rfl⟩
    refine wpAny_bind (kat_kind (T:=.type "str") k1 (by omega) (fun v hv=>?_) rfl ?_)
    · obtain⟨k,t,rfl⟩:=k3 v hv
      exact .now
    refine wpAny_bind (wpAny_mono (SG.sort_in (b₀:=its.toArray.zip its.toArray) (st:=SortSt.mk' (tuples' true) (its.toArray.zip its.toArray) #[] 7 none)
      (Q:=fun _ st'=>failedOf st'=none∧(arrOf st').toList=SG.srt (its.toArray.zip its.toArray).toList) (cmp_pairs T rv J3.hok) ⟨.refl _,rfl,rfl,rfl⟩ rfl (by omega) (by omega) fun st' z1 z2=>⟨z1,z2⟩) ?_ fun _ _ z=>z)
    rintro ⟨⟨⟩,st'⟩ s' ⟨rfl,z1,z2⟩
    rw[ksk_zip] at z2
    exact fin st' z2 z1
noncomputable def rSortP (K:PySem.W.Frag):List V→Hp→VK→Prop:=fun xs H Q=>∃ (a:Addr) (ts:List V) (nm:Nat→Str) (am:Nat→Int),xs=[.ref a]∧SqL K H a ts∧ts.length<64∧PairAt H ts nm am ∧
  ∀ is:List Nat,is.Perm (List.range ts.length)→is.Pairwise (fun i j=>¬ (nm j).cps.toList<(nm i).cps.toList)→New H (.lst (is.map fun i=>ts.getD i .non)) Q
theorem call_sortP:CallR X (.builtin "sorted") (rSortP X.K):=by
  intro pins s σ H xs us Q I r h
  obtain⟨a,ts,nm,am,rfl,ha,h64,T,q⟩:=h
  cases r with
  | cons r1 rr =>
    cases rr
    cases r1
    obtain⟨its,rv,pl,hz⟩:=I.list ha
    have tl:=rv.length
    refine Calls.call_function_entry kind_sorted plain_sorted entry_sorted (args_sorted1 _) ?_
    unfold Builtin.«sorted»
    refine wpAny_bind (m:=checkCount "sorted" 1 1 _) (wpAny_pure (wpAny_bind (collect_list pl.isList (wpAny_bind (wpAny_newList ?_ (by rw[sizeLine_eq];omega))) (by rw[sizeLine_eq];omega))))
    have u0:=Heap.SameBut.update (s.heap.push (seqObj "list" #[] 0)) s.heap.objs.size (Obj.mapSeq (· ++ its.toArray))
    have J1:=I.kept (t':=s.toks) (h':=(s.heap.push (seqObj "list" #[] 0)).update s.heap.objs.size (Obj.mapSeq (· ++ its.toArray))) fun b o e=>(u0.2 b (Nat.ne_of_lt (Heap.lt_size e))).trans (Heap.get?_push_of_some _ e)
    have J2:=J1.kept (t':=s.toks) (h':=((s.heap.push (seqObj "list" #[] 0)).update s.heap.objs.size (Obj.mapSeq (· ++ its.toArray))).push (seqObj "list" its.toArray 0)) fun b o e=>Heap.get?_push_of_some _ e
    have hn:H ((s.heap.push (seqObj "list" #[] 0)).update s.heap.objs.size (Obj.mapSeq (· ++ its.toArray))).objs.size=none:=J1.hok.fresh (Nat.le_refl _)
    have fa:=J1.fpOk (Nat.le_refl _) hn
    refine wpAny_bind (wpAny_holding (wpAny_call_entry slot_list_sort ⟨_,Heap.get?_push_size _ rfl,rfl⟩ entry_list_sort ?body (args_list_sort _)))
    case body =>
      refine pair_sort (X:=X) (pins:=pins) (σ:=σ) (H:=H) J2 (Heap.get?_push_size _ rfl) fa (by omega) T rv fun s' c out ov J hq=>⟨_,rfl,wpAny_pure ⟨_,rfl,?_⟩⟩
      have pm:=SS.iord_permK (rkP nm ts.length) (List.range ts.length)
      refine⟨.ref _,_,J.adopt fa hq ov ?_,rfl,(q _ pm ((SS.iord_up _ _).imp_of_mem fun {i j} hi hj hl c=>?_)).at hn⟩
      · rw[List.length_map,pm.length_eq,List.length_range,sizeLine_eq]
        omega
      · have hj:=List.mem_range.mp (pm.mem_iff.mp hj)
        have e:=rkT_lt (key:=fun i=>(nm i).cps.toList) (j:=i) hj
        rw[decide_eq_true c] at e
        exact absurd (of_decide_eq_true e.symm) (Int.not_lt.mpr hl)
end
end L2
namespace L2
open PySem PySem.Spec PyProof.Rows
structure TupsAt (H:Hp) (ys:List V) (cs:List (List V)):Prop where
  len:ys.length=cs.length
  at_:∀ (i:Nat) (c:List V),cs[i]? = some c→∃ a,ys[i]? = some (V.ref a)∧H a=some (.tup c)
section
variable {H H':Hp} {ys:List V} {cs:List (List V)}
theorem TupsAt.nil:TupsAt H [] []:=⟨rfl,fun i c e=>by cases e⟩
theorem TupsAt.mono (T:TupsAt H ys cs) (k:∀ b c,H b=some (.tup c)→H' b=some (.tup c)):TupsAt H' ys cs:=⟨T.len,fun i c e=>by
  obtain⟨a,h1,h2⟩:=T.at_ i c e
  exact⟨a,h1,k _ _ h2⟩⟩
theorem TupsAt.same (T:TupsAt H ys cs) (s:Same H H'):TupsAt H' ys cs:=T.mono fun _ _ h=>s _ _ h
theorem TupsAt.upd {p:Addr} {o:HO} (T:TupsAt H ys cs) (n:∀ c,H p≠some (.tup c)):TupsAt (upd H p o) ys cs:=T.mono fun b c h=>by
  rw[upd_ne (show b≠p from fun e=>n c (by rw[← e];exact h))]
  exact h
theorem TupsAt.snoc {a:Addr} {c:List V} (T:TupsAt H ys cs) (h:H a=some (.tup c)):TupsAt H (ys++[.ref a]) (cs++[c]):=by
  refine⟨by rw[List.length_append,List.length_append,T.len];rfl,fun i d e=>?_⟩
  by_cases hi:i<cs.length
  · rw[List.getElem?_append_left hi] at e
    rw[List.getElem?_append_left (by rw[T.len];exact hi)]
    exact T.at_ i d e
  · have hi:=Nat.le_of_not_lt hi
    rw[List.getElem?_append_right hi] at e
    rw[List.getElem?_append_right (by rw[T.len];exact hi),T.len]
    cases q:i - cs.length with
    | zero =>
      rw[q] at e
      cases e
      exact⟨a,rfl,h⟩
    | succ n =>
      rw[q] at e
      cases e
theorem TupsAt.of_at (T:TupsAt H ys cs) {i:Nat} {y:V} (h:ys[i]? = some y):∃ a c,y = .ref a∧cs[i]? = some c∧H a=some (.tup c):=by
  have hi:i<cs.length:=by rw[← T.len];exact (List.getElem?_eq_some_iff.mp h).1
  obtain⟨a,h1,h2⟩:=T.at_ i _ (List.getElem?_eq_getElem hi)
  rw[h] at h1
  exact⟨a,_,Option.some.inj h1,List.getElem?_eq_getElem hi,h2⟩
end
noncomputable def cP (p:Str × Int):List V:=[.str p.1,.int p.2]
noncomputable def pAt (prs:List (Str × Int)) (i:Nat):Str × Int:=prs.getD i (Str.empty,0)
theorem pAt_of {prs:List (Str × Int)} {i:Nat} {p:Str × Int} (h:prs[i]? = some p):pAt prs i=p:=by
  unfold pAt
  rw[List.getD_eq_getElem?_getD,h]
  rfl
theorem pAt_range (prs:List (Str × Int)):(List.range prs.length).map (pAt prs)=prs:=by
  apply List.ext_getElem?
  intro i
  rw[List.getElem?_map]
  by_cases h:i<prs.length
  · rw[List.getElem?_range h,Option.map_some,List.getElem?_eq_getElem h,pAt_of (List.getElem?_eq_getElem h)]
  · rw[List.getElem?_eq_none (by simpa using h),List.getElem?_eq_none (Nat.le_of_not_lt h)]
    rfl
theorem pair_at {H:Hp} {ts:List V} {prs:List (Str × Int)} (T:TupsAt H ts (prs.map cP)) (nd:(prs.map (·.1)).Nodup):PairAt H ts (fun i=>(pAt prs i).1) (fun i=>(pAt prs i).2):=by
  have tl:ts.length=prs.length:=by rw[T.len,List.length_map]
  refine⟨fun i hi=>?_,fun i j hi hj e=>?_⟩
  · have hp:=List.getElem?_eq_getElem (tl ▸ hi)
    rw[pAt_of hp]
    exact T.at_ i _ (by rw[List.getElem?_map,hp];rfl)
  · have e1:(pAt prs i).1=(pAt prs j).1:=e
    have hp:=List.getElem?_eq_getElem (tl ▸ hi)
    have hq:=List.getElem?_eq_getElem (tl ▸ hj)
    have:i=j:=by
      have li:i<(prs.map (·.1)).length:=by rw[List.length_map];exact tl ▸ hi
      have lj:j<(prs.map (·.1)).length:=by rw[List.length_map];exact tl ▸ hj
      refine (List.getElem_inj (h₀:=li) (h₁:=lj) nd).mp ?_
      rw[List.getElem_map,List.getElem_map,← pAt_of hp,← pAt_of hq]
      exact e1
    rw[this]
theorem pairs_perm {H:Hp} {ts:List V} {prs:List (Str × Int)} (T:TupsAt H ts (prs.map cP)) {is:List Nat} (pm:is.Perm (List.range ts.length)) :
    (is.map (pAt prs)).Perm prs∧TupsAt H (is.map fun i=>ts.getD i .non) ((is.map (pAt prs)).map cP):=by
  have tl:ts.length=prs.length:=by rw[T.len,List.length_map]
  rw[tl] at pm
  constructor
  · have:=pm.map (pAt prs)
    rw[pAt_range] at this
    exact this
  · refine⟨by simp,fun i c e=>?_⟩
    rw[List.getElem?_map,List.getElem?_map] at e
    obtain⟨q,hq,rfl⟩:=Option.map_eq_some_iff.mp e
    obtain⟨j,hj,rfl⟩:=Option.map_eq_some_iff.mp hq
    have lj:j<prs.length:=List.mem_range.mp (pm.mem_iff.mp (List.mem_of_getElem? hj))
    have hp:=List.getElem?_eq_getElem lj
    obtain⟨a,h1,h2⟩:=T.at_ j _ (by rw[List.getElem?_map,hp];rfl)
    rw[pAt_of hp]
    refine⟨a,?_,h2⟩
    rw[List.getElem?_map,hj,Option.map_some,List.getD_eq_getElem?_getD,h1]
    rfl
section
variable {J:It} {D a:Addr} {g:TG} {tt:TT} {te:TE} {fin:List V→Hp→Prop} {σ:St} {H:Hp} {xs:List V} {K:PySem.W.Frag}
end
noncomputable def dOf (tot:List (Str × Int)):List (Key × V):=tot.map fun p=>(Sum.inr p.1,V.int p.2)
noncomputable def getO (tot:List (Str × Int)) (z:Str):Option Int:=(tot.find? fun p=>decide (p.1=z)).map (·.2)
noncomputable def getT (tot:List (Str × Int)) (z:Str):Int:=(getO tot z).getD 0
noncomputable def putT (tot:List (Str × Int)) (z:Str) (v:Int):List (Str × Int) :=
  if (tot.any fun p=>decide (p.1=z))=true then tot.map (fun p=>if p.1=z then (p.1,v) else p) else tot++[(z,v)]
end L2
namespace ST
open PySem
noncomputable def Rise (xs:Array Nat):Prop:=∀ i j,i<j→j<xs.size→xs.getD i 0<xs.getD j 0
noncomputable def NoLive (t:SetTable) (j:Nat):Prop:=t.place[SetTable.below t.place j]?≠some j
structure Good (b:Bool) (t:SetTable):Prop where
  led:t.led=b
  rise:Rise t.place
open PySem.Spec
section
variable {prog:Program} {w:World} {K:Type} [DecidableEq K] [BEq K] [LawfulBEq K] {knd:KeyKind prog w K} {A:Around} {E:Value→Shared→Prop} {s:Shared}
structure At (knd:KeyKind prog w K) (b:Bool) (h:Heap) (a:Addr) (es:Array (Int × Value)):Prop where
  ex:∃ o ep t,h.get? a=some o∧o.ExactSet∧o.data = .set es ep t∧t.fits es.size=true∧Good b t
  el:ElemsOf knd es.toList
noncomputable def Added (knd:KeyKind prog w K) (k:K) (x:Value) (es es':Array (Int × Value)):Prop :=
  ((∃ e∈es.toList,knd.is k e.2=true)∧es'=es)∨((∀ e∈es.toList,knd.is k e.2=false)∧es'.toList.Perm (es.toList++[(knd.hash k,x)]))
end
noncomputable def byText (w:World):Bool:=w.params.followText "set-order"
section
variable {prog:Program} {w:World} {A:Around} {E:Value→Shared→Prop} {s:Shared}
noncomputable abbrev fresh0 (w:World):Obj:={ cls:=.type "set",dict:=none,data:=.set #[] 0 (.fresh 0 0 (!byText w)) }
end
open PyProof.Rows
section
variable {prog:Program} {w:World} {K:Type} [DecidableEq K] [BEq K] [LawfulBEq K] {knd:KeyKind prog w K} {A:Around} {E:Value→Shared→Prop} {s:Shared}
structure Keys (kf:Value→K) (es:Array (Int × Value)) (l:List K):Prop where
  nd:(es.toList.map fun e=>kf e.2).Nodup
  mem:∀ k,k∈es.toList.map (fun e=>kf e.2)↔k∈l
  len:es.size≤l.length
end
section
variable {prog:Program} {w:World} {K:Type} [DecidableEq K] [BEq K] [LawfulBEq K] {knd:KeyKind prog w K} {A:Around} {E:Value→Shared→Prop} {s:Shared}
structure Left (knd:KeyKind prog w K) (kf:Value→K) (l:List K) (h₀ h:Heap):Prop where
  ex:∃ es,At knd (!byText w) h h₀.objs.size es∧Keys kf es l
  keep:∀ c o,c<h₀.objs.size→h₀.get? c=some o→h.get? c=some o
end
section
variable {prog:Program} {w:World} {K:Type} [DecidableEq K] [BEq K] [LawfulBEq K] [Inhabited K] {knd:KeyKind prog w K} {A:Around} {E:Value→Shared→Prop} {s:Shared}
end
end ST
namespace L2
open PySem PySem.Spec PyProof.Rows
noncomputable def txtOf:Value→Str
  | .str z _=>z
  | _=>default
section
variable {X:Cx} {pins:List (Addr × Obj)} {σ:St} {H:Hp} {s:Shared} {a:Expr} {ta:TA} {p1 p2 p3 pos:Pos}
noncomputable def tLenSet (K:PySem.W.Frag) (ta:TA):TE:=fun σ H Q=>ta σ H fun vs H1=>∃ (l:Addr) (zs:List Str),vs=[.ref l]∧SqL K H1 l (zs.map V.str)∧zs.length<64 ∧
  ∀ n:Nat,n≤zs.length→(n<zs.length↔¬ zs.Nodup)→Q (.int n) H1
end
open PySem.W
section
variable {X:Cx} {pins:List (Addr × Obj)} {σ:St} {H:Hp} {s:Shared} {a:Addr}
theorem Inv.adoptO {o:HO} (I:Inv X pins σ H s) (f:FpOk X pins H a) (new:ObjOk X.prog X.w (upd H a o) s.heap a o):Inv X pins σ (upd H a o) s:=by
  have ne:∀ b o,H b=some o→b≠a:=fun b o q=>ne_of_none q f.1
  refine⟨I.ok,I.os,I.bare,⟨I.base.keep,I.base.slot,fun b o q n hx=>?_,I.base.there,fun b ys q=>?_,fun b o u q=>?_,fun b ps q=>?_⟩,I.loc,I.cell,?_,fun x c q=>?_,fun p hp=>?_,fun b o q=>?_,I.len⟩
  · have nb:b≠a:=fun z=>by
      subst z
      rcases f.2.2.2.1 with z | z
      · exact hx z
      · rw[z] at q;cases q
    rw[upd_ne nb]
    exact I.base.free b o q n hx
  · have z:=I.base.tups b ys q
    rw[upd_ne (ne _ _ z)];exact z
  · have z:=I.base.frzs b o u q
    rw[upd_ne (ne _ _ z)];exact z
  · obtain⟨m,z⟩:=I.base.tbls b ps q
    exact⟨m,by rw[upd_ne (ne _ _ z)];exact z⟩
  · rw[upd_ne (Ne.symm f.2.1)];exact I.free
  · rw[upd_ne (f.2.2.2.2.1 x c q)];exact I.freeC x c q
  · obtain⟨p1,p2,p3,p4,p5⟩:=I.pin p hp
    exact⟨p1,by rw[upd_ne (f.2.2.2.2.2 p hp)];exact p2,p3,p4,p5⟩
  · by_cases nb:b=a
    · subst nb
      rw[upd_same] at q
      cases q
      exact new
    · rw[upd_ne nb] at q
      refine (I.hok b o q).stay (fun c u _ z=>z) (fun c z=>?_) fun c ys z=>?_
      · rw[upd_ne (ne _ _ z)];exact z
      · rw[upd_ne (ne _ _ z)];exact z
end
noncomputable def itemsO (v d:Addr):HO:=.ext fun h=>h.IsItemsView v d
section
variable {X:Cx}
end
end L2
namespace Pg
open PySem L2
noncomputable def isL (c:Nat):Bool:=decide (97≤c)&&decide (c≤122)
theorem letters_codes:("abcdefghijklmnopqrstuvwxyz":Str).cps.toList=List.range' 97 26:=by decide +kernel
theorem isL_mem {c:Nat}:c∈List.range' 97 26↔isL c=true:=by
  rw[List.mem_range'_1]
  unfold isL
  rw[Bool.and_eq_true,decide_eq_true_iff,decide_eq_true_iff]
  omega
theorem letter_in (c:Nat):(!(Builtin.Str.occurrences ("abcdefghijklmnopqrstuvwxyz":Str) ⟨#[c]⟩ 0 ("abcdefghijklmnopqrstuvwxyz":Str).length 1).isEmpty)=isL c:=by
  rw[sign_in,letters_codes,Bool.eq_iff_iff,List.contains_iff_mem,isL_mem]
structure NameOk (z:Str):Prop where
  lo:1≤z.length
  hi:z.length≤8
  all:z.cps.toList.all isL=true
noncomputable def sp_word:Sp:=fun vs H Q _=>∃ z,vs=[.str z,.str "abcdefghijklmnopqrstuvwxyz"]∧NameOk z∧∀ H',Same H H'→Q (.bl true) H'
noncomputable def sp_name:Sp:=fun vs H Q _=>∃ z,vs=[.str z]∧NameOk z∧∀ H',Same H H'→Q (.bl true) H'
noncomputable def sp_due:Sp:=fun vs H Q _=>∃ (t:Addr) (p:Str × Int),vs=[.ref t]∧H t=some (.tup (cP p))∧NameOk p.1∧∀ H',Same H H'→Q (.bl true) H'
noncomputable def sp_dues:Sp:=fun vs H Q _=>∃ (l:Addr) (ts:List V) (prs:List (Str × Int)),vs=[.ref l]∧H l=some (.lst ts)∧TupsAt H ts (prs.map cP)∧prs.length<64∧(prs.map (·.1)).Nodup∧(∀ p∈prs,NameOk p.1)∧∀ H',Same H H'→Q .non H'
noncomputable def sp_need0 (m:Int):Sp:=fun vs H Q _=>∃ z,vs=[.int z]∧0≤z∧z≤m∧Q .non H
structure LdgK (K:PySem.W.Frag) (C:Addr):Prop where
  cls:Cls K C
  nT:NoAttr K C "totals"
  nM:NoAttr K C "made"
  nC:NoAttr K C "closed"
noncomputable def cM (p:Int × Str × Int):List V:=[.int p.1,.str p.2.1,.int p.2.2]
noncomputable def fsL (t m:Addr) (cl:V):List (Str × V):=[("totals",.ref t),("made",.ref m),("closed",cl)]
structure LedAt (C:Addr) (H:Hp) (L dx t m:Addr) (cl:V) (tot:List (Str × Int)) (mds:List (Int × Str × Int)):Prop where
  ins:H L=some (.ins C dx (fsL t m cl))
  tot:H t=some (.dK (dOf tot))
  made:∃ ys,H m=some (.lst ys)∧TupsAt H ys (mds.map cM)
noncomputable def sp_init (C:Addr):Sp:=fun vs H Q _=>∃ L dx,vs=[.ref L]∧H L=some (.ins C dx []) ∧
  ∀ t m H',H t=none→H m=none→LedAt C H' L dx t m .non [] []→(∀ b o,H b=some o→b≠L→H' b=some o)→Q .non H'
noncomputable def sp_later (C:Addr):Sp:=fun vs H Q _=>∃ L dx t m cl mo,vs=[.ref L,.int mo]∧H L=some (.ins C dx (fsL t m cl))∧0≤mo∧mo≤119999∧(cl = .non∨∃ c,cl = .int c∧c<mo)∧Q .non H
noncomputable def sp_paid (C:Addr):Sp:=fun vs H Q _=>∃ L dx t m cl tot z,vs=[.ref L,.str z]∧H L=some (.ins C dx (fsL t m cl))∧H t=some (.dK (dOf tot))∧Q (.int (getT tot z)) H
noncomputable def sp_owed (C:Addr):Sp:=fun vs H Q _=>∃ L dx t m cl tot z d,vs=[.ref L,.str z,.int d]∧H L=some (.ins C dx (fsL t m cl))∧H t=some (.dK (dOf tot))∧Q (.int (d - getT tot z)) H
noncomputable def sp_payments (C:Addr):Sp:=fun vs H Q _=>∃ L dx t m cl ys,vs=[.ref L]∧H L=some (.ins C dx (fsL t m cl))∧H m=some (.lst ys)∧New H (.lst ys) Q
noncomputable def duesOf (tot qs:List (Str × Int)):List (Str × Int):=(qs.map fun p=>(p.1,p.2 - getT tot p.1)).filter fun p=>decide (0<p.2)
noncomputable def settle (tot ps:List (Str × Int)):List (Str × Int):=ps.foldl (fun t p=>putT t p.1 (getT t p.1+p.2)) tot
noncomputable def sp_close (C:Addr):Sp:=fun vs H Q _=>∃ (L dx t m:Addr) (cl:V) (tot:List (Str × Int)) (mds:List (Int × Str × Int)) (mo:Int) (l:Addr) (ts:List V) (prs:List (Str × Int)),vs=[.ref L,.int mo,.ref l]∧LedAt C H L dx t m cl tot mds∧0≤mo∧mo≤119999∧(cl = .non∨∃ c,cl = .int c∧c<mo) ∧
  H l=some (.lst ts)∧TupsAt H ts (prs.map cP)∧prs.length<64∧(prs.map (·.1)).Nodup∧(∀ p∈prs,NameOk p.1)∧mds.length≤1000∧tot.length≤1000 ∧
  ∀ (qs:List (Str × Int)) (r:Addr) (ys:List V) (H':Hp),qs.Perm prs→qs.Pairwise (fun a b=>¬ b.1.cps.toList<a.1.cps.toList)→LedAt C H' L dx t m (.int mo) (settle tot (duesOf tot qs)) (mds++(duesOf tot qs).map fun p=>(mo,p)) →
    (∀ b o,H b=some o→b≠L→b≠t→b≠m→H' b=some o)→H r=none→H' r=some (.lst ys)→TupsAt H' ys ((duesOf tot qs).map cP)→Q (.ref r) H'
theorem ones_fold (cs:List Nat) (acc:Array Nat):((cs.map fun c=>(⟨#[c]⟩:Str)).foldl (fun acc p=>acc++("":Str).cps++p.cps) acc).toList=acc.toList++cs:=by
  induction cs generalizing acc with
  | nil=>simp
  | cons c r ih =>
    rw[List.map_cons,List.foldl_cons,ih]
    have:("":Str).cps = #[]:=by decide +kernel
    rw[this]
    simp
theorem join_codes (cs:List Nat):(Txt.join ("":Str) (cs.map fun c=>(⟨#[c]⟩:Str))).cps.toList=cs:=by
  unfold Txt.join Builtin.Str.glued
  cases cs with
  | nil=>rfl
  | cons c r =>
    show (((r.map fun c=>(⟨#[c]⟩:Str)).foldl (fun acc p=>acc++("":Str).cps++p.cps) #[c])).toList=c::r
    rw[ones_fold]
    rfl
noncomputable def mixN (c k:Int):Int:=(c%1000003*(k*k+48271)+c/1000003+7919*k+11)%1000003
noncomputable def mixC (c k:Int):Int:=mixN c k*mixN c k%1000003*(mixN c k+2*k+1)%1000003
noncomputable def sp_mixC:Sp:=fun vs H Q _=>∃ c k,vs=[.int c,.int k]∧0≤k∧k≤1000∧Q (.int (mixC c k)) H
noncomputable def sp_names:Sp:=fun vs H Q _=>∃ (c:Int) (n:Nat),vs=[.int c,.int n]∧1≤n∧n≤8∧∀ nms:List Str,nms.length=n→nms.Nodup→(∀ z∈nms,NameOk z)→New H (.lst (nms.map V.str)) Q
theorem letters_len:("abcdefghijklmnopqrstuvwxyz":Str).length≤sizeLine:=fitS (m:=26) (by decide +kernel) rfl
noncomputable def ones (cs:List Nat):List V:=cs.map sgn
noncomputable def constL:List Str:=["ann","bo","cyd","annx","b","dd","eve","f"]
noncomputable def nameB (z:Str):Bool:=decide (1≤z.length)&&decide (z.length≤8)&&z.cps.toList.all isL
noncomputable def metOf (mds:List (Int × Str × Int)):List (List Key × V):=mds.map fun p=>([Sum.inl p.1,Sum.inr p.2.1],V.bl true)
noncomputable def keyM (p:Int × Str × Int):Int × Str:=(p.1,p.2.1)
noncomputable def sp_right (C:Addr):Sp:=fun vs H Q _=>∃ (L dx t m:Addr) (cl:V) (tot:List (Str × Int)) (mds:List (Int × Str × Int)) (nl:Addr) (nms:List Str) (md:Addr) (most:List (Str × Int)) (tl:Addr) (told:List (Str × Int)) (cell:Int),vs=[.ref L,.ref nl,.ref md,.ref tl,.int cell]∧LedAt C H L dx t m cl tot mds∧H nl=some (.lst (nms.map V.str))∧nms.length≤8∧(∀ z∈nms,NameOk z) ∧
  H md=some (.dK (dOf most))∧H tl=some (.dK (dOf told))∧(∀ p∈mds,0<p.2.2)∧(mds.map keyM).Nodup∧mds.length≤1000 ∧
  (∀ z,getT (settle [] (mds.map (·.2))) z=getT tot z)∧(∀ z,getT tot z=getT most z)∧(∀ z v,getO told z=some v→v≤getT tot z)∧∀ H',Same H H'→Q (.bl true) H'
end Pg
namespace DL
open PySem PySem.Spec PyProof.Rows
section
variable {prog:Program} {w:World} {A:Around} {E:Value→Shared→Prop} {s:Shared}
variable {K:Type} [DecidableEq K] {knd:KeyKind prog w K}
end
end DL
namespace L2
open PySem PySem.Spec PyProof.Rows
section
variable {X:Cx}
end
section
variable {X:Cx}
noncomputable def rInsert:V→List V→Hp→VK→Prop:=fun x vs H Q=>∃ l xs i y,x = .ref l∧vs=[.int i,y]∧H l=some (.lst xs)∧0≤i∧i≤xs.length∧xs.length<sizeLine∧Q .non (upd H l (.lst (xs.take i.toNat++y::xs.drop i.toNat)))
theorem mt_insert:MtM X "list.insert" rInsert:=by
  intro pins s σ H x vs v us Q I rx rv h
  obtain⟨l,xs,i,y,rfl,rfl,hH,i0,i1,hz,q⟩:=h
  cases rx
  obtain⟨u1,u2,rfl,⟨t1,rfl⟩,ru⟩:=rv.two
  obtain⟨z,its,n,r,hl,e⟩:=I.lstM hH
  have l63:=line63
  have fits:¬ (!Builtin.List.listFitsIndex i)=true:=by
    unfold Builtin.List.listFitsIndex
    rw[decide_eq_true (show -(2 ^ 63:Int)≤i by omega),decide_eq_true (show i<2 ^ 63 by omega)]
    simp
  refine call_meets F.slot_list_insert ⟨_,e,rfl⟩ F.entry_list_insert (F.args_list_insert_3 _ _ _) (AutoListH.list_insert_list_int_val_1 l its.toArray n i t1 u2 fits (by rw[List.size_toArray];omega)) ⟨e,?_⟩
  have hm:min i.toNat its.length=i.toNat:=Nat.min_eq_left (by omega)
  refine⟨.non,_,I.lset (its':=its.take i.toNat++u2::its.drop i.toNat) hH e ?_ ((r.take _).append (.cons ru (r.drop _))) ?_,rfl,q⟩
  · show (have k:=if i<0 then (i+((its.toArray.size:Nat):Int)).toNat else min i.toNat its.toArray.size;(its.toArray.extract 0 k).push u2++its.toArray.extract k)=_
    rw[if_neg (by omega),List.size_toArray,hm]
    apply Array.toList_inj.mp
    simp
    exact List.take_of_length_le (by rw[List.length_drop];exact Nat.le_refl _)
  · rw[List.length_append,List.length_cons,List.length_take,List.length_drop]
    omega
end
end L2
namespace Pg
open PySem L2
noncomputable def Fr (S:List Addr) (H H':Hp):Prop:=∀ b o,H b=some o→¬ b∈S→H' b=some o
noncomputable def NoTup (S:List Addr) (H:Hp):Prop:=∀ b∈S,∀ c,H b≠some (.tup c)
section
variable {C:Addr} {S S':List Addr} {H H' H1:Hp}
noncomputable def ownK (pd ml:Addr) (lv:V):List (Key × V):=[(Sum.inr "paid",.ref pd),(Sum.inr "made",.ref ml),(Sum.inr "last",lv)]
structure OwnAt (H:Hp) (o pd ml:Addr) (lv:V) (tot:List (Str × Int)) (mds:List (Int × Str × Int)):Prop where
  own:H o=some (.dK (ownK pd ml lv))
  tot:H pd=some (.dK (dOf tot))
  made:∃ ys,H ml=some (.lst ys)∧TupsAt H ys (mds.map cM)
noncomputable def HeldV (H:Hp) (S:List Addr) (v:V):Prop:=∃ (t f g:Addr) (ys:List V) (cs:List (List V)),v = .ref t∧H t=some (.tup [.ref f,.ref g])∧H f=some (.lst ys)∧H g=some (.lst ys)∧TupsAt H ys cs∧(∀ c∈cs,c.all flatV=true)∧¬ f∈S∧¬ g∈S
noncomputable def HeldAt (H:Hp) (S:List Addr) (hl:Addr) (n:Nat):Prop:=∃ hs,H hl=some (.lst hs)∧hs.length≤n∧∀ v∈hs,HeldV H S v
end
structure Adr where
  L:Addr
  dx:Addr
  t:Addr
  m:Addr
  o:Addr
  pd:Addr
  ml:Addr
  hl:Addr
  tl:Addr
  nl:Addr
  L2:Addr
  dx2:Addr
  t2:Addr
  m2:Addr
  nms:List Str
noncomputable def Adr.us (A:Adr):List Addr:=[A.hl,A.tl,A.ml,A.pd,A.o,A.m2,A.t2,A.L2,A.m,A.t,A.L,A.nl]
noncomputable def Adr.S (A:Adr):List Addr:=[A.L,A.t,A.m,A.o,A.pd,A.ml,A.hl,A.tl]
structure AOk (A:Adr):Prop where
  nd:A.us.Nodup
  n6:A.nms.length=6
  nn:A.nms.Nodup
  nok:∀ z∈A.nms,NameOk z
structure Rs (C:Addr) (H:Hp) (A:Adr) (told:List (Str × Int)) (n:Nat):Prop where
  held:HeldAt H A.S A.hl n
  told:H A.tl=some (.dK (dOf told))
  names:H A.nl=some (.lst (A.nms.map V.str))
  oth:LedAt C H A.L2 A.dx2 A.t2 A.m2 .non [] []
section
variable {C:Addr} {S:List Addr} {H H':Hp} {A:Adr} {told told':List (Str × Int)} {n n':Nat}
end
noncomputable def withS (prs:List (Str × Int)) (ss:List Str):List (Str × Int):=ss.map fun z=>(z,getT prs z)
noncomputable def Seen (H:Hp) (us:List Addr):Prop:=us.Nodup∧∀ b∈us,∃ o,H b=some o
noncomputable def rSame2 (K:PySem.W.Frag) (u:Nat) (neg:Bool):R2:=fun x y H Q=>∃ n d,isSeq d=true∧Is K H n x d∧Is K H n y d∧u+n<cLine∧Q (.bl (!neg)) H
structure Run (C:Addr) (H:Hp) (A:Adr) (cl:V) (tot:List (Str × Int)) (mds:List (Int × Str × Int)) (told:List (Str × Int)) (n:Nat) (mz:Int) (i:Nat):Prop where
  led:LedAt C H A.L A.dx A.t A.m cl tot mds
  own:OwnAt H A.o A.pd A.ml cl tot mds
  rs:Rs C H A told n
  cl:cl = .non∨∃ z,cl = .int z∧z≤mz
  m0:-1≤mz
  m1:mz≤110000+40*i
  lm:mds.length≤6*i
  lt:tot.length≤6*i
  ld:told.length≤6*i
  ln:n≤6+7*i
noncomputable def sp_last (C:Addr):Sp:=fun vs H Q _=>∃ (L dx t m:Addr) (cl:V),vs=[.ref L]∧H L=some (.ins C dx (fsL t m cl))∧Q cl H
noncomputable def sp_sum:Sp:=fun vs H Q _=>∃ c l,vs=[.int c,.int l]∧0≤c∧c≤2000000∧∀ z H',Same H H'→Q (.int z) H'
noncomputable def sp_duesL (K:PySem.W.Frag):Sp:=fun vs H Q _=>∃ (a:Addr) (ns:List Int) (at':Int) (nl:Addr) (nms:List Str) (tl:Addr) (told:List (Str × Int)),vs=[.ref a,.int at',.ref nl,.ref tl]∧(∀ H',Fr [tl] H H'→SqL K H' a (ns.map V.int))∧0≤at'∧H nl=some (.lst (nms.map V.str))∧nms.length≤8∧nms.Nodup∧H tl=some (.dK (dOf told))∧told.length≤1000 ∧
  ∀ (prs told':List (Str × Int)) (r:Addr) (ys:List V) (H':Hp),(prs.map (·.1)).Nodup→(∀ p∈prs,p.1∈nms)→prs.length≤nms.length→told'.length≤told.length+nms.length→Fr [tl] H H'→H' tl=some (.dK (dOf told'))→H r=none→H' r=some (.lst ys)→TupsAt H' ys (prs.map cP)→Q (.ref r) H'
noncomputable def sp_paidL:Sp:=fun vs H Q _=>∃ (o pd ml:Addr) (lv:V) (tot:List (Str × Int)) (mds:List (Int × Str × Int)) (mo:Int) (l:Addr) (ts:List V) (prs:List (Str × Int)),vs=[.ref o,.int mo,.ref l]∧OwnAt H o pd ml lv tot mds∧o≠pd ∧
  H l=some (.lst ts)∧l≠ml∧TupsAt H ts (prs.map cP)∧prs.length<64∧(prs.map (·.1)).Nodup∧mds.length≤1000∧tot.length≤1000 ∧
  ∀ (qs:List (Str × Int)) (r:Addr) (ys:List V) (H':Hp),qs.Perm prs→qs.Pairwise (fun a b=>¬ b.1.cps.toList<a.1.cps.toList)→OwnAt H' o pd ml (.int mo) (settle tot (duesOf tot qs)) (mds++(duesOf tot qs).map fun p=>(mo,p)) →
    Fr [o,pd,ml] H H'→H r=none→H' r=some (.lst ys)→TupsAt H' ys ((duesOf tot qs).map cP)→Q (.ref r) H'
noncomputable def sp_are (K:PySem.W.Frag):Sp:=fun vs H Q _=>∃ (f g:Addr) (ys zs:List V) (cs:List (List V)),vs=[.ref f,.ref g]∧H f=some (.lst ys)∧TupsAt H ys cs∧H g=some (.lst zs)∧TupsAt H zs cs∧cs.length≤2000∧(∀ c∈cs,c.all flatV=true)∧(∀ c∈cs,∃ i z,c=i++[V.int z])∧∀ H',Same H H'→Q (.bl true) H'
noncomputable def sp_answer (C:Addr):Sp:=fun vs H Q _=>∃ (A:Adr) (cl:V) (tot:List (Str × Int)) (mds:List (Int × Str × Int)) (told:List (Str × Int)) (n:Nat) (qn c:Int),vs=[.ref A.L,.ref A.o,.ref A.hl,.ref A.nl,.int qn,.int c]∧AOk A∧LedAt C H A.L A.dx A.t A.m cl tot mds∧OwnAt H A.o A.pd A.ml cl tot mds∧Rs C H A told n ∧
  (cl = .non∨∃ z,cl = .int z)∧0≤c∧c≤1000000∧mds.length≤1000∧n≤1000∧∀ H',Fr [A.hl] H H'→Rs C H' A told (n+1)→Q (.bl true) H'
noncomputable def sp_looked (C:Addr):Sp:=fun vs H Q _=>∃ (A:Adr) (cl:V) (tot:List (Str × Int)) (mds:List (Int × Str × Int)) (told:List (Str × Int)) (n:Nat) (c:Int),vs=[.ref A.L,.ref A.o,.ref A.hl,.ref A.nl,.int c]∧AOk A∧LedAt C H A.L A.dx A.t A.m cl tot mds∧OwnAt H A.o A.pd A.ml cl tot mds∧Rs C H A told n ∧
  (cl = .non∨∃ z,cl = .int z)∧0≤c∧c<1000003∧mds.length≤1000∧n≤990∧∀ H',Fr [A.hl] H H'→Rs C H' A told (n+6)→Q (.bl true) H'
end Pg
namespace L2
open PySem PySem.Spec PyProof.Rows
section
variable {X:Cx} {pins:List (Addr × Obj)} {σ:St} {H:Hp} {s:Shared}
theorem Inv.turnedS {t':Nat} {h':Heap} {fp:List Addr} (I:Inv X pins σ H s) (k:∀ b o,¬ b∈fp→s.heap.get? b=some o→h'.get? b=some o) (hf:∀ b∈fp,FpOk X pins H b):Inv X pins σ H { s with heap:=h',toks:=t' }:=by
  have nit:∀ b u,H b=some u→¬ b∈fp:=fun b u e z=>by rw[(hf b z).1] at e;cases e
  refine I.step (g':=s.gens) (d':=s.drawn) (ch:=fp) (fun b hb=>?_) (fun b o _ _ hc e _=>k b o hc e) (fun b o _ _ hc e _=>⟨o.slots,k b o hc e⟩) (fun _ _ _ _ n=>n)
    (fun b o hc e=>⟨o,k b o hc e⟩) (fun _ _ e=>e) (fun _ _ _ e=>e) (fun b ps e=>⟨#[],by rw[e];simp⟩) (fun m hm=>?_) (fun b u e=>?_) I.bare
  · obtain⟨_,h2,_,h4,h5,h6⟩:=hf b hb
    exact⟨h4,h2,h5,h6⟩
  · obtain⟨o,es,ep,ho,r⟩:=hm
    exact⟨o,es,ep,k _ o (fun z=>(hf _ z).2.1 rfl) ho,r⟩
  · refine (I.hok b u e).stay (fun c v hc q=>k c v ?_ q) (fun _ q=>q) fun _ _ q=>q
    rcases hc with z | z
    · rw[z];exact nit b u e
    · exact nit c _ z
theorem Inv.pair {h':Heap} {t':Nat} {v w:V} {x y:Value} (I:Inv X pins σ H s) (J:Inv X pins σ H { s with heap:=h',toks:=t' }) (hv:RelV v x) (hw:RelV w y) (hp:IsPair h' s.heap.objs.size x y) :
    Inv X pins σ (upd H s.heap.objs.size (.tup [v,w])) { s with heap:=h',toks:=t' } :=
  J.adoptO (o:=.tup [v,w]) (I.fpOk (Nat.le_refl _) (I.hok.fresh (Nat.le_refl _))) ⟨lenOk rfl,[x,y],.cons hv (.cons hw .nil),_,hp,rfl,_,rfl⟩
end
noncomputable def Itz (K:PySem.W.Frag) (a b:Addr):It :=
  ⟨fun i H=>∃ xs ys x y,SqL K H a xs∧SqL K H b ys∧xs[i]? = some x∧ys[i]? = some y,
    fun i H z H'=>∃ p x y,z = .ref p∧H p=none∧H'=upd H p (.tup [x,y])∧∀ xs ys,SqL K H a xs→SqL K H b ys→xs[i]? = some x∧ys[i]? = some y,
    fun i H=>∃ xs ys,SqL K H a xs∧SqL K H b ys∧(xs.length≤i∨ys.length≤i)⟩
noncomputable def Ite (K:PySem.W.Frag) (a:Addr):It :=
  ⟨fun i H=>∃ xs x,SqL K H a xs∧xs[i]? = some x,
    fun i H z H'=>∃ p x,z = .ref p∧H p=none∧H'=upd H p (.tup [.int (i:Nat),x])∧∀ xs,SqL K H a xs→xs[i]? = some x,
    fun i H=>∃ xs,SqL K H a xs∧xs.length≤i⟩
theorem turn_zip {P:Program} {w:World} {K:PySem.W.Frag} {es:List Expr} {n:Nat} {pos:Pos} {z TI TO i1 i2 a b:Addr} (D:ZipApart z TI TO i1 i2 a b) :
    Turn P w K (.Tuple es n pos) (Itz K a b) [z,TI,TO,i1,i2] z (fun i h=>IsZip h z TI TO .none∧IsPair h TI (.ref i1) (.ref i2)∧(∃ u v,IsPair h TO u v)∧h.IsListIter i1 a i∧h.IsListIter i2 b i) where
  mem:=by simp
  obj:=fun i h st c hc=>by
    obtain⟨h1,h2,⟨u,v,h3⟩,h4,h5⟩:=st
    simp only[List.mem_cons,List.not_mem_nil,or_false] at hc
    rcases hc with rfl | rfl | rfl | rfl | rfl
    · exact⟨_,h1,fun v q=>nomatch q⟩
    · exact⟨_,h2,fun v q=>nomatch q⟩
    · exact⟨_,h3,fun v q=>nomatch q⟩
    · obtain⟨o,e,c,d⟩:=h4
      exact⟨o,e,fun v q=>by rw[d] at q;cases q⟩
    · obtain⟨o,e,c,d⟩:=h5
      exact⟨o,e,fun v q=>by rw[d] at q;cases q⟩
  keep:=fun i h h' st k=>by
    obtain⟨h1,h2,⟨u,v,h3⟩,h4,h5⟩:=st
    exact⟨k z (by simp) _ h1,k TI (by simp) _ h2,⟨u,v,k TO (by simp) _ h3⟩,h4.at fun o e=>k i1 (by simp) o e,h5.at fun o e=>k i2 (by simp) o e⟩
  item:=by
    intro X hP hw hK hc i pins s σ H E I hf st hg
    subst hP hw hK
    obtain⟨h1,h2,⟨u,v,h3⟩,h4,h5⟩:=st
    obtain⟨xs,ys,x,y,q1,q2,hx,hy⟩:=hg
    obtain⟨its,rv,p,hz⟩:=I.list q1
    obtain⟨jts,rw',p',hz'⟩:=I.list q2
    obtain⟨x',hx',rx⟩:=rv.get hx
    obtain⟨y',hy',ry⟩:=rw'.get hy
    have lt:∀ c∈[z,TI,TO,i1,i2],c<s.heap.objs.size:=fun c hc=>by
      obtain⟨o4,e4,_⟩:=h4
      obtain⟨o5,e5,_⟩:=h5
      simp only[List.mem_cons,List.not_mem_nil,or_false] at hc
      rcases hc with rfl | rfl | rfl | rfl | rfl
      · exact Heap.lt_size h1
      · exact Heap.lt_size h2
      · exact Heap.lt_size h3
      · exact Heap.lt_size e4
      · exact Heap.lt_size e5
    refine wpAny_pyNext_zip_item D h1 h2 h3 h4 h5 p.isList p'.isList (x:=x') (y:=y') (by simpa using hx') (by simpa using hy') fun h' k1 k2 k3 k4 k5 k6 k7=>?_
    refine⟨_,rfl,wpAny_letOwnedTupleGo_zip k1 fun h2' m1 sb=>?_⟩
    have sb:Heap.SameBut z h' h2':=sb
    have kk:∀ c o,¬ c∈[z,TI,TO,i1,i2]→s.heap.get? c=some o→h2'.get? c=some o:=fun c o hc e=>by
      simp only[List.mem_cons,List.not_mem_nil,or_false,not_or] at hc
      exact sb.extBut _ _ hc.1 (k7 c o hc.1 hc.2.2.1 hc.2.2.2.1 hc.2.2.2.2 e)
    have nz:s.heap.objs.size≠z:=Nat.ne_of_gt (lt z (by simp))
    have J:Inv X pins σ H { s with heap:=h2',toks:=s.toks }:=I.turnedS kk hf
    refine⟨.ref s.heap.objs.size,_,I.pair J rx ry (sb.extBut _ _ nz k5),rfl,⟨_,x,y,rfl,I.hok.fresh (Nat.le_refl _),rfl,fun xs' ys' r1 r2=>?_⟩,⟨m1,?_,⟨_,_,sb.extBut _ _ D.TOz k2⟩,k3.extBut sb.extBut D.i1z,k4.extBut sb.extBut D.i2z⟩,fun c hc=>?_⟩
    · rw[I.list_inj r1 q1,I.list_inj r2 q2]
      exact⟨hx,hy⟩
    · exact sb.extBut _ _ D.TIz (k7 _ _ D.TIz D.TITO D.TIi1 D.TIi2 h2)
    · rw[upd_ne (Nat.ne_of_lt (lt c hc))]
      exact (hf c hc).1
  done:=by
    intro X hP hw hK hc i pins s σ H E I hf st hg
    subst hP hw hK
    obtain⟨h1,h2,⟨u,v,h3⟩,h4,h5⟩:=st
    obtain⟨xs,ys,q1,q2,hl⟩:=hg
    obtain⟨its,rv,p,hz⟩:=I.list q1
    obtain⟨jts,rw',p',hz'⟩:=I.list q2
    have l1:=rv.length
    have l2:=rw'.length
    refine wpAny_pyNext_zip_end (I.ok.hd hc) D h1 h2 h3 h4 h5 p.isList p'.isList ?_ fun h' k=>⟨rfl,I.turnedS (t':=s.toks) (fun c o hc e=>?_) hf⟩
    · rcases hl with hl | hl
      · exact .inl (by simp;omega)
      · exact .inr (by simp;omega)
    · simp only[List.mem_cons,List.not_mem_nil,or_false,not_or] at hc
      exact k c o hc.1 hc.2.2.1 hc.2.2.2.1 hc.2.2.2.2 e
  self:=fun _ _ _ _ _ st h=>wpAny_pyIter_zip st.1 h
noncomputable def iZip (K:PySem.W.Frag) (ta:TA):TI:=fun σ H R=>ta σ H fun vs H1=>∃ a b,vs=[.ref a,.ref b]∧(∃ xs,SqL K H1 a xs)∧(∃ ys,SqL K H1 b ys)∧R (Itz K a b) H1
noncomputable def iEnum (K:PySem.W.Frag) (ta:TA):TI:=fun σ H R=>ta σ H fun vs H1=>∃ a,vs=[.ref a]∧(∃ xs,SqL K H1 a xs)∧R (Ite K a) H1
section
variable {X:Cx} {es:List Expr} {n:Nat} {tpos:Pos}
theorem pi_zip {a b:Expr} {ta:TA} {p pos:Pos} (hg:Gl X "zip") (hm:X.mg "zip" = none) (ha:PA X [a,b] ta) (hs:starEach [a,b] X.env=[(false,eval a X.env),(false,eval b X.env)]:=by rfl) (hs2:starEach [b] X.env=[(false,eval b X.env)]:=by rfl) :
    PI X (.Tuple es n tpos) (.Call (.Name "zip" p) [a,b] [] pos) (iZip X.K ta):=by
  intro pins s σ H R I h
  refine Call_ (ld_blt I hg hm boot_zip (PyProof.Rows.callWith_type1 (thn (ha pos pins s σ H _ I h) fun us s1 ⟨vs,H1,I1,r1,q1⟩=>?_) (by rw[hs,hs2]) (by rw[hs2];rfl)))
  obtain⟨l1,l2,e,⟨xs,h1⟩,⟨ys,h2⟩,q⟩:=q1
  subst e
  cases r1 with
  | cons r rr =>
    cases rr with
    | cons r' rr =>
      cases rr
      cases r
      cases r'
      obtain⟨its,rv,p,hz⟩:=I1.list h1
      obtain⟨jts,rw',p',hz'⟩:=I1.list h2
      have a1:l1<s1.heap.objs.size:=by obtain⟨_,e,_⟩:=p.isList;exact Heap.lt_size e
      have a2:l2<s1.heap.objs.size:=by obtain⟨_,e,_⟩:=p'.isList;exact Heap.lt_size e
      refine call_zip_2 p.isList p'.isList fun h' k1 k2 k3 k4 k5 k6 k7=>?_
      refine wpAny_pyIter_zip k1 ?_
      refine⟨_,_,_,_,H1,rfl,I1.kept (t':=s1.toks) k7,turn_zip (zipApart_new a1 a2),⟨k1,k2,⟨_,_,k3⟩,k4,k5⟩,fun c hc=>?_,q⟩
      have hc:s1.heap.objs.size≤c:=by
        simp only[List.mem_cons,List.not_mem_nil,or_false] at hc
        rcases hc with rfl | rfl | rfl | rfl | rfl
        · exact Nat.le_add_right _ _
        · exact Nat.le_add_right _ _
        · exact Nat.le_add_right _ _
        · exact Nat.le_refl _
        · exact Nat.le_add_right _ _
      exact I1.fpOk hc (I1.hok.fresh hc)
end
open PySem.W
noncomputable def rSortI:List V→Hp→VK→Prop:=fun xs H Q=>∃ (v d:Addr) (tot:List (Str × Int)),xs=[.ref v]∧H v=some (itemsO v d)∧H d=some (.dK (dOf tot))∧tot.length<64∧(tot.map (·.1)).Nodup ∧
  ∀ (qs:List (Str × Int)) (l:Addr) (ys:List V) (H':Hp),qs.Perm tot→qs.Pairwise (fun a b=>¬ b.1.cps.toList<a.1.cps.toList)→Same H H'→H l=none→H' l=some (.lst ys)→TupsAt H' ys (qs.map cP)→Q (.ref l) H'
end L2
namespace DT
open PySem PySem.Spec PyProof.Rows
section
variable {prog:Program} {w:World} {A:Around} {E:Value→Shared→Prop} {s:Shared}
variable {K:Type} [DecidableEq K] {knd:KeyKind prog w K}
end
end DT
namespace L2
open PySem PySem.Spec PyProof.Rows
noncomputable def tupO (its:Array Value) (n:Nat):Obj:={ cls:=.type "tuple",data:=.seq its n }
section
variable {X:Cx}
end
noncomputable def tOrN (ta tb:TE):TE:=fun σ H Q=>ta σ H fun x H1=>(x = .non∧tb σ H1 Q)∨∃ i,x = .int i∧(i≠0→Q (.int i) H1)∧(i=0→tb σ H1 Q)
section
variable {X:Cx} {a b:Expr} {rest:List Expr} {ta tb:TE} {pos:Pos}
end
noncomputable def rNeNil (K:PySem.W.Frag):R2:=fun x y H Q=>∃ a b xs,x = .ref a∧y = .ref b∧SqL K H a xs∧SqL K H b []∧(xs=[]→Q (.bl false) H)∧(xs≠[]→Q (.bl true) H)
theorem op_neNil {X:Cx} (hu:X.A.units<cLine):OpR X (compareOp .NotEq) (rNeNil X.K):=by
  intro pins s σ H x y v u Q I rx ry h
  obtain⟨a,b,xs,rfl,rfl,h1,h2,q1,q2⟩:=h
  cases rx
  cases ry
  obtain⟨us,r1,p1,_⟩:=I.list h1
  obtain⟨ws,r2,p2,_⟩:=I.list h2
  have l1:=r1.length
  have l2:=r2.length
  rw[List.length_nil] at l2
  by_cases hl:xs=[]
  · subst hl
    rw[List.length_nil] at l1
    refine SeqAt.RcNeAt.lists p1.isList p2.isList (by simp;omega) hu (e:=fun _=>true) (fun j h1 h2=>?_) _ _ _ _ ⟨.bl false,H,I,?_,q1 rfl⟩
    · simp at h1
      omega
    · have:us=[]:=List.length_eq_zero_iff.mp l1.symm
      subst this
      rfl
  · have:0<xs.length:=List.length_pos_iff.mpr hl
    exact SeqAt.RcNeAt.lists_lengths p1.isList p2.isList (by simp;omega) hu _ _ _ _ ⟨.bl true,H,I,rfl,q2 hl⟩
open Builtin Builtin.Str
section
variable {prog:Program} {w:World} {A:Around} {E:Value→Shared→Prop} {s:Shared} {J l:Addr} {items:Array Value}
noncomputable def RevAt (items:Array Value) (i:Nat) (v:Value):Prop:=items[items.size - 1 - i]? = some v
end
noncomputable def tJoinRev (K:PySem.W.Frag) (sep:Str) (ta:TA):TE:=fun σ H Q=>ta σ H fun vs H1=>∃ (l:Addr) (zs:List Str),vs=[.ref l]∧SqL K H1 l (zs.map V.str)∧zs.length≤100000∧JoinOk sep zs.reverse=true∧Q (.str (Txt.join sep zs.reverse)) H1
section
variable {X:Cx} {a:Expr} {ta:TA} {p1 p2 p3 apos cpos:Pos} {sep:Str} {kn:Nat}
end
end L2
namespace L2
open PySem PySem.Spec PyProof.Rows
section
variable {X:Cx}
end
theorem noIf {σ:St} {H:Hp} {A B:Hp→Prop} (h:A H):tNoIf σ H fun b H2=>if b=true then A H2 else B H2:=by
  show if true=true then A H else B H
  exact iteT h
structure ItemsAt {α:Type} (H:Hp) (ys:List V) (xs:List α) (P:Hp→V→α→Prop):Prop where
  len:ys.length=xs.length
  at_:∀ (i:Nat) (y:V),ys[i]? = some y→∃ x,xs[i]? = some x∧∀ H',Same H H'→P H' y x
section
variable {J:It} {D:Addr} {te:TE} {fin:List V→Hp→Prop} {σ:St} {H:Hp} {ys:List V} {α:Type} {xs:List α} {P:Hp→V→α→Prop}
theorem comp_at (W:Walk J H ys) (T:ItemsAt H ys xs P) (hD:H D=none) (hz:xs.length<sizeLine) (φ:α→V)
    (he:∀ x∈xs,∀ v H' R,Same H H'→P H' v x→(∀ H'',Same H' H''→R (φ x) H'')→te (σ.set 0 (some v)) H' R)
    (hf:∀ H',Same H H'→H' D=some (.lst (xs.map φ))→fin (xs.map φ) H'):tTurnsI J D (gName 0) tNoIf te fin σ (upd H D (.lst [])):=by
  refine comp_walk W hD (fun i zs H'=>zs=(xs.take i).map φ) (fun σ'=>∀ x,σ'.set 0 (some x) = σ.set 0 (some x)) (fun _=>rfl) rfl ?_ ?_
  · rintro i y zs σ' H' hy hσ s hd hl rfl
    obtain⟨x,hx,hP⟩:=T.at_ i y hy
    have tk:xs.take (i+1)=xs.take i++[x]:=by rw[List.take_add_one,hx];rfl
    have hi:i<xs.length:=(List.getElem?_eq_some_iff.mp hx).1
    have hσ2:∀ z,(σ'.set 0 (some y)).set 0 (some z) = σ.set 0 (some z):=fun z=>by rw[List.set_set];exact hσ z
    unfold cTurn gName
    dsimp only
    refine noIf ?_
    rw[hσ y] at hσ2 ⊢
    refine he x (List.mem_of_getElem? hx) y _ _ s (hP _ s) fun H3 s3=>⟨s3 _ _ hd,by omega,hσ2,fun b o z=>?_,upd_same,?_,?_⟩
    · rw[upd_ne (ne_of_none z hD)]
      exact s3 _ _ (s _ _ z)
    · rw[List.length_append,List.length_singleton];omega
    · rw[tk,List.map_append];rfl
  · rintro zs H' s hd hl rfl
    rw[T.len,List.take_length] at hd ⊢
    exact hf H' s hd
theorem comp_atF {tt:TT} (W:Walk J H ys) (T:ItemsAt H ys xs P) (hD:H D=none) (hz:xs.length<sizeLine) (p:α→Bool) (φ:α→V)
    (ht:∀ x∈xs,∀ v H' R,Same H H'→P H' v x→(∀ H'',Same H' H''→R (p x) H'')→tt (σ.set 0 (some v)) H' R)
    (he:∀ x∈xs,∀ v H' R,Same H H'→P H' v x→(∀ H'',Same H' H''→R (φ x) H'')→te (σ.set 0 (some v)) H' R)
    (hf:∀ H',Same H H'→H' D=some (.lst ((xs.filter p).map φ))→fin ((xs.filter p).map φ) H'):tTurnsI J D (gName 0) tt te fin σ (upd H D (.lst [])):=by
  refine comp_walk W hD (fun i zs H'=>zs=((xs.take i).filter p).map φ) (fun σ'=>∀ x,σ'.set 0 (some x) = σ.set 0 (some x)) (fun _=>rfl) rfl ?_ ?_
  · rintro i y zs σ' H' hy hσ s hd hl rfl
    obtain⟨x,hx,hP⟩:=T.at_ i y hy
    have tk:xs.take (i+1)=xs.take i++[x]:=by rw[List.take_add_one,hx];rfl
    have hi:i<xs.length:=(List.getElem?_eq_some_iff.mp hx).1
    have hm:=List.mem_of_getElem? hx
    have hσ2:∀ z,(σ'.set 0 (some y)).set 0 (some z) = σ.set 0 (some z):=fun z=>by rw[List.set_set];exact hσ z
    unfold cTurn gName
    dsimp only
    rw[hσ y] at hσ2 ⊢
    refine ht x hm y _ _ s (hP _ s) fun H2 s2=>?_
    cases q:p x with
    | true =>
      refine iteT (he x hm y _ _ (s.trans s2) (hP _ (s.trans s2)) fun H3 s3=>⟨s3 _ _ (s2 _ _ hd),by omega,hσ2,fun b o z=>?_,upd_same,?_,?_⟩)
      · rw[upd_ne (ne_of_none z hD)]
        exact s3 _ _ (s2 _ _ (s _ _ z))
      · rw[List.length_append,List.length_singleton];omega
      · rw[tk,List.filter_append,List.map_append];simp[q]
    | false =>
      refine iteF ⟨hσ2,s.trans s2,s2 _ _ hd,by omega,?_⟩
      rw[tk,List.filter_append,List.map_append];simp[q]
  · rintro zs H' s hd hl rfl
    rw[T.len,List.take_length] at hd ⊢
    exact hf H' s hd
theorem comp_rel (W:Walk J H ys) (hl:ys.length=xs.length) (hD:H D=none) (hz:xs.length<sizeLine) (S:V→α→Prop)
    (he:∀ (i:Nat) x v,xs[i]? = some x→ys[i]? = some v→∀ H' R,Same H H'→(∀ u H'',S u x→Same H' H''→R u H'')→te (σ.set 0 (some v)) H' R)
    (hf:∀ zs H',Same H H'→zs.length=xs.length→(∀ (i:Nat) u,zs[i]? = some u→∃ x,xs[i]? = some x∧S u x)→H' D=some (.lst zs)→fin zs H'):tTurnsI J D (gName 0) tNoIf te fin σ (upd H D (.lst [])):=by
  refine comp_walk W hD (fun i zs H'=>zs.length=i∧∀ (j:Nat) u,zs[j]? = some u→∃ x,xs[j]? = some x∧S u x) (fun σ'=>∀ x,σ'.set 0 (some x) = σ.set 0 (some x)) (fun _=>rfl) ⟨rfl,fun j u e=>by cases e⟩ ?_ ?_
  · rintro i y zs σ' H' hy hσ s hd hl' ⟨g1,g2⟩
    have hi:i<xs.length:=by rw[← hl];exact (List.getElem?_eq_some_iff.mp hy).1
    have hx:=List.getElem?_eq_getElem hi
    have hσ2:∀ z,(σ'.set 0 (some y)).set 0 (some z) = σ.set 0 (some z):=fun z=>by rw[List.set_set];exact hσ z
    unfold cTurn gName
    dsimp only
    refine noIf ?_
    rw[hσ y] at hσ2 ⊢
    refine he i _ y hx hy _ _ s fun u H3 hu s3=>⟨s3 _ _ hd,by omega,hσ2,fun b o z=>?_,upd_same,?_,?_,fun j w e=>?_⟩
    · rw[upd_ne (ne_of_none z hD)]
      exact s3 _ _ (s _ _ z)
    · rw[List.length_append,List.length_singleton];omega
    · rw[List.length_append,List.length_singleton,g1]
    · by_cases hj:j<zs.length
      · rw[List.getElem?_append_left hj] at e
        exact g2 j w e
      · rw[List.getElem?_append_right (Nat.le_of_not_lt hj)] at e
        cases q:j - zs.length with
        | zero =>
          rw[q] at e
          cases e
          have:j=i:=by omega
          subst this
          exact⟨_,hx,hu⟩
        | succ n =>
          rw[q] at e
          cases e
  · rintro zs H' s hd _ ⟨g1,g2⟩
    exact hf zs H' s (g1.trans hl) g2 hd
theorem comp_two {K:PySem.W.Frag} {prs:List (Str × Int)} (W:Walk J H ys) (T:TupsAt H ys (prs.map cP)) (hD:H D=none) (hz:prs.length<sizeLine) (φ:Str × Int→V)
    (he:∀ q∈prs,∀ H' R,Same H H'→(∀ H'',Same H' H''→R (φ q) H'')→te ((σ.set 0 (some (.str q.1))).set 1 (some (.int q.2))) H' R)
    (hf:∀ H',Same H H'→H' D=some (.lst (prs.map φ))→fin (prs.map φ) H'):tTurnsI J D (gTup K 2 (gCons (gName 0) (gCons (gName 1) gNil))) tNoIf te fin σ (upd H D (.lst [])):=by
  have tl:ys.length=prs.length:=by rw[T.len,List.length_map]
  refine comp_walk W hD (fun i zs H'=>zs=(prs.take i).map φ) (fun σ'=>∀ x y,(σ'.set 0 x).set 1 y=(σ.set 0 x).set 1 y) (fun _ _=>rfl) rfl ?_ ?_
  · rintro i y zs σ' H' hy hσ s hd hl rfl
    obtain⟨b,c,rfl,h1,h2⟩:=T.of_at hy
    rw[List.getElem?_map] at h1
    obtain⟨q,hq,rfl⟩:=Option.map_eq_some_iff.mp h1
    have tk:prs.take (i+1)=prs.take i++[q]:=by rw[List.take_add_one,hq];rfl
    have hi:i<prs.length:=(List.getElem?_eq_some_iff.mp hq).1
    refine⟨b,_,rfl,SqT.of (s _ _ h2),rfl,_,_,rfl,_,_,rfl,rfl,noIf ?_⟩
    rw[hσ]
    have hσ2:∀ x y,((((σ.set 0 (some (.str q.1))).set 1 (some (.int q.2))).set 0 x).set 1 y)=(σ.set 0 x).set 1 y:=fun x y=>by
      rcases σ with _ | ⟨_,_ | ⟨_,_⟩⟩ <;> rfl
    refine he q (List.mem_of_getElem? hq) _ _ s fun H3 s3=>⟨s3 _ _ hd,by omega,hσ2,fun b o z=>?_,upd_same,?_,?_⟩
    · rw[upd_ne (ne_of_none z hD)]
      exact s3 _ _ (s _ _ z)
    · rw[List.length_append,List.length_singleton];omega
    · rw[tk,List.map_append];rfl
  · rintro zs H' s hd hl rfl
    rw[tl,List.take_length] at hd ⊢
    exact hf H' s hd
end
noncomputable def ownH (h:Heap):Heap:=(h.push { cls:=.type "dict",data:=.dict #[] }).push { cls:=.type "cell",data:=.cell none }
structure CompOkN (X:Cx) (Nc:List Str) (scope:Scope) (cl:List (Str × Addr)) (src:List (Option Nat)) (x0:Str):Prop where
  clos:closureFor scope X.env=pure cl
  kind:scope.kind = .function
  lay:∀ n acc,cellsFrom n scope.names acc=(x0,n)::acc
  push:∀ h,pushCells h scope.names=h.push { cls:=.type "cell",data:=.cell none }
  names:∀ y∈scope.names,y.2 = .local→scope.names.lookup y.1=some .local
  sub:∀ x c,cl.lookup x=some c→X.env.cells.lookup x=some c
  has:∀ c0 x,((relabel scope X.env).names.lookup x=some .cell∨(relabel scope X.env).names.lookup x=some .free)→∃ c,((x0,c0)::cl).lookup x=some c
  frm:∀ (i j:Nat),src[i]? = some (some j)→∃ x,Nc[i]? = some x∧X.N[j]? = some x∧X.env.scope.names.lookup x=some .cell∧(relabel scope X.env).names.lookup x=some .cell∧x≠x0
  len:src.length=Nc.length
noncomputable def cxCompN (X:Cx) (Nc:List Str) (scope:Scope) (x0:Str) (cl:List (Str × Addr)) (C:Addr) (fp:List Addr) (s:Shared) (H:Hp):Cx :=
  { X with N:=Nc,s₀:=s,H₀:=H,env:=compEnvC scope ((x0,C+1)::cl) C X.env,outer:=X.stack,ex:=fp,fn:=fun x=>decide (x=x0),pn:=[],xe:=fun _ _=>False }
section
variable {X:Cx} {elt iter tgt:Expr} {ifs:List Expr} {scope:Scope} {cl:List (Str × Addr)} {Nc:List Str} {src:List (Option Nat)} {g:TG} {tt:TT} {te:TE} {x0:Str}
end
end L2
namespace Pg
open PySem L2
structure LstsAt (H:Hp) (ys:List V) (tab:List (List Str)):Prop where
  len:ys.length=tab.length
  at_:∀ (i:Nat) (r:List Str),tab[i]? = some r→∃ a,ys[i]? = some (V.ref a)∧H a=some (.lst (r.map V.str))
section
variable {H H':Hp} {ys:List V} {tab:List (List Str)}
end
structure TabOk (tab:List (List Str)) (n:Nat):Prop where
  wide:∀ r∈tab,r.length=n
  text:∀ r∈tab,∀ z∈r,z.length≤30
  n1:1≤n
  n2:n≤14
  t1:1≤tab.length
  t2:tab.length≤17
noncomputable def cellL (r:List Str) (k:Nat):Nat:=(r.getD k Str.empty).length
noncomputable def maxL (l:List Nat):Nat:=l.foldr max 0
noncomputable def colW (tab:List (List Str)) (k:Nat):Nat:=maxL (tab.map fun r=>cellL r k)
noncomputable def wdOf (tab:List (List Str)) (n:Nat):List Nat:=(List.range n).map (colW tab)
noncomputable def cellsS (r:List Str) (ws:List Nat):List Str:=(List.zipWith (fun z (w:Nat)=>Txt.rjust z w) r ws).set 0 (Txt.ljust (r.getD 0 Str.empty) ((ws.getD 0 0:Nat):Int))
noncomputable def rowS (r:List Str) (ws:List Nat):Str:=Txt.rstripChars (Txt.join "  " (cellsS r ws)) " "
noncomputable def rowsS (tab:List (List Str)) (n:Nat):List Str:=tab.map fun r=>rowS r (wdOf tab n)
section
variable {tab:List (List Str)} {n:Nat}
end
theorem foldl_lens (sep:Str) (m:Nat):∀ (zs:List Str) (acc:Nat),(∀ z∈zs,z.length≤m)→zs.foldl (fun a z=>a+z.length+sep.length) acc≤acc+zs.length*(m+sep.length):=by
  intro zs
  induction zs with
  | nil=>intro acc _;simp
  | cons z r ih =>
    intro acc h
    rw[List.foldl_cons]
    have h1:=ih (acc+z.length+sep.length) fun z hz=>h z (List.mem_cons_of_mem _ hz)
    have h2:=h z List.mem_cons_self
    rw[List.length_cons,Nat.succ_mul]
    omega
theorem join_len {sep:Str} {m:Nat} (hs:sep.length≤2):∀ (k:Nat) (zs:List Str),zs.length=k→(∀ z∈zs,z.length≤m)→(Txt.join sep zs).length≤k*(m+2):=by
  intro k
  induction k with
  | zero =>
    intro zs e _
    rw[List.length_eq_zero_iff.mp e]
    exact Nat.zero_le _
  | succ k ih =>
    intro zs e h
    rcases List.eq_nil_or_concat zs with rfl | ⟨r,z,rfl⟩
    · cases e
    · rw[List.concat_eq_append] at e h ⊢
      have er:r.length=k:=by rw[List.length_append,List.length_singleton] at e;omega
      have hz:=h z (List.mem_append_right _ List.mem_cons_self)
      have hr:=ih r er fun z hz=>h z (List.mem_append_left _ hz)
      rw[Nat.succ_mul]
      by_cases c:r=[]
      · subst c
        rw[List.nil_append,join_one]
        omega
      · rw[join_snoc _ _ c,app_len,app_len]
        omega
theorem join_small {sep:Str} {zs:List Str} {m k:Nat} (h:∀ z∈zs,z.length≤m) (hk:zs.length≤k) (hs:sep.length≤2) (hz:Nat.ble (k*(m+2)) 1000000=true):JoinOk sep zs=true∧(Txt.join sep zs).length≤k*(m+2):=by
  have h1:=foldl_lens sep m zs 0 h
  have h2:zs.length*(m+sep.length)≤k*(m+2):=Nat.mul_le_mul hk (Nat.add_le_add_left hs _)
  have h3:=Nat.le_of_ble_eq_true hz
  constructor
  · unfold JoinOk Builtin.Str.tooLong
    rw[List.foldl_toArray,Bool.not_eq_true',decide_eq_false_iff_not,sizeLine_eq]
    omega
  · exact Nat.le_trans (join_len hs _ zs rfl h) (Nat.mul_le_mul_right _ hk)
noncomputable def sp_needA:Sp:=fun vs H Q _=>∃ i,vs=[.int i]∧Q .non H
noncomputable def sp_year0:Sp:=fun vs H Q _=>∃ z,vs=[.int z]∧0≤z∧z≤119999∧Q (.int (z/12)) H
noncomputable def sp_place0:Sp:=fun vs H Q _=>∃ z,vs=[.int z]∧0≤z∧z≤119999∧Q (.int (z%12+1)) H
noncomputable def sp_month0:Sp:=fun vs H Q _=>∃ z,vs=[.int z]∧0≤z∧z≤119999∧Q (.str (monthS z)) H
noncomputable def sp_figures:Sp:=fun vs H Q _=>∃ n,vs=[.int n]∧0≤n∧n<10 ^ 18∧∀ H',Same H H'→Q (.str (numS n)) H'
noncomputable def sp_told:Sp:=fun vs H Q _=>∃ a,vs=[.int a]∧absI a<10 ^ 20∧∀ H',Same H H'→Q (.str (toldS a)) H'
noncomputable def intsV (ws:List Nat):List V:=ws.map fun w=>V.int (w:Nat)
noncomputable def sp_widths:Sp:=fun vs H Q _=>∃ t ys tab n,vs=[.ref t]∧H t=some (.lst ys)∧LstsAt H ys tab∧TabOk tab n∧∀ r H',Same H H'→H r=none→H' r=some (.lst (intsV (wdOf tab n)))→Q (.ref r) H'
noncomputable def sp_row:Sp:=fun vs H Q _=>∃ a b r ws n,vs=[.ref a,.ref b]∧H a=some (.lst (r.map V.str))∧H b=some (.lst (intsV ws))∧r.length=n∧ws.length=n∧1≤n∧n≤14∧(∀ z∈r,z.length≤30)∧(∀ w∈ws,w≤30)∧∀ H',Same H H'→Q (.str (rowS r ws)) H'
noncomputable def sp_rows:Sp:=fun vs H Q _=>∃ t ys tab n,vs=[.ref t]∧H t=some (.lst ys)∧LstsAt H ys tab∧TabOk tab n∧∀ r H',Same H H'→H r=none→H' r=some (.lst ((rowsS tab n).map V.str))→Q (.ref r) H'
theorem rng_items {H:Hp} (n:Nat):ItemsAt H ((List.range n).map fun k=>V.int (0+(k:Nat))) (List.range n) (fun _ v k=>v = .int (k:Nat)) :=
  ⟨List.length_map _,fun i y h=>by
    rw[List.getElem?_map] at h
    obtain⟨z,h1,rfl⟩:=Option.map_eq_some_iff.mp h
    exact⟨z,h1,fun _ _=>by rw[Int.zero_add]⟩⟩
end Pg
set_option maxHeartbeats 4000000
namespace K13
open PySem PySem.NumText L2 Pg
seal PE PA PT PW PS PSs PG PGs PI PIf PO PK
section
variable {P:Program} {w:World} {K:PySem.W.Frag} {mg:Str→Option Value} {base:Heap} {f:Addr} {fd:FuncData} {d:Nat→Addr} {cR:Addr}
theorem ok_needA (F:Fun K "need_amount" "need_amount" (top 15) f fd) (C1:Cal P w K mg base CX0 1 "is_number" ["thing"] (sp_is_number K)):FnOk P w K mg base CX0 2 f fd ["thing"] sp_needA:=by
  refine F.ok (N:=["thing"]) ⟨rfl,rfl,rfl,by decide +kernel,rfl,by decide +kernel,by decide +kernel⟩ (fun vs H Q E h=>?_) (fun cdv A outer s H vs Q E hr h=>?_)
  · obtain⟨i,rfl,_⟩:=h
    rfl
  · obtain⟨i,rfl,q⟩:=h
    refine⟨_,pss_one (ps_if (pt_not (pt_val (pe_cal C1 hr (by decide) pass0 (pa_cons (pv 0) pa_nil)))) pss_never pss_nil),?_⟩
    exact⟨_,rfl,_,rfl,.inl ⟨i,rfl,true,rfl,iteF q⟩⟩
end
end K13
namespace K13
open PySem PySem.NumText L2 Pg
seal PE PA PT PW PS PSs PG PGs PI PIf PO PK
section
variable {P:Program} {w:World} {K:PySem.W.Frag} {mg:Str→Option Value} {base:Heap} {f:Addr} {fd:FuncData} {d:Nat→Addr} {cR:Addr}
theorem ok_word (F:Fun K "is_word_of" "is_word_of" (top 25) f fd) (G:Glb mg) (N1:Num mg "MOST_SIGNS" 8):FnOk P w K mg base CX0 1 f fd ["thing","signs"] sp_word:=by
  obtain⟨tm,hm⟩:=N1
  have nc:(["sign","signs"]:List Str).Nodup:=by decide +kernel
  refine F.ok (N:=["thing","signs"]) ⟨rfl,rfl,rfl,by decide +kernel,rfl,by decide +kernel,by decide +kernel⟩ (fun vs H Q E h=>?_) (fun cdv A outer s H vs Q E hr h=>?_)
  · obtain⟨z,rfl,_⟩:=h
    rfl
  · obtain⟨z,rfl,hz,q⟩:=h
    have l1:=hz.lo
    have l8:=hz.hi
    have fit:z.length≤sizeLine:=fitS l8 rfl
    refine' ⟨_,(pss_cons (ps_if (pt_not (pt_val (pe_callB call_isinst rfl G.isinstance boot_isinstance (pa_cons (pv 0) (pa_cons (pe_bltn (v:=.ty "str") rfl G.str boot_str rfl) pa_nil))))) (pss_one (ps_ret pe_bl)) pss_nil)
        (pss_cons (ps_if (PW.pt (pw_or (pt_cmpR op_lt (pe_callB call_len_str rfl G.len boot_len (pa_cons (pv 0) pa_nil)) pe_int (nomark _)) (pw_or1 (pt_cmpR op_gt (pe_callB call_len_str rfl G.len boot_len (pa_cons (pv 0) pa_nil)) (pe_glob (v:=.int 8) rfl hm ⟨_,rfl⟩) (nomark _))))) (pss_one (ps_ret pe_bl)) pss_nil)
        (pss_one (ps_ret (pe_callB (call_allL rfl) rfl G.all boot_all (pa_cons ?comp pa_nil)))))),?main⟩
    case comp =>
      refine' pe_compI (Nc:=["sign","signs"]) (cl:=[("signs",s.heap.objs.size+1)]) (src:=[none,some 1]) (wi:=iStr (tVar 0)) (g:=gName 0) (tt:=tNoIf) (te:=tOp (fun x y H Q=>∃ i j,x = .str i∧y = .str j∧Q (.bl (!(Builtin.Str.occurrences j i 0 j.length 1).isEmpty)) H) (tVar 0) (tVar 1)) ⟨rfl,rfl,by decide +kernel,by decide +kernel,sub_of (sub1 rfl),has_of (by rfl),frm_none (frm_some ⟨_,rfl,rfl,rfl,rfl⟩ frm_nil),rfl⟩ rfl (pi_str (pv 0)) ?hb
      case hb =>
        intro fp C' s' H'
        exact⟨pg_name (i:=0) nc rfl (Or.inl rfl),pif_nil,pe_cmpR op_in_str (pv 0) (pv 1) (by rfl)⟩
    refine⟨_,rfl,_,_,_,_,true,rfl,rfl,.inl (.str z),rfl,true,rfl,iteF ?_⟩
    refine⟨_,rfl,z,rfl,fit,_,_,rfl,rfl,_,rfl,ite2 (fun e=>absurd (of_decide_eq_true e) (by omega)) (fun _=>⟨_,rfl,z,rfl,fit,_,_,rfl,rfl,_,rfl,ite2 (fun e=>absurd (of_decide_eq_true e) (by omega)) (fun _=>?_)⟩)⟩
    refine⟨_,rfl,z,rfl,fun D hD=>?_⟩
    refine comp_fm (walk_str (z:=z)) hD (by rw[List.length_map,← len_codes,sizeLine_eq];omega) (fun _=>true) (fun x=>match x with | .str y=>.bl (isL (y.cps.getD 0 0)) | v=>v) (fun x _ H' R _ r=>r) (fun x hx _ H' R _ r=>?_) ?_
    · obtain⟨c,_,rfl⟩:=List.mem_map.mp hx
      refine⟨_,rfl,_,rfl,_,_,rfl,rfl,?_⟩
      rw[letter_in]
      exact r
    · rw[List.filter_eq_self.mpr fun _ _=>rfl,List.map_map]
      refine⟨D,z.cps.toList.map isL,rfl,SqL.of (by rw[List.map_map];exact upd_same),?_⟩
      have e2:(z.cps.toList.map isL).all id=true:=by
        rw[List.all_map]
        exact hz.all
      rw[e2]
      exact q _ (Same.upd hD)
end
end K13
namespace K13
open PySem PySem.NumText L2 Pg
seal PE PA PT PW PS PSs PG PGs PI PIf PO PK
section
variable {P:Program} {w:World} {K:PySem.W.Frag} {mg:Str→Option Value} {base:Heap} {f:Addr} {fd:FuncData} {d:Nat→Addr} {cR:Addr}
theorem ok_name (F:Fun K "is_name" "is_name" (top 26) f fd) (N1:Txt mg "LETTERS" "abcdefghijklmnopqrstuvwxyz") (C1:Cal P w K mg base CX0 1 "is_word_of" ["thing","signs"] sp_word):FnOk P w K mg base CX0 2 f fd ["thing"] sp_name:=by
  obtain⟨tm,hm⟩:=N1
  refine F.ok (N:=["thing"]) ⟨rfl,rfl,rfl,by decide +kernel,rfl,by decide +kernel,by decide +kernel⟩ (fun vs H Q E h=>?_) (fun cdv A outer s H vs Q E hr h=>?_)
  · obtain⟨z,rfl,_⟩:=h
    rfl
  · obtain⟨z,rfl,hz,q⟩:=h
    exact⟨_,pss_one (ps_ret (pe_cal C1 hr (by decide) pass0 (pa_cons (pv 0) (pa_cons (pe_glob (v:=.str "abcdefghijklmnopqrstuvwxyz") rfl hm ⟨_,rfl⟩) pa_nil)))),_,rfl,z,rfl,hz,q⟩
end
end K13
namespace K13
open PySem PySem.NumText L2 Pg
seal PE PA PT PW PS PSs PG PGs PI PIf PO PK
section
variable {P:Program} {w:World} {K:PySem.W.Frag} {mg:Str→Option Value} {base:Heap} {f:Addr} {fd:FuncData} {d:Nat→Addr} {cR:Addr}
theorem ok_cell_at (F:Fun K "_law_cell_at" "_law_cell_at" (top 67) f fd) (G:Glb mg):FnOk P w K mg base CX0 1 f fd ["_law_script","_law_k"] (sp_cell K):=by
  refine F.ok (N:=["_law_script","_law_k"]) ⟨rfl,rfl,rfl,by decide +kernel,rfl,by decide +kernel,by decide +kernel⟩ (fun vs H Q E h=>?_) (fun cdv A outer s H vs Q E hr h=>?_)
  · obtain⟨a,k,ns,rfl,_⟩:=h
    rfl
  · obtain⟨a,k,ns,rfl,hs,hk,q⟩:=h
    refine⟨_,(pss_cons (ps_if (pt_cmpR op_lt (pv 1) (pe_callB call_len_seq rfl G.len PySem.boot_len (pa_cons (pv 0) pa_nil)) (nomark _)) (pss_one (ps_ret (pe_at ix_list (pv 0) (pv 1)))) pss_nil)
        (pss_one (ps_ret pe_int))),?_⟩
    refine⟨_,rfl,_,rfl,a,_,rfl,.inl hs,_,_,rfl,rfl,_,rfl,ite2 (fun e=>?_) (fun e=>?_)⟩
    · exact⟨_,rfl,_,rfl,a,_,_,_,rfl,rfl,hs,cell_at hk (of_decide_eq_true e),q⟩
    · rw[cell_out fun c=>e (decide_eq_true c)] at q
      exact q
end
end K13
namespace K13
open PySem PySem.NumText L2 Pg
seal PE PA PT PW PS PSs PG PGs PI PIf PO PK
section
variable {P:Program} {w:World} {K:PySem.W.Frag} {mg:Str→Option Value} {base:Heap} {f:Addr} {fd:FuncData} {d:Nat→Addr} {cR:Addr}
theorem ok_whole (F:Fun K "_law_whole" "_law_whole" (top 69) f fd) (G:Glb mg):FnOk P w K mg base CX0 1 f fd ["_law_found"] sp_whole:=by
  refine F.ok (N:=["_law_found"]) ⟨rfl,rfl,rfl,by decide +kernel,rfl,by decide +kernel,by decide +kernel⟩ (fun vs H Q E h=>?_) (fun cdv A outer s H vs Q E hr h=>?_)
  · obtain⟨v,rfl,_⟩:=h
    rfl
  · obtain⟨z,rfl,q⟩:=h
    refine⟨_,pss_one (ps_ret (pe_and (pe_callB call_isinst rfl G.isinstance boot_isinstance (pa_cons (pv 0) (pa_cons (pe_bltn (v:=.ty "int") rfl G.int boot_int rfl) pa_nil)))
      (pe_one (pe_not (pe_callB call_isinst rfl G.isinstance boot_isinstance (pa_cons (pv 0) (pa_cons (pe_bltn (v:=.ty "bool") rfl G.bool boot_bool rfl) pa_nil))))))),?_⟩
    refine⟨_,rfl,_,_,_,_,true,rfl,rfl,.inl (.int z),rfl,true,rfl,iteT ?_⟩
    exact⟨_,rfl,_,_,_,_,false,rfl,rfl,.inl (.int z),rfl,false,rfl,q⟩
end
end K13
namespace Pg
open PySem L2
noncomputable def addD (t:List (Str × Int)) (p:Str × Int):List (Str × Int):=putT t p.1 (getT t p.1+p.2)
noncomputable def addDs (t prs:List (Str × Int)):List (Str × Int):=prs.foldl addD t
noncomputable def addAll (prss:List (List (Str × Int))):List (Str × Int):=prss.foldl addDs []
noncomputable def sumL (l:List Int):Int:=l.foldr (· + ·) 0
structure Stm where
  m:Int
  b:Int
  ds:List (Str × Int)
  n:Int
noncomputable def Sm (x:Int):Prop:=-(2*10 ^ 18)≤x∧x≤2*10 ^ 18
structure StOk (nms:List Str) (s:Stm):Prop where
  m0:0≤s.m
  m1:s.m≤119999
  b:Sm s.b
  n:Sm s.n
  ds:∀ p∈s.ds,Sm p.2
  nm:∀ p∈s.ds,p.1∈nms
  nd:(s.ds.map (·.1)).Nodup
structure StsOk (nms:List Str) (sts:List Stm):Prop where
  few:sts.length≤15
  n11:nms.length≤11
  len:∀ z∈nms,z.length≤30
  each:∀ s∈sts,StOk nms s
noncomputable def KT (H H':Hp):Prop:=∀ b c,(H b=some (.tup c)→H' b=some (.tup c))∧∀ o,H b=some (.frz o (.tup c))→H' b=some (.frz o (.tup c))
noncomputable def DuesAt (H:Hp) (d:Addr) (prs:List (Str × Int)):Prop:=∃ ts,Rd H d (.tup ts)∧TupsAt H ts (prs.map cP)
noncomputable def FzAt (H:Hp) (d:Addr) (prs:List (Str × Int)):Prop:=∃ its n ts,H d=some (.frz (tupO its n) (.tup ts))∧TupsAt H ts (prs.map cP)
noncomputable def StAt (H:Hp) (v:V) (s:Stm):Prop:=∃ a d,v = .ref a∧H a=some (.tup [.int s.m,.int s.b,.ref d,.int s.n])∧FzAt H d s.ds
structure StsAt (H:Hp) (ys:List V) (sts:List Stm):Prop where
  len:ys.length=sts.length
  at_:∀ (i:Nat) (y:V),ys[i]? = some y→∃ s,sts[i]? = some s∧StAt H y s
noncomputable def allD (sts:List Stm):List (Str × Int):=addAll (sts.map (·.ds))
noncomputable def dueS (prs:List (Str × Int)) (z:Str):Str:=match getO prs z with | some v=>toldS v | none=>"-"
noncomputable def rowC (title:Str) (b:Int) (prs:List (Str × Int)) (n:Int) (nms:List Str):List Str:=[title,toldS b]++nms.map (dueS prs)++[toldS n]
noncomputable def headC (nms:List Str):List Str:=[("month":Str),"base"]++nms++[("net":Str)]
noncomputable def tabC (sts:List Stm) (qs:List (Str × Int)):List (List Str):=[headC (qs.map (·.1))]++sts.map (fun s=>rowC (monthS s.m) s.b s.ds s.n (qs.map (·.1)))++[rowC "sums" (sumL (sts.map (·.b))) qs (sumL (sts.map (·.n))) (qs.map (·.1))]
noncomputable def paperS (sts:List Stm) (qs:List (Str × Int)):Str:=Txt.join "\n" (rowsS (tabC sts qs) (qs.length+3))
noncomputable def Srt (qs:List (Str × Int)):Prop:=qs.Pairwise (fun a b=>¬ b.1.cps.toList<a.1.cps.toList)
noncomputable def sp_together:Sp:=fun vs H Q _=>∃ l ys prss,vs=[.ref l]∧H l=some (.lst ys)∧ItemsAt H ys prss (fun H' v prs=>∃ d,v = .ref d∧DuesAt H' d prs)∧(addAll prss).length<64∧prss.length≤100∧(∀ prs∈prss,prs.length≤100) ∧
  ∀ qs t ys' H',qs.Perm (addAll prss)→Srt qs→Same H H'→H t=none→H' t=some (.tup ys')→TupsAt H' ys' (qs.map cP)→Q (.ref t) H'
noncomputable def sp_sums:Sp:=fun vs H Q _=>∃ l ys sts nms,vs=[.ref l]∧H l=some (.lst ys)∧StsAt H ys sts∧StsOk nms sts ∧
  ∀ qs t d ys' H',qs.Perm (allD sts)→Srt qs→Same H H'→H' t=some (.tup [.int (sumL (sts.map (·.b))),.ref d,.int (sumL (sts.map (·.n)))])→H' d=some (.tup ys')→TupsAt H' ys' (qs.map cP)→Q (.ref t) H'
noncomputable def Big (x:Int):Prop:=absI x<10 ^ 20
noncomputable def sp_dueT:Sp:=fun vs H Q _=>∃ d prs z,vs=[.ref d,.str z]∧DuesAt H d prs∧(∀ p∈prs,Big p.2)∧∀ H',Same H H'→Q (.str (dueS prs z)) H'
noncomputable def sp_cells:Sp:=fun vs H Q _=>∃ title b d prs n nl nms,vs=[.str title,.int b,.ref d,.int n,.ref nl]∧DuesAt H d prs∧(∀ p∈prs,Big p.2)∧Big b∧Big n∧H nl=some (.lst (nms.map V.str))∧nms.length≤100 ∧
  ∀ r H',Same H H'→H r=none→H' r=some (.lst ((rowC title b prs n nms).map V.str))→Q (.ref r) H'
noncomputable def sp_paper:Sp:=fun vs H Q _=>∃ l ys sts nms,vs=[.ref l]∧H l=some (.lst ys)∧StsAt H ys sts∧StsOk nms sts∧∀ qs H',qs.Perm (allD sts)→Srt qs→Same H H'→Q (.str (paperS sts qs)) H'
noncomputable def sp_next:Sp:=fun vs H Q _=>∃ n k,vs=[.int n,.int k]∧0≤n∧n<2147483629∧0≤k∧k≤1000∧∀ v,0≤v→v<2147483629→Q (.int v) H
noncomputable def sp_amt:Sp:=fun vs H Q _=>∃ n,vs=[.int n]∧0≤n∧n<536870911∧∀ v H',0≤v→v≤10 ^ 17→Same H H'→Q (.int v) H'
noncomputable def sp_toldL:Sp:=fun vs H Q _=>∃ a,vs=[.int a]∧Big a∧Q (.str (toldS a)) H
noncomputable def optV (o:Option Int):V:=(o.map V.int).getD .non
noncomputable def optS (o:Option Int):Str:=match o with | some v=>toldS v | none=>"-"
noncomputable def rowO (s:Stm) (nms:List Str):List (Option Int):=[some s.b]++nms.map (getO s.ds)++[some s.n]
noncomputable def totL (sts:List Stm) (nms:List Str):List Int:=[sumL (sts.map (·.b))]++nms.map (fun z=>sumL (sts.map fun s=>getT s.ds z))++[sumL (sts.map (·.n))]
noncomputable def ivV:V→Int | .int i=>i | _=>0
theorem int_items {H:Hp} (ts:List Int):ItemsAt H (ts.map V.int) ts (fun _ v o=>v = .int o) :=
  ⟨List.length_map _,fun i y h=>by
    rw[List.getElem?_map] at h
    obtain⟨z,h1,rfl⟩:=Option.map_eq_some_iff.mp h
    exact⟨z,h1,fun _ _=>rfl⟩⟩
noncomputable def pairT (sts:List Stm) (nms:List Str):List (Str × Int):=nms.map fun z=>(z,getT (allD sts) z)
noncomputable def newN (N:List Str) (prs:List (Str × Int)):List Str:=(prs.filter fun p=>!decide (p.1∈N)).map (·.1)
structure NmOk (N:List Str) (sts:List Stm):Prop where
  nd:N.Nodup
  mem:∀ z,z∈N↔∃ s∈sts,z∈s.ds.map (·.1)
noncomputable def sp_namesL:Sp:=fun vs H Q _=>∃ n k,vs=[.int n,.int k]∧0≤n∧n<2147483629∧0≤k∧k≤11∧∀ (nms:List Str) (r:Addr) (H':Hp),nms.length=k.toNat→nms.Nodup→(∀ z∈nms,z.length≤30)→Same H H'→H r=none→H' r=some (.lst (nms.map V.str))→Q (.ref r) H'
theorem letter_val {i:Int} (h0:0≤i) (h1:i<26):atI ("abcdefghijklmnopqrstuvwxyz":Str).cps.toList i=some (97+i.toNat):=by
  obtain⟨n,rfl⟩:=Int.eq_ofNat_of_zero_le h0
  rw[letters_codes]
  refine atI_nat ?_
  rw[List.getElem?_range' (by omega)]
  rw[Int.toNat_natCast]
  congr 1
  omega
noncomputable def oneS (c:Nat):Str:=⟨#[c]⟩
noncomputable def resv:List Str:=["base","net","month","sums"]
noncomputable def inR (z:Str):Bool:=inV (.str z) (resv.map V.str)
noncomputable def nqS (z:Str):Str:=z++timesS "q" (if inR z=true then 1 else 0)
noncomputable def nm1 (a:Str) (at':Int) (x:Int) (k:Nat):Str:=Txt.slice a none (some at')++oneS (97+((x+7*(k:Nat))%26).toNat)++Txt.slice a (some at') none
noncomputable def nm2 (f:Int) (k:Nat):Str:=timesS (oneS (97+((f+(k:Nat)/8)%26).toNat)) (1+(k:Nat)%8)
noncomputable def sp_sts (K:PySem.W.Frag):Sp:=fun vs H Q _=>∃ (a:Addr) (ns:List Int),vs=[.ref a]∧SqL K H a (ns.map V.int)∧∀ (nms:List Str) (sts:List Stm) (r:Addr) (ys:List V) (H':Hp),StsOk nms sts→Same H H'→H r=none→H' r=some (.lst ys)→StsAt H' ys sts→Q (.ref r) H'
noncomputable def dtS (s:Stm):Dt:=.t [.v (.int s.m),.v (.int s.b),.t (s.ds.map fun p=>.t ((cP p).map Dt.v)),.v (.int s.n)]
noncomputable def wayL:List Str:=["down","up","near","even"]
noncomputable def Tps (K:PySem.W.Frag) (mg:Str→Option Value) (x:Str) (zs:List Str):Prop:=∃ a,mg x=some (.ref a)∧∀ H,SqT K H a (zs.map V.str)
noncomputable def halfUp (z l:Int) (x:Str):Bool:=if x = "near" then decide (0<z) else decide (l%2=1)
noncomputable def goesUp (z l r:Int) (x:Str):Bool:=if x = "down" then false else if x = "up" then decide (0<r) else if r=5000 then halfUp z l x else decide (5000<r)
noncomputable def rnd (z:Int) (x:Str):Int:=if goesUp z (z/10000) (z%10000) x=true then z/10000+1 else z/10000
theorem in_texts (x:Str) (zs:List Str):inV (.str x) (zs.map V.str)=zs.contains x:=by
  unfold inV
  rw[List.any_map,List.contains_eq_any_beq]
  congr 1
  funext y
  show (y==x)=(x==y)
  exact Bool.beq_comm ..
noncomputable def sp_parts0:Sp:=fun vs H Q _=>∃ z,vs=[.int z]∧0≤z∧z≤20000∧Q (.bl true) H
noncomputable def sp_way0:Sp:=fun vs H Q _=>∃ x,vs=[.str x]∧wayL.contains x=true∧Q (.bl true) H
noncomputable def sp_needW0:Sp:=fun vs H Q _=>∃ x,vs=[.str x]∧wayL.contains x=true∧Q .non H
noncomputable def sp_half:Sp:=fun vs H Q _=>∃ z l x,vs=[.int z,.int l,.str x]∧Q (.bl (halfUp z l x)) H
noncomputable def sp_goes:Sp:=fun vs H Q _=>∃ z l r x,vs=[.int z,.int l,.int r,.str x]∧Q (.bl (goesUp z l r x)) H
noncomputable def sp_rnd0:Sp:=fun vs H Q _=>∃ z x,vs=[.int z,.str x]∧wayL.contains x=true∧Q (.int (rnd z x)) H
noncomputable def sp_share0:Sp:=fun vs H Q _=>∃ z n x,vs=[.int z,.int n,.str x]∧0≤n∧n≤20000∧wayL.contains x=true∧Q (.int (rnd (z*n) x)) H
noncomputable def lawRnd (z:Int) (x:Str):Int:=if x = "down" then z/10000 else if x = "up" then z/10000+(if 0<z%10000 then 1 else 0) else if x = "near" then z/10000+(if 5000≤z%10000 then 1 else 0) else z/10000+(if 5000<z%10000∨(z%10000=5000∧z/10000%2=1) then 1 else 0)
theorem law_rnd {z:Int} {x:Str} (h:0≤z):lawRnd z x=rnd z x:=by
  unfold lawRnd rnd goesUp halfUp
  by_cases h1:x = "down"
  · rw[if_pos h1,if_pos h1,if_neg Bool.false_ne_true]
  rw[if_neg h1,if_neg h1]
  by_cases h2:x = "up"
  · rw[if_pos h2,if_pos h2]
    by_cases c:0<z%10000
    · rw[if_pos c,if_pos (decide_eq_true c)]
    · rw[if_neg c,if_neg fun k=>c (of_decide_eq_true k),Int.add_zero]
  rw[if_neg h2,if_neg h2]
  by_cases h3:x = "near"
  · rw[if_pos h3,if_pos h3]
    by_cases c:z%10000=5000
    · rw[if_pos c,if_pos (by omega),if_pos (decide_eq_true (by omega))]
    · rw[if_neg c]
      by_cases e:5000<z%10000
      · rw[if_pos (by omega),if_pos (decide_eq_true e)]
      · rw[if_neg (by omega),if_neg fun k=>e (of_decide_eq_true k),Int.add_zero]
  · rw[if_neg h3,if_neg h3]
    by_cases c:z%10000=5000
    · rw[if_pos c]
      by_cases e:z/10000%2=1
      · rw[if_pos (.inr ⟨c,e⟩),if_pos (decide_eq_true e)]
      · rw[if_neg (by omega),if_neg fun k=>e (of_decide_eq_true k),Int.add_zero]
    · rw[if_neg c]
      by_cases e:5000<z%10000
      · rw[if_pos (.inl e),if_pos (decide_eq_true e)]
      · rw[if_neg (by omega),if_neg fun k=>e (of_decide_eq_true k),Int.add_zero]
inductive Rk where
  | flat (n:Str) (a:Int)
  | share (n:Str) (p:Int) (w:Str)
  | capped (n:Str) (p m:Int) (w:Str)
  | least (n:Str) (p l:Int) (w:Str)
  | bands (n:Str) (ps:List (Int × Int)) (w:Str)
  | ontop (n:Str) (p:Int) (w:Str) (r:Rk)
noncomputable def Rk.name:Rk→Str
  | .flat n _=>n
  | .share n _ _=>n
  | .capped n _ _ _=>n
  | .least n _ _ _=>n
  | .bands n _ _=>n
  | .ontop n _ _ _=>n
noncomputable def Rk.kd:Rk→Nat
  | .flat ..=>0
  | .share ..=>1
  | .capped ..=>2
  | .least ..=>3
  | .bands ..=>4
  | .ontop ..=>5
noncomputable def noNames:List Str:=["base","net","month","sums"]
structure RName (z:Str):Prop where
  ok:NameOk z
  no:noNames.contains z=false
noncomputable def Prt (p:Int):Prop:=0≤p∧p≤20000
noncomputable def Amt (a:Int):Prop:=0≤a∧a≤1000000000000
noncomputable def Way (w:Str):Prop:=wayL.contains w=true
inductive Pln:Rk→Prop where
  | flat {n:Str} {a:Int}:RName n→Amt a→Pln (.flat n a)
  | share {n:Str} {p:Int} {w:Str}:RName n→Prt p→Way w→Pln (.share n p w)
  | capped {n:Str} {p m:Int} {w:Str}:RName n→Prt p→Amt m→Way w→Pln (.capped n p m w)
  | least {n:Str} {p l:Int} {w:Str}:RName n→Prt p→Amt l→Way w→Pln (.least n p l w)
noncomputable def pos (bs:List Int):Int:=((bs.filter fun b=>decide (0<b)).length:Nat)
noncomputable def unt (r:Rk) (bs:List Int):Int:=match r with
  | .flat _ a=>a*pos bs
  | .share _ p w=>rnd (bs.sum*p) w
  | .capped _ p m w=>rnd ((if m<bs.sum then m else bs.sum)*p) w
  | .least _ p l w=>if l*pos bs > rnd (bs.sum*p) w then l*pos bs else rnd (bs.sum*p) w
  | _=>0
noncomputable def numS' (i:Int):Str:=toString i
noncomputable def rowP (r:Rk):List V:=match r with
  | .flat n a=>[.str "flat",.str n,.int a]
  | .share n p w=>[.str "share",.str n,.int p,.str w]
  | .capped n p m w=>[.str "capped",.str n,.int p,.int m,.str w]
  | .least n p l w=>[.str "least",.str n,.int p,.int l,.str w]
  | _=>[]
noncomputable def strV:V→Str
  | .str z=>z
  | .int i=>toString i
  | _=>Str.empty
noncomputable def rowT (r:Rk):Str:=Txt.join " " ((rowP r).map strV)
noncomputable def RtAt (H:Hp) (v:V) (r:Rk):Prop:=∃ t,v = .ref t∧H t=some (.tup (rowP r))
theorem RtAt.same {H H':Hp} {v:V} {r:Rk} (s:Same H H') (h:RtAt H v r):RtAt H' v r:=by
  obtain⟨t,e,h⟩:=h
  exact⟨t,e,s _ _ h⟩
noncomputable def rowF (r:Rk):List (Str × V):=match r with
  | .flat n a=>[("name",.str n),("amount",.int a)]
  | .share n p w=>[("name",.str n),("parts",.int p),("way",.str w)]
  | .capped n p m w=>[("name",.str n),("parts",.int p),("most",.int m),("way",.str w)]
  | .least n p l w=>[("name",.str n),("parts",.int p),("least",.int l),("way",.str w)]
  | _=>[]
noncomputable def RoAt (Cs:Nat→Addr) (H:Hp) (v:V) (r:Rk):Prop:=∃ o dx,v = .ref o∧H o=some (.ins (Cs r.kd) dx (rowF r))
theorem RoAt.same {Cs:Nat→Addr} {H H':Hp} {v:V} {r:Rk} (s:Same H H') (h:RoAt Cs H v r):RoAt Cs H' v r:=by
  obtain⟨t,dx,e,h⟩:=h
  exact⟨t,dx,e,s _ _ h⟩
structure RulK (K:PySem.W.Frag) (Cs:Nat→Addr):Prop where
  cls:∀ i,i<4→Cls K (Cs i)
  no:∀ i,i<4→∀ x∈(["name","amount","parts","way","most","least"]:List Str),NoAttr K (Cs i) x
noncomputable def sp_rname0:Sp:=fun vs H Q _=>∃ z,vs=[.str z]∧RName z∧∀ H',Same H H'→Q (.bl true) H'
noncomputable def sp_ramt0:Sp:=fun vs H Q _=>∃ z,vs=[.int z]∧Amt z∧Q (.bl true) H
noncomputable def sp_needR0:Sp:=fun vs H Q _=>∃ z,vs=[.int z]∧Amt z∧Q .non H
noncomputable def sp_needS0:Sp:=fun vs H Q _=>∃ p w,vs=[.int p,.str w]∧Prt p∧Way w∧Q .non H
noncomputable def sp_pos (K:PySem.W.Frag):Sp:=fun vs H Q _=>∃ b bs,vs=[.ref b]∧SqL K H b (bs.map V.int)∧bs.length≤100∧∀ H',Same H H'→Q (.int (pos bs)) H'
noncomputable def sp_rinit (Cs:Nat→Addr):Sp:=fun vs H Q _=>∃ i o dx z,vs=[.ref o,.str z]∧i<4∧H o=some (.ins (Cs i) dx [])∧RName z∧∀ H',(∀ b x,H b=some x→b≠o→H' b=some x)→H' o=some (.ins (Cs i) dx [("name",.str z)])→Q .non H'
noncomputable def argsR (r:Rk):List V:=(rowP r).drop 1
noncomputable def sp_kinit (k:Nat) (Cs:Nat→Addr):Sp:=fun vs H Q _=>∃ o dx r,vs = .ref o::argsR r∧r.kd=k∧Pln r∧H o=some (.ins (Cs k) dx [])∧∀ H',(∀ b x,H b=some x→b≠o→H' b=some x)→H' o=some (.ins (Cs k) dx (rowF r))→Q .non H'
noncomputable def sp_unt (K:PySem.W.Frag) (k:Nat) (Cs:Nat→Addr):Sp:=fun vs H Q _=>∃ v r b bs,vs=[v,.ref b]∧r.kd=k∧RoAt Cs H v r∧Pln r∧SqL K H b (bs.map V.int)∧bs.length≤100∧∀ H',Same H H'→Q (.int (unt r bs)) H'
noncomputable def dl (bs:List Int):List Int:=(bs.drop (HT.sIx bs.length 0 none)).take (HT.sIx bs.length bs.length (some (-1)) - HT.sIx bs.length 0 none)
theorem dl_cut (bs:List Int):cutV (bs.map V.int) none (some (-1))=(dl bs).map V.int:=by
  unfold cutV dl
  rw[List.length_map,List.map_take,List.map_drop]
theorem dl_len (bs:List Int):(dl bs).length≤bs.length:=by
  unfold dl
  rw[List.length_take,List.length_drop]
  omega
theorem dl_mem {bs:List Int} {b:Int} (h:b∈dl bs):b∈bs:=List.mem_of_mem_drop (List.mem_of_mem_take h)
noncomputable def ofm (r:Rk) (bs:List Int):Int:=unt r bs - unt r (dl bs)
noncomputable def sp_ofm (K:PySem.W.Frag) (k:Nat) (Cs:Nat→Addr):Sp:=fun vs H Q _=>∃ v r b bs,vs=[v,.ref b]∧r.kd=k∧RoAt Cs H v r∧Pln r∧SqL K H b (bs.map V.int)∧bs.length≤100∧∀ H',Same H H'→Q (.int (ofm r bs)) H'
noncomputable def sp_rowR (k:Nat) (Cs:Nat→Addr):Sp:=fun vs H Q _=>∃ v r,vs=[v]∧r.kd=k∧RoAt Cs H v r∧Pln r∧∀ H',Same H H'→Q (.str (rowT r)) H'
theorem part_len {r:Rk} (h:Pln r):∀ z∈(rowP r).map strV,z.length≤20:=by
  have nl:∀ {z:Str},RName z→z.length≤20:=fun h=>Nat.le_trans h.ok.hi (by decide)
  have il:∀ {i:Int},0≤i→i≤1000000000000→(strV (.int i)).length≤20:=fun h0 h1=>Nat.le_trans (numS_len (k:=13) h0 (by decide) (by omega)) (by decide)
  have wl:∀ {w:Str},Way w→w.length≤20:=fun {w} h=>by
    have h:=List.contains_iff_mem.mp h
    unfold wayL at h
    simp only[List.mem_cons,List.not_mem_nil,or_false] at h
    rcases h with rfl | rfl | rfl | rfl <;> decide +kernel
  intro z hz
  obtain⟨v,hv,rfl⟩:=List.mem_map.mp hz
  cases h with
  | flat hn ha =>
    simp only[rowP,List.mem_cons,List.not_mem_nil,or_false] at hv
    rcases hv with rfl | rfl | rfl
    · decide +kernel
    · exact nl hn
    · exact il ha.1 ha.2
  | share hn hp hw =>
    simp only[rowP,List.mem_cons,List.not_mem_nil,or_false] at hv
    rcases hv with rfl | rfl | rfl | rfl
    · decide +kernel
    · exact nl hn
    · exact il hp.1 (Int.le_trans hp.2 (by decide))
    · exact wl hw
  | capped hn hp ha hw =>
    simp only[rowP,List.mem_cons,List.not_mem_nil,or_false] at hv
    rcases hv with rfl | rfl | rfl | rfl | rfl
    · decide +kernel
    · exact nl hn
    · exact il hp.1 (Int.le_trans hp.2 (by decide))
    · exact il ha.1 ha.2
    · exact wl hw
  | least hn hp ha hw =>
    simp only[rowP,List.mem_cons,List.not_mem_nil,or_false] at hv
    rcases hv with rfl | rfl | rfl | rfl | rfl
    · decide +kernel
    · exact nl hn
    · exact il hp.1 (Int.le_trans hp.2 (by decide))
    · exact il ha.1 ha.2
    · exact wl hw
theorem row_ok {r:Rk} (h:Pln r):JoinOk " " ((rowP r).map strV)=true:=(join_small (m:=20) (k:=5) (part_len h) (by cases h <;> exact Nat.le_of_ble_eq_true rfl) (by decide +kernel) rfl).1
theorem log_p {p:Int} (h:Prt p):p.natAbs.log2<1920:=log_small h.1 (by have:=h.2;omega)
theorem log_a {p:Int} (h:Amt p):p.natAbs.log2<1920:=log_small h.1 (by have:=h.2;omega)
theorem pr1 (n:Str):putF "name" (.str n) []=[((("name":Str)),V.str n)]:=rfl
theorem pr2 (n x:Str) (v:V) (h:("name":Str)≠x):putF x v [(("name":Str),V.str n)]=[(("name":Str),V.str n),(x,v)]:=by
  unfold putF
  rw[if_neg h]
  rfl
theorem pr3 (n x y:Str) (u v:V) (h:("name":Str)≠x) (h2:y≠x):putF x v [(("name":Str),V.str n),(y,u)]=[(("name":Str),V.str n),(y,u),(x,v)]:=by
  unfold putF
  rw[if_neg h]
  unfold putF
  rw[if_neg h2]
  rfl
theorem pr4 (n x y z:Str) (u v w:V) (h:("name":Str)≠x) (h2:y≠x) (h3:z≠x):putF x v [(("name":Str),V.str n),(y,u),(z,w)]=[(("name":Str),V.str n),(y,u),(z,w),(x,v)]:=by
  unfold putF
  rw[if_neg h]
  unfold putF
  rw[if_neg h2]
  unfold putF
  rw[if_neg h3]
  rfl
end Pg
namespace K13
open PySem PySem.NumText L2 Pg
seal PE PA PT PW PS PSs PG PGs PI PIf PO PK
section
variable {P:Program} {w:World} {K:PySem.W.Frag} {mg:Str→Option Value} {base:Heap} {f:Addr} {fd:FuncData} {d:Nat→Addr} {cR:Addr}
theorem ok_parts0 (F:Fun K "is_parts" "is_parts" (top 13) f fd) (N1:Num mg "MOST_PARTS" 20000) (C1:Cal P w K mg base CX0 2 "is_number_within" ["thing","least","most"] (sp_within K)):FnOk P w K mg base CX0 3 f fd ["thing"] sp_parts0:=by
  obtain⟨t,em⟩:=N1
  refine F.ok (N:=["thing"]) ⟨rfl,rfl,rfl,by decide +kernel,rfl,by decide +kernel,by decide +kernel⟩ (fun vs H Q E h=>?_) (fun cdv A outer s H vs Q E hr h=>?_)
  · obtain⟨z,rfl,_⟩:=h
    rfl
  · obtain⟨z,rfl,h0,h1,q⟩:=h
    refine⟨_,pss_one (ps_ret (pe_cal C1 hr (by decide) pass0 (pa_cons (pv 0) (pa_cons pe_int (pa_cons (pe_glob (v:=.int 20000) rfl em ⟨t,rfl⟩) pa_nil))))),_,rfl,_,0,20000,rfl,.inl ⟨z,rfl,?_⟩⟩
    rw[decide_eq_true (⟨h0,h1⟩:(0:Int)≤z∧z≤20000)]
    exact q
theorem ok_way0 (F:Fun K "is_way" "is_way" (top 14) f fd) (G:Glb mg) (W:Tps K mg "WAYS" wayL):FnOk P w K mg base CX0 1 f fd ["thing"] sp_way0:=by
  obtain⟨aw,ew,tw⟩:=W
  refine F.ok (N:=["thing"]) ⟨rfl,rfl,rfl,by decide +kernel,rfl,by decide +kernel,by decide +kernel⟩ (fun vs H Q E h=>?_) (fun cdv A outer s H vs Q E hr h=>?_)
  · obtain⟨x,rfl,_⟩:=h
    rfl
  · obtain⟨x,rfl,hx,q⟩:=h
    refine⟨_,pss_one (ps_ret (pe_and (pe_callB call_isinst rfl G.isinstance boot_isinstance (pa_cons (pv 0) (pa_cons (pe_bltn (v:=.ty "str") rfl G.str boot_str rfl) pa_nil)))
      (pe_one (pe_cmpR op_in_seq (pv 0) (pe_glob (v:=.ref aw) rfl ew rfl) (by rfl))))),?_⟩
    refine⟨_,rfl,_,_,_,_,true,rfl,rfl,.inl (.str x),rfl,true,rfl,iteT ⟨_,rfl,aw,_,rfl,.inr (tw H),rfl,rfl,?_⟩⟩
    rw[if_neg Bool.false_ne_true,in_texts,hx]
    exact q
theorem ok_needW0 (F:Fun K "need_way" "need_way" (top 16) f fd) (C1:Cal P w K mg base CX0 1 "is_way" ["thing"] sp_way0):FnOk P w K mg base CX0 2 f fd ["thing"] sp_needW0:=by
  refine F.ok (N:=["thing"]) ⟨rfl,rfl,rfl,by decide +kernel,rfl,by decide +kernel,by decide +kernel⟩ (fun vs H Q E h=>?_) (fun cdv A outer s H vs Q E hr h=>?_)
  · obtain⟨x,rfl,_⟩:=h
    rfl
  · obtain⟨x,rfl,hx,q⟩:=h
    exact⟨_,pss_one (ps_if (pt_not (pt_val (pe_cal C1 hr (by decide) pass0 (pa_cons (pv 0) pa_nil)))) pss_never pss_nil),_,rfl,x,rfl,hx,true,rfl,iteF q⟩
theorem ok_half (F:Fun K "half_goes_up" "half_goes_up" (top 17) f fd):FnOk P w K mg base CX0 1 f fd ["number","lesser","way"] sp_half:=by
  refine F.ok (N:=["number","lesser","way"]) ⟨rfl,rfl,rfl,by decide +kernel,rfl,by decide +kernel,by decide +kernel⟩ (fun vs H Q E h=>?_) (fun cdv A outer s H vs Q E hr h=>?_)
  · obtain⟨z,l,x,rfl,_⟩:=h
    rfl
  · obtain⟨z,l,x,rfl,q⟩:=h
    refine⟨_,(pss_cons (ps_if (pt_cmpR op_eq (pv 2) pe_str (nomark _)) (pss_one (ps_ret (pe_cmpR op_gt (pv 0) pe_int (nomark _)))) pss_nil)
        (pss_one (ps_ret (pe_cmpR op_eq (pe_op op_mod (pv 1) pe_int) pe_int (nomark _))))),?_⟩
    refine⟨_,rfl,rfl,_,rfl,ite2 (fun e=>?_) (fun e=>?_)⟩
    · rw[dStr] at e
      refine⟨_,rfl,_,_,rfl,rfl,?_⟩
      unfold halfUp at q
      rw[if_pos e] at q
      exact q
    · rw[dStr] at e
      refine⟨_,rfl,_,_,rfl,rfl,(by show (0:Int)<2;decide),rfl,?_⟩
      unfold halfUp at q
      rw[if_neg e] at q
      rw[show (decide (V.int (l%2)=V.int 1))=decide (l%2=1) from Bool.eq_iff_iff.mpr (dInt.trans decide_eq_true_iff.symm)]
      exact q
theorem ok_goes (F:Fun K "goes_up" "goes_up" (top 18) f fd) (N1:Num mg "HALF" 5000) (C1:Cal P w K mg base CX0 1 "half_goes_up" ["number","lesser","way"] sp_half):FnOk P w K mg base CX0 2 f fd ["number","lesser","rest","way"] sp_goes:=by
  obtain⟨t,eh⟩:=N1
  refine F.ok (N:=["number","lesser","rest","way"]) ⟨rfl,rfl,rfl,by decide +kernel,rfl,by decide +kernel,by decide +kernel⟩ (fun vs H Q E h=>?_) (fun cdv A outer s H vs Q E hr h=>?_)
  · obtain⟨z,l,r,x,rfl,_⟩:=h
    rfl
  · obtain⟨z,l,r,x,rfl,q⟩:=h
    refine⟨_,(pss_cons (ps_if (pt_cmpR op_eq (pv 3) pe_str (nomark _)) (pss_one (ps_ret pe_bl)) pss_nil)
        (pss_cons (ps_if (pt_cmpR op_eq (pv 3) pe_str (nomark _)) (pss_one (ps_ret (pe_cmpR op_gt (pv 2) pe_int (nomark _)))) pss_nil)
        (pss_cons (ps_if (pt_cmpR op_eq (pv 2) (pe_glob (v:=.int 5000) rfl eh ⟨t,rfl⟩) (nomark _)) (pss_one (ps_ret (pe_cal C1 hr (by decide) pass0 (pa_cons (pv 0) (pa_cons (pv 1) (pa_cons (pv 3) pa_nil)))))) pss_nil)
        (pss_one (ps_ret (pe_cmpR op_gt (pv 2) (pe_glob (v:=.int 5000) rfl eh ⟨t,rfl⟩) (nomark _))))))),?_⟩
    unfold goesUp at q
    refine⟨_,rfl,rfl,_,rfl,ite2 (fun e=>?_) (fun e=>?_)⟩
    · rw[dStr] at e
      rw[if_pos e] at q
      exact q
    rw[dStr] at e
    rw[if_neg e] at q
    refine⟨_,rfl,rfl,_,rfl,ite2 (fun e=>?_) (fun e=>?_)⟩
    · rw[dStr] at e
      rw[if_pos e] at q
      exact⟨_,rfl,_,_,rfl,rfl,q⟩
    rw[dStr] at e
    rw[if_neg e] at q
    refine⟨_,rfl,rfl,_,rfl,ite2 (fun e=>?_) (fun e=>?_)⟩
    · rw[dInt] at e
      rw[if_pos e] at q
      exact⟨_,rfl,_,rfl,_,rfl,_,_,_,rfl,q⟩
    · rw[dInt] at e
      rw[if_neg e] at q
      exact⟨_,rfl,_,_,rfl,rfl,q⟩
theorem ok_rnd0 (F:Fun K "rounded" "rounded" (top 19) f fd) (N1:Num mg "WHOLE" 10000) (C1:Cal P w K mg base CX0 2 "need_amount" ["thing"] sp_needA) (C2:Cal P w K mg base CX0 2 "need_way" ["thing"] sp_needW0) (C3:Cal P w K mg base CX0 2 "goes_up" ["number","lesser","rest","way"] sp_goes):FnOk P w K mg base CX0 3 f fd ["number","way"] sp_rnd0:=by
  obtain⟨t,eh⟩:=N1
  have nd:(["number","way","lesser","rest"]:List Str).Nodup:=by decide +kernel
  refine F.ok (N:=["number","way","lesser","rest"]) ⟨rfl,rfl,rfl,by decide +kernel,rfl,by decide +kernel,by decide +kernel⟩ (fun vs H Q E h=>?_) (fun cdv A outer s H vs Q E hr h=>?_)
  · obtain⟨z,x,rfl,_⟩:=h
    rfl
  · obtain⟨z,x,rfl,hx,q⟩:=h
    refine⟨_,(pss_cons (ps_expr (pe_cal C1 hr (by decide) pass0 (pa_cons (pv 0) pa_nil)))
        (pss_cons (ps_expr (pe_cal C2 hr (by decide) pass0 (pa_cons (pv 1) pa_nil)))
        (pss_cons (ps_set (i:=2) nd rfl (Or.inl rfl) (pe_op op_fdiv (pv 0) (pe_glob (v:=.int 10000) rfl eh ⟨t,rfl⟩)))
        (pss_cons (ps_set (i:=3) nd rfl (Or.inl rfl) (pe_op op_mod (pv 0) (pe_glob (v:=.int 10000) rfl eh ⟨t,rfl⟩)))
        (pss_cons (ps_if (pt_val (pe_cal C3 hr (by decide) pass0 (pa_cons (pv 0) (pa_cons (pv 2) (pa_cons (pv 3) (pa_cons (pv 1) pa_nil)))))) (pss_one (ps_ret (pe_op op_add (pv 2) pe_int))) pss_nil)
        (pss_one (ps_ret (pv 2)))))))),?_⟩
    refine⟨_,rfl,z,rfl,_,rfl,x,rfl,hx,_,rfl,_,_,rfl,rfl,⟨by decide,by decide⟩,_,rfl,_,_,rfl,rfl,(by show (0:Int)<10000;decide),?_⟩
    unfold rnd at q
    refine⟨_,rfl,_,rfl,_,rfl,_,rfl,z,_,_,x,rfl,_,rfl,ite2 (fun e=>?_) (fun e=>?_)⟩
    · rw[if_pos e] at q
      exact⟨_,rfl,_,_,rfl,rfl,q⟩
    · rw[if_neg e] at q
      exact⟨_,rfl,q⟩
theorem ok_share0 (F:Fun K "share_of" "share_of" (top 20) f fd) (C1:Cal P w K mg base CX0 2 "need_amount" ["thing"] sp_needA) (C2:Cal P w K mg base CX0 3 "is_parts" ["thing"] sp_parts0) (C3:Cal P w K mg base CX0 3 "rounded" ["number","way"] sp_rnd0):FnOk P w K mg base CX0 4 f fd ["amount","parts","way"] sp_share0:=by
  refine F.ok (N:=["amount","parts","way"]) ⟨rfl,rfl,rfl,by decide +kernel,rfl,by decide +kernel,by decide +kernel⟩ (fun vs H Q E h=>?_) (fun cdv A outer s H vs Q E hr h=>?_)
  · obtain⟨z,n,x,rfl,_⟩:=h
    rfl
  · obtain⟨z,n,x,rfl,n0,n1,hx,q⟩:=h
    exact⟨_,(pss_cons (ps_expr (pe_cal C1 hr (by decide) pass0 (pa_cons (pv 0) pa_nil)))
        (pss_cons (ps_if (pt_not (pt_val (pe_cal C2 hr (by decide) pass0 (pa_cons (pv 1) pa_nil)))) pss_never pss_nil)
        (pss_one (ps_ret (pe_cal C3 hr (by decide) pass0 (pa_cons (pe_op op_mul (pv 0) (pv 1)) (pa_cons (pv 2) pa_nil))))))),
      _,rfl,z,rfl,_,rfl,n,rfl,n0,n1,true,rfl,iteF ⟨_,rfl,_,rfl,_,_,rfl,rfl,.inr ⟨by omega,by omega⟩,_,rfl,_,x,rfl,hx,q⟩⟩
end
end K13
namespace K13
open PySem PySem.NumText L2 Pg
seal PE PA PT PW PS PSs PG PGs PI PIf PO PK
section
variable {P:Program} {w:World} {K:PySem.W.Frag} {mg:Str→Option Value} {base:Heap} {f:Addr} {fd:FuncData} {d:Nat→Addr} {cR:Addr}
theorem ok_rname0 (F:Fun K "is_rule_name" "is_rule_name" (top 39) f fd) (W:Tps K mg "NO_RULE_NAMES" noNames) (C1:Cal P w K mg base CX0 2 "is_name" ["thing"] sp_name):FnOk P w K mg base CX0 3 f fd ["thing"] sp_rname0:=by
  obtain⟨aw,ew,tw⟩:=W
  refine F.ok (N:=["thing"]) ⟨rfl,rfl,rfl,by decide +kernel,rfl,by decide +kernel,by decide +kernel⟩ (fun vs H Q E h=>?_) (fun cdv A outer s H vs Q E hr h=>?_)
  · obtain⟨z,rfl,_⟩:=h
    rfl
  · obtain⟨z,rfl,hz,q⟩:=h
    refine⟨_,pss_one (ps_ret (pe_and (pe_cal C1 hr (by decide) pass0 (pa_cons (pv 0) pa_nil)) (pe_one (pe_cmpR op_notIn_seq (pv 0) (pe_glob (v:=.ref aw) rfl ew rfl) (by rfl))))),?_⟩
    refine⟨_,rfl,z,rfl,hz.ok,fun H1 s1=>⟨true,rfl,iteT ⟨_,rfl,aw,_,rfl,.inr (tw H1),rfl,rfl,?_⟩⟩⟩
    rw[if_pos rfl,in_texts,hz.no]
    exact q H1 s1
theorem ok_ramt0 (F:Fun K "is_rule_amount" "is_rule_amount" (top 40) f fd) (N1:Num mg "MOST_AMOUNT" 1000000000000) (C1:Cal P w K mg base CX0 2 "is_number_within" ["thing","least","most"] (sp_within K)):FnOk P w K mg base CX0 3 f fd ["thing"] sp_ramt0:=by
  obtain⟨t,em⟩:=N1
  refine F.ok (N:=["thing"]) ⟨rfl,rfl,rfl,by decide +kernel,rfl,by decide +kernel,by decide +kernel⟩ (fun vs H Q E h=>?_) (fun cdv A outer s H vs Q E hr h=>?_)
  · obtain⟨z,rfl,_⟩:=h
    rfl
  · obtain⟨z,rfl,h0,q⟩:=h
    refine⟨_,pss_one (ps_ret (pe_cal C1 hr (by decide) pass0 (pa_cons (pv 0) (pa_cons pe_int (pa_cons (pe_glob (v:=.int 1000000000000) rfl em ⟨t,rfl⟩) pa_nil))))),_,rfl,_,0,1000000000000,rfl,.inl ⟨z,rfl,?_⟩⟩
    rw[show decide ((0:Int)≤z∧z≤1000000000000)=true from decide_eq_true h0]
    exact q
theorem ok_needR0 (F:Fun K "need_rule_amount" "need_rule_amount" (top 41) f fd) (C1:Cal P w K mg base CX0 3 "is_rule_amount" ["thing"] sp_ramt0):FnOk P w K mg base CX0 4 f fd ["thing"] sp_needR0:=by
  refine F.ok (N:=["thing"]) ⟨rfl,rfl,rfl,by decide +kernel,rfl,by decide +kernel,by decide +kernel⟩ (fun vs H Q E h=>?_) (fun cdv A outer s H vs Q E hr h=>?_)
  · obtain⟨x,rfl,_⟩:=h
    rfl
  · obtain⟨x,rfl,hx,q⟩:=h
    exact⟨_,pss_one (ps_if (pt_not (pt_val (pe_cal C1 hr (by decide) pass0 (pa_cons (pv 0) pa_nil)))) pss_never pss_nil),_,rfl,x,rfl,hx,true,rfl,iteF q⟩
theorem ok_needS0 (F:Fun K "need_share" "need_share" (top 42) f fd) (C1:Cal P w K mg base CX0 3 "is_parts" ["thing"] sp_parts0) (C2:Cal P w K mg base CX0 1 "is_way" ["thing"] sp_way0):FnOk P w K mg base CX0 4 f fd ["parts","way"] sp_needS0:=by
  refine F.ok (N:=["parts","way"]) ⟨rfl,rfl,rfl,by decide +kernel,rfl,by decide +kernel,by decide +kernel⟩ (fun vs H Q E h=>?_) (fun cdv A outer s H vs Q E hr h=>?_)
  · obtain⟨p,x,rfl,_⟩:=h
    rfl
  · obtain⟨p,x,rfl,hp,hx,q⟩:=h
    exact⟨_,pss_cons (ps_if (pt_not (pt_val (pe_cal C1 hr (by decide) pass0 (pa_cons (pv 0) pa_nil)))) pss_never pss_nil) (pss_one (ps_if (pt_not (pt_val (pe_cal C2 hr (by decide) pass0 (pa_cons (pv 1) pa_nil)))) pss_never pss_nil)),_,rfl,p,rfl,hp.1,hp.2,true,rfl,iteF ⟨_,rfl,x,rfl,hx,true,rfl,iteF q⟩⟩
theorem ok_pos (F:Fun K "months_with_base" "months_with_base" (top 43) f fd) (G:Glb mg):FnOk P w K mg base CX0 1 f fd ["bases"] (sp_pos K):=by
  have nc:(["base"]:List Str).Nodup:=by decide +kernel
  refine F.ok (N:=["bases"]) ⟨rfl,rfl,rfl,by decide +kernel,rfl,by decide +kernel,by decide +kernel⟩ (fun vs H Q E h=>?_) (fun cdv A outer s H vs Q E hr h=>?_)
  · obtain⟨b,bs,rfl,_⟩:=h
    rfl
  · obtain⟨b,bs,rfl,hb,bl,q⟩:=h
    refine' ⟨_,pss_one (ps_ret (pe_callB call_len_seq rfl G.len boot_len (pa_cons ?comp pa_nil))),?main⟩
    case comp =>
      refine' pe_compI (Nc:=["base"]) (cl:=[]) (src:=[none]) (wi:=iList K (tVar 0)) (g:=gName 0) (tt:=tTest (tOp (rI0 fun i j=>.bl (decide (j<i))) (tVar 0) (tC (.int 0)))) (te:=tVar 0)
        ⟨rfl,rfl,by decide +kernel,by decide +kernel,(fun x c z=>nomatch z),has_of (by rfl),frm_none frm_nil,rfl⟩ rfl (pi_list (pv 0)) ?hb
      case hb =>
        intro fp C' s' H'
        exact⟨pg_name (i:=0) nc rfl (Or.inl rfl),pif_one (pt_cmpR op_gt (pv 0) pe_int (nomark _)),pv 0⟩
    refine⟨_,rfl,b,rfl,⟨_,hb⟩,fun D hD=>comp_atF (walk_list hb) (int_items bs) hD (by rw[sizeLine_eq];omega) (fun i=>decide (0<i)) V.int (fun i hi v H1 R s1 e1 r=>?_) (fun i hi v H1 R s1 e1 r=>?_) (fun H1 s1 e1=>?_)⟩
    · subst e1
      exact⟨_,rfl,_,_,rfl,rfl,_,rfl,r _ (Same.refl _)⟩
    · subst e1
      exact⟨_,rfl,r _ (Same.refl _)⟩
    · refine⟨D,_,rfl,.inl (SqL.of e1),?_⟩
      rw[List.length_map]
      exact q H1 s1
end
end K13
namespace K13
open PySem PySem.NumText L2 Pg
seal PE PA PT PW PS PSs PG PGs PI PIf PO PK
section
variable {P:Program} {w:World} {K:PySem.W.Frag} {mg:Str→Option Value} {base:Heap} {f:Addr} {fd:FuncData} {d:Nat→Addr} {cR:Addr}
theorem ok_kinit0 {Cs:Nat→Addr} (F:Fun K "__init__" "Flat.__init__" (inClass (top 45) 0) f fd) (RK:RulK K Cs) (CR:CalC P w K mg base CX0 4 "Rule" "__init__" ["self","name"] (sp_rinit Cs)) (C1:Cal P w K mg base CX0 4 "need_rule_amount" ["thing"] sp_needR0):FnOk P w K mg base CX0 5 f fd ["self","name","amount"] (sp_kinit 0 Cs):=by
  refine F.ok (N:=["self","name","amount"]) ⟨rfl,rfl,rfl,by decide +kernel,rfl,by decide +kernel,by decide +kernel⟩ (fun vs H Q E h=>?_) (fun cdv A outer s H vs Q E hr h=>?_)
  · obtain⟨o,dx,r,rfl,hk,pl,_⟩:=h
    cases pl <;> first | rfl | cases hk
  · obtain⟨o,dx,r,rfl,hk,pl,ho,q⟩:=h
    cases pl with
    | flat hn ha =>
      refine⟨_,pss_cons (ps_expr (pe_calC CR hr (by decide) pass0 (pa_cons (pv 0) (pa_cons (pv 1) pa_nil)))) (pss_cons (ps_expr (pe_cal C1 hr (by decide) pass0 (pa_cons (pv 2) pa_nil))) (pss_one (ps_fld (pv 0) (pv 2) rfl))),?_⟩
      refine⟨_,rfl,_,rfl,0,o,dx,_,rfl,by decide,ho,hn,fun H1 f1 e1=>⟨_,rfl,_,rfl,ha,_,rfl,_,rfl,o,_,dx,_,rfl,e1,RK.cls 0 (by decide),RK.no 0 (by decide) "amount" (by decide),by show 1<1000;decide,?_⟩⟩
      rw[pr2 _ _ _ (by decide +kernel)]
      exact q _ (fun b x hb ne=>by rw[upd_ne ne];exact f1 _ _ hb ne) upd_same
    | share hn hp hw=>cases hk
    | capped hn hp ha hw=>cases hk
    | least hn hp ha hw=>cases hk
theorem ok_kinit1 {Cs:Nat→Addr} (F:Fun K "__init__" "Share.__init__" (inClass (top 46) 0) f fd) (RK:RulK K Cs) (CR:CalC P w K mg base CX0 4 "Rule" "__init__" ["self","name"] (sp_rinit Cs)) (C1:Cal P w K mg base CX0 4 "need_share" ["parts","way"] sp_needS0):FnOk P w K mg base CX0 5 f fd ["self","name","parts","way"] (sp_kinit 1 Cs):=by
  refine F.ok (N:=["self","name","parts","way"]) ⟨rfl,rfl,rfl,by decide +kernel,rfl,by decide +kernel,by decide +kernel⟩ (fun vs H Q E h=>?_) (fun cdv A outer s H vs Q E hr h=>?_)
  · obtain⟨o,dx,r,rfl,hk,pl,_⟩:=h
    cases pl <;> first | rfl | cases hk
  · obtain⟨o,dx,r,rfl,hk,pl,ho,q⟩:=h
    cases pl with
    | share hn hp hw =>
      refine⟨_,pss_cons (ps_expr (pe_calC CR hr (by decide) pass0 (pa_cons (pv 0) (pa_cons (pv 1) pa_nil)))) (pss_cons (ps_expr (pe_cal C1 hr (by decide) pass0 (pa_cons (pv 2) (pa_cons (pv 3) pa_nil)))) (pss_cons (ps_fld (pv 0) (pv 2) rfl) (pss_one (ps_fld (pv 0) (pv 3) rfl)))),?_⟩
      refine⟨_,rfl,_,rfl,1,o,dx,_,rfl,by decide,ho,hn,fun H1 f1 e1=>⟨_,rfl,_,rfl,_,_,rfl,hp,hw,_,rfl,_,rfl,o,_,dx,_,rfl,e1,RK.cls 1 (by decide),RK.no 1 (by decide) "parts" (by decide),by show 1<1000;decide,?_⟩⟩
      rw[pr2 _ _ _ (by decide +kernel)]
      refine⟨_,rfl,_,rfl,o,_,dx,_,rfl,upd_same,RK.cls 1 (by decide),RK.no 1 (by decide) "way" (by decide),by show 2<1000;decide,?_⟩
      rw[pr3 _ _ _ _ _ (by decide +kernel) (by decide +kernel)]
      exact q _ (fun b x hb ne=>by rw[upd_ne ne,upd_ne ne];exact f1 _ _ hb ne) upd_same
    | flat hn ha=>cases hk
    | capped hn hp ha hw=>cases hk
    | least hn hp ha hw=>cases hk
theorem ok_kinit2 {Cs:Nat→Addr} (F:Fun K "__init__" "Capped.__init__" (inClass (top 47) 0) f fd) (RK:RulK K Cs) (CR:CalC P w K mg base CX0 4 "Rule" "__init__" ["self","name"] (sp_rinit Cs)) (C1:Cal P w K mg base CX0 4 "need_share" ["parts","way"] sp_needS0) (C2:Cal P w K mg base CX0 4 "need_rule_amount" ["thing"] sp_needR0):FnOk P w K mg base CX0 5 f fd ["self","name","parts","most","way"] (sp_kinit 2 Cs):=by
  refine F.ok (N:=["self","name","parts","most","way"]) ⟨rfl,rfl,rfl,by decide +kernel,rfl,by decide +kernel,by decide +kernel⟩ (fun vs H Q E h=>?_) (fun cdv A outer s H vs Q E hr h=>?_)
  · obtain⟨o,dx,r,rfl,hk,pl,_⟩:=h
    cases pl <;> first | rfl | cases hk
  · obtain⟨o,dx,r,rfl,hk,pl,ho,q⟩:=h
    cases pl with
    | capped hn hp ha hw =>
      refine⟨_,pss_cons (ps_expr (pe_calC CR hr (by decide) pass0 (pa_cons (pv 0) (pa_cons (pv 1) pa_nil)))) (pss_cons (ps_expr (pe_cal C1 hr (by decide) pass0 (pa_cons (pv 2) (pa_cons (pv 4) pa_nil)))) (pss_cons (ps_expr (pe_cal C2 hr (by decide) pass0 (pa_cons (pv 3) pa_nil))) (pss_cons (ps_fld (pv 0) (pv 2) rfl) (pss_cons (ps_fld (pv 0) (pv 3) rfl) (pss_one (ps_fld (pv 0) (pv 4) rfl)))))),?_⟩
      refine⟨_,rfl,_,rfl,2,o,dx,_,rfl,by decide,ho,hn,fun H1 f1 e1=>⟨_,rfl,_,rfl,_,_,rfl,hp,hw,_,rfl,_,rfl,ha,_,rfl,_,rfl,o,_,dx,_,rfl,e1,RK.cls 2 (by decide),RK.no 2 (by decide) "parts" (by decide),by show 1<1000;decide,?_⟩⟩
      rw[pr2 _ _ _ (by decide +kernel)]
      refine⟨_,rfl,_,rfl,o,_,dx,_,rfl,upd_same,RK.cls 2 (by decide),RK.no 2 (by decide) "most" (by decide),by show 2<1000;decide,?_⟩
      rw[pr3 _ _ _ _ _ (by decide +kernel) (by decide +kernel)]
      refine⟨_,rfl,_,rfl,o,_,dx,_,rfl,upd_same,RK.cls 2 (by decide),RK.no 2 (by decide) "way" (by decide),by show 3<1000;decide,?_⟩
      rw[pr4 _ _ _ _ _ _ _ (by decide +kernel) (by decide +kernel) (by decide +kernel)]
      exact q _ (fun b x hb ne=>by rw[upd_ne ne,upd_ne ne,upd_ne ne];exact f1 _ _ hb ne) upd_same
    | flat hn ha=>cases hk
    | share hn hp hw=>cases hk
    | least hn hp ha hw=>cases hk
theorem ok_kinit3 {Cs:Nat→Addr} (F:Fun K "__init__" "Least.__init__" (inClass (top 48) 0) f fd) (RK:RulK K Cs) (CR:CalC P w K mg base CX0 4 "Rule" "__init__" ["self","name"] (sp_rinit Cs)) (C1:Cal P w K mg base CX0 4 "need_share" ["parts","way"] sp_needS0) (C2:Cal P w K mg base CX0 4 "need_rule_amount" ["thing"] sp_needR0):FnOk P w K mg base CX0 5 f fd ["self","name","parts","least","way"] (sp_kinit 3 Cs):=by
  refine F.ok (N:=["self","name","parts","least","way"]) ⟨rfl,rfl,rfl,by decide +kernel,rfl,by decide +kernel,by decide +kernel⟩ (fun vs H Q E h=>?_) (fun cdv A outer s H vs Q E hr h=>?_)
  · obtain⟨o,dx,r,rfl,hk,pl,_⟩:=h
    cases pl <;> first | rfl | cases hk
  · obtain⟨o,dx,r,rfl,hk,pl,ho,q⟩:=h
    cases pl with
    | least hn hp ha hw =>
      refine⟨_,pss_cons (ps_expr (pe_calC CR hr (by decide) pass0 (pa_cons (pv 0) (pa_cons (pv 1) pa_nil)))) (pss_cons (ps_expr (pe_cal C1 hr (by decide) pass0 (pa_cons (pv 2) (pa_cons (pv 4) pa_nil)))) (pss_cons (ps_expr (pe_cal C2 hr (by decide) pass0 (pa_cons (pv 3) pa_nil))) (pss_cons (ps_fld (pv 0) (pv 2) rfl) (pss_cons (ps_fld (pv 0) (pv 3) rfl) (pss_one (ps_fld (pv 0) (pv 4) rfl)))))),?_⟩
      refine⟨_,rfl,_,rfl,3,o,dx,_,rfl,by decide,ho,hn,fun H1 f1 e1=>⟨_,rfl,_,rfl,_,_,rfl,hp,hw,_,rfl,_,rfl,ha,_,rfl,_,rfl,o,_,dx,_,rfl,e1,RK.cls 3 (by decide),RK.no 3 (by decide) "parts" (by decide),by show 1<1000;decide,?_⟩⟩
      rw[pr2 _ _ _ (by decide +kernel)]
      refine⟨_,rfl,_,rfl,o,_,dx,_,rfl,upd_same,RK.cls 3 (by decide),RK.no 3 (by decide) "least" (by decide),by show 2<1000;decide,?_⟩
      rw[pr3 _ _ _ _ _ (by decide +kernel) (by decide +kernel)]
      refine⟨_,rfl,_,rfl,o,_,dx,_,rfl,upd_same,RK.cls 3 (by decide),RK.no 3 (by decide) "way" (by decide),by show 3<1000;decide,?_⟩
      rw[pr4 _ _ _ _ _ _ _ (by decide +kernel) (by decide +kernel) (by decide +kernel)]
      exact q _ (fun b x hb ne=>by rw[upd_ne ne,upd_ne ne,upd_ne ne];exact f1 _ _ hb ne) upd_same
    | flat hn ha=>cases hk
    | share hn hp hw=>cases hk
    | capped hn hp ha hw=>cases hk
end
end K13
namespace K13
open PySem PySem.NumText L2 Pg
seal PE PA PT PW PS PSs PG PGs PI PIf PO PK
section
variable {P:Program} {w:World} {K:PySem.W.Frag} {mg:Str→Option Value} {base:Heap} {f:Addr} {fd:FuncData} {d:Nat→Addr} {cR:Addr}
theorem ok_unt0 {Cs:Nat→Addr} (F:Fun K "until" "Flat.until" (inClass (top 45) 1) f fd) (RK:RulK K Cs) (C1:Cal P w K mg base CX0 1 "months_with_base" ["bases"] (sp_pos K)):FnOk P w K mg base CX0 5 f fd ["self","bases"] (sp_unt K 0 Cs):=by
  refine F.ok (N:=["self","bases"]) ⟨rfl,rfl,rfl,by decide +kernel,rfl,by decide +kernel,by decide +kernel⟩ (fun vs H Q E h=>?_) (fun cdv A outer s H vs Q E hr h=>?_)
  · obtain⟨v,r,b,bs,rfl,_⟩:=h
    rfl
  · obtain⟨v,r,b,bs,rfl,hk,⟨o,dx,rfl,ho⟩,pl,hb,bl,q⟩:=h
    cases pl with
    | flat hn ha =>
      refine⟨_,pss_one (ps_ret (pe_op op_mul (pe_fld (pv 0) rfl) (pe_cal C1 hr (by decide) pass0 (pa_cons (pv 1) pa_nil)))),?_⟩
      have a1:=ha.2
      have a0:=ha.1
      exact⟨_,rfl,o,_,dx,_,_,rfl,ho,RK.cls 0 (by decide),RK.no 0 (by decide) "amount" (by decide),rfl,_,rfl,b,bs,rfl,hb,bl,fun H1 s1=>⟨_,_,rfl,rfl,.inl ⟨by omega,by omega⟩,q H1 s1⟩⟩
    | share hn hp hw=>cases hk
    | capped hn hp ha hw=>cases hk
    | least hn hp ha hw=>cases hk
theorem ok_unt1 {Cs:Nat→Addr} (F:Fun K "until" "Share.until" (inClass (top 46) 1) f fd) (G:Glb mg) (RK:RulK K Cs) (C1:Cal P w K mg base CX0 4 "share_of" ["amount","parts","way"] sp_share0):FnOk P w K mg base CX0 5 f fd ["self","bases"] (sp_unt K 1 Cs):=by
  refine F.ok (N:=["self","bases"]) ⟨rfl,rfl,rfl,by decide +kernel,rfl,by decide +kernel,by decide +kernel⟩ (fun vs H Q E h=>?_) (fun cdv A outer s H vs Q E hr h=>?_)
  · obtain⟨v,r,b,bs,rfl,_⟩:=h
    rfl
  · obtain⟨v,r,b,bs,rfl,hk,⟨o,dx,rfl,ho⟩,pl,hb,bl,q⟩:=h
    cases pl with
    | share hn hp hw =>
      refine⟨_,pss_one (ps_ret (pe_cal C1 hr (by decide) pass0 (pa_cons (pe_callB (call_sumL rfl) rfl G.sum boot_sum (pa_cons (pv 1) pa_nil)) (pa_cons (pe_fld (pv 0) rfl) (pa_cons (pe_fld (pv 0) rfl) pa_nil))))),?_⟩
      exact⟨_,rfl,b,bs,rfl,hb,_,rfl,o,_,dx,_,_,rfl,ho,RK.cls 1 (by decide),RK.no 1 (by decide) "parts" (by decide),rfl,_,rfl,o,_,dx,_,_,rfl,ho,RK.cls 1 (by decide),RK.no 1 (by decide) "way" (by decide),rfl,_,_,_,rfl,hp.1,hp.2,hw,q H (Same.refl _)⟩
    | flat hn ha=>cases hk
    | capped hn hp ha hw=>cases hk
    | least hn hp ha hw=>cases hk
theorem ok_unt2 {Cs:Nat→Addr} (F:Fun K "until" "Capped.until" (inClass (top 47) 1) f fd) (G:Glb mg) (RK:RulK K Cs) (C1:Cal P w K mg base CX0 4 "share_of" ["amount","parts","way"] sp_share0):FnOk P w K mg base CX0 5 f fd ["self","bases"] (sp_unt K 2 Cs):=by
  refine F.ok (N:=["self","bases"]) ⟨rfl,rfl,rfl,by decide +kernel,rfl,by decide +kernel,by decide +kernel⟩ (fun vs H Q E h=>?_) (fun cdv A outer s H vs Q E hr h=>?_)
  · obtain⟨v,r,b,bs,rfl,_⟩:=h
    rfl
  · obtain⟨v,r,b,bs,rfl,hk,⟨o,dx,rfl,ho⟩,pl,hb,bl,q⟩:=h
    cases pl with
    | capped hn hp ha hw =>
      refine⟨_,pss_one (ps_ret (pe_cal C1 hr (by decide) pass0 (pa_cons (pe_callB (call_min2 rfl) rfl G.min PyProof.Rows.boot_min (pa_cons (pe_callB (call_sumL rfl) rfl G.sum boot_sum (pa_cons (pv 1) pa_nil)) (pa_cons (pe_fld (pv 0) rfl) pa_nil))) (pa_cons (pe_fld (pv 0) rfl) (pa_cons (pe_fld (pv 0) rfl) pa_nil))))),?_⟩
      exact⟨_,rfl,b,bs,rfl,hb,_,rfl,o,_,dx,_,_,rfl,ho,RK.cls 2 (by decide),RK.no 2 (by decide) "most" (by decide),rfl,_,_,rfl,_,rfl,o,_,dx,_,_,rfl,ho,RK.cls 2 (by decide),RK.no 2 (by decide) "parts" (by decide),rfl,_,rfl,o,_,dx,_,_,rfl,ho,RK.cls 2 (by decide),RK.no 2 (by decide) "way" (by decide),rfl,_,_,_,rfl,hp.1,hp.2,hw,q H (Same.refl _)⟩
    | flat hn ha=>cases hk
    | share hn hp hw=>cases hk
    | least hn hp ha hw=>cases hk
theorem ok_unt3 {Cs:Nat→Addr} (F:Fun K "until" "Least.until" (inClass (top 48) 1) f fd) (G:Glb mg) (RK:RulK K Cs) (C1:Cal P w K mg base CX0 4 "share_of" ["amount","parts","way"] sp_share0) (C2:Cal P w K mg base CX0 1 "months_with_base" ["bases"] (sp_pos K)):FnOk P w K mg base CX0 5 f fd ["self","bases"] (sp_unt K 3 Cs):=by
  have nd:(["self","bases","share"]:List Str).Nodup:=by decide +kernel
  refine F.ok (N:=["self","bases","share"]) ⟨rfl,rfl,rfl,by decide +kernel,rfl,by decide +kernel,by decide +kernel⟩ (fun vs H Q E h=>?_) (fun cdv A outer s H vs Q E hr h=>?_)
  · obtain⟨v,r,b,bs,rfl,_⟩:=h
    rfl
  · obtain⟨v,r,b,bs,rfl,hk,⟨o,dx,rfl,ho⟩,pl,hb,bl,q⟩:=h
    cases pl with
    | least hn hp ha hw =>
      have a1:=ha.2
      have a0:=ha.1
      refine⟨_,pss_cons (ps_set (i:=2) nd rfl (Or.inl rfl) (pe_cal C1 hr (by decide) pass0 (pa_cons (pe_callB (call_sumL rfl) rfl G.sum boot_sum (pa_cons (pv 1) pa_nil)) (pa_cons (pe_fld (pv 0) rfl) (pa_cons (pe_fld (pv 0) rfl) pa_nil)))))
        (pss_one (ps_ret (pe_callB (call_max2 rfl) rfl G.max PyProof.Rows.boot_max (pa_cons (pv 2) (pa_cons (pe_op op_mul (pe_fld (pv 0) rfl) (pe_cal C2 hr (by decide) pass0 (pa_cons (pv 1) pa_nil))) pa_nil))))),?_⟩
      exact⟨_,rfl,b,bs,rfl,hb,_,rfl,o,_,dx,_,_,rfl,ho,RK.cls 3 (by decide),RK.no 3 (by decide) "parts" (by decide),rfl,_,rfl,o,_,dx,_,_,rfl,ho,RK.cls 3 (by decide),RK.no 3 (by decide) "way" (by decide),rfl,_,_,_,rfl,hp.1,hp.2,hw,
        _,rfl,_,rfl,o,_,dx,_,_,rfl,ho,RK.cls 3 (by decide),RK.no 3 (by decide) "least" (by decide),rfl,_,rfl,b,bs,rfl,hb,bl,fun H1 s1=>⟨_,_,rfl,rfl,.inl ⟨by omega,by omega⟩,_,_,rfl,q H1 s1⟩⟩
    | flat hn ha=>cases hk
    | share hn hp hw=>cases hk
    | capped hn hp ha hw=>cases hk
end
end K13
namespace L2
open PySem PySem.Spec PyProof.Rows
section
variable {X:Cx} {pins:List (Addr × Obj)} {σ:St} {H:Hp} {s:Shared} {d:Addr} {kvs:List (Key × V)}
end
noncomputable def Itd (d:Addr) (o:Obj) (kvs:List (Key × V)):It :=
  ⟨fun i H=>H d=some (.frz o (.dK kvs))∧i<kvs.length,fun i H x H'=>H'=H∧∃ p,kvs[i]? = some p∧x=kV p.1,fun i H=>H d=some (.frz o (.dK kvs))∧kvs.length≤i⟩
noncomputable def iDict (tl:TE):TI:=fun σ H R=>tl σ H fun x H1=>∃ d o kvs,x = .ref d∧H1 d=some (.frz o (.dK kvs))∧R (Itd d o kvs) H1
section
variable {X:Cx}
inductive Ty4 (H:Hp):V→Value→Prop where
  | int (i:Int):Ty4 H (.int i) (.type "int")
  | str (x:Str):Ty4 H (.str x) (.type "str")
  | lst {a:Addr} {xs:List V} (e:H a=some (.lst xs)):Ty4 H (.ref a) (.type "list")
  | tup {a:Addr} {xs:List V} (e:H a=some (.tup xs)):Ty4 H (.ref a) (.type "tuple")
noncomputable def isT:Value→Bool
  | .bool b=>b
  | _=>false
theorem fm_some {α β:Type} {f:α→Option β} {g:α→β} (l:List α) (h:∀ k∈l,f k=some (g k)):l.filterMap f=l.map g:=by
  induction l with
  | nil=>rfl
  | cons a r ih =>
    rw[List.filterMap_cons,h a List.mem_cons_self,List.map_cons,ih fun k hk=>h k (List.mem_cons_of_mem _ hk)]
theorem rev_pick (its:List Value):slicePick its.toArray none none (some (-1))=its.reverse.toArray:=by
  have e1:sliceBounds none none (some (-1)) its.toArray.size=((its.length:Int) - 1,-1,-1):=by
    unfold sliceBounds
    simp
  have e2:sliceRange ((its.length:Int) - 1) (-1) (-1)=(List.range its.length).map fun k=>its.length - 1 - k:=by
    unfold sliceRange
    have c:(if (-1:Int) > 0 then (if (its.length:Int) - 1 < -1 then (-1 - ((its.length:Int) - 1) + -1 - 1) / -1 else 0) else if (its.length:Int) - 1 > -1 then ((its.length:Int) - 1 - -1 - -1 - 1)/(- -1) else 0).toNat=its.length:=by
      rw[if_neg (by decide)]
      split
      · rw[show (- -1:Int)=1 by decide,Int.ediv_one]
        omega
      · omega
    simp only[c]
    refine List.map_congr_left fun k hk=>?_
    have:=List.mem_range.mp hk
    omega
  unfold slicePick
  rw[e1]
  show ((sliceRange ((its.length:Int) - 1) (-1) (-1)).filterMap (its.toArray[·]?)).toArray=_
  rw[e2,List.filterMap_map]
  congr 1
  apply List.ext_getElem?
  intro i
  have e3:(List.range its.length).filterMap ((its.toArray[·]?) ∘ fun k=>its.length - 1 - k)=(List.range its.length).map fun k=>its.getD (its.length - 1 - k) .none:=by
    refine fm_some _ fun k hk=>?_
    have:=List.mem_range.mp hk
    have hl:its.length - 1 - k<its.length:=by omega
    show its.toArray[its.length - 1 - k]? = some _
    rw[List.getElem?_toArray,List.getD_eq_getElem?_getD,List.getElem?_eq_getElem hl]
    rfl
  rw[e3,List.getElem?_map]
  by_cases h:i<its.length
  · rw[List.getElem?_range h,List.getElem?_reverse h,Option.map_some,List.getD_eq_getElem?_getD,List.getElem?_eq_getElem (show its.length - 1 - i<its.length by omega)]
    rfl
  · rw[List.getElem?_eq_none (by simpa using h),List.getElem?_eq_none (by simpa using h)]
    rfl
theorem pe_rev {e st:Expr} {te ts:TE} {p2 pos:Pos} (he:PE X e te) (hst:PE X st ts) :
    PE X (.Subscript e (.Slice none none (some st) p2) pos) (fun σ H Q=>te σ H fun x H1=>ts σ H1 fun y H2=>y = .int (-1)∧∃ a xs,x = .ref a∧SqL X.K H2 a xs∧New H2 (.lst xs.reverse) Q):=by
  intro pins s σ H Q I h
  refine Subscript_ (thn (he pins s σ H _ I h) fun v s1 ⟨x,H1,I1,r1,q1⟩=>?_)
  refine wpAny_Slice ?_
  rw[evalPart_none]
  refine wpAny_pure (wpAny_pure ?_)
  rw[evalPart_some]
  refine thn (hst pins s1 σ H1 _ I1 q1) fun vs s4 ⟨y,H4,I4,r4,ey,a,xs,ex,hx,q⟩=>?_
  subst ey ex
  cases r1
  obtain⟨t,rfl⟩:=r4
  have I5:Inv X pins σ H4 { s4 with heap:=s4.heap.push { cls:=.type "slice",data:=.fields #[.none,.none,.int (-1) t] } }:=I4.kept (t':=s4.toks) fun b ob q=>Heap.get?_push_of_some _ q
  obtain⟨its,r,ht,hz⟩:=I5.list hx
  have hlen:=r.length
  show wpAny (model X.prog X.w) X.A (subscriptTail e (.Slice none none (some st) p2) (.ref a) (.ref s4.heap.objs.size)) (EP X pins σ Q) X.xe { s4 with heap:=s4.heap.push { cls:=.type "slice",data:=.fields #[.none,.none,.int (-1) t] } }
  refine tail_any (ops:=[.ref a,.ref s4.heap.objs.size]) (T:="list") ht.isList.typeIs slot_list_getitem.lookup ?_ (by with_unfolding_all rfl)
  refine wpAny_getItem_list_slice ht.isList (Heap.IsSliceOf.new ..) .none .none (.int (-1) t) (by decide) ?_ (by rw[List.size_toArray];omega)
  rw[rev_pick]
  refine⟨.ref _,_,I5.laid (t':=s4.toks) (o:=.lst xs.reverse) (fun b ob q=>Heap.get?_push_of_some _ q) (Nat.le_refl _) ?_,rfl,q.at (I5.hok.fresh (Nat.le_refl _))⟩
  exact⟨by rw[List.length_reverse];exact hz,_,0,r.reverse,Heap.get?_push_size _ rfl⟩
end
inductive Ex4 {α β γ δ:Type} (p:α→β→γ→δ→Prop):Prop where
  | mk (a:α) (b:β) (c:γ) (d:δ) (h:p a b c d):Ex4 p
inductive Ex2 {α β:Type} (p:α→β→Prop):Prop where
  | mk (a:α) (b:β) (h:p a b):Ex2 p
inductive An4 (a b c d:Prop):Prop where
  | mk (h1:a) (h2:b) (h3:c) (h4:d):An4 a b c d
section
variable {J:It} {D:Addr} {tt:TT} {te:TE} {fin:List V→Hp→Prop} {σ:St} {H:Hp} {ys:List V} {α:Type} {xs:List α} {P:Hp→V→α→Prop} {K:PySem.W.Frag}
theorem snoc_new {H' H3:Hp} {zs:List V} {cs:List (List V)} {t:Addr} {c:List V} (G:TupsAt H' zs cs) (hd:H' D=some (.lst zs)) (s3:Same H' H3) (e3:H3 t=some (.tup c)):TupsAt (upd H3 D (.lst (zs++[.ref t]))) (zs++[.ref t]) (cs++[c]):=by
  refine TupsAt.snoc ((G.same s3).upd fun c z=>?_) ?_
  · rw[s3 _ _ hd] at z
    cases z
  · rw[upd_ne (ne_of e3 (s3 _ _ hd) (by intro z;cases z))]
    exact e3
theorem comp_newN (W:Walk J H ys) (T:ItemsAt H ys xs P) (hD:H D=none) (hz:xs.length<sizeLine) (ψ:α→List V)
    (he:∀ x∈xs,∀ v H' R,Same H H'→P H' v x→New H' (.tup (ψ x)) R→te (σ.set 0 (some v)) H' R)
    (hf:∀ zs H',Same H H'→H' D=some (.lst zs)→TupsAt H' zs (xs.map ψ)→fin zs H'):tTurnsI J D (gName 0) tNoIf te fin σ (upd H D (.lst [])):=by
  refine comp_walk W hD (fun i zs H'=>TupsAt H' zs ((xs.take i).map ψ)) (fun σ'=>∀ x,σ'.set 0 (some x) = σ.set 0 (some x)) (fun _=>rfl) TupsAt.nil ?_ ?_
  · rintro i y zs σ' H' hy hσ s hd hl G
    obtain⟨x,hx,hP⟩:=T.at_ i y hy
    have tk:xs.take (i+1)=xs.take i++[x]:=by rw[List.take_add_one,hx];rfl
    have hi:i<xs.length:=(List.getElem?_eq_some_iff.mp hx).1
    have hσ2:∀ z,(σ'.set 0 (some y)).set 0 (some z) = σ.set 0 (some z):=fun z=>by rw[List.set_set];exact hσ z
    unfold cTurn gName
    dsimp only
    refine noIf ?_
    rw[hσ y] at hσ2 ⊢
    refine he x (List.mem_of_getElem? hx) y _ _ s (hP _ s) fun t H3 s3 n3 e3=>⟨s3 _ _ hd,by omega,hσ2,fun b o z=>?_,upd_same,?_,?_⟩
    · rw[upd_ne (ne_of_none z hD)]
      exact s3 _ _ (s _ _ z)
    · rw[List.length_append,List.length_singleton];omega
    · rw[tk,List.map_append]
      exact snoc_new G hd s3 e3
  · rintro zs H' s hd hl G
    rw[T.len,List.take_length] at G
    exact hf zs H' s hd G
end
theorem ItemsAt.same {α:Type} {H H':Hp} {ys:List V} {xs:List α} {P:Hp→V→α→Prop} (T:ItemsAt H ys xs P) (s:Same H H'):ItemsAt H' ys xs P:=⟨T.len,fun i y e=>by
  obtain⟨x,h1,h2⟩:=T.at_ i y e
  exact⟨x,h1,fun H'' s'=>h2 H'' (s.trans s')⟩⟩
section
variable {K:PySem.W.Frag} {a b:Addr} {xs ys:List V} {g:TG} {tb:TS} {D:Ends} {σ:St} {H:Hp} {lo:Int} {n:Nat}
noncomputable abbrev ForW (J:It) (g:TG) (tb:TS) (D:Ends) (σ:St) (H:Hp):Prop:=∃ W:Nat→Nat→St→Hp→Prop,(∃ m,W 0 m σ H)∧∀ i m σ H,W i m σ H →
      (J.stop i H∧D.nx σ H)∨(J.go i H∧∃ N:St→Hp→Prop,(∀ σ' H',N σ' H'→∃ m',m'<m∧W (i+1) m' σ' H')∧∀ x H',J.yld i H x H'→g x σ H' fun σ2 H2=>tb { D with nx:=N,ct:=N,bk:=D.nx } σ2 H2)
theorem for_tup2 (Pv:Nat→St→Hp→Prop) (h0:Pv 0 σ H) (hl:∀ i σ H,i≤xs.length→Pv i σ H→SqT K H a xs)
    (hs:∀ i x σ H,xs[i]? = some x→Pv i σ H→∀ E:Ends,(∀ σ' H',Pv (i+1) σ' H'→E.nx σ' H')→g x σ H fun σ2 H2=>tb E σ2 H2) (hd:∀ σ H,Pv xs.length σ H→D.nx σ H):ForW (Itt K a) g tb D σ H :=
  for_tup Pv h0 hl (fun i x σ H hx p=>hs i x σ H hx p _ fun _ _ h=>h) hd
theorem for_range2 (Pv:Nat→St→Hp→Prop) (h0:Pv 0 σ H)
    (hs:∀ (i:Nat) σ H,i<n→Pv i σ H→∀ E:Ends,(∀ σ' H',Pv (i+1) σ' H'→E.nx σ' H')→g (.int (lo+i)) σ H fun σ2 H2=>tb E σ2 H2) (hd:∀ σ H,Pv n σ H→D.nx σ H):ForW (Itr lo n) g tb D σ H :=
  for_range Pv h0 (fun i σ H hx p=>hs i σ H hx p _ fun _ _ h=>h) hd
end
noncomputable def tCut (t u:TS):TS:=fun D σ H=>∃ P:St→Hp→Prop,t { D with nx:=P } σ H∧∀ σ' H',P σ' H'→u D σ' H'
theorem pss_cut {X:Cx} {st:Stmt} {rest:List Stmt} {t u:TS} (h1:PS X st t) (h2:PSs X rest u):PSs X (st::rest) (tCut t u):=by
  intro pins s σ H D I h
  obtain⟨P,h,k⟩:=h
  refine wpAny_execs_cons (thn (h1 pins s σ H { D with nx:=P } I h) fun f s1 q=>?_)
  cases f with
  | next =>
    obtain⟨σ',H',I',q⟩:=q
    exact h2 pins s1 σ' H' D I' (k _ _ q)
  | ret v=>exact q
  | brk=>exact q
  | cont=>exact q
noncomputable def rEqNil (K:PySem.W.Frag):R2:=fun x y H Q=>∃ a b xs,x = .ref a∧y = .ref b∧SqL K H a xs∧SqL K H b []∧(xs=[]→Q (.bl true) H)∧(xs≠[]→Q (.bl false) H)
theorem op_eqNil {X:Cx} (hu:X.A.units<cLine):OpR X (compareOp .Eq) (rEqNil X.K):=by
  intro pins s σ H x y v u Q I rx ry h
  obtain⟨a,b,xs,rfl,rfl,h1,h2,q1,q2⟩:=h
  cases rx
  cases ry
  obtain⟨us,r1,p1,_⟩:=I.list h1
  obtain⟨ws,r2,p2,_⟩:=I.list h2
  have l1:=r1.length
  have l2:=r2.length
  rw[List.length_nil] at l2
  by_cases hl:xs=[]
  · subst hl
    rw[List.length_nil] at l1
    refine SeqAt.eq_listAt p1.isList p2.isList (by simp;omega) hu (e:=fun _=>true) (fun j h1 h2=>?_) ?_
    · simp at h1
      omega
    · have:us=[]:=List.length_eq_zero_iff.mp l1.symm
      subst this
      exact⟨.bl true,H,I,rfl,q1 rfl⟩
  · have:0<xs.length:=List.length_pos_iff.mpr hl
    exact SeqAt.eq_list_lengthsAt p1.isList p2.isList (by simp;omega) hu ⟨.bl false,H,I,rfl,q2 hl⟩
theorem cut_to {t u:TS} {D:Ends} {σ:St} {H:Hp} (P0:St→Hp→Prop) (h1:∀ E:Ends,(∀ σ' H',P0 σ' H'→E.nx σ' H')→t E σ H) (h2:∀ σ' H',P0 σ' H'→u D σ' H'):tCut t u D σ H:=⟨P0,h1 _ fun _ _ h=>h,h2⟩
theorem cxOf_K {CX:CXT} {P:Program} {w:World} {K:PySem.W.Frag} {mg:Str→Option Value} {base:Heap} {N:List Str} {qual:Str} {scope:Scope} {f:Addr} {cd:Value} {A:Around} {outer:List Env} {s:Shared} {H:Hp} {E:XK}:(cxOf CX P w K mg base N qual scope f cd A outer s H E).K=K:=rfl
theorem nox_K {X:Cx}:X.nox.K=X.K:=rfl
noncomputable def rSameK (K:PySem.W.Frag) (u:Nat):R2:=fun x y H Q=>∃ n d,isSeq d=true∧Is K H n x d∧Is K H n y d∧u+n<cLine∧Q (.bl true) H
noncomputable def rNeK (K:PySem.W.Frag) (u:Nat):R2:=fun x y H Q=>∃ n d,isSeq d=true∧Is K H n x d∧Is K H n y d∧u+n<cLine∧Q (.bl false) H
theorem op_neK {X:Cx}:OpR X (compareOp .NotEq) (rNeK X.K X.A.units):=op_neD
section
variable {X:Cx}
end
end L2
namespace Pg
open PySem L2
noncomputable def sp_mixR:Sp:=fun vs H Q _=>∃ c k,vs=[.int c,.int k]∧∀ m,0≤m→m<1000003→Q (.int m) H
noncomputable def sp_amtR:Sp:=fun vs H Q _=>∃ c k,vs=[.int c,.int k]∧∀ a H',Amt a→Same H H'→Q (.int a) H'
noncomputable def sp_prtR:Sp:=fun vs H Q _=>∃ c k,vs=[.int c,.int k]∧∀ a H',Prt a→Same H H'→Q (.int a) H'
noncomputable def sp_wayR:Sp:=fun vs H Q _=>∃ c k,vs=[.int c,.int k]∧∀ w H',Way w→Same H H'→Q (.str w) H'
noncomputable def Nns (bs:List Int):Prop:=∀ b∈bs,0≤b
noncomputable def sp_basR:Sp:=fun vs H Q _=>∃ (c:Int) (n:Nat),vs=[.int c,.int (n:Nat)]∧n≤50∧∀ (bs:List Int) l H',bs.length=n→Nns bs→Same H H'→H l=none→H' l=some (.lst (bs.map V.int))→Q (.ref l) H'
noncomputable def sp_namR:Sp:=fun vs H Q _=>∃ (c:Int) (n:Nat),vs=[.int c,.int (n:Nat)]∧n≤8∧∀ (nms:List Str) l H',nms.length=n→(∀ z∈nms,RName z)→Same H H'→H l=none→H' l=some (.lst (nms.map V.str))→Q (.ref l) H'
noncomputable def sp_rndL:Sp:=fun vs H Q _=>∃ z w,vs=[.int z,.str w]∧0≤z∧Q (.int (rnd z w)) H
noncomputable def sp_plnR:Sp:=fun vs H Q _=>∃ c z k,vs=[.int c,.str z,.int k]∧RName z∧0≤k∧k<4∧∀ v r H',Pln r→r.name=z→Same H H'→RtAt H' v r→Q v H'
noncomputable def sp_untL (K:PySem.W.Frag):Sp:=fun vs H Q _=>∃ v r b bs,vs=[v,.ref b]∧RtAt H v r∧Pln r∧SqL K H b (bs.map V.int)∧bs.length≤100∧Nns bs∧∀ H',Same H H'→Q (.int (unt r bs)) H'
noncomputable def sp_ofmL (K:PySem.W.Frag):Sp:=fun vs H Q _=>∃ v r b bs,vs=[v,.ref b]∧RtAt H v r∧Pln r∧SqL K H b (bs.map V.int)∧bs.length≤100∧Nns bs∧∀ H',Same H H'→Q (.int (ofm r bs)) H'
noncomputable def sp_rowL:Sp:=fun vs H Q _=>∃ v r,vs=[v]∧RtAt H v r∧Pln r∧∀ H',Same H H'→Q (.str (rowT r)) H'
noncomputable def sp_madL (Cs:Nat→Addr):Sp:=fun vs H Q _=>∃ v r,vs=[v]∧RtAt H v r∧Pln r∧∀ o H',Same H H'→RoAt Cs H' o r→Q o H'
noncomputable def sp_askL (K:PySem.W.Frag) (Cs:Nat→Addr):Sp:=fun vs H Q _=>∃ o v r b bs c,vs=[o,v,.ref b,.int c]∧RoAt Cs H o r∧RtAt H v r∧Pln r∧SqL K H b (bs.map V.int)∧bs.length≤100∧Nns bs∧∀ H',Same H H'→Q (.bl true) H'
noncomputable def sp_groL (K:PySem.W.Frag) (Cs:Nat→Addr):Sp:=fun vs H Q _=>∃ o v r o2 v2 r2 b bs c,vs=[o,v,o2,v2,.ref b,.int c]∧RoAt Cs H o r∧RtAt H v r∧Pln r∧RoAt Cs H o2 r2∧RtAt H v2 r2∧Pln r2∧SqL K H b (bs.map V.int)∧bs.length≤50∧Nns bs∧∀ H',Same H H'→Q (.bl true) H'
theorem iteSt {z:Str} {A B:Prop} (h:A):if decide (V.str z=V.str z)=true then A else B:=by
  rw[if_pos (decide_eq_true rfl)]
  exact h
theorem iteSf {x y:Str} {A B:Prop} (n:x≠y) (h:B):if decide (V.str x=V.str y)=true then A else B:=by
  rw[if_neg fun k=>n (V.str.inj (of_decide_eq_true k))]
  exact h
theorem n_fs:("share":Str)≠"flat":=by decide +kernel
theorem n_cf:("capped":Str)≠"flat":=by decide +kernel
theorem n_cs:("capped":Str)≠"share":=by decide +kernel
theorem n_lf:("least":Str)≠"flat":=by decide +kernel
theorem n_ls:("least":Str)≠"share":=by decide +kernel
theorem n_lc:("least":Str)≠"capped":=by decide +kernel
theorem sum_nn {bs:List Int} (h:Nns bs):0≤bs.sum:=by
  induction bs with
  | nil=>exact Int.le_refl _
  | cons a r ih =>
    rw[List.sum_cons]
    exact Int.add_nonneg (h a List.mem_cons_self) (ih fun b hb=>h b (List.mem_cons_of_mem _ hb))
theorem way_at {i:Int} (h0:0≤i) (h1:i<4):∃ w,atI [V.str "down",.str "up",.str "near",.str "even"] i=some (.str w)∧Way w:=by
  obtain⟨v,ev,mv⟩:=at_any (xs:=[V.str "down",.str "up",.str "near",.str "even"]) (i:=i) h0 h1
  simp only[List.mem_cons,List.not_mem_nil,or_false] at mv
  rcases mv with rfl | rfl | rfl | rfl
  · exact⟨_,ev,by unfold Way;decide +kernel⟩
  · exact⟨_,ev,by unfold Way;decide +kernel⟩
  · exact⟨_,ev,by unfold Way;decide +kernel⟩
  · exact⟨_,ev,by unfold Way;decide +kernel⟩
theorem self_items {H:Hp} (xs:List V):ItemsAt H xs xs (fun _ v x=>v=x):=⟨rfl,fun i y h=>⟨y,h,fun _ _=>rfl⟩⟩
theorem part_kind {r:Rk} (h:Pln r):∀ v∈rowP r,(∃ i,v = .int i∧i.natAbs.log2<1920)∨∃ z,v = .str z:=by
  intro v hv
  cases h with
  | flat hn ha =>
    simp only[rowP,List.mem_cons,List.not_mem_nil,or_false] at hv
    rcases hv with rfl | rfl | rfl
    · exact .inr ⟨_,rfl⟩
    · exact .inr ⟨_,rfl⟩
    · exact .inl ⟨_,rfl,log_a ha⟩
  | share hn hp hw =>
    simp only[rowP,List.mem_cons,List.not_mem_nil,or_false] at hv
    rcases hv with rfl | rfl | rfl | rfl
    · exact .inr ⟨_,rfl⟩
    · exact .inr ⟨_,rfl⟩
    · exact .inl ⟨_,rfl,log_p hp⟩
    · exact .inr ⟨_,rfl⟩
  | capped hn hp ha hw =>
    simp only[rowP,List.mem_cons,List.not_mem_nil,or_false] at hv
    rcases hv with rfl | rfl | rfl | rfl | rfl
    · exact .inr ⟨_,rfl⟩
    · exact .inr ⟨_,rfl⟩
    · exact .inl ⟨_,rfl,log_p hp⟩
    · exact .inl ⟨_,rfl,log_a ha⟩
    · exact .inr ⟨_,rfl⟩
  | least hn hp ha hw =>
    simp only[rowP,List.mem_cons,List.not_mem_nil,or_false] at hv
    rcases hv with rfl | rfl | rfl | rfl | rfl
    · exact .inr ⟨_,rfl⟩
    · exact .inr ⟨_,rfl⟩
    · exact .inl ⟨_,rfl,log_p hp⟩
    · exact .inl ⟨_,rfl,log_a ha⟩
    · exact .inr ⟨_,rfl⟩
theorem row_head {r:Rk} (h:Pln r):∃ z l,rowP r = .str z::l∧z≠"bands"∧z≠"ontop"∧l.length≤4:=by
  cases h with
  | flat hn ha=>exact⟨_,_,rfl,by decide +kernel,by decide +kernel,Nat.le_of_ble_eq_true rfl⟩
  | share hn hp hw=>exact⟨_,_,rfl,by decide +kernel,by decide +kernel,Nat.le_of_ble_eq_true rfl⟩
  | capped hn hp ha hw=>exact⟨_,_,rfl,by decide +kernel,by decide +kernel,Nat.le_of_ble_eq_true rfl⟩
  | least hn hp ha hw=>exact⟨_,_,rfl,by decide +kernel,by decide +kernel,Nat.le_of_ble_eq_true rfl⟩
theorem at_name {r:Rk} (h:Pln r):(rowF r).lookup ("name":Str)=some (.str r.name):=by cases h <;> rfl
theorem at_one {r:Rk} (h:Pln r):atI (rowP r) 1=some (.str r.name):=by cases h <;> rfl
theorem made_same {H H':Hp} {o dx C:Addr} (o0:H o=none) (d0:H dx=none) (fr:∀ b x,(upd (upd H dx (.own o)) o (.ins C dx [])) b=some x→b≠o→H' b=some x):Same H H':=fun b x hb=>by
  have bo:=ne_of_none hb o0
  refine fr b x ?_ bo
  rw[upd_ne bo,upd_ne (ne_of_none hb d0)]
  exact hb
noncomputable def on1 (bs:List Int) (k:Nat):List Int:=(bs.drop k).take 1
theorem num_at {bs:List Int} {k:Nat} (h:k<bs.length):atI (bs.map V.int) ((k:Nat):Int)=some (.int (bs.getD k 0)):=atI_nat (by rw[List.getElem?_map,List.getElem?_eq_getElem h,List.getD_eq_getElem?_getD,List.getElem?_eq_getElem h];rfl)
noncomputable def rIs (K:PySem.W.Frag):List V→Hp→VK→Prop:=fun xs H Q=>∃ x c cv t b,xs=[x,c]∧clsV c=some cv∧TyX K H x t∧PySem.W.kitOne K t cv=some b∧Q (.bl b) H
noncomputable def tK1 (K:PySem.W.Frag) (w:Str) (c:Addr):TE:=tTupS (tCons (tC (.str w)) (tCons (tCB (rIs K) (tCons (tVar 0) (tCons (tC (.ref c)) tNil))) tNil))
noncomputable def tKs (K:PySem.W.Frag):List (Str × Addr × Bool)→TA
  | []=>tNil
  | x::r=>tCons (tK1 K x.1 x.2.1) (tKs K r)
noncomputable def bits (l:List (Str × Addr × Bool)):List (Str × Bool):=l.map fun x=>(x.1,x.2.2)
noncomputable def Tups (H:Hp) (ts:List V) (ps:List (Str × Bool)):Prop:=ts.length=ps.length∧∀ (i:Nat) p,ps[i]? = some p→∃ t,ts[i]? = some (V.ref t)∧H t=some (.tup [.str p.1,.bl p.2])
section
variable {K:PySem.W.Frag} {ea C:Addr} {σ:St}
end
open PySem.NumText
noncomputable def sp_figsG:Sp:=fun vs H Q _=>∃ n:Int,vs=[.int n]∧0≤n∧n<1000000000000000000000000000000000000000000000000000000∧∀ H',Same H H'→Q (.str (numS n)) H'
noncomputable def sp_toldG:Sp:=fun vs H Q _=>∃ a,vs=[.int a]∧absI a<10 ^ 50∧∀ H',Same H H'→Q (.str (toldS a)) H'
noncomputable def sp_toldX (K:PySem.W.Frag) (c:Addr):Sp:=fun vs H Q E=>∃ v,vs=[v]∧NoNum K H v∧E (.ref c) none H
noncomputable def wh (u:List Nat):List Nat:=u.take (u.length - 3)
noncomputable def la2 (u:List Nat):List Nat:=u.drop (u.length - 2)
noncomputable def numT0 (l:List Nat):Bool:=figL l&&(decide (l=[48]) || !decide (l.head? = some 48))
noncomputable def okU (u:List Nat):Bool:=numT0 (wh u)&&(decide (u[u.length - 3]? = some 46)&&figL (la2 u))
noncomputable def unS (l:List Nat):List Nat:=if l.head? = some 45 then l.tail else l
noncomputable def zero0:List Nat:=[45,48,46,48,48]
noncomputable def sgL3 (l:List Nat):Int:=if l.head? = some 45 then -1 else 1
noncomputable def valU (u:List Nat):Int:=((digitsVal (wh u):Nat):Int)*100+((digitsVal (la2 u):Nat):Int)
noncomputable def readL (l:List Nat):Option Int:=if l.length≤30∧okU (unS l)=true∧l≠zero0 then some (if l.head? = some 45 then -(valU (unS l)) else valU (unS l)) else none
noncomputable def sp_numT:Sp:=fun vs H Q _=>∃ z,vs=[.str z]∧z.length≤1000∧∀ H',Same H H'→Q (.bl (numT0 z.cps.toList)) H'
noncomputable def sp_amtT:Sp:=fun vs H Q _=>∃ z,vs=[.str z]∧z.length≤1000∧∀ H',Same H H'→Q (.bl (okU z.cps.toList)) H'
noncomputable def sp_readA (K:PySem.W.Frag) (cT:Addr):Sp:=fun vs H Q E=>∃ v,vs=[v]∧((NoStr K H v∧E (.ref cT) none H)∨∃ z,v = .str z∧z.length≤100000∧∀ H',Same H H'→(∀ a,readL z.cps.toList=some a→Q (.int a) H')∧(readL z.cps.toList=none→E (.ref cT) none H'))
noncomputable def optR:Option Int→V
  | none=>.non
  | some z=>.int z
noncomputable def sp_readsL:Sp:=fun vs H Q _=>∃ z,vs=[.str z]∧z.length≤100000∧∀ H',Same H H'→Q (optR (readL z.cps.toList)) H'
theorem like_codes (z y:Str):decide (V.str z=V.str y)=decide (z.cps.toList=y.cps.toList):=decide_eq_decide.mpr ⟨fun h=>by injection h with h;rw[h],fun h=>by rw[str_eq h]⟩
theorem starts_one (z:Str) (c:Nat):Txt.startswith z ⟨#[c]⟩=decide (z.cps.toList.head? = some c):=by
  unfold Txt.startswith Builtin.Str.subAt
  obtain⟨⟨l⟩⟩:=z
  show (decide (0+1≤l.length)&&((Array.mk l).extract 0 (0+1) == #[c]))=decide (l.head? = some c)
  cases l with
  | nil=>rfl
  | cons a l =>
    have e:(Array.mk (a::l)).extract 0 (0+1) = #[a]:=by
      apply Array.ext'
      simp
    rw[e,decide_eq_true (by rw[List.length_cons];omega),Bool.true_and]
    by_cases h:a=c
    · subst h
      simp
    · rw[decide_eq_false (by intro q;exact h (Option.some.inj q))]
      simp[h]
theorem zero_str:("0":Str)=⟨#[48]⟩:=by decide +kernel
noncomputable def lawU (u:List Nat):Bool:=decide ((u.drop (u.length - 3)).take (u.length - 2 - (u.length - 3))=[46])&&(decide (4≤u.length)&&((wh u++la2 u).all isF && !(decide (4<u.length)&&decide (u.head? = some 48))))
end Pg
namespace Pg
open PySem L2
noncomputable def smC:List Nat:=[97,99,100,102,103,104,105,106,107,108,111,112,113,114,116,117,118,119,120,121,122]
noncomputable def isSm (c:Nat):Bool:=smC.contains c
theorem sm_codes:("acdfghijklopqrtuvwxyz":Str).cps.toList=smC:=by decide +kernel
theorem sm_at {i:Int} (h0:0≤i) (h1:i<21):∃ c,atI ("acdfghijklopqrtuvwxyz":Str).cps.toList i=some c∧isSm c=true:=by
  rw[sm_codes]
  obtain⟨c,e,m⟩:=at_any (xs:=smC) h0 h1
  exact⟨c,e,List.contains_iff_mem.mpr m⟩
theorem sm_isL {c:Nat} (h:isSm c=true):isL c=true:=by
  have m:=List.contains_iff_mem.mp h
  have all:smC.all isL=true:=by decide +kernel
  exact List.all_eq_true.mp all c m
theorem rname_of {z:Str} (h1:1≤z.cps.toList.length) (h2:z.cps.toList.length≤8) (h3:z.cps.toList.all isL=true) (h4:∀ w∈noNames,z.cps.toList≠w.cps.toList):RName z:=by
  refine⟨⟨by rw[len_codes];exact h1,by rw[len_codes];exact h2,h3⟩,?_⟩
  cases e:noNames.contains z with
  | false=>rfl
  | true=>exact absurd rfl (h4 z (List.contains_iff_mem.mp e))
theorem no_two:∀ w∈noNames,2≤w.cps.toList.countP (fun c=>!isSm c):=by
  have all:(noNames.all fun w=>decide (2≤w.cps.toList.countP (fun c=>!isSm c)))=true:=by decide +kernel
  exact fun w h=>of_decide_eq_true (List.all_eq_true.mp all w h)
theorem no_q:∀ w∈noNames,w.cps.toList.head?≠some 113:=by
  have all:(noNames.all fun w=>decide (w.cps.toList.head?≠some 113))=true:=by decide +kernel
  exact fun w h=>of_decide_eq_true (List.all_eq_true.mp all w h)
theorem count_zero {l:List Nat} (h:∀ c∈l,isSm c=true):l.countP (fun c=>!isSm c)=0:=by
  rw[List.countP_eq_zero]
  intro c hc
  rw[h c hc]
  decide
theorem rname_mid {z:Str} {fs:List Nat} {c k m:Nat} (hf:∀ c∈fs,isSm c=true) (hl:fs.length=7) (hc:isL c=true) (hk:k≤m) (hm:m≤7) (e:z.cps.toList=fs.take k++[c]++(fs.drop k).take (m - k)):RName z:=by
  have ha:∀ x∈fs.take k,isSm x=true:=fun x hx=>hf x (List.mem_of_mem_take hx)
  have hb:∀ x∈(fs.drop k).take (m - k),isSm x=true:=fun x hx=>hf x (List.mem_of_mem_drop (List.mem_of_mem_take hx))
  have len:z.cps.toList.length=m+1:=by
    rw[e,List.length_append,List.length_append,List.length_take,List.length_take,List.length_drop,hl,List.length_singleton]
    omega
  refine rname_of (by omega) (by omega) ?_ fun w hw ew=>?_
  · rw[e,List.all_append,List.all_append,Bool.and_eq_true,Bool.and_eq_true]
    refine⟨⟨List.all_eq_true.mpr fun x hx=>sm_isL (ha x hx),?_⟩,List.all_eq_true.mpr fun x hx=>sm_isL (hb x hx)⟩
    show (isL c&&true)=true
    rw[hc]
    rfl
  · have t:=no_two w hw
    rw[← ew,e,List.countP_append,List.countP_append,count_zero ha,count_zero hb] at t
    have:[c].countP (fun c=>!isSm c)≤1:=List.countP_le_length
    omega
theorem rname_q {z:Str} {fs:List Nat} {k:Nat} (hf:∀ c∈fs,isSm c=true) (hl:fs.length=7) (e:z.cps.toList=113::fs.take k):RName z:=by
  refine rname_of ?_ ?_ ?_ fun w hw ew=>?_
  · rw[e]
    exact Nat.succ_le_succ (Nat.zero_le _)
  · rw[e,List.length_cons,List.length_take,hl]
    omega
  · rw[e,List.all_cons,Bool.and_eq_true]
    exact⟨by decide +kernel,List.all_eq_true.mpr fun x hx=>sm_isL (hf x (List.mem_of_mem_take hx))⟩
  · have t:=no_q w hw
    rw[← ew,e] at t
    exact t rfl
noncomputable def okNames:List Str:=["bases","nets","months","sum","ne","basis","bet","sumsum","netnet","mont"]
theorem rname_word:∀ z∈okNames,RName z:=by
  have all:(okNames.all fun z=>decide (1≤z.cps.toList.length)&&decide (z.cps.toList.length≤8)&&z.cps.toList.all isL&&noNames.all fun w=>decide (z.cps.toList≠w.cps.toList))=true:=by decide +kernel
  intro z hz
  have h:=List.all_eq_true.mp all z hz
  rw[Bool.and_eq_true,Bool.and_eq_true,Bool.and_eq_true] at h
  exact rname_of (of_decide_eq_true h.1.1.1) (of_decide_eq_true h.1.1.2) h.1.2 fun w hw=>of_decide_eq_true (List.all_eq_true.mp h.2 w hw)
theorem cut_upto (z:Str) (k:Nat):(Txt.slice z none (some ((k:Nat):Int))).cps.toList=z.cps.toList.take k:=by
  rw[slice_codes]
  unfold cutL
  rw[HT.sIx_nat,HT.sIx_none,List.drop_zero,Nat.sub_zero]
  by_cases h:k≤z.cps.toList.length
  · rw[Nat.min_eq_left h]
  · rw[Nat.min_eq_right (by omega),List.take_of_length_le (Nat.le_refl _),List.take_of_length_le (by omega)]
theorem cut_mid (z:Str) (k m:Nat) (h:m≤z.cps.toList.length) (hk:k≤m):(Txt.slice z (some ((k:Nat):Int)) (some ((m:Nat):Int))).cps.toList=(z.cps.toList.drop k).take (m - k):=by
  rw[slice_codes]
  unfold cutL
  rw[HT.sIx_nat,HT.sIx_nat,Nat.min_eq_left h,Nat.min_eq_left (Nat.le_trans hk h)]
theorem texts_of {p:Str→Prop}:∀ {zs:List V},(∀ u∈zs,∃ z,u = .str z∧p z)→∃ nms:List Str,zs=nms.map V.str∧∀ z∈nms,p z:=by
  intro zs
  induction zs with
  | nil=>exact fun _=>⟨[],rfl,fun z h=>nomatch h⟩
  | cons u r ih =>
    intro h
    obtain⟨z,rfl,hz⟩:=h u List.mem_cons_self
    obtain⟨nms,e,hn⟩:=ih fun v hv=>h v (List.mem_cons_of_mem _ hv)
    refine⟨z::nms,by rw[e];rfl,fun y hy=>?_⟩
    rcases List.mem_cons.mp hy with rfl | hy
    · exact hz
    · exact hn y hy
theorem signs_of {p:Nat→Prop}:∀ {zs:List V},(∀ u∈zs,∃ c,u = .str ⟨#[c]⟩∧p c)→∃ cs:List Nat,zs=(cs.map fun c=>(⟨#[c]⟩:Str)).map V.str∧∀ c∈cs,p c:=by
  intro zs
  induction zs with
  | nil=>exact fun _=>⟨[],rfl,fun z h=>nomatch h⟩
  | cons u r ih =>
    intro h
    obtain⟨z,rfl,hz⟩:=h u List.mem_cons_self
    obtain⟨nms,e,hn⟩:=ih fun v hv=>h v (List.mem_cons_of_mem _ hv)
    refine⟨z::nms,by rw[e];rfl,fun y hy=>?_⟩
    rcases List.mem_cons.mp hy with rfl | hy
    · exact hz
    · exact hn y hy
theorem mem_rel {α:Type} {zs:List V} {xs:List α} {p:V→Prop} (h:∀ (i:Nat) u,zs[i]? = some u→∃ x,xs[i]? = some x∧p u):∀ u∈zs,p u:=fun u hu=>by
  obtain⟨i,hi⟩:=List.mem_iff_getElem?.mp hu
  obtain⟨_,_,hp⟩:=h i u hi
  exact hp
structure RulI (K:PySem.W.Frag) (Cs:Nat→Addr) (cR:Addr):Prop where
  ha:∀ i,i<4→PySem.W.findIn K (.ref (Cs i)) "__class__" = some (some (.builtin "object.__class__"))
  hn:PySem.W.specialIn K (.builtin "object.__class__") "__get__" = some (some (.builtin "getset_descriptor.__get__"))
  htk:PySem.W.takesIn K (.builtin "object.__class__")=some true
  hm:∀ i,i<4→PySem.W.mroIn K (Cs i) (.type "object")=some true
  kt:∀ i,i<4→PySem.W.kitOne K (.ref (Cs i)) (.ref cR)=some true
theorem four {p:Nat→Prop} (h0:p 0) (h1:p 1) (h2:p 2) (h3:p 3):∀ i,i<4→p i
  | 0,_=>h0
  | 1,_=>h1
  | 2,_=>h2
  | 3,_=>h3
theorem six {p:Str→Prop} (h1:p "name") (h2:p "amount") (h3:p "parts") (h4:p "way") (h5:p "most") (h6:p "least"):∀ x∈(["name","amount","parts","way","most","least"]:List Str),p x:=by
  intro x hx
  simp only[List.mem_cons,List.not_mem_nil,or_false] at hx
  rcases hx with rfl | rfl | rfl | rfl | rfl | rfl <;> assumption
end Pg
namespace ST
open PySem PySem.Spec PyProof.Rows
noncomputable def own:List Char:="set_iterator".toList.reverse
section
variable {prog:Program} {w:World} {A:Around} {E:Value→Shared→Prop} {s:Shared}
end
section
variable {prog:Program} {w:World} {A:Around} {E:Value→Shared→Prop} {s:Shared}
noncomputable def itObj (first:Value) (i n ep:Nat) (S:Addr):Obj:={ cls:=.type "set_iterator",dict:=none,data:=.fields #[first,rawInt i,.ref S,rawInt n,rawInt ep],slots:=#[] }
noncomputable def isDrawn (es:Array (Int × Value)) (t:SetTable):Bool:=!t.plain&&decide (es.size > 1)
noncomputable def slotAt (t:SetTable) (i:Nat):Nat:=if i=0 then 0 else t.place.getD (i - 1) 0+1
inductive First (w:World) (es:Array (Int × Value)) (ep:Nat) (t:SetTable) (S T:Addr) (ord:List Value) (h:Heap) (i:Nat):Value→Prop
  | text (k:Nat):byText w=true→ord=(pickOrder (w.params.setOrder S ep) es).toList.map (·.2)→First w es ep t S T ord h i (rawInt k)
  | table:byText w=false→isDrawn es t=false→Good true t→ord=es.toList.map (·.2)→First w es ep t S T ord h i (rawInt (slotAt t i))
  | drawn (ps:List Nat):byText w=false→h.get? T=some (seqObj "tuple" (ps.map fun (p:Nat)=>rawInt p).toArray 0)→ps.Perm (List.range es.size)→ord=ps.map (fun p=>(es.getD p (0,.none)).2)→First w es ep t S T ord h i (.ref T)
end
section
variable {prog:Program} {w:World} {A:Around} {E:Value→Shared→Prop} {s:Shared}
structure It (w:World) (es:Array (Int × Value)) (ep:Nat) (t:SetTable) (S T I:Addr) (ord:List Value) (i:Nat) (h:Heap):Prop where
  it:∃ first,h.get? I=some (itObj first i es.size ep S)∧First w es ep t S T ord h i first
  set:∃ o,h.get? S=some o∧o.data = .set es ep t
  fits:t.fits es.size=true
end
section
variable {prog:Program} {w:World} {A:Around} {E:Value→Shared→Prop} {s:Shared}
end
section
variable {prog:Program} {w:World} {A:Around} {E:Value→Shared→Prop} {s:Shared}
end
section
variable {prog:Program} {w:World} {A:Around} {E:Value→Shared→Prop} {s:Shared}
end
section
variable {prog:Program} {w:World} {A:Around} {E:Value→Shared→Prop} {s:Shared}
noncomputable def Came (w:World) (s:Shared) (es:Array (Int × Value)) (r:Result) (s':Shared):Prop:=∃ h' d tk acc c,r = .ok (.ret (.ref s.heap.objs.size))∧s' = { s with heap:=h',drawn:=d,toks:=tk }∧(∀ b o,s.heap.get? b=some o→h'.get? b=some o)∧h'.get? s.heap.objs.size=some { cls:=.type "list",dict:=none,data:=.seq acc c,slots:=#[] }∧acc.toList.Perm (es.toList.map (·.2))
end
end ST
namespace L2
open PySem PySem.Spec PyProof.Rows
section
variable {X:Cx} {pins:List (Addr × Obj)} {σ:St} {H:Hp} {s:Shared} {a:Expr} {ta:TA} {p1 p2 p3 pos:Pos}
noncomputable def tSortSet (K:PySem.W.Frag) (ta:TA):TE:=fun σ H Q=>ta σ H fun vs H1=>∃ (l:Addr) (zs:List Int),vs=[.ref l]∧SqL K H1 l (zs.map V.int)∧zs.length<64 ∧
  ∀ ys:List Int,ys.Pairwise (· < ·)→(∀ z,z∈ys↔z∈zs)→∀ D,H1 D=none→Q (.ref D) (upd H1 D (.lst (ys.map V.int)))
end
section
variable {X:Cx} {A:Around} {E:Value→Shared→Prop} {pins:List (Addr × Obj)} {σ:St} {H:Hp} {s:Shared} {r:Addr} {Q:VK} {OK:List Str→Prop}
end
noncomputable def rSortD:List V→Hp→VK→Prop:=fun xs H Q=>∃ (d:Addr) (tot:List (Str × Int)),xs=[.ref d]∧Rd H d (.dK (dOf tot))∧tot.length<64 ∧
    ∀ ss:List Str,ss.Perm (tot.map (·.1))→ss.Pairwise (fun a b:Str=>¬ b.cps.toList<a.cps.toList)→New H (.lst (ss.map V.str)) Q
section
variable {X:Cx} {a:Expr} {ta:TA} {p1 p2 p3 pos:Pos}
noncomputable def tSortSetT (K:PySem.W.Frag) (ta:TA):TE:=fun σ H Q=>ta σ H fun vs H1=>∃ (l:Addr) (zs:List Str),vs=[.ref l]∧SqL K H1 l (zs.map V.str)∧zs.length<64 ∧
  ∀ ys:List Str,ys.Nodup→ys.Pairwise (fun a b:Str=>¬ b.cps.toList<a.cps.toList)→(∀ z,z∈ys↔z∈zs)→New H1 (.lst (ys.map V.str)) Q
end
noncomputable def Itv (K:PySem.W.Frag) (a:Addr) (n:Nat):It :=
  ⟨fun i H=>i<n∧∃ xs,SqL K H a xs∧xs.length=n,fun i H x H'=>H'=H∧∀ xs,SqL K H a xs→xs[n - 1 - i]? = some x,fun i _=>i=n⟩
noncomputable def iRev (K:PySem.W.Frag) (ta:TA):TI:=fun σ H R=>ta σ H fun vs H1=>∃ a xs,vs=[.ref a]∧SqL K H1 a xs∧R (Itv K a xs.length) H1
section
variable {X:Cx} {tg a:Expr} {ta:TA} {p pos:Pos}
end
noncomputable def rSortK:List V→Hp→VK→Prop:=fun xs H Q=>∃ (d:Addr) (kvs:List (Key × V)) (ks:List Str),xs=[.ref d]∧Rd H d (.dK kvs)∧kvs.map (·.1)=ks.map Sum.inr∧ks.length<64 ∧
    ∀ ss:List Str,ss.Perm ks→ss.Pairwise (fun a b:Str=>¬ b.cps.toList<a.cps.toList)→New H (.lst (ss.map V.str)) Q
end L2
namespace PySem
namespace F
theorem owner_rvd:Manifest.owners.lookup (String.ofList ['d','e','s','r','e','v','e','r'].reverse)=some Manifest.sig_reversed:=by kernel_rfl
theorem slot_rvd_init:Slot "reversed" "__init__" "object.__init__" :=
  .of (owner:="object") (n:="__init__") (by rw[typeLookup_type,builtinLookup_eq_fast];kernel_rfl) (by decide +kernel) (by decide +kernel) (by decide +kernel)
    (by first | exact .inl (by decide +kernel) | exact .inr (by decide +kernel)) (by rw[isSubtype_type];kernel_rfl)
theorem slot_rvd_next:Slot "reversed" "__next__" "reversed.__next__" :=
  .of (owner:="reversed") (n:="__next__") (by rw[typeLookup_type,builtinLookup_eq_fast];kernel_rfl) (by decide +kernel) (by decide +kernel) (by decide +kernel)
    (by first | exact .inl (by decide +kernel) | exact .inr (by decide +kernel)) (by rw[isSubtype_type];kernel_rfl)
theorem entry_rvd_next:entryFor table "reversed.__next__" = some Builtin.«reversed.__next__»:=entryFor_of_tree (by kernel_rfl)
theorem args_rvd_next_1 (a:Value):argsOk "reversed.__next__" ⟨[a],[]⟩:=by
  unfold argsOk;rw[signature?_of (id:="reversed.__next__") (n:=['_','_','t','x','e','n','_','_']) (o:=['d','e','s','r','e','v','e','r']) (by kernel_rfl) owner_rvd];kernel_rfl
theorem slot_rvd_iter:Slot "reversed" "__iter__" "reversed.__iter__" :=
  .of (owner:="reversed") (n:="__iter__") (by rw[typeLookup_type,builtinLookup_eq_fast];kernel_rfl) (by decide +kernel) (by decide +kernel) (by decide +kernel)
    (by first | exact .inl (by decide +kernel) | exact .inr (by decide +kernel)) (by rw[isSubtype_type];kernel_rfl)
theorem args_rvd_iter_1 (a:Value):argsOk "reversed.__iter__" ⟨[a],[]⟩:=by
  unfold argsOk;rw[signature?_of (id:="reversed.__iter__") (n:=['_','_','r','e','t','i','_','_']) (o:=['d','e','s','r','e','v','e','r']) (by kernel_rfl) owner_rvd];kernel_rfl
theorem entry_rvd_iter:entryFor table "reversed.__iter__" = some Builtin.«dict_keyiterator.__iter__» :=
  entryFor_alias (id':="dict_keyiterator.__iter__") (by kernel_rfl) (by first | rfl | decide +kernel | (unfold String.splitOn;simp +decide [String.splitOnAux])) (by decide +kernel) (by kernel_rfl)
theorem called_rvd:TypeCalled "reversed" "reversed.__new__" "object.__init__" :=
  ⟨by decide +kernel,by decide +kernel,⟨_,_,mro_reversed⟩,madeBy_type mro_reversed lookup_reversed_new (by decide +kernel),by decide +kernel,by rw[isSubtype_type];kernel_rfl,slot_rvd_init⟩
theorem norev_tuple:typeLookup (.type "tuple") "__reversed__" = pure none:=by rw[typeLookup_type,builtinLookup_eq_fast];kernel_rfl
end F
end PySem
namespace L2
open PySem PySem.Spec PyProof.Rows
noncomputable def rvdObj (l:Addr) (i:Int):Obj:={ cls:=.type "reversed",data:=.fields #[.ref l,rawInt i] }
noncomputable def IsRvd (h:Heap) (a l:Addr) (i:Int):Prop:=∃ o,h.get? a=some o∧o.cls = .type "reversed"∧o.data = .fields #[.ref l,rawInt i]
theorem IsRvd.typeIs {s:Shared} {a l:Addr} {i:Int} (x:IsRvd s.heap a l i):s.TypeIs (.ref a) "reversed":=let ⟨o,ho,hc,_⟩:=x;⟨o,ho,hc⟩
theorem IsRvd.at {h h':Heap} {a l:Addr} {i:Int} (x:IsRvd h a l i) (e:∀ o,h.get? a=some o→h'.get? a=some o):IsRvd h' a l i:=let ⟨o,ho,r⟩:=x;⟨o,e _ ho,r⟩
section
variable {prog:Program} {w:World} {A:Around} {E:Value→Shared→Prop} {s:Shared}
theorem meets_rvd_new (t:Addr) (items:Array Value) (hfit:(items.size:Int)<2 ^ 63) :
    Meets (Builtin.«reversed.__new__» ⟨[.type "reversed",.ref t],[]⟩) (fun _ R s=>IsTup s.heap t items∧∀ tk,R (.ok (.ret (.ref s.heap.objs.size))) { s with heap:=s.heap.push (rvdObj t ((items.size:Int) - 1)),toks:=tk }) :=
  .of_wp fun prog w A R s h=>by
    obtain⟨ht,h⟩:=h
    unfold Builtin.«reversed.__new__»
    refine wpAny_bind (wpAny_of_eq (newClass_reversed _) ?_)
    try dsimp only
    refine wpAny_bind (wpAny_of_eq (a:=()) (by first | rfl | kernel_rfl) ?_)
    refine wpAny_bind (wpAny_of_eq (a:=()) (by first | rfl | kernel_rfl) ?_)
    try dsimp only
    refine wpAny_bind (wpAny_specialOf ht.typeIs F.norev_tuple ?_)
    try dsimp only
    refine wpAny_bind (wpAny_bind (wpAny_isInstance ht.typeIs F.sub_tuple_dict ?_))
    rw[if_neg Bool.false_ne_true]
    refine wpAny_bind (wpAny_specialOf ht.typeIs F.slot_tuple_getitem.lookup ?_)
    try dsimp only
    rw[if_pos (by decide +kernel)]
    refine wpAny_pure ?_
    try dsimp only
    rw[if_neg (by decide)]
    refine wpAny_bind (len_tuple ht hfit ?_)
    try dsimp only
    refine wpAny_bind (wpAny_of_eq (a:=some (items.size:Int)) rfl ?_)
    try dsimp only
    refine wpAny_bind (m:=newObj (.type "reversed") (.fields #[.ref t,rawInt ((items.size:Int) - 1)])) (wpAny_newObj_type ?_)
    exact wpAny_pure ⟨_,rfl,h _⟩
theorem call_rvd {t:Addr} {items:Array Value} {Q:Value→Shared→Prop} (ht:IsTup s.heap t items) (hfit:(items.size:Int)<2 ^ 63)
    (h:∀ tk,Q (.ref s.heap.objs.size) { s with heap:=s.heap.push (rvdObj t ((items.size:Int) - 1)),toks:=tk }):wpAny (model prog w) A (call (.type "reversed") [.ref t]) Q E s:=by
  refine callType_new F.called_rvd (by decide) (F.typeCall_reversed_1 _) (F.newCall_reversed_1 _) (fun obj=>F.args_object_init_2 obj _) F.entry_reversed_new (meets_rvd_new t items hfit) ⟨ht,fun tk=>?_⟩
  exact⟨⟨_,Heap.get?_push_size _ rfl,rfl⟩,h tk⟩
theorem next_rvd_item {it t:Addr} {i:Nat} {items:Array Value} {x:Value} {Q:Option Value→Shared→Prop} (hit:IsRvd s.heap it t (i:Int)) (ht:IsTup s.heap t items) (hx:items[i]? = some x) (hfit:(items.size:Int)<2 ^ 63)
    (hQ:∀ h' tk,IsRvd h' it t ((i:Int) - 1)→Heap.SameBut it s.heap h'→Q (some x) { s with heap:=h',toks:=tk }):wpAny (model prog w) A (pyNext (.ref it)) Q E s:=by
  obtain⟨o,ho,hc,hd⟩:=id hit
  have hi:i<items.size:=(Array.getElem?_eq_some_iff.mp hx).1
  unfold pyNext
  refine wpAny_bind (wpAny_attempt (wpAny_callSpecial?_slot (name:=Str.ofString "__next__") hit.typeIs F.slot_rvd_next
    (wpAny_call_entry F.slot_rvd_next hit.typeIs F.entry_rvd_next ?_ (F.args_rvd_next_1 _))))
  unfold Builtin.«reversed.__next__»
  refine wpAny_bind (wpAny_of_eq (a:=(Value.ref it,[])) rfl ?_)
  try dsimp only
  refine wpAny_bind (wpAny_field ho hd (x:=.ref t) rfl ?_)
  refine wpAny_bind (wpAny_field ho hd (x:=rawInt (i:Int)) rfl ?_)
  show wpAny _ _ (if (i:Int)<0 then _ else _) _ _ s
  rw[if_neg (by omega)]
  refine wpAny_bind (wpAny_specialOf ht.typeIs F.slot_tuple_getitem.lookup ?_)
  try dsimp only
  rw[if_neg (by simp)]
  refine wpAny_bind (wpAny_mkInt ?_)
  refine wpAny_bind (wpAny_attempt (getItem_tuple (s:={ s with toks:=s.toks+1 }) ht (by omega) (by omega) (j:=i) (x:=x) ?_ hx ?_))
  · exact PySem.seqIndex_of (by omega) (by omega)
  try dsimp only
  refine wpAny_bind (wpAny_field ho hd (x:=rawInt (i:Int)) rfl ?_)
  show wpAny _ _ (setField (.ref it) 1 (rawInt ((i:Int) - 1)) >>= _) _ _ _
  refine wpAny_bind (wpAny_setField ho hd (by simp) ?_)
  first
  | refine wpAny_pure ⟨x,rfl,wpAny_pure (hQ _ _ ?_ (Heap.SameBut.update ..))⟩
  | refine wpAny_bind (wpAny_pure (wpAny_pure ⟨x,rfl,wpAny_pure (hQ _ _ ?_ (Heap.SameBut.update ..))⟩))
  exact⟨_,Heap.get?_update_self _ ho (Obj.isFreed_of_fields (Obj.data_mapFields hd _)),(Obj.cls_mapFields ..).trans hc,by
    rw[Obj.data_mapFields hd];simp⟩
theorem next_rvd_end {it t:Addr} {Q:Option Value→Shared→Prop} (hh:A.handled=none) (hit:IsRvd s.heap it t (-1))
    (hQ:∀ h',Heap.ExtBut it s.heap h'→Q none { s with heap:=h' }):wpAny (model prog w) A (pyNext (.ref it)) Q E s:=by
  obtain⟨o,ho,hc,hd⟩:=id hit
  unfold pyNext
  refine wpAny_bind (wpAny_attempt (wpAny_callSpecial?_slot (name:=Str.ofString "__next__") hit.typeIs F.slot_rvd_next
    (wpAny_call_entry F.slot_rvd_next hit.typeIs F.entry_rvd_next ?_ (F.args_rvd_next_1 _))))
  unfold Builtin.«reversed.__next__»
  refine wpAny_bind (wpAny_of_eq (a:=(Value.ref it,[])) rfl ?_)
  try dsimp only
  refine wpAny_bind (wpAny_field ho hd (x:=.ref t) rfl ?_)
  refine wpAny_bind (wpAny_field ho hd (x:=rawInt (-1)) rfl ?_)
  show wpAny _ _ (if (-1:Int)<0 then _ else _) _ _ s
  rw[if_pos (by decide)]
  refine wpAny_bind (wpAny_rule ?_)
  refine wpAny_bind (wpAny_bind (wpAny_setField ho hd (by simp) ?_))
  have hd2:(o.mapFields fun fs=>fs.set! 1 (rawInt (-1))).data = .fields #[.ref t,rawInt (-1)]:=by rw[Obj.data_mapFields hd];rfl
  refine wpAny_setField (Heap.get?_update_self _ ho (Obj.isFreed_of_fields (Obj.data_mapFields hd _))) hd2 (by simp) ?_
  first
  | show wpAny _ _ (newExc (.type "StopIteration") [] >>= _) _ _ _
  | (refine wpAny_bind ?_;show wpAny _ _ (newExc (.type "StopIteration") [] >>= _) _ _ _)
  refine wpAny_bind ?_
  simp only[newExc,newTuple]
  refine wpAny_bind (wpAny_newObj_type ?_ (by size_fits))
  refine wpAny_bind (m:=firstArgMember _ _) (wpAny_of_eq (a:=Value.none) (by first | rfl | (simp only[firstArgMember];rfl)) ?_)
  refine wpAny_newObj_type ?_ (by size_fits)
  simp only[raiseNew]
  refine wpAny_bind (wpAny_handled ?_)
  first | rw[show A.in1.handled=none from hh] | rw[hh]
  refine wpAny_bind (wpAny_pure (wpAny_throw ?_))
  refine wpAny_bind (wpAny_isInstance (T:="StopIteration") (b:=true) ⟨_,Heap.get?_push_size _ rfl,rfl⟩ isSubtype_stop ?_)
  exact wpAny_pure (hQ _ (((((Heap.SameBut.update ..).extBut.trans (Heap.SameBut.update ..).extBut)).push _).push _))
theorem iter_rvd {it t:Addr} {i:Int} {Q:Value→Shared→Prop} (hit:IsRvd s.heap it t i) (h:Q (.ref it) s):wpAny (model prog w) A (pyIter (.ref it)) Q E s:=by
  refine wpAny_pyIter_slot hit.typeIs F.slot_rvd_iter (wpAny_call_entry F.slot_rvd_iter hit.typeIs F.entry_rvd_iter ?_ (F.args_rvd_iter_1 _))
  show wpAny _ _ (ret (.ref it)) _ _ s
  exact wpAny_pure ⟨_,rfl,"reversed",_,hit.typeIs,F.slot_rvd_next.lookup,h⟩
end
noncomputable def ItvT (K:PySem.W.Frag) (a:Addr) (n:Nat):It :=
  ⟨fun i H=>i<n∧∃ xs,SqT K H a xs∧xs.length=n,fun i H x H'=>H'=H∧∀ xs,SqT K H a xs→xs[n - 1 - i]? = some x,fun i _=>i=n⟩
theorem turn_rvd {P:Program} {w:World} {K:PySem.W.Frag} {tg:Expr} (a it:Addr) (n:Nat):Turn P w K tg (ItvT K a n) [it] it (fun i h=>IsRvd h it a ((n:Int) - 1 - (i:Nat))) where
  mem:=by simp
  obj:=fun i h st b hb=>by
    have e:b=it:=by simpa using hb
    subst e
    obtain⟨o,e,c,d⟩:=st
    exact⟨o,e,fun v z=>by rw[d] at z;cases z⟩
  keep:=fun i h h' st k=>st.at fun o e=>k it (by simp) o e
  item:=by
    intro X hP hw hK hc i pins s σ H E I hf st hg
    subst hP hw hK
    obtain⟨hi,xs,hq,hn⟩:=hg
    obtain⟨its,rv,p,hz⟩:=I.tuple hq
    have hl:=rv.length
    rw[sizeLine_eq] at hz
    obtain⟨x,hx⟩:∃ x,xs[n - 1 - i]? = some x:=⟨_,List.getElem?_eq_getElem (show n - 1 - i<xs.length by omega)⟩
    obtain⟨u,hu,ru⟩:=rv.get hx
    obtain⟨f0,f1,f2,f3,f4,f5⟩:=hf it (by simp)
    have e1:((n:Int) - 1 - (i:Nat))=((n - 1 - i:Nat):Int):=by omega
    have st:=st
    rw[e1] at st
    refine next_rvd_item st p (x:=u) (by simpa using hu) (by rw[List.size_toArray];omega) fun h' tk st' sb=>?_
    have I1:Inv X pins σ H { s with heap:=h',toks:=tk }:=I.turned (t':=tk) (fun b o hb e=>(sb.2 b hb).trans e) f0 f1 f3 f4 f5
    obtain⟨o,e,c,d⟩:=id st'
    have e2:((n - 1 - i:Nat):Int) - 1=((n:Int) - 1 - ((i+1:Nat):Int)):=by omega
    rw[e2] at st'
    exact⟨u,rfl,go_of (s:={ s with heap:=h',toks:=tk }) e c d (by decide) ⟨x,H,I1,ru,⟨rfl,fun ys hy=>by rw[I.tuple_inj hy hq];exact hx⟩,st',fun b hb=>(hf b hb).1⟩⟩
  done:=by
    intro X hP hw hK hc i pins s σ H E I hf st hg
    subst hP hw hK
    have hg:i=n:=hg
    subst hg
    obtain⟨f0,f1,f2,f3,f4,f5⟩:=hf it (by simp)
    have st:=st
    rw[show ((i:Int) - 1 - (i:Nat)) = -1 by omega] at st
    exact next_rvd_end (I.ok.hd hc) st fun h' eb=>⟨rfl,I.turned (t':=s.toks) (fun b o hb e=>eb b o hb e) f0 f1 f3 f4 f5⟩
  self:=fun _ _ _ _ _ st h=>iter_rvd st h
noncomputable def iRevT (K:PySem.W.Frag) (ta:TA):TI:=fun σ H R=>ta σ H fun vs H1=>∃ a xs,vs=[.ref a]∧SqT K H1 a xs∧R (ItvT K a xs.length) H1
section
variable {X:Cx} {tg a:Expr} {ta:TA} {p pos:Pos}
theorem pi_rvd (hg:Gl X "reversed") (hm:X.mg "reversed" = none) (ha:PA X [a] ta) (hs:starEach [a] X.env=[(false,eval a X.env)]:=by rfl) :
    PI X tg (.Call (.Name "reversed" p) [a] [] pos) (iRevT X.K ta):=by
  intro pins s σ H R I h
  refine Call_ (ld_blt I hg hm boot_reversed (PyProof.Rows.callWith_type1 (thn (ha pos pins s σ H _ I h) fun us s1 ⟨vs,H1,I1,r1,q1⟩=>?_) hs rfl))
  obtain⟨l,xs,e,h1,q⟩:=q1
  subst e
  cases r1 with
  | cons r rr =>
    cases rr
    cases r
    obtain⟨its,rv,pl,hz⟩:=I1.tuple h1
    have hl:=rv.length
    rw[sizeLine_eq] at hz
    refine call_rvd pl (by rw[List.size_toArray];omega) fun tk=>?_
    have hd:IsRvd (s1.heap.push (rvdObj l ((its.toArray.size:Int) - 1))) s1.heap.objs.size l ((xs.length:Int) - 1):=⟨_,Heap.get?_push_size _ rfl,rfl,by
      show Data.fields #[.ref l,rawInt ((its.toArray.size:Int) - 1)]=_
      rw[List.size_toArray,hl]⟩
    refine iter_rvd hd ?_
    refine⟨s1.heap.objs.size,[s1.heap.objs.size],_,_,H1,rfl,I1.kept (t':=tk) fun b o e=>Heap.get?_push_of_some _ e,turn_rvd l _ xs.length,?_,fun b hb=>?_,q⟩
    · rw[Int.natCast_zero,Int.sub_zero]
      exact hd
    have e:b=s1.heap.objs.size:=by simpa using hb
    subst e
    exact I1.fpOk (Nat.le_refl _) (I1.hok.fresh (Nat.le_refl _))
end
theorem for_rvd2 {K:PySem.W.Frag} {a:Addr} {xs:List V} {g:TG} {tb:TS} {D:Ends} {σ:St} {H:Hp} (Pv:Nat→St→Hp→Prop) (h0:Pv 0 σ H) (hl:∀ i σ H,i≤xs.length→Pv i σ H→SqT K H a xs)
    (hs:∀ i x σ H,i<xs.length→xs[xs.length - 1 - i]? = some x→Pv i σ H→∀ E:Ends,(∀ σ' H',Pv (i+1) σ' H'→E.nx σ' H')→E.rt=D.rt→g x σ H fun σ2 H2=>tb E σ2 H2) (hd:∀ σ H,Pv xs.length σ H→D.nx σ H):ForW (ItvT K a xs.length) g tb D σ H:=by
  refine⟨fun i m σ H=>m=xs.length - i∧i≤xs.length∧Pv i σ H,⟨xs.length,by simp,Nat.zero_le _,h0⟩,?_⟩
  rintro i m σ H ⟨rfl,hi,p⟩
  have q:=hl i σ H hi p
  by_cases hlt:i<xs.length
  · refine .inr ⟨⟨hlt,xs,q,rfl⟩,Pv (i+1),fun σ' H' p'=>⟨xs.length - (i+1),by omega,rfl,hlt,p'⟩,fun x H' y=>?_⟩
    obtain⟨rfl,y⟩:=y
    exact hs i x σ _ hlt (y xs q) p _ (fun _ _ h=>h) rfl
  · have e:i=xs.length:=by omega
    subst e
    exact .inl ⟨rfl,hd σ H p⟩
end L2
namespace Pg
open PySem L2
noncomputable def mxI (a b:Int):Int:=if b > a then b else a
noncomputable def mnI (a b:Int):Int:=if b<a then b else a
noncomputable def pcE (r:List (Int × Int)) (t:Int):Int:=match r with
  | []=>t
  | q::_=>mnI t q.1
noncomputable def pc (b:Int) (r:List (Int × Int)) (t:Int):Int:=mxI 0 (pcE r t - b)
noncomputable def pcs:List (Int × Int)→Int→List Int
  | [],_=>[]
  | q::r,t=>pc q.1 r t::pcs r t
noncomputable def bsum:List (Int × Int)→Int→Int
  | [],_=>0
  | q::r,t=>q.2*pc q.1 r t+bsum r t
noncomputable def Up (ps:List (Int × Int)):Prop:=ps.Pairwise fun x y=>x.1<y.1
noncomputable def stp (q s:Int × Int):Int × Int:=if s.1 > q.1 then (q.1,s.2+(s.1 - q.1)*q.2) else s
theorem pcE_le (r:List (Int × Int)) (t:Int):pcE r t≤t:=by
  cases r with
  | nil=>exact Int.le_refl _
  | cons q r =>
    show mnI t q.1≤t
    unfold mnI
    split <;> omega
theorem pc_nn (b:Int) (r:List (Int × Int)) (t:Int):0≤pc b r t:=by
  unfold pc mxI
  split <;> omega
theorem fold_stp {ps:List (Int × Int)} (h:Up ps) (t:Int):ps.foldr stp (t,0)=(pcE ps t,bsum ps t):=by
  induction ps with
  | nil=>rfl
  | cons q r ih =>
    have h2:=List.pairwise_cons.mp h
    rw[List.foldr_cons,ih h2.2]
    have le:=pcE_le r t
    show (if pcE r t > q.1 then (q.1,bsum r t+(pcE r t - q.1)*q.2) else (pcE r t,bsum r t))=(mnI t q.1,q.2*pc q.1 r t+bsum r t)
    unfold pc mxI mnI
    by_cases c:pcE r t > q.1
    · rw[if_pos c,if_pos (show q.1<t by omega),if_pos (by omega),Int.mul_comm q.2,Int.add_comm]
    · rw[if_neg c,if_neg (show ¬ pcE r t - q.1 > 0 by omega),Int.mul_zero,Int.zero_add]
      refine Prod.ext ?_ rfl
      show pcE r t=if q.1<t then q.1 else t
      cases r with
      | nil =>
        have c:¬ t > q.1:=c
        rw[if_neg (by omega)]
        rfl
      | cons q' r' =>
        have lt:=h2.1 q' List.mem_cons_self
        have c:¬ mnI t q'.1 > q.1:=c
        show mnI t q'.1=_
        unfold mnI at c ⊢
        by_cases d:q'.1<t
        · rw[if_pos d] at c
          omega
        · rw[if_neg d] at c ⊢
          rw[if_neg (by omega)]
theorem bs_nn {ps:List (Int × Int)} (h:∀ q∈ps,0≤q.2) (t:Int):0≤bsum ps t:=by
  induction ps with
  | nil=>exact Int.le_refl _
  | cons q r ih=>exact Int.add_nonneg (Int.mul_nonneg (h q List.mem_cons_self) (pc_nn _ _ _)) (ih fun p hp=>h p (List.mem_cons_of_mem _ hp))
theorem pcs_len (ps:List (Int × Int)) (t:Int):(pcs ps t).length=ps.length:=by
  induction ps with
  | nil=>rfl
  | cons q r ih=>exact congrArg Nat.succ ih
theorem pcs_at {ps:List (Int × Int)} {t:Int} {k:Nat} {q:Int × Int} (h:ps[k]? = some q):(pcs ps t)[k]? = some (pc q.1 (ps.drop (k+1)) t):=by
  induction ps generalizing k with
  | nil=>cases h
  | cons p r ih =>
    cases k with
    | zero =>
      cases h
      rfl
    | succ k=>exact ih (k:=k) h
theorem pcs_take {ps:List (Int × Int)} {t:Int} {k:Nat} {q:Int × Int} (h:ps[k]? = some q):(pcs ps t).take (k+1)=(pcs ps t).take k++[pc q.1 (ps.drop (k+1)) t]:=by
  rw[List.take_add_one,pcs_at h]
  rfl
theorem bs_range (ps:List (Int × Int)) (t:Int):((List.range ps.length).map fun k=>(ps.map (·.2)).getD k 0*(pcs ps t).getD k 0).sum=bsum ps t:=by
  induction ps with
  | nil=>rfl
  | cons q r ih =>
    rw[List.length_cons,List.range_succ_eq_map,List.map_cons,List.sum_cons,List.map_map]
    show q.2*pc q.1 r t+_=q.2*pc q.1 r t+bsum r t
    rw[← ih]
    rfl
theorem pcE_drop {ps:List (Int × Int)} {t:Int} {k:Nat}:pcE (ps.drop k) t=match ps[k]? with | none=>t | some q=>mnI t q.1:=by
  induction ps generalizing k with
  | nil=>cases k <;> rfl
  | cons q r ih =>
    cases k with
    | zero=>rfl
    | succ k=>exact ih
noncomputable def cB (q:Int × Int):List V:=[.int q.1,.int q.2]
noncomputable def BdsAt (H:Hp) (u:Addr) (ps:List (Int × Int)):Prop:=∃ ys,H u=some (.tup ys)∧TupsAt H ys (ps.map cB)
theorem BdsAt.same {H H':Hp} {u:Addr} {ps:List (Int × Int)} (s:Same H H') (h:BdsAt H u ps):BdsAt H' u ps:=by
  obtain⟨ys,e,t⟩:=h
  exact⟨ys,s _ _ e,t.same s⟩
structure BdOk (ps:List (Int × Int)):Prop where
  few:ps.length≤12
  hd:∃ p r,ps=((0:Int),p)::r
  ok:∀ q∈ps,Amt q.1∧Prt q.2
  up:Up ps
inductive Gd:Nat→Rk→Prop where
  | pln {d:Nat} {r:Rk}:Pln r→Gd d r
  | bands {d:Nat} {n w:Str} {ps:List (Int × Int)}:RName n→BdOk ps→Way w→Gd d (.bands n ps w)
  | ontop {d:Nat} {n w:Str} {p:Int} {r:Rk}:RName n→Prt p→Way w→Gd d r→Gd (d+1) (.ontop n p w r)
theorem Gd.mono {d:Nat} {r:Rk} (h:Gd d r):Gd (d+1) r:=by
  induction h with
  | pln h=>exact .pln h
  | bands h1 h2 h3=>exact .bands h1 h2 h3
  | ontop h1 h2 h3 _ ih=>exact .ontop h1 h2 h3 ih
inductive RoG (Cs:Nat→Addr) (H:Hp):Rk→V→Prop where
  | pln {r:Rk} {v:V}:r.kd<4→RoAt Cs H v r→RoG Cs H r v
  | bands {n w:Str} {ps:List (Int × Int)} {o dx u:Addr}:H o=some (.ins (Cs 4) dx [("name",.str n),("bands",.ref u),("way",.str w)])→BdsAt H u ps→RoG Cs H (.bands n ps w) (.ref o)
  | ontop {n w:Str} {p:Int} {r:Rk} {o dx:Addr} {x:V}:H o=some (.ins (Cs 5) dx [("name",.str n),("parts",.int p),("way",.str w),("within",x)])→RoG Cs H r x→RoG Cs H (.ontop n p w r) (.ref o)
theorem RoG.same {Cs:Nat→Addr} {H H':Hp} {r:Rk} {v:V} (s:Same H H') (h:RoG Cs H r v):RoG Cs H' r v:=by
  induction h with
  | pln k h=>exact .pln k (h.same s)
  | bands h b=>exact .bands (s _ _ h) (b.same s)
  | ontop h _ ih=>exact .ontop (s _ _ h) ih
inductive RtG (H:Hp):Rk→V→Prop where
  | pln {r:Rk} {v:V}:r.kd<4→RtAt H v r→RtG H r v
  | bands {n w:Str} {ps:List (Int × Int)} {t u:Addr}:H t=some (.tup [.str "bands",.str n,.ref u,.str w])→BdsAt H u ps→RtG H (.bands n ps w) (.ref t)
  | ontop {n w:Str} {p:Int} {r:Rk} {t:Addr} {x:V}:H t=some (.tup [.str "ontop",.str n,.int p,.str w,x])→RtG H r x→RtG H (.ontop n p w r) (.ref t)
theorem RtG.same {H H':Hp} {r:Rk} {v:V} (s:Same H H') (h:RtG H r v):RtG H' r v:=by
  induction h with
  | pln k h=>exact .pln k (h.same s)
  | bands h b=>exact .bands (s _ _ h) (b.same s)
  | ontop h _ ih=>exact .ontop (s _ _ h) ih
noncomputable def untG:Rk→List Int→Int
  | .bands _ ps w,bs=>rnd (bsum ps bs.sum) w
  | .ontop _ p w r,bs=>rnd (untG r bs*p) w
  | .flat n a,bs=>unt (.flat n a) bs
  | .share n p w,bs=>unt (.share n p w) bs
  | .capped n p m w,bs=>unt (.capped n p m w) bs
  | .least n p l w,bs=>unt (.least n p l w) bs
noncomputable def ofmG (r:Rk) (bs:List Int):Int:=untG r bs - untG r (dl bs)
noncomputable def bandT (q:Int × Int):Str:=(toString q.1:Str) ++ ":" ++ (toString q.2:Str)
noncomputable def bndT (ps:List (Int × Int)):Str:=Txt.join "," (ps.map bandT)
noncomputable def rStrI:List V→Hp→VK→Prop:=fun xs H Q=>∃ i,xs=[.int i]∧i.natAbs.log2<1920∧Q (.str (toString i)) H
noncomputable def rAddS:R2:=fun x y H Q=>∃ i j,x = .str i∧y = .str j∧i.length+j.length≤sizeLine∧Q (.str (i++j)) H
noncomputable def rowG:Rk→Str
  | .bands n ps w=>Txt.join " " ["bands",n,bndT ps,w]
  | .ontop n p w r=>Txt.join " " ["ontop",n,toString p,w,"of",rowG r]
  | .flat n a=>rowT (.flat n a)
  | .share n p w=>rowT (.share n p w)
  | .capped n p m w=>rowT (.capped n p m w)
  | .least n p l w=>rowT (.least n p l w)
theorem untG_pln {r:Rk} (h:Pln r):untG r=unt r:=by cases h <;> rfl
theorem rowG_pln {r:Rk} (h:Pln r):rowG r=rowT r:=by cases h <;> rfl
theorem rnd_nn {z:Int} {w:Str} (h:0≤z):0≤rnd z w:=by
  unfold rnd
  split <;> omega
theorem pos_nn (bs:List Int):0≤pos bs:=Int.natCast_nonneg _
theorem unt_nn {r:Rk} (h:Pln r) {bs:List Int} (b:Nns bs):0≤unt r bs:=by
  have sn:=sum_nn b
  cases h with
  | flat hn ha=>exact Int.mul_nonneg ha.1 (pos_nn _)
  | share hn hp hw=>exact rnd_nn (Int.mul_nonneg sn hp.1)
  | capped hn hp ha hw =>
    refine rnd_nn (Int.mul_nonneg ?_ hp.1)
    have:=ha.1
    split <;> omega
  | @least n p l w hn hp ha hw =>
    have h2:=Int.mul_nonneg ha.1 (pos_nn bs)
    show 0≤if l*pos bs > rnd (bs.sum*p) w then l*pos bs else rnd (bs.sum*p) w
    split
    · exact h2
    · exact rnd_nn (Int.mul_nonneg sn hp.1)
theorem untG_nn {d:Nat} {r:Rk} (h:Gd d r) {bs:List Int} (b:Nns bs):0≤untG r bs:=by
  induction h with
  | pln h=>rw[untG_pln h];exact unt_nn h b
  | bands h1 h2 h3=>exact rnd_nn (bs_nn (fun q hq=>(h2.ok q hq).2.1) _)
  | ontop h1 h2 h3 _ ih=>exact rnd_nn (Int.mul_nonneg ih h2.1)
structure RulX (K:PySem.W.Frag) (C:Addr):Prop where
  cls:Cls K C
  no:∀ x∈(["name","bands","way","parts","within"]:List Str),NoAttr K C x
noncomputable def sp_rise0 (K:PySem.W.Frag):Sp:=fun vs H Q _=>∃ (l:Addr) (zs:List Int),vs=[.ref l]∧SqL K H l (zs.map V.int)∧zs.length≤50∧zs.Pairwise (fun x y:Int=>x<y)∧∀ H',Same H H'→Q (.bl true) H'
noncomputable def sp_band0:Sp:=fun vs H Q _=>∃ a q,vs=[.ref a]∧H a=some (.tup (cB q))∧Amt q.1∧Prt q.2∧Q (.bl true) H
noncomputable def sp_bands0:Sp:=fun vs H Q _=>∃ u ps,vs=[.ref u]∧BdsAt H u ps∧BdOk ps∧∀ H',Same H H'→Q (.bl true) H'
noncomputable def sp_rinitX (K:PySem.W.Frag):Sp:=fun vs H Q _=>∃ C o dx z,vs=[.ref o,.str z]∧Cls K C∧NoAttr K C "name"∧H o=some (.ins C dx [])∧RName z∧∀ H',(∀ b x,H b=some x→b≠o→H' b=some x)→H' o=some (.ins C dx [("name",.str z)])→Q .non H'
noncomputable def sp_binit (C:Addr):Sp:=fun vs H Q _=>∃ o dx n u ps w,vs=[.ref o,.str n,.ref u,.str w]∧RName n∧BdOk ps∧Way w∧BdsAt H u ps∧H o=some (.ins C dx []) ∧
  ∀ H' u',(∀ b x,H b=some x→b≠o→H' b=some x)→H' o=some (.ins C dx [("name",.str n),("bands",.ref u'),("way",.str w)])→BdsAt H' u' ps→Q .non H'
noncomputable def sp_untG (K:PySem.W.Frag) (d k:Nat) (Cs:Nat→Addr):Sp:=fun vs H Q _=>∃ v r b bs,vs=[v,.ref b]∧r.kd=k∧RoG Cs H r v∧Gd d r∧SqL K H b (bs.map V.int)∧bs.length≤100∧∀ H',Same H H'→Q (.int (untG r bs)) H'
noncomputable def sp_ofmG (K:PySem.W.Frag) (d k:Nat) (Cs:Nat→Addr):Sp:=fun vs H Q _=>∃ v r b bs,vs=[v,.ref b]∧r.kd=k∧RoG Cs H r v∧Gd d r∧SqL K H b (bs.map V.int)∧bs.length≤100∧∀ H',Same H H'→Q (.int (ofmG r bs)) H'
noncomputable def sp_rowG (d k:Nat) (Cs:Nat→Addr):Sp:=fun vs H Q _=>∃ v r,vs=[v]∧r.kd=k∧RoG Cs H r v∧Gd d r∧∀ H',Same H H'→Q (.str (rowG r)) H'
noncomputable def sp_pcsL:Sp:=fun vs H Q _=>∃ u ps t,vs=[.ref u,.int t]∧BdsAt H u ps∧BdOk ps∧∀ l H',Same H H'→H l=none→H' l=some (.lst ((pcs ps t).map V.int))→Q (.ref l) H'
noncomputable def sp_prsR:Sp:=fun vs H Q _=>∃ c,vs=[.int c]∧∀ u ps H',BdOk ps→Same H H'→BdsAt H' u ps→Q (.ref u) H'
noncomputable def sp_plnG:Sp:=fun vs H Q _=>∃ c z k,vs=[.int c,.str z,.int k]∧RName z∧0≤k∧k<5∧∀ v r H',Gd 0 r→r.name=z→(r.kd:Int)=k→Same H H'→RtG H' r v→Q v H'
noncomputable def sp_untN (K:PySem.W.Frag):Nat→Sp
  | 0=>fun _ _ _ _=>False
  | d+1=>fun vs H Q _=>∃ v r b bs,vs=[v,.ref b]∧RtG H r v∧Gd d r∧SqL K H b (bs.map V.int)∧bs.length≤100∧Nns bs∧∀ H',Same H H'→Q (.int (untG r bs)) H'
noncomputable def sp_ofmN (K:PySem.W.Frag) (d:Nat):Sp:=fun vs H Q _=>∃ v r b bs,vs=[v,.ref b]∧RtG H r v∧Gd d r∧SqL K H b (bs.map V.int)∧bs.length≤100∧Nns bs∧∀ H',Same H H'→Q (.int (ofmG r bs)) H'
noncomputable def sp_rowN:Nat→Sp
  | 0=>fun _ _ _ _=>False
  | d+1=>fun vs H Q _=>∃ v r,vs=[v]∧RtG H r v∧Gd d r∧∀ H',Same H H'→Q (.str (rowG r)) H'
noncomputable def sp_coins:Sp:=fun vs H Q _=>∃ u ps w t,vs=[.ref u,.str w,.int t]∧BdsAt H u ps∧BdOk ps∧0≤t∧t≤30∧∀ H',Same H H'→Q (.int (rnd (bsum ps t) w)) H'
theorem RoG.obj {Cs:Nat→Addr} {H:Hp} {r:Rk} {v:V} {d:Nat} (h:RoG Cs H r v) (g:Gd d r):∃ o dx fs,v = .ref o∧H o=some (.ins (Cs r.kd) dx fs)∧fs.lookup ("name":Str)=some (.str r.name) ∧
    ∀ x∈(["until","of_month","row","twin","depth"]:List Str),fs.lookup x=none:=by
  cases h with
  | pln k h =>
    obtain⟨o,dx,rfl,h⟩:=h
    cases g with
    | pln p =>
      refine⟨o,dx,_,rfl,h,at_name p,fun x hx=>?_⟩
      simp only[List.mem_cons,List.not_mem_nil,or_false] at hx
      cases p <;> rcases hx with rfl | rfl | rfl | rfl | rfl <;> rfl
    | bands=>exact absurd k (by show ¬ (_:Nat)<4;exact Nat.not_lt_of_le (Nat.le_of_ble_eq_true rfl))
    | ontop=>exact absurd k (by show ¬ (_:Nat)<4;exact Nat.not_lt_of_le (Nat.le_of_ble_eq_true rfl))
  | bands h b =>
    refine⟨_,_,_,rfl,h,rfl,fun x hx=>?_⟩
    simp only[List.mem_cons,List.not_mem_nil,or_false] at hx
    rcases hx with rfl | rfl | rfl | rfl | rfl <;> rfl
  | ontop h b =>
    refine⟨_,_,_,rfl,h,rfl,fun x hx=>?_⟩
    simp only[List.mem_cons,List.not_mem_nil,or_false] at hx
    rcases hx with rfl | rfl | rfl | rfl | rfl <;> rfl
theorem bds_items {H:Hp} {ys:List V} {ps:List (Int × Int)} (T:TupsAt H ys (ps.map cB)):ItemsAt H ys ps (fun H' v q=>∃ a,v = .ref a∧H' a=some (.tup (cB q))):=by
  refine⟨by rw[T.len,List.length_map],fun i y e=>?_⟩
  obtain⟨a,c,rfl,h1,h2⟩:=T.of_at e
  rw[List.getElem?_map] at h1
  obtain⟨q,hq,rfl⟩:=Option.map_eq_some_iff.mp h1
  exact⟨q,hq,fun H' s=>⟨a,rfl,s _ _ h2⟩⟩
theorem bds_at {H:Hp} {ys:List V} {ps:List (Int × Int)} (T:TupsAt H ys (ps.map cB)) {i:Nat} {q:Int × Int} (h:ps[i]? = some q):∃ a,ys[i]? = some (.ref a)∧H a=some (.tup (cB q)) :=
  T.at_ i _ (by rw[List.getElem?_map,h];rfl)
theorem all_true (n:Nat):(List.replicate n true).all id=true:=by
  rw[List.all_eq_true]
  intro x hx
  exact (List.mem_replicate.mp hx).2
theorem cut_tail (zs:List Int):cutV (zs.map V.int) (some 1) none=zs.tail.map V.int:=by
  unfold cutV
  rw[show (1:Int)=((1:Nat):Int) from rfl,HT.sIx_nat,HT.sIx_none,List.length_map]
  cases zs with
  | nil=>rfl
  | cons z r =>
    rw[Nat.min_eq_left (show 1≤(z::r).length from Nat.succ_le_succ (Nat.zero_le _))]
    show ((r.map V.int)).take (r.length+1 - 1)=r.map V.int
    rw[List.take_of_length_le (by rw[List.length_map];omega)]
theorem up_at {zs:List Int} (h:zs.Pairwise fun x y:Int=>x<y) {i:Nat} {a b:Int} (ha:zs[i]? = some a) (hb:zs.tail[i]? = some b):a<b:=by
  rw[List.getElem?_tail] at hb
  obtain⟨h1,rfl⟩:=List.getElem?_eq_some_iff.mp ha
  obtain⟨h2,rfl⟩:=List.getElem?_eq_some_iff.mp hb
  exact List.pairwise_iff_getElem.mp h i (i+1) h1 h2 (Nat.lt_succ_self _)
theorem zip_true (xs ys:List V):List.zipWith (fun _ _=>V.bl true) xs ys=(List.replicate (min xs.length ys.length) true).map V.bl:=by
  rw[List.map_replicate]
  apply List.ext_getElem
  · rw[List.length_zipWith,List.length_replicate]
  · intro i h1 h2
    rw[List.getElem_zipWith,List.getElem_replicate]
theorem map_true {α:Type} (xs:List α):xs.map (fun _=>V.bl true)=(List.replicate xs.length true).map V.bl:=by
  rw[List.map_replicate]
  induction xs with
  | nil=>rfl
  | cons x r ih=>exact congrArg (V.bl true :: ·) ih
theorem amtT_len {i:Int} (h:Amt i):(toString i:Str).length≤13:=numS_len (k:=13) h.1 (by decide) (by have:=h.2;have:=h.1;omega)
theorem prtT_len {i:Int} (h:Prt i):(toString i:Str).length≤5:=numS_len (k:=5) h.1 (by decide) (by have:=h.2;have:=h.1;omega)
theorem bandT_len {q:Int × Int} (h:Amt q.1) (k:Prt q.2):(bandT q).length≤19:=by
  have l1:=amtT_len h
  have l2:=prtT_len k
  have l3:((toString q.1:Str) ++ ":" ++ (toString q.2:Str)).length=(toString q.1:Str).length+1+(toString q.2:Str).length:=by rw[Str.length_append,Str.length_append];rfl
  unfold bandT
  omega
theorem bands_join {ps:List (Int × Int)} (ok:BdOk ps):JoinOk "," (ps.map bandT)=true∧(bndT ps).length≤252:=join_small (m:=19) (k:=12) (fun z hz=>by
  obtain⟨q,hq,rfl⟩:=List.mem_map.mp hz
  exact bandT_len (ok.ok q hq).1 (ok.ok q hq).2) (by rw[List.length_map];exact ok.few) (by decide +kernel) rfl
theorem way_len {w:Str} (h:Way w):w.length≤4:=by
  have h:=List.contains_iff_mem.mp h
  unfold wayL at h
  simp only[List.mem_cons,List.not_mem_nil,or_false] at h
  rcases h with rfl | rfl | rfl | rfl <;> decide +kernel
theorem at_first {xs:List V} {v:V} (h:xs.head? = some v):atI xs 0=some v:=by
  cases xs with
  | nil=>cases h
  | cons x r =>
    cases h
    exact atI_nat (j:=0) rfl
end Pg
namespace L2
open PySem PySem.Spec PyProof.Rows
theorem comp_zipS {K:PySem.W.Frag} {D a b:Addr} {te:TE} {fin:List V→Hp→Prop} {σ:St} {H:Hp} {xs ys:List V} (ha:SqL K H a xs) (hb:SqL K H b ys) (hD:H D=none) (hz:ys.length<sizeLine) (hxy:ys.length≤xs.length) (φ:V→V→V)
    (he:∀ (i:Nat) x y,xs[i]? = some x→ys[i]? = some y→∀ H' R,Same H H'→(∀ H'',Same H' H''→R (φ x y) H'')→te ((σ.set 0 (some x)).set 1 (some y)) H' R)
    (hf:∀ H',Same H H'→H' D=some (.lst (List.zipWith φ xs ys))→fin (List.zipWith φ xs ys) H') :
    tTurnsI (Itz K a b) D (gTup K 2 (gCons (gName 0) (gCons (gName 1) gNil))) tNoIf te fin σ (upd H D (.lst [])):=by
  refine⟨fun i m zs σ' H'=>m=ys.length - i∧i≤ys.length∧(∀ x y,(σ'.set 0 x).set 1 y=(σ.set 0 x).set 1 y)∧Same H H'∧H' D=some (.lst zs)∧zs=List.zipWith φ (xs.take i) (ys.take i),⟨ys.length,by simp,Nat.zero_le _,fun _ _=>rfl,Same.upd hD,upd_same,rfl⟩,fun i m zs σ H ⟨_,_,_,_,h,_⟩=>h,?_⟩
  rintro i m zs σ' H' ⟨rfl,hi,hσ,s,hd,rfl⟩
  by_cases hlt:i<ys.length
  · have hx:=List.getElem?_eq_getElem (show i<xs.length by omega)
    have hy:=List.getElem?_eq_getElem hlt
    have tx:xs.take (i+1)=xs.take i++[xs[i]]:=by rw[List.take_add_one,hx];rfl
    have ty:ys.take (i+1)=ys.take i++[ys[i]]:=by rw[List.take_add_one,hy];rfl
    refine .inr ⟨⟨xs,ys,_,_,s.seq ha,s.seq hb,hx,hy⟩,fun zs' σ2 H2=>(∀ x y,(σ2.set 0 x).set 1 y=(σ.set 0 x).set 1 y)∧Same H H2∧H2 D=some (.lst zs')∧zs'=List.zipWith φ (xs.take (i+1)) (ys.take (i+1)),fun zs' σ2 H2 p=>⟨ys.length - (i+1),by omega,rfl,hlt,p⟩,fun v H'' hy'=>?_⟩
    obtain⟨c,x,y,e1,e2,e3,e4⟩:=hy'
    obtain⟨e5,e6⟩:=e4 xs ys (s.seq ha) (s.seq hb)
    subst e1 e3
    rw[hx] at e5
    rw[hy] at e6
    cases e5
    cases e6
    refine⟨c,_,rfl,SqT.of upd_same,rfl,_,_,rfl,_,_,rfl,rfl,?_⟩
    have s2:Same H' (upd H' c (.tup [xs[i],ys[i]])):=Same.upd e2
    unfold tNoIf
    dsimp only
    refine iteT ?_
    show te ((σ'.set 0 _).set 1 _) _ _
    rw[hσ]
    refine he i _ _ hx hy _ _ (s.trans s2) fun H3 s3=>⟨s3 _ _ (s2 _ _ hd),?_,?_,?_,upd_same,?_⟩
    · rw[List.length_zipWith,List.length_take,List.length_take];omega
    · intro x y
      rcases σ with _ | ⟨_,_ | ⟨_,_⟩⟩ <;> rfl
    · intro b o z
      rw[upd_ne (ne_of_none z hD)]
      exact s3 _ _ (s2 _ _ (s _ _ z))
    · rw[tx,ty,List.zipWith_append (by rw[List.length_take,List.length_take];omega)]
      rfl
  · have e:i=ys.length:=by omega
    subst e
    refine .inl ⟨⟨xs,ys,s.seq ha,s.seq hb,.inr (Nat.le_refl _)⟩,?_⟩
    have e3:List.zipWith φ (xs.take ys.length) ys=List.zipWith φ xs ys:=by
      apply List.ext_getElem?
      intro j
      rw[List.getElem?_zipWith,List.getElem?_zipWith,List.getElem?_take]
      by_cases h:j<ys.length
      · rw[if_pos h]
      · rw[if_neg h,List.getElem?_eq_none (l:=ys) (by omega)]
        cases xs[j]? <;> rfl
    rw[List.take_length,e3] at hd ⊢
    exact hf H' s hd
end L2
namespace K13
open PySem PySem.NumText L2 Pg
seal PE PA PT PW PS PSs PG PGs PI PIf PO PK
section
variable {P:Program} {w:World} {K:PySem.W.Frag} {mg:Str→Option Value} {base:Heap} {f:Addr} {fd:FuncData} {d:Nat→Addr} {cR:Addr}
theorem ok_rise0 (F:Fun K "rise" "rise" (top 27) f fd) (G:Glb mg):FnOk P w K mg base CX0 1 f fd ["things"] (sp_rise0 K):=by
  have nc:(["thing","after"]:List Str).Nodup:=by decide +kernel
  refine F.ok (N:=["things"]) ⟨rfl,rfl,rfl,by decide +kernel,rfl,by decide +kernel,by decide +kernel⟩ (fun vs H Q E h=>?_) (fun cdv A outer s H vs Q E hr h=>?_)
  · obtain⟨l,zs,rfl,_⟩:=h
    rfl
  · obtain⟨l,zs,rfl,hl,zl,up,q⟩:=h
    refine' ⟨_,pss_one (ps_ret (pe_callB (call_allL rfl) rfl G.all boot_all (pa_cons ?comp pa_nil))),?main⟩
    case comp =>
      refine' pe_compI (Nc:=["thing","after"]) (cl:=[]) (src:=[none,none]) (wi:=iZip K (tCons (tVar 0) (tCons (tSl (rSlL K) (tVar 0) (tPart (tC (.int 1))) tNoPart) tNil))) (g:=gTup K 2 (gCons (gName 0) (gCons (gName 1) gNil))) (tt:=tNoIf) (te:=tOp (rI0 fun i j=>.bl (decide (i<j))) (tVar 0) (tVar 1))
        ⟨rfl,rfl,by decide +kernel,by decide +kernel,(fun x c z=>nomatch z),has_of (by rfl),frm_none (frm_none frm_nil),rfl⟩ rfl (pi_zip rfl G.zip (pa_cons (pv 0) (pa_cons (pe_slice sl_list (pv 0) (po_some pe_int) po_none) pa_nil))) ?hb
      case hb =>
        intro fp C' s' H'
        exact⟨pg_tup rfl (pgs_cons (pg_name (i:=0) nc rfl (Or.inl rfl)) (pgs_cons (pg_name (i:=1) nc rfl (Or.inl rfl)) pgs_nil)),pif_nil,pe_cmpR op_lt (pv 0) (pv 1) (nomark _)⟩
    refine⟨_,rfl,_,rfl,_,rfl,l,_,rfl,hl,fun p p0=>?_⟩
    have s1:Same H (upd H p (.lst (cutV (zs.map V.int) (some 1) none))):=Same.upd p0
    have e1:(upd H p (.lst (cutV (zs.map V.int) (some 1) none))) p=some (.lst (zs.tail.map V.int)):=by rw[upd_same,cut_tail]
    refine⟨l,p,rfl,⟨_,s1.seq hl⟩,⟨_,SqL.of e1⟩,fun D hD=>comp_zipS (s1.seq hl) (SqL.of e1) hD (by rw[List.length_map,List.length_tail,sizeLine_eq];omega) (by rw[List.length_map,List.length_map,List.length_tail];omega) (fun _ _=>V.bl true) (fun i x y hx hy H1 R s2 r=>?_) (fun H1 s2 e2=>?_)⟩
    · rw[List.getElem?_map] at hx hy
      obtain⟨a,ha,rfl⟩:=Option.map_eq_some_iff.mp hx
      obtain⟨b,hb,rfl⟩:=Option.map_eq_some_iff.mp hy
      refine⟨_,rfl,_,rfl,a,b,rfl,rfl,?_⟩
      show R (V.bl (decide (a<b))) H1
      rw[decide_eq_true (up_at up ha hb)]
      exact r H1 (Same.refl _)
    · refine⟨D,List.replicate (zs.length - 1) true,rfl,SqL.of ?_,?_⟩
      · rw[e2,zip_true,List.length_map,List.length_map,List.length_tail,Nat.min_eq_right (by omega)]
      · rw[Pg.all_true]
        exact q H1 (s1.trans s2)
theorem ok_band0 (F:Fun K "is_band" "is_band" (top 51) f fd) (G:Glb mg) (C1:Cal P w K mg base CX0 3 "is_rule_amount" ["thing"] sp_ramt0) (C2:Cal P w K mg base CX0 3 "is_parts" ["thing"] sp_parts0):FnOk P w K mg base CX0 4 f fd ["thing"] sp_band0:=by
  refine F.ok (N:=["thing"]) ⟨rfl,rfl,rfl,by decide +kernel,rfl,by decide +kernel,by decide +kernel⟩ (fun vs H Q E h=>?_) (fun cdv A outer s H vs Q E hr h=>?_)
  · obtain⟨a,p,rfl,_⟩:=h
    rfl
  · obtain⟨a,p,rfl,ha,h1,h2,q⟩:=h
    refine⟨_,(pss_cons (ps_if (PW.pt (pw_or (pt_not (pt_val (pe_callB call_isinst rfl G.isinstance boot_isinstance (pa_cons (pv 0) (pa_cons (pe_bltn (v:=.ty "tuple") rfl G.tuple boot_tuple rfl) pa_nil))))) (pw_or1 (pt_cmpR op_ne (pe_callB call_len_seq rfl G.len boot_len (pa_cons (pv 0) pa_nil)) pe_int (nomark _))))) (pss_one (ps_ret pe_bl)) pss_nil)
        (pss_one (ps_ret (pe_and (pe_cal C1 hr (by decide) pass0 (pa_cons (pe_at ix_tup (pv 0) pe_int) pa_nil)) (pe_one (pe_cal C2 hr (by decide) pass0 (pa_cons (pe_at ix_tup (pv 0) pe_int) pa_nil))))))),?_⟩
    refine⟨_,rfl,_,_,_,_,true,rfl,rfl,.inl (.tup ha),rfl,true,rfl,iteF ⟨_,rfl,a,_,rfl,.inr (SqT.of ha),rfl,_,rfl,iteF ?_⟩⟩
    refine⟨_,rfl,a,_,_,_,rfl,rfl,SqT.of ha,rfl,_,rfl,h1,true,rfl,iteT ⟨_,rfl,a,_,_,_,rfl,rfl,SqT.of ha,rfl,_,rfl,h2.1,h2.2,q⟩⟩
theorem ok_bands0 (F:Fun K "are_bands" "are_bands" (top 52) f fd) (G:Glb mg) (N1:Num mg "MOST_BANDS" 12) (C1:Cal P w K mg base CX0 4 "is_band" ["thing"] sp_band0) (C2:Cal P w K mg base CX0 1 "rise" ["things"] (sp_rise0 K)):FnOk P w K mg base CX0 5 f fd ["thing"] sp_bands0:=by
  obtain⟨tk,em⟩:=N1
  have nd:(["thing","borders"]:List Str).Nodup:=by decide +kernel
  have nc:(["row"]:List Str).Nodup:=by decide +kernel
  refine F.ok (N:=["thing","borders"]) ⟨rfl,rfl,rfl,by decide +kernel,rfl,by decide +kernel,by decide +kernel⟩ (fun vs H Q E h=>?_) (fun cdv A outer s H vs Q E hr h=>?_)
  · obtain⟨u,ps,rfl,_⟩:=h
    rfl
  · obtain⟨u,ps,rfl,⟨ys,hu,T⟩,ok,q⟩:=h
    refine' ⟨_,(pss_cons (ps_if (PW.pt (pw_or (pt_not (pt_val (pe_callB call_isinst rfl G.isinstance boot_isinstance (pa_cons (pv 0) (pa_cons (pe_bltn (v:=.ty "tuple") rfl G.tuple boot_tuple rfl) pa_nil))))) (pw_or (pt_cmpR op_lt (pe_callB call_len_seq rfl G.len boot_len (pa_cons (pv 0) pa_nil)) pe_int (nomark _)) (pw_or1 (pt_cmpR op_gt (pe_callB call_len_seq rfl G.len boot_len (pa_cons (pv 0) pa_nil)) (pe_glob (v:=.int 12) rfl em ⟨tk,rfl⟩) (nomark _)))))) (pss_one (ps_ret pe_bl)) pss_nil)
        (pss_cons (ps_if (pt_not (pt_val (pe_callB (call_allL rfl) rfl G.all boot_all (pa_cons ?comp_2 pa_nil)))) (pss_one (ps_ret pe_bl)) pss_nil)
        (pss_cons ?st_1
        (pss_one (ps_ret (pe_and (pe_cmpR op_eq (pe_at ix_list (pv 1) pe_int) pe_int (nomark _)) (pe_one (pe_cal C2 hr (by decide) pass0 (pa_cons (pv 1) pa_nil))))))))),?main⟩
    case comp_2 =>
      refine' pe_compI (Nc:=["row"]) (cl:=[]) (src:=[none]) (wi:=iTup K (tVar 0)) (g:=gName 0) (tt:=tNoIf) (te:=fun σ H Q=>tCons (tVar 0) tNil σ H fun vs H1=>sp_band0 vs H1 Q E0)
        ⟨rfl,rfl,by decide +kernel,by decide +kernel,(fun x c z=>nomatch z),has_of (by rfl),frm_none frm_nil,rfl⟩ rfl (pi_tup (pv 0)) ?hb
      case hb =>
        intro fp C' s' H'
        exact⟨pg_name (i:=0) nc rfl (Or.inl rfl),pif_nil,pe_cal C1 hr (by decide) pass0 (pa_cons (pv 0) pa_nil)⟩
    case st_1 =>
      refine' ps_setC (i:=1) (Nc:=["row"]) (cl:=[]) (src:=[none]) (wi:=iTup K (tVar 0)) (g:=gName 0) (tt:=tNoIf) (te:=tOp (rIxT K) (tVar 0) (tC (.int 0))) nd rfl rfl
        ⟨rfl,rfl,by decide +kernel,by decide +kernel,(fun x c z=>nomatch z),has_of (by rfl),frm_none frm_nil,rfl⟩ rfl (pi_tup (pv 0)) ?hb
      case hb =>
        intro fp C' s' H'
        exact⟨pg_name (i:=0) nc rfl (Or.inl rfl),pif_nil,pe_at ix_tup (pv 0) pe_int⟩
    have few:=ok.few
    have yl:ys.length=ps.length:=by rw[T.len,List.length_map]
    obtain⟨p0,r0,ep⟩:=ok.hd
    have ne:1≤ps.length:=by rw[ep];exact Nat.succ_le_succ (Nat.zero_le _)
    have hs:ps.length<sizeLine:=by rw[sizeLine_eq];omega
    refine⟨_,rfl,_,_,_,_,true,rfl,rfl,.inl (.tup hu),rfl,true,rfl,iteF ⟨_,rfl,u,_,rfl,.inr (SqT.of hu),_,_,rfl,rfl,_,rfl,ite2 (fun e=>?_) (fun _=>?_)⟩⟩
    · have:=of_decide_eq_true e
      omega
    refine⟨_,rfl,u,_,rfl,.inr (SqT.of hu),_,_,rfl,rfl,_,rfl,ite2 (fun e=>?_) (fun _=>?_)⟩
    · have:=of_decide_eq_true e
      omega
    refine⟨_,rfl,u,rfl,⟨_,SqT.of hu⟩,fun D hD=>comp_at (walk_tup (SqT.of hu)) (bds_items T) hD hs (fun _=>V.bl true) (fun p hp v H1 R s1 e1 r=>?_) (fun H1 s1 e1=>?_)⟩
    · obtain⟨a,rfl,ha⟩:=e1
      exact⟨_,rfl,a,p,rfl,ha,(ok.ok p hp).1,(ok.ok p hp).2,r H1 (Same.refl _)⟩
    refine⟨D,List.replicate ps.length true,rfl,SqL.of (by rw[e1,map_true]),?_⟩
    rw[Pg.all_true]
    refine⟨true,rfl,iteF ⟨_,rfl,u,rfl,⟨_,SqT.of (s1 _ _ hu)⟩,fun D2 hD2=>comp_at (walk_tup (SqT.of (s1 _ _ hu))) (bds_items (T.same s1)) hD2 hs (fun p=>V.int p.1) (fun p hp v H2 R s2 e2 r=>?_) (fun H2 s2 e2=>?_)⟩⟩
    · obtain⟨a,rfl,ha⟩:=e2
      exact⟨_,rfl,a,_,_,_,rfl,rfl,SqT.of ha,rfl,r H2 (Same.refl _)⟩
    have e2':H2 D2=some (.lst ((ps.map (·.1)).map V.int)):=by rw[e2,List.map_map];rfl
    refine⟨_,rfl,D2,_,_,.int 0,rfl,rfl,SqL.of e2',at_first (by rw[ep];rfl),rfl,true,rfl,iteT ⟨_,rfl,D2,_,rfl,SqL.of e2',by rw[List.length_map];omega,?_,fun H3 s3=>q H3 (s1.trans (s2.trans s3))⟩⟩
    exact List.pairwise_map.mpr ok.up
end
end K13
namespace K13
open PySem PySem.NumText L2 Pg
seal PE PA PT PW PS PSs PG PGs PI PIf PO PK
section
variable {P:Program} {w:World} {K:PySem.W.Frag} {mg:Str→Option Value} {base:Heap} {f:Addr} {fd:FuncData} {d:Nat→Addr} {cR:Addr}
theorem ok_rinitX (F:Fun K "__init__" "Rule.__init__" (inClass (top 44) 0) f fd) (C1:Cal P w K mg base CX0 3 "is_rule_name" ["thing"] sp_rname0):FnOk P w K mg base CX0 4 f fd ["self","name"] (sp_rinitX K):=by
  refine F.ok (N:=["self","name"]) ⟨rfl,rfl,rfl,by decide +kernel,rfl,by decide +kernel,by decide +kernel⟩ (fun vs H Q E h=>?_) (fun cdv A outer s H vs Q E hr h=>?_)
  · obtain⟨i,o,dx,z,rfl,_⟩:=h
    rfl
  · obtain⟨C,o,dx,z,rfl,cl,no,ho,hz,q⟩:=h
    refine⟨_,pss_cons (ps_if (pt_not (pt_val (pe_cal C1 hr (by decide) pass0 (pa_cons (pv 1) pa_nil)))) pss_never pss_nil) (pss_one (ps_fld (pv 0) (pv 1) rfl)),?_⟩
    refine⟨_,rfl,z,rfl,hz,fun H1 s1=>⟨true,rfl,iteF ⟨_,rfl,_,rfl,o,_,dx,[],rfl,s1 _ _ ho,cl,no,by decide,?_⟩⟩⟩
    rw[pr1]
    exact q _ (fun b x hb ne=>by rw[upd_ne ne];exact s1 _ _ hb) upd_same
theorem ok_binit {C:Addr} (F:Fun K "__init__" "Bands.__init__" (inClass (top 53) 0) f fd) (G:Glb mg) (RX:RulX K C) (CR:CalC P w K mg base CX0 4 "Rule" "__init__" ["self","name"] (sp_rinitX K)) (C1:Cal P w K mg base CX0 5 "are_bands" ["thing"] sp_bands0) (C2:Cal P w K mg base CX0 1 "is_way" ["thing"] sp_way0):FnOk P w K mg base CX0 6 f fd ["self","name","rows","way"] (sp_binit C):=by
  have nc:(["row"]:List Str).Nodup:=by decide +kernel
  refine F.ok (N:=["self","name","rows","way"]) ⟨rfl,rfl,rfl,by decide +kernel,rfl,by decide +kernel,by decide +kernel⟩ (fun vs H Q E h=>?_) (fun cdv A outer s H vs Q E hr h=>?_)
  · obtain⟨o,dx,n,u,ps,x,rfl,_⟩:=h
    rfl
  · obtain⟨o,dx,n,u,ps,x,rfl,hn,ok,hw,bd,ho,q⟩:=h
    refine' ⟨_,pss_cons (ps_expr (pe_calC CR hr (by decide) pass0 (pa_cons (pv 0) (pa_cons (pv 1) pa_nil)))) (pss_cons (ps_if (pt_not (pt_val (pe_cal C1 hr (by decide) pass0 (pa_cons (pv 2) pa_nil)))) pss_never pss_nil) (pss_cons (ps_if (pt_not (pt_val (pe_cal C2 hr (by decide) pass0 (pa_cons (pv 3) pa_nil)))) pss_never pss_nil) (pss_cons (ps_fld (pv 0) (pe_callTy call_tuple_of rfl G.tuple boot_tuple (pa_cons ?comp pa_nil)) rfl) (pss_one (ps_fld (pv 0) (pv 3) rfl))))),?main⟩
    case comp =>
      refine' pe_compI (Nc:=["row"]) (cl:=[]) (src:=[none]) (wi:=iTup K (tVar 2)) (g:=gName 0) (tt:=tNoIf) (te:=tTupS (tCons (tOp (rIxT K) (tVar 0) (tC (.int 0))) (tCons (tOp (rIxT K) (tVar 0) (tC (.int 1))) tNil)))
        ⟨rfl,rfl,by decide +kernel,by decide +kernel,(fun x c z=>nomatch z),has_of (by rfl),frm_none frm_nil,rfl⟩ rfl (pi_tup (pv 2)) ?hb
      case hb =>
        intro fp C' s' H'
        exact⟨pg_name (i:=0) nc rfl (Or.inl rfl),pif_nil,pe_tupS (pa_cons (pe_at ix_tup (pv 0) pe_int) (pa_cons (pe_at ix_tup (pv 0) pe_int) pa_nil))⟩
    obtain⟨ys,hu,T⟩:=bd
    have few:=ok.few
    have uo:u≠o:=ne_of hu ho (by intro z;cases z)
    have nt:∀ c,H o≠some (.tup c):=fun c z=>by rw[ho] at z;cases z
    refine⟨_,rfl,_,rfl,C,o,dx,_,rfl,RX.cls,RX.no "name" (by decide),ho,hn,fun H1 f1 e1=>?_⟩
    have hu1:=f1 _ _ hu uo
    have T1:TupsAt H1 ys (ps.map cB):=T.mono fun b c h=>f1 _ _ h (ne_of h ho (by intro z;cases z))
    refine⟨_,rfl,u,ps,rfl,⟨ys,hu1,T1⟩,ok,fun H2 s2=>⟨true,rfl,iteF ⟨_,rfl,x,rfl,hw,true,rfl,iteF ?_⟩⟩⟩
    have hu2:=s2 _ _ hu1
    have T2:=T1.same s2
    refine⟨_,rfl,u,rfl,⟨_,SqT.of hu2⟩,fun D hD=>comp_newN (walk_tup (SqT.of hu2)) (bds_items T2) hD (by rw[sizeLine_eq];omega) cB (fun p hp v H3 R s3 e3 r=>?_) (fun zs H3 s3 e3 T3=>?_)⟩
    · obtain⟨a,rfl,ha⟩:=e3
      exact⟨_,rfl,a,_,_,_,rfl,rfl,SqT.of ha,rfl,_,rfl,a,_,_,_,rfl,rfl,SqT.of ha,rfl,lenOk rfl,r⟩
    refine⟨D,zs,rfl,.inl ⟨SqL.of e3,fun l l0=>?_⟩⟩
    have s4:Same H3 (upd H3 l (.tup zs)):=Same.upd l0
    have e4:(upd H3 l (.tup zs)) l=some (.tup zs):=upd_same
    generalize upd H3 l (.tup zs)=H4 at s4 e4
    have s24:=s2.trans (s3.trans s4)
    have eo:=s24 _ _ e1
    refine⟨_,rfl,o,_,dx,_,rfl,eo,RX.cls,RX.no "bands" (by decide),by show 1<1000;decide,?_⟩
    rw[pr2 _ _ _ (by decide +kernel)]
    refine⟨_,rfl,_,rfl,o,_,dx,_,rfl,upd_same,RX.cls,RX.no "way" (by decide),by show 2<1000;decide,?_⟩
    rw[pr3 _ _ _ _ _ (by decide +kernel) (by decide +kernel)]
    have lo:l≠o:=ne_of e4 eo (by intro z;cases z)
    have nt4:∀ c,H4 o≠some (.tup c):=fun c z=>by rw[eo] at z;cases z
    refine q _ l (fun b y hb ne=>by rw[upd_ne ne,upd_ne ne];exact s24 _ _ (f1 _ _ hb ne)) upd_same ⟨zs,by rw[upd_ne lo,upd_ne lo];exact e4,((T3.same s4).upd nt4).upd fun c z=>?_⟩
    rw[upd_same] at z
    cases z
set_option maxHeartbeats 4000000 in
theorem ok_untB {Cs:Nat→Addr} {d:Nat} (F:Fun K "until" "Bands.until" (inClass (top 53) 1) f fd) (G:Glb mg) (RX:RulX K (Cs 4)) (C1:Cal P w K mg base CX0 3 "rounded" ["number","way"] sp_rnd0):FnOk P w K mg base CX0 4 f fd ["self","bases"] (sp_untG K d 4 Cs):=by
  have nd:(["self","bases","left","together","band"]:List Str).Nodup:=by decide +kernel
  refine F.ok (N:=["self","bases","left","together","band"]) ⟨rfl,rfl,rfl,by decide +kernel,rfl,by decide +kernel,by decide +kernel⟩ (fun vs H Q E h=>?_) (fun cdv A outer s H vs Q E hr h=>?_)
  · obtain⟨v,r,b,bs,rfl,_⟩:=h
    rfl
  · obtain⟨v,r,b,bs,rfl,hk,ro,gd,hb,bl,q⟩:=h
    cases gd with
    | pln p=>cases p <;> cases hk
    | ontop=>cases hk
    | @bands _ n x ps hn ok hw =>
      cases ro with
      | pln k _=>exact absurd k (by show ¬ (4:Nat)<4;decide)
      | @bands _ _ _ o dx u ho bd =>
        obtain⟨ys,hu,T⟩:=bd
        have yl:ys.length=ps.length:=by rw[T.len,List.length_map]
        refine⟨_,pss_cons (ps_set (i:=2) nd rfl (Or.inl rfl) (pe_callB (call_sumL rfl) rfl G.sum boot_sum (pa_cons (pv 1) pa_nil))) (pss_cons (ps_set (i:=3) nd rfl (Or.inl rfl) pe_int) (pss_cons (ps_for PassesOwn.never rfl (pi_rvd rfl G.reversed (pa_cons (pe_fld (pv 0) rfl) pa_nil)) (pg_name (i:=4) nd rfl (Or.inl rfl))
          (pss_one (ps_if (pt_cmpR op_gt (pv 2) (pe_at ix_tup (pv 4) pe_int) (nomark _)) (pss_cons (ps_set (i:=3) nd rfl (Or.inl rfl) (pe_op op_add (pv 3) (pe_op op_mul (pe_op op_sub (pv 2) (pe_at ix_tup (pv 4) pe_int)) (pe_at ix_tup (pv 4) pe_int)))) (pss_one (ps_set (i:=2) nd rfl (Or.inl rfl) (pe_at ix_tup (pv 4) pe_int)))) pss_nil)))
          (pss_one (ps_ret (pe_cal C1 hr (by decide) pass0 (pa_cons (pv 3) (pa_cons (pe_fld (pv 0) rfl) pa_nil))))))),?_⟩
        refine⟨_,rfl,b,bs,rfl,hb,_,rfl,o,_,dx,_,_,rfl,ho,RX.cls,RX.no "bands" (by decide),rfl,u,ys,rfl,SqT.of hu,for_rvd2 (fun i σ H'=>∃ x4,σ = [some (.ref o),some (.ref b),some (.int ((ps.drop (ps.length - i)).foldr stp (bs.sum,0)).1),some (.int ((ps.drop (ps.length - i)).foldr stp (bs.sum,0)).2),x4]∧H'=H) ?_ ?_ ?_ ?_⟩
        · refine⟨none,?_,rfl⟩
          rw[Nat.sub_zero,List.drop_length]
          rfl
        · rintro i σ H' hi ⟨x4,rfl,rfl⟩
          exact SqT.of hu
        · rintro i y σ H' hi hy ⟨x4,rfl,rfl⟩ E2 k2 _
          rw[yl] at hi hy
          have hq:=List.getElem?_eq_getElem (show ps.length - 1 - i<ps.length by omega)
          obtain⟨a,ea,ha⟩:=bds_at T hq
          rw[hy] at ea
          cases ea
          have dr:ps.drop (ps.length - (i+1))=ps[ps.length - 1 - i]::ps.drop (ps.length - i):=by
            rw[show ps.length - (i+1)=ps.length - 1 - i by omega,List.drop_eq_getElem_cons (show ps.length - 1 - i<ps.length by omega),show ps.length - 1 - i+1=ps.length - i by omega]
          have pt:=(ok.ok _ (List.mem_of_getElem? hq)).2
          have p0:=pt.1
          have p1:=pt.2
          rw[dr,List.foldr_cons] at k2
          generalize ps[ps.length - 1 - i]=g at ha k2 p0 p1
          generalize (ps.drop (ps.length - i)).foldr stp (bs.sum,0)=z at k2
          unfold stp at k2
          refine⟨_,rfl,_,rfl,a,_,_,_,rfl,rfl,SqT.of ha,rfl,_,_,rfl,rfl,_,rfl,ite2 (fun e=>?_) (fun e=>?_)⟩
          · have e:=of_decide_eq_true e
            rw[if_pos e] at k2
            exact⟨_,rfl,_,rfl,_,rfl,a,_,_,_,rfl,rfl,SqT.of ha,rfl,_,_,rfl,rfl,_,rfl,a,_,_,_,rfl,rfl,SqT.of ha,rfl,_,_,rfl,rfl,.inr ⟨by omega,by omega⟩,_,_,rfl,rfl,_,rfl,a,_,_,_,rfl,rfl,SqT.of ha,rfl,k2 _ _ ⟨_,rfl,rfl⟩⟩
          · rw[if_neg fun c=>e (decide_eq_true c)] at k2
            exact k2 _ _ ⟨_,rfl,rfl⟩
        · rintro σ H' ⟨x4,rfl,rfl⟩
          have e:=fold_stp ok.up bs.sum
          rw[yl,Nat.sub_self,List.drop_zero,e]
          exact⟨_,rfl,_,rfl,o,_,dx,_,_,rfl,ho,RX.cls,RX.no "way" (by decide),rfl,_,_,rfl,hw,q _ (Same.refl _)⟩
theorem ok_ofmG {Cs:Nat→Addr} {k d j:Nat} (F:Fun K "of_month" "Rule.of_month" (inClass (top 44) 5) f fd) (M:CalM P w K mg base CX0 j (Cs k) "until" ["self","bases"] (sp_untG K d k Cs)):FnOk P w K mg base CX0 (j+1) f fd ["self","bases"] (sp_ofmG K d k Cs):=by
  refine F.ok (N:=["self","bases"]) ⟨rfl,rfl,rfl,by decide +kernel,rfl,by decide +kernel,by decide +kernel⟩ (fun vs H Q E h=>?_) (fun cdv A outer s H vs Q E hr h=>?_)
  · obtain⟨v,r,b,bs,rfl,_⟩:=h
    rfl
  · obtain⟨v,r,b,bs,rfl,hk,ro,gd,hb,bl,q⟩:=h
    obtain⟨o,dx,fs,rfl,ho,_,no⟩:=ro.obj gd
    have no:=no "until" (by decide)
    rw[hk] at ho
    refine⟨_,pss_one (ps_ret (pe_op op_sub (pe_calM M hr (Nat.le_refl _) pass0 (pv 0) (pa_cons (pv 1) pa_nil)) (pe_calM M hr (Nat.le_refl _) pass0 (pv 0) (pa_cons (pe_slice sl_list (pv 1) po_none (po_some (pe_un un_neg pe_int))) pa_nil)))),?_⟩
    refine⟨_,rfl,o,dx,_,rfl,ho,no,_,rfl,_,r,b,bs,rfl,hk,ro,gd,hb,bl,fun H1 s1=>?_⟩
    refine⟨_,rfl,o,dx,_,rfl,s1 _ _ ho,no,_,rfl,_,rfl,_,rfl,b,_,rfl,s1.seq hb,fun p p0=>?_⟩
    have s2:Same H1 (upd H1 p (.lst (cutV (bs.map V.int) none (some (-1))))):=Same.upd p0
    refine⟨_,r,p,dl bs,rfl,hk,(ro.same s1).same s2,gd,SqL.of (by rw[← dl_cut];exact upd_same),Nat.le_trans (dl_len bs) bl,fun H2 s3=>⟨_,_,rfl,rfl,q H2 (s1.trans (s2.trans s3))⟩⟩
end
end K13
set_option maxHeartbeats 1000000
namespace L2
open PySem PySem.Spec PyProof.Rows PySem.W
noncomputable def Rises (m:Nat→Int) (nm:Nat→Str) (n:Nat):Prop:=∀ i j,i<j→j<n→m i<m j∨(m i=m j∧(nm i).cps.toList<(nm j).cps.toList)
noncomputable def lexT (x:Int) (a:Str) (y:Int) (c:Str):Bool:=if x=y then decide (a.cps.toList<c.cps.toList) else decide (x<y)
section
variable {X:Cx} {A:Around} {E:Value→Shared→Prop} {pins:List (Addr × Obj)} {σ:St} {H:Hp} {s:Shared} {a kS:Addr} {e e1:Nat} {keys:Array Value} {vs:List Value} {m:Nat→Int} {nm:Nat→Str} {P:PySem.Fin→Shared→Prop}
noncomputable def KeysAt (H:Hp) (ks:List Value) (m:Nat→Int) (nm:Nat→Str):Prop:=∀ (i:Nat) v,ks[i]? = some v→∃ t,v = .ref t∧H t=some (.tup [.int (m i),.str (nm i)])
end
section
variable {X:Cx} {p:Str} {scope:Scope} {c P:Addr} {params:Arguments} {body a:Expr} {pos lpos kpos p1:Pos} {ta te:TE}
noncomputable def tSortM (K:PySem.W.Frag) (P:Addr) (lpos:Pos) (qual:Str) (ta te:TE):TE:=fun σ H Q=>ta σ H fun x H1=>∃ (l:Addr) (xs:List V) (m:Nat→Int) (nm:Nat→Str),x = .ref l∧SqL K H1 l xs∧xs.length<64∧Rises m nm xs.length∧LamTab H1 P lpos qual ∧
  ∀ H2,LamNext H1 H2 P→LamTab H2 P lpos qual→(∀ i x,xs[i]? = some x→∀ H3,Same H2 H3→te [some x] H3 fun y H'=>Same H3 H'∧∃ t,y = .ref t∧H' t=some (.tup [.int (m i),.str (nm i)]))∧∀ D H3,Same H2 H3→H2 D=none→H3 D=some (.lst xs)→Q (.ref D) H3
end
end L2
namespace L2
open PySem PySem.Spec PyProof.Rows
end L2
namespace Pg
open PySem L2
structure Nest (mg:Str→Option Value) (base:Heap) (c T:Addr):Prop where
  hd:PySem.W.CodeHd base c T
  bm:∃ bm o,mg "__builtins__" = some (.ref bm)∧bm≠builtinsNs∧bm≠mainGlobals∧base.get? bm=some o∧o.cls = .type "module"∧o.dict=some builtinsNs∧o.data = .plain
noncomputable def sumB (prs:List (Str × Int)) (z:Str):Int:=sumL ((prs.filter fun p=>decide (p.1=z)).map (·.2))
noncomputable def less (prs:List (Str × Int)):List (Str × Int):=prs.map fun p=>(p.1,-p.2)
noncomputable def leS (a b:Str):Bool:=decide (¬ b.cps.toList<a.cps.toList)
noncomputable def Ord (ss:List Str):Prop:=ss.Pairwise (fun a b=>¬ b.cps.toList<a.cps.toList)
noncomputable def cano (ks:List Str):List Str:=ks.mergeSort leS
theorem ord_eq {a b:Str} (h1:¬ b.cps.toList<a.cps.toList) (h2:¬ a.cps.toList<b.cps.toList):a=b:=by
  have e:a.cps.toList=b.cps.toList:=List.le_antisymm h1 h2
  cases a
  cases b
  exact congrArg Str.mk (Array.toList_inj.mp e)
noncomputable def canD (tot:List (Str × Int)):List (Str × Int):=(cano (tot.map (·.1))).map fun z=>(z,getT tot z)
noncomputable def amt (s:Stm):List (Str × Int):=s.ds++[(("base":Str),s.b),(("net":Str),s.n)]
noncomputable def both (o n:Stm):List (Str × Int):=addAll [amt n,less (amt o)]
noncomputable def dif (o n:Stm) (z:Str):Int:=sumB (amt n) z - sumB (amt o) z
noncomputable def rowsM (o n:Stm):List (Int × Str × Int):=((cano ((both o n).map (·.1))).filter fun z=>decide (dif o n z≠0)).map fun z=>(n.m,z,dif o n z)
noncomputable def RowLt (r s:Int × Str × Int):Prop:=r.1<s.1∨(r.1=s.1∧r.2.1.cps.toList<s.2.1.cps.toList)
noncomputable def Chg (o n:Stm):Prop:=∃ x:Str,∀ z:Str,z≠("net":Str)→z≠x→dif o n z=0
noncomputable def diffR (os ns:List Stm):List (Int × Str × Int):=((os.zip ns).map fun p=>rowsM p.1 p.2).flatten
noncomputable def dropT (tot:List (Str × Int)) (x:Str):List (Str × Int):=tot.filter fun p=>!decide (p.1=x)
structure StK (nms:List Str) (s:Stm):Prop where
  nm:∀ p∈s.ds,p.1∈nms
  nd:(s.ds.map (·.1)).Nodup
structure Lst (nms:List Str) (sts:List Stm):Prop where
  few:sts.length≤26
  n4:nms.length≤4
  each:∀ s∈sts,StK nms s
structure Two (nms:List Str) (os ns:List Stm):Prop where
  o:Lst nms os
  n:Lst nms ns
  mo:os.map (·.m)=ns.map (·.m)
  up:(ns.map (·.m)).Pairwise (· < ·)
  chg:∀ p∈os.zip ns,Chg p.1 p.2
noncomputable def PairsAt (H:Hp) (v:V) (prs:List (Str × Int)):Prop:=∃ d ts,v = .ref d∧(Rd H d (.tup ts)∨H d=some (.lst ts))∧TupsAt H ts (prs.map cP)
noncomputable def FstAt (H:Hp) (v:V) (m:Int):Prop:=∃ a r,v = .ref a∧H a=some (.tup (.int m::r))
noncomputable def Fsts (H:Hp) (ys:List V) (ms:List Int):Prop:=ItemsAt H ys ms FstAt
noncomputable def sp_tog:Sp:=fun vs H Q _=>∃ l ys prss,vs=[.ref l]∧H l=some (.lst ys)∧ItemsAt H ys prss PairsAt∧(addAll prss).length<64∧prss.length≤100∧(∀ prs∈prss,prs.length≤100) ∧
  ∀ t ys' H',Same H H'→H t=none→H' t=some (.tup ys')→TupsAt H' ys' ((canD (addAll prss)).map cP)→Q (.ref t) H'
noncomputable def sp_sm:Sp:=fun vs H Q _=>∃ l ys sts nms,vs=[.ref l]∧H l=some (.lst ys)∧StsAt H ys sts∧Lst nms sts ∧
  ∀ t d ys' H',Same H H'→H' t=some (.tup [.int (sumL (sts.map (·.b))),.ref d,.int (sumL (sts.map (·.n)))])→H' d=some (.tup ys')→TupsAt H' ys' ((canD (allD sts)).map cP)→Q (.ref t) H'
noncomputable def sp_amts:Sp:=fun vs H Q _=>∃ v s,vs=[v]∧StAt H v s∧s.ds.length≤100∧∀ t ys' H',Same H H'→H t=none→H' t=some (.tup ys')→TupsAt H' ys' ((amt s).map cP)→Q (.ref t) H'
noncomputable def sp_amtsL:Sp:=fun vs H Q _=>∃ v s,vs=[v]∧StAt H v s∧s.ds.length≤100∧∀ t ys' H',Same H H'→H t=none→H' t=some (.lst ys')→TupsAt H' ys' ((amt s).map cP)→Q (.ref t) H'
noncomputable def sp_md:Sp:=fun vs H Q _=>∃ v u o n nms,vs=[v,u]∧StAt H v o∧StAt H u n∧StK nms o∧StK nms n∧nms.length≤4∧∀ l ys' H',Same H H'→H l=none→H' l=some (.lst ys')→TupsAt H' ys' ((rowsM o n).map cM)→Q (.ref l) H'
noncomputable def lq:Str:=("differences":Str) ++ ".<locals>." ++ "<lambda>"
noncomputable def sp_diff (lp:Pos) (T cM':Addr):Sp:=fun vs H Q E=>∃ la ya lb yb,vs=[.ref la,.ref lb]∧H la=some (.lst ya)∧H lb=some (.lst yb) ∧
  ((∃ ma mb,Fsts H ya ma∧Fsts H yb mb∧ma.length≤1000∧mb.length≤1000∧ma≠mb∧∀ H',Same H H'→E (.ref cM') none H') ∨
   ∃ os ns nms,StsAt H ya os∧StsAt H yb ns∧Two nms os ns∧LamTab H T lp lq∧∀ l ys' H',LamNext H H' T→LamTab H' T lp lq→H l=none→H' l=some (.lst ys')→TupsAt H' ys' ((diffR os ns).map cM)→Q (.ref l) H')
noncomputable def sp_diffL:Sp:=fun vs H Q _=>∃ la ya lb yb os ns nms,vs=[.ref la,.ref lb]∧H la=some (.lst ya)∧H lb=some (.lst yb)∧StsAt H ya os∧StsAt H yb ns∧Two nms os ns ∧
  ∀ l ys' H',Same H H'→H l=none→H' l=some (.lst ys')→TupsAt H' ys' ((diffR os ns).map cM)→Q (.ref l) H'
noncomputable def sp_stm:Sp:=fun vs H Q _=>∃ m b d tot,vs=[.int m,.int b,.ref d]∧H d=some (.dK (dOf tot))∧tot.length<60∧(tot.map (·.1)).Nodup ∧
  ∀ o v H',H' d=some (.frz o (.dK (dOf tot)))→(∀ c u,c≠d→H c=some u→H' c=some u)→StAt H' v ⟨m,b,canD tot,b - sumL (tot.map (·.2))⟩→Q v H'
noncomputable def mxN (c:Int):Int:=(c%1000000007+1)*48271%2147483647
noncomputable def mxC (c k:Int):Int:=mxN c*(16807+7919*k*k+31*k)%2147483629/7
noncomputable def sp_mx:Sp:=fun vs H Q _=>∃ c k,vs=[.int c,.int k]∧0≤k∧k≤1000∧Q (.int (mxC c k)) H
noncomputable def sp_amtC:Sp:=fun vs H Q _=>∃ c k,vs=[.int c,.int k]∧0≤k∧k≤1000∧∀ v H',Same H H'→Q (.int v) H'
noncomputable def sp_words:Sp:=fun vs H Q _=>∃ c,vs=[.int c,.int 4,.str "abcdefghijklmnopqrstuvwxyz",.int 7]∧0≤c∧∀ (zs:List Str) (l:Addr) (H':Hp),Same H H'→H l=none→H' l=some (.lst (zs.map V.str))→zs.length=4→Q (.ref l) H'
noncomputable def sp_lists (K:PySem.W.Frag):Sp:=fun vs H Q _=>∃ (a:Addr) (ns:List Int) (nl:Addr) (zs:List Str),vs=[.ref a,.ref nl]∧SqL K H a (ns.map V.int)∧H nl=some (.lst (zs.map V.str))∧zs.length=4 ∧
  ∀ t lo ln yo yn os nw H',Same H H'→H' t=some (.tup [.ref lo,.ref ln])→H lo=none→H ln=none→H' lo=some (.lst yo)→H' ln=some (.lst yn)→StsAt H' yo os→StsAt H' yn nw→Two zs os nw→Q (.ref t) H'
noncomputable def sp_othr:Sp:=fun vs H Q _=>∃ lo yo os nms c,vs=[.ref lo,.int c]∧H lo=some (.lst yo)∧StsAt H yo os∧Lst nms os∧(os.map (·.m)).Pairwise (· < ·)∧0≤c ∧
  ∀ l yl ml H',Same H H'→H' l=some (.lst yl)→Fsts H' yl ml→ml.length≤1000→ml≠os.map (·.m)→Q (.ref l) H'
noncomputable def sp_refu:Sp:=fun vs H Q _=>∃ la ya lb yb ma mb,vs=[.ref la,.ref lb]∧H la=some (.lst ya)∧H lb=some (.lst yb)∧Fsts H ya ma∧Fsts H yb mb∧ma.length≤1000∧mb.length≤1000∧ma≠mb∧∀ H',Same H H'→Q (.bl true) H'
structure Kds8 (mg:Str→Option Value) (d:Nat→Addr):Prop where
  g0:mg "BadMonth" = some (.ref (d 0))
  g1:mg "BadYear" = some (.ref (d 1))
  g2:mg "NoYear" = some (.ref (d 2))
  g3:mg "BadDay" = some (.ref (d 3))
  g4:mg "BadEntry" = some (.ref (d 4))
  g5:mg "NoMark" = some (.ref (d 5))
  g6:mg "NoPerson" = some (.ref (d 6))
  g7:mg "TooMany" = some (.ref (d 7))
structure Kd8 (K:PySem.W.Frag) (d:Nat→Addr) (C:Addr):Prop where
  cls:XK.ExcCls K C
  ve:PySem.W.kitOne K (.ref C) (.type "ValueError")=some true
  k0:PySem.W.kitOne K (.ref C) (.ref (d 0))=some true
  k1:PySem.W.kitOne K (.ref C) (.ref (d 1))=some false
  k2:PySem.W.kitOne K (.ref C) (.ref (d 2))=some false
  k3:PySem.W.kitOne K (.ref C) (.ref (d 3))=some false
  k4:PySem.W.kitOne K (.ref C) (.ref (d 4))=some false
  k5:PySem.W.kitOne K (.ref C) (.ref (d 5))=some false
  k6:PySem.W.kitOne K (.ref C) (.ref (d 6))=some false
  k7:PySem.W.kitOne K (.ref C) (.ref (d 7))=some false
noncomputable def sp_wd (K:PySem.W.Frag) (d:Nat→Addr):Sp:=fun vs H Q _=>∃ ea C,vs=[.ref ea]∧Held K H ea C∧Kd8 K d C∧∀ t H',Same H H'→H t=none→H' t=some (.tup [.str "month"])→Q (.ref t) H'
inductive Al (H:Hp):Nat→V→Dt→Prop where
  | i {n:Nat} (z:Int):Al H n (.int z) (.v (.int z))
  | s {n:Nat} (z:Str):Al H n (.str z) (.v (.str z))
  | l {n:Nat} {a:Addr} {xs:List V} {ds:List Dt}:H a=some (.lst xs)→xs.length=ds.length→xs.length≤1000→(∀ (j:Nat) x d,xs[j]? = some x→ds[j]? = some d→Al H n x d)→Al H (n+1) (.ref a) (.l ds)
  | t {n:Nat} {a:Addr} {xs:List V} {ds:List Dt}:H a=some (.tup xs)→xs.length=ds.length→xs.length≤1000→(∀ (j:Nat) x d,xs[j]? = some x→ds[j]? = some d→Al H n x d)→Al H (n+1) (.ref a) (.t ds)
noncomputable def sp_alike (n:Nat):Sp:=fun vs H Q _=>∃ x y d,vs=[x,y]∧Al H n x d∧Al H n y d∧∀ H',Same H H'→Q (.bl true) H'
noncomputable def spA:Nat→Sp
  | 0=>fun _ _ _ _=>False
  | n+1=>sp_alike n
structure Grow (zs:List Str) (st:Int) (os nw:List Stm) (i:Nat):Prop where
  lo:os.length=i
  ln:nw.length=i
  mo:os.map (·.m)=(List.range i).map fun k=>st+(k:Nat)
  mn:nw.map (·.m)=(List.range i).map fun k=>st+(k:Nat)
  eo:∀ s∈os,StK zs s
  en:∀ s∈nw,StK zs s
  ch:∀ p∈os.zip nw,Chg p.1 p.2
structure Turned (r:Int) (x:Str) (b b':Int) (tot tot':List (Str × Int)):Prop where
  base:b'=b∨r=0
  same:r=0→tot'=tot
  get:∀ z,z≠x→getT tot' z=getT tot z
section
variable {α:Type} {H:Hp} {ys zs:List V} {xs us:List α} {P:Hp→V→α→Prop}
theorem it_take (T:ItemsAt H ys xs P) (k:Nat):ItemsAt H (ys.take k) (xs.take k) P:=⟨by rw[List.length_take,List.length_take,T.len],fun i y e=>by
  rw[List.getElem?_take] at e ⊢
  split at e
  · rename_i h
    rw[if_pos h]
    exact T.at_ i y e
  · cases e⟩
theorem it_drop (T:ItemsAt H ys xs P) (k:Nat):ItemsAt H (ys.drop k) (xs.drop k) P:=⟨by rw[List.length_drop,List.length_drop,T.len],fun i y e=>by
  rw[List.getElem?_drop] at e ⊢
  exact T.at_ _ y e⟩
theorem it_app (T:ItemsAt H ys xs P) (U:ItemsAt H zs us P):ItemsAt H (ys++zs) (xs++us) P:=⟨by rw[List.length_append,List.length_append,T.len,U.len],fun i y e=>by
  by_cases hi:i<ys.length
  · rw[List.getElem?_append_left hi] at e
    rw[List.getElem?_append_left (by rw[← T.len];exact hi)]
    exact T.at_ i y e
  · have hi:=Nat.le_of_not_lt hi
    rw[List.getElem?_append_right hi] at e
    rw[List.getElem?_append_right (by rw[← T.len];exact hi),← T.len]
    exact U.at_ _ y e⟩
theorem it_rev (T:ItemsAt H ys xs P):ItemsAt H ys.reverse xs.reverse P:=⟨by rw[List.length_reverse,List.length_reverse,T.len],fun i y e=>by
  have hi:i<ys.length:=by
    have:=(List.getElem?_eq_some_iff.mp e).1
    rwa [List.length_reverse] at this
  rw[List.getElem?_reverse hi] at e
  rw[List.getElem?_reverse (by rw[← T.len];exact hi),← T.len]
  exact T.at_ _ y e⟩
end
noncomputable def HdAt (hl:Addr) (H:Hp) (y:V):Prop:=∃ p f g ys zs k,∃ rs:List (Int × Str × Int),y = .ref p∧H p=some (.tup [.ref f,.ref g])∧H f=some (.lst (ys++[.int k]))∧H g=some (.lst (zs++[.int k]))∧TupsAt H ys (rs.map cM)∧TupsAt H zs (rs.map cM)∧f≠hl∧g≠hl
noncomputable def sp_law21 (K:PySem.W.Frag) (T:Addr):Sp:=fun vs H Q _=>∃ (a:Addr) (ns:List Int),vs=[.ref a]∧SqL K H a (ns.map V.int)∧LamTab H T ⟨43,28,43,56⟩ lq∧∀ H',Q (.bl true) H'
end Pg
namespace L2
open PySem PySem.Spec PyProof.Rows
noncomputable def FT (H H':Hp):Prop:=∀ b c,H b=some (.tup c)→H' b=some (.tup c)
noncomputable def Up {α:Type} (P:Hp→V→α→Prop):Prop:=∀ H H' v x,FT H H'→P H v x→P H' v x
section
variable {α β:Type} {J:It} {D:Addr} {tt:TT} {te:TE} {fin:List V→Hp→Prop} {σ:St} {H H':Hp} {ys zs:List V} {xs:List α} {P:Hp→V→α→Prop} {K:PySem.W.Frag}
end
end L2
namespace Pg
open PySem L2
structure Alph (sg:Str) (ok:Nat→Bool):Prop where
  lo:1≤sg.length
  hi:sg.length≤100
  at_:∀ i:Int,0≤i→i<(sg.length:Nat)→∃ c,atI sg.cps.toList i=some c∧ok c=true
  in_:∀ c,(!(Builtin.Str.occurrences sg ⟨#[c]⟩ 0 sg.length 1).isEmpty)=ok c
structure WordOk (ok:Nat→Bool) (z:Str):Prop where
  lo:1≤z.length
  hi:z.length≤8
  all:z.cps.toList.all ok=true
noncomputable def inS (sg:Str) (c:Nat):Bool:=sg.cps.toList.contains c
noncomputable def sgL:Str:="abcdefghijklmnopqrstuvwxyz"
noncomputable def sgM:Str:="abcdefghijklmnopqrstuvwxyz0123456789"
noncomputable abbrev NamOk (z:Str):Prop:=WordOk (inS sgL) z
noncomputable abbrev MrkOk (z:Str):Prop:=WordOk (inS sgM) z
noncomputable def sp_wordOf:Sp:=fun vs H Q _=>∃ z sg ok,vs=[.str z,.str sg]∧Alph sg ok∧WordOk ok z∧∀ H',Same H H'→Q (.bl true) H'
noncomputable def sp_nm:Sp:=fun vs H Q _=>∃ z,vs=[.str z]∧NamOk z∧∀ H',Same H H'→Q (.bl true) H'
noncomputable def sp_mk:Sp:=fun vs H Q _=>∃ z,vs=[.str z]∧MrkOk z∧∀ H',Same H H'→Q (.bl true) H'
noncomputable def sp_wordsS:Sp:=fun vs H Q _=>∃ c n sg ok st,vs=[.int c,.int (n:Nat),.str sg,.int st]∧0≤c∧1≤n∧n≤8∧0≤st∧st≤100∧Alph sg ok∧∀ (zs:List Str) (l:Addr) (H':Hp),Same H H'→H l=none→H' l=some (.lst (zs.map V.str))→zs.length=n→(∀ z∈zs,WordOk ok z)→Q (.ref l) H'
inductive En where
  | wage (p:Str) (m r a:Int)
  | extra (p:Str) (m a:Int)
noncomputable def En.who:En→Str
  | .wage p _ _ _=>p
  | .extra p _ _=>p
noncomputable def cE:En→List V
  | .wage p m r a=>[.str "wage",.str p,.int m,.int r,.int a]
  | .extra p m a=>[.str "extra",.str p,.int m,.int a]
noncomputable def EnOk:En→Prop
  | .wage p m r a=>NamOk p∧0≤m∧m≤119999∧0≤r∧r≤99∧0≤a∧a≤10000000000
  | .extra p m a=>NamOk p∧0≤m∧m≤119999∧0≤a∧a≤10000000000
noncomputable def ThAt (H:Hp) (v:V):Option En→Prop
  | none=>v = .non
  | some e=>∃ a,v = .ref a∧H a=some (.tup (cE e))
structure Pt where
  d:Int
  k:Str
  t:Option En
noncomputable def PtAt (H:Hp) (v:V) (p:Pt):Prop:=∃ a x,v = .ref a∧H a=some (.tup [.int p.d,.str p.k,x])∧ThAt H x p.t
noncomputable def TdAt (H:Hp) (v:V) (q:Int × Option En):Prop:=∃ a x,v = .ref a∧H a=some (.tup [.int q.1,x])∧ThAt H x q.2
noncomputable def PrAt (H:Hp) (v:V) (q:Str × Option En):Prop:=∃ a x,v = .ref a∧H a=some (.tup [.str q.1,x])∧ThAt H x q.2
noncomputable def KnAt (H:Hp) (v:V) (q:Str × En):Prop:=PrAt H v (q.1,some q.2)
noncomputable def once (l:List Str):List Str:=l.foldr (fun x r=>if x∈r then r else x::r) []
noncomputable def told (z:Str) (ps:List Pt):List (Int × Option En):=(ps.filter fun p=>decide (p.k=z)).map fun p=>(p.d,p.t)
noncomputable def knO (l:List (Int × Option En)) (D:Int):Option En:=(l.reverse.find? fun q=>decide (q.1≤D)).bind (·.2)
noncomputable def mks (ps:List Pt):List Str:=cano (once (ps.map (·.k)))
noncomputable def kn (ps:List Pt) (D:Int):List (Str × En):=(mks ps).filterMap fun z=>(knO (told z ps) D).map fun e=>(z,e)
noncomputable def ppl (ks:List (Str × En)):List Str:=cano (once (ks.map (·.2.who)))
noncomputable def mOf (ms:List (Str × Addr)):List (Key × V):=ms.map fun p=>(Sum.inr p.1,V.ref p.2)
noncomputable def fsJ (t:Addr) (ld:Int):List (Str × V):=[("told",.ref t),("last_day",.int ld)]
structure JouK (K:PySem.W.Frag) (C:Addr):Prop where
  cls:Cls K C
  nT:NoAttr K C "told"
  nL:NoAttr K C "last_day"
structure Jou (C:Addr) (H:Hp) (J dx t:Addr) (ms:List (Str × Addr)) (ld:Int) (ps:List Pt):Prop where
  ins:H J=some (.ins C dx (fsJ t ld))
  dic:H t=some (.dK (mOf ms))
  nd:(ms.map (·.1)).Nodup
  na:(ms.map (·.2)).Nodup
  key:∀ z,z∈ms.map (·.1)↔z∈ps.map (·.k)
  tol:∀ p∈ms,∃ zs,H p.2=some (.lst zs)∧ItemsAt H zs (told p.1 ps) TdAt
  day:∀ p∈ps,p.d≤ld
  d0:0≤ld
noncomputable def own (J t:Addr) (ms:List (Str × Addr)):List Addr:=J::t::ms.map (·.2)
noncomputable def ThOk:Option En→Prop
  | none=>True
  | some e=>EnOk e
noncomputable def sp_needDay:Sp:=fun vs H Q _=>∃ z,vs=[.int z]∧0≤z∧Q .non H
noncomputable def kindS:En→Str
  | .wage _ _ _ _=>"wage"
  | .extra _ _ _=>"extra"
noncomputable def sp_begins:Sp:=fun vs H Q _=>∃ (a:Addr) (e:En) (z:Str) (n:Int),vs=[.ref a,.str z,.int n]∧H a=some (.tup (cE e))∧Q (.bl (decide (((cE e).length:Int)=n)&&decide (kindS e=z))) H
noncomputable def sp_pma:Sp:=fun vs H Q _=>∃ (a:Addr) (e:En),vs=[.ref a]∧H a=some (.tup (cE e))∧EnOk e∧∀ H',Same H H'→Q (.bl true) H'
noncomputable def sp_isEntry:Sp:=sp_pma
noncomputable def sp_needMT:Sp:=fun vs H Q _=>∃ (z:Str) (x:V) (t:Option En),vs=[.str z,x]∧MrkOk z∧ThAt H x t∧ThOk t∧∀ H',Same H H'→Q .non H'
noncomputable def sp_knownOf (K:PySem.W.Frag):Sp:=fun vs H Q _=>∃ (l:Addr) (zs:List V) (tl:List (Int × Option En)) (D:Int),vs=[.ref l,.int D]∧SqL K H l zs∧ItemsAt H zs tl TdAt∧∀ v,ThAt H v (knO tl D)→Q v H
noncomputable def sp_initJ (C:Addr):Sp:=fun vs H Q _=>∃ (J dx:Addr),vs=[.ref J]∧H J=some (.ins C dx [])∧∀ t H',H t=none→Jou C H' J dx t [] 0 []→(∀ b o,H b=some o→b≠J→H' b=some o)→Q .non H'
noncomputable def sp_put (C:Addr):Sp:=fun vs H Q _=>∃ (J dx t:Addr) (ms:List (Str × Addr)) (ld:Int) (ps:List Pt) (p:Pt) (x:V),vs=[.ref J,.int p.d,.str p.k,x]∧Jou C H J dx t ms ld ps∧ThAt H x p.t∧ThOk p.t∧MrkOk p.k∧ld≤p.d∧ps.length≤30∧(p.t=none→knO (told p.k ps) p.d≠none) ∧
  ∀ ms' H',Jou C H' J dx t ms' p.d (ps++[p])→(∀ b o,H b=some o→¬ b∈own J t ms→H' b=some o)→(∀ b∈own J t ms',b∈own J t ms∨H b=none)→Q .non H'
noncomputable def sp_kn (C:Addr):Sp:=fun vs H Q _=>∃ (J dx t:Addr) (ms:List (Str × Addr)) (ld:Int) (ps:List Pt) (D:Int),vs=[.ref J,.int D]∧Jou C H J dx t ms ld ps∧0≤D∧ps.length≤30 ∧
  ∀ l zs H',Same H H'→H l=none→H' l=some (.lst zs)→ItemsAt H' zs (kn ps D) KnAt→Q (.ref l) H'
noncomputable def sp_ppl (C:Addr):Sp:=fun vs H Q _=>∃ (J dx t:Addr) (ms:List (Str × Addr)) (ld:Int) (ps:List Pt) (D:Int),vs=[.ref J,.int D]∧Jou C H J dx t ms ld ps∧0≤D∧ps.length≤30 ∧
  ∀ l H',Same H H'→H l=none→H' l=some (.lst ((ppl (kn ps D)).map V.str))→Q (.ref l) H'
noncomputable def sp_knL:Sp:=fun vs H Q _=>∃ (pl:Addr) (ys:List V) (ps:List Pt) (D:Int),vs=[.ref pl,.int D]∧H pl=some (.lst ys)∧ItemsAt H ys ps PtAt∧ps.length≤30 ∧
  ∀ l zs H',Same H H'→H l=none→H' l=some (.lst zs)→ItemsAt H' zs (kn ps D) KnAt→Q (.ref l) H'
noncomputable def sp_pplL:Sp:=fun vs H Q _=>∃ (l:Addr) (zs:List V) (ks:List (Str × En)),vs=[.ref l]∧H l=some (.lst zs)∧ItemsAt H zs ks KnAt∧ks.length≤30 ∧
  ∀ a H',Same H H'→H a=none→H' a=some (.lst ((ppl ks).map V.str))→Q (.ref a) H'
noncomputable def sp_enL:Sp:=fun vs H Q _=>∃ (c st:Int) (nl:Addr) (ns:List Str),vs=[.int c,.ref nl,.int st]∧H nl=some (.lst (ns.map V.str))∧ns.length=4∧(∀ z∈ns,NamOk z)∧0≤st∧st≤119999 ∧
  ∀ e,EnOk e→New H (.tup (cE e)) Q
noncomputable def sp_start:Sp:=fun vs H Q _=>∃ c,vs=[.int c]∧0≤c∧∀ st H',0≤st→st≤119999→Same H H'→Q (.int st) H'
noncomputable def lastD (ps:List Pt):Int:=((ps.getLast?).map (·.d)).getD 0
noncomputable def sp_nextL:Sp:=fun vs H Q _=>∃ (c st:Int) (k:Nat) (pl ml nl:Addr) (ys:List V) (ps:List Pt) (ns mk:List Str),vs=[.int c,.int (k:Nat),.ref pl,.ref ml,.ref nl,.int st]∧k≤100∧H pl=some (.lst ys)∧ItemsAt H ys ps PtAt∧ps.length≤30∧(∀ p∈ps,0≤p.d) ∧
  H nl=some (.lst (ns.map V.str))∧ns.length=4∧(∀ z∈ns,NamOk z)∧H ml=some (.lst (mk.map V.str))∧1≤mk.length∧(∀ z∈mk,MrkOk z)∧0≤st∧st≤119999 ∧
  ∀ (a:Addr) (x:V) (p:Pt) (H':Hp),Same H H'→H' a=some (.tup [.int p.d,.str p.k,x])→ThAt H' x p.t→ThOk p.t→MrkOk p.k→lastD ps≤p.d→0≤p.d→(p.t=none→knO (told p.k ps) p.d≠none)→Q (.ref a) H'
noncomputable def dE (e:En):Dt:=.t ((cE e).map Dt.v)
noncomputable def dKn (q:Str × En):Dt:=.t [.v (.str q.1),dE q.2]
inductive Fd where
  | k (ks:List (Str × En))
  | n (ss:List Str)
noncomputable def Fd.dt:Fd→List Dt
  | .k ks=>ks.map dKn
  | .n ss=>ss.map fun z=>.v (.str z)
noncomputable def FdAt (H:Hp) (xs:List V):Fd→Prop
  | .k ks=>ItemsAt H xs ks KnAt
  | .n ss=>xs=ss.map V.str
noncomputable def endN (b:Bool):List V:=if b then [.non] else []
noncomputable def LsAt (H:Hp) (f:Addr) (d:Fd) (b:Bool):Prop:=∃ xs,H f=some (.lst (xs++endN b))∧FdAt H xs d
noncomputable def HjAt (S:List Addr) (H:Hp) (y:V):Prop:=∃ a f g d b,y = .ref a∧H a=some (.tup [.ref f,.ref g])∧¬ f∈S∧¬ g∈S∧LsAt H f d b∧LsAt H g d b
noncomputable def sp_stands (C:Addr):Sp:=fun vs H Q _=>∃ (J dx t:Addr) (ms:List (Str × Addr)) (ld:Int) (ps:List Pt) (pl hl:Addr) (ys hs:List V) (c:Int) (S:List Addr),vs=[.ref J,.ref pl,.int c,.ref hl]∧Jou C H J dx t ms ld ps∧H pl=some (.lst ys)∧ItemsAt H ys ps PtAt∧ps.length≤30∧(∀ p∈ps,0≤p.d) ∧
  H hl=some (.lst hs)∧hs.length≤10000∧hl≠pl∧¬ hl∈own J t ms∧hl∈S∧(∀ b∈S,H b≠none)∧(∀ y∈hs,HjAt S H y)∧0≤c ∧
  ∀ hs' H',H' hl=some (.lst hs')→hs'.length≤hs.length+3→(∀ b o,H b=some o→b≠hl→H' b=some o)→(∀ y∈hs',HjAt S H' y)→Q (.bl true) H'
noncomputable def sp_lawJ (K:PySem.W.Frag):Sp:=fun vs H Q _=>∃ (a:Addr) (ns:List Int),vs=[.ref a]∧SqL K H a (ns.map V.int)∧∀ H',Q (.bl true) H'
section
variable {C:Addr} {H H':Hp} {J dx t:Addr} {ms:List (Str × Addr)} {ld:Int} {ps:List Pt}
structure JouM (C:Addr) (H:Hp) (J dx t:Addr) (ms:List (Str × Addr)) (ld:Int) (ps:List Pt) (z:Str):Prop where
  ins:H J=some (.ins C dx (fsJ t ld))
  dic:H t=some (.dK (mOf ms))
  nd:(ms.map (·.1)).Nodup
  na:(ms.map (·.2)).Nodup
  key:∀ y,y∈ms.map (·.1)↔y∈ps.map (·.k)∨y=z
  tol:∀ p∈ms,∃ zs,H p.2=some (.lst zs)∧ItemsAt H zs (told p.1 ps) TdAt
  day:∀ p∈ps,p.d≤ld
  d0:0≤ld
end
noncomputable def tillB (z:Str) (D:Int) (q:Pt):Bool:=decide (q.k=z)&&decide (q.d≤D)
theorem was_none {H H':Hp} {l:Addr} (s:Same H H') (h:H' l=none):H l=none:=by
  cases e:H l with
  | none=>rfl
  | some o=>rw[s _ _ e] at h;cases h
noncomputable def rLenS (K:PySem.W.Frag):List V→Hp→VK→Prop:=fun xs H Q=>∃ p ys,xs=[.ref p]∧(SqL K H p ys∨SqT K H p ys)∧Q (.int ys.length) H
structure BdI (ps:List (Int × Int)) (n:Nat):Prop where
  few:ps.length≤n+1
  hd:∃ p r,ps=((0:Int),p)::r
  ok:∀ q∈ps,Amt q.1∧Prt q.2
  up:Up ps
theorem BdI.done {ps:List (Int × Int)} {n:Nat} (h:BdI ps n) (hn:n≤11):BdOk ps:=⟨by have:=h.few;omega,h.hd,h.ok,h.up⟩
theorem BdI.one {p:Int} (h:Prt p):BdI [((0:Int),p)] 0:=⟨Nat.le_refl _,⟨p,[],rfl⟩,fun q hq=>by
  rw[List.mem_singleton.mp hq]
  exact⟨⟨Int.le_refl _,by show (0:Int)≤1000000000000;decide⟩,h⟩,List.pairwise_singleton _ _⟩
theorem BdI.mono {ps:List (Int × Int)} {n:Nat} (h:BdI ps n):BdI ps (n+1):=⟨Nat.le_succ_of_le h.few,h.hd,h.ok,h.up⟩
theorem BdI.last {ps:List (Int × Int)} {n:Nat} (h:BdI ps n):∃ qs q,ps=qs++[q]:=by
  obtain⟨p,r,e⟩:=h.hd
  refine⟨ps.dropLast,ps.getLast (by rw[e];exact List.cons_ne_nil _ _),(List.dropLast_concat_getLast _).symm⟩
theorem up_last {qs:List (Int × Int)} {q:Int × Int} (h:Up (qs++[q])):∀ x∈qs++[q],x.1≤q.1:=fun x hx=>by
  rcases List.mem_append.mp hx with hx | hx
  · exact Int.le_of_lt ((List.pairwise_append.mp h).2.2 x hx q (List.mem_singleton.mpr rfl))
  · rw[List.mem_singleton.mp hx]
    exact Int.le_refl _
theorem BdI.snoc {qs:List (Int × Int)} {q:Int × Int} {n:Nat} {s p:Int} (h:BdI (qs++[q]) n) (s1:1≤s) (b:q.1+s≤1000000000000) (hp:Prt p):BdI (qs++[q]++[(q.1+s,p)]) (n+1):=by
  refine⟨?_,?_,fun x hx=>?_,?_⟩
  · have:=h.few
    rw[List.length_append,List.length_singleton]
    omega
  · obtain⟨p0,r,e⟩:=h.hd
    exact⟨p0,r++[(q.1+s,p)],by rw[e];rfl⟩
  · rcases List.mem_append.mp hx with hx | hx
    · exact h.ok x hx
    · rw[List.mem_singleton.mp hx]
      have:=(h.ok q (List.mem_append_right _ (List.mem_singleton.mpr rfl))).1.1
      exact⟨⟨by show 0≤q.1+s;omega,b⟩,hp⟩
  · refine List.pairwise_append.mpr ⟨h.up,List.pairwise_singleton _ _,fun x hx y hy=>?_⟩
    rw[List.mem_singleton.mp hy]
    have:=up_last h.up x hx
    show x.1<q.1+s
    omega
theorem bds_last {H:Hp} {ys:List V} {qs:List (Int × Int)} {q:Int × Int} (T:TupsAt H ys ((qs++[q]).map cB)):∃ a,atI ys (-1)=some (.ref a)∧H a=some (.tup (cB q)):=by
  have yl:ys.length=qs.length+1:=by rw[T.len,List.length_map,List.length_append,List.length_singleton]
  obtain⟨a,e,h⟩:=bds_at T (i:=qs.length) (q:=q) (by rw[List.getElem?_append_right (Nat.le_refl _),Nat.sub_self];rfl)
  have ne:ys≠[]:=fun z=>by rw[z] at yl;cases yl
  refine⟨a,?_,h⟩
  have e2:=List.dropLast_concat_getLast ne
  rw[← e2,atI_last,List.getLast_eq_getElem]
  rw[List.getElem?_eq_getElem (by omega)] at e
  have e3:=Option.some.inj e
  rw[← e3]
  congr 2
  omega
theorem five_at {a b c d e:V} {i:Int} (h0:0≤i) (h1:i<5):∃ v,atI [a,b,c,d,e] i=some v∧(i=0∧v=a∨i=1∧v=b∨i=2∧v=c∨i=3∧v=d∨i=4∧v=e):=by
  obtain⟨n,rfl⟩:=Int.eq_ofNat_of_zero_le h0
  match n,h1 with
  | 0,_=>exact⟨a,atI_nat rfl,.inl ⟨rfl,rfl⟩⟩
  | 1,_=>exact⟨b,atI_nat rfl,.inr (.inl ⟨rfl,rfl⟩)⟩
  | 2,_=>exact⟨c,atI_nat rfl,.inr (.inr (.inl ⟨rfl,rfl⟩))⟩
  | 3,_=>exact⟨d,atI_nat rfl,.inr (.inr (.inr (.inl ⟨rfl,rfl⟩)))⟩
  | 4,_=>exact⟨e,atI_nat rfl,.inr (.inr (.inr (.inr ⟨rfl,rfl⟩)))⟩
  | k+5,h=>exact absurd h (by omega)
theorem n_bf:("bands":Str)≠"flat":=by decide +kernel
theorem n_bs:("bands":Str)≠"share":=by decide +kernel
theorem n_bc:("bands":Str)≠"capped":=by decide +kernel
theorem n_bl:("bands":Str)≠"least":=by decide +kernel
theorem n_of:("ontop":Str)≠"flat":=by decide +kernel
theorem n_os:("ontop":Str)≠"share":=by decide +kernel
theorem n_oc:("ontop":Str)≠"capped":=by decide +kernel
theorem n_ol:("ontop":Str)≠"least":=by decide +kernel
theorem n_ob:("ontop":Str)≠"bands":=by decide +kernel
theorem bandrow_law (n b w:Str):("bands ":Str)++n ++ " " ++ b ++ " " ++ w=Txt.join " " ["bands",n,b,w]:=by
  rw[show ([("bands":Str),n,b,w]:List Str)=[("bands":Str),n,b]++[w] from rfl,join_snoc " " w (List.cons_ne_nil _ _),show ([("bands":Str),n,b]:List Str)=[("bands":Str),n]++[b] from rfl,join_snoc " " b (List.cons_ne_nil _ _),show ([("bands":Str),n]:List Str)=[("bands":Str)]++[n] from rfl,join_snoc " " n (List.cons_ne_nil _ _),join_one]
  rw[show (("bands ":Str)) = "bands" ++ " " by decide +kernel]
theorem toprow_law (n p w r:Str):Txt.join " " ["ontop",n,p,w] ++ " of " ++ r=Txt.join " " ["ontop",n,p,w,"of",r]:=by
  rw[show ([("ontop":Str),n,p,w,"of",r]:List Str)=[("ontop":Str),n,p,w,"of"]++[r] from rfl,join_snoc " " r (List.cons_ne_nil _ _),show ([("ontop":Str),n,p,w,"of"]:List Str)=[("ontop":Str),n,p,w]++[("of":Str)] from rfl,join_snoc " " "of" (List.cons_ne_nil _ _)]
  rw[Str.append_assoc,Str.append_assoc,Str.append_assoc,show (" of ":Str) = " " ++ ("of" ++ " ") by decide +kernel,Str.append_assoc,Str.append_assoc,Str.append_assoc]
theorem rowG_len {d:Nat} {r:Rk} (h:Gd d r):(rowG r).length≤1016+200*d:=by
  induction h with
  | @pln d r h =>
    rw[rowG_pln h]
    have:=(join_small (sep:=" ") (m:=20) (k:=5) (part_len h) (by cases h <;> exact Nat.le_of_ble_eq_true rfl) (by decide +kernel) rfl).2
    unfold rowT
    omega
  | @bands d n w ps h1 h2 h3 =>
    have:=(join_small (sep:=" ") (zs:=["bands",n,bndT ps,w]) (m:=252) (k:=4) (fun z hz=>?_) (Nat.le_refl _) (by decide +kernel) rfl).2
    · show (Txt.join " " ["bands",n,bndT ps,w]).length≤_
      omega
    · have k1:=h1.ok.hi
      have k2:=(bands_join h2).2
      have k3:=way_len h3
      simp only[List.mem_cons,List.not_mem_nil,or_false] at hz
      rcases hz with rfl | rfl | rfl | rfl
      · decide +kernel
      · omega
      · omega
      · omega
  | @ontop d n w p r h1 h2 h3 _ ih =>
    show (Txt.join " " ["ontop",n,toString p,w,"of",rowG r]).length≤_
    rw[← toprow_law,Str.length_append,Str.length_append]
    have k:=(join_small (sep:=" ") (zs:=["ontop",n,toString p,w]) (m:=8) (k:=4) (fun z hz=>?_) (Nat.le_refl _) (by decide +kernel) rfl).2
    · have:(" of ":Str).length=4:=by decide +kernel
      omega
    · have k1:=h1.ok.hi
      have k2:=prtT_len h2
      have k3:=way_len h3
      simp only[List.mem_cons,List.not_mem_nil,or_false] at hz
      rcases hz with rfl | rfl | rfl | rfl
      · decide +kernel
      · omega
      · omega
      · omega
end Pg
namespace L2
open PySem PySem.Spec PyProof.Rows
noncomputable def KeepNL (H H':Hp):Prop:=∀ b o,H b=some o→(∀ xs,o≠.lst xs)→H' b=some o
theorem keep_upd {H:Hp} {D:Addr} {xs ys:List V} (h:H D=some (.lst xs)):KeepNL H (upd H D (.lst ys)):=fun b o e n=>by
  rw[upd_ne fun z=>?_]
  · exact e
  · subst z
    rw[h] at e
    cases e
    exact n _ rfl
structure Made {α:Type} (H:Hp) (zs:List V) (xs:List α) (S:Hp→V→α→Prop):Prop where
  len:zs.length=xs.length
  at_:∀ (i:Nat) (x:α),xs[i]? = some x→∃ u,zs[i]? = some u∧S H u x
section
variable {J:It} {D:Addr} {te:TE} {fin:List V→Hp→Prop} {σ:St} {H:Hp} {ys:List V} {α:Type} {xs:List α} {P:Hp→V→α→Prop}
theorem comp_mkS (W:Walk J H ys) (T:ItemsAt H ys xs P) (hD:H D=none) (hz:xs.length<sizeLine) (S:Hp→V→α→Prop) (mono:∀ {H H':Hp} {v:V} {x:α},KeepNL H H'→S H v x→S H' v x)
    (he:∀ (i:Nat) x,xs[i]? = some x→∀ v H' R,Same H H'→P H' v x→(∀ u H'',Same H' H''→S H'' u x→R u H'')→te (σ.set 0 (some v)) H' R)
    (hf:∀ zs H',Same H H'→H' D=some (.lst zs)→Made H' zs xs S→fin zs H'):tTurnsI J D (gName 0) tNoIf te fin σ (upd H D (.lst [])):=by
  refine comp_walk W hD (fun i zs H'=>Made H' zs (xs.take i) S) (fun σ'=>∀ x,σ'.set 0 (some x) = σ.set 0 (some x)) (fun _=>rfl) ⟨rfl,fun i x h=>by cases h⟩ ?_ ?_
  · rintro i y zs σ' H' hy hσ s hd hl G
    obtain⟨x,hx,hP⟩:=T.at_ i y hy
    have tk:xs.take (i+1)=xs.take i++[x]:=by rw[List.take_add_one,hx];rfl
    have hi:i<xs.length:=(List.getElem?_eq_some_iff.mp hx).1
    have zl:zs.length=i:=by rw[G.len,List.length_take];omega
    have hσ2:∀ z,(σ'.set 0 (some y)).set 0 (some z) = σ.set 0 (some z):=fun z=>by rw[List.set_set];exact hσ z
    unfold cTurn gName
    dsimp only
    refine noIf ?_
    rw[hσ y] at hσ2 ⊢
    refine he i x hx y _ _ s (hP _ s) fun u H3 s3 hu=>⟨s3 _ _ hd,by omega,hσ2,fun b o z=>?_,upd_same,?_,?_⟩
    · rw[upd_ne (ne_of_none z hD)]
      exact s3 _ _ (s _ _ z)
    · rw[List.length_append,List.length_singleton];omega
    · have kp:=keep_upd (ys:=zs++[u]) (s3 _ _ hd)
      refine⟨by rw[tk,List.length_append,List.length_append,G.len];rfl,fun j w hw=>?_⟩
      rw[tk] at hw
      by_cases hj:j<(xs.take i).length
      · rw[List.getElem?_append_left hj] at hw
        obtain⟨u',h1,h2⟩:=G.at_ j w hw
        exact⟨u',by rw[List.getElem?_append_left (by rw[G.len];exact hj)];exact h1,mono (fun b o e n=>kp b o (s3 _ _ e) n) h2⟩
      · have hj:=Nat.le_of_not_lt hj
        rw[List.getElem?_append_right hj] at hw
        have e0:j - (xs.take i).length=0:=by
          cases q:j - (xs.take i).length with
          | zero=>rfl
          | succ n=>rw[q] at hw;cases hw
        rw[e0] at hw
        cases hw
        refine⟨u,?_,mono kp hu⟩
        rw[List.getElem?_append_right (by rw[G.len];exact hj),G.len,e0]
        rfl
  · rintro zs H' s hd hl G
    rw[T.len,List.take_length] at G
    exact hf zs H' s hd G
end
end L2
namespace Pg
open PySem L2
noncomputable def sp_askB (K:PySem.W.Frag) (Cs:Nat→Addr):Sp:=fun vs H Q _=>∃ o v n ps x b bs c,vs=[o,v,.ref b,.int c]∧RoG Cs H (.bands n ps x) o∧RtG H (.bands n ps x) v∧RName n∧BdOk ps∧Way x∧SqL K H b (bs.map V.int)∧bs.length≤100∧Nns bs∧∀ H',Same H H'→Q (.bl true) H'
theorem TupsAt.keep {H H':Hp} {ys:List V} {cs:List (List V)} (k:KeepNL H H') (T:TupsAt H ys cs):TupsAt H' ys cs:=T.mono fun b c h=>k b _ h fun xs z=>by cases z
theorem BdsAt.keep {H H':Hp} {u:Addr} {ps:List (Int × Int)} (k:KeepNL H H') (h:BdsAt H u ps):BdsAt H' u ps:=by
  obtain⟨ys,e,t⟩:=h
  exact⟨ys,k _ _ e (fun xs z=>nomatch z),TupsAt.keep k t⟩
theorem RtG.keep {H H':Hp} {r:Rk} {v:V} (k:KeepNL H H') (h:RtG H r v):RtG H' r v:=by
  induction h with
  | pln e h =>
    obtain⟨t,rfl,h⟩:=h
    exact .pln e ⟨t,rfl,k _ _ h fun xs z=>by cases z⟩
  | bands h b=>exact .bands (k _ _ h fun xs z=>by cases z) (b.keep k)
  | ontop h _ ih=>exact .ontop (k _ _ h fun xs z=>by cases z) ih
theorem RoG.keep {Cs:Nat→Addr} {H H':Hp} {r:Rk} {v:V} (k:KeepNL H H') (h:RoG Cs H r v):RoG Cs H' r v:=by
  induction h with
  | pln e h =>
    obtain⟨t,dx,rfl,h⟩:=h
    exact .pln e ⟨t,dx,rfl,k _ _ h fun xs z=>by cases z⟩
  | bands h b=>exact .bands (k _ _ h fun xs z=>by cases z) (b.keep k)
  | ontop h _ ih=>exact .ontop (k _ _ h fun xs z=>by cases z) ih
noncomputable abbrev DB:=Str × List (Int × Int) × Str
noncomputable def rkD (d:DB):Rk:=.bands d.1 d.2.1 d.2.2
noncomputable def OkD (d:DB):Prop:=RName d.1∧BdOk d.2.1∧Way d.2.2
theorem many_of {x:V} {c:Int} (mv:x∈[V.int 0,.int 1,.int 2,.int 3,.int 5,.int 12,.int 12,.int (c/56%13)]) (f0:0≤c/56%13) (f1:c/56%13<13):∃ n:Nat,x = .int (n:Nat)∧n≤50:=by
  simp only[List.mem_cons,List.not_mem_nil,or_false] at mv
  rcases mv with rfl | rfl | rfl | rfl | rfl | rfl | rfl | rfl
  · exact⟨0,rfl,by decide⟩
  · exact⟨1,rfl,by decide⟩
  · exact⟨2,rfl,by decide⟩
  · exact⟨3,rfl,by decide⟩
  · exact⟨5,rfl,by decide⟩
  · exact⟨12,rfl,by decide⟩
  · exact⟨12,rfl,by decide⟩
  · obtain⟨k,hk⟩:=Int.eq_ofNat_of_zero_le f0
    exact⟨k,by rw[hk],by omega⟩
theorem five {p:Str→Prop} (h1:p "name") (h2:p "bands") (h3:p "way") (h4:p "parts") (h5:p "within"):∀ x∈(["name","bands","way","parts","within"]:List Str),p x:=by
  intro x hx
  simp only[List.mem_cons,List.not_mem_nil,or_false] at hx
  rcases hx with rfl | rfl | rfl | rfl | rfl <;> assumption
end Pg
namespace L2
open PySem
section
variable {P:Program} {w:World} {K:PySem.W.Frag} {mg:Str→Option Value} {base:Heap} {CX:CXT} {j k:Nat} {C:Addr} {x m:Str} {ps:List Str} {sp sp':Sp}
theorem CalM.mono (M:CalM P w K mg base CX j C m ps sp) (h:j≤k):CalM P w K mg base CX k C m ps sp:=by
  obtain⟨c,f,fd,a,b,F⟩:=M
  exact⟨c,f,fd,a,b,F.mono h⟩
theorem CalM.imp (M:CalM P w K mg base CX k C m ps sp) (h:∀ vs H Q E,sp' vs H Q E→sp vs H Q E):CalM P w K mg base CX k C m ps sp':=by
  obtain⟨c,f,fd,a,b,F⟩:=M
  exact⟨c,f,fd,a,b,F.imp h⟩
theorem CalC.imp (M:CalC P w K mg base CX k x m ps sp) (h:∀ vs H Q E,sp' vs H Q E→sp vs H Q E):CalC P w K mg base CX k x m ps sp':=by
  obtain⟨C,f,fd,a,b,c,F⟩:=M
  exact⟨C,f,fd,a,b,c,F.imp h⟩
theorem Cal.mono (M:Cal P w K mg base CX j x ps sp) (h:j≤k):Cal P w K mg base CX k x ps sp:=by
  obtain⟨f,fd,a,b,c,F⟩:=M
  exact⟨f,fd,a,b,c,F.mono h⟩
end
end L2
namespace Pg
open PySem L2
noncomputable def dep:Rk→Int
  | .ontop _ _ _ r=>dep r+1
  | _=>0
theorem dep_le {d:Nat} {r:Rk} (h:Gd d r):dep r≤d:=by
  induction h with
  | pln h=>cases h <;> exact Int.natCast_nonneg _
  | bands=>exact Int.natCast_nonneg _
  | ontop _ _ _ _ ih =>
    show dep _+1≤_
    omega
theorem dep_zero {r:Rk} (h:r.kd<5):dep r=0:=by
  cases r with
  | ontop=>exact absurd h (Nat.not_lt_of_le (Nat.le_of_ble_eq_true rfl))
  | _=>rfl
structure RulJ (K:PySem.W.Frag) (Cs:Nat→Addr) (cR:Addr):Prop where
  ha:∀ i,i<6→PySem.W.findIn K (.ref (Cs i)) "__class__" = some (some (.builtin "object.__class__"))
  hn:PySem.W.specialIn K (.builtin "object.__class__") "__get__" = some (some (.builtin "getset_descriptor.__get__"))
  htk:PySem.W.takesIn K (.builtin "object.__class__")=some true
  hm:∀ i,i<6→PySem.W.mroIn K (Cs i) (.type "object")=some true
  kt:∀ i,i<6→PySem.W.kitOne K (.ref (Cs i)) (.ref cR)=some true
  cls:∀ i,i<6→Cls K (Cs i)
  ne:Cs 1≠Cs 5
theorem kd6 (r:Rk):r.kd<6:=by cases r <;> exact Nat.le_of_ble_eq_true rfl
theorem Gd.pl {d:Nat} {r:Rk} (h:Gd d r) (k:r.kd<4):Pln r:=by
  cases h with
  | pln p=>exact p
  | bands=>exact absurd k (by show ¬ (4:Nat)<4;decide)
  | ontop=>exact absurd k (by show ¬ (5:Nat)<4;decide)
theorem RoG.pl {Cs:Nat→Addr} {H:Hp} {r:Rk} {v:V} (h:RoG Cs H r v) (k:r.kd<4):RoAt Cs H v r:=by
  cases h with
  | pln _ p=>exact p
  | bands=>exact absurd k (by show ¬ (4:Nat)<4;decide)
  | ontop=>exact absurd k (by show ¬ (5:Nat)<4;decide)
theorem RoG.frame {Cs:Nat→Addr} {H H':Hp} {r:Rk} {v:V} {o C dx:Addr} {d:Nat} (h:RoG Cs H r v) (g:Gd d r) (ho:H o=some (.ins C dx [])) (fr:∀ b y,H b=some y→b≠o→H' b=some y):RoG Cs H' r v:=by
  induction h generalizing d with
  | pln k h =>
    obtain⟨t,dy,rfl,h⟩:=h
    refine .pln k ⟨t,dy,rfl,fr _ _ h fun e=>?_⟩
    subst e
    rw[h] at ho
    cases g.pl k <;> exact nomatch ho
  | bands h b =>
    obtain⟨ys,hu,T⟩:=b
    have nt:∀ b c,H b=some (.tup c)→H' b=some (.tup c):=fun b c h=>fr _ _ h (ne_of h ho (by intro z;cases z))
    exact .bands (fr _ _ h fun e=>by subst e;rw[h] at ho;cases ho) ⟨ys,nt _ _ hu,T.mono nt⟩
  | ontop h _ ih =>
    cases g with
    | pln p=>cases p
    | ontop _ _ _ g=>exact .ontop (fr _ _ h fun e=>by subst e;rw[h] at ho;cases ho) (ih g)
theorem RoG.frame3 {Cs:Nat→Addr} {H H':Hp} {r:Rk} {v:V} {o dx:Addr} {d:Nat} {n w:Str} {p:Int} (ne:Cs 1≠Cs 5) (h:RoG Cs H r v) (g:Gd d r) (ho:H o=some (.ins (Cs 5) dx [("name",.str n),("parts",.int p),("way",.str w)])) (fr:∀ b y,H b=some y→b≠o→H' b=some y):RoG Cs H' r v:=by
  induction h generalizing d with
  | pln k h =>
    obtain⟨t,dy,rfl,h⟩:=h
    refine .pln k ⟨t,dy,rfl,fr _ _ h fun e=>?_⟩
    subst e
    rw[h] at ho
    have ho:=Option.some.inj ho
    cases g.pl k with
    | flat=>exact nomatch (HO.ins.inj ho).2.2
    | share=>exact ne (HO.ins.inj ho).1
    | capped=>exact nomatch (HO.ins.inj ho).2.2
    | least=>exact nomatch (HO.ins.inj ho).2.2
  | bands h b =>
    obtain⟨ys,hu,T⟩:=b
    have nt:∀ b c,H b=some (.tup c)→H' b=some (.tup c):=fun b c h=>fr _ _ h (ne_of h ho (by intro z;cases z))
    refine .bands (fr _ _ h fun e=>?_) ⟨ys,nt _ _ hu,T.mono nt⟩
    subst e
    rw[h] at ho
    have k:=(HO.ins.inj (Option.some.inj ho)).2.2
    have k2:=congrArg (fun l=>(l.map Prod.fst)[1]?) k
    exact absurd (show ("bands":Str) = "parts" from Option.some.inj k2) (by decide +kernel)
  | ontop h _ ih =>
    cases g with
    | pln p=>cases p
    | ontop _ _ _ g =>
      refine .ontop (fr _ _ h fun e=>?_) (ih g)
      subst e
      rw[h] at ho
      exact nomatch (HO.ins.inj (Option.some.inj ho)).2.2
noncomputable def sp_depG (d k:Nat) (Cs:Nat→Addr):Sp:=fun vs H Q _=>∃ v r,vs=[v]∧r.kd=k∧RoG Cs H r v∧Gd d r∧Q (.int (dep r)) H
noncomputable def sp_twin (d k:Nat) (Cs:Nat→Addr):Sp:=fun vs H Q _=>∃ v r,vs=[v]∧r.kd=k∧RoG Cs H r v∧Gd d r∧∀ o H',Same H H'→RoG Cs H' r o→Q o H'
noncomputable def sp_oinit (d:Nat) (Cs:Nat→Addr):Sp:=fun vs H Q _=>∃ o dx n p x u r,vs=[.ref o,.str n,.int p,.str x,u]∧RName n∧Prt p∧Way x∧RoG Cs H r u∧Gd d r∧H o=some (.ins (Cs 5) dx []) ∧
  ∀ H' u',(∀ b y,H b=some y→b≠o→H' b=some y)→H' o=some (.ins (Cs 5) dx [("name",.str n),("parts",.int p),("way",.str x),("within",u')])→RoG Cs H' r u'→Q .non H'
noncomputable def sp_ruleR:Sp:=fun vs H Q _=>∃ c z,vs=[.int c,.str z]∧RName z∧∀ v r H',Gd 3 r→r.name=z→Same H H'→RtG H' r v→Q v H'
noncomputable def sp_madN (Cs:Nat→Addr):Nat→Sp
  | 0=>fun _ _ _ _=>False
  | d+1=>fun vs H Q _=>∃ v r,vs=[v]∧RtG H r v∧Gd d r∧∀ o H',Same H H'→RoG Cs H' r o→Q o H'
theorem no5 {d:Nat} {r:Rk} (h:Gd d r) (k:r.kd=5):∃ d' n p x r',d=d'+1∧r = .ontop n p x r'∧RName n∧Prt p∧Way x∧Gd d' r':=by
  cases h with
  | pln p=>cases p <;> cases k
  | bands=>cases k
  | ontop h1 h2 h3 h4=>exact⟨_,_,_,_,_,rfl,rfl,h1,h2,h3,h4⟩
theorem unt_to {K:PySem.W.Frag} {d k:Nat} {Cs:Nat→Addr} (hk:k<4):∀ vs H Q E,sp_untG K d k Cs vs H Q E→sp_unt K k Cs vs H Q E:=by
  rintro vs H Q E ⟨v,r,b,bs,rfl,e,ro,g,hb,bl,q⟩
  have pl:=g.pl (by omega)
  exact⟨v,r,b,bs,rfl,e,ro.pl (by omega),pl,hb,bl,by rw[untG_pln pl] at q;exact q⟩
theorem rinit_to {K:PySem.W.Frag} {Cs:Nat→Addr} (RK:RulK K Cs):∀ vs H Q E,sp_rinit Cs vs H Q E→sp_rinitX K vs H Q E:=by
  rintro vs H Q E ⟨i,o,dx,z,rfl,hi,ho,hz,q⟩
  exact⟨Cs i,o,dx,z,rfl,RK.cls i hi,RK.no i hi "name" (by decide),ho,hz,q⟩
theorem six6 {p:Nat→Prop} (h0:p 0) (h1:p 1) (h2:p 2) (h3:p 3) (h4:p 4) (h5:p 5):∀ i,i<6→p i
  | 0,_=>h0
  | 1,_=>h1
  | 2,_=>h2
  | 3,_=>h3
  | 4,_=>h4
  | 5,_=>h5
theorem Same.made {H:Hp} {o dx C:Addr} (o0:H o=none) (d0:H dx=none):Same H (upd (upd H dx (.own o)) o (.ins C dx [])):=fun b x hb=>by
  rw[upd_ne (ne_of_none hb o0),upd_ne (ne_of_none hb d0)]
  exact hb
end Pg
set_option maxHeartbeats 4000000
namespace K13
open PySem PySem.NumText L2 Pg
seal PE PA PT PW PS PSs PG PGs PI PIf PO PK
section
variable {P:Program} {w:World} {K:PySem.W.Frag} {mg:Str→Option Value} {base:Heap} {f:Addr} {fd:FuncData} {d:Nat→Addr} {cR:Addr}
theorem ok_depR {Cs:Nat→Addr} {d k:Nat} (hk:k<5) (F:Fun K "depth" "Rule.depth" (inClass (top 44) 4) f fd):FnOk P w K mg base CX0 1 f fd ["self"] (sp_depG d k Cs):=by
  refine F.ok (N:=["self"]) ⟨rfl,rfl,rfl,by decide +kernel,rfl,by decide +kernel,by decide +kernel⟩ (fun vs H Q E h=>?_) (fun cdv A outer s H vs Q E hr h=>?_)
  · obtain⟨v,r,rfl,_⟩:=h
    rfl
  · obtain⟨v,r,rfl,e,ro,gd,q⟩:=h
    refine⟨_,pss_one (ps_ret pe_int),?_⟩
    rw[dep_zero (by omega)] at q
    exact q
theorem ok_dep5 {Cs:Nat→Addr} {d j:Nat} (F:Fun K "depth" "OnTop.depth" (inClass (top 56) 4) f fd) (RX:RulX K (Cs 5)) (MD:∀ k,k<6→CalM P w K mg base CX0 j (Cs k) "depth" ["self"] (sp_depG d k Cs)):FnOk P w K mg base CX0 (j+1) f fd ["self"] (sp_depG (d+1) 5 Cs):=by
  refine F.ok (N:=["self"]) ⟨rfl,rfl,rfl,by decide +kernel,rfl,by decide +kernel,by decide +kernel⟩ (fun vs H Q E h=>?_) (fun cdv A outer s H vs Q E hr h=>?_)
  · obtain⟨v,r,rfl,_⟩:=h
    rfl
  · obtain⟨v,r,rfl,e,ro,gd,q⟩:=h
    obtain⟨d',n,p,x,r',ed,rfl,hn,hp,hw,g'⟩:=no5 gd e
    cases ed
    cases ro with
    | pln kk _=>exact absurd kk (by show ¬ (5:Nat)<4;decide)
    | @ontop _ _ _ _ o dx u ho ri =>
      obtain⟨oi,dxi,fsi,rfl,hoi,_,noi⟩:=ri.obj g'
      refine⟨_,pss_one (ps_ret (pe_op op_add (pe_anyP (p:=fun k=>k<6) fun k hk=>pe_calM0 (MD k hk) hr (Nat.le_refl _) pass0 (pe_fld (pv 0) rfl)) pe_int)),?_⟩
      exact⟨r'.kd,kd6 r',_,rfl,o,_,dx,_,_,rfl,ho,RX.cls,RX.no "within" (by decide),rfl,oi,dxi,fsi,rfl,hoi,noi "depth" (by decide),_,r',rfl,rfl,ri,g',_,_,rfl,rfl,q⟩
theorem ok_dep50 {Cs:Nat→Addr} {j:Nat}:FnOk P w K mg base CX0 j f fd ["self"] (sp_depG 0 5 Cs):=⟨fun vs H Q E ⟨v,r,h,e,ro,g,_⟩=>by rw[h];rfl,fun _ _ _ _ _ _ _ _ _ _ _ _ _ ⟨v,r,h,e,ro,g,_⟩=>by obtain⟨_,_,_,_,_,z,_⟩:=no5 g e;cases z⟩
theorem ok_unt50 {Cs:Nat→Addr} {j:Nat}:FnOk P w K mg base CX0 j f fd ["self","bases"] (sp_untG K 0 5 Cs):=⟨fun vs H Q E ⟨v,r,b,bs,h,_⟩=>by rw[h];rfl,fun _ _ _ _ _ _ _ _ _ _ _ _ _ ⟨v,r,b,bs,h,e,ro,g,_⟩=>by obtain⟨_,_,_,_,_,z,_⟩:=no5 g e;cases z⟩
theorem ok_twin50 {Cs:Nat→Addr} {j:Nat}:FnOk P w K mg base CX0 j f fd ["self"] (sp_twin 0 5 Cs):=⟨fun vs H Q E ⟨v,r,h,_⟩=>by rw[h];rfl,fun _ _ _ _ _ _ _ _ _ _ _ _ _ ⟨v,r,h,e,ro,g,_⟩=>by obtain⟨_,_,_,_,_,z,_⟩:=no5 g e;cases z⟩
theorem ok_unt5 {Cs:Nat→Addr} {d j:Nat} (F:Fun K "until" "OnTop.until" (inClass (top 56) 1) f fd) (RX:RulX K (Cs 5)) (hj:4≤j) (MU:∀ k,k<6→CalM P w K mg base CX0 j (Cs k) "until" ["self","bases"] (sp_untG K d k Cs)) (C1:Cal P w K mg base CX0 4 "share_of" ["amount","parts","way"] sp_share0):FnOk P w K mg base CX0 (j+1) f fd ["self","bases"] (sp_untG K (d+1) 5 Cs):=by
  refine F.ok (N:=["self","bases"]) ⟨rfl,rfl,rfl,by decide +kernel,rfl,by decide +kernel,by decide +kernel⟩ (fun vs H Q E h=>?_) (fun cdv A outer s H vs Q E hr h=>?_)
  · obtain⟨v,r,b,bs,rfl,_⟩:=h
    rfl
  · obtain⟨v,r,b,bs,rfl,e,ro,gd,hb,bl,q⟩:=h
    obtain⟨d',n,p,x,r',ed,rfl,hn,hp,hw,g'⟩:=no5 gd e
    cases ed
    cases ro with
    | pln kk _=>exact absurd kk (by show ¬ (5:Nat)<4;decide)
    | @ontop _ _ _ _ o dx u ho ri =>
      obtain⟨oi,dxi,fsi,rfl,hoi,_,noi⟩:=ri.obj g'
      refine⟨_,pss_one (ps_ret (pe_cal C1 hr hj pass0 (pa_cons (pe_anyP (p:=fun k=>k<6) fun k hk=>pe_calM (MU k hk) hr (Nat.le_refl _) pass0 (pe_fld (pv 0) rfl) (pa_cons (pv 1) pa_nil)) (pa_cons (pe_fld (pv 0) rfl) (pa_cons (pe_fld (pv 0) rfl) pa_nil))))),?_⟩
      refine⟨r'.kd,kd6 r',_,rfl,o,_,dx,_,_,rfl,ho,RX.cls,RX.no "within" (by decide),rfl,oi,dxi,fsi,rfl,hoi,noi "until" (by decide),_,rfl,_,r',b,bs,rfl,rfl,ri,g',hb,bl,fun H1 s1=>?_⟩
      have ho1:=s1 _ _ ho
      exact⟨_,rfl,o,_,dx,_,_,rfl,ho1,RX.cls,RX.no "parts" (by decide),rfl,_,rfl,o,_,dx,_,_,rfl,ho1,RX.cls,RX.no "way" (by decide),rfl,_,_,_,rfl,hp.1,hp.2,hw,q H1 s1⟩
theorem ok_twin0 {Cs:Nat→Addr} {d:Nat} (F:Fun K "twin" "Flat.twin" (inClass (top 45) 3) f fd) (RK:RulK K Cs) (N0:CalN P w K mg base CX0 5 "Flat" (Cs 0) ["self","name","amount"] (sp_kinit 0 Cs)):FnOk P w K mg base CX0 7 f fd ["self"] (sp_twin d 0 Cs):=by
  refine F.ok (N:=["self"]) ⟨rfl,rfl,rfl,by decide +kernel,rfl,by decide +kernel,by decide +kernel⟩ (fun vs H Q E h=>?_) (fun cdv A outer s H vs Q E hr h=>?_)
  · obtain⟨v,r,rfl,_⟩:=h
    rfl
  · obtain⟨v,r,rfl,e,ro,gd,q⟩:=h
    have pl:=gd.pl (by omega)
    have pl0:=pl
    obtain⟨o,dx,rfl,ho⟩:=ro.pl (by omega)
    cases pl with
    | @flat n a hn ha =>
      refine⟨_,pss_one (ps_ret (pe_calN (j:=5) N0 hr (by decide) pass0 (pa_cons (pe_fld (pv 0) rfl) (pa_cons (pe_fld (pv 0) rfl) pa_nil)))),?_⟩
      exact⟨_,rfl,o,_,dx,_,_,rfl,ho,RK.cls 0 (by decide),RK.no 0 (by decide) "name" (by decide),rfl,_,rfl,o,_,dx,_,_,rfl,ho,RK.cls 0 (by decide),RK.no 0 (by decide) "amount" (by decide),rfl,fun o dx o0 d0 ne=>⟨o,dx,.flat n a,rfl,rfl,pl0,upd_same,fun H' fr e=>⟨rfl,q _ H' (made_same o0 d0 fr) (.pln (Nat.le_of_ble_eq_true rfl) ⟨o,dx,rfl,e⟩)⟩⟩⟩
    | share=>cases e
    | capped=>cases e
    | least=>cases e
theorem ok_twin1 {Cs:Nat→Addr} {d:Nat} (F:Fun K "twin" "Share.twin" (inClass (top 46) 3) f fd) (RK:RulK K Cs) (N0:CalN P w K mg base CX0 5 "Share" (Cs 1) ["self","name","parts","way"] (sp_kinit 1 Cs)):FnOk P w K mg base CX0 7 f fd ["self"] (sp_twin d 1 Cs):=by
  refine F.ok (N:=["self"]) ⟨rfl,rfl,rfl,by decide +kernel,rfl,by decide +kernel,by decide +kernel⟩ (fun vs H Q E h=>?_) (fun cdv A outer s H vs Q E hr h=>?_)
  · obtain⟨v,r,rfl,_⟩:=h
    rfl
  · obtain⟨v,r,rfl,e,ro,gd,q⟩:=h
    have pl:=gd.pl (by omega)
    have pl0:=pl
    obtain⟨o,dx,rfl,ho⟩:=ro.pl (by omega)
    cases pl with
    | @share n p x hn hp hw =>
      refine⟨_,pss_one (ps_ret (pe_calN (j:=5) N0 hr (by decide) pass0 (pa_cons (pe_fld (pv 0) rfl) (pa_cons (pe_fld (pv 0) rfl) (pa_cons (pe_fld (pv 0) rfl) pa_nil))))),?_⟩
      exact⟨_,rfl,o,_,dx,_,_,rfl,ho,RK.cls 1 (by decide),RK.no 1 (by decide) "name" (by decide),rfl,_,rfl,o,_,dx,_,_,rfl,ho,RK.cls 1 (by decide),RK.no 1 (by decide) "parts" (by decide),rfl,_,rfl,o,_,dx,_,_,rfl,ho,RK.cls 1 (by decide),RK.no 1 (by decide) "way" (by decide),rfl,fun o dx o0 d0 ne=>⟨o,dx,.share n p x,rfl,rfl,pl0,upd_same,fun H' fr e=>⟨rfl,q _ H' (made_same o0 d0 fr) (.pln (Nat.le_of_ble_eq_true rfl) ⟨o,dx,rfl,e⟩)⟩⟩⟩
    | flat=>cases e
    | capped=>cases e
    | least=>cases e
theorem ok_twin2 {Cs:Nat→Addr} {d:Nat} (F:Fun K "twin" "Capped.twin" (inClass (top 47) 3) f fd) (RK:RulK K Cs) (N0:CalN P w K mg base CX0 5 "Capped" (Cs 2) ["self","name","parts","most","way"] (sp_kinit 2 Cs)):FnOk P w K mg base CX0 7 f fd ["self"] (sp_twin d 2 Cs):=by
  refine F.ok (N:=["self"]) ⟨rfl,rfl,rfl,by decide +kernel,rfl,by decide +kernel,by decide +kernel⟩ (fun vs H Q E h=>?_) (fun cdv A outer s H vs Q E hr h=>?_)
  · obtain⟨v,r,rfl,_⟩:=h
    rfl
  · obtain⟨v,r,rfl,e,ro,gd,q⟩:=h
    have pl:=gd.pl (by omega)
    have pl0:=pl
    obtain⟨o,dx,rfl,ho⟩:=ro.pl (by omega)
    cases pl with
    | @capped n p m x hn hp ha hw =>
      refine⟨_,pss_one (ps_ret (pe_calN (j:=5) N0 hr (by decide) pass0 (pa_cons (pe_fld (pv 0) rfl) (pa_cons (pe_fld (pv 0) rfl) (pa_cons (pe_fld (pv 0) rfl) (pa_cons (pe_fld (pv 0) rfl) pa_nil)))))),?_⟩
      exact⟨_,rfl,o,_,dx,_,_,rfl,ho,RK.cls 2 (by decide),RK.no 2 (by decide) "name" (by decide),rfl,_,rfl,o,_,dx,_,_,rfl,ho,RK.cls 2 (by decide),RK.no 2 (by decide) "parts" (by decide),rfl,_,rfl,o,_,dx,_,_,rfl,ho,RK.cls 2 (by decide),RK.no 2 (by decide) "most" (by decide),rfl,_,rfl,o,_,dx,_,_,rfl,ho,RK.cls 2 (by decide),RK.no 2 (by decide) "way" (by decide),rfl,fun o dx o0 d0 ne=>⟨o,dx,.capped n p m x,rfl,rfl,pl0,upd_same,fun H' fr e=>⟨rfl,q _ H' (made_same o0 d0 fr) (.pln (Nat.le_of_ble_eq_true rfl) ⟨o,dx,rfl,e⟩)⟩⟩⟩
    | flat=>cases e
    | share=>cases e
    | least=>cases e
theorem ok_twin3 {Cs:Nat→Addr} {d:Nat} (F:Fun K "twin" "Least.twin" (inClass (top 48) 3) f fd) (RK:RulK K Cs) (N0:CalN P w K mg base CX0 5 "Least" (Cs 3) ["self","name","parts","least","way"] (sp_kinit 3 Cs)):FnOk P w K mg base CX0 7 f fd ["self"] (sp_twin d 3 Cs):=by
  refine F.ok (N:=["self"]) ⟨rfl,rfl,rfl,by decide +kernel,rfl,by decide +kernel,by decide +kernel⟩ (fun vs H Q E h=>?_) (fun cdv A outer s H vs Q E hr h=>?_)
  · obtain⟨v,r,rfl,_⟩:=h
    rfl
  · obtain⟨v,r,rfl,e,ro,gd,q⟩:=h
    have pl:=gd.pl (by omega)
    have pl0:=pl
    obtain⟨o,dx,rfl,ho⟩:=ro.pl (by omega)
    cases pl with
    | @least n p m x hn hp ha hw =>
      refine⟨_,pss_one (ps_ret (pe_calN (j:=5) N0 hr (by decide) pass0 (pa_cons (pe_fld (pv 0) rfl) (pa_cons (pe_fld (pv 0) rfl) (pa_cons (pe_fld (pv 0) rfl) (pa_cons (pe_fld (pv 0) rfl) pa_nil)))))),?_⟩
      exact⟨_,rfl,o,_,dx,_,_,rfl,ho,RK.cls 3 (by decide),RK.no 3 (by decide) "name" (by decide),rfl,_,rfl,o,_,dx,_,_,rfl,ho,RK.cls 3 (by decide),RK.no 3 (by decide) "parts" (by decide),rfl,_,rfl,o,_,dx,_,_,rfl,ho,RK.cls 3 (by decide),RK.no 3 (by decide) "least" (by decide),rfl,_,rfl,o,_,dx,_,_,rfl,ho,RK.cls 3 (by decide),RK.no 3 (by decide) "way" (by decide),rfl,fun o dx o0 d0 ne=>⟨o,dx,.least n p m x,rfl,rfl,pl0,upd_same,fun H' fr e=>⟨rfl,q _ H' (made_same o0 d0 fr) (.pln (Nat.le_of_ble_eq_true rfl) ⟨o,dx,rfl,e⟩)⟩⟩⟩
    | flat=>cases e
    | share=>cases e
    | capped=>cases e
theorem ok_twin4 {Cs:Nat→Addr} {d:Nat} (F:Fun K "twin" "Bands.twin" (inClass (top 53) 3) f fd) (RX:RulX K (Cs 4)) (N0:CalN P w K mg base CX0 6 "Bands" (Cs 4) ["self","name","rows","way"] (sp_binit (Cs 4))):FnOk P w K mg base CX0 8 f fd ["self"] (sp_twin d 4 Cs):=by
  refine F.ok (N:=["self"]) ⟨rfl,rfl,rfl,by decide +kernel,rfl,by decide +kernel,by decide +kernel⟩ (fun vs H Q E h=>?_) (fun cdv A outer s H vs Q E hr h=>?_)
  · obtain⟨v,r,rfl,_⟩:=h
    rfl
  · obtain⟨v,r,rfl,e,ro,gd,q⟩:=h
    cases gd with
    | pln p=>cases p <;> cases e
    | ontop=>cases e
    | @bands _ n x ps hn ok hw =>
      cases ro with
      | pln kk _=>exact absurd kk (by show ¬ (4:Nat)<4;decide)
      | @bands _ _ _ o dx u ho bd =>
        refine⟨_,pss_one (ps_ret (pe_calN (j:=6) N0 hr (by decide) pass0 (pa_cons (pe_fld (pv 0) rfl) (pa_cons (pe_fld (pv 0) rfl) (pa_cons (pe_fld (pv 0) rfl) pa_nil))))),?_⟩
        refine⟨_,rfl,o,_,dx,_,_,rfl,ho,RX.cls,RX.no "name" (by decide),rfl,_,rfl,o,_,dx,_,_,rfl,ho,RX.cls,RX.no "bands" (by decide),rfl,_,rfl,o,_,dx,_,_,rfl,ho,RX.cls,RX.no "way" (by decide),rfl,fun o dx o0 dx0 ne=>⟨o,dx,n,u,ps,x,rfl,hn,ok,hw,?_,upd_same,fun H' u' fr ho' bd'=>⟨rfl,q _ H' (made_same o0 dx0 fr) (.bands ho' bd')⟩⟩⟩
        obtain⟨ys,hu,T⟩:=bd
        have nt:∀ {b c},H b=some (.tup c)→(upd (upd H dx (.own o)) o (.ins (Cs 4) dx [])) b=some (.tup c):=fun {b c} h=>by rw[upd_ne (ne_of_none h o0),upd_ne (ne_of_none h dx0)];exact h
        exact⟨ys,nt hu,T.mono fun b c h=>nt h⟩
theorem ok_twin5 {Cs:Nat→Addr} {d j:Nat} (F:Fun K "twin" "OnTop.twin" (inClass (top 56) 3) f fd) (RX:RulX K (Cs 5)) (N0:CalN P w K mg base CX0 j "OnTop" (Cs 5) ["self","name","parts","way","rule"] (sp_oinit d Cs)):FnOk P w K mg base CX0 (j+2) f fd ["self"] (sp_twin (d+1) 5 Cs):=by
  refine F.ok (N:=["self"]) ⟨rfl,rfl,rfl,by decide +kernel,rfl,by decide +kernel,by decide +kernel⟩ (fun vs H Q E h=>?_) (fun cdv A outer s H vs Q E hr h=>?_)
  · obtain⟨v,r,rfl,_⟩:=h
    rfl
  · obtain⟨v,r,rfl,e,ro,gd,q⟩:=h
    obtain⟨d',n,p,x,r',ed,rfl,hn,hp,hw,g'⟩:=no5 gd e
    cases ed
    cases ro with
    | pln kk _=>exact absurd kk (by show ¬ (5:Nat)<4;decide)
    | @ontop _ _ _ _ o dx u ho ri =>
      refine⟨_,pss_one (ps_ret (pe_calN (j:=j) N0 hr (Nat.le_refl _) pass0 (pa_cons (pe_fld (pv 0) rfl) (pa_cons (pe_fld (pv 0) rfl) (pa_cons (pe_fld (pv 0) rfl) (pa_cons (pe_fld (pv 0) rfl) pa_nil)))))),?_⟩
      exact⟨_,rfl,o,_,dx,_,_,rfl,ho,RX.cls,RX.no "name" (by decide),rfl,_,rfl,o,_,dx,_,_,rfl,ho,RX.cls,RX.no "parts" (by decide),rfl,_,rfl,o,_,dx,_,_,rfl,ho,RX.cls,RX.no "way" (by decide),rfl,_,rfl,o,_,dx,_,_,rfl,ho,RX.cls,RX.no "within" (by decide),rfl,fun o dx o0 dx0 ne=>⟨o,dx,n,p,x,u,r',rfl,hn,hp,hw,ri.same (Same.made o0 dx0),g',upd_same,fun H' u' fr ho' ri'=>⟨rfl,q _ H' (made_same o0 dx0 fr) (.ontop ho' ri')⟩⟩⟩
set_option maxHeartbeats 4000000 in
theorem ok_oinit {Cs:Nat→Addr} {cRu:Addr} {d j:Nat} (F:Fun K "__init__" "OnTop.__init__" (inClass (top 56) 0) f fd) (G:Glb mg) (RX:RulX K (Cs 5)) (RJ:RulJ K Cs cRu) (gR:mg "Rule" = some (.ref cRu)) (N1:Num mg "MOST_DEPTH" 3) (hd:d≤2) (hj:4≤j) (CR:CalC P w K mg base CX0 4 "Rule" "__init__" ["self","name"] (sp_rinitX K)) (C1:Cal P w K mg base CX0 4 "need_share" ["parts","way"] sp_needS0) (MT:∀ k,k<6→CalM P w K mg base CX0 j (Cs k) "twin" ["self"] (sp_twin d k Cs)) (MD:CalM P w K mg base CX0 j (Cs 5) "depth" ["self"] (sp_depG (d+1) 5 Cs)):FnOk P w K mg base CX0 (j+1) f fd ["self","name","parts","way","rule"] (sp_oinit d Cs):=by
  obtain⟨tk,em⟩:=N1
  refine F.ok (N:=["self","name","parts","way","rule"]) ⟨rfl,rfl,rfl,by decide +kernel,rfl,by decide +kernel,by decide +kernel⟩ (fun vs H Q E h=>?_) (fun cdv A outer s H vs Q E hr h=>?_)
  · obtain⟨o,dx,n,p,x,u,r,rfl,_⟩:=h
    rfl
  · obtain⟨o,dx,n,p,x,u,r,rfl,hn,hp,hw,ri,gd,ho,q⟩:=h
    refine⟨_,pss_cons (ps_expr (pe_calC CR hr hj pass0 (pa_cons (pv 0) (pa_cons (pv 1) pa_nil)))) (pss_cons (ps_expr (pe_cal C1 hr hj pass0 (pa_cons (pv 2) (pa_cons (pv 3) pa_nil)))) (pss_cons (ps_if (pt_not (pt_val (pe_callB call_isinst rfl G.isinstance boot_isinstance (pa_cons (pv 4) (pa_cons (pe_glob (v:=.ref cRu) rfl gR rfl) pa_nil))))) pss_never pss_nil)
      (pss_cons (ps_fld (pv 0) (pv 2) rfl) (pss_cons (ps_fld (pv 0) (pv 3) rfl) (pss_cons (ps_fld (pv 0) (pe_anyP (p:=fun k=>k<6) fun k hk=>pe_calM0 (MT k hk) hr (Nat.le_refl _) pass0 (pv 4)) rfl)
      (pss_one (ps_if (pt_cmpR op_gt (pe_calM0 MD hr (Nat.le_refl _) pass0 (pv 0)) (pe_glob (v:=.int 3) rfl em ⟨tk,rfl⟩) (nomark _)) pss_never pss_nil))))))),?_⟩
    refine⟨_,rfl,_,rfl,_,o,dx,_,rfl,RX.cls,RX.no "name" (by decide),ho,hn,fun H1 f1 e1=>⟨_,rfl,_,rfl,_,_,rfl,hp,hw,?_⟩⟩
    have r1:=ri.frame gd ho f1
    obtain⟨oi,dxi,fsi,rfl,hoi,_,noi⟩:=r1.obj gd
    have k6:=kd6 r
    refine⟨_,rfl,_,_,_,_,true,rfl,rfl,.inl (.ins hoi (RJ.cls _ k6) (RJ.ha _ k6) RJ.hn RJ.htk (RJ.hm _ k6)),RJ.kt _ k6,true,rfl,iteF ?_⟩
    refine⟨_,rfl,_,rfl,o,_,dx,_,rfl,e1,RX.cls,RX.no "parts" (by decide),by show 1<1000;decide,?_⟩
    rw[pr2 _ _ _ (by decide +kernel)]
    refine⟨_,rfl,_,rfl,o,_,dx,_,rfl,upd_same,RX.cls,RX.no "way" (by decide),by show 2<1000;decide,?_⟩
    rw[pr3 _ _ _ _ _ (by decide +kernel) (by decide +kernel)]
    have f2:∀ b y,H b=some y→b≠o→(upd (upd H1 o (.ins (Cs 5) dx [("name",.str n),("parts",.int p)])) o (.ins (Cs 5) dx [("name",.str n),("parts",.int p),("way",.str x)])) b=some y:=fun b y hb ne=>by rw[upd_ne ne,upd_ne ne];exact f1 _ _ hb ne
    have e2:(upd (upd H1 o (.ins (Cs 5) dx [("name",.str n),("parts",.int p)])) o (.ins (Cs 5) dx [("name",.str n),("parts",.int p),("way",.str x)])) o=some (.ins (Cs 5) dx [("name",.str n),("parts",.int p),("way",.str x)]):=upd_same
    generalize upd (upd H1 o (.ins (Cs 5) dx [("name",.str n),("parts",.int p)])) o (.ins (Cs 5) dx [("name",.str n),("parts",.int p),("way",.str x)])=H2 at f2 e2
    have r2:=ri.frame gd ho f2
    obtain⟨oi2,dxi2,fsi2,eoi,hoi2,_,noi2⟩:=r2.obj gd
    cases eoi
    refine⟨r.kd,k6,_,rfl,oi,dxi2,fsi2,rfl,hoi2,noi2 "twin" (by decide),_,r,rfl,rfl,r2,gd,fun u' H3 s3 r3=>?_⟩
    have e3:=s3 _ _ e2
    refine⟨_,rfl,o,_,dx,_,rfl,e3,RX.cls,RX.no "within" (by decide),by show 3<1000;decide,?_⟩
    rw[pr4 _ _ _ _ _ _ _ (by decide +kernel) (by decide +kernel) (by decide +kernel)]
    have f4:∀ b y,H3 b=some y→b≠o→(upd H3 o (.ins (Cs 5) dx [("name",.str n),("parts",.int p),("way",.str x),("within",u')])) b=some y:=fun b y hb ne=>by rw[upd_ne ne];exact hb
    have e4:(upd H3 o (.ins (Cs 5) dx [("name",.str n),("parts",.int p),("way",.str x),("within",u')])) o=some (.ins (Cs 5) dx [("name",.str n),("parts",.int p),("way",.str x),("within",u')]):=upd_same
    generalize upd H3 o (.ins (Cs 5) dx [("name",.str n),("parts",.int p),("way",.str x),("within",u')])=H4 at f4 e4
    have r4:=r3.frame3 RJ.ne gd e3 f4
    have g4:Gd (d+1) (.ontop n p x r):=.ontop hn hp hw gd
    refine⟨_,rfl,o,dx,_,rfl,e4,rfl,_,_,rfl,rfl,.ontop e4 r4,g4,_,_,rfl,rfl,_,rfl,ite2 (fun e=>?_) (fun _=>?_)⟩
    · have e:=of_decide_eq_true e
      have:=dep_le g4
      omega
    · exact q H4 u' (fun b y hb ne=>f4 _ _ (s3 _ _ (f2 _ _ hb ne)) ne) e4 r4
end
end K13
namespace K13
open PySem PySem.NumText L2 Pg
seal PE PA PT PW PS PSs PG PGs PI PIf PO PK
section
variable {P:Program} {w:World} {K:PySem.W.Frag} {mg:Str→Option Value} {base:Heap} {f:Addr} {fd:FuncData} {d:Nat→Addr} {cR:Addr}
theorem ok_are_figures (F:Fun K "are_figures" "are_figures" (top 29) f fd) (G:Glb mg) (N1:Txt mg "FIGURES" "0123456789"):FnOk P w K mg base CX0 1 f fd ["text"] sp_figs:=by
  obtain⟨tm,hm⟩:=N1
  have nc:(["sign"]:List Str).Nodup:=by decide +kernel
  refine F.ok (N:=["text"]) ⟨rfl,rfl,rfl,by decide +kernel,rfl,by decide +kernel,by decide +kernel⟩ (fun vs H Q E h=>?_) (fun cdv A outer s H vs Q E hr h=>?_)
  · obtain⟨z,rfl,_⟩:=h
    rfl
  · obtain⟨z,rfl,hz,q⟩:=h
    have ls:100001≤sizeLine:=by rw[sizeLine_eq];decide
    refine' ⟨_,pss_one (ps_ret (pe_and (pe_cmpR op_gt (pe_callB call_len_str rfl G.len boot_len (pa_cons (pv 0) pa_nil)) pe_int (nomark _)) (pe_one (pe_callB (call_allL rfl) rfl G.all boot_all (pa_cons ?comp pa_nil))))),?main⟩
    case comp =>
      refine' pe_compI (Nc:=["sign"]) (cl:=[]) (src:=[none]) (wi:=iStr (tVar 0)) (g:=gName 0) (tt:=tNoIf) (te:=tOp (fun x y H Q=>∃ i j,x = .str i∧y = .str j∧Q (.bl (!(Builtin.Str.occurrences j i 0 j.length 1).isEmpty)) H) (tVar 0) (tC (.str "0123456789"))) ⟨rfl,rfl,by decide +kernel,by decide +kernel,(fun x c z=>nomatch z),has_of (by rfl),frm_none frm_nil,rfl⟩ rfl (pi_str (pv 0)) ?hb
      case hb =>
        intro fp C' s' H'
        exact⟨pg_name (i:=0) nc rfl (Or.inl rfl),pif_nil,pe_cmpR op_in_str (pv 0) (pe_glob (v:=.str "0123456789") rfl hm ⟨_,rfl⟩) (by rfl)⟩
    refine⟨_,rfl,z,rfl,by omega,_,_,rfl,rfl,_,rfl,ite2 (fun e=>?_) (fun e=>?_)⟩
    · have e:0<z.length:=by have:=of_decide_eq_true e;omega
      have ne:z.cps.toList≠[]:=fun y=>by rw[len_codes,y] at e;exact absurd e (by decide)
      refine⟨_,rfl,z,rfl,fun D hD=>?_⟩
      refine comp_fm (walk_str (z:=z)) hD (by rw[List.length_map,← len_codes];omega) (fun _=>true) (fun x=>match x with | .str y=>.bl (isF (y.cps.getD 0 0)) | v=>v) (fun x _ H' R _ r=>r) (fun x hx _ H' R _ r=>?_) ?_
      · obtain⟨c,_,rfl⟩:=List.mem_map.mp hx
        refine⟨_,rfl,_,_,rfl,rfl,?_⟩
        rw[fig_in]
        exact r
      · rw[List.filter_eq_self.mpr fun _ _=>rfl,List.map_map]
        refine⟨D,z.cps.toList.map isF,rfl,SqL.of (by rw[List.map_map];exact upd_same),?_⟩
        have e2:figL z.cps.toList=(z.cps.toList.map isF).all id:=by
          unfold figL
          rw[List.all_map]
          cases h:z.cps.toList with
          | nil=>exact absurd h ne
          | cons a l=>rfl
        rw[← e2]
        exact q _ (Same.upd hD)
    · have e0:z.cps.toList=[]:=List.length_eq_zero_iff.mp (by
        rw[← len_codes]
        have:¬ (0:Int)<(z.length:Nat):=fun c=>e (decide_eq_true c)
        omega)
      have q':=q H (Same.refl _)
      rw[e0] at q'
      exact q'
end
end K13
namespace K13
open PySem PySem.NumText L2 Pg
seal PE PA PT PW PS PSs PG PGs PI PIf PO PK
section
variable {P:Program} {w:World} {K:PySem.W.Frag} {mg:Str→Option Value} {base:Heap} {f:Addr} {fd:FuncData} {d:Nat→Addr} {cR:Addr}
theorem ok_numT (F:Fun K "is_number_text" "is_number_text" (top 30) f fd) (C1:Cal P w K mg base CX0 1 "are_figures" ["text"] sp_figs):FnOk P w K mg base CX0 2 f fd ["text"] sp_numT:=by
  refine F.ok (N:=["text"]) ⟨rfl,rfl,rfl,by decide +kernel,rfl,by decide +kernel,by decide +kernel⟩ (fun vs H Q E h=>?_) (fun cdv A outer s H vs Q E hr h=>?_)
  · obtain⟨z,rfl,_⟩:=h
    rfl
  · obtain⟨z,rfl,hz,q⟩:=h
    refine⟨_,(pss_one (ps_ret (pe_and (pe_cal C1 hr (by decide) pass0 (pa_cons (pv 0) pa_nil)) (pe_one (pe_or (pe_cmpR op_eq (pv 0) pe_str (nomark _)) (pe_one (pe_not (pe_bm PySem.F.plainAttrs_str PySem.F.slot_str_startswith PySem.F.type_str_startswith mt_startswith (pv 0) (pa_cons pe_str pa_nil))))))))),?_⟩
    refine⟨_,rfl,z,rfl,by omega,fun H1 s1=>⟨_,rfl,?_⟩⟩
    have q':=q H1 s1
    unfold numT0 at q'
    cases e:figL z.cps.toList with
    | false =>
      rw[e] at q'
      exact iteF q'
    | true =>
      rw[e,Bool.true_and] at q'
      refine iteT ⟨_,rfl,rfl,_,rfl,?_⟩
      have e0:("0":Str).cps.toList=[48]:=by rw[zero_str]
      rw[like_codes,e0]
      by_cases c:z.cps.toList=[48]
      · rw[decide_eq_true c] at q' ⊢
        exact iteT q'
      · rw[decide_eq_false c,Bool.false_or] at q'
        rw[decide_eq_false c]
        refine iteF ⟨_,rfl,rfl,_,_,rfl,rfl,_,rfl,?_⟩
        rw[zero_str,starts_one]
        exact q'
end
end K13
namespace Pg
open PySem L2
theorem cut_to_n (bs:List Int) (k:Nat):cutV (bs.map V.int) none (some ((k:Nat):Int))=(bs.take k).map V.int:=by
  unfold cutV
  rw[HT.sIx_none,List.drop_zero,HT.sIx_nat,Nat.sub_zero,List.length_map,← List.map_take]
  congr 1
  by_cases h:k≤bs.length
  · rw[Nat.min_eq_left h]
  · rw[Nat.min_eq_right (by omega),List.take_of_length_le (Nat.le_refl _),List.take_of_length_le (by omega)]
theorem nns_take {bs:List Int} (h:Nns bs) (k:Nat):Nns (bs.take k):=fun b hb=>h b (List.mem_of_mem_take hb)
theorem Gd.le {d e:Nat} {r:Rk} (h:Gd d r) (le:d≤e):Gd e r:=by
  induction le with
  | refl=>exact h
  | step _ ih=>exact ih.mono
noncomputable def sp_onT (K:PySem.W.Frag) (Cs:Nat→Addr):Sp:=fun vs H Q _=>∃ o v r b bs,vs=[o,v,.ref b]∧RoG Cs H r o∧RtG H r v∧Gd 3 r∧r.kd=5∧SqL K H b (bs.map V.int)∧bs.length≤100∧Nns bs∧∀ H',Same H H'→Q (.bl true) H'
noncomputable def sp_turn (K:PySem.W.Frag):Sp:=fun vs H Q _=>∃ (b:Addr) (bs:List Int) (c:Int),vs=[.ref b,.int c]∧SqL K H b (bs.map V.int)∧bs.length≤50∧∀ (cs:List Int) l H',cs.Perm bs→Same H H'→H' l=some (.lst (cs.map V.int))→Q (.ref l) H'
end Pg
namespace L2
open PySem PySem.StrLaws Builtin Builtin.Str
noncomputable def cutsR (c:Nat):List Nat→Nat→List Nat
  | [],_=>[]
  | a::r,k=>if a=c then k::cutsR c r (k+1) else cutsR c r (k+1)
theorem occ_step (x:Str) (c:Nat):∀ (l:List Nat) (k:Nat) (f:Array Nat) (fr:Nat),x.cps.toList.drop k=l→k≤x.length→fr≤k→f.size≤k →
    (forIn (List.range' k (l.length+1)) (f,fr) (occBody x ⟨#[c]⟩ x.length (x.length+1))).run.fst.toList=f.toList++cutsR c l k:=by
  intro l
  induction l with
  | nil =>
    intro k f fr e hk hf hs
    have e1:List.range' k (([]:List Nat).length+1)=[k]:=rfl
    have e2:cutsR c [] k=[]:=rfl
    rw[e1,e2,List.forIn_cons]
    unfold occBody
    have:¬ (((f.size<x.length+1∧fr≤k)∧k+(⟨#[c]⟩:Str).length≤x.length)∧subAt x ⟨#[c]⟩ k=true):=fun h=>by
      have h1:=(subAt_one x c k).mp ⟨h.1.2,h.2⟩
      have h2:(x.cps.toList.drop k)[0]? = some c:=by rw[List.getElem?_drop];exact h1
      rw[e] at h2
      cases h2
    rw[if_neg this,List.append_nil]
    rfl
  | cons a r ih =>
    intro k f fr e hk hf hs
    have ea:x.cps.toList[k]? = some a:=by
      have h2:(x.cps.toList.drop k)[0]? = some a:=by rw[e];rfl
      rw[List.getElem?_drop] at h2
      exact h2
    have er:x.cps.toList.drop (k+1)=r:=by
      rw[← List.drop_drop,e]
      rfl
    have kl:k+1≤x.length:=by
      have:=(List.getElem?_eq_some_iff.mp ea).1
      have e2:x.cps.toList.length=x.length:=rfl
      omega
    rw[List.length_cons,List.range'_succ,List.forIn_cons]
    unfold occBody
    by_cases h:a=c
    · subst h
      have h1:=(subAt_one x a k).mpr ea
      rw[if_pos ⟨⟨⟨Nat.lt_of_le_of_lt hs (by omega),hf⟩,h1.1⟩,h1.2⟩]
      have:=ih (k+1) (f.push k) (k+1) er kl (Nat.le_refl _) (by rw[Array.size_push];omega)
      have c1:cutsR a (a::r) k=k::cutsR a r (k+1):=if_pos rfl
      rw[c1]
      refine this.trans ?_
      rw[Array.toList_push,List.append_assoc]
      rfl
    · have:¬ (((f.size<x.length+1∧fr≤k)∧k+(⟨#[c]⟩:Str).length≤x.length)∧subAt x ⟨#[c]⟩ k=true):=fun q=>by
        have h1:=(subAt_one x c k).mp ⟨q.1.2,q.2⟩
        rw[ea] at h1
        exact h (Option.some.inj h1)
      rw[if_neg this]
      have c1:cutsR c (a::r) k=cutsR c r (k+1):=if_neg h
      rw[c1]
      exact ih (k+1) f fr er kl (by omega) (by omega)
theorem occ_cuts (x:Str) (c:Nat):occurrences x ⟨#[c]⟩ 0 x.length (x.length+1)=cutsR c x.cps.toList 0:=by
  rw[occ_eq]
  exact occ_step x c x.cps.toList 0 #[] 0 rfl (Nat.zero_le _) (Nat.le_refl _) (Nat.le_refl _)
theorem cuts_free {c:Nat} {w:List Nat} (h:¬ c∈w) (r:List Nat) (k:Nat):cutsR c (w++r) k=cutsR c r (k+w.length):=by
  induction w generalizing k with
  | nil=>rfl
  | cons a w ih =>
    have n:¬ a=c:=fun e=>h (by rw[e];exact List.mem_cons_self)
    have e:cutsR c (a::w++r) k=cutsR c (w++r) (k+1):=if_neg n
    rw[e,ih (fun m=>h (List.mem_cons_of_mem _ m)),List.length_cons]
    congr 1
    omega
theorem cuts_shift (c:Nat) (l:List Nat) (k s:Nat):cutsR c l (k+s)=(cutsR c l k).map (· + s):=by
  induction l generalizing k with
  | nil=>rfl
  | cons a r ih =>
    show (if a=c then _ else _)=(if a=c then _ else _:List Nat).map _
    have e:=ih (k+1)
    rw[show k+1+s=k+s+1 by omega] at e
    split
    · rw[List.map_cons,e]
    · exact e
noncomputable def pbL (l cuts:List Nat):List (List Nat):=List.zipWith (fun i j=>(l.drop i).take (j - i)) (0::cuts.map (· + 1)) (cuts++[l.length])
theorem pb_words {c:Nat}:∀ (rest:List (List Nat)) (w:List Nat),¬ c∈w→(∀ v∈rest,¬ c∈v)→pbL (w++(rest.map fun v=>c::v).flatten) (cutsR c (w++(rest.map fun v=>c::v).flatten) 0)=w::rest:=by
  intro rest
  induction rest with
  | nil =>
    intro w hw _
    rw[cuts_free hw]
    show [((w++[]).drop 0).take ((w++[]).length - 0)]=[w]
    rw[List.append_nil,List.drop_zero,Nat.sub_zero,List.take_length]
  | cons v r ih =>
    intro w hw hr
    have ih:=ih v (hr v List.mem_cons_self) fun u hu=>hr u (List.mem_cons_of_mem _ hu)
    have el:(((v::r).map fun v=>c::v).flatten)=c::(v++(r.map fun v=>c::v).flatten):=rfl
    rw[el]
    generalize v++(r.map fun v=>c::v).flatten=l' at ih
    have e1:cutsR c (w++c::l') 0=w.length::(cutsR c l' 0).map (· + (w.length+1)):=by
      rw[cuts_free hw,Nat.zero_add]
      show (if c=c then _ else _)=_
      rw[if_pos rfl,← cuts_shift,Nat.zero_add]
    rw[e1]
    unfold pbL at ih ⊢
    rw[List.map_cons,List.cons_append,List.zipWith_cons_cons]
    congr 1
    · rw[List.drop_zero,Nat.sub_zero]
      exact List.take_left
    · rw[← ih]
      have s1:(w.length+1)::((cutsR c l' 0).map (· + (w.length+1))).map (· + 1)=(0::(cutsR c l' 0).map (· + 1)).map (· + (w.length+1)):=by
        rw[List.map_cons,Nat.zero_add,List.map_map,List.map_map]
        congr 1
        refine List.map_congr_left fun i _=>?_
        show i+(w.length+1)+1=i+1+(w.length+1)
        omega
      have s2:(cutsR c l' 0).map (· + (w.length+1))++[(w++c::l').length]=(cutsR c l' 0++[l'.length]).map (· + (w.length+1)):=by
        rw[List.map_append,List.length_append,List.length_cons]
        congr 1
        show [w.length+(l'.length+1)]=[l'.length+(w.length+1)]
        congr 1
        omega
      rw[s1,s2,List.zipWith_map]
      congr 1
      funext i j
      rw[Nat.add_sub_add_right]
      have:(w++c::l').drop (i+(w.length+1))=l'.drop i:=by
        rw[show i+(w.length+1)=w.length+(1+i) by omega,← List.drop_drop,List.drop_left,Nat.add_comm 1 i,List.drop_succ_cons]
      rw[this]
theorem codes_join (c:Nat):∀ (ws:List Str) (acc:Array Nat),(ws.foldl (fun acc p=>acc++(⟨#[c]⟩:Str).cps++p.cps) acc).toList=acc.toList++((ws.map fun p=>p.cps.toList).map fun v=>c::v).flatten:=by
  intro ws
  induction ws with
  | nil=>intro acc;exact (List.append_nil _).symm
  | cons p r ih =>
    intro acc
    rw[List.foldl_cons,ih]
    simp
theorem join_codesC (c:Nat) (w:Str) (ws:List Str):(Txt.join ⟨#[c]⟩ (w::ws)).cps.toList=w.cps.toList++((ws.map fun p=>p.cps.toList).map fun v=>c::v).flatten:=codes_join c ws w.cps
theorem parts_codes (x:Str) (cuts:List Nat):(partsBetween x cuts 1).map (fun z=>z.cps.toList)=pbL x.cps.toList cuts:=by
  unfold partsBetween pbL
  rw[List.map_map,List.zip,List.map_zipWith]
  congr 1
  funext i j
  show (x.cps.extract i j).toList=_
  rw[Array.toList_extract]
  try exact List.extract_eq_drop_take
theorem codes_inj {a b:List Str} (h:a.map (fun z=>z.cps.toList)=b.map (fun z=>z.cps.toList)):a=b:=by
  induction a generalizing b with
  | nil =>
    cases b with
    | nil=>rfl
    | cons=>cases h
  | cons x r ih =>
    cases b with
    | nil=>cases h
    | cons y s =>
      have h1:=List.cons.inj h
      have e:x=y:=by
        obtain⟨x⟩:=x
        obtain⟨y⟩:=y
        exact congrArg Str.mk (Array.toList_inj.mp h1.1)
      rw[e,ih h1.2]
theorem split_join {c:Nat} {w:Str} {ws:List Str} (hk:strKind (⟨#[c]⟩:Str)=1) (hw:¬ c∈w.cps.toList) (h:∀ v∈ws,¬ c∈v.cps.toList) (ne:1≤(Txt.join ⟨#[c]⟩ (w::ws)).length) :
    Txt.split (Txt.join ⟨#[c]⟩ (w::ws)) ⟨#[c]⟩=w::ws∧partsBetween (Txt.join ⟨#[c]⟩ (w::ws)) (occurrences (Txt.join ⟨#[c]⟩ (w::ws)) ⟨#[c]⟩ 0 (Txt.join ⟨#[c]⟩ (w::ws)).length ((Txt.join ⟨#[c]⟩ (w::ws)).length+1)) 1=w::ws:=by
  have e0:partsBetween (Txt.join ⟨#[c]⟩ (w::ws)) (occurrences (Txt.join ⟨#[c]⟩ (w::ws)) ⟨#[c]⟩ 0 (Txt.join ⟨#[c]⟩ (w::ws)).length ((Txt.join ⟨#[c]⟩ (w::ws)).length+1)) 1=w::ws:=by
    apply codes_inj
    rw[parts_codes,occ_cuts,join_codesC]
    exact pb_words _ _ hw fun v hv=>by
      obtain⟨u,hu,rfl⟩:=List.mem_map.mp hv
      exact h u hu
  refine⟨?_,e0⟩
  unfold Txt.split
  have k1:1≤strKind (Txt.join ⟨#[c]⟩ (w::ws)):=by
    unfold Builtin.Str.strKind
    split
    · decide
    · split <;> decide
  have c1:(decide ((Txt.join ⟨#[c]⟩ (w::ws)).length<(⟨#[c]⟩:Str).length) || decide (strKind (Txt.join ⟨#[c]⟩ (w::ws))<strKind (⟨#[c]⟩:Str)))=false:=by
    rw[hk,Bool.or_eq_false_iff]
    exact⟨decide_eq_false (by show ¬ _<1;omega),decide_eq_false (by omega)⟩
  rw[if_neg (by rw[c1];exact Bool.false_ne_true)]
  split
  · rename_i he
    have hn:occurrences (Txt.join ⟨#[c]⟩ (w::ws)) ⟨#[c]⟩ 0 (Txt.join ⟨#[c]⟩ (w::ws)).length ((Txt.join ⟨#[c]⟩ (w::ws)).length+1)=[]:=List.isEmpty_iff.mp he
    rw[hn] at e0
    have e1:partsBetween (Txt.join ⟨#[c]⟩ (w::ws)) [] 1=[strSub (Txt.join ⟨#[c]⟩ (w::ws)) 0 (Txt.join ⟨#[c]⟩ (w::ws)).length]:=rfl
    refine Eq.trans ?_ (e1.symm.trans e0)
    have:(Txt.join ⟨#[c]⟩ (w::ws)).cps.extract 0 (Txt.join ⟨#[c]⟩ (w::ws)).length=(Txt.join ⟨#[c]⟩ (w::ws)).cps:=Array.extract_size
    show [_]=[(⟨_⟩:Str)]
    rw[this]
  · exact e0
end L2
namespace L2
open PySem PySem.Spec PyProof.Rows
theorem ps_tryG {X:Cx} {tb:TS} {body:List Stmt} {h₀:ExceptHandler} {hs:List ExceptHandler} {pos:Pos} (hb:∀ pn,PSs (X.tr pn fun _ _=>False) body tb):PS X (.Try body (h₀ :: hs) [] [] pos) tb:=by
  intro pins s σ H D I h
  have ok:=I.ok
  refine wpAny_Try_except (wpAny_mono (hb (X.pn++pins) [] s σ H D I.tr h) (fun f s1 q=>?_) fun e s1 q=>q.elim)
  cases f with
  | next =>
    obtain⟨σ',H',I',q⟩:=q
    exact wpAny_execs_nil ⟨σ',H',I'.ofTr ok,q⟩
  | brk=>obtain⟨σ',H',I',q⟩:=q;exact⟨σ',H',I'.ofTr ok,q⟩
  | cont=>obtain⟨σ',H',I',q⟩:=q;exact⟨σ',H',I'.ofTr ok,q⟩
  | ret u=>obtain⟨v,σ',H',I',r,q⟩:=q;exact⟨v,σ',H',I'.ofTr ok,r,q⟩
end L2
namespace Pg
open PySem PySem.NumText L2 Builtin Builtin.Str
theorem dv_dg (n:Nat):digitsVal (dg n)=n:=by
  induction n using Nat.strongRecOn with
  | ind n ih =>
    by_cases h:n<10
    · rw[dg_one h]
      show 0*10+(48+n - 48)=n
      omega
    · rw[dg_step (by omega),digitsVal_snoc,ih (n/10) (by omega)]
      omega
theorem dg_first {n:Nat} (h:n≠0):∃ c r,dg n=c::r∧c≠48:=by
  induction n using Nat.strongRecOn with
  | ind n ih =>
    by_cases h10:n<10
    · exact⟨48+n,[],dg_one h10,by omega⟩
    · obtain⟨c,r,e,ne⟩:=ih (n/10) (by omega) (by omega)
      exact⟨c,r++[48+n%10],by rw[dg_step (by omega),e];rfl,ne⟩
theorem fig_dg (n:Nat):figL (dg n)=true:=by
  have h:=dg_digits n
  have l:=dg_len_pos n
  unfold figL
  rw[Bool.and_eq_true]
  constructor
  · cases e:dg n with
    | nil=>rw[e] at l;exact absurd l (by decide)
    | cons=>rfl
  · rw[List.all_eq_true]
    intro c hc
    have:=h c hc
    unfold isF
    rw[decide_eq_true this.1,decide_eq_true this.2]
    rfl
theorem num_dg (n:Nat):numT0 (dg n)=true:=by
  unfold numT0
  rw[fig_dg,Bool.true_and]
  by_cases h:n=0
  · subst h
    rfl
  · obtain⟨c,r,e,ne⟩:=dg_first h
    rw[e]
    have:decide ((c::r).head? = some 48)=false:=decide_eq_false fun z=>ne (Option.some.inj z)
    rw[this]
    exact Bool.or_true _
theorem int_codes {i:Int} (h:0≤i):(toString i:Str).cps.toList=dg i.toNat:=by
  obtain⟨n,rfl⟩:=Int.eq_ofNat_of_zero_le h
  exact numS_codes n
theorem int_text {i:Int} (h:Amt i):intText? (toString i:Str)=some i:=by
  have e:=int_codes h.1
  have l:=amtT_len h
  rw[intText_digits (by rw[e];exact dg_digits _) (by rw[e];intro z;have:=dg_len_pos i.toNat;rw[z] at this;exact absurd this (by decide)) (by omega),e,dv_dg]
  congr 1
  have:=h.1
  omega
theorem prt_amt {i:Int} (h:Prt i):Amt i:=⟨h.1,by have:=h.2;omega⟩
theorem dg_no {c:Nat} (h:c<48∨57<c) (n:Nat):¬ c∈dg n:=fun m=>by
  have:=dg_digits n c m
  omega
theorem name_no {c:Nat} (h:c<97) {z:Str} (n:RName z):¬ c∈z.cps.toList:=fun m=>by
  have:=List.all_eq_true.mp n.ok.all c m
  unfold isL at this
  rw[Bool.and_eq_true] at this
  have:=of_decide_eq_true this.1
  omega
theorem way_no {w:Str} (h:Way w):¬ 32∈w.cps.toList:=by
  have h:=List.contains_iff_mem.mp h
  unfold wayL at h
  simp only[List.mem_cons,List.not_mem_nil,or_false] at h
  rcases h with rfl | rfl | rfl | rfl <;> decide +kernel
theorem int_no {c:Nat} (h:c<48∨57<c) {i:Int} (h0:0≤i):¬ c∈(toString i:Str).cps.toList:=by
  rw[int_codes h0]
  exact dg_no h _
theorem sp1:(" ":Str)=⟨#[32]⟩:=by decide +kernel
theorem co1:(":":Str)=⟨#[58]⟩:=by decide +kernel
theorem cm1:(",":Str)=⟨#[44]⟩:=by decide +kernel
theorem kind1 {c:Nat} (h:c<256):Builtin.Str.strKind (⟨#[c]⟩:Str)=1:=by
  unfold Builtin.Str.strKind
  rw[if_pos]
  simp[h]
noncomputable def wordsG:Rk→List Str
  | .bands n ps w=>[("bands":Str),n,bndT ps,w]
  | .ontop n p w r=>[("ontop":Str),n,(toString p:Str),w,("of":Str)]++wordsG r
  | .flat n a=>[("flat":Str),n,(toString a:Str)]
  | .share n p w=>[("share":Str),n,(toString p:Str),w]
  | .capped n p m w=>[("capped":Str),n,(toString p:Str),(toString m:Str),w]
  | .least n p l w=>[("least":Str),n,(toString p:Str),(toString l:Str),w]
theorem words_cons (r:Rk):∃ w ws,wordsG r=w::ws∧w.length ≥ 1:=by
  cases r <;> exact⟨_,_,rfl,by decide +kernel⟩
theorem join_app (c:Nat) (x y:Str) (xs ys:List Str):Txt.join ⟨#[c]⟩ (x::xs++[Txt.join ⟨#[c]⟩ (y::ys)])=Txt.join ⟨#[c]⟩ (x::xs++y::ys):=by
  apply str_eq
  rw[List.cons_append,List.cons_append,join_codesC,join_codesC,List.map_append,List.map_append,List.map_append,List.map_append,List.flatten_append,List.flatten_append,List.map_cons,List.map_nil,join_codesC]
  simp
theorem rowG_words (r:Rk):rowG r=Txt.join " " (wordsG r):=by
  induction r with
  | ontop n p w r ih =>
    obtain⟨v,vs,e,_⟩:=words_cons r
    show Txt.join " " [("ontop":Str),n,(toString p:Str),w,("of":Str),rowG r]=Txt.join " " ([("ontop":Str),n,(toString p:Str),w,("of":Str)]++wordsG r)
    rw[ih,e,sp1]
    exact join_app 32 ("ontop":Str) v [n,(toString p:Str),w,("of":Str)] vs
  | _=>rfl
theorem bandT_codes (q:Int × Int) (h0:0≤q.1) (h1:0≤q.2):(bandT q).cps.toList=dg q.1.toNat++(58::dg q.2.toNat):=by
  unfold bandT
  rw[app_codes,app_codes,int_codes h0,int_codes h1,List.append_assoc]
  rfl
theorem bandT_join (q:Int × Int):bandT q=Txt.join ⟨#[58]⟩ [(toString q.1:Str),(toString q.2:Str)]:=by
  apply str_eq
  rw[join_codesC]
  unfold bandT
  rw[app_codes,app_codes]
  simp
  rfl
theorem bnd_no {ps:List (Int × Int)} (ok:BdOk ps):¬ 32∈(bndT ps).cps.toList:=by
  obtain⟨p,r,e⟩:=ok.hd
  have hb:∀ q∈ps,¬ 32∈(bandT q).cps.toList:=fun q hq m=>by
    have h:=ok.ok q hq
    rw[bandT_codes q h.1.1 h.2.1] at m
    rcases List.mem_append.mp m with m | m
    · exact dg_no (.inl (by decide)) _ m
    · rcases List.mem_cons.mp m with m | m
      · exact absurd m (by decide)
      · exact dg_no (.inl (by decide)) _ m
  unfold bndT
  rw[e] at hb ⊢
  rw[List.map_cons,cm1,join_codesC]
  intro m
  rcases List.mem_append.mp m with m | m
  · exact hb _ List.mem_cons_self m
  · obtain⟨l,hl,m⟩:=List.mem_flatten.mp m
    obtain⟨v,hv,rfl⟩:=List.mem_map.mp hl
    obtain⟨u,hu,rfl⟩:=List.mem_map.mp hv
    obtain⟨q,hq,rfl⟩:=List.mem_map.mp hu
    rcases List.mem_cons.mp m with m | m
    · exact absurd m (by decide)
    · exact hb q (List.mem_cons_of_mem _ hq) m
theorem words_no {d:Nat} {r:Rk} (g:Gd d r):∀ z∈wordsG r,¬ 32∈z.cps.toList:=by
  have lit:∀ {z:Str},z.cps.toList.contains 32=false→¬ 32∈z.cps.toList:=fun h m=>by rw[List.contains_iff_mem.mpr m] at h;cases h
  have sp:∀ {z:Str},RName z→¬ 32∈z.cps.toList:=fun h=>name_no (by decide) h
  have pt:∀ {i:Int},Prt i→¬ 32∈(toString i:Str).cps.toList:=fun h=>int_no (.inl (by decide)) h.1
  have am:∀ {i:Int},Amt i→¬ 32∈(toString i:Str).cps.toList:=fun h=>int_no (.inl (by decide)) h.1
  induction g with
  | pln p =>
    intro z hz
    cases p with
    | flat hn ha =>
      simp only[wordsG,List.mem_cons,List.not_mem_nil,or_false] at hz
      rcases hz with rfl | rfl | rfl
      · exact lit (by decide +kernel)
      · exact sp hn
      · exact am ha
    | share hn hp hw =>
      simp only[wordsG,List.mem_cons,List.not_mem_nil,or_false] at hz
      rcases hz with rfl | rfl | rfl | rfl
      · exact lit (by decide +kernel)
      · exact sp hn
      · exact pt hp
      · exact way_no hw
    | capped hn hp ha hw =>
      simp only[wordsG,List.mem_cons,List.not_mem_nil,or_false] at hz
      rcases hz with rfl | rfl | rfl | rfl | rfl
      · exact lit (by decide +kernel)
      · exact sp hn
      · exact pt hp
      · exact am ha
      · exact way_no hw
    | least hn hp ha hw =>
      simp only[wordsG,List.mem_cons,List.not_mem_nil,or_false] at hz
      rcases hz with rfl | rfl | rfl | rfl | rfl
      · exact lit (by decide +kernel)
      · exact sp hn
      · exact pt hp
      · exact am ha
      · exact way_no hw
  | bands hn ok hw =>
    intro z hz
    simp only[wordsG,List.mem_cons,List.not_mem_nil,or_false] at hz
    rcases hz with rfl | rfl | rfl | rfl
    · exact lit (by decide +kernel)
    · exact sp hn
    · exact bnd_no ok
    · exact way_no hw
  | ontop hn hp hw _ ih =>
    intro z hz
    rcases List.mem_append.mp hz with hz | hz
    · simp only[List.mem_cons,List.not_mem_nil,or_false] at hz
      rcases hz with rfl | rfl | rfl | rfl | rfl
      · exact lit (by decide +kernel)
      · exact sp hn
      · exact pt hp
      · exact way_no hw
      · exact lit (by decide +kernel)
    · exact ih z hz
theorem words_len {d:Nat} {r:Rk} (g:Gd d r):(wordsG r).length≤5+5*d:=by
  induction g with
  | pln p=>cases p <;> (simp[wordsG] <;> try omega)
  | bands=>simp[wordsG] <;> try omega
  | ontop _ _ _ _ ih =>
    simp[wordsG] at ih ⊢
    omega
theorem row_split {d:Nat} {r:Rk} (g:Gd d r):Txt.split (rowG r) " " = wordsG r∧partsBetween (rowG r) (occurrences (rowG r) " " 0 (rowG r).length ((rowG r).length+1)) 1=wordsG r:=by
  obtain⟨w,ws,e,l⟩:=words_cons r
  have no:=words_no g
  rw[rowG_words,e,sp1]
  rw[e] at no
  refine split_join (kind1 (by decide)) (no w List.mem_cons_self) (fun v hv=>no v (List.mem_cons_of_mem _ hv)) ?_
  rw[len_codes,join_codesC,List.length_append,← len_codes]
  omega
theorem band_split (q:Int × Int) (h0:0≤q.1) (h1:0≤q.2):Txt.split (bandT q) ":" = [(toString q.1:Str),(toString q.2:Str)]∧partsBetween (bandT q) (occurrences (bandT q) ":" 0 (bandT q).length ((bandT q).length+1)) 1=[(toString q.1:Str),(toString q.2:Str)]:=by
  rw[bandT_join,co1]
  refine split_join (kind1 (by decide)) (int_no (.inr (by decide)) h0) (fun v hv=>?_) ?_
  · rw[List.mem_singleton.mp hv]
    exact int_no (.inr (by decide)) h1
  · rw[len_codes,join_codesC,List.length_append,int_codes h0]
    have:=dg_len_pos q.1.toNat
    omega
theorem bands_split {ps:List (Int × Int)} (ok:BdOk ps):Txt.split (bndT ps) "," = ps.map bandT∧partsBetween (bndT ps) (occurrences (bndT ps) "," 0 (bndT ps).length ((bndT ps).length+1)) 1=ps.map bandT:=by
  obtain⟨p,r,e⟩:=ok.hd
  have hb:∀ q∈ps,¬ 44∈(bandT q).cps.toList:=fun q hq m=>by
    have h:=ok.ok q hq
    rw[bandT_codes q h.1.1 h.2.1] at m
    rcases List.mem_append.mp m with m | m
    · exact dg_no (.inl (by decide)) _ m
    · rcases List.mem_cons.mp m with m | m
      · exact absurd m (by decide)
      · exact dg_no (.inl (by decide)) _ m
  have h0:=(ok.ok ((0:Int),p) (by rw[e];exact List.mem_cons_self))
  unfold bndT
  rw[e] at hb ⊢
  rw[List.map_cons,cm1]
  refine split_join (kind1 (by decide)) (hb _ List.mem_cons_self) (fun v hv=>?_) ?_
  · obtain⟨q,hq,rfl⟩:=List.mem_map.mp hv
    exact hb q (List.mem_cons_of_mem _ hq)
  · rw[len_codes,join_codesC,List.length_append,bandT_codes _ h0.1.1 h0.2.1,List.length_append,List.length_cons]
    omega
noncomputable def rSplit:V→List V→Hp→VK→Prop:=fun x vs H Q=>∃ z y,x = .str z∧vs=[.str y]∧(y.length==0)=false∧z.length≤sizeLine∧(partsBetween z (occurrences z y 0 z.length (z.length+1)) y.length).length≤sizeLine∧New H (.lst ((Txt.split z y).map V.str)) Q
noncomputable def sp_readN:Sp:=fun vs H Q _=>∃ i,vs=[.str (toString i),.int 13]∧Amt i∧∀ H',Same H H'→Q (.int i) H'
noncomputable def sp_numOf:Sp:=fun vs H Q _=>∃ i,vs=[.str (toString i)]∧Amt i∧∀ H',Same H H'→Q (.int i) H'
noncomputable def sp_bandOf:Sp:=fun vs H Q _=>∃ q,vs=[.str (bandT q)]∧Amt q.1∧Prt q.2∧∀ t H',Same H H'→H t=none→H' t=some (.tup (cB q))→Q (.ref t) H'
noncomputable def sp_bandsOf:Sp:=fun vs H Q _=>∃ ps,vs=[.str (bndT ps)]∧BdOk ps∧∀ u H',Same H H'→BdsAt H' u ps→Q (.ref u) H'
noncomputable def sp_plainW (K:PySem.W.Frag) (Cs:Nat→Addr):Sp:=fun vs H Q _=>∃ l r,vs=[.ref l]∧SqL K H l ((wordsG r).map V.str)∧Gd 0 r∧∀ o H',Same H H'→RoG Cs H' r o→Q o H'
noncomputable def sp_isOn (K:PySem.W.Frag):Sp:=fun vs H Q _=>∃ l r d,vs=[.ref l]∧SqL K H l ((wordsG r).map V.str)∧Gd d r∧Q (.bl (decide (r.kd=5))) H
noncomputable def sp_ruleW (K:PySem.W.Frag) (Cs:Nat→Addr):Nat→Sp
  | 0=>fun _ _ _ _=>False
  | d+1=>fun vs H Q _=>∃ l r dp,vs=[.ref l,.int dp]∧SqL K H l ((wordsG r).map V.str)∧Gd d r∧0≤dp∧dp+d≤3∧∀ o H',Same H H'→RoG Cs H' r o→Q o H'
noncomputable def sp_ruleOf (Cs:Nat→Addr):Sp:=fun vs H Q _=>∃ r,vs=[.str (rowG r)]∧Gd 3 r∧∀ o H',Same H H'→RoG Cs H' r o→Q o H'
end Pg
namespace Pg
open PySem L2
theorem txt_items {H:Hp} (ps:List (Int × Int)):ItemsAt H ((ps.map bandT).map V.str) ps (fun _ v q=>v = .str (bandT q)):=by
  refine⟨by rw[List.length_map,List.length_map],fun i y e=>?_⟩
  rw[List.getElem?_map,List.getElem?_map] at e
  cases h:ps[i]? with
  | none=>rw[h] at e;cases e
  | some q =>
    rw[h] at e
    cases e
    exact⟨q,rfl,fun _ _=>rfl⟩
theorem words_head {d:Nat} {r:Rk} (g:Gd d r) (k:r.kd≠5):∃ z ws,(wordsG r).map V.str = .str z::ws∧z≠"ontop":=by
  cases g with
  | pln p=>cases p <;> exact⟨_,_,rfl,by decide +kernel⟩
  | bands=>exact⟨_,_,rfl,by decide +kernel⟩
  | ontop=>exact absurd rfl k
theorem gd_zero {d:Nat} {r:Rk} (g:Gd d r) (k:r.kd≠5):Gd 0 r:=by
  cases g with
  | pln p=>exact .pln p
  | bands h1 h2 h3=>exact .bands h1 h2 h3
  | ontop=>exact absurd rfl k
theorem cut_five (n w:Str) (p:Int) (r:Rk):cutV ((wordsG (.ontop n p w r)).map V.str) (some 5) none=(wordsG r).map V.str:=by
  have e0:(wordsG (.ontop n p w r)).map V.str=[V.str "ontop",.str n,.str (toString p),.str w,.str "of"]++(wordsG r).map V.str:=by
    show (([("ontop":Str),n,(toString p:Str),w,("of":Str)]++wordsG r).map V.str)=_
    rw[List.map_append]
    rfl
  unfold cutV
  rw[e0,show (5:Int)=((5:Nat):Int) from rfl,HT.sIx_nat,HT.sIx_none,List.length_append]
  have l5:([V.str "ontop",.str n,.str (toString p),.str w,.str "of"]:List V).length=5:=rfl
  rw[l5,Nat.min_eq_left (Nat.le_add_right _ _)]
  show List.take (5+((wordsG r).map V.str).length - 5) ((wordsG r).map V.str)=_
  rw[Nat.add_sub_cancel_left,List.take_length]
end Pg
namespace K13
open PySem PySem.NumText L2 Pg
seal PE PA PT PW PS PSs PG PGs PI PIf PO PK
section
variable {P:Program} {w:World} {K:PySem.W.Frag} {mg:Str→Option Value} {base:Heap} {f:Addr} {fd:FuncData} {d:Nat→Addr} {cR:Addr}
theorem ok_readN (F:Fun K "read_number" "read_number" (top 31) f fd) (G:Glb mg) (C1:Cal P w K mg base CX0 2 "is_number_text" ["text"] sp_numT):FnOk P w K mg base CX0 3 f fd ["text","most_figures"] sp_readN:=by
  refine F.ok (N:=["text","most_figures"]) ⟨rfl,rfl,rfl,by decide +kernel,rfl,by decide +kernel,by decide +kernel⟩ (fun vs H Q E h=>?_) (fun cdv A outer s H vs Q E hr h=>?_)
  · obtain⟨i,rfl,_⟩:=h
    rfl
  · obtain⟨i,rfl,ha,q⟩:=h
    have l:=amtT_len ha
    refine⟨_,pss_cons (ps_if (PW.pt (pw_or (pt_cmpR op_gt (pe_callB call_len_str rfl G.len boot_len (pa_cons (pv 0) pa_nil)) (pv 1) (nomark _)) (pw_or1 (pt_not (pt_val (pe_cal C1 hr (by decide) pass0 (pa_cons (pv 0) pa_nil))))))) pss_never pss_nil) (pss_one (ps_ret (pe_callTy call_int_text rfl G.int boot_int (pa_cons (pv 0) pa_nil)))),?_⟩
    refine⟨_,rfl,_,rfl,by rw[sizeLine_eq];omega,_,rfl,_,_,rfl,rfl,_,rfl,ite2 (fun e=>?_) (fun _=>?_)⟩
    · have:=of_decide_eq_true e
      omega
    refine⟨_,rfl,_,rfl,by omega,fun H1 s1=>?_⟩
    rw[int_codes ha.1,num_dg]
    exact⟨true,rfl,iteF ⟨_,rfl,_,i,rfl,int_text ha,by omega,q H1 s1⟩⟩
theorem ok_numOf (F:Fun K "number_of" "number_of" (top 59) f fd) (N1:Num mg "MOST_FIGURES" 13) (C1:Cal P w K mg base CX0 3 "read_number" ["text","most_figures"] sp_readN):FnOk P w K mg base CX0 4 f fd ["word"] sp_numOf:=by
  obtain⟨tk,em⟩:=N1
  refine F.ok (N:=["word"]) ⟨rfl,rfl,rfl,by decide +kernel,rfl,by decide +kernel,by decide +kernel⟩ (fun vs H Q E h=>?_) (fun cdv A outer s H vs Q E hr h=>?_)
  · obtain⟨i,rfl,_⟩:=h
    rfl
  · obtain⟨i,rfl,ha,q⟩:=h
    exact⟨_,pss_one (ps_ret (pe_cal C1 hr (by decide) pass0 (pa_cons (pv 0) (pa_cons (pe_glob (v:=.int 13) rfl em ⟨tk,rfl⟩) pa_nil)))),_,rfl,i,rfl,ha,q⟩
theorem ok_bandOf (F:Fun K "band_of" "band_of" (top 60) f fd) (G:Glb mg) (C1:Cal P w K mg base CX0 4 "number_of" ["word"] sp_numOf):FnOk P w K mg base CX0 5 f fd ["text"] sp_bandOf:=by
  have nd:(["text","ends"]:List Str).Nodup:=by decide +kernel
  refine F.ok (N:=["text","ends"]) ⟨rfl,rfl,rfl,by decide +kernel,rfl,by decide +kernel,by decide +kernel⟩ (fun vs H Q E h=>?_) (fun cdv A outer s H vs Q E hr h=>?_)
  · obtain⟨q,rfl,_⟩:=h
    rfl
  · obtain⟨b,rfl,ha,hp,q⟩:=h
    obtain⟨e1,e2⟩:=band_split b ha.1 hp.1
    have bl:=bandT_len ha hp
    refine⟨_,pss_cons (ps_set (i:=1) nd rfl (Or.inl rfl) (pe_bm PySem.F.plainAttrs_str PySem.F.slot_str_split PySem.F.type_str_split mt_split (pv 0) (pa_cons pe_str pa_nil))) (pss_cons (ps_if (pt_cmpR op_ne (pe_callB call_len_seq rfl G.len boot_len (pa_cons (pv 1) pa_nil)) pe_int (nomark _)) pss_never pss_nil)
      (pss_one (ps_ret (pe_tupS (pa_cons (pe_cal C1 hr (by decide) pass0 (pa_cons (pe_at ix_list (pv 1) pe_int) pa_nil)) (pa_cons (pe_cal C1 hr (by decide) pass0 (pa_cons (pe_at ix_list (pv 1) pe_int) pa_nil)) pa_nil)))))),?_⟩
    refine⟨_,rfl,rfl,_,_,rfl,rfl,rfl,by rw[sizeLine_eq];omega,?_,?_⟩
    · have e3:((":":Str)).length=1:=by decide +kernel
      rw[e3,e2,sizeLine_eq]
      show 2≤_
      omega
    rw[e1]
    refine fun l H1 s1 n1 g1=>⟨_,rfl,l,_,rfl,.inl (SqL.of g1),rfl,_,rfl,iteF ?_⟩
    refine⟨_,rfl,l,_,_,_,rfl,rfl,SqL.of g1,rfl,_,rfl,ha,fun H2 s2=>⟨_,rfl,l,_,_,_,rfl,rfl,SqL.of (s2 _ _ g1),rfl,_,rfl,prt_amt hp,fun H3 s3=>⟨lenOk rfl,fun t H4 s4 n4 e4=>q t H4 (s1.trans (s2.trans (s3.trans s4))) (was_none (s1.trans (s2.trans s3)) n4) e4⟩⟩⟩
theorem ok_bandsOf (F:Fun K "bands_of" "bands_of" (top 61) f fd) (G:Glb mg) (C1:Cal P w K mg base CX0 5 "band_of" ["text"] sp_bandOf):FnOk P w K mg base CX0 6 f fd ["word"] sp_bandsOf:=by
  have nc:(["text"]:List Str).Nodup:=by decide +kernel
  refine F.ok (N:=["word"]) ⟨rfl,rfl,rfl,by decide +kernel,rfl,by decide +kernel,by decide +kernel⟩ (fun vs H Q E h=>?_) (fun cdv A outer s H vs Q E hr h=>?_)
  · obtain⟨q,rfl,_⟩:=h
    rfl
  · obtain⟨ps,rfl,ok,q⟩:=h
    obtain⟨e1,e2⟩:=bands_split ok
    have bl:=(bands_join ok).2
    have few:=ok.few
    refine' ⟨_,pss_one (ps_ret (pe_callTy call_tuple_of rfl G.tuple boot_tuple (pa_cons ?comp pa_nil))),?main⟩
    case comp =>
      refine' pe_compI (Nc:=["text"]) (cl:=[]) (src:=[none]) (g:=gName 0) (tt:=tNoIf) (te:=fun σ H Q=>tCons (tVar 0) tNil σ H fun vs H1=>sp_bandOf vs H1 Q E0)
        ⟨rfl,rfl,by decide +kernel,by decide +kernel,(fun x c z=>nomatch z),has_of (by rfl),frm_none frm_nil,rfl⟩ rfl (pi_list (pe_bm PySem.F.plainAttrs_str PySem.F.slot_str_split PySem.F.type_str_split mt_split (pv 0) (pa_cons pe_str pa_nil))) ?hb
      case hb =>
        intro fp C' s' H'
        exact⟨pg_name (i:=0) nc rfl (Or.inl rfl),pif_nil,pe_cal C1 hr (by decide) pass0 (pa_cons (pv 0) pa_nil)⟩
    refine⟨_,rfl,rfl,_,_,rfl,rfl,rfl,by rw[sizeLine_eq];omega,?_,?_⟩
    · have e3:((",":Str)).length=1:=by decide +kernel
      rw[e3,e2,List.length_map,sizeLine_eq]
      omega
    rw[e1]
    refine fun l H1 s1 n1 g1=>⟨l,rfl,⟨_,SqL.of g1⟩,fun D hD=>comp_newN (walk_list (SqL.of g1)) (txt_items ps) hD (by rw[sizeLine_eq];omega) cB (fun p hp v H2 R s2 e3 r=>?_) (fun zs H2 s2 e3 T=>?_)⟩
    · subst e3
      exact⟨_,rfl,p,rfl,(ok.ok p hp).1,(ok.ok p hp).2,r⟩
    · refine⟨D,zs,rfl,.inl ⟨SqL.of e3,fun u u0=>?_⟩⟩
      have su:Same H2 (upd H2 u (.tup zs)):=Same.upd u0
      exact q u _ (s1.trans (s2.trans su)) ⟨zs,upd_same,T.same su⟩
theorem ok_isOn (F:Fun K "is_ontop" "is_ontop" (top 63) f fd) (G:Glb mg):FnOk P w K mg base CX0 1 f fd ["words"] (sp_isOn K):=by
  refine F.ok (N:=["words"]) ⟨rfl,rfl,rfl,by decide +kernel,rfl,by decide +kernel,by decide +kernel⟩ (fun vs H Q E h=>?_) (fun cdv A outer s H vs Q E hr h=>?_)
  · obtain⟨l,r,d,rfl,_⟩:=h
    rfl
  · obtain⟨l,r,d,rfl,hl,gd,q⟩:=h
    refine⟨_,pss_one (ps_ret (pe_and (pe_cmpR op_eq (pe_at ix_list (pv 0) pe_int) pe_str (nomark _)) (pe_and (pe_cmpR op_gt (pe_callB call_len_seq rfl G.len boot_len (pa_cons (pv 0) pa_nil)) pe_int (nomark _)) (pe_one (pe_cmpR op_eq (pe_at ix_list (pv 0) pe_int) pe_str (nomark _)))))),?_⟩
    by_cases k5:r.kd=5
    · obtain⟨d',n,p,x,r',ed,rfl,_⟩:=no5 gd k5
      obtain⟨w',ws,ew,_⟩:=words_cons r'
      have e0:(wordsG (.ontop n p x r')).map V.str = .str "ontop" :: .str n :: .str (toString p) :: .str x :: .str "of" :: .str w'::ws.map V.str:=by
        show (([("ontop":Str),n,(toString p:Str),x,("of":Str)]++wordsG r').map V.str)=_
        rw[ew]
        rfl
      rw[e0] at hl
      rw[decide_eq_true k5] at q
      refine⟨_,rfl,l,_,_,_,rfl,rfl,hl,at_first rfl,rfl,true,by rw[decide_eq_true rfl],iteT ⟨_,rfl,l,_,rfl,.inl hl,_,_,rfl,rfl,true,?_,iteT ⟨_,rfl,l,_,_,_,rfl,rfl,hl,atI_nat (j:=4) rfl,rfl,?_⟩⟩⟩
      · exact congrArg V.bl (decide_eq_true (show (5:Int)<((V.str "ontop" :: .str n :: .str (toString p) :: .str x :: .str "of" :: .str w'::ws.map V.str:List V).length:Nat) by simp only[List.length_cons];omega))
      · rw[decide_eq_true rfl]
        exact q
    · obtain⟨z,ws,ew,zn⟩:=words_head gd k5
      rw[ew] at hl
      rw[decide_eq_false k5] at q
      refine⟨_,rfl,l,_,_,_,rfl,rfl,hl,at_first rfl,rfl,false,?_,iteF q⟩
      congr 1
      exact decide_eq_false fun e=>zn (V.str.inj e)
set_option maxHeartbeats 4000000 in
theorem ok_plainW {Cs:Nat→Addr} (F:Fun K "plain_rule" "plain_rule" (top 62) f fd) (G:Glb mg) (C1:Cal P w K mg base CX0 4 "number_of" ["word"] sp_numOf) (C2:Cal P w K mg base CX0 6 "bands_of" ["word"] sp_bandsOf) (N0:CalN P w K mg base CX0 5 "Flat" (Cs 0) ["self","name","amount"] (sp_kinit 0 Cs)) (N1:CalN P w K mg base CX0 5 "Share" (Cs 1) ["self","name","parts","way"] (sp_kinit 1 Cs)) (N2:CalN P w K mg base CX0 5 "Capped" (Cs 2) ["self","name","parts","most","way"] (sp_kinit 2 Cs)) (N3:CalN P w K mg base CX0 5 "Least" (Cs 3) ["self","name","parts","least","way"] (sp_kinit 3 Cs))
    (N4:CalN P w K mg base CX0 6 "Bands" (Cs 4) ["self","name","rows","way"] (sp_binit (Cs 4))):FnOk P w K mg base CX0 8 f fd ["words"] (sp_plainW K Cs):=by
  refine F.ok (N:=["words"]) ⟨rfl,rfl,rfl,by decide +kernel,rfl,by decide +kernel,by decide +kernel⟩ (fun vs H Q E h=>?_) (fun cdv A outer s H vs Q E hr h=>?_)
  · obtain⟨l,r,rfl,_⟩:=h
    rfl
  · obtain⟨l,r,rfl,hl,gd,q⟩:=h
    have hr6:Room (5+1) (A.deeper _):=hr.mono (by decide)
    refine⟨_,(pss_cons (ps_if (PW.pt (pw_and (pt_cmpR op_eq (pe_at ix_list (pv 0) pe_int) pe_str (nomark _)) (pw_and1 (pt_cmpR op_eq (pe_callB call_len_seq rfl G.len boot_len (pa_cons (pv 0) pa_nil)) pe_int (nomark _))))) (pss_one (ps_ret (pe_calN (j:=5) N0 hr6 (by decide) pass0 (pa_cons (pe_at ix_list (pv 0) pe_int) (pa_cons (pe_cal C1 hr (by decide) pass0 (pa_cons (pe_at ix_list (pv 0) pe_int) pa_nil)) pa_nil))))) pss_nil)
        (pss_cons (ps_if (PW.pt (pw_and (pt_cmpR op_eq (pe_at ix_list (pv 0) pe_int) pe_str (nomark _)) (pw_and1 (pt_cmpR op_eq (pe_callB call_len_seq rfl G.len boot_len (pa_cons (pv 0) pa_nil)) pe_int (nomark _))))) (pss_one (ps_ret (pe_calN (j:=5) N1 hr6 (by decide) pass0 (pa_cons (pe_at ix_list (pv 0) pe_int) (pa_cons (pe_cal C1 hr (by decide) pass0 (pa_cons (pe_at ix_list (pv 0) pe_int) pa_nil)) (pa_cons (pe_at ix_list (pv 0) pe_int) pa_nil)))))) pss_nil)
        (pss_cons (ps_if (PW.pt (pw_and (pt_cmpR op_eq (pe_at ix_list (pv 0) pe_int) pe_str (nomark _)) (pw_and1 (pt_cmpR op_eq (pe_callB call_len_seq rfl G.len boot_len (pa_cons (pv 0) pa_nil)) pe_int (nomark _))))) (pss_one (ps_ret (pe_calN (j:=5) N2 hr6 (by decide) pass0 (pa_cons (pe_at ix_list (pv 0) pe_int) (pa_cons (pe_cal C1 hr (by decide) pass0 (pa_cons (pe_at ix_list (pv 0) pe_int) pa_nil)) (pa_cons (pe_cal C1 hr (by decide) pass0 (pa_cons (pe_at ix_list (pv 0) pe_int) pa_nil)) (pa_cons (pe_at ix_list (pv 0) pe_int) pa_nil))))))) pss_nil)
        (pss_cons (ps_if (PW.pt (pw_and (pt_cmpR op_eq (pe_at ix_list (pv 0) pe_int) pe_str (nomark _)) (pw_and1 (pt_cmpR op_eq (pe_callB call_len_seq rfl G.len boot_len (pa_cons (pv 0) pa_nil)) pe_int (nomark _))))) (pss_one (ps_ret (pe_calN (j:=5) N3 hr6 (by decide) pass0 (pa_cons (pe_at ix_list (pv 0) pe_int) (pa_cons (pe_cal C1 hr (by decide) pass0 (pa_cons (pe_at ix_list (pv 0) pe_int) pa_nil)) (pa_cons (pe_cal C1 hr (by decide) pass0 (pa_cons (pe_at ix_list (pv 0) pe_int) pa_nil)) (pa_cons (pe_at ix_list (pv 0) pe_int) pa_nil))))))) pss_nil)
        (pss_cons (ps_if (PW.pt (pw_and (pt_cmpR op_eq (pe_at ix_list (pv 0) pe_int) pe_str (nomark _)) (pw_and1 (pt_cmpR op_eq (pe_callB call_len_seq rfl G.len boot_len (pa_cons (pv 0) pa_nil)) pe_int (nomark _))))) (pss_one (ps_ret (pe_calN (j:=6) N4 hr (by decide) pass0 (pa_cons (pe_at ix_list (pv 0) pe_int) (pa_cons (pe_cal C2 hr (by decide) pass0 (pa_cons (pe_at ix_list (pv 0) pe_int) pa_nil)) (pa_cons (pe_at ix_list (pv 0) pe_int) pa_nil)))))) pss_nil)
        pss_never))))),?_⟩
    cases gd with
    | pln pl =>
      have pl0:=pl
      cases pl with
      | @flat n a hn ha =>
        exact⟨_,rfl,l,_,_,_,rfl,rfl,hl,rfl,rfl,_,rfl,iteSt ⟨_,rfl,l,_,rfl,.inl hl,rfl,true,rfl,iteT ⟨_,rfl,l,_,_,_,rfl,rfl,hl,rfl,_,rfl,l,_,_,_,rfl,rfl,hl,rfl,_,rfl,ha,fun H1 s1=>fun o dx o0 d0 ne=>⟨o,dx,.flat n a,rfl,rfl,pl0,upd_same,fun H' fr e=>⟨rfl,q _ H' (s1.trans (made_same o0 d0 fr)) (.pln (Nat.le_of_ble_eq_true rfl) ⟨o,dx,rfl,e⟩)⟩⟩⟩⟩⟩
      | @share n p x hn hp hw =>
        exact⟨_,rfl,l,_,_,_,rfl,rfl,hl,rfl,rfl,_,rfl,iteSf n_fs ⟨_,rfl,l,_,_,_,rfl,rfl,hl,rfl,rfl,_,rfl,iteSt ⟨_,rfl,l,_,rfl,.inl hl,rfl,true,rfl,iteT ⟨_,rfl,l,_,_,_,rfl,rfl,hl,rfl,_,rfl,l,_,_,_,rfl,rfl,hl,rfl,_,rfl,prt_amt hp,fun H1 s1=>⟨_,rfl,l,_,_,_,rfl,rfl,s1.seq hl,rfl,fun o dx o0 d0 ne=>⟨o,dx,.share n p x,rfl,rfl,pl0,upd_same,fun H' fr e=>⟨rfl,q _ H' (s1.trans (made_same o0 d0 fr)) (.pln (Nat.le_of_ble_eq_true rfl) ⟨o,dx,rfl,e⟩)⟩⟩⟩⟩⟩⟩⟩
      | @capped n p m x hn hp ha hw =>
        exact⟨_,rfl,l,_,_,_,rfl,rfl,hl,rfl,rfl,_,rfl,iteSf n_cf ⟨_,rfl,l,_,_,_,rfl,rfl,hl,rfl,rfl,_,rfl,iteSf n_cs ⟨_,rfl,l,_,_,_,rfl,rfl,hl,rfl,rfl,_,rfl,iteSt ⟨_,rfl,l,_,rfl,.inl hl,rfl,true,rfl,iteT ⟨_,rfl,l,_,_,_,rfl,rfl,hl,rfl,_,rfl,l,_,_,_,rfl,rfl,hl,rfl,_,rfl,prt_amt hp,fun H1 s1=>⟨_,rfl,l,_,_,_,rfl,rfl,s1.seq hl,rfl,_,rfl,ha,fun H2 s2=>⟨_,rfl,l,_,_,_,rfl,rfl,(s1.trans s2).seq hl,rfl,fun o dx o0 d0 ne=>⟨o,dx,.capped n p m x,rfl,rfl,pl0,upd_same,fun H' fr e=>⟨rfl,q _ H' ((s1.trans s2).trans (made_same o0 d0 fr)) (.pln (Nat.le_of_ble_eq_true rfl) ⟨o,dx,rfl,e⟩)⟩⟩⟩⟩⟩⟩⟩⟩⟩
      | @least n p m x hn hp ha hw =>
        exact⟨_,rfl,l,_,_,_,rfl,rfl,hl,rfl,rfl,_,rfl,iteSf n_lf ⟨_,rfl,l,_,_,_,rfl,rfl,hl,rfl,rfl,_,rfl,iteSf n_ls ⟨_,rfl,l,_,_,_,rfl,rfl,hl,rfl,rfl,_,rfl,iteSf n_lc ⟨_,rfl,l,_,_,_,rfl,rfl,hl,rfl,rfl,_,rfl,iteSt ⟨_,rfl,l,_,rfl,.inl hl,rfl,true,rfl,iteT ⟨_,rfl,l,_,_,_,rfl,rfl,hl,rfl,_,rfl,l,_,_,_,rfl,rfl,hl,rfl,_,rfl,prt_amt hp,fun H1 s1=>⟨_,rfl,l,_,_,_,rfl,rfl,s1.seq hl,rfl,_,rfl,ha,fun H2 s2=>⟨_,rfl,l,_,_,_,rfl,rfl,(s1.trans s2).seq hl,rfl,fun o dx o0 d0 ne=>⟨o,dx,.least n p m x,rfl,rfl,pl0,upd_same,fun H' fr e=>⟨rfl,q _ H' ((s1.trans s2).trans (made_same o0 d0 fr)) (.pln (Nat.le_of_ble_eq_true rfl) ⟨o,dx,rfl,e⟩)⟩⟩⟩⟩⟩⟩⟩⟩⟩⟩
    | @bands _ n x ps hn ok hw =>
      refine⟨_,rfl,l,_,_,_,rfl,rfl,hl,rfl,rfl,_,rfl,iteSf n_bf ⟨_,rfl,l,_,_,_,rfl,rfl,hl,rfl,rfl,_,rfl,iteSf n_bs ⟨_,rfl,l,_,_,_,rfl,rfl,hl,rfl,rfl,_,rfl,iteSf n_bc ⟨_,rfl,l,_,_,_,rfl,rfl,hl,rfl,rfl,_,rfl,iteSf n_bl ⟨_,rfl,l,_,_,_,rfl,rfl,hl,rfl,rfl,_,rfl,iteSt ⟨_,rfl,l,_,rfl,.inl hl,rfl,true,rfl,iteT ?_⟩⟩⟩⟩⟩⟩
      exact⟨_,rfl,l,_,_,_,rfl,rfl,hl,rfl,_,rfl,l,_,_,_,rfl,rfl,hl,rfl,ps,rfl,ok,fun u H1 s1 bd=>⟨_,rfl,l,_,_,_,rfl,rfl,s1.seq hl,rfl,fun o dx o0 dx0 ne=>⟨o,dx,n,u,ps,x,rfl,hn,ok,hw,bd.same (Same.made o0 dx0),upd_same,fun H' u' fr ho' bd'=>⟨rfl,q _ H' (s1.trans (made_same o0 dx0 fr)) (.bands ho' bd')⟩⟩⟩⟩
theorem ok_ruleW0 {Cs:Nat→Addr} {j:Nat}:FnOk P w K mg base CX0 j f fd ["words","depth"] (sp_ruleW K Cs 0):=⟨fun _ _ _ _ h=>h.elim,fun _ _ _ _ _ _ _ _ _ _ _ _ _ h=>h.elim⟩
theorem ok_ruleW {Cs:Nat→Addr} {d j:Nat} (hj:17≤j) (F:Fun K "rule_of_words" "rule_of_words" (top 64) f fd) (N1:Num mg "MOST_DEPTH" 3) (C1:Cal P w K mg base CX0 1 "is_ontop" ["words"] (sp_isOn K)) (C2:Cal P w K mg base CX0 8 "plain_rule" ["words"] (sp_plainW K Cs)) (C3:Cal P w K mg base CX0 4 "number_of" ["word"] sp_numOf) (C4:Cal P w K mg base CX0 j "rule_of_words" ["words","depth"] (sp_ruleW K Cs d)) (N5:CalN P w K mg base CX0 16 "OnTop" (Cs 5) ["self","name","parts","way","rule"] (sp_oinit 2 Cs)):FnOk P w K mg base CX0 (j+1) f fd ["words","depth"] (sp_ruleW K Cs (d+1)):=by
  obtain⟨tk,em⟩:=N1
  have nd:(["words","depth","within"]:List Str).Nodup:=by decide +kernel
  refine F.ok (N:=["words","depth","within"]) ⟨rfl,rfl,rfl,by decide +kernel,rfl,by decide +kernel,by decide +kernel⟩ (fun vs H Q E h=>?_) (fun cdv A outer s H vs Q E hr h=>?_)
  · obtain⟨l,r,dp,rfl,_⟩:=h
    rfl
  · obtain⟨l,r,dp,rfl,hl,gd,d0,d3,q⟩:=h
    have hr17:Room (16+1) (A.deeper _):=hr.mono hj
    refine⟨_,(pss_cons (ps_if (pt_not (pt_val (pe_cal C1 hr (by omega) pass0 (pa_cons (pv 0) pa_nil)))) (pss_one (ps_ret (pe_cal C2 hr (by omega) pass0 (pa_cons (pv 0) pa_nil)))) pss_nil)
        (pss_cons (ps_if (pt_cmpR op_eq (pv 1) (pe_glob (v:=.int 3) rfl em ⟨tk,rfl⟩) (nomark _)) pss_never pss_nil)
        (pss_cons (ps_set (i:=2) nd rfl (Or.inl rfl) (pe_cal C4 hr (Nat.le_refl _) pass0 (pa_cons (pe_slice sl_list (pv 0) (po_some pe_int) po_none) (pa_cons (pe_op op_add (pv 1) pe_int) pa_nil))))
        (pss_one (ps_ret (pe_calN (j:=16) N5 hr17 (by decide) pass0 (pa_cons (pe_at ix_list (pv 0) pe_int) (pa_cons (pe_cal C3 hr (by omega) pass0 (pa_cons (pe_at ix_list (pv 0) pe_int) pa_nil)) (pa_cons (pe_at ix_list (pv 0) pe_int) (pa_cons (pv 2) pa_nil)))))))))),?_⟩
    refine⟨_,rfl,l,r,d,rfl,hl,gd,?_⟩
    by_cases k5:r.kd=5
    · rw[decide_eq_true k5]
      refine⟨true,rfl,iteF ⟨_,rfl,rfl,_,rfl,ite2 (fun e=>?_) (fun _=>?_)⟩⟩
      · rw[dInt] at e
        obtain⟨d',n,p,x,r',ed,_⟩:=no5 gd k5
        omega
      obtain⟨d',n,p,x,r',rfl,rfl,hn,hp,hw,g'⟩:=no5 gd k5
      refine⟨_,rfl,_,rfl,l,_,rfl,hl,fun t t0=>?_⟩
      have s1:Same H (upd H t (.lst (cutV ((wordsG (.ontop n p x r')).map V.str) (some 5) none))):=Same.upd t0
      have e1:(upd H t (.lst (cutV ((wordsG (.ontop n p x r')).map V.str) (some 5) none))) t=some (.lst ((wordsG r').map V.str)):=by rw[upd_same,cut_five]
      generalize upd H t (.lst (cutV ((wordsG (.ontop n p x r')).map V.str) (some 5) none))=H1 at s1 e1
      refine⟨_,rfl,_,_,rfl,rfl,t,r',_,rfl,SqL.of e1,g',by show 0≤dp+1;omega,by show dp+1+d'≤3;omega,fun u H2 s2 ru=>?_⟩
      have S2:=s1.trans s2
      have hl2:=S2.seq hl
      refine⟨_,rfl,l,_,_,_,rfl,rfl,hl2,atI_nat (j:=1) rfl,_,rfl,l,_,_,_,rfl,rfl,hl2,atI_nat (j:=2) rfl,_,rfl,prt_amt hp,fun H3 s3=>⟨_,rfl,l,_,_,_,rfl,rfl,s3.seq hl2,atI_nat (j:=3) rfl,_,rfl,fun o dx o0 dx0 ne=>⟨o,dx,n,p,x,u,r',rfl,hn,hp,hw,(ru.same s3).same (Same.made o0 dx0),g'.le (by omega),upd_same,fun H' u' fr ho' ri'=>⟨rfl,q _ H' (S2.trans (s3.trans (made_same o0 dx0 fr))) (.ontop ho' ri')⟩⟩⟩⟩
    · rw[decide_eq_false k5]
      exact⟨false,rfl,iteT ⟨_,rfl,l,r,rfl,hl,gd_zero gd k5,q⟩⟩
theorem ok_ruleOf {Cs:Nat→Addr} {j:Nat} (F:Fun K "rule_of" "rule_of" (top 65) f fd) (G:Glb mg) (C1:Cal P w K mg base CX0 j "rule_of_words" ["words","depth"] (sp_ruleW K Cs 4)):FnOk P w K mg base CX0 (j+1) f fd ["text"] (sp_ruleOf Cs):=by
  refine F.ok (N:=["text"]) ⟨rfl,rfl,rfl,by decide +kernel,rfl,by decide +kernel,by decide +kernel⟩ (fun vs H Q E h=>?_) (fun cdv A outer s H vs Q E hr h=>?_)
  · obtain⟨r,rfl,_⟩:=h
    rfl
  · obtain⟨r,rfl,gd,q⟩:=h
    obtain⟨e1,e2⟩:=row_split gd
    have rl:=rowG_len gd
    have wl:=words_len gd
    refine' ⟨_,pss_cons (ps_if (pt_not (pt_val (pe_callB call_isinst rfl G.isinstance boot_isinstance (pa_cons (pv 0) (pa_cons (pe_bltn (v:=.ty "str") rfl G.str boot_str rfl) pa_nil))))) pss_never pss_nil)
      (pss_one (ps_tryG (tb:=tRet fun σ H Q=>tCons (tBM K "str" rSplit (tVar 0) (tCons (tC (.str " ")) tNil)) (tCons (tC (.int 0)) tNil) σ H fun vs H1=>sp_ruleW K Cs 4 vs H1 Q E0) ?body)),?main⟩
    case body =>
      intro pn
      exact pss_one (ps_ret (pe_cal C1 hr (Nat.le_refl _) pass0 (pa_cons (pe_bm PySem.F.plainAttrs_str PySem.F.slot_str_split PySem.F.type_str_split mt_split (pv 0) (pa_cons pe_str pa_nil)) (pa_cons pe_int pa_nil))))
    refine⟨_,rfl,_,_,_,_,true,rfl,rfl,.inl (.str _),rfl,true,rfl,iteF ⟨_,rfl,rfl,_,_,rfl,rfl,rfl,by rw[sizeLine_eq];omega,?_,?_⟩⟩
    · have e3:((" ":Str)).length=1:=by decide +kernel
      rw[e3,e2,sizeLine_eq]
      omega
    rw[e1]
    exact fun l H1 s1 n1 g1=>⟨l,r,0,rfl,SqL.of g1,gd,by decide,by decide,fun o H2 s2 ro=>q o H2 (s1.trans s2) ro⟩
end
end K13
namespace Pg
open PySem L2
noncomputable def sp_namU:Sp:=fun vs H Q _=>∃ (c:Int) (n:Nat),vs=[.int c,.int (n:Nat)]∧n≤8∧∀ (nms:List Str) l H',nms.length=n→(∀ z∈nms,RName z)→nms.Nodup→Same H H'→H l=none→H' l=some (.lst (nms.map V.str))→Q (.ref l) H'
theorem texts_at {n:Nat} {p:Str→Prop} {t:Nat→Str→Prop} {zs:List V} (h:∀ (i:Nat) u,zs[i]? = some u→∃ k,(List.range n)[i]? = some k∧∃ z,u = .str z∧p z∧t k z):∃ nms:List Str,zs=nms.map V.str∧(∀ z∈nms,p z)∧∀ (i:Nat) z,nms[i]? = some z→t i z:=by
  have h':∀ u∈zs,∃ z,u = .str z∧p z:=fun u hu=>by
    obtain⟨i,hi⟩:=List.mem_iff_getElem?.mp hu
    obtain⟨k,_,z,e,hp,_⟩:=h i u hi
    exact⟨z,e,hp⟩
  obtain⟨nms,rfl,hn⟩:=texts_of h'
  refine⟨nms,rfl,hn,fun i z hz=>?_⟩
  obtain⟨k,hk,z',e,_,ht⟩:=h i (.str z) (by rw[List.getElem?_map,hz];rfl)
  cases e
  obtain⟨hk1,hk2⟩:=List.getElem?_eq_some_iff.mp hk
  rw[List.getElem_range] at hk2
  subst hk2
  exact ht
theorem nodup_at {nms:List Str} {t:Nat→Str→Prop} (h:∀ (i:Nat) z,nms[i]? = some z→t i z) (inj:∀ i j z,i<nms.length→j<nms.length→t i z→t j z→i=j):nms.Nodup:=by
  rw[List.nodup_iff_pairwise_ne,List.pairwise_iff_getElem]
  intro i j hi hj lt e
  have h1:=h i _ (List.getElem?_eq_getElem hi)
  have h2:=h j _ (List.getElem?_eq_getElem hj)
  rw[e] at h1
  have:=inj i j _ hi hj h1 h2
  omega
theorem ok_inj {i j:Nat} {z:Str} (h1:okNames[i]? = some z) (h2:okNames[j]? = some z):i=j:=by
  have nd:okNames.Nodup:=by decide +kernel
  obtain⟨a,e1⟩:=List.getElem?_eq_some_iff.mp h1
  obtain⟨b,e2⟩:=List.getElem?_eq_some_iff.mp h2
  have pw:=List.pairwise_iff_getElem.mp (List.nodup_iff_pairwise_ne.mp nd)
  rcases Nat.lt_trichotomy i j with lt | e | lt
  · exact absurd (e1.trans e2.symm) (pw i j a b lt)
  · exact e
  · exact absurd (e2.trans e1.symm) (pw j i b a lt)
noncomputable def leP (a b:Str × Int):Bool:=leS a.1 b.1
noncomputable def canP (prs:List (Str × Int)):List (Str × Int):=prs.mergeSort leP
theorem canP_perm (prs:List (Str × Int)):(canP prs).Perm prs:=List.mergeSort_perm prs leP
theorem canP_ord (prs:List (Str × Int)):(canP prs).Pairwise fun a b=>¬ b.1.cps.toList<a.1.cps.toList:=by
  refine (List.pairwise_mergeSort (le:=leP) (fun a b c h1 h2=>?_) (fun a b=>?_) prs).imp fun h=>of_decide_eq_true h
  · have h1:a.1.cps.toList≤b.1.cps.toList:=of_decide_eq_true h1
    have h2:b.1.cps.toList≤c.1.cps.toList:=of_decide_eq_true h2
    exact decide_eq_true (show a.1.cps.toList≤c.1.cps.toList from List.le_trans h1 h2)
  · rw[Bool.or_eq_true]
    rcases List.le_total a.1.cps.toList b.1.cps.toList with h | h
    · exact .inl (decide_eq_true h)
    · exact .inr (decide_eq_true h)
theorem key_one {prs:List (Str × Int)} (nd:(prs.map (·.1)).Nodup) {a b:Str × Int} (ha:a∈prs) (hb:b∈prs) (e:a.1=b.1):a=b:=by
  induction prs with
  | nil=>cases ha
  | cons p r ih =>
    have nd:=List.nodup_cons.mp nd
    rcases List.mem_cons.mp ha with rfl | _
    · rcases List.mem_cons.mp hb with rfl | hb
      · rfl
      · exact absurd (List.mem_map.mpr ⟨b,hb,e.symm⟩) nd.1
    · rename_i ha'
      rcases List.mem_cons.mp hb with eb | hb'
      · exact absurd (List.mem_map.mpr ⟨a,ha',e.trans (congrArg Prod.fst eb)⟩) nd.1
      · exact ih nd.2 ha' hb'
theorem canP_one {qs prs:List (Str × Int)} (p:qs.Perm prs) (s:qs.Pairwise fun a b=>¬ b.1.cps.toList<a.1.cps.toList) (nd:(prs.map (·.1)).Nodup):qs=canP prs :=
  List.Perm.eq_of_pairwise (fun a b ha hb e1 e2=>key_one nd (p.mem_iff.mp ha) ((canP_perm prs).mem_iff.mp hb) (ord_eq e1 e2)) s (canP_ord prs) (p.trans (canP_perm prs).symm)
noncomputable def duePrs (rs:List Rk) (bs:List Int):List (Str × Int):=rs.map fun r=>(r.name,ofmG r bs)
noncomputable def dueC (rs:List Rk) (bs:List Int):List (Str × Int):=canP (duePrs rs bs)
structure RsOk (rs:List Rk):Prop where
  gd:∀ r∈rs,Gd 3 r
  nd:(rs.map Rk.name).Nodup
  few:rs.length≤8
theorem due_nd {rs:List Rk} (h:RsOk rs) (bs:List Int):((duePrs rs bs).map (·.1)).Nodup:=by
  unfold duePrs
  rw[List.map_map]
  exact h.nd
theorem due_len {rs:List Rk} (h:RsOk rs) (bs:List Int):(dueC rs bs).length≤8:=by
  unfold dueC
  rw[(canP_perm _).length_eq,duePrs,List.length_map]
  exact h.few
noncomputable def RosAt (Cs:Nat→Addr) (H:Hp) (l:Addr) (rs:List Rk):Prop:=∃ ys,H l=some (.lst ys)∧ItemsAt H ys rs (fun H' v r=>RoG Cs H' r v)
noncomputable def RtsAt (H:Hp) (l:Addr) (rs:List Rk):Prop:=∃ ys,H l=some (.lst ys)∧ItemsAt H ys rs (fun H' v r=>RtG H' r v)
theorem RosAt.same {Cs:Nat→Addr} {H H':Hp} {l:Addr} {rs:List Rk} (s:Same H H') (h:RosAt Cs H l rs):RosAt Cs H' l rs:=by
  obtain⟨ys,e,T⟩:=h
  exact⟨ys,s _ _ e,T.same s⟩
theorem RtsAt.same {H H':Hp} {l:Addr} {rs:List Rk} (s:Same H H') (h:RtsAt H l rs):RtsAt H' l rs:=by
  obtain⟨ys,e,T⟩:=h
  exact⟨ys,s _ _ e,T.same s⟩
noncomputable def DusAt (H:Hp) (v:V) (prs:List (Str × Int)):Prop:=∃ t ys,v = .ref t∧H t=some (.tup ys)∧TupsAt H ys (prs.map cP)
theorem DusAt.same {H H':Hp} {v:V} {prs:List (Str × Int)} (s:Same H H') (h:DusAt H v prs):DusAt H' v prs:=by
  obtain⟨t,ys,e,h,T⟩:=h
  exact⟨t,ys,e,s _ _ h,T.same s⟩
theorem DusAt.keep {H H':Hp} {v:V} {prs:List (Str × Int)} (k:KeepNL H H') (h:DusAt H v prs):DusAt H' v prs:=by
  obtain⟨t,ys,e,h,T⟩:=h
  exact⟨t,ys,e,k _ _ h (fun xs z=>nomatch z),TupsAt.keep k T⟩
noncomputable def lastB (bs:List Int):Int:=bs.getLast?.getD 0
noncomputable def netB (b:Int) (prs:List (Str × Int)):Int:=b - (prs.map (·.2)).sum
noncomputable def RowAt (H:Hp) (v:V) (rs:List Rk) (bs:List Int):Prop:=∃ t u,v = .ref t∧H t=some (.tup [.int (lastB bs),u,.int (netB (lastB bs) (dueC rs bs))])∧DusAt H u (dueC rs bs)
theorem RowAt.keep {H H':Hp} {v:V} {rs:List Rk} {bs:List Int} (k:KeepNL H H') (h:RowAt H v rs bs):RowAt H' v rs bs:=by
  obtain⟨t,u,e,h,T⟩:=h
  exact⟨t,u,e,k _ _ h (fun xs z=>nomatch z),T.keep k⟩
noncomputable def sp_duesP (K:PySem.W.Frag) (Cs:Nat→Addr):Sp:=fun vs H Q _=>∃ (l b:Addr) (rs:List Rk) (bs:List Int),vs=[.ref l,.ref b]∧RosAt Cs H l rs∧RsOk rs∧SqL K H b (bs.map V.int)∧bs.length≤100∧∀ v H',Same H H'→DusAt H' v (dueC rs bs)→Q v H'
noncomputable def sp_mrow (K:PySem.W.Frag) (Cs:Nat→Addr):Sp:=fun vs H Q _=>∃ (l b:Addr) (rs:List Rk) (bs:List Int),vs=[.ref l,.ref b]∧RosAt Cs H l rs∧RsOk rs∧SqL K H b (bs.map V.int)∧bs.length≤100∧∀ v H',Same H H'→RowAt H' v rs bs→Q v H'
noncomputable def sp_ytab (K:PySem.W.Frag) (Cs:Nat→Addr):Sp:=fun vs H Q _=>∃ (l b:Addr) (rs:List Rk) (bs:List Int),vs=[.ref l,.ref b]∧RosAt Cs H l rs∧RsOk rs∧SqL K H b (bs.map V.int)∧bs.length≤50∧∀ t zs H',Same H H'→H t=none→H' t=some (.lst zs)→Made H' zs (List.range bs.length) (fun H v k=>RowAt H v rs (bs.take (k+1)))→Q (.ref t) H'
noncomputable def sp_duesW (K:PySem.W.Frag):Sp:=fun vs H Q _=>∃ (l b:Addr) (rs:List Rk) (bs:List Int),vs=[.ref l,.ref b]∧RtsAt H l rs∧RsOk rs∧SqL K H b (bs.map V.int)∧bs.length≤100∧Nns bs∧∀ v H',Same H H'→DusAt H' v (dueC rs bs)→Q v H'
noncomputable def sp_netL:Sp:=fun vs H Q _=>∃ b v prs,vs=[.int b,v]∧DusAt H v prs∧prs.length≤8∧∀ H',Same H H'→Q (.int (netB b prs)) H'
noncomputable def sp_dRight:Sp:=fun vs H Q _=>∃ u v prs,vs=[u,v]∧DusAt H u prs∧DusAt H v prs∧prs.length≤8∧∀ H',Same H H'→Q (.bl true) H'
theorem RtG.name {H:Hp} {r:Rk} {v:V} {d:Nat} (h:RtG H r v) (g:Gd d r):∃ t l,v = .ref t∧H t=some (.tup l)∧atI l 1=some (.str r.name):=by
  cases h with
  | pln k h =>
    obtain⟨t,rfl,h⟩:=h
    exact⟨t,_,rfl,h,at_one (g.pl k)⟩
  | bands h b=>exact⟨_,_,rfl,h,rfl⟩
  | ontop h b=>exact⟨_,_,rfl,h,rfl⟩
theorem dus_is {K:PySem.W.Frag} {H:Hp} {v:V} {prs:List (Str × Int)} (h:DusAt H v prs):Is K H 2 v (.t (prs.map fun p=>Dt.t ((cP p).map Dt.v))):=by
  obtain⟨t,ys,rfl,h,T⟩:=h
  refine .t (SqT.of h) (by rw[T.len,List.length_map,List.length_map]) fun i x e e1 e2=>?_
  rw[List.getElem?_map] at e2
  obtain⟨p,hp',rfl⟩:=Option.map_eq_some_iff.mp e2
  obtain⟨a,h1,h2⟩:=T.at_ i (cP p) (by rw[List.getElem?_map,hp'];rfl)
  rw[e1] at h1
  cases h1
  exact Is.flatT (SqT.of h2) rfl
theorem rng1_items {H:Hp} (n:Nat):ItemsAt H ((List.range n).map fun k=>V.int (1+(k:Nat))) (List.range n) (fun _ v k=>v = .int ((k+1:Nat):Int)) :=
  ⟨List.length_map _,fun i y h=>by
    rw[List.getElem?_map] at h
    obtain⟨z,h1,rfl⟩:=Option.map_eq_some_iff.mp h
    refine⟨z,h1,fun _ _=>?_⟩
    show V.int _=V.int _
    congr 1
    omega⟩
end Pg
namespace K13
open PySem PySem.NumText L2 Pg
seal PE PA PT PW PS PSs PG PGs PI PIf PO PK
section
variable {P:Program} {w:World} {K:PySem.W.Frag} {mg:Str→Option Value} {base:Heap} {f:Addr} {fd:FuncData} {d:Nat→Addr} {cR:Addr}
theorem New.up {H H1:Hp} {o:HO} {Q:VK} (r:New H o Q) (s:Same H H1):New H1 o Q:=fun p H2 s2 n e=>r p H2 (s.trans s2) (was_none s n) e
set_option maxHeartbeats 4000000 in
theorem ok_duesP {Cs:Nat→Addr} {j:Nat} (F:Fun K "dues_of" "dues_of" (top 33) f fd) (G:Glb mg) (CL:∀ k,k<6→Cls K (Cs k)) (NM:∀ k,k<6→NoAttr K (Cs k) "name") (MO:∀ k,k<6→CalM P w K mg base CX0 j (Cs k) "of_month" ["self","bases"] (sp_ofmG K 3 k Cs)):FnOk P w K mg base CX0 (j+1) f fd ["rules","bases"] (sp_duesP K Cs):=by
  have nc:(["rule","bases"]:List Str).Nodup:=by decide +kernel
  refine F.ok (N:=["rules","bases"]) ⟨rfl,rfl,rfl,by decide +kernel,rfl,by decide +kernel,by decide +kernel⟩ (fun vs H Q E h=>?_) (fun cdv A outer s H vs Q E hr h=>?_)
  · obtain⟨l,b,rs,bs,rfl,_⟩:=h
    rfl
  · obtain⟨l,b,rs,bs,rfl,⟨ys,hl,T⟩,ok,hb,bl,q⟩:=h
    have few:=ok.few
    refine' ⟨_,(pss_one (ps_ret (pe_callTy call_tuple_of rfl G.tuple boot_tuple (pa_cons (pe_callB call_sortP rfl G.sorted PyProof.Rows.boot_sorted (pa_cons ?comp pa_nil)) pa_nil)))),?main⟩
    case comp =>
      refine' pe_compI (Nc:=["rule","bases"]) (cl:=[("bases",s.heap.objs.size+1)]) (src:=[none,some 1]) (wi:=iList K (tVar 0)) (g:=gName 0) (tt:=tNoIf) (te:=tTupS (tCons (tFld K (tVar 0) "name") (tCons (fun σ H Q=>∃ k,k<6∧tMt (Cs k) "of_month" (sp_ofmG K 3 k Cs) E0 (tVar 0) (tCons (tVar 1) tNil) σ H Q) tNil)))
        ⟨rfl,rfl,by decide +kernel,by decide +kernel,sub_of (sub1 rfl),has_of (by rfl),frm_none (frm_some ⟨_,rfl,rfl,rfl,rfl⟩ frm_nil),rfl⟩ rfl (pi_list (pv 0)) ?hb
      case hb =>
        intro fp C' s' H'
        exact⟨pg_name (i:=0) nc rfl (Or.inl rfl),pif_nil,pe_tupS (pa_cons (pe_fld (pv 0) rfl) (pa_cons (pe_anyP (p:=fun k=>k<6) fun k hk=>pe_calM (MO k hk) hr (Nat.le_refl _) pass0 (pv 0) (pa_cons (pv 1) pa_nil)) pa_nil))⟩
    dsimp (config:={ proj:=false,iota:=false,beta:=false,eta:=false }) only [cxOf_K,nox_K]
    refine⟨_,rfl,l,rfl,⟨_,SqL.of hl⟩,fun D hD=>comp_newN (walk_list (SqL.of hl)) T hD (by rw[sizeLine_eq];omega) (fun r=>cP (r.name,ofmG r bs)) (fun r hm v H1 R s1 ro k=>?_) (fun zs H1 s1 e1 T1=>?_)⟩
    · have gd:=ok.gd r hm
      obtain⟨oa,dx,fs,rfl,ho,nm,no⟩:=ro.obj gd
      have k6:=kd6 r
      exact⟨_,rfl,oa,_,dx,fs,_,rfl,ho,CL _ k6,NM _ k6,nm,r.kd,k6,_,rfl,oa,dx,fs,rfl,ho,no "of_month" (by decide),_,rfl,_,r,b,bs,rfl,rfl,ro,gd,s1.seq hb,bl,fun H2 s2=>⟨lenOk rfl,New.up k s2⟩⟩
    · have T2:TupsAt H1 zs ((duePrs rs bs).map cP):=by
        unfold duePrs
        rw[List.map_map]
        exact T1
      have nd:=due_nd ok bs
      have zl:zs.length=(duePrs rs bs).length:=by rw[T2.len,List.length_map]
      have pl:(duePrs rs bs).length=rs.length:=by unfold duePrs;rw[List.length_map]
      refine⟨D,zs,_,_,rfl,SqL.of e1,by omega,pair_at T2 nd,fun is pm up a H2 s2 n2 e2=>?_⟩
      obtain⟨pq,T3⟩:=pairs_perm T2 pm
      have up:(is.map (pAt (duePrs rs bs))).Pairwise (fun a b=>¬ b.1.cps.toList<a.1.cps.toList):=List.pairwise_map.mpr up
      rw[canP_one pq up nd] at T3
      refine⟨a,_,rfl,.inl ⟨SqL.of e2,fun t t0=>?_⟩⟩
      have s3:Same H2 (upd H2 t (.tup (is.map fun i=>zs.getD i V.non))):=Same.upd t0
      exact q _ _ (s1.trans (s2.trans s3)) ⟨t,_,rfl,upd_same,(T3.same s2).same s3⟩
theorem ok_mrow {Cs:Nat→Addr} {j:Nat} (F:Fun K "month_row" "month_row" (top 34) f fd) (G:Glb mg) (C1:Cal P w K mg base CX0 j "dues_of" ["rules","bases"] (sp_duesP K Cs)):FnOk P w K mg base CX0 (j+1) f fd ["rules","bases"] (sp_mrow K Cs):=by
  have nd:(["rules","bases","base","dues","net"]:List Str).Nodup:=by decide +kernel
  have nc:(["name","due"]:List Str).Nodup:=by decide +kernel
  refine F.ok (N:=["rules","bases","base","dues","net"]) ⟨rfl,rfl,rfl,by decide +kernel,rfl,by decide +kernel,by decide +kernel⟩ (fun vs H Q E h=>?_) (fun cdv A outer s H vs Q E hr h=>?_)
  · obtain⟨l,b,rs,bs,rfl,_⟩:=h
    rfl
  · obtain⟨l,b,rs,bs,rfl,ro,ok,hb,bl,q⟩:=h
    refine' ⟨_,(pss_cons (ps_set (i:=2) nd rfl (Or.inl rfl) (pe_ifExp (pt_cmpR op_gt (pe_callB call_len_seq rfl G.len boot_len (pa_cons (pv 1) pa_nil)) pe_int (nomark _)) (pe_at ix_list (pv 1) (pe_un un_neg pe_int)) pe_int))
        (pss_cons (ps_set (i:=3) nd rfl (Or.inl rfl) (pe_cal C1 hr (Nat.le_refl _) pass0 (pa_cons (pv 0) (pa_cons (pv 1) pa_nil))))
        (pss_cons (ps_set (i:=4) nd rfl (Or.inl rfl) (pe_op op_sub (pv 2) (pe_callB (call_sumL rfl) rfl G.sum boot_sum (pa_cons ?comp pa_nil))))
        (pss_one (ps_ret (pe_tupS (pa_cons (pv 2) (pa_cons (pv 3) (pa_cons (pv 4) pa_nil))))))))),?main⟩
    case comp =>
      refine' pe_compI (Nc:=["name","due"]) (cl:=[]) (src:=[none,none]) (wi:=iTup K (tVar 3)) (g:=gTup K 2 (gCons (gName 0) (gCons (gName 1) gNil))) (tt:=tNoIf) (te:=tVar 1)
        ⟨rfl,rfl,by decide +kernel,by decide +kernel,(fun x c z=>nomatch z),has_of (by rfl),frm_none (frm_none frm_nil),rfl⟩ rfl (pi_tup (pv 3)) ?hb
      case hb =>
        intro fp C' s' H'
        exact⟨pg_tup rfl (pgs_cons (pg_name (i:=0) nc rfl (Or.inl rfl)) (pgs_cons (pg_name (i:=1) nc rfl (Or.inl rfl)) pgs_nil)),pif_nil,pv 1⟩
    have dl:=due_len ok bs
    have rest:∀ {D:Ends},D.rt=Q→tSeq (tAsg (fun σ H Q=>tCons (tVar 0) (tCons (tVar 1) tNil) σ H fun vs H1=>sp_duesP K Cs vs H1 Q E0) (gName 3)) (tSeq (tAsg (tOp (rI0 fun i j=>.int (i - j)) (tVar 2) (tCB (fun xs H Q=>∃ (a:Addr) (ns:List Int),xs=[.ref a]∧SqL K H a (ns.map V.int)∧Q (.int ns.sum) H) (tCons (tCompI [none,none] (iTup K (tVar 3)) (gTup K 2 (gCons (gName 0) (gCons (gName 1) gNil))) tNoIf (tVar 1)) tNil))) (gName 4)) (tRet (tTupS (tCons (tVar 2) (tCons (tVar 3) (tCons (tVar 4) tNil)))))) D [some (.ref l),some (.ref b),some (.int (lastB bs)),none,none] H:=by
      intro D eD
      refine⟨_,rfl,_,rfl,l,b,rs,bs,rfl,ro,ok,hb,bl,fun v H1 s1 du=>?_⟩
      obtain⟨t,ys,rfl,ht,T⟩:=id du
      refine⟨_,rfl,_,rfl,t,rfl,⟨_,SqT.of ht⟩,fun D2 hD2=>comp_two (walk_tup (SqT.of ht)) T hD2 (by rw[sizeLine_eq];omega) (fun p=>V.int p.2) (fun p hp H2 R s2 r=>⟨_,rfl,r H2 (Same.refl _)⟩) (fun H2 s2 e2=>?_)⟩
      have e2':H2 D2=some (.lst (((dueC rs bs).map (·.2)).map V.int)):=by rw[e2,List.map_map];rfl
      refine⟨D2,_,rfl,SqL.of e2',_,_,rfl,rfl,_,rfl,_,rfl,_,rfl,lenOk rfl,fun p H3 s3 n3 e3=>?_⟩
      rw[eD]
      exact q _ H3 (s1.trans (s2.trans s3)) ⟨p,_,rfl,e3,(du.same s2).same s3⟩
    cases hbs:bs.getLast? with
    | none =>
      have e0:bs=[]:=List.getLast?_eq_none_iff.mp hbs
      have lb:lastB bs=0:=by unfold lastB;rw[hbs];rfl
      rw[lb] at rest
      refine⟨_,rfl,b,_,rfl,.inl hb,_,_,rfl,rfl,_,rfl,ite2 (fun e=>?_) (fun _=>?_)⟩
      · have e:=of_decide_eq_true e
        rw[e0] at e
        exact absurd e (by decide)
      · exact rest rfl
    | some x =>
      have lb:lastB bs=x:=by unfold lastB;rw[hbs];rfl
      rw[lb] at rest
      obtain⟨ds,e0⟩:∃ ds,bs=ds++[x]:=List.getLast?_eq_some_iff.mp hbs
      refine⟨_,rfl,b,_,rfl,.inl hb,_,_,rfl,rfl,_,rfl,ite2 (fun _=>?_) (fun e=>?_)⟩
      · refine⟨_,rfl,_,rfl,b,_,_,.int x,rfl,rfl,hb,?_,rest rfl⟩
        rw[e0,List.map_append]
        exact atI_last _ _
      · exact absurd (decide_eq_true (show (0:Int)<((bs.map V.int).length:Nat) by rw[List.length_map,e0,List.length_append,List.length_singleton];omega)) e
theorem ok_ytab {Cs:Nat→Addr} {j:Nat} (F:Fun K "year_table" "year_table" (top 35) f fd) (G:Glb mg) (C1:Cal P w K mg base CX0 j "month_row" ["rules","bases"] (sp_mrow K Cs)):FnOk P w K mg base CX0 (j+1) f fd ["rules","bases"] (sp_ytab K Cs):=by
  have nc:(["count","rules","bases"]:List Str).Nodup:=by decide +kernel
  refine F.ok (N:=["rules","bases"]) ⟨rfl,rfl,rfl,by decide +kernel,rfl,by decide +kernel,by decide +kernel⟩ (fun vs H Q E h=>?_) (fun cdv A outer s H vs Q E hr h=>?_)
  · obtain⟨l,b,rs,bs,rfl,_⟩:=h
    rfl
  · obtain⟨l,b,rs,bs,rfl,ro,ok,hb,bl,q⟩:=h
    refine' ⟨_,pss_one (ps_ret ?comp),?main⟩
    case comp =>
      refine' pe_compI (Nc:=["count","rules","bases"]) (cl:=[("rules",s.heap.objs.size+1),("bases",s.heap.objs.size+2)]) (src:=[none,some 0,some 1]) (g:=gName 0) (tt:=tNoIf) (te:=fun σ H Q=>tCons (tVar 1) (tCons (tSl (rSlL K) (tVar 2) tNoPart (tPart (tVar 0))) tNil) σ H fun vs H1=>sp_mrow K Cs vs H1 Q E0)
        ⟨rfl,rfl,by decide +kernel,by decide +kernel,sub_of (subN rfl (sub1 rfl)),has_of (by rfl),frm_none (frm_some ⟨_,rfl,rfl,rfl,rfl⟩ (frm_some ⟨_,rfl,rfl,rfl,rfl⟩ frm_nil)),rfl⟩ rfl (pi_range2 rfl G.range (pa_cons pe_int (pa_cons (pe_op op_add (pe_callB call_len_seq rfl G.len boot_len (pa_cons (pv 1) pa_nil)) pe_int) pa_nil))) ?hb
      case hb =>
        intro fp C' s' H'
        exact⟨pg_name (i:=0) nc rfl (Or.inl rfl),pif_nil,pe_cal C1 hr (Nat.le_refl _) pass0 (pa_cons (pv 1) (pa_cons (pe_slice sl_list (pv 2) po_none (po_some (pv 0))) pa_nil))⟩
    refine⟨_,rfl,b,_,rfl,.inl hb,_,_,rfl,rfl,_,_,rfl,⟨by decide,by decide,by rw[List.length_map];omega,by rw[List.length_map];omega⟩,?_⟩
    rw[List.length_map,show (((bs.length:Nat):Int)+1 - 1).toNat=bs.length by omega]
    refine fun D hD=>comp_mkS walk_rng (rng1_items bs.length) hD (by rw[List.length_range,sizeLine_eq];omega) (fun H' v k=>RowAt H' v rs (bs.take (k+1))) (fun kp h=>h.keep kp) (fun i k hk v H1 R s1 e1 r=>?_) (fun zs H1 s1 e1 M=>q D zs H1 s1 hD e1 M)
    subst e1
    refine⟨_,rfl,_,rfl,_,rfl,_,rfl,b,_,rfl,s1.seq hb,fun p p0=>?_⟩
    have s2:Same H1 (upd H1 p (.lst (cutV (bs.map V.int) none (some (((k+1:Nat):Nat):Int))))):=Same.upd p0
    exact⟨l,p,rs,bs.take (k+1),rfl,ro.same (s1.trans s2),ok,SqL.of (by rw[upd_same,cut_to_n]),by rw[List.length_take];omega,fun u H2 s3 rw'=>r u H2 (s2.trans s3) rw'⟩
end
end K13
namespace K13
open PySem PySem.NumText L2 Pg
seal PE PA PT PW PS PSs PG PGs PI PIf PO PK
section
variable {P:Program} {w:World} {K:PySem.W.Frag} {mg:Str→Option Value} {base:Heap} {f:Addr} {fd:FuncData} {d:Nat→Addr} {cR:Addr}
theorem ok_mixR (F:Fun K "_law_mixed" "_law_mixed" (top 68) f fd):FnOk P w K mg base CX0 1 f fd ["_law_cell","_law_k"] sp_mixR:=by
  have nd:(["_law_cell","_law_k","_law_number"]:List Str).Nodup:=by decide +kernel
  refine F.ok (N:=["_law_cell","_law_k","_law_number"]) ⟨rfl,rfl,rfl,by decide +kernel,rfl,by decide +kernel,by decide +kernel⟩ (fun vs H Q E h=>?_) (fun cdv A outer s H vs Q E hr h=>?_)
  · obtain⟨c,k,rfl,_⟩:=h
    rfl
  · obtain⟨c,k,rfl,q⟩:=h
    refine⟨_,(pss_cons (ps_set (i:=2) nd rfl (Or.inl rfl) (pe_op op_mod (pe_op op_add (pe_op op_add (pe_op op_mul (pv 0) pe_int) (pe_op op_mul pe_int (pv 1))) pe_int) pe_int))
        (pss_one (ps_ret (pe_op op_mod (pe_op op_mul (pe_op op_mod (pe_op op_mul (pv 2) (pv 2)) pe_int) (pv 2)) pe_int)))),?_⟩
    refine⟨_,rfl,_,_,rfl,rfl,.inr ⟨by decide,by decide⟩,_,rfl,_,_,rfl,rfl,.inl ⟨by decide,by decide⟩,_,_,rfl,rfl,_,_,rfl,rfl,_,_,rfl,rfl,(by show (0:Int)<1000003;decide),?_⟩
    have b0:0≤(c*48271+7919*k+11)%1000003:=Int.emod_nonneg _ (by decide)
    have b1:(c*48271+7919*k+11)%1000003<1000003:=Int.emod_lt_of_pos _ (by decide)
    dsimp only
    generalize (c*48271+7919*k+11)%1000003=m at b0 b1
    exact⟨_,rfl,_,rfl,_,_,rfl,rfl,.inr ⟨by omega,by omega⟩,_,_,rfl,rfl,(by show (0:Int)<1000003;decide),_,rfl,_,_,rfl,rfl,.inr ⟨by omega,by omega⟩,_,_,rfl,rfl,(by show (0:Int)<1000003;decide),q _ (Int.emod_nonneg _ (by decide)) (Int.emod_lt_of_pos _ (by decide))⟩
theorem ok_amtR (F:Fun K "_law_amount" "_law_amount" (top 70) f fd) (C1:Cal P w K mg base CX0 1 "_law_mixed" ["_law_cell","_law_k"] sp_mixR):FnOk P w K mg base CX0 2 f fd ["_law_cell","_law_k"] sp_amtR:=by
  have nd:(["_law_cell","_law_k","_law_number","_law_more","_law_wide"]:List Str).Nodup:=by decide +kernel
  refine F.ok (N:=["_law_cell","_law_k","_law_number","_law_more","_law_wide"]) ⟨rfl,rfl,rfl,by decide +kernel,rfl,by decide +kernel,by decide +kernel⟩ (fun vs H Q E h=>?_) (fun cdv A outer s H vs Q E hr h=>?_)
  · obtain⟨c,k,rfl,_⟩:=h
    rfl
  · obtain⟨c,k,rfl,q⟩:=h
    refine⟨_,(pss_cons (ps_set (i:=2) nd rfl (Or.inl rfl) (pe_cal C1 hr (by decide) pass0 (pa_cons (pv 0) (pa_cons (pv 1) pa_nil))))
        (pss_cons (ps_set (i:=3) nd rfl (Or.inl rfl) (pe_op op_fdiv (pv 2) pe_int))
        (pss_cons (ps_set (i:=4) nd rfl (Or.inl rfl) (pe_op op_add (pe_op op_mul (pv 2) pe_int) (pe_cal C1 hr (by decide) pass0 (pa_cons (pv 0) (pa_cons (pe_op op_add (pv 1) pe_int) pa_nil)))))
        (pss_one (ps_ret (pe_at ix_list (pe_lstS (pa_cons pe_int (pa_cons (pe_op op_mod (pv 3) pe_int) (pa_cons (pe_op op_mod (pv 3) pe_int) (pa_cons (pe_op op_mul (pe_op op_mod (pv 3) pe_int) pe_int) (pa_cons (pe_op op_mul (pv 3) pe_int) (pa_cons (pe_op op_mod (pv 4) (pe_op op_add (pe_op op_pow pe_int pe_int) pe_int)) (pa_cons (pe_op op_pow pe_int pe_int) pa_nil)))))))) (pe_op op_mod (pv 2) pe_int))))))),?_⟩
    refine⟨_,rfl,_,rfl,c,k,rfl,fun m m0 m1=>⟨_,rfl,_,_,rfl,rfl,⟨by decide,by decide⟩,_,rfl,_,_,rfl,rfl,.inr ⟨by decide,by decide⟩,_,rfl,_,rfl,_,_,rfl,rfl,c,_,rfl,fun n n0 n1=>⟨_,_,rfl,rfl,?_⟩⟩⟩
    have d0:0≤m/7:=Int.ediv_nonneg m0 (by decide)
    have d1:m/7≤142858:=by omega
    dsimp only
    generalize m/7=e at d0 d1
    have e0:0≤e%19:=Int.emod_nonneg _ (by decide)
    have e1:e%19<19:=Int.emod_lt_of_pos _ (by decide)
    have p12:(10:Int) ^ (12:Int).toNat=1000000000000:=by decide
    refine⟨_,rfl,_,_,rfl,rfl,(by show (0:Int)<30;decide),_,rfl,_,_,rfl,rfl,(by show (0:Int)<40000;decide),_,rfl,_,_,rfl,rfl,(by show (0:Int)<19;decide),_,_,rfl,rfl,.inr ⟨by decide,by decide⟩,_,rfl,_,_,rfl,rfl,.inr ⟨by decide,by decide⟩,_,rfl,_,_,rfl,rfl,⟨by decide,by decide,by decide⟩,_,_,rfl,rfl,_,_,rfl,rfl,?_,_,_,rfl,rfl,⟨by decide,by decide,by decide⟩,lenOk rfl,fun l H1 s1 n1' e1'=>?_⟩
    · show (0:Int)<10 ^ (12:Int).toNat+1
      rw[p12]
      decide
    have w0:0≤(m*1000003+n)%(10 ^ (12:Int).toNat+1):=Int.emod_nonneg _ (by rw[p12];decide)
    have w1:(m*1000003+n)%(10 ^ (12:Int).toNat+1)<1000000000001:=by
      rw[p12]
      exact Int.emod_lt_of_pos _ (by decide)
    obtain⟨v,ev,mv⟩:=at_any (xs:=[V.int 0,.int (e%30),.int (e%40000),.int (e%19*5000),.int (e*50),.int ((m*1000003+n)%(10 ^ (12:Int).toNat+1)),.int (10 ^ (12:Int).toNat)]) (i:=m%7) (Int.emod_nonneg _ (by decide)) (Int.emod_lt_of_pos _ (by decide))
    obtain⟨a,rfl,ha⟩:∃ a,v = .int a∧Amt a:=by
      have f0:0≤e%30:=Int.emod_nonneg _ (by decide)
      have f1:e%30<30:=Int.emod_lt_of_pos _ (by decide)
      have g0:0≤e%40000:=Int.emod_nonneg _ (by decide)
      have g1:e%40000<40000:=Int.emod_lt_of_pos _ (by decide)
      generalize (m*1000003+n)%(10 ^ (12:Int).toNat+1)=x at w0 w1 mv
      rw[p12] at mv
      simp only[List.mem_cons,List.not_mem_nil,or_false] at mv
      rcases mv with rfl | rfl | rfl | rfl | rfl | rfl | rfl
      all_goals exact⟨_,rfl,by omega,by omega⟩
    exact⟨_,rfl,_,_,rfl,rfl,(by show (0:Int)<7;decide),l,_,_,_,rfl,rfl,SqL.of e1',ev,q a H1 ha s1⟩
theorem ok_prtR (F:Fun K "_law_parts" "_law_parts" (top 73) f fd) (C1:Cal P w K mg base CX0 1 "_law_mixed" ["_law_cell","_law_k"] sp_mixR):FnOk P w K mg base CX0 2 f fd ["_law_cell","_law_k"] sp_prtR:=by
  have nd:(["_law_cell","_law_k","_law_number"]:List Str).Nodup:=by decide +kernel
  refine F.ok (N:=["_law_cell","_law_k","_law_number"]) ⟨rfl,rfl,rfl,by decide +kernel,rfl,by decide +kernel,by decide +kernel⟩ (fun vs H Q E h=>?_) (fun cdv A outer s H vs Q E hr h=>?_)
  · obtain⟨c,k,rfl,_⟩:=h
    rfl
  · obtain⟨c,k,rfl,q⟩:=h
    refine⟨_,(pss_cons (ps_set (i:=2) nd rfl (Or.inl rfl) (pe_cal C1 hr (by decide) pass0 (pa_cons (pv 0) (pa_cons (pv 1) pa_nil))))
        (pss_one (ps_ret (pe_at ix_list (pe_lstS (pa_cons pe_int (pa_cons pe_int (pa_cons pe_int (pa_cons pe_int (pa_cons pe_int (pa_cons pe_int (pa_cons pe_int (pa_cons pe_int (pa_cons (pe_op op_mod (pe_op op_fdiv (pv 2) pe_int) pe_int) (pa_cons (pe_op op_mod (pe_op op_fdiv (pv 2) pe_int) pe_int) pa_nil))))))))))) (pe_op op_mod (pv 2) pe_int))))),?_⟩
    refine⟨_,rfl,_,rfl,c,k,rfl,fun m m0 m1=>⟨_,rfl,_,_,rfl,rfl,⟨by decide,by decide⟩,_,_,rfl,rfl,(by show (0:Int)<20001;decide),_,rfl,_,_,rfl,rfl,⟨by decide,by decide⟩,_,_,rfl,rfl,(by show (0:Int)<300;decide),lenOk rfl,fun l H1 s1 n1 e1=>?_⟩⟩
    obtain⟨v,ev,mv⟩:=at_any (xs:=[V.int 0,.int 1,.int 5000,.int 2500,.int 10000,.int 20000,.int 19999,.int 625,.int (m/10%20001),.int (m/10%300)]) (i:=m%10) (Int.emod_nonneg _ (by decide)) (Int.emod_lt_of_pos _ (by decide))
    obtain⟨a,rfl,ha⟩:∃ a,v = .int a∧Prt a:=by
      simp only[List.mem_cons,List.not_mem_nil,or_false] at mv
      have f0:0≤m/10%20001:=Int.emod_nonneg _ (by decide)
      have f1:m/10%20001<20001:=Int.emod_lt_of_pos _ (by decide)
      have g0:0≤m/10%300:=Int.emod_nonneg _ (by decide)
      have g1:m/10%300<300:=Int.emod_lt_of_pos _ (by decide)
      rcases mv with rfl | rfl | rfl | rfl | rfl | rfl | rfl | rfl | rfl | rfl
      all_goals exact⟨_,rfl,by omega,by omega⟩
    exact⟨_,rfl,_,_,rfl,rfl,(by show (0:Int)<10;decide),l,_,_,_,rfl,rfl,SqL.of e1,ev,q a H1 ha s1⟩
theorem ok_wayR (F:Fun K "_law_way" "_law_way" (top 74) f fd) (C1:Cal P w K mg base CX0 1 "_law_mixed" ["_law_cell","_law_k"] sp_mixR):FnOk P w K mg base CX0 2 f fd ["_law_cell","_law_k"] sp_wayR:=by
  refine F.ok (N:=["_law_cell","_law_k"]) ⟨rfl,rfl,rfl,by decide +kernel,rfl,by decide +kernel,by decide +kernel⟩ (fun vs H Q E h=>?_) (fun cdv A outer s H vs Q E hr h=>?_)
  · obtain⟨c,k,rfl,_⟩:=h
    rfl
  · obtain⟨c,k,rfl,q⟩:=h
    refine⟨_,(pss_one (ps_ret (pe_at ix_list (pe_lstS (pa_cons pe_str (pa_cons pe_str (pa_cons pe_str (pa_cons pe_str pa_nil))))) (pe_op op_mod (pe_op op_fdiv (pe_cal C1 hr (by decide) pass0 (pa_cons (pv 0) (pa_cons (pv 1) pa_nil))) pe_int) pe_int)))),?_⟩
    refine⟨lenOk rfl,fun l H1 s1 n1 e1=>⟨_,rfl,_,rfl,c,k,rfl,fun m m0 m1=>?_⟩⟩
    obtain⟨x,ev,hw⟩:=way_at (i:=m/5%4) (Int.emod_nonneg _ (by decide)) (Int.emod_lt_of_pos _ (by decide))
    exact⟨_,_,rfl,rfl,⟨by decide,by decide⟩,_,_,rfl,rfl,(by show (0:Int)<4;decide),l,_,_,_,rfl,rfl,SqL.of e1,ev,q x H1 hw s1⟩
theorem ok_basR (F:Fun K "_law_bases" "_law_bases" (top 71) f fd) (G:Glb mg) (C1:Cal P w K mg base CX0 2 "_law_amount" ["_law_cell","_law_k"] sp_amtR):FnOk P w K mg base CX0 3 f fd ["_law_cell","_law_many"] sp_basR:=by
  have nd:(["_law_cell","_law_many","_law_found","_law_k","_law_amount_here"]:List Str).Nodup:=by decide +kernel
  refine F.ok (N:=["_law_cell","_law_many","_law_found","_law_k","_law_amount_here"]) ⟨rfl,rfl,rfl,by decide +kernel,rfl,by decide +kernel,by decide +kernel⟩ (fun vs H Q E h=>?_) (fun cdv A outer s H vs Q E hr h=>?_)
  · obtain⟨c,n,rfl,_⟩:=h
    rfl
  · obtain⟨c,n,rfl,nl,q⟩:=h
    refine⟨_,(pss_cons (ps_set (i:=2) nd rfl (Or.inl rfl) (pe_lstS pa_nil))
        (pss_cons (ps_for PassesOwn.never rfl (pi_range1 rfl G.range (pa_cons (pv 1) pa_nil)) (pg_name (i:=3) nd rfl (Or.inl rfl)) (pss_cons (ps_set (i:=4) nd rfl (Or.inl rfl) (pe_cal C1 hr (by decide) pass0 (pa_cons (pv 0) (pa_cons (pe_op op_add pe_int (pv 3)) pa_nil))))
        (pss_cut (ps_if (pt_cmpR op_eq (pe_op op_mod (pv 0) pe_int) pe_int (nomark _)) (pss_one (ps_set (i:=4) nd rfl (Or.inl rfl) (pe_op op_mod (pv 4) pe_int))) pss_nil)
        (pss_one (ps_expr (pe_bm PySem.F.plainAttrs_list PySem.F.slot_list_append PySem.F.type_list_append mt_append (pv 2) (pa_cons (pv 4) pa_nil)))))))
        (pss_one (ps_ret (pv 2))))),?_⟩
    refine⟨lenOk rfl,fun l H1 s1 n1 e1=>⟨_,rfl,_,rfl,by omega,by omega,for_range2 (fun i σ H'=>∃ x3 x4,∃ bs:List Int,An4 (σ = [some (.int c),some (.int (n:Nat)),some (.ref l),x3,x4]) (Same H H') (H' l=some (.lst (bs.map V.int))) (bs.length=i∧Nns bs)) ⟨_,_,[],rfl,s1,e1,rfl,fun b h=>nomatch h⟩ ?_ ?_⟩⟩
    · rintro i σ H2 hi ⟨x3,x4,bs,rfl,s2,e2,bl,bn⟩ E2 k2
      rw[Int.toNat_natCast] at hi
      refine⟨_,rfl,_,rfl,_,_,rfl,rfl,c,_,rfl,fun a H3 ha s3=>?_⟩
      refine cut_to (fun σ H'=>∃ a,σ = [some (.int c),some (.int (n:Nat)),some (.ref l),some (.int (0+(i:Nat))),some (.int a)]∧0≤a∧H'=H3) (fun En kk=>?_) ?_
      · refine⟨_,rfl,_,_,rfl,rfl,(by show (0:Int)<4;decide),rfl,_,rfl,ite2 (fun _=>?_) (fun _=>?_)⟩
        · exact⟨_,rfl,_,_,rfl,rfl,(by show (0:Int)<9;decide),kk _ _ ⟨_,rfl,Int.emod_nonneg _ (by decide),rfl⟩⟩
        · exact kk _ _ ⟨_,rfl,ha.1,rfl⟩
      · rintro σ H4 ⟨a,rfl,a0,rfl⟩
        have e4:=s3 _ _ e2
        refine⟨_,rfl,.inl ⟨rfl,_,SqL.of e4⟩,_,rfl,l,_,_,rfl,rfl,e4,?_,?_⟩
        · rw[List.length_map,bl,sizeLine_eq]
          omega
        · refine k2 _ _ ⟨_,_,bs++[a],rfl,fun b o hb=>?_,?_,?_,fun b hb=>?_⟩
          · rw[upd_ne (ne_of_none hb n1)]
            exact s3 _ _ (s2 _ _ hb)
          · rw[upd_same,List.map_append]
            rfl
          · rw[List.length_append,bl]
            rfl
          · rcases List.mem_append.mp hb with hb | hb
            · exact bn b hb
            · rw[List.mem_singleton.mp hb]
              exact a0
    · rintro σ H2 ⟨x3,x4,bs,rfl,s2,e2,bl,bn⟩
      rw[Int.toNat_natCast] at bl
      exact⟨_,rfl,q bs l H2 bl bn s2 n1 e2⟩
theorem ok_rndL (F:Fun K "_law_rounded" "_law_rounded" (top 78) f fd) (G:Glb mg):FnOk P w K mg base CX0 1 f fd ["_law_number","_law_way_here"] sp_rndL:=by
  have nd:(["_law_number","_law_way_here","_law_whole_here","_law_rest"]:List Str).Nodup:=by decide +kernel
  refine F.ok (N:=["_law_number","_law_way_here","_law_whole_here","_law_rest"]) ⟨rfl,rfl,rfl,by decide +kernel,rfl,by decide +kernel,by decide +kernel⟩ (fun vs H Q E h=>?_) (fun cdv A outer s H vs Q E hr h=>?_)
  · obtain⟨c,k,rfl,_⟩:=h
    rfl
  · obtain⟨z,x,rfl,z0,q⟩:=h
    refine⟨_,(pss_cons (ps_set (i:=2) nd rfl (Or.inl rfl) (pe_op op_fdiv (pv 0) pe_int))
        (pss_cons (ps_set (i:=3) nd rfl (Or.inl rfl) (pe_op op_sub (pv 0) (pe_op op_mul (pv 2) pe_int)))
        (pss_cons (ps_if (pt_cmpR op_eq (pv 1) pe_str (nomark _)) (pss_one (ps_ret (pv 2))) pss_nil)
        (pss_cons (ps_if (pt_cmpR op_eq (pv 1) pe_str (nomark _)) (pss_one (ps_ret (pe_op op_add (pv 2) (pe_callTy call_int1 rfl G.int boot_int (pa_cons (pe_cmpR op_gt (pv 3) pe_int (nomark _)) pa_nil))))) pss_nil)
        (pss_cons (ps_if (pt_cmpR op_eq (pv 1) pe_str (nomark _)) (pss_one (ps_ret (pe_op op_add (pv 2) (pe_callTy call_int1 rfl G.int boot_int (pa_cons (pe_cmpR op_ge (pv 3) pe_int (nomark _)) pa_nil))))) pss_nil)
        (pss_one (ps_ret (pe_op op_add (pv 2) (pe_callTy call_int1 rfl G.int boot_int (pa_cons (pe_or (pe_cmpR op_gt (pv 3) pe_int (nomark _)) (pe_one (pe_and (pe_cmpR op_eq (pv 3) pe_int (nomark _)) (pe_one (pe_cmpR op_eq (pe_op op_mod (pv 2) pe_int) pe_int (nomark _)))))) pa_nil)))))))))),?_⟩
    rw[← law_rnd z0] at q
    unfold lawRnd at q
    refine⟨_,rfl,_,_,rfl,rfl,⟨by decide,by decide⟩,_,rfl,_,rfl,_,_,rfl,rfl,.inr ⟨by decide,by decide⟩,_,_,rfl,rfl,?_⟩
    have er:z - z/10000*10000=z%10000:=by omega
    dsimp only
    rw[er]
    refine⟨_,rfl,rfl,_,rfl,ite2 (fun e=>?_) (fun e=>?_)⟩
    · rw[dStr] at e
      rw[if_pos e] at q
      exact⟨_,rfl,q⟩
    rw[dStr] at e
    rw[if_neg e] at q
    refine⟨_,rfl,rfl,_,rfl,ite2 (fun e=>?_) (fun e=>?_)⟩
    · rw[dStr] at e
      rw[if_pos e] at q
      refine⟨_,rfl,_,rfl,_,_,rfl,rfl,.inr ⟨_,rfl,_,_,rfl,rfl,?_⟩⟩
      simpa only [decide_eq_true_eq] using q
    rw[dStr] at e
    rw[if_neg e] at q
    refine⟨_,rfl,rfl,_,rfl,ite2 (fun e=>?_) (fun e=>?_)⟩
    · rw[dStr] at e
      rw[if_pos e] at q
      refine⟨_,rfl,_,rfl,_,_,rfl,rfl,.inr ⟨_,rfl,_,_,rfl,rfl,?_⟩⟩
      simpa only [decide_eq_true_eq] using q
    rw[dStr] at e
    rw[if_neg e] at q
    refine⟨_,rfl,_,rfl,_,_,rfl,rfl,_,rfl,ite2 (fun e=>?_) (fun e=>?_)⟩
    · have e:=of_decide_eq_true e
      rw[if_pos (.inl e)] at q
      exact .inr ⟨_,rfl,_,_,rfl,rfl,q⟩
    · have e:¬ 5000<z%10000:=fun c=>e (decide_eq_true c)
      refine⟨_,rfl,rfl,_,rfl,ite2 (fun e2=>?_) (fun e2=>?_)⟩
      · rw[dInt] at e2
        refine⟨_,rfl,_,_,rfl,rfl,(by show (0:Int)<2;decide),rfl,.inr ⟨_,rfl,_,_,rfl,rfl,?_⟩⟩
        rw[dIntB]
        by_cases e3:z/10000%2=1
        · rw[if_pos (.inr ⟨e2,e3⟩)] at q
          rw[decide_eq_true e3,if_pos rfl]
          exact q
        · rw[if_neg (by omega)] at q
          rw[decide_eq_false e3,if_neg Bool.false_ne_true]
          exact q
      · rw[dInt] at e2
        rw[if_neg (by omega)] at q
        exact .inr ⟨_,rfl,_,_,rfl,rfl,q⟩
end
end K13
namespace K13
open PySem PySem.NumText L2 Pg
seal PE PA PT PW PS PSs PG PGs PI PIf PO PK
section
variable {P:Program} {w:World} {K:PySem.W.Frag} {mg:Str→Option Value} {base:Heap} {f:Addr} {fd:FuncData} {d:Nat→Addr} {cR:Addr}
set_option maxHeartbeats 8000000 in
theorem ok_namU (F:Fun K "_law_names" "_law_names" (top 72) f fd) (G:Glb mg) (C1:Cal P w K mg base CX0 1 "_law_mixed" ["_law_cell","_law_k"] sp_mixR):FnOk P w K mg base CX0 2 f fd ["_law_cell","_law_many"] sp_namU:=by
  have nd:(["_law_cell","_law_many","_law_letters","_law_some","_law_number","_law_frame","_law_at","_law_size","_law_signs","_law_words"]:List Str).Nodup:=by decide +kernel
  have nc6:(["_law_j","_law_some","_law_cell"]:List Str).Nodup:=by decide +kernel
  have nc4:(["_law_k","_law_letters","_law_number"]:List Str).Nodup:=by decide +kernel
  have nc3:(["_law_sign","_law_frame","_law_at","_law_size"]:List Str).Nodup:=by decide +kernel
  have nc2:(["_law_k","_law_frame"]:List Str).Nodup:=by decide +kernel
  have nc1:(["_law_k","_law_words","_law_number"]:List Str).Nodup:=by decide +kernel
  refine F.ok (N:=["_law_cell","_law_many","_law_letters","_law_some","_law_number","_law_frame","_law_at","_law_size","_law_signs","_law_words"]) ⟨rfl,rfl,rfl,by decide +kernel,rfl,by decide +kernel,by decide +kernel⟩ (fun vs H Q E h=>?_) (fun cdv A outer s H vs Q E hr h=>?_)
  · obtain⟨c,n,rfl,_⟩:=h
    rfl
  · obtain⟨c,n,rfl,n8,q⟩:=h
    refine' ⟨_,(pss_cons (ps_set (i:=2) nd rfl (Or.inr rfl) pe_str)
        (pss_cons (ps_set (i:=3) nd rfl (Or.inr rfl) pe_str)
        (pss_cons (ps_set (i:=4) nd rfl (Or.inr rfl) (pe_cal C1 hr (by decide) pass0 (pa_cons (pv 0) (pa_cons pe_int pa_nil))))
        (pss_cons (ps_set (i:=5) nd rfl (Or.inr rfl) (pe_bm PySem.F.plainAttrs_str PySem.F.slot_str_join PySem.F.type_str_join mt_join pe_str (pa_cons ?comp_6 pa_nil)))
        (pss_cons (ps_set (i:=6) nd rfl (Or.inr rfl) (pe_op op_mod (pe_op op_fdiv (pv 4) pe_int) pe_int))
        (pss_cons (ps_set (i:=7) nd rfl (Or.inr rfl) (pe_op op_add (pv 6) (pe_op op_mod (pe_op op_fdiv (pv 4) pe_int) (pe_op op_sub pe_int (pv 6)))))
        (pss_cons (ps_if (pt_cmpR op_eq (pe_op op_mod (pv 4) pe_int) pe_int (nomark _)) (pss_cons ?comp_4
        (pss_one (ps_ret ?comp_3))) pss_nil)
        (pss_cons (ps_if (pt_cmpR op_eq (pe_op op_mod (pv 4) pe_int) pe_int (nomark _)) (pss_one (ps_ret ?comp_2)) pss_nil)
        (pss_cons (ps_set (i:=9) nd rfl (Or.inr rfl) (pe_lstS (pa_cons pe_str (pa_cons pe_str (pa_cons pe_str (pa_cons pe_str (pa_cons pe_str (pa_cons pe_str (pa_cons pe_str (pa_cons pe_str (pa_cons pe_str (pa_cons pe_str pa_nil))))))))))))
        (pss_one (ps_ret ?comp_1))))))))))),?main⟩
    case comp_6 =>
      refine' pe_compI (Nc:=["_law_j","_law_some","_law_cell"]) (cl:=[("_law_some",s.heap.objs.size+3),("_law_cell",s.heap.objs.size+1)]) (src:=[none,some 3,some 0]) (wi:=iRng1 (tCons (tC (.int 7)) tNil)) (g:=gName 0) (tt:=tNoIf)
        (te:=tOp rIxS (tVar 1) (tOp (rI (fun _ j=>0<j) fun i j=>.int (i%j)) (fun σ H Q=>tCons (tVar 2) (tCons (tOp (rI0 fun i j=>.int (i+j)) (tC (.int 120)) (tVar 0)) tNil) σ H fun vs H1=>sp_mixR vs H1 Q E0) (tC (.int 21))))
        ⟨rfl,rfl,by decide +kernel,by decide +kernel,sub_of (subN rfl (sub1 rfl)),has_of (by rfl),frm_none (frm_some ⟨_,rfl,rfl,rfl,rfl⟩ (frm_some ⟨_,rfl,rfl,rfl,rfl⟩ frm_nil)),rfl⟩ rfl (pi_range1 rfl G.range (pa_cons pe_int pa_nil)) ?hb
      case hb =>
        intro fp C' s' H'
        exact⟨pg_name (i:=0) nc6 rfl (Or.inl rfl),pif_nil,pe_at ix_str (pv 1) (pe_op op_mod (pe_cal C1 hr (by decide) pass0 (pa_cons (pv 2) (pa_cons (pe_op op_add pe_int (pv 0)) pa_nil))) pe_int)⟩
    case comp_4 =>
      refine' ps_setC (i:=8) (Nc:=["_law_k","_law_letters","_law_number"]) (cl:=[("_law_number",s.heap.objs.size+4),("_law_letters",s.heap.objs.size+2)]) (src:=[none,some 2,some 4]) (wi:=iRng1 (tCons (tVar 1) tNil)) (g:=gName 0) (tt:=tNoIf)
        (te:=tOp rIxS (tVar 1) (tOp (rI (fun _ j=>0<j) fun i j=>.int (i%j)) (tOp (rI0 fun i j=>.int (i+j)) (tOp (rI CDiv fun i j=>.int (i/j)) (tVar 2) (tC (.int 200))) (tOp (rI CMul fun i j=>.int (i*j)) (tC (.int 3)) (tVar 0))) (tC (.int 26)))) nd rfl rfl
        ⟨rfl,rfl,by decide +kernel,by decide +kernel,sub_of (subN rfl (sub1 rfl)),has_of (by rfl),frm_none (frm_some ⟨_,rfl,rfl,rfl,rfl⟩ (frm_some ⟨_,rfl,rfl,rfl,rfl⟩ frm_nil)),rfl⟩ rfl (pi_range1 rfl G.range (pa_cons (pv 1) pa_nil)) ?hb
      case hb =>
        intro fp C' s' H'
        exact⟨pg_name (i:=0) nc4 rfl (Or.inl rfl),pif_nil,pe_at ix_str (pv 1) (pe_op op_mod (pe_op op_add (pe_op op_fdiv (pv 2) pe_int) (pe_op op_mul pe_int (pv 0))) pe_int)⟩
    case comp_3 =>
      refine' pe_compI (Nc:=["_law_sign","_law_frame","_law_at","_law_size"]) (cl:=[("_law_size",s.heap.objs.size+7),("_law_frame",s.heap.objs.size+5),("_law_at",s.heap.objs.size+6)]) (src:=[none,some 5,some 6,some 7]) (wi:=iList K (tVar 8)) (g:=gName 0) (tt:=tNoIf)
        (te:=tOp (fun x y H Q=>∃ i j:Str,x = .str i∧y = .str j∧i.length+j.length≤sizeLine∧Q (.str (i++j)) H) (tOp (fun x y H Q=>∃ i j:Str,x = .str i∧y = .str j∧i.length+j.length≤sizeLine∧Q (.str (i++j)) H) (tSl rSlS (tVar 1) tNoPart (tPart (tVar 2))) (tVar 0)) (tSl rSlS (tVar 1) (tPart (tVar 2)) (tPart (tVar 3))))
        ⟨rfl,rfl,by decide +kernel,by decide +kernel,sub_of (subN rfl (subN rfl (sub1 rfl))),has_of (by rfl),frm_none (frm_some ⟨_,rfl,rfl,rfl,rfl⟩ (frm_some ⟨_,rfl,rfl,rfl,rfl⟩ (frm_some ⟨_,rfl,rfl,rfl,rfl⟩ frm_nil))),rfl⟩ rfl (pi_list (pv 8)) ?hb
      case hb =>
        intro fp C' s' H'
        exact⟨pg_name (i:=0) nc3 rfl (Or.inl rfl),pif_nil,pe_op op_add_str (pe_op op_add_str (pe_slice sl_str (pv 1) po_none (po_some (pv 2))) (pv 0)) (pe_slice sl_str (pv 1) (po_some (pv 2)) (po_some (pv 3)))⟩
    case comp_2 =>
      refine' pe_compI (Nc:=["_law_k","_law_frame"]) (cl:=[("_law_frame",s.heap.objs.size+5)]) (src:=[none,some 5]) (wi:=iRng1 (tCons (tVar 1) tNil)) (g:=gName 0) (tt:=tNoIf)
        (te:=tSl rSlS (tOp (fun x y H Q=>∃ i j:Str,x = .str i∧y = .str j∧i.length+j.length≤sizeLine∧Q (.str (i++j)) H) (tC (.str "q")) (tVar 1)) tNoPart (tPart (tOp (rI0 fun i j=>.int (i+j)) (tC (.int 1)) (tVar 0))))
        ⟨rfl,rfl,by decide +kernel,by decide +kernel,sub_of (sub1 rfl),has_of (by rfl),frm_none (frm_some ⟨_,rfl,rfl,rfl,rfl⟩ frm_nil),rfl⟩ rfl (pi_range1 rfl G.range (pa_cons (pv 1) pa_nil)) ?hb
      case hb =>
        intro fp C' s' H'
        exact⟨pg_name (i:=0) nc2 rfl (Or.inl rfl),pif_nil,pe_slice sl_str (pe_op op_add_str pe_str (pv 1)) po_none (po_some (pe_op op_add pe_int (pv 0)))⟩
    case comp_1 =>
      refine' pe_compI (Nc:=["_law_k","_law_words","_law_number"]) (cl:=[("_law_words",s.heap.objs.size+8),("_law_number",s.heap.objs.size+4)]) (src:=[none,some 9,some 4]) (wi:=iRng1 (tCons (tVar 1) tNil)) (g:=gName 0) (tt:=tNoIf)
        (te:=tOp (rIxL K) (tVar 1) (tOp (rI (fun _ j=>0<j) fun i j=>.int (i%j)) (tOp (rI0 fun i j=>.int (i+j)) (tOp (rI CDiv fun i j=>.int (i/j)) (tVar 2) (tC (.int 3))) (tVar 0)) (tC (.int 10))))
        ⟨rfl,rfl,by decide +kernel,by decide +kernel,sub_of (subN rfl (sub1 rfl)),has_of (by rfl),frm_none (frm_some ⟨_,rfl,rfl,rfl,rfl⟩ (frm_some ⟨_,rfl,rfl,rfl,rfl⟩ frm_nil)),rfl⟩ rfl (pi_range1 rfl G.range (pa_cons (pv 1) pa_nil)) ?hb
      case hb =>
        intro fp C' s' H'
        exact⟨pg_name (i:=0) nc1 rfl (Or.inl rfl),pif_nil,pe_at ix_list (pv 1) (pe_op op_mod (pe_op op_add (pe_op op_fdiv (pv 2) pe_int) (pv 0)) pe_int)⟩
    dsimp (config:={ proj:=false,iota:=false,beta:=false,eta:=false }) only [cxOf_K,nox_K]
    have rl:∀ m:Nat,((List.range m).map fun k=>V.int (0+((k:Nat):Int))).length=(List.range m).length:=fun m=>List.length_map _
    refine⟨_,rfl,c,_,rfl,fun u u0 u1=>?_⟩
    refine⟨rfl,7,rfl,by decide,by decide,fun D hD=>?_⟩
    refine comp_rel (walk_rng (n:=7)) (rl 7) hD (by rw[List.length_range,sizeLine_eq];decide) (fun v _=>∃ d,v = .str ⟨#[d]⟩∧isSm d=true) (fun i x v hx hv H1 R s1 r=>?_) (fun zs H1 s1 zl zr e1=>?_)
    · rw[List.getElem?_map] at hv
      obtain⟨k,hk,rfl⟩:=Option.map_eq_some_iff.mp hv
      refine⟨_,rfl,_,rfl,_,rfl,_,_,rfl,rfl,c,_,rfl,fun m m0 m1=>?_⟩
      obtain⟨d,d1,d2⟩:=sm_at (i:=m%21) (Int.emod_nonneg _ (by decide)) (Int.emod_lt_of_pos _ (by decide))
      exact⟨_,_,rfl,rfl,(by show (0:Int)<21;decide),_,_,d,rfl,rfl,fitS (m:=21) (by decide +kernel) rfl,d1,r _ _ ⟨d,rfl,d2⟩ (Same.refl _)⟩
    obtain⟨fs,rfl,fa⟩:=signs_of (mem_rel zr)
    have fl:fs.length=7:=by
      rw[List.length_map,List.length_map,List.length_range] at zl
      exact zl
    have jo:=(join_small (sep:="") (zs:=fs.map fun c=>(⟨#[c]⟩:Str)) (m:=1) (k:=7) (fun z hz=>by obtain⟨_,_,rfl⟩:=List.mem_map.mp hz;exact Nat.le_refl _) (by rw[List.length_map,fl];exact Nat.le_refl _) (by decide +kernel) rfl).1
    refine⟨_,_,D,rfl,rfl,SqL.of e1,jo,?_⟩
    have zc:=join_codes fs
    generalize Txt.join ("":Str) (fs.map fun c=>(⟨#[c]⟩:Str))=z at zc
    clear jo zl zr e1 hD
    have zl:z.length=7:=by rw[len_codes,zc,fl]
    have a0:0≤u/3%8:=Int.emod_nonneg _ (by decide)
    have a1:u/3%8<8:=Int.emod_lt_of_pos _ (by decide)
    refine⟨_,rfl,_,_,rfl,rfl,⟨by decide,by decide⟩,_,_,rfl,rfl,(by show (0:Int)<8;decide),?_⟩
    dsimp only
    obtain⟨at',hat⟩:=Int.eq_ofNat_of_zero_le a0
    rw[hat] at a0 a1 ⊢
    have b0:0≤u/24%(8 - (at':Int)):=Int.emod_nonneg _ (by omega)
    have b1:u/24%(8 - (at':Int))<8 - (at':Int):=Int.emod_lt_of_pos _ (by omega)
    refine⟨_,rfl,_,rfl,_,_,rfl,rfl,⟨by decide,by decide⟩,_,rfl,_,_,rfl,rfl,_,_,rfl,rfl,(by show (0:Int)<8 - (at':Int);omega),_,_,rfl,rfl,?_⟩
    dsimp only
    obtain⟨sz,hsz⟩:∃ sz:Nat,(at':Int)+u/24%(8 - (at':Int))=sz:=⟨(at':Int).toNat+(u/24%(8 - (at':Int))).toNat,by omega⟩
    have sz1:at'≤sz:=by omega
    have sz2:sz≤7:=by omega
    rw[hsz]
    clear hsz b0 b1 hat a0
    refine⟨_,rfl,_,_,rfl,rfl,(by show (0:Int)<3;decide),rfl,_,rfl,ite2 (fun _=>?_) (fun _=>?_)⟩
    · refine⟨_,rfl,_,rfl,by omega,by omega,fun D hD=>?_⟩
      rw[Int.toNat_natCast]
      refine comp_rel (walk_rng (n:=n)) (rl n) hD (by rw[List.length_range,sizeLine_eq];omega) (fun v k=>v = .str ⟨#[97+((u/200+3*(k:Nat))%26).toNat]⟩) (fun i x v hx hv H2 R s2 r=>?_) (fun zs H2 s2 zsl zr e2=>?_)
      · rw[List.getElem?_map,hx] at hv
        cases hv
        have d1:=letter_val (i:=(u/200+3*(0+(x:Int)))%26) (Int.emod_nonneg _ (by decide)) (Int.emod_lt_of_pos _ (by decide))
        exact⟨_,rfl,_,rfl,_,_,rfl,rfl,⟨by decide,by decide⟩,_,rfl,_,_,rfl,rfl,.inl ⟨by decide,by decide⟩,_,_,rfl,rfl,_,_,rfl,rfl,(by show (0:Int)<26;decide),_,_,_,rfl,rfl,letters_len,d1,r _ _ (by rw[Int.zero_add]) (Same.refl _)⟩
      rw[List.length_range] at zsl
      refine⟨_,rfl,D,rfl,⟨_,SqL.of e2⟩,fun D3 hD3=>?_⟩
      refine comp_rel (xs:=List.range n) (walk_list (SqL.of e2)) (by rw[zsl,List.length_range]) hD3 (by rw[List.length_range,sizeLine_eq];omega) (fun v k=>∃ y,v = .str y∧RName y∧y.cps.toList[at']? = some (97+((u/200+3*(k:Nat))%26).toNat)) (fun i x v hx hv H3 R s3 r=>?_) (fun ws H3 s3 wl wr e3=>?_)
      · obtain⟨x',hx',rfl⟩:=zr i v hv
        rw[hx] at hx'
        cases hx'
        obtain⟨d,hde⟩:∃ d,d=97+((u/200+3*(x:Nat))%26).toNat:=⟨_,rfl⟩
        have hd:isL d=true:=by
          have h0:0≤(u/200+3*(x:Nat))%26:=Int.emod_nonneg _ (by decide)
          have h1:(u/200+3*(x:Nat))%26<26:=Int.emod_lt_of_pos _ (by decide)
          unfold isL
          rw[Bool.and_eq_true]
          exact⟨decide_eq_true (by omega),decide_eq_true (by omega)⟩
        rw[← hde] at r ⊢
        have zf:z.length≤sizeLine:=fitS (m:=7) (by omega) rfl
        have sl:∀ lo hi,(Txt.slice z lo hi).length≤7:=fun lo hi=>Nat.le_trans (Txt.slice_le z lo hi) (by omega)
        have o1:(⟨#[d]⟩:Str).length≤1:=Nat.le_refl _
        refine⟨_,rfl,_,rfl,_,rfl,_,rfl,zf,_,rfl,_,_,rfl,rfl,fitA (sl _ _) o1 rfl,_,rfl,_,rfl,_,rfl,_,rfl,_,rfl,_,rfl,zf,_,_,rfl,rfl,fitA (app_le (sl _ _) o1) (sl _ _) rfl,r _ _ ⟨_,rfl,rname_mid fa fl hd sz1 sz2 ?_,?_⟩ (Same.refl _)⟩
        · rw[app_codes,app_codes,cut_upto,cut_mid _ _ _ (by rw[zc,fl];exact sz2) sz1,zc]
        · rw[app_codes,app_codes,cut_upto,zc]
          have tl:(fs.take at').length=at':=by rw[List.length_take];omega
          rw[List.append_assoc,List.getElem?_append_right (by rw[tl];exact Nat.le_refl _),tl,Nat.sub_self]
          rfl
      obtain⟨nms,rfl,hn,ht⟩:=texts_at wr
      rw[List.length_map,List.length_range] at wl
      refine q nms D3 H3 wl hn (nodup_at ht fun i j z hi hj h1 h2=>?_) (s1.trans (s2.trans s3)) (s1.free (s2.free hD3)) e3
      rw[wl] at hi hj
      rw[h1] at h2
      have h2:=Option.some.inj h2
      have a0:0≤(u/200+3*(i:Nat))%26:=Int.emod_nonneg _ (by decide)
      have a1:0≤(u/200+3*(j:Nat))%26:=Int.emod_nonneg _ (by decide)
      omega
    refine⟨_,rfl,_,_,rfl,rfl,(by show (0:Int)<3;decide),rfl,_,rfl,ite2 (fun _=>?_) (fun _=>?_)⟩
    · refine⟨_,rfl,_,rfl,by omega,by omega,fun D hD=>?_⟩
      rw[Int.toNat_natCast]
      refine comp_rel (walk_rng (n:=n)) (rl n) hD (by rw[List.length_range,sizeLine_eq];omega) (fun v k=>∃ y,v = .str y∧RName y∧y.cps.toList.length=min (k+1) 8) (fun i k v hx hv H2 R s2 r=>?_) (fun zs H2 s2 zsl zr e2=>?_)
      · rw[List.getElem?_map,hx] at hv
        cases hv
        have q1:("q":Str).length=1:=by decide +kernel
        refine⟨_,rfl,_,_,rfl,rfl,fitS (m:=8) (by rw[q1,zl];decide) rfl,_,rfl,_,_,rfl,rfl,_,rfl,_,rfl,fitS (m:=8) (by rw[app_len,q1,zl];decide) rfl,r _ _ ⟨_,rfl,rname_q (k:=k) fa fl ?_,?_⟩ (Same.refl _)⟩
        · rw[show (1:Int)+(0+(k:Int))=((k+1:Nat):Int) by omega,cut_upto,app_codes,zc,show ("q":Str).cps.toList=[113] by decide +kernel]
          rfl
        · rw[show (1:Int)+(0+(k:Int))=((k+1:Nat):Int) by omega,cut_upto,app_codes,zc,show ("q":Str).cps.toList=[113] by decide +kernel,List.length_take]
          show min (k+1) (fs.length+1)=_
          rw[fl]
      obtain⟨nms,rfl,hn,ht⟩:=texts_at zr
      rw[List.length_map,List.length_range] at zsl
      refine q nms D H2 zsl hn (nodup_at ht fun i j z hi hj h1 h2=>?_) (s1.trans s2) (s1.free hD) e2
      omega
    refine⟨lenOk rfl,fun lw H2 s2 n2 e2=>?_⟩
    refine⟨_,rfl,_,rfl,by omega,by omega,fun D hD=>?_⟩
    rw[Int.toNat_natCast]
    refine comp_rel (walk_rng (n:=n)) (rl n) hD (by rw[List.length_range,sizeLine_eq];omega) (fun v k=>∃ y,v = .str y∧RName y∧okNames[((u/3+(k:Nat))%10).toNat]? = some y) (fun i k v hx hv H3 R s3 r=>?_) (fun zs H3 s3 zsl zr e3=>?_)
    · rw[List.getElem?_map,hx] at hv
      cases hv
      have i0:0≤(u/3+(0+(k:Int)))%10:=Int.emod_nonneg _ (by decide)
      have i1:(u/3+(0+(k:Int)))%10<10:=Int.emod_lt_of_pos _ (by decide)
      obtain⟨y,hy⟩:∃ y,okNames[((u/3+(0+(k:Int)))%10).toNat]? = some y:=⟨_,List.getElem?_eq_getElem (show _<10 by omega)⟩
      have ev:atI (okNames.map V.str) ((u/3+(0+(k:Int)))%10)=some (.str y):=atI_of i0 (by rw[List.getElem?_map,hy];rfl)
      have hm:=List.mem_of_getElem? hy
      exact⟨_,rfl,_,rfl,_,_,rfl,rfl,⟨by decide,by decide⟩,_,rfl,_,_,rfl,rfl,_,_,rfl,rfl,(by show (0:Int)<10;decide),lw,_,_,_,rfl,rfl,SqL.of (s3 _ _ e2),ev,r _ _ ⟨y,rfl,rname_word y hm,by rw[Int.zero_add] at hy;exact hy⟩ (Same.refl _)⟩
    obtain⟨nms,rfl,hn,ht⟩:=texts_at zr
    rw[List.length_map,List.length_range] at zsl
    refine q nms D H3 zsl hn (nodup_at ht fun i j z hi hj h1 h2=>?_) (s1.trans (s2.trans s3)) (s1.free (s2.free hD)) e3
    rw[zsl] at hi hj
    have e:=ok_inj h1 h2
    have a0:0≤(u/3+(i:Nat))%10:=Int.emod_nonneg _ (by decide)
    have a1:0≤(u/3+(j:Nat))%10:=Int.emod_nonneg _ (by decide)
    omega
end
end K13
namespace K13
open PySem PySem.NumText L2 Pg
seal PE PA PT PW PS PSs PG PGs PI PIf PO PK
section
variable {P:Program} {w:World} {K:PySem.W.Frag} {mg:Str→Option Value} {base:Heap} {f:Addr} {fd:FuncData} {d:Nat→Addr} {cR:Addr}
set_option maxHeartbeats 4000000 in
theorem ok_prsR (F:Fun K "_law_pairs" "_law_pairs" (top 75) f fd) (G:Glb mg) (C1:Cal P w K mg base CX0 1 "_law_mixed" ["_law_cell","_law_k"] sp_mixR) (C2:Cal P w K mg base CX0 2 "_law_parts" ["_law_cell","_law_k"] sp_prtR):FnOk P w K mg base CX0 3 f fd ["_law_cell"] sp_prsR:=by
  have nd:(["_law_cell","_law_number","_law_pairs_here","_law_k","_law_more","_law_step"]:List Str).Nodup:=by decide +kernel
  refine F.ok (N:=["_law_cell","_law_number","_law_pairs_here","_law_k","_law_more","_law_step"]) ⟨rfl,rfl,rfl,by decide +kernel,rfl,by decide +kernel,by decide +kernel⟩ (fun vs H Q E h=>?_) (fun cdv A outer s H vs Q E hr h=>?_)
  · obtain⟨c,rfl,_⟩:=h
    rfl
  · obtain⟨c,rfl,q⟩:=h
    refine⟨_,(pss_cons (ps_set (i:=1) nd rfl (Or.inl rfl) (pe_cal C1 hr (by decide) pass0 (pa_cons (pv 0) (pa_cons pe_int pa_nil))))
        (pss_cons (ps_set (i:=2) nd rfl (Or.inl rfl) (pe_lstS (pa_cons (pe_tupS (pa_cons pe_int (pa_cons (pe_cal C2 hr (by decide) pass0 (pa_cons (pv 0) (pa_cons pe_int pa_nil))) pa_nil))) pa_nil)))
        (pss_cons (ps_for PassesOwn.never rfl (pi_range1 rfl G.range (pa_cons (pe_at ix_list (pe_lstS (pa_cons pe_int (pa_cons pe_int (pa_cons pe_int (pa_cons pe_int (pa_cons pe_int (pa_cons (pe_op op_mod (pe_op op_fdiv (pv 1) pe_int) pe_int) pa_nil))))))) (pe_op op_mod (pv 1) pe_int)) pa_nil)) (pg_name (i:=3) nd rfl (Or.inl rfl)) (pss_cons (ps_set (i:=4) nd rfl (Or.inl rfl) (pe_cal C1 hr (by decide) pass0 (pa_cons (pv 0) (pa_cons (pe_op op_add pe_int (pv 3)) pa_nil))))
        (pss_cons (ps_set (i:=5) nd rfl (Or.inl rfl) (pe_at ix_list (pe_lstS (pa_cons pe_int (pa_cons (pe_op op_add pe_int (pe_op op_mod (pe_op op_fdiv (pv 4) pe_int) pe_int)) (pa_cons (pe_op op_mul (pv 4) pe_int) (pa_cons (pe_op op_add (pe_op op_mul (pe_op op_mod (pe_op op_fdiv (pv 4) pe_int) pe_int) pe_int) pe_int) (pa_cons (pe_op op_add pe_int (pe_op op_mul (pe_op op_fdiv (pv 4) pe_int) pe_int)) pa_nil)))))) (pe_op op_mod (pv 4) pe_int)))
        (pss_one (ps_if (pt_cmpR op_le (pe_op op_add (pe_at ix_tup (pe_at ix_list (pv 2) (pe_un un_neg pe_int)) pe_int) (pv 5)) (pe_op op_pow pe_int pe_int) (nomark _)) (pss_one (ps_expr (pe_bm PySem.F.plainAttrs_list PySem.F.slot_list_append PySem.F.type_list_append mt_append (pv 2) (pa_cons (pe_tupS (pa_cons (pe_op op_add (pe_at ix_tup (pe_at ix_list (pv 2) (pe_un un_neg pe_int)) pe_int) (pv 5)) (pa_cons (pe_cal C2 hr (by decide) pass0 (pa_cons (pv 0) (pa_cons (pe_op op_add pe_int (pv 3)) pa_nil))) pa_nil))) pa_nil)))) pss_nil)))))
        (pss_one (ps_ret (pe_callTy call_tuple_of rfl G.tuple boot_tuple (pa_cons (pv 2) pa_nil))))))),?_⟩
    refine⟨_,rfl,c,_,rfl,fun m m0 m1=>⟨_,rfl,c,_,rfl,fun p H1 hp s1=>⟨lenOk rfl,fun t H2 s2 n2 e2=>⟨lenOk rfl,fun l H3 s3 n3 e3=>?_⟩⟩⟩⟩
    have T3:TupsAt H3 [V.ref t] ([((0:Int),p)].map cB):=TupsAt.snoc TupsAt.nil (s3 _ _ e2)
    have S3:=s1.trans (s2.trans s3)
    have l0:H l=none:=was_none (s1.trans s2) n3
    refine⟨_,rfl,_,_,rfl,rfl,⟨by decide,by decide⟩,_,_,rfl,rfl,(by show (0:Int)<12;decide),lenOk rfl,fun g H4 s4 n4 e4=>?_⟩
    obtain⟨v,ev,mv⟩:=at_any (xs:=[V.int 0,.int 1,.int 2,.int 3,.int 11,.int (m/30%12)]) (i:=m%6) (Int.emod_nonneg _ (by decide)) (Int.emod_lt_of_pos _ (by decide))
    obtain⟨n,rfl,h0,h1⟩:∃ n,v = .int n∧0≤n∧n≤11:=by
      simp only[List.mem_cons,List.not_mem_nil,or_false] at mv
      rcases mv with rfl | rfl | rfl | rfl | rfl | rfl
      all_goals exact⟨_,rfl,by omega,by omega⟩
    refine⟨_,rfl,_,_,rfl,rfl,(by show (0:Int)<6;decide),g,_,_,_,rfl,rfl,SqL.of e4,ev,n,rfl,by omega,by omega,for_range2 (fun i σ H'=>∃ x3 x4 x5,∃ ps ys,An4 (σ = [some (.int c),some (.int m),some (.ref l),x3,x4,x5]) (Same H H') (H' l=some (.lst ys)∧TupsAt H' ys (ps.map cB)) (BdI ps i)) ⟨_,_,_,_,_,rfl,S3.trans s4,⟨s4 _ _ e3,T3.same s4⟩,.one hp⟩ ?_ ?_⟩
    · rintro i σ H5 hi ⟨x3,x4,x5,ps,ys,rfl,s5,⟨e5,T5⟩,bi⟩ E5 k5
      refine⟨_,rfl,_,rfl,_,_,rfl,rfl,c,_,rfl,fun a a0 a1=>?_⟩
      refine⟨_,rfl,_,_,rfl,rfl,⟨by decide,by decide⟩,_,_,rfl,rfl,(by show (0:Int)<20;decide),_,_,rfl,rfl,_,rfl,_,_,rfl,rfl,.inr ⟨by decide,by decide⟩,_,rfl,_,_,rfl,rfl,⟨by decide,by decide⟩,_,_,rfl,rfl,(by show (0:Int)<9;decide),_,_,rfl,rfl,.inr ⟨by decide,by decide⟩,_,_,rfl,rfl,_,rfl,_,_,rfl,rfl,⟨by decide,by decide⟩,_,_,rfl,rfl,.inr ⟨by decide,by decide⟩,_,_,rfl,rfl,lenOk rfl,fun g6 H6 s6 n6 e6=>?_⟩
      obtain⟨v6,ev6,mv6⟩:=five_at (a:=V.int 1) (b:=.int (2+a/5%20)) (c:=.int (a*30)) (d:=.int (a/5%9*5000+1)) (e:=.int (1+a/5*200000)) (i:=a%5) (Int.emod_nonneg _ (by decide)) (Int.emod_lt_of_pos _ (by decide))
      obtain⟨st,rfl,st1⟩:∃ st,v6 = .int st∧1≤st:=by
        rcases mv6 with ⟨h,rfl⟩ | ⟨h,rfl⟩ | ⟨h,rfl⟩ | ⟨h,rfl⟩ | ⟨h,rfl⟩
        all_goals exact⟨_,rfl,by omega⟩
      obtain⟨qs,z,rfl⟩:=bi.last
      have T6:=T5.same s6
      have e6':=s6 _ _ e5
      obtain⟨b,eb,hb⟩:=bds_last T6
      refine⟨_,rfl,_,_,rfl,rfl,(by show (0:Int)<5;decide),g6,_,_,_,rfl,rfl,SqL.of e6,ev6,?_⟩
      have p12:(10:Int) ^ (12:Int).toNat=1000000000000:=by decide
      refine⟨_,rfl,_,rfl,l,_,_,_,rfl,rfl,SqL.of e6',eb,b,_,_,_,rfl,rfl,SqT.of hb,rfl,_,rfl,_,_,rfl,rfl,_,_,rfl,rfl,⟨by decide,by decide,by decide⟩,_,_,rfl,rfl,_,rfl,ite2 (fun e=>?_) (fun e=>?_)⟩
      · have e:=of_decide_eq_true e
        rw[p12] at e
        refine⟨_,rfl,.inl ⟨rfl,_,SqL.of e6'⟩,_,rfl,_,rfl,l,_,_,_,rfl,rfl,SqL.of e6',eb,b,_,_,_,rfl,rfl,SqT.of hb,rfl,_,rfl,_,_,rfl,rfl,_,rfl,_,rfl,_,_,rfl,rfl,c,_,rfl,fun p2 H7 hp2 s7=>⟨lenOk rfl,fun t2 H8 s8 n8 e8=>?_⟩⟩
        have e8l:=s8 _ _ (s7 _ _ e6')
        have fw:=bi.few
        refine⟨l,_,_,rfl,rfl,e8l,?_,?_⟩
        · rw[T5.len,List.length_map,sizeLine_eq]
          have:i<n.toNat:=hi
          omega
        · refine k5 _ _ ⟨_,_,_,qs++[z]++[(z.1+st,p2)],_,rfl,fun x o hx=>?_,⟨upd_same,?_⟩,bi.snoc st1 e hp2⟩
          · rw[upd_ne (ne_of_none hx l0)]
            exact s8 _ _ (s7 _ _ (s6 _ _ (s5 _ _ hx)))
          · rw[List.map_append]
            exact snoc_new ((T6.same s7)) (s7 _ _ e6') s8 e8
      · exact k5 _ _ ⟨_,_,_,_,_,rfl,s5.trans s6,⟨e6',T6⟩,bi.mono⟩
    · rintro σ H5 ⟨x3,x4,x5,ps,ys,rfl,s5,⟨e5,T5⟩,bi⟩
      refine⟨_,rfl,l,_,rfl,.inl ⟨SqL.of e5,fun u u0=>?_⟩⟩
      have su:Same H5 (upd H5 u (.tup ys)):=Same.upd u0
      exact q u ps _ (bi.done (by omega)) (s5.trans su) ⟨ys,upd_same,T5.same su⟩
theorem ok_plnG (F:Fun K "_law_plain" "_law_plain" (top 76) f fd) (C1:Cal P w K mg base CX0 2 "_law_amount" ["_law_cell","_law_k"] sp_amtR) (C2:Cal P w K mg base CX0 2 "_law_parts" ["_law_cell","_law_k"] sp_prtR) (C3:Cal P w K mg base CX0 2 "_law_way" ["_law_cell","_law_k"] sp_wayR) (C4:Cal P w K mg base CX0 3 "_law_pairs" ["_law_cell"] sp_prsR):FnOk P w K mg base CX0 4 f fd ["_law_cell","_law_name","_law_kind"] sp_plnG:=by
  refine F.ok (N:=["_law_cell","_law_name","_law_kind"]) ⟨rfl,rfl,rfl,by decide +kernel,rfl,by decide +kernel,by decide +kernel⟩ (fun vs H Q E h=>?_) (fun cdv A outer s H vs Q E hr h=>?_)
  · obtain⟨c,z,k,rfl,_⟩:=h
    rfl
  · obtain⟨c,z,k,rfl,hz,k0,k4,q⟩:=h
    refine⟨_,(pss_cons (ps_if (pt_cmpR op_eq (pv 2) pe_int (nomark _)) (pss_one (ps_ret (pe_tupS (pa_cons pe_str (pa_cons (pv 1) (pa_cons (pe_cal C1 hr (by decide) pass0 (pa_cons (pv 0) (pa_cons pe_int pa_nil))) pa_nil)))))) pss_nil)
        (pss_cons (ps_if (pt_cmpR op_eq (pv 2) pe_int (nomark _)) (pss_one (ps_ret (pe_tupS (pa_cons pe_str (pa_cons (pv 1) (pa_cons (pe_cal C2 hr (by decide) pass0 (pa_cons (pv 0) (pa_cons pe_int pa_nil))) (pa_cons (pe_cal C3 hr (by decide) pass0 (pa_cons (pv 0) (pa_cons pe_int pa_nil))) pa_nil))))))) pss_nil)
        (pss_cons (ps_if (pt_cmpR op_eq (pv 2) pe_int (nomark _)) (pss_one (ps_ret (pe_tupS (pa_cons pe_str (pa_cons (pv 1) (pa_cons (pe_cal C2 hr (by decide) pass0 (pa_cons (pv 0) (pa_cons pe_int pa_nil))) (pa_cons (pe_cal C1 hr (by decide) pass0 (pa_cons (pv 0) (pa_cons pe_int pa_nil))) (pa_cons (pe_cal C3 hr (by decide) pass0 (pa_cons (pv 0) (pa_cons pe_int pa_nil))) pa_nil)))))))) pss_nil)
        (pss_cons (ps_if (pt_cmpR op_eq (pv 2) pe_int (nomark _)) (pss_one (ps_ret (pe_tupS (pa_cons pe_str (pa_cons (pv 1) (pa_cons (pe_cal C2 hr (by decide) pass0 (pa_cons (pv 0) (pa_cons pe_int pa_nil))) (pa_cons (pe_cal C1 hr (by decide) pass0 (pa_cons (pv 0) (pa_cons pe_int pa_nil))) (pa_cons (pe_cal C3 hr (by decide) pass0 (pa_cons (pv 0) (pa_cons pe_int pa_nil))) pa_nil)))))))) pss_nil)
        (pss_one (ps_ret (pe_tupS (pa_cons pe_str (pa_cons (pv 1) (pa_cons (pe_cal C4 hr (by decide) pass0 (pa_cons (pv 0) pa_nil)) (pa_cons (pe_cal C3 hr (by decide) pass0 (pa_cons (pv 0) (pa_cons pe_int pa_nil))) pa_nil))))))))))),?_⟩
    refine⟨_,rfl,rfl,_,rfl,ite2 (fun e=>?_) (fun e=>?_)⟩
    · rw[dInt] at e
      exact⟨_,rfl,_,rfl,c,_,rfl,fun a H1 ha s1=>⟨lenOk rfl,fun t H2 s2 n2 e2=>q _ (.flat z a) H2 (.pln (.flat hz ha)) rfl e.symm (s1.trans s2) (.pln (Nat.le_of_ble_eq_true rfl) ⟨t,rfl,e2⟩)⟩⟩
    rw[dInt] at e
    refine⟨_,rfl,rfl,_,rfl,ite2 (fun e1=>?_) (fun e1=>?_)⟩
    · rw[dInt] at e1
      exact⟨_,rfl,_,rfl,c,_,rfl,fun p H1 hp s1=>⟨_,rfl,c,_,rfl,fun w H2 hw s2=>⟨lenOk rfl,fun t H3 s3 n3 e3=>q _ (.share z p w) H3 (.pln (.share hz hp hw)) rfl e1.symm (s1.trans (s2.trans s3)) (.pln (Nat.le_of_ble_eq_true rfl) ⟨t,rfl,e3⟩)⟩⟩⟩
    rw[dInt] at e1
    refine⟨_,rfl,rfl,_,rfl,ite2 (fun e2=>?_) (fun e2=>?_)⟩
    · rw[dInt] at e2
      exact⟨_,rfl,_,rfl,c,_,rfl,fun p H1 hp s1=>⟨_,rfl,c,_,rfl,fun a H2 ha s2=>⟨_,rfl,c,_,rfl,fun w H3 hw s3=>⟨lenOk rfl,fun t H4 s4 n4 e4=>q _ (.capped z p a w) H4 (.pln (.capped hz hp ha hw)) rfl e2.symm (s1.trans (s2.trans (s3.trans s4))) (.pln (Nat.le_of_ble_eq_true rfl) ⟨t,rfl,e4⟩)⟩⟩⟩⟩
    rw[dInt] at e2
    refine⟨_,rfl,rfl,_,rfl,ite2 (fun e3=>?_) (fun e3=>?_)⟩
    · rw[dInt] at e3
      exact⟨_,rfl,_,rfl,c,_,rfl,fun p H1 hp s1=>⟨_,rfl,c,_,rfl,fun a H2 ha s2=>⟨_,rfl,c,_,rfl,fun w H3 hw s3=>⟨lenOk rfl,fun t H4 s4 n4 e4=>q _ (.least z p a w) H4 (.pln (.least hz hp ha hw)) rfl e3.symm (s1.trans (s2.trans (s3.trans s4))) (.pln (Nat.le_of_ble_eq_true rfl) ⟨t,rfl,e4⟩)⟩⟩⟩⟩
    rw[dInt] at e3
    exact⟨_,rfl,_,rfl,c,rfl,fun u ps H1 hok s1 bd=>⟨_,rfl,c,_,rfl,fun w H2 hw s2=>⟨lenOk rfl,fun t H3 s3 n3 e3'=>q _ (.bands z ps w) H3 (.bands hz hok hw) rfl (by show (4:Int)=k;omega) (s1.trans (s2.trans s3)) (.bands e3' ((bd.same s2).same s3))⟩⟩⟩
end
end K13
namespace K13
open PySem PySem.NumText L2 Pg
seal PE PA PT PW PS PSs PG PGs PI PIf PO PK
section
variable {P:Program} {w:World} {K:PySem.W.Frag} {mg:Str→Option Value} {base:Heap} {f:Addr} {fd:FuncData} {d:Nat→Addr} {cR:Addr}
set_option maxHeartbeats 4000000 in
theorem ok_pcsL (F:Fun K "_law_pieces" "_law_pieces" (top 79) f fd) (G:Glb mg):FnOk P w K mg base CX0 1 f fd ["_law_pairs_here","_law_total"] sp_pcsL:=by
  have nd:(["_law_pairs_here","_law_total","_law_found","_law_k","_law_end"]:List Str).Nodup:=by decide +kernel
  refine F.ok (N:=["_law_pairs_here","_law_total","_law_found","_law_k","_law_end"]) ⟨rfl,rfl,rfl,by decide +kernel,rfl,by decide +kernel,by decide +kernel⟩ (fun vs H Q E h=>?_) (fun cdv A outer s H vs Q E hr h=>?_)
  · obtain⟨u,ps,t,rfl,_⟩:=h
    rfl
  · obtain⟨u,ps,t,rfl,⟨ys,hu,T⟩,ok,q⟩:=h
    refine⟨_,(pss_cons (ps_set (i:=2) nd rfl (Or.inl rfl) (pe_lstS pa_nil))
        (pss_cons (ps_for PassesOwn.never rfl (pi_range1 rfl G.range (pa_cons (pe_callB call_len_seq rfl G.len boot_len (pa_cons (pv 0) pa_nil)) pa_nil)) (pg_name (i:=3) nd rfl (Or.inl rfl)) (pss_cons (ps_set (i:=4) nd rfl (Or.inl rfl) (pv 1))
        (pss_cut (ps_if (pt_cmpR op_lt (pe_op op_add (pv 3) pe_int) (pe_callB call_len_seq rfl G.len boot_len (pa_cons (pv 0) pa_nil)) (nomark _)) (pss_one (ps_set (i:=4) nd rfl (Or.inl rfl) (pe_callB (call_min2 rfl) rfl G.min PyProof.Rows.boot_min (pa_cons (pv 1) (pa_cons (pe_at ix_tup (pe_at ix_tup (pv 0) (pe_op op_add (pv 3) pe_int)) pe_int) pa_nil))))) pss_nil)
        (pss_one (ps_expr (pe_bm PySem.F.plainAttrs_list PySem.F.slot_list_append PySem.F.type_list_append mt_append (pv 2) (pa_cons (pe_callB (call_max2 rfl) rfl G.max PyProof.Rows.boot_max (pa_cons pe_int (pa_cons (pe_op op_sub (pv 4) (pe_at ix_tup (pe_at ix_tup (pv 0) (pv 3)) pe_int)) pa_nil))) pa_nil)))))))
        (pss_one (ps_ret (pv 2))))),?_⟩
    have few:=ok.few
    have yl:ys.length=ps.length:=by rw[T.len,List.length_map]
    refine⟨lenOk rfl,fun l H1 s1 n1 e1=>⟨_,rfl,u,_,rfl,.inr (SqT.of (s1 _ _ hu)),_,rfl,by rw[yl];omega,by rw[yl];omega,?_⟩⟩
    rw[yl,Int.toNat_natCast]
    refine for_range2 (fun i σ H'=>∃ x3 x4,An4 (σ = [some (.ref u),some (.int t),some (.ref l),x3,x4]) (Same H H') (H' l=some (.lst (((pcs ps t).take i).map V.int))) True) ⟨_,_,rfl,s1,e1,trivial⟩ ?_ ?_
    · rintro i σ H2 hi ⟨x3,x4,rfl,s2,e2,_⟩ E2 k2
      have hq:=List.getElem?_eq_getElem hi
      have hu2:=s2 _ _ hu
      have T2:=T.same s2
      have z0:(0:Int)+(i:Nat)=(i:Nat):=Int.zero_add _
      rw[z0]
      refine⟨_,rfl,?_⟩
      refine cut_to (fun σ H'=>σ = [some (.ref u),some (.int t),some (.ref l),some (.int (i:Nat)),some (.int (pcE (ps.drop (i+1)) t))]∧H'=H2) (fun En kk=>?_) ?_
      · refine⟨_,rfl,_,_,rfl,rfl,_,rfl,u,_,rfl,.inr (SqT.of hu2),_,_,rfl,rfl,_,rfl,ite2 (fun e=>?_) (fun e=>?_)⟩
        · have e:=of_decide_eq_true e
          rw[yl] at e
          have hi1:i+1<ps.length:=by omega
          have hq1:=List.getElem?_eq_getElem hi1
          obtain⟨b,eb,hb⟩:=bds_at T2 hq1
          refine⟨_,rfl,_,rfl,_,rfl,_,_,rfl,rfl,u,_,_,_,rfl,rfl,SqT.of hu2,atI_nat (j:=i+1) eb,b,_,_,_,rfl,rfl,SqT.of hb,rfl,_,_,rfl,kk _ _ ⟨?_,rfl⟩⟩
          rw[pcE_drop,hq1]
          rfl
        · have e:¬ ((i:Nat):Int)+1<(ys.length:Nat):=fun c=>e (decide_eq_true c)
          rw[yl] at e
          refine kk _ _ ⟨?_,rfl⟩
          rw[pcE_drop,List.getElem?_eq_none (by omega)]
          rfl
      · rintro σ H3 ⟨rfl,rfl⟩
        obtain⟨b,eb,hb⟩:=bds_at T2 hq
        refine⟨_,rfl,.inl ⟨rfl,_,SqL.of e2⟩,_,rfl,_,rfl,_,rfl,u,_,_,_,rfl,rfl,SqT.of hu2,atI_nat eb,b,_,_,_,rfl,rfl,SqT.of hb,rfl,_,_,rfl,rfl,_,_,rfl,l,_,_,rfl,rfl,e2,?_,?_⟩
        · rw[List.length_map,List.length_take,pcs_len,sizeLine_eq]
          omega
        · refine k2 _ _ ⟨_,_,rfl,fun x o hx=>?_,?_,trivial⟩
          · rw[upd_ne (ne_of_none hx n1)]
            exact s2 _ _ hx
          · rw[upd_same,pcs_take hq,List.map_append]
            rfl
    · rintro σ H2 ⟨x3,x4,rfl,s2,e2,_⟩
      rw[← pcs_len ps t,List.take_length] at e2
      exact⟨_,rfl,q l H2 s2 n1 e2⟩
theorem ok_untN0 {j:Nat}:FnOk P w K mg base CX0 j f fd ["_law_rule_here","_law_bases_here"] (sp_untN K 0):=⟨fun _ _ _ _ h=>h.elim,fun _ _ _ _ _ _ _ _ _ _ _ _ _ h=>h.elim⟩
set_option maxHeartbeats 8000000 in
theorem ok_untN {d k:Nat} (F:Fun K "_law_until" "_law_until" (top 80) f fd) (G:Glb mg) (C1:Cal P w K mg base CX0 1 "_law_rounded" ["_law_number","_law_way_here"] sp_rndL) (C2:Cal P w K mg base CX0 1 "_law_pieces" ["_law_pairs_here","_law_total"] sp_pcsL) (C3:Cal P w K mg base CX0 (k+1) "_law_until" ["_law_rule_here","_law_bases_here"] (sp_untN K d)):FnOk P w K mg base CX0 (k+2) f fd ["_law_rule_here","_law_bases_here"] (sp_untN K (d+1)):=by
  have nd:(["_law_rule_here","_law_bases_here","_law_total","_law_months","_law_pieces_here","_law_parts_here"]:List Str).Nodup:=by decide +kernel
  have nc:(["_law_base"]:List Str).Nodup:=by decide +kernel
  have np:(["_law_pair"]:List Str).Nodup:=by decide +kernel
  have nk:(["_law_k","_law_parts_here","_law_pieces_here"]:List Str).Nodup:=by decide +kernel
  refine F.ok (N:=["_law_rule_here","_law_bases_here","_law_total","_law_months","_law_pieces_here","_law_parts_here"]) ⟨rfl,rfl,rfl,by decide +kernel,rfl,by decide +kernel,by decide +kernel⟩ (fun vs H Q E h=>?_) (fun cdv A outer s H vs Q E hr h=>?_)
  · obtain⟨v,r,b,bs,rfl,_⟩:=h
    rfl
  · obtain⟨v,r,b,bs,rfl,rt,gd,hb,bl,bn,q⟩:=h
    have k1:1≤k+1:=Nat.le_add_left 1 k
    refine' ⟨_,(pss_cons (ps_set (i:=2) nd rfl (Or.inl rfl) (pe_callB (call_sumL rfl) rfl G.sum boot_sum (pa_cons (pv 1) pa_nil)))
        (pss_cons (ps_set (i:=3) nd rfl (Or.inl rfl) (pe_callB call_len_seq rfl G.len boot_len (pa_cons ?comp_3 pa_nil)))
        (pss_cons (ps_if (pt_cmpR op_eq (pe_at ix_tup (pv 0) pe_int) pe_str (nomark _)) (pss_one (ps_ret (pe_op op_mul (pe_at ix_tup (pv 0) pe_int) (pv 3)))) pss_nil)
        (pss_cons (ps_if (pt_cmpR op_eq (pe_at ix_tup (pv 0) pe_int) pe_str (nomark _)) (pss_one (ps_ret (pe_cal C1 hr k1 pass0 (pa_cons (pe_op op_mul (pv 2) (pe_at ix_tup (pv 0) pe_int)) (pa_cons (pe_at ix_tup (pv 0) pe_int) pa_nil))))) pss_nil)
        (pss_cons (ps_if (pt_cmpR op_eq (pe_at ix_tup (pv 0) pe_int) pe_str (nomark _)) (pss_one (ps_ret (pe_cal C1 hr k1 pass0 (pa_cons (pe_op op_mul (pe_callB (call_min2 rfl) rfl G.min PyProof.Rows.boot_min (pa_cons (pv 2) (pa_cons (pe_at ix_tup (pv 0) pe_int) pa_nil))) (pe_at ix_tup (pv 0) pe_int)) (pa_cons (pe_at ix_tup (pv 0) pe_int) pa_nil))))) pss_nil)
        (pss_cons (ps_if (pt_cmpR op_eq (pe_at ix_tup (pv 0) pe_int) pe_str (nomark _)) (pss_one (ps_ret (pe_callB (call_max2 rfl) rfl G.max PyProof.Rows.boot_max (pa_cons (pe_cal C1 hr k1 pass0 (pa_cons (pe_op op_mul (pv 2) (pe_at ix_tup (pv 0) pe_int)) (pa_cons (pe_at ix_tup (pv 0) pe_int) pa_nil))) (pa_cons (pe_op op_mul (pe_at ix_tup (pv 0) pe_int) (pv 3)) pa_nil))))) pss_nil)
        (pss_cons (ps_if (pt_cmpR op_eq (pe_at ix_tup (pv 0) pe_int) pe_str (nomark _)) (pss_cons (ps_set (i:=4) nd rfl (Or.inr rfl) (pe_cal C2 hr k1 pass0 (pa_cons (pe_at ix_tup (pv 0) pe_int) (pa_cons (pv 2) pa_nil))))
        (pss_cons (ps_set (i:=5) nd rfl (Or.inr rfl) ?comp_2)
        (pss_one (ps_ret (pe_cal C1 hr k1 pass0 (pa_cons (pe_callB (call_sumL rfl) rfl G.sum boot_sum (pa_cons ?comp_1 pa_nil)) (pa_cons (pe_at ix_tup (pv 0) pe_int) pa_nil))))))) pss_nil)
        (pss_one (ps_ret (pe_cal C1 hr k1 pass0 (pa_cons (pe_op op_mul (pe_cal C3 hr (Nat.le_refl _) pass0 (pa_cons (pe_at ix_tup (pv 0) pe_int) (pa_cons (pv 1) pa_nil))) (pe_at ix_tup (pv 0) pe_int)) (pa_cons (pe_at ix_tup (pv 0) pe_int) pa_nil)))))))))))),?main⟩
    case comp_3 =>
      refine' pe_compI (Nc:=["_law_base"]) (cl:=[]) (src:=[none]) (wi:=iList K (tVar 1)) (g:=gName 0) (tt:=tTest (tOp (rI0 fun i j=>.bl (decide (j<i))) (tVar 0) (tC (.int 0)))) (te:=tVar 0)
        ⟨rfl,rfl,by decide +kernel,by decide +kernel,(fun x c z=>nomatch z),has_of (by rfl),frm_none frm_nil,rfl⟩ rfl (pi_list (pv 1)) ?hb
      case hb =>
        intro fp C' s' H'
        exact⟨pg_name (i:=0) nc rfl (Or.inl rfl),pif_one (pt_cmpR op_gt (pv 0) pe_int (nomark _)),pv 0⟩
    case comp_2 =>
      refine' pe_compI (Nc:=["_law_pair"]) (cl:=[]) (src:=[none]) (wi:=iTup K (tOp (rIxT K) (tVar 0) (tC (.int 2)))) (g:=gName 0) (tt:=tNoIf) (te:=tOp (rIxT K) (tVar 0) (tC (.int 1)))
        ⟨rfl,rfl,by decide +kernel,by decide +kernel,(fun x c z=>nomatch z),has_of (by rfl),frm_none frm_nil,rfl⟩ rfl (pi_tup (pe_at ix_tup (pv 0) pe_int)) ?hb
      case hb =>
        intro fp C' s' H'
        exact⟨pg_name (i:=0) np rfl (Or.inl rfl),pif_nil,pe_at ix_tup (pv 0) pe_int⟩
    case comp_1 =>
      refine' pe_compI (Nc:=["_law_k","_law_parts_here","_law_pieces_here"]) (cl:=[("_law_pieces_here",s.heap.objs.size+1),("_law_parts_here",s.heap.objs.size+2)]) (src:=[none,some 5,some 4]) (wi:=iRng1 (tCons (tCB (rLenS K) (tCons (tVar 5) tNil)) tNil)) (g:=gName 0) (tt:=tNoIf) (te:=tOp (rI CMul fun i j=>.int (i*j)) (tOp (rIxL K) (tVar 1) (tVar 0)) (tOp (rIxL K) (tVar 2) (tVar 0)))
        ⟨rfl,rfl,by decide +kernel,by decide +kernel,sub_of (subN rfl (sub1 rfl)),has_of (by rfl),frm_none (frm_some ⟨_,rfl,rfl,rfl,rfl⟩ (frm_some ⟨_,rfl,rfl,rfl,rfl⟩ frm_nil)),rfl⟩ rfl (pi_range1 rfl G.range (pa_cons (pe_callB call_len_seq rfl G.len boot_len (pa_cons (pv 5) pa_nil)) pa_nil)) ?hb
      case hb =>
        intro fp C' s' H'
        exact⟨pg_name (i:=0) nk rfl (Or.inl rfl),pif_nil,pe_op op_mul (pe_at ix_list (pv 1) (pv 0)) (pe_at ix_list (pv 2) (pv 0))⟩
    have sn:=sum_nn bn
    dsimp (config:={ proj:=false,iota:=false,beta:=false,eta:=false }) only [cxOf_K,nox_K]
    refine⟨_,rfl,b,bs,rfl,hb,_,rfl,b,rfl,⟨_,hb⟩,fun D hD=>comp_atF (walk_list hb) (int_items bs) hD (by rw[sizeLine_eq];omega) (fun i=>decide (0<i)) V.int (fun i hi v H1 R s1 e1 r=>?_) (fun i hi v H1 R s1 e1 r=>?_) (fun H1 s1 e1=>?_)⟩
    · subst e1
      exact⟨_,rfl,_,_,rfl,rfl,_,rfl,r _ (Same.refl _)⟩
    · subst e1
      exact⟨_,rfl,r _ (Same.refl _)⟩
    · refine⟨D,_,rfl,.inl (SqL.of e1),?_⟩
      rw[List.length_map]
      have rt:=rt.same s1
      cases gd with
      | pln pl =>
        rw[untG_pln pl] at q
        have q:=q H1 s1
        cases pl with
        | flat hn ha =>
          cases rt with
          | pln _ ra =>
            obtain⟨t,rfl,ht⟩:=ra
            have a0:=ha.1
            have a1:=ha.2
            exact⟨_,rfl,t,_,_,_,rfl,rfl,SqT.of ht,rfl,rfl,_,rfl,iteSt ⟨_,rfl,t,_,_,_,rfl,rfl,SqT.of ht,rfl,_,rfl,_,_,rfl,rfl,.inl ⟨by omega,by omega⟩,q⟩⟩
        | share hn hp hw =>
          cases rt with
          | pln _ ra =>
            obtain⟨t,rfl,ht⟩:=ra
            have p0:=hp.1
            have p1:=hp.2
            exact⟨_,rfl,t,_,_,_,rfl,rfl,SqT.of ht,rfl,rfl,_,rfl,iteSf n_fs ⟨_,rfl,t,_,_,_,rfl,rfl,SqT.of ht,rfl,rfl,_,rfl,iteSt ⟨_,rfl,_,rfl,t,_,_,_,rfl,rfl,SqT.of ht,rfl,_,_,rfl,rfl,.inr ⟨by omega,by omega⟩,_,rfl,t,_,_,_,rfl,rfl,SqT.of ht,rfl,_,_,rfl,Int.mul_nonneg sn p0,q⟩⟩⟩
        | capped hn hp ha hw =>
          cases rt with
          | pln _ ra =>
            obtain⟨t,rfl,ht⟩:=ra
            have p0:=hp.1
            have p1:=hp.2
            have a0:=ha.1
            refine⟨_,rfl,t,_,_,_,rfl,rfl,SqT.of ht,rfl,rfl,_,rfl,iteSf n_cf ⟨_,rfl,t,_,_,_,rfl,rfl,SqT.of ht,rfl,rfl,_,rfl,iteSf n_cs ⟨_,rfl,t,_,_,_,rfl,rfl,SqT.of ht,rfl,rfl,_,rfl,iteSt ⟨_,rfl,_,rfl,t,_,_,_,rfl,rfl,SqT.of ht,rfl,_,_,rfl,_,rfl,t,_,_,_,rfl,rfl,SqT.of ht,rfl,_,_,rfl,rfl,.inr ⟨by omega,by omega⟩,_,rfl,t,_,_,_,rfl,rfl,SqT.of ht,rfl,_,_,rfl,Int.mul_nonneg ?_ p0,q⟩⟩⟩⟩
            split
            · exact a0
            · exact sn
        | least hn hp ha hw =>
          cases rt with
          | pln _ ra =>
            obtain⟨t,rfl,ht⟩:=ra
            have p0:=hp.1
            have p1:=hp.2
            have a0:=ha.1
            have a1:=ha.2
            exact⟨_,rfl,t,_,_,_,rfl,rfl,SqT.of ht,rfl,rfl,_,rfl,iteSf n_lf ⟨_,rfl,t,_,_,_,rfl,rfl,SqT.of ht,rfl,rfl,_,rfl,iteSf n_ls ⟨_,rfl,t,_,_,_,rfl,rfl,SqT.of ht,rfl,rfl,_,rfl,iteSf n_lc ⟨_,rfl,t,_,_,_,rfl,rfl,SqT.of ht,rfl,rfl,_,rfl,iteSt ⟨_,rfl,_,rfl,t,_,_,_,rfl,rfl,SqT.of ht,rfl,_,_,rfl,rfl,.inr ⟨by omega,by omega⟩,_,rfl,t,_,_,_,rfl,rfl,SqT.of ht,rfl,_,_,rfl,Int.mul_nonneg sn p0,_,rfl,t,_,_,_,rfl,rfl,SqT.of ht,rfl,_,rfl,_,_,rfl,rfl,.inl ⟨by omega,by omega⟩,_,_,rfl,q⟩⟩⟩⟩⟩
      | @bands _ n x ps hn ok hw =>
        cases rt with
        | pln kk _=>exact absurd kk (by show ¬ (4:Nat)<4;decide)
        | @bands _ _ _ t u ht bd =>
          have few:=ok.few
          refine⟨_,rfl,t,_,_,_,rfl,rfl,SqT.of ht,rfl,rfl,_,rfl,iteSf n_bf ⟨_,rfl,t,_,_,_,rfl,rfl,SqT.of ht,rfl,rfl,_,rfl,iteSf n_bs ⟨_,rfl,t,_,_,_,rfl,rfl,SqT.of ht,rfl,rfl,_,rfl,iteSf n_bc ⟨_,rfl,t,_,_,_,rfl,rfl,SqT.of ht,rfl,rfl,_,rfl,iteSf n_bl ⟨_,rfl,t,_,_,_,rfl,rfl,SqT.of ht,rfl,rfl,_,rfl,iteSt ?_⟩⟩⟩⟩⟩
          refine⟨_,rfl,t,_,_,_,rfl,rfl,SqT.of ht,rfl,_,rfl,u,ps,_,rfl,bd,ok,fun l H2 s2 n2 e2=>?_⟩
          have ht2:=s2 _ _ ht
          obtain⟨ys,hu,T⟩:=bd.same s2
          refine⟨_,rfl,t,_,_,_,rfl,rfl,SqT.of ht2,rfl,u,rfl,⟨_,SqT.of hu⟩,fun D2 hD2=>comp_at (walk_tup (SqT.of hu)) (bds_items T) hD2 (by rw[sizeLine_eq];omega) (fun p=>V.int p.2) (fun p hp v H3 R s3 e3 r=>?_) (fun H3 s3 e3=>?_)⟩
          · obtain⟨a,rfl,ha⟩:=e3
            exact⟨_,rfl,a,_,_,_,rfl,rfl,SqT.of ha,rfl,r H3 (Same.refl _)⟩
          have e3':H3 D2=some (.lst ((ps.map (·.2)).map V.int)):=by rw[e3,List.map_map];rfl
          have e2':=s3 _ _ e2
          have l3:(ps.map (fun p=>V.int p.2)).length=ps.length:=List.length_map _
          refine⟨_,rfl,D2,_,rfl,.inl (SqL.of e3'),_,rfl,by rw[List.length_map,List.length_map];omega,by rw[List.length_map,List.length_map];omega,?_⟩
          rw[List.length_map,List.length_map,Int.toNat_natCast]
          refine fun D3 hD3=>comp_at walk_rng (rng_items ps.length) hD3 (by rw[List.length_range,sizeLine_eq];omega) (fun j=>V.int ((ps.map (·.2)).getD j 0*(pcs ps bs.sum).getD j 0)) (fun j hj v H4 R s4 e4 r=>?_) (fun H4 s4 e4=>?_)
          · subst e4
            have hj:=List.mem_range.mp hj
            have hp:=(ok.ok _ (List.getElem_mem hj)).2
            have eg:(ps.map (·.2)).getD j 0=ps[j].2:=by rw[List.getD_eq_getElem?_getD,List.getElem?_map,List.getElem?_eq_getElem hj];rfl
            have h0:=hp.1
            have h1:=hp.2
            exact⟨_,rfl,_,rfl,D2,_,_,_,rfl,rfl,SqL.of (s4 _ _ e3'),num_at (by rw[List.length_map];exact hj),_,rfl,_,rfl,l,_,_,_,rfl,rfl,SqL.of (s4 _ _ e2'),num_at (by rw[pcs_len];exact hj),_,_,rfl,rfl,.inl ⟨by rw[eg];omega,by rw[eg];omega⟩,r H4 (Same.refl _)⟩
          · have e4':H4 D3=some (.lst (((List.range ps.length).map fun j=>(ps.map (·.2)).getD j 0*(pcs ps bs.sum).getD j 0).map V.int)):=by rw[e4,List.map_map];rfl
            refine⟨D3,_,rfl,SqL.of e4',_,rfl,t,_,_,_,rfl,rfl,SqT.of (s4 _ _ (s3 _ _ ht2)),rfl,?_⟩
            rw[bs_range]
            exact⟨_,_,rfl,bs_nn (fun p hp=>(ok.ok p hp).2.1) _,q H4 (s1.trans (s2.trans (s3.trans s4)))⟩
      | @ontop d n x p r' hn hp hw gd =>
        cases rt with
        | pln kk _=>exact absurd kk (by show ¬ (5:Nat)<4;decide)
        | @ontop _ _ _ _ t y ht rti =>
          have p0:=hp.1
          have p1:=hp.2
          refine⟨_,rfl,t,_,_,_,rfl,rfl,SqT.of ht,rfl,rfl,_,rfl,iteSf n_of ⟨_,rfl,t,_,_,_,rfl,rfl,SqT.of ht,rfl,rfl,_,rfl,iteSf n_os ⟨_,rfl,t,_,_,_,rfl,rfl,SqT.of ht,rfl,rfl,_,rfl,iteSf n_oc ⟨_,rfl,t,_,_,_,rfl,rfl,SqT.of ht,rfl,rfl,_,rfl,iteSf n_ol ⟨_,rfl,t,_,_,_,rfl,rfl,SqT.of ht,rfl,rfl,_,rfl,iteSf n_ob ?_⟩⟩⟩⟩⟩
          refine⟨_,rfl,t,_,_,_,rfl,rfl,SqT.of ht,rfl,_,rfl,_,r',b,bs,rfl,rti,gd,s1.seq hb,bl,bn,fun H2 s2=>?_⟩
          have ht2:=s2 _ _ ht
          exact⟨_,rfl,t,_,_,_,rfl,rfl,SqT.of ht2,rfl,_,_,rfl,rfl,.inr ⟨by omega,by omega⟩,_,rfl,t,_,_,_,rfl,rfl,SqT.of ht2,rfl,_,_,rfl,Int.mul_nonneg (untG_nn gd bn) p0,q H2 (s1.trans s2)⟩
theorem ok_ofmN {d k:Nat} (F:Fun K "_law_of_month" "_law_of_month" (top 81) f fd) (C1:Cal P w K mg base CX0 k "_law_until" ["_law_rule_here","_law_bases_here"] (sp_untN K (d+1))):FnOk P w K mg base CX0 (k+1) f fd ["_law_rule_here","_law_bases_here"] (sp_ofmN K d):=by
  refine F.ok (N:=["_law_rule_here","_law_bases_here"]) ⟨rfl,rfl,rfl,by decide +kernel,rfl,by decide +kernel,by decide +kernel⟩ (fun vs H Q E h=>?_) (fun cdv A outer s H vs Q E hr h=>?_)
  · obtain⟨v,r,b,bs,rfl,_⟩:=h
    rfl
  · obtain⟨v,r,b,bs,rfl,rt,pl,hb,bl,bn,q⟩:=h
    have hu:=hr.units0
    refine⟨_,(pss_cons (ps_if (pt_cmpR (op_eqNil hu) (pv 1) (pe_lstS pa_nil) (nomark _)) (pss_one (ps_ret pe_int)) pss_nil)
        (pss_one (ps_ret (pe_op op_sub (pe_cal C1 hr (Nat.le_refl _) pass0 (pa_cons (pv 0) (pa_cons (pv 1) pa_nil))) (pe_cal C1 hr (Nat.le_refl _) pass0 (pa_cons (pv 0) (pa_cons (pe_slice sl_list (pv 1) po_none (po_some (pe_un un_neg pe_int))) pa_nil))))))),?_⟩
    refine⟨_,rfl,lenOk rfl,fun l H1 s1 n1 e1=>⟨b,l,_,rfl,rfl,s1.seq hb,SqL.of e1,fun eN=>⟨true,rfl,iteT ?_⟩,fun nN=>⟨false,rfl,iteF ?_⟩⟩⟩
    · have e0:bs=[]:=List.map_eq_nil_iff.mp eN
      subst e0
      have e2:ofmG r []=0:=Int.sub_self _
      have q:=q H1 s1
      rw[e2] at q
      exact q
    · refine⟨_,rfl,_,rfl,v,r,b,bs,rfl,rt.same s1,pl,s1.seq hb,bl,bn,fun H2 s2=>?_⟩
      have s12:=s1.trans s2
      refine⟨_,rfl,_,rfl,_,rfl,_,rfl,b,_,rfl,s12.seq hb,fun p p0=>?_⟩
      have s3:Same H2 (upd H2 p (.lst (cutV (bs.map V.int) none (some (-1))))):=Same.upd p0
      exact⟨v,r,p,dl bs,rfl,(rt.same s12).same s3,pl,SqL.of (by rw[← dl_cut];exact upd_same),Nat.le_trans (dl_len bs) bl,fun b hb=>bn b (dl_mem hb),fun H3 s4=>⟨_,_,rfl,rfl,q H3 (s12.trans (s3.trans s4))⟩⟩
end
end K13
namespace K13
open PySem PySem.NumText L2 Pg
seal PE PA PT PW PS PSs PG PGs PI PIf PO PK
section
variable {P:Program} {w:World} {K:PySem.W.Frag} {mg:Str→Option Value} {base:Heap} {f:Addr} {fd:FuncData} {d:Nat→Addr} {cR:Addr}
theorem ok_rowN0 {j:Nat}:FnOk P w K mg base CX0 j f fd ["_law_rule_here"] (sp_rowN 0):=⟨fun _ _ _ _ h=>h.elim,fun _ _ _ _ _ _ _ _ _ _ _ _ _ h=>h.elim⟩
set_option maxHeartbeats 8000000 in
theorem ok_rowN {d k:Nat} (F:Fun K "_law_row" "_law_row" (top 82) f fd) (G:Glb mg) (hd:d≤10) (C:Cal P w K mg base CX0 k "_law_row" ["_law_rule_here"] (sp_rowN d)):FnOk P w K mg base CX0 (k+1) f fd ["_law_rule_here"] (sp_rowN (d+1)):=by
  have nd:(["_law_rule_here","_law_told","_law_head"]:List Str).Nodup:=by decide +kernel
  have nc:(["_law_part"]:List Str).Nodup:=by decide +kernel
  have np:(["_law_pair"]:List Str).Nodup:=by decide +kernel
  refine F.ok (N:=["_law_rule_here","_law_told","_law_head"]) ⟨rfl,rfl,rfl,by decide +kernel,rfl,by decide +kernel,by decide +kernel⟩ (fun vs H Q E h=>?_) (fun cdv A outer s H vs Q E hr h=>?_)
  · obtain⟨v,r,rfl,_⟩:=h
    rfl
  · obtain⟨v,r,rfl,rt,gd,q⟩:=h
    refine' ⟨_,(pss_cons (ps_if (pt_cmpR op_eq (pe_at ix_tup (pv 0) pe_int) pe_str (nomark _)) (pss_cons (ps_set (i:=1) nd rfl (Or.inl rfl) (pe_bm PySem.F.plainAttrs_str PySem.F.slot_str_join PySem.F.type_str_join mt_join pe_str (pa_cons ?comp_4 pa_nil)))
        (pss_one (ps_ret (pe_op op_add_str (pe_op op_add_str (pe_op op_add_str (pe_op op_add_str (pe_op op_add_str pe_str (pe_at ix_tup (pv 0) pe_int)) pe_str) (pv 1)) pe_str) (pe_at ix_tup (pv 0) pe_int))))) pss_nil)
        (pss_cons (ps_if (pt_cmpR op_eq (pe_at ix_tup (pv 0) pe_int) pe_str (nomark _)) (pss_cons (ps_set (i:=2) nd rfl (Or.inl rfl) (pe_bm PySem.F.plainAttrs_str PySem.F.slot_str_join PySem.F.type_str_join mt_join pe_str (pa_cons (pe_lstS (pa_cons (pe_at ix_tup (pv 0) pe_int) (pa_cons (pe_at ix_tup (pv 0) pe_int) (pa_cons (pe_callTy call_str_int rfl G.str boot_str (pa_cons (pe_at ix_tup (pv 0) pe_int) pa_nil)) (pa_cons (pe_at ix_tup (pv 0) pe_int) pa_nil))))) pa_nil)))
        (pss_one (ps_ret (pe_op op_add_str (pe_op op_add_str (pv 2) pe_str) (pe_cal C hr (Nat.le_refl _) pass0 (pa_cons (pe_at ix_tup (pv 0) pe_int) pa_nil)))))) pss_nil)
        (pss_one (ps_ret (pe_bm PySem.F.plainAttrs_str PySem.F.slot_str_join PySem.F.type_str_join mt_join pe_str (pa_cons ?comp_2 pa_nil)))))),?main⟩
    case comp_4 =>
      refine' pe_compI (Nc:=["_law_pair"]) (cl:=[]) (src:=[none]) (wi:=iTup K (tOp (rIxT K) (tVar 0) (tC (.int 2)))) (g:=gName 0) (tt:=tNoIf) (te:=tOp rAddS (tOp rAddS (tCB rStrI (tCons (tOp (rIxT K) (tVar 0) (tC (.int 0))) tNil)) (tC (.str ":"))) (tCB rStrI (tCons (tOp (rIxT K) (tVar 0) (tC (.int 1))) tNil)))
        ⟨rfl,rfl,by decide +kernel,by decide +kernel,(fun x c z=>nomatch z),has_of (by rfl),frm_none frm_nil,rfl⟩ rfl (pi_tup (pe_at ix_tup (pv 0) pe_int)) ?hb
      case hb =>
        intro fp C' s' H'
        exact⟨pg_name (i:=0) np rfl (Or.inl rfl),pif_nil,pe_op op_add_str (pe_op op_add_str (pe_callTy call_str_int rfl G.str boot_str (pa_cons (pe_at ix_tup (pv 0) pe_int) pa_nil)) pe_str) (pe_callTy call_str_int rfl G.str boot_str (pa_cons (pe_at ix_tup (pv 0) pe_int) pa_nil))⟩
    case comp_2 =>
      refine' pe_compI (Nc:=["_law_part"]) (cl:=[]) (src:=[none]) (wi:=iTup K (tVar 0)) (g:=gName 0) (tt:=tNoIf) (te:=tCB (fun xs H Q=>(∃ i,xs=[.int i]∧i.natAbs.log2<1920∧Q (.str (toString i)) H)∨∃ z,xs=[.str z]∧Q (.str z) H) (tCons (tVar 0) tNil))
        ⟨rfl,rfl,by decide +kernel,by decide +kernel,(fun x c z=>nomatch z),has_of (by rfl),frm_none frm_nil,rfl⟩ rfl (pi_tup (pv 0)) ?hb
      case hb =>
        intro fp C' s' H'
        exact⟨pg_name (i:=0) nc rfl (Or.inl rfl),pif_nil,pe_callTy call_strX rfl G.str boot_str (pa_cons (pv 0) pa_nil)⟩
    dsimp (config:={ proj:=false,iota:=false,beta:=false,eta:=false }) only [cxOf_K,nox_K]
    cases gd with
    | pln pl =>
      rw[rowG_pln pl] at q
      obtain⟨z,l,el,zb,zo,ll⟩:=row_head pl
      have jo:=row_ok pl
      have pk:=part_kind pl
      obtain⟨t,rfl,ht⟩:RtAt H v r:=by
        cases rt with
        | pln _ ra=>exact ra
        | bands=>cases pl
        | ontop=>cases pl
      have h0:atI (rowP r) ((0:Nat):Int)=some (.str z):=atI_nat (by rw[el];rfl)
      refine⟨_,rfl,t,_,_,_,rfl,rfl,SqT.of ht,h0,rfl,_,rfl,iteSf zb ⟨_,rfl,t,_,_,_,rfl,rfl,SqT.of ht,h0,rfl,_,rfl,iteSf zo ⟨rfl,_,rfl,t,rfl,⟨_,SqT.of ht⟩,fun D hD=>comp_at (walk_tup (SqT.of ht)) (self_items (rowP r)) hD (by rw[el,List.length_cons,sizeLine_eq];omega) (fun x=>.str (strV x)) (fun x hx v H1 R s1 e1 k=>?_) (fun H1 s1 e1=>?_)⟩⟩⟩
      · subst e1
        rcases pk v hx with ⟨i,rfl,hi⟩ | ⟨y,rfl⟩
        · exact⟨_,rfl,.inl ⟨i,rfl,hi,k _ (Same.refl _)⟩⟩
        · exact⟨_,rfl,.inr ⟨y,rfl,k _ (Same.refl _)⟩⟩
      · exact⟨_,(rowP r).map strV,D,rfl,rfl,SqL.of (by rw[List.map_map];exact e1),jo,q H1 s1⟩
    | @bands _ n x ps hn ok hw =>
      cases rt with
      | pln kk _=>exact absurd kk (by show ¬ (4:Nat)<4;decide)
      | @bands _ _ _ t u ht bd =>
        obtain⟨ys,hu,T⟩:=bd
        have few:=ok.few
        refine⟨_,rfl,t,_,_,_,rfl,rfl,SqT.of ht,rfl,rfl,_,rfl,iteSt ⟨rfl,_,rfl,t,_,_,_,rfl,rfl,SqT.of ht,rfl,u,rfl,⟨_,SqT.of hu⟩,fun D hD=>comp_at (walk_tup (SqT.of hu)) (bds_items T) hD (by rw[sizeLine_eq];omega) (fun p=>.str (bandT p)) (fun p hp v H1 R s1 e1 r=>?_) (fun H1 s1 e1=>?_)⟩⟩
        · obtain⟨a,rfl,ha⟩:=e1
          have hb:=ok.ok p hp
          have l1:=amtT_len hb.1
          have l2:=prtT_len hb.2
          have l3:((toString p.1:Str) ++ ":").length=(toString p.1:Str).length+1:=Str.length_append ..
          exact⟨_,rfl,a,_,_,_,rfl,rfl,SqT.of ha,rfl,_,rfl,log_a hb.1,_,_,rfl,rfl,by rw[sizeLine_eq];show (toString p.1:Str).length+1≤_;omega,_,rfl,a,_,_,_,rfl,rfl,SqT.of ha,rfl,_,rfl,log_p hb.2,_,_,rfl,rfl,by rw[l3,sizeLine_eq];omega,r H1 (Same.refl _)⟩
        · have jb:=bands_join ok
          have ht1:=s1 _ _ ht
          have h1:=hn.ok.hi
          have h2:=jb.2
          have h3:=way_len hw
          have w6:("bands ":Str).length=6:=by decide +kernel
          have w1:(" ":Str).length=1:=by decide +kernel
          have q:=q H1 s1
          refine⟨_,ps.map bandT,D,rfl,rfl,SqL.of (by rw[e1,List.map_map];rfl),jb.1,?_⟩
          refine⟨_,rfl,t,_,_,_,rfl,rfl,SqT.of ht1,rfl,_,_,rfl,rfl,by rw[w6,sizeLine_eq];omega,_,_,rfl,rfl,by rw[Str.length_append,w6,w1,sizeLine_eq];omega,_,rfl,_,_,rfl,rfl,by rw[Str.length_append,Str.length_append,w6,w1,sizeLine_eq];show _+(bndT ps).length≤_;omega,_,_,rfl,rfl,by rw[Str.length_append,Str.length_append,Str.length_append,w6,w1,sizeLine_eq];show _+(bndT ps).length+1≤_;omega,_,rfl,t,_,_,_,rfl,rfl,SqT.of ht1,rfl,_,_,rfl,rfl,by rw[Str.length_append,Str.length_append,Str.length_append,Str.length_append,w6,w1,sizeLine_eq];show _+(bndT ps).length+1+_≤_;omega,?_⟩
          have e:=bandrow_law n (bndT ps) x
          unfold bndT at e
          rw[e]
          exact q
    | @ontop d n x p r' hn hp hw gd =>
      cases rt with
      | pln kk _=>exact absurd kk (by show ¬ (5:Nat)<4;decide)
      | @ontop _ _ _ _ t y ht rti =>
        have h1:=hn.ok.hi
        have h2:=prtT_len hp
        have h3:=way_len hw
        have h4:=rowG_len gd
        have jh:=join_small (sep:=" ") (zs:=["ontop",n,toString p,x]) (m:=8) (k:=4) (fun z hz=>by
          simp only[List.mem_cons,List.not_mem_nil,or_false] at hz
          rcases hz with rfl | rfl | rfl | rfl
          · decide +kernel
          · omega
          · omega
          · omega) (Nat.le_refl _) (by decide +kernel) rfl
        have h5:=jh.2
        have w4:(" of ":Str).length=4:=by decide +kernel
        refine⟨_,rfl,t,_,_,_,rfl,rfl,SqT.of ht,rfl,rfl,_,rfl,iteSf n_ob ⟨_,rfl,t,_,_,_,rfl,rfl,SqT.of ht,rfl,rfl,_,rfl,iteSt ?_⟩⟩
        refine⟨rfl,_,rfl,t,_,_,_,rfl,rfl,SqT.of ht,rfl,_,rfl,t,_,_,_,rfl,rfl,SqT.of ht,rfl,_,rfl,t,_,_,_,rfl,rfl,SqT.of ht,rfl,_,rfl,log_p hp,_,rfl,t,_,_,_,rfl,rfl,SqT.of ht,rfl,lenOk rfl,fun l H1 s1 n1 e1=>⟨_,["ontop",n,toString p,x],l,rfl,rfl,SqL.of e1,jh.1,?_⟩⟩
        refine⟨_,rfl,_,_,rfl,rfl,by rw[w4,sizeLine_eq];omega,_,rfl,t,_,_,_,rfl,rfl,SqT.of (s1 _ _ ht),rfl,_,r',rfl,rti.same s1,gd,fun H2 s2=>⟨_,_,rfl,rfl,by rw[Str.length_append,w4,sizeLine_eq];omega,?_⟩⟩
        rw[toprow_law]
        exact q H2 (s1.trans s2)
end
end K13
namespace K13
open PySem PySem.NumText L2 Pg
seal PE PA PT PW PS PSs PG PGs PI PIf PO PK
section
variable {P:Program} {w:World} {K:PySem.W.Frag} {mg:Str→Option Value} {base:Heap} {f:Addr} {fd:FuncData} {d:Nat→Addr} {cR:Addr}
theorem ok_ruleR (F:Fun K "_law_rule" "_law_rule" (top 77) f fd) (G:Glb mg) (C1:Cal P w K mg base CX0 1 "_law_mixed" ["_law_cell","_law_k"] sp_mixR) (C2:Cal P w K mg base CX0 4 "_law_plain" ["_law_cell","_law_name","_law_kind"] sp_plnG) (C3:Cal P w K mg base CX0 2 "_law_parts" ["_law_cell","_law_k"] sp_prtR) (C4:Cal P w K mg base CX0 2 "_law_way" ["_law_cell","_law_k"] sp_wayR):FnOk P w K mg base CX0 5 f fd ["_law_cell","_law_name"] sp_ruleR:=by
  have nd:(["_law_cell","_law_name","_law_number","_law_found","_law_k"]:List Str).Nodup:=by decide +kernel
  refine F.ok (N:=["_law_cell","_law_name","_law_number","_law_found","_law_k"]) ⟨rfl,rfl,rfl,by decide +kernel,rfl,by decide +kernel,by decide +kernel⟩ (fun vs H Q E h=>?_) (fun cdv A outer s H vs Q E hr h=>?_)
  · obtain⟨c,z,rfl,_⟩:=h
    rfl
  · obtain⟨c,z,rfl,hz,q⟩:=h
    refine⟨_,(pss_cons (ps_set (i:=2) nd rfl (Or.inl rfl) (pe_cal C1 hr (by decide) pass0 (pa_cons (pv 0) (pa_cons pe_int pa_nil))))
        (pss_cons (ps_set (i:=3) nd rfl (Or.inl rfl) (pe_cal C2 hr (by decide) pass0 (pa_cons (pv 0) (pa_cons (pv 1) (pa_cons (pe_op op_mod (pv 2) pe_int) pa_nil)))))
        (pss_cons (ps_for PassesOwn.never rfl (pi_range1 rfl G.range (pa_cons (pe_at ix_list (pe_lstS (pa_cons pe_int (pa_cons pe_int (pa_cons pe_int (pa_cons pe_int (pa_cons pe_int (pa_cons pe_int pa_nil))))))) (pe_op op_mod (pe_op op_fdiv (pv 2) pe_int) pe_int)) pa_nil)) (pg_name (i:=4) nd rfl (Or.inl rfl)) (pss_one (ps_set (i:=3) nd rfl (Or.inl rfl) (pe_tupS (pa_cons pe_str (pa_cons (pv 1) (pa_cons (pe_cal C3 hr (by decide) pass0 (pa_cons (pv 0) (pa_cons (pe_op op_add pe_int (pv 4)) pa_nil))) (pa_cons (pe_cal C4 hr (by decide) pass0 (pa_cons (pv 0) (pa_cons (pe_op op_add pe_int (pv 4)) pa_nil))) (pa_cons (pv 3) pa_nil)))))))))
        (pss_one (ps_ret (pv 3)))))),?_⟩
    refine⟨_,rfl,c,_,rfl,fun m m0 m1=>⟨_,rfl,_,rfl,_,rfl,_,_,rfl,rfl,(by show (0:Int)<5;decide),c,z,_,rfl,hz,Int.emod_nonneg _ (by decide),Int.emod_lt_of_pos _ (by decide),fun v r H1 gd rn _ s1 rt=>⟨lenOk rfl,fun g H2 s2 n2 e2=>?_⟩⟩⟩
    obtain⟨x,ev,mv⟩:=at_any (xs:=[V.int 0,.int 0,.int 0,.int 1,.int 2,.int 3]) (i:=m/5%6) (Int.emod_nonneg _ (by decide)) (Int.emod_lt_of_pos _ (by decide))
    obtain⟨n,rfl,h1⟩:∃ n:Nat,x = .int (n:Nat)∧n≤3:=by
      simp only[List.mem_cons,List.not_mem_nil,or_false] at mv
      rcases mv with rfl | rfl | rfl | rfl | rfl | rfl
      · exact⟨0,rfl,by decide⟩
      · exact⟨0,rfl,by decide⟩
      · exact⟨0,rfl,by decide⟩
      · exact⟨1,rfl,by decide⟩
      · exact⟨2,rfl,by decide⟩
      · exact⟨3,rfl,by decide⟩
    refine⟨_,rfl,_,_,rfl,rfl,⟨by decide,by decide⟩,_,_,rfl,rfl,(by show (0:Int)<6;decide),g,_,_,_,rfl,rfl,SqL.of e2,ev,_,rfl,by omega,by omega,for_range2 (fun i σ H'=>∃ v r x4,An4 (σ = [some (.int c),some (.str z),some (.int m),some v,x4]) (Same H H') (Gd i r∧r.name=z) (RtG H' r v)) ⟨v,r,_,rfl,s1.trans s2,⟨gd,rn⟩,rt.same s2⟩ ?_ ?_⟩
    · rintro i σ H3 hi ⟨v,r,x4,rfl,s3,⟨gd,rn⟩,rt⟩ E3 k3
      exact⟨_,rfl,_,rfl,_,rfl,_,_,rfl,rfl,c,_,rfl,fun p H4 hp s4=>⟨_,rfl,_,rfl,_,_,rfl,rfl,c,_,rfl,fun w H5 hw s5=>⟨_,rfl,lenOk rfl,fun t H6 s6 n6 e6=>k3 _ _ ⟨_,.ontop z p w r,_,rfl,s3.trans (s4.trans (s5.trans s6)),⟨.ontop hz hp hw gd,rfl⟩,.ontop e6 (rt.same (s4.trans (s5.trans s6)))⟩⟩⟩⟩
    · rintro σ H3 ⟨v,r,x4,rfl,s3,⟨gd,rn⟩,rt⟩
      rw[Int.toNat_natCast] at gd
      exact⟨_,rfl,q v r H3 (gd.le h1) rn s3 rt⟩
end
end K13
namespace L2
open PySem PySem.Spec PyProof.Rows
inductive Sm (K:PySem.W.Frag) (H:Hp):Nat→V→V→Prop where
  | v {n:Nat} {x:V}:flatV x=true→Sm K H n x x
  | r {n:Nat} {a:Addr}:Sm K H n (.ref a) (.ref a)
  | l {n:Nat} {a b:Addr} {xs ys:List V}:SqL K H a xs→SqL K H b ys→xs.length=ys.length→(∀ (j:Nat) x y,xs[j]? = some x→ys[j]? = some y→Sm K H n x y)→Sm K H (n+1) (.ref a) (.ref b)
noncomputable def isThing:V→Bool
  | .ref _=>true
  | x=>flatV x
theorem Sm.id {K:PySem.W.Frag} {H:Hp} {n:Nat} {x:V} (h:isThing x=true):Sm K H n x x:=by
  cases x with
  | ref a=>exact .r
  | _=>exact .v h
theorem Sm.list {K:PySem.W.Frag} {H:Hp} {a b:Addr} {xs:List V} (h1:SqL K H a xs) (h2:SqL K H b xs) (h:xs.all isThing=true):Sm K H 1 (.ref a) (.ref b) :=
  .l h1 h2 rfl fun j x y e1 e2=>by
    rw[e1] at e2
    cases e2
    exact Sm.id (List.all_eq_true.mp h x (List.mem_of_getElem? e1))
section
variable {X:Cx} {pins:List (Addr × Obj)} {σ:St} {H:Hp} {s:Shared}
theorem eqAt_sm (I:Inv X pins σ H s):∀ (n:Nat) (x y:V) (u v:Value) (A:Around),Sm X.K H n x y→RelV x u→RelV y v→A.units+n<cLine→SeqAt.EqAt A s u v true:=by
  intro n
  induction n with
  | zero =>
    intro x y u v A h ru rv hu
    cases h with
    | v f =>
      have e:=eqAt_V (A:=A) (s:=s) ru rv f f
      rw[eqV_self f] at e
      exact e
    | r =>
      cases ru
      cases rv
      exact SeqAt.EqAt.same _
  | succ n ih =>
    intro x y u v A h ru rv hu
    cases h with
    | v f =>
      have e:=eqAt_V (A:=A) (s:=s) ru rv f f
      rw[eqV_self f] at e
      exact e
    | r =>
      cases ru
      cases rv
      exact SeqAt.EqAt.same _
    | @l _ a b xs ys h1 h2 hl h3 =>
      cases ru
      cases rv
      by_cases hab:a=b
      · subst hab
        exact SeqAt.EqAt.same _
      · obtain⟨us,r1,p1,_⟩:=I.list h1
        obtain⟨ws,r2,p2,_⟩:=I.list h2
        have e:=SeqAt.RcAt.lists (A:=A) (e:=fun _=>true) p1.isList p2.isList (by rw[List.size_toArray,List.size_toArray,← r1.length,← r2.length,hl]) (by omega) fun j k1 k2=>by
          obtain⟨x,ex,rx⟩:=ix_of r1 k1
          obtain⟨y,ey,ry⟩:=ix_of r2 k2
          exact ih x y _ _ A.in1 (h3 j x y ex ey) rx ry (by show A.units+1+n<cLine;omega)
        rw[all_true] at e
        exact SeqAt.EqAt.of_refs hab e
end
noncomputable def rSm (K:PySem.W.Frag) (u:Nat) (b:Bool):R2:=fun x y H Q=>∃ n a c xs ys,x = .ref a∧y = .ref c∧SqL K H a xs∧SqL K H c ys∧xs.length=ys.length∧(∀ (j:Nat) x y,xs[j]? = some x→ys[j]? = some y→Sm K H n x y)∧u+(n+1)<cLine∧Q (.bl b) H
section
variable {X:Cx}
theorem op_eqS:OpR X (compareOp .Eq) (rSm X.K X.A.units true):=by
  intro pins s σ H x y v u Q I rx ry h
  obtain⟨n,a,c,xs,ys,rfl,rfl,h1,h2,hl,h3,hu,q⟩:=h
  cases rx
  cases ry
  obtain⟨us,r1,p1,_⟩:=I.list h1
  obtain⟨ws,r2,p2,_⟩:=I.list h2
  refine SeqAt.eq_listAt p1.isList p2.isList (by rw[List.size_toArray,List.size_toArray,← r1.length,← r2.length,hl]) (by omega) (e:=fun _=>true) (fun j k1 k2=>?_) ?_
  · obtain⟨x,ex,rx⟩:=ix_of r1 k1
    obtain⟨y,ey,ry⟩:=ix_of r2 k2
    exact eqAt_sm I n x y _ _ X.A.in1 (h3 j x y ex ey) rx ry (by show X.A.units+1+n<cLine;omega)
  · rw[all_true]
    exact⟨.bl true,H,I,rfl,q⟩
theorem op_neS:OpR X (compareOp .NotEq) (rSm X.K X.A.units false):=by
  intro pins s σ H x y v u Q I rx ry h
  obtain⟨n,a,c,xs,ys,rfl,rfl,h1,h2,hl,h3,hu,q⟩:=h
  cases rx
  cases ry
  obtain⟨us,r1,p1,_⟩:=I.list h1
  obtain⟨ws,r2,p2,_⟩:=I.list h2
  refine SeqAt.RcNeAt.lists (e:=fun _=>true) p1.isList p2.isList (by rw[List.size_toArray,List.size_toArray,← r1.length,← r2.length,hl]) (by omega) (fun j k1 k2=>?_) _ _ _ _ ?_
  · obtain⟨x,ex,rx⟩:=ix_of r1 k1
    obtain⟨y,ey,ry⟩:=ix_of r2 k2
    exact eqAt_sm I n x y _ _ X.A.in1 (h3 j x y ex ey) rx ry (by show X.A.units+1+n<cLine;omega)
  · rw[all_true]
    exact⟨.bl false,H,I,rfl,q⟩
end
end L2
namespace Pg
open PySem L2
theorem Made.items {α:Type} {H:Hp} {zs:List V} {xs:List α} {S:Hp→V→α→Prop} (M:Made H zs xs S) (mono:∀ H',Same H H'→∀ v x,S H v x→S H' v x):ItemsAt H zs xs S:=by
  refine⟨M.len,fun i y e=>?_⟩
  have hi:i<xs.length:=by rw[← M.len];exact (List.getElem?_eq_some_iff.mp e).1
  obtain⟨u,h1,h2⟩:=M.at_ i _ (List.getElem?_eq_getElem hi)
  rw[e] at h1
  cases h1
  exact⟨_,List.getElem?_eq_getElem hi,fun H' s=>mono H' s _ _ h2⟩
theorem made_choose {H:Hp} {zs:List V} {n:Nat} {P:Hp→V→Rk→Prop} {q:Nat→Rk→Prop} (M:Made H zs (List.range n) (fun H u k=>∃ r,P H u r∧q k r)):∃ rs:List Rk,rs.length=n∧(∀ (i:Nat) r,rs[i]? = some r→q i r∧∃ u,zs[i]? = some u∧P H u r):=by
  have h:∀ k,∃ r,k<n→q k r∧∃ u,zs[k]? = some u∧P H u r:=fun k=>by
    by_cases hk:k<n
    · obtain⟨u,h1,r,h2,h3⟩:=M.at_ k k (by rw[List.getElem?_eq_getElem (by rw[List.length_range];exact hk),List.getElem_range])
      exact⟨r,fun _=>⟨h3,u,h1,h2⟩⟩
    · exact⟨.flat "a" 0,fun z=>absurd z hk⟩
  obtain⟨f,hf⟩:∃ f:Nat→Rk,∀ k,k<n→q k (f k)∧∃ u,zs[k]? = some u∧P H u (f k):=⟨fun k=>(h k).choose,fun k hk=>(h k).choose_spec hk⟩
  refine⟨(List.range n).map f,by rw[List.length_map,List.length_range],fun i r e=>?_⟩
  rw[List.getElem?_map] at e
  obtain⟨k,h1,rfl⟩:=Option.map_eq_some_iff.mp e
  obtain⟨hk1,hk2⟩:=List.getElem?_eq_some_iff.mp h1
  rw[List.getElem_range] at hk2
  subst hk2
  rw[List.length_range] at hk1
  exact hf i hk1
noncomputable def sp_rulesL (K:PySem.W.Frag):Sp:=fun vs H Q _=>∃ (c:Int) (ln:Addr) (nms:List Str),vs=[.int c,.ref ln,.int 8]∧SqL K H ln (nms.map V.str)∧nms.length=8∧(∀ z∈nms,RName z)∧nms.Nodup∧∀ l rs H',RsOk rs→Same H H'→H l=none→RtsAt H' l rs→Q (.ref l) H'
noncomputable def sp_tRight (K:PySem.W.Frag):Sp:=fun vs H Q _=>∃ (t l b:Addr) (zs:List V) (rs:List Rk) (bs:List Int),vs=[.ref t,.ref l,.ref b]∧H t=some (.lst zs)∧Made H zs (List.range bs.length) (fun H v k=>RowAt H v rs (bs.take (k+1)))∧RtsAt H l rs∧RsOk rs∧SqL K H b (bs.map V.int)∧bs.length≤50∧Nns bs∧∀ H',Same H H'→Q (.bl true) H'
noncomputable def HeldOk (H:Hp) (av:List Addr) (hs:List V):Prop:=∀ (j:Nat) v,hs[j]? = some v→∃ t f g xs,v = .ref t∧H t=some (.tup [.ref f,.ref g])∧H f=some (.lst xs)∧H g=some (.lst xs)∧¬ f∈av∧¬ g∈av∧xs.all isThing=true
theorem HeldOk.fr {H H':Hp} {av:List Addr} {hs:List V} (h:HeldOk H av hs) (k:∀ x o,H x=some o→¬ (x∈av∧∃ xs,o = .lst xs)→H' x=some o):HeldOk H' av hs:=fun j v e=>by
  obtain⟨t,f,g,xs,h1,h2,h3,h4,h5,h6,h7⟩:=h j v e
  exact⟨t,f,g,xs,h1,k _ _ h2 (fun z=>by obtain⟨_,_,z⟩:=z;cases z),k _ _ h3 fun z=>h5 z.1,k _ _ h4 fun z=>h6 z.1,h5,h6,h7⟩
theorem HeldOk.same {H H':Hp} {av:List Addr} {hs:List V} (h:HeldOk H av hs) (s:Same H H'):HeldOk H' av hs:=h.fr fun x o e _=>s x o e
theorem HeldOk.snoc {H:Hp} {av:List Addr} {hs:List V} {t f g:Addr} {xs:List V} (h:HeldOk H av hs) (h2:H t=some (.tup [.ref f,.ref g])) (h3:H f=some (.lst xs)) (h4:H g=some (.lst xs)) (h5:¬ f∈av) (h6:¬ g∈av) (h7:xs.all isThing=true):HeldOk H av (hs++[.ref t]):=fun j v e=>by
  by_cases hj:j<hs.length
  · rw[List.getElem?_append_left hj] at e
    exact h j v e
  · rw[List.getElem?_append_right (Nat.le_of_not_lt hj)] at e
    cases q:j - hs.length with
    | zero =>
      rw[q] at e
      cases e
      exact⟨t,f,g,xs,rfl,h2,h3,h4,h5,h6,h7⟩
    | succ n=>rw[q] at e;cases e
noncomputable def sp_askD (K:PySem.W.Frag) (Cs:Nat→Addr):Sp:=fun vs H Q _=>∃ (hd ol b2 l b he:Addr) (c:Int) (rs:List Rk) (bs:List Int) (hs:List V),vs=[.ref hd,.ref l,.ref b,.int c,.ref he]∧H hd=some (.lst [.ref ol,.ref b2])∧RosAt Cs H ol rs∧H b2=some (.lst (bs.map V.int))∧RtsAt H l rs∧H b=some (.lst (bs.map V.int))∧RsOk rs∧bs.length≤50∧Nns bs∧H he=some (.lst hs)∧HeldOk H [he,ol] hs∧hs.length≤50∧he≠hd∧he≠ol∧he≠b2∧he≠l∧he≠b ∧
  ∀ H' hs',(∀ x o,H x=some o→x≠he→H' x=some o)→H' he=some (.lst hs')→HeldOk H' [he,ol] hs'→hs'.length≤hs.length+2→Q (.bl true) H'
theorem ro_thing {Cs:Nat→Addr} {H:Hp} {ys:List V} {rs:List Rk} (T:ItemsAt H ys rs (fun H' v r=>RoG Cs H' r v)) (g:∀ r∈rs,Gd 3 r):ys.all isThing=true:=by
  rw[List.all_eq_true]
  intro y hy
  obtain⟨i,hi⟩:=List.mem_iff_getElem?.mp hy
  obtain⟨r,hr,h⟩:=T.at_ i y hi
  obtain⟨o,_,_,rfl,_⟩:=(h H (Same.refl _)).obj (g r (List.mem_of_getElem? hr))
  rfl
theorem int_thing (bs:List Int):(bs.map V.int).all isThing=true:=by
  rw[List.all_map,List.all_eq_true]
  exact fun _ _=>rfl
theorem Ros_fr {Cs:Nat→Addr} {H H':Hp} {l he:Addr} {rs:List Rk} {xs:List V} (h:RosAt Cs H l rs) (e:H he=some (.lst xs)) (ne:he≠l) (fr:∀ x o,H x=some o→x≠he→H' x=some o):RosAt Cs H' l rs:=by
  obtain⟨ys,h1,T⟩:=h
  have kp:KeepNL H H':=fun b o hb n=>fr b o hb fun z=>by subst z;rw[e] at hb;cases hb;exact n _ rfl
  refine⟨ys,fr _ _ h1 ne.symm,T.len,fun i y hy=>?_⟩
  obtain⟨r,hr,k⟩:=T.at_ i y hy
  exact⟨r,hr,fun H'' s=>((k H (Same.refl _)).keep kp).same s⟩
theorem Rts_fr {H H':Hp} {l he:Addr} {rs:List Rk} {xs:List V} (h:RtsAt H l rs) (e:H he=some (.lst xs)) (ne:he≠l) (fr:∀ x o,H x=some o→x≠he→H' x=some o):RtsAt H' l rs:=by
  obtain⟨ys,h1,T⟩:=h
  have kp:KeepNL H H':=fun b o hb n=>fr b o hb fun z=>by subst z;rw[e] at hb;cases hb;exact n _ rfl
  refine⟨ys,fr _ _ h1 ne.symm,T.len,fun i y hy=>?_⟩
  obtain⟨r,hr,k⟩:=T.at_ i y hy
  exact⟨r,hr,fun H'' s=>((k H (Same.refl _)).keep kp).same s⟩
end Pg
namespace K13
open PySem PySem.NumText L2 Pg
seal PE PA PT PW PS PSs PG PGs PI PIf PO PK
section
variable {P:Program} {w:World} {K:PySem.W.Frag} {mg:Str→Option Value} {base:Heap} {f:Addr} {fd:FuncData} {d:Nat→Addr} {cR:Addr}
theorem New.up2 {H H1:Hp} {o:HO} {Q:VK} (r:New H o Q) (s:Same H H1):New H1 o Q:=fun p H2 s2 n e=>r p H2 (s.trans s2) (was_none s n) e
set_option maxHeartbeats 4000000 in
theorem ok_rulesL (F:Fun K "_law_rules" "_law_rules" (top 83) f fd) (G:Glb mg) (C1:Cal P w K mg base CX0 1 "_law_mixed" ["_law_cell","_law_k"] sp_mixR) (C2:Cal P w K mg base CX0 5 "_law_rule" ["_law_cell","_law_name"] sp_ruleR):FnOk P w K mg base CX0 6 f fd ["_law_cell","_law_names_here","_law_most"] (sp_rulesL K):=by
  have nd:(["_law_cell","_law_names_here","_law_most","_law_number","_law_many"]:List Str).Nodup:=by decide +kernel
  have nk:(["_law_k","_law_names_here","_law_cell"]:List Str).Nodup:=by decide +kernel
  refine F.ok (N:=["_law_cell","_law_names_here","_law_most","_law_number","_law_many"]) ⟨rfl,rfl,rfl,by decide +kernel,rfl,by decide +kernel,by decide +kernel⟩ (fun vs H Q E h=>?_) (fun cdv A outer s H vs Q E hr h=>?_)
  · obtain⟨c,ln,nms,rfl,_⟩:=h
    rfl
  · obtain⟨c,ln,nms,rfl,hl,n8,hn,nn,q⟩:=h
    refine' ⟨_,(pss_cons (ps_set (i:=3) nd rfl (Or.inl rfl) (pe_cal C1 hr (by decide) pass0 (pa_cons (pv 0) (pa_cons pe_int pa_nil))))
        (pss_cons (ps_set (i:=4) nd rfl (Or.inl rfl) (pe_at ix_list (pe_lstS (pa_cons pe_int (pa_cons pe_int (pa_cons pe_int (pa_cons pe_int (pa_cons (pv 2) (pa_cons (pe_op op_mod (pe_op op_fdiv (pv 3) pe_int) (pe_op op_add (pv 2) pe_int)) pa_nil))))))) (pe_op op_mod (pv 3) pe_int)))
        (pss_one (ps_ret ?comp)))),?main⟩
    case comp =>
      refine' pe_compI (Nc:=["_law_k","_law_names_here","_law_cell"]) (cl:=[("_law_names_here",s.heap.objs.size+2),("_law_cell",s.heap.objs.size+1)]) (src:=[none,some 1,some 0]) (wi:=iRng1 (tCons (tVar 4) tNil)) (g:=gName 0) (tt:=tNoIf) (te:=fun σ H Q=>tCons (tOp (rI0 fun i j=>.int (i+j)) (fun σ H Q=>tCons (tVar 2) (tCons (tOp (rI0 fun i j=>.int (i+j)) (tC (.int 150)) (tVar 0)) tNil) σ H fun vs H1=>sp_mixR vs H1 Q E0) (tVar 0)) (tCons (tOp (rIxL K) (tVar 1) (tVar 0)) tNil) σ H fun vs H1=>sp_ruleR vs H1 Q E0)
        ⟨rfl,rfl,by decide +kernel,by decide +kernel,sub_of (subN rfl (sub1 rfl)),has_of (by rfl),frm_none (frm_some ⟨_,rfl,rfl,rfl,rfl⟩ (frm_some ⟨_,rfl,rfl,rfl,rfl⟩ frm_nil)),rfl⟩ rfl (pi_range1 rfl G.range (pa_cons (pv 4) pa_nil)) ?hb
      case hb =>
        intro fp C' s' H'
        exact⟨pg_name (i:=0) nk rfl (Or.inl rfl),pif_nil,pe_cal C2 hr (by decide) pass0 (pa_cons (pe_op op_add (pe_cal C1 hr (by decide) pass0 (pa_cons (pv 2) (pa_cons (pe_op op_add pe_int (pv 0)) pa_nil))) (pv 0)) (pa_cons (pe_at ix_list (pv 1) (pv 0)) pa_nil))⟩
    dsimp (config:={ proj:=false,iota:=false,beta:=false,eta:=false }) only [cxOf_K,nox_K]
    refine⟨_,rfl,c,_,rfl,fun m m0 m1=>⟨_,rfl,_,rfl,_,_,rfl,rfl,⟨by decide,by decide⟩,_,rfl,_,_,rfl,rfl,_,_,rfl,rfl,(by show (0:Int)<8+1;decide),lenOk rfl,fun g H1 s1 n1 e1=>?_⟩⟩
    obtain⟨v,ev,mv⟩:=at_any (xs:=[V.int 0,.int 1,.int 2,.int 3,.int 8,.int (m/6%(8+1))]) (i:=m%6) (Int.emod_nonneg _ (by decide)) (Int.emod_lt_of_pos _ (by decide))
    obtain⟨n,rfl,h8⟩:∃ n:Nat,v = .int (n:Nat)∧n≤8:=by
      simp only[List.mem_cons,List.not_mem_nil,or_false] at mv
      rcases mv with rfl | rfl | rfl | rfl | rfl | rfl
      · exact⟨0,rfl,by decide⟩
      · exact⟨1,rfl,by decide⟩
      · exact⟨2,rfl,by decide⟩
      · exact⟨3,rfl,by decide⟩
      · exact⟨8,rfl,by decide⟩
      · obtain⟨k,hk⟩:=Int.eq_ofNat_of_zero_le (show 0≤m/6%(8+1) from Int.emod_nonneg _ (by decide))
        have:m/6%(8+1)<9:=Int.emod_lt_of_pos _ (by decide)
        exact⟨k,by rw[hk],by omega⟩
    refine⟨_,rfl,_,_,rfl,rfl,(by show (0:Int)<6;decide),g,_,_,_,rfl,rfl,SqL.of e1,ev,_,rfl,_,rfl,by omega,by omega,?_⟩
    rw[Int.toNat_natCast]
    refine fun D hD=>comp_mkS walk_rng (rng_items n) hD (by rw[List.length_range,sizeLine_eq];omega) (fun H' u k=>∃ r,RtG H' r u∧Gd 3 r∧nms[k]? = some r.name) (fun kp h=>by
      obtain⟨r,h1,h2⟩:=h
      exact⟨r,h1.keep kp,h2⟩) (fun i k hk v H2 R s2 e2 r=>?_) (fun zs H2 s2 e2 M=>?_)
    · subst e2
      obtain⟨hk1,hk2⟩:=List.getElem?_eq_some_iff.mp hk
      rw[List.getElem_range] at hk2
      subst hk2
      rw[List.length_range] at hk1
      have il:i<nms.length:=by omega
      exact⟨_,rfl,_,rfl,_,_,rfl,rfl,_,_,rfl,fun m' m0' m1'=>⟨_,rfl,_,_,rfl,rfl,_,rfl,_,rfl,ln,_,_,_,rfl,rfl,(s1.trans s2).seq hl,atI_nat (j:=i) (v:=.str nms[i]) (by rw[List.getElem?_map,List.getElem?_eq_getElem il];rfl),_,_,rfl,hn _ (List.getElem_mem il),fun v r' H3 gd rn s3 rt=>r v H3 s3 ⟨r',rt,gd,by rw[rn,List.getElem?_eq_getElem il]⟩⟩⟩
    · obtain⟨rs,rl,hr'⟩:=made_choose (P:=fun H u r=>RtG H r u) (q:=fun k r=>Gd 3 r∧nms[k]? = some r.name) M
      have zl:zs.length=n:=by rw[M.len,List.length_range]
      refine q D rs H2 ⟨fun r hm=>?_,?_,by omega⟩ (s1.trans s2) (was_none s1 hD) ⟨zs,e2,by omega,fun i y hy=>?_⟩
      · obtain⟨i,hi⟩:=List.mem_iff_getElem?.mp hm
        exact (hr' i r hi).1.1
      · have e:rs.map Rk.name=nms.take n:=by
          apply List.ext_getElem?
          intro i
          rw[List.getElem?_map,List.getElem?_take]
          by_cases hi:i<n
          · have h:=List.getElem?_eq_getElem (show i<rs.length by omega)
            rw[if_pos hi,h,(hr' i _ h).1.2]
            rfl
          · rw[if_neg hi,List.getElem?_eq_none (by omega)]
            rfl
        rw[e]
        exact nn.sublist (List.take_sublist _ _)
      · have hi:i<rs.length:=by have:=(List.getElem?_eq_some_iff.mp hy).1;omega
        have h:=List.getElem?_eq_getElem hi
        obtain⟨u,hu,rt⟩:=(hr' i _ h).2
        rw[hy] at hu
        cases hu
        exact⟨_,h,fun H' s=>rt.same s⟩
set_option maxHeartbeats 4000000 in
theorem ok_duesW {j:Nat} (F:Fun K "_law_dues" "_law_dues" (top 84) f fd) (G:Glb mg) (C1:Cal P w K mg base CX0 j "_law_of_month" ["_law_rule_here","_law_bases_here"] (sp_ofmN K 3)):FnOk P w K mg base CX0 (j+1) f fd ["_law_rules_here","_law_bases_here"] (sp_duesW K):=by
  have nc:(["_law_rule_here","_law_bases_here"]:List Str).Nodup:=by decide +kernel
  refine F.ok (N:=["_law_rules_here","_law_bases_here"]) ⟨rfl,rfl,rfl,by decide +kernel,rfl,by decide +kernel,by decide +kernel⟩ (fun vs H Q E h=>?_) (fun cdv A outer s H vs Q E hr h=>?_)
  · obtain⟨l,b,rs,bs,rfl,_⟩:=h
    rfl
  · obtain⟨l,b,rs,bs,rfl,⟨ys,hl,T⟩,ok,hb,bl,bn,q⟩:=h
    have few:=ok.few
    refine' ⟨_,(pss_one (ps_ret (pe_callTy call_tuple_of rfl G.tuple boot_tuple (pa_cons (pe_callB call_sortP rfl G.sorted PyProof.Rows.boot_sorted (pa_cons ?comp pa_nil)) pa_nil)))),?main⟩
    case comp =>
      refine' pe_compI (Nc:=["_law_rule_here","_law_bases_here"]) (cl:=[("_law_bases_here",s.heap.objs.size+1)]) (src:=[none,some 1]) (wi:=iList K (tVar 0)) (g:=gName 0) (tt:=tNoIf) (te:=tTupS (tCons (tOp (rIxT K) (tVar 0) (tC (.int 1))) (tCons (fun σ H Q=>tCons (tVar 0) (tCons (tVar 1) tNil) σ H fun vs H1=>sp_ofmN K 3 vs H1 Q E0) tNil)))
        ⟨rfl,rfl,by decide +kernel,by decide +kernel,sub_of (sub1 rfl),has_of (by rfl),frm_none (frm_some ⟨_,rfl,rfl,rfl,rfl⟩ frm_nil),rfl⟩ rfl (pi_list (pv 0)) ?hb
      case hb =>
        intro fp C' s' H'
        exact⟨pg_name (i:=0) nc rfl (Or.inl rfl),pif_nil,pe_tupS (pa_cons (pe_at ix_tup (pv 0) pe_int) (pa_cons (pe_cal C1 hr (Nat.le_refl _) pass0 (pa_cons (pv 0) (pa_cons (pv 1) pa_nil))) pa_nil))⟩
    dsimp (config:={ proj:=false,iota:=false,beta:=false,eta:=false }) only [cxOf_K,nox_K]
    refine⟨_,rfl,l,rfl,⟨_,SqL.of hl⟩,fun D hD=>comp_newN (walk_list (SqL.of hl)) T hD (by rw[sizeLine_eq];omega) (fun r=>cP (r.name,ofmG r bs)) (fun r hm v H1 R s1 rt k=>?_) (fun zs H1 s1 e1 T1=>?_)⟩
    · have gd:=ok.gd r hm
      obtain⟨t,xs,rfl,ht,nm⟩:=rt.name gd
      exact⟨_,rfl,t,_,_,_,rfl,rfl,SqT.of ht,nm,_,rfl,_,rfl,_,r,b,bs,rfl,rt,gd,s1.seq hb,bl,bn,fun H2 s2=>⟨lenOk rfl,New.up2 k s2⟩⟩
    · have T2:TupsAt H1 zs ((duePrs rs bs).map cP):=by
        unfold duePrs
        rw[List.map_map]
        exact T1
      have nd:=due_nd ok bs
      have zl:zs.length=(duePrs rs bs).length:=by rw[T2.len,List.length_map]
      have pl:(duePrs rs bs).length=rs.length:=by unfold duePrs;rw[List.length_map]
      refine⟨D,zs,_,_,rfl,SqL.of e1,by omega,pair_at T2 nd,fun is pm up a H2 s2 n2 e2=>?_⟩
      obtain⟨pq,T3⟩:=pairs_perm T2 pm
      have up:(is.map (pAt (duePrs rs bs))).Pairwise (fun a b=>¬ b.1.cps.toList<a.1.cps.toList):=List.pairwise_map.mpr up
      rw[canP_one pq up nd] at T3
      refine⟨a,_,rfl,.inl ⟨SqL.of e2,fun t t0=>?_⟩⟩
      have s3:Same H2 (upd H2 t (.tup (is.map fun i=>zs.getD i V.non))):=Same.upd t0
      exact q _ _ (s1.trans (s2.trans s3)) ⟨t,_,rfl,upd_same,(T3.same s2).same s3⟩
theorem ok_netL (F:Fun K "_law_net" "_law_net" (top 85) f fd) (G:Glb mg):FnOk P w K mg base CX0 1 f fd ["_law_base","_law_dues_here"] sp_netL:=by
  have nc:(["_law_name","_law_amount_here"]:List Str).Nodup:=by decide +kernel
  refine F.ok (N:=["_law_base","_law_dues_here"]) ⟨rfl,rfl,rfl,by decide +kernel,rfl,by decide +kernel,by decide +kernel⟩ (fun vs H Q E h=>?_) (fun cdv A outer s H vs Q E hr h=>?_)
  · obtain⟨b,v,prs,rfl,_⟩:=h
    rfl
  · obtain⟨b,v,prs,rfl,⟨t,ys,rfl,ht,T⟩,pl,q⟩:=h
    refine' ⟨_,(pss_one (ps_ret (pe_op op_sub (pv 0) (pe_callB (call_sumL rfl) rfl G.sum boot_sum (pa_cons ?comp pa_nil))))),?main⟩
    case comp =>
      refine' pe_compI (Nc:=["_law_name","_law_amount_here"]) (cl:=[]) (src:=[none,none]) (wi:=iTup K (tVar 1)) (g:=gTup K 2 (gCons (gName 0) (gCons (gName 1) gNil))) (tt:=tNoIf) (te:=tVar 1)
        ⟨rfl,rfl,by decide +kernel,by decide +kernel,(fun x c z=>nomatch z),has_of (by rfl),frm_none (frm_none frm_nil),rfl⟩ rfl (pi_tup (pv 1)) ?hb
      case hb =>
        intro fp C' s' H'
        exact⟨pg_tup rfl (pgs_cons (pg_name (i:=0) nc rfl (Or.inl rfl)) (pgs_cons (pg_name (i:=1) nc rfl (Or.inl rfl)) pgs_nil)),pif_nil,pv 1⟩
    refine⟨_,rfl,_,rfl,t,rfl,⟨_,SqT.of ht⟩,fun D2 hD2=>comp_two (walk_tup (SqT.of ht)) T hD2 (by rw[sizeLine_eq];omega) (fun p=>V.int p.2) (fun p hp H2 R s2 r=>⟨_,rfl,r H2 (Same.refl _)⟩) (fun H2 s2 e2=>?_)⟩
    have e2':H2 D2=some (.lst ((prs.map (·.2)).map V.int)):=by rw[e2,List.map_map];rfl
    exact⟨D2,_,rfl,SqL.of e2',_,_,rfl,rfl,q H2 s2⟩
theorem ok_dRight (F:Fun K "_law_dues_right" "_law_dues_right" (top 86) f fd) (G:Glb mg) (C1:Cal P w K mg base CX0 1 "_law_whole" ["_law_found"] sp_whole):FnOk P w K mg base CX0 2 f fd ["_law_found","_law_due"] sp_dRight:=by
  have nd:(["_law_found","_law_due","_law_pair"]:List Str).Nodup:=by decide +kernel
  refine F.ok (N:=["_law_found","_law_due","_law_pair"]) ⟨rfl,rfl,rfl,by decide +kernel,rfl,by decide +kernel,by decide +kernel⟩ (fun vs H Q E h=>?_) (fun cdv A outer s H vs Q E hr h=>?_)
  · obtain⟨u,v,prs,rfl,_⟩:=h
    rfl
  · obtain⟨u,v,prs,rfl,du,dv,pl,q⟩:=h
    have un2:(A.deeper (PyProof.Rows.envOfC "_law_dues_right" (defScope (top 86)) s.heap.objs.size f cdv)).units+2<cLine:=Nat.lt_of_le_of_lt (Nat.add_le_add_left (by decide:2≤64) _) hr.units
    obtain⟨t,ys,rfl,ht,T⟩:=id du
    refine⟨_,(pss_cons (ps_if (PW.pt (pw_or (pt_not (pt_val (pe_callB call_isinst rfl G.isinstance boot_isinstance (pa_cons (pv 0) (pa_cons (pe_bltn (v:=.ty "tuple") rfl G.tuple boot_tuple rfl) pa_nil))))) (pw_or1 (pt_cmpR op_neK (pv 0) (pv 1) (nomark _))))) (pss_one (ps_ret pe_bl)) pss_nil)
        (pss_cons (ps_for PassesOwn.never rfl (pi_tup (pv 0)) (pg_name (i:=2) nd rfl (Or.inl rfl)) (pss_one (ps_if (PW.pt (pw_or (pt_not (pt_val (pe_callB call_isinst rfl G.isinstance boot_isinstance (pa_cons (pv 2) (pa_cons (pe_bltn (v:=.ty "tuple") rfl G.tuple boot_tuple rfl) pa_nil))))) (pw_or (pt_not (pt_val (pe_callB call_isinst rfl G.isinstance boot_isinstance (pa_cons (pe_at ix_tup (pv 2) pe_int) (pa_cons (pe_bltn (v:=.ty "str") rfl G.str boot_str rfl) pa_nil))))) (pw_or1 (pt_not (pt_val (pe_cal C1 hr (by decide) pass0 (pa_cons (pe_at ix_tup (pv 2) pe_int) pa_nil)))))))) (pss_one (ps_ret pe_bl)) pss_nil)))
        (pss_one (ps_ret pe_bl)))),?_⟩
    dsimp (config:={ proj:=false,iota:=false,beta:=false,eta:=false }) only [cxOf_K,nox_K]
    refine⟨_,rfl,_,_,_,_,true,rfl,rfl,.inl (.tup ht),rfl,true,rfl,iteF ⟨_,rfl,_,rfl,2,_,rfl,dus_is du,dus_is dv,un2,_,rfl,iteF ?_⟩⟩
    refine⟨_,rfl,t,rfl,⟨_,SqT.of ht⟩,for_tup2 (xs:=ys) (fun i σ H'=>∃ x2,σ = [some (.ref t),some v,x2]∧H'=H) ⟨_,rfl,rfl⟩ (fun i σ H' _ z=>?_) ?_ ?_⟩
    · obtain⟨_,_,rfl⟩:=z
      exact SqT.of ht
    · rintro i y σ H' hy ⟨x2,rfl,rfl⟩ E2 k2
      obtain⟨a,c,rfl,h1,h2⟩:=T.of_at hy
      rw[List.getElem?_map] at h1
      obtain⟨p,hp,rfl⟩:=Option.map_eq_some_iff.mp h1
      exact⟨_,rfl,_,_,_,_,true,rfl,rfl,.inl (.tup h2),rfl,true,rfl,iteF ⟨_,rfl,a,_,_,_,rfl,rfl,SqT.of h2,rfl,_,_,_,_,true,rfl,rfl,.inl (.str _),rfl,true,rfl,iteF ⟨_,rfl,a,_,_,_,rfl,rfl,SqT.of h2,rfl,_,rfl,true,rfl,iteF (k2 _ _ ⟨_,rfl,rfl⟩)⟩⟩⟩
    · rintro σ H' ⟨x2,rfl,rfl⟩
      exact q _ (Same.refl _)
set_option maxHeartbeats 8000000 in
theorem ok_tRight {j:Nat} (hj:2≤j) (F:Fun K "_law_table_right" "_law_table_right" (top 87) f fd) (G:Glb mg) (C1:Cal P w K mg base CX0 1 "_law_whole" ["_law_found"] sp_whole) (C2:Cal P w K mg base CX0 j "_law_dues" ["_law_rules_here","_law_bases_here"] (sp_duesW K)) (C3:Cal P w K mg base CX0 2 "_law_dues_right" ["_law_found","_law_due"] sp_dRight) (C4:Cal P w K mg base CX0 1 "_law_net" ["_law_base","_law_dues_here"] sp_netL):FnOk P w K mg base CX0 (j+1) f fd ["_law_found","_law_rules_here","_law_bases_here"] (sp_tRight K):=by
  have nd:(["_law_found","_law_rules_here","_law_bases_here","_law_k","_law_due","_law_row_here"]:List Str).Nodup:=by decide +kernel
  refine F.ok (N:=["_law_found","_law_rules_here","_law_bases_here","_law_k","_law_due","_law_row_here"]) ⟨rfl,rfl,rfl,by decide +kernel,rfl,by decide +kernel,by decide +kernel⟩ (fun vs H Q E h=>?_) (fun cdv A outer s H vs Q E hr h=>?_)
  · obtain⟨t,l,b,zs,rs,bs,rfl,_⟩:=h
    rfl
  · obtain⟨t,l,b,zs,rs,bs,rfl,ht,M,rt,ok,hb,bl,bn,q⟩:=h
    have zl:zs.length=bs.length:=by rw[M.len,List.length_range]
    refine⟨_,(pss_cons (ps_if (PW.pt (pw_or (pt_not (pt_val (pe_callB call_isinst rfl G.isinstance boot_isinstance (pa_cons (pv 0) (pa_cons (pe_bltn (v:=.ty "list") rfl G.list boot_list rfl) pa_nil))))) (pw_or1 (pt_cmpR op_ne (pe_callB call_len_seq rfl G.len boot_len (pa_cons (pv 0) pa_nil)) (pe_callB call_len_seq rfl G.len boot_len (pa_cons (pv 2) pa_nil)) (nomark _))))) (pss_one (ps_ret pe_bl)) pss_nil)
        (pss_cons (ps_for PassesOwn.never rfl (pi_range1 rfl G.range (pa_cons (pe_callB call_len_seq rfl G.len boot_len (pa_cons (pv 2) pa_nil)) pa_nil)) (pg_name (i:=3) nd rfl (Or.inl rfl)) (pss_cons (ps_set (i:=4) nd rfl (Or.inl rfl) (pe_cal C2 hr (Nat.le_refl _) pass0 (pa_cons (pv 1) (pa_cons (pe_slice sl_list (pv 2) po_none (po_some (pe_op op_add (pv 3) pe_int))) pa_nil))))
        (pss_cons (ps_set (i:=5) nd rfl (Or.inl rfl) (pe_at ix_list (pv 0) (pv 3)))
        (pss_cons (ps_if (PW.pt (pw_or (pt_not (pt_val (pe_callB call_isinst rfl G.isinstance boot_isinstance (pa_cons (pv 5) (pa_cons (pe_bltn (v:=.ty "tuple") rfl G.tuple boot_tuple rfl) pa_nil))))) (pw_or (pt_cmpR op_ne (pe_callB call_len_seq rfl G.len boot_len (pa_cons (pv 5) pa_nil)) pe_int (nomark _)) (pw_or1 (pt_not (pt_val (pe_cal C3 hr hj pass0 (pa_cons (pe_at ix_tup (pv 5) pe_int) (pa_cons (pv 4) pa_nil))))))))) (pss_one (ps_ret pe_bl)) pss_nil)
        (pss_one (ps_if (PW.pt (pw_or (pt_cmpR op_ne (pe_at ix_tup (pv 5) pe_int) (pe_at ix_list (pv 2) (pv 3)) (nomark _)) (pw_or (pt_cmpR op_ne (pe_at ix_tup (pv 5) pe_int) (pe_cal C4 hr (by omega) pass0 (pa_cons (pe_at ix_list (pv 2) (pv 3)) (pa_cons (pv 4) pa_nil))) (nomark _)) (pw_or (pt_not (pt_val (pe_cal C1 hr (by omega) pass0 (pa_cons (pe_at ix_tup (pv 5) pe_int) pa_nil)))) (pw_or1 (pt_not (pt_val (pe_cal C1 hr (by omega) pass0 (pa_cons (pe_at ix_tup (pv 5) pe_int) pa_nil))))))))) (pss_one (ps_ret pe_bl)) pss_nil))))))
        (pss_one (ps_ret pe_bl)))),?_⟩
    dsimp (config:={ proj:=false,iota:=false,beta:=false,eta:=false }) only [cxOf_K,nox_K]
    refine⟨_,rfl,_,_,_,_,true,rfl,rfl,.inl (.lst ht),rfl,true,rfl,iteF ⟨_,rfl,t,_,rfl,.inl (SqL.of ht),_,rfl,b,_,rfl,.inl hb,rfl,_,rfl,ite2 (fun e=>?_) (fun _=>?_)⟩⟩
    · rw[List.length_map,zl] at e
      simp at e
    refine⟨_,rfl,b,_,rfl,.inl hb,_,rfl,by rw[List.length_map];omega,by rw[List.length_map];omega,?_⟩
    rw[List.length_map,Int.toNat_natCast]
    refine for_range2 (fun i σ H'=>∃ x3 x4 x5,σ = [some (.ref t),some (.ref l),some (.ref b),x3,x4,x5]∧Same H H') ⟨_,_,_,rfl,Same.refl _⟩ ?_ ?_
    · rintro i σ H1 hi ⟨x3,x4,x5,rfl,s1⟩ E1 k1
      have z0:(0:Int)+(i:Nat)=(i:Nat):=Int.zero_add _
      rw[z0]
      obtain⟨u,hu,tr,du,rfl,htr,hdu⟩:=M.at_ i i (by rw[List.getElem?_eq_getElem (by rw[List.length_range];exact hi),List.getElem_range])
      refine⟨_,rfl,_,rfl,_,rfl,_,_,rfl,rfl,_,rfl,b,_,rfl,s1.seq hb,fun p p0=>?_⟩
      have s2:Same H1 (upd H1 p (.lst (cutV (bs.map V.int) none (some (((i:Nat):Int)+1))))):=Same.upd p0
      have e2:(upd H1 p (.lst (cutV (bs.map V.int) none (some (((i:Nat):Int)+1))))) p=some (.lst ((bs.take (i+1)).map V.int)):=by rw[upd_same,show ((i:Nat):Int)+1=((i+1:Nat):Int) from rfl,cut_to_n]
      have S2:=s1.trans s2
      refine⟨l,p,rs,bs.take (i+1),rfl,rt.same S2,ok,SqL.of e2,by rw[List.length_take];omega,nns_take bn _,fun v H2 s3 dv=>?_⟩
      have S3:=S2.trans s3
      have dl:=due_len ok (bs.take (i+1))
      have htr3:=S3 _ _ htr
      have lb:lastB (bs.take (i+1))=bs.getD i 0:=by
        unfold lastB
        rw[List.take_add_one,List.getElem?_eq_getElem hi,List.getLast?_append,List.getD_eq_getElem?_getD,List.getElem?_eq_getElem hi]
        rfl
      refine⟨_,rfl,_,rfl,t,_,_,_,rfl,rfl,SqL.of (S3 _ _ ht),atI_nat hu,?_⟩
      refine⟨_,rfl,_,_,_,_,true,rfl,rfl,.inl (.tup htr3),rfl,true,rfl,iteF ⟨_,rfl,tr,_,rfl,.inr (SqT.of htr3),rfl,_,rfl,iteF ⟨_,rfl,tr,_,_,_,rfl,rfl,SqT.of htr3,rfl,_,rfl,_,_,_,rfl,hdu.same S3,dv,dl,fun H4 s4=>⟨true,rfl,iteF ?_⟩⟩⟩⟩
      have S4:=S3.trans s4
      have htr4:=S4 _ _ htr
      refine⟨_,rfl,tr,_,_,_,rfl,rfl,SqT.of htr4,rfl,_,rfl,_,rfl,b,_,_,_,rfl,rfl,S4.seq hb,num_at hi,rfl,_,rfl,ite2 (fun e=>?_) (fun _=>?_)⟩
      · rw[lb] at e
        simp at e
      refine⟨_,rfl,tr,_,_,_,rfl,rfl,SqT.of htr4,rfl,_,rfl,_,rfl,b,_,_,_,rfl,rfl,S4.seq hb,num_at hi,_,rfl,_,v,_,rfl,dv.same s4,dl,fun H5 s5=>⟨rfl,_,rfl,ite2 (fun e=>?_) (fun _=>?_)⟩⟩
      · rw[lb] at e
        simp at e
      have S5:=S4.trans s5
      exact⟨_,rfl,tr,_,_,_,rfl,rfl,SqT.of (S5 _ _ htr),rfl,_,rfl,true,rfl,iteF ⟨_,rfl,tr,_,_,_,rfl,rfl,SqT.of (S5 _ _ htr),rfl,_,rfl,true,rfl,iteF (k1 _ _ ⟨_,_,_,rfl,S5⟩)⟩⟩
    · rintro σ H1 ⟨x3,x4,x5,rfl,s1⟩
      exact q H1 s1
end
end K13
namespace K13
open PySem PySem.NumText L2 Pg
seal PE PA PT PW PS PSs PG PGs PI PIf PO PK
section
variable {P:Program} {w:World} {K:PySem.W.Frag} {mg:Str→Option Value} {base:Heap} {f:Addr} {fd:FuncData} {d:Nat→Addr} {cR:Addr}
set_option maxHeartbeats 8000000 in
theorem ok_askD {Cs:Nat→Addr} {j:Nat} (hj:2≤j) (F:Fun K "_law_asked" "_law_asked" (top 88) f fd) (G:Glb mg) (C1:Cal P w K mg base CX0 j "year_table" ["rules","bases"] (sp_ytab K Cs)) (C2:Cal P w K mg base CX0 j "_law_table_right" ["_law_found","_law_rules_here","_law_bases_here"] (sp_tRight K)) (C3:Cal P w K mg base CX0 2 "_law_dues_right" ["_law_found","_law_due"] sp_dRight) (C4:Cal P w K mg base CX0 j "dues_of" ["rules","bases"] (sp_duesP K Cs)) (C5:Cal P w K mg base CX0 j "_law_dues" ["_law_rules_here","_law_bases_here"] (sp_duesW K)):FnOk P w K mg base CX0 (j+1) f fd ["_law_handed","_law_rules_here","_law_bases_here","_law_cell","_law_held"] (sp_askD K Cs):=by
  have nd:(["_law_handed","_law_rules_here","_law_bases_here","_law_cell","_law_held","_law_kept","_law_k","_law_found"]:List Str).Nodup:=by decide +kernel
  refine F.ok (N:=["_law_handed","_law_rules_here","_law_bases_here","_law_cell","_law_held","_law_kept","_law_k","_law_found"]) ⟨rfl,rfl,rfl,by decide +kernel,rfl,by decide +kernel,by decide +kernel⟩ (fun vs H Q E h=>?_) (fun cdv A outer s H vs Q E hr h=>?_)
  · obtain⟨hd,ol,b2,l,b,he,c,rs,bs,hs,rfl,_⟩:=h
    rfl
  · obtain⟨hd,ol,b2,l,b,he,c,rs,bs,hs,rfl,hhd,ro,hb2,rt,hb,ok,bl,bn,hhe,ho,hl,n1,n2,n3,n4,n5,q⟩:=h
    have un2:(A.deeper (PyProof.Rows.envOfC "_law_asked" (defScope (top 88)) s.heap.objs.size f cdv)).units+2<cLine:=Nat.lt_of_le_of_lt (Nat.add_le_add_left (by decide:2≤64) _) hr.units
    refine⟨_,(pss_cons (ps_set (i:=5) nd rfl (Or.inl rfl) (pe_lstS (pa_cons (pe_callTy call_list_of rfl G.list boot_list (pa_cons (pe_at ix_list (pv 0) pe_int) pa_nil)) (pa_cons (pe_callTy call_list_of rfl G.list boot_list (pa_cons (pe_at ix_list (pv 0) pe_int) pa_nil)) pa_nil))))
        (pss_cons (ps_for PassesOwn.never rfl (pi_range1 rfl G.range (pa_cons pe_int pa_nil)) (pg_name (i:=6) nd rfl (Or.inl rfl)) (pss_one (ps_if (pt_cmpR op_eq (pe_op op_mod (pe_op op_add (pv 3) (pv 6)) pe_int) pe_int (nomark _)) (pss_cons (ps_set (i:=7) nd rfl (Or.inl rfl) (pe_cal C1 hr (Nat.le_refl _) pass0 (pa_cons (pe_at ix_list (pv 0) pe_int) (pa_cons (pe_at ix_list (pv 0) pe_int) pa_nil))))
        (pss_cons (ps_if (pt_not (pt_val (pe_cal C2 hr (Nat.le_refl _) pass0 (pa_cons (pv 7) (pa_cons (pv 1) (pa_cons (pv 2) pa_nil)))))) (pss_one (ps_ret pe_bl)) pss_nil)
        (pss_cons (ps_expr (pe_bm PySem.F.plainAttrs_list PySem.F.slot_list_append PySem.F.type_list_append mt_append (pv 7) (pa_cons pe_non pa_nil)))
        (pss_one (ps_expr (pe_bm PySem.F.plainAttrs_list PySem.F.slot_list_append PySem.F.type_list_append mt_append (pv 4) (pa_cons (pe_tupS (pa_cons (pv 7) (pa_cons (pe_callTy call_list_of rfl G.list boot_list (pa_cons (pv 7) pa_nil)) pa_nil))) pa_nil))))))) (pss_one (ps_if (pt_not (pt_val (pe_cal C3 hr hj pass0 (pa_cons (pe_cal C4 hr (Nat.le_refl _) pass0 (pa_cons (pe_at ix_list (pv 0) pe_int) (pa_cons (pe_at ix_list (pv 0) pe_int) pa_nil))) (pa_cons (pe_cal C5 hr (Nat.le_refl _) pass0 (pa_cons (pv 1) (pa_cons (pv 2) pa_nil))) pa_nil))))) (pss_one (ps_ret pe_bl)) pss_nil)))))
        (pss_one (ps_ret (pe_cmpR op_eqS (pv 0) (pv 5) (nomark _)))))),?_⟩
    dsimp (config:={ proj:=false,iota:=false,beta:=false,eta:=false }) only [cxOf_K,nox_K]
    obtain⟨ys,hol,T⟩:=id ro
    have yt:=ro_thing T ok.gd
    have yl:ys.length=rs.length:=T.len
    have few:=ok.few
    refine⟨_,rfl,hd,_,_,_,rfl,rfl,SqL.of hhd,rfl,ol,_,rfl,.inl (SqL.of hol),fun k0 k00=>?_⟩
    have s1:Same H (upd H k0 (.lst ys)):=Same.upd k00
    have e1:(upd H k0 (.lst ys)) k0=some (.lst ys):=upd_same
    generalize upd H k0 (.lst ys)=H1 at s1 e1
    refine⟨_,rfl,hd,_,_,_,rfl,rfl,SqL.of (s1 _ _ hhd),rfl,b2,_,rfl,.inl (SqL.of (s1 _ _ hb2)),fun k1 k10=>?_⟩
    have s2:Same H1 (upd H1 k1 (.lst (bs.map V.int))):=Same.upd k10
    have e2:(upd H1 k1 (.lst (bs.map V.int))) k1=some (.lst (bs.map V.int)):=upd_same
    generalize upd H1 k1 (.lst (bs.map V.int))=H2 at s2 e2
    refine⟨lenOk rfl,fun kp H3 s3 n30 e3=>?_⟩
    have S3:=s1.trans (s2.trans s3)
    have hhe3:=S3 _ _ hhe
    have kh:he≠kp:=ne_of_none (s2 _ _ (s1 _ _ hhe)) n30
    have kh0:he≠k0:=ne_of_none hhe k00
    have kh1:he≠k1:=ne_of_none (s1 _ _ hhe) k10
    have inA:∀ {x:Addr} {o:HO},x≠he→(∃ xs,o=HO.lst xs)→True:=fun _ _=>trivial
    refine⟨2,rfl,by decide,by decide,for_range2 (n:=2) (fun i σ H'=>∃ x6 x7,∃ hs':List V,An4 (σ = [some (.ref hd),some (.ref l),some (.ref b),some (.int c),some (.ref he),some (.ref kp),x6,x7]) (∀ x o,H3 x=some o→x≠he→H' x=some o) (H' he=some (.lst hs')∧HeldOk H' [he,ol] hs') (hs'.length≤hs.length+i)) ⟨_,_,hs,rfl,fun _ _ h _=>h,⟨hhe3,ho.same S3⟩,Nat.le_refl _⟩ ?_ ?_⟩
    · rintro i σ H4 hi ⟨x6,x7,hs',rfl,f4,⟨e4,ho4⟩,l4⟩ E4 k4
      have fr:∀ x o,H x=some o→x≠he→H4 x=some o:=fun x o hx ne=>f4 _ _ (S3 _ _ hx) ne
      have hhd4:=fr _ _ hhd n1.symm
      have ro4:=Ros_fr ro hhe n2 fr
      have rt4:=Rts_fr rt hhe n4 fr
      have hb4:=fr _ _ hb n5.symm
      have hb24:=fr _ _ hb2 n3.symm
      have hol4:=fr _ _ hol n2.symm
      refine⟨_,rfl,_,rfl,_,_,rfl,rfl,_,_,rfl,rfl,(by show (0:Int)<2;decide),rfl,_,rfl,ite2 (fun _=>?_) (fun _=>?_)⟩
      · refine⟨_,rfl,hd,_,_,_,rfl,rfl,SqL.of hhd4,rfl,_,rfl,hd,_,_,_,rfl,rfl,SqL.of hhd4,rfl,ol,b2,rs,bs,rfl,ro4,ok,SqL.of hb24,bl,fun t zs H5 s5 n5' e5 M=>?_⟩
        refine⟨_,rfl,_,rfl,_,rfl,t,l,b,zs,rs,bs,rfl,e5,M,rt4.same s5,ok,SqL.of (s5 _ _ hb4),bl,bn,fun H6 s6=>⟨true,rfl,iteF ?_⟩⟩
        have e6:=s6 _ _ e5
        have S6:=s5.trans s6
        have zl:zs.length=bs.length:=by rw[M.len,List.length_range]
        have zt:(zs++[V.non]).all isThing=true:=by
          rw[List.all_append,Bool.and_eq_true]
          refine⟨List.all_eq_true.mpr fun y hy=>?_,rfl⟩
          obtain⟨i,hi⟩:=List.mem_iff_getElem?.mp hy
          have il:i<bs.length:=by have:=(List.getElem?_eq_some_iff.mp hi).1;omega
          obtain⟨u,hu,tr,du,rfl,_⟩:=M.at_ i i (by rw[List.getElem?_eq_getElem (by rw[List.length_range];exact il),List.getElem_range])
          rw[hi] at hu
          cases hu
          rfl
        refine⟨_,rfl,.inl ⟨rfl,_,SqL.of e6⟩,t,_,_,rfl,rfl,e6,by rw[zl,sizeLine_eq];omega,?_⟩
        have te:t≠he:=(ne_of_none e4 n5').symm
        have tol:t≠ol:=(ne_of_none hol4 n5').symm
        have s7:∀ x o,H4 x=some o→(upd H6 t (.lst (zs++[.non]))) x=some o:=fun x o hx=>by
          rw[upd_ne (ne_of_none hx n5')]
          exact S6 _ _ hx
        have e7:(upd H6 t (.lst (zs++[.non]))) t=some (.lst (zs++[.non])):=upd_same
        generalize upd H6 t (.lst (zs++[.non]))=H7 at s7 e7
        have s7:Same H4 H7:=s7
        refine⟨_,rfl,.inl ⟨rfl,_,SqL.of (s7 _ _ e4)⟩,_,rfl,_,rfl,t,_,rfl,.inl (SqL.of e7),fun g g0=>?_⟩
        have s8:Same H7 (upd H7 g (.lst (zs++[.non]))):=Same.upd g0
        have e8:(upd H7 g (.lst (zs++[.non]))) g=some (.lst (zs++[.non])):=upd_same
        generalize upd H7 g (.lst (zs++[.non]))=H8 at s8 e8
        refine⟨lenOk rfl,fun u H9 s9 n9 e9=>?_⟩
        have S9:Same H4 H9:=s7.trans (s8.trans s9)
        have ge:g≠he:=(ne_of_none (s7 _ _ e4) g0).symm
        have gol:g≠ol:=(ne_of_none (s7 _ _ hol4) g0).symm
        have ho9:HeldOk H9 [he,ol] (hs'++[.ref u]):=(ho4.same S9).snoc e9 (s9 _ _ (s8 _ _ e7)) (s9 _ _ e8) (by simp[te,tol]) (by simp[ge,gol]) zt
        refine⟨he,_,_,rfl,rfl,S9 _ _ e4,by rw[sizeLine_eq];omega,k4 _ _ ⟨_,_,hs'++[.ref u],rfl,fun x o hx ne=>?_,⟨upd_same,ho9.fr fun x o hx z=>?_⟩,by rw[List.length_append,List.length_singleton];omega⟩⟩
        · rw[upd_ne ne]
          exact S9 _ _ (f4 _ _ hx ne)
        · rw[upd_ne fun e=>?_]
          · exact hx
          · subst e
            rw[S9 _ _ e4] at hx
            cases hx
            exact z ⟨List.mem_cons_self,_,rfl⟩
      · refine⟨_,rfl,hd,_,_,_,rfl,rfl,SqL.of hhd4,rfl,_,rfl,hd,_,_,_,rfl,rfl,SqL.of hhd4,rfl,ol,b2,rs,bs,rfl,ro4,ok,SqL.of hb24,by omega,fun u H5 s5 du=>?_⟩
        refine⟨_,rfl,_,rfl,l,b,rs,bs,rfl,rt4.same s5,ok,SqL.of (s5 _ _ hb4),by omega,bn,fun v H6 s6 dv=>?_⟩
        exact⟨u,v,_,rfl,du.same s6,dv,due_len ok bs,fun H7 s7=>⟨true,rfl,iteF (k4 _ _ ⟨_,_,hs',rfl,fun x o hx ne=>s7 _ _ (s6 _ _ (s5 _ _ (f4 _ _ hx ne))),⟨s7 _ _ (s6 _ _ (s5 _ _ e4)),ho4.same (s5.trans (s6.trans s7))⟩,by omega⟩)⟩⟩
    · rintro σ H4 ⟨x6,x7,hs',rfl,f4,⟨e4,ho4⟩,l4⟩
      have fr:∀ x o,H x=some o→x≠he→H4 x=some o:=fun x o hx ne=>f4 _ _ (S3 _ _ hx) ne
      have q:=q H4 hs' fr e4 ho4 l4
      refine⟨_,rfl,_,rfl,1,hd,kp,_,_,rfl,rfl,SqL.of (fr _ _ hhd n1.symm),SqL.of (f4 _ _ e3 kh.symm),rfl,fun i x y hx hy=>?_,un2,q⟩
      match i,hx,hy with
      | 0,hx,hy =>
        cases hx
        cases hy
        exact Sm.list (SqL.of (fr _ _ hol n2.symm)) (SqL.of (f4 _ _ (s3 _ _ (s2 _ _ e1)) kh0.symm)) yt
      | 1,hx,hy =>
        cases hx
        cases hy
        exact Sm.list (SqL.of (fr _ _ hb2 n3.symm)) (SqL.of (f4 _ _ (s3 _ _ e2) kh1.symm)) (int_thing bs)
end
end K13
namespace Pg
open PySem L2
theorem cutV_1 (ys:List V):cutV ys (some 1) none=ys.drop 1:=by
  unfold cutV
  rw[show (1:Int)=((1:Nat):Int) from rfl,HT.sIx_nat,HT.sIx_none]
  cases ys with
  | nil=>rfl
  | cons y r =>
    rw[Nat.min_eq_left (show 1≤(y::r).length from Nat.succ_le_succ (Nat.zero_le _))]
    show r.take (r.length+1 - 1)=r
    rw[List.take_of_length_le (by omega)]
theorem cutV_to (ys:List V) (k:Nat):cutV ys none (some ((k:Nat):Int))=ys.take k:=by
  unfold cutV
  rw[HT.sIx_none,List.drop_zero,HT.sIx_nat,Nat.sub_zero]
  by_cases h:k≤ys.length
  · rw[Nat.min_eq_left h]
  · rw[Nat.min_eq_right (by omega),List.take_of_length_le (Nat.le_refl _),List.take_of_length_le (by omega)]
theorem cutV_from (ys:List V) (k:Nat):cutV ys (some ((k:Nat):Int)) none=ys.drop k:=by
  unfold cutV
  rw[HT.sIx_nat,HT.sIx_none]
  by_cases h:k≤ys.length
  · rw[Nat.min_eq_left h,List.take_of_length_le (by rw[List.length_drop];exact Nat.le_refl _)]
  · rw[Nat.min_eq_right (by omega),Nat.sub_self,List.take_zero,List.drop_eq_nil_of_le (by omega)]
noncomputable def rotL {α:Type} (xs:List α):List α:=xs.reverse.drop 1++xs.reverse.take 1
theorem rot_perm {α:Type} (xs:List α):(rotL xs).Perm xs:=by
  unfold rotL
  refine List.perm_append_comm.trans ?_
  rw[List.take_append_drop]
  exact List.reverse_perm _
theorem RsOk.perm {rs qs:List Rk} (h:RsOk rs) (p:qs.Perm rs):RsOk qs:=⟨fun r hr=>h.gd r (p.mem_iff.mp hr),(p.map _).nodup_iff.mpr h.nd,by rw[p.length_eq];exact h.few⟩
theorem RsOk.erase {rs:List Rk} (h:RsOk rs) (k:Nat):RsOk (rs.take k++rs.drop (k+1)):=by
  have sub:(rs.take k++rs.drop (k+1)).Sublist rs:=by
    have:=List.Sublist.append (List.Sublist.refl (rs.take k)) (List.drop_sublist_drop_left rs (show k≤k+1 from Nat.le_succ k))
    rw[List.take_append_drop] at this
    exact this
  exact⟨fun r hr=>h.gd r (sub.subset hr),h.nd.sublist (sub.map _),Nat.le_trans sub.length_le h.few⟩
theorem keep_fr {H H':Hp} {he:Addr} {xs:List V} (e:H he=some (.lst xs)) (fr:∀ x o,H x=some o→x≠he→H' x=some o):KeepNL H H':=fun b o hb n=>fr b o hb fun z=>by subst z;rw[e] at hb;cases hb;exact n _ rfl
theorem ro_keep {Cs:Nat→Addr} {H H':Hp} {ys:List V} {rs:List Rk} (T:ItemsAt H ys rs (fun H' v r=>RoG Cs H' r v)) (k:KeepNL H H'):ItemsAt H' ys rs (fun H' v r=>RoG Cs H' r v):=⟨T.len,fun i y e=>by
  obtain⟨r,h1,h2⟩:=T.at_ i y e
  exact⟨r,h1,fun H'' s=>((h2 H (Same.refl _)).keep k).same s⟩⟩
theorem rt_keep {H H':Hp} {ys:List V} {rs:List Rk} (T:ItemsAt H ys rs (fun H' v r=>RtG H' r v)) (k:KeepNL H H'):ItemsAt H' ys rs (fun H' v r=>RtG H' r v):=⟨T.len,fun i y e=>by
  obtain⟨r,h1,h2⟩:=T.at_ i y e
  exact⟨r,h1,fun H'' s=>((h2 H (Same.refl _)).keep k).same s⟩⟩
theorem held_items {H:Hp} {av:List Addr} {hs:List V} (h:HeldOk H av hs):ItemsAt H hs hs (fun H' v x=>v=x∧∃ t f g xs,v = .ref t∧H' t=some (.tup [.ref f,.ref g])∧H' f=some (.lst xs)∧H' g=some (.lst xs)∧xs.all isThing=true):=⟨rfl,fun i y e=>by
  obtain⟨t,f,g,xs,h1,h2,h3,h4,_,_,h7⟩:=h i y e
  exact⟨y,e,fun H' s=>⟨rfl,t,f,g,xs,h1,s _ _ h2,s _ _ h3,s _ _ h4,h7⟩⟩⟩
theorem back_in {α:Type} {ys:List α} {k:Nat} (h:k<ys.length):(ys.eraseIdx k).take k++ys[k]::(ys.eraseIdx k).drop k=ys:=by
  rw[List.eraseIdx_eq_take_drop_succ]
  have l:(ys.take k).length=k:=by rw[List.length_take];omega
  rw[List.take_append_of_le_length (by omega),List.take_take,Nat.min_self,List.drop_append_of_le_length (by omega),List.drop_eq_nil_of_le (as:=ys.take k) (by omega),List.nil_append,List.getElem_cons_drop,List.take_append_drop]
theorem many13 {x:V} (mv:x∈[V.int 12,.int 0,.int 1,.int 2,.int 3,.int 12,.int 7,.int 5]):∃ n:Nat,x = .int (n:Nat)∧n≤50:=by
  simp only[List.mem_cons,List.not_mem_nil,or_false] at mv
  rcases mv with rfl | rfl | rfl | rfl | rfl | rfl | rfl | rfl
  · exact⟨12,rfl,by decide⟩
  · exact⟨0,rfl,by decide⟩
  · exact⟨1,rfl,by decide⟩
  · exact⟨2,rfl,by decide⟩
  · exact⟨3,rfl,by decide⟩
  · exact⟨12,rfl,by decide⟩
  · exact⟨7,rfl,by decide⟩
  · exact⟨5,rfl,by decide⟩
end Pg
namespace K13
open PySem PySem.NumText L2 Pg
seal PE PA PT PW PS PSs PG PGs PI PIf PO PK
section
variable {P:Program} {w:World} {K:PySem.W.Frag} {mg:Str→Option Value} {base:Heap} {f:Addr} {fd:FuncData} {d:Nat→Addr} {cR:Addr}
set_option maxHeartbeats 32000000 in
theorem ok_law {Cs:Nat→Addr} (F:Fun K "law" "law" (top 89) f fd) (G:Glb mg) (C__law_cell_at:Cal P w K mg base CX0 1 "_law_cell_at" ["_law_script","_law_k"] (sp_cell K)) (C__law_mixed:Cal P w K mg base CX0 1 "_law_mixed" ["_law_cell","_law_k"] sp_mixR) (C__law_names:Cal P w K mg base CX0 2 "_law_names" ["_law_cell","_law_many"] sp_namU) (C__law_rules:Cal P w K mg base CX0 6 "_law_rules" ["_law_cell","_law_names_here","_law_most"] (sp_rulesL K)) (C__law_bases:Cal P w K mg base CX0 3 "_law_bases" ["_law_cell","_law_many"] sp_basR) (C_rule_of:Cal P w K mg base CX0 23 "rule_of" ["text"] (sp_ruleOf Cs)) (C__law_row:Cal P w K mg base CX0 6 "_law_row" ["_law_rule_here"] (sp_rowN 4))
    (C__law_asked:Cal P w K mg base CX0 23 "_law_asked" ["_law_handed","_law_rules_here","_law_bases_here","_law_cell","_law_held"] (sp_askD K Cs)) (C__law_dues_right:Cal P w K mg base CX0 2 "_law_dues_right" ["_law_found","_law_due"] sp_dRight) (C_dues_of:Cal P w K mg base CX0 22 "dues_of" ["rules","bases"] (sp_duesP K Cs)) (C__law_dues:Cal P w K mg base CX0 22 "_law_dues" ["_law_rules_here","_law_bases_here"] (sp_duesW K)):FnOk P w K mg base CX0 24 f fd ["_law_script"] (sp_lawS K):=by
  have nd:(["_law_script","_law_names_here","_law_rules_here","_law_k","_law_cell","_law_bases_here","_law_handed","_law_held","_law_at","_law_one"]:List Str).Nodup:=by decide +kernel
  have nr:(["_law_rule_here"]:List Str).Nodup:=by decide +kernel
  have np:(["_law_pair"]:List Str).Nodup:=by decide +kernel
  refine F.ok (N:=["_law_script","_law_names_here","_law_rules_here","_law_k","_law_cell","_law_bases_here","_law_handed","_law_held","_law_at","_law_one"]) ⟨rfl,rfl,rfl,by decide +kernel,rfl,by decide +kernel,by decide +kernel⟩ (fun vs H Q E h=>?_) (fun cdv A outer s H vs Q E hr h=>?_)
  · obtain⟨a,ns,rfl,_⟩:=h
    rfl
  · obtain⟨a,ns,rfl,hs,q⟩:=h
    have hu:=hr.units0
    have un1:(A.deeper (PyProof.Rows.envOfC "law" (defScope (top 89)) s.heap.objs.size f cdv)).units+(0+1)<cLine:=Nat.lt_of_le_of_lt (Nat.add_le_add_left (by decide:1≤64) _) hr.units
    refine' ⟨_,(pss_cons (ps_set (i:=1) nd rfl (Or.inl rfl) (pe_cal C__law_names hr (by decide) pass0 (pa_cons (pe_cal C__law_cell_at hr (by decide) pass0 (pa_cons (pv 0) (pa_cons pe_int pa_nil))) (pa_cons pe_int pa_nil))))
        (pss_cons (ps_set (i:=2) nd rfl (Or.inl rfl) (pe_cal C__law_rules hr (by decide) pass0 (pa_cons (pe_cal C__law_cell_at hr (by decide) pass0 (pa_cons (pv 0) (pa_cons pe_int pa_nil))) (pa_cons (pv 1) (pa_cons pe_int pa_nil)))))
        (pss_cons (ps_for PassesOwn.never rfl (pi_range1 rfl G.range (pa_cons (pe_op op_mod (pe_cal C__law_cell_at hr (by decide) pass0 (pa_cons (pv 0) (pa_cons pe_int pa_nil))) pe_int) pa_nil)) (pg_name (i:=3) nd rfl (Or.inl rfl)) (pss_one (ps_set (i:=2) nd rfl (Or.inl rfl) (pe_op op_catS (pe_slice sl_list (pe_rev (pv 2) (pe_un un_neg pe_int)) (po_some pe_int) po_none) (pe_slice sl_list (pe_rev (pv 2) (pe_un un_neg pe_int)) po_none (po_some pe_int))))))
        (pss_cons (ps_set (i:=4) nd rfl (Or.inl rfl) (pe_cal C__law_cell_at hr (by decide) pass0 (pa_cons (pv 0) (pa_cons pe_int pa_nil))))
        (pss_cons (ps_set (i:=5) nd rfl (Or.inl rfl) (pe_cal C__law_bases hr (by decide) pass0 (pa_cons (pv 4) (pa_cons (pe_at ix_list (pe_lstS (pa_cons pe_int (pa_cons pe_int (pa_cons pe_int (pa_cons pe_int (pa_cons pe_int (pa_cons pe_int (pa_cons pe_int (pa_cons pe_int pa_nil))))))))) (pe_op op_mod (pe_op op_fdiv (pv 4) pe_int) pe_int)) pa_nil))))
        (pss_cons (ps_set (i:=6) nd rfl (Or.inl rfl) (pe_lstS (pa_cons ?comp_2 (pa_cons (pe_callTy call_list_of rfl G.list boot_list (pa_cons (pv 5) pa_nil)) pa_nil))))
        (pss_cons (ps_set (i:=7) nd rfl (Or.inl rfl) (pe_lstS pa_nil))
        (pss_cons (ps_if (pt_not (pt_val (pe_cal C__law_asked hr (by decide) pass0 (pa_cons (pv 6) (pa_cons (pv 2) (pa_cons (pv 5) (pa_cons (pe_op op_fdiv (pv 4) pe_int) (pa_cons (pv 7) pa_nil)))))))) (pss_one (ps_ret pe_bl)) pss_nil)
        (pss_cons (ps_for PassesOwn.never rfl (pi_range1 rfl G.range (pa_cons (pe_op op_add (pe_callB call_len_seq rfl G.len boot_len (pa_cons (pv 5) pa_nil)) pe_int) pa_nil)) (pg_name (i:=3) nd rfl (Or.inl rfl)) (pss_one (ps_if (pt_not (pt_val (pe_cal C__law_dues_right hr (by decide) pass0 (pa_cons (pe_cal C_dues_of hr (by decide) pass0 (pa_cons (pe_at ix_list (pv 6) pe_int) (pa_cons (pe_slice sl_list (pv 5) po_none (po_some (pv 3))) pa_nil))) (pa_cons (pe_cal C__law_dues hr (by decide) pass0 (pa_cons (pv 2) (pa_cons (pe_slice sl_list (pv 5) po_none (po_some (pv 3))) pa_nil))) pa_nil))))) (pss_one (ps_ret pe_bl)) pss_nil)))
        (pss_cut (ps_if (pt_cmpR (op_neNil hu) (pv 2) (pe_lstS pa_nil) (nomark _)) (pss_cons (ps_set (i:=8) nd rfl (Or.inl rfl) (pe_op op_mod (pe_cal C__law_mixed hr (by decide) pass0 (pa_cons (pv 4) (pa_cons pe_int pa_nil))) (pe_callB call_len_seq rfl G.len boot_len (pa_cons (pv 2) pa_nil))))
        (pss_cons (ps_set (i:=9) nd rfl (Or.inl rfl) (pe_bm PySem.F.plainAttrs_list PySem.F.slot_list_pop PySem.F.type_list_pop mt_popAt (pe_at ix_list (pv 6) pe_int) (pa_cons (pv 8) pa_nil)))
        (pss_cons (ps_if (pt_not (pt_val (pe_cal C__law_asked hr (by decide) pass0 (pa_cons (pv 6) (pa_cons (pe_op op_catS (pe_slice sl_list (pv 2) po_none (po_some (pv 8))) (pe_slice sl_list (pv 2) (po_some (pe_op op_add (pv 8) pe_int)) po_none)) (pa_cons (pv 5) (pa_cons (pe_op op_fdiv (pv 4) pe_int) (pa_cons (pv 7) pa_nil)))))))) (pss_one (ps_ret pe_bl)) pss_nil)
        (pss_one (ps_expr (pe_bm PySem.F.plainAttrs_list PySem.F.slot_list_insert PySem.F.type_list_insert mt_insert (pe_at ix_list (pv 6) pe_int) (pa_cons (pv 8) (pa_cons (pv 9) pa_nil)))))))) pss_nil)
        (pss_cons (ps_if (pt_not (pt_val (pe_cal C__law_asked hr (by decide) pass0 (pa_cons (pv 6) (pa_cons (pv 2) (pa_cons (pv 5) (pa_cons (pe_op op_fdiv (pv 4) pe_int) (pa_cons (pv 7) pa_nil)))))))) (pss_one (ps_ret pe_bl)) pss_nil)
        (pss_one (ps_ret (pe_cmpR (op_eqNil hu) ?comp_1 (pe_lstS pa_nil) (nomark _))))))))))))))),?main⟩
    case comp_2 =>
      refine' pe_compI (Nc:=["_law_rule_here"]) (cl:=[]) (src:=[none]) (wi:=iList K (tVar 2)) (g:=gName 0) (tt:=tNoIf) (te:=fun σ H Q=>tCons (fun σ H Q=>tCons (tVar 0) tNil σ H fun vs H1=>sp_rowN 4 vs H1 Q E0) tNil σ H fun vs H1=>sp_ruleOf Cs vs H1 Q E0)
        ⟨rfl,rfl,by decide +kernel,by decide +kernel,(fun x c z=>nomatch z),has_of (by rfl),frm_none frm_nil,rfl⟩ rfl (pi_list (pv 2)) ?hb
      case hb =>
        intro fp C' s' H'
        exact⟨pg_name (i:=0) nr rfl (Or.inl rfl),pif_nil,pe_cal C_rule_of hr (by decide) pass0 (pa_cons (pe_cal C__law_row hr (by decide) pass0 (pa_cons (pv 0) pa_nil)) pa_nil)⟩
    case comp_1 =>
      refine' pe_compI (Nc:=["_law_pair"]) (cl:=[]) (src:=[none]) (wi:=iList K (tVar 7)) (g:=gName 0) (tt:=tTest (tOp (rSm K (A.deeper (PyProof.Rows.envOfC "law" (defScope (top 89)) s.heap.objs.size f cdv)).units false) (tOp (rIxT K) (tVar 0) (tC (.int 0))) (tOp (rIxT K) (tVar 0) (tC (.int 1))))) (te:=tVar 0)
        ⟨rfl,rfl,by decide +kernel,by decide +kernel,(fun x c z=>nomatch z),has_of (by rfl),frm_none frm_nil,rfl⟩ rfl (pi_list (pv 7)) ?hb
      case hb =>
        intro fp C' s' H'
        exact⟨pg_name (i:=0) np rfl (Or.inl rfl),pif_one (pt_cmpR op_neS (pe_at ix_tup (pv 0) pe_int) (pe_at ix_tup (pv 0) pe_int) (nomark _)),pv 0⟩
    dsimp (config:={ proj:=false,iota:=false,beta:=false,eta:=false }) only [cxOf_K,nox_K]
    refine⟨_,rfl,a,0,ns,rfl,hs,by decide,_,8,rfl,by decide,fun nms ln H1 nl hn nn s1 n1 e1=>?_⟩
    refine⟨_,rfl,a,1,ns,rfl,s1.seq hs,by decide,_,rfl,_,ln,nms,rfl,SqL.of e1,nl,hn,nn,fun l0 rs0 H2 ok0 s2 _ rt0=>?_⟩
    have S2:=s1.trans s2
    have m0:0≤cellZ ns 2%5:=Int.emod_nonneg _ (by decide)
    have m1:cellZ ns 2%5<5:=Int.emod_lt_of_pos _ (by decide)
    refine⟨_,rfl,a,2,ns,rfl,S2.seq hs,by decide,_,_,rfl,rfl,(by show (0:Int)<5;decide),_,rfl,by show -(2 ^ 62)≤cellZ ns 2%5;omega,by show cellZ ns 2%5<2 ^ 62;omega,for_range2 (fun i σ H'=>∃ x3 l rs,An4 (σ = [some (.ref a),some (.ref ln),some (.ref l),x3,none,none,none,none,none,none]) (Same H2 H') (RsOk rs) (RtsAt H' l rs)) ⟨none,l0,rs0,rfl,Same.refl _,ok0,rt0⟩ ?_ ?_⟩
    · rintro i σ H3 hi ⟨x3,l,rs,rfl,s3,ok,⟨ys,hl,T⟩⟩ E3 k3
      have few:=ok.few
      have yl:ys.length=rs.length:=T.len
      refine⟨_,rfl,_,rfl,rfl,l,ys,rfl,SqL.of hl,fun p1 H4 s4 n4 e4=>⟨_,rfl,p1,_,rfl,SqL.of e4,fun p2 p20=>?_⟩⟩
      have s5:Same H4 (upd H4 p2 (.lst (cutV ys.reverse (some 1) none))):=Same.upd p20
      have e5:(upd H4 p2 (.lst (cutV ys.reverse (some 1) none))) p2=some (.lst (ys.reverse.drop 1)):=by rw[upd_same,cutV_1]
      generalize upd H4 p2 (.lst (cutV ys.reverse (some 1) none))=H5 at s5 e5
      have S5:=s4.trans s5
      refine⟨_,rfl,_,rfl,rfl,l,ys,rfl,SqL.of (S5 _ _ hl),fun p3 H6 s6 n6 e6=>⟨_,rfl,p3,_,rfl,SqL.of e6,fun p4 p40=>?_⟩⟩
      have s7:Same H6 (upd H6 p4 (.lst (cutV ys.reverse none (some 1)))):=Same.upd p40
      have e7:(upd H6 p4 (.lst (cutV ys.reverse none (some 1)))) p4=some (.lst (ys.reverse.take 1)):=by rw[upd_same,show (1:Int)=((1:Nat):Int) from rfl,cutV_to]
      generalize upd H6 p4 (.lst (cutV ys.reverse none (some 1)))=H7 at s7 e7
      refine⟨p2,p4,_,_,rfl,rfl,s7 _ _ (s6 _ _ e5),e7,by rw[List.length_drop,List.length_take,List.length_reverse,sizeLine_eq];omega,fun p5 H8 s8 n8 e8=>?_⟩
      have S8:Same H3 H8:=S5.trans (s6.trans (s7.trans s8))
      exact k3 _ _ ⟨_,p5,rotL rs,rfl,s3.trans S8,ok.perm (rot_perm rs),⟨_,e8,(it_app (it_drop (it_rev T) 1) (it_take (it_rev T) 1)).same S8⟩⟩
    · rintro σ H3 ⟨x3,l,rs,rfl,s3,ok,rt⟩
      have S3:=S2.trans s3
      obtain⟨ts,hl,TT⟩:=id rt
      have few:=ok.few
      have tl:ts.length=rs.length:=TT.len
      refine⟨_,rfl,a,3,ns,rfl,S3.seq hs,by decide,?_⟩
      generalize cellZ ns 3=c
      refine⟨_,rfl,lenOk rfl,fun l6 H6 s6 n6 e6=>?_⟩
      obtain⟨x,ev,mv⟩:=at_any (xs:=[V.int 12,.int 0,.int 1,.int 2,.int 3,.int 12,.int 7,.int 5]) (i:=c/7%8) (Int.emod_nonneg _ (by decide)) (Int.emod_lt_of_pos _ (by decide))
      obtain⟨n,rfl,nl50⟩:=many13 mv
      refine⟨_,rfl,_,_,rfl,rfl,⟨by decide,by decide⟩,_,_,rfl,rfl,(by show (0:Int)<8;decide),l6,_,_,_,rfl,rfl,SqL.of e6,ev,c,n,rfl,nl50,fun bs b H7 bl bn s7 n7 e7=>?_⟩
      have S7:Same H3 H7:=s6.trans s7
      have TT7:=TT.same S7
      refine⟨_,rfl,l,rfl,⟨_,SqL.of (S7 _ _ hl)⟩,fun ol hol0=>comp_mkS (walk_list (SqL.of (S7 _ _ hl))) TT7 hol0 (by rw[sizeLine_eq];omega) (fun H' u r=>RoG Cs H' r u) (fun kp h=>h.keep kp) (fun i r hr' v H8 R s8 rt8 k=>?_) (fun ys H8 s8 hol M=>?_)⟩
      · exact⟨_,rfl,_,r,rfl,rt8,ok.gd r (List.mem_of_getElem? hr'),fun H9 s9=>⟨r,rfl,ok.gd r (List.mem_of_getElem? hr'),fun o Ha sa ro=>k o Ha (s9.trans sa) ro⟩⟩
      have T:=Made.items M fun H' s v r h=>h.same s
      have yl:ys.length=rs.length:=T.len
      refine⟨_,rfl,b,_,rfl,.inl (SqL.of (s8 _ _ e7)),fun b2 b20=>?_⟩
      have s9:Same H8 (upd H8 b2 (.lst (bs.map V.int))):=Same.upd b20
      have eb2:(upd H8 b2 (.lst (bs.map V.int))) b2=some (.lst (bs.map V.int)):=upd_same
      generalize upd H8 b2 (.lst (bs.map V.int))=H9 at s9 eb2
      refine⟨lenOk rfl,fun hd Ha sa hd0 ehd=>⟨lenOk rfl,fun he Hb sb he0 ehe=>?_⟩⟩
      have SAb:=sa.trans sb
      have holA:=sa _ _ (s9 _ _ hol)
      have lA:=sa _ _ (s9 _ _ (s8 _ _ (S7 _ _ hl)))
      have bA:=sa _ _ (s9 _ _ (s8 _ _ e7))
      have b2A:=sa _ _ eb2
      have n1:he≠hd:=(ne_of_none ehd he0).symm
      have n2:he≠ol:=(ne_of_none holA he0).symm
      have n3:he≠b2:=(ne_of_none b2A he0).symm
      have n4:he≠l:=(ne_of_none lA he0).symm
      have n5:he≠b:=(ne_of_none bA he0).symm
      have o1:ol≠l:=(ne_of_none (S7 _ _ hl) hol0).symm
      have o2:ol≠b:=(ne_of_none e7 hol0).symm
      have o3:ol≠b2:=ne_of_none hol b20
      have o4:ol≠hd:=ne_of_none (s9 _ _ hol) hd0
      have TB:=(T.same s9).same SAb
      have TTB:=((TT7.same s8).same s9).same SAb
      have holB:=sb _ _ holA
      have lB:=sb _ _ lA
      have bB:=sb _ _ bA
      have b2B:=sb _ _ b2A
      have hdB:=sb _ _ ehd
      clear holA lA bA b2A
      refine⟨_,rfl,_,rfl,_,rfl,_,rfl,_,_,rfl,rfl,⟨by decide,by decide⟩,_,rfl,hd,ol,b2,l,b,he,_,rs,bs,[],rfl,hdB,⟨ys,holB,TB⟩,b2B,⟨ts,lB,TTB⟩,bB,ok,by omega,bn,ehe,(fun j v e=>nomatch e),by decide,n1,n2,n3,n4,n5,fun Hc h1 frc ec hc hlc=>⟨true,rfl,iteF ?_⟩⟩
      have kc:=keep_fr ehe frc
      have TC:=ro_keep TB kc
      have TTC:=rt_keep TTB kc
      have holC:=frc _ _ holB n2.symm
      have lC:=frc _ _ lB n4.symm
      have bC:=frc _ _ bB n5.symm
      have b2C:=frc _ _ b2B n3.symm
      have hdC:=frc _ _ hdB n1.symm
      have hlc:h1.length≤2:=hlc
      clear TB TTB holB lB bB b2B hdB kc frc ehe
      have lN:(((bs.map V.int).length:Nat):Int)=((bs.length:Nat):Int):=by rw[List.length_map]
      refine⟨_,rfl,b,_,rfl,.inl (SqL.of bC),_,_,rfl,rfl,_,rfl,by rw[lN];omega,by rw[lN];omega,?_⟩
      rw[lN,show (((bs.length:Nat):Int)+1).toNat=bs.length+1 by omega]
      refine for_range2 (fun i σ H'=>∃ x3,σ = [some (.ref a),some (.ref ln),some (.ref l),x3,some (.int c),some (.ref b),some (.ref hd),some (.ref he),none,none]∧Same Hc H') ⟨_,rfl,Same.refl _⟩ ?_ ?_
      · rintro i σ Hd hi ⟨x3,rfl,sd⟩ Ed kd
        have z0:(0:Int)+(i:Nat)=(i:Nat):=Int.zero_add _
        rw[z0]
        refine⟨_,rfl,hd,_,_,_,rfl,rfl,SqL.of (sd _ _ hdC),rfl,_,rfl,_,rfl,_,rfl,b,_,rfl,SqL.of (sd _ _ bC),fun p p0=>?_⟩
        have sp:Same Hd (upd Hd p (.lst (cutV (bs.map V.int) none (some ((i:Nat):Int))))):=Same.upd p0
        have ep:(upd Hd p (.lst (cutV (bs.map V.int) none (some ((i:Nat):Int))))) p=some (.lst ((bs.take i).map V.int)):=by rw[upd_same,cut_to_n]
        have Sp:=sd.trans sp
        refine⟨ol,p,rs,bs.take i,rfl,⟨ys,Sp _ _ holC,TC.same Sp⟩,ok,SqL.of ep,by rw[List.length_take];omega,fun u He se du=>?_⟩
        have Se:=Sp.trans se
        refine⟨_,rfl,_,rfl,_,rfl,_,rfl,b,_,rfl,SqL.of (Se _ _ bC),fun p2 p20=>?_⟩
        have sp2:Same He (upd He p2 (.lst (cutV (bs.map V.int) none (some ((i:Nat):Int))))):=Same.upd p20
        have ep2:(upd He p2 (.lst (cutV (bs.map V.int) none (some ((i:Nat):Int))))) p2=some (.lst ((bs.take i).map V.int)):=by rw[upd_same,cut_to_n]
        have Sp2:=Se.trans sp2
        exact⟨l,p2,rs,bs.take i,rfl,⟨ts,Sp2 _ _ lC,TTC.same Sp2⟩,ok,SqL.of ep2,by rw[List.length_take];omega,nns_take bn _,fun v Hf sf dv=>⟨u,v,_,rfl,(du.same sp2).same sf,dv,due_len ok _,fun Hg sg=>⟨true,rfl,iteF (kd _ _ ⟨_,rfl,Sp2.trans (sf.trans sg)⟩)⟩⟩⟩
      · rintro σ Hd ⟨x3,rfl,sd⟩
        have hC:=hc.same sd
        have ecD:=sd _ _ ec
        have TD:=TC.same sd
        have TTD:=TTC.same sd
        have holD:=sd _ _ holC
        have lD:=sd _ _ lC
        have bD:=sd _ _ bC
        have b2D:=sd _ _ b2C
        have hdD:=sd _ _ hdC
        clear TC TTC holC lC bC b2C hdC hc ec
        refine cut_to (fun σ H'=>∃ x8 x9 h2,An4 (σ = [some (.ref a),some (.ref ln),some (.ref l),x3,some (.int c),some (.ref b),some (.ref hd),some (.ref he),x8,x9]) (H' he=some (.lst h2)∧HeldOk H' [he,ol] h2∧h2.length≤4) (H' ol=some (.lst ys)∧H' l=some (.lst ts)∧H' b=some (.lst (bs.map V.int))∧H' b2=some (.lst (bs.map V.int))∧H' hd=some (.lst [.ref ol,.ref b2])) (ItemsAt H' ys rs (fun H' v r=>RoG Cs H' r v)∧ItemsAt H' ts rs (fun H' v r=>RtG H' r v))) (fun En kk=>?_) ?_
        · refine⟨_,rfl,lenOk rfl,fun pn He se npn epn=>⟨l,pn,_,rfl,rfl,SqL.of (se _ _ lD),SqL.of epn,fun eN=>⟨false,rfl,iteF ?_⟩,fun nN=>⟨true,rfl,iteT ?_⟩⟩⟩
          · exact kk _ _ ⟨_,_,h1,rfl,⟨se _ _ ecD,hC.same se,by omega⟩,⟨se _ _ holD,se _ _ lD,se _ _ bD,se _ _ b2D,se _ _ hdD⟩,TD.same se,TTD.same se⟩
          · have tp:0<ts.length:=List.length_pos_iff.mpr nN
            refine⟨_,rfl,c,_,rfl,fun m mm0 mm1=>⟨_,rfl,l,_,rfl,.inl (SqL.of (se _ _ lD)),_,_,rfl,rfl,by show (0:Int)<(ts.length:Nat);omega,?_⟩⟩
            have k0:0≤m%(ts.length:Int):=Int.emod_nonneg _ (by omega)
            have k1:m%(ts.length:Int)<ts.length:=Int.emod_lt_of_pos _ (by omega)
            obtain⟨k,hk⟩:=Int.eq_ofNat_of_zero_le k0
            dsimp only
            rw[hk] at k1 ⊢
            have kt:k<ts.length:=by omega
            have ky:k<ys.length:=by omega
            refine⟨_,rfl,hd,_,_,_,rfl,rfl,SqL.of (se _ _ hdD),rfl,.inl ⟨rfl,_,SqL.of (se _ _ holD)⟩,_,rfl,ol,_,_,k,ys[k],rfl,rfl,se _ _ holD,by omega,by omega,PySem.seqIndex_of (by omega) (by omega),List.getElem?_eq_getElem ky,?_⟩
            have fF:∀ x o,Hd x=some o→x≠ol→(upd He ol (.lst (ys.eraseIdx k))) x=some o:=fun x o hx ne=>by rw[upd_ne ne];exact se _ _ hx
            have eF:(upd He ol (.lst (ys.eraseIdx k))) ol=some (.lst (ys.take k++ys.drop (k+1))):=by rw[upd_same,List.eraseIdx_eq_take_drop_succ]
            generalize upd He ol (.lst (ys.eraseIdx k))=Hf at fF eF
            have kF:KeepNL Hd Hf:=keep_fr holD fF
            have TF:=ro_keep TD kF
            have TTF:=rt_keep TTD kF
            have hF:HeldOk Hf [he,ol] h1:=hC.fr fun x o hx z=>fF _ _ hx fun e=>by
              subst e
              rw[holD] at hx
              cases hx
              exact z ⟨List.mem_cons_of_mem _ List.mem_cons_self,_,rfl⟩
            have lF:=fF _ _ lD o1.symm
            have bF:=fF _ _ bD o2.symm
            have b2F:=fF _ _ b2D o3.symm
            have hdF:=fF _ _ hdD o4.symm
            have ecF:=fF _ _ ecD n2
            refine⟨_,rfl,_,rfl,_,rfl,_,rfl,l,_,rfl,SqL.of lF,fun p p0=>?_⟩
            have sp:Same Hf (upd Hf p (.lst (cutV ts none (some ((k:Nat):Int))))):=Same.upd p0
            have ep:(upd Hf p (.lst (cutV ts none (some ((k:Nat):Int))))) p=some (.lst (ts.take k)):=by rw[upd_same,cutV_to]
            generalize upd Hf p (.lst (cutV ts none (some ((k:Nat):Int))))=Hg at sp ep
            refine⟨_,rfl,_,rfl,_,_,rfl,rfl,_,rfl,l,_,rfl,SqL.of (sp _ _ lF),fun p2 p20=>?_⟩
            have sp2:Same Hg (upd Hg p2 (.lst (cutV ts (some (((k:Nat):Int)+1)) none))):=Same.upd p20
            have ep2:(upd Hg p2 (.lst (cutV ts (some (((k:Nat):Int)+1)) none))) p2=some (.lst (ts.drop (k+1))):=by rw[upd_same,show ((k:Nat):Int)+1=((k+1:Nat):Int) from rfl,cutV_from]
            generalize upd Hg p2 (.lst (cutV ts (some (((k:Nat):Int)+1)) none))=Hh at sp2 ep2
            refine⟨p,p2,_,_,rfl,rfl,sp2 _ _ ep,ep2,by rw[List.length_take,List.length_drop,sizeLine_eq];omega,fun l2 Hi si nl2 el2=>?_⟩
            have Si:Same Hf Hi:=sp.trans (sp2.trans si)
            have n6:he≠l2:=ne_of_none (sp2 _ _ (sp _ _ ecF)) nl2
            refine⟨_,rfl,_,rfl,_,_,rfl,rfl,⟨by decide,by decide⟩,_,rfl,hd,ol,b2,l2,b,he,_,_,bs,h1,rfl,Si _ _ hdF,⟨_,Si _ _ eF,(it_app (it_take TF k) (it_drop TF (k+1))).same Si⟩,Si _ _ b2F,⟨_,el2,(it_app (it_take TTF k) (it_drop TTF (k+1))).same Si⟩,Si _ _ bF,ok.erase k,by omega,bn,Si _ _ ecF,hF.same Si,by omega,n1,n2,n3,n6,n5,fun Hj h2 frj ej hj hlj=>⟨true,rfl,iteF ?_⟩⟩
            have kj:=keep_fr (Si _ _ ecF) frj
            have eJ:=frj _ _ (Si _ _ eF) n2.symm
            have hdJ:=frj _ _ (Si _ _ hdF) n1.symm
            have TJ:=ro_keep (TF.same Si) kj
            have TTJ:=rt_keep (TTF.same Si) kj
            have ln':(ys.take k++ys.drop (k+1)).length=ys.length - 1:=by rw[List.length_append,List.length_take,List.length_drop];omega
            refine⟨_,rfl,hd,_,_,_,rfl,rfl,SqL.of hdJ,rfl,.inl ⟨rfl,_,SqL.of eJ⟩,_,rfl,_,rfl,ol,_,_,_,rfl,rfl,eJ,by omega,by rw[ln'];omega,by rw[ln',sizeLine_eq];omega,?_⟩
            have bk:(ys.take k++ys.drop (k+1)).take ((k:Nat):Int).toNat++ys[k]::(ys.take k++ys.drop (k+1)).drop ((k:Nat):Int).toNat=ys:=by
              rw[Int.toNat_natCast,← List.eraseIdx_eq_take_drop_succ]
              exact back_in ky
            rw[bk]
            have fK:∀ x o,Hj x=some o→x≠ol→(upd Hj ol (.lst ys)) x=some o:=fun x o hx ne=>by rw[upd_ne ne];exact hx
            have kK:KeepNL Hj (upd Hj ol (.lst ys)):=keep_fr eJ fK
            refine kk _ _ ⟨_,_,h2,rfl,⟨fK _ _ ej n2,hj.fr fun x o hx z=>fK _ _ hx fun e=>?_,by omega⟩,⟨upd_same,fK _ _ (frj _ _ (Si _ _ lF) n4.symm) o1.symm,fK _ _ (frj _ _ (Si _ _ bF) n5.symm) o2.symm,fK _ _ (frj _ _ (Si _ _ b2F) n3.symm) o3.symm,fK _ _ hdJ o4.symm⟩,ro_keep TJ kK,rt_keep TTJ kK⟩
            subst e
            rw[eJ] at hx
            cases hx
            exact z ⟨List.mem_cons_of_mem _ List.mem_cons_self,_,rfl⟩
        · rintro σ He ⟨x8,x9,h2,rfl,⟨ee,hE,le⟩,⟨holE,lE,bE,b2E,hdE⟩,TE,TTE⟩
          refine⟨_,rfl,_,rfl,_,rfl,_,rfl,_,_,rfl,rfl,⟨by decide,by decide⟩,_,rfl,hd,ol,b2,l,b,he,_,rs,bs,h2,rfl,hdE,⟨ys,holE,TE⟩,b2E,⟨ts,lE,TTE⟩,bE,ok,by omega,bn,ee,hE,by omega,n1,n2,n3,n4,n5,fun Hf h3 frf ef hf hlf=>⟨true,rfl,iteF ?_⟩⟩
          refine⟨_,rfl,he,rfl,⟨_,SqL.of ef⟩,fun D hD=>comp_atF (walk_list (SqL.of ef)) (held_items hf) hD (by rw[sizeLine_eq];omega) (fun _=>false) id (fun x hx v Hg R sg e r=>?_) (fun x hx v Hg R sg e r=>?_) (fun Hg sg eg=>?_)⟩
          · obtain⟨_,t,f1,g1,xs,rfl,h2',h3',h4',h5'⟩:=e
            refine⟨_,rfl,t,_,_,_,rfl,rfl,SqT.of h2',rfl,_,rfl,t,_,_,_,rfl,rfl,SqT.of h2',rfl,0,f1,g1,xs,xs,rfl,rfl,SqL.of h3',SqL.of h4',rfl,fun j y z hy hz=>?_,un1,_,rfl,r Hg (Same.refl _)⟩
            rw[hy] at hz
            cases hz
            exact Sm.id (List.all_eq_true.mp h5' y (List.mem_of_getElem? hy))
          · obtain⟨rfl,_⟩:=e
            exact⟨_,rfl,r Hg (Same.refl _)⟩
          · have e0:h3.filter (fun _=>false)=[]:=List.filter_eq_nil_iff.mpr fun _ _=>Bool.false_ne_true
            rw[e0] at eg
            exact⟨lenOk rfl,fun pn Hh sh npn epn=>⟨D,pn,[],rfl,rfl,SqL.of (sh _ _ eg),SqL.of epn,fun _=>q Hh,fun z=>absurd rfl z⟩⟩
end
end K13
namespace L2
open PySem
theorem CalN.mono {P:Program} {w:World} {K:PySem.W.Frag} {mg:Str→Option Value} {base:Heap} {CX:CXT} {j k:Nat} {C:Addr} {x:Str} {ps:List Str} {sp:Sp} (M:CalN P w K mg base CX j x C ps sp) (h:j≤k):CalN P w K mg base CX k x C ps sp:=by
  obtain⟨a,f,fd,b,c,F⟩:=M
  exact⟨a,f,fd,b,c,F.mono h⟩
end L2
namespace Pg
open PySem L2
theorem ne_of_beq {a b:Nat} (h:(!(Nat.beq a b))=true):a≠b:=fun e=>by
  subst e
  rw[Nat.beq_refl] at h
  cases h
section
variable {P:Program} {w:World} {K:PySem.W.Frag} {mg:Str→Option Value} {base:Heap} {CX:CXT} {j d:Nat} {Cs:Nat→Addr}
theorem untG_le {K:PySem.W.Frag} {d e k:Nat} {Cs:Nat→Addr} (h:d≤e):∀ vs H Q E,sp_untG K d k Cs vs H Q E→sp_untG K e k Cs vs H Q E:=by
  rintro vs H Q E ⟨v,r,b,bs,rfl,h1,h2,h3,h4⟩
  exact⟨v,r,b,bs,rfl,h1,h2,h3.le h,h4⟩
theorem depG_le {d e k:Nat} {Cs:Nat→Addr} (h:d≤e):∀ vs H Q E,sp_depG d k Cs vs H Q E→sp_depG e k Cs vs H Q E:=by
  rintro vs H Q E ⟨v,r,rfl,h1,h2,h3,h4⟩
  exact⟨v,r,rfl,h1,h2,h3.le h,h4⟩
theorem twin_le {d e k:Nat} {Cs:Nat→Addr} (h:d≤e):∀ vs H Q E,sp_twin d k Cs vs H Q E→sp_twin e k Cs vs H Q E:=by
  rintro vs H Q E ⟨v,r,rfl,h1,h2,h3,h4⟩
  exact⟨v,r,rfl,h1,h2,h3.le h,h4⟩
theorem mu_mk (U0:CalM P w K mg base CX 5 (Cs 0) "until" ["self","bases"] (sp_unt K 0 Cs)) (U1:CalM P w K mg base CX 5 (Cs 1) "until" ["self","bases"] (sp_unt K 1 Cs)) (U2:CalM P w K mg base CX 5 (Cs 2) "until" ["self","bases"] (sp_unt K 2 Cs)) (U3:CalM P w K mg base CX 5 (Cs 3) "until" ["self","bases"] (sp_unt K 3 Cs)) (U4:CalM P w K mg base CX 4 (Cs 4) "until" ["self","bases"] (sp_untG K 3 4 Cs)) (hd:d≤3) (hj:5≤j) (U5:CalM P w K mg base CX j (Cs 5) "until" ["self","bases"] (sp_untG K d 5 Cs)) :
    ∀ k,k<6→CalM P w K mg base CX j (Cs k) "until" ["self","bases"] (sp_untG K d k Cs) :=
  six6 ((U0.imp (unt_to (by decide))).mono hj) ((U1.imp (unt_to (by decide))).mono hj) ((U2.imp (unt_to (by decide))).mono hj) ((U3.imp (unt_to (by decide))).mono hj) ((U4.imp (untG_le hd)).mono (by omega)) U5
theorem md_mk (D0:CalM P w K mg base CX 1 (Cs 0) "depth" ["self"] (sp_depG 3 0 Cs)) (D1:CalM P w K mg base CX 1 (Cs 1) "depth" ["self"] (sp_depG 3 1 Cs)) (D2:CalM P w K mg base CX 1 (Cs 2) "depth" ["self"] (sp_depG 3 2 Cs)) (D3:CalM P w K mg base CX 1 (Cs 3) "depth" ["self"] (sp_depG 3 3 Cs)) (D4:CalM P w K mg base CX 1 (Cs 4) "depth" ["self"] (sp_depG 3 4 Cs)) (hd:d≤3) (hj:1≤j) (D5:CalM P w K mg base CX j (Cs 5) "depth" ["self"] (sp_depG d 5 Cs)) :
    ∀ k,k<6→CalM P w K mg base CX j (Cs k) "depth" ["self"] (sp_depG d k Cs) :=
  six6 ((D0.imp (depG_le hd)).mono hj) ((D1.imp (depG_le hd)).mono hj) ((D2.imp (depG_le hd)).mono hj) ((D3.imp (depG_le hd)).mono hj) ((D4.imp (depG_le hd)).mono hj) D5
theorem mt_mk (T0:CalM P w K mg base CX 7 (Cs 0) "twin" ["self"] (sp_twin 3 0 Cs)) (T1:CalM P w K mg base CX 7 (Cs 1) "twin" ["self"] (sp_twin 3 1 Cs)) (T2:CalM P w K mg base CX 7 (Cs 2) "twin" ["self"] (sp_twin 3 2 Cs)) (T3:CalM P w K mg base CX 7 (Cs 3) "twin" ["self"] (sp_twin 3 3 Cs)) (T4:CalM P w K mg base CX 8 (Cs 4) "twin" ["self"] (sp_twin 3 4 Cs)) (hd:d≤3) (hj:8≤j) (T5:CalM P w K mg base CX j (Cs 5) "twin" ["self"] (sp_twin d 5 Cs)) :
    ∀ k,k<6→CalM P w K mg base CX j (Cs k) "twin" ["self"] (sp_twin d k Cs) :=
  six6 ((T0.imp (twin_le hd)).mono (by omega)) ((T1.imp (twin_le hd)).mono (by omega)) ((T2.imp (twin_le hd)).mono (by omega)) ((T3.imp (twin_le hd)).mono (by omega)) ((T4.imp (twin_le hd)).mono hj) T5
end
end Pg
set_option maxHeartbeats 8000000
namespace K13
open PySem L2 Pg
theorem law_fn {l:PySem.W.OpenLaw} {w:World} {K:PySem.W.Frag} {h:Heap} {mg:Str→Option Value} {fa:Addr} { cRu cF cS cC cL cB cO:Addr} {t0 t1 t2 t3 t4 t5 t6 t7:Tok} {u0:Tok} {u1:Tok} (X:K.In h) (G:h.Ns mainGlobals mg) (hfa:mg "law" = some (.ref fa))
    (f_is_number:FnAt K "is_number" (top 11))
    (f_is_number_within:FnAt K "is_number_within" (top 12))
    (f_is_parts:FnAt K "is_parts" (top 13))
    (f_is_way:FnAt K "is_way" (top 14))
    (f_need_amount:FnAt K "need_amount" (top 15))
    (f_need_way:FnAt K "need_way" (top 16))
    (f_half_goes_up:FnAt K "half_goes_up" (top 17))
    (f_goes_up:FnAt K "goes_up" (top 18))
    (f_rounded:FnAt K "rounded" (top 19))
    (f_share_of:FnAt K "share_of" (top 20))
    (f_is_word_of:FnAt K "is_word_of" (top 25))
    (f_is_name:FnAt K "is_name" (top 26))
    (f_rise:FnAt K "rise" (top 27))
    (f_are_figures:FnAt K "are_figures" (top 29))
    (f_is_number_text:FnAt K "is_number_text" (top 30))
    (f_read_number:FnAt K "read_number" (top 31))
    (f_dues_of:FnAt K "dues_of" (top 33))
    (f_month_row:FnAt K "month_row" (top 34))
    (f_year_table:FnAt K "year_table" (top 35))
    (f_is_rule_name:FnAt K "is_rule_name" (top 39))
    (f_is_rule_amount:FnAt K "is_rule_amount" (top 40))
    (f_need_rule_amount:FnAt K "need_rule_amount" (top 41))
    (f_need_share:FnAt K "need_share" (top 42))
    (f_months_with_base:FnAt K "months_with_base" (top 43))
    (f_is_band:FnAt K "is_band" (top 51))
    (f_are_bands:FnAt K "are_bands" (top 52))
    (f_number_of:FnAt K "number_of" (top 59))
    (f_band_of:FnAt K "band_of" (top 60))
    (f_bands_of:FnAt K "bands_of" (top 61))
    (f_plain_rule:FnAt K "plain_rule" (top 62))
    (f_is_ontop:FnAt K "is_ontop" (top 63))
    (f_rule_of_words:FnAt K "rule_of_words" (top 64))
    (f_rule_of:FnAt K "rule_of" (top 65))
    (f__law_cell_at:FnAt K "_law_cell_at" (top 67))
    (f__law_mixed:FnAt K "_law_mixed" (top 68))
    (f__law_whole:FnAt K "_law_whole" (top 69))
    (f__law_amount:FnAt K "_law_amount" (top 70))
    (f__law_bases:FnAt K "_law_bases" (top 71))
    (f__law_names:FnAt K "_law_names" (top 72))
    (f__law_parts:FnAt K "_law_parts" (top 73))
    (f__law_way:FnAt K "_law_way" (top 74))
    (f__law_pairs:FnAt K "_law_pairs" (top 75))
    (f__law_plain:FnAt K "_law_plain" (top 76))
    (f__law_rule:FnAt K "_law_rule" (top 77))
    (f__law_rounded:FnAt K "_law_rounded" (top 78))
    (f__law_pieces:FnAt K "_law_pieces" (top 79))
    (f__law_until:FnAt K "_law_until" (top 80))
    (f__law_of_month:FnAt K "_law_of_month" (top 81))
    (f__law_row:FnAt K "_law_row" (top 82))
    (f__law_rules:FnAt K "_law_rules" (top 83))
    (f__law_dues:FnAt K "_law_dues" (top 84))
    (f__law_net:FnAt K "_law_net" (top 85))
    (f__law_dues_right:FnAt K "_law_dues_right" (top 86))
    (f__law_table_right:FnAt K "_law_table_right" (top 87))
    (f__law_asked:FnAt K "_law_asked" (top 88))
    (f_law:FnAt K "law" (top 89))
    (gc0:PySem.W.nsIn K mainGlobals "MOST_SIGNS" = some (some (.int 8 t0)))
    (gc1:PySem.W.nsIn K mainGlobals "MOST_PARTS" = some (some (.int 20000 t1)))
    (gc2:PySem.W.nsIn K mainGlobals "WHOLE" = some (some (.int 10000 t2)))
    (gc3:PySem.W.nsIn K mainGlobals "HALF" = some (some (.int 5000 t3)))
    (gc4:PySem.W.nsIn K mainGlobals "MOST_AMOUNT" = some (some (.int 1000000000000 t4)))
    (gc5:PySem.W.nsIn K mainGlobals "MOST_BANDS" = some (some (.int 12 t5)))
    (gc6:PySem.W.nsIn K mainGlobals "MOST_DEPTH" = some (some (.int 3 t6)))
    (gc7:PySem.W.nsIn K mainGlobals "MOST_FIGURES" = some (some (.int 13 t7)))
    (s0:PySem.W.nsIn K mainGlobals "LETTERS" = some (some (.str "abcdefghijklmnopqrstuvwxyz" u0)))
    (s1:PySem.W.nsIn K mainGlobals "FIGURES" = some (some (.str "0123456789" u1)))
    (s2:TpC K "WAYS" ["down","up","near","even"])
    (s3:TpC K "NO_RULE_NAMES" ["base","net","month","sums"])
    (b_isinstance:PySem.W.nsIn K mainGlobals "isinstance" = some none)
    (b_int:PySem.W.nsIn K mainGlobals "int" = some none)
    (b_bool:PySem.W.nsIn K mainGlobals "bool" = some none)
    (b_str:PySem.W.nsIn K mainGlobals "str" = some none)
    (b_len:PySem.W.nsIn K mainGlobals "len" = some none)
    (b_range:PySem.W.nsIn K mainGlobals "range" = some none)
    (b_ValueError:PySem.W.nsIn K mainGlobals "ValueError" = some none)
    (b_list:PySem.W.nsIn K mainGlobals "list" = some none)
    (b_tuple:PySem.W.nsIn K mainGlobals "tuple" = some none)
    (b_dict:PySem.W.nsIn K mainGlobals "dict" = some none)
    (b_set:PySem.W.nsIn K mainGlobals "set" = some none)
    (b_all:PySem.W.nsIn K mainGlobals "all" = some none)
    (b_any:PySem.W.nsIn K mainGlobals "any" = some none)
    (b_sum:PySem.W.nsIn K mainGlobals "sum" = some none)
    (b_sorted:PySem.W.nsIn K mainGlobals "sorted" = some none)
    (b_abs:PySem.W.nsIn K mainGlobals "abs" = some none)
    (b_max:PySem.W.nsIn K mainGlobals "max" = some none)
    (b_min:PySem.W.nsIn K mainGlobals "min" = some none)
    (b_zip:PySem.W.nsIn K mainGlobals "zip" = some none)
    (b_enumerate:PySem.W.nsIn K mainGlobals "enumerate" = some none)
    (b_reversed:PySem.W.nsIn K mainGlobals "reversed" = some none)
    (q_Rule:PySem.W.nsIn K mainGlobals "Rule" = some (some (.ref cRu)))
    (q1_Rule:PySem.W.plainGet K cRu Str.empty=true)
    (q2_Rule:PySem.W.hasDictIn K cRu=true)
    (q3_Rule:PySem.W.plainOver K cRu=true)
    (q4_Rule:PySem.W.findIn K (.ref cRu) "__setattr__" = some (some (.builtin "object.__setattr__")))
    (m_Rule___init__:MtAt K cRu "__init__" "Rule.__init__" (inClass (top 44) 0))
    (sn_Rule___init__:clsFnSeen K cRu "__init__" = true)
    (q_Flat:PySem.W.nsIn K mainGlobals "Flat" = some (some (.ref cF)))
    (q1_Flat:PySem.W.plainGet K cF Str.empty=true)
    (q2_Flat:PySem.W.hasDictIn K cF=true)
    (q3_Flat:PySem.W.plainOver K cF=true)
    (q4_Flat:PySem.W.findIn K (.ref cF) "__setattr__" = some (some (.builtin "object.__setattr__")))
    (a_Flat_name:NoAttr K cF "name")
    (a_Flat_amount:NoAttr K cF "amount")
    (a_Flat_parts:NoAttr K cF "parts")
    (a_Flat_way:NoAttr K cF "way")
    (a_Flat_most:NoAttr K cF "most")
    (a_Flat_least:NoAttr K cF "least")
    (m_Flat___init__:NwAt K cF "Flat.__init__" (inClass (top 45) 0))
    (m_Flat_until:MtAt K cF "until" "Flat.until" (inClass (top 45) 1))
    (m_Flat_twin:MtAt K cF "twin" "Flat.twin" (inClass (top 45) 3))
    (m_Flat_depth:MtAt K cF "depth" "Rule.depth" (inClass (top 44) 4))
    (m_Flat_of_month:MtAt K cF "of_month" "Rule.of_month" (inClass (top 44) 5))
    (q_Share:PySem.W.nsIn K mainGlobals "Share" = some (some (.ref cS)))
    (q1_Share:PySem.W.plainGet K cS Str.empty=true)
    (q2_Share:PySem.W.hasDictIn K cS=true)
    (q3_Share:PySem.W.plainOver K cS=true)
    (q4_Share:PySem.W.findIn K (.ref cS) "__setattr__" = some (some (.builtin "object.__setattr__")))
    (a_Share_name:NoAttr K cS "name")
    (a_Share_amount:NoAttr K cS "amount")
    (a_Share_parts:NoAttr K cS "parts")
    (a_Share_way:NoAttr K cS "way")
    (a_Share_most:NoAttr K cS "most")
    (a_Share_least:NoAttr K cS "least")
    (m_Share___init__:NwAt K cS "Share.__init__" (inClass (top 46) 0))
    (m_Share_until:MtAt K cS "until" "Share.until" (inClass (top 46) 1))
    (m_Share_twin:MtAt K cS "twin" "Share.twin" (inClass (top 46) 3))
    (m_Share_depth:MtAt K cS "depth" "Rule.depth" (inClass (top 44) 4))
    (m_Share_of_month:MtAt K cS "of_month" "Rule.of_month" (inClass (top 44) 5))
    (q_Capped:PySem.W.nsIn K mainGlobals "Capped" = some (some (.ref cC)))
    (q1_Capped:PySem.W.plainGet K cC Str.empty=true)
    (q2_Capped:PySem.W.hasDictIn K cC=true)
    (q3_Capped:PySem.W.plainOver K cC=true)
    (q4_Capped:PySem.W.findIn K (.ref cC) "__setattr__" = some (some (.builtin "object.__setattr__")))
    (a_Capped_name:NoAttr K cC "name")
    (a_Capped_amount:NoAttr K cC "amount")
    (a_Capped_parts:NoAttr K cC "parts")
    (a_Capped_way:NoAttr K cC "way")
    (a_Capped_most:NoAttr K cC "most")
    (a_Capped_least:NoAttr K cC "least")
    (m_Capped___init__:NwAt K cC "Capped.__init__" (inClass (top 47) 0))
    (m_Capped_until:MtAt K cC "until" "Capped.until" (inClass (top 47) 1))
    (m_Capped_twin:MtAt K cC "twin" "Capped.twin" (inClass (top 47) 3))
    (m_Capped_depth:MtAt K cC "depth" "Rule.depth" (inClass (top 44) 4))
    (m_Capped_of_month:MtAt K cC "of_month" "Rule.of_month" (inClass (top 44) 5))
    (q_Least:PySem.W.nsIn K mainGlobals "Least" = some (some (.ref cL)))
    (q1_Least:PySem.W.plainGet K cL Str.empty=true)
    (q2_Least:PySem.W.hasDictIn K cL=true)
    (q3_Least:PySem.W.plainOver K cL=true)
    (q4_Least:PySem.W.findIn K (.ref cL) "__setattr__" = some (some (.builtin "object.__setattr__")))
    (a_Least_name:NoAttr K cL "name")
    (a_Least_amount:NoAttr K cL "amount")
    (a_Least_parts:NoAttr K cL "parts")
    (a_Least_way:NoAttr K cL "way")
    (a_Least_most:NoAttr K cL "most")
    (a_Least_least:NoAttr K cL "least")
    (m_Least___init__:NwAt K cL "Least.__init__" (inClass (top 48) 0))
    (m_Least_until:MtAt K cL "until" "Least.until" (inClass (top 48) 1))
    (m_Least_twin:MtAt K cL "twin" "Least.twin" (inClass (top 48) 3))
    (m_Least_depth:MtAt K cL "depth" "Rule.depth" (inClass (top 44) 4))
    (m_Least_of_month:MtAt K cL "of_month" "Rule.of_month" (inClass (top 44) 5))
    (q_Bands:PySem.W.nsIn K mainGlobals "Bands" = some (some (.ref cB)))
    (q1_Bands:PySem.W.plainGet K cB Str.empty=true)
    (q2_Bands:PySem.W.hasDictIn K cB=true)
    (q3_Bands:PySem.W.plainOver K cB=true)
    (q4_Bands:PySem.W.findIn K (.ref cB) "__setattr__" = some (some (.builtin "object.__setattr__")))
    (a_Bands_name:NoAttr K cB "name")
    (a_Bands_bands:NoAttr K cB "bands")
    (a_Bands_way:NoAttr K cB "way")
    (a_Bands_parts:NoAttr K cB "parts")
    (a_Bands_within:NoAttr K cB "within")
    (m_Bands___init__:NwAt K cB "Bands.__init__" (inClass (top 53) 0))
    (m_Bands_until:MtAt K cB "until" "Bands.until" (inClass (top 53) 1))
    (m_Bands_twin:MtAt K cB "twin" "Bands.twin" (inClass (top 53) 3))
    (m_Bands_depth:MtAt K cB "depth" "Rule.depth" (inClass (top 44) 4))
    (m_Bands_of_month:MtAt K cB "of_month" "Rule.of_month" (inClass (top 44) 5))
    (q_OnTop:PySem.W.nsIn K mainGlobals "OnTop" = some (some (.ref cO)))
    (q1_OnTop:PySem.W.plainGet K cO Str.empty=true)
    (q2_OnTop:PySem.W.hasDictIn K cO=true)
    (q3_OnTop:PySem.W.plainOver K cO=true)
    (q4_OnTop:PySem.W.findIn K (.ref cO) "__setattr__" = some (some (.builtin "object.__setattr__")))
    (a_OnTop_name:NoAttr K cO "name")
    (a_OnTop_bands:NoAttr K cO "bands")
    (a_OnTop_way:NoAttr K cO "way")
    (a_OnTop_parts:NoAttr K cO "parts")
    (a_OnTop_within:NoAttr K cO "within")
    (m_OnTop___init__:NwAt K cO "OnTop.__init__" (inClass (top 56) 0))
    (m_OnTop_until:MtAt K cO "until" "OnTop.until" (inClass (top 56) 1))
    (m_OnTop_twin:MtAt K cO "twin" "OnTop.twin" (inClass (top 56) 3))
    (m_OnTop_depth:MtAt K cO "depth" "OnTop.depth" (inClass (top 56) 4))
    (m_OnTop_of_month:MtAt K cO "of_month" "Rule.of_month" (inClass (top 44) 5))
    (ihn:PySem.W.specialIn K (.builtin "object.__class__") "__get__" = some (some (.builtin "getset_descriptor.__get__")))
    (itk:PySem.W.takesIn K (.builtin "object.__class__")=some true)
    (neSO:(!(Nat.beq cS cO))=true)
    (ia0:PySem.W.findIn K (.ref cF) "__class__" = some (some (.builtin "object.__class__")))
    (im0:PySem.W.mroIn K cF (.type "object")=some true)
    (ik0:PySem.W.kitOne K (.ref cF) (.ref cRu)=some true)
    (ia1:PySem.W.findIn K (.ref cS) "__class__" = some (some (.builtin "object.__class__")))
    (im1:PySem.W.mroIn K cS (.type "object")=some true)
    (ik1:PySem.W.kitOne K (.ref cS) (.ref cRu)=some true)
    (ia2:PySem.W.findIn K (.ref cC) "__class__" = some (some (.builtin "object.__class__")))
    (im2:PySem.W.mroIn K cC (.type "object")=some true)
    (ik2:PySem.W.kitOne K (.ref cC) (.ref cRu)=some true)
    (ia3:PySem.W.findIn K (.ref cL) "__class__" = some (some (.builtin "object.__class__")))
    (im3:PySem.W.mroIn K cL (.type "object")=some true)
    (ik3:PySem.W.kitOne K (.ref cL) (.ref cRu)=some true)
    (ia4:PySem.W.findIn K (.ref cB) "__class__" = some (some (.builtin "object.__class__")))
    (im4:PySem.W.mroIn K cB (.type "object")=some true)
    (ik4:PySem.W.kitOne K (.ref cB) (.ref cRu)=some true)
    (ia5:PySem.W.findIn K (.ref cO) "__class__" = some (some (.builtin "object.__class__")))
    (im5:PySem.W.mroIn K cO (.type "object")=some true)
    (ik5:PySem.W.kitOne K (.ref cO) (.ref cRu)=some true)
    : ∃ fd:FuncData,(∀ (s:Shared) (v:Value),BindsTo s fd ⟨[v],[]⟩ [("_law_script",v)])∧∀ base:Heap,K.In base→base.Ns mainGlobals mg→FnOk l.prog w K mg base CX0 24 fa fd ["_law_script"] (sp_lawS K):=by
  obtain⟨fl,fdl,al,Fl⟩:=f_law
  have e:=hfa.symm.trans (PySem.W.mg_of X G al)
  cases e
  have N_WAYS:Tps K mg "WAYS" ["down","up","near","even"]:=s2.mg X G
  have N_NO_RULE_NAMES:Tps K mg "NO_RULE_NAMES" ["base","net","month","sums"]:=s3.mg X G
  have GL:Glb mg:=⟨PySem.W.mg_none_of X G b_isinstance,PySem.W.mg_none_of X G b_int,PySem.W.mg_none_of X G b_bool,PySem.W.mg_none_of X G b_str,PySem.W.mg_none_of X G b_len,PySem.W.mg_none_of X G b_range,PySem.W.mg_none_of X G b_ValueError,PySem.W.mg_none_of X G b_list,PySem.W.mg_none_of X G b_tuple,PySem.W.mg_none_of X G b_dict,PySem.W.mg_none_of X G b_set,PySem.W.mg_none_of X G b_all,PySem.W.mg_none_of X G b_any,PySem.W.mg_none_of X G b_sum,PySem.W.mg_none_of X G b_sorted,PySem.W.mg_none_of X G b_abs,PySem.W.mg_none_of X G b_max,PySem.W.mg_none_of X G b_min,PySem.W.mg_none_of X G b_zip,PySem.W.mg_none_of X G b_enumerate,PySem.W.mg_none_of X G b_reversed⟩
  have N_MOST_SIGNS:Num mg "MOST_SIGNS" 8:=⟨t0,PySem.W.mg_of X G gc0⟩
  have N_MOST_PARTS:Num mg "MOST_PARTS" 20000:=⟨t1,PySem.W.mg_of X G gc1⟩
  have N_WHOLE:Num mg "WHOLE" 10000:=⟨t2,PySem.W.mg_of X G gc2⟩
  have N_HALF:Num mg "HALF" 5000:=⟨t3,PySem.W.mg_of X G gc3⟩
  have N_MOST_AMOUNT:Num mg "MOST_AMOUNT" 1000000000000:=⟨t4,PySem.W.mg_of X G gc4⟩
  have N_MOST_BANDS:Num mg "MOST_BANDS" 12:=⟨t5,PySem.W.mg_of X G gc5⟩
  have N_MOST_DEPTH:Num mg "MOST_DEPTH" 3:=⟨t6,PySem.W.mg_of X G gc6⟩
  have N_MOST_FIGURES:Num mg "MOST_FIGURES" 13:=⟨t7,PySem.W.mg_of X G gc7⟩
  have N_LETTERS:Pg.Txt mg "LETTERS" "abcdefghijklmnopqrstuvwxyz":=⟨_,PySem.W.mg_of X G s0⟩
  have N_FIGURES:Pg.Txt mg "FIGURES" "0123456789":=⟨_,PySem.W.mg_of X G s1⟩
  have bl:=Fl.binds (ps:=["_law_script"]) (fun _ _ _ _ _ _ us hl=>by obtain⟨a,rfl⟩:=ulen1 hl;rfl)
  refine⟨fdl,fun s v=>?_,fun base _ _=>?_⟩
  · obtain⟨oc,od,kV,doc,pm,an,cdv,ct,osl,rfl,lk,hcd⟩:=Fl.ex
    exact .of_eq rfl
  have KL_Rule:Cls K cRu:=⟨q1_Rule,q2_Rule,q3_Rule,q4_Rule⟩
  have mg_Rule:mg "Rule" = some (.ref cRu):=PySem.W.mg_of X G q_Rule
  have KL_Flat:Cls K cF:=⟨q1_Flat,q2_Flat,q3_Flat,q4_Flat⟩
  have mg_Flat:mg "Flat" = some (.ref cF):=PySem.W.mg_of X G q_Flat
  have KL_Share:Cls K cS:=⟨q1_Share,q2_Share,q3_Share,q4_Share⟩
  have mg_Share:mg "Share" = some (.ref cS):=PySem.W.mg_of X G q_Share
  have KL_Capped:Cls K cC:=⟨q1_Capped,q2_Capped,q3_Capped,q4_Capped⟩
  have mg_Capped:mg "Capped" = some (.ref cC):=PySem.W.mg_of X G q_Capped
  have KL_Least:Cls K cL:=⟨q1_Least,q2_Least,q3_Least,q4_Least⟩
  have mg_Least:mg "Least" = some (.ref cL):=PySem.W.mg_of X G q_Least
  have KL_Bands:Cls K cB:=⟨q1_Bands,q2_Bands,q3_Bands,q4_Bands⟩
  have mg_Bands:mg "Bands" = some (.ref cB):=PySem.W.mg_of X G q_Bands
  have KL_OnTop:Cls K cO:=⟨q1_OnTop,q2_OnTop,q3_OnTop,q4_OnTop⟩
  have mg_OnTop:mg "OnTop" = some (.ref cO):=PySem.W.mg_of X G q_OnTop
  obtain⟨Cs,rfl,rfl,rfl,rfl,rfl,rfl⟩:∃ Cs:Nat→Addr,Cs 0=cF∧Cs 1=cS∧Cs 2=cC∧Cs 3=cL∧Cs 4=cB∧Cs 5=cO:=⟨fun i=>[cF,cS,cC,cL,cB,cO].getD i 0,rfl,rfl,rfl,rfl,rfl,rfl⟩
  have RK:RulK K Cs:=⟨four KL_Flat KL_Share KL_Capped KL_Least,four (six a_Flat_name a_Flat_amount a_Flat_parts a_Flat_way a_Flat_most a_Flat_least) (six a_Share_name a_Share_amount a_Share_parts a_Share_way a_Share_most a_Share_least) (six a_Capped_name a_Capped_amount a_Capped_parts a_Capped_way a_Capped_most a_Capped_least) (six a_Least_name a_Least_amount a_Least_parts a_Least_way a_Least_most a_Least_least)⟩
  have RX4:RulX K (Cs 4):=⟨KL_Bands,five a_Bands_name a_Bands_bands a_Bands_way a_Bands_parts a_Bands_within⟩
  have RX5:RulX K (Cs 5):=⟨KL_OnTop,five a_OnTop_name a_OnTop_bands a_OnTop_way a_OnTop_parts a_OnTop_within⟩
  have RJ:RulJ K Cs cRu:=⟨six6 ia0 ia1 ia2 ia3 ia4 ia5,ihn,itk,six6 im0 im1 im2 im3 im4 im5,six6 ik0 ik1 ik2 ik3 ik4 ik5,six6 KL_Flat KL_Share KL_Capped KL_Least KL_Bands KL_OnTop,ne_of_beq neSO⟩
  have C1:=f_is_number.cal (P:=l.prog) (w:=w) (base:=base) (ps:=["thing"]) X G (fun _ _ _ _ _ _ us hl=>by obtain⟨a,rfl⟩:=ulen1 hl;rfl) fun f fd F=>ok_is_number F GL
  have C2:=f_is_number_within.cal (P:=l.prog) (w:=w) (base:=base) (ps:=["thing","least","most"]) X G (fun _ _ _ _ _ _ us hl=>by obtain⟨a,b,c,rfl⟩:=ulen3 hl;rfl) fun f fd F=>ok_within F C1
  have C3:=f_is_parts.cal (P:=l.prog) (w:=w) (base:=base) (ps:=["thing"]) X G (fun _ _ _ _ _ _ us hl=>by obtain⟨a,rfl⟩:=ulen1 hl;rfl) fun f fd F=>ok_parts0 F N_MOST_PARTS C2
  have C4:=f_is_way.cal (P:=l.prog) (w:=w) (base:=base) (ps:=["thing"]) X G (fun _ _ _ _ _ _ us hl=>by obtain⟨a,rfl⟩:=ulen1 hl;rfl) fun f fd F=>ok_way0 F GL N_WAYS
  have C5:=f_need_amount.cal (P:=l.prog) (w:=w) (base:=base) (ps:=["thing"]) X G (fun _ _ _ _ _ _ us hl=>by obtain⟨a,rfl⟩:=ulen1 hl;rfl) fun f fd F=>ok_needA F C1
  have C6:=f_need_way.cal (P:=l.prog) (w:=w) (base:=base) (ps:=["thing"]) X G (fun _ _ _ _ _ _ us hl=>by obtain⟨a,rfl⟩:=ulen1 hl;rfl) fun f fd F=>ok_needW0 F C4
  have C7:=f_half_goes_up.cal (P:=l.prog) (w:=w) (base:=base) (ps:=["number","lesser","way"]) X G (fun _ _ _ _ _ _ us hl=>by obtain⟨a,b,c,rfl⟩:=ulen3 hl;rfl) fun f fd F=>ok_half F
  have C8:=f_goes_up.cal (P:=l.prog) (w:=w) (base:=base) (ps:=["number","lesser","rest","way"]) X G (fun _ _ _ _ _ _ us hl=>by obtain⟨a,b,c,d,rfl⟩:=ulen4 hl;rfl) fun f fd F=>ok_goes F N_HALF C7
  have C9:=f_rounded.cal (P:=l.prog) (w:=w) (base:=base) (ps:=["number","way"]) X G (fun _ _ _ _ _ _ us hl=>by obtain⟨a,b,rfl⟩:=ulen2 hl;rfl) fun f fd F=>ok_rnd0 F N_WHOLE C5 C6 C8
  have C10:=f_share_of.cal (P:=l.prog) (w:=w) (base:=base) (ps:=["amount","parts","way"]) X G (fun _ _ _ _ _ _ us hl=>by obtain⟨a,b,c,rfl⟩:=ulen3 hl;rfl) fun f fd F=>ok_share0 F C5 C3 C9
  have C11:=f_is_word_of.cal (P:=l.prog) (w:=w) (base:=base) (ps:=["thing","signs"]) X G (fun _ _ _ _ _ _ us hl=>by obtain⟨a,b,rfl⟩:=ulen2 hl;rfl) fun f fd F=>ok_word F GL N_MOST_SIGNS
  have C12:=f_is_name.cal (P:=l.prog) (w:=w) (base:=base) (ps:=["thing"]) X G (fun _ _ _ _ _ _ us hl=>by obtain⟨a,rfl⟩:=ulen1 hl;rfl) fun f fd F=>ok_name F N_LETTERS C11
  have C13:=f_is_rule_name.cal (P:=l.prog) (w:=w) (base:=base) (ps:=["thing"]) X G (fun _ _ _ _ _ _ us hl=>by obtain⟨a,rfl⟩:=ulen1 hl;rfl) fun f fd F=>ok_rname0 F N_NO_RULE_NAMES C12
  have C14:=f_is_rule_amount.cal (P:=l.prog) (w:=w) (base:=base) (ps:=["thing"]) X G (fun _ _ _ _ _ _ us hl=>by obtain⟨a,rfl⟩:=ulen1 hl;rfl) fun f fd F=>ok_ramt0 F N_MOST_AMOUNT C2
  have C15:=f_need_rule_amount.cal (P:=l.prog) (w:=w) (base:=base) (ps:=["thing"]) X G (fun _ _ _ _ _ _ us hl=>by obtain⟨a,rfl⟩:=ulen1 hl;rfl) fun f fd F=>ok_needR0 F C14
  have C16:=f_need_share.cal (P:=l.prog) (w:=w) (base:=base) (ps:=["parts","way"]) X G (fun _ _ _ _ _ _ us hl=>by obtain⟨a,b,rfl⟩:=ulen2 hl;rfl) fun f fd F=>ok_needS0 F C3 C4
  have C17:=f_months_with_base.cal (P:=l.prog) (w:=w) (base:=base) (ps:=["bases"]) X G (fun _ _ _ _ _ _ us hl=>by obtain⟨a,rfl⟩:=ulen1 hl;rfl) fun f fd F=>ok_pos F GL
  have C18:=f_rise.cal (P:=l.prog) (w:=w) (base:=base) (ps:=["things"]) X G (fun _ _ _ _ _ _ us hl=>by obtain⟨a,rfl⟩:=ulen1 hl;rfl) fun f fd F=>ok_rise0 F GL
  have C19:=f_is_band.cal (P:=l.prog) (w:=w) (base:=base) (ps:=["thing"]) X G (fun _ _ _ _ _ _ us hl=>by obtain⟨a,rfl⟩:=ulen1 hl;rfl) fun f fd F=>ok_band0 F GL C14 C3
  have C20:=f_are_bands.cal (P:=l.prog) (w:=w) (base:=base) (ps:=["thing"]) X G (fun _ _ _ _ _ _ us hl=>by obtain⟨a,rfl⟩:=ulen1 hl;rfl) fun f fd F=>ok_bands0 F GL N_MOST_BANDS C19 C18
  have R0:=m_Rule___init__.calC (P:=l.prog) (w:=w) (mg:=mg) (base:=base) (ps:=["self","name"]) sn_Rule___init__ mg_Rule (fun _ _ _ _ _ _ us hl=>by obtain⟨a,b,rfl⟩:=ulen2 hl;rfl) fun f fd F=>ok_rinitX F C13
  have R1:=R0.imp (rinit_to RK)
  have I0:=m_Flat___init__.cal (P:=l.prog) (w:=w) (mg:=mg) (base:=base) (ps:=["self","name","amount"]) mg_Flat (fun _ _ _ _ _ _ us hl=>by obtain⟨a,b,c,rfl⟩:=ulen3 hl;rfl) fun f fd F=>ok_kinit0 F RK R1 C15
  have I1:=m_Share___init__.cal (P:=l.prog) (w:=w) (mg:=mg) (base:=base) (ps:=["self","name","parts","way"]) mg_Share (fun _ _ _ _ _ _ us hl=>by obtain⟨a,b,c,d,rfl⟩:=ulen4 hl;rfl) fun f fd F=>ok_kinit1 F RK R1 C16
  have I2:=m_Capped___init__.cal (P:=l.prog) (w:=w) (mg:=mg) (base:=base) (ps:=["self","name","parts","most","way"]) mg_Capped (fun _ _ _ _ _ _ us hl=>by obtain⟨a,b,c,d,e,rfl⟩:=ulen5 hl;rfl) fun f fd F=>ok_kinit2 F RK R1 C16 C15
  have I3:=m_Least___init__.cal (P:=l.prog) (w:=w) (mg:=mg) (base:=base) (ps:=["self","name","parts","least","way"]) mg_Least (fun _ _ _ _ _ _ us hl=>by obtain⟨a,b,c,d,e,rfl⟩:=ulen5 hl;rfl) fun f fd F=>ok_kinit3 F RK R1 C16 C15
  have I4:=m_Bands___init__.cal (P:=l.prog) (w:=w) (mg:=mg) (base:=base) (ps:=["self","name","rows","way"]) mg_Bands (fun _ _ _ _ _ _ us hl=>by obtain⟨a,b,c,d,rfl⟩:=ulen4 hl;rfl) fun f fd F=>ok_binit F GL RX4 R0 C20 C4
  have E0:=m_Flat_depth.cal (P:=l.prog) (w:=w) (mg:=mg) (base:=base) (ps:=["self"]) KL_Flat (fun _ _ _ _ _ _ us hl=>by obtain⟨a,rfl⟩:=ulen1 hl;rfl) fun f fd F=>ok_depR (Cs:=Cs) (d:=3) (k:=0) (by decide) F
  have E1:=m_Share_depth.cal (P:=l.prog) (w:=w) (mg:=mg) (base:=base) (ps:=["self"]) KL_Share (fun _ _ _ _ _ _ us hl=>by obtain⟨a,rfl⟩:=ulen1 hl;rfl) fun f fd F=>ok_depR (Cs:=Cs) (d:=3) (k:=1) (by decide) F
  have E2:=m_Capped_depth.cal (P:=l.prog) (w:=w) (mg:=mg) (base:=base) (ps:=["self"]) KL_Capped (fun _ _ _ _ _ _ us hl=>by obtain⟨a,rfl⟩:=ulen1 hl;rfl) fun f fd F=>ok_depR (Cs:=Cs) (d:=3) (k:=2) (by decide) F
  have E3:=m_Least_depth.cal (P:=l.prog) (w:=w) (mg:=mg) (base:=base) (ps:=["self"]) KL_Least (fun _ _ _ _ _ _ us hl=>by obtain⟨a,rfl⟩:=ulen1 hl;rfl) fun f fd F=>ok_depR (Cs:=Cs) (d:=3) (k:=3) (by decide) F
  have E4:=m_Bands_depth.cal (P:=l.prog) (w:=w) (mg:=mg) (base:=base) (ps:=["self"]) KL_Bands (fun _ _ _ _ _ _ us hl=>by obtain⟨a,rfl⟩:=ulen1 hl;rfl) fun f fd F=>ok_depR (Cs:=Cs) (d:=3) (k:=4) (by decide) F
  have E50:=m_OnTop_depth.cal (P:=l.prog) (w:=w) (mg:=mg) (base:=base) (ps:=["self"]) KL_OnTop (fun _ _ _ _ _ _ us hl=>by obtain⟨a,rfl⟩:=ulen1 hl;rfl) fun f fd F=>ok_dep50 (Cs:=Cs) (j:=1)
  have ME0:=md_mk E0 E1 E2 E3 E4 (d:=0) (by decide) (by decide) E50
  have E51:=m_OnTop_depth.cal (P:=l.prog) (w:=w) (mg:=mg) (base:=base) (ps:=["self"]) KL_OnTop (fun _ _ _ _ _ _ us hl=>by obtain⟨a,rfl⟩:=ulen1 hl;rfl) fun f fd F=>ok_dep5 F RX5 ME0
  have ME1:=md_mk E0 E1 E2 E3 E4 (d:=1) (by decide) (by decide) E51
  have E52:=m_OnTop_depth.cal (P:=l.prog) (w:=w) (mg:=mg) (base:=base) (ps:=["self"]) KL_OnTop (fun _ _ _ _ _ _ us hl=>by obtain⟨a,rfl⟩:=ulen1 hl;rfl) fun f fd F=>ok_dep5 F RX5 ME1
  have ME2:=md_mk E0 E1 E2 E3 E4 (d:=2) (by decide) (by decide) E52
  have E53:=m_OnTop_depth.cal (P:=l.prog) (w:=w) (mg:=mg) (base:=base) (ps:=["self"]) KL_OnTop (fun _ _ _ _ _ _ us hl=>by obtain⟨a,rfl⟩:=ulen1 hl;rfl) fun f fd F=>ok_dep5 F RX5 ME2
  have T0:=m_Flat_twin.cal (P:=l.prog) (w:=w) (mg:=mg) (base:=base) (ps:=["self"]) KL_Flat (fun _ _ _ _ _ _ us hl=>by obtain⟨a,rfl⟩:=ulen1 hl;rfl) fun f fd F=>ok_twin0 (d:=3) F RK I0
  have T1:=m_Share_twin.cal (P:=l.prog) (w:=w) (mg:=mg) (base:=base) (ps:=["self"]) KL_Share (fun _ _ _ _ _ _ us hl=>by obtain⟨a,rfl⟩:=ulen1 hl;rfl) fun f fd F=>ok_twin1 (d:=3) F RK I1
  have T2:=m_Capped_twin.cal (P:=l.prog) (w:=w) (mg:=mg) (base:=base) (ps:=["self"]) KL_Capped (fun _ _ _ _ _ _ us hl=>by obtain⟨a,rfl⟩:=ulen1 hl;rfl) fun f fd F=>ok_twin2 (d:=3) F RK I2
  have T3:=m_Least_twin.cal (P:=l.prog) (w:=w) (mg:=mg) (base:=base) (ps:=["self"]) KL_Least (fun _ _ _ _ _ _ us hl=>by obtain⟨a,rfl⟩:=ulen1 hl;rfl) fun f fd F=>ok_twin3 (d:=3) F RK I3
  have T4:=m_Bands_twin.cal (P:=l.prog) (w:=w) (mg:=mg) (base:=base) (ps:=["self"]) KL_Bands (fun _ _ _ _ _ _ us hl=>by obtain⟨a,rfl⟩:=ulen1 hl;rfl) fun f fd F=>ok_twin4 (d:=3) F RX4 I4
  have T50:=m_OnTop_twin.cal (P:=l.prog) (w:=w) (mg:=mg) (base:=base) (ps:=["self"]) KL_OnTop (fun _ _ _ _ _ _ us hl=>by obtain⟨a,rfl⟩:=ulen1 hl;rfl) fun f fd F=>ok_twin50 (Cs:=Cs) (j:=8)
  have MT0:=mt_mk T0 T1 T2 T3 T4 (d:=0) (by decide) (by decide) T50
  have I50:=m_OnTop___init__.cal (P:=l.prog) (w:=w) (mg:=mg) (base:=base) (ps:=["self","name","parts","way","rule"]) mg_OnTop (fun _ _ _ _ _ _ us hl=>by obtain⟨a,b,c,d,e,rfl⟩:=ulen5 hl;rfl) fun f fd F=>ok_oinit F GL RX5 RJ mg_Rule N_MOST_DEPTH (by decide) (by decide) R0 C16 MT0 (E51.mono (by decide))
  have T51:=m_OnTop_twin.cal (P:=l.prog) (w:=w) (mg:=mg) (base:=base) (ps:=["self"]) KL_OnTop (fun _ _ _ _ _ _ us hl=>by obtain⟨a,rfl⟩:=ulen1 hl;rfl) fun f fd F=>ok_twin5 F RX5 I50
  have MT1:=mt_mk T0 T1 T2 T3 T4 (d:=1) (by decide) (by decide) T51
  have I51:=m_OnTop___init__.cal (P:=l.prog) (w:=w) (mg:=mg) (base:=base) (ps:=["self","name","parts","way","rule"]) mg_OnTop (fun _ _ _ _ _ _ us hl=>by obtain⟨a,b,c,d,e,rfl⟩:=ulen5 hl;rfl) fun f fd F=>ok_oinit F GL RX5 RJ mg_Rule N_MOST_DEPTH (by decide) (by decide) R0 C16 MT1 (E52.mono (by decide))
  have T52:=m_OnTop_twin.cal (P:=l.prog) (w:=w) (mg:=mg) (base:=base) (ps:=["self"]) KL_OnTop (fun _ _ _ _ _ _ us hl=>by obtain⟨a,rfl⟩:=ulen1 hl;rfl) fun f fd F=>ok_twin5 F RX5 I51
  have MT2:=mt_mk T0 T1 T2 T3 T4 (d:=2) (by decide) (by decide) T52
  have I52:=m_OnTop___init__.cal (P:=l.prog) (w:=w) (mg:=mg) (base:=base) (ps:=["self","name","parts","way","rule"]) mg_OnTop (fun _ _ _ _ _ _ us hl=>by obtain⟨a,b,c,d,e,rfl⟩:=ulen5 hl;rfl) fun f fd F=>ok_oinit F GL RX5 RJ mg_Rule N_MOST_DEPTH (by decide) (by decide) R0 C16 MT2 (E53.mono (by decide))
  have I5:=I52.mono (k:=16) (by decide)
  have U0:=m_Flat_until.cal (P:=l.prog) (w:=w) (mg:=mg) (base:=base) (ps:=["self","bases"]) KL_Flat (fun _ _ _ _ _ _ us hl=>by obtain⟨a,b,rfl⟩:=ulen2 hl;rfl) fun f fd F=>ok_unt0 F RK C17
  have U1:=m_Share_until.cal (P:=l.prog) (w:=w) (mg:=mg) (base:=base) (ps:=["self","bases"]) KL_Share (fun _ _ _ _ _ _ us hl=>by obtain⟨a,b,rfl⟩:=ulen2 hl;rfl) fun f fd F=>ok_unt1 F GL RK C10
  have U2:=m_Capped_until.cal (P:=l.prog) (w:=w) (mg:=mg) (base:=base) (ps:=["self","bases"]) KL_Capped (fun _ _ _ _ _ _ us hl=>by obtain⟨a,b,rfl⟩:=ulen2 hl;rfl) fun f fd F=>ok_unt2 F GL RK C10
  have U3:=m_Least_until.cal (P:=l.prog) (w:=w) (mg:=mg) (base:=base) (ps:=["self","bases"]) KL_Least (fun _ _ _ _ _ _ us hl=>by obtain⟨a,b,rfl⟩:=ulen2 hl;rfl) fun f fd F=>ok_unt3 F GL RK C10 C17
  have U4:=m_Bands_until.cal (P:=l.prog) (w:=w) (mg:=mg) (base:=base) (ps:=["self","bases"]) KL_Bands (fun _ _ _ _ _ _ us hl=>by obtain⟨a,b,rfl⟩:=ulen2 hl;rfl) fun f fd F=>ok_untB (d:=3) F GL RX4 C9
  have U50:=m_OnTop_until.cal (P:=l.prog) (w:=w) (mg:=mg) (base:=base) (ps:=["self","bases"]) KL_OnTop (fun _ _ _ _ _ _ us hl=>by obtain⟨a,b,rfl⟩:=ulen2 hl;rfl) fun f fd F=>ok_unt50 (Cs:=Cs) (j:=5)
  have MU0:=mu_mk U0 U1 U2 U3 U4 (d:=0) (by decide) (by decide) U50
  have U51:=m_OnTop_until.cal (P:=l.prog) (w:=w) (mg:=mg) (base:=base) (ps:=["self","bases"]) KL_OnTop (fun _ _ _ _ _ _ us hl=>by obtain⟨a,b,rfl⟩:=ulen2 hl;rfl) fun f fd F=>ok_unt5 F RX5 (by decide) MU0 C10
  have MU1:=mu_mk U0 U1 U2 U3 U4 (d:=1) (by decide) (by decide) U51
  have U52:=m_OnTop_until.cal (P:=l.prog) (w:=w) (mg:=mg) (base:=base) (ps:=["self","bases"]) KL_OnTop (fun _ _ _ _ _ _ us hl=>by obtain⟨a,b,rfl⟩:=ulen2 hl;rfl) fun f fd F=>ok_unt5 F RX5 (by decide) MU1 C10
  have MU2:=mu_mk U0 U1 U2 U3 U4 (d:=2) (by decide) (by decide) U52
  have U53:=m_OnTop_until.cal (P:=l.prog) (w:=w) (mg:=mg) (base:=base) (ps:=["self","bases"]) KL_OnTop (fun _ _ _ _ _ _ us hl=>by obtain⟨a,b,rfl⟩:=ulen2 hl;rfl) fun f fd F=>ok_unt5 F RX5 (by decide) MU2 C10
  have MU:=mu_mk U0 U1 U2 U3 U4 (d:=3) (j:=10) (by decide) (by decide) (U53.mono (by decide))
  have O0:=m_Flat_of_month.cal (P:=l.prog) (w:=w) (mg:=mg) (base:=base) (ps:=["self","bases"]) KL_Flat (fun _ _ _ _ _ _ us hl=>by obtain⟨a,b,rfl⟩:=ulen2 hl;rfl) fun f fd F=>ok_ofmG F (MU 0 (by decide))
  have O1:=m_Share_of_month.cal (P:=l.prog) (w:=w) (mg:=mg) (base:=base) (ps:=["self","bases"]) KL_Share (fun _ _ _ _ _ _ us hl=>by obtain⟨a,b,rfl⟩:=ulen2 hl;rfl) fun f fd F=>ok_ofmG F (MU 1 (by decide))
  have O2:=m_Capped_of_month.cal (P:=l.prog) (w:=w) (mg:=mg) (base:=base) (ps:=["self","bases"]) KL_Capped (fun _ _ _ _ _ _ us hl=>by obtain⟨a,b,rfl⟩:=ulen2 hl;rfl) fun f fd F=>ok_ofmG F (MU 2 (by decide))
  have O3:=m_Least_of_month.cal (P:=l.prog) (w:=w) (mg:=mg) (base:=base) (ps:=["self","bases"]) KL_Least (fun _ _ _ _ _ _ us hl=>by obtain⟨a,b,rfl⟩:=ulen2 hl;rfl) fun f fd F=>ok_ofmG F (MU 3 (by decide))
  have O4:=m_Bands_of_month.cal (P:=l.prog) (w:=w) (mg:=mg) (base:=base) (ps:=["self","bases"]) KL_Bands (fun _ _ _ _ _ _ us hl=>by obtain⟨a,b,rfl⟩:=ulen2 hl;rfl) fun f fd F=>ok_ofmG F (MU 4 (by decide))
  have O5:=m_OnTop_of_month.cal (P:=l.prog) (w:=w) (mg:=mg) (base:=base) (ps:=["self","bases"]) KL_OnTop (fun _ _ _ _ _ _ us hl=>by obtain⟨a,b,rfl⟩:=ulen2 hl;rfl) fun f fd F=>ok_ofmG F (MU 5 (by decide))
  have Q1:=f_are_figures.cal (P:=l.prog) (w:=w) (base:=base) (ps:=["text"]) X G (fun _ _ _ _ _ _ us hl=>by obtain⟨a,rfl⟩:=ulen1 hl;rfl) fun f fd F=>ok_are_figures F GL N_FIGURES
  have Q2:=f_is_number_text.cal (P:=l.prog) (w:=w) (base:=base) (ps:=["text"]) X G (fun _ _ _ _ _ _ us hl=>by obtain⟨a,rfl⟩:=ulen1 hl;rfl) fun f fd F=>ok_numT F Q1
  have Q3:=f_read_number.cal (P:=l.prog) (w:=w) (base:=base) (ps:=["text","most_figures"]) X G (fun _ _ _ _ _ _ us hl=>by obtain⟨a,b,rfl⟩:=ulen2 hl;rfl) fun f fd F=>ok_readN F GL Q2
  have Q4:=f_number_of.cal (P:=l.prog) (w:=w) (base:=base) (ps:=["word"]) X G (fun _ _ _ _ _ _ us hl=>by obtain⟨a,rfl⟩:=ulen1 hl;rfl) fun f fd F=>ok_numOf F N_MOST_FIGURES Q3
  have Q5:=f_band_of.cal (P:=l.prog) (w:=w) (base:=base) (ps:=["text"]) X G (fun _ _ _ _ _ _ us hl=>by obtain⟨a,rfl⟩:=ulen1 hl;rfl) fun f fd F=>ok_bandOf F GL Q4
  have Q6:=f_bands_of.cal (P:=l.prog) (w:=w) (base:=base) (ps:=["word"]) X G (fun _ _ _ _ _ _ us hl=>by obtain⟨a,rfl⟩:=ulen1 hl;rfl) fun f fd F=>ok_bandsOf F GL Q5
  have Q7:=f_plain_rule.cal (P:=l.prog) (w:=w) (base:=base) (ps:=["words"]) X G (fun _ _ _ _ _ _ us hl=>by obtain⟨a,rfl⟩:=ulen1 hl;rfl) fun f fd F=>ok_plainW F GL Q4 Q6 I0 I1 I2 I3 I4
  have Q8:=f_is_ontop.cal (P:=l.prog) (w:=w) (base:=base) (ps:=["words"]) X G (fun _ _ _ _ _ _ us hl=>by obtain⟨a,rfl⟩:=ulen1 hl;rfl) fun f fd F=>ok_isOn F GL
  have W0:=f_rule_of_words.cal (P:=l.prog) (w:=w) (base:=base) (ps:=["words","depth"]) X G (fun _ _ _ _ _ _ us hl=>by obtain⟨a,b,rfl⟩:=ulen2 hl;rfl) fun f fd F=>ok_ruleW0 (Cs:=Cs) (j:=18)
  have W1:=f_rule_of_words.cal (P:=l.prog) (w:=w) (base:=base) (ps:=["words","depth"]) X G (fun _ _ _ _ _ _ us hl=>by obtain⟨a,b,rfl⟩:=ulen2 hl;rfl) fun f fd F=>ok_ruleW (by decide) F N_MOST_DEPTH Q8 Q7 Q4 W0 I5
  have W2:=f_rule_of_words.cal (P:=l.prog) (w:=w) (base:=base) (ps:=["words","depth"]) X G (fun _ _ _ _ _ _ us hl=>by obtain⟨a,b,rfl⟩:=ulen2 hl;rfl) fun f fd F=>ok_ruleW (by decide) F N_MOST_DEPTH Q8 Q7 Q4 W1 I5
  have W3:=f_rule_of_words.cal (P:=l.prog) (w:=w) (base:=base) (ps:=["words","depth"]) X G (fun _ _ _ _ _ _ us hl=>by obtain⟨a,b,rfl⟩:=ulen2 hl;rfl) fun f fd F=>ok_ruleW (by decide) F N_MOST_DEPTH Q8 Q7 Q4 W2 I5
  have W4:=f_rule_of_words.cal (P:=l.prog) (w:=w) (base:=base) (ps:=["words","depth"]) X G (fun _ _ _ _ _ _ us hl=>by obtain⟨a,b,rfl⟩:=ulen2 hl;rfl) fun f fd F=>ok_ruleW (by decide) F N_MOST_DEPTH Q8 Q7 Q4 W3 I5
  have RuleOf:=f_rule_of.cal (P:=l.prog) (w:=w) (base:=base) (ps:=["text"]) X G (fun _ _ _ _ _ _ us hl=>by obtain⟨a,rfl⟩:=ulen1 hl;rfl) fun f fd F=>ok_ruleOf F GL W4
  have Du:=f_dues_of.cal (P:=l.prog) (w:=w) (base:=base) (ps:=["rules","bases"]) X G (fun _ _ _ _ _ _ us hl=>by obtain⟨a,b,rfl⟩:=ulen2 hl;rfl) fun f fd F=>ok_duesP F GL (six6 KL_Flat KL_Share KL_Capped KL_Least KL_Bands KL_OnTop) (six6 a_Flat_name a_Share_name a_Capped_name a_Least_name a_Bands_name a_OnTop_name) (six6 O0 O1 O2 O3 O4 O5)
  have Mr:=f_month_row.cal (P:=l.prog) (w:=w) (base:=base) (ps:=["rules","bases"]) X G (fun _ _ _ _ _ _ us hl=>by obtain⟨a,b,rfl⟩:=ulen2 hl;rfl) fun f fd F=>ok_mrow F GL Du
  have Yt:=f_year_table.cal (P:=l.prog) (w:=w) (base:=base) (ps:=["rules","bases"]) X G (fun _ _ _ _ _ _ us hl=>by obtain⟨a,b,rfl⟩:=ulen2 hl;rfl) fun f fd F=>ok_ytab F GL Mr
  have Dues:=Du.mono (k:=22) (by decide)
  have Ytab:=Yt.mono (k:=22) (by decide)
  have D1:=f__law_cell_at.cal (P:=l.prog) (w:=w) (base:=base) (ps:=["_law_script","_law_k"]) X G (fun _ _ _ _ _ _ us hl=>by obtain⟨a,b,rfl⟩:=ulen2 hl;rfl) fun f fd F=>ok_cell_at F GL
  have D2:=f__law_mixed.cal (P:=l.prog) (w:=w) (base:=base) (ps:=["_law_cell","_law_k"]) X G (fun _ _ _ _ _ _ us hl=>by obtain⟨a,b,rfl⟩:=ulen2 hl;rfl) fun f fd F=>ok_mixR F
  have D3:=f__law_whole.cal (P:=l.prog) (w:=w) (base:=base) (ps:=["_law_found"]) X G (fun _ _ _ _ _ _ us hl=>by obtain⟨a,rfl⟩:=ulen1 hl;rfl) fun f fd F=>ok_whole F GL
  have D4:=f__law_amount.cal (P:=l.prog) (w:=w) (base:=base) (ps:=["_law_cell","_law_k"]) X G (fun _ _ _ _ _ _ us hl=>by obtain⟨a,b,rfl⟩:=ulen2 hl;rfl) fun f fd F=>ok_amtR F D2
  have D5:=f__law_bases.cal (P:=l.prog) (w:=w) (base:=base) (ps:=["_law_cell","_law_many"]) X G (fun _ _ _ _ _ _ us hl=>by obtain⟨a,b,rfl⟩:=ulen2 hl;rfl) fun f fd F=>ok_basR F GL D4
  have D6:=f__law_names.cal (P:=l.prog) (w:=w) (base:=base) (ps:=["_law_cell","_law_many"]) X G (fun _ _ _ _ _ _ us hl=>by obtain⟨a,b,rfl⟩:=ulen2 hl;rfl) fun f fd F=>ok_namU F GL D2
  have D7:=f__law_parts.cal (P:=l.prog) (w:=w) (base:=base) (ps:=["_law_cell","_law_k"]) X G (fun _ _ _ _ _ _ us hl=>by obtain⟨a,b,rfl⟩:=ulen2 hl;rfl) fun f fd F=>ok_prtR F D2
  have D8:=f__law_way.cal (P:=l.prog) (w:=w) (base:=base) (ps:=["_law_cell","_law_k"]) X G (fun _ _ _ _ _ _ us hl=>by obtain⟨a,b,rfl⟩:=ulen2 hl;rfl) fun f fd F=>ok_wayR F D2
  have D9:=f__law_pairs.cal (P:=l.prog) (w:=w) (base:=base) (ps:=["_law_cell"]) X G (fun _ _ _ _ _ _ us hl=>by obtain⟨a,rfl⟩:=ulen1 hl;rfl) fun f fd F=>ok_prsR F GL D2 D7
  have D10:=f__law_plain.cal (P:=l.prog) (w:=w) (base:=base) (ps:=["_law_cell","_law_name","_law_kind"]) X G (fun _ _ _ _ _ _ us hl=>by obtain⟨a,b,c,rfl⟩:=ulen3 hl;rfl) fun f fd F=>ok_plnG F D4 D7 D8 D9
  have D11:=f__law_rule.cal (P:=l.prog) (w:=w) (base:=base) (ps:=["_law_cell","_law_name"]) X G (fun _ _ _ _ _ _ us hl=>by obtain⟨a,b,rfl⟩:=ulen2 hl;rfl) fun f fd F=>ok_ruleR F GL D2 D10 D7 D8
  have D12:=f__law_rounded.cal (P:=l.prog) (w:=w) (base:=base) (ps:=["_law_number","_law_way_here"]) X G (fun _ _ _ _ _ _ us hl=>by obtain⟨a,b,rfl⟩:=ulen2 hl;rfl) fun f fd F=>ok_rndL F GL
  have D13:=f__law_pieces.cal (P:=l.prog) (w:=w) (base:=base) (ps:=["_law_pairs_here","_law_total"]) X G (fun _ _ _ _ _ _ us hl=>by obtain⟨a,b,rfl⟩:=ulen2 hl;rfl) fun f fd F=>ok_pcsL F GL
  have A0:=f__law_until.cal (P:=l.prog) (w:=w) (base:=base) (ps:=["_law_rule_here","_law_bases_here"]) X G (fun _ _ _ _ _ _ us hl=>by obtain⟨a,b,rfl⟩:=ulen2 hl;rfl) fun f fd F=>ok_untN0 (j:=2)
  have A1:=f__law_until.cal (P:=l.prog) (w:=w) (base:=base) (ps:=["_law_rule_here","_law_bases_here"]) X G (fun _ _ _ _ _ _ us hl=>by obtain⟨a,b,rfl⟩:=ulen2 hl;rfl) fun f fd F=>ok_untN F GL D12 D13 A0
  have A2:=f__law_until.cal (P:=l.prog) (w:=w) (base:=base) (ps:=["_law_rule_here","_law_bases_here"]) X G (fun _ _ _ _ _ _ us hl=>by obtain⟨a,b,rfl⟩:=ulen2 hl;rfl) fun f fd F=>ok_untN F GL D12 D13 A1
  have A3:=f__law_until.cal (P:=l.prog) (w:=w) (base:=base) (ps:=["_law_rule_here","_law_bases_here"]) X G (fun _ _ _ _ _ _ us hl=>by obtain⟨a,b,rfl⟩:=ulen2 hl;rfl) fun f fd F=>ok_untN F GL D12 D13 A2
  have A4:=f__law_until.cal (P:=l.prog) (w:=w) (base:=base) (ps:=["_law_rule_here","_law_bases_here"]) X G (fun _ _ _ _ _ _ us hl=>by obtain⟨a,b,rfl⟩:=ulen2 hl;rfl) fun f fd F=>ok_untN F GL D12 D13 A3
  have D14:=f__law_of_month.cal (P:=l.prog) (w:=w) (base:=base) (ps:=["_law_rule_here","_law_bases_here"]) X G (fun _ _ _ _ _ _ us hl=>by obtain⟨a,b,rfl⟩:=ulen2 hl;rfl) fun f fd F=>ok_ofmN (d:=3) F A4
  have Drules:=f__law_rules.cal (P:=l.prog) (w:=w) (base:=base) (ps:=["_law_cell","_law_names_here","_law_most"]) X G (fun _ _ _ _ _ _ us hl=>by obtain⟨a,b,c,rfl⟩:=ulen3 hl;rfl) fun f fd F=>ok_rulesL F GL D2 D11
  have DuL:=f__law_dues.cal (P:=l.prog) (w:=w) (base:=base) (ps:=["_law_rules_here","_law_bases_here"]) X G (fun _ _ _ _ _ _ us hl=>by obtain⟨a,b,rfl⟩:=ulen2 hl;rfl) fun f fd F=>ok_duesW F GL D14
  have DuesL:=DuL.mono (k:=22) (by decide)
  have B0:=f__law_row.cal (P:=l.prog) (w:=w) (base:=base) (ps:=["_law_rule_here"]) X G (fun _ _ _ _ _ _ us hl=>by obtain⟨a,rfl⟩:=ulen1 hl;rfl) fun f fd F=>ok_rowN0 (j:=2)
  have B1:=f__law_row.cal (P:=l.prog) (w:=w) (base:=base) (ps:=["_law_rule_here"]) X G (fun _ _ _ _ _ _ us hl=>by obtain⟨a,rfl⟩:=ulen1 hl;rfl) fun f fd F=>ok_rowN F GL (by decide) B0
  have B2:=f__law_row.cal (P:=l.prog) (w:=w) (base:=base) (ps:=["_law_rule_here"]) X G (fun _ _ _ _ _ _ us hl=>by obtain⟨a,rfl⟩:=ulen1 hl;rfl) fun f fd F=>ok_rowN F GL (by decide) B1
  have B3:=f__law_row.cal (P:=l.prog) (w:=w) (base:=base) (ps:=["_law_rule_here"]) X G (fun _ _ _ _ _ _ us hl=>by obtain⟨a,rfl⟩:=ulen1 hl;rfl) fun f fd F=>ok_rowN F GL (by decide) B2
  have B4:=f__law_row.cal (P:=l.prog) (w:=w) (base:=base) (ps:=["_law_rule_here"]) X G (fun _ _ _ _ _ _ us hl=>by obtain⟨a,rfl⟩:=ulen1 hl;rfl) fun f fd F=>ok_rowN F GL (by decide) B3
  have D15:=f__law_net.cal (P:=l.prog) (w:=w) (base:=base) (ps:=["_law_base","_law_dues_here"]) X G (fun _ _ _ _ _ _ us hl=>by obtain⟨a,b,rfl⟩:=ulen2 hl;rfl) fun f fd F=>ok_netL F GL
  have DR:=f__law_dues_right.cal (P:=l.prog) (w:=w) (base:=base) (ps:=["_law_found","_law_due"]) X G (fun _ _ _ _ _ _ us hl=>by obtain⟨a,b,rfl⟩:=ulen2 hl;rfl) fun f fd F=>ok_dRight F GL D3
  have TR:=f__law_table_right.cal (P:=l.prog) (w:=w) (base:=base) (ps:=["_law_found","_law_rules_here","_law_bases_here"]) X G (fun _ _ _ _ _ _ us hl=>by obtain⟨a,b,c,rfl⟩:=ulen3 hl;rfl) fun f fd F=>ok_tRight (by decide) F GL D3 DuL DR D15
  have TR2:=TR.mono (k:=22) (by decide)
  have Ask:=f__law_asked.cal (P:=l.prog) (w:=w) (base:=base) (ps:=["_law_handed","_law_rules_here","_law_bases_here","_law_cell","_law_held"]) X G (fun _ _ _ _ _ _ us hl=>by obtain⟨a,b,c,d,e,rfl⟩:=ulen5 hl;rfl) fun f fd F=>ok_askD (by decide) F GL Ytab TR2 DR Dues DuesL
  exact ok_law Fl GL D1 D2 D6 Drules D5 RuleOf B4 Ask DR Dues DuesL
theorem walk {l:PySem.W.OpenLaw} {q:Program} {loose:List Str} {XP:(Str→Option Value)→Heap→Prop} {YP:World→Heap→Prop} {d:DefRec} {K:Params→PySem.W.Frag} (hn:l.most=some 63) (hdf:d.params.defaults=[])
    (hY:∀ (w:World) (h:Heap),YP w h→(K w.params).In h)
    (F:∀ (w:World) (mg:Str→Option Value) (fa:Addr) (h:Heap),(K w.params).In h→h.Ns mainGlobals mg→mg d.name=some (.ref fa) →
      ∃ fd:FuncData,(∀ (s:Shared) (u:Value),BindsTo s fd ⟨[u],[]⟩ [("_law_script",u)])∧∀ base:Heap,(K w.params).In base→base.Ns mainGlobals mg→FnOk l.prog w (K w.params) mg base CX0 24 fa fd ["_law_script"] (sp_lawS (K w.params))) :
    PySem.W.WalkO q loose XP YP l.row.toRowW d [] (fun f vs=>PySem.call f vs) :=
  L2.walk_of (n:=63) (k:=24) (x:="_law_script") (CX:=fun _=>CX0) (sp:=fun w=>(sp_lawS (K w.params))) hn (by decide) hdf ⟨rfl,by decide,by decide⟩ hY F (fun _ _ a ns hl _ hS=>⟨a,ns,rfl,hS,fun _=>rfl⟩) fun _ _ _ _ _ z=>z
end K13
set_option maxHeartbeats 0
namespace K13
open PySem PySem.W PySem.Calls PyProof.Rows L2
theorem hDef:(defOf hQ "law").isSome=true:=by kernel_rfl
noncomputable def hD:DefRec:=((defOf hQ "law").get hDef).1
theorem hWalk:WalkO hQ [] (XL hQ []) (FactsIn hSee hWant) (PySem.Challenge.rw_coinroll_k13_dues_of_months).row.toRowW hD [] (fun f vs=>PySem.call f vs):=by
  refine walk_ex fun K e=>?_
  have hF:hFs.map (fun x=>fnSeen K (nsIn K mainGlobals x.1))=hFs.map (fun x=>fnWant x.1 x.1 (top x.2)):=congrArg Prod.fst e
  have hM:hMs.map (fun x=>fnSeen K (findIn K (.ref x.1) x.2.1))=hMs.map (fun x=>fnWant x.2.1 x.2.2.1 (inClass (top x.2.2.2.1) x.2.2.2.2)):=congrArg (fun z=>z.2.1) e
  have hB:(hYes K).all id=true:=congrArg (fun z=>z.2.2) e
  obtain⟨t0,gc0⟩:=int_of (all_get hB 0 rfl)
  obtain⟨t1,gc1⟩:=int_of (all_get hB 1 rfl)
  obtain⟨t2,gc2⟩:=int_of (all_get hB 2 rfl)
  obtain⟨t3,gc3⟩:=int_of (all_get hB 3 rfl)
  obtain⟨t4,gc4⟩:=int_of (all_get hB 4 rfl)
  obtain⟨t5,gc5⟩:=int_of (all_get hB 5 rfl)
  obtain⟨t6,gc6⟩:=int_of (all_get hB 6 rfl)
  obtain⟨t7,gc7⟩:=int_of (all_get hB 7 rfl)
  obtain⟨u0,s0⟩:=str_of (all_get hB 8 rfl)
  obtain⟨u1,s1⟩:=str_of (all_get hB 9 rfl)
  refine walk (l:=PySem.Challenge.rw_coinroll_k13_dues_of_months) (K:=fun _=>K) rfl (by kernel_rfl) (fun w h Y=>Y) ?_
  intro w mg fa h KX G hmg
  exact law_fn KX G hmg (fnAt_seen (map_get hF 0 rfl)) (fnAt_seen (map_get hF 1 rfl)) (fnAt_seen (map_get hF 2 rfl)) (fnAt_seen (map_get hF 3 rfl)) (fnAt_seen (map_get hF 4 rfl)) (fnAt_seen (map_get hF 5 rfl)) (fnAt_seen (map_get hF 6 rfl)) (fnAt_seen (map_get hF 7 rfl)) (fnAt_seen (map_get hF 8 rfl)) (fnAt_seen (map_get hF 9 rfl)) (fnAt_seen (map_get hF 10 rfl)) (fnAt_seen (map_get hF 11 rfl)) (fnAt_seen (map_get hF 12 rfl)) (fnAt_seen (map_get hF 13 rfl)) (fnAt_seen (map_get hF 14 rfl)) (fnAt_seen (map_get hF 15 rfl)) (fnAt_seen (map_get hF 16 rfl)) (fnAt_seen (map_get hF 17 rfl)) (fnAt_seen (map_get hF 18 rfl)) (fnAt_seen (map_get hF 19 rfl)) (fnAt_seen (map_get hF 20 rfl)) (fnAt_seen (map_get hF 21 rfl)) (fnAt_seen (map_get hF 22 rfl)) (fnAt_seen (map_get hF 23 rfl)) (fnAt_seen (map_get hF 24 rfl)) (fnAt_seen (map_get hF 25 rfl)) (fnAt_seen (map_get hF 26 rfl)) (fnAt_seen (map_get hF 27 rfl)) (fnAt_seen (map_get hF 28 rfl)) (fnAt_seen (map_get hF 29 rfl)) (fnAt_seen (map_get hF 30 rfl)) (fnAt_seen (map_get hF 31 rfl)) (fnAt_seen (map_get hF 32 rfl)) (fnAt_seen (map_get hF 33 rfl)) (fnAt_seen (map_get hF 34 rfl)) (fnAt_seen (map_get hF 35 rfl)) (fnAt_seen (map_get hF 36 rfl)) (fnAt_seen (map_get hF 37 rfl)) (fnAt_seen (map_get hF 38 rfl)) (fnAt_seen (map_get hF 39 rfl)) (fnAt_seen (map_get hF 40 rfl)) (fnAt_seen (map_get hF 41 rfl)) (fnAt_seen (map_get hF 42 rfl)) (fnAt_seen (map_get hF 43 rfl)) (fnAt_seen (map_get hF 44 rfl)) (fnAt_seen (map_get hF 45 rfl)) (fnAt_seen (map_get hF 46 rfl)) (fnAt_seen (map_get hF 47 rfl)) (fnAt_seen (map_get hF 48 rfl)) (fnAt_seen (map_get hF 49 rfl)) (fnAt_seen (map_get hF 50 rfl)) (fnAt_seen (map_get hF 51 rfl)) (fnAt_seen (map_get hF 52 rfl)) (fnAt_seen (map_get hF 53 rfl)) (fnAt_seen (map_get hF 54 rfl)) (fnAt_seen (map_get hF 55 rfl)) gc0 gc1 gc2 gc3 gc4 gc5 gc6 gc7 s0 s1 (tup_seen (all_get hB 10 rfl)) (tup_seen (all_get hB 11 rfl)) (no_of (all_get hB 12 rfl)) (no_of (all_get hB 13 rfl)) (no_of (all_get hB 14 rfl)) (no_of (all_get hB 15 rfl)) (no_of (all_get hB 16 rfl)) (no_of (all_get hB 17 rfl)) (no_of (all_get hB 18 rfl)) (no_of (all_get hB 19 rfl)) (no_of (all_get hB 20 rfl)) (no_of (all_get hB 21 rfl)) (no_of (all_get hB 22 rfl)) (no_of (all_get hB 23 rfl)) (no_of (all_get hB 24 rfl)) (no_of (all_get hB 25 rfl)) (no_of (all_get hB 26 rfl)) (no_of (all_get hB 27 rfl)) (no_of (all_get hB 28 rfl)) (no_of (all_get hB 29 rfl)) (no_of (all_get hB 30 rfl)) (no_of (all_get hB 31 rfl)) (no_of (all_get hB 32 rfl)) (ref_of (all_get hB 33 rfl)) (all_get hB 34 rfl) (all_get hB 35 rfl) (all_get hB 36 rfl) (blt_of (all_get hB 37 rfl)) (mtAt_seen (map_get hM 0 rfl)) (all_get hB 38 rfl) (ref_of (all_get hB 39 rfl)) (all_get hB 40 rfl) (all_get hB 41 rfl) (all_get hB 42 rfl) (blt_of (all_get hB 43 rfl)) (no_of (all_get hB 44 rfl)) (no_of (all_get hB 45 rfl)) (no_of (all_get hB 46 rfl)) (no_of (all_get hB 47 rfl)) (no_of (all_get hB 48 rfl)) (no_of (all_get hB 49 rfl)) (nwAt_seen (map_get hM 1 rfl) (all_get hB 50 rfl)) (mtAt_seen (map_get hM 2 rfl)) (mtAt_seen (map_get hM 3 rfl)) (mtAt_seen (map_get hM 4 rfl)) (mtAt_seen (map_get hM 5 rfl)) (ref_of (all_get hB 51 rfl)) (all_get hB 52 rfl) (all_get hB 53 rfl) (all_get hB 54 rfl) (blt_of (all_get hB 55 rfl)) (no_of (all_get hB 56 rfl)) (no_of (all_get hB 57 rfl)) (no_of (all_get hB 58 rfl)) (no_of (all_get hB 59 rfl)) (no_of (all_get hB 60 rfl)) (no_of (all_get hB 61 rfl)) (nwAt_seen (map_get hM 6 rfl) (all_get hB 62 rfl)) (mtAt_seen (map_get hM 7 rfl)) (mtAt_seen (map_get hM 8 rfl)) (mtAt_seen (map_get hM 9 rfl)) (mtAt_seen (map_get hM 10 rfl)) (ref_of (all_get hB 63 rfl)) (all_get hB 64 rfl) (all_get hB 65 rfl) (all_get hB 66 rfl) (blt_of (all_get hB 67 rfl)) (no_of (all_get hB 68 rfl)) (no_of (all_get hB 69 rfl)) (no_of (all_get hB 70 rfl)) (no_of (all_get hB 71 rfl)) (no_of (all_get hB 72 rfl)) (no_of (all_get hB 73 rfl)) (nwAt_seen (map_get hM 11 rfl) (all_get hB 74 rfl)) (mtAt_seen (map_get hM 12 rfl)) (mtAt_seen (map_get hM 13 rfl)) (mtAt_seen (map_get hM 14 rfl)) (mtAt_seen (map_get hM 15 rfl)) (ref_of (all_get hB 75 rfl)) (all_get hB 76 rfl) (all_get hB 77 rfl) (all_get hB 78 rfl) (blt_of (all_get hB 79 rfl)) (no_of (all_get hB 80 rfl)) (no_of (all_get hB 81 rfl)) (no_of (all_get hB 82 rfl)) (no_of (all_get hB 83 rfl)) (no_of (all_get hB 84 rfl)) (no_of (all_get hB 85 rfl)) (nwAt_seen (map_get hM 16 rfl) (all_get hB 86 rfl)) (mtAt_seen (map_get hM 17 rfl)) (mtAt_seen (map_get hM 18 rfl)) (mtAt_seen (map_get hM 19 rfl)) (mtAt_seen (map_get hM 20 rfl)) (ref_of (all_get hB 87 rfl)) (all_get hB 88 rfl) (all_get hB 89 rfl) (all_get hB 90 rfl) (blt_of (all_get hB 91 rfl)) (no_of (all_get hB 92 rfl)) (no_of (all_get hB 93 rfl)) (no_of (all_get hB 94 rfl)) (no_of (all_get hB 95 rfl)) (no_of (all_get hB 96 rfl)) (nwAt_seen (map_get hM 21 rfl) (all_get hB 97 rfl)) (mtAt_seen (map_get hM 22 rfl)) (mtAt_seen (map_get hM 23 rfl)) (mtAt_seen (map_get hM 24 rfl)) (mtAt_seen (map_get hM 25 rfl)) (ref_of (all_get hB 98 rfl)) (all_get hB 99 rfl) (all_get hB 100 rfl) (all_get hB 101 rfl) (blt_of (all_get hB 102 rfl)) (no_of (all_get hB 103 rfl)) (no_of (all_get hB 104 rfl)) (no_of (all_get hB 105 rfl)) (no_of (all_get hB 106 rfl)) (no_of (all_get hB 107 rfl)) (nwAt_seen (map_get hM 26 rfl) (all_get hB 108 rfl)) (mtAt_seen (map_get hM 27 rfl)) (mtAt_seen (map_get hM 28 rfl)) (mtAt_seen (map_get hM 29 rfl)) (mtAt_seen (map_get hM 30 rfl)) (blt_of (all_get hB 109 rfl)) (b_of (all_get hB 110 rfl)) (all_get hB 111 rfl) (blt_of (all_get hB 112 rfl)) (b_of (all_get hB 113 rfl)) (b_of (all_get hB 114 rfl)) (blt_of (all_get hB 115 rfl)) (b_of (all_get hB 116 rfl)) (b_of (all_get hB 117 rfl)) (blt_of (all_get hB 118 rfl)) (b_of (all_get hB 119 rfl)) (b_of (all_get hB 120 rfl)) (blt_of (all_get hB 121 rfl)) (b_of (all_get hB 122 rfl)) (b_of (all_get hB 123 rfl)) (blt_of (all_get hB 124 rfl)) (b_of (all_get hB 125 rfl)) (b_of (all_get hB 126 rfl)) (blt_of (all_get hB 127 rfl)) (b_of (all_get hB 128 rfl)) (b_of (all_get hB 129 rfl))
end K13
open PySem PySem.W PyProof.Rows
set_option maxRecDepth 100000 in
set_option maxHeartbeats 0 in
theorem PySem.Challenge.cw_coinroll_k13_dues_of_months_holds : PySem.Challenge.rw_coinroll_k13_dues_of_months.Holds := by
  w_on;o_law
  refine' holds_open (q:=K13.hQ) (d:=K13.hD) (kwd:=[]) K13.hLeft ?a1 ?a2 ?a3 XL.keeps ?a4 ?a5 ?a6 ?a7 ?a8 ?a9 ?b1 ?b2 ?b3 K13.hWalk
  case a1=>exact fun w s e=>L2.facts_of w s e
  case a2=>exact L2.facts_keep
  case a3=>exact fun s e=>xl_of s (Bool.and_eq_true_iff.mp e).1
  case a4=>exact L2.def_get K13.hDef (by kernel_rfl)
  case a5=>kernel_rfl
  case a6=>kernel_rfl
  case a7=>exact fun s e=>recFacts_of (Bool.and_eq_true_iff.mp e).2
  case a8=>rfl
  case a9=>assumption
  case b1=>decide +kernel
  case b2=>exact⟨rfl,rfl,rfl,rfl,rfl,by decide +kernel⟩
  case b3=>w_witness2
#print axioms PySem.Challenge.cw_coinroll_k13_dues_of_months_holds
